import PyProof.Rows.All
import Open.Line
import KE.KIsAll
import KE.KItem
import KE.IntBitsLaws
import OpenK.KCls
import OpenK.KList
import OpenK.KWalk
import OpenK.KCall
import OpenK.KMake
import KE.KLam
import KE.KSortKey
import PyProof.ListRange
import Wide.FinOn
import Lean
import PyProof.EqAt
import PyProof.EqKinds
import PyProof.TupleCall
import PyProof.AttrMissHeap
import PyProof.Cells
import PyProof.AutoListH
import PyProof.AutoSeq1
import PyProof.SeqI3
import PyProof.Rows.SortWalk
import PyProof.DictItemsLoops
import PyProof.Rows.Range3
import PyProof.DictRoadsH
import PyProof.DictKinds
import PyProof.DictIter
import PyProof.DictWalks
import PyProof.DictValues
import PyProof.FactsAll.dict_values
import PyProof.FactsAll.dict_valueiterator
import PyProof.NeKinds
import PyProof.ExcBaseAll.ValueError
import PyProof.ZipIter
import PyProof.ListCopy
import PyProof.CollectWalk
import PyProof.SliceStr2
import PyProof.Rows.StrFirst
import PyProof.StrLawsFirst
import PyProof.StrLawsIn
import PyProof.StrBlockI
import PyProof.Rows.StrNews
import PyProof.EnumMake
import PyProof.EnumFor
import PyProof.EnumStmt
import PyProof.Rows.SetFrom
import PyProof.MinMaxWalk
import PyProof.WalkInts
import PyProof.FactsAll.tuple_1
import PyProof.FactsAll.tuple_2
import PySem.Challenge.RW_slidecut_k50_sheets_laid_over_one_anothe
open PySem renaming wpAny_bind→SB,Value→SC,Shared→SL,sizeLine→SZ,starEach→Tk,Addr→Tl,wpAny_pure→TD,mainGlobals→TW,intBits_mul_le→UF,model→UV,foldedSetIterable→Wp,Program→WF,Expr→WP,wpAny_mono→WR,behindInMarks→WT,World→WU,Around→WV,wpAny_holding→WW,wpAny_newObj_type→WX,Heap→WY,wpAny_Call_Name_kw→WZ,Stmt→W0,backTo→W1,sliceBounds→W2,wpAny_passesOwn→W3,compareOp→W4,assignEach→W5,intBits_add_le→W6,eval→W7,bootBuiltins→W8,wpAny_field→W9,Scope→W',builtinsNs→Xa,wpAny_standAt→Xb,Arguments→Xc,intBits_neg_le→Xe,FuncData→Xf,sizeLine_eq→Xg,wpAny_getItem_list_slice→Xh,importedModules→Xi,swapsWith→Xj,letOwnedTupleGo→Xk,wpAny_callSpecial?_slot→Xl,attributeBase→Xm,wpAny_nextOf_list_item→Xn,wpAny_truthy_bool→Xo,intBits_sub_le→Xp,wpAny_newFunctionEnv→Xq,ZipApart→Xr,wpAny_execs_nil→Xu,codeAny_builtin→Xv,wpAny_updateSeq→Xw,binaryOp→Xy,compEnvC→Xz,compTurn→XA,recursionLimit→XC,wpAny_comprehension_free→XD,swapsWithSole→XE,swappedStores→XF,wpAny_call_entry→XG,wpAny_pyIter_zip→XH,codeAny_compStart_list→XJ,treeTable→XK,codeAmong→XM,holding→XO,rawInt→XQ,codeAny_mono→XR,slicePick→XT,IsPair→XU,wpAny_nextOf_list_end→XV,wpAny_pyNext_zip_item→XW,builtinLookup_eq_fast→XX,bindArgs→XY,wpAny_loadName_local→XZ,intBits_le_of_natAbs→X0,wpAny_pyNext_zip_end→X1,wpAny_seqItems→X3,natAbs_fdiv_le→X4,wpAny_loadName_cell→X5,standAt→X6,cLine→X7,keywordEach→X8,Keyword→X9,isTrue→Yb,assign→Yc,assignInOrder→Yd,PassesOwn→Ye,pyNext→Yg,intBits_le_64→Yh,NameKind→Yi,evalPart_none→Yj,nums_intItems→Yl,compPost→Ym,comprehension→Yn,wpAny_attempt→Yo,plainId_quiet→Yp,Comprehension→Yq,sysModules→Yr,wpAny_rule→Ys,callerA→Yt,closureFor→Yu,sliceRange→Yv,seqIndex_neg→Yw,IsPart→Yz,seqIndex_of→YA,notedBy→YB,updateSeq→YC,Result→YE,bindName→YF,BindsTo→YG,getItem→YH,backToKw→YI,Builtin→YJ,truthy→YL
open PySem.Builtin.Int renaming intBits→TE
open PyProof.Rows renaming assignInOrder_cons→Xx,seqObj→XB,subscriptTail_builtinR→XI,AllBare→XN,IntsAre→XS,envOfC→X2,subscriptTail→Yk
open PySem.W renaming openEnds→X',openSeen→Yx,openGood→Yy,Frag→YD,kla_obj→YK
abbrev TI:=@if_pos
abbrev TT:=@if_neg
abbrev Uf:=@congrArg
abbrev WS:=@decide_eq_false
abbrev Xd:=@decide_eq_true
open Or renaming inl->Ss,inr->SF
open PySem.W renaming Frag->Su,mg_none_of->Td,kia_one->Tx,fnOf->Uj,keepIn->US,instObj->Vi,methodObj->Vj,lookIn->Vm,kitOne->Vn,codeIn->Vq,plainGet->V1,findIn->V2,kitx_list->V3,kitx_dict->V4,cellsFrom_some->V5
open List renaming mem_cons_self->Sv,mem_cons_of_mem->Sw,mem_cons->Sy,length_map->Sz,length_append->SE,append_nil->SG,mem_append->SI,mem_map->SJ,Nodup->SK,mem_append_right->SN,length_cons->SO,replicate->SQ,append_assoc->SR,size_toArray->SS,map_cons->SV,map_map->SY,forall_mem_nil->S3,getElem?_map->S7,getElem?_eq_getElem->S8,map_append->S9,mem_singleton->S',forall_mem_cons->Tb,range->Te,mem_append_left->Tf,length->Th,not_mem_nil->Tj,sum_cons->To,getElem?_append_right->Ts,mem_of_getElem?->Tt,mem_filter->Tw,nil_append->Tz,length_replicate->TB,getElem?_eq_none->TF,filter_cons->TG,mem_filterMap->TH,length_take->TJ,getElem?_append_left->TK,length_drop->TL,length_singleton->TM,length_zip->TR,flatMap_cons->TV,getElem?_replicate->T4,length_filter_le->T',mem_range->Ug,getElem?_set_ne->Uh,all_eq_true->Ul,map_congr_left->Uo,singleton_sublist->Uq,cons_append->Ur,mem_flatMap->Uv,isEmpty_map->Uw,getElem?_eq_some_iff->Uy,nodup_cons->UA,length_set->UB,take_of_length_le->UC,getElem?_of_mem->UG,drop_eq_getElem_cons->UH,drop_length->UI,map_drop->UJ,length_nil->UK,exists_mem_of_ne_nil->UM,filter_append->UN,getElem?_set_self->UQ,map_nil->UT,reverse_cons->UU,ext_getElem?->U0,map_eq_nil_iff->U',pairwise_map->Va,sum_append->Vg,filterMap_cons->Vl,of_mem_zip->Vo,getElem?_range->VB,map_take->VC,range'->VE,range_succ->VJ,take_add_one->VK,lookup_cons->VL,dropLast_concat_getLast->VO,zip_cons_cons->VS,zip_map->VX,append_cancel_left->VZ,filterMap_map->V6,getElem?_eq_none_iff->Wf,eq_nil_of_length_eq_zero->Wg,range_eq_range'->Wh,getElem?_zip_eq_some->Wl,length_eq_zero_iff->Wm,filterMap_append->Wn,filterMap_cons_none->Wo,filterMap_cons_some->Wq,length_pos_iff->Wt,length_pos_of_mem->Wu,append_of_mem->Wv,filter_eq_nil_iff->Ww,pairwise_cons->Wz,dropWhile_cons->WA,takeWhile_append_dropWhile->WB,min?_eq_some_iff->WE,max?_eq_some_iff->WG,map_flatMap->WH,mem_of_mem_take->WL,takeWhile_append_of_pos->WM,dropWhile_append_of_pos->WN,flatMap_append->WO
open Int renaming gcd->Sx,mul_pos->SH,mul_zero->SW,mul_comm->SX,le_of_lt->S0,ne_of_gt->S1,mul_neg_of_pos_of_neg->S2,mul_nonneg->Ta,dvd_trans->Tg,mul_eq_zero->Tr,natAbs_mul->TC,natAbs_dvd_natAbs->TN,eq_of_mul_eq_mul_right->TQ,lt_or_eq_of_le->TS,zero_mul->T7,lt_trichotomy->T8,neg_mul_neg->T9,emod_nonneg->Uc,emod_lt_of_pos->Ud,pos_of_mul_pos_right->UD,mul_assoc->UE,dvd_mul_left->UP,gcd_comm->UW,mul_fdiv_cancel_left->UX,gcd_dvd_right->U3,dvd_mul_of_dvd_right->U6,mul_pos_of_neg_of_neg->U7,mul_le_mul->Ve,not_lt->Vf,ediv_one->Vr,gcd_pos_of_ne_zero_right->Vu,ofNat_dvd_left->Vv,neg_mul->Vx,mul_ne_zero->VF,toNat_natCast->VG,gcd_dvd_left->VM,dvd_coe_gcd->VN,le_of_dvd->VR,dvd_mul_right->VU,mul_fdiv_add_fmod->VV,mul_le_mul_of_nonneg_right->VW,eq_ofNat_of_zero_le->V',eq_of_mul_eq_mul_left->Wi,gcd_pos_of_ne_zero_left->Wr,fmod_nonneg_of_pos->WI,fmod_lt_of_pos->WJ
open Nat renaming le_trans->SA,le_refl->SD,ne_of_lt->S4,lt_of_lt_of_le->S5,lt_irrefl->S6,gcd->Tc,zero_le->Ti,ne_of_gt->TA,mod_eq_of_lt->T6,le_add_right->Un,le_of_lt->Ux,mod_lt->UL,dvd_gcd->UY,gcd_mul_right->UZ,zero_add->U2,lt_succ_of_lt->U5,gcd_comm->Vt,le_of_ble_eq_true->VA,lt_of_lt_of_eq->VI,le_succ->VP,eq_zero_or_pos->V0,gcd_dvd_right->Wa,eq_of_mul_eq_mul_left->Wb,add_mod_right->Ws,pow_le_pow_right->WK
open Option.some renaming inj->SM,injEq->Vc
open Bool renaming false_ne_true->SP,and_eq_true->Tu,eq_iff_iff->VD,false_eq_true->VH,beq_eq_decide_eq->V9,and_eq_true_iff->WQ
open Rat renaming intCast_mul->SU,intCast_add->TP,le_of_lt->Ua,add_zero->Ub,mul_le_mul_of_nonneg_right->Us,intCast_eq_zero_iff->U9,zero_add->Vd,mul_nonneg->VQ,le_trans->VY
open Classical renaming byContradiction->Tn,propDecidable->Uk
open Ne renaming symm->Tp
open False renaming elim->Tq
open PySem renaming Env->Tv,mem_of_lookup->TZ,sizeLine_eq->Vh,natAbs_fdiv_le->Vw,compStart->WD
open List.cons renaming inj->TO,injEq->UO
open Prod renaming snd->TU,ext->Ue
open Sum renaming inl->TX,inr->TY
open Option renaming map_some->T5,map_eq_some_iff->Ut,isSome_iff_exists->Vp,getD_none->V7
open PyProof.Rows renaming callWith_type1->Ui,slot_tuple_getitem->Vs,envOfC->Vz
open ForInStep renaming yield->Um
open List.Sublist renaming append->Up,refl->U8
open Prod.mk renaming injEq->Uu
open True renaming intro->Uz
open Array renaming length_toList->UR,getElem?_eq_getElem->U4,isEmpty_iff->Vb,getElem?_eq_none->Vk,getElem?_toList->V8,forIn_toList->Wj,size_push->Wk,toList_append->Wx
open PySem.F renaming plainAttrs_list->U1,slot_list_append->Wc,type_list_append->We,plain_list_iadd->Wy
open PySem.Builtin.Int renaming intBits->Vy
open List.Perm renaming trans->VT,append_right->WC
set_option Elab.async false
set_option linter.all false
namespace L3
open PySem PySem.W
def i8(h:WY)(name:Str):Option (Option SC):=match h.get? TW with
 | some ⟨_,_,.dict es _,_⟩=>(match es.toList.find? (·.key.isStr name)with
   | some e=>some (some e.val)
   | none=>if es.toList.any (·.refKey)then none else some none)
 | _=>none
def tU(h:WY)(dO:SC)(q:Str):Bool:=match dO with
 | .ref c=>(match h.get? c with
   | some ⟨_,_,.fields vs,_⟩=>(match vs.toList with|_::.str n _::_=>n==q|_=>false)
   | _=>false)
 | _=>false
def tV(h:WY)(x:Str):Option (Str×Str×Xc×FuncBody×W'×Tl×List (Str×Tl)×SC×Tl×Bool):=match i8 h x with
 | some (some (.ref f))=>(match h.get? f with
  | some ⟨_,_,.func fd,_⟩=>some (fd.name,fd.qualname,fd.params,fd.body,fd.scope,fd.globals,fd.closure,fd.defaults,fd.builtins,tU h fd.code x)
  | _=>none)
 | _=>none
def tW(x:Str)(st:W0):Option (Str×Str×Xc×FuncBody×W'×Tl×List (Str×Tl)×SC×Tl×Bool):=match st with
 | .FunctionDef _ a b _ _ _ sc _ _ _=>some (x,x,a,.stmts b,sc,TW,[],.none,Xa,true)
 | _=>some (x,x,⟨[],[],none,[],[],none,[]⟩,.stmts [],{ kind:=.function,names:=[],isGenerator:=false,isCoroutine:=false },TW,[],.none,Xa,true)
def tX(h:WY)(x:Str):Option (Str×Int×Int):=match i8 h x with
 | some (some (.ref p))=>(match h.get? p with
  | some ⟨.type "tuple",_,.seq its _,_⟩=>(match its.toList with|[.int i _,.int j _]=>some (x,i,j)|_=>none)
  | _=>none)
 | _=>none
def tY(h:WY)(x:Str):Option (Str×(Int ⊕ Str)):=match i8 h x with
 | some (some (.int i _))=>some (x,.inl i)
 | some (some (.str s _))=>some (x,.inr s)
 | _=>none
abbrev dd(x:Str)(s:W0):Str×W0:=(x,s)
structure jA where
 fs:List (Str×W0)
 bs:List Str
 ts:List (Str×Int×Int)
 cs:List (Str×(Int ⊕ Str))
abbrev Seen:Type:=List (Option (Str×Str×Xc×FuncBody×W'×Tl×List (Str×Tl)×SC×Tl×Bool))×List (Option (Option SC))×List (Option (Str×Int×Int))×List (Option (Str×(Int ⊕ Str)))
def tZ(t:jA)(s:SL):Seen:=(t.fs.map fun p=>tV s.heap p.1,t.bs.map fun b=>i8 s.heap b,t.ts.map fun p=>tX s.heap p.1,t.cs.map fun p=>tY s.heap p.1)
def t0(t:jA)(_:WU):Seen:=(t.fs.map fun p=>tW p.1 p.2,t.bs.map fun _=>some none,t.ts.map fun p=>some p,t.cs.map fun p=>some p)
theorem map_two{α β γ:Type}{E:Option α}{F:α->β×γ}{a:β×γ}(aa:E.map (fun s=>(F s).1)=some a.1)(ab:E.map (fun s=>(F s).2)=some a.2):E.map F=some a:=by
 cases E with
 | none=>cases aa
 | some x =>
  have ag:=SM aa;have ao:=SM ab;exact Uf some (Ue ag ao)
theorem Gs{p q:WF}{loose:List Str}{Xt:SL->Bool}{α:Type}{Yf:SL->α}{Ya:WU->α}{N:Nat}(aa:∀w:WU,(X' XK p w N).map (fun s=>(Yx q loose (Xi p.main.body) Xt true s).1)=some (Yy q loose).1)(ab:∀w:WU,(X' XK p w N).map (fun s=>(Yx q loose (Xi p.main.body) Xt true s).2)=some (Yy q loose).2)(aQ:∀w:WU,(X' XK p w N).map Yf=some (Ya w)):LeftO p q loose Xt Yf Ya N :=
 fun w=>map_two (F:=fun s=>(Yx q loose (Xi p.main.body) Xt true s,Yf s)) (a:=(Yy q loose,Ya w)) (map_two (aa w) (ab w)) (aQ w)
def i9(h:WY)(x:Str):Option Tl:=match i8 h x with
 | some (some (.ref f))=>(match h.get? f with
  | some ⟨_,_,.func fd,_⟩=>(match fd.code with
   | .ref c=>(match h.get? c with
    | some ⟨.type "code",_,.fields vs,_⟩=>(match (vs[11]?:Option SC),vs.getD 18 .none,vs.getD 7 .none,vs.getD 9 .none,vs.getD 10 .none with
     | some (.ref P),.str _ _,.int _ _,.bool _,.int _ _=>if c=P then none else some P
     | _,_,_,_,_=>none)
    | _=>none)
   | _=>none)
  | _=>none)
 | _=>none
def isTab(o:Obj):Bool:=match o.data with
 | .fields vs=>vs.isEmpty&&o.slots.isEmpty&&(match o.cls,o.dict with|.none,none=>true|_,_=>false)
 | _=>false
def q7(h:WY):Option Tl:=match i8 h "__builtins__" with
 | some (some (.ref eh))=>(match h.get? eh with
  | some ⟨.type "module",some d,.plain,_⟩=>if d=Xa then some eh else none
  | _=>none)
 | _=>none
def zf(h:WY)(cR:List Str)(eh:Tl)(x:Str):Bool:=(match i9 h x with
 | some P=>P != TW&&P != eh&&(match h.get? P with|some o=>isTab o|none=>false)
 | none=>false)&&(cR.find? fun y=>i9 h y==i9 h x)==some x
def t1(h:WY)(cR:List Str):Bool:=match q7 h with
 | some eh=>eh != Xa&&eh != TW&&cR.all (zf h cR eh)
 | none=>false
def pb(t:jA)(cR:List Str)(s:SL):Seen×Bool:=(tZ t s,t1 s.heap cR)
def pc(t:jA)(w:WU):Seen×Bool:=(t0 t w,true)
end L3
namespace Cut
open PySem L3
def de(i:Nat):W0:=PySem.Challenge.pw_slidecut_k50_sheets_laid_over_one_anothe.main.body.getD i (.Pass ⟨0,0,0,0⟩)
abbrev t2:W0:=de 4
abbrev t3:W0:=de 6
abbrev t4:W0:=de 7
abbrev t5:W0:=de 8
abbrev t6:W0:=de 9
abbrev t7:W0:=de 10
abbrev t8:W0:=de 11
abbrev t9:W0:=de 12
abbrev ua:W0:=de 14
abbrev ub:W0:=de 16
abbrev uc:W0:=de 17
abbrev ud:W0:=de 18
abbrev ue:W0:=de 19
abbrev uf:W0:=de 21
abbrev ug:W0:=de 22
abbrev uh:W0:=de 23
abbrev ui:W0:=de 24
abbrev uj:W0:=de 25
abbrev uk:W0:=de 26
abbrev ul:W0:=de 27
abbrev um:W0:=de 28
abbrev uo:W0:=de 29
abbrev up:W0:=de 31
abbrev uq:W0:=de 32
abbrev ur:W0:=de 33
abbrev us:W0:=de 34
abbrev ut:W0:=de 35
abbrev uu:W0:=de 36
abbrev uv:W0:=de 37
abbrev uw:W0:=de 38
abbrev ux:W0:=de 39
abbrev uy:W0:=de 40
abbrev uz:W0:=de 41
abbrev uA:W0:=de 42
abbrev uB:W0:=de 43
abbrev uC:W0:=de 44
abbrev uD:W0:=de 45
abbrev uE:W0:=de 46
abbrev uF:W0:=de 48
abbrev uG:W0:=de 49
abbrev uH:W0:=de 50
abbrev uI:W0:=de 51
abbrev uJ:W0:=de 52
abbrev uK:W0:=de 53
abbrev uL:W0:=de 54
abbrev uM:W0:=de 55
def tabs:jA:=⟨[dd "greatest_divisor" t2,dd "point" t3,dd "slid" t4,dd "step_to" t5,dd "turned" t6,dd "crossed" t7,dd "hand_of" t8,dd "meet" t9,dd "sides_of" ua,dd "fresh" ub,dd "first_ring" uc,dd "cut_ring" ud,dd "cut_sheet" ue,dd "common" uf,dd "moves_of" ug,dd "scale_of" uh,dd "reach_of" ui,dd "is_crowded" uj,dd "seen_aside" uk,dd "met" ul,dd "facing" um,dd "laid_over" uo,dd "_law_cell" up,dd "_law_bag" uq,dd "_law_digit" ur,dd "_law_point" us,dd "_law_slid" ut,dd "_law_turned" uu,dd "_law_side" uv,dd "_law_is_point" uw,dd "_law_is_convex" ux,dd "_law_within" uy,dd "_law_twice_area" uz,dd "_law_added" uA,dd "_law_place" uB,dd "_law_step" uC,dd "_law_three" uD,dd "_law_bulging" uE,dd "_law_mixed" uF,dd "_law_cut_up" uG,dd "_law_told" uH,dd "_law_first" uI,dd "_law_led" uJ,dd "_law_is_move" uK,dd "_law_found" uL,dd "law" uM],["len","abs","int","bool","tuple","isinstance","range","all","sum","list","ValueError","zip","str","enumerate","set","max","min","sorted","dict"],[],[]⟩
def lams:List Str:=["met"]
open PySem.W in
set_option maxRecDepth 100000 in
set_option maxHeartbeats 0 in
theorem said:(PySem.Challenge.rw_slidecut_k50_sheets_laid_over_one_anothe).wellSaid=true:=by kernel_rfl
open PySem.W in
set_option maxRecDepth 100000 in
set_option maxHeartbeats 0 in
theorem Gu:∀w:WU,(X' XK (PySem.Challenge.rw_slidecut_k50_sheets_laid_over_one_anothe).row.prog w 20000).map (fun s=>(Yx PySem.Challenge.pw_slidecut_k50_sheets_laid_over_one_anothe [] (Xi (PySem.Challenge.rw_slidecut_k50_sheets_laid_over_one_anothe).row.prog.main.body) (fun s=>xlAt PySem.Challenge.pw_slidecut_k50_sheets_laid_over_one_anothe [] s&&recOk (RowW.records (OpenRow.toRowW (PySem.Challenge.rw_slidecut_k50_sheets_laid_over_one_anothe).row)) s) true s).1)=some (Yy PySem.Challenge.pw_slidecut_k50_sheets_laid_over_one_anothe []).1:=fun w=>by kernel_rfl
open PySem.W in
set_option maxRecDepth 100000 in
set_option maxHeartbeats 0 in
theorem Gv:∀w:WU,(X' XK (PySem.Challenge.rw_slidecut_k50_sheets_laid_over_one_anothe).row.prog w 20000).map (fun s=>(Yx PySem.Challenge.pw_slidecut_k50_sheets_laid_over_one_anothe [] (Xi (PySem.Challenge.rw_slidecut_k50_sheets_laid_over_one_anothe).row.prog.main.body) (fun s=>xlAt PySem.Challenge.pw_slidecut_k50_sheets_laid_over_one_anothe [] s&&recOk (RowW.records (OpenRow.toRowW (PySem.Challenge.rw_slidecut_k50_sheets_laid_over_one_anothe).row)) s) true s).2)=some (Yy PySem.Challenge.pw_slidecut_k50_sheets_laid_over_one_anothe []).2:=fun w=>by kernel_rfl
open PySem.W in
set_option maxRecDepth 100000 in
set_option maxHeartbeats 0 in
theorem Gw:∀w:WU,(X' XK (PySem.Challenge.rw_slidecut_k50_sheets_laid_over_one_anothe).row.prog w 20000).map (pb tabs lams)=some (pc tabs w):=fun w=>by kernel_rfl
open PySem.W in
set_option maxRecDepth 100000 in
set_option maxHeartbeats 0 in
theorem left:LeftO (PySem.Challenge.rw_slidecut_k50_sheets_laid_over_one_anothe).row.prog PySem.Challenge.pw_slidecut_k50_sheets_laid_over_one_anothe [] (fun s=>xlAt PySem.Challenge.pw_slidecut_k50_sheets_laid_over_one_anothe [] s&&recOk (RowW.records (OpenRow.toRowW (PySem.Challenge.rw_slidecut_k50_sheets_laid_over_one_anothe).row)) s) (pb tabs lams) (pc tabs) 20000:=Gs (p:=(PySem.Challenge.rw_slidecut_k50_sheets_laid_over_one_anothe).row.prog) (q:=PySem.Challenge.pw_slidecut_k50_sheets_laid_over_one_anothe) (loose:=[]) (Xt:=(fun s=>xlAt PySem.Challenge.pw_slidecut_k50_sheets_laid_over_one_anothe [] s&&recOk (RowW.records (OpenRow.toRowW (PySem.Challenge.rw_slidecut_k50_sheets_laid_over_one_anothe).row)) s)) (Yf:=pb tabs lams) (Ya:=pc tabs) (N:=20000) Gu Gv Gw
end Cut
set_option Elab.async false
set_option linter.all false
set_option maxRecDepth 100000
namespace L2
open PySem PySem.Spec PyProof.Rows
abbrev gF:=Sum Int Str
def zg:gF->SC->Bool
 | .inl k,v=>Value.isInt k v
 | .inr x,v=>Value.isStrOf x v
def Gx(w:WU):gF->Int
 | .inl k=>hashInt k
 | .inr x=>hashStr w x
theorem kR:∀{k:gF}{v:SC},zg k v=true->(∃i t,k=TX i/\v=Value.int i t)∨(∃x t,k=TY x/\v=Value.str x t)
 | .inl i,v,h=>by
  obtain⟨t,e⟩:=Value.isInt_shape (k:=i) (v:=v) h;exact .inl ⟨i,t,rfl,e⟩
 | .inr x,v,h=>by
  obtain⟨t,e⟩:=Value.isStrOf_shape (x:=x) (v:=v) h;exact .inr ⟨x,t,rfl,e⟩
theorem Gy(a b:Int):decide ((TX a:gF)=TX b)=(a==b):=by
 by_cases e:a=b
 ·subst e;simp
 ·have h:¬(TX a:gF)=TX b:=fun q=>e (Sum.inl.inj q);rw[WS h];exact(beq_eq_false_iff_ne.mpr e).symm
theorem Gz(a b:Str):decide ((TY a:gF)=TY b)=decide (a=b):=by
 by_cases e:a=b
 ·subst e;simp
 ·have h:¬(TY a:gF)=TY b:=fun q=>e (Sum.inr.inj q);rw[WS h,WS e]
theorem GA(a:Int)(b:Str):decide ((TX a:gF)=TY b)=false:=WS (fun q=>nomatch q)
theorem GB(a:Str)(b:Int):decide ((TY a:gF)=TX b)=false:=WS (fun q=>nomatch q)
def uN(prog:WF)(w:WU):PySem.KeyKind prog w gF where
 is:=zg
 hash:=Gx w
 inj:=fun v a b ax ae=>by
  rcases kR ax with⟨i,t,rfl,rfl⟩|⟨x,t,rfl,rfl⟩
  ·rcases kR ae with⟨j,u,rfl,e⟩|⟨y,u,rfl,e⟩
   ·injection e with ag _;rw[ag]
   ·exact nomatch e
  ·rcases kR ae with⟨j,u,rfl,e⟩|⟨y,u,rfl,e⟩
   ·exact nomatch e
   ·injection e with ag _;rw[ag]
 byValue:=fun k v h=>by
  rcases kR h with⟨i,t,rfl,rfl⟩|⟨x,t,rfl,rfl⟩<;>rfl
 pyHash:=fun a' h=>by
  rcases kR a' with⟨i,t,rfl,rfl⟩|⟨x,t,rfl,rfl⟩
  ·exact wpAny_pyHash_int h
  ·exact wpAny_pyHash_str h
 eqBool:=fun bM a' h=>by
  rcases kR bM with⟨i,t,rfl,rfl⟩|⟨x,t,rfl,rfl⟩
  ·rcases kR a' with⟨j,u,rfl,rfl⟩|⟨y,u,rfl,rfl⟩
   ·rw[Gy]at h;exact wpAny_eqBool_int h
   ·rw[GA]at h;exact SeqAt.EqAt.int_str i t y u _ _ _ _ h
  ·rcases kR a' with⟨j,u,rfl,rfl⟩|⟨y,u,rfl,rfl⟩
   ·rw[GB]at h;exact SeqAt.EqAt.str_int x t j u _ _ _ _ h
   ·rw[Gz]at h;exact wpAny_eqBool_str h
 «strs»:=fun k x t v h=>by
  rcases kR h with⟨i,u,rfl,e⟩|⟨y,u,rfl,e⟩
  ·exact nomatch e
  ·injection e with ag _
   subst ag
   cases v<;>rfl
inductive V where
 | non|bl (b:Bool)|int (i:Int)|str (x:Str)|byt (b:Array UInt8)|flt (b:UInt64)|ref (a:Tl)|ty (n:String)
 deriving DecidableEq
def RelV:V->SC->Prop
 | .non,u=>u=Value.none
 | .bl b,u=>u=Value.bool b
 | .int i,u=>∃t,u=Value.int i t
 | .str x,u=>∃t,u=Value.str x t
 | .byt b,u=>∃t,u=Value.bytes b t
 | .flt b,u=>∃t,u=Value.float b t
 | .ref a,u=>u=Value.ref a
 | .ty n,u=>u=Value.type n
abbrev bV:List V->List SC->Prop:=Paired RelV
theorem bV.length{xs:List V}{aG:List SC}(r:bV xs aG):xs.length=aG.length:=Paired.length r
theorem bV.get:∀{xs:List V}{aG:List SC}{i:Nat}{x:V},bV xs aG->xs[i]?=some x->∃u,aG[i]?=some u/\RelV x u
 | _,_,_,_,.nil,e=>by simp at e
 | _,_,0,_,.cons r _,e=>by simp at e;subst e;exact⟨_,rfl,r⟩
 | _,_,i+1,x,.cons _ t,e=>by
  obtain⟨u,aa,ab⟩:=bV.get (i:=i) (x:=x) t (by simpa using e);exact⟨u,by simpa using aa,ab⟩
theorem bV.set{x:V}{u:SC}(r:RelV x u):∀{xs:List V}{aG:List SC}(i:Nat),bV xs aG->bV (xs.set i x) (aG.set i u)
 | _,_,_,.nil=>.nil
 | _,_,0,.cons _ t=>.cons r t
 | _,_,i+1,.cons q t=>.cons q (bV.set r i t)
theorem bV.append:∀{xs ys:List V}{aG b7:List SC},bV xs aG->bV ys b7->bV (xs++ys) (aG++b7)
 | _,_,_,_,.nil,s=>s
 | _,_,_,_,.cons r t,s=>.cons r (bV.append t s)
theorem bV.take:∀{xs:List V}{aG:List SC}(n:Nat),bV xs aG->bV (xs.take n) (aG.take n)
 | _,_,0,_=>.nil
 | _,_,_+1,.nil=>.nil
 | _,_,n+1,.cons r t=>.cons r (bV.take n t)
theorem bV.drop:∀{xs:List V}{aG:List SC}(n:Nat),bV xs aG->bV (xs.drop n) (aG.drop n)
 | _,_,0,r=>r
 | _,_,_+1,.nil=>.nil
 | _,_,n+1,.cons _ t=>bV.drop n t
def uO:Option V->Option SC->Prop
 | some v,some u=>RelV v u
 | none,none=>True
 | _,_=>False
def uP{κ:Type}:List (κ×V)->List (κ×SC)->Prop:=Paired fun(p:κ×V)(q:κ×SC)=>p.1=q.1/\RelV p.2 q.2
def kV:gF->V
 | .inl i=>.int i
 | .inr x=>.str x
inductive d7 where
 | lst (xs:List V)
 | tup (xs:List V)
 | dK (kvs:List (gF×V))|dT (kvs:List (List gF×V))
 | set (S:Int->Bool) (n:Nat)
 | ins (C ew:Tl) (fs:List (Str×V))
 | own (x:Tl)
 | xd (fs:List (Str×V))
 | met (f x:Tl)
 | rng (lo aC:Int)
 | frz (o:Obj) (u:d7)
 | tbl (ps:Array SC)
 | ext (φ:WY->Prop)
abbrev ai:=Tl->Option d7
def upd(H:ai)(a:Tl)(o:d7):ai:=fun b=>if b=a then some o else H b
theorem ei{H:ai}{a:Tl}{o:d7}:upd H a o a=some o:=by unfold upd;rw[TI rfl]
theorem b1{H:ai}{a b:Tl}{o:d7}(h:b≠a):upd H a o b=H b:=by unfold upd;rw[TT h]
theorem fU{H:ai}{a b:Tl}{o:d7}(h:H a=some o)(h':H b=none):a≠b:=by
 intro e;subst e;rw[h]at h';cases h'
def GC(H:ai)(h:WY)(a:Tl)(ps:Array SC):Prop:=∃bj:Array SC,h.get? a=some { cls:=.none,data:=.fields bj }/\TriplesOk bj.toList /\
 ∀pos hL,XM pos bj.toList=some hL->∃c oc u vs q t t',hL=.ref c/\H c=some (.frz oc u)/\oc.data=.fields vs/\vs[1]?=some (.str q t)/\ps[0]?=some (.str q t')
def uQ(K:Su):List (Tl×Str):=K.filterMap fun p=>match p with
 | (b,⟨.none,_,.fields vs,_⟩)=>(match vs.toList with|[.ref P,.str q _]=>if b=TW then some (P,q)else none|_=>none)
 | _=>none
def lN(K:Su)(H:ai):Prop:=∀p∈uQ K,∃ps t,H p.1=some (.tbl ps)/\ps[0]?=some (.str p.2 t)
section
variable(P:WF)(w:WU)
def fV(H:ai)(h:WY)(a:Tl):d7->Prop
 | .lst xs=>xs.length<=SZ/\∃(its:List SC)(n:Nat),bV xs its/\h.get? a=some { cls:=.type "list",data:=.seq its.toArray n }
 | .tup xs=>xs.length<=SZ/\∃its:List SC,bV xs its/\IsTup h a its.toArray
 | .dK kvs=>kvs.length<=SZ/\(a==Yr)=false/\∃vs,uP kvs vs/\h.DictOf (uN P w) a vs
 | .dT kvs=>kvs.length<=SZ/\(a==Yr)=false/\∃xs:List (List gF×Tl×SC),
   Paired (fun(p:List gF×V)(q:List gF×Tl×SC)=>p.1=q.1/\H q.2.1=some (.tup (p.1.map kV))/\RelV p.2 q.2.2) kvs xs /\
   ∃o es c3,h.get? a=some o/\o.ExactDict/\o.data=.dict es c3/\es.toList=xs.map (entryOfKey (tupleKind (uN P w)))/\(xs.map (·.1)).Nodup
 | .set S n=>h.SetOf (intKind P w) a S n
 | .ins C ew fs=>H ew=some (.own a)/\fs.length<=1000/\ew≠a/\h.get? a=some (Vi C ew) /\
   ∃e1,h.Ns1 ew e1/\(∀f,uO (fs.lookup f) (e1 f))/\PySem.Within e1 (fs.map (·.1))
 | .own _=>∃o,h.get? a=some o
 | .xd fs=>∃e1,h.Ns1 a e1/\∀f,uO (fs.lookup f) (e1 f)
 | .rng lo aC=>∃t u v,h.get? a=some { cls:=.type "range",data:=.fields #[.int lo t,.int aC u,.int 1 v] }
 | .frz o u=>h.get? a=some o/\fV H h a u
 | .tbl ps=>GC H h a ps
 | .met f x=>h.get? a=some (Vj (.ref f) (.ref x))
 | .ext φ=>φ h/\(∃o,h.get? a=some o)/\∀aa ab:WY,φ aa->(∀o,aa.get? a=some o->ab.get? a=some o)->φ ab
def eH(H:ai)(h:WY):Prop:=∀a o,H a=some o->fV P w H h a o
end
section
variable{P:WF}{w:WU}{H af:ai}{h h':WY}{a:Tl}{o:d7}
theorem fV.lt(x:fV P w H h a o):a<h.objs.size:=by
 cases o with
 | lst xs=>obtain⟨_,_,_,_,e⟩:=x;exact Heap.lt_size e
 | tup xs=>obtain⟨_,_,_,p⟩:=x;exact p.lt
 | dK kvs=>obtain⟨_,_,_,_,o,_,_,e,_⟩:=x;exact Heap.lt_size e
 | dT kvs=>obtain⟨_,_,_,_,o,_,_,e,_⟩:=x;exact Heap.lt_size e
 | set S n=>obtain⟨o,_,_,_,e,_⟩:=x;exact Heap.lt_size e
 | ins C ew fs=>obtain⟨_,_,_,e,_⟩:=x;exact Heap.lt_size e
 | own y=>obtain⟨_,e⟩:=x;exact Heap.lt_size e
 | xd fs=>obtain⟨_,⟨_,_,_,e,_⟩,_⟩:=x;exact Heap.lt_size e
 | rng lo aC=>obtain⟨_,_,_,e⟩:=x;exact Heap.lt_size e
 | frz cf u=>obtain⟨e,_⟩:=x;exact Heap.lt_size e
 | tbl ps=>obtain⟨_,e,_⟩:=x;exact Heap.lt_size e
 | met f y=>exact Heap.lt_size (show h.get? a=some _ from x)
 | ext φ=>obtain⟨_,⟨_,e⟩,_⟩:=x;exact Heap.lt_size e
theorem Paired.mapP{α β:Type}{F G:α->β->Prop}:∀{l₁:List α}{l₂:List β},Paired F l₁ l₂->(∀a b,F a b->G a b)->Paired G l₁ l₂
 | _,_,.nil,_=>.nil
 | _,_,.cons r t,f=>.cons (f _ _ r) (Paired.mapP t f)
theorem fV.stay(x:fV P w H h a o)(k:∀b u,(b=a∨H b=some (.own a))->h.get? b=some u->h'.get? b=some u)(aA:∀b,H b=some (.own a)->af b=some (.own a))(aR:∀b xs,H b=some (.tup xs)->af b=some (.tup xs))(bG:∀b cf u,H b=some (.frz cf u)->af b=some (.frz cf u)):fV P w af h' a o:=by
 induction o with
 | lst xs=>obtain⟨z,its,n,r,e⟩:=x;exact⟨z,its,n,r,k _ _ (.inl rfl) e⟩
 | tup xs=>obtain⟨z,its,r,cf,e,c⟩:=x;exact⟨z,its,r,cf,k _ _ (.inl rfl) e,c⟩
 | dK kvs=>obtain⟨z,y,vs,r,cf,es,c3,e,c⟩:=x;exact⟨z,y,vs,r,cf,es,c3,k _ _ (.inl rfl) e,c⟩
 | dT kvs =>
  obtain⟨z,y,xs,r,cf,es,c3,e,c⟩:=x;exact⟨z,y,xs,Paired.mapP r fun p q z=>⟨z.1,aR _ _ z.2.1,z.2.2⟩,cf,es,c3,k _ _ (.inl rfl) e,c⟩
 | set S n=>obtain⟨cf,es,c3,t,e,c⟩:=x;exact⟨cf,es,c3,t,k _ _ (.inl rfl) e,c⟩
 | ins C ew fs =>
  obtain⟨d,z,ne,e,e1,⟨od,es,c3,ao,c⟩,r⟩:=x;exact⟨aA _ d,z,ne,k _ _ (.inl rfl) e,e1,⟨od,es,c3,k _ _ (.inr d) ao,c⟩,r⟩
 | own y=>obtain⟨cf,e⟩:=x;exact⟨cf,k _ _ (.inl rfl) e⟩
 | xd fs=>obtain⟨e1,⟨od,es,c3,e,c⟩,r⟩:=x;exact⟨e1,⟨od,es,c3,k _ _ (.inl rfl) e,c⟩,r⟩
 | rng lo aC=>obtain⟨t,u,v,e⟩:=x;exact⟨t,u,v,k _ _ (.inl rfl) e⟩
 | frz cf u bR=>obtain⟨e,q⟩:=x;exact⟨k _ _ (.inl rfl) e,bR q⟩
 | tbl ps =>
  obtain⟨bj,e,kb,g⟩:=x;refine⟨bj,k _ _ (.inl rfl) e,kb,fun pos hL hc=>?_⟩;obtain⟨c,oc,u,vs,q,t,t',ag,ao,be⟩:=g pos hL hc;exact⟨c,oc,u,vs,q,t,t',ag,bG _ _ _ ao,be⟩
 | met f y =>
  have e:h.get? a=some (Vj (.ref f) (.ref y)):=x;show h'.get? a=some (Vj (.ref f) (.ref y))
  exact k a _ (.inl rfl) e
 | ext φ=>obtain⟨p,⟨o,e⟩,st⟩:=x;exact⟨st _ _ p fun o q=>k _ _ (.inl rfl) q,⟨o,k _ _ (.inl rfl) e⟩,st⟩
theorem eH.lt(x:eH P w H h)(e:H a=some o):a<h.objs.size:=(x a o e).lt
theorem eH.fresh(x:eH P w H h)(e:h.objs.size<=a):H a=none:=by
 cases q:H a with
 | none=>rfl
 | some u=>exact absurd (S5 (x.lt q) e) (S6 _)
theorem eH.kept(x:eH P w H h)(k:∀b u,h.get? b=some u->h'.get? b=some u):eH P w H h':=fun a o e =>
 (x a o e).stay (fun b u _ q=>k b u q) (fun _ q=>q) (fun _ _ q=>q) fun _ _ _ q=>q
theorem eH.laid(x:eH P w H h)(k:∀b u,h.get? b=some u->h'.get? b=some u)(aq:h.objs.size<=a)(new:fV P w (upd H a o) h' a o):eH P w (upd H a o) h':=fun b u e=>by
 have aH:=x.fresh aq;by_cases ae:b=a
 ·subst ae;rw[ei]at e;cases e;exact new
 ·rw[b1 ae]at e;exact(x b u e).stay (fun c v _ q=>k c v q) (fun c q=>by rw[b1 (fU q aH)];exact q) (fun c xs q=>by rw[b1 (fU q aH)];exact q) fun c cf u q=>by rw[b1 (fU q aH)];exact q
end
def Rd(H:ai)(a:Tl)(u:d7):Prop:=H a=some u∨∃o,H a=some (.frz o u)
theorem Rd.ok{P:WF}{w:WU}{H:ai}{h:WY}{a:Tl}{u:d7}(r:Rd H a u)(x:eH P w H h):fV P w H h a u:=by
 rcases r with r|⟨o,r⟩
 ·exact x a u r
 ·obtain⟨_,q⟩:=x a _ r;exact q
def q8:Option d7->Prop
 | some (.lst _)=>True
 | some (.dK _)=>True
 | some (.dT _)=>True
 | some (.set _ _)=>True
 | some (.ins _ _ _)=>True
 | some (.ext _)=>True
 | _=>False
section
variable{P:WF}{w:WU}{H:ai}{h h':WY}{x e:Tl}{ey:d7}
theorem eH.write(ok:eH P w H h)(mu:q8 (H x))(au:e=x∨H e=some (.own x))(k:∀b u,b≠e->h.get? b=some u->h'.get? b=some u)(nW:∃u,h'.get? e=some u)(new:fV P w (upd H x ey) h' x ey):eH P w (upd H x ey) h':=fun b u q=>by
 have zh:∀c y,H c=some (.own y)->c≠x:=fun c y r z=>by subst z;rw[r]at mu;exact mu
 have GD:∀c xs,H c=some (.tup xs)->c≠x:=fun c xs r z=>by subst z;rw[r]at mu;exact mu
 have GE:∀c cf u,H c=some (.frz cf u)->c≠x:=fun c cf u r z=>by subst z;rw[r]at mu;exact mu
 by_cases ae:b=x
 ·subst ae;rw[ei]at q;cases q;exact new
 ·rw[b1 ae]at q;by_cases mG:b=e
  ·have fW:H b=some (.own x):=by
    rcases au with z|z
    ·exact absurd (mG.trans z) ae
    ·rw[mG];exact z
   rw[q]at fW;cases fW;obtain⟨v,a'⟩:=nW;exact⟨v,by rw[mG];exact a'⟩
  ·refine(ok b u q).stay (fun c v hc r=>k c v ?_ r) (fun c r=>by rw[b1 (zh c b r)];exact r) (fun c xs r=>by rw[b1 (GD c xs r)];exact r) fun c cf u r=>by rw[b1 (GE c cf u r)];exact r
   rcases hc with rfl|hc
   ·exact mG
   ·rintro rfl;rcases au with z|z
    ·exact zh c b hc z
    ·rw[hc]at z;cases z;exact ae rfl
end
structure ez (fs ex:List Tl) (H af:ai) (h h':WY):Prop where
 keep:∀b o,h.get? b=some o->H b=none->b∉fs->b∉ex->h'.get? b=some o
 slot:∀b o,h.get? b=some o->H b=none->b∈fs->b∉ex->∃sl,h'.get? b=some { o with slots:=sl }
 free:∀b o,h.get? b=some o->H b=none->b∉ex->af b=none
 there:∀b o,h.get? b=some o->b∉ex->∃ey,h'.get? b=some ey
 tups:∀b xs,H b=some (.tup xs)->af b=some (.tup xs)
 frzs:∀b o u,H b=some (.frz o u)->af b=some (.frz o u)
 tbls:∀b ps,H b=some (.tbl ps)->∃more,af b=some (.tbl (ps++more))
section
variable{fs GF ex abx:List Tl}{H aw aV:ai}{h aa ab h':WY}{a x e:Tl}{o:d7}
theorem ez.any(u:ez fs ex H aw h aa){b:Tl}{cf:Obj}(q:h.get? b=some cf)(n:H b=none)(aj:b∉ex):∃sl,aa.get? b=some { cf with slots:=sl }:=by
 by_cases ae:b∈fs
 ·exact u.slot b cf q n ae aj
 ·exact⟨cf.slots,u.keep b cf q n ae aj⟩
theorem ez.kept(k:∀b u,h.get? b=some u->h'.get? b=some u):ez fs ex H H h h' :=
 ⟨fun b cf q _ _ _=>k b cf q,fun b cf q _ _ _=>⟨cf.slots,k b cf q⟩,fun _ _ _ n _=>n,fun b cf q _=>⟨cf,k b cf q⟩,fun _ _ q=>q,fun _ _ _ q=>q,fun _ ps q=>⟨#[],by rw[q];simp⟩⟩
theorem ez.refl:ez fs ex H H h h:=ez.kept fun _ _ q=>q
theorem ez.laid(k:∀b u,h.get? b=some u->h'.get? b=some u)(aq:h.objs.size<=a)(aH:H a=none):ez fs ex H (upd H a o) h h' where
 keep:=fun b u q _ _ _=>k b u q
 slot:=fun b u q _ _ _=>⟨u.slots,k b u q⟩
 free:=fun b u q n _=>by rw[b1 (S4 (S5 (Heap.lt_size q) aq))];exact n
 there:=fun b u q _=>⟨u,k b u q⟩
 tups:=fun b xs q=>by rw[b1 (fU q aH)];exact q
 frzs:=fun b u xs q=>by rw[b1 (fU q aH)];exact q
 tbls:=fun b ps q=>⟨#[],by rw[b1 (fU q aH),q];simp⟩
theorem ez.write(mu:q8 (H x))(au:e=x∨H e=some (.own x))(k:∀b u,b≠e->h.get? b=some u->h'.get? b=some u)(nW:∃u,h'.get? e=some u):ez fs ex H (upd H x o) h h':=by
 have aj:∀b,H b=none->b≠x:=fun b n z=>by subst z;rw[n]at mu;exact mu
 have ae:∀b,H b=none->b≠e:=fun b n z=>by
  subst z;rcases au with r|r
  ·exact aj b n r
  ·rw[n]at r;cases r
 have aB:∀b u,H b=some u->¬q8 (some u)->b≠x:=fun b u q zi z=>by subst z;rw[q]at mu;exact zi mu
 refine⟨fun b u q n _ _=>k b u (ae b n) q,fun b u q n _ _=>⟨u.slots,k b u (ae b n) q⟩,fun b u q n _=>by rw[b1 (aj b n)];exact n,fun b u q _=>?_,
  fun b xs q=>by rw[b1 (aB b _ q fun z=>z)];exact q,fun b u xs q=>by rw[b1 (aB b _ q fun z=>z)];exact q,fun b ps q=>⟨#[],by rw[b1 (aB b _ q fun z=>z),q];simp⟩⟩
 by_cases mG:b=e
 ·subst mG;exact nW
 ·exact⟨u,k b u mG q⟩
end
def q9(h:WY)(H:ai):List Tl:=(Te h.objs.size).filter fun a=>(H a).isSome
def kT(h:WY)(H:ai):WY:=PySem.W.hideAll h (q9 h H)
theorem GG(h:WY)(H:ai):(kT h H).objs.size=h.objs.size:=PySem.W.hideAll_size _ _
theorem GH{h:WY}{H:ai}{b:Tl}{o:Obj}(e:h.get? b=some o)(n:H b=none):(kT h H).get? b=some o :=
 PySem.W.hideAll_get _ e fun aB=>by
  have q:(H b).isSome=true:=(Tw.mp aB).2;rw[n]at q;simp at q
theorem GI{h:WY}{H:ai}{b:Tl}{o:Obj}(e:(kT h H).get? b=some o):h.get? b=some o/\H b=none:=by
 have bq:h.get? b=some o:=PySem.W.of_hideAll (q9 h H) e;refine⟨bq,?_⟩;cases q:H b with
 | none=>rfl
 | some x =>
  have aB:b∈q9 h H:=Tw.mpr ⟨Ug.mpr (Heap.lt_size bq),by simp[q]⟩;have z:(kT h H).get? b=none:=PySem.W.hideAll_none (q9 h H) aB;rw[z]at e;cases e
structure Mod (K:Su) (mg:Str->Option SC) (base:WY):Prop where
 kin:K.In base
 glob:base.Ns TW mg
 blt:∃fE,base.Ns Xa fE/\∀x:Str,x≠"__name__"->fE x=W8 x
 nolimit:base.NoLimit
structure aU where
 prog:WF
 w:WU
 K:Su
 mg:Str->Option SC
 base:WY
 A:WV
 N:List Str
 s₀:SL
 H₀:ai
 env:Env
 outer:List Env
 stack:List Env
 ex:List Tl
 fn:Str->Bool
 calm:Bool
 pn:List (Tl×Obj)
 xe:SC->SL->Prop
def frs(l:List Env):List Tl:=l.filterMap (·.frame)
abbrev aU.fs(X:aU):List Tl:=frs X.outer
def iF(sc:W')(x:Str):Prop:=sc.names.lookup x=some .local∨sc.names.lookup x=some .cell∨sc.names.lookup x=some .free
def Loc(sc:W')(x:Str):Prop:=sc.names.lookup x=some .local∨sc.names.lookup x=some .cell
def Look(env:Env)(h:WY)(m:Str->Option SC)(x:Str)(u:SC):Prop :=
 (env.kindOf x=some .local/\m x=some u)∨((env.kindOf x=some .cell∨env.kindOf x=some .free)/\∃c,env.cells.lookup x=some c/\h.IsCell c (some u))
structure aU.Ok (X:aU):Prop where
 mod:Mod X.K X.mg X.base
 kind:X.env.scope.kind=.function
 glob:X.env.globals=TW
 blt:X.env.builtins=Xa
 above:X.s₀.heap.objs.size<=X.env.locals
 inj:∀x y c,X.env.cells.lookup x=some c->X.env.cells.lookup y=some c->x=y
 has:∀x,(X.env.kindOf x=some .cell∨X.env.kindOf x=some .free)->∃c,X.env.cells.lookup x=some c
 cab:∀x c,X.fn x=true->X.env.cells.lookup x=some c->X.s₀.heap.objs.size<=c
 hd:X.calm=true->X.A.handled=none
 frames:X.A.frames=some X.stack
 stk:X.stack=X.outer∨(X.stack=X.env::X.outer/\X.env.frame=some X.env.locals)
 exf:∀b∈X.ex,b≠X.env.locals/\∀x c,X.env.cells.lookup x=some c->c≠b
 bs:∀b o,X.base.get? b=some o->X.s₀.heap.get? b=some o/\X.H₀ b=none
 bsz:X.base.objs.size<=X.s₀.heap.objs.size
 noex:∀b o,X.base.get? b=some o->b∉X.ex
 exfs:∀b∈X.ex,b∉X.fs
 funs:X.s₀.heap.FunFrames X.base X.outer
 frf:∀b∈X.fs,X.H₀ b=none
 tab:lN X.K X.H₀
structure Inv (X:aU) (pins:List (Tl×Obj)) (σ:List (Option V)) (H:ai) (s:SL):Prop where
 ok:X.Ok
 os:s.os=X.s₀.os
 bare:XN s.gens
 base:ez X.fs X.ex X.H₀ H X.s₀.heap s.heap
 loc:∃m,s.heap.Ns X.env.locals m/\∀(i:Nat)(x:Str)(v:V),X.N[i]?=some x->σ[i]?=some (some v)->iF X.env.scope x->∃u,RelV v u/\Look X.env s.heap m x u
 cell:∀x c,X.env.cells.lookup x=some c->∃v,s.heap.IsCell c v
 free:H X.env.locals=none
 freeC:∀x c,X.env.cells.lookup x=some c->H c=none
 pin:∀p∈X.pn++pins,s.heap.get? p.1=some p.2/\H p.1=none/\p.1≠X.env.locals/\p.1∉X.fs/\∀v,p.2.data≠.cell v
 hok:eH X.prog X.w H s.heap
 len:σ.length=X.N.length
section
variable{X:aU}{pins:List (Tl×Obj)}{σ:List (Option V)}{H af:ai}{s:SL}{h':WY}
theorem aU.Ok.nofr(ok:X.Ok){b:Tl}{o:Obj}(e:X.base.get? b=some o):b∉X.fs:=fun ae=>by
 have:=(ok.funs.mem ae).1;rw[e]at this;cases this
theorem Inv.bs(I:Inv X pins σ H s):∀b o,X.base.get? b=some o->s.heap.get? b=some o/\H b=none:=fun b o e =>
 ⟨I.base.keep b o (I.ok.bs b o e).1 (I.ok.bs b o e).2 (I.ok.nofr e) (I.ok.noex b o e),I.base.free b o (I.ok.bs b o e).1 (I.ok.bs b o e).2 (I.ok.noex b o e)⟩
theorem Inv.bk(I:Inv X pins σ H s):∀b o,X.base.get? b=some o->s.heap.get? b=some o:=fun b o e=>(I.bs b o e).1
theorem lN.grow{K:Su}{H af:ai}(x:lN K H)(g:∀b ps,H b=some (.tbl ps)->∃more,af b=some (.tbl (ps++more))):lN K af:=fun p aq=>by
 obtain⟨ps,t,e,q⟩:=x p aq;obtain⟨more,bq⟩:=g _ _ e;refine⟨_,t,bq,?_⟩
 have:0<ps.size:=by
  rcases V0 ps.size with z|z
  ·rw[Vk (by lia)]at q;cases q
  ·exact z
 rw[Array.getElem?_append_left this];exact q
theorem Inv.tabs(I:Inv X pins σ H s):lN X.K H:=I.ok.tab.grow I.base.tbls
theorem Inv.mod(I:Inv X pins σ H s):Mod X.K X.mg X.base:=I.ok.mod
theorem Inv.kIn(I:Inv X pins σ H s):X.K.In s.heap:=I.ok.mod.kin.keeps I.bk
theorem Inv.nolimit(I:Inv X pins σ H s):s.heap.NoLimit:=I.ok.mod.nolimit.keeps I.bk
theorem Inv.lt(I:Inv X pins σ H s):X.env.locals<s.heap.objs.size:=let⟨_,aH,_⟩:=I.loc;aH.lt
theorem Inv.sz(I:Inv X pins σ H s):X.s₀.heap.objs.size<=s.heap.objs.size:=SA I.ok.above (Ux I.lt)
theorem Inv.nofs(I:Inv X pins σ H s){a:Tl}(h:s.heap.objs.size<=a):a∉X.fs:=fun ae=>by
 obtain⟨_,o,aA,_⟩:=I.ok.funs.mem ae;exact absurd (S5 (Heap.lt_size aA) (SA I.sz h)) (S6 _)
theorem Inv.cne(I:Inv X pins σ H s):∀x c,X.env.cells.lookup x=some c->c≠X.env.locals:=fun x c e z=>by
 obtain⟨v,o,aA,hd⟩:=I.cell x c e;obtain⟨m,⟨ey,es,c3,kc,GJ,_⟩,_⟩:=I.loc;rw[z,kc]at aA;cases aA;rw[GJ]at hd;cases hd
theorem Inv.funs(I:Inv X pins σ H s):s.heap.FunFrames X.base X.outer:=by
 have all:∀(l:List Env),(∀b∈frs l,b∈X.fs)->X.s₀.heap.FunFrames X.base l->s.heap.FunFrames X.base l:=by
  intro l;induction l with
  | nil=>intro _ _;trivial
  | cons env r bR =>
   intro ak ay;obtain⟨ah,⟨L,o,bG,aH,aA,hd⟩,am⟩:=ay;have cZ:L∈X.fs:=ak L (by unfold frs;rw[Vl,bG];exact Sv);obtain⟨sl,e⟩:=I.base.slot L o aA (I.ok.frf L cZ) cZ fun z=>I.ok.exfs L z cZ;exact⟨ah,⟨L,_,bG,aH,e,hd⟩,bR (fun b ae=>ak b (by unfold frs;rw[Vl,bG];exact Sw _ ae)) am⟩
 exact all X.outer (fun _ ae=>ae) I.ok.funs
theorem Inv.stack(I:Inv X pins σ H s):s.heap.FunFrames X.base X.stack:=by
 rcases I.ok.stk with e|⟨e,bG⟩
 ·rw[e];exact I.funs
 ·rw[e];obtain⟨m,aH,_⟩:=I.loc;refine .cons (by rw[I.ok.kind];decide) bG aH ?_ I.funs;exact Heap.get?_none_of_le (SA I.ok.bsz I.ok.above)
theorem Inv.stkSub(I:Inv X pins σ H s):∀b∈frs X.stack,b∈X.env.locals::X.fs:=fun b ae=>by
 rcases I.ok.stk with e|⟨e,bG⟩
 ·rw[e]at ae;exact Sw _ ae
 ·rw[e]at ae;unfold frs at ae;rw[Vl,bG]at ae;exact ae
theorem Inv.stkFree(I:Inv X pins σ H s):∀b∈frs X.stack,H b=none:=fun b ae=>by
 rcases Sy.mp (I.stkSub b ae)with e|ae
 ·rw[e];exact I.free
 ·obtain⟨_,o,aA,_⟩:=I.ok.funs.mem ae;exact I.base.free b o aA (I.ok.frf b ae) fun z=>I.ok.exfs b z ae
theorem Inv.step{g':Array GenState}{t':Nat}{d':Drawn}{ch:List Tl}(I:Inv X pins σ H s)(kd:∀b∈ch,(b∈X.ex∨X.s₀.heap.objs.size<=b)/\b≠X.env.locals/\(∀x c,X.env.cells.lookup x=some c->c≠b)/\∀p∈X.pn++pins,p.1≠b)(keep:∀b o,b≠X.env.locals->b∉X.fs->b∉ch->s.heap.get? b=some o->H b=none->h'.get? b=some o)(slot:∀b o,b≠X.env.locals->b∈X.fs->b∉ch->s.heap.get? b=some o->H b=none->∃sl,h'.get? b=some { o with slots:=sl })(free:∀b o,b∉ch->s.heap.get? b=some o->H b=none->af b=none)(there:∀b o,b∉ch->s.heap.get? b=some o->∃ey,h'.get? b=some ey)(tups:∀b xs,H b=some (.tup xs)->af b=some (.tup xs))(frzs:∀b o u,H b=some (.frz o u)->af b=some (.frz o u))(tbls:∀b ps,H b=some (.tbl ps)->∃more,af b=some (.tbl (ps++more)))(ns:∀m,s.heap.Ns X.env.locals m->h'.Ns X.env.locals m)(hok:eH X.prog X.w af h')(aD:XN g'):
  Inv X pins σ af { s with heap:=h',gens:=g',drawn:=d',toks:=t' }:=by
 have zj:∀b o,X.s₀.heap.get? b=some o->b≠X.env.locals:=fun b o e=>S4 (S5 (Heap.lt_size e) I.ok.above)
 have q':∀b o,X.s₀.heap.get? b=some o->b∉X.ex->b∉ch:=fun b o e aj ae=>by
  rcases(kd b ae).1 with z|z
  ·exact aj z
  ·exact absurd (S5 (Heap.lt_size e) z) (S6 _)
 have cellK:∀x c,X.env.cells.lookup x=some c->∀v,s.heap.IsCell c v->h'.IsCell c v:=fun x c e v ⟨o,aA,hd⟩=>by
  have pd:c∉ch:=fun z=>(kd c z).2.2.1 x c e rfl;by_cases hc:c∈X.fs
  ·obtain⟨sl,q⟩:=slot c o (I.cne x c e) hc pd aA (I.freeC x c e);exact⟨_,q,hd⟩
  ·exact⟨o,keep c o (I.cne x c e) hc pd aA (I.freeC x c e),hd⟩
 refine⟨I.ok,I.os,aD,⟨fun b o e n ae aj=>?_,fun b o e n ae aj=>?_,fun b o e n aj=>?_,fun b o e aj=>?_,fun b xs e=>tups b xs (I.base.tups b xs e),fun b o xs e=>frzs b o xs (I.base.frzs b o xs e),fun b ps e=>?_⟩,?_,fun x c e=>?_,?_,fun x c e=>?_,fun p aq=>?_,hok,I.len⟩
 ·exact keep b o (zj b o e) ae (q' b o e aj) (I.base.keep b o e n ae aj) (I.base.free b o e n aj)
 ·obtain⟨sl,ag⟩:=I.base.slot b o e n ae aj;obtain⟨GK,ao⟩:=slot b _ (zj b o e) ae (q' b o e aj) ag (I.base.free b o e n aj);exact⟨GK,ao⟩
 ·obtain⟨ey,ag⟩:=I.base.there b o e aj;exact free b ey (q' b o e aj) ag (I.base.free b o e n aj)
 ·obtain⟨ey,ag⟩:=I.base.there b o e aj;exact there b ey (q' b o e aj) ag
 ·obtain⟨bF,ag⟩:=I.base.tbls b ps e;obtain⟨bS,ao⟩:=tbls b _ ag;exact⟨bF++bS,by rw[ao,Array.append_assoc]⟩
 ·obtain⟨m,aH,ay⟩:=I.loc;refine⟨m,ns m aH,fun i x v ag ao be=>?_⟩;obtain⟨u,r,l⟩:=ay i x v ag ao be;refine⟨u,r,?_⟩;rcases l with l|⟨k,c,e,z⟩
  ·exact .inl l
  ·exact .inr ⟨k,c,e,cellK x c e _ z⟩
 ·obtain⟨v,z⟩:=I.cell x c e;exact⟨v,cellK x c e v z⟩
 ·obtain⟨m,⟨o,_,_,aA,_⟩,_⟩:=I.loc;exact free _ o (fun z=>(kd _ z).2.1 rfl) aA I.free
 ·obtain⟨v,o,aA,hd⟩:=I.cell x c e;exact free c o (fun z=>(kd c z).2.2.1 x c e rfl) aA (I.freeC x c e)
 ·obtain⟨e,n,ne,nX,d⟩:=I.pin p aq;have pd:p.1∉ch:=fun z=>(kd p.1 z).2.2.2 p aq rfl;exact⟨keep p.1 p.2 ne nX pd e n,free p.1 p.2 pd e n,ne,nX,d⟩
theorem Inv.un{t':Nat}(I:Inv X pins σ H s)(u:ez X.fs [] H af s.heap h')(hok:eH X.prog X.w af h'):Inv X pins σ af { s with heap:=h',toks:=t' }:=by
 obtain⟨m,⟨o,es,c3,aA,r⟩,_⟩:=id I.loc;obtain⟨sl,cZ⟩:=u.any aA I.free (by simp)
 exact I.step (g':=s.gens) (d':=s.drawn) (ch:=[]) (fun _ z=>nomatch z) (fun b o _ ae _ e n=>u.keep b o e n ae (by simp)) (fun b o _ ae _ e n=>u.slot b o e n ae (by simp)) (fun b o _ e n=>u.free b o e n (by simp)) (fun b o _ e=>u.there b o e (by simp)) u.tups u.frzs u.tbls (fun df aB=>by
  obtain⟨ey,uR,uS,kc,c7⟩:=aB;rw[aA]at kc;cases kc
  exact⟨_,uR,uS,cZ,c7⟩) hok I.bare
theorem Inv.call{g':Array GenState}{t':Nat}{d':Drawn}{ch:List Tl}(I:Inv X pins σ H s)(u:ez (frs X.stack) ch H af s.heap h')(hok:eH X.prog X.w af h')(aD:XN g')(kd:∀b∈ch,(b∈X.ex∨X.s₀.heap.objs.size<=b)/\b≠X.env.locals/\(∀x c,X.env.cells.lookup x=some c->c≠b)/\∀p∈X.pn++pins,p.1≠b):
  Inv X pins σ af { s with heap:=h',gens:=g',drawn:=d',toks:=t' }:=by
 obtain⟨m,⟨o,es,c3,aA,r⟩,_⟩:=id I.loc;obtain⟨sl,cZ⟩:=u.any aA I.free fun z=>(kd _ z).2.1 rfl
 exact I.step (ch:=ch) kd (fun b o cZ ae hc e n=>u.keep b o e n (fun z=>(Sy.mp (I.stkSub b z)).elim cZ ae) hc) (fun b o _ _ hc e n=>u.any e n hc) (fun b o hc e n=>u.free b o e n hc) (fun b o hc e=>u.there b o e hc) u.tups u.frzs u.tbls (fun df aB=>by
  obtain⟨ey,uR,uS,kc,c7⟩:=aB;rw[aA]at kc;cases kc
  exact⟨_,uR,uS,cZ,c7⟩) hok aD
theorem Inv.turned{t':Nat}{it:Tl}(I:Inv X pins σ H s)(k:∀b o,b≠it->s.heap.get? b=some o->h'.get? b=some o)(aH:H it=none)(cZ:it≠X.env.locals)(aa:it∈X.ex∨X.s₀.heap.objs.size<=it)(ab:∀x c,X.env.cells.lookup x=some c->c≠it)(aQ:∀p∈X.pn++pins,p.1≠it):Inv X pins σ H { s with heap:=h',toks:=t' }:=by
 have ke:∀b u,H b=some u->b≠it:=fun b u e z=>by rw[z,aH]at e;cases e
 refine I.step (g':=s.gens) (d':=s.drawn) (ch:=[it]) (fun b ae=>?_) (fun b o _ _ hc e _=>k b o (fun z=>hc (by simp[z])) e) (fun b o _ _ hc e _=>⟨o.slots,k b o (fun z=>hc (by simp[z])) e⟩) (fun _ _ _ _ n=>n)
  (fun b o hc e=>⟨o,k b o (fun z=>hc (by simp[z])) e⟩) (fun _ _ e=>e) (fun _ _ _ e=>e) (fun b ps e=>⟨#[],by rw[e];simp⟩) (fun m aB=>?_) (fun b u e=>?_) I.bare
 ·have e:b=it:=by simpa using ae
  subst e;exact⟨aa,cZ,ab,aQ⟩
 ·obtain⟨o,es,c3,aA,r⟩:=aB;exact⟨o,es,c3,k _ o (Tp cZ) aA,r⟩
 ·refine(I.hok b u e).stay (fun c v hc q=>k c v ?_ q) (fun _ q=>q) (fun _ _ q=>q) fun _ _ _ q=>q;rcases hc with z|z
  ·rw[z];exact ke b u e
  ·exact ke c _ z
theorem Inv.tok(I:Inv X pins σ H s)(t:Nat):Inv X pins σ H { s with toks:=t }:=I.un (h':=s.heap) (t':=t) ez.refl I.hok
theorem Inv.kept{t':Nat}(I:Inv X pins σ H s)(k:∀b u,s.heap.get? b=some u->h'.get? b=some u):Inv X pins σ H { s with heap:=h',toks:=t' }:=I.un (ez.kept k) (I.hok.kept k)
theorem Inv.laid{a:Tl}{o:d7}{t':Nat}(I:Inv X pins σ H s)(k:∀b u,s.heap.get? b=some u->h'.get? b=some u)(aq:s.heap.objs.size<=a)(new:fV X.prog X.w (upd H a o) h' a o):
  Inv X pins σ (upd H a o) { s with heap:=h',toks:=t' }:=I.un (ez.laid k aq (I.hok.fresh aq)) (I.hok.laid k aq new)
theorem Inv.write{x e:Tl}{o:d7}{t':Nat}(I:Inv X pins σ H s)(mu:q8 (H x))(au:e=x∨H e=some (.own x))(k:∀b u,b≠e->s.heap.get? b=some u->h'.get? b=some u)(nW:∃u,h'.get? e=some u)(new:fV X.prog X.w (upd H x o) h' x o):Inv X pins σ (upd H x o) { s with heap:=h',toks:=t' }:=I.un (ez.write mu au k nW) (I.hok.write mu au k nW new)
theorem Inv.pins_of{zk:List (Tl×Obj)}(I:Inv X pins σ H s)(h:∀p∈zk,s.heap.get? p.1=some p.2/\H p.1=none/\p.1≠X.env.locals/\p.1∉X.fs/\∀v,p.2.data≠.cell v):Inv X zk σ H s :=
 ⟨I.ok,I.os,I.bare,I.base,I.loc,I.cell,I.free,I.freeC,fun p aq=>(SI.mp aq).elim (fun z=>I.pin p (Tf _ z)) (h p),I.hok,I.len⟩
theorem zl{N:List Str}(cd:N.Nodup){i j:Nat}{x:Str}(a:N[i]?=some x)(b:N[j]?=some x):i=j:=by
 obtain⟨aa,ag⟩:=Uy.mp a;obtain⟨ab,ao⟩:=Uy.mp b;exact(List.getElem_inj cd).mp (ag.trans ao.symm)
theorem GL{M:Model}{A:WV}{E:SC->SL->Prop}{i:Nat}{x:Str}{v:V}{u:SC}{Q:Unit->SL->Prop}(I:Inv X pins σ H s)(cd:X.N.Nodup)(aC:X.N[i]?=some x)(aj:Loc X.env.scope x)(r:RelV v u)(h:∀s',Inv X pins (σ.set i (some v)) H s'->(∃a,Heap.SameBut a s.heap s'.heap/\(a=X.env.locals∨X.env.cells.lookup x=some a))->Q () s')(bG:X.fn x=true∨X.env.scope.names.lookup x=some .local:=by first|exact .inl rfl|exact .inr rfl|assumption):wpAny M A (storeName X.env x u) Q E s:=by
 obtain⟨m,aH,ay⟩:=id I.loc;have GM:(X.env.scope.kind==.class||(X.env.scope.kind==.module&&X.env.locals != X.env.globals))=false:=by rw[I.ok.kind];rfl
 have zm:i<σ.length:=by rw[I.len];exact(Uy.mp aC).1
 have cne:=I.cne
 have tracked:∀{a:Tl}{h':WY},(∃o,s.heap.get? a=some o/\H a=none)->Heap.SameBut a s.heap h'->eH X.prog X.w H h':=fun{a h'} ax ak b cf e=>by
  obtain⟨_,_,zn⟩:=ax;refine(I.hok b cf e).stay (fun c kf hc q=>(ak.2 c ?_).trans q) (fun _ q=>q) (fun _ _ q=>q) fun _ _ _ q=>q;rintro rfl;rcases hc with rfl|hc
  ·rw[zn]at e;cases e
  ·rw[zn]at hc;cases hc
 rcases aj with ah|ah
 ·refine wpAny_storeName_local ah aH (fun h' GN ak=>?_) GM;obtain⟨GO,_,_,GP,_⟩:=id aH;refine h _ ⟨I.ok,I.os,I.bare,⟨fun b o e n ae aj=>?_,fun b o e n ae aj=>?_,I.base.free,fun b o e aj=>?_,I.base.tups,I.base.frzs,I.base.tbls⟩,⟨_,GN,fun j y kg ag ao be=>?_⟩,fun y c e=>?_,I.free,I.freeC,fun p aq=>?_,tracked ⟨GO,GP,I.free⟩ ak,by simpa using I.len⟩ ⟨_,ak,.inl rfl⟩
  ·exact(ak.2 b (S4 (S5 (Heap.lt_size e) I.ok.above))).trans (I.base.keep b o e n ae aj)
  ·obtain⟨sl,ag⟩:=I.base.slot b o e n ae aj;exact⟨sl,(ak.2 b (S4 (S5 (Heap.lt_size e) I.ok.above))).trans ag⟩
  ·obtain⟨ey,ag⟩:=I.base.there b o e aj;exact⟨ey,(ak.2 b (S4 (S5 (Heap.lt_size e) I.ok.above))).trans ag⟩
  ·by_cases bz:j=i
   ·subst bz;rw[aC]at ag;cases ag;rw[UQ zm]at ao;cases ao;exact⟨u,r,.inl ⟨ah,by simp⟩⟩
   ·rw[Uh (Tp bz)]at ao;obtain⟨eS,c7,q⟩:=ay j y kg ag ao be;refine⟨eS,c7,?_⟩;rcases q with⟨k,e⟩|⟨k,c,e,z⟩
    ·refine .inl ⟨k,?_⟩;have:y≠x:=fun e=>bz (zl cd ag (e▸aC));simp[this,e]
    ·exact .inr ⟨k,c,e,z.sameBut ak (cne y c e)⟩
  ·obtain⟨kf,z⟩:=I.cell y c e;exact⟨kf,z.sameBut ak (cne y c e)⟩
  ·obtain⟨e,n,ne,nX,d⟩:=I.pin p aq;exact⟨(ak.2 p.1 ne).trans e,n,ne,nX,d⟩
 ·have uT:X.fn x=true:=by
   rcases bG with z|z
   ·exact z
   ·rw[z]at ah;cases ah
  obtain⟨c,hc⟩:=I.ok.has x (.inl ah);obtain⟨kf,z⟩:=I.cell x c hc;refine wpAny_storeName_cell I.ok.kind ah hc z (fun h' hM ak=>?_);obtain⟨oc,nY,GQ⟩:=id z;refine h { s with heap:=h' } ⟨I.ok,I.os,I.bare,⟨fun b o e n ae aj=>?_,fun b o e n ae aj=>?_,I.base.free,fun b o e aj=>?_,I.base.tups,I.base.frzs,I.base.tbls⟩,⟨m,aH.sameBut ak (Tp (cne x c hc)),fun j y kg ag ao be=>?_⟩,fun y cu e=>?_,I.free,I.freeC,fun p aq=>?_,tracked ⟨oc,nY,I.freeC x c hc⟩ ak,by simpa using I.len⟩ ⟨c,ak,.inr hc⟩
  ·exact(ak.2 b (S4 (S5 (Heap.lt_size e) (I.ok.cab x c uT hc)))).trans (I.base.keep b o e n ae aj)
  ·obtain⟨sl,ag⟩:=I.base.slot b o e n ae aj;exact⟨sl,(ak.2 b (S4 (S5 (Heap.lt_size e) (I.ok.cab x c uT hc)))).trans ag⟩
  ·obtain⟨ey,ag⟩:=I.base.there b o e aj;exact⟨ey,(ak.2 b (S4 (S5 (Heap.lt_size e) (I.ok.cab x c uT hc)))).trans ag⟩
  ·by_cases bz:j=i
   ·subst bz;rw[aC]at ag;cases ag;rw[UQ zm]at ao;cases ao;exact⟨u,r,.inr ⟨.inl ah,c,hc,hM⟩⟩
   ·rw[Uh (Tp bz)]at ao;obtain⟨eS,c7,q⟩:=ay j y kg ag ao be;refine⟨eS,c7,?_⟩;rcases q with q|⟨k,cu,e,eP⟩
    ·exact .inl q
    ·refine .inr ⟨k,cu,e,eP.sameBut ak ?_⟩;rintro rfl;exact bz (zl cd ag (I.ok.inj _ _ _ e hc▸aC))
  ·by_cases kU:cu=c
   ·subst kU;exact⟨_,hM⟩
   ·obtain⟨h5,bc⟩:=I.cell y cu e;exact⟨h5,bc.sameBut ak kU⟩
  ·obtain⟨e,n,ne,nX,d⟩:=I.pin p aq;refine⟨(ak.2 p.1 ?_).trans e,n,ne,nX,d⟩;intro q;rw[q,nY]at e;have fW:oc=p.2:=SM e;exact d kf (by rw[<-fW];exact GQ)
theorem nZ{M:Model}{A:WV}{E:SC->SL->Prop}{i:Nat}{x:Str}{v:V}{u:SC}{Q:Unit->SL->Prop}(I:Inv X pins σ H s)(cd:X.N.Nodup)(aC:X.N[i]?=some x)(aj:Loc X.env.scope x)(r:RelV v u)(h:∀s',Inv X pins (σ.set i (some v)) H s'->Q () s')(bG:X.fn x=true∨X.env.scope.names.lookup x=some .local:=by first|exact .inl rfl|exact .inr rfl|assumption):wpAny M A (storeName X.env x u) Q E s :=
 GL I cd aC aj r (fun s' kh _=>h s' kh) bG
theorem Inv.call'{s':SL}{ch:List Tl}(I:Inv X pins σ H s)(aA:s'.os=s.os)(u:ez (frs X.stack) ch H af s.heap s'.heap)(hok:eH X.prog X.w af s'.heap)(aD:XN s'.gens)(kd:∀b∈ch,(b∈X.ex∨X.s₀.heap.objs.size<=b)/\b≠X.env.locals/\(∀x c,X.env.cells.lookup x=some c->c≠b)/\∀p∈X.pn++pins,p.1≠b):Inv X pins σ af s':=by
 obtain⟨h',g',d',t',ey⟩:=s';have e:ey=s.os:=aA;subst e;exact I.call (g':=g') (t':=t') (d':=d') u hok aD kd
end
abbrev fF:=SC->Option Tl->ai->Prop
abbrev St:=List (Option V)
abbrev cc:=V->ai->Prop
abbrev bN:=St->ai->cc->Prop
abbrev dC:=St->ai->(Bool->ai->Prop)->Prop
abbrev eE:=St->ai->(List V->ai->Prop)->Prop
structure lO where
 nx:St->ai->Prop
 rt:cc
 bk:St->ai->Prop:=fun _ _=>False
 ct:St->ai->Prop:=fun _ _=>False
abbrev fa:=lO->St->ai->Prop
def fp(X:aU)(pins:List (Tl×Obj))(σ:St)(Q:cc)(u:SC)(s':SL):Prop:=∃v af,Inv X pins σ af s'/\RelV v u/\Q v af
def ra(X:aU)(pins:List (Tl×Obj))(σ:St)(Q:Bool->ai->Prop)(b:Bool)(s':SL):Prop:=∃af,Inv X pins σ af s'/\Q b af
def GR(X:aU)(pins:List (Tl×Obj))(σ:St)(Q:List V->ai->Prop)(aG:List SC)(s':SL):Prop:=∃vs af,Inv X pins σ af s'/\bV vs aG/\Q vs af
def n0(X:aU)(pins:List (Tl×Obj))(D:lO)(f:Flow)(s':SL):Prop :=
 match f with
 | .next=>∃a1 af,Inv X pins a1 af s'/\D.nx a1 af
 | .brk=>∃a1 af,Inv X pins a1 af s'/\D.bk a1 af
 | .cont=>∃a1 af,Inv X pins a1 af s'/\D.ct a1 af
 | .ret u=>∃v a1 af,Inv X pins a1 af s'/\RelV v u/\D.rt v af
def b5(X:aU)(e:WP)(t:bN):Prop :=
 ∀(pins:List (Tl×Obj))(s:SL)(σ:St)(H:ai)(Q:cc),Inv X pins σ H s->t σ H Q->wpAny (UV X.prog X.w) X.A (W7 e X.env) (fp X pins σ Q) X.xe s
def hN(X:aU)(e:WP)(t:dC):Prop :=
 ∀(pins:List (Tl×Obj))(s:SL)(σ:St)(H:ai)(Q:Bool->ai->Prop),Inv X pins σ H s->t σ H Q->wpAny (UV X.prog X.w) X.A (Yb e X.env (W7 e X.env)) (ra X pins σ Q) X.xe s
def kW(X:aU)(e:WP)(t:dC):Prop :=
 ∀(ho:Sem SC)(pins:List (Tl×Obj))(s:SL)(σ:St)(H:ai)(Q:Bool->ai->Prop),Inv X pins σ H s->t σ H Q->wpAny (UV X.prog X.w) X.A (Yb e X.env ho) (ra X pins σ Q) X.xe s
theorem kW.pt{X:aU}{e:WP}{t:dC}(h:kW X e t):hN X e t:=h _
def gG(X:aU)(es:List WP)(t:eE):Prop :=
 ∀(pos:Pos)(pins:List (Tl×Obj))(s:SL)(σ:St)(H:ai)(Q:List V->ai->Prop),Inv X pins σ H s->t σ H Q->wpAny (UV X.prog X.w) X.A (spliced (W1 pos (Tk es X.env))) (GR X pins σ Q) X.xe s
def hp(X:aU)(st:W0)(t:fa):Prop :=
 ∀(pins:List (Tl×Obj))(s:SL)(σ:St)(H:ai)(D:lO),Inv X pins σ H s->t D σ H->wpAny (UV X.prog X.w) X.A (exec st X.env) (n0 X pins D) X.xe s
def hq(X:aU)(st:List W0)(t:fa):Prop :=
 ∀(pins:List (Tl×Obj))(s:SL)(σ:St)(H:ai)(D:lO),Inv X pins σ H s->t D σ H->wpAny (UV X.prog X.w) X.A (execs st X.env) (n0 X pins D) X.xe s
theorem b9{α:Type}{t:Sem α}{Q n1:α->SL->Prop}{M:Model}{A:WV}{E:SC->SL->Prop}{s:SL}(h:wpAny M A t Q E s)(gH:∀a s,Q a s->n1 a s):wpAny M A t n1 E s:=WR h gH fun _ _ x=>x
section
variable{X:aU}
def uU(i:Nat):bN:=fun σ H Q=>∃v,σ[i]?=some (some v)/\Q v H
def n2(v:V):bN:=fun _ H Q=>Q v H
theorem ki{i:Nat}{x:Str}{pos:Pos}(cd:X.N[i]?=some x)(a':iF X.env.scope x)(hd:(x==("__debug__":Str))=false:=by decide)(eo:(x==("__classdict__":Str))=false:=by decide):b5 X (.Name x pos) (uU i):=by
 intro pins s σ H Q I h;obtain⟨v,e,h⟩:=h;obtain⟨m,aH,ay⟩:=I.loc;obtain⟨u,r,l⟩:=ay i x v cd e a';have eT:fp X pins σ Q u s:=⟨v,H,I,r,h⟩;rcases l with⟨ah,aB⟩|⟨ah,c,hc,rb⟩
 ·exact wpAny_Name (XZ I.ok.kind ah aH aB eT) hd
 ·rcases ah with ah|ah
  ·exact wpAny_Name (X5 I.ok.kind ah hc rb eT) hd
  ·exact wpAny_Name (wpAny_loadName_free I.ok.kind ah hc rb eT eo) hd
theorem gc{i j pos}:b5 X (.Constant (.int i) j pos) (n2 (.int i)):=fun _ _ _ H _ I h=>wpAny_Constant_int ⟨.int i,H,I.tok _,⟨_,rfl⟩,h⟩
theorem GS{b j pos}:b5 X (.Constant (.bool b) j pos) (n2 (.bl b)):=fun _ _ _ H _ I h=>Constant_bool ⟨.bl b,H,I,rfl,h⟩
theorem GT{j pos}:b5 X (.Constant .none j pos) (n2 .non):=fun _ _ _ H _ I h=>Constant_none ⟨.non,H,I,rfl,h⟩
def ep(X:aU)(x:Str):Prop:=X.env.kindOf x=some .globalImplicit
theorem GU{E:SC->SL->Prop}{pins:List (Tl×Obj)}{s:SL}{σ:St}{H:ai}{x:Str}{u:SC}{pos:Pos}{Q:SC->SL->Prop}(I:Inv X pins σ H s)(aD:ep X x)(aB:X.mg x=some u)(h:Q u s)(hd:(x==("__debug__":Str))=false:=by decide):wpAny (UV X.prog X.w) X.A (W7 (.Name x pos) X.env) Q E s :=
 Calls.Name_function_global I.ok.kind aD (Calls.loadGlobal_global (by rw[I.ok.glob];exact I.mod.glob.keeps I.bk) aB h) hd
theorem kX{E:SC->SL->Prop}{pins:List (Tl×Obj)}{s:SL}{σ:St}{H:ai}{x:Str}{u:SC}{pos:Pos}{Q:SC->SL->Prop}(I:Inv X pins σ H s)(aD:ep X x)(aB:X.mg x=none)(a':W8 x=some u)(h:Q u s)(aH:x≠"__name__":=by decide)(hd:(x==("__debug__":Str))=false:=by decide):wpAny (UV X.prog X.w) X.A (W7 (.Name x pos) X.env) Q E s:=by
 obtain⟨fE,aa,ab⟩:=I.mod.blt;exact Calls.Name_function_global I.ok.kind aD (Calls.loadGlobal_builtin (by rw[I.ok.glob];exact I.mod.glob.keeps I.bk) aB (by rw[I.ok.blt];exact aa.keeps I.bk) ((ab x aH).trans a') h) hd
theorem mH{x:Str}{v:V}{u:SC}{pos:Pos}(aD:ep X x)(aB:X.mg x=none)(a':W8 x=some u)(r:RelV v u)(aH:x≠"__name__":=by decide)(hd:(x==("__debug__":Str))=false:=by decide):b5 X (.Name x pos) (n2 v):=
 fun _ _ _ H _ I h=>kX I aD aB a' ⟨v,H,I,r,h⟩ aH hd
variable{a b:WP}{ta tb:bN}{pos:Pos}
def zo(t:bN):dC:=fun σ H Q=>t σ H fun x aw=>∃c,x=.bl c/\Q c aw
theorem GV{e:WP}{t:bN}(h:b5 X e t)(au:∀ho,Yb e X.env ho=(do let v <-ho;X6 e.pos;XO [v] (YL v)):=by intro _;rfl):hN X e (zo t):=by
 intro pins s σ H Q I hw;refine isTrue_plain (b9 (h pins s σ H _ I hw) fun v aE ⟨x,aw,a2,av,aN⟩=>?_) (au _);obtain⟨d,rfl,q⟩:=aN;cases av;exact Xo ⟨aw,a2,q⟩
variable{i' rd:dC}{rest:List WP}
def zp(t u:dC):dC:=fun σ H Q=>t σ H fun c aw=>if c=true then u σ aw Q else Q false aw
def zq(t u:dC):dC:=fun σ H Q=>t σ H fun c aw=>if c=true then Q true aw else u σ aw Q
def zr(t:dC):dC:=fun σ H Q=>t σ H fun c aw=>Q (!c) aw
theorem GW(ax:hN X a i'):kW X (.BoolOp .And [a] pos) i':=by
 intro wh pins s σ H Q I h;refine isTrue_and (b9 (ax pins s σ H Q I h) fun c aE e=>?_);cases c with
 | true=>exact isTrue_and_nil e
 | false=>exact e
theorem GX(ax:hN X a i'):kW X (.BoolOp .Or [a] pos) i':=by
 intro wh pins s σ H Q I h;refine isTrue_or (b9 (ax pins s σ H Q I h) fun c aE e=>?_);cases c with
 | false=>exact isTrue_or_nil e
 | true=>exact e
theorem GY(ax:hN X a i')(ae:kW X (.BoolOp .And (b::rest) pos) rd):kW X (.BoolOp .And (a::b::rest) pos) (zp i' rd):=by
 intro wh pins s σ H Q I h;refine isTrue_and (b9 (ax pins s σ H _ I h) fun c aE ⟨aw,a2,aN⟩=>?_);cases c with
 | true=>exact ae wh pins aE σ aw Q a2 aN
 | false=>exact⟨aw,a2,aN⟩
theorem GZ(ax:hN X a i')(ae:kW X (.BoolOp .Or (b::rest) pos) rd):kW X (.BoolOp .Or (a::b::rest) pos) (zq i' rd):=by
 intro wh pins s σ H Q I h;refine isTrue_or (b9 (ax pins s σ H _ I h) fun c aE ⟨aw,a2,aN⟩=>?_);cases c with
 | true=>exact⟨aw,a2,aN⟩
 | false=>exact ae wh pins aE σ aw Q a2 aN
theorem G0(ax:hN X a i'):hN X (.UnaryOp .Not a pos) (zr i'):=by
 intro pins s σ H Q I h;exact isTrue_not (ax pins s σ H (fun c aw=>Q (!c) aw) I h)
def G1(ta tb:bN):bN:=fun σ H Q=>ta σ H fun x aw=>∃c,x=.bl c/\if c=true then tb σ aw Q else Q (.bl false) aw
theorem G2{dD}{t:bN}(h:b5 X a t):b5 X (.BoolOp dD [a] pos) t:=fun pins s σ H Q I hw=>BoolOp_one (h pins s σ H Q I hw)
theorem G3(ax:b5 X a ta)(ae:b5 X (.BoolOp .And (b::rest) pos) tb):b5 X (.BoolOp .And (a::b::rest) pos) (G1 ta tb):=by
 intro pins s σ H Q I h;refine BoolOp_and (b9 (ax pins s σ H _ I h) fun v aE ⟨x,aw,a2,av,aN⟩=>?_);obtain⟨c,rfl,aN⟩:=aN;cases av;refine Xo ?_;cases c with
 | true=>exact ae pins aE σ aw Q a2 aN
 | false=>exact⟨.bl false,aw,a2,rfl,aN⟩
def G4(t:dC)(ta tb:bN):bN:=fun σ H Q=>t σ H fun c aw=>if c=true then ta σ aw Q else tb σ aw Q
theorem G5{c:WP}(hc:hN X c i')(ax:b5 X a ta)(ae:b5 X b tb):b5 X (.IfExp c a b pos) (G4 i' ta tb):=by
 intro pins s σ H Q I h;refine wpAny_IfExp (b9 (hc pins s σ H _ I h) fun d aE ⟨aw,a2,aN⟩=>?_);cases d with
 | true=>exact ax pins aE σ aw Q a2 aN
 | false=>exact ae pins aE σ aw Q a2 aN
end
def cl(K:Su)(H:ai)(a:Tl)(xs:List V):Prop :=
 Rd H a (.lst xs) ∨
  ∃(o:Obj)(its:Array SC)(n:Nat),K.lookup a=some o/\o.cls=.type "list"/\o.dict=none/\o.data=.seq its n/\its.size<=SZ/\bV xs its.toList
def eA(K:Su)(H:ai)(a:Tl)(xs:List V):Prop :=
 Rd H a (.tup xs) ∨
  ∃(o:Obj)(its:Array SC)(n:Nat),K.lookup a=some o/\o.cls=.type "tuple"/\o.data=.seq its n/\its.size<=SZ/\bV xs its.toList
def G6:SC->Option V
 | .none=>some .non
 | .bool b=>some (.bl b)
 | .int i _=>some (.int i)
 | .str x _=>some (.str x)
 | .bytes b _=>some (.byt b)
 | .float b _=>some (.flt b)
 | .ref a=>some (.ref a)
 | .type n=>some (.ty n)
 | _=>none
theorem RelV.abs{x:V}{u:SC}(r:RelV x u):G6 u=some x:=by
 cases x with
 | non=>cases r;rfl
 | bl _=>cases r;rfl
 | int _=>obtain⟨t,rfl⟩:=r;rfl
 | str _=>obtain⟨t,rfl⟩:=r;rfl
 | byt _=>obtain⟨t,rfl⟩:=r;rfl
 | flt _=>obtain⟨t,rfl⟩:=r;rfl
 | ref _=>cases r;rfl
 | ty _=>cases r;rfl
theorem RelV.inj{x y:V}{u:SC}(r:RelV x u)(q:RelV y u):x=y:=SM (r.abs.symm.trans q.abs)
theorem bV.inj:∀{xs ys:List V}{aG:List SC},bV xs aG->bV ys aG->xs=ys
 | _,_,_,.nil,.nil=>rfl
 | _,_,_,.cons r t,.cons c7 t'=>by rw[r.inj c7,bV.inj t t']
section
variable{X:aU}{pins:List (Tl×Obj)}{σ:St}{H:ai}{s:SL}{a:Tl}{xs ys:List V}
theorem cl.of{K:Su}(h:H a=some (.lst xs)):cl K H a xs:=.inl (.inl h)
theorem eA.of{K:Su}(h:H a=some (.tup xs)):eA K H a xs:=.inl (.inl h)
theorem Inv.list(I:Inv X pins σ H s)(h:cl X.K H a xs):∃its:List SC,bV xs its/\PlainL s.heap a its.toArray/\xs.length<=SZ:=by
 rcases h with h|⟨o,its,n,ah,hc,hd,ak,hz,r⟩
 ·obtain⟨z,its,n,r,e⟩:=h.ok I.hok;exact⟨its,r,⟨_,n,e,rfl,rfl,rfl⟩,z⟩
 ·refine⟨its.toList,r,⟨o,n,I.kIn a o ah,hc,hd,by simpa using ak⟩,?_⟩;have e:=r.length;simp only[UR]at e;lia
theorem Inv.tuple(I:Inv X pins σ H s)(h:eA X.K H a xs):∃its:List SC,bV xs its/\IsTup s.heap a its.toArray/\xs.length<=SZ:=by
 rcases h with h|⟨o,its,n,ah,hc,ak,hz,r⟩
 ·obtain⟨z,its,r,p⟩:=h.ok I.hok;exact⟨its,r,p,z⟩
 ·refine⟨its.toList,r,⟨o,I.kIn a o ah,hc,n,by simpa using ak⟩,?_⟩;have e:=r.length;simp only[UR]at e;lia
theorem Inv.list_inj(I:Inv X pins σ H s)(h:cl X.K H a xs)(h':cl X.K H a ys):xs=ys:=by
 obtain⟨its,r,⟨o,n,e,_,_,d⟩,_⟩:=I.list h;obtain⟨its',c7,⟨ey,gI,bq,_,_,d'⟩,_⟩:=I.list h';rw[e]at bq;cases bq;rw[d]at d';injection d' with ej _
 have:its=its':=by simpa using Uf Array.toList ej
 subst this;exact r.inj c7
theorem Inv.tuple_inj(I:Inv X pins σ H s)(h:eA X.K H a xs)(h':eA X.K H a ys):xs=ys:=by
 obtain⟨its,r,⟨o,e,_,n,d⟩,_⟩:=I.tuple h;obtain⟨its',c7,⟨ey,bq,_,gI,d'⟩,_⟩:=I.tuple h';rw[e]at bq;cases bq;rw[d]at d';injection d' with ej _
 have:its=its':=by simpa using Uf Array.toList ej
 subst this;exact r.inj c7
end
abbrev aU.wish(X:aU)(E:SC->SL->Prop):aU:={ X with xe:=E }
abbrev aU.nox(X:aU):aU:=X.wish fun _ _=>False
theorem aU.Ok.wish{X:aU}(ok:X.Ok)(E:SC->SL->Prop):(X.wish E).Ok :=
 ⟨ok.mod,ok.kind,ok.glob,ok.blt,ok.above,ok.inj,ok.has,ok.cab,ok.hd,ok.frames,ok.stk,ok.exf,ok.bs,ok.bsz,ok.noex,ok.exfs,ok.funs,ok.frf,ok.tab⟩
theorem aU.Ok.unwish{X:aU}{E:SC->SL->Prop}(ok:(X.wish E).Ok):X.Ok :=
 ⟨ok.mod,ok.kind,ok.glob,ok.blt,ok.above,ok.inj,ok.has,ok.cab,ok.hd,ok.frames,ok.stk,ok.exf,ok.bs,ok.bsz,ok.noex,ok.exfs,ok.funs,ok.frf,ok.tab⟩
section
variable{X:aU}{pins:List (Tl×Obj)}{σ:St}{H:ai}{s:SL}{E:SC->SL->Prop}
theorem Inv.wish(I:Inv X pins σ H s)(E:SC->SL->Prop):Inv (X.wish E) pins σ H s:=⟨I.ok.wish E,I.os,I.bare,I.base,I.loc,I.cell,I.free,I.freeC,I.pin,I.hok,I.len⟩
theorem Inv.unwish(I:Inv (X.wish E) pins σ H s):Inv X pins σ H s:=⟨I.ok.unwish,I.os,I.bare,I.base,I.loc,I.cell,I.free,I.freeC,I.pin,I.hok,I.len⟩
theorem n0.unwish{D:lO}{f:Flow}{s':SL}(h:n0 (X.wish E) pins D f s'):n0 X pins D f s':=by
 cases f with
 | next=>obtain⟨a1,af,I,q⟩:=h;exact⟨a1,af,I.unwish,q⟩
 | brk=>obtain⟨a1,af,I,q⟩:=h;exact⟨a1,af,I.unwish,q⟩
 | cont=>obtain⟨a1,af,I,q⟩:=h;exact⟨a1,af,I.unwish,q⟩
 | ret u=>obtain⟨v,a1,af,I,r,q⟩:=h;exact⟨v,a1,af,I.unwish,r,q⟩
theorem hq.nox{st:List W0}{t:fa}(h:hq X.nox st t):hq X st t:=fun pins s σ H D I hw =>
 WR (h pins s σ H D (I.wish _) hw) (fun _ _ q=>q.unwish) fun _ _ z=>Tq z
end
section
variable{X:aU}{st:W0}{rest:List W0}{t u:fa}{e:WP}{bI:bN}{pos:Pos}
def G7:fa:=fun D σ H=>D.nx σ H
def G8(t u:fa):fa:=fun D σ H=>t { D with nx:=u D } σ H
theorem uV:hq X [] G7:=fun _ _ σ H _ I h=>Xu ⟨σ,H,I,h⟩
theorem n3(aa:hp X st t)(ab:hq X rest u):hq X (st::rest) (G8 t u):=by
 intro pins s σ H D I h;refine wpAny_execs_cons (b9 (aa pins s σ H { D with nx:=u D } I h) fun f aE q=>?_);cases f with
 | next =>
  obtain⟨a1,af,kh,q⟩:=q;exact ab pins aE a1 af D kh q
 | ret v=>exact q
 | brk=>exact q
 | cont=>exact q
theorem n4(aa:hp X st t):hq X [st] t:=by
 intro pins s σ H D I h;refine wpAny_execs_cons (b9 (aa pins s σ H D I h) fun f aE q=>?_);cases f with
 | next=>exact Xu q
 | ret v=>exact q
 | brk=>exact q
 | cont=>exact q
def G9:fa:=fun D σ H=>D.bk σ H
def G':fa:=fun D σ H=>D.ct σ H
theorem Ha:hp X (.Break pos) G9:=fun _ _ σ H _ I h=>wpAny_Break ⟨σ,H,I,h⟩
theorem Hb:hp X (.Continue pos) G':=fun _ _ σ H _ I h=>wpAny_Continue ⟨σ,H,I,h⟩
theorem Inv.quiet{pins:List (Tl×Obj)}{σ:St}{H:ai}{s:SL}(I:Inv X pins σ H s):interactive X.env=false:=by simp[interactive,I.ok.kind]
def Hc(bI:bN):fa:=fun D σ H=>bI σ H fun _ aw=>D.nx σ aw
theorem uW(au:b5 X e bI)(ak:Xj e none pos.line X.env=pure false:=by rfl):hp X (.Expr e pos) (Hc bI):=by
 intro pins s σ H D I h;exact wpAny_Expr_any (b9 (au pins s σ H _ I h) fun v aE ⟨x,aw,a2,av,aN⟩=>⟨σ,aw,a2,aN⟩) I.quiet ak
def Hd(bI:bN):fa:=fun D σ H=>bI σ H D.rt
theorem lP(au:b5 X e bI):hp X (.Return (some e) pos) (Hd bI):=by
 intro pins s σ H D I h;exact wpAny_Return_some (b9 (au pins s σ H _ I h) fun v aE ⟨x,aw,a2,av,aN⟩=>⟨x,σ,aw,a2,av,aN⟩)
def He(c:dC)(t u:fa):fa:=fun D σ H=>c σ H fun b aw=>if b=true then t D σ aw else u D σ aw
theorem uX{c:WP}{a b:List W0}{tc:dC}(hc:hN X c tc)(ax:hq X a t)(ae:hq X b u):hp X (.If c a b pos) (He tc t u):=by
 intro pins s σ H D I h;refine wpAny_If (b9 (hc pins s σ H _ I h) fun d aE ⟨aw,a2,aN⟩=>?_);cases d with
 | true=>exact ax pins aE σ aw D a2 aN
 | false=>exact ae pins aE σ aw D a2 aN
def Hf:fa:=fun _ _ _=>False
theorem Hg:hp X st Hf:=fun _ _ _ _ _ _ h=>h.elim
end
abbrev eI:=V->St->ai->(St->ai->Prop)->Prop
abbrev lQ:=List V->St->ai->(St->ai->Prop)->Prop
def hr(X:aU)(target:WP)(t:eI):Prop :=
 ∀(pins:List (Tl×Obj))(s:SL)(σ:St)(H:ai)(v:V)(u:SC)(Q:St->ai->Prop),Inv X pins σ H s->RelV v u->t v σ H Q ->
  wpAny (UV X.prog X.w) X.A (Yc target X.env u) (fun _ s'=>∃a1 af,Inv X pins a1 af s'/\Q a1 af) X.xe s
def pe(X:aU)(ts:List WP)(t:lQ):Prop :=
 ∀(pins:List (Tl×Obj))(s:SL)(σ:St)(H:ai)(vs:List V)(aG:List SC)(Q:St->ai->Prop),Inv X pins σ H s->bV vs aG->t vs σ H Q ->
  wpAny (UV X.prog X.w) X.A (Yd ((W5 ts X.env).map (·.2)) aG) (fun _ s'=>∃a1 af,Inv X pins a1 af s'/\Q a1 af) X.xe s
abbrev uY:=V->V->V->ai->(ai->Prop)->Prop
def zs(X:aU)(t:uY):Prop :=
 ∀(pins:List (Tl×Obj))(s:SL)(σ:St)(H:ai)(o i v:V)(ov hs u:SC)(Q:ai->Prop),Inv X pins σ H s->RelV o ov->RelV i hs->RelV v u->t o i v H Q ->
  wpAny (UV X.prog X.w) X.A (setItem ov hs u) (fun _ s'=>∃af,Inv X pins σ af s'/\Q af) X.xe s
abbrev re:=V->V->ai->cc->Prop
def zt(X:aU)(dD:Operator)(t:re):Prop :=
 ∀(pins:List (Tl×Obj))(s:SL)(σ:St)(H:ai)(x y:V)(v u:SC)(Q:cc),Inv X pins σ H s->RelV x v->RelV y u->t x y H Q ->
  wpAny (UV X.prog X.w) X.A (inplaceOp dD v u) (fp X pins σ Q) X.xe s
section
variable{X:aU}{pos:Pos}
def rf(i:Nat):eI:=fun v σ H Q=>Q (σ.set i (some v)) H
theorem Hh{i:Nat}{x:Str}(cd:X.N.Nodup)(aC:X.N[i]?=some x)(aj:Loc X.env.scope x)(bG:X.fn x=true∨X.env.scope.names.lookup x=some .local:=by first|exact .inl rfl|exact .inr rfl|assumption):hr X (.Name x pos) (rf i):=by
 intro pins s σ H v u Q I r h;exact wpAny_assign_Name (nZ I cd aC aj r (fun s' kh=>⟨_,H,kh,h⟩) bG)
def Hi:lQ:=fun vs σ H Q=>vs=[]/\Q σ H
def Hj(t:eI)(u:lQ):lQ:=fun vs σ H Q=>∃v r,vs=v::r/\t v σ H fun a1 af=>u r a1 af Q
theorem Hk:pe X [] Hi:=by
 intro pins s σ H vs aG Q I r h;obtain⟨e,h⟩:=h;subst e;cases r;exact assignInOrder_nil ⟨σ,H,I,h⟩
theorem Hl{e:WP}{es:List WP}{t:eI}{u:lQ}(aa:hr X e t)(ab:pe X es u)(ak:(W5 (e::es) X.env).map (·.2)=Yc e X.env::(W5 es X.env).map (·.2):=by rfl):pe X (e::es) (Hj t u):=by
 intro pins s σ H vs aG Q I r h;obtain⟨v,aby,ag,h⟩:=h;subst ag;cases r with
 | cons r lR =>
  rw[ak];refine Xx (b9 (aa pins s σ H _ _ _ I r h) fun _ aE ⟨ht,aw,a2,aN⟩=>?_);exact ab pins aE ht aw _ _ Q a2 lR aN
def Hm(K:Su)(n:Nat)(t:lQ):eI:=fun v σ H Q=>∃a xs,v=.ref a/\eA K H a xs/\xs.length=n/\t xs σ H Q
theorem Hn{es:List WP}{k:Nat}{t:lQ}{n:Nat}(hc:X.calm=true)(h:pe X es t)(aH:(W5 es X.env).length=n:=by rfl)(mI:(W5 es X.env).findIdx? (·.1)=none:=by rfl):hr X (.Tuple es k pos) (Hm X.K n t):=by
 intro pins s σ H v u Q I r hw;obtain⟨a,xs,ag,aL,ay,hw⟩:=hw;subst ag;cases r;obtain⟨its,b2,aR,hz⟩:=I.tuple aL;refine assign_Tuple_tuple (I.ok.hd hc) aR (by simp[aH,<-ay,b2.length]) mI fun h' aj=>?_;have a2:Inv X pins σ H { s with heap:=h' }:=I.kept (t':=s.toks) fun b o e=>aj b o (S4 (Heap.lt_size e)) e;exact h pins _ σ H xs _ Q a2 (by simpa using b2) hw
def Ho(to hu:bN)(t:uY):eI:=fun v σ H Q=>to σ H fun o aw=>hu σ aw fun i aV=>t o i v aV fun ca=>Q σ ca
theorem zu{o i:WP}{to hu:bN}{t:uY}(aA:b5 X o to)(aC:b5 X i hu)(ak:zs X t)(ax:∀v,Yc (.Subscript o i pos) X.env v=(do
   let ov <-XO [v] (W7 o X.env)
   let hs <-XO [v,ov] (W7 i X.env)
   X6 pos
   XO [v,ov,hs] (setItem ov hs v)
   release [v,ov,hs] []):=by intro _;rfl):hr X (.Subscript o i pos) (Ho to hu t):=by
 intro pins s σ H v u Q I r h;rw[ax];refine SB (WW (b9 (aA pins s σ H _ I h) fun ov aE ⟨x,aw,a2,av,aN⟩=>?_));refine SB (WW (b9 (aC pins aE σ aw _ a2 aN) fun hs a4 ⟨y,aV,dg,aK,a3⟩=>?_));refine SB (Xb (SB (WW (b9 (ak pins a4 σ aV x y v ov hs u _ dg av aK r a3) fun _ a8 ⟨ca,bU,cE⟩=>?_))));exact wpAny_release ⟨σ,ca,bU,cE⟩
def uZ(bI:bN)(g:eI):fa:=fun D σ H=>bI σ H fun x aw=>g x σ aw D.nx
theorem u0{a6 e:WP}{bI:bN}{g:eI}(au:b5 X e bI)(aD:hr X a6 g)(ak:XE [a6] e pos.line X.env=pure false:=by rfl)(hw:XF [a6] e X.env=pure none:=by rfl)(aa:(W5 [a6] X.env).map (·.2)=[Yc a6 X.env]:=by rfl):hp X (.Assign [a6] e pos) (uZ bI g):=by
 intro pins s σ H D I h;refine wpAny_Assign_stores (b9 (au pins s σ H _ I h) fun v aE ⟨x,aw,a2,av,aN⟩=>?_) ak hw;rw[aa];exact b9 (aD pins aE σ aw x v _ a2 av aN) fun _ a4 q=>q
theorem rh{i:Nat}{x:Str}{e:WP}{bI:bN}{g1:Pos}(cd:X.N.Nodup)(aC:X.N[i]?=some x)(aj:Loc X.env.scope x)(au:b5 X e bI)(ak:Xj e (some (.Name x g1)) pos.line X.env=pure false:=by rfl)(bG:X.fn x=true∨X.env.scope.names.lookup x=some .local:=by first|exact .inl rfl|exact .inr rfl|assumption):
  hp X (.Assign [.Name x g1] e pos) (uZ bI (rf i)):=by
 intro pins s σ H D I h;refine wpAny_Assign_Name (b9 (au pins s σ H _ I h) fun v aE ⟨y,aw,a2,av,aN⟩=>?_) ak;exact nZ a2 cd aC aj av (fun a4 dg=>⟨_,aw,dg,aN⟩) bG
def Hp(i j:Nat)(ta:eE):fa:=fun D σ H=>ta σ H fun vs aw=>∃v w,vs=[v,w]/\D.nx ((σ.set i (some v)).set j (some w)) aw
theorem Hq{i j:Nat}{x y:Str}{a b:WP}{ta:eE}{dy gJ pt:Pos}{mJ bP mK}(hc:X.calm=true)(cd:X.N.Nodup)(aC:X.N[i]?=some x)(bz:X.N[j]?=some y)(pf:i≠j)(aj:X.env.scope.names.lookup x=some .local)(aM:X.env.scope.names.lookup y=some .local)(ax:gG X [a,b] ta)(hw:XF [.Tuple [.Name x dy,.Name y gJ] mJ pt] (.Tuple [a,b] bP mK) X.env=pure (some [x,y]))(ak:XE [.Tuple [.Name x dy,.Name y gJ] mJ pt] (.Tuple [a,b] bP mK) pos.line X.env=pure false:=by rfl):
  hp X (.Assign [.Tuple [.Name x dy,.Name y gJ] mJ pt] (.Tuple [a,b] bP mK) pos) (Hp i j ta):=by
 intro pins s σ H D I h;rw[exec_Assign_arm];refine SB (Xb ?_);rw[ak];refine SB (TD ?_);rw[TT (by decide)];refine SB (Tuple_ (b9 (ax _ pins s σ H _ I h) fun aG aE ⟨vs,aw,a2,av,aN⟩=>?_));obtain⟨v,w,ag,aN⟩:=aN;subst ag
 obtain⟨g2,fX,rfl,b2,ph⟩:∃g2 fX,aG=[g2,fX]/\RelV v g2/\RelV w fX:=by
  cases av with
  | cons p q =>
   cases q with
   | cons kj fW =>
    cases fW;exact⟨_,_,rfl,p,kj⟩
 refine WX ?_ (by show 2<=SZ;decide);have dg:Inv X pins σ aw { aE with heap:=aE.heap.push { cls:=.type "tuple",data:=.seq [g2,fX].toArray } }:=a2.kept (t':=aE.toks) fun b o e=>Heap.get?_push_of_some _ e;rw[hw];refine SB (TD ?_);show wpAny (UV X.prog X.w) X.A (do rule "assign.swapped-stores";let items <-unpackItems (.ref aE.heap.objs.size) 2 none;Yd [fun v=>YF X.env y v,fun v=>YF X.env x v] items.reverse;pure Flow.next) _ _ _;refine SB (Ys (SB (unpackItems_tuple (items :=#[g2,fX]) (I.ok.hd hc) (IsTup.new aE.heap _) fun h' ri=>?_)));have bU:=dg.kept (h':=h') (t':=aE.toks) fun b o e=>ri b o (S4 (Heap.lt_size e)) e;show wpAny _ _ (Yd [fun v=>YF X.env y v,fun v=>YF X.env x v] [fX,g2] >>= fun _=>pure Flow.next) _ _ _
 refine SB (Xx (wpAny_bindName (nZ bU cd bz (.inl aM) ph (fun a4 g4=>?_) (.inr aM))));refine Xx (wpAny_bindName (nZ g4 cd aC (.inl aj) b2 (fun a8 I5=>assignInOrder_nil (TD ?_)) (.inr aj)));rw[List.set_comm _ _ (Tp pf)]at I5;exact⟨_,aw,I5,aN⟩
def Hr(i:Nat)(bI:bN)(hu:re):fa:=fun D σ H=>∃x,σ[i]?=some (some x)/\bI σ H fun y aw=>hu x y aw fun z aV=>D.nx (σ.set i (some z)) aV
theorem Hs{i:Nat}{x:Str}{e:WP}{bI:bN}{dD:Operator}{hu:re}{g1:Pos}(cd:X.N.Nodup)(aC:X.N[i]?=some x)(aj:Loc X.env.scope x)(au:b5 X e bI)(aA:zt X dD hu)(bG:X.fn x=true∨X.env.scope.names.lookup x=some .local:=by first|exact .inl rfl|exact .inr rfl|assumption):
  hp X (.AugAssign (.Name x g1) dD e pos) (Hr i bI hu):=by
 intro pins s σ H D I h;obtain⟨v,ag,h⟩:=h;obtain⟨m,aH,ay⟩:=I.loc;have Ht:iF X.env.scope x:=by rcases aj with k|k;exact .inl k;exact .inr (.inl k)
 obtain⟨u,r,l⟩:=ay i x v aC ag Ht;refine wpAny_AugAssign_Name ?_
 have go:wpAny (UV X.prog X.w) X.A (W7 e X.env) (fun w u1=>wpAny (UV X.prog X.w) X.A (inplaceOp dD u w) (fun r Hu=>wpAny (UV X.prog X.w) X.A (storeName X.env x r) (fun _=>n0 X pins D .next) X.xe Hu) X.xe u1) X.xe s:=by
  refine b9 (au pins s σ H _ I h) fun w aE ⟨y,aw,a2,av,aN⟩=>?_;refine b9 (aA pins aE σ aw v y u w _ a2 r av aN) fun z a4 ⟨abz,aV,dg,aK,a3⟩=>?_;exact nZ dg cd aC aj aK (fun a8 bU=>⟨_,aV,bU,a3⟩) bG
 rcases l with⟨ah,aB⟩|⟨ah,c,hc,rb⟩
 ·exact XZ I.ok.kind ah aH aB go
 ·rcases ah with ah|ah
  ·exact X5 I.ok.kind ah hc rb go
  ·rcases aj with k|k
   ·have:X.env.scope.names.lookup x=some .free:=ah;rw[k]at this;cases this
   ·have:X.env.scope.names.lookup x=some .free:=ah;rw[k]at this;cases this
def Hv(f:Int->Int->Int):re:=fun x y H Q=>∃i j,x=.int i/\y=.int j/\Q (.int (f i j)) H
theorem Hw:zt X .Add (Hv fun i j=>i+j):=by
 intro pins s σ H x y v u Q I av aK h;obtain⟨i,j,ag,ao,q⟩:=h;subst ag;subst ao;obtain⟨t,rfl⟩:=av;obtain⟨t',rfl⟩:=aK;exact iadd_int ⟨.int _,H,I.tok _,⟨_,rfl⟩,q⟩
end
section
variable{X:aU}{pos:Pos}
def Hx(c:dC)(tb:fa):fa:=fun D σ H=>∃W:Nat->St->ai->Prop,(∃m,W m σ H)/\∀m σ H,W m σ H ->
 c σ H fun b aw=>if b=true then ∃N:St->ai->Prop,(∀a1 af,N a1 af->∃df,df<m/\W df a1 af)/\tb { D with nx:=N,ct:=N,bk:=D.nx } σ aw else D.nx σ aw
theorem Hy{c:WP}{body:List W0}{tc:dC}{tb:fa}(aq:Ye (UV X.prog X.w) X.A X.env X.xe)(hc:hN X c tc)(ae:hq X body tb):hp X (.While c body [] pos) (Hx tc tb):=by
 intro pins s σ H D I h;obtain⟨W,⟨cS,eU⟩,turn⟩:=h;refine wpAny_While (codeAny_whileLoop (fun n s'=>∃a1 af,Inv X pins a1 af s'/\W n a1 af) ?_ cS ⟨σ,H,I,eU⟩);rintro n aE ⟨ht,aw,a2,gd⟩;refine W3 aq (b9 (hc pins aE ht aw _ a2 (turn n ht aw gd)) fun b a4 ⟨aV,dg,a3⟩=>?_);cases b with
 | true =>
  obtain⟨N,cd,a3⟩:=a3;rw[TI rfl];refine W3 aq (b9 (ae pins a4 ht aV _ dg a3) fun f a8 cE=>?_);cases f with
  | next =>
   obtain⟨fq,ca,bU,gK⟩:=cE;obtain⟨df,aB,h6⟩:=cd fq ca gK;exact⟨df,aB,fq,ca,bU,h6⟩
  | cont =>
   obtain⟨fq,ca,bU,gK⟩:=cE;obtain⟨df,aB,h6⟩:=cd fq ca gK;exact⟨df,aB,fq,ca,bU,h6⟩
  | brk=>exact cE
  | ret v=>exact cE
 | false =>
  rw[TT SP];exact Xu ⟨ht,aV,dg,a3⟩
end
structure gf where
 go:Nat->ai->Prop
 yld:Nat->ai->V->ai->Prop
 stop:Nat->ai->Prop
def eV(X:aU)(pins:List (Tl×Obj))(H:ai)(b:Tl):Prop :=
 H b=none/\b≠X.env.locals/\b∉X.fs/\(b∈X.ex∨X.s₀.heap.objs.size<=b)/\(∀x c,X.env.cells.lookup x=some c->c≠b)/\∀p∈X.pn++pins,p.1≠b
theorem Inv.fpOk{X:aU}{pins:List (Tl×Obj)}{σ:St}{H af:ai}{s:SL}{b:Tl}(I:Inv X pins σ H s)(ae:s.heap.objs.size<=b)(aH:af b=none):eV X pins af b:=by
 refine⟨aH,TA (S5 I.lt ae),I.nofs ae,.inr (SA I.sz ae),fun x c e z=>?_,fun p aq z=>?_⟩
 ·obtain⟨v,q⟩:=I.cell x c e;exact absurd (S5 q.lt (by rw[z];exact ae)) (S6 _)
 ·exact absurd (S5 (Heap.lt_size (I.pin p aq).1) (by rw[z];exact ae)) (S6 _)
structure mL (P:WF) (w:WU) (K:Su) (a6:WP) (J:gf) (bO:List Tl) (it:Tl) (e2:Nat->WY->Prop):Prop where
 mem:it∈bO
 obj:∀i h,e2 i h->∀b∈bO,∃o,h.get? b=some o/\∀v,o.data≠.cell v
 keep:∀i h h',e2 i h->(∀b∈bO,∀o,h.get? b=some o->h'.get? b=some o)->e2 i h'
 item:∀(X:aU),X.prog=P->X.w=w->X.K=K->X.calm=true->∀(i:Nat)(pins:List (Tl×Obj))(s:SL)(σ:St)(H:ai)(E:SC->SL->Prop),Inv X pins σ H s->(∀b∈bO,eV X pins H b)->e2 i s.heap->J.go i H ->
  wpAny (UV P w) X.A (Yg (.ref it)) (fun r aE=>∃u,r=some u /\
   wpAny (UV P w) X.A (Xk a6 (.ref it) u) (fun _ a4=>∃x af,Inv X pins σ af a4/\RelV x u/\J.yld i H x af/\e2 (i+1) a4.heap/\∀b∈bO,af b=none) E aE) E s
 done:∀(X:aU),X.prog=P->X.w=w->X.K=K->X.calm=true->∀(i:Nat)(pins:List (Tl×Obj))(s:SL)(σ:St)(H:ai)(E:SC->SL->Prop),Inv X pins σ H s->(∀b∈bO,eV X pins H b)->e2 i s.heap->J.stop i H ->
  wpAny (UV P w) X.A (Yg (.ref it)) (fun r aE=>r=none/\Inv X pins σ H aE) E s
 self:∀(A:WV)(i:Nat)(s:SL)(Q:SC->SL->Prop)(E:SC->SL->Prop),e2 i s.heap->Q (.ref it) s->wpAny (UV P w) A (pyIter (.ref it)) Q E s
abbrev bQ:=St->ai->(gf->ai->Prop)->Prop
def zv(X:aU)(pins:List (Tl×Obj))(σ:St)(a6:WP)(R:gf->ai->Prop)(kk:SC)(a4:SL):Prop :=
 ∃(it:Tl)(bO:List Tl)(e2:Nat->WY->Prop)(J:gf)(af:ai),kk=.ref it/\Inv X pins σ af a4/\mL X.prog X.w X.K a6 J bO it e2/\e2 0 a4.heap/\(∀b∈bO,eV X pins af b)/\R J af
def hv(X:aU)(a6 cA:WP)(wi:bQ):Prop :=
 ∀(pins:List (Tl×Obj))(s:SL)(σ:St)(H:ai)(R:gf->ai->Prop),Inv X pins σ H s->wi σ H R ->
  wpAny (UV X.prog X.w) X.A (W7 cA X.env) (fun v aE=>wpAny (UV X.prog X.w) X.A (pyIter v) (zv X pins σ a6 R) X.xe aE) X.xe s
theorem u2{M:Model}{A:WV}{E:SC->SL->Prop}{s:SL}{a6:WP}{it:Tl}{u:SC}{o:Obj}{n:String}{vs:Array SC}{Q:Unit->SL->Prop}(aA:s.heap.get? it=some o)(hc:o.cls=.type n)(hd:o.data=.fields vs)(aH:["enumerate","zip","dict_itemiterator","dict_reverseitemiterator","odict_iterator","itertools.zip_longest","itertools.pairwise"].contains n=false)(gH:Q () s): wpAny M A (Xk a6 (.ref it) u) Q E s:=by
  unfold Xk
  cases a6<;>first
    | exact TD gH
    | (cases u<;>first
        | exact TD gH
        | (refine SB (wpAny_load aA ?_)
           rw[hc,hd];show wpAny M A (if(["enumerate","zip","dict_itemiterator","dict_reverseitemiterator","odict_iterator","itertools.zip_longest","itertools.pairwise"].contains n&&vs[0]?==some (XQ _))=true then _ else _) Q E s
           rw[TT (by intro h;rw[aH,Bool.false_and]at h;cases h)]
           exact TD gH))
def u3(K:Su)(a:Tl):gf :=
 ⟨fun i H=>∃xs x,cl K H a xs/\xs[i]?=some x,fun i H x af=>af=H/\∀xs,cl K H a xs->xs[i]?=some x,fun i H=>∃xs,cl K H a xs/\xs.length<=i⟩
def u4(K:Su)(a:Tl):gf :=
 ⟨fun i H=>∃xs x,eA K H a xs/\xs[i]?=some x,fun i H x af=>af=H/\∀xs,eA K H a xs->xs[i]?=some x,fun i H=>∃xs,eA K H a xs/\xs.length<=i⟩
def rj(lo:Int)(n:Nat):gf:=⟨fun i _=>i<n,fun i H x af=>af=H/\x=.int (lo+i),fun i _=>n<=i⟩
theorem Hz{P:WF}{w:WU}{K:Su}{a6:WP}(a it:Tl):mL P w K a6 (u3 K a) [it] it (fun i h=>h.IsListIter it a i) where
 mem:=by simp
 obj:=fun i h st b ae=>by
  have e:b=it:=by simpa using ae
  subst e;obtain⟨o,e,c,d⟩:=st;exact⟨o,e,fun v z=>by rw[d]at z;cases z⟩
 keep:=fun i h h' st k=>st.at fun o e=>k it (by simp) o e
 item:=by
  intro X da hw cF hc i pins s σ H E I bG st aD;subst da hw cF;obtain⟨xs,x,aL,aj⟩:=aD;obtain⟨its,b2,p,hz⟩:=I.list aL;obtain⟨u,bM,gr⟩:=b2.get aj;obtain⟨d2,bd,bH,bW,c0,dM⟩:=bG it (by simp);refine wpAny_pyNext_list_item st p.isList (x:=u) (by simpa using bM) fun h' lS dj=>?_;have a2:Inv X pins σ H { s with heap:=h' }:=I.turned (t':=s.toks) (fun b o ae e=>(dj.2 b ae).trans e) d2 bd bW c0 dM;obtain⟨o,e,c,d⟩:=id lS;exact⟨u,rfl,u2 (s:={ s with heap:=h' }) e c d (by decide) ⟨x,H,a2,gr,⟨rfl,fun ys aM=>by rw[I.list_inj aM aL];exact aj⟩,lS,fun b ae=>(bG b ae).1⟩⟩
 done:=by
  intro X da hw cF hc i pins s σ H E I bG st aD;subst da hw cF;obtain⟨xs,aL,aj⟩:=aD;obtain⟨its,b2,p,hz⟩:=I.list aL;obtain⟨d2,bd,bH,bW,c0,dM⟩:=bG it (by simp);have ay:=b2.length;exact wpAny_pyNext_list_end (I.ok.hd hc) st p.isList (by simp;lia) fun h' jB=>⟨rfl,I.turned (t':=s.toks) (fun b o ae e=>jB b o ae e) d2 bd bW c0 dM⟩
 self:=fun _ _ _ _ _ st h=>wpAny_pyIter_listiter st h
theorem HA{P:WF}{w:WU}{K:Su}{a6:WP}(a it:Tl):mL P w K a6 (u4 K a) [it] it (fun i h=>h.IsTupleIter it a i) where
 mem:=by simp
 obj:=fun i h st b ae=>by
  have e:b=it:=by simpa using ae
  subst e;obtain⟨o,e,c,d⟩:=st;exact⟨o,e,fun v z=>by rw[d]at z;cases z⟩
 keep:=fun i h h' st k=>st.at fun o e=>k it (by simp) o e
 item:=by
  intro X da hw cF hc i pins s σ H E I bG st aD;subst da hw cF;obtain⟨xs,x,aL,aj⟩:=aD;obtain⟨its,b2,p,hz⟩:=I.tuple aL;obtain⟨u,bM,gr⟩:=b2.get aj;obtain⟨d2,bd,bH,bW,c0,dM⟩:=bG it (by simp);refine wpAny_pyNext_tuple_item st (show s.heap.IsTuple a its.toArray from p) (x:=u) (by simpa using bM) fun h' lS dj=>?_;have a2:Inv X pins σ H { s with heap:=h' }:=I.turned (t':=s.toks) (fun b o ae e=>(dj.2 b ae).trans e) d2 bd bW c0 dM;obtain⟨o,e,c,d⟩:=id lS;exact⟨u,rfl,u2 (s:={ s with heap:=h' }) e c d (by decide) ⟨x,H,a2,gr,⟨rfl,fun ys aM=>by rw[I.tuple_inj aM aL];exact aj⟩,lS,fun b ae=>(bG b ae).1⟩⟩
 done:=by
  intro X da hw cF hc i pins s σ H E I bG st aD;subst da hw cF;obtain⟨xs,aL,aj⟩:=aD;obtain⟨its,b2,p,hz⟩:=I.tuple aL;obtain⟨d2,bd,bH,bW,c0,dM⟩:=bG it (by simp);have ay:=b2.length;exact wpAny_pyNext_tuple_end (I.ok.hd hc) st (show s.heap.IsTuple a its.toArray from p) (by simp;lia) fun h' jB=>⟨rfl,I.turned (t':=s.toks) (fun b o ae e=>jB b o ae e) d2 bd bW c0 dM⟩
 self:=fun _ _ _ _ _ st h=>wpAny_pyIter_tupleiter st h
theorem HB{P:WF}{w:WU}{K:Su}{a6:WP}(it:Tl)(lo:Int)(n:Nat):mL P w K a6 (rj lo n) [it] it (fun i h=>IsRangeIter h it (lo+(i:Nat)*1) ((n:Int)-(i:Nat)) 1) where
 mem:=by simp
 obj:=fun i h st b ae=>by
  have e:b=it:=by simpa using ae
  subst e
  exact⟨_,st,fun v z=>by
   have eP:Data.fields _=Data.cell v:=z
   cases eP⟩
 keep:=fun i h h' st k=>k it (by simp) _ st
 item:=by
  intro X da hw cF hc i pins s σ H E I bG st aD;subst da hw cF;obtain⟨d2,bd,bH,bW,c0,dM⟩:=bG it (by simp);have W:=Walks.range (prog:=X.prog) (w:=X.w) (I.ok.hd hc) it lo 1 n;refine W.item i s _ _ aD st fun v h' dr a' lS aW=>?_;obtain⟨t,rfl⟩:=a';have a2:Inv X pins σ H { s with heap:=h',toks:=dr }:=I.turned (fun b o ae e=>aW b o (by simpa using ae) e) d2 bd bW c0 dM;refine⟨_,rfl,u2 (s:={ s with heap:=h',toks:=dr }) (n:="range_iterator") lS rfl rfl (by decide) ⟨.int (lo+i),H,a2,⟨t,?_⟩,⟨rfl,rfl⟩,lS,fun b ae=>(bG b ae).1⟩⟩;rw[Int.mul_one]
 done:=by
  intro X da hw cF hc i pins s σ H E I bG st aD;subst da hw cF;obtain⟨d2,bd,bH,bW,c0,dM⟩:=bG it (by simp);exact wpAny_pyNext_range_end (I.ok.hd hc) st (by have:n<=i:=aD;lia) fun h' jB=>⟨rfl,I.turned (t':=s.toks) (fun b o ae e=>jB b o ae e) d2 bd bW c0 dM⟩
 self:=fun _ _ _ _ _ st h=>wpAny_pyIter_rangeiter st h
section
variable{X:aU}{a6:WP}
def HC(K:Su)(fb:bN):bQ:=fun σ H R=>fb σ H fun x aw=>∃a,x=.ref a/\(∃xs,cl K aw a xs)/\R (u3 K a) aw
def HD(K:Su)(fb:bN):bQ:=fun σ H R=>fb σ H fun x aw=>∃a,x=.ref a/\(∃xs,eA K aw a xs)/\R (u4 K a) aw
theorem HE{l:WP}{fb:bN}(ay:b5 X l fb):hv X a6 l (HC X.K fb):=by
 intro pins s σ H R I h;refine b9 (ay pins s σ H _ I h) fun v aE ⟨x,aw,a2,av,aN⟩=>?_;obtain⟨a,e,⟨xs,aL⟩,q⟩:=aN;subst e;cases av;obtain⟨its,b2,p,hz⟩:=a2.list aL;refine wpAny_pyIter_list p.isList ?_;refine⟨aE.heap.objs.size,[aE.heap.objs.size],_,_,aw,rfl,a2.kept (t':=aE.toks) fun b o e=>Heap.get?_push_of_some _ e,Hz a _,⟨_,Heap.get?_push_size _ rfl,rfl,rfl⟩,fun b ae=>?_,q⟩;have e:b=aE.heap.objs.size:=by simpa using ae
 subst e;exact a2.fpOk (SD _) (a2.hok.fresh (SD _))
theorem HF{l:WP}{fb:bN}(ay:b5 X l fb):hv X a6 l (HD X.K fb):=by
 intro pins s σ H R I h;refine b9 (ay pins s σ H _ I h) fun v aE ⟨x,aw,a2,av,aN⟩=>?_;obtain⟨a,e,⟨xs,aL⟩,q⟩:=aN;subst e;cases av;obtain⟨its,b2,p,hz⟩:=a2.tuple aL;refine wpAny_pyIter_tuple (show aE.heap.IsTuple a its.toArray from p) ?_;refine⟨aE.heap.objs.size,[aE.heap.objs.size],_,_,aw,rfl,a2.kept (t':=aE.toks) fun b o e=>Heap.get?_push_of_some _ e,HA a _,⟨_,Heap.get?_push_size _ rfl,rfl,rfl⟩,fun b ae=>?_,q⟩;have e:b=aE.heap.objs.size:=by simpa using ae
 subst e;exact a2.fpOk (SD _) (a2.hok.fresh (SD _))
theorem HG{pins:List (Tl×Obj)}{σ:St}{H:ai}{s:SL}{R:gf->ai->Prop}{E:SC->SL->Prop}{lo aC:Int}{t u v:Tok}{dr:Nat}(I:Inv X pins σ H s)(aa : -(2^62)<=lo)(ab:lo<2^62)(aQ : -(2^62)<=aC)(bB:aC<2^62)(q:R (rj lo (aC-lo).toNat) H):wpAny (UV X.prog X.w) X.A (pyIter (.ref s.heap.objs.size)) (zv X pins σ a6 R) E { s with heap:=s.heap.push { cls:=.type "range",data:=.fields #[.int lo t,.int aC u,.int 1 v] },toks:=dr }:=by
 refine wpAny_pyIter_range (IsRange.new ..) (small_one aa ab aQ bB) ?_;have a2:Inv X pins σ H { s with heap:=s.heap.push { cls:=.type "range",data:=.fields #[.int lo t,.int aC u,.int 1 v] },toks:=dr }:=I.kept fun b o e=>Heap.get?_push_of_some _ e
 refine⟨(s.heap.push { cls:=.type "range",data:=.fields #[.int lo t,.int aC u,.int 1 v] }).objs.size,[(s.heap.push { cls:=.type "range",data:=.fields #[.int lo t,.int aC u,.int 1 v] }).objs.size],_,_,H,rfl,
  a2.kept (t':=dr) fun b o e=>Heap.get?_push_of_some _ e,HB _ lo (aC-lo).toNat,?_,fun b ae=>?_,q⟩
 ·have ag:lo+((0:Nat):Int)*1=lo:=by simp
  have ao:(((aC-lo).toNat:Nat):Int)-((0:Nat):Int)=Builtin.Range.rangeSize lo aC 1:=by rw[rangeSize_one];split<;>lia
  show IsRangeIter _ _ (lo+((0:Nat):Int)*1) ((((aC-lo).toNat:Nat):Int)-((0:Nat):Int)) 1
  rw[ag,ao];exact Heap.get?_push_size _ rfl
 ·have e:b=(s.heap.push { cls:=.type "range",data:=.fields #[.int lo t,.int aC u,.int 1 v] }).objs.size:=by simpa using ae
  subst e;exact a2.fpOk (SD _) (a2.hok.fresh (SD _))
def HH(ta:eE):bQ:=fun σ H R=>ta σ H fun vs aw=>∃j:Int,vs=[.int j] /\ -(2^62)<=j/\j<2^62/\R (rj 0 j.toNat) aw
theorem HI{a:WP}{ta:eE}{p pos:Pos}(aD:ep X "range")(aB:X.mg "range"=none)(ax:gG X [a] ta)(ak:Tk [a] X.env=[(false,W7 a X.env)]:=by rfl):hv X a6 (.Call (.Name "range" p) [a] [] pos) (HH ta):=by
 intro pins s σ H R I h;refine Call_ (kX I aD aB boot_range (Ui (b9 (ax pos pins s σ H _ I h) fun aG aE ⟨vs,aw,a2,av,aN⟩=>?_) ak rfl));obtain⟨j,e,aN,a3,q⟩:=aN;subst e;cases av with
 | cons r lR =>
  cases lR;obtain⟨t,rfl⟩:=r;exact call_range_1 (HG a2 (by lia) (by lia) aN a3 (by simpa using q))
def HJ(wi:bQ)(g:eI)(tb:fa):fa:=fun D σ H=>wi σ H fun J aw=>∃W:Nat->Nat->St->ai->Prop,(∃m,W 0 m σ aw)/\∀i m σ H,W i m σ H ->
 (J.stop i H/\D.nx σ H)∨(J.go i H/\∃N:St->ai->Prop,(∀a1 af,N a1 af->∃df,df<m/\W (i+1) df a1 af)/\∀x af,J.yld i H x af->g x σ af fun kl aV=>tb { D with nx:=N,ct:=N,bk:=D.nx } kl aV)
def n5(bO:List Tl)(h:WY):List (Tl×Obj):=bO.filterMap fun b=>(h.get? b).map fun o=>(b,o)
theorem n6{bO:List Tl}{h:WY}{b:Tl}{o:Obj}(ae:b∈bO)(e:h.get? b=some o):(b,o)∈n5 bO h:=TH.mpr ⟨b,ae,by rw[e];rfl⟩
theorem HK{bO:List Tl}{h:WY}{p:Tl×Obj}(aq:p∈n5 bO h):p.1∈bO/\h.get? p.1=some p.2:=by
 obtain⟨b,ae,e⟩:=TH.mp aq;cases q:h.get? b with
 | none=>rw[q]at e;cases e
 | some o =>
  rw[q]at e;have bq:(b,o)=p:=SM e;subst bq;exact⟨ae,q⟩
theorem Inv.pinned{pins:List (Tl×Obj)}{σ:St}{H:ai}{s:SL}{bO:List Tl}(I:Inv X pins σ H s)(bG:∀b∈bO,eV X pins H b)(aA:∀b∈bO,∃o,s.heap.get? b=some o/\∀v,o.data≠.cell v):Inv X (pins++n5 bO s.heap) σ H s :=
 I.pins_of fun p aq=>(SI.mp aq).elim (fun z=>I.pin p (SN _ z)) fun z=>by
  obtain⟨ae,e⟩:=HK z;obtain⟨d2,bd,bH,_⟩:=bG p.1 ae;obtain⟨o,bq,d⟩:=aA p.1 ae;rw[e]at bq;cases bq;exact⟨e,d2,bd,bH,d⟩
theorem Inv.unpinned{pins cV:List (Tl×Obj)}{σ:St}{H:ai}{s:SL}(I:Inv X (pins++cV) σ H s):Inv X pins σ H s:=I.pins_of fun p aq=>I.pin p (SN _ (Tf _ aq))
theorem zw{cA:WP}{body:List W0}{wi:bQ}{g:eI}{tb:fa}{pos:Pos}(aq:Ye (UV X.prog X.w) X.A X.env X.xe)(hc:X.calm=true)(aC:hv X a6 cA wi)(aD:hr X a6 g)(ae:hq X body tb)(ak:∀x,Wp cA X.env x=pure x:=by intro _;rfl):hp X (.For a6 cA body [] pos) (HJ wi g tb):=by
 intro pins s σ H D I h;refine wpAny_For (b9 (aC pins s σ H _ I h) fun v aE aa=>b9 aa fun kk a4 ab=>?_) ak;obtain⟨it,bO,e2,J,aV,e,dg,T,hx,bH,W,⟨cS,eU⟩,turn⟩:=ab;subst e;have iG:∀{af:ai},(∀b∈bO,af b=none)->∀b∈bO,eV X pins af b:=fun aH b ae=>⟨aH b ae,(bH b ae).2⟩;refine codeAny_forLoop_any (fun n s'=>∃i a1 af,Inv X pins a1 af s'/\e2 i s'.heap/\(∀b∈bO,af b=none)/\W i n a1 af) ?_ cS ⟨0,σ,aV,dg,hx,fun b ae=>(bH b ae).1,eU⟩;rintro n a8 ⟨i,fq,ca,bU,zx,zy,h6⟩;rcases turn i n fq ca h6 with⟨stop,zz⟩|⟨go,N,cd,step⟩
 ·refine W3 aq (b9 (T.done X rfl rfl rfl hc i pins a8 fq ca X.xe bU (iG zy) zx stop) fun r eW ⟨am,g4⟩=>?_);subst am;exact Xu ⟨fq,ca,g4,zz⟩
 ·refine W3 aq (b9 (T.item X rfl rfl rfl hc i pins a8 fq ca X.xe bU (iG zy) zx go) fun r eW ⟨u,am,bB⟩=>?_);subst am;refine W3 aq (b9 bB fun _ d3 ⟨x,dJ,I5,HL,HM,kY,mM⟩=>?_);have HN:=I5.pinned (iG mM) (T.obj _ _ kY);refine W3 aq (b9 (aD _ d3 fq dJ x u _ HN HL (step x dJ HM)) fun _ dZ ⟨HO,HP,fG,zA⟩=>?_);refine W3 aq (b9 (ae _ dZ HO HP _ fG zA) fun f gs lT=>?_)
  have again:∀{jC:St}{g6:ai},Inv X (pins++n5 bO d3.heap) jC g6 gs->N jC g6->∃m,m<n/\∃i a1 af,Inv X pins a1 af gs/\e2 i gs.heap/\(∀b∈bO,af b=none)/\W i m a1 af:=fun{jC g6} gL pi=>by
   obtain⟨df,aB,HQ⟩:=cd jC g6 pi;refine⟨df,aB,i+1,jC,g6,gL.unpinned,T.keep _ _ _ kY fun b ae o e=>(gL.pin (b,o) (SN _ (SN _ (n6 ae e)))).1,fun b ae=>?_,HQ⟩;obtain⟨o,e,d⟩:=T.obj _ _ kY b ae;exact(gL.pin (b,o) (SN _ (SN _ (n6 ae e)))).2.1
  cases f with
  | next=>obtain⟨jC,g6,gL,pi⟩:=lT;exact again gL pi
  | cont=>obtain⟨jC,g6,gL,pi⟩:=lT;exact again gL pi
  | brk=>obtain⟨jC,g6,gL,lT⟩:=lT;exact⟨jC,g6,gL.unpinned,lT⟩
  | ret v=>obtain⟨HR,jC,g6,gL,pj,lT⟩:=lT;exact⟨HR,jC,g6,gL.unpinned,pj,lT⟩
end
abbrev hy:=V->V->ai->cc->Prop
def eX(X:aU)(f:SC->SC->Sem SC)(r:hy):Prop :=
 ∀(pins:List (Tl×Obj))(s:SL)(σ:St)(H:ai)(x y:V)(v u:SC)(Q:cc),Inv X pins σ H s->RelV x v->RelV y u->r x y H Q ->
  wpAny (UV X.prog X.w) X.A (f v u) (fp X pins σ Q) X.xe s
def u5(X:aU)(f:SC->Sem SC)(r:V->ai->cc->Prop):Prop :=
 ∀(pins:List (Tl×Obj))(s:SL)(σ:St)(H:ai)(x:V)(v:SC)(Q:cc),Inv X pins σ H s->RelV x v->r x H Q ->
  wpAny (UV X.prog X.w) X.A (f v) (fp X pins σ Q) X.xe s
def km(X:aU)(f:SC)(r:List V->ai->cc->Prop):Prop :=
 ∀(pins:List (Tl×Obj))(s:SL)(σ:St)(H:ai)(xs:List V)(aG:List SC)(Q:cc),Inv X pins σ H s->bV xs aG->r xs H Q ->
  wpAny (UV X.prog X.w) X.A (call f aG) (fp X pins σ Q) X.xe s
def HS(X:aU)(r:V->ai->(Bool->ai->Prop)->Prop):Prop :=
 ∀(pins:List (Tl×Obj))(s:SL)(σ:St)(H:ai)(x:V)(v:SC)(Q:Bool->ai->Prop),Inv X pins σ H s->RelV x v->r x H Q ->
  wpAny (UV X.prog X.w) X.A (YL v) (ra X pins σ Q) X.xe s
def kn(r:hy)(ta tb:bN):bN:=fun σ H Q=>ta σ H fun x aw=>tb σ aw fun y aV=>r x y aV Q
def u6(r:V->ai->cc->Prop)(ta:bN):bN:=fun σ H Q=>ta σ H fun x aw=>r x aw Q
def mN(C:Int->Int->Prop)(g:Int->Int->V):hy:=fun x y H Q=>∃i j,x=.int i/\y=.int j/\C i j/\Q (g i j) H
def ja(g:Int->Int->V):hy:=fun x y H Q=>∃i j,x=.int i/\y=.int j/\Q (g i j) H
def u7(g:Int->V):V->ai->cc->Prop:=fun x H Q=>∃i,x=.int i/\Q (g i) H
section
variable{X:aU}{a b c:WP}{ta tb tc:bN}{pos:Pos}
theorem u8(ax:b5 X a ta)(ae:b5 X b tb){pins:List (Tl×Obj)}{s:SL}{σ:St}{H:ai}{R:V->V->ai->Prop}(I:Inv X pins σ H s)(h:ta σ H fun x aw=>tb σ aw fun y aV=>R x y aV){Q:SC->SL->Prop}{f:SC->SC->Sem SC}(bG:∀v u a4 x y aV,Inv X pins σ aV a4->RelV x v->RelV y u->R x y aV->wpAny (UV X.prog X.w) X.A (f v u) Q X.xe a4):
  wpAny (UV X.prog X.w) X.A (W7 a X.env) (fun v c4=>wpAny (UV X.prog X.w) X.A (W7 b X.env) (fun u u1=>wpAny (UV X.prog X.w) X.A (f v u) Q X.xe u1) X.xe c4) X.xe s:=by
 refine b9 (ax pins s σ H _ I h) fun v aE ⟨x,aw,a2,av,aN⟩=>?_;refine b9 (ae pins aE σ aw _ a2 aN) fun u a4 ⟨y,aV,dg,aK,a3⟩=>?_;exact bG v u a4 x y aV dg av aK a3
theorem gM{dD:Operator}{r:hy}(aA:eX X (Xy dD) r)(ax:b5 X a ta)(ae:b5 X b tb):b5 X (.BinOp a dD b pos) (kn r ta tb):=by
 intro pins s σ H Q I h;exact wpAny_BinOp (u8 ax ae I h fun v u a4 x y aV dg ba cm q=>aA pins a4 σ aV x y v u Q dg ba cm q)
theorem HU{dD:UnaryOp}{r:V->ai->cc->Prop}(aA:u5 X (unaryOp dD) r)(ax:b5 X a ta):b5 X (.UnaryOp dD a pos) (u6 r ta):=by
 intro pins s σ H Q I h;exact UnaryOp_ (b9 (ax pins s σ H _ I h) fun v aE ⟨x,aw,a2,av,aN⟩=>aA pins aE σ aw x v Q a2 av aN)
theorem pk{f:SC->SC->Sem SC}{C:Int->Int->Prop}{g:Int->Int->Int}(rule:∀(i j:Int) (t u:Tok) (s:SL) (Q:SC->SL->Prop) (E:SC->SL->Prop),C i j->Q (.int (g i j) s.toks) { s with toks:=s.toks+1 }->wpAny (UV X.prog X.w) X.A (f (.int i t) (.int j u)) Q E s):
  eX X f (mN C fun i j=>.int (g i j)):=by
 intro pins s σ H x y v u Q I ba cm h;obtain⟨i,j,rfl,rfl,hc,q⟩:=h;obtain⟨t,rfl⟩:=ba;obtain⟨t',rfl⟩:=cm;exact rule i j t t' s _ _ hc ⟨.int (g i j),H,I.tok _,⟨_,rfl⟩,q⟩
theorem zB{f:SC->SC->Sem SC}{g:Int->Int->Int}(rule:∀(i j:Int) (t u:Tok) (s:SL) (Q:SC->SL->Prop) (E:SC->SL->Prop),Q (.int (g i j) s.toks) { s with toks:=s.toks+1 }->wpAny (UV X.prog X.w) X.A (f (.int i t) (.int j u)) Q E s):
  eX X f (ja fun i j=>.int (g i j)):=by
 intro pins s σ H x y v u Q I ba cm h;obtain⟨i,j,rfl,rfl,q⟩:=h;obtain⟨t,rfl⟩:=ba;obtain⟨t',rfl⟩:=cm;exact rule i j t t' s _ _ ⟨.int (g i j),H,I.tok _,⟨_,rfl⟩,q⟩
theorem n7{f:SC->SC->Sem SC}{g:Int->Int->Bool}(rule:∀(i j:Int) (t u:Tok) (s:SL) (Q:SC->SL->Prop) (E:SC->SL->Prop),Q (.bool (g i j)) s->wpAny (UV X.prog X.w) X.A (f (.int i t) (.int j u)) Q E s):
  eX X f (ja fun i j=>.bl (g i j)):=by
 intro pins s σ H x y v u Q I ba cm h;obtain⟨i,j,rfl,rfl,q⟩:=h;obtain⟨t,rfl⟩:=ba;obtain⟨t',rfl⟩:=cm;exact rule i j t t' s _ _ ⟨.bl (g i j),H,I,rfl,q⟩
def zC(i j:Int):Prop:=0<=j/\j<=1000000/\i.natAbs<2^64
def u9(i j:Int):Prop:=(-(2^64)<i/\i<2^64)∨(-(2^64)<j/\j<2^64)
theorem u9.ok{i j:Int}(h:u9 i j):IntMulOk i j:=by
 rcases h with⟨aa,ab⟩|⟨aa,ab⟩
 ·exact .of_left (Yh aa ab)
 ·exact .of_right (Yh aa ab)
theorem zD:eX X (Xy .Add) (ja fun i j=>.int (i+j)):=zB fun _ _ _ _ _ _ _ q=>add_int q
theorem HV:eX X (Xy .Sub) (ja fun i j=>.int (i-j)):=zB fun _ _ _ _ _ _ _ q=>sub_int q
theorem HW:eX X (Xy .Mult) (mN u9 fun i j=>.int (i*j)):=pk fun _ _ _ _ _ _ _ hc q=>mul_int q hc.ok
theorem n8:eX X (Xy .Mod) (mN (fun _ j=>0<j) fun i j=>.int (i%j)):=pk fun i j _ _ _ _ _ hc q=>by
 have aa:(0:Int)<j:=hc;exact mod_int' (by lia) (by rw[Int.fmod_eq_emod_of_nonneg i (by lia)];exact q)
theorem HX:eX X (Xy .Pow) (mN zC fun i j=>.int (i^j.toNat)):=pk fun _ _ _ _ _ _ _ hc q=>pow_int_small hc.1 hc.2.1 hc.2.2 q
theorem HY{f:SC->Sem SC}{g:Int->Int}(rule:∀(i:Int) (t:Tok) (s:SL) (Q:SC->SL->Prop) (E:SC->SL->Prop),Q (.int (g i) s.toks) { s with toks:=s.toks+1 }->wpAny (UV X.prog X.w) X.A (f (.int i t)) Q E s):
  u5 X f (u7 fun i=>.int (g i)):=by
 intro pins s σ H x v Q I ba h;obtain⟨i,rfl,q⟩:=h;obtain⟨t,rfl⟩:=ba;exact rule i t s _ _ ⟨.int (g i),H,I.tok _,⟨_,rfl⟩,q⟩
theorem HZ:u5 X (unaryOp .USub) (u7 fun i=>.int (-i)):=HY fun _ _ _ _ _ q=>neg_int q
end
section
variable{X:aU}{a b c:WP}{ta tb tc:bN}{pos:Pos}
theorem zE{pins:List (Tl×Obj)}{σ:St}{H:ai}{s:SL}{Q:cc}{k rk:Bool}(I:Inv X pins σ H s)(q:Q (.bl k) H)(e:k=rk):fp X pins σ Q (.bool rk) s:=by
 subst e;exact⟨.bl k,H,I,rfl,q⟩
theorem jb:eX X (W4 .Lt) (ja fun i j=>.bl (decide (i<j))):=n7 fun _ _ _ _ _ _ _ q=>lt_int q
theorem H0:eX X (W4 .LtE) (ja fun i j=>.bl (decide (i<=j))):=n7 fun _ _ _ _ _ _ _ q=>le_int q
theorem lU:eX X (W4 .Gt) (ja fun i j=>.bl (decide (j<i))):=n7 fun _ _ _ _ _ _ _ q=>gt_int q
theorem zF:eX X (W4 .GtE) (ja fun i j=>.bl (decide (j<=i))):=n7 fun _ _ _ _ _ _ _ q=>ge_int q
theorem H1:eX X (W4 .Is) (fun x y H Q=>y=.non/\Q (.bl (decide (x=.non))) H):=by
 intro pins s σ H x y v u Q I ba cm h;obtain⟨rfl,q⟩:=h;cases cm;refine is_none_gen (zE I q ?_)
 cases x<;>first
  | (cases ba;rfl)
  | (obtain⟨t,rfl⟩:=ba;rfl)
theorem H2:eX X (W4 .IsNot) (fun x y H Q=>y=.non/\Q (.bl (!decide (x=.non))) H):=by
 intro pins s σ H x y v u Q I ba cm h;obtain⟨rfl,q⟩:=h;cases cm;refine isnot_none_gen (zE I q ?_)
 cases x<;>first
  | (cases ba;rfl)
  | (obtain⟨t,rfl⟩:=ba;rfl)
theorem c1(b:WP){dD:CmpOp}(h:dD≠.In:=by decide)(ab:dD≠.NotIn:=by decide):WT dD b=false:=by
 have ag:(dD==CmpOp.In)=false:=by cases dD<;>first|rfl|exact absurd rfl h
 have ao:(dD==CmpOp.NotIn)=false:=by cases dD<;>first|rfl|exact absurd rfl ab
 cases b<;>simp[WT,ag,ao]
theorem rm{dD:CmpOp}{r:hy}(aA:eX X (W4 dD) r)(ax:b5 X a ta)(ae:b5 X b tb)(aB:WT dD b=false):b5 X (.Compare a [dD] [b] pos) (kn r ta tb):=by
 intro pins s σ H Q I h;exact wpAny_Compare1 (u8 ax ae I h fun v u a4 x y aV dg ba cm q=>aA pins a4 σ aV x y v u Q dg ba cm q) aB
def H3(t:bN):dC:=fun σ H Q=>t σ H fun x af=>∃k,x=.bl k/\Q k af
theorem lV{dD:CmpOp}{r:hy}(aA:eX X (W4 dD) r)(ax:b5 X a ta)(ae:b5 X b tb)(aB:WT dD b=false):hN X (.Compare a [dD] [b] pos) (H3 (kn r ta tb)):=by
 intro pins s σ H Q I h
 refine wpAny_isTrue_Compare1 (b9 (ax pins s σ H _ I h) fun v aE ⟨x,aw,a2,av,aN⟩=>b9 (ae pins aE σ aw _ a2 aN) fun u a4 ⟨y,aV,dg,aK,a3⟩ =>
  b9 (aA pins a4 σ aV x y v u _ dg av aK a3) fun c a8 ⟨z,ca,bU,d8,k,e,cE⟩=>?_) aB
 subst e;cases d8;exact Xo ⟨ca,bU,cE⟩
def zG(K:Su)(x:V)(H:ai)(k:Bool):Prop :=
 match x with
 | .non=>k=false
 | .bl b=>k=b
 | .int i=>k=(i != 0)
 | .str y=>y.length<=SZ/\k=((y.length:Int) != 0)
 | .byt y=>y.size<=SZ/\k=((y.size:Int) != 0)
 | .ref p=>(∃xs,cl K H p xs/\k = !xs.isEmpty)∨(∃xs,eA K H p xs/\k = !xs.isEmpty)∨∃kvs,H p=some (.dK kvs)/\k = !kvs.isEmpty
 | _=>False
theorem H4{κ:Type}{kvs:List (κ×V)}{vs:List (κ×SC)}(r:uP kvs vs):(!vs.isEmpty) = !kvs.isEmpty:=by
 cases r<;>rfl
theorem zH{xs:List V}{its:List SC}(r:bV xs its):(!its.toArray.isEmpty) = !xs.isEmpty:=by
 cases r<;>simp
theorem pl:(SZ:Nat)<2^63:=by rw[Xg];decide
theorem H5:HS X (fun x H Q=>∃k,zG X.K x H k/\Q k H):=by
 intro pins s σ H x v Q I ba h;obtain⟨k,e,q⟩:=h;have ay:=pl;have ak:SZ=16777216:=Xg;cases x with
 | non =>
  cases ba;have bq:k=false:=e;subst bq;exact truthy_none ⟨H,I,q⟩
 | bl b =>
  cases ba;have bq:k=b:=e;subst bq;exact Xo ⟨H,I,q⟩
 | int i =>
  obtain⟨t,rfl⟩:=ba;have bq:k=(i != 0):=e;subst bq;exact PySem.P.truthy_int ⟨H,I,q⟩
 | str y =>
  obtain⟨t,rfl⟩:=ba;obtain⟨aM,bq⟩:y.length<=SZ/\k=((y.length:Int) != 0):=e;subst bq;exact PySem.P.truthy_str (by lia) ⟨H,I.tok _,q⟩
 | byt y =>
  obtain⟨t,rfl⟩:=ba;obtain⟨aM,bq⟩:y.size<=SZ/\k=((y.size:Int) != 0):=e;subst bq;exact PySem.W.truthy_bytes (by lia) ⟨H,I.tok _,q⟩
 | ref p =>
  cases ba;have bq:(∃xs,cl X.K H p xs/\k = !xs.isEmpty)∨(∃xs,eA X.K H p xs/\k = !xs.isEmpty)∨∃kvs,H p=some (.dK kvs)/\k = !kvs.isEmpty:=e;rcases bq with⟨xs,aj,bq⟩|⟨xs,aj,bq⟩|⟨kvs,aj,bq⟩
  ·subst bq;obtain⟨its,r,cV,hz⟩:=I.list aj;have d9:=r.length;exact wpAny_truthy_list cV.isList (by simp only[SS];lia) ⟨H,I.tok _,by rw[zH r];exact q⟩
  ·subst bq;obtain⟨its,r,cV,hz⟩:=I.tuple aj;have d9:=r.length;exact truthy_tuple cV (by simp only[SS];lia) ⟨H,I.tok _,by rw[zH r];exact q⟩
  ·subst bq;obtain⟨hz,dH,vs,r,m⟩:kvs.length<=SZ/\(p==Yr)=false/\∃vs,uP kvs vs/\s.heap.DictOf (uN X.prog X.w) p vs:=I.hok p _ aj;have d9:kvs.length=vs.length:=Paired.length r;exact wpAny_truthy_dict dH m (by lia) ⟨H,I.tok _,by rw[H4 r];exact q⟩
 | _=>exact(show False from e).elim
theorem zI(ax:b5 X a ta)(au:∀ho,Yb a X.env ho=(do let v <-ho;X6 a.pos;XO [v] (YL v))):
  hN X a (fun σ H Q=>ta σ H fun x af=>∃k,zG X.K x af k/\Q k af):=by
 intro pins s σ H Q I h;exact isTrue_plain (b9 (ax pins s σ H _ I h) fun v aE ⟨x,aw,a2,av,aN⟩=>H5 pins aE σ aw x v Q a2 av aN) (au _)
theorem vals1{x:V}{aG:List SC}(r:bV [x] aG):∃u,aG=[u]/\RelV x u:=by
 cases r with
 | cons av aK=>cases aK;exact⟨_,rfl,av⟩
theorem vals2{x y:V}{aG:List SC}(r:bV [x,y] aG):∃u kf,aG=[u,kf]/\RelV x u/\RelV y kf:=by
 cases r with
 | cons av aK =>
  cases aK with
  | cons d8 pp=>cases pp;exact⟨_,_,rfl,av,d8⟩
theorem H6:km X (.builtin "abs") (fun xs H Q=>∃i,xs=[.int i]/\Q (.int (if i<0 then -i else i)) H):=by
 intro pins s σ H xs aG Q I r h;obtain⟨i,rfl,q⟩:=h;obtain⟨u,rfl,t,rfl⟩:=vals1 r;exact call_abs_int fun u dr=>⟨.int (if i<0 then -i else i),H,I.tok _,⟨_,rfl⟩,q⟩
theorem zJ:km X (.type "int") (fun xs H Q=>(∃i,xs=[.int i]/\Q (.int i) H)∨∃k,xs=[.bl k]/\Q (.int (if k then 1 else 0)) H):=by
 intro pins s σ H xs aG Q I r h;rcases h with⟨i,rfl,q⟩|⟨k,rfl,q⟩
 ·obtain⟨u,rfl,t,rfl⟩:=vals1 r;exact call_int_int ⟨.int i,H,I,⟨_,rfl⟩,q⟩
 ·obtain⟨u,rfl,av⟩:=vals1 r;cases av;exact call_int_bool ⟨.int (if k then 1 else 0),H,I.tok _,⟨_,rfl⟩,q⟩
end
structure u' (h:WY) (x ew C:Tl) (e1:Str->Option SC):Prop where
 obj:h.get? x=some (Vi C ew)
 ns:h.Ns1 ew e1
 ne:ew≠x
theorem H7{h:WY}{ew:Tl}{e1:Str->Option SC}(n:h.Ns1 ew e1):∃od,h.get? ew=some od/\∀name,Vm name od=some (e1 name):=by
 obtain⟨o,es,c3,aA,hd,ah,_,aB⟩:=n;refine⟨o,aA,fun name=>?_⟩;have e:=aB name;unfold nsFind findBy at e;rw[<-Array.find?_toList]at e;unfold Vm;rw[hd];dsimp only;split
 ·rename_i y q
  rw[q]at e;exact Uf some e
 ·rename_i q
  rw[q]at e
  have a:es.toList.any (·.refKey)=false:=by
   rw[List.any_eq_false];intro y aM;obtain⟨z,t,H8⟩:=ah y (Array.mem_toList_iff.mp aM);simp[DictEntry.refKey,H8]
  have iH:¬es.toList.any (·.refKey)=true:=by rw[a];exact SP
  rw[TT iH];exact Uf some e
theorem u'.look{h:WY}{x ew C:Tl}{e1:Str->Option SC}(I:u' h x ew C e1):∃od,PySem.W.InstAt h x (Vi C ew) C (some od)/\∀name,Vm name od=some (e1 name):=
 let⟨od,aA,ay⟩:=H7 I.ns
 ⟨od,⟨I.obj,rfl,rfl,aA⟩,ay⟩
section
variable{P:WF}{w:WU}{H af:ai}{h h':WY}{a C ew:Tl}{fs GF:List (Str×V)}
theorem H9(hok:eH P w H h)(e:H a=some (.ins C ew fs)):∃e1,u' h a ew C e1/\(∀f,uO (fs.lookup f) (e1 f))/\PySem.Within e1 (fs.map (·.1))/\fs.length<=1000/\H ew=some (.own a):=by
 obtain⟨d,z,ne,cf,e1,n,r,q⟩:=(show fV P w H h a (.ins C ew fs)from hok a _ e);exact⟨e1,⟨cf,n,ne⟩,r,q,z,d⟩
end
structure va (K:Su) (C:Tl):Prop where
 pg:V1 K C Str.empty=true
 hd:PySem.W.hasDictIn K C=true
 po:PySem.W.plainOver K C=true
 sa:V2 K (.ref C) "__setattr__"=some (some (.builtin "object.__setattr__"))
theorem va.get{K:Su}{C:Tl}(c:va K C)(f:Str):V1 K C f=true:=c.pg
section
variable{X:aU}{pins:List (Tl×Obj)}{σ:St}{H:ai}{s:SL}{A:WV}{E:SC->SL->Prop}{Q:SC->SL->Prop}{c:SC}{b:Bool}
inductive h7 (K:Su) (H:ai):V->SC->Prop where
 | non:h7 K H .non (.type "NoneType")
 | bl (x:Bool):h7 K H (.bl x) (.type "bool")
 | int (i:Int):h7 K H (.int i) (.type "int")
 | str (x:Str):h7 K H (.str x) (.type "str")
 | flt (x:UInt64):h7 K H (.flt x) (.type "float")
 | lst {a:Tl} {xs:List V} (e:H a=some (.lst xs)):h7 K H (.ref a) (.type "list")
 | frz {a:Tl} {o:Obj} {xs:List V} (e:H a=some (.frz o (.lst xs))):h7 K H (.ref a) (.type "list")
 | tup {a:Tl} {xs:List V} (e:H a=some (.tup xs)):h7 K H (.ref a) (.type "tuple")
 | dK {a:Tl} {kvs:List (gF×V)} (e:H a=some (.dK kvs)):h7 K H (.ref a) (.type "dict")
 | dT {a:Tl} {kvs:List (List gF×V)} (e:H a=some (.dT kvs)):h7 K H (.ref a) (.type "dict")
 | ins {a C ew:Tl} {fs:List (Str×V)} (e:H a=some (.ins C ew fs)) (bm:va K C) (ax:V2 K (.ref C) "__class__"=some (some (.builtin "object.__class__")))
   (aH:PySem.W.specialIn K (.builtin "object.__class__") "__get__"=some (some (.builtin "getset_descriptor.__get__"))) (zK:PySem.W.takesIn K (.builtin "object.__class__")=some true)
   (aB:PySem.W.mroIn K C (.type "object")=some true):h7 K H (.ref a) (.ref C)
theorem H'{x:V}{u t:SC}(I:Inv X pins σ H s)(ba:RelV x u)(ty:h7 X.K H x t)(e:Vn X.K t c=some b)(h:∀dr,Q (.bool b) { s with toks:=dr }):
  wpAny (UV X.prog X.w) A (call (.builtin "isinstance") [u,c]) Q E s:=by
 cases ty with
 | non=>cases(show u=Value.none from ba);exact Tx PySem.W.kitx_none I.kIn Uz e (fun z=>nomatch z) h
 | bl y=>cases(show u=Value.bool y from ba);exact Tx PySem.W.kitx_bool I.kIn Uz e (fun z=>nomatch z) h
 | int i=>obtain⟨t,q⟩:=(show ∃t,u=Value.int i t from ba);cases q;exact Tx PySem.W.kitx_int I.kIn Uz e (fun z=>nomatch z) h
 | str y=>obtain⟨t,q⟩:=(show ∃t,u=Value.str y t from ba);cases q;exact Tx PySem.W.kitx_str I.kIn Uz e (fun z=>nomatch z) h
 | flt y=>obtain⟨t,q⟩:=(show ∃t,u=Value.float y t from ba);cases q;exact Tx PySem.W.kitx_float I.kIn Uz e (fun z=>nomatch z) h
 | @lst a xs er =>
  cases(show u=Value.ref a from ba);obtain⟨_,_,n,_,aa⟩:=(show fV X.prog X.w H s.heap a (.lst xs)from I.hok a _ er);exact Tx V3 I.kIn ⟨_,aa,rfl⟩ e (fun z=>nomatch z) h
 | @frz a cf xs er =>
  cases(show u=Value.ref a from ba);obtain⟨_,_,_,n,_,aa⟩:=(show fV X.prog X.w H s.heap a (.frz cf (.lst xs))from I.hok a _ er);exact Tx V3 I.kIn ⟨_,aa,rfl⟩ e (fun z=>nomatch z) h
 | @tup a xs er =>
  cases(show u=Value.ref a from ba);obtain⟨_,_,_,p⟩:=(show fV X.prog X.w H s.heap a (.tup xs)from I.hok a _ er);obtain⟨o,aa,ab,_⟩:=p;exact Tx PySem.W.kitx_tuple I.kIn ⟨o,aa,ab⟩ e (fun z=>nomatch z) h
 | @dK a kvs er =>
  cases(show u=Value.ref a from ba);obtain⟨_,_,vs,_,p⟩:=(show fV X.prog X.w H s.heap a (.dK kvs)from I.hok a _ er);obtain⟨o,es,c3,aa,ab,_⟩:=p;exact Tx V4 I.kIn ⟨o,aa,ab.1⟩ e (fun z=>nomatch z) h
 | @dT a kvs er =>
  cases(show u=Value.ref a from ba);obtain⟨_,_,xs,_,o,es,c3,aa,ab,_⟩:=(show fV X.prog X.w H s.heap a (.dT kvs)from I.hok a _ er);exact Tx V4 I.kIn ⟨o,aa,ab.1⟩ e (fun z=>nomatch z) h
 | @ins a C ew fs er bm ax aH zK aB =>
  cases(show u=Value.ref a from ba);obtain⟨e1,O,_⟩:=H9 I.hok er;obtain⟨od,J,_⟩:=O.look;exact Tx (PySem.W.kitx_own (bm.get _) bm.hd ax aH zK aB) I.kIn J e (fun z=>nomatch z) h
end
structure eF (k:Nat) (A:WV):Prop where
 hd:A.handled=none
 dp:A.depth+3*k+5<XC
 un:A.units+16*k+200<X7
theorem eF.mono{j k:Nat}{A:WV}(r:eF k A)(h:j<=k):eF j A:=⟨r.hd,by have:=r.dp;lia,by have:=r.un;lia⟩
theorem eF.deeper{k:Nat}{A:WV}(r:eF (k+1) A)(env:Env):eF k (A.deeper env):=
 ⟨r.hd,by have:=r.dp;show A.depth+1+3*k+5<_;lia,by have:=r.un;show A.units+3+16*k+200<_;lia⟩
theorem eF.depth{k:Nat}{A:WV}(r:eF k A):A.depth<XC:=by have:=r.dp;lia
theorem eF.units{k:Nat}{A:WV}(r:eF k A):A.units+64<X7:=by have:=r.un;lia
def vb:eE:=fun _ H Q=>Q [] H
def vc(ta:bN)(kb:eE):eE:=fun σ H Q=>ta σ H fun x aw=>kb σ aw fun xs aV=>Q (x::xs) aV
section
variable{X:aU}{e:WP}{es:List WP}{bI:bN}{t:eE}{pos:Pos}
theorem fH:gG X [] vb:=fun _ _ _ _ H Q I h=>Calls.spliced_nil ⟨[],H,I,.nil,h⟩
theorem eJ(ax:b5 X e bI)(am:gG X es t)(ak:Tk (e::es) X.env=(false,W7 e X.env)::Tk es X.env:=by rfl):gG X (e::es) (vc bI t):=by
 intro pos pins s σ H Q I h;rw[ak];show wpAny _ _ (spliced ((false,W7 e X.env)::W1 pos (Tk es X.env))) _ _ s
 refine Calls.spliced_cons (b9 (ax pins s σ H _ I h) fun u aE ⟨x,aw,a2,av,aN⟩=>?_);exact b9 (am pos pins aE σ aw _ a2 aN) fun aG a4 ⟨xs,aV,dg,aK,a3⟩=>⟨x::xs,aV,dg,.cons av aK,a3⟩
def Ia(t:eE):bN:=fun σ H Q=>t σ H fun xs aw=>xs.length<=SZ/\∀p,aw p=none->Q (.ref p) (upd aw p (.tup xs))
def Ib(t:eE):bN:=fun σ H Q=>t σ H fun xs aw=>xs.length<=SZ/\∀p,aw p=none->Q (.ref p) (upd aw p (.lst xs))
theorem Ic{gt}(h:gG X es t):b5 X (.Tuple es gt pos) (Ia t):=by
 intro pins s σ H Q I aL;refine wpAny_Tuple_spliced (b9 (h pos pins s σ H _ I aL) fun aG aE ⟨xs,aw,a2,r,z,q⟩=>⟨by rw[<-r.length];exact z,?_⟩);have bG:aw aE.heap.objs.size=none:=a2.hok.fresh (SD _);refine⟨.ref aE.heap.objs.size,upd aw aE.heap.objs.size (.tup xs),a2.laid (t':=aE.toks) (fun b u e=>Heap.get?_push_of_some _ e) (SD _) ?_,rfl,q _ bG⟩;exact⟨z,aG,r,⟨_,Heap.get?_push_size _ rfl,rfl,_,rfl⟩⟩
theorem zL(h:gG X es t):b5 X (.List es pos) (Ib t):=by
 intro pins s σ H Q I aL;refine wpAny_List_spliced (b9 (h pos pins s σ H _ I aL) fun aG aE ⟨xs,aw,a2,r,z,q⟩=>⟨by rw[<-r.length];exact z,?_⟩);have bG:aw aE.heap.objs.size=none:=a2.hok.fresh (SD _);refine⟨.ref aE.heap.objs.size,upd aw aE.heap.objs.size (.lst xs),a2.laid (t':=aE.toks) (fun b u e=>Heap.get?_push_of_some _ e) (SD _) ?_,rfl,q _ bG⟩;exact⟨z,aG,0,r,Heap.get?_push_size _ rfl⟩
end
abbrev g7:=List V->ai->cc->fF->Prop
abbrev ko:=List Env->ai->SL->fF->SC->SL->Prop
structure rn (P:WF) (w:WU) (K:Su) (mg:Str->Option SC) (base:WY) (A:WV) (outer:List Env) (s:SL) (H:ai):Prop where
 frames:A.frames=some outer
 mod:Mod K mg base
 bs:∀b o,base.get? b=some o->s.heap.get? b=some o/\H b=none
 bsz:base.objs.size<=s.heap.objs.size
 funs:s.heap.FunFrames base outer
 frf:∀b∈frs outer,H b=none
 hok:eH P w H s.heap
 bare:XN s.gens
 tab:lN K H
def mO(outer:List Env)(P:WF)(w:WU)(H:ai)(s:SL)(Q:cc)(u:SC)(s':SL):Prop :=
 ∃v af,s'.os=s.os/\XN s'.gens/\ez (frs outer) [] H af s.heap s'.heap/\eH P w af s'.heap/\RelV v u/\Q v af
def Ie(eQ:ko)(outer:List Env)(P:WF)(w:WU)(H:ai)(s:SL)(Q:cc)(E:fF)(r:YE)(s':SL):Prop :=
 match r with
 | .ok (.ret u)=>mO outer P w H s Q u s'
 | .ok _=>False
 | .error e=>eQ outer H s E e s'
structure h8 (P:WF) (w:WU) (K:Su) (mg:Str->Option SC) (base:WY) (eQ:ko) (k:Nat) (f:Tl) (fd:Xf) (ps:List Str) (sp:g7):Prop where
 len:∀vs H Q E,sp vs H Q E->vs.length=ps.length
 run:∀(A:WV)(outer:List Env)(s:SL)(H:ai)(args:Args)(aG:List SC)(vs:List V)(Q:cc)(E:fF),eF k A->rn P w K mg base A outer s H->YG s fd args (ps.zip aG)->bV vs aG->sp vs H Q E ->
  codeAny (UV P w) A (.call (.ref f) args) (Ie eQ outer P w H s Q E) s
theorem h8.imp{P:WF}{w:WU}{K:Su}{mg:Str->Option SC}{base:WY}{eQ:ko}{k:Nat}{f:Tl}{fd:Xf}{ps:List Str}{sp pq:g7}(F:h8 P w K mg base eQ k f fd ps sp)(h:∀vs H Q E,pq vs H Q E->sp vs H Q E):h8 P w K mg base eQ k f fd ps pq :=
 ⟨fun vs H Q E q=>F.len vs H Q E (h _ _ _ _ q),fun A outer s H args aG vs Q E am au ae a' ak=>F.run A outer s H args aG vs Q E am au ae a' (h _ _ _ _ ak)⟩
section
variable{X:aU}{pins:List (Tl×Obj)}{σ:St}{H:ai}{s s':SL}
theorem Inv.env0(I:Inv X pins σ H s):rn X.prog X.w X.K X.mg X.base X.A X.stack s H :=
 ⟨I.ok.frames,I.ok.mod,I.bs,SA I.ok.bsz I.sz,I.stack,I.stkFree,I.hok,I.bare,I.tabs⟩
theorem Inv.after{Q:cc}{u:SC}(I:Inv X pins σ H s)(h:mO X.stack X.prog X.w H s Q u s'):fp X pins σ Q u s':=by
 obtain⟨v,af,os,bare,un,hok,r,q⟩:=h;obtain⟨dh,g,d,t,Ig⟩:=s';obtain rfl:Ig=s.os:=os;exact⟨v,af,I.call (h':=dh) (g':=g) (d':=d) (t':=t) (ch:=[]) un hok bare (fun b z=>absurd z (by simp)),r,q⟩
end
def zM(sp:g7)(lW:List V)(E:fF)(t:eE):bN:=fun σ H Q=>t σ H fun vs aw=>sp (vs++lW) aw Q E
def Binds(K:Su)(fd:Xf)(ps:List Str)(ds:List SC):Prop :=
 ∀(s:SL)(aG:List SC),K.In s.heap->(aG++ds).length=ps.length->YG s fd ⟨aG,[]⟩ (ps.zip (aG++ds))
theorem Binds.all{K:Su}{fd:Xf}{ps:List Str}(h:∀aG:List SC,aG.length=ps.length->XY fd ⟨aG,[]⟩=pure (ps.zip aG)):Binds K fd ps []:=fun s aG _ ay=>by
 rw[SG]at ay ⊢;exact .of_eq (h aG ay)
def vd(eQ:ko)(X:aU)(E:fF):Prop:=∀(pins:List (Tl×Obj))(σ:St)(H:ai)(s:SL)(e:SC)(s':SL),Inv X pins σ H s->eQ X.stack H s E e s'->X.xe e s'
section
variable{X:aU}{eQ:ko}{k:Nat}{f C:Tl}{fd:Xf}{ps:List Str}{sp:g7}{lW:List V}{ds:List SC}{E:fF}{x m:Str}{p pos gg:Pos}{e o:WP}{es:List WP}{ta:bN}{t:eE}
theorem Ih{pins:List (Tl×Obj)}{σ:St}{H:ai}{s:SL}{Q:cc}{aG:List SC}{vs:List V}(F:h8 X.prog X.w X.K X.mg X.base eQ k f fd ps sp)(am:eF k X.A)(ae:Binds X.K fd ps ds)(hd:bV lW ds)(aj:vd eQ X E)(I:Inv X pins σ H s)(r:bV vs aG)(h:sp (vs++lW) H Q E):wpAny (UV X.prog X.w) X.A (call (.ref f) aG) (fp X pins σ Q) X.xe s:=by
 have aK:bV (vs++lW) (aG++ds):=r.append hd;have ay:(aG++ds).length=ps.length:=by rw[<-aK.length];exact F.len _ _ _ _ h
 refine wpAny_call (XR (F.run X.A X.stack s H ⟨aG,[]⟩ (aG++ds) (vs++lW) Q E am I.env0 (ae s aG I.kIn ay) aK h) fun r s' aL=>?_);cases r with
 | error e=>exact aj pins σ H s e s' I aL
 | ok fl =>
  cases fl with
  | ret u=>exact I.after aL
  | next=>exact Tq aL
  | brk=>exact Tq aL
  | cont=>exact Tq aL
theorem Ii(F:h8 X.prog X.w X.K X.mg X.base eQ k f fd ps sp)(am:eF k X.A)(aD:ep X x)(aB:X.mg x=some (.ref f))(ah:US X.K (.ref f)=true)(ae:Binds X.K fd ps ds)(hd:bV lW ds)(aj:vd eQ X E)(ax:gG X (e::es) t)(hO:(x==("__debug__":Str))=false:=by decide)(au:Tk (e::es) X.env=(false,W7 e X.env)::Tk es X.env:=by rfl)(dV:(W1 pos (Tk es X.env)).any (·.1)=false:=by rfl):
  b5 X (.Call (.Name x p) (e::es) [] pos) (zM sp lW E t):=by
 intro pins s σ H Q I h;refine WZ (GU I aD aB ?_ hO);refine PySem.W.callWith_K (h₀:=X.base) I.ok.mod.kin ah (b9 (ax pos pins s σ H _ I h) fun aG aE ⟨vs,aw,a2,r,q⟩=>⟨a2.kIn,?_⟩) au dV;exact Ih F am ae hd aj a2 r q
end
structure cL (N P:List Str) (sc:W'):Prop where
 kind:sc.kind=.function
 co:sc.isCoroutine=false
 gen:sc.isGenerator=false
 nd:N.Nodup
 pre:N.take P.length=P
 par:∀x∈P,sc.names.lookup x=some .local∨sc.names.lookup x=some .cell
 nofree:∀y∈sc.names,y.2≠.free
theorem zN{kindOf:Str->Option Yi}{x:Str}:∀{binds:List (Str×SC)}{m:Str->Option SC},(∀v,(x,v)∉binds)->bindL kindOf binds m x=m x
 | [],_,_=>rfl
 | (n,v)::r,m,h=>by
  unfold bindL;rw[zN fun w hw=>h w (Sw _ hw)];split
  ·have:x≠n:=by rintro rfl;exact h v Sv
   simp[this]
  ·rfl
theorem zO{kindOf:Str->Option Yi}{x:Str}:∀{binds:List (Str×SC)}{m:Str->Option SC},(∀v,(x,v)∉binds)->bindC kindOf binds m x=m x
 | [],_,_=>rfl
 | (n,v)::r,m,h=>by
  unfold bindC;rw[zO fun w hw=>h w (Sw _ hw)];split
  ·rfl
  ·have:x≠n:=by rintro rfl;exact h v Sv
   simp[this]
theorem zP{kindOf:Str->Option Yi}{x:Str}{v:SC}:∀{P:List Str}{vs:List SC}{i:Nat}{m:Str->Option SC},P.Nodup->P[i]?=some x->vs[i]?=some v->kindOf x=some .local ->
  bindL kindOf (P.zip vs) m x=some v
 | [],_,_,_,_,h,_,_=>by simp at h
 | _::_,[],_,_,_,_,h,_=>by simp at h
 | p::P,w::vs,0,m,nd,aa,ab,ah=>by
  simp at aa ab;subst aa;subst ab;show bindL kindOf ((p,w)::P.zip vs) m p=_
  unfold bindL;rw[zN fun v a'=>(UA.mp nd).1 (Vo a').1,TI ah];simp
 | p::P,w::vs,i+1,m,nd,aa,ab,ah=>by
  show bindL kindOf ((p,w)::P.zip vs) m x=_
  unfold bindL;exact zP (i:=i) (UA.mp nd).2 (by simpa using aa) (by simpa using ab) ah
theorem zQ{kindOf:Str->Option Yi}{x:Str}{v:SC}:∀{P:List Str}{vs:List SC}{i:Nat}{m:Str->Option SC},P.Nodup->P[i]?=some x->vs[i]?=some v->kindOf x≠some .local ->
  bindC kindOf (P.zip vs) m x=some v
 | [],_,_,_,_,h,_,_=>by simp at h
 | _::_,[],_,_,_,_,h,_=>by simp at h
 | p::P,w::vs,0,m,nd,aa,ab,ah=>by
  simp at aa ab;subst aa;subst ab;show bindC kindOf ((p,w)::P.zip vs) m p=_
  unfold bindC;rw[zO fun v a'=>(UA.mp nd).1 (Vo a').1,TT ah];simp
 | p::P,w::vs,i+1,m,nd,aa,ab,ah=>by
  show bindC kindOf ((p,w)::P.zip vs) m x=_
  unfold bindC;exact zQ (i:=i) (UA.mp nd).2 (by simpa using aa) (by simpa using ab) ah
def start(N:List Str)(vs:List V):St:=vs.map some++SQ (N.length-vs.length) none
def jD(eQ:ko)(P:WF)(w:WU)(K:Su)(mg:Str->Option SC)(base:WY)(N:List Str)(qual:Str)(scope:W')(f:Tl)(dO:SC)(A:WV)(outer:List Env)(s:SL)(H:ai)(E:fF):aU where
 prog:=P
 w:=w
 K:=K
 mg:=mg
 base:=base
 A:=A.deeper (X2 qual scope s.heap.objs.size f dO)
 N:=N
 s₀:=s
 H₀:=H
 env:=X2 qual scope s.heap.objs.size f dO
 outer:=outer
 stack:=X2 qual scope s.heap.objs.size f dO::outer
 ex:=[]
 calm:=true
 fn:=fun _=>true
 pn:=[]
 xe:=fun e s'=>wpAny (UV P w) (A.deeper (X2 qual scope s.heap.objs.size f dO)) (leaving (X2 qual scope s.heap.objs.size f dO) e) (fun _ ve=>eQ outer H s E e ve) (fun bq ve=>eQ outer H s E bq ve) s'
theorem zR{sc:W'}{n:Nat}{x:Str}(h:sc.names.lookup x=some .cell):∃c,(cellsFrom n sc.names []).lookup x=some c:=by
 have q:=V5 sc.names n [] (.inl h);exact Vp.mp q
theorem Ij{eQ:ko}{P:WF}{w:WU}{K:Su}{mg:Str->Option SC}{base:WY}{N ps:List Str}{qual:Str}{scope:W'}{f:Tl}{dO:SC}{A:WV}{outer:List Env}{s aE:SL}{H:ai}{E:fF}{aG:List SC}{vs:List V}(S:cL N ps scope)(hd:A.handled=none)(dW:rn P w K mg base A outer s H)(ay:vs.length=ps.length)(r:bV vs aG)(x:InCallC s s.heap.objs.size (bindL (X2 qual scope s.heap.objs.size f dO).kindOf (ps.zip aG) fun _=>none) (cellsFrom (s.heap.objs.size+1) scope.names []) (bindC (X2 qual scope s.heap.objs.size f dO).kindOf (ps.zip aG) fun _=>none) aE):
  Inv (jD eQ P w K mg base N qual scope f dO A outer s H E) [] (start N vs) H aE:=by
 have dV:ps.length<=N.length:=by have:=Uf Th S.pre;rw[TJ]at this;lia
 obtain⟨aa,dr,rfl,ah⟩:=x.done;have pr:∀b:Tl,b∉(jD eQ P w K mg base N qual scope f dO A outer s H E).ex:=fun b z=>absurd (show b∈([]:List Tl)from z) (by simp)
 refine⟨⟨dW.mod,S.kind,rfl,rfl,SD _,fun y z c aa ab=>?_,fun y aM=>?_,fun y c _ h=>?_,fun _=>hd,Around.frames_deeper dW.frames,.inr ⟨rfl,rfl⟩,fun b z=>absurd z (pr b),dW.bs,dW.bsz,fun b _ _=>pr b,fun b z=>absurd z (pr b),dW.funs,dW.frf,dW.tab⟩,
  rfl,dW.bare,ez.kept ah,⟨_,x.toInCall.ns,fun i y v aa ab aQ=>?_⟩,fun y c h=>⟨_,x.cell y c h⟩,dW.hok.fresh (SD _),fun y c h=>?_,fun p aq=>absurd (show p∈([]:List (Tl×Obj))from aq) (by simp),dW.hok.kept ah,?_⟩
 ·exact name_of_addr x.apart (TZ aa) (TZ ab)
 ·have aM:scope.names.lookup y=some .cell∨scope.names.lookup y=some .free:=aM;rcases aM with aM|aM
  ·exact zR aM
  ·exact absurd rfl (S.nofree _ (TZ aM))
 ·exact Ux (x.above y c (TZ h))
 ·have aC:i<vs.length:=by
   unfold start at ab;by_cases aC:i<vs.length
   ·exact aC
   ·rw[Ts (by simpa using aC)]at ab;rw[T4]at ab;split at ab<;>cases ab
  have ax:vs[i]?=some v:=by
   unfold start at ab;rw[TK (by simpa using aC),S7]at ab;cases e:vs[i]? with
   | none=>rw[e]at ab;cases ab
   | some a=>rw[e]at ab;cases ab;rfl
  obtain⟨u,bM,b2⟩:=r.get ax
  have aq:ps[i]?=some y:=by
   rw[<-S.pre,List.getElem?_take_of_lt (by lia)];exact aa
  have zS:ps.Nodup:=by rw[<-S.pre];exact S.nd.sublist (List.take_sublist _ _)
  refine⟨u,b2,?_⟩;rcases S.par y (Tt aq)with k|k
  ·exact .inl ⟨k,zP zS aq bM k⟩
  ·obtain⟨c,e⟩:=zR (n:=s.heap.objs.size+1) k;refine .inr ⟨.inl k,c,e,?_⟩;have q:=x.cell y c e;rw[zQ zS aq bM (by show scope.names.lookup y≠_;rw[k];decide)]at q;exact q
 ·exact dW.hok.fresh (Ux (x.above y c (TZ h)))
 ·unfold start;show _=N.length
  rw[SE,Sz,TB];lia
theorem zT{eQ:ko}{P:WF}{w:WU}{K:Su}{mg:Str->Option SC}{base:WY}{k:Nat}{f:Tl}{name qual:Str}{params:Xc}{body:List W0}{scope:W'}{ro kV doc pm cdv ct oc:SC}{an od:Option Tl}{osl:Array (Option SC)}{N ps:List Str}{sp:g7}(lk:K.lookup f=some ⟨oc,od,.func (Uj name qual params body scope ro kV doc pm an cdv ct),osl⟩)(eo:Vq K cdv qual=true)(S:cL N ps scope)(len:∀vs H Q E,sp vs H Q E->vs.length=ps.length)(gu:∀(A:WV) (outer:List Env) (s:SL) (H:ai) (vs:List V) (Q:cc) (E:fF),eF k (A.deeper (X2 qual scope s.heap.objs.size f cdv))->sp vs H Q E->∃t,hq (jD eQ P w K mg base N qual scope f cdv A outer s H E) body t/\t { nx:=fun _ af=>Q .non af,rt:=Q } (start N vs) H):
  h8 P w K mg base eQ (k+1) f (Uj name qual params body scope ro kV doc pm an cdv ct) ps sp:=by
 refine⟨len,fun A outer s H args aG vs Q E am dW ae r lX=>?_⟩;have ay:=len _ _ _ _ lX;have lY:K.In s.heap:=dW.mod.kin.keeps fun b o e=>(dW.bs b o e).1;have lim:s.heap.NoLimit:=dW.mod.nolimit.keeps fun b o e=>(dW.bs b o e).1
 have Ik:∀y∈ps.zip aG,scope.names.lookup y.1=some .local∨(scope.names.lookup y.1=some .cell/\((cellsFrom (s.heap.objs.size+1) scope.names []).lookup y.1).isSome=true):=fun⟨n,v⟩ aM=>by
  rcases S.par n (Vo aM).1 with q|q
  ·exact .inl q
  ·exact .inr ⟨q,V5 _ _ _ (.inl q)⟩
 refine codeAny_call_function am.depth (lY _ _ lk) rfl S.co S.gen rfl (PySem.W.codeRec_of lY eo) (ae _ _ _ _ ?_);refine wpAny_newFunctionEnv_cells S.kind Ik fun env au aE x=>?_;subst au;refine⟨lim.keeps x.toInCall.keep,codeAny_func ?_⟩;obtain⟨t,aR,aL⟩:=gu A outer s H vs Q E (am.deeper _) lX;have I:Inv (jD eQ P w K mg base N qual scope f cdv A outer s H E) [] (start N vs) H aE:=Ij S am.hd dW ay r x;refine WR (aR [] aE (start N vs) H _ I aL) (fun fl s' ak=>?_) fun e s' ak=>ak
 have eT:∀{a1:St}{af:ai}{v:V}{u:SC},Inv (jD eQ P w K mg base N qual scope f cdv A outer s H E) [] a1 af s'->RelV v u->Q v af->mO outer P w H s Q u s' :=
  fun{a1 af v u} J b2 q=>⟨v,af,J.os,J.bare,J.base,J.hok,b2,q⟩
 cases fl with
 | ret u =>
  obtain⟨v,a1,af,J,b2,q⟩:=ak;exact eT J b2 q
 | next =>
  obtain⟨a1,af,J,q⟩:=ak;exact eT (v:=V.non) (u:=Value.none) J rfl q
 | brk =>
  obtain⟨_,_,_,q⟩:=ak;exact Tq q
 | cont =>
  obtain⟨_,_,_,q⟩:=ak;exact Tq q
section
variable{X:aU}{x:Str}{p pos:Pos}{e:WP}{es:List WP}{t:eE}{id T:String}{r:List V->ai->cc->Prop}
def vf(r:List V->ai->cc->Prop)(t:eE):bN:=fun σ H Q=>t σ H fun vs aw=>r vs aw Q
theorem mP(hc:km X (.builtin id) r)(aD:ep X x)(aB:X.mg x=none)(a':W8 x=some (.builtin id))(ax:gG X (e::es) t)(aH:x≠"__name__":=by decide)(hO:(x==("__debug__":Str))=false:=by decide)(au:Tk (e::es) X.env=(false,W7 e X.env)::Tk es X.env:=by rfl)(dV:(W1 pos (Tk es X.env)).any (·.1)=false:=by rfl):b5 X (.Call (.Name x p) (e::es) [] pos) (vf r t):=by
 intro pins s σ H Q I h;refine WZ (kX I aD aB a' ?_ aH hO);exact PyProof.Rows.callWith_builtin1 (b9 (ax pos pins s σ H _ I h) fun aG aE ⟨vs,aw,a2,av,aN⟩=>hc pins aE σ aw vs aG Q a2 av aN) au dV
theorem vg(hc:km X (.type T) r)(aD:ep X x)(aB:X.mg x=none)(a':W8 x=some (.type T))(ax:gG X (e::es) t)(aH:x≠"__name__":=by decide)(hO:(x==("__debug__":Str))=false:=by decide)(au:Tk (e::es) X.env=(false,W7 e X.env)::Tk es X.env:=by rfl)(dV:(W1 pos (Tk es X.env)).any (·.1)=false:=by rfl):b5 X (.Call (.Name x p) (e::es) [] pos) (vf r t):=by
 intro pins s σ H Q I h;refine WZ (kX I aD aB a' ?_ aH hO);exact Ui (b9 (ax pos pins s σ H _ I h) fun aG aE ⟨vs,aw,a2,av,aN⟩=>hc pins aE σ aw vs aG Q a2 av aN) au dV
end
end L2
namespace HT
open PySem PyProof.Rows
section
variable{prog:WF}{w:WU}{A:WV}{E:SC->SL->Prop}{s:SL}
def sIx(n d:Nat):Option Int->Nat
 | none=>d
 | some v=>if v<0 then(v+(n:Int)).toNat else min v.toNat n
theorem Il(n d:Nat)(hd:d<=n)(o:Option Int):sIx n d o<=n:=by
 cases o with
 | none=>exact hd
 | some v =>
  show(if v<0 then(v+(n:Int)).toNat else min v.toNat n)<=n
  by_cases a':v<0
  ·rw[TI a'];lia
  ·rw[TT a'];exact Nat.min_le_right _ _
theorem zU(v:Int)(n d:Nat):(if v<0 then max (v+(n:Int)) 0 else min v (n:Int))=((sIx n d (some v):Nat):Int):=by
 show(if v<0 then max (v+(n:Int)) 0 else min v (n:Int))=(((if v<0 then(v+(n:Int)).toNat else min v.toNat n):Nat):Int)
 by_cases a':v<0
 ·simp only[TI a'];lia
 ·simp only[TT a'];lia
theorem Im(lo aC:Option Int)(n:Nat):Builtin.Slice.sliceAdjust lo aC 1 (n:Int)=(((sIx n 0 lo:Nat):Int),((sIx n n aC:Nat):Int)):=by
 have aa:¬((1:Int)<0):=by lia
 unfold Builtin.Slice.sliceAdjust;simp only[aa,if_false];refine Ue ?_ ?_
 ·cases lo with
  | none=>rfl
  | some v=>exact zU v n 0
 ·cases aC with
  | none=>rfl
  | some v=>exact zU v n n
theorem Io(i j:Nat):Builtin.Slice.slicePlaces (i:Int) (j:Int) 1=j-i:=by
 unfold Builtin.Slice.slicePlaces;have aa:(1:Int)>0:=by lia
 simp only[aa,if_true,Vr];split<;>lia
theorem zV{v:SC}{o:Option Int}{Q:Option Int->SL->Prop}(p:Yz v o)(h:Q o s):wpAny (UV prog w) A (Builtin.Slice.slicePartIndex v) Q E s:=by
 cases p with
 | none=>exact slicePart_none h
 | int i t=>exact slicePart_int h
theorem Ip{sl:Tl}{gh hA:SC}{lo aC:Option Int}{n:Nat}{Q:Int×Int×Nat->SL->Prop}(ak:s.heap.IsSliceOf sl gh hA .none)(cV:Yz gh lo)(jc:Yz hA aC)(h:Q (((sIx n 0 lo:Nat):Int),1,sIx n n aC-sIx n 0 lo) s):wpAny (UV prog w) A (Builtin.Slice.sliceApplied (.ref sl) (pure (n:Int))) Q E s:=by
 obtain⟨os,pu,zW,rp⟩:=id ak;unfold Builtin.Slice.sliceApplied Builtin.Slice.sliceFields;refine SB (SB (W9 pu rp (x:=gh) rfl (SB (W9 pu rp (x:=hA) rfl (SB (W9 pu rp (x:=.none) rfl (TD ?_)))))));refine SB (slicePart_none ?_);show wpAny _ _ (if((1:Int)==0)=true then _ else _) _ _ s
 rw[TT (by decide)];refine SB (zV cV (SB (zV jc (SB (TD ?_)))));show wpAny _ _ (match Builtin.Slice.sliceAdjust lo aC 1 (n:Int)with|(lo,aC)=>pure (lo,(1:Int),Builtin.Slice.slicePlaces lo aC 1)) _ _ s
 rw[Im lo aC n];show wpAny _ _ (pure (((sIx n 0 lo:Nat):Int),(1:Int),Builtin.Slice.slicePlaces ((sIx n 0 lo:Nat):Int) ((sIx n n aC:Nat):Int) 1)) _ _ s
 rw[Io];exact TD h
theorem Iq(xs:Array SC)(i k:Nat):((Te k).filterMap fun(m:Nat)=>xs[((i:Int)+(m:Int)*1).toNat]?).toArray=((xs.toList.drop i).take k).toArray:=by
 have e:(fun(m:Nat)=>xs[((i:Int)+(m:Int)*1).toNat]?)=fun m=>xs[i+m]?:=by
  funext m;have:((i:Int)+(m:Int)*1).toNat=i+m:=by lia
  rw[this]
 rw[e];have:=pick_run xs i k;rw[V6]at this;have ao:((fun x=>xs[x]?)∘fun x=>i+x)=fun m=>xs[i+m]?:=rfl;rw[ao]at this;rw[this]
theorem getItem_tuple_cut{t sl:Tl}{items:Array SC}{gh hA:SC}{lo aC:Option Int}{Q:SC->SL->Prop}(aR:IsTup s.heap t items)(ak:s.heap.IsSliceOf sl gh hA .none)(cV:Yz gh lo)(jc:Yz hA aC)(hw:¬(sIx items.size 0 lo=0/\sIx items.size items.size aC=items.size))(h:Q (.ref s.heap.objs.size) { s with heap:=s.heap.push { cls:=.type "tuple",data:=.seq ((items.toList.drop (sIx items.size 0 lo)).take (sIx items.size items.size aC-sIx items.size 0 lo)).toArray } })(hsz:items.size<=SZ):wpAny (UV prog w) A (YH (.ref t) (.ref sl)) Q E s:=by
 have rq:sizeOk (.seq ((items.toList.drop (sIx items.size 0 lo)).take (sIx items.size items.size aC-sIx items.size 0 lo)).toArray):=by
  show((items.toList.drop (sIx items.size 0 lo)).take (sIx items.size items.size aC-sIx items.size 0 lo)).toArray.size<=SZ
  rw[SS,TJ,TL,UR];lia
 have bz:sIx items.size items.size aC<=items.size:=Il _ _ (SD _) aC;obtain⟨os,pu,zW,rp⟩:=id ak;have Ir:s.TypeIs (.ref sl) "slice":=⟨os,pu,zW⟩;unfold YH
 try with_reducible refine WW ?_
 first|refine SB (TD ?_)|skip
 refine SB (wpAny_sequenceKey aR.typeIs (by decide) ?_)
 refine SB (Xl (name:=Str.ofString "__getitem__") aR.typeIs Vs
  (XG Vs aR.typeIs entry_tuple_getitem ?_ (args_tuple_getitem _ _)))
 show wpAny _ _ (Builtin.Tuple.tupleItemsOf (.ref t) >>= _) _ _ s
 refine SB (tupleItemsOf_ aR ?_);refine SB (wpAny_typeOf Ir ?_);rw[TI (by decide)];refine SB (Ip ak cV jc ?_)
 have It:¬((((sIx items.size 0 lo:Nat):Int)==0&&(1:Int)==1&&(sIx items.size items.size aC-sIx items.size 0 lo)==items.size)=true):=by
  intro q;rw[Tu,Tu]at q;have aN:((sIx items.size 0 lo:Nat):Int)=0:=eq_of_beq q.1.1;have a3:sIx items.size items.size aC-sIx items.size 0 lo=items.size:=eq_of_beq q.2;exact hw ⟨by lia,by lia⟩
 show wpAny _ _ (if(((sIx items.size 0 lo:Nat):Int)==0&&(1:Int)==1&&(sIx items.size items.size aC-sIx items.size 0 lo)==items.size)=true then _ else _) _ _ s
 rw[TT It,Iq]
 first
  | exact SB (m:=Builtin.Tuple.tupleExact _) (WX (TD ⟨_,rfl,TD h⟩) rq)
  | exact SB (m:=Builtin.Tuple.tupleExact _) (WX (SB (TD (TD ⟨_,rfl,TD h⟩))) rq)
  | exact SB (SB (m:=Builtin.Tuple.tupleExact _) (WX (TD (TD ⟨_,rfl,TD h⟩)) rq))
  | exact SB (SB (m:=Builtin.Tuple.tupleExact _) (WX (TD ⟨_,rfl,TD h⟩) rq))
end
end HT
namespace L2
open PySem PySem.Spec PyProof.Rows
abbrev b4:=St->ai->(Option Int->ai->Prop)->Prop
def pv(X:aU)(e:Option WP)(t:b4):Prop :=
 ∀(pins:List (Tl×Obj))(s:SL)(σ:St)(H:ai)(Q:Option Int->ai->Prop),Inv X pins σ H s->t σ H Q ->
  wpAny (UV X.prog X.w) X.A (evalPart e X.env) (fun u s'=>∃o af,Inv X pins σ af s'/\Yz u o/\Q o af) X.xe s
def Iu:b4:=fun _ H Q=>Q none H
def Iv(t:bN):b4:=fun σ H Q=>t σ H fun x aw=>∃i,x=.int i/\Q (some i) aw
theorem intsAre_of{ns:List Int}:∀{aG:List SC},bV (ns.map V.int) aG->XS aG ns:=by
 induction ns with
 | nil=>intro aG r;rw[UT]at r;cases r;exact .nil
 | cons n ns bR =>
  intro aG r;rw[SV]at r;cases r with
  | cons av aK =>
   obtain⟨t,e⟩:=av;subst e;exact .cons n t (bR aK)
section
variable{X:aU}{e:WP}{bI:bN}{lo aC:Option WP}{fb rr:b4}{pos cg:Pos}
theorem Iw:pv X none Iu:=by
 intro pins s σ H Q I h;rw[Yj];exact TD ⟨none,H,I,.none,h⟩
theorem Ix(h:b5 X e bI):pv X (some e) (Iv bI):=by
 intro pins s σ H Q I hw;rw[evalPart_some];refine b9 (h pins s σ H _ I hw) fun u aE ⟨x,aw,a2,av,aN⟩=>?_;obtain⟨i,rfl,q⟩:=aN;obtain⟨t,rfl⟩:=av;exact⟨some i,aw,a2,.int i t,q⟩
def vh(X:aU)(r:V->Option Int->Option Int->ai->cc->Prop):Prop :=
 ∀(pins:List (Tl×Obj))(s:SL)(σ:St)(H:ai)(x:V)(v gh hA:SC)(lo aC:Option Int)(sl:Tl)(Q:cc),Inv X pins σ H s->RelV x v->s.heap.IsSliceOf sl gh hA .none->Yz gh lo->Yz hA aC->r x lo aC H Q ->
  ∃T id,typeLookup (.type T) "__getitem__"=pure (some (.builtin id))/\s.TypeIs v T/\wpAny (UV X.prog X.w) X.A (YH v (.ref sl)) (fp X pins σ Q) X.xe s
def Iy(r:V->Option Int->Option Int->ai->cc->Prop)(bI:bN)(fb rr:b4):bN:=fun σ H Q=>bI σ H fun x aw=>fb σ aw fun l aV=>rr σ aV fun u ca=>r x l u ca Q
theorem zX{r:V->Option Int->Option Int->ai->cc->Prop}(am:vh X r)(au:b5 X e bI)(ay:pv X lo fb)(bM:pv X aC rr):b5 X (.Subscript e (.Slice lo aC none cg) pos) (Iy r bI fb rr):=by
 intro pins s σ H Q I h;refine Subscript_ (b9 (au pins s σ H _ I h) fun v aE ⟨x,aw,a2,av,aN⟩=>?_);refine wpAny_Slice (b9 (ay pins aE σ aw _ a2 aN) fun gh a4 ⟨l,aV,dg,cV,a3⟩=>b9 (bM pins a4 σ aV _ dg a3) fun hA a8 ⟨u,ca,bU,jc,cE⟩=>?_);rw[Yj];refine TD ?_;have g4:Inv X pins σ ca { a8 with heap:=a8.heap.push { cls:=.type "slice",data:=.fields #[gh,hA,.none] } }:=bU.kept (t':=a8.toks) fun b cf q=>Heap.get?_push_of_some _ q;obtain⟨T,id,eK,aR,aD⟩:=am pins { a8 with heap:=a8.heap.push { cls:=.type "slice",data:=.fields #[gh,hA,.none] } } σ ca x v gh hA l u a8.heap.objs.size Q g4 av (Heap.IsSliceOf.new ..) cV jc cE;show wpAny (UV X.prog X.w) X.A (Yk e (.Slice lo aC none cg) v (.ref a8.heap.objs.size)) (fp X pins σ Q) X.xe { a8 with heap:=a8.heap.push { cls:=.type "slice",data:=.fields #[gh,hA,.none] } }
 exact tail_any (ops:=[.ref a8.heap.objs.size,v]) aR eK aD (by with_unfolding_all rfl)
def mQ(xs:List V)(lo aC:Option Int):List V:=(xs.drop (HT.sIx xs.length 0 lo)).take (HT.sIx xs.length xs.length aC-HT.sIx xs.length 0 lo)
theorem zY(xs:List V)(lo aC:Option Int):(mQ xs lo aC).length<=xs.length:=by
 unfold mQ;rw[TJ,TL];lia
def Iz(K:Su):V->Option Int->Option Int->ai->cc->Prop:=fun x lo aC H Q=>∃a xs,x=.ref a/\eA K H a xs /\
 ¬(HT.sIx xs.length 0 lo=0/\HT.sIx xs.length xs.length aC=xs.length)/\∀p,H p=none->Q (.ref p) (upd H p (.tup (mQ xs lo aC)))
theorem IA:vh X (Iz X.K):=by
 intro pins s σ H x v gh hA lo aC sl Q I ba ak cV jc h;obtain⟨a,xs,rfl,aj,hw,q⟩:=h;cases ba;obtain⟨its,r,aR,hz⟩:=I.tuple aj;have d9:its.toArray.size=xs.length:=by rw[SS];exact r.length.symm
 refine⟨"tuple",_,Vs.lookup,aR.typeIs,?_⟩;refine HT.getItem_tuple_cut aR ak cV jc (by rw[d9];exact hw) ?_ (by rw[d9];exact hz);rw[d9];refine⟨.ref s.heap.objs.size,_,I.laid (t':=s.toks) (o:=.tup (mQ xs lo aC)) (fun b cf q=>Heap.get?_push_of_some _ q) (SD _) ?_,rfl,q _ (I.hok.fresh (SD _))⟩;exact⟨SA (zY xs lo aC) hz,_,(r.drop (HT.sIx xs.length 0 lo)).take (HT.sIx xs.length xs.length aC-HT.sIx xs.length 0 lo),IsTup.new _ _⟩
end
def ixN(n:Nat)(i:Int):Option Nat:=if 0<=i then(if i<n then some i.toNat else none)else if -(n:Int)<=i then some (i+n).toNat else none
def ea{α:Type}(xs:List α)(i:Int):Option α:=(ixN xs.length i).bind fun j=>xs[j]?
theorem zZ{n:Nat}{i:Int}{j:Nat}(h:ixN n i=some j):seqIndex? i n=some j/\j<n /\ -(n:Int)<=i/\i<n:=by
 unfold ixN at h;by_cases bY:0<=i
 ·rw[TI bY]at h;by_cases aa:i<n
  ·rw[TI aa]at h;have e:i.toNat=j:=SM h;exact⟨by rw[YA bY aa,e],by lia,by lia,aa⟩
  ·rw[TT aa]at h;cases h
 ·rw[TT bY]at h;by_cases aa : -(n:Int)<=i
  ·rw[TI aa]at h;have e:(i+n).toNat=j:=SM h;exact⟨by rw[Yw (by lia) aa,e],by lia,aa,by lia⟩
  ·rw[TT aa]at h;cases h
theorem z0{α:Type}{xs:List α}{i:Int}{v:α}(h:ea xs i=some v):∃j,seqIndex? i xs.length=some j/\xs[j]?=some v/\j<xs.length /\ -(xs.length:Int)<=i/\i<xs.length:=by
 unfold ea at h;cases e:ixN xs.length i with
 | none=>rw[e]at h;cases h
 | some j =>
  rw[e]at h;obtain⟨aa,ab,aQ,bB⟩:=zZ e;exact⟨j,aa,h,ab,aQ,bB⟩
def vi(b:WP):Prop:=∀o i,subscripted b false o i=operate [o,i] (YH o i)
def ru(X:aU)(r:hy):Prop :=
 ∀(value slice:WP)(pins:List (Tl×Obj))(s:SL)(σ:St)(H:ai)(x y:V)(v u:SC)(Q:cc),Inv X pins σ H s->RelV x v->RelV y u->r x y H Q ->
  subscripted slice false v u=operate [v,u] (YH v u)->wpAny (UV X.prog X.w) X.A (Yk value slice v u) (fp X pins σ Q) X.xe s
def z1(X:aU)(id:String)(r:V->List V->ai->cc->Prop):Prop :=
 ∀(pins:List (Tl×Obj))(s:SL)(σ:St)(H:ai)(x:V)(xs:List V)(v:SC)(aG:List SC)(Q:cc),Inv X pins σ H s->RelV x v->bV xs aG->r x xs H Q ->
  wpAny (UV X.prog X.w) X.A (call (.builtin id) (v::aG)) (fp X pins σ Q) X.xe s
section
variable{X:aU}{a b:WP}{ta tb:bN}{pos:Pos}
theorem lZ{r:hy}(am:ru X r)(ax:b5 X a ta)(ae:b5 X b tb)(ak:vi b):b5 X (.Subscript a b pos) (kn r ta tb):=by
 intro pins s σ H Q I h;exact Subscript_ (u8 ax ae I h fun v u a4 x y aV dg ba cm q=>am a b pins a4 σ aV x y v u Q dg ba cm q (ak _ _))
def IB(K:Su):hy:=fun x y H Q=>∃p xs i v,x=.ref p/\y=.int i/\cl K H p xs/\ea xs i=some v/\Q v H
def IC(K:Su):hy:=fun x y H Q=>∃p xs i v,x=.ref p/\y=.int i/\eA K H p xs/\ea xs i=some v/\Q v H
theorem z2:ru X (IB X.K):=by
 intro value slice pins s σ H x y v u Q I ba cm h ak;obtain⟨p,xs,i,z,rfl,rfl,aL,au,q⟩:=h;cases ba;obtain⟨t,rfl⟩:=cm;obtain⟨its,r,cV,hz⟩:=I.list aL;obtain⟨j,aa,ab,aQ,bB,ek⟩:=z0 au;obtain⟨w,kq,ph⟩:=r.get ab;have ay:=r.length;have aH:=pl;have eT:fp X pins σ Q w s:=⟨z,H,I,ph,q⟩;by_cases bY:0<=i
 ·have bz:i.toNat=j:=by
   rw[YA bY ek]at aa;exact SM aa
  exact item_listR cV.isList bY (by lia) (by rw[bz];simpa using kq) eT ak
 ·have bz:(i+(its.toArray.size:Int)).toNat=j:=by
   rw[Yw (by lia) bB]at aa;rw[SS,<-ay];exact SM aa
  exact XI (x:=w) cV.isList.typeIs slot_list_getitem.lookup
   (wpAny_getItem_list_neg (Q:=fun r s'=>r=w/\fp X pins σ Q r s') cV.isList (by lia) (by rw[SS]<;>lia) (by lia) (by rw[bz];simpa using kq) ⟨rfl,eT⟩) ak
theorem ID:ru X (IC X.K):=by
 intro value slice pins s σ H x y v u Q I ba cm h ak;obtain⟨p,xs,i,z,rfl,rfl,aL,au,q⟩:=h;cases ba;obtain⟨t,rfl⟩:=cm;obtain⟨its,r,cV,hz⟩:=I.tuple aL;obtain⟨j,aa,ab,aQ,bB,ek⟩:=z0 au;obtain⟨w,kq,ph⟩:=r.get ab;have ay:=r.length;have aH:=pl;have eT:fp X pins σ Q w s:=⟨z,H,I,ph,q⟩
 exact XI (x:=w) cV.typeIs slot_tuple_getitem.lookup
  (getItem_tuple (j:=j) (Q:=fun r s'=>r=w/\fp X pins σ Q r s') cV (by lia) (by lia) (by rw[SS,<-ay];exact aa) (by simpa using kq) ⟨rfl,eT⟩) ak
theorem IE(its:List SC)(n j:Nat)(u:SC):Obj.mapSeq (·.setIfInBounds j u) { cls:=.type "list",data:=.seq its.toArray n }={ cls:=.type "list",data:=.seq (its.set j u).toArray n }:=by
 simp[Obj.mapSeq]
theorem Inv.lst{pins:List (Tl×Obj)}{σ:St}{H:ai}{s:SL}{p:Tl}{xs:List V}(I:Inv X pins σ H s)(h:H p=some (.lst xs)):
  ∃(its:List SC)(n:Nat),bV xs its/\s.heap.get? p=some { cls:=.type "list",data:=.seq its.toArray n }/\xs.length<=SZ:=by
 obtain⟨z,its,n,r,e⟩:=I.hok p _ h;exact⟨its,n,r,e,z⟩
theorem Inv.lstUpd{pins:List (Tl×Obj)}{σ:St}{H:ai}{s:SL}{p:Tl}{xs ys:List V}{its its':List SC}{n gI:Nat}{f:Obj->Obj}(I:Inv X pins σ H s)(h:H p=some (.lst xs))(aA:s.heap.get? p=some { cls:=.type "list",data:=.seq its.toArray n })(bG:f { cls:=.type "list",data:=.seq its.toArray n }={ cls:=.type "list",data:=.seq its'.toArray gI })(r:bV ys its')(hz:ys.length<=SZ)(t:Nat):
  Inv X pins σ (upd H p (.lst ys)) { s with heap:=s.heap.update p f,toks:=t }:=by
 have e:(s.heap.update p f).get? p=some { cls:=.type "list",data:=.seq its'.toArray gI }:=by
  rw[Heap.get?_update_self f aA (by rw[bG]<;>rfl),bG]
 refine I.write (x:=p) (e:=p) (by rw[h];trivial) (.inl rfl) (fun b u ae q=>(Heap.get?_update_other _ _ (Tp ae)).trans q) ⟨_,e⟩ ?_;exact⟨hz,its',gI,r,e⟩
def IF:V->V->V->ai->(ai->Prop)->Prop:=fun o i v H Q=>∃p xs k j,o=.ref p/\i=.int k/\H p=some (.lst xs)/\ixN xs.length k=some j/\Q (upd H p (.lst (xs.set j v)))
theorem z3:zs X IF:=by
 intro pins s σ H o i v ov hs u Q I IG vj b2 h;obtain⟨p,xs,k,j,rfl,rfl,aq,bz,q⟩:=h;cases IG;obtain⟨t,rfl⟩:=vj;obtain⟨its,n,r,aA,hz⟩:=I.lst aq;obtain⟨aa,ab,aQ,bB⟩:=zZ bz;have ay:=r.length;have aH:=pl
 have kh:Inv X pins σ (upd H p (.lst (xs.set j v))) { s with heap:=s.heap.update p (Obj.mapSeq (·.setIfInBounds j u)) }:=
  I.lstUpd aq aA (IE its n j u) (r.set b2 j) (by rw[UB];exact hz) s.toks
 by_cases bY:0<=k
 ·have ah:k.toNat=j:=by
   rw[YA bY bB]at aa;exact SM aa
  exact PySem.W.ki_setAt aA bY (by lia) (by rw[SS,<-ay];exact bB) (by rw[ah];exact⟨_,kh,q⟩)
 ·have ah:(k+(its.toArray.size:Int)).toNat=j:=by
   rw[Yw (by lia) aQ]at aa;rw[SS,<-ay];exact SM aa
  exact PySem.W.ki_setBack aA (by lia) (by rw[SS,<-ay];exact aQ) (by lia) (by rw[ah];exact⟨_,kh,q⟩)
theorem IH(lo aC:Option Int)(n:Nat):(W2 lo aC none n).1=((HT.sIx n 0 lo:Nat):Int)/\(W2 lo aC none n).2.1=((HT.sIx n n aC:Nat):Int)/\(W2 lo aC none n).2.2=1:=by
 refine⟨?_,?_,rfl⟩
 ·cases lo with
  | none=>simp[W2,HT.sIx]
  | some i =>
   simp only[W2,HT.sIx,V7,show(1:Int)>0 by decide,if_true];by_cases h:i<0
   ·simp only[h,if_true]<;>lia
   ·simp only[h,if_false]<;>lia
 ·cases aC with
  | none=>simp[W2,HT.sIx]
  | some i =>
   simp only[W2,HT.sIx,V7,show(1:Int)>0 by decide,if_true];by_cases h:i<0
   ·simp only[h,if_true]<;>lia
   ·simp only[h,if_false]<;>lia
theorem II(its:List SC)(lo aC:Option Int):XT its.toArray lo aC none=((its.drop (HT.sIx its.length 0 lo)).take (HT.sIx its.length its.length aC-HT.sIx its.length 0 lo)).toArray:=by
 obtain⟨aa,ab,aQ⟩:=IH lo aC its.toArray.size;unfold XT;rw[aa,ab,aQ];simp only[sliceRange_one,pick_run,SS]<;>rfl
def IJ(K:Su):V->Option Int->Option Int->ai->cc->Prop:=fun x lo aC H Q=>∃a xs,x=.ref a/\cl K H a xs/\∀p,H p=none->Q (.ref p) (upd H p (.lst (mQ xs lo aC)))
theorem IK:vh X (IJ X.K):=by
 intro pins s σ H x v gh hA lo aC sl Q I ba ak cV jc h;obtain⟨a,xs,rfl,aj,q⟩:=h;cases ba;obtain⟨its,r,aR,hz⟩:=I.list aj;have d9:=r.length;refine⟨"list",_,slot_list_getitem.lookup,aR.isList.typeIs,?_⟩;refine Xh aR.isList ak cV jc .none (by simp) ?_ (by rw[SS]<;>lia);rw[II,<-d9];refine⟨.ref s.heap.objs.size,_,I.laid (t':=s.toks) (o:=.lst (mQ xs lo aC)) (fun b cf q=>Heap.get?_push_of_some _ q) (SD _) ?_,rfl,q _ (I.hok.fresh (SD _))⟩;exact⟨SA (zY xs lo aC) hz,_,0,(r.drop (HT.sIx xs.length 0 lo)).take (HT.sIx xs.length xs.length aC-HT.sIx xs.length 0 lo),Heap.get?_push_size _ rfl⟩
theorem z4:km X (.builtin "len") (fun xs H Q=>∃p ys,xs=[.ref p]/\(cl X.K H p ys∨eA X.K H p ys)/\Q (.int ys.length) H):=by
 intro pins s σ H xs aG Q I r h;obtain⟨p,ys,rfl,aL,q⟩:=h;obtain⟨u,rfl,ba⟩:=vals1 r;cases ba;have aH:=pl;rcases aL with aL|aL
 ·obtain⟨its,c7,cV,hz⟩:=I.list aL;have d9:=c7.length;exact Calls.call_len_list cV.isList (by simp only[SS]<;>lia) ⟨.int ys.length,H,I.tok _,⟨s.toks+1,by rw[SS,d9]⟩,q⟩
 ·obtain⟨its,c7,cV,hz⟩:=I.tuple aL;have d9:=c7.length;exact len_tuple cV (by simp only[SS]<;>lia) ⟨.int ys.length,H,I.tok _,⟨s.toks+1,by rw[SS,d9]⟩,q⟩
theorem IL:km X (.type "list") (fun xs H Q=>∃p ys,xs=[.ref p]/\(cl X.K H p ys∨eA X.K H p ys)/\∀l,H l=none->Q (.ref l) (upd H l (.lst ys))):=by
 intro pins s σ H xs aG Q I r h;obtain⟨p,ys,rfl,aL,q⟩:=h;obtain⟨u,rfl,ba⟩:=vals1 r;cases ba
 have eT:∀(its:List SC),bV ys its->ys.length<=SZ->∀(h':WY)(cu:Nat),(∀b ey,s.heap.get? b=some ey->h'.get? b=some ey) ->
   h'.get? s.heap.objs.size=some { cls:=.type "list",dict:=none,data:=.seq its.toArray cu,slots :=#[] }->fp X pins σ Q (.ref s.heap.objs.size) { s with heap:=h' }:=fun its c7 hz h' cu kp e =>
  ⟨.ref s.heap.objs.size,_,I.laid (t':=s.toks) kp (SD _) (show fV X.prog X.w _ h' _ (.lst ys)from⟨hz,its,cu,c7,e⟩),rfl,q _ (I.hok.fresh (SD _))⟩
 rcases aL with aL|aL
 ·obtain⟨its,c7,cV,hz⟩:=I.list aL;have d9:=c7.length;obtain⟨o,aA,hc,n,hd⟩:=cV.isList;exact call_list_seq p (.inl rfl) aA hc hd (fun h' cu kp e=>eT its c7 hz h' cu kp e) (by simp only[SS]<;>lia)
 ·obtain⟨its,c7,cV,hz⟩:=I.tuple aL;have d9:=c7.length;obtain⟨o,aA,hc,n,hd⟩:=cV;exact call_list_seq p (.inr rfl) aA hc hd (fun h' cu kp e=>eT its c7 hz h' cu kp e) (by simp only[SS]<;>lia)
def vk(K:Su)(T:String)(x:V)(H:ai):Prop:=match x with
 | .str _=>T="str"
 | .int _=>T="int"
 | .ref p=>(T="list"/\∃xs,cl K H p xs)∨(T="tuple"/\∃o,K.lookup p=some o/\o.cls=.type "tuple"/\o.dict=none) ∨
   (T="dict"/\((∃kvs,H p=some (.dK kvs))∨∃kvs,H p=some (.dT kvs)))∨(T="set"/\∃S n,H p=some (.set S n))
 | _=>False
theorem z5{pins:List (Tl×Obj)}{σ:St}{H:ai}{s:SL}{T:String}{x:V}{v:SC}(I:Inv X pins σ H s)(r:RelV x v)(ty:vk X.K T x H):
  s.TypeIs v T/\∀a,v=.ref a->∃cf,s.heap.get? a=some cf/\cf.dict=none:=by
 cases x with
 | str z =>
  obtain⟨t,rfl⟩:=r;cases(show T="str" from ty);exact⟨typeIs_str s z t,fun _ e=>nomatch e⟩
 | int i =>
  obtain⟨t,rfl⟩:=r;cases(show T="int" from ty);exact⟨typeIs_int s i t,fun _ e=>nomatch e⟩
 | ref p =>
  cases r;rcases ty with⟨rfl,xs,aL⟩|⟨rfl,o,ah,hc,hd⟩|⟨rfl,ah⟩|⟨rfl,S,n,ah⟩
  ·obtain⟨its,_,cV,_⟩:=I.list aL;refine⟨cV.isList.typeIs,fun a e=>?_⟩;cases e;obtain⟨o,n,e,c,hd,_⟩:=cV;exact⟨o,e,hd⟩
  ·refine⟨⟨o,I.kIn p o ah,hc⟩,fun a e=>?_⟩;cases e;exact⟨o,I.kIn _ o ah,hd⟩
  ·have z:∃o,s.heap.get? p=some o/\o.ExactDict:=by
    rcases ah with⟨kvs,ah⟩|⟨kvs,ah⟩
    ·obtain⟨_,_,_,_,o,_,_,e,ex,_⟩:=I.hok p _ ah;exact⟨o,e,ex⟩
    ·obtain⟨_,_,_,_,o,_,_,e,ex,_⟩:=I.hok p _ ah;exact⟨o,e,ex⟩
   obtain⟨o,e,ex⟩:=z;refine⟨⟨o,e,ex.1⟩,fun a ao=>?_⟩;cases ao;exact⟨o,e,ex.2.1⟩
  ·obtain⟨o,_,_,_,e,ex,_⟩:=I.hok p _ ah;refine⟨⟨o,e,ex.1⟩,fun a ao=>?_⟩;cases ao;exact⟨o,e,ex.2.1⟩
 | _=>exact Tq ty
def IM(K:Su)(T:String)(r:V->List V->ai->cc->Prop)(to:bN):bN:=fun σ H Q=>to σ H fun x aw=>vk K T x aw/\r x [] aw Q
def IN(K:Su)(T:String)(r:V->List V->ai->cc->Prop)(to:bN)(t:eE):bN:=fun σ H Q=>to σ H fun x aw=>vk K T x aw/\t σ aw fun xs aV=>r x xs aV Q
variable{o e:WP}{es:List WP}{to:bN}{t:eE}{name:Str}{gg eb:Pos}{T id:String}{r:V->List V->ai->cc->Prop}
theorem IP(iI:PlainAttrs T)(slot:Slot T name id)(vl:typeOf (.builtin id)=pure (.type "method_descriptor"))(aB:z1 X id r)(aA:b5 X o to)(jE:Xm o name X.env (W7 o X.env)=W7 o X.env:=by rfl)(jF:(gg.endLine==eb.line)=true:=by rfl):b5 X (.Call (.Attribute o name gg) [] [] eb) (IM X.K T r to):=by
 intro pins s σ H Q I h;refine wpAny_Call_method0_late jE jF (b9 (aA pins s σ H _ I h) fun v aE ⟨x,aw,a2,av,ty,aN⟩=>?_);obtain⟨aa,ab⟩:=z5 a2 av ty;exact⟨T,id,iI,slot,vl,aa,ab,Calls.callWith_builtin rfl (PySem.evalArgs_none (aB pins aE σ aw x [] v [] Q a2 av .nil aN))⟩
theorem vm(iI:PlainAttrs T)(slot:Slot T name id)(vl:typeOf (.builtin id)=pure (.type "method_descriptor"))(aB:z1 X id r)(aA:b5 X o to)(ax:gG X (e::es) t)(jE:Xm o name X.env (W7 o X.env)=W7 o X.env:=by rfl)(mR:((W1 eb (Tk (e::es) X.env)).all (fun x => !x.1)&&(YI eb (X8 [] X.env)).all (fun x=>x.1.isSome)
   && decide ((e::es).length+([]:List X9).length+(if([]:List X9).isEmpty then 0 else 1)<30))=true:=by rfl)(jF:(gg.endLine==eb.line)=true:=by rfl)(ak:Tk (e::es) X.env=(false,W7 e X.env)::Tk es X.env:=by rfl)(mS:(W1 eb (Tk es X.env)).any (·.1)=false:=by rfl):
  b5 X (.Call (.Attribute o name gg) (e::es) [] eb) (IN X.K T r to t):=by
 intro pins s σ H Q I h;refine wpAny_Call_method_late jE mR jF rfl (b9 (aA pins s σ H _ I h) fun v aE ⟨x,aw,a2,av,ty,aN⟩=>?_);obtain⟨aa,ab⟩:=z5 a2 av ty;refine⟨T,id,iI,slot,vl,aa,ab,?_⟩;have ft:=ax eb pins aE σ aw _ a2 aN;rw[ak]at ft ⊢;refine Calls.callWith_builtin (by show(false||(W1 eb (Tk es X.env)).any (·.1))=false;rw[mS]<;>rfl) (Calls.evalArgs_plain ?_);exact b9 ft fun aG a4 ⟨vs,aV,dg,aK,a3⟩=>aB pins a4 σ aV x vs v aG Q dg av aK a3
end
def vn(X:aU)(id:String)(r:V->List V->ai->cc->Prop):Prop :=
 ∀(pins:List (Tl×Obj))(s:SL)(σ:St)(H:ai)(x:V)(xs:List V)(v:SC)(aG:List SC)(Q:cc),Inv X pins σ H s->RelV x v->bV xs aG->r x xs H Q ->
  wpAny (UV X.prog X.w) X.A (call (.builtin id) (v::aG)) (fp X pins σ Q) X.xe s
theorem bV.one:∀{x:V}{aG:List SC},bV [x] aG->∃u,aG=[u]/\RelV x u
 | _,_,.cons r .nil=>⟨_,rfl,r⟩
theorem bV.zero:∀{aG:List SC},bV [] aG->aG=[]
 | _,.nil=>rfl
theorem bV.dropLast{xs:List V}{aG:List SC}(h:bV xs aG):bV xs.dropLast aG.dropLast:=by
 induction h with
 | nil=>exact .nil
 | cons r t bR =>
  cases t with
  | nil=>exact .nil
  | cons q t'=>exact .cons r bR
theorem bV.reverse{xs:List V}{aG:List SC}(h:bV xs aG):bV xs.reverse aG.reverse:=by
 induction h with
 | nil=>exact .nil
 | cons r t bR=>rw[UU,UU];exact bV.append bR (.cons r .nil)
theorem IQ{α:Type}(l:List α):l.eraseIdx (l.length-1)=l.dropLast:=by
 induction l with
 | nil=>rfl
 | cons a r bR =>
  cases r with
  | nil=>rfl
  | cons b r =>
   have e:(a::b::r).length-1=((b::r).length-1)+1:=by
    have aa:(a::b::r).length=r.length+2:=rfl;have ab:(b::r).length=r.length+1:=rfl;lia
   rw[e,List.eraseIdx_cons_succ,bR]
   all_goals rfl
section
variable{X:aU}{pins:List (Tl×Obj)}{σ:St}{H:ai}{s:SL}{l b:Tl}{xs ys di:List V}
theorem Inv.lset{its its':List SC}{n:Nat}{f:Array SC->Array SC}{t':Nat}(I:Inv X pins σ H s)(fI:H l=some (.lst xs))(e:s.heap.get? l=some { cls:=.type "list",data:=.seq its.toArray n })(bG:f its.toArray=its'.toArray)(a':bV ys its')(hz:ys.length<=SZ):
  Inv X pins σ (upd H l (.lst ys)) { s with heap:=s.heap.update l (Obj.mapSeq f),toks:=t' }:=by
 have q:=PySem.IsL.update e f;rw[bG]at q;refine I.write (x:=l) (e:=l) (by rw[fI];exact trivial) (.inl rfl) (fun l0 u ae bM=>(Heap.get?_update_other s.heap (Obj.mapSeq f) (Tp ae)).trans bM) ⟨_,q⟩ ?_;exact⟨hz,its',_,a',q⟩
theorem Inv.lnew{its:List SC}{t':Nat}(I:Inv X pins σ H s)(a':bV ys its)(hz:ys.length<=SZ):
  Inv X pins σ (upd H s.heap.objs.size (.lst ys)) { s with heap:=s.heap.push { cls:=.type "list",data:=.seq its.toArray },toks:=t' }:=
 I.laid (fun _ _ q=>Heap.get?_push_of_some _ q) (SD _) ⟨hz,its,0,a',Heap.get?_push_size _ rfl⟩
theorem Inv.fresh(I:Inv X pins σ H s):H s.heap.objs.size=none:=I.hok.fresh (SD _)
theorem Inv.lstM(I:Inv X pins σ H s)(fI:H l=some (.lst xs)):xs.length<=SZ/\∃(its:List SC)(n:Nat),bV xs its/\xs.length=its.length/\s.heap.get? l=some { cls:=.type "list",data:=.seq its.toArray n }:=by
 obtain⟨z,its,n,r,e⟩:=I.hok l _ fI;exact⟨z,its,n,r,r.length,e⟩
theorem IR{n:Nat}(h:n<=SZ):Builtin.List.listTooLong n=false:=by
 unfold Builtin.List.listTooLong;exact WS (by lia)
end
section
variable{X:aU}
def IS:V->List V->ai->cc->Prop:=fun x vs H Q=>∃l xs y,x=.ref l/\vs=[y]/\H l=some (.lst xs)/\xs.length<SZ/\Q .non (upd H l (.lst (xs++[y])))
theorem rv:vn X "list.append" IS:=by
 intro pins s σ H x vs v aG Q I ba b2 h;obtain⟨l,xs,y,rfl,rfl,fI,hz,q⟩:=h;cases ba;obtain⟨u,rfl,gr⟩:=b2.one;obtain⟨z,its,n,r,ay,e⟩:=I.lstM fI;refine call_meets F.slot_list_append ⟨_,e,rfl⟩ F.entry_list_append (F.args_list_append_2 _ _) (PySem.list_append l its.toArray n u (by rw[SS];lia)) ⟨e,?_⟩;refine⟨.non,_,I.lset (its':=its++[u]) fI e (by simp) (r.append (.cons gr .nil)) ?_,rfl,q⟩;rw[SE,TM];lia
def IT:V->List V->ai->cc->Prop:=fun x vs H Q=>∃l b xs di,x=.ref l/\vs=[.ref b]/\H l=some (.lst xs)/\H b=some (.lst di)/\xs.length+di.length<=SZ/\Q .non (upd H l (.lst (xs++di)))
theorem IU:vn X "list.extend" IT:=by
 intro pins s σ H x vs v aG Q I ba b2 h;obtain⟨l,b,xs,di,rfl,rfl,fI,jd,hz,q⟩:=h;cases ba;obtain⟨u,rfl,gr⟩:=b2.one;cases gr;obtain⟨z,its,n,r,ay,e⟩:=I.lstM fI;obtain⟨bc,e3,cN,aK,l1,ao⟩:=I.lstM jd;have hsz:its.toArray.size+e3.toArray.size<=SZ:=by rw[SS,SS];lia
 have IV:¬(!its.toArray.isEmpty&&Builtin.List.listTooLong (its.toArray.size+e3.toArray.size))=true:=by
  rw[IR hsz,Bool.and_false];exact SP
 refine call_meets F.slot_list_extend ⟨_,e,rfl⟩ F.entry_list_extend (F.args_list_extend_2 _ _)
  (AutoSeq1.list_extend_list_list_0 l its.toArray n b e3.toArray cN IV (by rw[SS];lia) (by lia)) ⟨e,ao,?_⟩
 refine⟨.non,_,I.lset (its':=its++e3) fI e (by simp) (r.append aK) ?_,rfl,q⟩;rw[SE];lia
def IW:V->List V->ai->cc->Prop:=fun x vs H Q=>∃l xs y,x=.ref l/\vs=[]/\H l=some (.lst xs)/\xs[xs.length-1]?=some y/\Q y (upd H l (.lst xs.dropLast))
theorem IX:vn X "list.pop" IW:=by
 intro pins s σ H x vs v aG Q I ba b2 h;obtain⟨l,xs,y,rfl,rfl,fI,aM,q⟩:=h;cases ba;have IY:=b2.zero;subst IY;obtain⟨z,its,n,r,ay,e⟩:=I.lstM fI;obtain⟨u,bM,gr⟩:=r.get aM
 have vo:its.toArray[its.toArray.size-1]?=some u:=by
  show its.toArray[its.length-1]?=some u
  rw[<-V8,<-ay];exact bM
 refine call_meets F.slot_list_pop ⟨_,e,rfl⟩ F.entry_list_pop (F.args_list_pop_1 _) (MeetsSeq.list_pop_last l its.toArray n u vo (by rw[SS];lia)) ⟨e,?_⟩;refine⟨y,_,I.lset (its':=its.dropLast) fI e ?_ r.dropLast ?_,gr,q⟩
 ·show its.toArray.eraseIdxIfInBounds (its.toArray.size-1)=its.dropLast.toArray
  rw[SS,List.eraseIdxIfInBounds_toArray,IQ]
 ·rw[List.length_dropLast];lia
def IZ:hy:=fun x y H Q=>∃l b xs di,x=.ref l/\y=.ref b/\H l=some (.lst xs)/\H b=some (.lst di)/\xs.length+di.length<=SZ/\∀p,H p=none->Q (.ref p) (upd H p (.lst (xs++di)))
theorem I0:eX X (Xy .Add) IZ:=by
 intro pins s σ H x y v u Q I ba cm h;obtain⟨l,b,xs,di,rfl,rfl,fI,jd,hz,q⟩:=h;cases ba;cases cm;obtain⟨z,its,n,r,ay,e⟩:=I.lstM fI;obtain⟨bc,e3,cN,aK,l1,ao⟩:=I.lstM jd;refine PySem.P.add_list e ao ?_ (by rw[SS,SS];lia);have er:its.toArray++e3.toArray=(its++e3).toArray:=by simp
 rw[er];exact⟨.ref _,_,I.lnew (t':=s.toks) (r.append aK) (by rw[SE];lia),rfl,q _ I.fresh⟩
end
section
variable{prog:WF}{w:WU}{A:WV}{E:SC->SL->Prop}{s:SL}
set_option maxRecDepth 100000 in
end
end L2
namespace Att
open PySem PySem.W PySem.Calls PyProof.Rows
theorem I1{P:Params}{h:WY}:∀(ns:List Int)(vs:List SC),WellAll P h vs (ns.map WData.int)->XS vs ns:=by
 intro ns;induction ns with
 | nil =>
  intro vs w;rw[UT]at w;cases w;exact .nil
 | cons n ns bR =>
  intro vs w;rw[SV]at w;cases w with
  | cons a b =>
   cases a;exact .cons _ _ (bR _ b)
theorem I2{l:OpenLaw}{n:Nat}(aH:l.most=some n){P:Params}{h:WY}{args:List WData}{vals:List SC}(dQ:l.row.toRowW.claim.pre args=true)(vp:WellAll P h vals args):
  ∃a vs ns,vals=[Value.ref a]/\args=[WData.list (ns.map WData.int)]/\h.get? a=some { cls:=.type "list",data:=.seq vs.toArray }/\XS vs ns/\ns.length<=n:=by
 have mT:WShape.hasAll [] args [.list .int]=true:=(pre_splitW dQ).1;have hc:l.pre.holds [] { args:=args }=true:=(pre_splitW dQ).2;obtain⟨d,r,rfl,aa,ab⟩:=hasAllW_cons mT;obtain rfl:=hasAllW_nil ab;obtain⟨xs,rfl,aQ⟩:=hasW_list aa;obtain⟨ns,rfl⟩:=items_int aQ
 have d9:ns.length<=n:=by
  unfold OpenLaw.pre at hc
  have bB:(WTm.not (.lt (.lit (.int (n:Int))) (.len (.arg 0)))).holds [] { args:=[.list (ns.map .int)] }=true:=by
   have bB:=(holds_andW hc).1;rw[aH]at bB;exact bB
  have ek:=condW_of bB (w_not (w_lt w_lit (w_len_list (w_arg rfl))));rw[Sz]at ek;refine Nat.le_of_not_lt fun q=>?_;have fW:(n:Int)<((ns.length:Nat):Int):=by lia
  first
   | (rw[Xd fW]at ek;exact absurd ek (by decide))
   | (simp at ek;lia)
 cases vp with
 | cons gd h5 =>
  cases h5;cases gd with
  | list aA I3=>exact⟨_,_,ns,rfl,rfl,aA,I1 ns _ I3,d9⟩
theorem I4(l:OpenLaw)(args:List WData):l.row.toRowW.claim.post args (.bool true) args=true :=
 postW_of (r:=l.row.toRowW) (X:=(true==true))
  (show WShape.has [] (.bool true) .bool=true by first|rfl|decide|simp[WShape.has,WShape.arms,WShape.armsAll])
  (show(WTm.eq .res (.lit (.bool true))).value [] { args:=args,res:=some (.bool true),after:=args }=some (.bool (true==true))from w_eq_bool (w_res rfl) w_lit) rfl
theorem attach_call{l:OpenLaw}{n:Nat}{q:WF}{loose:List Str}{XP:(Str->Option SC)->WY->Prop}{YP:WU->WY->Prop}{d:DefRec}(aH:l.most=some n)(vr:d.params.defaults=[])(call:∀(w:WU) (s₀ c4:SL) (mg fE:Str->Option SC) (et:Tl) (o:Obj) (pm dO doc:SC) (a:Tl) (vs:List SC) (ns:List Int),Ground q loose [] XP w s₀ mg fE c4.heap->YP w c4.heap->c4.heap.get? et=some o->o.data=.func (docDef d.name d.params d.body d.scope pm dO doc)->c4.heap.CodeRec dO d.name->mg d.name=some (.ref et)->c4.heap.get? a=some { cls:=.type "list",data:=.seq vs.toArray }->XS vs ns->ns.length<=n->c4.gens = #[]->codeAny (UV l.prog w) Yt (.call (.ref et) ⟨[.ref a],[]⟩) (fun r s'=>r=.ok (.ret (.bool true))/\OldK c4.heap s'.heap/\s'.os=c4.os/\XN s'.gens) c4):
  WalkO q loose XP YP l.row.toRowW d [] (fun f vs=>PySem.call f vs):=by
 intro w s₀ c4 mg fE G Y et o pm dO doc ro kV aA hd eo e4 pw aD args vals as dQ abA abB vp n9;obtain rfl:ro=.none:=Dflts.none e4 vr;obtain rfl:kV=.none:=Dflts.noKw e4;obtain⟨a,vs,ns,rfl,rfl,vt,hints,d9⟩:=I2 aH dQ vp;refine enter_call (XR (call w s₀ c4 mg fE et o pm dO doc a vs ns G Y aA (fd_plain hd) eo pw vt hints d9 aD) fun r s' aL=>?_);obtain⟨rfl,ab,aQ,bB⟩:=aL;exact⟨.inl ⟨.bool true,.bool true,[],rfl,fun _=>rfl,.bool true,I4 l _,fun _=>⟨List.Pairwise.nil,fun _ aB=>(nomatch aB)⟩⟩,ab,aQ,bB⟩
end Att
namespace L2
open PySem PySem.Spec PyProof.Rows
theorem z6:∀{vs:List SC}{ns:List Int},XS vs ns->bV (ns.map V.int) vs
 | _,_,.nil=>.nil
 | _,_,.cons n t h=>.cons ⟨t,rfl⟩ (z6 h)
def z7(H:ai):Prop:=∀b,H b=none∨(∃o xs,H b=some (.frz o (.lst xs)))∨∃ps,H b=some (.tbl ps)
theorem I6{P:WF}{w:WU}{K:Su}{mg fE:Str->Option SC}{eQ:ko}{k:Nat}{et a:Tl}{fd:Xf}{x:Str}{sp:g7}{c4:SL}{vs:List SC}{ns:List Int}(lY:K.In c4.heap)(l2:c4.heap.Ns TW mg)(ae:c4.heap.Ns Xa fE)(I7:∀x:Str,x≠"__name__"->fE x=W8 x)(I8:c4.heap.NoLimit)(aD:c4.gens = #[])(ax:c4.heap.get? a=some { cls:=.type "list",data:=.seq vs.toArray })(aC:XS vs ns)(ay:ns.length<=SZ)(am:eF k Yt)(F:∀base:WY,K.In base->base.Ns TW mg->h8 P w K mg base eQ k et fd [x] sp)(mU:∀(s:SL) (u:SC),YG s fd ⟨[u],[]⟩ [(x,u)])(T0:ai)(eK:∀b u,T0 b=some u->(∃ps,u=d7.tbl ps)/\c4.heap.get? b=some { cls:=.none,data:=.fields #[] }/\K.lookup b=none/\isCodeTable c4.heap b)(tb:lN K T0)(lX:∀H:ai,z7 H->cl K H a (ns.map V.int)->sp [.ref a] H (fun v _=>v=.bl true) fun _ _ _=>False)(I9:∀H e s',eQ [] H c4 (fun _ _ _=>False) e s'->False):
  codeAny (UV P w) Yt (.call (.ref et) ⟨[.ref a],[]⟩) (fun r s'=>r=.ok (.ret (.bool true))/\OldK c4.heap s'.heap/\s'.os=c4.os/\XN s'.gens) c4:=by
 have b2:=z6 aC;have I':=aC.length
 have core:∀H:ai,z7 H->cl K H a (ns.map V.int)->eH P w H c4.heap->(∀b u,H b=some u->(b=a/\∃o xs,u=.frz o (.lst xs))∨T0 b=some u)->(∀b u,H b=some u->K.lookup b=none)->lN K H ->
   codeAny (UV P w) Yt (.call (.ref et) ⟨[.ref a],[]⟩) (fun r s'=>r=.ok (.ret (.bool true))/\OldK c4.heap s'.heap/\s'.os=c4.os/\XN s'.gens) c4:=by
  intro H rx dH hok ft cF jd;have z8:∀{b:Tl}{o:Obj},c4.heap.get? b=some o->H b=none->(kT c4.heap H).get? b=some o:=fun e n=>GH e n
  have pr:∀{b:Tl}{o:Obj}{es:Array DictEntry}{c3:Nat},c4.heap.get? b=some o->o.data=.dict es c3->H b=none:=fun{b o es c3} e d=>by
   cases q:H b with
   | none=>rfl
   | some u =>
    rcases ft b u q with⟨bq,_⟩|bq
    ·subst bq;rw[ax]at e;cases e;cases d
    ·rw[(eK b u bq).2.1]at e;cases e;cases d
  have ry:∀{b:Tl}{m:Str->Option SC},c4.heap.Ns b m->(kT c4.heap H).Ns b m:=fun{b m} ⟨o,es,c3,e,d,r⟩=>⟨o,es,c3,z8 e (pr e d),d,r⟩
  have z9:K.In (kT c4.heap H):=fun b o e=>z8 (lY b o e) (by
   cases q:H b with
   | none=>rfl
   | some u=>rw[cF b u q]at e;cases e)
  have cO:Mod K mg (kT c4.heap H):=⟨z9,ry l2,⟨fE,ry ae,I7⟩,let⟨mV,aa,ab⟩:=I8;⟨mV,ry aa,ab⟩⟩;have dW:rn P w K mg (kT c4.heap H) Yt [] c4 H:=⟨rfl,cO,fun b o e=>GI e,Nat.le_of_eq (GG _ _),trivial,fun b ae=>absurd (show b∈([]:List Tl)from ae) (by simp),hok,.of_eq aD,jd⟩;refine XR ((F _ z9 (ry l2)).run Yt [] c4 H ⟨[.ref a],[]⟩ [.ref a] [.ref a] _ _ am dW (mU c4 (.ref a)) (.cons rfl .nil) (lX H rx dH)) fun r s' h=>?_;cases r with
  | error e=>exact(I9 H e s' h).elim
  | ok fl =>
   cases fl with
   | next=>exact Tq h
   | brk=>exact Tq h
   | cont=>exact Tq h
   | ret u =>
    obtain⟨v,af,os,bare,un,z',c7,q⟩:=h;have fW:v=.bl true:=q;subst fW;obtain rfl:u=Value.bool true:=c7
    have Aa:∀b u,H b=some u->T0 b=some u->∃bj,s'.heap.get? b=some { cls:=.none,data:=.fields bj }:=fun b u q z=>by
     obtain⟨⟨ps,rfl⟩,_⟩:=eK b u z;obtain⟨more,bc⟩:=un.tbls b ps q;obtain⟨bj,ao,_⟩:=z' b _ bc;exact⟨bj,ao⟩
    have Ab:∀b o cf xs,c4.heap.get? b=some o->H b=some (.frz cf (.lst xs))->s'.heap.get? b=some o:=fun b o cf xs e z=>by
     have bc:=un.frzs b cf _ z;obtain⟨ag,_⟩:=hok b _ z;obtain⟨ao,_⟩:=z' b _ bc;rw[e]at ag;cases ag;exact ao
    have Ac:∀b o,c4.heap.get? b=some o->H b=none->s'.heap.get? b=some o:=fun b o e q=>un.keep b o e q (by intro z;exact absurd (show b∈([]:List Tl)from z) (by simp)) (by simp);refine⟨rfl,⟨fun b o e=>?_,fun b o e=>?_⟩,os,bare⟩
    ·cases q:H b with
     | none=>exact .inl (Ac b o e q)
     | some u =>
      rcases ft b u q with⟨_,cf,xs,rfl⟩|z
      ·exact .inl (Ab b o cf xs e q)
      ·obtain⟨bj,ao⟩:=Aa b u q z;obtain⟨_,ag,_,ct⟩:=eK b u z;rw[e]at ag;cases ag;exact .inr (.inl ⟨ct,rfl,#[],bj,rfl,by rw[ao];simp⟩)
    ·cases q:H b with
     | none=>exact⟨o,Ac b o e q⟩
     | some u =>
      rcases ft b u q with⟨_,cf,xs,rfl⟩|z
      ·exact⟨o,Ab b o cf xs e q⟩
      ·obtain⟨bj,ao⟩:=Aa b u q z;exact⟨_,ao⟩
 have tok:∀(H:ai) b u,T0 b=some u->fV P w H c4.heap b u:=fun H b u z=>by
  obtain⟨⟨ps,rfl⟩,e,_⟩:=eK b u z;exact⟨#[],e,trivial,fun pos hL hc=>by cases hc⟩
 have hP:T0 a=none:=by
  cases z:T0 a with
  | none=>rfl
  | some u=>have:=(eK a u z).2.1;rw[ax]at this;cases this
 cases ah:K.lookup a with
 | some o =>
  have e:=lY a o ah;rw[ax]at e;cases e;refine core T0 (fun b=>?_) (.inr ⟨_,vs.toArray,_,ah,rfl,rfl,rfl,by rw[SS,I'];exact ay,by simpa using b2⟩) (fun b u z=>tok T0 b u z) (fun b u z=>.inr z) (fun b u z=>(eK b u z).2.2.1) tb;cases z:T0 b with
  | none=>exact .inl rfl
  | some u=>obtain⟨⟨ps,rfl⟩,_⟩:=eK b u z;exact .inr (.inr ⟨ps,rfl⟩)
 | none =>
  have px:∀b,b≠a->(if b=a then some (d7.frz { cls:=.type "list",data:=.seq vs.toArray } (.lst (ns.map V.int)))else T0 b)=T0 b:=fun b ae=>TT ae;refine core (fun b=>if b=a then some (.frz { cls:=.type "list",data:=.seq vs.toArray } (.lst (ns.map V.int)))else T0 b) (fun b=>?_) (.inl (.inr ⟨{ cls:=.type "list",data:=.seq vs.toArray },TI rfl⟩)) (fun b u z=>?_) (fun b u z=>?_) (fun b u z=>?_) (fun p aq=>?_)
  ·by_cases ae:b=a
   ·exact .inr (.inl ⟨_,_,TI ae⟩)
   ·dsimp only;rw[px b ae];cases z:T0 b with
    | none=>exact .inl rfl
    | some u=>obtain⟨⟨ps,rfl⟩,_⟩:=eK b u z;exact .inr (.inr ⟨ps,rfl⟩)
  ·by_cases ae:b=a
   ·have eP:=(TI ae).symm.trans z;cases eP;subst ae;exact⟨ax,by rw[Sz];exact ay,vs,_,b2,ax⟩
   ·exact tok _ b u ((px b ae).symm.trans z)
  ·by_cases ae:b=a
   ·have eP:=(TI ae).symm.trans z;cases eP;exact .inl ⟨ae,_,_,rfl⟩
   ·exact .inr ((px b ae).symm.trans z)
  ·by_cases ae:b=a
   ·rw[ae];exact ah
   ·exact(eK b u ((px b ae).symm.trans z)).2.2.1
  ·obtain⟨ps,t,ag,ao⟩:=tb p aq;have ae:p.1≠a:=fun z=>by rw[z,hP]at ag;cases ag
   exact⟨ps,t,(px _ ae).trans ag,ao⟩
def mW(s:W0):Xc:=match s with
 | .FunctionDef _ a _ _ _ _ _ _ _ _=>a
 | _=>{ posonlyargs:=[],args:=[],vararg:=none,kwonlyargs:=[],kw_defaults:=[],kwarg:=none,defaults:=[] }
def iJ(s:W0):List W0:=match s with
 | .FunctionDef _ _ b _ _ _ _ _ _ _=>b
 | _=>[]
def b8(s:W0):W':=match s with
 | .FunctionDef _ _ _ _ _ _ sc _ _ _=>sc
 | _=>{ kind:=.function,names:=[],isGenerator:=false,isCoroutine:=false }
abbrev iK:ko:=fun _ _ _ _ _ _=>False
abbrev vu:fF:=fun _ _ _=>False
theorem Ja{X:aU}:vd iK X vu:=fun _ _ _ _ _ _ _ h=>h.elim
structure kr (K:Su) (x qual:Str) (st:W0) (f:Tl) (fd:Xf):Prop where
 ex:∃(oc:SC)(od:Option Tl)(kV doc pm:SC)(an:Option Tl)(cdv ct:SC)(osl:Array (Option SC)),
  fd=Uj x qual (mW st) (iJ st) (b8 st) .none kV doc pm an cdv ct/\K.lookup f=some ⟨oc,od,.func fd,osl⟩/\Vq K cdv qual=true
 kp:US K (.ref f)=true
section
variable{P:WF}{w:WU}{K:Su}{mg:Str->Option SC}{base:WY}
theorem kr.ok{x qual:Str}{st:W0}{f:Tl}{fd:Xf}{N ps:List Str}{k:Nat}{sp:g7}(F:kr K x qual st f fd)(S:cL N ps (b8 st))(len:∀vs H Q E,sp vs H Q E->vs.length=ps.length)(gu:∀(cdv:SC) (A:WV) (outer:List Env) (s:SL) (H:ai) (vs:List V) (Q:cc) (E:fF),eF k (A.deeper (X2 qual (b8 st) s.heap.objs.size f cdv))->sp vs H Q E->∃t,hq (jD iK P w K mg base N qual (b8 st) f cdv A outer s H E).nox (iJ st) t/\t { nx:=fun _ af=>Q .non af,rt:=Q } (start N vs) H):h8 P w K mg base iK (k+1) f fd ps sp:=by
 obtain⟨oc,od,kV,doc,pm,an,cdv,ct,osl,rfl,lk,eo⟩:=F.ex;refine zT lk eo S len fun A outer s H vs Q E am lX=>?_;obtain⟨t,h,q⟩:=gu cdv A outer s H vs Q E am lX;exact⟨t,h.nox,q⟩
theorem kr.binds{x qual:Str}{st:W0}{f:Tl}{fd:Xf}{ps:List Str}(F:kr K x qual st f fd)(h:∀(kV doc pm:SC) (an:Option Tl) (cdv ct:SC) (aG:List SC),aG.length=ps.length->XY (Uj x qual (mW st) (iJ st) (b8 st) .none kV doc pm an cdv ct) ⟨aG,[]⟩=pure (ps.zip aG)):Binds K fd ps []:=by
 obtain⟨oc,od,kV,doc,pm,an,cdv,ct,osl,rfl,lk,eo⟩:=F.ex;exact .all (h kV doc pm an cdv ct)
theorem Jb{x qual:Str}{st:W0}{f:Tl}{oc:SC}{od an:Option Tl}{osl:Array (Option SC)}{kV doc pm cdv ct:SC}(l:K.lookup f=some ⟨oc,od,.func (Uj x qual (mW st) (iJ st) (b8 st) .none kV doc pm an cdv ct),osl⟩)(c:Vq K cdv qual=true)(k:US K (.ref f)=true):kr K x qual st f (Uj x qual (mW st) (iJ st) (b8 st) .none kV doc pm an cdv ct):=⟨⟨oc,od,kV,doc,pm,an,cdv,ct,osl,rfl,l,c⟩,k⟩
end
section
variable{X:aU}
theorem fY(i:Nat){x:Str}{pos:Pos}(cd:X.N[i]?=some x:=by rfl)(a':iF X.env.scope x:=by first|exact Ss rfl|exact SF (Ss rfl)|exact SF (SF rfl))(hd:(x==("__debug__":Str))=false:=by decide)(eo:(x==("__classdict__":Str))=false:=by decide):b5 X (.Name x pos) (uU i):=ki cd a' hd eo
end
theorem jG{A B:Prop}(h:B):if false=true then A else B:=by
 rw[TT SP];exact h
theorem Jc{A B:Prop}(h:A):if true=true then A else B:=by
 rw[TI rfl];exact h
def cG(H af:ai):Prop:=∀b o,H b=some o->af b=some o
theorem cG.refl(H:ai):cG H H:=fun _ _ h=>h
theorem cG.trans{H aw aV:ai}(a:cG H aw)(b:cG aw aV):cG H aV:=fun c o h=>b c o (a c o h)
theorem cG.free{H af:ai}(e:cG H af){l:Tl}(h:af l=Option.none):H l=Option.none:=by
 cases q:H l with
 | none=>rfl
 | some o =>
  rw[e l o q]at h;cases h
theorem cG.seq{K:Su}{H af:ai}{a:Tl}{xs:List V}(e:cG H af)(h:cl K H a xs):cl K af a xs:=by
 rcases h with(h|⟨o,h⟩)|h
 ·exact .inl (.inl (e _ _ h))
 ·exact .inl (.inr ⟨o,e _ _ h⟩)
 ·exact .inr h
end L2
set_option maxHeartbeats 4000000
namespace L2
open PySem PySem.Spec PyProof.Rows
open PySem.Builtin.Int (intBits)
def rz(i j:Int):Prop:=TE i<=9000/\TE j<=9000
def mX(_ j:Int):Prop:=j≠0/\TE j<=9000
theorem Jd{x y:Int}(h:TE y<=9000):Builtin.divisionGoesByPylong x y=false:=by
 by_cases bY:y=0
 ·subst bY;exact PyProof.noPylong_small (by decide)
 ·refine PyProof.noPylong_of_log2 ?_;have q:=intBits_le_iff.mp h;have aH:y.natAbs≠0:=by lia
  exact(Nat.log2_lt aH).mpr q
section
variable{X:aU}{a b:WP}{ta tb:bN}{pos:Pos}
theorem vv:eX X (Xy .Mult) (mN rz fun i j=>.int (i*j)):=pk fun _ _ _ _ _ _ _ hc q=>mul_int q (IntMulOk.of_le hc.1 hc.2 (by decide))
theorem vw:eX X (Xy .FloorDiv) (mN mX fun i j=>.int (i.fdiv j)):=pk fun _ _ _ _ _ _ _ hc q=>floordiv_int hc.1 q (.inl (Jd hc.2))
theorem mY:eX X (W4 .Eq) (ja fun i j=>.bl (decide (i=j))):=n7 fun _ _ _ _ _ _ _ q=>eq_int (by rw[V9];exact q)
theorem kZ:eX X (W4 .NotEq) (ja fun i j=>.bl (!decide (i=j))):=n7 fun _ _ _ _ _ _ _ q=>ne_int (by rw[bne,V9];exact q)
def Je(H:ai)(p:Tl)(xs:List V):Prop:=H p=some (.tup xs)∨H p=some (.lst xs)
def Jf:hy:=fun x y H Q=>∃p xs i v,x=.ref p/\y=.int i/\Je H p xs/\ea xs i=some v/\Q v H
theorem mZ:ru X Jf:=by
 intro value slice pins s σ H x y v u Q I ba cm h ak;obtain⟨p,xs,i,z,ag,ao,aL,au,q⟩:=h;rcases aL with aL|aL
 ·exact ID value slice pins s σ H x y v u Q I ba cm ⟨p,xs,i,z,ag,ao,eA.of aL,au,q⟩ ak
 ·exact z2 value slice pins s σ H x y v u Q I ba cm ⟨p,xs,i,z,ag,ao,cl.of aL,au,q⟩ ak
theorem Jg:km X (.builtin "isinstance") (fun xs H Q=>∃x t n b,xs=[x,.ty n]/\h7 X.K H x t/\Vn X.K t (.type n)=some b/\Q (.bl b) H):=by
 intro pins s σ H xs aG Q I r h;obtain⟨x,t,n,b,rfl,ty,e,q⟩:=h;obtain⟨u,kf,rfl,av,aK⟩:=vals2 r;cases aK;exact H' I av ty e fun dr=>⟨.bl b,H,I.tok _,rfl,q⟩
structure aZ (P:WF) (w:WU) (K:Su) (mg:Str->Option SC) (base:WY) (x:Str) (ps:List Str) (k:Nat) (sp:g7):Prop where
 ex:∃f fd,mg x=some (.ref f)/\US K (.ref f)=true/\Binds K fd ps []/\h8 P w K mg base iK k f fd ps sp
structure cW (K:Su) (mg:Str->Option SC) (x:Str) (st:W0) (ps:List Str):Prop where
 ex:∃f fd,mg x=some (.ref f)/\kr K x x st f fd/\Binds K fd ps []
theorem aZ.imp{P:WF}{w:WU}{K:Su}{mg:Str->Option SC}{base:WY}{x:Str}{ps:List Str}{k:Nat}{sp pq:g7}(c:aZ P w K mg base x ps k sp)(h:∀vs H Q E,pq vs H Q E->sp vs H Q E):aZ P w K mg base x ps k pq:=by
 obtain⟨f,fd,m,kp,b,F⟩:=c.ex;exact⟨f,fd,m,kp,b,F.imp h⟩
theorem rA{x:Str}{ps:List Str}{j k:Nat}{sp:g7}{p:Pos}{e:WP}{es:List WP}{t:eE}(c:aZ X.prog X.w X.K X.mg X.base x ps j sp)(am:eF k X.A)(aD:ep X x)(ax:gG X (e::es) t)(h9:j<=k:=by decide)(hO:(x==("__debug__":Str))=false:=by decide)(au:Tk (e::es) X.env=(false,W7 e X.env)::Tk es X.env:=by rfl)(dV:(W1 pos (Tk es X.env)).any (·.1)=false:=by rfl):
  b5 X (.Call (.Name x p) (e::es) [] pos) (zM sp [] vu t):=by
 obtain⟨f,fd,m,kp,b,F⟩:=c.ex;exact Ii F (am.mono h9) aD m kp b .nil Ja ax hO au dV
theorem cW.ok{P:WF}{w:WU}{K:Su}{mg:Str->Option SC}{base:WY}{x:Str}{st:W0}{N ps:List Str}{k:Nat}{sp:g7}(F:cW K mg x st ps)(S:cL N ps (b8 st))(len:∀vs H Q E,sp vs H Q E->vs.length=ps.length)(gu:∀(f:Tl) (cdv:SC) (A:WV) (outer:List Env) (s:SL) (H:ai) (vs:List V) (Q:cc) (E:fF),eF k (A.deeper (X2 x (b8 st) s.heap.objs.size f cdv))->sp vs H Q E->∃t,hq (jD iK P w K mg base N x (b8 st) f cdv A outer s H E).nox (iJ st) t/\t { nx:=fun _ af=>Q .non af,rt:=Q } (start N vs) H):aZ P w K mg base x ps (k+1) sp:=by
 obtain⟨f,fd,m,py,b⟩:=F.ex;exact⟨f,fd,m,py.kp,b,py.ok S len (gu f)⟩
end
theorem gi{p:Prop}[Decidable p]{A B:Prop}(aa:p->A)(ab:¬p->B):if decide p=true then A else B:=by
 by_cases h:p
 ·rw[Xd h];exact aa h
 ·rw[WS h];exact ab h
theorem rB{p:Prop}[Decidable p]{A B:Prop}(aa:¬p->A)(ab:p->B):if(!decide p)=true then A else B:=by
 by_cases h:p
 ·rw[Xd h];exact ab h
 ·rw[WS h];exact aa h
def pz(b:Tl)(H af:ai):Prop:=∀a o,a≠b->H a=some o->af a=some o
theorem pz.upd(b:Tl)(H:ai)(o:d7):pz b H (L2.upd H b o):=fun a u n h=>by rw[b1 n];exact h
theorem rC{H:ai}{p:Tl}(h:H p=none)(o:d7):cG H (L2.upd H p o):=fun b u q=>by rw[b1 (fU q h)];exact q
end L2
namespace L2
open PySem PySem.Spec PyProof.Rows
theorem eH.but{P:WF}{w:WU}{H:ai}{h h':WY}{C:Tl}(x:eH P w H h)(n:H C=none)(k:∀b u,b≠C->h.get? b=some u->h'.get? b=some u):eH P w H h':=fun a o e =>
 (x a o e).stay (fun b u ae q=>k b u (by rcases ae with rfl|ae;exact fU e n;exact fU ae n) q) (fun _ q=>q) (fun _ _ q=>q) fun _ _ _ q=>q
theorem ez.but{fs ex:List Tl}{H af:ai}{h aa ab:WY}{C:Tl}(u:ez fs ex H af h aa)(vx:h.get? C=none)(k:∀b u,b≠C->aa.get? b=some u->ab.get? b=some u):ez fs ex H af h ab where
 keep:=fun b o q n f e=>k b o (by rintro rfl;rw[vx]at q;cases q) (u.keep b o q n f e)
 slot:=fun b o q n f e=>by
  obtain⟨sl,z⟩:=u.slot b o q n f e;exact⟨sl,k b _ (by rintro rfl;rw[vx]at q;cases q) z⟩
 free:=u.free
 there:=fun b o q e=>by
  obtain⟨ey,z⟩:=u.there b o q e;exact⟨ey,k b _ (by rintro rfl;rw[vx]at q;cases q) z⟩
 tups:=u.tups
 frzs:=u.frzs
 tbls:=u.tbls
def cC(X:aU)(N:List Str)(scope:W')(bm:List (Str×Tl))(C:Tl)(s:SL)(H:ai)(ex:List Tl):aU :=
 { X with N:=N,s₀:=s,H₀:=H,env:=Xz scope bm C X.env,outer:=X.stack,ex:=ex,fn:=fun _=>false,pn:=[],xe:=fun _ _=>False }
def fu(σ:St)(js:List Nat):St:=js.map fun j=>(σ[j]?).join
theorem bV.getR:∀{xs:List V}{aG:List SC}{i:Nat}{u:SC},bV xs aG->aG[i]?=some u->∃x,xs[i]?=some x/\RelV x u
 | _,_,_,_,.nil,e=>by simp at e
 | _,_,0,_,.cons r _,e=>by simp at e;subst e;exact⟨_,rfl,r⟩
 | _,_,i+1,u,.cons _ t,e=>by
  obtain⟨x,aa,ab⟩:=bV.getR (i:=i) (u:=u) t (by simpa using e);exact⟨x,by simpa using aa,ab⟩
section
variable{X:aU}
theorem Jh(hc:X.calm=true):km X (.builtin "sum") (fun xs H Q=>∃(l:Tl)(ns:List Int),xs=[.ref l]/\H l=some (.lst (ns.map V.int))/\Q (.int ns.sum) H):=by
 intro pins s σ H xs aG Q I r h;obtain⟨l,ns,rfl,ay,q⟩:=h;obtain⟨u,rfl,av⟩:=vals1 r;cases av;obtain⟨its,b2,cV,hz⟩:=I.list (cl.of ay);have aC:=intsAre_of b2;obtain⟨b7,aj⟩:=aC.allInts.items;have hB:s.heap.IsList l (intItems b7):=aj▸cV.isList;refine sum_intListG (I.ok.hd hc) hB fun h' dr t' ah=>?_
 have ag:ns=b7.toList.map (·.1):=by
  rw[<-Yl,<-aj];exact(show numsOf its.toArray.toList=ns from aC.numsOf).symm
 have ao:preSum (numAt b7) b7.size=ns.sum:=by
  rw[preSum_eq,UC (by simp),ag]
 rw[ao];exact⟨.int ns.sum,H,I.kept ah,⟨_,rfl⟩,q⟩
end
end L2
namespace Cut
open PySem
open PySem.Builtin.Int (intBits)
theorem vy{x:Int}(aa : -(2^64)<x)(ab:x<2^64):TE x<=64:=Yh aa ab
theorem n'{x t:Int}{n:Nat}(h:x.natAbs<=t.natAbs)(aR:TE t<=n):TE x<=n:=X0 h aR
theorem vz{x y:Int}(aj:0<=x)(aM:0<y):Sx y (x%y)=Sx x y:=by
 obtain⟨m,rfl⟩:=V' aj;obtain⟨n,rfl⟩:=V' (S0 aM);have e:((m:Int)%(n:Int))=((m%n:Nat):Int):=rfl;rw[e];show Tc n (m%n)=Tc m n
 rw[Vt m n,Nat.gcd_rec n m,Vt]
theorem Ad(a b:Int):Sx (if a<0 then -a else a) (if b<0 then -b else b)=Sx a b:=by
 have e:∀z:Int,(if z<0 then -z else z).natAbs=z.natAbs:=fun z=>by split<;>lia
 unfold Sx;rw[e,e]
theorem vA{x:Int}(h:0<=x):((Sx x 0:Nat):Int)=x:=by
 rw[Int.gcd_zero_right];lia
theorem Ji{t b:Int}(ae:b≠0):0<((Sx t b:Nat):Int):=by
 have:0<Sx t b:=Vu t ae;lia
theorem Ae{k n m:Int}(h:k∣n*m)(g:Sx k n=1):k∣m:=by
 have q:=Int.dvd_gcd_mul_iff_dvd_mul.mpr h;rw[g]at q;simpa using q
end Cut
namespace Cut
def kt(x y z:Int):Prop:=0<z/\Sx (Sx x y:Nat) z=1
theorem rD(a b n:Int):Sx (Sx a n:Nat) b=Tc (Tc a.natAbs b.natAbs) n.natAbs:=by
 show Tc (Tc a.natAbs n.natAbs) b.natAbs=_
 rw[Nat.gcd_assoc,Vt n.natAbs,<-Nat.gcd_assoc]
theorem vB(a b n:Int):Sx (Sx a b:Nat) n=Tc (Tc a.natAbs b.natAbs) n.natAbs:=rfl
theorem Jj(a b n:Int):Sx (Sx n a:Nat) b=Sx (Sx a n:Nat) b:=by
 rw[UW n a]
theorem Af{a b n:Int}(aH:n≠0):0<((Sx (Sx a n:Nat) b:Nat):Int):=by
 rw[rD];have:0<Tc (Tc a.natAbs b.natAbs) n.natAbs:=Nat.gcd_pos_of_pos_right _ (by lia);lia
theorem Ag(a b n:Int):((Sx (Sx a n:Nat) b:Nat):Int)∣a/\((Sx (Sx a n:Nat) b:Nat):Int)∣b/\((Sx (Sx a n:Nat) b:Nat):Int)∣n:=by
 rw[rD];have aa:=Nat.gcd_dvd_left (Tc a.natAbs b.natAbs) n.natAbs;have ab:=Wa (Tc a.natAbs b.natAbs) n.natAbs;refine⟨?_,?_,?_⟩
 ·exact Vv.mpr (Nat.dvd_trans aa (Nat.gcd_dvd_left _ _))
 ·exact Vv.mpr (Nat.dvd_trans aa (Wa _ _))
 ·exact Vv.mpr ab
theorem Ah{a b n g s:Int}(aH:n≠0)(aD:g=(Sx (Sx a n:Nat) b:Nat))(ak:s=g/\0<n∨s = -g/\n<0):
  kt (a.fdiv s) (b.fdiv s) (n.fdiv s)/\a.fdiv s*n=a*n.fdiv s/\b.fdiv s*n=b*n.fdiv s/\(a.fdiv s).natAbs<=a.natAbs/\(b.fdiv s).natAbs<=b.natAbs/\(n.fdiv s).natAbs<=n.natAbs:=by
 have gp:0<g:=by rw[aD];exact Af aH
 obtain⟨ej,fv,ku⟩:=Ag a b n;rw[<-aD]at ej fv ku;have iL:s≠0:=by rcases ak with⟨h,_⟩|⟨h,_⟩<;>lia
 have l3:∀z:Int,g∣z->s∣z:=fun z hz=>by
  rcases ak with⟨h,_⟩|⟨h,_⟩<;>rw[h]
  ·exact hz
  ·exact Int.neg_dvd.mpr hz
 obtain⟨x,aj⟩:=l3 a ej;obtain⟨y,aM⟩:=l3 b fv;obtain⟨z,hz⟩:=l3 n ku;have ex:a.fdiv s=x:=by rw[aj];exact UX x iL
 have jH:b.fdiv s=y:=by rw[aM];exact UX y iL
 have oa:n.fdiv s=z:=by rw[hz];exact UX z iL
 refine⟨⟨?_,?_⟩,?_,?_,Vw a s,Vw b s,Vw n s⟩
 ·rw[oa];rcases ak with⟨h,aq⟩|⟨h,aq⟩
  ·rw[hz,h]at aq;exact UD aq gp
  ·rw[hz,h]at aq;have:0<g*z:=by rw[Vx]at aq;lia
   exact UD this gp
 ·rw[ex,jH,oa,vB];rw[rD,aj,aM,hz,TC,TC,TC,Nat.gcd_mul_left,Nat.gcd_mul_left]at aD;have abC:s.natAbs=g.toNat:=by rcases ak with⟨h,_⟩|⟨h,_⟩<;>lia
  have pos:0<s.natAbs:=by lia
  have q:s.natAbs*Tc (Tc x.natAbs y.natAbs) z.natAbs=s.natAbs*1:=by lia
  exact Wb pos q
 ·rw[ex,oa];have aa:x*n=x*(s*z):=by rw[<-hz]
  have ab:a*z=s*x*z:=by rw[<-aj]
  rw[aa,ab,<-UE,SX x s]
 ·rw[jH,oa];have aa:y*n=y*(s*z):=by rw[<-hz]
  have ab:b*z=s*y*z:=by rw[<-aM]
  rw[aa,ab,<-UE,SX y s]
theorem vC{x y z kv hC eP:Int}(g:Sx (Sx x y:Nat) z=1)(ag:x*eP=kv*z)(ao:y*eP=hC*z):z∣eP:=by
 have ej:z.natAbs∣x.natAbs*eP.natAbs:=⟨kv.natAbs,by rw[<-TC,ag,TC,Nat.mul_comm]⟩;have fv:z.natAbs∣y.natAbs*eP.natAbs:=⟨hC.natAbs,by rw[<-TC,ao,TC,Nat.mul_comm]⟩;have ku:z.natAbs∣z.natAbs*eP.natAbs:=⟨eP.natAbs,rfl⟩;have q:=UY (UY ej fv) ku;rw[UZ,UZ]at q;rw[vB]at g;rw[g,Nat.one_mul]at q;exact TN.mp q
theorem vD{x y z kv hC eP:Int}(h:kt x y z)(h':kt kv hC eP)(ag:x*eP=kv*z)(ao:y*eP=hC*z):x=kv/\y=hC/\z=eP:=by
 have ej:=vC h.2 ag ao;have fv:=vC h'.2 ag.symm ao.symm;have oa:z=eP:=Int.dvd_antisymm (S0 h.1) (S0 h'.1) ej fv;subst oa;have k0:z≠0:=S1 h.1;exact⟨TQ k0 ag,TQ k0 ao,rfl⟩
theorem Jk{a b n:Int}{k:Nat}(aH:n≠0)(h:Vy n<=k):Vy ((Sx (Sx a n:Nat) b:Nat):Int)<=k:=by
 refine PySem.intBits_le_of_natAbs ?_ h;exact Nat.le_of_dvd (by lia) (TN.mpr (Ag a b n).2.2)
theorem Jl{u v:Int}(bM:0<u)(a':0<v):u*v≠0:=S1 (SH bM a')
theorem Ai{x y z:Int}(h:kt x y z):kt (-x) (-y) z:=by
 refine⟨h.1,?_⟩;have g:=h.2;rw[vB]at g ⊢;rw[Int.natAbs_neg,Int.natAbs_neg];exact g
end Cut
namespace L3
open PySem L2
open PySem.Builtin.Int (intBits)
inductive D where
 | non|bl (b:Bool)|int (i:Int)|str (x:Str)|ty (n:String)|tup (xs:List D)|lst (xs:List D)|scr (ns:List Int)|ktup (xs:List D)|kfn (f:Tl)|dct (b:Bool) (ks:List (List (List Int))) (ds:List D)
inductive k1 where
 | l (ds:List D)|d (b:Bool) (t:Option Tl) (ks:List (List (List Int))) (ds:List D)
instance:Coe (List D) k1:=⟨k1.l⟩
inductive jI where
 | ll (a:Tl) (as:List Tl) (g8:List (List D))|dl (b:Bool) (a:Tl) (ks:List (List (List Int))) (as:List Tl) (g8:List (List D))
def jI.adr:jI->Tl
 | .ll a _ _=>a
 | .dl _ a _ _ _=>a
def jI.ins:jI->List Tl
 | .ll _ as _=>as
 | .dl _ _ _ as _=>as
inductive aI where
 | no|val (d:D)|own (c:k1)|bag|new (d:D)|pin (v:V) (d:D)|deep (c:jI)
def Jm(b:Bool)(k:List (List Int)):Int :=
 if b then reduceHash (Builtin.Tuple.tupleHashOf (k.map fun ks=>reduceHash (Builtin.Tuple.tupleHashOf (ks.map hashInt))))else reduceHash (Builtin.Tuple.tupleHashOf ((k.headD []).map hashInt))
def vE(b:Bool)(k:List (List Int)):D:=if b then .tup (k.map fun ks=>.tup (ks.map D.int))else .tup ((k.headD []).map D.int)
def Aj(b:Bool):List (List (List Int))->List Tl->List SC->List DictEntry
 | k::ks,a::as,u::aG=>⟨Jm b k,.ref a,u⟩::Aj b ks as aG
 | _,_,_=>[]
def vF(b:Bool)(a:Tl)(c3:Nat)(ks:List (List (List Int)))(as:List Tl)(vs:List V):d7:=.ext fun h=>ks.length<=SZ/\as.length=ks.length/\vs.length=ks.length/\(a==Yr)=false /\
 ∃aG:List SC,bV vs aG/\∃o es,h.get? a=some o/\o.ExactDict/\o.data=.dict es c3/\es.toList=Aj b ks as aG/\ks.Nodup
mutual
inductive b3 (K:Su) (B:ai):V->D->Prop where
 | non:b3 K B .non .non
 | bl (b:Bool):b3 K B (.bl b) (.bl b)
 | int (i:Int):b3 K B (.int i) (.int i)
 | str (x:Str):b3 K B (.str x) (.str x)
 | ty (n:String):b3 K B (.ty n) (.ty n)
 | tup {a:Tl} {vs:List V} {ds:List D} (h:B a=some (.tup vs)) (r:Reps K B vs ds):b3 K B (.ref a) (.tup ds)
 | lst {a:Tl} {vs:List V} {ds:List D} (h:B a=some (.lst vs)) (r:Reps K B vs ds):b3 K B (.ref a) (.lst ds)
 | scr {a:Tl} {ns:List Int} (h:cl K B a (ns.map V.int)):b3 K B (.ref a) (.scr ns)
 | ktup {a:Tl} {vs:List V} {ds:List D} (h:eA K B a vs) (r:Reps K B vs ds):b3 K B (.ref a) (.ktup ds)
 | kfn (f:Tl):b3 K B (.ref f) (.kfn f)
 | dct {a:Tl} {b:Bool} {c3:Nat} {ks:List (List (List Int))} {as:List Tl} {vs:List V} {ds:List D} (h:B a=some (vF b a c3 ks as vs)) (ah:Reps K B (as.map V.ref) (ks.map (vE b))) (ae:b=false->∀k∈ks,∃l,k=[l]) (r:Reps K B vs ds):b3 K B (.ref a) (.dct b ks ds)
inductive Reps (K:Su) (B:ai):List V->List D->Prop where
 | nil:Reps K B [] []
 | cons {v:V} {d:D} {vs:List V} {ds:List D} (h:b3 K B v d) (r:Reps K B vs ds):Reps K B (v::vs) (d::ds)
end
theorem Jn{K:Su}{H af:ai}{a:Tl}{xs:List V}(e:cG H af)(h:eA K H a xs):eA K af a xs:=by
 rcases h with(h|⟨o,h⟩)|h
 ·exact .inl (.inl (e _ _ h))
 ·exact .inl (.inr ⟨o,e _ _ h⟩)
 ·exact .inr h
section
variable{K:Su}{B aF:ai}
mutual
theorem b3.mono(s:cG B aF):∀{v:V}{d:D},b3 K B v d->b3 K aF v d
 | _,_,.non=>.non
 | _,_,.bl b=>.bl b
 | _,_,.int i=>.int i
 | _,_,.str x=>.str x
 | _,_,.ty n=>.ty n
 | _,_,.tup h r=>.tup (s _ _ h) (Reps.mono s r)
 | _,_,.lst h r=>.lst (s _ _ h) (Reps.mono s r)
 | _,_,.scr h=>.scr (s.seq h)
 | _,_,.ktup h r=>.ktup (Jn s h) (Reps.mono s r)
 | _,_,.kfn f=>.kfn f
 | _,_,.dct h ah ae r=>.dct (s _ _ h) (Reps.mono s ah) ae (Reps.mono s r)
theorem Reps.mono(s:cG B aF):∀{vs:List V}{ds:List D},Reps K B vs ds->Reps K aF vs ds
 | _,_,.nil=>.nil
 | _,_,.cons h r=>.cons (b3.mono s h) (Reps.mono s r)
end
theorem Reps.length:∀{vs:List V}{ds:List D},Reps K B vs ds->vs.length=ds.length
 | _,_,.nil=>rfl
 | _,_,.cons _ r=>by rw[SO,SO,r.length]
theorem Reps.get:∀{vs:List V}{ds:List D}{i:Nat}{d:D},Reps K B vs ds->ds[i]?=some d->∃v,vs[i]?=some v/\b3 K B v d
 | _,_,_,_,.nil,e=>by simp at e
 | _,_,0,_,.cons h _,e=>by simp at e;subst e;exact⟨_,rfl,h⟩
 | _,_,i+1,d,.cons _ r,e=>by
  obtain⟨v,aa,ab⟩:=Reps.get (i:=i) (d:=d) r (by simpa using e);exact⟨v,by simpa using aa,ab⟩
theorem Reps.getV:∀{vs:List V}{ds:List D}{i:Nat}{v:V},Reps K B vs ds->vs[i]?=some v->∃d,ds[i]?=some d/\b3 K B v d
 | _,_,_,_,.nil,e=>by simp at e
 | _,_,0,_,.cons h _,e=>by simp at e;subst e;exact⟨_,rfl,h⟩
 | _,_,i+1,v,.cons _ r,e=>by
  obtain⟨d,aa,ab⟩:=Reps.getV (i:=i) (v:=v) r (by simpa using e);exact⟨d,by simpa using aa,ab⟩
theorem Reps.append:∀{vs b7:List V}{ds es:List D},Reps K B vs ds->Reps K B b7 es->Reps K B (vs++b7) (ds++es)
 | _,_,_,_,.nil,s=>s
 | _,_,_,_,.cons h r,s=>.cons h (Reps.append r s)
theorem Reps.take:∀{vs:List V}{ds:List D}(n:Nat),Reps K B vs ds->Reps K B (vs.take n) (ds.take n)
 | _,_,0,_=>.nil
 | _,_,_+1,.nil=>.nil
 | _,_,n+1,.cons h r=>.cons h (Reps.take n r)
theorem Reps.drop:∀{vs:List V}{ds:List D}(n:Nat),Reps K B vs ds->Reps K B (vs.drop n) (ds.drop n)
 | _,_,0,r=>r
 | _,_,_+1,.nil=>.nil
 | _,_,n+1,.cons _ r=>Reps.drop n r
theorem Reps.ints:∀(ns:List Int),Reps K B (ns.map V.int) (ns.map D.int)
 | []=>.nil
 | n::r=>.cons (.int n) (Reps.ints r)
end
def fw(H:ai)(b:Tl):Prop:=∃x y:Int,H b=some (.lst [.int x,.int y])/\0<=x/\0<=y/\y<2147483647
def cX(σ:St)(ρ:List aI)(i:Nat)(a:Tl):Prop:=(σ[i]?=some (some (.ref a))/\(ρ[i]?=some .bag∨∃ds,ρ[i]?=some (.own ds)))∨∃c,ρ[i]?=some (.deep c)/\a∈c.adr::c.ins
structure Wd (R:ai) (W:Tl->Prop) (B H:ai):Prop where
 fr:∀a o,R a=some o->¬W a->H a=some o
 bh:cG B H
 wb:∀a,W a->B a=none
 wh:∀a,W a->fw H a
 wr:∀a,W a->R a≠none
open Classical in
noncomputable def ia(R:ai)(W:Tl->Prop)(B:ai):ai:=fun a=>match R a with
 | some (.lst vs)=>if W a then B a else some (.lst vs)
 | _=>B a
theorem rE{R:ai}{W:Tl->Prop}{B aF:ai}(s:cG B aF):cG (ia R W B) (ia R W aF):=fun a o h=>by
 unfold ia at h ⊢;split at h
 ·split at h
  ·rename_i z;rw[TI z];exact s a o h
  ·rename_i z;rw[TT z];exact h
 ·exact s a o h
def k2(K:Su)(B H:ai)(a:Tl):k1->Prop
 | .l ds=>∃vs,H a=some (.lst vs)/\Reps K B vs ds
 | .d b t ks ds=>∃c3 as vs,(∀c,t=some c->c=a)/\H a=some (vF b a c3 ks as vs)/\Reps K B (as.map V.ref) (ks.map (vE b))/\(b=false->∀k∈ks,∃l,k=[l])/\Reps K B vs ds
theorem k2.mono{K:Su}{B aF H af:ai}{a:Tl}{c:k1}(h:k2 K B H a c)(s:cG B aF)(e:af a=H a):k2 K aF af a c:=by
 cases c with
 | l ds=>obtain⟨vs,aa,ab⟩:=h;exact⟨vs,by rw[e];exact aa,ab.mono s⟩
 | d b t ks ds=>obtain⟨c3,as,vs,bY,aa,ab,aQ,bB⟩:=h;exact⟨c3,as,vs,bY,by rw[e];exact aa,ab.mono s,aQ,bB.mono s⟩
theorem k2.ne{K:Su}{B H:ai}{a:Tl}{c:k1}(h:k2 K B H a c):H a≠none:=by
 cases c with
 | l ds=>obtain⟨vs,aa,ab⟩:=h;rw[aa];simp
 | d b t ks ds=>obtain⟨c3,as,vs,_,aa,_⟩:=h;rw[aa];simp
structure m0 (K:Su) (B H:ai) (as:List Tl) (g8:List (List D)):Prop where
 len:as.length=g8.length
 at_:∀(i:Nat)(a:Tl)(ds:List D),as[i]?=some a->g8[i]?=some ds->∃vs,H a=some (.lst vs)/\Reps K B vs ds
theorem m0.mono{K:Su}{B aF H af:ai}{as:List Tl}{g8:List (List D)}(h:m0 K B H as g8)(s:cG B aF)(e:∀a∈as,af a=H a):m0 K aF af as g8 :=
 ⟨h.len,fun i a ds aa ab=>by
  obtain⟨vs,aN,a3⟩:=h.at_ i a ds aa ab
  exact⟨vs,by rw[e a (Tt aa)];exact aN,a3.mono s⟩⟩
theorem m0.ne{K:Su}{B H:ai}{as:List Tl}{g8:List (List D)}(h:m0 K B H as g8){a:Tl}(m:a∈as):H a≠none:=by
 obtain⟨i,aC⟩:=UG m
 have lt:i<as.length:=by
  by_cases z:i<as.length
  ·exact z
  ·rw[TF (by lia)]at aC;cases aC
 obtain⟨vs,aN,_⟩:=h.at_ i a _ aC (S8 (by rw[<-h.len];exact lt));rw[aN];simp
def ob(K:Su)(B H:ai):jI->Prop
 | .ll a as g8=>H a=some (.lst (as.map V.ref))/\m0 K B H as g8
 | .dl b a ks as g8=>∃c3 pA,H a=some (vF b a c3 ks pA (as.map V.ref))/\Reps K B (pA.map V.ref) (ks.map (vE b))/\(b=false->∀k∈ks,∃l,k=[l])/\m0 K B H as g8
structure Ak (K:Su) (R B H:ai) (c:jI):Prop where
 fr:∀a∈c.adr::c.ins,R a=none/\B a=none
 nd:(c.adr::c.ins).Nodup
 ok:ob K B H c
theorem ob.mono{K:Su}{B aF H af:ai}{c:jI}(h:ob K B H c)(s:cG B aF)(e:∀a∈c.adr::c.ins,af a=H a):ob K aF af c:=by
 cases c with
 | ll a as g8=>exact⟨by rw[e a Sv];exact h.1,h.2.mono s fun x m=>e x (Sw _ m)⟩
 | dl b a ks as g8 =>
  obtain⟨c3,pA,aa,ab,aQ,bB⟩:=h;exact⟨c3,pA,by rw[e a Sv];exact aa,ab.mono s,aQ,bB.mono s fun x m=>e x (Sw _ m)⟩
theorem ob.ne{K:Su}{B H:ai}{c:jI}(h:ob K B H c){a:Tl}(m:a∈c.adr::c.ins):H a≠none:=by
 cases c with
 | ll b as g8 =>
  rcases Sy.mp m with e|m
  ·rw[show a=b from e,h.1];simp
  ·exact h.2.ne m
 | dl b p ks as g8 =>
  obtain⟨c3,pA,aa,ab,aQ,bB⟩:=h;rcases Sy.mp m with e|m
  ·rw[show a=p from e,aa];simp
  ·exact bB.ne m
def Al(K:Su)(R:ai)(W:Tl->Prop)(B H:ai)(o:Option V):aI->Prop
 | .no=>True
 | .val d=>∃v,o=some v/\b3 K B v d
 | .own c=>∃a,o=some (.ref a)/\R a=none/\B a=none/\k2 K B H a c
 | .bag=>∃b,o=some (.ref b)/\(W b∨R b=none)/\B b=none/\fw H b
 | .new d=>∃v,o=some v/\b3 K (ia R W B) v d
 | .pin v d=>o=some v/\b3 K (ia R W B) v d
 | .deep c=>o=some (.ref c.adr)/\Ak K R B H c
structure aX (K:Su) (R:ai) (W:Tl->Prop) (B H:ai) (σ:St) (ρ:List aI):Prop extends Wd R W B H where
 len:σ.length=ρ.length
 ok:∀(i:Nat)(k:aI),ρ[i]?=some k->Al K R W B H (σ[i]?).join k
 sep:∀(i j:Nat)(a:Tl),cX σ ρ i a->cX σ ρ j a->i=j
structure bJ (R B aF:ai):Prop where
 s:cG B aF
 n:∀a o,aF a=some o->B a=some o∨R a=none
theorem bJ.refl(R B:ai):bJ R B B:=⟨cG.refl _,fun _ _ h=>.inl h⟩
theorem bJ.trans{R B aF Am:ai}(g:bJ R B aF)(h:bJ R aF Am):bJ R B Am:=⟨g.s.trans h.s,fun a o e=>(h.n a o e).elim (g.n a o) .inr⟩
theorem Wd.fresh{R:ai}{W:Tl->Prop}{B H:ai}(w:Wd R W B H){p:Tl}(h:H p=none):R p=none/\¬W p/\B p=none:=by
 have nw:¬W p:=fun z=>by
  obtain⟨x,y,e,_⟩:=w.wh p z;rw[h]at e;cases e
 refine⟨?_,nw,w.bh.free h⟩;cases q:R p with
 | none=>rfl
 | some o=>rw[w.fr p o q nw]at h;cases h
theorem g9{α:Type}{o:Option (Option α)}{v:α}(h:o.join=some v):o=some (some v):=by
 cases o with
 | none=>cases h
 | some x=>exact Uf some h
section
variable{K:Su}{R:ai}{W:Tl->Prop}{B aF H af:ai}{σ:St}{ρ:List aI}
theorem aX.val(e:aX K R W B H σ ρ){i:Nat}{d:D}(h:ρ[i]?=some (.val d)):∃v,σ[i]?=some (some v)/\b3 K B v d:=by
 obtain⟨v,aa,ab⟩:=e.ok i _ h;exact⟨v,g9 aa,ab⟩
theorem aX.ownAt(e:aX K R W B H σ ρ){i:Nat}{ds:List D}(h:ρ[i]?=some (.own ds)):∃a vs,σ[i]?=some (some (.ref a))/\R a=none/\B a=none/\H a=some (.lst vs)/\Reps K B vs ds:=by
 obtain⟨a,aa,ab,aQ,vs,bB,ek⟩:=e.ok i _ h;exact⟨a,vs,g9 aa,ab,aQ,bB,ek⟩
theorem aX.ownC(e:aX K R W B H σ ρ){i:Nat}{c:k1}(h:ρ[i]?=some (.own c)):∃a,σ[i]?=some (some (.ref a))/\R a=none/\B a=none/\k2 K B H a c:=by
 obtain⟨a,aa,ab⟩:=e.ok i _ h;exact⟨a,g9 aa,ab⟩
theorem aX.bagAt(e:aX K R W B H σ ρ){i:Nat}(h:ρ[i]?=some .bag):∃b,σ[i]?=some (some (.ref b))/\(W b∨R b=none)/\B b=none/\fw H b:=by
 obtain⟨a,aa,ab⟩:=e.ok i _ h;exact⟨a,g9 aa,ab⟩
theorem aX.deepAt(e:aX K R W B H σ ρ){i:Nat}{c:jI}(h:ρ[i]?=some (.deep c)):σ[i]?=some (some (.ref c.adr))/\Ak K R B H c:=by
 obtain⟨aa,ab⟩:=e.ok i _ h;exact⟨g9 aa,ab⟩
theorem aX.mutOk(e:aX K R W B H σ ρ){i:Nat}{a:Tl}(m:cX σ ρ i a):B a=none/\H a≠none:=by
 rcases m with⟨aa,ab|⟨ds,ab⟩⟩|⟨c,aa,ab⟩
 ·obtain⟨b,ag,_,be,x,y,ci,_⟩:=e.bagAt ab;rw[aa]at ag;cases ag;exact⟨be,by rw[ci];simp⟩
 ·obtain⟨b,ag,_,be,ci⟩:=e.ownC ab;rw[aa]at ag;cases ag;exact⟨be,ci.ne⟩
 ·have q:=(e.deepAt aa).2;exact⟨(q.fr a ab).2,q.ok.ne ab⟩
theorem Jo{i:Nat}{a:Tl}(m:cX σ ρ i a)(n:∀c,ρ[i]?≠some (.deep c)):σ[i]?=some (some (.ref a))/\(ρ[i]?=some .bag∨∃ds,ρ[i]?=some (.own ds)):=by
 rcases m with m|⟨c,h,_⟩
 ·exact m
 ·exact absurd h (n c)
theorem oe{i:Nat}{a:Tl}(m:cX σ ρ i a)(h:ρ[i]?=some .bag):σ[i]?=some (some (.ref a)):=(Jo m fun c z=>by rw[h]at z;cases z).1
theorem aX.move(e:aX K R W B H σ ρ)(w:Wd R W aF af)(s:cG B aF)(m:∀i a,cX σ ρ i a->aF a=none/\(ρ[i]?=some .bag->fw af a)/\(ρ[i]?≠some .bag->af a=H a)):aX K R W aF af σ ρ:=by
 refine⟨w,e.len,fun i k h=>?_,e.sep⟩;cases k with
 | no=>trivial
 | new d =>
  obtain⟨v,aa,ab⟩:=e.ok i _ h;exact⟨v,aa,ab.mono (rE s)⟩
 | pin v d =>
  obtain⟨aa,ab⟩:=e.ok i _ h;exact⟨aa,ab.mono (rE s)⟩
 | val d =>
  obtain⟨v,aa,ab⟩:=e.ok i _ h;exact⟨v,aa,ab.mono s⟩
 | own ds =>
  obtain⟨a,aa,ab,aQ,bB⟩:=e.ok i _ h;obtain⟨bF,bS,fJ⟩:=m i a (.inl ⟨g9 aa,.inr ⟨ds,h⟩⟩);exact⟨a,aa,ab,bF,bB.mono s (fJ (by rw[h];simp))⟩
 | deep c =>
  obtain⟨aa,ab⟩:=e.ok i _ h
  have gv:∀a∈c.adr::c.ins,aF a=none/\af a=H a:=fun a hQ=>by
   obtain⟨bF,bS,fJ⟩:=m i a (.inr ⟨c,h,hQ⟩);exact⟨bF,fJ (by rw[h];simp)⟩
  exact⟨aa,fun a hQ=>⟨(ab.fr a hQ).1,(gv a hQ).1⟩,ab.nd,ab.ok.mono s fun a hQ=>(gv a hQ).2⟩
 | bag =>
  obtain⟨b,aa,ab,aQ,bB⟩:=e.ok i _ h;obtain⟨bF,bS,fJ⟩:=m i b (.inl ⟨g9 aa,.inl h⟩);exact⟨b,aa,ab,bF,bS h⟩
theorem fw.upd{H:ai}{b p:Tl}{o:d7}(h:fw H b)(n:b≠p):fw (L2.upd H p o) b:=by
 obtain⟨x,y,e,q⟩:=h;exact⟨x,y,by rw[b1 n];exact e,q⟩
theorem Wd.alloc(w:Wd R W B H){p:Tl}(h:H p=none)(o:d7):Wd R W (upd B p o) (upd H p o):=by
 obtain⟨bd,bH,bW⟩:=w.fresh h;refine⟨fun a u q nw=>?_,fun a u q=>?_,fun a z=>?_,fun a z=>?_,w.wr⟩
 ·rw[b1 (by rintro rfl;rw[bd]at q;cases q)];exact w.fr a u q nw
 ·unfold L2.upd at q ⊢;split
  ·rename_i z;rw[TI z]at q;exact q
  ·rename_i z;rw[TT z]at q;exact w.bh a u q
 ·rw[b1 (by rintro rfl;exact bH z)];exact w.wb a z
 ·exact(w.wh a z).upd (by rintro rfl;exact bH z)
theorem Wd.allocH(w:Wd R W B H){p:Tl}(h:H p=none)(o:d7):Wd R W B (upd H p o):=by
 obtain⟨bd,bH,bW⟩:=w.fresh h;refine⟨fun a u q nw=>?_,fun a u q=>?_,w.wb,fun a z=>?_,w.wr⟩
 ·rw[b1 (by rintro rfl;rw[bd]at q;cases q)];exact w.fr a u q nw
 ·rw[b1 (by rintro rfl;rw[bW]at q;cases q)];exact w.bh a u q
 ·exact(w.wh a z).upd (by rintro rfl;exact bH z)
theorem aX.notNew(e:aX K R W B H σ ρ){p:Tl}(h:H p=none){i:Nat}{a:Tl}(m:cX σ ρ i a):a≠p:=by
 rintro rfl;exact(e.mutOk m).2 h
theorem aX.alloc(e:aX K R W B H σ ρ){p:Tl}(h:H p=none)(o:d7):aX K R W (upd B p o) (upd H p o) σ ρ:=by
 obtain⟨bd,bH,bW⟩:=e.toWd.fresh h;refine e.move (e.toWd.alloc h o) (rC bW o) fun i a m=>?_;have n:=e.notNew h m;refine⟨by rw[b1 n];exact(e.mutOk m).1,fun z=>?_,fun _=>b1 n⟩;obtain⟨b,ag,_,_,ci⟩:=e.bagAt z;rw[oe m z]at ag;cases ag;exact ci.upd n
theorem aX.allocH(e:aX K R W B H σ ρ){p:Tl}(h:H p=none)(o:d7):aX K R W B (upd H p o) σ ρ:=by
 refine e.move (e.toWd.allocH h o) (cG.refl _) fun i a m=>?_;have n:=e.notNew h m;refine⟨(e.mutOk m).1,fun z=>?_,fun _=>b1 n⟩;obtain⟨b,ag,_,_,ci⟩:=e.bagAt z;rw[oe m z]at ag;cases ag;exact ci.upd n
theorem aX.grow(e:aX K R W B H σ ρ){p:Tl}(h:H p=none)(o:d7):bJ R B (upd B p o):=by
 obtain⟨bd,bH,bW⟩:=e.toWd.fresh h;refine⟨rC bW o,fun a u q=>?_⟩;by_cases z:a=p
 ·subst z;exact .inr bd
 ·rw[b1 z]at q;exact .inl q
theorem aX.freezeO(e:aX K R W B H σ ρ){a:Tl}{o:d7}(h:H a=some o)(am:R a=none)(ae:B a=none)(aB:∀i,¬cX σ ρ i a):aX K R W (upd B a o) H σ ρ/\bJ R B (upd B a o):=by
 have nw:¬W a:=fun z=>e.wr a z am;refine⟨e.move ⟨e.fr,fun b u q=>?_,fun b z=>?_,e.wh,e.wr⟩ (rC ae _) (fun i b m=>?_),⟨rC ae _,fun b u q=>?_⟩⟩
 ·by_cases z:b=a
  ·subst z;rw[ei]at q;cases q;exact h
  ·rw[b1 z]at q;exact e.bh b u q
 ·rw[b1 (by rintro rfl;exact nw z)];exact e.wb b z
 ·have n:b≠a:=by rintro rfl;exact aB i m
  refine⟨by rw[b1 n];exact(e.mutOk m).1,fun z=>?_,fun _=>rfl⟩;obtain⟨c,ag,_,_,ci⟩:=e.bagAt z;rw[oe m z]at ag;cases ag;exact ci
 ·by_cases z:b=a
  ·subst z;exact .inr am
  ·rw[b1 z]at q;exact .inl q
theorem aX.freeze(e:aX K R W B H σ ρ){a:Tl}{vs:List V}(h:H a=some (.lst vs))(am:R a=none)(ae:B a=none)(aB:∀i,¬cX σ ρ i a):aX K R W (upd B a (.lst vs)) H σ ρ/\bJ R B (upd B a (.lst vs)):=e.freezeO h am ae aB
theorem k3{α:Type}{l:List α}{i j:Nat}{x y:α}(h:(l.set i x)[j]?=some y):(j=i/\y=x)∨(j≠i/\l[j]?=some y):=by
 by_cases e:i=j
 ·subst e;rw[List.getElem?_set_self']at h;cases q:l[i]? with
  | none=>rw[q]at h;cases h
  | some z=>rw[q]at h;exact .inl ⟨rfl,(SM h).symm⟩
 ·rw[Uh e]at h;exact .inr ⟨fun z=>e z.symm,h⟩
def aI.adrs:aI->List Tl
 | .deep c=>c.adr::c.ins
 | _=>[]
theorem rF{i j:Nat}{v:V}{k:aI}{a:Tl}(m:cX (σ.set i (some v)) (ρ.set i k) j a):(j=i/\((v=.ref a/\(k=.bag∨∃ds,k=.own ds))∨a∈k.adrs))∨(j≠i/\cX σ ρ j a):=by
 rcases m with⟨aa,ab⟩|⟨c,aa,ab⟩
 ·rcases k3 aa with⟨e,aa⟩|⟨e,aa⟩
  ·refine .inl ⟨e,.inl ⟨(SM aa).symm,?_⟩⟩;rcases ab with ab|⟨ds,ab⟩
   ·rcases k3 ab with⟨_,ab⟩|⟨n,_⟩
    ·exact .inl ab.symm
    ·exact absurd e n
   ·rcases k3 ab with⟨_,ab⟩|⟨n,_⟩
    ·exact .inr ⟨ds,ab.symm⟩
    ·exact absurd e n
  ·refine .inr ⟨e,.inl ⟨aa,?_⟩⟩;rcases ab with ab|⟨ds,ab⟩
   ·rcases k3 ab with⟨n,_⟩|⟨_,ab⟩
    ·exact absurd n e
    ·exact .inl ab
   ·rcases k3 ab with⟨n,_⟩|⟨_,ab⟩
    ·exact absurd n e
    ·exact .inr ⟨ds,ab⟩
 ·rcases k3 aa with⟨e,aa⟩|⟨e,aa⟩
  ·exact .inl ⟨e,.inr (by rw[<-aa];exact ab)⟩
  ·exact .inr ⟨e,.inr ⟨c,aa,ab⟩⟩
theorem An{i j:Nat}{v:V}{k:aI}{a:Tl}(m:cX (σ.set i (some v)) (ρ.set i k) j a)(cv:k≠.bag)(cN:∀c,k≠.own c)(gK:k.adrs=[]):j≠i/\cX σ ρ j a:=by
 rcases rF m with⟨_,⟨_,z|⟨c,z⟩⟩|z⟩|m
 ·exact absurd z cv
 ·exact absurd z (cN c)
 ·rw[gK]at z;cases z
 ·exact m
theorem aX.set(e:aX K R W B H σ ρ)(i:Nat){v:V}{k:aI}(ah:Al K R W B H (some v) k)(aB:∀a,v=.ref a->(k=.bag∨∃ds,k=.own ds)->∀j,j≠i->¬cX σ ρ j a)(hd:∀a∈k.adrs,∀j,j≠i->¬cX σ ρ j a:=by intro _ z;cases z):aX K R W B H (σ.set i (some v)) (ρ.set i k):=by
 refine⟨e.toWd,by rw[UB,UB];exact e.len,fun j rk h=>?_,fun x y a aj aM=>?_⟩
 ·rcases k3 h with⟨rfl,rfl⟩|⟨n,h⟩
  ·have lt:j<σ.length:=by
    rw[e.len];by_cases z:j<ρ.length
    ·exact z
    ·rw[TF (by rw[UB];lia)]at h;cases h
   have q:((σ.set j (some v))[j]?).join=some v:=by rw[UQ lt];rfl
   rw[q];exact ah
  ·rw[Uh (fun z=>n z.symm)];exact e.ok j rk h
 ·rcases rF aj with⟨ag,aP⟩|⟨cv,bF⟩
  ·rcases rF aM with⟨ao,_⟩|⟨cN,bS⟩
   ·rw[ag,ao]
   ·rcases aP with⟨v1,bT⟩|aP
    ·exact absurd bS (aB a v1 bT y cN)
    ·exact absurd bS (hd a aP y cN)
  ·rcases rF aM with⟨ao,bc⟩|⟨cN,bS⟩
   ·rcases bc with⟨v2,bP⟩|bc
    ·exact absurd bF (aB a v2 bP x cv)
    ·exact absurd bF (hd a bc x cv)
   ·exact e.sep x y a bF bS
theorem aX.setV(e:aX K R W B H σ ρ)(i:Nat){v:V}{d:D}(r:b3 K B v d):aX K R W B H (σ.set i (some v)) (ρ.set i (.val d)):=
 e.set i ⟨v,rfl,r⟩ fun _ _ z=>by rcases z with z|⟨_,z⟩<;>cases z
theorem aX.setO(e:aX K R W B H σ ρ)(i:Nat){a:Tl}{vs:List V}{ds:List D}(am:R a=none)(ae:B a=none)(dh:H a=some (.lst vs))(r:Reps K B vs ds)(aB:∀j,j≠i->¬cX σ ρ j a):aX K R W B H (σ.set i (some (.ref a))) (ρ.set i (.own ds)):=
 e.set i ⟨a,rfl,am,ae,vs,dh,r⟩ fun b z _=>by cases z;exact aB
theorem aX.writeC(e:aX K R W B H σ ρ){i:Nat}{a:Tl}{c cu:k1}{o:d7}(h:σ[i]?=some (some (.ref a)))(aA:ρ[i]?=some (.own c))(r:k2 K B (upd H a o) a cu):aX K R W B (upd H a o) σ (ρ.set i (.own cu)):=by
 obtain⟨iH,ag,ao,be,ci⟩:=e.ownC aA;rw[h]at ag;cases ag;have nw:¬W a:=fun z=>e.wr a z ao;have l4:cX σ ρ i a:=.inl ⟨h,.inr ⟨c,aA⟩⟩;refine⟨⟨fun b u q z=>?_,fun b u q=>?_,e.wb,fun b z=>?_,e.wr⟩,by rw[UB];exact e.len,fun j k q=>?_,fun x y b aj aM=>?_⟩
 ·rw[b1 (by rintro rfl;rw[ao]at q;cases q)];exact e.fr b u q z
 ·rw[b1 (by rintro rfl;rw[be]at q;cases q)];exact e.bh b u q
 ·exact(e.wh b z).upd (by rintro rfl;exact nw z)
 ·rcases k3 q with⟨rfl,rfl⟩|⟨n,q⟩
  ·exact⟨a,by rw[h];rfl,ao,be,r⟩
  ·have z:=e.ok j k q;cases k with
   | no=>trivial
   | new d=>exact z
   | pin v d=>exact z
   | val d=>exact z
   | own es =>
    obtain⟨b,aP,bc,e5,fc⟩:=z;exact⟨b,aP,bc,e5,fc.mono (cG.refl _) (b1 (by rintro rfl;exact n (e.sep j i b (.inl ⟨g9 aP,.inr ⟨es,q⟩⟩) l4)))⟩
   | deep d =>
    exact⟨z.1,z.2.fr,z.2.nd,z.2.ok.mono (cG.refl _) fun b fE=>b1 (by rintro rfl;exact n (e.sep j i b (.inr ⟨d,q,fE⟩) l4))⟩
   | bag =>
    obtain⟨b,aP,bc,e5,fc⟩:=z;exact⟨b,aP,bc,e5,fc.upd (by rintro rfl;exact n (e.sep j i b (.inl ⟨g9 aP,.inl q⟩) l4))⟩
 ·have back:∀x,cX σ (ρ.set i (.own cu)) x b->cX σ ρ x b:=fun x m=>by
   rcases m with⟨bF,bS⟩|⟨d,bF,bS⟩
   ·by_cases z:x=i
    ·subst z;exact .inl ⟨bF,.inr ⟨c,aA⟩⟩
    ·refine .inl ⟨bF,?_⟩;rw[Uh (fun w=>z w.symm)]at bS;exact bS
   ·rcases k3 bF with⟨_,z⟩|⟨_,bF⟩
    ·cases z
    ·exact .inr ⟨d,bF,bS⟩
  exact e.sep x y b (back x aj) (back y aM)
theorem aX.write(e:aX K R W B H σ ρ){i:Nat}{a:Tl}{ds ds':List D}{vs:List V}(h:σ[i]?=some (some (.ref a)))(aA:ρ[i]?=some (.own ds))(r:Reps K B vs ds'):aX K R W B (upd H a (.lst vs)) σ (ρ.set i (.own ds')):=
 e.writeC h aA ⟨vs,ei,r⟩
theorem aX.fz(e:aX K R W B H σ ρ){i:Nat}{ds:List D}(aA:ρ[i]?=some (.own ds)):∃aF,aX K R W aF H σ (ρ.set i (.val (.lst ds)))/\bJ R B aF:=by
 obtain⟨a,vs,ag,ao,be,ci,eL⟩:=e.ownAt aA;have l4:cX σ ρ i a:=.inl ⟨ag,.inr ⟨ds,aA⟩⟩;have f:=(e.setV (d:=.non) i (v:=.non) .non)
 have bH:=f.freeze ci ao be (fun j m=>by
  obtain⟨n,m⟩:=An m (by simp) (by simp) rfl
  exact n (e.sep j i a m l4))
 refine⟨_,?_,bH.2⟩;have g:=bH.1.setV i (v:=.ref a) (d:=.lst ds) (.lst ei (eL.mono bH.2.s));rw[List.set_set,List.set_set]at g
 have q:σ.set i (some (.ref a))=σ:=by
  apply U0;intro j;by_cases z:i=j
  ·subst z
   have lt:i<σ.length:=by
    by_cases z:i<σ.length
    ·exact z
    ·rw[TF (by lia)]at ag;cases ag
   rw[UQ lt,ag]
  ·rw[Uh z]
 rw[q]at g;exact g
end
end L3
namespace L3
open PySem L2
open PySem.Builtin.Int (intBits)
abbrev bb:=List aI->(D->Prop)->Prop
abbrev dk:=List aI->(List D->Prop)->Prop
abbrev c5:=List aI->(Bool->Prop)->Prop
inductive Arg where
 | val (d:D)|bag (i:Nat)
abbrev je:=List aI->(List Arg->Prop)->Prop
structure gw where
 nx:List aI->Prop
 rt:aI->Prop
 bk:List aI->Prop:=fun _=>False
 ct:List aI->Prop:=fun _=>False
abbrev cM:=gw->List aI->Prop
abbrev ec:=D->List aI->(List aI->Prop)->Prop
abbrev l5:=List D->List aI->(List aI->Prop)->Prop
section
variable(K:Su)
def dR(t:bN)(u:bb):Prop:=∀(ρ:List aI)(k:D->Prop),u ρ k->∀(R:ai)(W:Tl->Prop)(B H:ai)(σ:St)(Q:cc),aX K R W B H σ ρ ->
 (∀d v aF af,k d->aX K R W aF af σ ρ->bJ R B aF->b3 K aF v d->Q v af)->t σ H Q
def pB(t:bN)(u:dk):Prop:=∀(ρ:List aI)(k:List D->Prop),u ρ k->∀(R:ai)(W:Tl->Prop)(B H:ai)(σ:St)(Q:cc),aX K R W B H σ ρ ->
 (∀ds a vs aF af,k ds->aX K R W aF af σ ρ->bJ R B aF->R a=none->aF a=none->af a=some (.lst vs)->Reps K aF vs ds->(∀i,¬cX σ ρ i a)->Q (.ref a) af)->t σ H Q
def gx(t:dC)(u:c5):Prop:=∀(ρ:List aI)(k:Bool->Prop),u ρ k->∀(R:ai)(W:Tl->Prop)(B H:ai)(σ:St)(Q:Bool->ai->Prop),aX K R W B H σ ρ ->
 (∀b aF af,k b->aX K R W aF af σ ρ->bJ R B aF->Q b af)->t σ H Q
def rG(t:eE)(u:dk):Prop:=∀(ρ:List aI)(k:List D->Prop),u ρ k->∀(R:ai)(W:Tl->Prop)(B H:ai)(σ:St)(Q:List V->ai->Prop),aX K R W B H σ ρ ->
 (∀ds vs aF af,k ds->aX K R W aF af σ ρ->bJ R B aF->Reps K aF vs ds->Q vs af)->t σ H Q
inductive iM (B:ai) (σ:St) (ρ:List aI):List V->List Arg->Prop where
 | nil:iM B σ ρ [] []
 | val {v:V} {d:D} {vs:List V} {as:List Arg} (h:b3 K B v d) (r:iM B σ ρ vs as):iM B σ ρ (v::vs) (.val d::as)
 | bag {v:V} {i:Nat} {vs:List V} {as:List Arg} (h:σ[i]?=some (some v)) (ae:ρ[i]?=some .bag) (r:iM B σ ρ vs as):iM B σ ρ (v::vs) (.bag i::as)
def Jp(t:eE)(u:je):Prop:=∀(ρ:List aI)(k:List Arg->Prop),u ρ k->∀(R:ai)(W:Tl->Prop)(B H:ai)(σ:St)(Q:List V->ai->Prop),aX K R W B H σ ρ ->
 (∀as vs aF af,k as->aX K R W aF af σ ρ->bJ R B aF->iM K aF σ ρ vs as->Q vs af)->t σ H Q
def vG(R B:ai):ai:=fun a=>match B a with
 | some (.lst vs)=>if(R a).isNone then some (.lst vs)else none
 | o=>o
def vH(R:ai)(B H:ai)(v:V):aI->Prop
 | .no=>False
 | .val d=>b3 K B v d
 | .own c=>∃a,v=.ref a/\R a=none/\B a=none/\k2 K B H a c
 | .bag=>∃b,v=.ref b/\R b=none/\B b=none/\fw H b
 | .new d=>b3 K (vG R B) v d
 | .pin _ _=>False
 | .deep _=>False
structure rH (R:ai) (W:Tl->Prop) (B:ai) (U:gw) (D:lO):Prop where
 nx:∀ρ σ aF af,U.nx ρ->aX K R W aF af σ ρ->bJ R B aF->D.nx σ af
 bk:∀ρ σ aF af,U.bk ρ->aX K R W aF af σ ρ->bJ R B aF->D.bk σ af
 ct:∀ρ σ aF af,U.ct ρ->aX K R W aF af σ ρ->bJ R B aF->D.ct σ af
 rt:∀r v aF af,U.rt r->Wd R W aF af->bJ R B aF->vH K R aF af v r->D.rt v af
def Ao(t:fa)(u:cM):Prop:=∀(U:gw)(ρ:List aI),u U ρ->∀(R:ai)(W:Tl->Prop)(B H:ai)(σ:St)(D:lO),aX K R W B H σ ρ->rH K R W B U D->t D σ H
def l6(g:eI)(u:ec):Prop:=∀(d:D)(ρ:List aI)(k:List aI->Prop),u d ρ k->∀(R:ai)(W:Tl->Prop)(B H:ai)(σ:St)(v:V)(Q:St->ai->Prop),aX K R W B H σ ρ->b3 K B v d ->
 (∀bf a1,k bf->aX K R W B H a1 bf->(∀j a,cX a1 bf j a->cX σ ρ j a)->Q a1 H)->g v σ H Q
def Jq(g:lQ)(u:l5):Prop:=∀(ds:List D)(ρ:List aI)(k:List aI->Prop),u ds ρ k->∀(R:ai)(W:Tl->Prop)(B H:ai)(σ:St)(vs:List V)(Q:St->ai->Prop),aX K R W B H σ ρ->Reps K B vs ds ->
 (∀bf a1,k bf->aX K R W B H a1 bf->(∀j a,cX a1 bf j a->cX σ ρ j a)->Q a1 H)->g vs σ H Q
def jJ(B:ai)(J:gf)(ds:List D):Prop:=∀(H:ai),cG B H->∀i,(i<ds.length->J.go i H)/\(ds.length<=i->J.stop i H)/\∀x af,i<ds.length->J.yld i H x af->af=H/\∃d,ds[i]?=some d/\b3 K B x d
def og(t:bQ)(u:dk):Prop:=∀(ρ:List aI)(k:List D->Prop),u ρ k->∀(R:ai)(W:Tl->Prop)(B H:ai)(σ:St)(Q:gf->ai->Prop),aX K R W B H σ ρ ->
 (∀ds J aF af,k ds->aX K R W aF af σ ρ->bJ R B aF->jJ K aF J ds->Q J af)->t σ H Q
end
theorem Ap{R B:ai}:cG (vG R B) B:=fun a o h=>by
 unfold vG at h;split at h
 ·rename_i vs e
  split at h
  ·rw[e];exact h
  ·cases h
 ·exact h
theorem rH.grow{K:Su}{R:ai}{W:Tl->Prop}{B aF:ai}{U:gw}{D:lO}(s:rH K R W B U D)(g:bJ R B aF):rH K R W aF U D :=
 ⟨fun ρ σ C H h e q=>s.nx ρ σ C H h e (g.trans q),fun ρ σ C H h e q=>s.bk ρ σ C H h e (g.trans q),fun ρ σ C H h e q=>s.ct ρ σ C H h e (g.trans q),fun r v C H h e q z=>s.rt r v C H h e (g.trans q) z⟩
section
variable(X:aU)
def bn(e:WP)(u:bb):Prop:=∃t,b5 X e t/\dR X.K t u
def ib(e:WP)(u:dk):Prop:=∃t,b5 X e t/\pB X.K t u
def gj(e:WP)(u:c5):Prop:=∃t,hN X e t/\gx X.K t u
def m1(e:WP)(u:c5):Prop:=∃t,kW X e t/\gx X.K t u
def oh(es:List WP)(u:dk):Prop:=∃t,gG X es t/\rG X.K t u
def l7(es:List WP)(u:je):Prop:=∃t,gG X es t/\Jp X.K t u
def fe(s:W0)(u:cM):Prop:=∃t,hp X s t/\Ao X.K t u
def hD(s:List W0)(u:cM):Prop:=∃t,hq X s t/\Ao X.K t u
def iN(e:WP)(u:ec):Prop:=∃t,hr X e t/\l6 X.K t u
def rI(e:List WP)(u:l5):Prop:=∃t,pe X e t/\Jq X.K t u
def kw(a6 e:WP)(u:dk):Prop:=∃t,hv X a6 e t/\og X.K t u
end
def dz(i:Nat):bb:=fun ρ k=>∃d,ρ[i]?=some (.val d)/\k d
def k4(d:D):bb:=fun _ k=>k d
def m2(C:Int->Int->Prop)(g:Int->Int->D)(bw bA:bb):bb:=fun ρ k=>bw ρ fun x=>bA ρ fun y=>∃i j,x=.int i/\y=.int j/\C i j/\k (g i j)
def iO(g:Int->Int->D)(bw bA:bb):bb:=fun ρ k=>bw ρ fun x=>bA ρ fun y=>∃i j,x=.int i/\y=.int j/\k (g i j)
def vI(bw:bb):bb:=fun ρ k=>bw ρ fun x=>∃i,x=.int i/\k (.int (-i))
section
variable{K:Su}{X:aU}
theorem Jr(i:Nat):dR K (uU i) (dz i):=by
 intro ρ k h R W B H σ Q e q;obtain⟨d,h,z⟩:=h;obtain⟨v,ag,r⟩:=e.val h;exact⟨v,ag,q d v B H z e (bJ.refl _ _) r⟩
theorem vJ{v:V}{d:D}(h:∀B,b3 K B v d):dR K (n2 v) (k4 d):=fun ρ k z R W B H σ Q e q=>q d v B H z e (bJ.refl _ _) (h B)
theorem m3{ta tb:bN}{bw bA:bb}{r:hy}{f:D->D->(D->Prop)->Prop}(ax:dR K ta bw)(ae:dR K tb bA)(am:∀(x y:D) (k:D->Prop),f x y k->∀(R:ai) (W:Tl->Prop) (B H:ai) (σ:St) (ρ:List aI) (v w:V) (Q:cc),aX K R W B H σ ρ->b3 K B v x->b3 K B w y->(∀d v aF af,k d->aX K R W aF af σ ρ->bJ R B aF->b3 K aF v d->Q v af)->r v w H Q):
  dR K (kn r ta tb) (fun ρ k=>bw ρ fun x=>bA ρ fun y=>f x y k):=by
 intro ρ k h R W B H σ Q e q;refine ax ρ _ h R W B H σ _ e fun x v a7 aw aa ag aO av=>?_;refine ae ρ _ aa R W a7 aw σ _ ag fun y w cj aV ab ao aT aK=>?_;exact am x y k ab R W cj aV σ ρ v w Q ao (av.mono aT.s) aK fun d u k5 ca aQ be g3 d8=>q d u k5 ca aQ be ((aO.trans aT).trans g3) d8
theorem Js{ta:bN}{bw:bb}{r:V->ai->cc->Prop}{f:D->(D->Prop)->Prop}(ax:dR K ta bw)(am:∀(x:D) (k:D->Prop),f x k->∀(R:ai) (W:Tl->Prop) (B H:ai) (σ:St) (ρ:List aI) (v:V) (Q:cc),aX K R W B H σ ρ->b3 K B v x->(∀d v aF af,k d->aX K R W aF af σ ρ->bJ R B aF->b3 K aF v d->Q v af)->r v H Q):
  dR K (u6 r ta) (fun ρ k=>bw ρ fun x=>f x k):=by
 intro ρ k h R W B H σ Q e q;refine ax ρ _ h R W B H σ _ e fun x v a7 aw aa ag aO av=>?_;exact am x k aa R W a7 aw σ ρ v Q ag av fun d u k5 ca aQ be g3 d8=>q d u k5 ca aQ be (aO.trans g3) d8
theorem b3.intV{B:ai}{v:V}{i:Int}(r:b3 K B v (.int i)):v=.int i:=by cases r;rfl
theorem b3.blV{B:ai}{v:V}{b:Bool}(r:b3 K B v (.bl b)):v=.bl b:=by cases r;rfl
theorem b3.nonV{B:ai}{v:V}(r:b3 K B v .non):v=.non:=by cases r;rfl
theorem b3.tupV{B:ai}{v:V}{ds:List D}(r:b3 K B v (.tup ds)):∃a vs,v=.ref a/\B a=some (.tup vs)/\Reps K B vs ds:=by
 cases r with|tup h r=>exact⟨_,_,rfl,h,r⟩
theorem b3.lstV{B:ai}{v:V}{ds:List D}(r:b3 K B v (.lst ds)):∃a vs,v=.ref a/\B a=some (.lst vs)/\Reps K B vs ds:=by
 cases r with|lst h r=>exact⟨_,_,rfl,h,r⟩
theorem b3.scrV{B:ai}{v:V}{ns:List Int}(r:b3 K B v (.scr ns)):∃a,v=.ref a/\cl K B a (ns.map V.int):=by
 cases r with|scr h=>exact⟨_,rfl,h⟩
theorem vK{C:Int->Int->Prop}{f:Int->Int->V}{g:Int->Int->D}{ta tb:bN}{bw bA:bb}(aD:∀B i j,b3 K B (f i j) (g i j))(ax:dR K ta bw)(ae:dR K tb bA):dR K (kn (mN C f) ta tb) (m2 C g bw bA):=
 m3 ax ae fun x y k h R W B H σ ρ v w Q e ba cm q=>by
  obtain⟨i,j,rfl,rfl,hc,ah⟩:=h;exact⟨i,j,ba.intV,cm.intV,hc,q _ _ B H ah e (bJ.refl _ _) (aD B i j)⟩
theorem rJ{f:Int->Int->V}{g:Int->Int->D}{ta tb:bN}{bw bA:bb}(aD:∀B i j,b3 K B (f i j) (g i j))(ax:dR K ta bw)(ae:dR K tb bA):dR K (kn (ja f) ta tb) (iO g bw bA):=
 m3 ax ae fun x y k h R W B H σ ρ v w Q e ba cm q=>by
  obtain⟨i,j,rfl,rfl,ah⟩:=h;exact⟨i,j,ba.intV,cm.intV,q _ _ B H ah e (bJ.refl _ _) (aD B i j)⟩
theorem Jt{ta:bN}{bw:bb}(ax:dR K ta bw):dR K (u6 (u7 fun i=>.int (-i)) ta) (vI bw):=
 Js (f:=fun x k=>∃i,x=.int i/\k (.int (-i))) ax fun x k h R W B H σ ρ v Q e ba q=>by
  obtain⟨i,rfl,ah⟩:=h;exact⟨i,ba.intV,q _ _ B H ah e (bJ.refl _ _) (.int _)⟩
variable{a b:WP}{bw bA:bb}{pos:Pos}
theorem v3(i:Nat){x:Str}{pos:Pos}(cd:X.N[i]?=some x:=by rfl)(a':iF X.env.scope x:=by first|exact Ss rfl|exact SF (Ss rfl)|exact SF (SF rfl))(hd:(x==("__debug__":Str))=false:=by decide)(eo:(x==("__classdict__":Str))=false:=by decide):bn X (.Name x pos) (dz i):=⟨_,ki cd a' hd eo,Jr i⟩
theorem aJ{i j pos}:bn X (.Constant (.int i) j pos) (k4 (.int i)):=⟨_,gc,vJ fun _=>.int _⟩
theorem iP{b j pos}:bn X (.Constant (.bool b) j pos) (k4 (.bl b)):=⟨_,GS,vJ fun _=>.bl _⟩
theorem oi{j pos}:bn X (.Constant .none j pos) (k4 .non):=⟨_,GT,vJ fun _=>.non⟩
theorem gN(ax:bn X a bw)(ae:bn X b bA):bn X (.BinOp a .Add b pos) (iO (fun i j=>.int (i+j)) bw bA):=by
 obtain⟨_,aa,av⟩:=ax;obtain⟨_,ab,aK⟩:=ae;exact⟨_,gM zD aa ab,rJ (fun _ _ _=>.int _) av aK⟩
theorem ha(ax:bn X a bw)(ae:bn X b bA):bn X (.BinOp a .Sub b pos) (iO (fun i j=>.int (i-j)) bw bA):=by
 obtain⟨_,aa,av⟩:=ax;obtain⟨_,ab,aK⟩:=ae;exact⟨_,gM HV aa ab,rJ (fun _ _ _=>.int _) av aK⟩
theorem cY(ax:bn X a bw)(ae:bn X b bA):bn X (.BinOp a .Mult b pos) (m2 rz (fun i j=>.int (i*j)) bw bA):=by
 obtain⟨_,aa,av⟩:=ax;obtain⟨_,ab,aK⟩:=ae;exact⟨_,gM vv aa ab,vK (fun _ _ _=>.int _) av aK⟩
theorem hE(ax:bn X a bw)(ae:bn X b bA):bn X (.BinOp a .FloorDiv b pos) (m2 mX (fun i j=>.int (i.fdiv j)) bw bA):=by
 obtain⟨_,aa,av⟩:=ax;obtain⟨_,ab,aK⟩:=ae;exact⟨_,gM vw aa ab,vK (fun _ _ _=>.int _) av aK⟩
theorem pC(ax:bn X a bw)(ae:bn X b bA):bn X (.BinOp a .Mod b pos) (m2 (fun _ j=>0<j) (fun i j=>.int (i%j)) bw bA):=by
 obtain⟨_,aa,av⟩:=ax;obtain⟨_,ab,aK⟩:=ae;exact⟨_,gM n8 aa ab,vK (fun _ _ _=>.int _) av aK⟩
theorem kx(ax:bn X a bw):bn X (.UnaryOp .USub a pos) (vI bw):=by
 obtain⟨_,aa,av⟩:=ax;exact⟨_,HU HZ aa,Jt av⟩
def Aq(dD:CmpOp)(f:Int->Int->Bool)(X:aU):Prop:=eX X (W4 dD) (ja fun i j=>.bl (f i j))
theorem oj{dD:CmpOp}{f:Int->Int->Bool}(aA:Aq dD f X)(ax:bn X a bw)(ae:bn X b bA)(aB:WT dD b=false):bn X (.Compare a [dD] [b] pos) (iO (fun i j=>.bl (f i j)) bw bA):=by
 obtain⟨_,aa,av⟩:=ax;obtain⟨_,ab,aK⟩:=ae;exact⟨_,rm aA aa ab aB,rJ (fun _ _ _=>.bl _) av aK⟩
def hF(bw:bb):c5:=fun ρ k=>bw ρ fun x=>∃c,x=.bl c/\k c
def Ar(u:c5):c5:=fun ρ k=>u ρ fun c=>k (!c)
def ol(u w:c5):c5:=fun ρ k=>u ρ fun c=>if c=true then w ρ k else k false
def As(u w:c5):c5:=fun ρ k=>u ρ fun c=>if c=true then k true else w ρ k
theorem m4{ta:bN}{bw:bb}(ax:dR K ta bw):gx K (zo ta) (hF bw):=by
 intro ρ k h R W B H σ Q e q;refine ax ρ _ h R W B H σ _ e fun x v a7 aw aa ag aO av=>?_;obtain⟨c,rfl,ah⟩:=aa;exact⟨c,av.blV,q c a7 aw ah ag aO⟩
theorem hR{e:WP}{u:bb}(h:bn X e u)(au:∀ho,Yb e X.env ho=(do let v <-ho;X6 e.pos;XO [v] (YL v)):=by intro _;rfl):gj X e (hF u):=by
 obtain⟨_,aa,av⟩:=h;exact⟨_,GV aa au,m4 av⟩
theorem eB{dD:CmpOp}{f:Int->Int->Bool}(aA:Aq dD f X)(ax:bn X a bw)(ae:bn X b bA)(aB:WT dD b=false):gj X (.Compare a [dD] [b] pos) (hF (iO (fun i j=>.bl (f i j)) bw bA)):=by
 obtain⟨_,aa,av⟩:=ax;obtain⟨_,ab,aK⟩:=ae;exact⟨_,lV aA aa ab aB,m4 (rJ (fun _ _ _=>.bl _) av aK)⟩
theorem Ju{t:dC}{u:c5}(h:gx K t u):gx K (zr t) (Ar u):=fun ρ k z R W B H σ Q e q=>h ρ _ z R W B H σ _ e fun b aF af aa ag aO=>q (!b) aF af aa ag aO
theorem Jv{t t':dC}{u eS:c5}(h:gx K t u)(h':gx K t' eS):gx K (zp t t') (ol u eS):=by
 intro ρ k z R W B H σ Q e q;refine h ρ _ z R W B H σ _ e fun b a7 aw aa ag aO=>?_;cases b with
 | true =>
  rw[TI rfl]at aa ⊢;exact h' ρ _ aa R W a7 aw σ _ ag fun c cj aV ab ao aT=>q c cj aV ab ao (aO.trans aT)
 | false =>
  rw[TT SP]at aa ⊢;exact q false a7 aw aa ag aO
theorem Jw{t t':dC}{u eS:c5}(h:gx K t u)(h':gx K t' eS):gx K (zq t t') (As u eS):=by
 intro ρ k z R W B H σ Q e q;refine h ρ _ z R W B H σ _ e fun b a7 aw aa ag aO=>?_;cases b with
 | false =>
  rw[TT SP]at aa ⊢;exact h' ρ _ aa R W a7 aw σ _ ag fun c cj aV ab ao aT=>q c cj aV ab ao (aO.trans aT)
 | true =>
  rw[TI rfl]at aa ⊢;exact q true a7 aw aa ag aO
theorem jK{u:c5}(h:gj X a u):gj X (.UnaryOp .Not a pos) (Ar u):=by
 obtain⟨_,aa,av⟩:=h;exact⟨_,G0 aa,Ju av⟩
theorem rK{u:c5}(h:gj X a u):m1 X (.BoolOp .And [a] pos) u:=by
 obtain⟨_,aa,av⟩:=h;exact⟨_,GW aa,av⟩
theorem m5{u:c5}(h:gj X a u):m1 X (.BoolOp .Or [a] pos) u:=by
 obtain⟨_,aa,av⟩:=h;exact⟨_,GX aa,av⟩
theorem w_and{rest:List WP}{u eS:c5}(h:gj X a u)(h':m1 X (.BoolOp .And (b::rest) pos) eS):m1 X (.BoolOp .And (a::b::rest) pos) (ol u eS):=by
 obtain⟨_,aa,av⟩:=h;obtain⟨_,ab,aK⟩:=h';exact⟨_,GY aa ab,Jv av aK⟩
theorem w_or{rest:List WP}{u eS:c5}(h:gj X a u)(h':m1 X (.BoolOp .Or (b::rest) pos) eS):m1 X (.BoolOp .Or (a::b::rest) pos) (As u eS):=by
 obtain⟨_,aa,av⟩:=h;obtain⟨_,ab,aK⟩:=h';exact⟨_,GZ aa ab,Jw av aK⟩
theorem jL{u:c5}(h:m1 X a u):gj X a u:=by
 obtain⟨_,aa,av⟩:=h;exact⟨_,aa.pt,av⟩
def Jx(u w:bb):bb:=fun ρ k=>u ρ fun x=>∃c,x=.bl c/\if c=true then w ρ k else k (.bl false)
theorem At{dD:BoolOp}(h:bn X a bw):bn X (.BoolOp dD [a] pos) bw:=by
 obtain⟨_,aa,av⟩:=h;exact⟨_,G2 aa,av⟩
theorem Au{rest:List WP}(h:bn X a bw)(h':bn X (.BoolOp .And (b::rest) pos) bA):bn X (.BoolOp .And (a::b::rest) pos) (Jx bw bA):=by
 obtain⟨_,aa,av⟩:=h;obtain⟨_,ab,aK⟩:=h';refine⟨_,G3 aa ab,fun ρ k z R W B H σ Q e q=>?_⟩;refine av ρ _ z R W B H σ _ e fun x v a7 aw aP ag aO aE=>?_;obtain⟨c,rfl,aP⟩:=aP;refine⟨c,aE.blV,?_⟩;cases c with
 | true =>
  rw[TI rfl]at aP ⊢;exact aK ρ _ aP R W a7 aw σ _ ag fun d w cj aV ab ao aT a4=>q d w cj aV ab ao (aO.trans aT) a4
 | false =>
  rw[TT SP]at aP ⊢;exact q _ _ a7 aw aP ag aO (.bl _)
def Jy(c:c5)(u w:bb):bb:=fun ρ k=>c ρ fun b=>if b=true then u ρ k else w ρ k
theorem Av{c:WP}{jM:c5}(hc:gj X c jM)(ax:bn X a bw)(ae:bn X b bA):bn X (.IfExp c a b pos) (Jy jM bw bA):=by
 obtain⟨_,bY,ff⟩:=hc;obtain⟨_,aa,av⟩:=ax;obtain⟨_,ab,aK⟩:=ae;refine⟨_,G5 bY aa ab,fun ρ k z R W B H σ Q e q=>?_⟩;refine ff ρ _ z R W B H σ _ e fun c a7 aw aP ag aO=>?_;cases c with
 | true =>
  rw[TI rfl]at aP ⊢;exact av ρ _ aP R W a7 aw σ _ ag fun d w cj aV ab ao aT a4=>q d w cj aV ab ao (aO.trans aT) a4
 | false =>
  rw[TT SP]at aP ⊢;exact aK ρ _ aP R W a7 aw σ _ ag fun d w cj aV ab ao aT a4=>q d w cj aV ab ao (aO.trans aT) a4
def m6:dk:=fun _ k=>k []
def hS(u:bb)(w:dk):dk:=fun ρ k=>u ρ fun d=>w ρ fun ds=>k (d::ds)
variable{e:WP}{es:List WP}{u:bb}{w:dk}
theorem Jz:rG K vb m6:=fun ρ k h R W B H σ Q e q=>q [] [] B H h e (bJ.refl _ _) .nil
theorem JA{bI:bN}{t:eE}(aa:dR K bI u)(ab:rG K t w):rG K (vc bI t) (hS u w):=by
 intro ρ k h R W B H σ Q e q;refine aa ρ _ h R W B H σ _ e fun d v a7 aw aP ag aO av=>?_;refine ab ρ _ aP R W a7 aw σ _ ag fun ds vs cj aV bc ao aT aK=>?_;exact q _ _ cj aV bc ao (aO.trans aT) (.cons (av.mono aT.s) aK)
theorem db:oh X [] m6:=⟨_,fH,Jz⟩
theorem bt(ax:bn X e u)(am:oh X es w)(ak:Tk (e::es) X.env=(false,W7 e X.env)::Tk es X.env:=by rfl):oh X (e::es) (hS u w):=by
 obtain⟨_,aa,av⟩:=ax;obtain⟨_,ab,aK⟩:=am;exact⟨_,eJ aa ab ak,JA av aK⟩
def om(w:dk):bb:=fun ρ k=>w ρ fun ds=>ds.length<=SZ/\k (.tup ds)
theorem fg{gt}(h:oh X es w):bn X (.Tuple es gt pos) (om w):=by
 obtain⟨_,aa,av⟩:=h;refine⟨_,Ic aa,fun ρ k z R W B H σ Q e q=>?_⟩;refine av ρ _ z R W B H σ _ e fun ds vs a7 aw aP ag aO aE=>?_;refine⟨by rw[aE.length];exact aP.1,fun p aq=>?_⟩;have aT:=ag.grow aq (.tup vs);exact q _ _ _ _ aP.2 (ag.alloc aq _) (aO.trans aT) (.tup ei (aE.mono aT.s))
def JB(w:dk):dk:=fun ρ k=>w ρ fun ds=>ds.length<=SZ/\k ds
theorem fK(h:oh X es w):ib X (.List es pos) (JB w):=by
 obtain⟨_,aa,av⟩:=h;refine⟨_,zL aa,fun ρ k z R W B H σ Q e q=>?_⟩;refine av ρ _ z R W B H σ _ e fun ds vs a7 aw aP ag aO aE=>?_;refine⟨by rw[aE.length];exact aP.1,fun p aq=>?_⟩;obtain⟨bd,bH,bW⟩:=ag.toWd.fresh aq;exact q ds p vs a7 _ aP.2 (ag.allocH aq _) aO bd bW ei aE fun i m=>ag.notNew aq m rfl
def Aw(w:dk):bb:=fun ρ k=>w ρ fun ds=>k (.lst ds)
theorem JC{t:bN}(h:pB K t w):dR K t (Aw w):=by
 intro ρ k z R W B H σ Q e q;refine h ρ _ z R W B H σ _ e fun ds a vs a7 aw aP ag aO am ae dh fL aB=>?_;obtain⟨ao,aT⟩:=ag.freeze dh am ae aB;exact q _ _ _ _ aP ao (aO.trans aT) (.lst ei (fL.mono aT.s))
theorem dX(h:ib X e w):bn X e (Aw w):=by
 obtain⟨_,aa,av⟩:=h;exact⟨_,aa,JC av⟩
def pD(bw bA:bb):bb:=fun ρ k=>bw ρ fun x=>bA ρ fun y=>∃ds i d,(x=.tup ds∨x=.lst ds)/\y=.int i/\ea ds i=some d/\k d
theorem vL{B:ai}{vs:List V}{ds:List D}{i:Int}{d:D}(r:Reps K B vs ds)(h:ea ds i=some d):∃v,ea vs i=some v/\b3 K B v d:=by
 unfold ea at h ⊢;rw[r.length];cases q:ixN ds.length i with
 | none=>rw[q]at h;cases h
 | some j =>
  rw[q]at h;exact r.get h
theorem bg(ax:bn X a bw)(ae:bn X b bA)(ak:vi b):bn X (.Subscript a b pos) (pD bw bA):=by
 obtain⟨_,aa,av⟩:=ax;obtain⟨_,ab,aK⟩:=ae;refine⟨_,lZ mZ aa ab ak,m3 av aK fun x y k h R W B H σ ρ v kf Q e ba cm q=>?_⟩;obtain⟨ds,i,d,aj,rfl,ax,ah⟩:=h;rcases aj with rfl|rfl
 ·obtain⟨p,vs,rfl,aq,fL⟩:=ba.tupV;obtain⟨z,hz,oo⟩:=vL fL ax;exact⟨p,vs,i,z,rfl,cm.intV,.inl (e.bh _ _ aq),hz,q d z B H ah e (bJ.refl _ _) oo⟩
 ·obtain⟨p,vs,rfl,aq,fL⟩:=ba.lstV;obtain⟨z,hz,oo⟩:=vL fL ax;exact⟨p,vs,i,z,rfl,cm.intV,.inr (e.bh _ _ aq),hz,q d z B H ah e (bJ.refl _ _) oo⟩
def Ax(n:Nat)(bA:bb):bb:=fun ρ k=>∃ds:List D,ρ[n]?=some (.own ds)/\bA ρ fun y=>∃i d,y=.int i/\ea ds i=some d/\k d
theorem JD(n:Nat){x:Str}{dy:Pos}(ae:bn X b bA)(ak:vi b)(cd:X.N[n]?=some x:=by rfl)(a':iF X.env.scope x:=by first|exact Ss rfl|exact SF (Ss rfl)|exact SF (SF rfl))(hd:(x==("__debug__":Str))=false:=by decide)(eo:(x==("__classdict__":Str))=false:=by decide):bn X (.Subscript (.Name x dy) b pos) (Ax n bA):=by
 obtain⟨_,ab,aK⟩:=ae;refine⟨_,lZ mZ (ki cd a' hd eo) ab ak,fun ρ k z R W B H σ Q e q=>?_⟩;obtain⟨ds,aA,z⟩:=z;obtain⟨p,vs,ag,ao,be,ci,eL⟩:=e.ownAt aA;refine⟨_,ag,?_⟩;refine aK ρ _ z R W B H σ _ e fun y v a7 aw aP bd aO aE=>?_;obtain⟨i,d,rfl,ax,ah⟩:=aP;obtain⟨kj,m7,Ay,bH,bW,c0,dM⟩:=bd.ownAt aA;rw[ag]at Ay;cases Ay;obtain⟨z,hz,oo⟩:=vL dM ax;exact⟨p,m7,i,z,rfl,aE.intV,.inr c0,hz,q d z a7 aw ah bd aO oo⟩
end
abbrev cw:=List aI->(aI->Prop)->Prop
def ky:List aI->Nat
 | []=>0
 | .bag::r=>ky r+1
 | _::r=>ky r
inductive jf (K:Su) (W:Tl->Prop) (B:ai):List V->List aI->Prop where
 | nil:jf K W B [] []
 | val {v:V} {d:D} {vs:List V} {as:List aI} (h:b3 K B v d) (r:jf K W B vs as):jf K W B (v::vs) (.val d::as)
 | bag {b:Tl} {vs:List V} {as:List aI} (h:W b) (r:jf K W B vs as):jf K W B (.ref b::vs) (.bag::as)
structure JE (K:Su) (W:Tl->Prop) (B H:ai) (v:V) (r:aI) (aF af:ai):Prop where
 wd:Wd H W aF af
 g:bJ H B aF
 res:vH K H aF af v r
def a0(K:Su)(n:Nat)(F:cw):g7:=fun vs H Q _=>∃(W:Tl->Prop)(B:ai)(as:List aI)(k:aI->Prop),F as k/\as.length=n/\Nat.ble (ky as) 1=true/\cG B H/\(∀a,W a->B a=none/\fw H a)/\jf K W B vs as /\
 ∀r v aF af,k r->JE K W B H v r aF af->Q v af
section
variable{K:Su}{R:ai}{W:Tl->Prop}{B aF H af:ai}{σ:St}{ρ:List aI}
theorem jf.length:∀{vs:List V}{as:List aI},jf K W B vs as->vs.length=as.length
 | _,_,.nil=>rfl
 | _,_,.val _ r=>by rw[SO,SO,r.length]
 | _,_,.bag _ r=>by rw[SO,SO,r.length]
theorem jf.get:∀{vs:List V}{as:List aI},jf K W B vs as->∀(i:Nat)(k:aI),as[i]?=some k->(∃v d,vs[i]?=some v/\k=.val d/\b3 K B v d)∨(∃b,vs[i]?=some (.ref b)/\k=.bag/\W b)
 | _,_,.nil,i,k,e=>by simp at e
 | _,_,.val h r,0,k,e=>by simp at e;subst e;exact .inl ⟨_,_,rfl,rfl,h⟩
 | _,_,.val h r,i+1,k,e=>by simpa using r.get i k (by simpa using e)
 | _,_,.bag h r,0,k,e=>by simp at e;subst e;exact .inr ⟨_,rfl,rfl,h⟩
 | _,_,.bag h r,i+1,k,e=>by simpa using r.get i k (by simpa using e)
theorem l8:∀{as:List aI}{i:Nat},ky as=0->as[i]?≠some .bag
 | [],i,_=>by simp
 | .bag::r,i,h=>by simp[ky]at h
 | .no::r,0,h=>by simp
 | .no::r,i+1,h=>by simpa using l8 (as:=r) (i:=i) h
 | .val d::r,0,h=>by simp
 | .val d::r,i+1,h=>by simpa using l8 (as:=r) (i:=i) h
 | .new d::r,0,h=>by simp
 | .new d::r,i+1,h=>by simpa using l8 (as:=r) (i:=i) h
 | .pin v d::r,0,h=>by simp
 | .pin v d::r,i+1,h=>by simpa using l8 (as:=r) (i:=i) h
 | .own d::r,0,h=>by simp
 | .own d::r,i+1,h=>by simpa using l8 (as:=r) (i:=i) h
 | .deep d::r,0,h=>by simp
 | .deep d::r,i+1,h=>by simpa using l8 (as:=r) (i:=i) h
theorem m8:∀{as:List aI}{i j:Nat},ky as<=1->as[i]?=some .bag->as[j]?=some .bag->i=j
 | [],i,j,_,e,_=>by simp at e
 | .bag::r,0,0,_,_,_=>rfl
 | .bag::r,0,j+1,h,_,e=>absurd (by simpa using e) (l8 (as:=r) (i:=j) (by simp[ky]at h;exact h))
 | .bag::r,i+1,_,h,e,_=>absurd (by simpa using e) (l8 (as:=r) (i:=i) (by simp[ky]at h;exact h))
 | .no::r,0,_,_,e,_=>by simp at e
 | .no::r,i+1,0,_,_,e=>by simp at e
 | .no::r,i+1,j+1,h,e,bq=>by rw[m8 (as:=r) (i:=i) (j:=j) h (by simpa using e) (by simpa using bq)]
 | .val d::r,0,_,_,e,_=>by simp at e
 | .val d::r,i+1,0,_,_,e=>by simp at e
 | .val d::r,i+1,j+1,h,e,bq=>by rw[m8 (as:=r) (i:=i) (j:=j) h (by simpa using e) (by simpa using bq)]
 | .new d::r,0,_,_,e,_=>by simp at e
 | .new d::r,i+1,0,_,_,e=>by simp at e
 | .new d::r,i+1,j+1,h,e,bq=>by rw[m8 (as:=r) (i:=i) (j:=j) h (by simpa using e) (by simpa using bq)]
 | .pin v d::r,0,_,_,e,_=>by simp at e
 | .pin v d::r,i+1,0,_,_,e=>by simp at e
 | .pin v d::r,i+1,j+1,h,e,bq=>by rw[m8 (as:=r) (i:=i) (j:=j) h (by simpa using e) (by simpa using bq)]
 | .own d::r,0,_,_,e,_=>by simp at e
 | .own d::r,i+1,0,_,_,e=>by simp at e
 | .own d::r,i+1,j+1,h,e,bq=>by rw[m8 (as:=r) (i:=i) (j:=j) h (by simpa using e) (by simpa using bq)]
 | .deep d::r,0,_,_,e,_=>by simp at e
 | .deep d::r,i+1,0,_,_,e=>by simp at e
 | .deep d::r,i+1,j+1,h,e,bq=>by rw[m8 (as:=r) (i:=i) (j:=j) h (by simpa using e) (by simpa using bq)]
theorem aX.after{hT:Tl->Prop}(e:aX K R W B H σ ρ)(e6:∀a,hT a->∃i:Nat,σ[i]?=some (some (.ref a))/\ρ[i]?=some .bag)(wd:Wd H hT aF af)(g:bJ H B aF):aX K R W aF af σ ρ/\bJ R B aF:=by
 have ic:∀a,B a=none->H a≠none->aF a=none:=fun a aa ab=>by
  cases q:aF a with
  | none=>rfl
  | some o =>
   rcases g.n a o q with z|z
   ·rw[aa]at z;cases z
   ·exact absurd z ab
 have st:∀a,¬hT a->H a≠none->af a=H a:=fun a aa ab=>by
  cases q:H a with
  | none=>exact absurd q ab
  | some o=>exact wd.fr a o q aa
 have pE:∀a,fw H a->fw af a:=fun a h=>by
  by_cases z:hT a
  ·exact wd.wh a z
  ·obtain⟨x,y,ag,q⟩:=h;exact⟨x,y,by rw[st a z (by rw[ag];simp)];exact ag,q⟩
 have vM:∀a,fw H a->H a≠none:=fun a ⟨x,y,ag,_⟩=>by rw[ag];simp
 refine⟨e.move ⟨fun a o h nw=>?_,wd.bh,fun a h=>ic a (e.wb a h) (vM a (e.wh a h)),fun a h=>pE a (e.wh a h),e.wr⟩ g.s (fun i a m=>⟨ic a (e.mutOk m).1 (e.mutOk m).2,fun z=>?_,fun z=>?_⟩),⟨g.s,fun a o h=>?_⟩⟩
 ·have aa:=e.fr a o h nw;refine wd.fr a o aa fun z=>?_;obtain⟨i,aP,bc⟩:=e6 a z;obtain⟨b,dN,fZ,_⟩:=e.bagAt bc;rw[aP]at dN;cases dN;rcases fZ with fZ|fZ
  ·exact nw fZ
  ·rw[fZ]at h;cases h
 ·obtain⟨b,dN,_,_,vN⟩:=e.bagAt z;rw[oe m z]at dN;cases dN;exact pE _ vN
 ·refine st a (fun q=>?_) (e.mutOk m).2;obtain⟨j,aP,bc⟩:=e6 a q;have:=e.sep i j a m (.inl ⟨aP,.inl bc⟩);subst this;exact z bc
 ·rcases g.n a o h with z|z
  ·exact .inl z
  ·exact .inr (e.toWd.fresh z).1
theorem aX.start{N:List Str}{vs:List V}{as:List aI}(ae:ky as<=1)(dL:cG B H)(hw:∀a,W a->B a=none/\fw H a)(el:jf K W B vs as):aX K H W B H (L2.start N vs) (as++SQ (N.length-as.length) .no):=by
 have ay:=el.length;have wd:Wd H W B H:=⟨fun _ _ h _=>h,dL,fun a h=>(hw a h).1,fun a h=>(hw a h).2,fun a h=>by obtain⟨x,y,q,_⟩:=(hw a h).2;rw[q];simp⟩
 have lo:∀i k,as[i]?=some k->(L2.start N vs)[i]?=(vs[i]?).map some:=fun i k h=>by
  have lt:i<as.length:=by
   by_cases z:i<as.length
   ·exact z
   ·rw[TF (by lia)]at h;cases h
  unfold L2.start;rw[TK (by rw[Sz];lia),S7]
 have cs:∀(i:Nat)(k:aI),(as++SQ (N.length-as.length) aI.no)[i]?=some k->as[i]?=some k∨k=aI.no:=fun i k h=>by
  by_cases z:i<as.length
  ·rw[TK z]at h;exact .inl h
  ·rw[Ts (by lia)]at h;rw[T4]at h;split at h
   ·exact .inr (SM h).symm
   ·cases h
 have jN:∀i:Nat,(as++SQ (N.length-as.length) aI.no)[i]?=some aI.bag->as[i]?=some aI.bag:=fun i h=>by
  rcases cs i _ h with h|h
  ·exact h
  ·cases h
 refine⟨wd,by unfold L2.start;simp[ay],fun i k h=>?_,fun i j a bF bS=>?_⟩
 ·rcases cs i k h with h|rfl
  ·rw[lo i k h];rcases el.get i k h with⟨v,d,aa,rfl,r⟩|⟨b,aa,rfl,r⟩
   ·rw[aa];exact⟨v,rfl,r⟩
   ·rw[aa];exact⟨b,rfl,.inl r,(hw b r).1,(hw b r).2⟩
  ·trivial
 ·have one:∀i,cX (L2.start N vs) (as++SQ (N.length-as.length) aI.no) i a->as[i]?=some .bag:=fun i m=>by
   rcases m with⟨_,z|⟨ds,z⟩⟩|⟨c,z,_⟩
   ·exact jN i z
   ·rcases cs i _ z with z|z
    ·rcases el.get i _ z with⟨v,d,_,q,_⟩|⟨b,_,q,_⟩<;>cases q
    ·cases z
   ·rcases cs i _ z with z|z
    ·rcases el.get i _ z with⟨v,d,_,q,_⟩|⟨b,_,q,_⟩<;>cases q
    ·cases z
  exact m8 ae (one i bF) (one j bS)
theorem dE{P:WF}{w:WU}{mg:Str->Option SC}{base:WY}{x:Str}{st:W0}{N ps:List Str}{lv n:Nat}{F:cw}(pF:cW K mg x st ps)(S:cL N ps (b8 st))(aH:ps.length=n)(gu:∀(f:Tl) (cdv:SC) (A:WV) (outer:List Tv) (s:SL) (H:ai) (E:fF),eF lv (A.deeper (Vz x (b8 st) s.heap.objs.size f cdv))->∃u,hD (jD iK P w K mg base N x (b8 st) f cdv A outer s H E).nox (iJ st) u/\∀as k,as.length=n->F as k->u { nx:=fun _=>k (.val .non),rt:=k } (as++SQ (N.length-n) .no)):aZ P w K mg base x ps (lv+1) (a0 K n F):=by
 refine pF.ok S (fun vs H Q E h=>?_) (fun f cdv A outer s H vs Q E am h=>?_)
 ·obtain⟨W,B,as,k,_,ay,_,_,_,el,_⟩:=h;rw[el.length,ay,aH]
 ·obtain⟨W,B,as,k,dA,ay,ae,dL,hw,el,q⟩:=h;obtain⟨u,⟨t,aR,rt⟩,bM⟩:=gu f cdv A outer s H E am;have ev:=aX.start (N:=N) (VA ae) dL hw el;rw[ay]at ev;refine⟨t,aR,rt _ _ (bM as k ay dA) H W B H (L2.start N vs) _ ev ⟨fun ρ σ aF af h e g=>?_,fun _ _ _ _ h=>h.elim,fun _ _ _ _ h=>h.elim,fun r v aF af h e g z=>q r v aF af h ⟨e,g,z⟩⟩⟩;exact q _ _ aF af h ⟨e.toWd,g,.non⟩
end
def Arg.sl:Arg->aI
 | .val d=>.val d
 | .bag _=>.bag
def c8:aI->(D->Prop)->Prop
 | .val d,k=>k d
 | .own (.l ds),k=>k (.lst ds)
 | .new d,k=>k d
 | _,_=>False
def JF:je:=fun _ k=>k []
def JG(u:bb)(w:je):je:=fun ρ k=>u ρ fun d=>w ρ fun as=>k (.val d::as)
def JH(i:Nat)(w:je):je:=fun ρ k=>ρ[i]?=some .bag/\w ρ fun as=>k (.bag i::as)
def sh(as:List Arg)(n:Nat):Bool:=Nat.beq as.length n&&Nat.ble (ky (as.map Arg.sl)) 1
def JI(n:Nat)(F:cw)(w:je):bb:=fun ρ k=>w ρ fun as=>sh as n=true/\F (as.map Arg.sl) fun r=>c8 r k
def JJ(n:Nat)(F:cw)(w:je):dk:=fun ρ k=>w ρ fun as=>sh as n=true/\F (as.map Arg.sl) fun r=>∃ds:List D,r=.own ds/\k ds
section
variable{K:Su}{X:aU}{e:WP}{es:List WP}{u:bb}{w:je}{pos p:Pos}{n:Nat}{F:cw}
theorem bD:l7 X [] JF:=⟨_,fH,fun ρ k h R W B H σ Q e q=>q [] [] B H h e (bJ.refl _ _) .nil⟩
theorem aS(ax:bn X e u)(am:l7 X es w)(ak:Tk (e::es) X.env=(false,W7 e X.env)::Tk es X.env:=by rfl):l7 X (e::es) (JG u w):=by
 obtain⟨_,aa,av⟩:=ax;obtain⟨_,ab,aK⟩:=am;refine⟨_,eJ aa ab ak,fun ρ k h R W B H σ Q e q=>?_⟩;refine av ρ _ h R W B H σ _ e fun d v a7 aw aP ag aO aE=>?_;refine aK ρ _ aP R W a7 aw σ _ ag fun as vs cj aV bc ao aT a4=>?_;exact q _ _ cj aV bc ao (aO.trans aT) (.val (aE.mono aT.s) a4)
theorem f0(i:Nat){x:Str}{dy:Pos}(am:l7 X es w)(cd:X.N[i]?=some x:=by rfl)(a':iF X.env.scope x:=by first|exact Ss rfl|exact SF (Ss rfl)|exact SF (SF rfl))(hd:(x==("__debug__":Str))=false:=by decide)(eo:(x==("__classdict__":Str))=false:=by decide)(ak:Tk (.Name x dy::es) X.env=(false,W7 (.Name x dy) X.env)::Tk es X.env:=by rfl):l7 X (.Name x dy::es) (JH i w):=by
 obtain⟨_,ab,aK⟩:=am;refine⟨_,eJ (ki cd a' hd eo) ab ak,fun ρ k h R W B H σ Q e q=>?_⟩;obtain⟨ae,h⟩:=h;obtain⟨b,dw,d4⟩:=e.bagAt ae;refine⟨_,dw,?_⟩;refine aK ρ _ h R W B H σ _ e fun as vs cj aV bc ao aT a4=>?_;exact q _ _ cj aV bc ao aT (.bag dw ae a4)
theorem iM.toIn{B:ai}{σ:St}{ρ:List aI}{W:Tl->Prop}{R H:ai}{JK:Tl->Prop}(e:aX K R JK B H σ ρ):∀{vs:List V}{as:List Arg},iM K B σ ρ vs as->(∀i b,Arg.bag i∈as->σ[i]?=some (some (.ref b))->W b)->jf K W B vs (as.map Arg.sl)
 | _,_,.nil,_=>.nil
 | _,_,.val h r,hw=>.val h (iM.toIn e r fun i b m=>hw i b (Sw _ m))
 | _,_,.bag h ae r,hw=>by
  obtain⟨b,dw,_⟩:=e.bagAt ae;rw[h]at dw;cases dw;exact .bag (hw _ b Sv h) (iM.toIn e r fun i c m=>hw i c (Sw _ m))
theorem iM.bagIn{B:ai}{σ:St}{ρ:List aI}:∀{vs:List V}{as:List Arg}{i:Nat},iM K B σ ρ vs as->Arg.bag i∈as->ρ[i]?=some .bag
 | _,_,_,.nil,m=>by simp at m
 | _,_,_,.val h r,m=>by
  rcases Sy.mp m with m|m
  ·cases m
  ·exact r.bagIn m
 | _,_,_,.bag h ae r,m=>by
  rcases Sy.mp m with m|m
  ·cases m;exact ae
  ·exact r.bagIn m
theorem vO{R:ai}{W:Tl->Prop}{B H:ai}{σ:St}{ρ:List aI}{vs:List V}{as:List Arg}{k:aI->Prop}{Q:cc}{E:fF}(e:aX K R W B H σ ρ)(ok:iM K B σ ρ vs as)(ak:sh as n=true)(dA:F (as.map Arg.sl) k)(q:∀r v aF af,k r->aX K R W aF af σ ρ->bJ R B aF->vH K H aF af v r->Q v af):a0 K n F vs H Q E:=by
 rw[sh,Tu]at ak;have aa:as.length=n:=Nat.eq_of_beq_eq_true ak.1;have e6:∀a,(∃i:Nat,Arg.bag i∈as/\σ[i]?=some (some (.ref a)))->∃i:Nat,σ[i]?=some (some (.ref a))/\ρ[i]?=some .bag:=fun a ⟨i,m,z⟩=>⟨i,z,ok.bagIn m⟩;refine⟨fun a=>∃i:Nat,Arg.bag i∈as/\σ[i]?=some (some (.ref a)),B,as.map Arg.sl,k,dA,by rw[Sz];exact aa,ak.2,e.bh,fun a h=>?_,ok.toIn e fun i b m z=>⟨i,m,z⟩,fun r v aF af ah ex=>?_⟩
 ·obtain⟨i,aP,bc⟩:=e6 a h;obtain⟨b,dw,_,jO,op⟩:=e.bagAt bc;rw[aP]at dw;cases dw;exact⟨jO,op⟩
 ·obtain⟨ao,aT⟩:=e.after e6 ex.wd ex.g;exact q r v aF af ah ao aT ex.res
theorem bK{x:Str}{ps:List Str}{j lv:Nat}(c:aZ X.prog X.w X.K X.mg X.base x ps j (a0 X.K n F))(am:eF lv X.A)(aD:ep X x)(ax:l7 X (e::es) w)(h9:j<=lv:=by decide)(hO:(x==("__debug__":Str))=false:=by decide)(au:Tk (e::es) X.env=(false,W7 e X.env)::Tk es X.env:=by rfl)(dV:(W1 pos (Tk es X.env)).any (·.1)=false:=by rfl):
  bn X (.Call (.Name x p) (e::es) [] pos) (JI n F w):=by
 obtain⟨_,aa,av⟩:=ax;refine⟨_,rA c am aD aa h9 hO au dV,fun ρ k h R W B H σ Q e q=>?_⟩;refine av ρ _ h R W B H σ _ e fun as vs a7 aw aP ag aO aE=>?_;rw[SG];refine vO ag aE aP.1 aP.2 fun r v cj aV ah ao aT res=>?_;cases r with
 | no=>exact ah.elim
 | bag=>exact ah.elim
 | pin v d=>exact ah.elim
 | deep c=>exact ah.elim
 | val d=>exact q d v cj aV ah ao (aO.trans aT) res
 | new d=>exact q d v cj aV ah ao (aO.trans aT) (b3.mono Ap res)
 | own c =>
  cases c with
  | d _ _ _ _=>exact ah.elim
  | l ds =>
  obtain⟨a,rfl,bd,bH,aG,bW,c0⟩:=res
  obtain⟨be,g3⟩:=ao.freeze bW (ag.toWd.fresh bd).1 bH fun i m=>absurd bd (by
   have bF:cX σ ρ i a:=m
   exact(ag.mutOk bF).2)
  exact q _ _ _ _ ah be ((aO.trans aT).trans g3) (.lst ei (c0.mono g3.s))
theorem Az{x:Str}{ps:List Str}{j lv:Nat}(c:aZ X.prog X.w X.K X.mg X.base x ps j (a0 X.K n F))(am:eF lv X.A)(aD:ep X x)(ax:l7 X (e::es) w)(h9:j<=lv:=by decide)(hO:(x==("__debug__":Str))=false:=by decide)(au:Tk (e::es) X.env=(false,W7 e X.env)::Tk es X.env:=by rfl)(dV:(W1 pos (Tk es X.env)).any (·.1)=false:=by rfl):
  ib X (.Call (.Name x p) (e::es) [] pos) (JJ n F w):=by
 obtain⟨_,aa,av⟩:=ax;refine⟨_,rA c am aD aa h9 hO au dV,fun ρ k h R W B H σ Q e q=>?_⟩;refine av ρ _ h R W B H σ _ e fun as vs a7 aw aP ag aO aE=>?_;rw[SG];refine vO ag aE aP.1 aP.2 fun r v cj aV ah ao aT res=>?_;obtain⟨ds,rfl,ah⟩:=ah;obtain⟨a,rfl,bd,bH,aG,bW,c0⟩:=res;exact q ds a aG cj aV ah ao (aO.trans aT) (ag.toWd.fresh bd).1 bH bW c0 fun i m=>(ag.mutOk m).2 bd
end
def AA:D->Option Nat
 | .tup ds=>some ds.length
 | .lst ds=>some ds.length
 | .scr ns=>some ns.length
 | _=>none
def JL(u:bb):bb:=fun ρ k=>u ρ fun x=>∃n,AA x=some n/\k (.int n)
def JM(u:bb):bb:=fun ρ k=>u ρ fun x=>∃i,x=.int i/\k (.int (if i<0 then -i else i))
def JN(u:bb):bb:=fun ρ k=>u ρ fun x=>(∃i,x=.int i/\k (.int i))∨∃c,x=.bl c/\k (.int (if c then 1 else 0))
def AB:D->Option String
 | .int _=>some "int"
 | .bl _=>some "bool"
 | .tup _=>some "tuple"
 | .lst _=>some "list"
 | .non=>some "NoneType"
 | .str _=>some "str"
 | _=>none
def JO(u:bb)(n:String):bb:=fun ρ k=>u ρ fun x=>∃t b,AB x=some t/\(∀K,Vn K (.type t) (.type n)=some b)/\k (.bl b)
section
variable{K:Su}{X:aU}{e:WP}{es:List WP}{u:bb}{pos p:Pos}{n:Nat}
theorem oq{bI:bN}{r:List V->ai->cc->Prop}{f:D->(D->Prop)->Prop}(ax:dR K bI u)(am:∀(x:D) (k:D->Prop),f x k->∀(R:ai) (W:Tl->Prop) (B H:ai) (σ:St) (ρ:List aI) (v:V) (Q:cc),aX K R W B H σ ρ->b3 K B v x->(∀d v aF af,k d->aX K R W aF af σ ρ->bJ R B aF->b3 K aF v d->Q v af)->r [v] H Q):
  dR K (vf r (vc bI vb)) (fun ρ k=>u ρ fun x=>f x k):=by
 intro ρ k h R W B H σ Q e q;refine ax ρ _ h R W B H σ _ e fun x v a7 aw aa ag aO av=>?_;exact am x k aa R W a7 aw σ ρ v Q ag av fun d u k5 ca aQ be g3 d8=>q d u k5 ca aQ be (aO.trans g3) d8
theorem ie(ax:bn X e u)(aD:ep X "len")(aB:X.mg "len"=none)(ak:Tk [e] X.env=(false,W7 e X.env)::Tk [] X.env:=by rfl):bn X (.Call (.Name "len" p) [e] [] pos) (JL u):=by
 obtain⟨_,aa,av⟩:=ax;refine⟨_,mP z4 aD aB PySem.boot_len (eJ aa fH ak) (by decide) (by decide) ak,oq (f:=fun x k=>∃n,AA x=some n/\k (.int n)) av fun x k h R W B H σ ρ v Q e ba q=>?_⟩;obtain⟨n,aH,ah⟩:=h;cases x<;>first|(cases aH;done)|skip
 ·obtain⟨a,vs,rfl,ax,r⟩:=ba.tupV;cases aH;rw[<-r.length]at ah;exact⟨a,vs,rfl,.inr (eA.of (e.bh _ _ ax)),q _ _ B H ah e (bJ.refl _ _) (.int _)⟩
 ·obtain⟨a,vs,rfl,ax,r⟩:=ba.lstV;cases aH;rw[<-r.length]at ah;exact⟨a,vs,rfl,.inl (cl.of (e.bh _ _ ax)),q _ _ B H ah e (bJ.refl _ _) (.int _)⟩
 ·obtain⟨a,rfl,ax⟩:=ba.scrV;cases aH;refine⟨a,_,rfl,.inl (e.bh.seq ax),?_⟩;rw[Sz];exact q _ _ B H ah e (bJ.refl _ _) (.int _)
theorem rL(ax:bn X e u)(aD:ep X "abs")(aB:X.mg "abs"=none)(ak:Tk [e] X.env=(false,W7 e X.env)::Tk [] X.env:=by rfl):bn X (.Call (.Name "abs" p) [e] [] pos) (JM u):=by
 obtain⟨_,aa,av⟩:=ax;refine⟨_,mP H6 aD aB (by decide +kernel) (eJ aa fH ak) (by decide) (by decide) ak,oq (f:=fun x k=>∃i,x=.int i/\k (.int (if i<0 then -i else i))) av fun x k h R W B H σ ρ v Q e ba q=>?_⟩;obtain⟨i,rfl,ah⟩:=h;exact⟨i,by rw[ba.intV],q _ _ B H ah e (bJ.refl _ _) (.int _)⟩
theorem vP(ax:bn X e u)(aD:ep X "int")(aB:X.mg "int"=none)(ak:Tk [e] X.env=(false,W7 e X.env)::Tk [] X.env:=by rfl):bn X (.Call (.Name "int" p) [e] [] pos) (JN u):=by
 obtain⟨_,aa,av⟩:=ax;refine⟨_,vg zJ aD aB (by decide +kernel) (eJ aa fH ak) (by decide) (by decide) ak,oq (f:=fun x k=>(∃i,x=.int i/\k (.int i))∨∃c,x=.bl c/\k (.int (if c then 1 else 0))) av fun x k h R W B H σ ρ v Q e ba q=>?_⟩;rcases h with⟨i,rfl,ah⟩|⟨c,rfl,ah⟩
 ·exact .inl ⟨i,by rw[ba.intV],q _ _ B H ah e (bJ.refl _ _) (.int _)⟩
 ·exact .inr ⟨c,by rw[ba.blV],q _ _ B H ah e (bJ.refl _ _) (.int _)⟩
theorem JP{B H:ai}{v:V}{x:D}{t:String}(s:cG B H)(r:b3 K B v x)(h:AB x=some t):h7 K H v (.type t):=by
 cases r<;>cases h
 ·exact .non
 ·exact .bl _
 ·exact .int _
 ·exact .str _
 ·exact .tup (s _ _ (by assumption))
 ·exact .lst (s _ _ (by assumption))
theorem m9{T:String}{y:Str}{m':Pos}(ax:bn X e u)(aD:ep X "isinstance")(aB:X.mg "isinstance"=none)(eK:b5 X (.Name y m') (n2 (.ty T)))(ak:Tk [e,.Name y m'] X.env=(false,W7 e X.env)::Tk [.Name y m'] X.env)(vQ:Tk [.Name y m'] X.env=(false,W7 (.Name y m') X.env)::Tk [] X.env)(dV:(W1 pos (Tk [.Name y m'] X.env)).any (·.1)=false):bn X (.Call (.Name "isinstance" p) [e,.Name y m'] [] pos) (JO u T):=by
 obtain⟨_,aa,av⟩:=ax;refine⟨_,mP Jg aD aB (by decide +kernel) (eJ aa (eJ eK fH vQ) ak) (by decide) (by decide) ak dV,fun ρ k h R W B H σ Q e q=>?_⟩;refine av ρ _ h R W B H σ _ e fun x v a7 aw aa ag aO aE=>?_;obtain⟨t,b,aR,ah,z⟩:=aa;exact⟨v,_,T,b,rfl,JP ag.bh aE aR,ah _,q _ _ a7 aw z ag aO (.bl _)⟩
end
section
variable{K:Su}{X:aU}{e:WP}{es:List WP}{u:bb}{w:dk}{pos p:Pos}
def pG:cM:=fun U ρ=>U.nx ρ
def k6(s t:cM):cM:=fun U ρ=>s { U with nx:=t U } ρ
def JQ:cM:=fun U ρ=>U.bk ρ
def JR:cM:=fun U ρ=>U.ct ρ
def AC(u:bb):cM:=fun U ρ=>u ρ fun d=>U.rt (.val d)
def JS(w:dk):cM:=fun U ρ=>w ρ fun ds=>U.rt (.own ds)
def JT(i:Nat):cM:=fun U ρ=>∃ds,ρ[i]?=some (.own ds)/\U.rt (.own ds)
def JU(i:Nat)(u:bb):cM:=fun U ρ=>u ρ fun d=>U.nx (ρ.set i (.val d))
def rM(i:Nat)(w:dk):cM:=fun U ρ=>w ρ fun ds=>U.nx (ρ.set i (.own ds))
def rN(c:c5)(s t:cM):cM:=fun U ρ=>c ρ fun b=>if b=true then s U ρ else t U ρ
def JV(i:Nat)(s:cM):cM:=fun U ρ=>∃ds:List D,ρ[i]?=some (.own ds)/\s U (ρ.set i (.val (.lst ds)))
theorem dS:hD X [] pG:=⟨_,uV,fun U ρ h R W B H σ D e s=>s.nx ρ σ B H h e (bJ.refl _ _)⟩
theorem br{st:W0}{s:cM}(h:fe X st s):hD X [st] s:=by
 obtain⟨_,aa,av⟩:=h;exact⟨_,n4 aa,av⟩
theorem aY{st:W0}{rest:List W0}{s t:cM}(h:fe X st s)(h':hD X rest t):hD X (st::rest) (k6 s t):=by
 obtain⟨_,aa,av⟩:=h;obtain⟨_,ab,aK⟩:=h';refine⟨_,n3 aa ab,fun U ρ h R W B H σ D e en=>?_⟩;exact av _ ρ h R W B H σ _ e ⟨fun bf a1 aF af z bq g=>aK U bf z R W aF af a1 D bq (en.grow g),en.bk,en.ct,en.rt⟩
theorem k7{st:List W0}{s:cM}(i:Nat)(h:hD X st s):hD X st (JV i s):=by
 obtain⟨_,aa,av⟩:=h;refine⟨_,aa,fun U ρ h R W B H σ D e en=>?_⟩;obtain⟨ds,aA,z⟩:=h;obtain⟨aF,bq,g⟩:=e.fz aA;exact av U _ z R W aF H σ D bq (en.grow g)
theorem JW:fe X (.Break pos) JQ:=⟨_,Ha,fun U ρ h R W B H σ D e s=>s.bk ρ σ B H h e (bJ.refl _ _)⟩
theorem JX:fe X (.Continue pos) JR:=⟨_,Hb,fun U ρ h R W B H σ D e s=>s.ct ρ σ B H h e (bJ.refl _ _)⟩
theorem AD{st:W0}:fe X st (fun _ _=>False):=⟨_,Hg,fun U ρ h=>h.elim⟩
theorem c2(h:bn X e u):fe X (.Return (some e) pos) (AC u):=by
 obtain⟨_,aa,av⟩:=h;refine⟨_,lP aa,fun U ρ h R W B H σ D e s=>?_⟩;exact av ρ _ h R W B H σ _ e fun d v a7 aw aP ag aO aE=>s.rt _ v a7 aw aP ag.toWd aO aE
theorem k8(h:ib X e w):fe X (.Return (some e) pos) (JS w):=by
 obtain⟨_,aa,av⟩:=h;refine⟨_,lP aa,fun U ρ h R W B H σ D e s=>?_⟩;exact av ρ _ h R W B H σ _ e fun ds a vs a7 aw aP ag aO bd bH bW c0 dM=>s.rt (.own ds) _ a7 aw aP ag.toWd aO ⟨a,rfl,bd,bH,vs,bW,c0⟩
theorem rO(i:Nat){x:Str}{dy:Pos}(cd:X.N[i]?=some x:=by rfl)(a':iF X.env.scope x:=by first|exact Ss rfl|exact SF (Ss rfl)|exact SF (SF rfl))(hd:(x==("__debug__":Str))=false:=by decide)(eo:(x==("__classdict__":Str))=false:=by decide):fe X (.Return (some (.Name x dy)) pos) (JT i):=by
 refine⟨_,lP (ki cd a' hd eo),fun U ρ h R W B H σ D e s=>?_⟩;obtain⟨ds,aA,z⟩:=h;obtain⟨a,ag,ao,be,ci⟩:=e.ownC aA;exact⟨_,ag,s.rt (.own ds) _ B H z e.toWd (bJ.refl _ _) ⟨a,rfl,ao,be,ci⟩⟩
theorem b'{i:Nat}{x:Str}{g1:Pos}(cd:X.N.Nodup)(aC:X.N[i]?=some x)(aj:Loc X.env.scope x)(au:bn X e u)(ak:Xj e (some (.Name x g1)) pos.line X.env=pure false:=by rfl)(bG:X.fn x=true∨X.env.scope.names.lookup x=some .local:=by first|exact .inl rfl|exact .inr rfl|assumption):
  fe X (.Assign [.Name x g1] e pos) (JU i u):=by
 obtain⟨_,aa,av⟩:=au;refine⟨_,rh cd aC aj aa ak bG,fun U ρ h R W B H σ D e s=>?_⟩;exact av ρ _ h R W B H σ _ e fun d v a7 aw aP ag aO aE=>s.nx _ _ a7 aw aP (ag.setV i aE) aO
theorem k9{i:Nat}{x:Str}{g1:Pos}(cd:X.N.Nodup)(aC:X.N[i]?=some x)(aj:Loc X.env.scope x)(au:ib X e w)(ak:Xj e (some (.Name x g1)) pos.line X.env=pure false:=by rfl)(bG:X.fn x=true∨X.env.scope.names.lookup x=some .local:=by first|exact .inl rfl|exact .inr rfl|assumption):
  fe X (.Assign [.Name x g1] e pos) (rM i w):=by
 obtain⟨_,aa,av⟩:=au;refine⟨_,rh cd aC aj aa ak bG,fun U ρ h R W B H σ D e s=>?_⟩;exact av ρ _ h R W B H σ _ e fun ds a vs a7 aw aP ag aO bd bH bW c0 dM=>s.nx _ _ a7 aw aP (ag.setO i bd bH bW c0 fun j _=>dM j) aO
theorem dU{c:WP}{a b:List W0}{jM:c5}{s t:cM}(hc:gj X c jM)(ax:hD X a s)(ae:hD X b t):fe X (.If c a b pos) (rN jM s t):=by
 obtain⟨_,bY,ff⟩:=hc;obtain⟨_,aa,av⟩:=ax;obtain⟨_,ab,aK⟩:=ae;refine⟨_,uX bY aa ab,fun U ρ h R W B H σ D e en=>?_⟩;refine ff ρ _ h R W B H σ _ e fun c a7 aw aP ag aO=>?_;cases c with
 | true =>
  rw[TI rfl]at aP ⊢;exact av U ρ aP R W a7 aw σ D ag (en.grow aO)
 | false =>
  rw[TT SP]at aP ⊢;exact aK U ρ aP R W a7 aw σ D ag (en.grow aO)
def d6(i:Nat):ec:=fun d ρ k=>k (ρ.set i (.val d))
def or:l5:=fun ds ρ k=>ds=[]/\k ρ
def hG(g:ec)(k':l5):l5:=fun ds ρ k=>∃d r,ds=d::r/\g d ρ fun bf=>k' r bf k
def ot(n:Nat)(k':l5):ec:=fun d ρ k=>∃ds,d=.tup ds/\ds.length=n/\k' ds ρ k
def JY(u:bb)(g:ec):cM:=fun U ρ=>u ρ fun d=>g d ρ U.nx
theorem bx{i:Nat}{x:Str}(cd:X.N.Nodup)(aC:X.N[i]?=some x)(aj:Loc X.env.scope x)(bG:X.fn x=true∨X.env.scope.names.lookup x=some .local:=by first|exact .inl rfl|exact .inr rfl|assumption):iN X (.Name x pos) (d6 i):=
 ⟨_,Hh cd aC aj bG,fun d ρ k h R W B H σ v Q e r q=>q _ _ h (e.setV i r) fun j a m=>by
  exact(An m (by simp) (by simp) rfl).2⟩
theorem fy:rI X [] or:=⟨_,Hk,fun ds ρ k h R W B H σ vs Q e r q=>by
 obtain⟨rfl,h⟩:=h;cases r
 exact⟨rfl,q _ _ h e fun _ _ m=>m⟩⟩
theorem ce{g:ec}{k':l5}(aa:iN X e g)(ab:rI X es k')(ak:(W5 (e::es) X.env).map (·.2)=Yc e X.env::(W5 es X.env).map (·.2):=by rfl):rI X (e::es) (hG g k'):=by
 obtain⟨_,aa,av⟩:=aa;obtain⟨_,ab,aK⟩:=ab;refine⟨_,Hl aa ab ak,fun ds ρ k h R W B H σ vs Q e r q=>?_⟩;obtain⟨d,lR,rfl,h⟩:=h;cases r with
 | cons b2 rs =>
  refine⟨_,_,rfl,av d ρ _ h R W B H σ _ _ e b2 fun bf a1 z bq gv=>?_⟩;exact aK lR bf k z R W B H a1 _ _ bq rs fun vR JZ bc ao bS=>q vR JZ bc ao fun j a m=>gv j a (bS j a m)
theorem fA{l9:Nat}{k':l5}{n:Nat}(hc:X.calm=true)(h:rI X es k')(aH:(W5 es X.env).length=n:=by rfl)(mI:(W5 es X.env).findIdx? (·.1)=none:=by rfl):iN X (.Tuple es l9 pos) (ot n k'):=by
 obtain⟨_,aa,av⟩:=h;refine⟨_,Hn hc aa aH mI,fun d ρ k h R W B H σ v Q e r q=>?_⟩;obtain⟨ds,rfl,ay,h⟩:=h;obtain⟨a,vs,rfl,ax,rs⟩:=r.tupV;exact⟨a,vs,rfl,eA.of (e.bh _ _ ax),by rw[rs.length];exact ay,av ds ρ k h R W B H σ vs Q e rs q⟩
theorem jP{a6:WP}{g:ec}(au:bn X e u)(aD:iN X a6 g)(ak:XE [a6] e pos.line X.env=pure false:=by rfl)(hw:XF [a6] e X.env=pure none:=by rfl)(aa:(W5 [a6] X.env).map (·.2)=[Yc a6 X.env]:=by rfl):fe X (.Assign [a6] e pos) (JY u g):=by
 obtain⟨_,ax,av⟩:=au;obtain⟨_,ae,aK⟩:=aD;refine⟨_,u0 ax ae ak hw aa,fun U ρ h R W B H σ D e s=>?_⟩;refine av ρ _ h R W B H σ _ e fun d v a7 aw aP ag aO aE=>?_;exact aK d ρ _ aP R W a7 aw σ v _ ag aE fun bf a1 bc ao _=>s.nx _ _ a7 aw bc ao aO
def J0(i j:Nat)(w:dk):cM:=fun U ρ=>w ρ fun ds=>∃x y,ds=[x,y]/\U.nx ((ρ.set i (.val x)).set j (.val y))
theorem J1{i j:Nat}{x y:Str}{a b:WP}{dy gJ pt:Pos}{mJ bP mK}(hc:X.calm=true)(cd:X.N.Nodup)(aC:X.N[i]?=some x)(bz:X.N[j]?=some y)(pf:i≠j)(aj:X.env.scope.names.lookup x=some .local)(aM:X.env.scope.names.lookup y=some .local)(ax:oh X [a,b] w)(hw:XF [.Tuple [.Name x dy,.Name y gJ] mJ pt] (.Tuple [a,b] bP mK) X.env=pure (some [x,y]))(ak:XE [.Tuple [.Name x dy,.Name y gJ] mJ pt] (.Tuple [a,b] bP mK) pos.line X.env=pure false:=by rfl):
  fe X (.Assign [.Tuple [.Name x dy,.Name y gJ] mJ pt] (.Tuple [a,b] bP mK) pos) (J0 i j w):=by
 obtain⟨_,aa,av⟩:=ax;refine⟨_,Hq hc cd aC bz pf aj aM aa hw ak,fun U ρ h R W B H σ D e s=>?_⟩;refine av ρ _ h R W B H σ _ e fun ds vs a7 aw aP ag aO aE=>?_;obtain⟨x,y,rfl,aP⟩:=aP;cases aE with
 | cons jg ig=>cases ig with
  | cons ig rc =>
   cases rc;exact⟨_,_,rfl,s.nx _ _ a7 aw aP ((ag.setV i jg).setV j ig) aO⟩
def rP(c:c5)(s:cM):cM:=fun U ρ=>∃M:Nat->List aI->Prop,(∃m,M m ρ)/\∀m ρ,M m ρ->c ρ fun b=>if b=true then s { U with nx:=fun bf=>∃df,df<m/\M df bf,ct:=fun bf=>∃df,df<m/\M df bf,bk:=U.nx } ρ else U.nx ρ
theorem vS{c:WP}{body:List W0}{jM:c5}{s:cM}(aq:Ye (UV X.prog X.w) X.A X.env X.xe)(hc:gj X c jM)(ae:hD X body s):fe X (.While c body [] pos) (rP jM s):=by
 obtain⟨_,bY,ff⟩:=hc;obtain⟨_,aa,av⟩:=ae;refine⟨_,Hy aq bY aa,fun U ρ h R W B H σ D e en=>?_⟩;obtain⟨M,⟨cS,aB⟩,turn⟩:=h;refine⟨fun m a1 af=>∃bf aF,M m bf/\aX X.K R W aF af a1 bf/\bJ R B aF,⟨cS,ρ,B,aB,e,bJ.refl _ _⟩,?_⟩;rintro m ht aw ⟨eM,a7,J2,ag,aO⟩;refine ff eM _ (turn m eM J2) R W a7 aw ht _ ag fun b cj aV bc ao aT=>?_;cases b with
 | true =>
  rw[TI rfl]at bc ⊢;refine⟨fun a1 af=>∃bf aF,(∃df,df<m/\M df bf)/\aX X.K R W aF af a1 bf/\bJ R B aF,?_,?_⟩
  ·rintro a1 af ⟨bf,aF,⟨df,l,q⟩,bq,g'⟩;exact⟨df,l,bf,aF,q,bq,g'⟩
  ·have ih:=aO.trans aT;exact av _ eM bc R W cj aV ht _ ao ⟨fun bf a1 aF af z bq g=>⟨bf,aF,z,bq,ih.trans g⟩,fun bf a1 aF af z bq g=>en.nx bf a1 aF af z bq (ih.trans g),fun bf a1 aF af z bq g=>⟨bf,aF,z,bq,ih.trans g⟩,fun r v aF af z bq g q=>en.rt r v aF af z bq (ih.trans g) q⟩
 | false =>
  rw[TT SP]at bc ⊢;exact en.nx eM ht cj aV bc ao (aO.trans aT)
theorem jJ.list{B:ai}{a:Tl}{vs:List V}{ds:List D}(h:B a=some (.lst vs))(r:Reps K B vs ds):jJ K B (u3 K a) ds:=by
 intro H s i;have fI:=s _ _ h;have q:cl K H a vs:=cl.of fI;refine⟨fun aC=>?_,fun aC=>⟨vs,q,by rw[r.length];exact aC⟩,fun x af aC ⟨ag,ao⟩=>⟨ag,?_⟩⟩
 ·obtain⟨v,e,_⟩:=r.get (S8 aC);exact⟨vs,v,q,e⟩
 ·exact r.getV (ao vs q)
theorem jJ.tup{B:ai}{a:Tl}{vs:List V}{ds:List D}(h:B a=some (.tup vs))(r:Reps K B vs ds):jJ K B (u4 K a) ds:=by
 intro H s i;have fI:=s _ _ h;have q:eA K H a vs:=eA.of fI;refine⟨fun aC=>?_,fun aC=>⟨vs,q,by rw[r.length];exact aC⟩,fun x af aC ⟨ag,ao⟩=>⟨ag,?_⟩⟩
 ·obtain⟨v,e,_⟩:=r.get (S8 aC);exact⟨vs,v,q,e⟩
 ·exact r.getV (ao vs q)
theorem jJ.rng{B:ai}(n:Nat):jJ K B (rj 0 n) ((Te n).map fun i:Nat=>D.int i):=by
 intro H s i;rw[Sz,List.length_range];refine⟨fun aC=>aC,fun aC=>aC,fun x af aC ⟨ag,ao⟩=>⟨ag,?_⟩⟩;refine⟨.int i,?_,?_⟩
 ·rw[S7,VB aC];rfl
 ·rw[ao,Int.zero_add];exact .int _
def pH(u:bb):dk:=fun ρ k=>u ρ fun d=>∃ds,d=.lst ds/\k ds
def J3(u:bb):dk:=fun ρ k=>u ρ fun d=>∃ds,d=.tup ds/\k ds
def J4(u:bb):dk:=fun ρ k=>u ρ fun d=>∃j,d=.int j /\ -(2^62)<=j/\j<2^62/\k ((Te j.toNat).map fun i:Nat=>D.int i)
variable{a6:WP}
theorem ed{l:WP}(ay:bn X l u):kw X a6 l (pH u):=by
 obtain⟨_,aa,av⟩:=ay;refine⟨_,HE aa,fun ρ k h R W B H σ Q e q=>?_⟩;refine av ρ _ h R W B H σ _ e fun d v a7 aw aP ag aO aE=>?_;obtain⟨ds,rfl,z⟩:=aP;obtain⟨a,vs,rfl,ax,rs⟩:=aE.lstV;exact⟨a,rfl,⟨vs,cl.of (ag.bh _ _ ax)⟩,q ds _ a7 aw z ag aO (jJ.list ax rs)⟩
theorem J5{l:WP}(ay:bn X l u):kw X a6 l (J3 u):=by
 obtain⟨_,aa,av⟩:=ay;refine⟨_,HF aa,fun ρ k h R W B H σ Q e q=>?_⟩;refine av ρ _ h R W B H σ _ e fun d v a7 aw aP ag aO aE=>?_;obtain⟨ds,rfl,z⟩:=aP;obtain⟨a,vs,rfl,ax,rs⟩:=aE.tupV;exact⟨a,rfl,⟨vs,eA.of (ag.bh _ _ ax)⟩,q ds _ a7 aw z ag aO (jJ.tup ax rs)⟩
theorem la{a:WP}(ax:bn X a u)(aD:ep X "range")(aB:X.mg "range"=none)(ak:Tk [a] X.env=[(false,W7 a X.env)]:=by rfl):kw X a6 (.Call (.Name "range" p) [a] [] pos) (J4 u):=by
 obtain⟨_,aa,av⟩:=ax;refine⟨_,HI aD aB (eJ aa fH (by exact ak)) ak,fun ρ k h R W B H σ Q e q=>?_⟩;refine av ρ _ h R W B H σ _ e fun d v a7 aw aP ag aO aE=>?_;obtain⟨j,rfl,J6,lc,z⟩:=aP;exact⟨j,by rw[aE.intV],J6,lc,q _ _ a7 aw z ag aO (jJ.rng _)⟩
def eY(g:ec)(s:cM)(U:gw):List D->List aI->Prop
 | [],ρ=>U.nx ρ
 | d::ds,ρ=>g d ρ fun bf=>s { U with nx:=eY g s U ds,ct:=eY g s U ds,bk:=U.nx } bf
def vT(w:dk)(g:ec)(s:cM):cM:=fun U ρ=>w ρ fun ds=>eY g s U ds ρ
theorem gy{cA:WP}{body:List W0}{g:ec}{s:cM}(aq:Ye (UV X.prog X.w) X.A X.env X.xe)(hc:X.calm=true)(aC:kw X a6 cA w)(aD:iN X a6 g)(ae:hD X body s)(ak:∀x,Wp cA X.env x=pure x:=by intro _;rfl):fe X (.For a6 cA body [] pos) (vT w g s):=by
 obtain⟨_,bY,ff⟩:=aC;obtain⟨_,aa,av⟩:=aD;obtain⟨_,ab,aK⟩:=ae;refine⟨_,zw aq hc bY aa ab ak,fun U ρ h R W B H σ D e en=>?_⟩;refine ff ρ _ h R W B H σ _ e fun ds J a7 aw aP ag aO it=>?_;refine⟨fun i m a1 af=>∃bf aF,m=ds.length-i/\i<=ds.length/\eY g s U (ds.drop i) bf/\aX X.K R W aF af a1 bf/\bJ R B aF/\cG a7 aF,⟨ds.length,ρ,a7,by simp,Ti _,aP,ag,aO,cG.refl _⟩,?_⟩;rintro i m ht aV ⟨eM,cj,rfl,aC,bc,ao,aT,a4⟩;obtain⟨cH,cn,fM⟩:=it aV (a4.trans ao.bh) i;by_cases c9:i<ds.length
 ·refine .inr ⟨cH c9,fun a1 af=>∃bf aF,eY g s U (ds.drop (i+1)) bf/\aX X.K R W aF af a1 bf/\bJ R B aF/\cG a7 aF,?_,?_⟩
  ·rintro a1 af ⟨bf,aF,z,bq,g',s'⟩;exact⟨ds.length-(i+1),by lia,bf,aF,rfl,c9,z,bq,g',s'⟩
  ·intro x af y;obtain⟨rfl,d,hd,ba⟩:=fM x af c9 y
   have f1:ds.drop i=d::ds.drop (i+1):=by
    rw[UH c9];rw[S8 c9]at hd;rw[SM hd]
   rw[f1]at bc;refine av d eM _ bc R W cj _ ht x _ ao (ba.mono a4) fun bf a1 eP bq _=>?_;exact aK _ bf eP R W cj _ a1 _ bq ⟨fun bf a1 aF af z bq g=>⟨bf,aF,z,bq,aT.trans g,a4.trans g.s⟩,fun bf a1 aF af z bq g=>en.nx bf a1 aF af z bq (aT.trans g),fun bf a1 aF af z bq g=>⟨bf,aF,z,bq,aT.trans g,a4.trans g.s⟩,fun r v aF af z bq g q=>en.rt r v aF af z bq (aT.trans g) q⟩
 ·have fh:i=ds.length:=by lia
  subst fh;rw[UI]at bc;exact .inl ⟨cn (SD _),en.nx eM ht cj aV bc ao aT⟩
end
section
variable{K:Su}{X:aU}{e:WP}{es:List WP}{u:bb}{w:dk}{pos p:Pos}
theorem aX.newO{R:ai}{W:Tl->Prop}{B H:ai}{σ:St}{ρ:List aI}(e:aX K R W B H σ ρ){q:Tl}(aL:H q=none){vs:List V}{ds:List D}(r:Reps K B vs ds):
  aX K R W B (upd H q (.lst vs)) σ ρ/\R q=none/\B q=none/\(upd H q (.lst vs)) q=some (.lst vs)/\∀i,¬cX σ ρ i q:=by
 obtain⟨bd,bH,bW⟩:=e.toWd.fresh aL;exact⟨e.allocH aL _,bd,bW,ei,fun i m=>e.notNew aL m rfl⟩
def cutL{α:Type}(xs:List α)(lo aC:Option Int):List α:=(xs.drop (HT.sIx xs.length 0 lo)).take (HT.sIx xs.length xs.length aC-HT.sIx xs.length 0 lo)
theorem Reps.cut{B:ai}{vs:List V}{ds:List D}(r:Reps K B vs ds)(lo aC:Option Int):Reps K B (cutL vs lo aC) (cutL ds lo aC):=by
 unfold cutL;rw[r.length];exact(r.drop _).take _
theorem AE{α β:Type}(f:α->β)(xs:List α)(lo aC:Option Int):cutL (xs.map f) lo aC=(cutL xs lo aC).map f:=by
 unfold cutL;rw[Sz,<-UJ,<-VC]
abbrev ma:=List aI->(Option Int->Prop)->Prop
def J7(K:Su)(t:b4)(u:ma):Prop:=∀(ρ:List aI)(k:Option Int->Prop),u ρ k->∀(R:ai)(W:Tl->Prop)(B H:ai)(σ:St)(Q:Option Int->ai->Prop),aX K R W B H σ ρ ->
 (∀o aF af,k o->aX K R W aF af σ ρ->bJ R B aF->Q o af)->t σ H Q
def ou(X:aU)(e:Option WP)(u:ma):Prop:=∃t,pv X e t/\J7 X.K t u
def J8:ma:=fun _ k=>k none
def J9(u:bb):ma:=fun ρ k=>u ρ fun d=>∃i,d=.int i/\k (some i)
theorem mb:ou X none J8:=⟨_,Iw,fun ρ k h R W B H σ Q e q=>q none B H h e (bJ.refl _ _)⟩
theorem mc(h:bn X e u):ou X (some e) (J9 u):=by
 obtain⟨_,aa,av⟩:=h;refine⟨_,Ix aa,fun ρ k h R W B H σ Q e q=>?_⟩;refine av ρ _ h R W B H σ _ e fun d v a7 aw aP ag aO aE=>?_;obtain⟨i,rfl,z⟩:=aP;exact⟨i,aE.intV,q _ a7 aw z ag aO⟩
def vU:D->Option (List D)
 | .lst ds=>some ds
 | .scr ns=>some (ns.map .int)
 | _=>none
theorem AF{B H:ai}{v:V}{x:D}{ds:List D}(s:cG B H)(r:b3 K B v x)(h:vU x=some ds):∃a vs,v=.ref a/\cl K H a vs/\Reps K B vs ds:=by
 cases x<;>first|(cases h;done)|skip
 ·obtain⟨a,vs,rfl,ax,rs⟩:=r.lstV;cases h;exact⟨a,vs,rfl,cl.of (s _ _ ax),rs⟩
 ·obtain⟨a,rfl,ax⟩:=r.scrV;cases h;exact⟨a,_,rfl,s.seq ax,Reps.ints _⟩
def J'(u:bb)(l h:ma):dk:=fun ρ k=>u ρ fun x=>l ρ fun lo=>h ρ fun aC=>∃ds,vU x=some ds/\k (cutL ds lo aC)
theorem ow{lo aC:Option WP}{pI pJ:ma}{cg:Pos}(au:bn X e u)(ay:ou X lo pI)(dh:ou X aC pJ):ib X (.Subscript e (.Slice lo aC none cg) pos) (J' u pI pJ):=by
 obtain⟨_,aa,av⟩:=au;obtain⟨_,ab,aK⟩:=ay;obtain⟨_,aQ,d8⟩:=dh;refine⟨_,zX IK aa ab aQ,fun ρ k h R W B H σ Q e q=>?_⟩;refine av ρ _ h R W B H σ _ e fun d v a7 aw aP ag aO aE=>?_;refine aK ρ _ aP R W a7 aw σ _ ag fun lo cj aV bc ao aT=>?_;refine d8 ρ _ bc R W cj aV σ _ ao fun aC k5 ca e5 be g3=>?_;obtain⟨ds,hd,z⟩:=e5;obtain⟨a,vs,rfl,ax,rs⟩:=AF be.bh (aE.mono (aT.trans g3).s) hd;refine⟨a,vs,rfl,ax,fun p aq=>?_⟩;obtain⟨bd,bH,bW,c0,dM⟩:=be.newO aq (rs.cut lo aC);exact q _ p _ k5 _ z bd ((aO.trans aT).trans g3) bH bW c0 (rs.cut lo aC) dM
def Ka(u v:bb):dk:=fun ρ k=>u ρ fun x=>v ρ fun y=>∃ds es,x=.lst ds/\y=.lst es/\ds.length+es.length<=SZ/\k (ds++es)
theorem pK{a b:WP}{bw bA:bb}(ax:bn X a bw)(ae:bn X b bA):ib X (.BinOp a .Add b pos) (Ka bw bA):=by
 obtain⟨_,aa,av⟩:=ax;obtain⟨_,ab,aK⟩:=ae;refine⟨_,gM I0 aa ab,fun ρ k h R W B H σ Q e q=>?_⟩;refine av ρ _ h R W B H σ _ e fun d v a7 aw aP ag aO aE=>?_;refine aK ρ _ aP R W a7 aw σ _ ag fun d' kg cj aV bc ao aT a4=>?_;obtain⟨ds,es,rfl,rfl,ay,z⟩:=bc;obtain⟨a,vs,rfl,ax,rs⟩:=(aE.mono aT.s).lstV;obtain⟨b,b7,rfl,ae,rt⟩:=a4.lstV;refine⟨a,b,vs,b7,rfl,rfl,ao.bh _ _ ax,ao.bh _ _ ae,by rw[rs.length,rt.length];exact ay,fun p aq=>?_⟩;obtain⟨bd,bH,bW,c0,dM⟩:=ao.newO aq (rs.append rt);exact q _ p _ cj _ z bd (aO.trans aT) bH bW c0 (rs.append rt) dM
def Kb(u:bb):dk:=fun ρ k=>u ρ fun x=>∃ds,(x=.lst ds∨x=.tup ds)/\k ds
theorem AG(ax:bn X e u)(aD:ep X "list")(aB:X.mg "list"=none)(ak:Tk [e] X.env=(false,W7 e X.env)::Tk [] X.env:=by rfl):ib X (.Call (.Name "list" p) [e] [] pos) (Kb u):=by
 obtain⟨_,aa,av⟩:=ax;refine⟨_,vg IL aD aB (by decide +kernel) (eJ aa fH ak) (by decide) (by decide) ak,fun ρ k h R W B H σ Q e q=>?_⟩;refine av ρ _ h R W B H σ _ e fun d v a7 aw aP ag aO aE=>?_;obtain⟨ds,hd,z⟩:=aP;rcases hd with rfl|rfl
 ·obtain⟨a,vs,rfl,ax,rs⟩:=aE.lstV;refine⟨a,vs,rfl,.inl (cl.of (ag.bh _ _ ax)),fun p aq=>?_⟩;obtain⟨bd,bH,bW,c0,dM⟩:=ag.newO aq rs;exact q _ p _ a7 _ z bd aO bH bW c0 rs dM
 ·obtain⟨a,vs,rfl,ax,rs⟩:=aE.tupV;refine⟨a,vs,rfl,.inr (eA.of (ag.bh _ _ ax)),fun p aq=>?_⟩;obtain⟨bd,bH,bW,c0,dM⟩:=ag.newO aq rs;exact q _ p _ a7 _ z bd aO bH bW c0 rs dM
def Kc(u:bb):bb:=fun ρ k=>u ρ fun x=>∃ns:List Int,x=.lst (ns.map .int)/\k (.int ns.sum)
theorem rQ{B:ai}:∀{ns:List Int}{vs:List V},Reps K B vs (ns.map D.int)->vs=ns.map V.int
 | [],_,.nil=>rfl
 | n::r,_,.cons h t=>by rw[h.intV,rQ t];rfl
theorem AH(ax:bn X e u)(hc:X.calm=true)(aD:ep X "sum")(aB:X.mg "sum"=none)(ak:Tk [e] X.env=(false,W7 e X.env)::Tk [] X.env:=by rfl):bn X (.Call (.Name "sum" p) [e] [] pos) (Kc u):=by
 obtain⟨_,aa,av⟩:=ax;refine⟨_,mP (Jh hc) aD aB (by decide +kernel) (eJ aa fH ak) (by decide) (by decide) ak,oq (f:=fun x k=>∃ns:List Int,x=.lst (ns.map .int)/\k (.int ns.sum)) av fun x k h R W B H σ ρ v Q e ba q=>?_⟩;obtain⟨ns,rfl,ah⟩:=h;obtain⟨a,vs,rfl,ax,rs⟩:=ba.lstV;cases rQ rs;exact⟨a,ns,rfl,e.bh _ _ ax,q _ _ B H ah e (bJ.refl _ _) (.int _)⟩
def pL(i:Nat)(u:bb):cM:=fun U ρ=>∃ds:List D,ρ[i]?=some (.own ds)/\u ρ fun d=>ds.length<SZ/\U.nx (ρ.set i (.own (ds++[d])))
theorem md(i:Nat){x:Str}{dy gg eb:Pos}(au:bn X e u)(cd:X.N[i]?=some x:=by rfl)(a':iF X.env.scope x:=by first|exact Ss rfl|exact SF (Ss rfl)|exact SF (SF rfl))(hd:(x==("__debug__":Str))=false:=by decide)(eo:(x==("__classdict__":Str))=false:=by decide)(jE:Xm (.Name x dy) "append" X.env (W7 (.Name x dy) X.env)=W7 (.Name x dy) X.env:=by rfl)(mR:((W1 eb (Tk [e] X.env)).all (fun x => !x.1)&&(YI eb (X8 [] X.env)).all (fun x=>x.1.isSome)
   && decide ([e].length+([]:List X9).length+(if([]:List X9).isEmpty then 0 else 1)<30))=true:=by rfl)(jF:(gg.endLine==eb.line)=true:=by rfl)(ak:Tk [e] X.env=(false,W7 e X.env)::Tk [] X.env:=by rfl)(mS:(W1 eb (Tk ([]:List WP) X.env)).any (·.1)=false:=by rfl)(le:Xj (.Call (.Attribute (.Name x dy) "append" gg) [e] [] eb) none pos.line X.env=pure false:=by rfl):fe X (.Expr (.Call (.Attribute (.Name x dy) "append" gg) [e] [] eb) pos) (pL i u):=by
 obtain⟨_,aa,av⟩:=au;refine⟨_,uW (vm U1 Wc We rv (ki cd a' hd eo) (eJ aa fH ak) jE mR jF ak mS) le,fun U ρ h R W B H σ D e s=>?_⟩;obtain⟨ds,aA,h⟩:=h;obtain⟨a,vs,ag,ao,be,ci,eL⟩:=e.ownAt aA;refine⟨_,ag,.inl ⟨rfl,vs,cl.of ci⟩,?_⟩;refine av ρ _ h R W B H σ _ e fun d v a7 aw aP bd aO aE=>?_;obtain⟨iH,m7,bT,bP,eN,eC,kA⟩:=bd.ownAt aA;rw[ag]at bT;cases bT;exact⟨a,m7,v,rfl,rfl,eC,by rw[kA.length];exact aP.1,s.nx _ _ a7 _ aP.2 (bd.write ag aA (kA.append (.cons aE .nil))) aO⟩
def gz(ρ:List aI)(j:Nat):aI:=match ρ[j]? with
 | some (.val d)=>.val d
 | some .bag=>.bag
 | _=>.no
theorem aX.scribble{R:ai}{W:Tl->Prop}{B H:ai}{σ:St}{ρ:List aI}(e:aX K R W B H σ ρ){a:Tl}(am:R a=none)(ae:B a=none)(aB:∀i,¬cX σ ρ i a)(o:d7):aX K R W B (upd H a o) σ ρ:=by
 have nw:¬W a:=fun z=>e.wr a z am;refine e.move ⟨fun b q h z=>?_,fun b q h=>?_,e.wb,fun b z=>(e.wh b z).upd (by rintro rfl;exact nw z),e.wr⟩ (cG.refl _) fun i b m=>?_
 ·rw[b1 (by rintro rfl;rw[am]at h;cases h)];exact e.fr b q h z
 ·rw[b1 (by rintro rfl;rw[ae]at h;cases h)];exact e.bh b q h
 ·have n:b≠a:=by rintro rfl;exact aB i m
  refine⟨(e.mutOk m).1,fun z=>?_,fun _=>b1 n⟩;obtain⟨c,bC,_,_,fN⟩:=e.bagAt z;rw[oe m z]at bC;cases bC;exact fN.upd n
theorem Kd{σ:St}{js:List Nat}{i:Nat}{o:Option V}(h:(fu σ js)[i]?=some o):∃j,js[i]?=some j/\o=(σ[j]?).join:=by
 unfold fu at h;rw[S7]at h;cases q:js[i]? with
 | none=>rw[q]at h;cases h
 | some j=>rw[q]at h;exact⟨j,rfl,(SM h).symm⟩
def Ke(K:Su)(t:bN)(u:List aI->Prop->Prop):Prop:=∀(ρ:List aI)(k:Prop),u ρ k->∀(R:ai)(W:Tl->Prop)(B H:ai)(σ:St)(Q:cc),aX K R W B H σ ρ ->
 (∀a aF af,k->aX K R W aF af σ ρ->bJ R B aF->R a=none->aF a=none->fw af a->(∀i,¬cX σ ρ i a)->Q (.ref a) af)->t σ H Q
def vV(X:aU)(e:WP)(u:List aI->Prop->Prop):Prop:=∃t,b5 X e t/\Ke X.K t u
def Kf(n:Nat)(F:cw)(w:je):List aI->Prop->Prop:=fun ρ k=>w ρ fun as=>sh as n=true/\F (as.map Arg.sl) fun r=>r=.bag/\k
theorem AI{n:Nat}{F:cw}{w:je}{x:Str}{ps:List Str}{j lv:Nat}(c:aZ X.prog X.w X.K X.mg X.base x ps j (a0 X.K n F))(am:eF lv X.A)(aD:ep X x)(ax:l7 X (e::es) w)(h9:j<=lv:=by decide)(hO:(x==("__debug__":Str))=false:=by decide)(au:Tk (e::es) X.env=(false,W7 e X.env)::Tk es X.env:=by rfl)(dV:(W1 pos (Tk es X.env)).any (·.1)=false:=by rfl):
  vV X (.Call (.Name x p) (e::es) [] pos) (Kf n F w):=by
 obtain⟨_,aa,av⟩:=ax;refine⟨_,rA c am aD aa h9 hO au dV,fun ρ k h R W B H σ Q e q=>?_⟩;refine av ρ _ h R W B H σ _ e fun as vs a7 aw aP ag aO aE=>?_;rw[SG];refine vO ag aE aP.1 aP.2 fun r v cj aV ah ao aT res=>?_;obtain⟨rfl,ah⟩:=ah;obtain⟨a,rfl,bd,bH,bW⟩:=res;exact q a cj aV ah ao (aO.trans aT) (ag.toWd.fresh bd).1 bH bW fun i m=>(ag.mutOk m).2 bd
def Kg(i:Nat)(u:List aI->Prop->Prop):cM:=fun U ρ=>u ρ (U.nx (ρ.set i .bag))
theorem Kh{i:Nat}{x:Str}{g1:Pos}{u:List aI->Prop->Prop}(cd:X.N.Nodup)(aC:X.N[i]?=some x)(aj:Loc X.env.scope x)(au:vV X e u)(ak:Xj e (some (.Name x g1)) pos.line X.env=pure false:=by rfl)(bG:X.fn x=true∨X.env.scope.names.lookup x=some .local:=by first|exact .inl rfl|exact .inr rfl|assumption):
  fe X (.Assign [.Name x g1] e pos) (Kg i u):=by
 obtain⟨_,aa,av⟩:=au;refine⟨_,rh cd aC aj aa ak bG,fun U ρ h R W B H σ D e s=>?_⟩;refine av ρ _ h R W B H σ _ e fun a a7 aw aP ag aO bd bH bW c0=>s.nx _ _ a7 aw aP (ag.set i ⟨a,rfl,.inr bd,bH,bW⟩ fun b z _ j _=>?_) aO;cases z;exact c0 j
end
end L3
namespace L3
open PySem L2
inductive gO where
 | I|B|N|S|T (dm:List gO)|L (s:gO)
mutual
def has:gO->D->Bool
 | .I,.int _=>true
 | .B,.bl _=>true
 | .N,.non=>true
 | .S,.str _=>true
 | .T dm,.tup xs=>hass dm xs
 | .L s,.lst xs=>xs.all fun x=>has s x
 | _,_=>false
def hass:List gO->List D->Bool
 | [],[]=>true
 | s::dm,x::xs=>has s x&&hass dm xs
 | _,_=>false
end
mutual
def hH:gO->Nat
 | .T dm=>deps dm+1
 | .L s=>hH s+1
 | _=>0
def deps:List gO->Nat
 | []=>0
 | s::dm=>max (hH s) (deps dm)
end
noncomputable def eqD(x y:D):Bool :=@decide (x=y) (Uk _)
theorem pM{x y:D}:eqD x y=true↔x=y:=by unfold eqD;exact @decide_eq_true_iff _ (Uk _)
theorem ox(x:D):eqD x x=true:=pM.mpr rfl
theorem me{x y:D}{b:Bool}(h:b=true↔x=y):eqD x y=b:=by
 rw[VD,pM,h]
section
variable{K:Su}{B:ai}
theorem has_int{x:D}(h:has .I x=true):∃i,x=.int i:=by cases x<;>first|exact⟨_,rfl⟩|(simp[has]at h)
theorem rR{x:D}(h:has .B x=true):∃i,x=.bl i:=by cases x<;>first|exact⟨_,rfl⟩|(simp[has]at h)
theorem rS{x:D}(h:has .N x=true):x=.non:=by cases x<;>first|rfl|(simp[has]at h)
theorem has_str{x:D}(h:has .S x=true):∃i,x=.str i:=by cases x<;>first|exact⟨_,rfl⟩|(simp[has]at h)
theorem rT{x:D}{dm:List gO}(h:has (.T dm) x=true):∃xs,x=.tup xs/\hass dm xs=true:=by
 cases x<;>first|exact⟨_,rfl,by simpa[has]using h⟩|(simp[has]at h)
theorem rU{x:D}{s:gO}(h:has (.L s) x=true):∃xs,x=.lst xs/\∀y∈xs,has s y=true:=by
 cases x<;>first|exact⟨_,rfl,by simpa[has]using h⟩|(simp[has]at h)
theorem pN:∀{dm:List gO}{xs:List D},hass dm xs=true->xs.length=dm.length
 | [],[],_=>rfl
 | [],_::_,h=>by simp[hass]at h
 | _::_,[],h=>by simp[hass]at h
 | s::dm,x::xs,h=>by
  simp[hass]at h;simp[pN h.2]
mutual
theorem na:∀(sh:gO){x y:D}{v:V},has sh x=true->has sh y=true->b3 K B v x->b3 K B v y->x=y
 | .I,x,y,v,aa,ab,av,aK=>by
  obtain⟨i,rfl⟩:=has_int aa;obtain⟨j,rfl⟩:=has_int ab
  have e:=av.intV.symm.trans aK.intV
  cases e;rfl
 | .B,x,y,v,aa,ab,av,aK=>by
  obtain⟨i,rfl⟩:=rR aa;obtain⟨j,rfl⟩:=rR ab
  have e:=av.blV.symm.trans aK.blV
  cases e;rfl
 | .N,x,y,v,aa,ab,av,aK=>by rw[rS aa,rS ab]
 | .S,x,y,v,aa,ab,av,aK=>by
  obtain⟨i,rfl⟩:=has_str aa;obtain⟨j,rfl⟩:=has_str ab
  cases av;cases aK;rfl
 | .T dm,x,y,v,aa,ab,av,aK=>by
  obtain⟨xs,rfl,aN⟩:=rT aa;obtain⟨ys,rfl,a3⟩:=rT ab
  obtain⟨a,vs,rfl,ax,jg⟩:=av.tupV
  obtain⟨b,b7,e,ae,ig⟩:=aK.tupV
  cases e
  rw[ax]at ae;cases ae
  rw[reps_fn dm aN a3 jg ig]
 | .L s,x,y,v,aa,ab,av,aK=>by
  obtain⟨xs,rfl,aN⟩:=rU aa;obtain⟨ys,rfl,a3⟩:=rU ab
  obtain⟨a,vs,rfl,ax,jg⟩:=av.lstV
  obtain⟨b,b7,e,ae,ig⟩:=aK.lstV
  cases e
  rw[ax]at ae;cases ae
  have:xs=ys:=by
   apply U0
   intro i
   cases vW:xs[i]? with
   | none =>
    have:ys[i]?=none:=by
     have aa:=jg.length
     have ab:=ig.length
     have aQ:=Wf.mp vW
     exact Wf.mpr (by lia)
    rw[this]
   | some d =>
    obtain⟨v,ev,b2⟩:=jg.get vW
    obtain⟨d',f1,jQ⟩:=ig.getV ev
    rw[f1,na s (aN d (Tt vW)) (a3 d' (Tt f1)) b2 jQ]
  rw[this]
theorem reps_fn:∀(dm:List gO){xs ys:List D}{vs:List V},hass dm xs=true->hass dm ys=true->Reps K B vs xs->Reps K B vs ys->xs=ys
 | [],xs,ys,vs,aa,ab,av,aK=>by
  have ag:=pN aa;have ao:=pN ab
  rw[UK]at ag ao
  rw[Wg ag,Wg ao]
 | s::dm,[],ys,vs,aa,ab,av,aK=>by simp[hass]at aa
 | s::dm,x::xs,[],vs,aa,ab,av,aK=>by simp[hass]at ab
 | s::dm,x::xs,y::ys,vs,aa,ab,av,aK=>by
  simp[hass]at aa ab
  cases av with
  | cons c6 dw=>cases aK with
   | cons dt d4=>rw[na s aa.1 ab.1 c6 dt,reps_fn dm aa.2 ab.2 dw d4]
end
end
section
variable{X:aU}{pins:List (Tl×Obj)}{σ:St}{H B:ai}{s:SL}
theorem AJ{xs ys:List D}{n:Nat}{e:Nat->Bool}(aH:n=xs.length)(ay:xs.length=ys.length)(au:∀j,j<n->(e j=true↔xs[j]?=ys[j]?)):((Te n).all e)=true↔xs=ys:=by
 rw[Ul];constructor
 ·intro h;apply U0;intro i;by_cases aC:i<n
  ·exact(au i aC).mp (h i (Ug.mpr aC))
  ·rw[TF (by lia),TF (by lia)]
 ·rintro rfl j bz;exact(au j (Ug.mp bz)).mpr rfl
noncomputable def jR(xs ys:List D)(j:Nat):Bool :=@decide (xs[j]?=ys[j]?) (Uk _)
theorem pO{xs ys:List D}{j:Nat}:jR xs ys j=true↔xs[j]?=ys[j]?:=by unfold jR;exact @decide_eq_true_iff _ (Uk _)
theorem AK{xs ys:List D}{j:Nat}{x y:D}(aa:xs[j]?=some x)(ab:ys[j]?=some y):jR xs ys j=eqD x y:=by
 rw[VD,pO,pM,aa,ab];constructor
 ·intro h;exact SM h
 ·intro h;rw[h]
structure Ki (A:WV) (s:SL) (u w:SC) (x y:D):Prop where
 rc:SeqAt.RcAt A s u w (eqD x y)
 ne:SeqAt.RcNeAt A s u w (!eqD x y)
 eq:SeqAt.EqAt A s u w (eqD x y)
mutual
theorem pP(I:Inv X pins σ H s)(dL:cG B H):∀(sh:gO){A:WV}{x y:D}{v w:V}{u eS:SC},has sh x=true->has sh y=true->b3 X.K B v x->b3 X.K B w y->RelV v u->RelV w eS->A.units+hH sh<X7->Ki A s u eS x y
 | .I,A,x,y,v,w,u,eS,aa,ab,av,aK,bZ,b0,bM=>by
  obtain⟨i,rfl⟩:=has_int aa;obtain⟨j,rfl⟩:=has_int ab
  cases av.intV;cases aK.intV
  obtain⟨t,rfl⟩:=bZ;obtain⟨t',rfl⟩:=b0
  have e:eqD (.int i) (.int j)=(i==j):=me (by simp)
  refine⟨?_,?_,?_⟩<;>rw[e]
  ·exact SeqAt.RcAt.int_int i t j t'
  ·exact SeqAt.RcNeAt.int_int i t j t'
  ·exact SeqAt.EqAt.int_int i t j t'
 | .B,A,x,y,v,w,u,eS,aa,ab,av,aK,bZ,b0,bM=>by
  obtain⟨i,rfl⟩:=rR aa;obtain⟨j,rfl⟩:=rR ab
  cases av.blV;cases aK.blV
  cases bZ;cases b0
  have e:eqD (.bl i) (.bl j)=(i==j):=me (by simp)
  refine⟨?_,?_,?_⟩<;>rw[e]
  ·exact SeqAt.RcAt.bool_bool i j
  ·exact SeqAt.RcNeAt.bool_bool i j
  ·exact SeqAt.EqAt.bool_bool i j
 | .N,A,x,y,v,w,u,eS,aa,ab,av,aK,bZ,b0,bM=>by
  cases rS aa;cases rS ab
  cases av.nonV;cases aK.nonV
  cases bZ;cases b0
  have e:eqD .non .non=true:=ox _
  refine⟨?_,?_,?_⟩<;>rw[e]
  ·exact SeqAt.RcAt.none_none
  ·exact SeqAt.RcNeAt.none_none
  ·exact SeqAt.EqAt.same _
 | .S,A,x,y,v,w,u,eS,aa,ab,av,aK,bZ,b0,bM=>by
  obtain⟨i,rfl⟩:=has_str aa;obtain⟨j,rfl⟩:=has_str ab
  cases av;cases aK
  obtain⟨t,rfl⟩:=bZ;obtain⟨t',rfl⟩:=b0
  have e:eqD (.str i) (.str j)=(i==j):=me (by simp)
  refine⟨?_,?_,?_⟩<;>rw[e]
  ·exact SeqAt.RcAt.str_str i t j t'
  ·exact SeqAt.RcNeAt.str_str i t j t'
  ·exact SeqAt.EqAt.str_str i t j t'
 | .T dm,A,x,y,v,w,u,eS,aa,ab,av,aK,bZ,b0,bM=>by
  have rV:=av
  have rW:=aK
  obtain⟨xs,rfl,aN⟩:=rT aa;obtain⟨ys,rfl,a3⟩:=rT ab
  obtain⟨a,vs,rfl,ax,jg⟩:=av.tupV
  obtain⟨b,b7,rfl,ae,ig⟩:=aK.tupV
  cases bZ;cases b0
  obtain⟨its,bT,cH,_⟩:=I.tuple (eA.of (dL _ _ ax))
  obtain⟨e3,bP,cn,_⟩:=I.tuple (eA.of (dL _ _ ae))
  have ej:hH (.T dm)=deps dm+1:=by simp[hH]
  have kB:=pN aN
  have rX:=pN a3
  have aP:=jg.length;have bc:=ig.length;have e5:=bT.length;have fc:=bP.length
  have vX:=eqs_sh I dL dm (A:=A.in1) aN a3 jg ig bT bP (by show A.units+1+deps dm<X7;lia)
  have au:∀j (aa:j<its.toArray.size) (ab:j<e3.toArray.size),SeqAt.EqAt A.in1 s its.toArray[j] e3.toArray[j] (jR xs ys j):=fun j aO aT=>by
   have:=vX j (by simpa using aO) (by simpa using aT)
   simpa using this
  have e:eqD (.tup xs) (.tup ys)=((Te (min its.toArray.size e3.toArray.size)).all (jR xs ys)&&its.toArray.size==e3.toArray.size):=by
   refine me ?_
   have aE:its.toArray.size=xs.length:=by simp;lia
   have a4:e3.toArray.size=xs.length:=by simp;lia
   rw[aE,a4,Nat.min_self,Tu]
   have:=AJ (xs:=xs) (ys:=ys) (n:=xs.length) (e:=jR xs ys) rfl (by lia) (fun j _=>pO)
   constructor
   ·intro h;rw[this.mp h.1]
   ·intro h;cases h;exact⟨this.mpr rfl,by simp⟩
  have rc:SeqAt.RcAt A s (.ref a) (.ref b) (eqD (.tup xs) (.tup ys)):=by rw[e];exact SeqAt.RcAt.tuples cH cn (by lia) au
  refine⟨rc,by rw[e];exact SeqAt.RcNeAt.tuples cH cn (by lia) au,?_⟩
  by_cases hU:a=b
  ·subst hU
   have:=na (.T dm) aa ab rV rW
   rw[this,ox]
   exact SeqAt.EqAt.same _
  ·exact SeqAt.EqAt.of_refs hU rc
 | .L sh,A,x,y,v,w,u,eS,aa,ab,av,aK,bZ,b0,bM=>by
  have rV:=av
  have rW:=aK
  obtain⟨xs,rfl,aN⟩:=rU aa;obtain⟨ys,rfl,a3⟩:=rU ab
  obtain⟨a,vs,rfl,ax,jg⟩:=av.lstV
  obtain⟨b,b7,rfl,ae,ig⟩:=aK.lstV
  cases bZ;cases b0
  obtain⟨its,bT,cx,_⟩:=I.list (cl.of (dL _ _ ax))
  obtain⟨e3,bP,cg,_⟩:=I.list (cl.of (dL _ _ ae))
  have cH:=cx.isList
  have cn:=cg.isList
  have ej:hH (.L sh)=hH sh+1:=by simp[hH]
  have aP:=jg.length;have bc:=ig.length;have e5:=bT.length;have fc:=bP.length
  have au:∀j (aa:j<its.toArray.size) (ab:j<e3.toArray.size),SeqAt.EqAt A.in1 s its.toArray[j] e3.toArray[j] (jR xs ys j):=fun j aO aT=>by
   have Kj:j<its.length:=by simpa using aO
   have Kk:j<e3.length:=by simpa using aT
   obtain⟨v1,ag,Kl⟩:=bT.getR (S8 Kj)
   obtain⟨v2,ao,pQ⟩:=bP.getR (S8 Kk)
   obtain⟨bC,bd,Km⟩:=jg.getV ag
   obtain⟨cb,bH,vY⟩:=ig.getV ao
   rw[AK bd bH]
   have:=(pP I dL sh (A:=A.in1) (aN bC (Tt bd)) (a3 cb (Tt bH)) Km vY Kl pQ (by show A.units+1+hH sh<X7;lia)).eq
   simpa using this
  by_cases hsz:its.toArray.size=e3.toArray.size
  ·have aE:its.toArray.size=xs.length:=by simp;lia
   have a4:xs.length=ys.length:=by simp at hsz;lia
   have e:eqD (.lst xs) (.lst ys)=(Te its.toArray.size).all (jR xs ys):=by
    refine me ?_
    rw[AJ (xs:=xs) (ys:=ys) aE a4 (fun j _=>pO)]
    constructor
    ·intro h;rw[h]
    ·intro h;cases h;rfl
   have rc:SeqAt.RcAt A s (.ref a) (.ref b) (eqD (.lst xs) (.lst ys)):=by rw[e];exact SeqAt.RcAt.lists cH cn hsz (by lia) au
   refine⟨rc,by rw[e];exact SeqAt.RcNeAt.lists cH cn hsz (by lia) au,?_⟩
   by_cases hU:a=b
   ·subst hU
    have:=na (.L sh) aa ab rV rW
    rw[this,ox]
    exact SeqAt.EqAt.same _
   ·exact SeqAt.EqAt.of_refs hU rc
  ·have e:eqD (.lst xs) (.lst ys)=false:=me (by
    constructor
    ·intro h;cases h
    ·intro h;cases h;simp at hsz;lia)
   have pR:(its.toArray.size != e3.toArray.size)=true:=by simpa using hsz
   have rc:SeqAt.RcAt A s (.ref a) (.ref b) (eqD (.lst xs) (.lst ys)):=by rw[e];exact SeqAt.RcAt.lists_lengths cH cn pR (by lia)
   refine⟨rc,by rw[e];exact SeqAt.RcNeAt.lists_lengths cH cn pR (by lia),?_⟩
   refine SeqAt.EqAt.of_refs (fun hU=>?_) rc
   subst hU
   have:=na (.L sh) aa ab rV rW
   cases this
   simp at hsz;lia
theorem eqs_sh(I:Inv X pins σ H s)(dL:cG B H):∀(dm:List gO){A:WV}{xs ys:List D}{vs b7:List V}{aG nb:List SC},hass dm xs=true->hass dm ys=true->Reps X.K B vs xs->Reps X.K B b7 ys->bV vs aG->bV b7 nb->A.units+deps dm<X7 ->
  ∀j (aa:j<aG.length) (ab:j<nb.length),SeqAt.EqAt A s aG[j] nb[j] (jR xs ys j)
 | [],A,[],ys,_,_,_,_,aa,ab,.nil,aK,.nil,b0,bM,j,aO,aT=>absurd aO (by simp)
 | [],A,x::xs,ys,_,_,_,_,aa,ab,av,aK,bZ,b0,bM,j,aO,aT=>by simp[hass]at aa
 | s::dm,A,[],ys,vs,b7,aG,nb,aa,ab,av,aK,bZ,b0,bM,j,aO,aT=>by simp[hass]at aa
 | s::dm,A,x::xs,[],vs,b7,aG,nb,aa,ab,av,aK,bZ,b0,bM,j,aO,aT=>by simp[hass]at ab
 | s::dm,A,x::xs,y::ys,v::vs,w::b7,u::aG,eS::nb,aa,ab,.cons c6 dw,.cons dt d4,.cons bC ej,.cons cb fv,bM,0,aO,aT=>by
  have pS:has s x=true:=by simp[hass]at aa;exact aa.1
  have pT:has s y=true:=by simp[hass]at ab;exact ab.1
  have rY:deps (s::dm)=max (hH s) (deps dm):=by simp[deps]
  have:=(pP I dL s (A:=A) pS pT c6 dt bC cb (by lia)).eq
  rw[AK (xs:=x::xs) (ys:=y::ys) (j:=0) rfl rfl]
  exact this
 | s::dm,A,x::xs,y::ys,v::vs,w::b7,u::aG,eS::nb,aa,ab,.cons c6 dw,.cons dt d4,.cons bC ej,.cons cb fv,bM,j+1,aO,aT=>by
  have pS:hass dm xs=true:=by simp[hass]at aa;exact aa.2
  have pT:hass dm ys=true:=by simp[hass]at ab;exact ab.2
  have rY:deps (s::dm)=max (hH s) (deps dm):=by simp[deps]
  have:=eqs_sh I dL dm (A:=A) pS pT dw d4 ej fv (by lia) j (by simpa using aO) (by simpa using aT)
  have e:jR (x::xs) (y::ys) (j+1)=jR xs ys j:=by
   rw[VD,pO,pO];simp
  rw[e]
  exact this
end
def vZ(K:Su)(ng:Bool):hy:=fun x y H Q=>∃B d e sh,b3 K B x d/\b3 K B y e/\cG B H/\has sh d=true/\has sh e=true/\hH sh<=50/\Q (.bl (if ng then !eqD d e else eqD d e)) H
theorem AL(bM:X.A.units+64<X7):eX X (W4 .Eq) (vZ X.K false):=by
 intro pins s σ H x y v u Q I ba cm h;obtain⟨B,d,e,sh,av,aK,dL,aa,ab,hd,q⟩:=h;exact(pP I dL sh (A:=X.A) aa ab av aK ba cm (by lia)).rc _ _ _ _ ⟨.bl _,H,I,rfl,q⟩
theorem AM(bM:X.A.units+64<X7):eX X (W4 .NotEq) (vZ X.K true):=by
 intro pins s σ H x y v u Q I ba cm h;obtain⟨B,d,e,sh,av,aK,dL,aa,ab,hd,q⟩:=h;exact(pP I dL sh (A:=X.A) aa ab av aK ba cm (by lia)).ne _ _ _ _ ⟨.bl _,H,I,rfl,q⟩
def AN(K:Su)(ng:Bool):hy:=fun x y H Q=>∃B d es sh,b3 K B x d/\(b3 K B y (.lst es)∨b3 K B y (.tup es))/\cG B H/\has sh d=true/\(∀e∈es,has sh e=true)/\hH sh<=50/\∀b:Bool,(b=true↔d∈es)->Q (.bl (if ng then !b else b)) H
noncomputable def lf(K:Su)(B:ai)(sh:gO)(d:D)(u:SC):Bool :=@decide (∃v,RelV v u/\b3 K B v d) (Uk _)
theorem v4{K:Su}{sh:gO}{d:D}{u:SC}:lf K B sh d u=true↔∃v,RelV v u/\b3 K B v d:=by unfold lf;exact @decide_eq_true_iff _ (Uk _)
theorem AO{v w:V}{u:SC}(aa:RelV v u)(ab:RelV w u):v=w:=by
 cases v<;>cases w<;>simp only[RelV]at aa ab<;>first
  | rfl
  | (obtain⟨t,rfl⟩:=aa;obtain⟨t',e⟩:=ab;cases e;rfl)
  | (obtain⟨t,rfl⟩:=aa;obtain⟨t',e⟩:=ab;cases e;done)
  | (obtain⟨t,rfl⟩:=aa;cases ab;done)
  | (obtain⟨t,rfl⟩:=ab;cases aa;done)
  | (subst aa;cases ab;rfl)
  | (subst aa;cases ab;done)
theorem AP{K:Su}{sh:gO}{d:D}{vs:List V}{es:List D}{its:List SC}(aa:has sh d=true)(ab:∀e∈es,has sh e=true)(r:Reps K B vs es)(l:bV vs its):its.toArray.any (lf K B sh d)=true↔d∈es:=by
 rw[show its.toArray.any (lf K B sh d)=its.any (lf K B sh d) by simp,List.any_eq_true];constructor
 ·rintro⟨u,bM,z⟩;obtain⟨v,lv,b2⟩:=v4.mp z;obtain⟨j,bz⟩:=UG bM;obtain⟨w,kq,pU⟩:=l.getR bz;cases AO lv pU;obtain⟨e,e7,iQ⟩:=r.getV kq;have l4:=Tt e7;rw[na sh aa (ab e l4) b2 iQ];exact l4
 ·intro m;obtain⟨j,bz⟩:=UG m;obtain⟨v,ev,b2⟩:=r.get bz;obtain⟨u,Kn,v5⟩:=l.get ev;exact⟨u,Tt Kn,v4.mpr ⟨v,v5,b2⟩⟩
theorem AQ(I:Inv X pins σ H s)(dL:cG B H){A:WV}{sh:gO}{d:D}{vs:List V}{es:List D}{its:List SC}{x:V}{v:SC}(aa:has sh d=true)(ab:∀e∈es,has sh e=true)(ba:b3 X.K B x d)(kB:RelV x v)(r:Reps X.K B vs es)(l:bV vs its)(bM:A.units+hH sh<X7):∀y,y∈its.toArray->SeqAt.EqAt A s y v (lf X.K B sh d y):=fun y aM=>by
 obtain⟨j,bz⟩:=UG (show y∈its by simpa using aM);obtain⟨w,kq,pU⟩:=l.getR bz;obtain⟨e,e7,iQ⟩:=r.getV kq;have au:=ab e (Tt e7);have q:=(pP I dL sh (A:=A) au aa iQ ba pU kB bM).eq
 have z:eqD e d=lf X.K B sh d y:=me (by
  rw[v4];constructor
  ·rintro⟨kg,l',c7⟩;cases AO l' pU;exact na sh au aa iQ c7
  ·rintro rfl
   exact⟨w,pU,iQ⟩)
 rw[<-z];exact q
theorem Ko(bM:X.A.units+64<X7):eX X (W4 .In) (AN X.K false):=by
 intro pins s σ H x y v u Q I ba cm h;obtain⟨B,d,es,sh,av,aK,dL,aa,ab,hd,q⟩:=h;rcases aK with aK|aK
 ·obtain⟨a,vs,rfl,ax,rs⟩:=aK.lstV;cases cm;obtain⟨its,bT,cx,_⟩:=I.list (cl.of (dL _ _ ax));exact SeqAt.in_listAt (lf X.K B sh d) cx.isList (AQ I dL (A:=X.A.in1) aa ab av ba rs bT (by show X.A.units+1+_<X7;lia)) ⟨.bl _,H,I,rfl,q _ (AP aa ab rs bT)⟩
 ·obtain⟨a,vs,rfl,ax,rs⟩:=aK.tupV;cases cm;obtain⟨its,bT,cx,_⟩:=I.tuple (eA.of (dL _ _ ax));exact SeqAt.in_tupleAt (lf X.K B sh d) cx (AQ I dL (A:=X.A.in1) aa ab av ba rs bT (by show X.A.units+1+_<X7;lia)) ⟨.bl _,H,I,rfl,q _ (AP aa ab rs bT)⟩
end
section
variable{K:Su}{X:aU}{a b:WP}{bw bA:bb}{pos:Pos}
def pV(ng:Bool)(bw bA:bb):bb:=fun ρ k=>bw ρ fun x=>bA ρ fun y=>∃sh,has sh x=true/\has sh y=true/\hH sh<=50/\k (.bl (if ng then !eqD x y else eqD x y))
def AR(ng:Bool)(bw bA:bb):bb:=fun ρ k=>bw ρ fun x=>bA ρ fun y=>∃sh es,(y=.lst es∨y=.tup es)/\has sh x=true/\(∀e∈es,has sh e=true)/\hH sh<=50/\∀b:Bool,(b=true↔x∈es)->k (.bl (if ng then !b else b))
theorem rZ{ta tb:bN}{ng:Bool}(ax:dR K ta bw)(ae:dR K tb bA):dR K (kn (vZ K ng) ta tb) (pV ng bw bA):=
 m3 ax ae fun x y k h R W B H σ ρ v w Q e ba cm q=>by
  obtain⟨sh,aa,ab,hd,ah⟩:=h;exact⟨B,x,y,sh,ba,cm,e.bh,aa,ab,hd,q _ _ B H ah e (bJ.refl _ _) (.bl _)⟩
theorem Kp{ta tb:bN}{ng:Bool}(ax:dR K ta bw)(ae:dR K tb bA):dR K (kn (AN K ng) ta tb) (AR ng bw bA):=
 m3 ax ae fun x y k h R W B H σ ρ v w Q e ba cm q=>by
  obtain⟨sh,es,aM,aa,ab,hd,ah⟩:=h;refine⟨B,x,es,sh,ba,?_,e.bh,aa,ab,hd,fun b ae=>q _ _ B H (ah b ae) e (bJ.refl _ _) (.bl _)⟩;rcases aM with rfl|rfl
  ·exact .inl cm
  ·exact .inr cm
theorem Kq(bM:X.A.units+64<X7)(ax:bn X a bw)(ae:bn X b bA)(aB:WT .Eq b=false):bn X (.Compare a [.Eq] [b] pos) (pV false bw bA):=by
 obtain⟨_,aa,av⟩:=ax;obtain⟨_,ab,aK⟩:=ae;exact⟨_,rm (AL bM) aa ab aB,rZ av aK⟩
theorem AS(bM:X.A.units+64<X7)(ax:bn X a bw)(ae:bn X b bA)(aB:WT .NotEq b=false):bn X (.Compare a [.NotEq] [b] pos) (pV true bw bA):=by
 obtain⟨_,aa,av⟩:=ax;obtain⟨_,ab,aK⟩:=ae;exact⟨_,rm (AM bM) aa ab aB,rZ av aK⟩
theorem AT(bM:X.A.units+64<X7)(ax:bn X a bw)(ae:bn X b bA)(aB:WT .Eq b=false):gj X (.Compare a [.Eq] [b] pos) (hF (pV false bw bA)):=by
 obtain⟨_,aa,av⟩:=ax;obtain⟨_,ab,aK⟩:=ae;exact⟨_,lV (AL bM) aa ab aB,m4 (rZ av aK)⟩
theorem v6(bM:X.A.units+64<X7)(ax:bn X a bw)(ae:bn X b bA)(aB:WT .NotEq b=false):gj X (.Compare a [.NotEq] [b] pos) (hF (pV true bw bA)):=by
 obtain⟨_,aa,av⟩:=ax;obtain⟨_,ab,aK⟩:=ae;exact⟨_,lV (AM bM) aa ab aB,m4 (rZ av aK)⟩
theorem AU(bM:X.A.units+64<X7)(ax:bn X a bw)(ae:bn X b bA)(aB:WT .In b=false):gj X (.Compare a [.In] [b] pos) (hF (AR false bw bA)):=by
 obtain⟨_,aa,av⟩:=ax;obtain⟨_,ab,aK⟩:=ae;exact⟨_,lV (Ko bM) aa ab aB,m4 (Kp av aK)⟩
end
end L3
namespace L3
open PySem L2
open PySem.Builtin.Int (intBits)
theorem Kr{K:Su}{P:WF}{w:WU}{mg:Str->Option SC}{base:WY}{x qual:Str}{st:W0}{f:Tl}{fd:Xf}{N ps:List Str}{lv n:Nat}{F:cw}(pF:kr K x qual st f fd)(S:cL N ps (b8 st))(aH:ps.length=n)(gu:∀(cdv:SC) (A:WV) (outer:List Tv) (s:SL) (H:ai) (E:fF),eF lv (A.deeper (Vz qual (b8 st) s.heap.objs.size f cdv))->∃u,hD (jD iK P w K mg base N qual (b8 st) f cdv A outer s H E).nox (iJ st) u/\∀as k,as.length=n->F as k->u { nx:=fun _=>k (.val .non),rt:=k } (as++SQ (N.length-n) .no)):h8 P w K mg base iK (lv+1) f fd ps (a0 K n F):=by
 refine pF.ok S (fun vs H Q E h=>?_) (fun cdv A outer s H vs Q E am h=>?_)
 ·obtain⟨W,B,as,k,_,ay,_,_,_,el,_⟩:=h;rw[el.length,ay,aH]
 ·obtain⟨W,B,as,k,dA,ay,ae,dL,hw,el,q⟩:=h;obtain⟨u,⟨t,aR,rt⟩,bM⟩:=gu cdv A outer s H E am;have ev:=aX.start (N:=N) (VA ae) dL hw el;rw[ay]at ev;refine⟨t,aR,rt _ _ (bM as k ay dA) H W B H (L2.start N vs) _ ev ⟨fun ρ σ aF af h e g=>?_,fun _ _ _ _ h=>h.elim,fun _ _ _ _ h=>h.elim,fun r v aF af h e g z=>q r v aF af h ⟨e,g,z⟩⟩⟩;exact q _ _ aF af h ⟨e.toWd,g,.non⟩
def r0(K:Su):g7:=fun vs H Q _=>∃(a:Tl)(ns:List Int),vs=[.ref a]/\cl K H a (ns.map V.int)/\ns.length<=63/\∀af,Q (.bl true) af
def AV:cw:=fun as k=>∃ns:List Int,as=[.val (.scr ns)]/\ns.length<=63/\k (.val (.bl true))
theorem Ks{K:Su}{vs:List V}{H:ai}{Q:cc}{E:fF}(h:r0 K vs H Q E):a0 K 1 AV vs H Q E:=by
 obtain⟨a,ns,rfl,dH,ay,q⟩:=h;refine⟨fun _=>False,H,[.val (.scr ns)],fun r=>r=.val (.bl true),⟨ns,rfl,ay,rfl⟩,rfl,rfl,cG.refl _,fun _ z=>z.elim,.val (.scr dH) .nil,fun r v aF af am ex=>?_⟩;subst am;have:=ex.res;rw[b3.blV this];exact q af
def AW(K:Su):g7:=fun vs H Q _=>∃(a:Tl)(k:Int)(ns:List Int),vs=[.ref a,.int k]/\cl K H a (ns.map V.int)/\0<=k/\∀z,Q (.int z) H
def v7:cw:=fun as k=>∃(ns:List Int)(i:Int),as=[.val (.scr ns),.val (.int i)]/\0<=i/\∀z:Int,k (.val (.int z))
theorem Wd.entry{H B:ai}{W:Tl->Prop}(dL:cG B H)(hw:∀a,W a->B a=none/\fw H a):Wd H W B H :=
 ⟨fun _ _ h _=>h,dL,fun a h=>(hw a h).1,fun a h=>(hw a h).2,fun a h=>by obtain⟨x,y,q,_⟩:=(hw a h).2;rw[q];simp⟩
theorem Kt{K:Su}{vs:List V}{H:ai}{Q:cc}{E:fF}(h:a0 K 2 v7 vs H Q E):AW K vs H Q E:=by
 obtain⟨W,B,as,k,⟨ns,i,rfl,aC,ah⟩,ay,ae,dL,hw,el,q⟩:=h;cases el with
 | val av el=>cases el with
  | val aK el =>
   cases el;obtain⟨a,rfl,ax⟩:=av.scrV;cases aK.intV;exact⟨a,i,ns,rfl,dL.seq ax,aC,fun z=>q _ _ B H (ah z) ⟨Wd.entry dL hw,bJ.refl _ _,.int z⟩⟩
def AX:g7:=fun vs H Q _=>∃c:Int,vs=[.int c]/\∀(b:Tl)(x y:Int),H b=none->0<=x->0<=y->y<2147483647->Q (.ref b) (upd H b (.lst [.int x,.int y]))
def v8:cw:=fun as k=>∃c:Int,as=[.val (.int c)]/\k .bag
theorem Ku{K:Su}{vs:List V}{H:ai}{Q:cc}{E:fF}(h:a0 K 1 v8 vs H Q E):AX vs H Q E:=by
 obtain⟨W,B,as,k,⟨c,rfl,ah⟩,ay,ae,dL,hw,el,q⟩:=h;cases el with
 | val av el =>
  cases el;cases av.intV;refine⟨c,rfl,fun b x y aH dI y0 dN=>?_⟩;have wd:=Wd.entry dL hw;exact q .bag _ B _ ah ⟨wd.allocH aH _,bJ.refl _ _,b,rfl,aH,(wd.fresh aH).2.2,x,y,ei,dI,y0,dN⟩
def AY(lim:Nat):g7:=fun vs H Q _=>∃(b:Tl)(m:Int),vs=[.ref b,.int m]/\fw H b/\0<m/\TE m<=lim/\∀(r:Int)(af:ai),pz b H af->fw af b->0<=r->r<m->Q (.int r) af
def mf(lim:Nat):cw:=fun as k=>∃m:Int,as=[.bag,.val (.int m)]/\0<m/\TE m<=lim/\∀r:Int,0<=r->r<m->k (.val (.int r))
theorem Kv{K:Su}{lim:Nat}{vs:List V}{H:ai}{Q:cc}{E:fF}(h:a0 K 2 (mf lim) vs H Q E):AY lim vs H Q E:=by
 obtain⟨W,B,as,k,⟨m,rfl,cS,fE,ah⟩,ay,ae,dL,hw,el,q⟩:=h;cases el with
 | bag e6 el=>cases el with
  | val aK el =>
   cases el;cases aK.intV
   rename_i b
   refine⟨b,m,rfl,(hw b e6).2,cS,fE,fun r af ex jN ff av=>?_⟩;have wd:=Wd.entry dL hw;refine q _ _ B af (ah r ff av) ⟨⟨fun a o aa ab=>ex a o (by rintro rfl;exact ab e6) aa,fun a o aa=>ex a o (by rintro rfl;rw[(hw _ e6).1]at aa;cases aa) (dL a o aa),wd.wb,fun a z=>?_,wd.wr⟩,bJ.refl _ _,.int r⟩;by_cases e:a=b
   ·subst e;exact jN
   ·obtain⟨x,y,aa,ab⟩:=(hw a z).2;exact⟨x,y,ex a _ e aa,ab⟩
theorem gk{c:Bool}{A B:Prop}(h:c=true)(a:A):if c=true then A else B:=by rw[TI h];exact a
theorem gl{c:Bool}{A B:Prop}(h:c=false)(b:B):if c=true then A else B:=by rw[h,TT SP];exact b
theorem v9{x y:D}{A B:Prop}(aa:x≠y->A)(ab:x=y->B):if(!eqD x y)=true then A else B:=by
 by_cases h:x=y
 ·rw[pM.mpr h];exact ab h
 ·have:eqD x y=false:=by
   cases q:eqD x y with
   | false=>rfl
   | true=>exact absurd (pM.mp q) h
  rw[this];exact aa h
theorem dx{u:cM}{U:gw}{ρ r:List aI}(e:ρ=r)(h:u U r):u U ρ:=by rw[e];exact h
theorem lg{s t:cM}{U:gw}{ρ:List aI}(first:∀N:List aI->Prop,N ρ->s { U with nx:=N } ρ)(rest:t U ρ):k6 s t U ρ:=first (t U) rest
theorem gm{s t:cM}{U:gw}{ρ:List aI}(I:List aI->Prop)(rest:∀bf,I bf->t U bf)(first:∀N:List aI->Prop,(∀bf,I bf->N bf)->s { U with nx:=N } ρ):k6 s t U ρ:=first _ rest
end L3
namespace L3
open PySem L2
section
variable{X:aU}
theorem fi{bm cs:List (Str×Tl)}(h:∀p∈bm,cs.lookup p.1=some p.2):∀y c,bm.lookup y=some c->cs.lookup y=some c:=fun y c e=>h (y,c) (TZ e)
theorem fB{names:List (Str×Yi)}{bm:List (Str×Tl)}(h:(names.all fun p => !(p.2==.cell||p.2==.free)||(bm.lookup p.1).isSome)=true):∀y,(names.lookup y=some .cell∨names.lookup y=some .free)->∃c,bm.lookup y=some c:=fun y e=>by
 have key:∀k:Yi,(k==.cell||k==.free)=true->names.lookup y=some k->∃c,bm.lookup y=some c:=fun k ah e=>by
  have q:=Ul.mp h (y,k) (TZ e);have q:(!(k==.cell||k==.free)||(bm.lookup y).isSome)=true:=q;rw[ah]at q;exact Vp.mp (by simpa using q)
 rcases e with e|e
 ·exact key _ rfl e
 ·exact key _ rfl e
end
end L3
namespace L2
open PySem PySem.Spec PyProof.Rows
def jh(X:aU)(cB:List WP)(tt:dC):Prop:=∀(pins:List (Tl×Obj))(s:SL)(σ:St)(H:ai)(Q:Bool->ai->Prop),Inv X pins σ H s->tt σ H Q ->
 wpAny (UV X.prog X.w) X.A (forIn cB true fun t r=>if r=true then do let z <-Yb t X.env (W7 t X.env);pure (Um z)else pure (Um r)) (ra X pins σ Q) X.xe s
def Kw:dC:=fun _ H Q=>Q true H
theorem Kx{X:aU}:jh X [] Kw:=fun _ _ _ H _ I h=>wpAny_tests_nil ⟨H,I,h⟩
theorem Ky{X:aU}{c:WP}{tt:dC}(h:hN X c tt):jh X [c] tt:=fun pins s σ H Q I q=>wpAny_tests_one (h pins s σ H Q I q)
theorem Kz{P:WF}{w:WU}{A:WV}{R:YE->SL->Prop}{s:SL}{b6 a6 src:WP}{cB:List WP}{sc:W'}{ps:Pos}{kk acc:SC}{env:Tv}(pW:Nat->SL->Prop)(n:Nat)(bY:pW n s)(turn:∀n s,pW n s->wpAny (UV P w) A (Yg kk) (fun r aE=>match r with
   | none=>R (.ok .next) aE
   | some v=>wpAny (UV P w) A (Xk a6 kk v) (fun _ sg=>wpAny (UV P w) A (Yc a6 env v) (fun _ a4 =>
     wpAny (UV P w) A (forIn cB true fun t r=>if r=true then do let z <-Yb t env (W7 t env);pure (Um z)else pure (Um r)) (fun z a8 =>
      if z=true then wpAny (UV P w) A (W7 b6 env) (fun y eW=>wpAny (UV P w) A (call (.builtin "list.append") [acc,y]) (fun _ d3=>∃m,m<n/\pW m d3) (YB (UV P w) A env fun e s'=>R (.error e) s') eW) (YB (UV P w) A env fun e s'=>R (.error e) s') a8
      else ∃m,m<n/\pW m a8) (YB (UV P w) A env fun e s'=>R (.error e) s') a4) (YB (UV P w) A env fun e s'=>R (.error e) s') sg) (YB (UV P w) A env fun e s'=>R (.error e) s') aE) (YB (UV P w) A env fun e s'=>R (.error e) s') s):
  codeAny (UV P w) A (.compLoop (.ListComp b6 [⟨a6,src,cB,0⟩] sc ps) 0 kk acc env) R s:=by
 refine codeAny_loop rfl pW (fun k s' a'=>?_) n bY;show wpAny _ A ((XA (.ListComp b6 [⟨a6,src,cB,0⟩] sc ps) 0 kk acc env).onRaise (fun z=>do noteFrame z env;theTreesLotGoes z)) _ _ s';rw[compTurn_list];refine wpAny_noted (SB (Xb (SB (WR (turn k s' a') (fun r aE aa=>?_) fun _ _ z=>z))));cases r with
 | none=>exact TD aa
 | some v =>
  refine SB (WR aa (fun _ sg aD=>SB (WR aD (fun _ a4 ab=>SB (WR ab (fun z a8 aQ=>?_) fun _ _ q=>q)) fun _ _ q=>q)) fun _ _ q=>q);cases z with
  | false=>exact TD ⟨rfl,aQ⟩
  | true=>exact SB (SB (WR aQ (fun y eW bB=>SB (WR bB (fun _ d3 ek=>TD (TD ⟨rfl,ek⟩)) fun _ _ q=>q)) fun _ _ q=>q))
def KA(J:gf)(g:eI)(tt:dC)(bI:bN)(v':St)(D:Tl)(aw:ai)(Q:cc):Prop:=∃W:Nat->Nat->St->ai->Prop,(∃m,W 0 m v' (upd aw D (.lst [])))/\∀i m σ H,W i m σ H ->
 (J.stop i H/\Q (.ref D) H)∨(J.go i H/\∀x af,J.yld i H x af->g x σ af fun kl aV=>tt kl aV fun b ca=>if b=true then bI kl ca fun y hV=>∃ys,hV D=some (.lst ys)/\ys.length<SZ/\∃df,df<m/\W (i+1) df kl (upd hV D (.lst (ys++[y])))else ∃df,df<m/\W (i+1) df kl ca)
def pX(wi:bQ)(g:eI)(tt:dC)(bI:bN)(c':Nat)(js:List Nat):bN:=fun σ H Q=>wi σ H fun J aw=>∀D,aw D=none->KA J g tt bI (SQ c' none++fu σ js) D aw Q
section
variable{X:aU}
structure lh (X:aU) (scope:W') (bm:List (Str×Tl)) (fr:List Str) (js:List Nat):Prop where
 clos:Yu scope X.env=pure bm
 cell:∀y∈scope.names,y.2≠.cell
 kind:scope.kind=.function
 names:∀y∈scope.names,y.2=.local->scope.names.lookup y.1=some .local
 sub:∀y c,bm.lookup y=some c->X.env.cells.lookup y=some c
 has:∀y,((relabel scope X.env).names.lookup y=some .cell∨(relabel scope X.env).names.lookup y=some .free)->∃c,bm.lookup y=some c
 frn:∀(i:Nat)(y:Str),fr[i]?=some y->∃j:Nat,js[i]?=some j/\X.N[j]?=some y/\X.env.kindOf y=some .cell/\((relabel scope X.env).names.lookup y=some .cell∨(relabel scope X.env).names.lookup y=some .free)/\∃c,bm.lookup y=some c
 len:js.length=fr.length
theorem AZ{b6 cA a6:WP}{cB:List WP}{pos:Pos}{scope:W'}{bm:List (Str×Tl)}{ts fr:List Str}{js:List Nat}{wi:bQ}{g:eI}{tt:dC}{bI:bN}{use:Option (SC->Sem Unit)}{RQ:SC->SL->Prop}{QE:cc}(aC:hv X a6 cA wi)(aD:∀C s H ex,hr (cC X (ts++fr) scope bm C s H ex) a6 g)(gA:∀C s H ex,jh (cC X (ts++fr) scope bm C s H ex) cB tt)(iR:∀C s H ex,b5 (cC X (ts++fr) scope bm C s H ex) b6 bI)(F:lh X scope bm fr js)(hc:X.calm=true)(ak:∀v,Wp cA X.env v=pure v){pins:List (Tl×Obj)}{s:SL}{σ:St}{H:ai}(I:Inv X pins σ H s)(h:pX wi g tt bI ts.length js σ H QE)(pY:Sem SC)(wa:pY=newList [])(gP:Pos)(iS:∀(D C:Tl) (dJ:ai) (dZ:SL) (m:Str->Option SC),dZ.heap.Ns C m->dJ C=none->C≠X.env.locals->X.s₀.heap.objs.size<=C->(∀x c,X.env.cells.lookup x=some c->c≠C)->(∀p∈X.pn++pins,p.1≠C)->C∉X.fs->(∀h':WY,(∀b u,b≠C->dZ.heap.get? b=some u->h'.get? b=some u)->Inv X pins σ dJ { dZ with heap:=h' })->QE (.ref D) dJ->Ym (UV X.prog X.w) X.A X.xe use RQ (.ref D) C (.ok .next) dZ):
  wpAny (UV X.prog X.w) X.A (Yn (.ListComp b6 [⟨a6,cA,cB,0⟩] scope pos) scope X.env gP pY false (W7 cA X.env) use) RQ X.xe s:=by
 refine XD (use:=use) rfl ak F.clos F.kind F.names (b9 (aC pins s σ H _ I h) fun A0 aE aa=>b9 aa fun kk a4 ab=>?_);obtain⟨it,bO,e2,J,aV,rfl,dg,T,hx,bH,ab⟩:=ab;have e4:aV a4.heap.objs.size=none:=dg.fresh;obtain⟨W,⟨cS,eU⟩,turn⟩:=ab _ e4;rw[wa];refine WX ?_;have bU:Inv X pins σ (upd aV a4.heap.objs.size (.lst [])) { a4 with heap:=a4.heap.push { cls:=.type "list",data:=.seq ([]:List SC).toArray } }:=dg.lnew (t':=a4.toks) (its:=[]) .nil (by show 0<=SZ;decide);generalize wc:({ a4 with heap:=a4.heap.push { cls:=.type "list",data:=.seq ([]:List SC).toArray } }:SL)=a8 at bU;have be:a8.heap=a4.heap.push { cls:=.type "list",data:=.seq ([]:List SC).toArray }:=by rw[<-wc]
 generalize pZ:upd aV a4.heap.objs.size (.lst [])=ca at bU eU;generalize we:a4.heap.objs.size=D at e4 pZ eU turn;have eN:∀b o,a4.heap.get? b=some o->a8.heap.get? b=some o:=fun b o e=>by rw[be];exact Heap.get?_push_of_some _ e
 have bW:∀b∈bO,eV X pins ca b:=fun b ae=>by
  obtain⟨o,aA,_⟩:=T.obj _ _ hx b ae;have lt:=Heap.lt_size aA;refine⟨?_,(bH b ae).2⟩;rw[<-pZ,b1 (by rw[<-we];exact S4 lt)];exact(bH b ae).1
 refine Xq F.cell (by intro y aM;simp at aM) (fun aa l2 oy=>?_) F.kind;have wf:a8.heap.get? a8.heap.objs.size=none:=Heap.get?_none_of_le (SD _);have eC:∀b o,a8.heap.get? b=some o->aa.get? b=some o:=fun b o e=>oy.extBut b o (S4 (Heap.lt_size e)) (Heap.get?_push_of_some _ e);show codeAny (UV X.prog X.w) X.A (.compStart (.ListComp b6 [⟨a6,cA,cB,0⟩] scope pos) 0 (.ref it) (.ref D) (Xz scope bm a8.heap.objs.size X.env)) (Ym (UV X.prog X.w) X.A X.xe use RQ (.ref D) a8.heap.objs.size) _
 have ok:(cC X (ts++fr) scope bm a8.heap.objs.size a8 ca bO).Ok:=by
  refine⟨bU.ok.mod,F.kind,bU.ok.glob,bU.ok.blt,SD _,fun y z c ag ao=>bU.ok.inj y z c (F.sub _ _ ag) (F.sub _ _ ao),fun y aM=>F.has y aM,fun y c z=>absurd z SP,bU.ok.hd,bU.ok.frames,.inl rfl,fun b ae=>?_,bU.bs,SA bU.ok.bsz bU.sz,
   fun b o e ae=>?_,fun b ae bG=>?_,bU.stack,bU.stkFree,bU.tabs⟩
  ·obtain⟨o,aA,_⟩:=T.obj _ _ hx b ae;exact⟨S4 (Heap.lt_size (eN b o aA)),fun y c e=>(bW b ae).2.2.2.2.1 y c (F.sub _ _ e)⟩
  ·obtain⟨_,_,_,z,_⟩:=bW b ae;rcases z with z|z
   ·exact bU.ok.noex b o e z
   ·exact absurd (S5 (Heap.lt_size (bU.ok.bs b o e).1) z) (S6 _)
  ·rcases Sy.mp (bU.stkSub b bG)with z|z
   ·exact(bW b ae).2.1 z
   ·exact(bW b ae).2.2.1 z
 have wg:∀(dh:WY),(∀b u,a8.heap.get? b=some u->dh.get? b=some u)->∀(i:Nat)(y:Str)(v:V),fr[i]?=some y->(fu σ js)[i]?=some (some v)->∃u,RelV v u/\∀m,Look (Xz scope bm a8.heap.objs.size X.env) dh m y u:=fun dh aW i y v ag ao=>by
  obtain⟨j,nc,nf,ah,wj,c,gQ⟩:=F.frn i y ag
  have p0:σ[j]?=some (some v):=by
   unfold fu at ao;rw[S7,nc,T5]at ao;have ao:=SM ao;cases q:σ[j]? with
   | none=>rw[q]at ao;simp at ao
   | some z=>rw[q]at ao;simpa using ao
  obtain⟨m,aH,ay⟩:=bU.loc;obtain⟨u,r,l⟩:=ay j y v nf p0 (.inr (.inl ah));refine⟨u,r,fun df=>.inr ⟨wj,c,gQ,?_⟩⟩;rcases l with⟨z,_⟩|⟨_,cu,hM,wk⟩
  ·rw[ah]at z;cases z
  ·have e:=F.sub _ _ gQ;rw[hM]at e;cases e;obtain⟨hb,aN,a3⟩:=wk;exact⟨hb,aW _ _ aN,a3⟩
 have g4:Inv (cC X (ts++fr) scope bm a8.heap.objs.size a8 ca bO) [] (SQ ts.length none++fu σ js) ca { a8 with heap:=aa,toks:=a8.toks+([]:List (Str×SC)).length }:=by
  refine⟨ok,rfl,bU.bare,ez.kept eC,⟨_,l2,fun i y v ag ao be=>?_⟩,fun y c e=>?_,bU.fresh,fun y c e=>bU.freeC y c (F.sub _ _ e),fun p aq=>absurd (show p∈([]:List (Tl×Obj))from aq) (by simp),bU.hok.kept eC,?_⟩
  ·by_cases c9:i<ts.length
   ·rw[TK (by simpa using c9),T4,TI c9]at ao;cases ao
   ·have ag:(ts++fr)[i]?=some y:=ag;rw[Ts (by lia)]at ag;rw[Ts (by simp;lia),TB]at ao;obtain⟨u,r,l⟩:=wg aa eC _ y v ag ao;exact⟨u,r,l _⟩
  ·obtain⟨v,hb,aN,a3⟩:=bU.cell y c (F.sub _ _ e);exact⟨v,hb,eC _ _ aN,a3⟩
  ·show _=(ts++fr).length
   rw[SE,SE,TB];unfold fu;rw[Sz,F.len]
 have iG:∀{af:ai},(∀b∈bO,af b=none)->∀b∈bO,eV (cC X (ts++fr) scope bm a8.heap.objs.size a8 ca bO) [] af b:=fun aH b ae=>by
  obtain⟨o,aA,_⟩:=T.obj _ _ hx b ae;exact⟨aH b ae,(ok.exf b ae).1,ok.exfs b ae,.inl ae,(ok.exf b ae).2,fun p aq=>absurd (show p∈([]:List (Tl×Obj))from aq) (by simp)⟩
 have loop:∀eW:SL,eW={ a8 with heap:=aa,toks:=a8.toks+([]:List (Str×SC)).length } ->
   codeAny (UV X.prog X.w) X.A (.compLoop (.ListComp b6 [⟨a6,cA,cB,0⟩] scope pos) 0 (.ref it) (.ref D) (Xz scope bm a8.heap.objs.size X.env)) (Ym (UV X.prog X.w) X.A X.xe use RQ (.ref D) a8.heap.objs.size) eW:=by
  intro eW ci;rw[<-ci]at g4;have wl:e2 0 eW.heap:=T.keep _ _ _ hx fun b _ o e=>by rw[ci];exact eC b o (eN b o e)
  refine Kz (fun n s'=>∃i a1 af,Inv (cC X (ts++fr) scope bm a8.heap.objs.size a8 ca bO) [] a1 af s'/\e2 i s'.heap/\(∀b∈bO,af b=none)/\W i n a1 af) cS ⟨0,_,ca,g4,wl,fun b ae=>(bW b ae).1,eU⟩ ?_;rintro n d3 ⟨i,jS,dJ,I5,kY,mM,wm⟩;rcases turn i n jS dJ wm with⟨stop,q⟩|⟨go,step⟩
  ·refine b9 (T.done (cC X (ts++fr) scope bm a8.heap.objs.size a8 ca bO) rfl rfl rfl hc i [] d3 jS dJ _ I5 (iG mM) kY stop) fun r dZ ⟨am,fG⟩=>?_;subst am;obtain⟨m,aH,_⟩:=id fG.loc;refine iS D a8.heap.objs.size dJ dZ m aH fG.free (TA bU.lt) bU.sz (fun y c e z=>?_) (fun p aq z=>?_) (bU.nofs (SD _)) (fun h' p1=>?_) q
   ·obtain⟨v,hb,aN,a3⟩:=bU.cell y c e;exact absurd (Heap.lt_size aN) (by rw[z];exact S6 _)
   ·exact absurd (Heap.lt_size (bU.pin p aq).1) (by rw[z];exact S6 _)
   ·refine bU.call' (s':={ dZ with heap:=h' }) (ch:=bO) fG.os ((show ez (frs X.stack) bO ca dJ a8.heap dZ.heap from fG.base).but wf p1) (fG.hok.but fG.free p1) fG.bare (fun b ae=>?_);obtain⟨_,aP,_,e5,fc,jT⟩:=bW b ae;exact⟨e5,aP,fc,jT⟩
  ·refine b9 (T.item (cC X (ts++fr) scope bm a8.heap.objs.size a8 ca bO) rfl rfl rfl hc i [] d3 jS dJ _ I5 (iG mM) kY go) fun r dZ ⟨u,am,fO⟩=>?_;subst am;refine b9 fO fun _ gs ⟨v,g6,gL,pj,wn,nh,wo⟩=>?_;have wq:=gL.pinned (iG wo) (T.obj _ _ nh)
   have back:∀{gn:SL}{li:St}{iT:ai}{gI:Nat},Inv (cC X (ts++fr) scope bm a8.heap.objs.size a8 ca bO) ([]++n5 bO gs.heap) li iT gn->W (i+1) gI li iT->∃i a1 af,Inv (cC X (ts++fr) scope bm a8.heap.objs.size a8 ca bO) [] a1 af gn/\e2 i gn.heap/\(∀b∈bO,af b=none)/\W i gI a1 af:=fun{gn li iT gI} iU lj=>by
    refine⟨i+1,li,iT,iU.unpinned (pins:=[]),T.keep _ _ _ nh fun b ae hb e7=>(iU.pin (b,hb) (SN _ (SN _ (n6 ae e7)))).1,fun b ae=>?_,lj⟩;obtain⟨hb,e7,_⟩:=T.obj _ _ nh b ae;exact(iU.pin (b,hb) (SN _ (SN _ (n6 ae e7)))).2.1
   refine WR (aD a8.heap.objs.size a8 ca bO _ gs jS g6 v u _ wq pj (step v g6 wn)) (fun _ kC ⟨r1,ws,wt,wu⟩=>?_) (fun _ _ z=>z.elim);refine WR (gA a8.heap.objs.size a8 ca bO _ kC r1 ws _ wt wu) (fun b gn ⟨iT,iU,lm⟩=>?_) (fun _ _ z=>z.elim);cases b with
   | false =>
    rw[TT SP]at lm ⊢;obtain⟨df,iV,lj⟩:=lm;exact⟨df,iV,back iU lj⟩
   | true =>
    rw[TI rfl]at lm ⊢;refine WR (iR a8.heap.objs.size a8 ca bO _ gn _ iT _ iU lm) (fun wv gR ⟨y,p2,ww,wx,ys,p3,wy,df,iV,KB⟩=>?_) (fun _ _ z=>z.elim);have mt:=rv (X:=cC X (ts++fr) scope bm a8.heap.objs.size a8 ca bO) _ gR _ p2 (.ref D) [y] (.ref D) [wv] (fun _ af=>af=upd p2 D (.lst (ys++[y]))) ww rfl (.cons wx .nil) ⟨D,ys,y,rfl,rfl,p3,wy,rfl⟩;refine WR mt (fun _ hI ⟨_,KC,wz,_,lp⟩=>?_) (fun _ _ z=>z.elim);subst lp;exact⟨df,iV,back wz KB⟩
 exact XJ (loop _ rfl) (T.self _ 0 _ _ _ (T.keep _ _ _ hx fun b _ o e=>eC b o (eN b o e)) (loop _ rfl))
theorem A1{b6 cA a6:WP}{cB:List WP}{pos:Pos}{scope:W'}{bm:List (Str×Tl)}{ts fr:List Str}{js:List Nat}{wi:bQ}{g:eI}{tt:dC}{bI:bN}(aC:hv X a6 cA wi)(aD:∀C s H ex,hr (cC X (ts++fr) scope bm C s H ex) a6 g)(gA:∀C s H ex,jh (cC X (ts++fr) scope bm C s H ex) cB tt)(iR:∀C s H ex,b5 (cC X (ts++fr) scope bm C s H ex) b6 bI)(F:lh X scope bm fr js)(hc:X.calm=true)(ak:∀v,Wp cA X.env v=pure v):b5 X (.ListComp b6 [⟨a6,cA,cB,0⟩] scope pos) (pX wi g tt bI ts.length js):=by
 intro pins s σ H Q I h;rw[eval_ListComp];refine AZ aC aD gA iR F hc ak I h _ rfl _ fun D C dJ dZ m aH _ _ _ _ _ _ hs q=>⟨m,aH,fun h' ni=>⟨.ref D,dJ,hs h' fun b u ae e=>ni.extBut b u ae e,rfl,q⟩⟩
theorem KD{b6 cA a6:WP}{cB:List WP}{pos:Pos}{scope:W'}{bm:List (Str×Tl)}{ts fr:List Str}{js:List Nat}{wi:bQ}{g:eI}{tt:dC}{bI:bN}{i:Nat}{y:Str}{gJ p4:Pos}(cd:X.N.Nodup)(wA:X.N[i]?=some y)(aM:X.env.scope.names.lookup y=some .local)(aC:hv X a6 cA wi)(aD:∀C s H ex,hr (cC X (ts++fr) scope bm C s H ex) a6 g)(gA:∀C s H ex,jh (cC X (ts++fr) scope bm C s H ex) cB tt)(iR:∀C s H ex,b5 (cC X (ts++fr) scope bm C s H ex) b6 bI)(F:lh X scope bm fr js)(hc:X.calm=true)(ak:∀v,Wp cA X.env v=pure v)(le:Xj (.ListComp b6 [⟨a6,cA,cB,0⟩] scope pos) (some (.Name y gJ)) p4.line X.env=pure true):
  hp X (.Assign [.Name y gJ] (.ListComp b6 [⟨a6,cA,cB,0⟩] scope pos) p4) (uZ (pX wi g tt bI ts.length js) (rf i)):=by
 intro pins s σ H D I h;rw[exec_Assign_Name_used _ _ _ _ le];refine SB (Xb (SB ?_));show wpAny _ X.A (do let _ <-Yn (.ListComp b6 [⟨a6,cA,cB,0⟩] scope pos) scope X.env _ (newList []) false (W7 cA X.env) (some (Yc (.Name y gJ) X.env))) _ _ s
 refine SB (b9 (AZ (RQ:=fun _ s'=>∃a1 af,Inv X pins a1 af s'/\D.nx a1 af) (QE:=fun v aw=>rf i v σ aw D.nx) aC aD gA iR F hc ak I h _ rfl _ ?_) fun _ s' q=>TD (TD q));intro L C dJ dZ m aH bG cZ hsz gQ KF KG hs q;obtain⟨o,es,c3,aA,hd,r⟩:=id aH;have fG:Inv X pins σ dJ dZ:=hs dZ.heap fun b u _ e=>e
 have KH:Inv X (pins++[(C,o)]) σ dJ dZ:=fG.pins_of fun p aq=>by
  rcases SI.mp aq with z|z
  ·exact fG.pin p (SN _ z)
  ·have z:p=(C,o):=by simpa using z
   subst z;exact⟨aA,bG,cZ,KG,fun v z=>by rw[hd]at z;cases z⟩
 show wpAny _ X.A (Yc (.Name y gJ) X.env (.ref L)) _ _ _
 refine wpAny_assign_Name (nZ KH cd wA (.inl aM) (v:=.ref L) rfl (fun gs gL=>?_) (.inr aM));have r2:gs.heap.get? C=some o:=(gL.pin (C,o) (SN _ (SN _ (S'.mpr rfl)))).1;refine⟨m,⟨o,es,c3,r2,hd,r⟩,fun h' ni=>⟨_,dJ,?_,q⟩⟩;exact gL.unpinned.turned (t':=gs.toks) (fun b u ae e=>ni.extBut b u ae e) bG cZ (.inr hsz) gQ KF
end
end L2
namespace L3
open PySem L2
def fP(g:ec)(cz:c5)(u:bb):List D->List aI->(List D->Prop)->Prop
 | [],_,k=>k []
 | d::ds,ρ,k=>g d ρ fun eM=>cz eM fun b=>if b=true then u eM fun y=>fP g cz u ds eM fun ys=>k (y::ys)else fP g cz u ds eM k
def ii:c5:=fun _ k=>k true
def nj(w:dk)(g:ec)(cz:c5)(u:bb)(c':Nat)(js:List Nat):dk:=fun ρ k=>w ρ fun ds=>ds.length<=SZ/\fP g cz u ds (SQ c' .no++js.map (gz ρ)) k
section
variable{K:Su}{X:aU}{e:WP}{es:List WP}{u:bb}{w:dk}{pos p:Pos}
theorem wB{ρ:List aI}(j:Nat):gz ρ j=.no∨(∃d,gz ρ j=.val d/\ρ[j]?=some (.val d))∨(gz ρ j=.bag/\ρ[j]?=some .bag):=by
 unfold gz;split
 ·rename_i d bz;exact .inr (.inl ⟨d,rfl,bz⟩)
 ·rename_i bz;exact .inr (.inr ⟨rfl,bz⟩)
 ·exact .inl rfl
theorem aX.within{R:ai}{W:Tl->Prop}{B H:ai}{σ:St}{ρ:List aI}(e:aX K R W B H σ ρ)(c':Nat){js:List Nat}(jU:js.Nodup):
  aX K H (fun a=>∃j,j∈js/\σ[j]?=some (some (.ref a))/\ρ[j]?=some .bag) B H (SQ c' none++fu σ js) (SQ c' .no++js.map (gz ρ)):=by
 have jN:∀(a:Tl)(j:Nat),σ[j]?=some (some (V.ref a))->ρ[j]?=some aI.bag->B a=none/\fw H a:=fun a j aP bc=>by
  obtain⟨c,bC,_,eu,fN⟩:=e.bagAt bc;rw[aP]at bC;cases bC;exact⟨eu,fN⟩
 refine⟨⟨fun _ _ z _=>z,e.bh,fun a ⟨j,_,aP,bc⟩=>(jN a j aP bc).1,fun a ⟨j,_,aP,bc⟩=>(jN a j aP bc).2,fun a ⟨j,_,aP,bc⟩=>?_⟩,?_,fun n aW ah=>?_,fun n m a bF bS=>?_⟩
 ·obtain⟨x,y,q,_⟩:=(jN a j aP bc).2;rw[q];simp
 ·unfold fu;simp
 ·by_cases c9:n<c'
  ·rw[TK (by simpa using c9),T4,TI c9]at ah;cases ah;trivial
  ·rw[Ts (by simp;lia),TB,S7]at ah;cases ij:js[n-c']? with
   | none=>rw[ij]at ah;cases ah
   | some j =>
    rw[ij]at ah;have ah:=SM ah
    have wC:((SQ c' none++fu σ js)[n]?).join=(σ[j]?).join:=by
     rw[Ts (by simp;lia),TB];unfold fu;rw[S7,ij];rfl
    rw[wC,<-ah];rcases wB (ρ:=ρ) j with z|⟨rY,z,bz⟩|⟨z,bz⟩<;>rw[z]
    ·trivial
    ·obtain⟨v,v1,v2⟩:=e.ok j _ bz;exact⟨v,v1,v2⟩
    ·obtain⟨c,bC,_,eu,fN⟩:=e.ok j _ bz;exact⟨c,bC,.inl ⟨j,Tt ij,g9 bC,bz⟩,eu,fN⟩
 ·have back:∀n,cX (SQ c' none++fu σ js) (SQ c' .no++js.map (gz ρ)) n a->∃j,c'<=n/\js[n-c']?=some j/\cX σ ρ j a:=fun n gv=>by
   rcases gv with⟨bF,bS⟩|⟨c,bF,_⟩
   rotate_left
   ·by_cases c9:n<c'
    ·rw[TK (by simpa using c9),T4,TI c9]at bF;cases bF
    ·rw[Ts (by simp;lia),TB,S7]at bF;cases ij:js[n-c']? with
     | none=>rw[ij]at bF;cases bF
     | some j =>
      rw[ij,T5]at bF;rcases wB (ρ:=ρ) j with z|⟨rY,z,bz⟩|⟨z,bz⟩<;>rw[z]at bF<;>cases bF
   by_cases c9:n<c'
   ·rw[TK (by simpa using c9),T4,TI c9]at bF;cases bF
   ·rw[Ts (by simp;lia),TB]at bF;obtain⟨j,ij,KI⟩:=Kd bF;rw[Ts (by simp;lia),TB,S7,ij]at bS;refine⟨j,by lia,ij,.inl ⟨g9 KI.symm,.inl ?_⟩⟩;rcases wB (ρ:=ρ) j with z|⟨rY,z,bz⟩|⟨z,bz⟩
    ·rw[T5,z]at bS;rcases bS with q|⟨_,q⟩<;>cases q
    ·rw[T5,z]at bS;rcases bS with q|⟨_,q⟩<;>cases q
    ·exact bz
  obtain⟨j,bZ,ij,KJ⟩:=back n bF;obtain⟨iW,b0,KL,KM⟩:=back m bS;have:=e.sep j iW a KJ KM;subst this
  have f2:n-c'<js.length:=by
   by_cases z:n-c'<js.length
   ·exact z
   ·rw[TF (by lia)]at ij;cases ij
  have:=(List.getElem?_inj f2 jU).mp (ij.trans KL.symm);lia
theorem A2{R:ai}{W:Tl->Prop}{B:ai}{a:Tl}{vs:List V}(h:R a=some (.lst vs))(nw:¬W a):ia R W B a=some (.lst vs):=by
 unfold ia;rw[h];dsimp only;rw[TT nw]
theorem KN{R:ai}{W:Tl->Prop}{B:ai}{a:Tl}(h:∀vs,R a≠some (.lst vs)):ia R W B a=B a:=by
 unfold ia;split
 ·rename_i vs e;exact absurd e (h vs)
 ·rfl
theorem A3{R:ai}{W:Tl->Prop}{B:ai}{a:Tl}{o:d7}(h:ia R W B a=some o):B a=some o∨(¬W a/\R a=some o/\∃vs,o=.lst vs):=by
 unfold ia at h;split at h
 ·rename_i vs e
  split at h
  ·exact .inl h
  ·rename_i z;cases h;exact .inr ⟨z,e,vs,rfl⟩
 ·exact .inl h
theorem KO{R:ai}{W:Tl->Prop}{B H:ai}(w:Wd R W B H):cG (ia R W B) H:=fun a o h=>by
 rcases A3 h with h|⟨aa,ab,_⟩
 ·exact w.bh a o h
 ·exact w.fr a o ab aa
theorem A4{R:ai}{W hT:Tl->Prop}{B aF H:ai}(w:Wd R W B H)(s:cG B aF)(dL:cG aF H)(hw:∀a,hT a->R a≠none->W a)(ae:∀a,hT a->aF a=none):cG (ia R W B) (ia H hT aF):=fun a o h=>by
 have fI:=KO w a o h;rcases A3 h with h|⟨aa,ab,vs,rfl⟩
 ·have h':=s a o h;by_cases z:hT a
  ·rw[ae a z]at h';cases h'
  ·by_cases q:∃vs,H a=some (.lst vs)
   ·obtain⟨vs,q⟩:=q;rw[fI]at q;cases q;exact A2 fI z
   ·rw[KN fun vs e=>q ⟨vs,e⟩];exact h'
 ·exact A2 fI fun z=>aa (hw a z (by rw[ab];simp))
theorem aX.rebase{R:ai}{W:Tl->Prop}{B H:ai}{σ:St}{ρ:List aI}(e:aX K R W B H σ ρ)(aB:∀j a,cX σ ρ j a->W a):aX K H W B H σ ρ:=by
 refine⟨⟨fun _ _ z _=>z,e.bh,e.wb,e.wh,fun a z=>by obtain⟨kv,hC,fW,_⟩:=e.wh a z;rw[fW];simp⟩,e.len,fun j aW bz=>?_,e.sep⟩;have:=e.ok j aW bz;cases aW with
 | no=>trivial
 | new d =>
  obtain⟨v,aa,ab⟩:=this;exact⟨v,aa,ab.mono (A4 e.toWd (cG.refl _) e.bh (fun _ z _=>z) e.wb)⟩
 | pin v d=>exact⟨this.1,this.2.mono (A4 e.toWd (cG.refl _) e.bh (fun _ z _=>z) e.wb)⟩
 | val d=>exact this
 | own ds =>
  obtain⟨a,aN,a3,_⟩:=this;exact absurd a3 (e.wr a (aB j a (.inl ⟨g9 aN,.inr ⟨ds,bz⟩⟩)))
 | deep c=>exact absurd (this.2.fr _ Sv).1 (e.wr _ (aB j _ (.inr ⟨c,bz,Sv⟩)))
 | bag =>
  obtain⟨c,bC,cb,eu,fN⟩:=this;exact⟨c,bC,.inl (aB j c (.inl ⟨g9 bC,.inl bz⟩)),eu,fN⟩
theorem aX.unbase{R:ai}{W:Tl->Prop}{B H aF af:ai}{σ:St}{ρ:List aI}(e:aX K R W B H σ ρ)(aB:∀j a,cX σ ρ j a->W a)(bq:aX K H W aF af σ ρ)(g:bJ H B aF):aX K R W aF af σ ρ/\bJ R B aF:=by
 refine⟨⟨⟨fun a o z nw=>bq.fr a o (e.fr a o z nw) nw,bq.bh,bq.wb,bq.wh,e.wr⟩,bq.len,fun j aW bz=>?_,bq.sep⟩,⟨g.s,fun a o z=>?_⟩⟩
 ·have:=bq.ok j aW bz;cases aW with
  | no=>trivial
  | new d =>
   obtain⟨v,aa,ab⟩:=e.ok j _ bz;exact⟨v,aa,ab.mono (rE g.s)⟩
  | pin v d =>
   obtain⟨aa,ab⟩:=e.ok j _ bz;exact⟨aa,ab.mono (rE g.s)⟩
  | val d=>exact this
  | own ds =>
   obtain⟨a,aN,a3,_⟩:=e.ok j _ bz;exact absurd a3 (e.wr a (aB j a (.inl ⟨g9 aN,.inr ⟨ds,bz⟩⟩)))
  | deep c=>exact absurd ((e.deepAt bz).2.fr _ Sv).1 (e.wr _ (aB j _ (.inr ⟨c,bz,Sv⟩)))
  | bag =>
   obtain⟨c,bC,cb,eu,fN⟩:=this;exact⟨c,bC,.inl (aB j c (.inl ⟨g9 bC,.inl bz⟩)),eu,fN⟩
 ·rcases g.n a o z with q|q
  ·exact .inl q
  ·exact .inr (e.toWd.fresh q).1
theorem A5{wi:bQ}{g:eI}{tt:dC}{bI:bN}{eD:ec}{cz:c5}{c':Nat}{js:List Nat}(bY:og K wi w)(aD:l6 K g eD)(aR:gx K tt cz)(aa:dR K bI u)(jU:js.Nodup):pB K (pX wi g tt bI c' js) (nj w eD cz u c' js):=by
 intro ρ k h R W B H σ Q e q;refine bY ρ _ h R W B H σ _ e fun ds J a7 aw aP ag aO it=>?_;obtain⟨ay,aP⟩:=aP;intro D e4;obtain⟨bd,bH,bW⟩:=ag.toWd.fresh e4;have mh:∀i,¬cX σ ρ i D:=fun i m=>ag.notNew e4 m rfl;have fh:=ag.within c' jU
 have jV:∀j a,cX (SQ c' none++fu σ js) (SQ c' .no++js.map (gz ρ)) j a->∃j,j∈js/\σ[j]?=some (some (V.ref a))/\ρ[j]?=some aI.bag:=fun j a m=>by
  have a3:=(fh.mutOk m).2;rcases m with⟨bF,z|⟨es,z⟩⟩|⟨c,z,mV⟩
  ·obtain⟨c,bC,cb,_⟩:=fh.bagAt z;rw[bF]at bC;cases bC;rcases cb with cb|cb
   ·exact cb
   ·exact absurd cb a3
  ·obtain⟨c,bC,cb,_⟩:=fh.ownC z;rw[bF]at bC;cases bC;exact absurd cb a3
  ·exact absurd ((fh.deepAt z).2.fr a mV).1 a3
 generalize mi:(fun a=>∃j,j∈js/\σ[j]?=some (some (V.ref a))/\ρ[j]?=some aI.bag)=fj at fh;have jV:∀j a,cX (SQ c' none++fu σ js) (SQ c' .no++js.map (gz ρ)) j a->fj a:=fun j a m=>by rw[<-mi];exact jV j a m
 have e6:∀a,fj a->∃i:Nat,σ[i]?=some (some (.ref a))/\ρ[i]?=some .bag:=fun a z=>by
  rw[<-mi]at z;obtain⟨j,_,z⟩:=z;exact⟨j,z⟩
 have lq:¬fj D:=fun z=>by
  obtain⟨iX,dN,fZ⟩:=e6 D z;exact mh iX (.inl ⟨dN,.inl fZ⟩)
 refine⟨fun i m ik af=>∃aF ys es he,m=ds.length-i/\i<=ds.length/\aX K aw fj aF af ik he/\bJ aw a7 aF/\af D=some (.lst ys)/\aF D=none/\(∀j a,cX ik he j a->fj a)/\ys.length<=i/\Reps K aF ys es/\fP eD cz u (ds.drop i) he fun r=>k (es++r),
  ⟨ds.length,a7,[],[],_,by simp,Ti _,fh.allocH e4 _,bJ.refl _ _,ei,bW,jV,SD _,.nil,by simpa using aP⟩,?_⟩
 rintro i m ik aV ⟨cj,ys,es,he,rfl,aC,ao,aT,aM,ae,wD,KP,cm,bc⟩;obtain⟨cH,cn,fM⟩:=it aV (aT.s.trans ao.bh) i;by_cases c9:i<ds.length
 ·refine .inr ⟨cH c9,fun x af y=>?_⟩;obtain⟨rfl,d,hd,ba⟩:=fM x af c9 y
  have f1:ds.drop i=d::ds.drop (i+1):=by
   rw[UH c9];rw[S8 c9]at hd;rw[SM hd]
  rw[f1]at bc;refine aD d he _ bc aw fj cj af ik x _ ao (ba.mono aT.s) fun gq fq e5 be gv=>?_;have iY:∀j a,cX fq gq j a->fj a:=fun j a m=>wD j a (gv j a m)
  have nk:∀{gS:ai},bJ af cj gS->gS D=none:=fun{gS} d0=>by
   cases p5:gS D with
   | none=>rfl
   | some o =>
    rcases d0.n D o p5 with z|z
    ·rw[ae]at z;cases z
    ·rw[aM]at z;cases z
  refine aR gq _ e5 af fj cj af fq _ (be.rebase iY) fun b gS hV fc ci d0=>?_;have wE:hV D=some (.lst ys):=ci.fr D _ aM lq;cases b with
  | false =>
   rw[TT SP]at fc ⊢;obtain⟨eL,g5⟩:=be.unbase iY ci d0;exact⟨ds.length-(i+1),by lia,gS,ys,es,gq,rfl,c9,eL,aT.trans g5,wE,nk d0,iY,by lia,cm.mono d0.s,fc⟩
  | true =>
   rw[TI rfl]at fc ⊢;refine aa gq _ fc af fj gS hV fq _ ci fun hC v nl dJ jT eL g5 d3=>?_;have lr:=d0.trans g5;have wF:dJ D=some (.lst ys):=eL.fr D _ aM lq;obtain⟨ls,p6⟩:=be.unbase iY eL lr;refine⟨ys,wF,by lia,ds.length-(i+1),by lia,nl,ys++[v],es++[hC],gq,rfl,c9,ls.scribble e4 (nk lr) (fun j m=>lq (iY j D m)) _,aT.trans p6,ei,nk lr,iY,by rw[SE,TM];lia,(cm.mono lr.s).append (.cons d3 .nil),?_⟩;simpa[SR]using jT
 ·have eq:i=ds.length:=by lia
  subst eq;rw[UI]at bc;obtain⟨ci,d0⟩:=ag.after e6 ao.toWd aT;refine .inl ⟨cn (SD _),q _ D ys cj aV (by simpa[fP]using bc) ci (aO.trans d0) bd ae aM cm mh⟩
def lu(X:aU)(cB:List WP)(cz:c5):Prop:=∃t,jh X cB t/\gx X.K t cz
theorem f3:lu X [] ii:=⟨_,Kx,fun ρ k h R W B H σ Q e q=>q true B H h e (bJ.refl _ _)⟩
theorem r3{c:WP}{cz:c5}(h:gj X c cz):lu X [c] cz:=by
 obtain⟨_,aa,av⟩:=h;exact⟨_,Ky aa,av⟩
theorem r4{b6:WP}{α:Type}{Xs:α->aU}(cF:∀a,(Xs a).K=K)(h:∀a,bn (Xs a) b6 u):∃t,(∀a,b5 (Xs a) b6 t)/\dR K t u:=by
 refine⟨fun σ H Q=>∀a,∃t,b5 (Xs a) b6 t/\dR K t u/\t σ H Q,fun a pins s σ H Q I q=>?_,fun ρ k q R W B H σ Q e z a=>?_⟩
 ·obtain⟨t,aR,_,aL⟩:=q a;exact aR pins s σ H Q I aL
 ·obtain⟨t,aR,am⟩:=h a;rw[cF a]at am;exact⟨t,aR,am,am ρ k q R W B H σ Q e z⟩
theorem oz{cB:List WP}{cz:c5}{α:Type}{Xs:α->aU}(cF:∀a,(Xs a).K=K)(h:∀a,lu (Xs a) cB cz):∃t,(∀a,jh (Xs a) cB t)/\gx K t cz:=by
 refine⟨fun σ H Q=>∀a,∃t,jh (Xs a) cB t/\gx K t cz/\t σ H Q,fun a pins s σ H Q I q=>?_,fun ρ k q R W B H σ Q e z a=>?_⟩
 ·obtain⟨t,aR,_,aL⟩:=q a;exact aR pins s σ H Q I aL
 ·obtain⟨t,aR,am⟩:=h a;rw[cF a]at am;exact⟨t,aR,am,am ρ k q R W B H σ Q e z⟩
theorem oA{a6:WP}{eD:ec}{α:Type}{Xs:α->aU}(cF:∀a,(Xs a).K=K)(h:∀a,iN (Xs a) a6 eD):∃t,(∀a,hr (Xs a) a6 t)/\l6 K t eD:=by
 refine⟨fun v σ H Q=>∀a,∃t,hr (Xs a) a6 t/\l6 K t eD/\t v σ H Q,fun a pins s σ H v x Q I r q=>?_,fun d ρ k q R W B H σ v Q e r z a=>?_⟩
 ·obtain⟨t,aR,_,aL⟩:=q a;exact aR pins s σ H v x Q I r aL
 ·obtain⟨t,aR,am⟩:=h a;rw[cF a]at am;exact⟨t,aR,am,am d ρ k q R W B H σ v Q e r z⟩
variable{b6 cA a6:WP}{cB:List WP}{scope:W'}{bm:List (Str×Tl)}{ts fr:List Str}{js:List Nat}{eD:ec}{cz:c5}
theorem jW(aC:kw X a6 cA w)(aD:∀C s H ex,iN (cC X (ts++fr) scope bm C s H ex) a6 eD)(gA:∀C s H ex,lu (cC X (ts++fr) scope bm C s H ex) cB cz)(iR:∀C s H ex,bn (cC X (ts++fr) scope bm C s H ex) b6 u)(F:lh X scope bm fr js)(nm:js.Nodup:=by decide)(hc:X.calm=true:=by rfl)(ak:∀v,Wp cA X.env v=pure v:=by intro _;rfl):ib X (.ListComp b6 [⟨a6,cA,cB,0⟩] scope pos) (nj w eD cz u ts.length js):=by
 obtain⟨_,bY,ff⟩:=aC;obtain⟨A6,p7,rg⟩:=oA (K:=X.K) (Xs:=fun a:Tl×SL×ai×List Tl=>cC X (ts++fr) scope bm a.1 a.2.1 a.2.2.1 a.2.2.2) (fun _=>rfl) fun a=>aD a.1 a.2.1 a.2.2.1 a.2.2.2;obtain⟨tt,p8,rt⟩:=oz (K:=X.K) (Xs:=fun a:Tl×SL×ai×List Tl=>cC X (ts++fr) scope bm a.1 a.2.1 a.2.2.1 a.2.2.2) (fun _=>rfl) fun a=>gA a.1 a.2.1 a.2.2.1 a.2.2.2;obtain⟨bI,p9,iQ⟩:=r4 (K:=X.K) (Xs:=fun a:Tl×SL×ai×List Tl=>cC X (ts++fr) scope bm a.1 a.2.1 a.2.2.1 a.2.2.2) (fun _=>rfl) fun a=>iR a.1 a.2.1 a.2.2.1 a.2.2.2;exact⟨_,A1 bY (fun C s H ex=>p7 (C,s,H,ex)) (fun C s H ex=>p8 (C,s,H,ex)) (fun C s H ex=>p9 (C,s,H,ex)) F hc ak,A5 ff rg rt iQ nm⟩
theorem kD{i:Nat}{y:Str}{gJ p4:Pos}(cd:X.N.Nodup)(wA:X.N[i]?=some y)(aM:X.env.scope.names.lookup y=some .local)(aC:kw X a6 cA w)(aD:∀C s H ex,iN (cC X (ts++fr) scope bm C s H ex) a6 eD)(gA:∀C s H ex,lu (cC X (ts++fr) scope bm C s H ex) cB cz)(iR:∀C s H ex,bn (cC X (ts++fr) scope bm C s H ex) b6 u)(F:lh X scope bm fr js)(nm:js.Nodup:=by decide)(hc:X.calm=true:=by rfl)(ak:∀v,Wp cA X.env v=pure v:=by intro _;rfl)(le:Xj (.ListComp b6 [⟨a6,cA,cB,0⟩] scope pos) (some (.Name y gJ)) p4.line X.env=pure true:=by rfl):
  fe X (.Assign [.Name y gJ] (.ListComp b6 [⟨a6,cA,cB,0⟩] scope pos) p4) (rM i (nj w eD cz u ts.length js)):=by
 obtain⟨_,bY,ff⟩:=aC;obtain⟨A6,p7,rg⟩:=oA (K:=X.K) (Xs:=fun a:Tl×SL×ai×List Tl=>cC X (ts++fr) scope bm a.1 a.2.1 a.2.2.1 a.2.2.2) (fun _=>rfl) fun a=>aD a.1 a.2.1 a.2.2.1 a.2.2.2;obtain⟨tt,p8,rt⟩:=oz (K:=X.K) (Xs:=fun a:Tl×SL×ai×List Tl=>cC X (ts++fr) scope bm a.1 a.2.1 a.2.2.1 a.2.2.2) (fun _=>rfl) fun a=>gA a.1 a.2.1 a.2.2.1 a.2.2.2;obtain⟨bI,p9,iQ⟩:=r4 (K:=X.K) (Xs:=fun a:Tl×SL×ai×List Tl=>cC X (ts++fr) scope bm a.1 a.2.1 a.2.2.1 a.2.2.2) (fun _=>rfl) fun a=>iR a.1 a.2.1 a.2.2.1 a.2.2.2;refine⟨_,KD cd wA aM bY (fun C s H ex=>p7 (C,s,H,ex)) (fun C s H ex=>p8 (C,s,H,ex)) (fun C s H ex=>p9 (C,s,H,ex)) F hc ak le,fun U ρ h R W B H σ D e s=>?_⟩;exact A5 ff rg rt iQ nm ρ _ h R W B H σ _ e fun ds a vs a7 aw aP ag aO bd bH bW c0 dM=>s.nx _ _ a7 aw aP (ag.setO i bd bH bW c0 fun j _=>dM j) aO
theorem r5{st:W0}{s:cM}(i:Nat)(h:fe X st s):fe X st (fun U ρ=>s { U with nx:=fun bf=>∃ds:List D,bf[i]?=some (.own ds)/\U.nx (bf.set i (.val (.lst ds))) } ρ):=by
 obtain⟨_,aa,av⟩:=h;refine⟨_,aa,fun U ρ h R W B H σ D e en=>?_⟩;refine av _ ρ h R W B H σ D e ⟨fun bf a1 aF af z bq g=>?_,en.bk,en.ct,en.rt⟩;obtain⟨ds,aA,z⟩:=z;obtain⟨cj,ao,aT⟩:=bq.fz aA;exact en.nx _ a1 cj af z ao (g.trans aT)
end
theorem oB{α:Type}{f:α->D}{s:cM}{U:gw}{m:Nat}(I:List α->List aI->Prop):∀{rs done:List α}{ρ:List aI},I done ρ ->
  (∀(pre:List α)(r:α)(rest:List α) ρ,done++rs=pre++r::rest->I pre ρ->∀N:List aI->Prop,(∀c7,I (pre++[r]) c7->N c7)->s { U with nx:=N,ct:=N,bk:=U.nx } (ρ.set m (.val (f r))))->(∀ρ,I (done++rs) ρ->U.nx ρ)->eY (d6 m) s U (rs.map f) ρ
 | [],done,ρ,bY,_,ab=>ab ρ (by rw[SG];exact bY)
 | r::rs,done,ρ,bY,aa,ab=>by
  refine aa done r rs ρ rfl bY _ fun c7 am=>?_;have e:done++r::rs=(done++[r])++rs:=by simp
  rw[e]at aa ab;exact oB I am aa ab
theorem A7{s:cM}{U:gw}{m:Nat}(I:Nat->List aI->Prop):∀{n i:Nat}{ρ:List aI},I i ρ->(∀(j:Nat) ρ,i<=j->j<i+n->I j ρ->∀N:List aI->Prop,(∀r,I (j+1) r->N r)->s { U with nx:=N,ct:=N,bk:=U.nx } (ρ.set m (.val (.int j)))) ->
  (∀ρ,I (i+n) ρ->U.nx ρ)->eY (d6 m) s U ((VE i n).map fun j:Nat=>D.int j) ρ
 | 0,i,ρ,bY,_,ab=>ab ρ bY
 | n+1,i,ρ,bY,aa,ab=>by
  show eY (d6 m) s U (D.int i::(VE (i+1) n).map fun j:Nat=>D.int j) ρ
  refine aa i ρ (SD _) (by lia) bY _ fun r am=>?_;exact A7 I am (fun j ρ bz abD=>aa j ρ (by lia) (by lia)) fun ρ h=>ab ρ (by rw[show i+(n+1)=i+1+n by lia];exact h)
theorem mj{s:cM}{U:gw}{m n:Nat}{ρ:List aI}(I:Nat->List aI->Prop)(bY:I 0 ρ)(aa:∀(j:Nat) ρ,j<n->I j ρ->∀N:List aI->Prop,(∀r,I (j+1) r->N r)->s { U with nx:=N,ct:=N,bk:=U.nx } (ρ.set m (.val (.int j))))(ab:∀ρ,I n ρ->U.nx ρ):eY (d6 m) s U ((Te n).map fun j:Nat=>D.int j) ρ:=by
 rw[Wh];exact A7 I bY (fun j ρ _ bz=>aa j ρ (by lia)) fun ρ h=>ab ρ (by rw[U2]at h;exact h)
theorem iZ{α:Type}{f h:α->D}{u:bb}{fs:List aI}:∀{rs:List α}{v0:aI}{k:List D->Prop},(∀r∈rs,∀k:D->Prop,k (h r)->u (.val (f r)::fs) k)->k (rs.map h)->fP (d6 0) ii u (rs.map f) (v0::fs) k
 | [],v0,k,_,ah=>ah
 | r::rs,v0,k,bM,ah=>by
  show(if true=true then u (.val (f r)::fs) fun y=>fP (d6 0) ii u (rs.map f) (.val (f r)::fs) fun ys=>k (y::ys)else fP (d6 0) ii u (rs.map f) (.val (f r)::fs) k)
  rw[TI rfl];exact bM r Sv _ (iZ (fun q aL=>bM q (Sw _ aL)) ah)
theorem KQ{α β:Type}{f:α->β}{rs:List α}{i:Int}{r:α}(h:ea rs i=some r):ea (rs.map f) i=some (f r):=by
 unfold ea at h ⊢;rw[Sz];cases q:ixN rs.length i with
 | none=>rw[q]at h;cases h
 | some j =>
  rw[q]at h;show(rs.map f)[j]?=_
  rw[S7,show rs[j]?=some r from h];rfl
theorem KR{α:Type}{rs:List α}{i:Nat}(h:i<rs.length):ea rs (i:Int)=some rs[i]:=by
 unfold ea ixN;rw[TI (by lia),TI (by lia)];show rs[((i:Int)).toNat]?=_
 rw[show((i:Int)).toNat=i by lia,S8 h]
theorem KS{α:Type}{rs:List α}{i:Nat}(h:i<rs.length):ea rs (-1-(i:Int))=some (rs[rs.length-1-i]'(by lia)):=by
 unfold ea ixN;rw[TT (by lia),TI (by lia)];show rs[(-1-(i:Int)+(rs.length:Nat)).toNat]?=_
 rw[show(-1-(i:Int)+(rs.length:Nat)).toNat=rs.length-1-i by lia,S8 (by lia)]
theorem r6{α:Type}{xs:List α}{i:Int}(bY:0<=i)(aa:i<=xs.length):cutL xs (some i) none=xs.drop i.toNat:=by
 unfold cutL
 have ag:HT.sIx xs.length 0 (some i)=i.toNat:=by
  unfold HT.sIx
  first|lia|(simp only[];split<;>lia)|(split<;>lia)|(dsimp only;split<;>(try split)<;>lia)
 have ao:HT.sIx xs.length xs.length none=xs.length:=rfl;rw[ag,ao];exact UC (by rw[TL];lia)
theorem A8{α:Type}{xs:List α}{i:Int}(bY:0<=i)(aa:i<=xs.length):cutL xs none (some i)=xs.take i.toNat:=by
 unfold cutL
 have ag:HT.sIx xs.length xs.length (some i)=i.toNat:=by
  unfold HT.sIx
  first|lia|(simp only[];split<;>lia)|(split<;>lia)|(dsimp only;split<;>(try split)<;>lia)
 have ao:HT.sIx xs.length 0 none=0:=rfl;rw[ag,ao];rfl
section
variable{K:Su}{R:ai}{W:Tl->Prop}{B aF H af:ai}{σ:St}{ρ:List aI}
theorem aX.after2{hT:Tl->Prop}(e:aX K R W B H σ ρ)(e6:∀a,hT a->R a=none/\∀i,¬cX σ ρ i a)(wd:Wd H hT aF af)(g:bJ H B aF):aX K R W aF af σ ρ/\bJ R B aF:=by
 have ic:∀a,B a=none->H a≠none->aF a=none:=fun a aa ab=>by
  cases q:aF a with
  | none=>rfl
  | some o =>
   rcases g.n a o q with z|z
   ·rw[aa]at z;cases z
   ·exact absurd z ab
 have st:∀a,¬hT a->H a≠none->af a=H a:=fun a aa ab=>by
  cases q:H a with
  | none=>exact absurd q ab
  | some o=>exact wd.fr a o q aa
 have pE:∀a,¬hT a->fw H a->fw af a:=fun a aa ⟨x,y,ag,q⟩=>⟨x,y,by rw[st a aa (by rw[ag];simp)];exact ag,q⟩;have vM:∀a,fw H a->H a≠none:=fun a ⟨x,y,ag,_⟩=>by rw[ag];simp
 have wG:∀a,W a->¬hT a:=fun a h z=>e.wr a h (e6 a z).1;refine⟨e.move ⟨fun a o h nw=>?_,wd.bh,fun a h=>ic a (e.wb a h) (vM a (e.wh a h)),fun a h=>pE a (wG a h) (e.wh a h),e.wr⟩ g.s (fun i a m=>⟨ic a (e.mutOk m).1 (e.mutOk m).2,fun z=>?_,fun z=>?_⟩),⟨g.s,fun a o h=>?_⟩⟩
 ·refine wd.fr a o (e.fr a o h nw) fun z=>?_;rw[(e6 a z).1]at h;cases h
 ·obtain⟨b,dN,_,_,vN⟩:=e.bagAt z;rw[oe m z]at dN;cases dN;exact pE _ (fun q=>(e6 _ q).2 i m) vN
 ·exact st a (fun q=>(e6 a q).2 i m) (e.mutOk m).2
 ·rcases g.n a o h with z|z
  ·exact .inl z
  ·exact .inr (e.toWd.fresh z).1
end
section
variable{X:aU}{e:WP}{u:bb}{pos p:Pos}
def KT(u:bb)(l h:ma):bb:=fun ρ k=>u ρ fun x=>l ρ fun lo=>h ρ fun aC=>∃ds,x=.tup ds/\¬(HT.sIx ds.length 0 lo=0/\HT.sIx ds.length ds.length aC=ds.length)/\k (.tup (cutL ds lo aC))
theorem A9{lo aC:Option WP}{pI pJ:ma}{cg:Pos}(au:bn X e u)(ay:ou X lo pI)(dh:ou X aC pJ):bn X (.Subscript e (.Slice lo aC none cg) pos) (KT u pI pJ):=by
 obtain⟨_,aa,av⟩:=au;obtain⟨_,ab,aK⟩:=ay;obtain⟨_,aQ,d8⟩:=dh;refine⟨_,zX IA aa ab aQ,fun ρ k h R W B H σ Q e q=>?_⟩;refine av ρ _ h R W B H σ _ e fun d v a7 aw aP ag aO aE=>?_;refine aK ρ _ aP R W a7 aw σ _ ag fun lo cj aV bc ao aT=>?_;refine d8 ρ _ bc R W cj aV σ _ ao fun aC k5 ca e5 be g3=>?_;obtain⟨ds,rfl,aH,z⟩:=e5;obtain⟨a,vs,rfl,ax,rs⟩:=(aE.mono (aT.trans g3).s).tupV;refine⟨a,vs,rfl,eA.of (be.bh _ _ ax),by rw[rs.length];exact aH,fun p aq=>?_⟩;have d0:=be.grow aq (.tup (mQ vs lo aC));exact q _ _ _ _ z (be.alloc aq _) (((aO.trans aT).trans g3).trans d0) (.tup ei ((rs.cut lo aC).mono d0.s))
def KU(i:Nat)(u:bb):cM:=fun U ρ=>∃ds:List D,ρ[i]?=some (.own ds)/\u ρ fun d=>∃es,d=.lst es/\ds.length+es.length<=SZ/\U.nx (ρ.set i (.own (ds++es)))
theorem KV(i:Nat){x:Str}{dy gg eb:Pos}(au:bn X e u)(cd:X.N[i]?=some x:=by rfl)(a':iF X.env.scope x:=by first|exact Ss rfl|exact SF (Ss rfl)|exact SF (SF rfl))(hd:(x==("__debug__":Str))=false:=by decide)(eo:(x==("__classdict__":Str))=false:=by decide)(jE:Xm (.Name x dy) "extend" X.env (W7 (.Name x dy) X.env)=W7 (.Name x dy) X.env:=by rfl)(mR:((W1 eb (Tk [e] X.env)).all (fun x => !x.1)&&(YI eb (X8 [] X.env)).all (fun x=>x.1.isSome)
   && decide ([e].length+([]:List X9).length+(if([]:List X9).isEmpty then 0 else 1)<30))=true:=by rfl)(jF:(gg.endLine==eb.line)=true:=by rfl)(ak:Tk [e] X.env=(false,W7 e X.env)::Tk [] X.env:=by rfl)(mS:(W1 eb (Tk ([]:List WP) X.env)).any (·.1)=false:=by rfl)(le:Xj (.Call (.Attribute (.Name x dy) "extend" gg) [e] [] eb) none pos.line X.env=pure false:=by rfl):fe X (.Expr (.Call (.Attribute (.Name x dy) "extend" gg) [e] [] eb) pos) (KU i u):=by
 obtain⟨_,aa,av⟩:=au;refine⟨_,uW (vm U1 PySem.F.slot_list_extend PySem.F.type_list_extend IU (ki cd a' hd eo) (eJ aa fH ak) jE mR jF ak mS) le,fun U ρ h R W B H σ D e s=>?_⟩;obtain⟨ds,aA,h⟩:=h;obtain⟨a,vs,ag,ao,be,ci,eL⟩:=e.ownAt aA;refine⟨_,ag,.inl ⟨rfl,vs,cl.of ci⟩,?_⟩;refine av ρ _ h R W B H σ _ e fun d v a7 aw aP bd aO aE=>?_;obtain⟨iH,m7,bT,bP,eN,eC,kA⟩:=bd.ownAt aA;rw[ag]at bT;cases bT;obtain⟨es,rfl,ay,z⟩:=aP;obtain⟨b,b7,rfl,ae,rt⟩:=aE.lstV;exact⟨a,b,m7,b7,rfl,rfl,eC,bd.bh _ _ ae,by rw[kA.length,rt.length];exact ay,s.nx _ _ a7 _ z (bd.write ag aA (kA.append rt)) aO⟩
end
end L3
namespace Cut
open PySem L2 L3
open PySem.Builtin.Int (intBits)
def dP(p:Int×Int×Int):D:=.tup [.int p.1,.int p.2.1,.int p.2.2]
def g3(a b n:Int):Int:=((Sx (Sx a n:Nat) b:Nat):Int)
def i0(a b n:Int):Int:=if n<0 then -g3 a b n else g3 a b n
def du(a b n:Int):Int×Int×Int:=(a.fdiv (i0 a b n),b.fdiv (i0 a b n),n.fdiv (i0 a b n))
theorem nn{a b n:Int}(aH:n≠0):kt (du a b n).1 (du a b n).2.1 (du a b n).2.2/\(du a b n).1*n=a*(du a b n).2.2/\(du a b n).2.1*n=b*(du a b n).2.2/\(du a b n).1.natAbs<=a.natAbs/\(du a b n).2.1.natAbs<=b.natAbs/\(du a b n).2.2.natAbs<=n.natAbs:=by
 unfold du i0;split
 ·exact Ah aH rfl (.inr ⟨rfl,by assumption⟩)
 ·exact Ah aH rfl (.inl ⟨rfl,by lia⟩)
theorem KW(a b n:Int):((Sx (Sx a b:Nat) n:Nat):Int)=g3 a b n:=by
 unfold g3;rw[rD];rfl
theorem KX(a b n:Int):((Sx (Sx n a:Nat) b:Nat):Int)=g3 a b n:=by
 unfold g3;rw[Jj]
theorem A'{a b n:Int}(aH:n≠0):0<g3 a b n:=Af aH
theorem Ba{a b n:Int}{k:Nat}(aH:n≠0)(h:TE n<=k):TE (g3 a b n)<=k:=Jk aH h
theorem wH{a b:Int}{k:Nat}(ae:b≠0)(h:TE b<=k):TE ((Sx a b:Nat):Int)<=k:=by
 refine X0 ?_ h;exact Nat.le_of_dvd (by lia) (by simpa using TN.mpr (U3 a b))
theorem KY{x:Int}(bY : -(10^30)<x)(aa:x<10^30):TE x<=100:=by
 refine intBits_le_iff.mpr ?_;have KZ:(10:Int)^30=1000000000000000000000000000000:=rfl;have K0:(2:Nat)^100=1267650600228229401496703205376:=rfl;rw[KZ]at bY aa;rw[K0];lia
theorem oC{a s x:Int}(h:a=s*x)(iL:s≠0):a.fdiv s=x:=by rw[h];exact UX x iL
theorem K1{a b s x y:Int}(aa:a=s*x)(ab:b=s*y):Sx a b=s.natAbs*Sx x y:=by rw[aa,ab,Int.gcd_mul_left]
abbrev P3:=Int×Int×Int
def crs(p q:P3):P3:=(p.2.1*q.2.2-p.2.2*q.2.1,p.2.2*q.1-p.1*q.2.2,p.1*q.2.1-p.2.1*q.1)
def sc(c:Int)(p:P3):P3:=(c*p.1,c*p.2.1,c*p.2.2)
def eO(a:Int)(p:P3)(b:Int)(q:P3):P3:=(a*p.1+b*q.1,a*p.2.1+b*q.2.1,a*p.2.2+b*q.2.2)
def nP(p:P3):P3:=du p.1 p.2.1 p.2.2
theorem i1{p q:P3}(aa:p.1=q.1)(ab:p.2.1=q.2.1)(aQ:p.2.2=q.2.2):p=q:=Ue aa (Ue ab aQ)
variable{P:WF}{w:WU}{K:Su}{mg:Str->Option SC}{base:WY}
theorem K2{c d:Int}{p q:P3}(h:sc c p=sc d q):c*p.1=d*q.1/\c*p.2.1=d*q.2.1/\c*p.2.2=d*q.2.2 :=
 ⟨Uf (·.1) h,Uf (·.2.1) h,Uf (·.2.2) h⟩
theorem Bb(c d:Int)(p:P3):sc c (sc d p)=sc (c*d) p:=by
 refine i1 ?_ ?_ ?_<;>simp only[sc]<;>grind
theorem np{p:P3}(aH:p.2.2≠0):∃g,g≠0/\p=sc g (nP p):=by
 obtain⟨pt,ag,ao,_⟩:=nn (a:=p.1) (b:=p.2.1) aH;have hf:(nP p).2.2≠0:=S1 pt.1;obtain⟨g,aD⟩:=vC pt.2 ag ao;have g0:g≠0:=fun z=>aH (by rw[aD,z,SW]);refine⟨g,g0,i1 ?_ ?_ ?_⟩
 ·refine TQ hf ?_;show p.1*(du p.1 p.2.1 p.2.2).2.2=g*(du p.1 p.2.1 p.2.2).1*(du p.1 p.2.1 p.2.2).2.2
  rw[<-ag];grind
 ·refine TQ hf ?_;show p.2.1*(du p.1 p.2.1 p.2.2).2.2=g*(du p.1 p.2.1 p.2.2).2.1*(du p.1 p.2.1 p.2.2).2.2
  rw[<-ao];grind
 ·show p.2.2=g*(du p.1 p.2.1 p.2.2).2.2
  rw[SX];exact aD
abbrev bL(p:P3):Prop:=kt p.1 p.2.1 p.2.2
theorem ji{p:P3}(aH:p.2.2≠0):bL (nP p):=(nn aH).1
theorem r7{M h:P3}{G c:Int}(eZ:G≠0)(hc:c≠0)(aq:bL h)(e:sc G M=sc c h):M.2.2≠0/\nP M=h:=by
 obtain⟨ag,ao,be⟩:=K2 e;have bY:h.2.2≠0:=S1 aq.1
 have cS:M.2.2≠0:=fun z=>by
  rw[z,SW]at be;exact VF hc bY be.symm
 refine⟨cS,?_⟩;obtain⟨pt,bd,bH,_⟩:=nn (a:=M.1) (b:=M.2.1) cS;have bT:M.1*h.2.2=h.1*M.2.2:=Wi (VF eZ hc) (by grind);have bP:M.2.1*h.2.2=h.2.1*M.2.2:=Wi (VF eZ hc) (by grind);obtain⟨aN,a3,cE⟩:=vD pt aq (TQ cS (by grind)) (TQ cS (by grind));exact i1 aN a3 cE
theorem Bc{h:P3}(aq:bL h):nP h=h:=(r7 (M:=h) (h:=h) (G:=1) (c:=1) (by decide) (by decide) aq rfl).2
structure cp (m:Nat) (p:P3):Prop where
 a:TE p.1<=m
 b:TE p.2.1<=m
 c:TE p.2.2<=m
theorem cp.mono{m n:Nat}{p:P3}(h:cp m p)(l:m<=n):cp n p:=⟨SA h.a l,SA h.b l,SA h.c l⟩
theorem cp.nP{m:Nat}{p:P3}(h:cp m p)(aH:p.2.2≠0):cp m (Cut.nP p):=by
 obtain⟨_,_,_,bC,cb,eu⟩:=nn (a:=p.1) (b:=p.2.1) aH;exact⟨n' bC h.a,n' cb h.b,n' eu h.c⟩
theorem cp.crs{m n:Nat}{p q:P3}(aq:cp m p)(aL:cp n q):cp (m+n+1) (Cut.crs p q):=by
 have e:∀{x y u v:Int},TE x<=m->TE y<=n->TE u<=m->TE v<=n->TE (x*y-u*v)<=m+n+1:=fun a b c d=>SA (Xp (UF a b) (UF c d)) (by lia);exact⟨e aq.b aL.c aq.c aL.b,e aq.c aL.a aq.a aL.c,e aq.a aL.b aq.b aL.a⟩
end Cut
namespace PySem
open Sem (wp)
abbrev jX(h:WY)(z bQ b4:Tl)(d2 bd:SC):Prop :=
 h.get? z=some { cls:=.type "zip",dict:=none,data:=.fields #[d2,bd,.bool false,.ref bQ,.ref b4],slots :=#[] }
section
variable{prog:WF}{w:WU}{A:WV}{E:SC->SL->Prop}{s:SL}
theorem K3{a:Tl}{Q:Option Obj->SL->Prop}(h:Q (s.heap.get? a) s):wpAny (UV prog w) A (loadIfAlive a) Q E s:=fun _ _ _=>h
theorem Bd{z bQ b4 T:Tl}{b:Bool}{jj:Obj}{Q:Bool->SL->Prop}(hz:jX s.heap z bQ b4 (XQ T) (.bool b))(eK:s.heap.get? T=some jj)(gH:∀h',jX h' z bQ b4 (XQ T) (.bool true)->Heap.SameBut z s.heap h'->Q false { s with heap:=h' }):wpAny (UV prog w) A (Builtin.SmallTypes.ownedTupleIsFree (.ref z)) Q E s:=by
 unfold Builtin.SmallTypes.ownedTupleIsFree;refine SB (W9 hz rfl (x:=XQ T) rfl ?_);show wpAny _ _ (loadIfAlive ((T:Int).toNat) >>= _) _ _ _
 rw[VG];refine SB (K3 ?_);rw[eK];show wpAny _ _ (field (.ref z) 1 >>= _) _ _ _
 refine SB (W9 hz rfl (x:=.bool b) rfl ?_);cases b with
 | true =>
  show wpAny _ _ (pure false) _ _ _
  exact TD (gH s.heap hz ⟨rfl,fun _ _=>rfl⟩)
 | false =>
  show wpAny _ _ (setField (.ref z) 1 (.bool true) >>= fun _=>pure false) _ _ _
  exact SB (wpAny_setField_rec hz (by simp) fun h' K4 ni=>TD (gH h' K4 ni))
theorem K5{z bQ b4 bo bu bZ b0 T:Tl}{bd:Bool}{jj:Obj}{bT bP:Nat}{xs ys:Array SC}{x y:SC}{Q:SC->SL->Prop}(D:Xr z bQ b4 bo bu bZ b0)(hz:jX s.heap z bQ b4 (XQ T) (.bool bd))(eK:s.heap.get? T=some jj)(oD:XU s.heap bQ (.ref bo) (.ref bu))(aa:s.heap.IsListIter bo bZ bT)(ab:s.heap.IsListIter bu b0 bP)(nq:s.heap.IsList bZ xs)(l1:s.heap.IsList b0 ys)(aj:xs[bT]?=some x)(aM:ys[bP]?=some y)(gH:∀h',jX h' z bQ b4 (XQ T) (.bool true)->h'.IsListIter bo bZ (bT+1)->h'.IsListIter bu b0 (bP+1)->XU h' s.heap.objs.size x y->h'.objs.size=s.heap.objs.size+1->(∀c o,c≠z->c≠bo->c≠bu->s.heap.get? c=some o->h'.get? c=some o)->Q (.ref s.heap.objs.size) { s with heap:=h' }):
  wpAny (UV prog w) A (YJ.«zip.__next__» ⟨[.ref z],[]⟩) (fun eT s'=>∃v,eT=.done (.ret v)/\Q v s') E s:=by
 show wpAny _ _ (field (.ref z) 2 >>= _) _ _ _
 refine SB (W9 hz rfl (x:=.bool false) rfl ?_);show wpAny _ _ (field (.ref z) 3 >>= _) _ _ _
 refine SB (W9 hz rfl (x:=.ref bQ) rfl ?_);refine SB (X3 oD rfl ?_);show wpAny _ _ (Builtin.SmallTypes.ownedTupleIsFree (.ref z) >>= _) _ _ _
 refine SB (Bd hz eK fun wI Be hW=>?_);simp only[VH,if_false];refine SB ?_;simp only[<-Wj,List.forIn_cons,List.forIn_nil];refine SB (SB (WW ?_));show wpAny _ _ (Builtin.SmallTypes.nextOf (.ref bo) >>= _) _ _ _
 refine SB (Xn (aa.extBut hW.extBut D.i1z) (nq.extBut hW.extBut D.l1z) aj fun wJ Bf jY=>TD ?_);refine TD ?_;refine SB (SB (WW ?_));show wpAny _ _ (Builtin.SmallTypes.nextOf (.ref bu) >>= _) _ _ _
 refine SB (Xn ((ab.extBut hW.extBut D.i2z).extBut jY.extBut D.i12.symm) ((l1.extBut hW.extBut D.l2z).extBut jY.extBut D.l2i1) aM fun oE K6 r8=>TD ?_);refine TD (TD ?_);refine SB (wpAny_newTuple (hsz:=by show 2<=SZ;decide) ?_);have hsz:oE.objs.size=s.heap.objs.size:=by rw[r8.1,jY.1,hW.1]
 have K7:jX oE z bQ b4 (XQ T) (.bool true):=r8.extBut _ _ D.i2z.symm (jY.extBut _ _ D.i1z.symm Be);have K8:∀c o,c≠z->c≠bo->c≠bu->s.heap.get? c=some o->oE.get? c=some o:=fun c o bC eu fN e=>r8.extBut _ _ fN (jY.extBut _ _ eu (hW.extBut _ _ bC e));have K9:oE.IsListIter bo bZ (bT+1):=Bf.extBut r8.extBut D.i12;refine TD ⟨_,rfl,?_⟩;show Q (.ref oE.objs.size) _
 rw[hsz];refine gH _ (Heap.get?_push_of_some _ K7) (K9.at fun o e=>Heap.get?_push_of_some _ e) (K6.at fun o e=>Heap.get?_push_of_some _ e) ?_ (by rw[Heap.size_push,hsz]) fun c o bC cb eu e=>Heap.get?_push_of_some _ (K8 c o bC cb eu e);have:=Heap.get?_push_size oE (o:={ cls:=.type "tuple",data:=.seq #[x,y] }) rfl;rw[hsz]at this;exact this
theorem K'{z bQ b4 bo bu bZ b0 T:Tl}{bd:Bool}{jj:Obj}{bT bP:Nat}{xs ys:Array SC}{Q:Fin->SL->Prop}(dh:A.handled=none)(D:Xr z bQ b4 bo bu bZ b0)(hz:jX s.heap z bQ b4 (XQ T) (.bool bd))(eK:s.heap.get? T=some jj)(oD:XU s.heap bQ (.ref bo) (.ref bu))(aa:s.heap.IsListIter bo bZ bT)(ab:s.heap.IsListIter bu b0 bP)(nq:s.heap.IsList bZ xs)(l1:s.heap.IsList b0 ys)(r9:xs[bT]?=none∨ys[bP]?=none)(oF:∀h' e,(∀c o,c≠z->c≠bo->c≠bu->s.heap.get? c=some o->h'.get? c=some o)->(∃o,h'.get? e=some o/\o.cls=.type "StopIteration")->E (.ref e) { s with heap:=h' }):
  wpAny (UV prog w) A (YJ.«zip.__next__» ⟨[.ref z],[]⟩) Q E s:=by
 show wpAny _ _ (field (.ref z) 2 >>= _) _ _ _
 refine SB (W9 hz rfl (x:=.bool false) rfl ?_);show wpAny _ _ (field (.ref z) 3 >>= _) _ _ _
 refine SB (W9 hz rfl (x:=.ref bQ) rfl ?_);refine SB (X3 oD rfl ?_);show wpAny _ _ (Builtin.SmallTypes.ownedTupleIsFree (.ref z) >>= _) _ _ _
 refine SB (Bd hz eK fun wI Be hW=>?_);simp only[VH,if_false];refine SB ?_;simp only[<-Wj,List.forIn_cons,List.forIn_nil];refine SB (SB (WW ?_));show wpAny _ _ (Builtin.SmallTypes.nextOf (.ref bo) >>= _) _ _ _
 cases aj:xs[bT]? with
 | none =>
  exact SB (XV dh (aa.extBut hW.extBut D.i1z) (nq.extBut hW.extBut D.l1z) aj fun wJ e jY au=>oF wJ e (fun c o bC eu _ x=>jY _ _ eu (hW.extBut _ _ bC x)) au)
 | some x =>
  have aM:ys[bP]?=none:=by rcases r9 with h|h;rw[aj]at h;cases h;exact h
  refine SB (Xn (aa.extBut hW.extBut D.i1z) (nq.extBut hW.extBut D.l1z) aj fun wJ Bf jY=>TD ?_);refine TD ?_;refine SB (SB (WW ?_));show wpAny _ _ (Builtin.SmallTypes.nextOf (.ref bu) >>= _) _ _ _
  exact SB (XV dh ((ab.extBut hW.extBut D.i2z).extBut jY.extBut D.i12.symm) ((l1.extBut hW.extBut D.l2z).extBut jY.extBut D.l2i1) aM fun La e Lb au=>oF La e (fun c o bC eu fN x=>Lb _ _ fN (jY.extBut _ _ eu (hW.extBut _ _ bC x))) au)
structure ml (S z bQ b4 bo bu bZ b0:Tl) (xs ys:Array SC) (i:Nat) (h:WY):Prop where
 fl:(jX h z bQ b4 .none (.bool false)/\∃a b,XU h b4 a b)∨∃(T:Tl)(b:Bool)(jj:Obj),jX h z bQ b4 (XQ T) (.bool b)/\h.get? T=some jj/\T≠z/\T≠bo/\T≠bu/\T≠S
 tp:XU h bQ (.ref bo) (.ref bu)
 it1:h.IsListIter bo bZ i
 it2:h.IsListIter bu b0 i
 ls1:h.IsList bZ xs
 ls2:h.IsList b0 ys
theorem ml.frame{S z bQ b4 bo bu bZ b0:Tl}{xs ys:Array SC}{i:Nat}{h h':WY}(Z:ml S z bQ b4 bo bu bZ b0 xs ys i h)(f4:S∉[z,bQ,b4,bo,bu,bZ,b0])(k:∀c o,c≠S->h.get? c=some o->h'.get? c=some o):ml S z bQ b4 bo bu bZ b0 xs ys i h':=by
 have ne:∀c,c∈[z,bQ,b4,bo,bu,bZ,b0]->c≠S:=fun c hc e=>f4 (e▸hc);refine⟨?_,k _ _ (ne _ (by simp)) Z.tp,Z.it1.at fun o e=>k _ o (ne _ (by simp)) e,Z.it2.at fun o e=>k _ o (ne _ (by simp)) e,Z.ls1.at fun o e=>k _ o (ne _ (by simp)) e,Z.ls2.at fun o e=>k _ o (ne _ (by simp)) e⟩;rcases Z.fl with⟨aa,a,b,ab⟩|⟨T,b,jj,aa,ab,aQ,bB,ek,fO⟩
 ·exact .inl ⟨k _ _ (ne _ (by simp)) aa,a,b,k _ _ (ne _ (by simp)) ab⟩
 ·exact .inr ⟨T,b,jj,k _ _ (ne _ (by simp)) aa,k _ _ fO ab,aQ,bB,ek,fO⟩
theorem Lc{S z bQ b4 bo bu bZ b0:Tl}{xs ys:Array SC}{i:Nat}{x y:SC}{Q:Option SC->SL->Prop}(D:Xr z bQ b4 bo bu bZ b0)(Z:ml S z bQ b4 bo bu bZ b0 xs ys i s.heap)(dH:S<s.heap.objs.size)(aj:xs[i]?=some x)(aM:ys[i]?=some y)(gH:∀h',ml S z bQ b4 bo bu bZ b0 xs ys (i+1) h'->XU h' s.heap.objs.size x y->h'.objs.size=s.heap.objs.size+1->(∀c o,c≠z->c≠b4->c≠bo->c≠bu->s.heap.get? c=some o->h'.get? c=some o)->Q (some (.ref s.heap.objs.size)) { s with heap:=h' }):
  wpAny (UV prog w) A (Yg (.ref z)) Q E s:=by
 have Ld:bo<s.heap.objs.size:=by obtain⟨_,e,_⟩:=Z.it1;exact Heap.lt_size e
 have Le:bu<s.heap.objs.size:=by obtain⟨_,e,_⟩:=Z.it2;exact Heap.lt_size e
 rcases Z.fl with⟨hz,a,b,mm⟩|⟨T,b,jj,hz,eK,cH,cn,fM,r'⟩
 ·have Lf:z<s.heap.objs.size:=Heap.lt_size hz;refine XW D hz Z.tp mm Z.it1 Z.it2 Z.ls1 Z.ls2 aj aM fun h' c6 dt hJ il jZ lw ah=>?_;exact gH h' ⟨.inr ⟨_,false,_,c6,jZ,TA Lf,TA Ld,TA Le,TA dH⟩,ah _ _ D.TIz D.TITO D.TIi1 D.TIi2 Z.tp,hJ,il,Z.ls1.at fun o e=>ah _ o D.l1z D.l1TO D.l1i1 D.l1i2 e,Z.ls2.at fun o e=>ah _ o D.l2z D.l2TO D.l2i1 D.l2i2 e⟩ jZ lw ah
 ·have p':s.TypeIs (.ref z) "zip":=⟨_,hz,rfl⟩;unfold Yg
  refine SB (Yo (Xl (name:=Str.ofString "__next__") p' F.slot_zip_next
   (XG F.slot_zip_next p' F.entry_zip_next
    (K5 D hz eK Z.tp Z.it1 Z.it2 Z.ls1 Z.ls2 aj aM fun h' c6 hJ il jZ lw ah=>TD ?_) (F.args_zip_next_1 _))))
  exact gH h' ⟨.inr ⟨T,true,jj,c6,ah _ _ cH cn fM eK,cH,cn,fM,r'⟩,ah _ _ D.TIz D.TIi1 D.TIi2 Z.tp,hJ,il,Z.ls1.at fun o e=>ah _ o D.l1z D.l1i1 D.l1i2 e,Z.ls2.at fun o e=>ah _ o D.l2z D.l2i1 D.l2i2 e⟩ jZ lw fun c o bC _ eu fN e=>ah c o bC eu fN e
theorem Lg{S z bQ b4 bo bu bZ b0:Tl}{xs ys:Array SC}{i:Nat}{Q:Option SC->SL->Prop}(dh:A.handled=none)(D:Xr z bQ b4 bo bu bZ b0)(Z:ml S z bQ b4 bo bu bZ b0 xs ys i s.heap)(r9:xs[i]?=none∨ys[i]?=none)(gH:∀h',(∀c o,c≠z->c≠b4->c≠bo->c≠bu->s.heap.get? c=some o->h'.get? c=some o)->Q none { s with heap:=h' }):
  wpAny (UV prog w) A (Yg (.ref z)) Q E s:=by
 rcases Z.fl with⟨hz,a,b,mm⟩|⟨T,b,jj,hz,eK,cH,cn,fM,r'⟩
 ·exact X1 dh D hz Z.tp mm Z.it1 Z.it2 Z.ls1 Z.ls2 r9 gH
 ·have p':s.TypeIs (.ref z) "zip":=⟨_,hz,rfl⟩;unfold Yg
  refine SB (Yo (Xl (name:=Str.ofString "__next__") p' F.slot_zip_next
   (XG F.slot_zip_next p' F.entry_zip_next (K' dh D hz eK Z.tp Z.it1 Z.it2 Z.ls1 Z.ls2 r9 fun h' e ah au=>?_) (F.args_zip_next_1 _))))
  obtain⟨o,aA,hc⟩:=au;refine SB (wpAny_isInstance (T:="StopIteration") (b:=true) ⟨o,aA,hc⟩ isSubtype_stop ?_);exact TD (gH _ fun c o bC _ eu fN e=>ah c o bC eu fN e)
end
structure Got (lo:Nat) (qa:List Tl) (xs ys:Array SC) (h:WY) (ts:List Tl):Prop where
 nd:ts.Nodup
 new:∀t∈ts,lo<=t/\t∉qa
 pair:∀(j:Nat)(t:Tl),ts[j]?=some t->∃x y,xs[j]?=some x/\ys[j]?=some y/\XU h t x y
theorem Got.frame{lo:Nat}{qa:List Tl}{xs ys:Array SC}{h h':WY}{ts:List Tl}(g:Got lo qa xs ys h ts)(k:∀c o,c∉qa->h.get? c=some o->h'.get? c=some o):Got lo qa xs ys h' ts :=
 ⟨g.nd,g.new,fun j t e=>let⟨x,y,aa,ab,aQ⟩:=g.pair j t e;⟨x,y,aa,ab,k t _ (g.new t (Tt e)).2 aQ⟩⟩
section
variable{prog:WF}{w:WU}{A:WV}{R:YE->SL->Prop}
theorem Lh{S z bQ b4 bo bu bZ b0:Tl}{xs ys:Array SC}{lo n:Nat}(dh:A.in1.handled=none)(D:Xr z bQ b4 bo bu bZ b0)(f4:S∉[z,bQ,b4,bo,bu,bZ,b0])(aH:n<=SZ)(f5:n=min xs.size ys.size)(wK:∀a∈[z,b4,bo,bu,S],a<lo)(res:SC):
  ∀(k i:Nat)(s:SL)(ts:List Tl)(c:Nat),n-i=k->i<=n->lo<=s.heap.objs.size->ml S z bQ b4 bo bu bZ b0 xs ys i s.heap->s.heap.get? S=some { cls:=.type "list",dict:=none,data:=.seq (ts.map Value.ref).toArray c,slots :=#[] }->ts.length=i->Got lo [z,b4,bo,bu,S] xs ys s.heap ts ->
  (∀h' jk cu,h'.get? S=some { cls:=.type "list",dict:=none,data:=.seq (jk.map Value.ref).toArray cu,slots :=#[] }->jk.length=n->Got lo [z,b4,bo,bu,S] xs ys h' jk->(∀c o,c∉[z,b4,bo,bu,S]->s.heap.get? c=some o->h'.get? c=some o)->R (.ok (.ret res)) { s with heap:=h' }) ->
  codeAny (UV prog w) A (.builtin "list.extend.loop" ⟨[.ref S,.ref z,res],[]⟩) R s:=by
 intro k;induction k with
 | zero =>
  intro i s ts c ah aC n9 mI dH ay aD iS;have Li:i=n:=by lia
  subst Li;refine Xv F.entry_extend_loop ?_;rw[Around.under_plainId F.plain_extend_loop _];show wpAny _ A.in1 (Yg (.ref z) >>= _) _ _ s
  refine SB (Lg dh D mI ?_ fun h' qb=>?_)
  ·rcases Nat.le_total xs.size ys.size with h|h
   ·exact .inl (Vk (by lia))
   ·exact .inr (Vk (by lia))
  have bP:∀c o,c∉[z,b4,bo,bu,S]->s.heap.get? c=some o->h'.get? c=some o:=fun c o hc e=>qb c o (fun h=>hc (by simp[h])) (fun h=>hc (by simp[h])) (fun h=>hc (by simp[h])) (fun h=>hc (by simp[h])) e;exact TD (iS h' ts c (qb S _ (fun h=>f4 (by simp[h])) (fun h=>f4 (by simp[h])) (fun h=>f4 (by simp[h])) (fun h=>f4 (by simp[h])) dH) ay (aD.frame bP) bP)
 | succ k bR =>
  intro i s ts c ah aC n9 mI dH ay aD iS;have c9:i<n:=by lia
  refine Xv F.entry_extend_loop ?_;rw[Around.under_plainId F.plain_extend_loop _];show wpAny _ A.in1 (Yg (.ref z) >>= _) _ _ s
  have aj:xs[i]?=some xs[i]:=U4 (by lia);have aM:ys[i]?=some ys[i]:=U4 (by lia);refine SB (Lc D mI (Heap.lt_size dH) aj aM fun h' Lj wL sz qb=>?_);have Bg:h'.get? S=_:=qb S _ (fun h=>f4 (by simp[h])) (fun h=>f4 (by simp[h])) (fun h=>f4 (by simp[h])) (fun h=>f4 (by simp[h])) dH;have bP:∀c o,c∉[z,b4,bo,bu,S]->s.heap.get? c=some o->h'.get? c=some o:=fun c o hc e=>qb c o (fun h=>hc (by simp[h])) (fun h=>hc (by simp[h])) (fun h=>hc (by simp[h])) (fun h=>hc (by simp[h])) e;have abE:S<s.heap.objs.size:=Heap.lt_size dH
  have Lk:s.heap.objs.size∉[z,b4,bo,bu,S]:=fun aB=>by
   exact absurd (wK _ aB) (Nat.not_lt.mpr n9)
  show wpAny _ A.in1 (YC S (·.push (.ref s.heap.objs.size)) >>= _) _ _ _
  refine SB ?_;have Bh:(ts.map Value.ref).toArray.size=i:=by simp[ay]
  have dj:Heap.SameBut S h' (h'.update S (Obj.mapSeq (·.push (Value.ref s.heap.objs.size)))):=Heap.SameBut.update ..;have ag:(ts.map Value.ref).toArray.push (.ref s.heap.objs.size)=((ts++[s.heap.objs.size]).map Value.ref).toArray:=by simp
  have nr:=Heap.get?_update_self (Obj.mapSeq (·.push (Value.ref s.heap.objs.size))) Bg rfl;replace nr:(h'.update S (Obj.mapSeq (·.push (Value.ref s.heap.objs.size)))).get? S=some { cls:=.type "list",dict:=none,data:=.seq ((ts.map Value.ref).toArray.push (.ref s.heap.objs.size)) _,slots :=#[] }:=nr;rw[ag]at nr
  refine Xw Bg rfl (TD ⟨Yp F.plain_extend_loop _,bR (i+1) _ (ts++[s.heap.objs.size]) _ (by lia) c9 ?_ (Lj.frame f4 fun c o hc e=>?_) nr (by simp[ay]) ?_ fun Ll jk cu aN a3 cE e8=>?_⟩)
   (by rw[Bh];lia) (by show(Array.push _ _).size<=SZ+1;rw[Wk,Bh];lia)
  ·show lo<=(h'.update S (Obj.mapSeq (·.push (Value.ref s.heap.objs.size)))).objs.size
   rw[dj.1,sz];lia
  ·exact dj.extBut _ _ hc e
  ·refine Got.frame (h:=h') ⟨?_,fun t aR=>?_,fun j t bz=>?_⟩ fun c o hc e=>dj.extBut _ _ (fun h=>hc (by simp[h])) e
   ·refine List.nodup_append.mpr ⟨aD.nd,by simp,fun a ax b ae e=>?_⟩;have ae:b=s.heap.objs.size:=by simpa using ae
    subst ae e;obtain⟨j,bz⟩:=UG ax;obtain⟨_,_,_,_,q⟩:=aD.pair j _ bz;exact S6 _ (Heap.lt_size q)
   ·rcases SI.mp aR with aR|aR
    ·exact aD.new t aR
    ·have:t=s.heap.objs.size:=by simpa using aR
     subst this;exact⟨n9,Lk⟩
   ·rcases Nat.lt_or_ge j ts.length with wM|wM
    ·rw[TK wM]at bz;obtain⟨x,y,aN,a3,cE⟩:=aD.pair j t bz;exact⟨x,y,aN,a3,bP _ _ (aD.new t (Tt bz)).2 cE⟩
    ·rw[Ts wM]at bz
     have Lm:j-ts.length=0:=by
      rcases V0 (j-ts.length)with z|z
      ·exact z
      ·rw[TF (by show 1<=_;lia)]at bz;cases bz
     rw[Lm]at bz;have nc:j=i:=by lia
     subst nc;cases bz;exact⟨_,_,aj,aM,wL⟩
  ·exact iS Ll jk cu aN a3 cE fun c o hc e=>e8 c o hc (dj.extBut _ _ (fun h=>hc (by simp[h])) (bP c o hc e))
theorem Ln:typeLookup (.type "zip") "__len__"=pure none:=by rw[typeLookup_type,XX];kernel_rfl
theorem Lo:typeLookup (.type "zip") "__length_hint__"=pure none:=by rw[typeLookup_type,XX];kernel_rfl
theorem Lp{s:SL}{S z bQ b4 bo bu bZ b0:Tl}{xs ys:Array SC}{lo n:Nat}(dh:A.in1.handled=none)(D:Xr z bQ b4 bo bu bZ b0)(f4:S∉[z,bQ,b4,bo,bu,bZ,b0])(aH:n<=SZ)(f5:n=min xs.size ys.size)(wK:∀a∈[z,b4,bo,bu,S],a<lo)(n9:lo<=s.heap.objs.size)(Z:ml S z bQ b4 bo bu bZ b0 xs ys 0 s.heap)(Lq:jX s.heap z bQ b4 .none (.bool false))(dH:s.heap.get? S=some { cls:=.type "list",data:=.seq #[] })(iS:∀h' ts cu,h'.get? S=some { cls:=.type "list",dict:=none,data:=.seq (ts.map Value.ref).toArray cu,slots :=#[] }->ts.length=n->Got lo [z,b4,bo,bu,S] xs ys h' ts->(∀c o,c∉[z,b4,bo,bu,S]->s.heap.get? c=some o->h'.get? c=some o)->R (.ok (.ret .none)) { s with heap:=h' }):
  wpAny (UV prog w) A.in1 (YJ.«list.__init__» ⟨[.ref S,.ref z],[]⟩)
   (fun eT s'=>match eT with|.done f=>R (.ok f) s'|.again cu=>cu.quiet=true/\codeAny (UV prog w) A cu R s') (fun e s'=>R (.error e) s') s:=by
 have Bi:z≠S:=fun h=>f4 (by simp[h]);show wpAny _ A.in1 (do let old <-Builtin.List.listItems (.ref S);Builtin.List.listUpdate (.ref S) (fun _ => #[]);letGo old.toList.reverse;Builtin.List.listExtendWith (.ref S) (.ref z) .none) _ _ s;refine SB ?_;unfold Builtin.List.listItems;refine SB (X3 dH rfl (TD ?_));show wpAny _ A.in1 (YC S (fun _ => #[]) >>= fun _=>letGo (#[]:Array SC).toList.reverse >>= fun _=>Builtin.List.listExtendWith (.ref S) (.ref z) .none) _ _ s
 refine SB (Xw dH rfl ?_);have wN:Heap.SameBut S s.heap (s.heap.update S (Obj.mapSeq (fun _=>(#[]:Array SC)))):=Heap.SameBut.update ..;have nr:=Heap.get?_update_self (Obj.mapSeq (fun _=>(#[]:Array SC))) dH rfl;refine SB (wpAny_letGo ?_);have Bj:jX (s.heap.update S (Obj.mapSeq (fun _=>(#[]:Array SC)))) z bQ b4 .none (.bool false):=wN.extBut _ _ Bi Lq;have eK:Shared.TypeIs { s with heap:=s.heap.update S (Obj.mapSeq (fun _=>(#[]:Array SC))) } (.ref z) "zip":=⟨_,Bj,rfl⟩;unfold Builtin.List.listExtendWith;refine SB (wpAny_typeOf eK ?_);have aa:Builtin.List.listSameRef (.ref S) (.ref z)=false:=by simp[Builtin.List.listSameRef,Bi.symm]
 have ab:(Value.type "zip"==Value.type "list")=false:=by decide
 have aQ:(Value.type "zip"==Value.type "tuple")=false:=by decide
 simp only[aa,ab,aQ,Bool.or_false,VH,if_false];refine SB (XH Bj ?_);refine SB (WW ?_);unfold Builtin.List.listLengthHint;refine SB (wpAny_specialOf eK Ln ?_);show wpAny _ A.in1 (specialOf (Value.ref z) (Str.ofString "__length_hint__") >>= _) _ _ _
 refine SB (wpAny_specialOf eK Lo ?_);refine TD ?_
 show wpAny _ A.in1 (rule "list.extend.makes-room" >>= fun _=>Builtin.List.listTouch (.ref S) >>= fun _ =>
  again (.builtin "list.extend.loop" ⟨[.ref S,.ref z,.none],[]⟩)) _ _ _
 refine SB (Ys ?_);refine SB ?_;show wpAny _ A.in1 (YC S (·.push .none) >>= fun _=>YC S (·.pop)) _ _ _
 refine SB (Xw nr rfl ?_);have Bk:=Heap.get?_update_self (Obj.mapSeq (·.push Value.none)) nr rfl;refine Xw (hz:=by seq_fits) Bk rfl ?_;have Lr:=Heap.get?_update_self (Obj.mapSeq (·.pop)) Bk rfl;have Bl:Heap.SameBut S (s.heap.update S (Obj.mapSeq (fun _=>(#[]:Array SC)))) ((s.heap.update S (Obj.mapSeq (fun _=>(#[]:Array SC)))).update S (Obj.mapSeq (·.push Value.none))):=Heap.SameBut.update ..;have Bm:Heap.SameBut S ((s.heap.update S (Obj.mapSeq (fun _=>(#[]:Array SC)))).update S (Obj.mapSeq (·.push Value.none))) (((s.heap.update S (Obj.mapSeq (fun _=>(#[]:Array SC)))).update S (Obj.mapSeq (·.push Value.none))).update S (Obj.mapSeq (·.pop))):=Heap.SameBut.update ..
 have Bn:∀b o,b≠S->s.heap.get? b=some o->(((s.heap.update S (Obj.mapSeq (fun _=>(#[]:Array SC)))).update S (Obj.mapSeq (·.push Value.none))).update S (Obj.mapSeq (·.pop))).get? b=some o :=
  fun b o ae e=>Bm.extBut _ _ ae (Bl.extBut _ _ ae (wN.extBut _ _ ae e))
 refine TD ⟨Yp F.plain_extend_loop _,Lh (lo:=lo) (n:=n) dh D f4 aH f5 wK .none n 0 _ [] _ rfl (Ti _) ?_ (Z.frame f4 fun c o hc e=>Bn c o hc e) Lr rfl ⟨by simp,by simp,by simp⟩ fun h' ts cu aN a3 cE e8=>?_⟩
 ·show lo<=(((s.heap.update S (Obj.mapSeq (fun _=>(#[]:Array SC)))).update S (Obj.mapSeq (·.push Value.none))).update S (Obj.mapSeq (·.pop))).objs.size
  rw[Bm.1,Bl.1,wN.1];exact n9
 ·exact iS h' ts cu aN a3 cE fun c o hc e=>e8 c o hc (Bn c o (fun h=>hc (by simp[h])) e)
end
section
variable{prog:WF}{w:WU}{A:WV}{E:SC->SL->Prop}{s:SL}
theorem Ls{Q:SC->SL->Prop}{z bQ b4 bo bu bZ b0:Tl}{xs ys:Array SC}{n:Nat}(dh:A.handled=none)(D:Xr z bQ b4 bo bu bZ b0)(aH:n<=SZ)(f5:n=min xs.size ys.size)(hz:jX s.heap z bQ b4 .none (.bool false))(mm:∃a b,XU s.heap b4 a b)(oD:XU s.heap bQ (.ref bo) (.ref bu))(aa:s.heap.IsListIter bo bZ 0)(ab:s.heap.IsListIter bu b0 0)(nq:s.heap.IsList bZ xs)(l1:s.heap.IsList b0 ys)(gH:∀h' ts cu,h'.get? s.heap.objs.size=some { cls:=.type "list",dict:=none,data:=.seq (ts.map Value.ref).toArray cu,slots :=#[] }->ts.length=n->Got (s.heap.objs.size+1) [] xs ys h' ts->(∀c o,c∉[z,b4,bo,bu]->s.heap.get? c=some o->h'.get? c=some o)->Q (.ref s.heap.objs.size) { s with heap:=h' }):
  wpAny (UV prog w) A (call (.type "list") [.ref z]) Q E s:=by
 refine callType_codes (Q₁:=fun obj c4=>obj=.ref s.heap.objs.size/\c4={ s with heap:=s.heap.push { cls:=.type "list",data:=.seq #[] } }) F.called_list (F.typeCall_list_1 _) F.entry_list_init
  (code_list_new _ ⟨rfl,rfl⟩) fun obj c4 wI=>?_
 obtain⟨rfl,rfl⟩:=wI;have dH:(s.heap.push { cls:=.type "list",data:=.seq #[] }).get? s.heap.objs.size=some { cls:=.type "list",data:=.seq #[] }:=Heap.get?_push_size _ rfl;have hg:∀{b o},s.heap.get? b=some o->(s.heap.push { cls:=.type "list",data:=.seq #[] }).get? b=some o:=fun e=>Heap.get?_push_of_some _ e;obtain⟨a,b,mm⟩:=mm;have lz:z<s.heap.objs.size:=Heap.lt_size hz;have Lu:bQ<s.heap.objs.size:=Heap.lt_size oD;have Bo:b4<s.heap.objs.size:=Heap.lt_size mm;have Bp:bo<s.heap.objs.size:=by obtain⟨_,e,_⟩:=aa;exact Heap.lt_size e
 have Bq:bu<s.heap.objs.size:=by obtain⟨_,e,_⟩:=ab;exact Heap.lt_size e
 have Lv:bZ<s.heap.objs.size:=by obtain⟨_,e,_⟩:=nq;exact Heap.lt_size e
 have Lw:b0<s.heap.objs.size:=by obtain⟨_,e,_⟩:=l1;exact Heap.lt_size e
 have f4:s.heap.objs.size∉[z,bQ,b4,bo,bu,bZ,b0]:=fun aB=>by
  simp only[Sy,Tj,or_false]at aB;have ne:∀{b:Tl},b<s.heap.objs.size->s.heap.objs.size≠b:=fun l e=>S6 _ (VI l e);rcases aB with h|h|h|h|h|h|h<;>first|exact ne lz h|exact ne Lu h|exact ne Bo h|exact ne Bp h|exact ne Bq h|exact ne Lv h|exact ne Lw h
 refine⟨⟨_,dH,rfl⟩,F.args_list_init_2 _ _,Lp (lo:=s.heap.objs.size+1) (n:=n) dh D f4 aH f5 ?_ (by rw[Heap.size_push];exact SD _) ⟨.inl ⟨hg hz,a,b,hg mm⟩,hg oD,aa.at fun o e=>hg e,ab.at fun o e=>hg e,nq.at fun o e=>hg e,l1.at fun o e=>hg e⟩ (hg hz) dH fun h' ts cu aN a3 cE e8=>⟨rfl,?_⟩⟩
 ·intro a ax;simp only[Sy,Tj,or_false]at ax;rcases ax with rfl|rfl|rfl|rfl|rfl
  ·exact U5 lz
  ·exact U5 Bo
  ·exact U5 Bp
  ·exact U5 Bq
  ·exact Nat.lt_succ_self _
 ·refine gH h' ts cu aN a3 ⟨cE.nd,fun t aR=>⟨(cE.new t aR).1,by simp⟩,cE.pair⟩ fun c o hc e=>e8 c o ?_ (hg e);have:=Heap.lt_size e;intro aB;simp only[Sy,Tj,or_false]at aB hc;rcases aB with h|h|h|h|h
  ·exact hc (.inl h)
  ·exact hc (.inr (.inl h))
  ·exact hc (.inr (.inr (.inl h)))
  ·exact hc (.inr (.inr (.inr h)))
  ·exact S6 _ (VI this h.symm)
end
end PySem
namespace L2
open PySem PySem.Spec PyProof.Rows PySem.W
def lays(H:ai):List Tl->List (V×V)->ai
 | t::ts,p::ps=>lays (upd H t (.tup [p.1,p.2])) ts ps
 | _,_=>H
theorem sb:∀{ts:List Tl}{ps:List (V×V)}{H:ai}{b:Tl},b∉ts->lays H ts ps b=H b
 | [],_,_,_,_=>rfl
 | _::_,[],_,_,_=>rfl
 | t::ts,p::ps,H,b,h=>by
  show lays (upd H t _) ts ps b=H b
  rw[sb (fun z=>h (Sw _ z)),b1 (fun z:b=t=>h (by rw[z];exact Sv))]
theorem Br:∀{ts:List Tl}{ps:List (V×V)}{H:ai}{b:Tl}{o:d7},lays H ts ps b=some o->(∃(j:Nat)(p:V×V),ts[j]?=some b/\ps[j]?=some p/\o=.tup [p.1,p.2])∨H b=some o
 | [],_,_,_,_,h=>.inr h
 | _::_,[],_,_,_,h=>.inr h
 | t::ts,p::ps,H,b,o,h=>by
  rcases Br (ts:=ts) (ps:=ps) h with⟨j,q,aa,ab,aQ⟩|h
  ·exact .inl ⟨j+1,q,by simpa using aa,by simpa using ab,aQ⟩
  ·by_cases ae:b=t
   ·subst ae;rw[ei]at h;cases h;exact .inl ⟨0,p,rfl,rfl,rfl⟩
   ·rw[b1 ae]at h;exact .inr h
theorem Bs:∀(ts:List Tl),bV (ts.map V.ref) (ts.map Value.ref)
 | []=>.nil
 | t::ts=>.cons rfl (Bs ts)
theorem neN{x y:Nat}(h:x<y∨y<x):x≠y:=by lia
theorem Bt{n a b:Nat}(ax:a<n)(ae:b<n):Xr (n+4) (n+2) (n+3) n (n+1) a b :=
 ⟨neN (by lia),neN (by lia),neN (by lia),neN (by lia),neN (by lia),neN (by lia),neN (by lia),neN (by lia),neN (by lia),neN (by lia),neN (by lia),neN (by lia),neN (by lia),neN (by lia),neN (by lia),neN (by lia),neN (by lia),neN (by lia)⟩
theorem Lx{n c:Nat}(h:c<n)(aB:c∈[n+4,n+3,n,n+1]):False:=by
 simp only[Sy,Tj,or_false]at aB;lia
section
variable{X:aU}
def Ly(t:eE):bN:=fun σ H Q=>t σ H fun vs aw=>∃a b xs ys,vs=[.ref a,.ref b]/\aw a=some (.lst xs)/\aw b=some (.lst ys) /\
 ∀(ts:List Tl)(S:Tl),ts.length=(xs.zip ys).length->ts.Nodup->S∉ts->(∀t∈ts,aw t=none)->aw S=none->Q (.ref S) (upd (lays aw ts (xs.zip ys)) S (.lst (ts.map V.ref)))
theorem Lz{ag ao:WP}{t:eE}{cx cg wO j0:Pos}(ax:gG X [ag,ao] t)(hc:X.calm=true)(wP:ep X "list")(wQ:X.mg "list"=none)(wR:ep X "zip")(wS:X.mg "zip"=none)(se:Tk [.Call (.Name "zip" cg) [ag,ao] [] j0] X.env=(false,W7 (.Call (.Name "zip" cg) [ag,ao] [] j0) X.env)::Tk [] X.env:=by rfl)(hX:Tk [ag,ao] X.env=(false,W7 ag X.env)::Tk [ao] X.env:=by rfl)(dV:(W1 j0 (Tk [ao] X.env)).any (·.1)=false:=by rfl):
  b5 X (.Call (.Name "list" cx) [.Call (.Name "zip" cg) [ag,ao] [] j0] [] wO) (Ly t):=by
 intro pins s σ H Q I h;refine WZ (kX (u:=.type "list") I wP wQ (by decide +kernel) ?_);refine Ui ?_ se rfl;rw[se];refine Calls.spliced_cons ?_;refine WZ (kX (u:=.type "zip") I wR wS (by decide +kernel) ?_);refine Ui (b9 (ax j0 pins s σ H _ I h) fun aG aE ⟨vs,aw,a2,av,aN⟩=>?_) hX dV;obtain⟨a,b,xs,ys,rfl,ft,jd,q⟩:=aN;obtain⟨u,v,rfl,gr,b2⟩:=vals2 av;cases gr;cases b2;obtain⟨aP,Bu,cv,v1,abF,qc⟩:=a2.lstM ft;obtain⟨bc,e3,cN,v2,abG,qd⟩:=a2.lstM jd;have Bv:aE.heap.IsList a Bu.toArray:=⟨_,qc,rfl,cv,rfl⟩;have L2:aE.heap.IsList b e3.toArray:=⟨_,qd,rfl,cN,rfl⟩;have sf:a<aE.heap.objs.size:=Heap.lt_size qc;have lb:b<aE.heap.objs.size:=Heap.lt_size qd;refine call_zip_2 Bv L2 fun aa c6 dt hJ il jZ lw bT=>?_;refine Calls.spliced_nil ?_;have D:Xr (aE.heap.objs.size+4) (aE.heap.objs.size+2) (aE.heap.objs.size+3) aE.heap.objs.size (aE.heap.objs.size+1) a b:=Bt sf lb;refine Ls (n:=min Bu.length e3.length) (a2.ok.hd hc) D (by lia) (by simp) c6 ⟨_,_,hJ⟩ dt il jZ (Bv.at fun o e=>bT _ _ e) (L2.at fun o e=>bT _ _ e) fun ab ts cu aO aT g3 d0=>?_;have keep:∀c o,aE.heap.get? c=some o->ab.get? c=some o:=fun c o e=>d0 c o (fun aB=>Lx (Heap.lt_size e) aB) (bT c o e);have Bw:aa.objs.size=aE.heap.objs.size+5:=lw
 have f6:∀t∈ts,aE.heap.objs.size<=t/\t≠aa.objs.size:=fun t aR =>
  have q:aa.objs.size+1<=t:=(g3.new t aR).1
  ⟨SA (by rw[Bw];exact Un _ 6) q,fun z=>S6 _ (VI q z)⟩
 have f4:aa.objs.size∉ts:=fun aB=>(f6 _ aB).2 rfl;have fr:∀{t:Tl},aE.heap.objs.size<=t->aw t=none:=fun h=>a2.hok.fresh h;have wT:aE.heap.objs.size<=aa.objs.size:=by rw[Bw];exact Un _ 5
 have gz:aw aa.objs.size=none:=fr wT;have fb:ts.length=(xs.zip ys).length:=by rw[TR,aT];lia
 have old:∀{b:Tl}{o:d7},aw b=some o->upd (lays aw ts (xs.zip ys)) aa.objs.size (.lst (ts.map V.ref)) b=some o:=fun{b o} e=>by
  have ae:b<aE.heap.objs.size:=a2.hok.lt e;rw[b1 (S4 (S5 ae wT)),sb (fun aB=>S6 _ (S5 ae (f6 b aB).1))];exact e
 have LA:∀{b:Tl}{o:Obj},aE.heap.get? b=some o->aw b=none->upd (lays aw ts (xs.zip ys)) aa.objs.size (.lst (ts.map V.ref)) b=none:=fun{b o} e n=>by
  have ae:=Heap.lt_size e;rw[b1 (S4 (S5 ae wT)),sb (fun aB=>S6 _ (S5 ae (f6 b aB).1))];exact n
 refine⟨.ref aa.objs.size,upd (lays aw ts (xs.zip ys)) aa.objs.size (.lst (ts.map V.ref)),a2.un (t':=aE.toks) ⟨fun b o e _ _ _=>keep b o e,fun b o e _ _ _=>⟨o.slots,keep b o e⟩,fun b o e n _=>LA e n,fun b o e _=>⟨o,keep b o e⟩,fun b xs e=>old e,fun b o u e=>old e,fun b ps e=>⟨#[],by rw[old e];simp⟩⟩ ?_,rfl,q ts _ fb g3.nd f4 (fun t aR=>fr (f6 t aR).1) gz⟩;intro b o e;by_cases ae:b=aa.objs.size
 ·subst ae;rw[ei]at e;cases e;exact⟨by rw[Sz,aT];lia,_,cu,Bs ts,aO⟩
 ·rw[b1 ae]at e;rcases Br e with⟨j,p,ag,ao,rfl⟩|e
  ·obtain⟨x,y,aN,a3,cE⟩:=g3.pair j b ag;rw[Wl]at ao;obtain⟨gd,h5⟩:=ao;obtain⟨g2,bF,bS⟩:=v1.get gd;obtain⟨fX,fJ,nt⟩:=v2.get h5;rw[List.getElem?_toArray]at aN a3;rw[bF]at aN;rw[fJ]at a3;cases aN;cases a3;exact⟨by show 2<=SZ;decide,[_,_],.cons bS (.cons nt .nil),⟨_,cE,rfl,_,rfl⟩⟩
  ·exact(a2.hok b o e).stay (fun c u _ g=>keep c u g) (fun c g=>old g) (fun c xs g=>old g) fun c cf u g=>old g
end
end L2
namespace L3
open PySem L2
section
variable{K:Su}{R:ai}{W:Tl->Prop}{σ:St}{ρ:List aI}
theorem aX.lays:∀{ts:List Tl}{vs b7:List V}{ds es:List D}{B H:ai},aX K R W B H σ ρ->Reps K B vs ds->Reps K B b7 es->ts.length=(vs.zip b7).length->ts.Nodup->(∀t∈ts,H t=none) ->
  aX K R W (L2.lays B ts (vs.zip b7)) (L2.lays H ts (vs.zip b7)) σ ρ/\bJ R B (L2.lays B ts (vs.zip b7))/\Reps K (L2.lays B ts (vs.zip b7)) (ts.map V.ref) ((ds.zip es).map fun p=>D.tup [p.1,p.2])
 | [],vs,b7,ds,es,B,H,e,av,aK,ay,_,_=>by
  have q:(ds.zip es).length=0:=by
   rw[TR,<-av.length,<-aK.length,<-TR];exact ay.symm
  rw[Wm.mp q];exact⟨e,bJ.refl _ _,.nil⟩
 | t::ts,vs,b7,ds,es,B,H,e,av,aK,ay,nd,fr=>by
  cases av with
  | nil=>simp at ay
  | cons c6 av =>
   cases aK with
   | nil=>simp at ay
   | cons dt aK =>
    rename_i v d vs ds w fv b7 es
    have aR:=fr t Sv;have g:=e.grow aR (.tup [v,w]);have Bx:=UA.mp nd
    obtain⟨aa,ab,aQ⟩:=aX.lays (ts:=ts) (e.alloc aR (.tup [v,w])) (av.mono g.s) (aK.mono g.s) (by simpa using ay) Bx.2 (fun x aj=>by
     rw[b1 (fun z:x=t=>Bx.1 (by rw[<-z];exact aj))]
     exact fr x (Sw _ aj))
    refine⟨aa,g.trans ab,.cons (.tup (vs:=[v,w]) (ab.s _ _ ei) (.cons ((c6.mono g.s).mono ab.s) (.cons ((dt.mono g.s).mono ab.s) .nil))) aQ⟩
end
section
variable{X:aU}{ag ao:WP}{bw bA:bb}
def By(bw bA:bb):dk:=fun ρ k=>bw ρ fun x=>bA ρ fun y=>∃ds es,x=.lst ds/\y=.lst es/\k ((ds.zip es).map fun p=>.tup [p.1,p.2])
theorem LB{cx cg wO j0:Pos}(ax:bn X ag bw)(ae:bn X ao bA)(hc:X.calm=true)(wP:ep X "list")(wQ:X.mg "list"=none)(wR:ep X "zip")(wS:X.mg "zip"=none)(se:Tk [.Call (.Name "zip" cg) [ag,ao] [] j0] X.env=(false,W7 (.Call (.Name "zip" cg) [ag,ao] [] j0) X.env)::Tk [] X.env:=by rfl)(hX:Tk [ag,ao] X.env=(false,W7 ag X.env)::Tk [ao] X.env:=by rfl)(wU:Tk [ao] X.env=(false,W7 ao X.env)::Tk [] X.env:=by rfl)(dV:(W1 j0 (Tk [ao] X.env)).any (·.1)=false:=by rfl):
  ib X (.Call (.Name "list" cx) [.Call (.Name "zip" cg) [ag,ao] [] j0] [] wO) (By bw bA):=by
 obtain⟨_,aa,av⟩:=ax;obtain⟨_,ab,aK⟩:=ae;refine⟨_,Lz (eJ aa (eJ ab fH wU) hX) hc wP wQ wR wS se hX dV,fun ρ k h R W B H σ Q e q=>?_⟩;refine av ρ _ h R W B H σ _ e fun d v a7 aw aP ag aO aE=>?_;refine aK ρ _ aP R W a7 aw σ _ ag fun d' kg cj aV bc ao aT a4=>?_;obtain⟨ds,es,rfl,rfl,z⟩:=bc;obtain⟨a,vs,rfl,ax,rs⟩:=(aE.mono aT.s).lstV;obtain⟨b,b7,rfl,ae,rt⟩:=a4.lstV;refine⟨a,b,vs,b7,rfl,ao.bh _ _ ax,ao.bh _ _ ae,fun ts S ay nd f4 fr gz=>?_⟩;obtain⟨be,g3,d8⟩:=ao.lays rs rt ay nd fr;obtain⟨bd,bH,bW,c0,dM⟩:=be.newO (by rw[sb f4];exact gz) d8;exact q _ S _ _ _ z bd ((aO.trans aT).trans g3) bH bW c0 d8 dM
end
end L3
namespace L2
open PySem PySem.Spec PyProof.Rows PySem.W
theorem Bz(its:List SC):∀m,m<=its.length->(Te m).filterMap (fun k=>its[its.length-1-k]?)=its.reverse.take m
 | 0,_=>rfl
 | m+1,h=>by
  rw[VJ,Wn,Bz its m (by lia),VK,List.getElem?_reverse (by lia)];congr 1
theorem LC(its:List SC):XT its.toArray none none (some (-1))=its.reverse.toArray:=by
 have ae:W2 none none (some (-1)) its.toArray.size=((its.length:Int)-1,-1,-1):=by simp[W2]
 unfold XT;rw[ae]
 have am:Yv ((its.length:Int)-1) (-1) (-1)=(Te its.length).map fun k=>its.length-1-k:=by
  unfold Yv
  have c:(if(-1:Int)>0 then(if(its.length:Int)-1 < -1 then(-1-((its.length:Int)-1) + -1-1) / -1 else 0)else(if(its.length:Int)-1 > -1 then((its.length:Int)-1 - -1 - -1-1)/(- -1)else 0))=(its.length:Int):=by
   rw[TT (by decide)];split
   ·rw[show(- -1:Int)=1 by decide,Vr];lia
   ·lia
  simp only[c,VG];refine Uo fun k ah=>?_;lia
 simp only[am,V6];have:=Bz its its.length (SD _);rw[UC (by simp)]at this;rw[<-this]
 have e:((fun x=>its.toArray[x]?)∘fun k=>its.length-1-k)=fun k=>its[its.length-1-k]?:=by
  funext k;simp
 rw[e]
end L2
namespace L3
open PySem L2
section
variable{X:aU}{e st:WP}{u aG:bb}{cg pos:Pos}
theorem Reps.reverse{K:Su}{B:ai}:∀{vs:List V}{ds:List D},Reps K B vs ds->Reps K B vs.reverse ds.reverse
 | _,_,.nil=>.nil
 | _,_,.cons h r=>by
  rw[UU,UU];exact(Reps.reverse r).append (.cons h .nil)
end
end L3
namespace L3
open PySem L2 PySem.W
def isNon:D->Bool
 | .non=>true
 | _=>false
section
variable{X:aU}{a b:WP}{bw bA:bb}{pos:Pos}
def BA(bw bA:bb):bb:=fun ρ k=>bw ρ fun x=>bA ρ fun y=>y=.non/\k (.bl (isNon x))
theorem LD{K:Su}{ta tb:bN}(av:dR K ta bw)(aK:dR K tb bA):dR K (kn (fun x y H Q=>y=.non/\Q (.bl (decide (x=.non))) H) ta tb) (BA bw bA):=by
 refine m3 (f:=fun x y k=>y=.non/\k (.bl (isNon x))) av aK fun x y k h R W B H σ ρ v w Q e ba cm q=>?_;obtain⟨rfl,ah⟩:=h;have ag:w=.non:=by cases cm;rfl
 have ao:decide (v=V.non)=isNon x:=by cases ba<;>simp[isNon]
 refine⟨ag,?_⟩;rw[ao];exact q _ _ B H ah e (bJ.refl _ _) (.bl _)
theorem BB(ax:bn X a bw)(ae:bn X b bA)(aB:WT .Is b=false):gj X (.Compare a [.Is] [b] pos) (hF (BA bw bA)):=by
 obtain⟨_,aa,av⟩:=ax;obtain⟨_,ab,aK⟩:=ae;exact⟨_,lV H1 aa ab aB,m4 (LD av aK)⟩
end
end L3
namespace L3
open PySem L2
section
variable{K:Su}{R:ai}{W:Tl->Prop}{B aF H af:ai}{σ:St}{ρ:List aI}
def oG(W:Tl->Prop)(σ:St)(ρ:List aI)(a:Tl):Prop:=W a∨∃i:Nat,σ[i]?=some (some (.ref a))/\ρ[i]?=some .bag
def LF(σ:St)(ρ:List aI)(a:Tl):Prop:=∃(i:Nat)(ds:k1),σ[i]?=some (some (.ref a))/\ρ[i]?=some (.own ds)
theorem aX.frW_B(e:aX K R W B H σ ρ){a:Tl}(h:oG W σ ρ a):B a=none/\fw H a:=by
 rcases h with h|⟨i,aa,ab⟩
 ·exact⟨e.wb a h,e.wh a h⟩
 ·obtain⟨b,bC,_,eu,fN⟩:=e.bagAt ab;rw[aa]at bC;cases bC;exact⟨eu,fN⟩
theorem aX.own_out(e:aX K R W B H σ ρ){a:Tl}(h:LF σ ρ a):R a=none/\B a=none/\H a≠none/\¬oG W σ ρ a:=by
 obtain⟨i,ds,aa,ab⟩:=h;obtain⟨b,bC,cb,eu,fN⟩:=e.ownC ab;rw[aa]at bC;cases bC;refine⟨cb,eu,fN.ne,fun z=>?_⟩;rcases z with z|⟨j,aP,bc⟩
 ·exact e.wr a z cb
 ·have:=e.sep i j a (.inl ⟨aa,.inr ⟨ds,ab⟩⟩) (.inl ⟨aP,.inl bc⟩);subst this;rw[ab]at bc;cases bc
theorem aX.deep_out(e:aX K R W B H σ ρ){i:Nat}{c:jI}(h:ρ[i]?=some (.deep c)){a:Tl}(m:a∈c.adr::c.ins):¬oG W σ ρ a:=fun z=>by
 rcases z with z|⟨j,aP,bc⟩
 ·exact e.wr a z ((e.deepAt h).2.fr a m).1
 ·have:=e.sep i j a (.inr ⟨c,h,m⟩) (.inl ⟨aP,.inl bc⟩);subst this;rw[h]at bc;cases bc
theorem aX.unframe(e:aX K R W B H σ ρ)(fr:∀a o,H a=some o->¬oG W σ ρ a->af a=some o)(wh:∀a,oG W σ ρ a->fw af a):aX K R W B af σ ρ:=by
 have wG:∀a,R a≠none->¬W a->¬oG W σ ρ a:=fun a aa ab z=>by
  rcases z with z|⟨i,aP,bc⟩
  ·exact ab z
  ·obtain⟨b,bC,cb,_⟩:=e.bagAt bc;rw[aP]at bC;cases bC;rcases cb with cb|cb
   ·exact ab cb
   ·exact aa cb
 refine⟨⟨fun a o h nw=>fr a o (e.fr a o h nw) (wG a (by rw[h];simp) nw),fun a o h=>fr a o (e.bh a o h) fun z=>?_,e.wb,fun a h=>wh a (.inl h),e.wr⟩,e.len,fun i k h=>?_,e.sep⟩
 ·rw[(e.frW_B z).1]at h;cases h
 ·have z:=e.ok i k h;cases k with
  | no=>trivial
  | new d=>exact z
  | pin v d=>exact z
  | val d=>exact z
  | own ds =>
   obtain⟨a,aa,ab,aQ,bB⟩:=z;refine⟨a,aa,ab,aQ,bB.mono (cG.refl _) ?_⟩;cases q:H a with
   | none=>exact absurd q bB.ne
   | some o=>exact fr a _ q (e.own_out ⟨i,ds,g9 aa,h⟩).2.2.2
  | deep c =>
   refine⟨z.1,z.2.fr,z.2.nd,z.2.ok.mono (cG.refl _) fun a hQ=>?_⟩;cases q:H a with
   | none=>exact absurd q (z.2.ok.ne hQ)
   | some o=>exact fr a _ q (e.deep_out h hQ)
  | bag =>
   obtain⟨b,aa,ab,aQ,bB⟩:=z;exact⟨b,aa,ab,aQ,wh b (.inr ⟨i,g9 aa,h⟩)⟩
end
section
variable{K:Su}{X:aU}{e:WP}{es:List WP}{u:bb}{w:dk}{pos p:Pos}{I:List Nat}{i:Nat}{rest:List W0}{abH:gw->List aI->D->List aI->Prop}
theorem LG{α:Type}{x:α}{r:List α}:ea (x::r) 0=some x:=by simp[ea,ixN]
end
end L3
namespace L2
open PySem PySem.Spec PyProof.Rows PySem.W
theorem LH(its:List SC):XT its.toArray none none (some 1)=its.toArray:=by
 have ae:W2 none none (some 1) its.toArray.size=(0,(its.length:Int),1):=by simp[W2]
 unfold XT;rw[ae]
 have am:Yv 0 (its.length:Int) 1=Te its.length:=by
  unfold Yv
  have c:(if(1:Int)>0 then(if(0:Int)<(its.length:Int)then((its.length:Int)-0+1-1)/1 else 0)else(if(0:Int)>(its.length:Int)then(0-(its.length:Int)-1-1)/(-1)else 0))=(its.length:Int):=by
   rw[TI (by decide)];split
   ·rw[Vr];lia
   ·lia
  simp only[c,VG];refine(Uo (g:=id) fun k ah=>?_).trans (List.map_id _);show(0+1*(k:Int)).toNat=k
  lia
 simp only[am];congr 1
 have:∀(l:List SC)(m:Nat),m<=l.length->(Te m).filterMap (fun k=>l[k]?)=l.take m:=by
  intro l m;induction m with
  | zero=>intro _;rfl
  | succ m bR =>
   intro h;rw[VJ,Wn,bR (by lia),VK];simp[S8 (show m<l.length by lia)]
 have z:=this its its.length (SD _);rw[List.take_length]at z;refine Eq.trans ?_ z;congr 1;funext k;simp
section
variable{X:aU}{e st:WP}{bI ts:bN}{cg pos:Pos}
def hand(xs:List α)(i:Int):List α:=if i=1 then xs else xs.reverse
def LI(bI ts:bN)(K:Su):bN:=fun σ H Q=>bI σ H fun x aw=>ts σ aw fun i aV=>∃n:Int,i=.int n/\(n=1∨n = -1)/\∃a xs,x=.ref a/\cl K aV a xs/\∀p,aV p=none->Q (.ref p) (upd aV p (.lst (hand xs n)))
theorem LJ(au:b5 X e bI)(ak:b5 X st ts):b5 X (.Subscript e (.Slice none none (some st) cg) pos) (LI bI ts X.K):=by
 intro pins s σ H Q I h;refine Subscript_ (b9 (au pins s σ H _ I h) fun v aE ⟨x,aw,a2,av,aN⟩=>?_);refine wpAny_Slice ?_;rw[Yj];refine TD ?_;refine TD ?_;rw[evalPart_some];refine b9 (ak pins aE σ aw _ a2 aN) fun u a8 ⟨i,ca,bU,vj,cE⟩=>?_;obtain⟨n,rfl,aH,a,xs,rfl,aj,q⟩:=cE;obtain⟨dr,rfl⟩:=vj;cases av;have g4:Inv X pins σ ca { a8 with heap:=a8.heap.push { cls:=.type "slice",data:=.fields #[.none,.none,.int n dr] } }:=bU.kept (t':=a8.toks) fun b cf q=>Heap.get?_push_of_some _ q;obtain⟨its,r,aR,hz⟩:=g4.list aj;have d9:=r.length;show wpAny (UV X.prog X.w) X.A (Yk e (.Slice none none (some st) cg) (.ref a) (.ref a8.heap.objs.size)) (fp X pins σ Q) X.xe { a8 with heap:=a8.heap.push { cls:=.type "slice",data:=.fields #[.none,.none,.int n dr] } }
 refine tail_any (ops:=[.ref a,.ref a8.heap.objs.size]) aR.isList.typeIs slot_list_getitem.lookup ?_ (by with_unfolding_all rfl);have abI:=d9;rcases aH with rfl|rfl
 ·have ag:hand xs 1=xs:=rfl;rw[ag]at q;refine Xh (st:=some 1) aR.isList (Heap.IsSliceOf.new ..) .none .none (.int _ _) (by simp) ?_ (by rw[SS]<;>lia);rw[LH];refine⟨.ref _,_,g4.laid (t':=a8.toks) (o:=.lst xs) (fun b cf q=>Heap.get?_push_of_some _ q) (SD _) ?_,rfl,q _ (g4.hok.fresh (SD _))⟩;exact⟨by exact hz,_,0,r,Heap.get?_push_size _ rfl⟩
 ·have ag:hand xs (-1)=xs.reverse:=rfl;rw[ag]at q;refine Xh (st:=some (-1)) aR.isList (Heap.IsSliceOf.new ..) .none .none (.int _ _) (by simp) ?_ (by rw[SS]<;>lia);rw[LC];refine⟨.ref _,_,g4.laid (t':=a8.toks) (o:=.lst xs.reverse) (fun b cf q=>Heap.get?_push_of_some _ q) (SD _) ?_,rfl,q _ (g4.hok.fresh (SD _))⟩;exact⟨by rw[List.length_reverse];exact hz,_,0,r.reverse,Heap.get?_push_size _ rfl⟩
end
end L2
namespace L3
open PySem L2
section
variable{X:aU}{e st:WP}{u aG:bb}{cg pos p:Pos}{F:cw}{eR:WP}
theorem Reps.hand{K:Su}{B:ai}{vs:List V}{ds:List D}{n:Int}(r:Reps K B vs ds):Reps K B (L2.hand vs n) (L2.hand ds n):=by
 unfold L2.hand;split
 ·exact r
 ·exact r.reverse
def LK(u aG:bb):dk:=fun ρ k=>u ρ fun x=>aG ρ fun i=>∃n:Int,i=.int n/\(n=1∨n = -1)/\∃ds,vU x=some ds/\k (L2.hand ds n)
theorem LL(au:bn X e u)(ak:bn X st aG):ib X (.Subscript e (.Slice none none (some st) cg) pos) (LK u aG):=by
 obtain⟨_,aa,av⟩:=au;obtain⟨_,ab,aK⟩:=ak;refine⟨_,LJ aa ab,fun ρ k h R W B H σ Q e q=>?_⟩;refine av ρ _ h R W B H σ _ e fun d v a7 aw aP ag aO aE=>?_;refine aK ρ _ aP R W a7 aw σ _ ag fun i hs cj aV bc ao aT a4=>?_;obtain⟨n,rfl,aH,ds,hd,z⟩:=bc;obtain⟨a,vs,rfl,ax,rs⟩:=AF ao.bh (aE.mono aT.s) hd;refine⟨n,a4.intV,aH,a,vs,rfl,ax,fun p aq=>?_⟩;obtain⟨bd,bH,bW,c0,dM⟩:=ao.newO aq rs.hand;exact q _ p _ cj _ z bd (aO.trans aT) bH bW c0 rs.hand dM
end
end L3
namespace L3
open PySem PySem.W L2
def LM(h:WY):YD:=(Te h.objs.size).filterMap fun a=>(h.get? a).map fun o=>(a,o)
theorem BC(g:Nat->Option Obj)(a:Nat):∀l:List Nat,(l.filterMap fun b=>(g b).map fun o=>(b,o)).lookup a=if a∈l then g a else none
 | []=>rfl
 | b::l=>by
  have bR:=BC g a l;cases q:g b with
  | none =>
   rw[Wo (by rw[q];rfl),bR];by_cases e:a=b
   ·subst e;rw[q];simp
   ·simp[e]
  | some o =>
   rw[Wq (b:=(b,o)) (by rw[q];rfl),VL];by_cases e:a=b
   ·subst e;simp[q]
   ·have:(a==b)=false:=by simpa using e
    simp only[this,bR,Sy,e,false_or]
def si(K:YD)(x:Str)(st:W0):Prop:=∃f fd,nsIn K TW x=some (some (.ref f))/\kr K x x st f fd
theorem wV(x:Str)(st:W0):tW x st=some (x,x,mW st,.stmts (iJ st),b8 st,TW,[],.none,Xa,true):=by cases st<;>rfl
def BD(K:YD):List (Str×W0)->Prop
 | []=>True
 | p::l=>si K p.1 p.2/\BD K l
def AllB(K:YD):List Str->Prop
 | []=>True
 | b::l=>nsIn K TW b=some none/\AllB K l
def BE(K:YD)(x:Str)(i j:Int):Prop:=∃p od sl n hu sj,nsIn K TW x=some (some (.ref p))/\K.lookup p=some ⟨.type "tuple",od,.seq #[.int i hu,.int j sj] n,sl⟩
def BF(K:YD):List (Str×Int×Int)->Prop
 | []=>True
 | p::l=>BE K p.1 p.2.1 p.2.2/\BF K l
def BG(K:YD)(x:Str)(c:Int ⊕ Str):Prop:=match c with
 | .inl i=>∃t,nsIn K TW x=some (some (.int i t))
 | .inr s=>∃t,nsIn K TW x=some (some (.str s t))
def BH(K:YD):List (Str×(Int ⊕ Str))->Prop
 | []=>True
 | p::l=>BG K p.1 p.2/\BH K l
structure Tab (t:jA) (K:YD):Prop where
 tf:BD K t.fs
 tb:AllB K t.bs
 tt:BF K t.ts
 tc:BH K t.cs
theorem si.fnd{K:YD}{h:WY}{mg:Str->Option SC}{x:Str}{st:W0}{ps:List Str}(X:K.In h)(G:h.Ns TW mg)(F:si K x st)(b:∀f fd,kr K x x st f fd->Binds K fd ps []):cW K mg x st ps:=by
 obtain⟨f,fd,m,F⟩:=F;exact⟨f,fd,mg_of X G m,F,b f fd F⟩
abbrev sk(x:Str)(st:W0)(aG:List SC)(r:List (Str×SC)):Prop:=∀(kV doc pm:SC)(an:Option Tl)(cdv ct:SC),XY (fnOf x x (mW st) (iJ st) (b8 st) .none kV doc pm an cdv ct) ⟨aG,[]⟩=pure r
abbrev sm(x:Str)(st:W0)(ps:List Str):Prop:=∀(kV doc pm:SC)(an:Option Tl)(cdv ct:SC)(aG:List SC),aG.length=ps.length->XY (fnOf x x (mW st) (iJ st) (b8 st) .none kV doc pm an cdv ct) ⟨aG,[]⟩=pure (ps.zip aG)
section
variable{x:Str}{st:W0}
theorem i2{p:Str}(e7:∀a,sk x st [a] [(p,a)]):sm x st [p]:=fun _ _ _ _ _ _ aG ay=>match aG,ay with|[a],_=>e7 a _ _ _ _ _ _
theorem fk{p q:Str}(e7:∀a b,sk x st [a,b] [(p,a),(q,b)]):sm x st [p,q]:=fun _ _ _ _ _ _ aG ay=>match aG,ay with|[a,b],_=>e7 a b _ _ _ _ _ _
theorem nu{p q r:Str}(e7:∀a b c,sk x st [a,b,c] [(p,a),(q,b),(r,c)]):sm x st [p,q,r]:=fun _ _ _ _ _ _ aG ay=>match aG,ay with|[a,b,c],_=>e7 a b c _ _ _ _ _ _
theorem LN{p q r s:Str}(e7:∀a b c d,sk x st [a,b,c,d] [(p,a),(q,b),(r,c),(s,d)]):sm x st [p,q,r,s]:=fun _ _ _ _ _ _ aG ay=>match aG,ay with|[a,b,c,d],_=>e7 a b c d _ _ _ _ _ _
end
end L3
namespace Cut
open PySem L2 L3
open PySem.Builtin.Int (intBits)
def sld(g p:P3):P3:=(p.1*g.2.2+g.1*p.2.2,p.2.1*g.2.2+g.2.1*p.2.2,p.2.2*g.2.2)
def trn(p:P3):P3:=(-p.1,-p.2.1,p.2.2)
def az(p q r:P3):Int:=(crs p q).1*r.1+(crs p q).2.1*r.2.1+(crs p q).2.2*r.2.2
def sg(x:Int):Int:=if 0<x then 1 else if x<0 then -1 else 0
theorem sn{a b:Int}(h:∀k:Int,k∣a->k∣b->k∣1):Sx a b=1:=by
 have q:=TN.mpr (h _ (VM a b) (U3 a b));simpa using q
theorem wW{a b k:Int}(g:Sx a b=1)(aa:k∣a)(ab:k∣b):k∣1:=by
 have:=VN aa ab;rw[g]at this;exact this
theorem wX{k n m:Int}(h:k∣n*m)(g:Sx k m=1):k∣n:=Ae (by rw[SX];exact h) g
theorem BI{a b k:Int}(g:Sx a b=1)(h:k∣a):Sx k b=1:=sn fun j aa ab=>wW g (Tg aa h) ab
theorem wY{x y z a b n:Int}(p:kt x y z)(aH:n≠0)(ag:x*n=a*z)(ao:y*n=b*z):du a b n=(x,y,z):=by
 obtain⟨q,bd,bH,_⟩:=nn (a:=a) (b:=b) aH;obtain⟨aa,ab,aQ⟩:=vD q p (TQ aH (by grind)) (TQ aH (by grind));exact Ue aa (Ue ab aQ)
theorem wZ{a b:Int}(h:a≠0∨b≠0):∃x y:Int,a=((Sx a b:Nat):Int)*x/\b=((Sx a b:Nat):Int)*y/\Sx x y=1:=by
 obtain⟨x,aj⟩:=VM a b;obtain⟨y,aM⟩:=U3 a b;refine⟨x,y,aj,aM,?_⟩
 have pos:0<Sx a b:=by
  rcases h with h|h
  ·exact Wr b h
  ·exact Vu a h
 have q:Sx a b=(((Sx a b:Nat):Int)).natAbs*Sx x y:=K1 aj aM;rw[Int.natAbs_natCast]at q;exact Wb pos (by lia)
theorem BJ{a b:Int}(h:a≠0∨b≠0):((Sx a b:Nat):Int)≠0:=by
 have pos:0<Sx a b:=by
  rcases h with h|h
  ·exact Wr b h
  ·exact Vu a h
 lia
theorem so{a b:Int}(h:a≠0∨b≠0):0<((Sx a b:Nat):Int):=by
 have:=BJ h;lia
theorem w0{s y:Int}(iL:0<s)(h:0<s*y):0<y:=UD h iL
theorem LO{x y z:Int}(h:∀k:Int,k∣x->k∣y->k∣z->k∣1):Sx (Sx x y:Nat) z=1 :=
 sn fun k aa ab=>h k (Tg aa (VM x y)) (Tg aa (U3 x y)) ab
theorem LP{x y z k:Int}(g:Sx (Sx x y:Nat) z=1)(aa:k∣x)(ab:k∣y)(aQ:k∣z):k∣1:=wW g (VN aa ab) aQ
theorem BK{a b n r w k N M:Int}(g:Sx (Sx a b:Nat) n=1)(aH:N∣n)(BL:Sx N M=1)(aa:k∣a*M+r*N)(ab:k∣b*M+w*N)(aQ:k∣N):k∣1:=by
 have aN:k∣a*M:=by
  have:=Int.dvd_sub aa (U6 aQ (b:=r));simpa using this
 have a3:k∣b*M:=by
  have:=Int.dvd_sub ab (U6 aQ (b:=w));simpa using this
 exact LP g (wX aN (BI BL aQ)) (wX a3 (BI BL aQ)) (Tg aQ aH)
theorem LQ{a b n r w m:Int}(cx:kt a b n)(cg:kt r w m){s X Y d:Int}(ak:s=(Sx n m:Nat))(w1:X=a*m.fdiv s+r*n.fdiv s)(w2:Y=b*m.fdiv s+w*n.fdiv s)(hd:d=(Sx ((Sx s X:Nat):Int) Y:Nat)):
  (X.fdiv d,Y.fdiv d,n.fdiv s*m.fdiv d)=du (a*m+r*n) (b*m+w*n) (n*m):=by
 obtain⟨cD,aO⟩:=cx;obtain⟨cS,aT⟩:=cg;obtain⟨N,M,cd,cO,BM⟩:=wZ (a:=n) (b:=m) (.inl (S1 cD));have iL:0<s:=by rw[ak];exact so (.inl (S1 cD))
 rw[<-ak]at cd cO;have aE:=S1 iL;rw[oC cd aE,oC cO aE]at w1 w2;obtain⟨sq,LR,LS,LU,LV⟩:=wZ (a:=s) (b:=X) (.inl aE);have ag:=BJ (a:=s) (b:=X) (.inl aE);obtain⟨E,abJ,oF,w3,LW⟩:=wZ (a:=((Sx s X:Nat):Int)) (b:=Y) (.inl ag);have hY:0<d:=by rw[hd];exact so (.inl ag)
 rw[<-hd]at oF w3;have ej:=S1 hY
 have dH:s=d*(E*sq):=by
  rw[LS]
  conv=>lhs;rw[oF]
  rw[UE]
 have BN:X=d*(E*LR):=by
  rw[LU]
  conv=>lhs;rw[oF]
  rw[UE]
 have LX:m=d*(E*sq*M):=by rw[cO,dH,UE]
 rw[oC BN ej,oC w3 ej,oC cd aE,oC LX ej];have gT:0<N:=w0 iL (by lia);have LY:0<M:=w0 iL (by lia);have w4:0<E*sq:=w0 hY (by lia);refine(wY ⟨SH gT (SH w4 LY),?_⟩ (S1 (SH cD cS)) ?_ ?_).symm
 ·refine LO fun k aa ab aQ=>?_;have BO:k∣X:=by rw[BN];exact U6 aa
  have BP:k∣Y:=by rw[w3];exact U6 ab
  have bC:Sx k N=1:=sn fun j lc qe=>BK aO ⟨s,by rw[cd,SX]⟩ BM (by rw[<-w1];exact Tg lc BO) (by rw[<-w2];exact Tg lc BP) qe;have cb:Sx k M=1:=sn fun j lc qe=>BK (a:=r) (b:=w) (n:=m) (r:=a) (w:=b) (N:=M) (M:=N) aT ⟨s,by rw[cO,SX]⟩ (by rw[UW];exact BM) (by rw[Int.add_comm,<-w1];exact Tg lc BO) (by rw[Int.add_comm,<-w2];exact Tg lc BP) qe;have bB:k∣E*sq:=wX (Ae aQ bC) cb
  have ek:k∣E:=by
   have z:=VN bB aa;rw[Int.gcd_mul_left,LV,Nat.mul_one]at z;exact Tg z (Int.natAbs_dvd.mpr (Int.dvd_refl E))
  exact wW LW ek ab
 ·grind
 ·grind
theorem cp.sld{m n:Nat}{g p:P3}(aD:cp m g)(aq:cp n p):cp (n+m+1) (Cut.sld g p):=by
 refine⟨?_,?_,?_⟩
 ·exact SA (W6 (UF aq.a aD.c) (UF aD.a aq.c)) (by lia)
 ·exact SA (W6 (UF aq.b aD.c) (UF aD.b aq.c)) (by lia)
 ·exact SA (UF aq.c aD.c) (by lia)
theorem cp.trn{m:Nat}{p:P3}(aq:cp m p):cp m (Cut.trn p):=⟨Xe aq.a,Xe aq.b,aq.c⟩
theorem bL.trn{p:P3}(h:bL p):bL (Cut.trn p):=Ai h
theorem BQ{g p:P3}(aD:bL g)(aq:bL p):(sld g p).2.2≠0:=Jl aq.1 aD.1
theorem bL.sld{g p:P3}(aD:bL g)(aq:bL p):bL (nP (Cut.sld g p)):=ji (BQ aD aq)
theorem cp.sldN{m n:Nat}{g p:P3}(aD:cp m g)(aq:cp n p)(LZ:bL g)(L0:bL p):cp (n+m+1) (Cut.nP (Cut.sld g p)):=(aD.sld aq).nP (BQ LZ L0)
theorem L1(x:Int):sg (-x) = -sg x:=by
 unfold sg;split<;>split<;>(try split)<;>(try split)<;>lia
theorem L4(x:Int):(if 0<x then(1:Int)else 0)-(if x<0 then 1 else 0)=sg x:=by
 unfold sg;split<;>split<;>lia
theorem im(p q:P3):az p q q=0:=by unfold az crs;grind
def bX(ps:List P3)(n:Nat):P3:=(ps[n]?).getD (0,0,1)
theorem w5{ps:List P3}{n:Nat}(h:n<ps.length):bX ps n=ps[n]:=by unfold bX;rw[S8 h];rfl
theorem lx{ps:List P3}{n:Nat}(h:n<ps.length):bX ps n∈ps:=by rw[w5 h];exact List.getElem_mem h
theorem sr{ps:List P3}{n:Nat}(h:n<ps.length):ea (ps.map dP) (n:Int)=some (dP (bX ps n)):=by rw[w5 h];exact KQ (KR h)
def gB(ps:List P3):Prop:=3<=ps.length/\∀k j,k<ps.length->j<ps.length->j≠k->j≠(k+1)%ps.length->sg (az (bX ps k) (bX ps ((k+1)%ps.length)) (bX ps j))=1
theorem ss{p q r:P3}(h:sg (az p q r)=1):gB [p,q,r]:=by
 refine⟨by simp,fun k j ah bz aa ab=>?_⟩;have l:[p,q,r].length=3:=rfl;rw[l]at ah bz ab ⊢;have bC:az q r p=az p q r:=by unfold az crs;grind
 have cb:az r p q=az p q r:=by unfold az crs;grind
 have:k=0∨k=1∨k=2:=by lia
 rcases this with rfl|rfl|rfl
 ·have:j=2:=by lia
  subst this;exact h
 ·have:j=0:=by lia
  subst this;show sg (az q r p)=1
  rw[bC];exact h
 ·have:j=1:=by lia
  subst this;show sg (az r p q)=1
  rw[cb];exact h
abbrev a5:=List P3×Bool×P3
def a9(s:a5):D:=.tup [.lst (s.1.map dP),.bl s.2.1,dP s.2.2]
structure cq (m:Nat) (p:P3):Prop where
 pt:bL p
 bp:cp m p
theorem cq.mono{m n:Nat}{p:P3}(h:cq m p)(l:m<=n):cq n p:=⟨h.pt,h.bp.mono l⟩
theorem cq.trn{m:Nat}{p:P3}(h:cq m p):cq m (Cut.trn p):=⟨h.pt.trn,h.bp.trn⟩
theorem cq.sl{m n:Nat}{g p:P3}(aD:cq m g)(h:cq n p):cq (n+m+1) (nP (sld g p)):=⟨aD.pt.sld h.pt,aD.bp.sldN h.bp aD.pt h.pt⟩
theorem BR(p:P3):has (.T [.I,.I,.I]) (dP p)=true:=rfl
theorem L5(ps:List P3):has (.L (.T [.I,.I,.I])) (.lst (ps.map dP))=true:=by
 simp only[has,Ul];intro x aj;obtain⟨p,_,rfl⟩:=SJ.mp aj;exact BR p
theorem L6(p q r:P3):p.1*(q.2.1*r.2.2-q.2.2*r.2.1)-p.2.1*(q.1*r.2.2-q.2.2*r.1)+p.2.2*(q.1*r.2.1-q.2.1*r.1)=az p q r:=by unfold az crs;grind
theorem BS{α:Type}{f:α->D}{cz:c5}{u:bb}{fs:List aI}:∀{rs:List α}{v0:aI}{k:List D->Prop},(∀r∈rs,∀k:Bool->Prop,k false->cz (.val (f r)::fs) k)->k []->fP (d6 0) cz u (rs.map f) (v0::fs) k
 | [],_,_,_,ah=>ah
 | r::rs,v0,k,h,ah=>by
  refine h r Sv _ ?_;rw[TT SP];exact BS (fun x aj=>h x (Sw _ aj)) ah
theorem BU(k n:Nat):((k:Int)+1)%(n:Int)=(((k+1)%n:Nat):Int):=by
 rw[Int.natCast_emod];rfl
theorem BV{u:bb}{fs:List aI}{Pp:P3->Prop}:∀{ds:List D}{v0:aI}{k:List D->Prop},(∀d∈ds,∀k:D->Prop,(∀p,Pp p->k (dP p))->u (.val d::fs) k)->(∀ps:List P3,ps.length=ds.length->(∀p∈ps,Pp p)->k (ps.map dP))->fP (d6 0) ii u ds (v0::fs) k
 | [],_,_,_,ah=>ah [] rfl (fun _ h=>by simp at h)
 | d::ds,v0,k,h,ah=>by
  show(if true=true then u (.val d::fs) fun y=>fP (d6 0) ii u ds (.val d::fs) fun ys=>k (y::ys)else fP (d6 0) ii u ds (.val d::fs) k)
  rw[TI rfl];refine h d Sv _ fun p aq=>?_;refine BV (Pp:=Pp) (fun x aj=>h x (Sw _ aj)) fun ps ay cT=>?_
  exact ah (p::ps) (by simp[ay]) (fun q aL=>by
   rcases Sy.mp aL with rfl|aL
   ·exact aq
   ·exact cT q aL)
theorem BW(x:Int):sg x=1∨sg x = -1∨sg x=0:=by
 unfold sg;split
 ·exact .inl rfl
 ·split
  ·exact .inr (.inl rfl)
  ·exact .inr (.inr rfl)
theorem L7(p q r:P3):az r q p = -az p q r:=by unfold az crs;grind
abbrev w6:ec:=ot 3 (hG (d6 0) (hG (d6 1) (hG (d6 2) or)))
theorem BX{u:bb}{fs:List aI}{h:a5->D}:∀{sh:List a5}{v0 v1 v2:aI}{k:List D->Prop},(∀s∈sh,∀k:D->Prop,k (h s)->u (.val (.lst (s.1.map dP))::.val (.bl s.2.1)::.val (dP s.2.2)::fs) k)->k (sh.map h)->fP w6 ii u (sh.map a9) (v0::v1::v2::fs) k
 | [],_,_,_,_,_,ah=>ah
 | s::sh,v0,v1,v2,k,bM,ah=>by
  refine⟨_,rfl,rfl,_,_,rfl,_,_,rfl,_,_,rfl,rfl,?_⟩;show(if true=true then u (.val (.lst (s.1.map dP))::.val (.bl s.2.1)::.val (dP s.2.2)::fs) fun y=>fP w6 ii u (sh.map a9) (.val (.lst (s.1.map dP))::.val (.bl s.2.1)::.val (dP s.2.2)::fs) fun ys=>k (y::ys)else fP w6 ii u (sh.map a9) (.val (.lst (s.1.map dP))::.val (.bl s.2.1)::.val (dP s.2.2)::fs) k)
  rw[TI rfl];refine bM s Sv _ ?_;exact BX (fun x aj=>bM x (Sw _ aj)) ah
theorem BY(f:P3->P3)(ps:List P3):(ps.map fun p=>dP (f p))=(ps.map f).map dP:=by rw[SY];rfl
abbrev w7:gO:=.L (.T [.L (.T [.I,.I,.I]),.B,.T [.I,.I,.I]])
theorem BZ(sh:List a5):has w7 (.lst (sh.map a9))=true:=by
 simp only[has,Ul];intro x aj;obtain⟨s,_,rfl⟩:=SJ.mp aj;have aa:=L5 s.1;have ab:=BR s.2.2;simp only[a9,hass,has]at aa ab ⊢;rw[aa];simpa using ab
theorem B0{a b c:Nat}{s:cM}{U:gw}(I:List a5->List aI->Prop):∀{sh done:List a5}{ρ:List aI},I done ρ ->
  (∀pre x rest ρ,done++sh=pre++x::rest->I pre ρ->∀N:List aI->Prop,(∀r,I (pre++[x]) r->N r)->s { U with nx:=N,ct:=N,bk:=U.nx } (((ρ.set a (.val (.lst (x.1.map dP)))).set b (.val (.bl x.2.1))).set c (.val (dP x.2.2)))) ->
  (∀ρ,I (done++sh) ρ->U.nx ρ)->eY (ot 3 (hG (d6 a) (hG (d6 b) (hG (d6 c) or)))) s U (sh.map a9) ρ
 | [],done,ρ,bY,_,ab=>ab ρ (by rw[SG];exact bY)
 | x::sh,done,ρ,bY,aa,ab=>by
  refine⟨_,rfl,rfl,_,_,rfl,_,_,rfl,_,_,rfl,rfl,?_⟩;refine aa done x sh ρ rfl bY _ fun r am=>?_;refine B0 I am (fun pre y rest ρ e=>aa pre y rest ρ (by rw[<-e];simp)) fun ρ h=>ab ρ ?_;have e:done++[x]++sh=done++x::sh:=by simp
  rw[<-e];exact h
def su(s:a5):List P3:=if s.2.1=true then(s.1.map fun p=>nP (sld (trn s.2.2) p)).map trn else s.1.map fun p=>nP (sld (trn s.2.2) p)
theorem sv{x:Int}(h:0<x):sg x=1:=by unfold sg;rw[TI h]
def ly(a:Int×Int)(p q:P3):Int×Int:=(a.1*p.2.2*q.2.2+(p.1*q.2.1-p.2.1*q.1)*a.2,a.2*p.2.2*q.2.2)
def ta(ps:List P3)(k:Nat):Int×Int:=(Te k).foldl (fun a k=>ly a (bX ps ((k+ps.length-1)%ps.length)) (bX ps k)) (0,1)
theorem B1(ps:List P3)(k:Nat):ta ps (k+1)=ly (ta ps k) (bX ps ((k+ps.length-1)%ps.length)) (bX ps k):=by
 unfold ta;rw[VJ,List.foldl_append];rfl
theorem w8{ps:List P3}{m:Nat}(cT:∀p∈ps,cq m p):∀k,k<=ps.length->0<(ta ps k).2/\TE (ta ps k).1<=(2*m+2)*k+1/\TE (ta ps k).2<=(2*m+2)*k+1
 | 0,_=>⟨(show(0:Int)<1 by decide),SA (show TE 0<=1 by decide) (by lia),SA (show TE 1<=1 by decide) (by lia)⟩
 | k+1,h=>by
  obtain⟨kE,dw,d4⟩:=w8 cT k (by lia);have cD:0<ps.length:=by lia
  have aq:=cT _ (lx (ps:=ps) (UL (k+ps.length-1) cD));have aL:=cT _ (lx (ps:=ps) (n:=k) (by lia));rw[B1];generalize bX ps ((k+ps.length-1)%ps.length)=p at *;generalize bX ps k=q at *;generalize ta ps k=a at *;have e:(2*m+2)*(k+1)+1=(2*m+2)*k+1+(2*m+2):=by rw[Nat.mul_add];lia
  rw[e];refine⟨SH (SH kE aq.pt.1) aL.pt.1,?_,?_⟩
  ·refine SA (W6 (m:=(2*m+2)*k+1+m+m) (n:=m+m+1+((2*m+2)*k+1)) ?_ ?_) (by lia)
   ·exact UF (UF dw aq.bp.c) aL.bp.c
   ·refine UF ?_ d4;exact SA (Xp (UF aq.bp.a aL.bp.b) (UF aq.bp.b aL.bp.a)) (by lia)
  ·exact SA (UF (UF d4 aq.bp.c) aL.bp.c) (by lia)
def lA(ps:List P3):P3:=du (ta ps ps.length).1 0 (ta ps ps.length).2
theorem B2{ps:List P3}{k:Nat}(h:k<ps.length):ea (ps.map dP) ((k:Int)-1)=some (dP (bX ps ((k+ps.length-1)%ps.length))):=by
 cases k with
 | zero =>
  have e:((0:Nat)+ps.length-1)%ps.length=ps.length-1:=by rw[U2];exact T6 (by lia)
  rw[e,w5 (by lia)];unfold ea ixN;rw[TT (by lia),TI (by rw[Sz];lia)];show(ps.map dP)[_]?=_
  rw[S7,Sz,show(((0:Nat):Int)-1+(ps.length:Int)).toNat=ps.length-1 by lia,S8 (by lia)];rfl
 | succ k =>
  have e:(k+1+ps.length-1)%ps.length=k:=by
   rw[show k+1+ps.length-1=k+ps.length by lia,Ws];exact T6 (by lia)
  rw[e,show(((k+1:Nat):Int)-1)=(k:Int) by lia];exact sr (by lia)
theorem io(p q r:P3):az q r p=az p q r:=by unfold az crs;grind
theorem B3(p q r:P3):az q p r = -az p q r:=by unfold az crs;grind
theorem oH(p q:P3):az p p q=0:=by unfold az crs;grind
theorem L8(o u a b c:P3):az o u b*az o a c=az o u a*az o b c+az o u c*az o a b:=by
 unfold az crs;grind
theorem B4{x:Int}(h:sg x=1):0<x:=by
 unfold sg at h;split at h
 ·assumption
 ·split at h<;>lia
def B5(ps:List P3):Prop:=∀i j k,i<j->j<k->k<ps.length->0<az (bX ps i) (bX ps j) (bX ps k)
theorem gB.edge{ps:List P3}(h:gB ps){k j:Nat}(ah:k+1<ps.length)(bz:j<ps.length)(cv:j≠k)(cN:j≠k+1):0<az (bX ps k) (bX ps (k+1)) (bX ps j):=by
 have:=h.2 k j (by lia) bz cv (by rw[T6 ah];exact cN);rw[T6 ah]at this;exact B4 this
theorem gB.tri{ps:List P3}(h:gB ps):B5 ps:=by
 intro i j k pf h9 ah;induction k with
 | zero=>lia
 | succ k bR =>
  by_cases e:j=k
  ·subst e;rw[<-io];exact h.edge ah (by lia) (by lia) (by lia)
  ·have aa:=bR (by lia) (by lia)
   have ab:0<az (bX ps i) (bX ps k) (bX ps (k+1)):=by
    rw[<-io];exact h.edge ah (by lia) (by lia) (by lia)
   have bA:=h.edge (k:=i) (j:=k) (by lia) (by lia) (by lia) (by lia);have jM:=h.edge (k:=i) (j:=k+1) (by lia) (by lia) (by lia) (by lia)
   have bw:0<=az (bX ps i) (bX ps (i+1)) (bX ps j):=by
    by_cases z:j=i+1
    ·subst z;have:az (bX ps i) (bX ps (i+1)) (bX ps (i+1))=0:=im _ _;lia
    ·exact S0 (h.edge (by lia) (by lia) (by lia) z)
   have cV:=L8 (bX ps i) (bX ps (i+1)) (bX ps j) (bX ps k) (bX ps (k+1));have av:=Ta bw (S0 ab);have aK:=SH jM aa;have:0<az (bX ps i) (bX ps (i+1)) (bX ps k)*az (bX ps i) (bX ps j) (bX ps (k+1)):=by lia
   exact UD this bA
def T1(a:P3):List P3->Prop
 | []=>True
 | b::r=>(∀c∈r,0<az a b c)/\T1 a r
def T0:List P3->Prop
 | []=>True
 | a::r=>T1 a r/\T0 r
theorem T1.sub{a:P3}{l m:List P3}(s:l.Sublist m):T1 a m->T1 a l:=by
 induction s with
 | slnil=>exact id
 | cons b s bR=>exact fun h=>bR h.2
 | cons_cons b s bR=>exact fun h=>⟨fun c hc=>h.1 c (s.subset hc),bR h.2⟩
theorem T0.sub{l m:List P3}(s:l.Sublist m):T0 m->T0 l:=by
 induction s with
 | slnil=>exact id
 | cons b s bR=>exact fun h=>bR h.2
 | cons_cons b s bR=>exact fun h=>⟨T1.sub s h.1,bR h.2⟩
theorem B6(a:P3)(r:List P3)(i:Nat):bX (a::r) (i+1)=bX r i:=rfl
theorem L9(a:P3)(r:List P3):bX (a::r) 0=a:=rfl
theorem L'{r:List P3}{i:Nat}(h:i<r.length):bX r i∈r:=by
 induction r generalizing i with
 | nil=>exact absurd h (by simp)
 | cons a r bR =>
  cases i with
  | zero=>exact Sv
  | succ i=>exact Sw _ (bR (by simpa using h))
theorem Ma{r:List P3}{c:P3}(h:c∈r):∃i,i<r.length/\bX r i=c:=by
 induction r with
 | nil=>cases h
 | cons a r bR =>
  rcases Sy.mp h with rfl|h
  ·exact⟨0,by simp,rfl⟩
  ·obtain⟨i,aC,e⟩:=bR h;exact⟨i+1,by simpa using aC,e⟩
theorem sw(a:P3):∀r:List P3,T1 a r↔∀j k,j<k->k<r.length->0<az a (bX r j) (bX r k)
 | []=>⟨fun _ j k _ h=>absurd h (by simp),fun _=>trivial⟩
 | b::r=>by
  constructor
  ·rintro⟨aa,ab⟩ j k h9 ah;cases k with
   | zero=>lia
   | succ k =>
    have ah:k<r.length:=by simpa using ah
    cases j with
    | zero=>exact aa _ (L' ah)
    | succ j=>exact(sw a r).mp ab j k (by lia) ah
  ·intro h;refine⟨fun c hc=>?_,(sw a r).mpr fun j k h9 ah=>h (j+1) (k+1) (by lia) (by simpa using ah)⟩;obtain⟨i,aC,rfl⟩:=Ma hc;exact h 0 (i+1) (by lia) (by simpa using aC)
theorem sx:∀ps:List P3,T0 ps↔B5 ps
 | []=>⟨fun _ i j k _ _ h=>absurd h (by simp),fun _=>trivial⟩
 | a::r=>by
  constructor
  ·rintro⟨aa,ab⟩ i j k pf h9 ah;cases k with
   | zero=>lia
   | succ k =>
    cases j with
    | zero=>lia
    | succ j =>
     have ah:k<r.length:=by simpa using ah
     cases i with
     | zero=>exact(sw a r).mp aa j k (by lia) ah
     | succ i=>exact(sx r).mp ab i j k (by lia) (by lia) ah
  ·intro h;exact⟨(sw a r).mpr fun j k h9 ah=>h 0 (j+1) (k+1) (by lia) (by lia) (by simpa using ah),(sx r).mpr fun i j k aa ab ah=>h (i+1) (j+1) (k+1) (by lia) (by lia) (by simpa using ah)⟩
theorem mn(c a b:P3):crs c (crs a b)=eO (c.1*b.1+c.2.1*b.2.1+c.2.2*b.2.2) a (-(c.1*a.1+c.2.1*a.2.1+c.2.2*a.2.2)) b:=by
 unfold crs eO;refine i1 ?_ ?_ ?_<;>dsimp only<;>grind
theorem B7(s t:Int)(a b q r:P3):az (eO s a t b) q r=s*az a q r+t*az b q r:=by unfold az crs eO;dsimp only;grind
theorem B8(s:Int)(a q r:P3):az (sc s a) q r=s*az a q r:=by unfold az crs sc;dsimp only;grind
end Cut
namespace Cut
open PySem L2 L3
theorem B9{b a:P3}:∀{r:List P3},T1 b r->(∀c∈r,0<az b c a)->T1 b (r++[a])
 | [],_,_=>⟨fun c hc=>absurd hc (by simp),trivial⟩
 | d::r,h,k=>⟨fun c hc=>by
   rcases SI.mp hc with hc|hc
   ·exact h.1 c hc
   ·rw[S'.mp hc];exact k d Sv,B9 h.2 fun c hc=>k c (Sw _ hc)⟩
theorem B'{a:P3}:∀{r:List P3},T0 r->T1 a r->T0 (r++[a])
 | [],_,_=>⟨trivial,trivial⟩
 | b::r,h,k=>⟨B9 h.1 fun c hc=>by rw[io];exact k.1 c hc,B' h.2 k.2⟩
theorem T0.rot{a:P3}{r:List P3}(h:T0 (a::r)):T0 (r++[a]):=B' h.2 h.1
def qf:List P3->List P3->Prop
 | [],_=>True
 | x::xs,di=>(∀y∈xs,∀z∈di,0<az x y z)/\qf xs di
theorem sy{x:P3}:∀{xs di:List P3},T1 x (xs++di)↔T1 x xs/\T1 x di/\∀y∈xs,∀z∈di,0<az x y z
 | [],di=>⟨fun h=>⟨trivial,h,fun y aM=>absurd aM (by simp)⟩,fun h=>h.2.1⟩
 | y::xs,di=>by
  constructor
  ·rintro⟨aa,ab⟩;obtain⟨bT,bP,eN⟩:=sy.mp ab;refine⟨⟨fun c hc=>aa c (Tf _ hc),bT⟩,bP,fun w hw z hz=>?_⟩;rcases Sy.mp hw with rfl|hw
   ·exact aa z (SN _ hz)
   ·exact eN w hw z hz
  ·rintro⟨⟨aa,ab⟩,aQ,bB⟩;refine⟨fun c hc=>?_,sy.mpr ⟨ab,aQ,fun w hw z hz=>bB w (Sw _ hw) z hz⟩⟩;rcases SI.mp hc with hc|hc
   ·exact aa c hc
   ·exact bB y Sv c hc
theorem j1:∀{xs di:List P3},T0 (xs++di)↔T0 xs/\T0 di/\(∀x∈xs,T1 x di)/\qf xs di
 | [],di=>⟨fun h=>⟨trivial,h,fun y aM=>absurd aM (by simp),trivial⟩,fun h=>h.2.1⟩
 | x::xs,di=>by
  constructor
  ·rintro⟨aa,ab⟩;obtain⟨bT,bP,eN,eC⟩:=j1.mp ab;obtain⟨lc,qe,Mb⟩:=sy.mp aa;refine⟨⟨lc,bT⟩,bP,fun w hw=>?_,⟨Mb,eC⟩⟩;rcases Sy.mp hw with rfl|hw
   ·exact qe
   ·exact eN w hw
  ·rintro⟨⟨aa,ab⟩,aQ,bB,ek,fO⟩;exact⟨sy.mpr ⟨aa,bB x Sv,ek⟩,j1.mpr ⟨ab,aQ,fun w hw=>bB w (Sw _ hw),fO⟩⟩
theorem sA{di b7:List P3}(h:∀x y,(∀z∈di,0<az x y z)->∀z∈b7,0<az x y z):∀{xs:List P3},qf xs di->qf xs b7
 | [],_=>trivial
 | x::xs,k=>⟨fun y aM=>h x y (k.1 y aM),sA h k.2⟩
def hh(p q m:P3):Prop:=∃s a b:Int,0<s/\0<a/\0<b/\sc s m=eO a p b q
theorem Mc{s x y:Int}(ak:0<s)(e:s*x=y)(aM:0<y):0<x:=by
 rw[<-e]at aM;exact UD aM ak
theorem qg{p q m u v:P3}(h:hh p q m)(aa:0<=az p u v)(ab:0<=az q u v)(aQ:0<az p u v∨0<az q u v):0<az m u v:=by
 obtain⟨s,a,b,ak,ax,ae,e⟩:=h;have k:s*az m u v=a*az p u v+b*az q u v:=by rw[<-B8,e,B7]
 refine Mc ak k ?_;have cv:=Ta (S0 ax) aa;have cN:=Ta (S0 ae) ab;rcases aQ with aQ|aQ
 ·have:=SH ax aQ;lia
 ·have:=SH ae aQ;lia
theorem nv{p q m u v:P3}(h:hh p q m)(aa:0<=az u p v)(ab:0<=az u q v)(aQ:0<az u p v∨0<az u q v):0<az u m v:=by
 rw[<-io]at aa ab ⊢;rw[<-io u p v,<-io u q v]at aQ;exact qg h aa ab aQ
theorem ny{p q m u v:P3}(h:hh p q m)(aa:0<=az u v p)(ab:0<=az u v q)(aQ:0<az u v p∨0<az u v q):0<az u v m:=by
 rw[io]at aa ab ⊢;rw[io p u v,io q u v]at aQ;exact qg h aa ab aQ
theorem w9{p q m:P3}(h:hh p q m):∀{ys:List P3},T1 p ys->T1 q ys->T1 m ys
 | [],_,_=>trivial
 | y::ys,aa,ab=>⟨fun c hc=>qg h (S0 (aa.1 c hc)) (S0 (ab.1 c hc)) (.inl (aa.1 c hc)),w9 h aa.2 ab.2⟩
theorem ee{x:Int}(z:0<x):0<=x:=S0 z
theorem j2{x:Int}(z:x=0):0<=x:=by lia
theorem T0.back{xs ys:List P3}{p q m:P3}(h:T0 (xs++p::q::ys))(aB:hh p q m):T0 (xs++p::m::ys):=by
 obtain⟨aa,⟨⟨cx,cg⟩,aN,a3⟩,aQ,bB⟩:=j1.mp h;refine j1.mpr ⟨aa,⟨⟨fun c hc=>?_,cg⟩,w9 aB cg aN,a3⟩,fun x aj=>?_,sA (fun x y hz z hw=>?_) bB⟩
 ·exact nv aB (j2 (oH p c)) (ee (cx c hc)) (.inr (cx c hc))
 ·obtain⟨bT,bP,eN⟩:=aQ x aj;refine⟨fun c hc=>?_,fun c hc=>?_,eN⟩
  ·rcases Sy.mp hc with rfl|hc
   ·exact ny aB (j2 (im x p)) (ee (bT q Sv)) (.inr (bT q Sv))
   ·exact bT c (Sw _ hc)
  ·exact nv aB (ee (bT c (Sw _ hc))) (ee (bP c hc)) (.inr (bP c hc))
 ·rcases Sy.mp hw with rfl|hw
  ·exact hz _ Sv
  ·rcases Sy.mp hw with rfl|hw
   ·exact ny aB (ee (hz p Sv)) (ee (hz q (Sw _ Sv))) (.inl (hz p Sv))
   ·exact hz z (Sw _ (Sw _ hw))
theorem T0.on{xs ys:List P3}{p q m:P3}(h:T0 (xs++p::q::ys))(aB:hh p q m):T0 (xs++m::q::ys):=by
 obtain⟨aa,⟨⟨cx,cg⟩,aN,a3⟩,aQ,bB⟩:=j1.mp h;refine j1.mpr ⟨aa,⟨⟨fun c hc=>?_,w9 aB cg aN⟩,aN,a3⟩,fun x aj=>?_,sA (fun x y hz z hw=>?_) bB⟩
 ·exact qg aB (ee (cx c hc)) (j2 (oH q c)) (.inl (cx c hc))
 ·obtain⟨bT,bP,eN⟩:=aQ x aj;refine⟨fun c hc=>?_,bP,eN⟩;rcases Sy.mp hc with rfl|hc
  ·exact nv aB (ee (bT c Sv)) (j2 (im x c)) (.inl (bT c Sv))
  ·exact nv aB (ee (bT c (Sw _ hc))) (ee (bP c hc)) (.inr (bP c hc))
 ·rcases Sy.mp hw with rfl|hw
  ·exact ny aB (ee (hz p Sv)) (ee (hz q (Sw _ Sv))) (.inl (hz p Sv))
  ·exact hz z (Sw _ hw)
theorem T0.off{xs ys:List P3}{p q r m n:P3}(h:T0 (xs++p::q::r::ys))(aB:hh p q m)(aH:hh q r n):T0 (xs++p::m::n::r::ys):=by
 have ag:=T0.on (xs:=xs++[p]) (p:=q) (q:=r) (by rw[SR];exact h) aH;rw[SR]at ag;obtain⟨aa,⟨⟨cx,cg⟩,aN,a3⟩,aQ,bB⟩:=j1.mp h;obtain⟨_,⟨⟨c6,dt⟩,dw,d4⟩,eu,fN⟩:=j1.mp (show T0 (xs++p::n::r::ys)from ag);have sB:T0 (xs++p::m::r::ys):=h.back aB;obtain⟨_,⟨⟨ej,fv⟩,bd,bH⟩,g3,d0⟩:=j1.mp sB;have Ca:0<az p q n:=ny aH (j2 (im p q)) (ee (cx r Sv)) (.inr (cx r Sv))
 have Md:∀c∈r::ys,0<az m n c:=fun c hc=>by
  refine qg aB (ee (c6 c hc)) ?_ (.inl (c6 c hc));rcases Sy.mp hc with rfl|hc
  ·exact j2 (by
    obtain⟨s,a,b,ak,_,_,e⟩:=aH
    have k:s*az q n c=a*az q q c+b*az q c c:=by
     rw[<-io q n c,<-io q q c,<-io q c c,<-B8,e,B7]
    rw[oH,im,SW,SW]at k;rcases Tr.mp k with z|z
    ·lia
    ·exact z)
  ·exact ee (nv aH (j2 (oH q c)) (ee (aN.1 c hc)) (.inr (aN.1 c hc)))
 refine j1.mpr ⟨aa,⟨⟨fun c hc=>?_,c6,dt⟩,⟨Md,bd⟩,dw,d4⟩,fun x aj=>?_,sA (fun x y hz z hw=>?_) bB⟩
 ·rcases Sy.mp hc with rfl|hc
  ·exact nv aB (j2 (oH p c)) (ee Ca) (.inr Ca)
  ·exact ej c hc
 ·obtain⟨bT,bP,eN⟩:=aQ x aj;obtain⟨bZ,b0,f2⟩:=eu x aj;obtain⟨qc,qd,abK⟩:=g3 x aj;refine⟨fun c hc=>?_,fun c hc=>?_,b0,f2⟩
  ·rcases Sy.mp hc with rfl|hc
   ·exact qc c Sv
   ·exact bZ c hc
  ·rcases Sy.mp hc with rfl|hc
   ·have Cb:0<az x q c:=ny aH (j2 (im x q)) (ee (bP r Sv)) (.inr (bP r Sv));exact nv aB (ee (bZ c Sv)) (ee Cb) (.inr Cb)
   ·exact qd c hc
 ·have w':=hz q (Sw _ Sv);have jl:=hz p Sv;have Me:=hz r (Sw _ (Sw _ Sv));rcases Sy.mp hw with rfl|hw
  ·exact jl
  ·rcases Sy.mp hw with rfl|hw
   ·exact ny aB (ee jl) (ee w') (.inl jl)
   ·rcases Sy.mp hw with rfl|hw
    ·exact ny aH (ee w') (ee Me) (.inl w')
    ·exact hz z (Sw _ (Sw _ hw))
def ln(l p:P3):Int:=l.1*p.1+l.2.1*p.2.1+l.2.2*p.2.2
theorem sC(l p q r s:P3):az q r s*ln l p-az p r s*ln l q+az p q s*ln l r-az p q r*ln l s=0:=by
 unfold az crs ln;grind
theorem T1.one{a:P3}:∀{xs:List P3},qf xs [a]->T1 a xs
 | [],_=>trivial
 | x::xs,h=>⟨fun c hc=>by rw[<-io];exact h.1 c hc a Sv,T1.one h.2⟩
theorem T0.unrot{a:P3}{r:List P3}(h:T0 (r++[a])):T0 (a::r):=by
 obtain⟨aa,_,_,bB⟩:=j1.mp h;exact⟨T1.one bB,aa⟩
theorem T0.turn:∀{xs ys:List P3},T0 (xs++ys)->T0 (ys++xs)
 | [],ys,h=>by rw[SG];exact h
 | x::xs,ys,h=>by
  have aa:T0 (xs++(ys++[x])):=by rw[<-SR];exact T0.rot h
  have ab:=T0.turn aa;rw[SR]at ab;exact ab
section
variable(f:P3->Int)(mt:P3->P3->P3)
def kp(p:P3):List P3:=if 0<=f p then[p]else[]
def cI(p q:P3):List P3:=if f p*f q<0 then[mt p q]else[]
def cJ:List P3->P3->List P3
 | [],_=>[]
 | p::r,w=>kp f p++cI f mt p (r.headD w)++cJ r w
def cr(ps:List P3):List P3:=cJ f mt ps (ps.headD (0,0,1))
end
variable{f:P3->Int}{mt:P3->P3->P3}
theorem Mf(xs ys:List P3)(w:P3):(xs++ys).headD w=xs.headD (ys.headD w):=by
 cases xs<;>rfl
theorem qh(w:P3):∀xs ys:List P3,cJ f mt (xs++ys) w=cJ f mt xs (ys.headD w)++cJ f mt ys w
 | [],_=>rfl
 | p::xs,ys=>by
  show kp f p++cI f mt p ((xs++ys).headD w)++cJ f mt (xs++ys) w=kp f p++cI f mt p (xs.headD (ys.headD w))++cJ f mt xs (ys.headD w)++cJ f mt ys w
  rw[qh w xs ys,Mf,SR,SR,SR]
theorem Mg(xs ys:List P3):∃P Q,cr f mt (xs++ys)=P++Q/\cr f mt (ys++xs)=Q++P:=by
 cases xs with
 | nil=>exact⟨[],cr f mt ys,rfl,by rw[SG,SG]⟩
 | cons x xs =>
  cases ys with
  | nil=>exact⟨cr f mt (x::xs),[],by rw[SG,SG],rfl⟩
  | cons y ys =>
   refine⟨cJ f mt (x::xs) y,cJ f mt (y::ys) x,?_,?_⟩
   ·unfold cr;rw[qh];rfl
   ·unfold cr;rw[qh];rfl
theorem Cc{xs ys:List P3}(h:T0 (cr f mt (ys++xs))/\3<=(cr f mt (ys++xs)).length):T0 (cr f mt (xs++ys))/\3<=(cr f mt (xs++ys)).length:=by
 obtain⟨P,Q,ag,ao⟩:=Mg (f:=f) (mt:=mt) xs ys;rw[ag];rw[ao]at h;refine⟨T0.turn h.1,?_⟩;have:=h.2;rw[SE]at this ⊢;lia
theorem xa{w:P3}:∀{a:P3}{A:List P3},(∀p∈A++[a],0<=f p)->cJ f mt (A++[a]) w=A++[a]++cI f mt a w
 | a,[],h=>by
  show kp f a++cI f mt a w++[]=[a]++cI f mt a w
  unfold kp;rw[TI (h a (by simp)),SG]
 | a,p::A,h=>by
  show kp f p++cI f mt p ((A++[a]).headD w)++cJ f mt (A++[a]) w=p::A++[a]++cI f mt a w
  rw[xa fun q aL=>h q (Sw _ aL)];have aq:=h p Sv
  have aL:0<=f ((A++[a]).headD w):=by
   cases A with
   | nil=>exact h a (by simp)
   | cons b A=>exact h b (by simp)
  unfold kp cI;rw[TI aq,TT (by have:=Ta aq aL;lia)];simp
theorem Cd{w:P3}:∀{s:P3}{N:List P3},(∀p∈N++[s],f p<0)->cJ f mt (N++[s]) w=cI f mt s w
 | s,[],h=>by
  show kp f s++cI f mt s w++[]=cI f mt s w
  unfold kp;rw[TT (by have:=h s (by simp);lia),SG,Tz]
 | s,p::N,h=>by
  show kp f p++cI f mt p ((N++[s]).headD w)++cJ f mt (N++[s]) w=cI f mt s w
  rw[Cd fun q aL=>h q (Sw _ aL)];have aq:=h p Sv
  have aL:f ((N++[s]).headD w)<0:=by
   cases N with
   | nil=>exact h s (by simp)
   | cons b N=>exact h b (by simp)
  unfold kp cI;rw[TT (by lia),TT (by have:=U7 aq aL;lia)];rfl
def Meets(f:P3->Int)(mt:P3->P3->P3):Prop:=∀p q,f p*f q<0->hh p q (mt p q)
theorem j3{p q:P3}(h:f p*f q<0):cI f mt p q=[mt p q]:=by unfold cI;rw[TI h]
theorem jm{p q:P3}(h:¬f p*f q<0):cI f mt p q=[]:=by unfold cI;rw[TT h]
theorem neg_mul{a b:Int}(ax:0<a)(ae:b<0):a*b<0:=S2 ax ae
theorem Mh{b:P3}{A N:List P3}{s:P3}(cO:Meets f mt)(h:T0 ((A++[b])++(N++[s])))(ft:∀p∈A++[b],0<=f p)(cd:∀p∈N++[s],f p<0)(ay:3<=((A++[b])++(N++[s])).length)(aq:∃p∈A++[b],0<f p):
  T0 (cr f mt ((A++[b])++(N++[s])))/\3<=(cr f mt ((A++[b])++(N++[s]))).length:=by
 obtain⟨a,gC,er⟩:∃a gC,A++[b]=a::gC:=by
  cases A with
  | nil=>exact⟨b,[],rfl⟩
  | cons a A=>exact⟨a,A++[b],rfl⟩
 obtain⟨n,mo,f5⟩:∃n mo,N++[s]=n::mo:=by
  cases N with
  | nil=>exact⟨s,[],rfl⟩
  | cons n N=>exact⟨n,N++[s],rfl⟩
 have et:0<=f a:=ft a (by rw[er];exact Sv);have abL:0<=f b:=ft b (by simp);have fn:f n<0:=cd n (by rw[f5];exact Sv);have fs:f s<0:=cd s (by simp)
 have e:cr f mt ((A++[b])++(N++[s]))=(A++[b])++cI f mt b n++cI f mt s a:=by
  unfold cr;rw[qh,xa ft,Cd cd,er,f5];rfl
 rw[e]
 have two:N≠[]->T0 ((A++[b])++[n,s]):=fun z=>by
  refine T0.sub (Up (U8 _) ?_) h;cases N with
  | nil=>exact absurd rfl z
  | cons m N =>
   have:m=n:=(TO f5).1;subst this;exact List.Sublist.cons_cons _ (List.sublist_append_right N [s])
 have Mi:T0 ((A++[b])++[n]):=T0.sub (Up (U8 _) (Uq.mpr (by rw[f5];exact Sv))) h;have xb:T0 ((A++[b])++[s]):=T0.sub (Up (U8 _) (Uq.mpr (by simp))) h;by_cases ae:0<f b
 ·have fE:f b*f n<0:=neg_mul ae fn;have xc:=cO b n fE;rw[j3 fE];by_cases ax:0<f a
  ·have hQ:f s*f a<0:=by rw[SX];exact neg_mul ax fs
   have sD:=cO s a hQ;rw[j3 hQ];refine⟨?_,by simp⟩;by_cases z:N=[]
   ·subst z;have es:s=n:=(TO f5).1;subst es;cases A with
    | nil=>simp at ay
    | cons dt lB =>
     have:dt=a:=(TO er).1;subst this
     have av:T0 (lB++b::s::dt::[]):=by
      have:=T0.rot (a:=dt) (r:=lB++[b]++[s]) xb;simpa using this
     have aK:=T0.unrot (a:=dt) (r:=lB++[b,mt b s,mt s dt]) (by simpa using av.off xc sD);simpa using aK
   ·have t:=two z;have av:T0 (A++b::mt b n::[s]):=T0.back (by simpa using t) xc
    have aK:T0 (a::(gC++[mt b n,s])):=by
     have:T0 ((A++[b])++[mt b n,s]):=by simpa using av
     rw[er]at this;exact this
    have d8:T0 ((gC++[mt b n])++s::a::[]):=by simpa using T0.rot aK
    have pp:=T0.unrot (a:=a) (r:=gC++[mt b n,mt s a]) (by simpa using d8.on sD);rw[er];simpa using pp
  ·have eR:f a=0:=by lia
   have hP:A≠[]:=by
    rintro rfl;have:b=a:=(TO er).1;subst this;exact ax ae
   rw[jm (by rw[eR,SW];lia),SG];refine⟨?_,?_⟩
   ·have r:=T0.back (xs:=A) (p:=b) (q:=n) (ys:=[]) (by simpa using Mi) xc;simpa using r
   ·have:=Wt.mpr hP;simp;lia
 ·have kE:f b=0:=by lia
  rw[jm (by rw[kE,T7];lia),SG];by_cases ax:0<f a
  ·have hQ:f s*f a<0:=by rw[SX];exact neg_mul ax fs
   have sD:=cO s a hQ
   have hP:A≠[]:=by
    rintro rfl;have:b=a:=(TO er).1;subst this;exact ae ax
   rw[j3 hQ];refine⟨?_,?_⟩
   ·have av:T0 (a::(gC++[s])):=by rw[er]at xb;exact xb
    have d8:T0 (gC++s::a::[]):=by simpa using T0.rot av
    have pp:=T0.unrot (a:=a) (r:=gC++[mt s a]) (by simpa using d8.on sD);rw[er];exact pp
   ·have:=Wt.mpr hP;simp;lia
  ·have eR:f a=0:=by lia
   rw[jm (by rw[eR,SW];lia),SG];refine⟨T0.sub (List.sublist_append_left _ _) h,?_⟩;obtain⟨p,mq,qi⟩:=aq;have ag:p≠b:=by rintro rfl;lia
   have ao:p≠a:=by rintro rfl;lia
   have Ce:p∈A:=by
    rcases SI.mp mq with q|q
    ·exact q
    ·exact absurd (S'.mp q) ag
   cases A with
   | nil=>cases Ce
   | cons dt lB =>
    have:dt=a:=(TO er).1;subst this;rcases Sy.mp Ce with q|q
    ·exact absurd q ao
    ·have:=Wu q;simp;lia
theorem sE{P:P3->Prop}:∀ps:List P3,(∀p,P p∨¬P p)->∃A r,ps=A++r/\(∀p∈A,P p)/\(r=[]∨∃x c7,r=x::c7/\¬P x)
 | [],_=>⟨[],[],rfl,fun p aq=>absurd aq (by simp),.inl rfl⟩
 | p::ps,em=>by
  rcases em p with h|h
  ·obtain⟨A,r,e,ft,am⟩:=sE ps em;refine⟨p::A,r,by rw[e];rfl,fun q aL=>?_,am⟩;rcases Sy.mp aL with rfl|aL
   ·exact h
   ·exact ft q aL
  ·exact⟨[],p::ps,rfl,fun q aL=>absurd aL (by simp),.inr ⟨p,ps,rfl,h⟩⟩
theorem Cf{l p q r s:P3}(h:T0 [p,q,r,s]):¬(0<=ln l p/\ln l q<0/\0<=ln l r/\ln l s<0)/\¬(ln l p<0/\0<=ln l q/\ln l r<0/\0<=ln l s):=by
 obtain⟨⟨aa,ab,_⟩,⟨aQ,_⟩,_⟩:=h;have ej:=aa r (by simp);have fv:=aa s (by simp);have ku:=ab s (by simp);have sF:=aQ s (by simp);have k:=sC l p q r s;constructor
 ·rintro⟨a,b,c,d⟩;have cH:=Ta (ee sF) a;have cn:=S2 ku b;have fM:=Ta (ee fv) c;have r':=S2 ej d;lia
 ·rintro⟨a,b,c,d⟩;have cH:=S2 sF a;have cn:=Ta (ee ku) b;have fM:=S2 fv c;have r':=Ta (ee ej) d;lia
theorem Cg{a b c d:P3}{A B C D:List P3}(ax:a∈A)(ae:b∈B)(hc:c∈C)(hd:d∈D):[a,b,c,d].Sublist (A++(B++(C++D))):=
 Up (Uq.mpr ax) (Up (Uq.mpr ae) (Up (Uq.mpr hc) (Uq.mpr hd)))
theorem oI{l:P3}{ps:List P3}(cO:Meets (ln l) mt)(h:T0 ps)(ay:3<=ps.length)(aq:∃p∈ps,0<ln l p):T0 (cr (ln l) mt ps)/\3<=(cr (ln l) mt ps).length:=by
 have em:∀p,0<=ln l p∨¬0<=ln l p:=fun p=>by lia
 have norm:∀A N:List P3,A≠[]->N≠[]->T0 (A++N)->3<=(A++N).length->(∀p∈A,0<=ln l p)->(∀p∈N,ln l p<0)->(∃p∈A,0<ln l p)->T0 (cr (ln l) mt (A++N))/\3<=(cr (ln l) mt (A++N)).length:=fun A N ft cd f7 len Mj Mk ex=>by
  obtain⟨gC,b,rfl⟩:∃gC b,A=gC++[b]:=⟨_,_,(VO ft).symm⟩;obtain⟨mo,s,rfl⟩:∃mo s,N=mo++[s]:=⟨_,_,(VO cd).symm⟩;exact Mh cO f7 Mj Mk len ex
 obtain⟨oJ,r,rfl,qj,am⟩:=sE (P:=fun p=>0<=ln l p) ps em;rcases am with rfl|⟨x,c7,rfl,aj⟩
 ·rw[SG]at h ay aq ⊢;have ne:oJ≠[]:=by rintro rfl;simp at ay
  obtain⟨gC,b,rfl⟩:∃gC b,oJ=gC++[b]:=⟨_,_,(VO ne).symm⟩
  have e:cr (ln l) mt (gC++[b])=gC++[b]:=by
   unfold cr;rw[xa qj,jm,SG];have aa:=qj b (by simp)
   have ab:0<=ln l ((gC++[b]).headD (0,0,1)):=by
    cases gC with
    | nil=>exact aa
    | cons a gC=>exact qj a (by simp)
   have:=Ta aa ab;lia
  rw[e];exact⟨h,ay⟩
 obtain⟨nz,aK,ao,Ml,xf⟩:=sE (P:=fun p=>¬0<=ln l p) (x::c7) (fun p=>by lia)
 have xg:nz≠[]:=by
  rintro rfl;rcases xf with rfl|⟨y,q,e,aM⟩
  ·cases ao
  ·rw[e]at ao;have:x=y:=(TO ao).1;subst this;exact aM aj
 have nA:∀p∈nz,ln l p<0:=fun p aq=>by have:=Ml p aq;lia
 obtain⟨cv,sG⟩:=UM nz xg;rw[ao]at h ay aq ⊢;by_cases xh:oJ=[]
 ·subst xh;simp only[Tz]at h ay aq ⊢;rcases xf with rfl|⟨y,q,rfl,aM⟩
  ·obtain⟨p,mq,qi⟩:=aq;rw[SG]at mq;have:=nA p mq;lia
  ·have aM:0<=ln l y:=by lia
   obtain⟨lB,d8,be,Ch,Ci⟩:=sE (P:=fun p=>0<=ln l p) (y::q) em
   have Cj:lB≠[]:=by
    rintro rfl;rcases Ci with rfl|⟨z,fW,e,hz⟩
    ·cases be
    ·rw[e]at be;have:y=z:=(TO be).1;subst this;exact hz aM
   rw[be]at h ay aq ⊢
   have Ck:∀w∈d8,ln l w<0:=fun w hw=>by
    rcases Ci with rfl|⟨z,fW,rfl,hz⟩
    ·cases hw
    ·by_cases ip:0<=ln l w
     ·rcases Sy.mp hw with rfl|hw
      ·exact absurd ip hz
      ·obtain⟨dt,Cm⟩:=UM lB Cj;have t:=T0.sub (Cg (a:=cv) (b:=dt) (c:=z) (d:=w) (A:=nz) (B:=lB) (C:=[z]) (D:=fW) sG Cm Sv hw) (by simpa using h);exact absurd ⟨nA cv sG,Ch dt Cm,by lia,ip⟩ (Cf t).2
     ·lia
   refine Cc ?_;rw[SR];refine norm lB (d8++nz) Cj (by simp[xg]) (by rw[<-SR];exact T0.turn h) (by simp at ay ⊢;lia) Ch (fun p aq=>?_) ?_
   ·rcases SI.mp aq with z|z
    ·exact Ck p z
    ·exact nA p z
   ·obtain⟨p,mq,qi⟩:=aq;refine⟨p,?_,qi⟩;rcases SI.mp mq with z|z
    ·have:=nA p z;lia
    ·rcases SI.mp z with z|z
     ·exact z
     ·have:=Ck p z;lia
 ·obtain⟨c6,Cn⟩:=UM oJ xh
  have Mm:∀w∈aK,0<=ln l w:=fun w hw=>by
   rcases xf with rfl|⟨y,q,rfl,aM⟩
   ·cases hw
   ·by_cases ip:0<=ln l w
    ·exact ip
    ·have aM:0<=ln l y:=by lia
     rcases Sy.mp hw with rfl|hw
     ·exact aM
     ·have t:=T0.sub (Cg (a:=c6) (b:=cv) (c:=y) (d:=w) (A:=oJ) (B:=nz) (C:=[y]) (D:=q) Cn sG Sv hw) (by simpa using h);exact absurd ⟨qj c6 Cn,nA cv sG,aM,by lia⟩ (Cf t).1
  rw[<-SR]at h ay aq ⊢;refine Cc ?_;rw[<-SR];refine norm (aK++oJ) nz (by simp[xh]) xg (by rw[SR];exact T0.turn h) (by simp at ay ⊢;lia) (fun p aq=>?_) nA ?_
  ·rcases SI.mp aq with z|z
   ·exact Mm p z
   ·exact qj p z
  ·obtain⟨p,mq,qi⟩:=aq;refine⟨p,?_,qi⟩;rcases SI.mp mq with z|z
   ·rcases SI.mp z with z|z
    ·exact SN _ z
    ·have:=nA p z;lia
   ·exact Tf _ z
end Cut
namespace Cut
open PySem L2 L3
def bv(l p q:P3):P3:=if 0<p.2.2/\0<q.2.2 then nP (crs l (crs p q))else if 0<ln l q then eO (ln l q) p (-ln l p) q else eO (-ln l q) p (ln l p) q
theorem i3{x y:Int}(h:x*y<0):(0<x/\y<0)∨(x<0/\0<y):=by
 rcases T8 x 0 with z|z|z
 ·rcases T8 y 0 with w|w|w
  ·have:=U7 z w;lia
  ·rw[w,SW]at h;lia
  ·exact .inr ⟨z,w⟩
 ·rw[z,T7]at h;lia
 ·rcases T8 y 0 with w|w|w
  ·exact .inl ⟨z,w⟩
  ·rw[w,SW]at h;lia
  ·have:=SH z w;lia
theorem Co(p:P3):sc 1 p=p:=by unfold sc;simp
theorem Mn{g a b:Int}{m p q:P3}(h:eO a p b q=sc g m):sc (-g) m=eO (-a) p (-b) q:=by
 have aa:=Uf (fun x:P3=>x.1) h;have ab:=Uf (fun x:P3=>x.2.1) h;have aQ:=Uf (fun x:P3=>x.2.2) h;unfold sc eO at *;dsimp only at aa ab aQ ⊢;refine i1 ?_ ?_ ?_<;>dsimp only<;>grind
theorem xi{l p q:P3}(h:ln l p*ln l q<0):hh p q (bv l p q):=by
 unfold bv;by_cases w:0<p.2.2/\0<q.2.2
 ·rw[TI w];have tp:crs l (crs p q)=eO (ln l q) p (-ln l p) q:=mn l p q;have be:(crs l (crs p q)).2.2=ln l q*p.2.2 + -ln l p*q.2.2:=by rw[tp];rfl
  rcases i3 h with⟨aa,ab⟩|⟨aa,ab⟩
  ·have cv:ln l q*p.2.2<0:=by rw[SX];exact S2 w.1 ab
   have cN : -ln l p*q.2.2<0:=by rw[SX];exact S2 w.2 (by lia)
   have cD:(crs l (crs p q)).2.2≠0:=by lia
   obtain⟨g,_,aD⟩:=np cD;have aq:=(ji cD).1;have aQ:(crs l (crs p q)).2.2=g*(nP (crs l (crs p q))).2.2:=Uf (fun x:P3=>x.2.2) aD
   have g0:g<0:=by
    by_cases z:g<0
    ·exact z
    ·have:=Ta (show 0<=g by lia) (ee aq);lia
   rw[tp]at aD;refine⟨-g,-ln l q,ln l p,by lia,by lia,aa,?_⟩;have:=Mn aD;rw[Int.neg_neg,<-tp]at this;exact this
  ·have cv:0<ln l q*p.2.2:=SH ab w.1;have cN:0 < -ln l p*q.2.2:=SH (by lia) w.2;have cD:(crs l (crs p q)).2.2≠0:=by lia
   obtain⟨g,_,aD⟩:=np cD;have aq:=(ji cD).1;have aQ:(crs l (crs p q)).2.2=g*(nP (crs l (crs p q))).2.2:=Uf (fun x:P3=>x.2.2) aD
   have g0:0<g:=by
    by_cases z:0<g
    ·exact z
    ·have:=Ta (show 0 <= -g by lia) (ee aq);rw[Vx]at this;lia
   refine⟨g,ln l q,-ln l p,g0,ab,by lia,?_⟩;rw[<-aD,tp]
 ·rw[TT w];rcases i3 h with⟨aa,ab⟩|⟨aa,ab⟩
  ·rw[TT (by lia)];exact⟨1,_,_,by decide,by lia,aa,Co _⟩
  ·rw[TI ab];exact⟨1,_,_,by decide,ab,by lia,Co _⟩
theorem mr(l p q:P3)(a b:Int):ln l (eO a p b q)=a*ln l p+b*ln l q:=by unfold ln eO;dsimp only;grind
theorem sH(l p:P3)(s:Int):ln l (sc s p)=s*ln l p:=by unfold ln sc;dsimp only;grind
theorem Cp{f:P3->Int}{mt:P3->P3->P3}{x:P3}:∀{ps:List P3}{w:P3},x∈cJ f mt ps w->(x∈ps/\0<=f x)∨∃p∈ps,∃q,(q∈ps∨q=w)/\f p*f q<0/\x=mt p q
 | [],_,h=>by cases h
 | p::r,w,h=>by
  have h:x∈kp f p++cI f mt p (r.headD w)++cJ f mt r w:=h;rcases SI.mp h with h|h
  ·rcases SI.mp h with h|h
   ·unfold kp at h;split at h
    ·rename_i z
     rw[S'.mp h];exact .inl ⟨Sv,z⟩
    ·cases h
   ·unfold cI at h;split at h
    ·rename_i z
     refine .inr ⟨p,Sv,r.headD w,?_,z,S'.mp h⟩;cases r with
     | nil=>exact .inr rfl
     | cons y r=>exact .inl (Sw _ Sv)
    ·cases h
  ·rcases Cp h with⟨aa,ab⟩|⟨kj,aa,q,ab,aQ,bB⟩
   ·exact .inl ⟨Sw _ aa,ab⟩
   ·refine .inr ⟨kj,Sw _ aa,q,?_,aQ,bB⟩;rcases ab with ab|ab
    ·exact .inl (Sw _ ab)
    ·exact .inr ab
theorem oK{f:P3->Int}{mt:P3->P3->P3}{x:P3}{ps:List P3}(h:x∈cr f mt ps):(x∈ps/\0<=f x)∨∃p∈ps,∃q∈ps,f p*f q<0/\x=mt p q:=by
 rcases Cp h with h|⟨p,aa,q,ab,aQ⟩
 ·exact .inl h
 ·refine .inr ⟨p,aa,q,?_,aQ⟩;rcases ab with ab|ab
  ·exact ab
  ·cases ps with
   | nil=>cases aa
   | cons a r=>rw[ab];exact Sv
theorem Mo{l:P3}{ps:List P3}(aq:∀p∈ps,bL p):∀x∈cr (ln l) (bv l) ps,bL x/\0<=ln l x:=fun x aj=>by
 rcases oK aj with⟨aa,ab⟩|⟨p,aa,q,ab,aQ,rfl⟩
 ·exact⟨aq x aa,ab⟩
 ·have wp:0<p.2.2/\0<q.2.2:=⟨(aq p aa).1,(aq q ab).1⟩;have B:=xi aQ;refine⟨?_,?_⟩
  ·unfold bv;rw[TI wp];refine ji ?_;rw[show(crs l (crs p q)).2.2=ln l q*p.2.2 + -ln l p*q.2.2 by rw[mn l p q];rfl];rcases i3 aQ with⟨a,b⟩|⟨a,b⟩
   ·have cv:ln l q*p.2.2<0:=by rw[SX];exact S2 wp.1 b
    have cN : -ln l p*q.2.2<0:=by rw[SX];exact S2 wp.2 (by lia)
    lia
   ·have cv:0<ln l q*p.2.2:=SH b wp.1;have cN:0 < -ln l p*q.2.2:=SH (by lia) wp.2;lia
  ·unfold bv;rw[TI wp]
   have cD:(crs l (crs p q)).2.2≠0:=by
    rw[show(crs l (crs p q)).2.2=ln l q*p.2.2 + -ln l p*q.2.2 by rw[mn l p q];rfl];rcases i3 aQ with⟨a,b⟩|⟨a,b⟩
    ·have cv:ln l q*p.2.2<0:=by rw[SX];exact S2 wp.1 b
     have cN : -ln l p*q.2.2<0:=by rw[SX];exact S2 wp.2 (by lia)
     lia
    ·have cv:0<ln l q*p.2.2:=SH b wp.1;have cN:0 < -ln l p*q.2.2:=SH (by lia) wp.2;lia
   obtain⟨g,g0,aD⟩:=np cD;have z:ln l (crs l (crs p q))=0:=by rw[show crs l (crs p q)=eO (ln l q) p (-ln l p) q from mn l p q,mr];grind
   rw[aD,sH]at z;rcases Tr.mp z with y|y
   ·exact absurd y g0
   ·lia
end Cut
namespace L2
open PySem PySem.Spec PyProof.Rows PySem.W
section
variable{X:aU}{pins:List (Tl×Obj)}{σ:St}{H:ai}{s:SL}{h':WY}
theorem Inv.turned2{t':Nat}{it e:Tl}(I:Inv X pins σ H s)(k:∀b o,b≠it->b≠e->s.heap.get? b=some o->h'.get? b=some o)(sI:eV X pins H it)(sJ:eV X pins H e):Inv X pins σ H { s with heap:=h',toks:=t' }:=by
 obtain⟨hK,bo,bu,kF,qk,xj⟩:=sI;obtain⟨dW,ag,ao,be,ci,eL⟩:=sJ;have ke:∀b u,H b=some u->b≠it/\b≠e:=fun b u q=>⟨(fun z=>by rw[z,hK]at q;cases q),(fun z=>by rw[z,dW]at q;cases q)⟩;have aW:∀b o,b∉[it,e]->s.heap.get? b=some o->h'.get? b=some o:=fun b o hc q=>k b o (fun z=>hc (by simp[z])) (fun z=>hc (by simp[z])) q
 refine I.step (g':=s.gens) (d':=s.drawn) (ch:=[it,e]) (fun b ae=>?_) (fun b o _ _ hc q _=>aW b o hc q) (fun b o _ _ hc q _=>⟨o.slots,aW b o hc q⟩) (fun _ _ _ _ n=>n)
  (fun b o hc q=>⟨o,aW b o hc q⟩) (fun _ _ e=>e) (fun _ _ _ e=>e) (fun b ps q=>⟨#[],by rw[q];simp⟩) (fun m aB=>?_) (fun b u q=>?_) I.bare
 ·rcases Sy.mp ae with rfl|ae
  ·exact⟨kF,bo,qk,xj⟩
  ·rw[S'.mp ae];exact⟨be,ag,ci,eL⟩
 ·obtain⟨o,es,c3,aA,r⟩:=aB;exact⟨o,es,c3,k _ o (Tp bo) (Tp ag) aA,r⟩
 ·refine(I.hok b u q).stay (fun c v hc y=>k c v ?_ ?_ y) (fun _ q=>q) (fun _ _ q=>q) fun _ _ _ q=>q
  ·rcases hc with z|z
   ·rw[z];exact(ke b u q).1
   ·exact(ke c _ z).1
  ·rcases hc with z|z
   ·rw[z];exact(ke b u q).2
   ·exact(ke c _ z).2
end
def Cq(K:Su)(a:Tl):gf :=
 ⟨fun i H=>∃xs x,cl K H a xs/\xs[i]?=some x,fun i H x af=>∃p y,H p=none/\x=.ref p/\af=upd H p (.tup [.int i,y])/\∀xs,cl K H a xs->xs[i]?=some y,fun i H=>∃xs,cl K H a xs/\xs.length<=i⟩
theorem Mp{P:WF}{w:WU}{K:Su}{jn:List WP}{k:Nat}{pos:Pos}(a it e:Tl)(pR:e≠it):mL P w K (.Tuple jn k pos) (Cq K a) [e,it] e (fun i h=>(∃old,IsEnum h e it (i:Nat) old)/\h.IsListIter it a i) where
 mem:=by simp
 obj:=fun i h st b ae=>by
  obtain⟨⟨old,au⟩,o,aA,c,d⟩:=st;rcases Sy.mp ae with rfl|ae
  ·exact⟨_,au,fun v z=>by cases z⟩
  ·rw[S'.mp ae];exact⟨o,aA,fun v z=>by rw[d]at z;cases z⟩
 keep:=fun i h h' st kp=>by
  obtain⟨⟨old,au⟩,aC⟩:=st;exact⟨⟨old,kp e (by simp) _ au⟩,aC.at fun o q=>kp it (by simp) o q⟩
 item:=by
  intro X da hw cF hc i pins s σ H E I bG st aD;subst da hw cF;obtain⟨xs,x,aL,aj⟩:=aD;obtain⟨⟨old,au⟩,aC⟩:=st;obtain⟨its,b2,p,hz⟩:=I.list aL;obtain⟨u,bM,gr⟩:=b2.get aj;have sJ:=bG e (by simp);have sI:=bG it (by simp);have b6:e<s.heap.objs.size:=Heap.lt_size au;have Mq:it<s.heap.objs.size:=by obtain⟨o,aA,_⟩:=id aC;exact Heap.lt_size aA
  refine wpAny_pyNext_enum_item au aC p.isList (x:=u) (by simpa using bM) pR fun aa out Mr aR Cr kp=>⟨_,rfl,wpAny_letOwnedTupleGo_enum out fun ab hX dj=>?_⟩;have Cs:s.heap.objs.size≠e:=TA b6;have Ct:s.heap.objs.size≠it:=TA Mq
  have xk:Inv X pins σ (upd H s.heap.objs.size (.tup [.int i,x])) { s with heap:=s.heap.push { cls:=.type "tuple",data:=.seq #[.int i s.toks,u] },toks:=s.toks+1 }:=
   I.laid (t':=s.toks+1) (fun _ _ q=>Heap.get?_push_of_some _ q) (SD _) ⟨by show 2<=SZ;decide,[.int i s.toks,u],.cons ⟨_,rfl⟩ (.cons gr .nil),⟨_,Heap.get?_push_size _ rfl,rfl,_,rfl⟩⟩
  have hg:∀b,eV X pins H b->b≠s.heap.objs.size->eV X pins (upd H s.heap.objs.size (.tup [.int i,x])) b:=fun b f n=>⟨by rw[b1 n];exact f.1,f.2⟩
  have a2:=xk.turned2 (h':=ab) (t':=s.toks+1) (it:=it) (e:=e) (fun b o cv cN q=>by
   rw[dj.2 b cN];by_cases z:b=s.heap.objs.size
   ·subst z;rw[Heap.get?_push_size _ rfl]at q;rw[<-q];exact aR
   ·refine kp b o cN cv ?_;rw[<-q]
    exact(Heap.get?_push_ne s.heap b _ z).symm) (hg it sI (Tp Ct)) (hg e sJ (Tp Cs))
  refine⟨.ref s.heap.objs.size,_,a2,rfl,⟨s.heap.objs.size,x,I.fresh,rfl,rfl,fun ys aM=>by rw[I.list_inj aM aL];exact aj⟩,⟨⟨_,hX⟩,Mr.at fun o q=>(dj.2 it (Tp pR)).trans q⟩,fun b ae=>?_⟩;rcases Sy.mp ae with rfl|ae
  ·exact(hg _ sJ (Tp Cs)).1
  ·rw[S'.mp ae];exact(hg it sI (Tp Ct)).1
 done:=by
  intro X da hw cF hc i pins s σ H E I bG st aD;subst da hw cF;obtain⟨xs,aL,aj⟩:=aD;obtain⟨⟨old,au⟩,aC⟩:=st;obtain⟨its,b2,p,hz⟩:=I.list aL;obtain⟨d2,bd,bH,bW,c0,dM⟩:=bG it (by simp);have ay:=b2.length;exact wpAny_pyNext_enum_end (I.ok.hd hc) au aC p.isList (by simp;lia) fun h' jB=>⟨rfl,I.turned (t':=s.toks) (fun b o ae q=>jB b o ae q) d2 bd bW c0 dM⟩
 self:=fun _ _ _ _ _ st h=>by
  obtain⟨⟨old,au⟩,_⟩:=st;exact wpAny_pyIter_enum au h
def Ms(K:Su)(ta:eE):bQ:=fun σ H R=>ta σ H fun vs aw=>∃a,vs=[.ref a]/\(∃xs,cl K aw a xs)/\R (Cq K a) aw
theorem Mt{X:aU}{jn:List WP}{k:Nat}{tp:Pos}{a:WP}{ta:eE}{p pos:Pos}(aD:ep X "enumerate")(aB:X.mg "enumerate"=none)(ax:gG X [a] ta)(ak:Tk [a] X.env=[(false,W7 a X.env)]:=by rfl):hv X (.Tuple jn k tp) (.Call (.Name "enumerate" p) [a] [] pos) (Ms X.K ta):=by
 intro pins s σ H R I h;refine Call_ (kX I aD aB (by decide +kernel:W8 "enumerate"=some (.type "enumerate")) (Ui (b9 (ax pos pins s σ H _ I h) fun aG aE ⟨vs,aw,a2,av,aN⟩=>?_) ak rfl));obtain⟨l,e,⟨xs,aL⟩,q⟩:=aN;subst e;obtain⟨u,rfl,r⟩:=vals1 av;cases r;obtain⟨its,b2,cV,hz⟩:=a2.list aL;refine call_enumerate_list cV.isList fun h' f5 Mu sz kp=>wpAny_pyIter_enum f5 ?_;refine⟨aE.heap.objs.size+1,[aE.heap.objs.size+1,aE.heap.objs.size],_,_,aw,rfl,a2.kept (t':=aE.toks) kp,Mp l aE.heap.objs.size (aE.heap.objs.size+1) (Nat.succ_ne_self _),⟨⟨_,f5⟩,Mu⟩,fun b ae=>?_,q⟩;rcases Sy.mp ae with rfl|ae
 ·exact a2.fpOk (VP _) (a2.hok.fresh (VP _))
 ·rw[S'.mp ae];exact a2.fpOk (SD _) (a2.hok.fresh (SD _))
end L2
namespace L3
open PySem L2
def fm:Nat->List D->List D
 | _,[]=>[]
 | n,d::r=>.tup [.int (n:Nat),d]::fm (n+1) r
def Mv(u:bb)(g:ec)(s:cM):cM:=fun U ρ=>u ρ fun d=>∃ds,d=.lst ds/\eY g s U (fm 0 ds) ρ
section
variable{X:aU}{a:WP}{u:bb}{pos p:Pos}
theorem Mw{jn:List WP}{k:Nat}{tp:Pos}{body:List W0}{g:ec}{s:cM}(aq:Ye (UV X.prog X.w) X.A X.env X.xe)(hc:X.calm=true)(ax:bn X a u)(Mx:ep X "enumerate")(aB:X.mg "enumerate"=none)(aD:iN X (.Tuple jn k tp) g)(ae:hD X body s)(Cu:Tk [a] X.env=[(false,W7 a X.env)]:=by rfl)(ak:∀x,Wp (.Call (.Name "enumerate" p) [a] [] pos) X.env x=pure x:=by intro _;rfl){g1:Pos}:
  fe X (.For (.Tuple jn k tp) (.Call (.Name "enumerate" p) [a] [] pos) body [] g1) (Mv u g s):=by
 obtain⟨_,bY,ff⟩:=ax;obtain⟨_,aa,av⟩:=aD;obtain⟨_,ab,aK⟩:=ae;refine⟨_,zw aq hc (Mt Mx aB (eJ bY fH (by rw[Cu];rfl)) Cu) aa ab ak,fun U ρ h R W B H σ D e en=>?_⟩;refine ff ρ _ h R W B H σ _ e fun d v a7 aw aP ag aO b2=>?_;obtain⟨ds,rfl,aP⟩:=aP;obtain⟨l,vs,rfl,ay,rs⟩:=b2.lstV;refine⟨l,rfl,⟨vs,cl.of (ag.bh _ _ ay)⟩,?_⟩;refine⟨fun i m a1 af=>∃bf aF,m=ds.length-i/\i<=ds.length/\eY g s U (fm i (ds.drop i)) bf/\aX X.K R W aF af a1 bf/\bJ R B aF/\cG a7 aF,⟨ds.length,ρ,a7,by simp,Ti _,aP,ag,aO,cG.refl _⟩,?_⟩;rintro i m ht aV ⟨eM,cj,rfl,aC,bc,ao,aT,a4⟩;have aL:cl X.K aV l vs:=cl.of (ao.bh _ _ (a4 _ _ ay));by_cases c9:i<ds.length
 ·have My:i<vs.length:=by rw[rs.length];exact c9
  refine .inr ⟨⟨vs,vs[i],aL,S8 My⟩,fun a1 af=>∃bf aF,eY g s U (fm (i+1) (ds.drop (i+1))) bf/\aX X.K R W aF af a1 bf/\bJ R B aF/\cG a7 aF,?_,?_⟩
  ·rintro a1 af ⟨bf,aF,z,bq,g',s'⟩;exact⟨ds.length-(i+1),by lia,bf,aF,rfl,c9,z,bq,g',s'⟩
  ·rintro x af ⟨q,y,oL,rfl,rfl,aM⟩;obtain⟨d,hd,ba⟩:=rs.getV (aM vs aL)
   have f1:ds.drop i=d::ds.drop (i+1):=by
    rw[UH c9];rw[S8 c9]at hd;rw[SM hd]
   rw[f1]at bc;have g3:=ao.grow oL (.tup [.int i,y]);have be:=ao.alloc oL (.tup [.int i,y]);refine av _ eM _ bc R W _ _ ht (.ref q) _ be (.tup ei (.cons (.int _) (.cons (ba.mono (a4.trans g3.s)) .nil))) fun bf a1 eP bq _=>?_;have d0:=aT.trans g3;have eW:=a4.trans g3.s;exact aK _ bf eP R W _ _ a1 _ bq ⟨fun bf a1 aF af z bq g=>⟨bf,aF,z,bq,d0.trans g,eW.trans g.s⟩,fun bf a1 aF af z bq g=>en.nx bf a1 aF af z bq (d0.trans g),fun bf a1 aF af z bq g=>⟨bf,aF,z,bq,d0.trans g,eW.trans g.s⟩,fun r v aF af z bq g q=>en.rt r v aF af z bq (d0.trans g) q⟩
 ·have fh:i=ds.length:=by lia
  subst fh;rw[UI]at bc;exact .inl ⟨⟨vs,aL,by rw[rs.length];exact SD _⟩,en.nx eM ht cj aV bc ao aT⟩
end
theorem Cv{α:Type}{f:α->D}{s:cM}{U:gw}{i j:Nat}(I:List α->List aI->Prop):∀{rs done:List α}{ρ:List aI},I done ρ ->
  (∀(pre:List α)(r:α)(rest:List α) ρ,done++rs=pre++r::rest->I pre ρ->∀N:List aI->Prop,(∀c7,I (pre++[r]) c7->N c7)->s { U with nx:=N,ct:=N,bk:=U.nx } ((ρ.set i (.val (.int pre.length))).set j (.val (f r))))->(∀ρ,I (done++rs) ρ->U.nx ρ) ->
  eY (ot 2 (hG (d6 i) (hG (d6 j) or))) s U (fm done.length (rs.map f)) ρ
 | [],done,ρ,bY,_,ab=>ab ρ (by rw[SG];exact bY)
 | r::rs,done,ρ,bY,aa,ab=>by
  refine⟨_,rfl,rfl,_,_,rfl,_,_,rfl,rfl,aa done r rs ρ rfl bY _ fun c7 am=>?_⟩;have e:done++r::rs=(done++[r])++rs:=by simp
  rw[e]at aa ab;have:=Cv I am aa ab;rw[SE]at this;exact this
end L3
namespace Cut
open PySem L2 L3
theorem Cw{x y:Int}:sg x*sg y<0↔x*y<0:=by
 constructor
 ·intro h;rcases i3 h with⟨a,b⟩|⟨a,b⟩
  ·have aa:0<x:=by unfold sg at a;split at a<;>first|assumption|(split at a<;>lia)
   have ab:y<0:=by unfold sg at b;split at b<;>first|lia|(split at b<;>first|assumption|lia)
   exact S2 aa ab
  ·have aa:x<0:=by unfold sg at a;split at a<;>first|lia|(split at a<;>first|assumption|lia)
   have ab:0<y:=by unfold sg at b;split at b<;>first|assumption|(split at b<;>lia)
   rw[SX];exact S2 ab aa
 ·intro h;rcases i3 h with⟨a,b⟩|⟨a,b⟩
  ·have ag:sg x=1:=sv a;have ao:sg y = -1:=by unfold sg;rw[TT (by lia),TI b]
   rw[ag,ao];decide
  ·have ag:sg x = -1:=by unfold sg;rw[TT (by lia),TI a]
   have ao:sg y=1:=sv b;rw[ag,ao];decide
theorem xl{x:Int}:0<=sg x↔0<=x:=by unfold sg;split<;>first|lia|(split<;>lia)
theorem Cx{x:Int}:sg x<=0↔x<=0:=by unfold sg;split<;>first|lia|(split<;>lia)
theorem Mz{pre rest:List P3}{c eR:P3}(h:(pre++c::rest).headD eR=eR):bX (pre++c::rest) ((pre.length+1)%(pre++c::rest).length)=rest.headD eR:=by
 cases rest with
 | nil =>
  have e:(pre.length+1)%(pre++[c]).length=0:=by rw[SE];simp
  rw[e];cases pre with
  | nil=>exact h
  | cons p pre=>exact h
 | cons d rest =>
  rw[T6 (by simp)];unfold bX;rw[Ts (by lia)];simp
theorem xm{α:Type}{xs:List α}{i:Nat}{x:α}(h:xs[i]?=some x):ea xs (i:Int)=some x:=by
 have lt:i<xs.length:=(Uy.mp h).1;unfold ea
 have e:L2.ixN xs.length (i:Int)=some i:=by
  unfold L2.ixN;rw[TI (by lia)];simp[lt]
 rw[e];exact h
theorem MA{α:Type}{h:P3->α}{pre rest:List P3}{c:P3}:ea ((pre++c::rest).map h) (pre.length:Int)=some (h c):=by
 refine xm ?_;rw[S7,Ts (SD _)];simp
theorem Cy{α:Type}{h:P3->α}{ps pre rest:List P3}{c eR:P3}(e:ps=pre++c::rest)(ax:ps.headD eR=eR):ea (ps.map h) (((pre.length:Int)+1)%(ps.length:Int))=some (h (rest.headD eR)):=by
 subst e;have cD:0<(pre++c::rest).length:=by rw[SE,SO];lia
 have lt:=UL (pre.length+1) cD;have ag:((pre.length:Int)+1)%((pre++c::rest).length:Int)=(((pre.length+1)%(pre++c::rest).length:Nat):Int):=by rw[Int.natCast_emod];rfl
 rw[ag];refine xm ?_;rw[S7];have:=Mz ax;unfold bX at this;rw[S8 lt]at this ⊢;simp at this;simp[this]
theorem sK{f:P3->Int}{mt:P3->P3->P3}{pre:List P3}{c w:P3}:cJ f mt (pre++[c]) w=cJ f mt pre c++kp f c++cI f mt c w:=by
 rw[qh];show cJ f mt pre c++(kp f c++cI f mt c w++[])=_
 rw[SG,SR]
theorem xn{f:P3->Int}{mt:P3->P3->P3}:∀{ps:List P3}{w:P3},(cJ f mt ps w).length<=2*ps.length
 | [],_=>SD _
 | p::r,w=>by
  show(kp f p++cI f mt p (r.headD w)++cJ f mt r w).length<=_
  have h:=xn (f:=f) (mt:=mt) (ps:=r) (w:=w);have aa:(kp f p).length<=1:=by unfold kp;split<;>simp
  have ab:(cI f mt p (r.headD w)).length<=1:=by unfold cI;split<;>simp
  rw[SE,SE,SO];lia
theorem MB(x:Int): -1<=sg x/\sg x<=1:=by unfold sg;split<;>first|lia|(split<;>lia)
theorem Cz(x:Int):Vy (sg x)<=9000:=by
 have:=MB x;have abM:(10:Int)^30=1000000000000000000000000000000:=rfl;exact SA (KY (by lia) (by lia)) (by decide)
theorem CA{f:P3->Int}{c:P3}(h:0<=f c):kp f c=[c]:=by unfold kp;rw[TI h]
theorem CB{f:P3->Int}{c:P3}(h:¬0<=f c):kp f c=[]:=by unfold kp;rw[TT h]
theorem sL{l p q:P3}(aq:bL p)(aL:bL q):nP (crs l (crs p q))=bv l p q:=by unfold bv;rw[TI ⟨aq.1,aL.1⟩]
theorem sM{l p q:P3}(aq:bL p)(aL:bL q)(h:ln l p*ln l q<0):(crs l (crs p q)).2.2≠0:=by
 rw[show(crs l (crs p q)).2.2=ln l q*p.2.2 + -ln l p*q.2.2 by rw[mn l p q];rfl];have gd:=aq.1;have h5:=aL.1;rcases i3 h with⟨a,b⟩|⟨a,b⟩
 ·have cv:ln l q*p.2.2<0:=by rw[SX];exact S2 gd b
  have cN : -ln l p*q.2.2<0:=by rw[SX];exact S2 h5 (by lia)
  lia
 ·have cv:0<ln l q*p.2.2:=SH b gd;have cN:0 < -ln l p*q.2.2:=SH (by lia) h5;lia
theorem CC{l:P3}{ps:List P3}:D.int 1∈ps.map (fun c=>D.int (sg (ln l c)))↔∃c∈ps,0<ln l c:=by
 rw[SJ];constructor
 ·rintro⟨c,hc,e⟩;exact⟨c,hc,B4 (D.int.inj e)⟩
 ·rintro⟨c,hc,h⟩;exact⟨c,hc,by rw[sv h]⟩
theorem sN{l:P3}{ps:List P3}:D.int (-1)∈ps.map (fun c=>D.int (sg (ln l c)))↔∃c∈ps,ln l c<0:=by
 rw[SJ];constructor
 ·rintro⟨c,hc,e⟩;refine⟨c,hc,?_⟩;have:=D.int.inj e;unfold sg at this;split at this
  ·lia
  ·split at this<;>lia
 ·rintro⟨c,hc,h⟩;exact⟨c,hc,by unfold sg;rw[TT (by lia),TI h]⟩
end Cut
namespace L3
open PySem L2
section
variable{K:Su}{X:aU}{e:WP}{es:List WP}{u:bb}{w:dk}{pos p:Pos}
variable{a6:WP}
def xo(u:bb):c5:=fun ρ k=>u ρ fun x=>∃ds,x=.lst ds/\k (!ds.isEmpty)
theorem ql{a:WP}{bw:bb}(ax:bn X a bw)(au:∀ho,Yb a X.env ho=(do let v <-ho;X6 a.pos;XO [v] (YL v)):=by intro _;rfl):gj X a (xo bw):=by
 obtain⟨_,aa,av⟩:=ax;refine⟨_,zI aa au,fun ρ k h R W B H σ Q e q=>?_⟩;refine av ρ _ h R W B H σ _ e fun x v a7 aw aP ag aO aE=>?_;obtain⟨ds,rfl,ah⟩:=aP;obtain⟨a,vs,rfl,ax,rs⟩:=aE.lstV;refine⟨!vs.isEmpty,.inl ⟨vs,cl.of (ag.bh _ _ ax),rfl⟩,q _ a7 aw ?_ ag aO⟩
 have:vs.isEmpty=ds.isEmpty:=by
  have ay:=rs.length;cases vs with
  | nil=>cases ds with
   | nil=>rfl
   | cons d ds=>simp at ay
  | cons v vs=>cases ds with
   | nil=>simp at ay
   | cons d ds=>rfl
 rw[this];exact ah
variable{b6 cA:WP}{cB:List WP}{scope:W'}{bm:List (Str×Tl)}{ts fr:List Str}{js:List Nat}{eD:ec}{cz:c5}
end
end L3
namespace Cut
open PySem L2 L3
def ck:P3->List P3->List (P3×P3)
 | _,[]=>[]
 | z,p::r=>(z,p)::ck p r
def lz:P3->List P3->P3
 | z,[]=>z
 | _,p::r=>lz p r
def bi(ps:List P3):List (P3×P3):=ck (lz (0,0,1) ps) ps
theorem qm:∀(z:P3)(A B:List P3),ck z (A++B)=ck z A++ck (lz z A) B
 | _,[],_=>rfl
 | z,p::A,B=>by
  show(z,p)::ck p (A++B)=(z,p)::(ck p A++ck (lz p A) B)
  rw[qm p A B]
theorem qn:∀(z:P3)(A B:List P3),lz z (A++B)=lz (lz z A) B
 | _,[],_=>rfl
 | _,p::A,B=>qn p A B
theorem sO{z eP:P3}{L:List P3}(h:L≠[]):lz z L=lz eP L:=by
 cases L with
 | nil=>exact absurd rfl h
 | cons p r=>rfl
theorem sP:∀{z:P3}{L:List P3},L≠[]->lz z L∈L
 | _,[],h=>absurd rfl h
 | z,[p],_=>Sv
 | z,p::q::r,_=>Sw _ (sP (z:=p) (L:=q::r) (by simp))
theorem CD:∀{z:P3}{L:List P3}{e:P3×P3},e∈ck z L->(e.1=z∨e.1∈L)/\e.2∈L
 | _,[],_,h=>by cases h
 | z,p::r,e,h=>by
  rcases Sy.mp h with rfl|h
  ·exact⟨.inl rfl,Sv⟩
  ·obtain⟨aa,ab⟩:=CD h;refine⟨.inr ?_,Sw _ ab⟩;rcases aa with aa|aa
   ·rw[aa];exact Sv
   ·exact Sw _ aa
theorem iq{L:List P3}{e:P3×P3}(h:e∈bi L):e.1∈L/\e.2∈L:=by
 have n:L≠[]:=by rintro rfl;cases h
 obtain⟨aa,ab⟩:=CD h;refine⟨?_,ab⟩;rcases aa with aa|aa
 ·rw[aa];exact sP n
 ·exact aa
section
variable{f:P3->Int}{mt:P3->P3->P3}
theorem sQ{C:P3->P3->Prop}(hz:∀u v,f u=0->f v=0->C u v):∀{ps:List P3}{w z:P3},
  (∀p q,(p,q)∈ck (ps.headD w) (ps.tail++[w])->0<=f p->0<=f q->C p q) ->
  (∀p q,(p,q)∈ck (ps.headD w) (ps.tail++[w])->f p*f q<0->f (mt p q)=0/\(0<f p->C p (mt p q))/\(0<f q->C (mt p q) q)) ->
  (0<=f (ps.headD w)->C z (ps.headD w))->(f (ps.headD w)<0->f z=0)->ps≠[] ->
  (∀e∈ck z (cJ f mt ps w),C e.1 e.2)/\(0<=f w->C (lz z (cJ f mt ps w)) w)/\(f w<0->f (lz z (cJ f mt ps w))=0)
 | [],_,_,_,_,_,_,aH=>absurd rfl aH
 | p::r,w,z,aa,ab,aQ,bB,_=>by
  have aQ:0<=f p->C z p:=aQ;have bB:f p<0->f z=0:=bB
  have aL:(p,r.headD w)∈ck p (r++[w]):=by
   cases r with
   | nil=>exact Sv
   | cons q r=>exact Sv
  have aa:∀a b,(a,b)∈ck p (r++[w])->0<=f a->0<=f b->C a b:=aa;have ab:∀a b,(a,b)∈ck p (r++[w])->f a*f b<0->f (mt a b)=0/\(0<f a->C a (mt a b))/\(0<f b->C (mt a b) b):=ab
  have step:(∀e∈ck z (kp f p++cI f mt p (r.headD w)),C e.1 e.2)/\(0<=f (r.headD w)->C (lz z (kp f p++cI f mt p (r.headD w))) (r.headD w))/\(f (r.headD w)<0->f (lz z (kp f p++cI f mt p (r.headD w)))=0):=by
   generalize r.headD w=q at aL;by_cases bO:0<=f p
   ·rw[show kp f p=[p] by unfold kp;rw[TI bO]];by_cases c:f p*f q<0
    ·rw[j3 c];obtain⟨cS,bF,bS⟩:=ab p q aL c
     have ir:0<f p:=by
      rcases i3 c with⟨a,_⟩|⟨a,_⟩
      ·exact a
      ·lia
     have hZ:f q<0:=by
      rcases i3 c with⟨_,a⟩|⟨a,_⟩
      ·exact a
      ·lia
     refine⟨fun e au=>?_,fun h=>absurd h (by lia),fun _=>cS⟩;rcases Sy.mp au with rfl|au
     ·exact aQ bO
     ·rcases Sy.mp au with rfl|au
      ·exact bF ir
      ·cases au
    ·rw[jm c];refine⟨fun e au=>?_,fun h=>aa p q aL bO h,fun h=>?_⟩
     ·rcases Sy.mp au with rfl|au
      ·exact aQ bO
      ·cases au
     ·show f p=0
      rcases TS bO with a|a
      ·exact absurd (S2 a h) c
      ·exact a.symm
   ·rw[show kp f p=[] by unfold kp;rw[TT bO]];have hf:=bB (by lia);by_cases c:f p*f q<0
    ·rw[j3 c];obtain⟨cS,bF,bS⟩:=ab p q aL c
     have hZ:0<f q:=by
      rcases i3 c with⟨a,_⟩|⟨_,a⟩
      ·lia
      ·exact a
     refine⟨fun e au=>?_,fun _=>bS hZ,fun h=>absurd h (by lia)⟩;rcases Sy.mp au with rfl|au
     ·exact hz _ _ hf cS
     ·cases au
    ·rw[jm c];refine⟨fun e au=>(by cases au),fun h=>hz _ _ hf ?_,fun _=>hf⟩;rcases TS h with a|a
     ·exact absurd (by rw[SX];exact S2 a (by lia)) c
     ·exact a.symm
  obtain⟨aE,a4,a8⟩:=step;show(∀e∈ck z (kp f p++cI f mt p (r.headD w)++cJ f mt r w),C e.1 e.2)/\(0<=f w->C (lz z (kp f p++cI f mt p (r.headD w)++cJ f mt r w)) w)/\(f w<0->f (lz z (kp f p++cI f mt p (r.headD w)++cJ f mt r w))=0)
  rw[qm z (kp f p++cI f mt p (r.headD w)),qn z (kp f p++cI f mt p (r.headD w))];cases r with
  | nil=>exact⟨fun e au=>by rw[show ck _ (cJ f mt [] w)=[]from rfl,SG]at au;exact aE e au,a4,a8⟩
  | cons q r =>
   obtain⟨cH,cn,fM⟩:=sQ hz (ps:=q::r) (w:=w) (z:=lz z (kp f p++cI f mt p q)) (fun a b hU=>aa a b (Sw _ hU)) (fun a b hU=>ab a b (Sw _ hU)) a4 a8 (by simp);refine⟨fun e au=>?_,cn,fM⟩;rcases SI.mp au with au|au
   ·exact aE e au
   ·exact cH e au
theorem qo{a:P3}{r:List P3}{e:P3×P3}:e∈ck a (r++[a])↔e∈bi (a::r):=by
 have:bi (a::r)=(lz a r,a)::ck a r:=rfl;rw[this,qm];simp[ck,or_comm]
theorem xp{C:P3->P3->Prop}{ps:List P3}(hz:∀u v,f u=0->f v=0->C u v)(o:P3)(aA:f o=0)(aa:∀e∈bi ps,0<=f e.1->0<=f e.2->C e.1 e.2)(ab:∀e∈bi ps,f e.1*f e.2<0->f (mt e.1 e.2)=0/\(0<f e.1->C e.1 (mt e.1 e.2))/\(0<f e.2->C (mt e.1 e.2) e.2)):
  ∀e∈bi (cr f mt ps),C e.1 e.2:=by
 cases ps with
 | nil=>intro e au;cases au
 | cons a r =>
  intro e au;have n:cr f mt (a::r)≠[]:=by intro z;rw[z]at au;cases au
  have aO:∀p q,(p,q)∈ck ((a::r).headD a) ((a::r).tail++[a])->0<=f p->0<=f q->C p q:=fun p q h=>aa (p,q) (qo.mp h);have aT:∀p q,(p,q)∈ck ((a::r).headD a) ((a::r).tail++[a])->f p*f q<0->f (mt p q)=0/\(0<f p->C p (mt p q))/\(0<f q->C (mt p q) q):=fun p q h=>ab (p,q) (qo.mp h);have first:=sQ (f:=f) (mt:=mt) (C:=fun u v=>u=o∨C u v) (fun u v bM a'=>.inr (hz u v bM a')) (ps:=a::r) (w:=a) (z:=o) (fun p q h x y=>.inr (aO p q h x y)) (fun p q h x=>⟨(aT p q h x).1,fun y=>.inr ((aT p q h x).2.1 y),fun y=>.inr ((aT p q h x).2.2 y)⟩) (fun _=>.inl rfl) (fun _=>aA) (by simp)
  have ag:lz o (cJ f mt (a::r) a)=lz (0,0,1) (cr f mt (a::r)):=sO n;have f2:f a<0->f (lz (0,0,1) (cr f mt (a::r)))=0:=fun h=>by rw[<-ag];exact first.2.2 h
  have b0:0<=f a->C (lz (0,0,1) (cr f mt (a::r))) a:=fun h=>by
   by_cases xq:lz o (cJ f mt (a::r) a)=o
   ·-- from abN start
    have:=sQ (f:=f) (mt:=mt) (C:=fun u v=>(u=a/\v=a)∨C u v) (fun u v bM a'=>.inr (hz u v bM a')) (ps:=a::r) (w:=a) (z:=a) (fun p q h x y=>.inr (aO p q h x y)) (fun p q h x=>⟨(aT p q h x).1,fun y=>.inr ((aT p q h x).2.1 y),fun y=>.inr ((aT p q h x).2.2 y)⟩) (fun _=>.inl ⟨rfl,rfl⟩) (fun y=>absurd y (show ¬f a<0 by lia)) (by simp);have ao:lz a (cJ f mt (a::r) a)=lz (0,0,1) (cr f mt (a::r)):=sO n;rcases this.2.1 h with⟨aN,_⟩|q
    ·rw[ao]at aN;rw[aN];rw[ag,aN]at xq;rw[xq];exact hz o o aA aA
    ·rw[<-ao];exact q
   ·rcases first.2.1 h with q|q
    ·exact absurd q xq
    ·rw[<-ag];exact q
  exact(sQ hz aO aT b0 f2 (by simp)).1 e au
end
theorem CE{a b c s l:P3}:az a b c*ln l s=az b c s*ln l a+az c a s*ln l b+az a b s*ln l c:=by
 unfold az crs ln;grind
theorem CF{l s a:P3}(ax:0<=ln l a):∀{rest:List P3}{b:P3},rest≠[]->T0 (a::b::rest)->0<=az a b s->(∀e∈ck b rest,0<=az e.1 e.2 s)->0<=az (lz b rest) a s->0<=ln l b->(∀x∈rest,0<=ln l x)->0<=ln l s
 | [],_,h,_,_,_,_,_,_=>absurd rfl h
 | c::rest,b,_,aR,hU,au,ay,ae,am=>by
  have MC:=au (b,c) Sv;have hc:=am c Sv;by_cases g:az a c s<=0
  ·have t:0<az a b c:=aR.1.1 c Sv;have e:az c a s = -az a c s:=B3 a c s;have k:=CE (a:=a) (b:=b) (c:=c) (s:=s) (l:=l);have cv:=Ta MC ax;have cN:=Ta (show 0<=az c a s by lia) ae;have gK:=Ta hU hc
   have sR:0<=az a b c*ln l s:=by
    rw[k];exact Int.add_nonneg (Int.add_nonneg cv cN) gK
   by_cases y:0<=ln l s
   ·exact y
   ·have:=S2 t (show ln l s<0 by lia);lia
  ·cases rest with
   | nil =>
    have e:az c a s = -az a c s:=B3 a c s;have ay:0<=az c a s:=ay;lia
   | cons d rest =>
    exact CF ax (b:=c) (by simp) (T0.sub (.cons_cons a (.cons b (U8 _))) aR) (by lia) (fun e h=>au e (Sw _ h)) ay hc fun x aj=>am x (Sw _ aj)
theorem j4{l s:P3}{ps:List P3}(aR:T0 ps)(aQ:3<=ps.length)(au:∀e∈bi ps,0<=az e.1 e.2 s)(ay:∀x∈ps,0<=ln l x):0<=ln l s:=by
 match ps,aR,aQ,au,ay with
 | [],_,h,_,_=>simp at h
 | [_],_,h,_,_=>simp at h
 | [_,_],_,h,_,_=>simp at h
 | a::b::c::r,aR,_,au,ay =>
  refine CF (a:=a) (b:=b) (rest:=c::r) (ay a Sv) (by simp) aR ?_ (fun e h=>au e ?_) ?_ (ay b (by simp)) fun x aj=>ay x (Sw _ (Sw _ aj))
  ·exact au (a,b) (Sw _ Sv)
  ·exact Sw _ (Sw _ h)
  ·exact au (lz b (c::r),a) Sv
end Cut
namespace Cut
open PySem L2 L3
open PySem.Builtin.Int (intBits)
theorem MD(p q r:P3):az p q r=ln (crs p q) r:=rfl
def hi(l:P3)(mt:P3->P3->P3):Prop:=∀p q,ln l p*ln l q<0->hh p q (mt p q)/\ln l (mt p q)=0
theorem xr{l p q:P3}(h:ln l p*ln l q<0):ln l (bv l p q)=0:=by
 unfold bv;by_cases w:0<p.2.2/\0<q.2.2
 ·rw[TI w]
  have cD:(crs l (crs p q)).2.2≠0:=by
   rw[show(crs l (crs p q)).2.2=ln l q*p.2.2 + -ln l p*q.2.2 by rw[mn l p q];rfl];rcases i3 h with⟨a,b⟩|⟨a,b⟩
   ·have cv:ln l q*p.2.2<0:=by rw[SX];exact S2 w.1 b
    have cN : -ln l p*q.2.2<0:=by rw[SX];exact S2 w.2 (by lia)
    lia
   ·have cv:0<ln l q*p.2.2:=SH b w.1;have cN:0 < -ln l p*q.2.2:=SH (by lia) w.2;lia
  obtain⟨g,g0,aD⟩:=np cD;have z:ln l (crs l (crs p q))=0:=by rw[show crs l (crs p q)=eO (ln l q) p (-ln l p) q from mn l p q,mr];grind
  rw[aD,sH]at z;rcases Tr.mp z with y|y
  ·exact absurd y g0
  ·exact y
 ·rw[TT w];by_cases c:0<ln l q
  ·rw[TI c,mr];grind
  ·rw[TT c,mr];grind
theorem gU(l:P3):hi l (bv l):=fun _ _ h=>⟨xi h,xr h⟩
def fQ(l:P3):P3:=sc (-1) l
theorem f8(l p:P3):ln (fQ l) p = -ln l p:=by unfold fQ ln sc;dsimp only;grind
theorem CG(l:P3):ln (fQ l)=fun c => -ln l c:=by funext c;exact f8 l c
theorem hi.ng{l:P3}{mt:P3->P3->P3}(h:hi l mt):hi (fQ l) mt:=fun p q c=>by
 rw[f8,f8,T9]at c;refine⟨(h p q c).1,?_⟩;rw[f8,(h p q c).2];rfl
theorem hi.meets{l:P3}{mt:P3->P3->P3}(h:hi l mt):Meets (ln l) mt:=fun p q c=>(h p q c).1
theorem hh.ln{p q m g:P3}(h:hh p q m)(aa:0<=ln g p)(ab:0<=ln g q):0<=Cut.ln g m:=by
 obtain⟨s,a,b,ak,ax,ae,e⟩:=h;have k:s*Cut.ln g m=a*Cut.ln g p+b*Cut.ln g q:=by rw[<-sH,e,mr]
 have cv:=Ta (ee ax) aa;have cN:=Ta (ee ae) ab;by_cases y:0<=Cut.ln g m
 ·exact y
 ·have:=S2 ak (show Cut.ln g m<0 by lia);lia
theorem hh.ln0{p q m g:P3}(h:hh p q m)(aa:Cut.ln g p=0)(ab:Cut.ln g q=0):Cut.ln g m=0:=by
 obtain⟨s,a,b,ak,ax,ae,e⟩:=h;have k:s*Cut.ln g m=a*Cut.ln g p+b*Cut.ln g q:=by rw[<-sH,e,mr]
 rw[aa,ab,SW,SW]at k;rcases Tr.mp k with z|z
 ·lia
 ·exact z
section
variable{l:P3}{mt:P3->P3->P3}{ps:List P3}
theorem mv(cO:hi l mt){g:P3}(aD:∀x∈ps,0<=ln g x):∀x∈cr (ln l) mt ps,0<=ln g x:=fun x aj=>by
 rcases oK aj with⟨aa,_⟩|⟨p,aa,q,ab,aQ,rfl⟩
 ·exact aD x aa
 ·exact(cO p q aQ).1.ln (aD p aa) (aD q ab)
theorem oM(cO:hi l mt):∀x∈cr (ln l) mt ps,0<=ln l x:=fun x aj=>by
 rcases oK aj with⟨_,ab⟩|⟨p,aa,q,ab,aQ,rfl⟩
 ·exact ab
 ·rw[(cO p q aQ).2];exact Int.le_refl 0
theorem CH:∀{z:P3}{r:List P3}{e:P3×P3},e∈ck z r->∃A B,z::r=A++e.1::e.2::B
 | _,[],_,h=>by cases h
 | z,p::r,e,h=>by
  rcases Sy.mp h with rfl|h
  ·exact⟨[],r,rfl⟩
  ·obtain⟨A,B,q⟩:=CH h;exact⟨z::A,B,by rw[q];rfl⟩
theorem CI:∀{z:P3}{r:List P3},r≠[]->∃A,r=A++[lz z r]
 | _,[],h=>absurd rfl h
 | z,[p],_=>⟨[],rfl⟩
 | z,p::q::r,_=>by
  obtain⟨A,e⟩:=CI (z:=p) (r:=q::r) (by simp);exact⟨p::A,Uf (p :: ·) e⟩
theorem ME(ay:2<=ps.length){e:P3×P3}(au:e∈bi ps):∃X Y C,ps=X++Y/\Y++X=e.1::e.2::C:=by
 cases ps with
 | nil=>simp at ay
 | cons a r =>
  have am:r≠[]:=by rintro rfl;simp at ay
  rcases Sy.mp au with rfl|au
  ·obtain⟨A,MF⟩:=CI (z:=a) am;exact⟨a::A,[lz a r],A,Uf (a :: ·) MF,rfl⟩
  ·obtain⟨A,B,q⟩:=CH au;exact⟨A,e.1::e.2::B,B++A,q,by simp⟩
theorem hj(aR:T0 ps)(ay:3<=ps.length){e:P3×P3}(au:e∈bi ps):(∀x∈ps,0<=az e.1 e.2 x)/\∃x∈ps,0<az e.1 e.2 x:=by
 obtain⟨X,Y,C,ag,ao⟩:=ME (by lia) au;have t:T0 (e.1::e.2::C):=by rw[<-ao];exact T0.turn (by rw[<-ag];exact aR)
 have len:(e.1::e.2::C).length=ps.length:=by rw[<-ao,ag,SE,SE];lia
 refine⟨fun x aj=>?_,?_⟩
 ·have aj:x∈e.1::e.2::C:=by
   rw[<-ao];rw[ag]at aj;rcases SI.mp aj with h|h
   ·exact SN _ h
   ·exact Tf _ h
  rcases Sy.mp aj with rfl|aj
  ·exact j2 (by unfold az crs;grind)
  ·rcases Sy.mp aj with rfl|aj
   ·exact j2 (im _ _)
   ·exact ee (t.1.1 x aj)
 ·cases C with
  | nil=>simp at len;lia
  | cons c C =>
   refine⟨c,?_,t.1.1 c Sv⟩;have:c∈Y++X:=by rw[ao];simp
   rw[ag];rcases SI.mp this with h|h
   ·exact SN _ h
   ·exact Tf _ h
theorem sS(cO:hi l mt)(aR:T0 ps)(ay:3<=ps.length)(aq:∃p∈ps,0<ln l p){s:P3}(h:∀e∈bi (cr (ln l) mt ps),0<=az e.1 e.2 s):(∀e∈bi ps,0<=az e.1 e.2 s)/\0<=ln l s:=by
 obtain⟨t,hB⟩:=oI cO.meets aR ay aq;refine⟨fun e au=>?_,j4 t hB h (oM cO)⟩;rw[MD];exact j4 t hB h (mv cO fun x aj=>(hj aR ay au).1 x aj)
theorem CJ(cO:hi l mt)(o:P3)(aA:ln l o=0)(aR:T0 ps)(ay:3<=ps.length)(aq:∃p∈ps,0<ln l p){s:P3}(h:∀e∈bi ps,0<az e.1 e.2 s)(ak:0<ln l s):∀e∈bi (cr (ln l) mt ps),0<az e.1 e.2 s:=by
 obtain⟨t,hB⟩:=oI cO.meets aR ay aq
 have key:=xp (f:=ln l) (mt:=mt) (ps:=ps) (C:=fun u v=>∃g:P3,ln g u=0/\ln g v=0/\(g=l∨∃e∈bi ps,g=crs e.1 e.2)) (fun u v bM a'=>⟨l,bM,a',.inl rfl⟩) o aA
  (fun e au _ _=>⟨crs e.1 e.2,by show az e.1 e.2 e.1=0;unfold az crs;grind,im _ _,.inr ⟨e,au,rfl⟩⟩)
  (fun e au c=>by
   obtain⟨b,z⟩:=cO _ _ c;have aO:ln (crs e.1 e.2) e.1=0:=by show az e.1 e.2 e.1=0;unfold az crs;grind
   have aT:ln (crs e.1 e.2) e.2=0:=im _ _
   exact⟨z,fun _=>⟨crs e.1 e.2,aO,b.ln0 aO aT,.inr ⟨e,au,rfl⟩⟩,fun _=>⟨crs e.1 e.2,b.ln0 aO aT,aT,.inr ⟨e,au,rfl⟩⟩⟩)
 intro e au;obtain⟨g,iu,iv,aD⟩:=key e au;obtain⟨x,aj,ew⟩:=(hj t hB au).2
 have ge:0<=ln g x/\0<ln g s:=by
  rcases aD with rfl|⟨d,hd,rfl⟩
  ·exact⟨oM cO x aj,ak⟩
  ·exact⟨mv cO (fun y aM=>(hj aR ay hd).1 y aM) x aj,h d hd⟩
 have c0:=sC g e.1 e.2 x s;rw[iu,iv,SW,SW]at c0;have ag:az e.1 e.2 s*ln g x=az e.1 e.2 x*ln g s:=by lia
 have pos:=SH ew ge.2;rw[<-ag]at pos
 have kB:0<ln g x:=by
  rcases TS ge.1 with a|a
  ·exact a
  ·rw[<-a,SW]at pos;lia
 exact Int.pos_of_mul_pos_left pos kB
end
open Classical in
noncomputable def wi(ps:List P3)(s:P3):Int:=if ∃e∈bi ps,az e.1 e.2 s<0 then 0 else if ∃e∈bi ps,az e.1 e.2 s=0 then -1 else 1
theorem sT{ps:List P3}{s:P3}(h:∀e∈bi ps,0<az e.1 e.2 s):wi ps s=1:=by
 unfold wi;rw[TT fun⟨e,au,z⟩=>by have:=h e au;lia,TT fun⟨e,au,z⟩=>by have:=h e au;lia]
theorem CK{ps:List P3}{s:P3}(h:¬∀e∈bi ps,0<=az e.1 e.2 s):wi ps s=0:=by
 unfold wi;rw[TI];apply Tn;intro n
 exact h fun e au=>by
  by_cases z:0<=az e.1 e.2 s
  ·exact z
  ·exact absurd ⟨e,au,by lia⟩ n
theorem MG{ps:List P3}{s:P3}(h:wi ps s ≠ -1):(wi ps s=1/\∀e∈bi ps,0<az e.1 e.2 s)∨(wi ps s=0/\¬∀e∈bi ps,0<=az e.1 e.2 s):=by
 by_cases c:∃e∈bi ps,az e.1 e.2 s<0
 ·refine .inr ⟨?_,fun z=>?_⟩
  ·unfold wi;rw[TI c]
  ·obtain⟨e,au,q⟩:=c;have:=z e au;lia
 ·have z:∀e∈bi ps,0<=az e.1 e.2 s:=fun e au=>by
   by_cases z:0<=az e.1 e.2 s
   ·exact z
   ·exact absurd ⟨e,au,by lia⟩ c
  by_cases d:∃e∈bi ps,az e.1 e.2 s=0
  ·exact absurd (by unfold wi;rw[TT c,TI d]) h
  ·have p:∀e∈bi ps,0<az e.1 e.2 s:=fun e au=>by
    have:=z e au;rcases TS this with a|a
    ·exact a
    ·exact absurd ⟨e,au,a.symm⟩ d
   exact .inl ⟨sT p,p⟩
section
variable{l:P3}{mt:P3->P3->P3}{ps:List P3}
theorem MH(aR:T0 ps)(ay:3<=ps.length)(aq:¬∃p∈ps,0<ln l p){s:P3}(ak:0<ln l s):wi ps s=0 :=
 CK fun z=>by
  have:=j4 (l:=fQ l) aR ay z fun x aj=>by
   rw[f8];by_cases y:0<ln l x
   ·exact absurd ⟨x,aj,y⟩ aq
   ·lia
  rw[f8]at this;lia
end
end Cut
namespace Cut
open PySem L2 L3
open PySem.Builtin.Int (intBits)
def d1(T:P3->P3->Rat)(es:List (P3×P3)):Rat:=(es.map fun e=>T e.1 e.2).sum
theorem gV(T:P3->P3->Rat):d1 T []=0:=rfl
theorem fR(T:P3->P3->Rat)(e:P3×P3)(es:List (P3×P3)):d1 T (e::es)=T e.1 e.2+d1 T es:=by unfold d1;rw[SV,To]
theorem xt(T:P3->P3->Rat):∀es fs:List (P3×P3),d1 T (es++fs)=d1 T es+d1 T fs
 | [],fs=>by rw[Tz,gV];grind
 | e::es,fs=>by rw[Ur,fR,fR,xt T es fs];grind
section
variable{f:P3->Int}{mt:P3->P3->P3}{T:P3->P3->Rat}{V:P3->Prop}
def h0(f:P3->Int)(mt:P3->P3->P3)(T:P3->P3->Rat)(p q:P3):Rat :=
 if 0<=f p then(if 0<=f q then T p q else if f p*f q<0 then T p (mt p q)else 0)else(if f p*f q<0 then T (mt p q) q else 0)
def kG(f:P3->Int)(T:P3->P3->Rat)(z p:P3):Rat:=if 0<=f p then T z p else 0
theorem sU{z p:P3}(h:0<=f p):kG f T z p=T z p:=by unfold kG;rw[TI h]
theorem sV{z p:P3}(h:¬0<=f p):kG f T z p=0:=by unfold kG;rw[TT h]
theorem MI(hz:∀u v,V u->V v->f u=0->f v=0->T u v=0){p q z:P3}(qp:V z)(vq:V q)(aB:f p*f q<0->V (mt p q)/\f (mt p q)=0)(bB:f p<0->f z=0):
  d1 T (ck z (kp f p++cI f mt p q))+kG f T (lz z (kp f p++cI f mt p q)) q=kG f T z p+h0 f mt T p q/\(f q<0->f (lz z (kp f p++cI f mt p q))=0):=by
 by_cases bO:0<=f p
 ·rw[show kp f p=[p] by unfold kp;rw[TI bO],sU bO];by_cases c:f p*f q<0
  ·rw[j3 c]
   have hZ:¬0<=f q:=by
    rcases i3 c with⟨_,a⟩|⟨a,_⟩<;>lia
   have ag:lz z ([p]++[mt p q])=mt p q:=rfl;have ao:ck z ([p]++[mt p q])=[(z,p),(p,mt p q)]:=rfl;refine⟨?_,fun _=>by rw[ag];exact(aB c).2⟩;rw[ag,ao,sV hZ,fR,fR,gV];unfold h0;rw[TI bO,TT hZ,TI c];dsimp only;grind
  ·rw[jm c];have ag:lz z ([p]++[])=p:=rfl;have ao:ck z ([p]++[])=[(z,p)]:=rfl;rw[ag,ao,fR,gV];refine⟨?_,fun h=>?_⟩
   ·unfold h0;rw[TI bO];by_cases mw:0<=f q
    ·rw[sU mw,TI mw];dsimp only;grind
    ·rw[sV mw,TT mw,TT c];dsimp only;grind
   ·rcases TS bO with a|a
    ·exact absurd (S2 a h) c
    ·exact a.symm
 ·rw[show kp f p=[] by unfold kp;rw[TT bO],sV bO,Tz];have hf:=bB (by lia);unfold h0;rw[TT bO];by_cases c:f p*f q<0
  ·rw[j3 c,TI c]
   have hZ:0<=f q:=by
    rcases i3 c with⟨a,_⟩|⟨_,a⟩<;>lia
   have ag:lz z [mt p q]=mt p q:=rfl;have ao:ck z [mt p q]=[(z,mt p q)]:=rfl;have f7:T z (mt p q)=0:=hz _ _ qp (aB c).1 hf (aB c).2;rw[ag,ao,fR,gV,sU hZ];refine⟨?_,fun h=>absurd h (by lia)⟩;dsimp only;rw[f7];grind
  ·rw[jm c,TT c];have ag:lz z []=z:=rfl;have ao:ck z []=[]:=rfl;rw[ag,ao,gV];refine⟨?_,fun _=>hf⟩;by_cases mw:0<=f q
   ·have e9:f q=0:=by
     rcases TS mw with a|a
     ·exact absurd (by rw[SX];exact S2 a (by lia)) c
     ·exact a.symm
    rw[sU mw,hz _ _ qp vq hf e9]
   ·rw[sV mw]
theorem xu(hz:∀u v,V u->V v->f u=0->f v=0->T u v=0)(aB:∀p q,V p->V q->f p*f q<0->V (mt p q)/\f (mt p q)=0):∀{ps:List P3}{w z:P3},(∀p∈ps,V p)->V w->V z->(f (ps.headD w)<0->f z=0)->ps≠[] ->
  d1 T (ck z (cJ f mt ps w))+kG f T (lz z (cJ f mt ps w)) w=kG f T z (ps.headD w)+d1 (h0 f mt T) (ck (ps.headD w) (ps.tail++[w]))/\(f w<0->f (lz z (cJ f mt ps w))=0)
 | [],_,_,_,_,_,_,aH=>absurd rfl aH
 | p::r,w,z,a',CL,qp,bB,_=>by
  have bB:f p<0->f z=0:=bB;have oN:=a' p Sv
  have vq:V (r.headD w):=by
   cases r with
   | nil=>exact CL
   | cons q r=>exact a' q (by simp)
  obtain⟨aE,a4⟩:=MI (f:=f) (mt:=mt) (T:=T) (V:=V) hz qp vq (aB p _ oN vq) bB;show d1 T (ck z (kp f p++cI f mt p (r.headD w)++cJ f mt r w))+kG f T (lz z (kp f p++cI f mt p (r.headD w)++cJ f mt r w)) w=kG f T z p+d1 (h0 f mt T) (ck p (r++[w]))/\(f w<0->f (lz z (kp f p++cI f mt p (r.headD w)++cJ f mt r w))=0)
  rw[qm z (kp f p++cI f mt p (r.headD w)),qn z (kp f p++cI f mt p (r.headD w)),xt]
  have gh:V (lz z (kp f p++cI f mt p (r.headD w))):=by
   by_cases bO:0<=f p
   ·rw[show kp f p=[p] by unfold kp;rw[TI bO]];by_cases c:f p*f (r.headD w)<0
    ·rw[j3 c];exact(aB _ _ oN vq c).1
    ·rw[jm c];exact oN
   ·rw[show kp f p=[] by unfold kp;rw[TT bO]];by_cases c:f p*f (r.headD w)<0
    ·rw[j3 c];exact(aB _ _ oN vq c).1
    ·rw[jm c];exact qp
  cases r with
  | nil =>
   have dW:ck (lz z (kp f p++cI f mt p (([]:List P3).headD w))) (cJ f mt [] w)=[]:=rfl;have ag:ck p ([]++[w])=[(p,w)]:=rfl;have ao:([]:List P3).headD w=w:=rfl;have be:lz (lz z (kp f p++cI f mt p (([]:List P3).headD w))) (cJ f mt [] w)=lz z (kp f p++cI f mt p w):=rfl;rw[dW,ag,be,gV,fR,gV];rw[ao]at aE a4 ⊢;refine⟨?_,a4⟩;dsimp only;grind
  | cons q r =>
   obtain⟨cH,cn⟩:=xu hz aB (ps:=q::r) (w:=w) (z:=lz z (kp f p++cI f mt p q)) (fun x aj=>a' x (Sw _ aj)) CL gh a4 (by simp);refine⟨?_,cn⟩;have ag:ck p (q::r++[w])=(p,q)::ck q (r++[w]):=rfl;have ao:(q::r).headD w=q:=rfl;have be:(q::r).tail=r:=rfl;rw[ag,fR];rw[ao,be]at cH;rw[ao]at aE ⊢;dsimp only;grind
theorem xv(T:P3->P3->Rat)(a:P3)(r:List P3):d1 T (ck a (r++[a]))=d1 T (bi (a::r)):=by
 have:bi (a::r)=(lz a r,a)::ck a r:=rfl;rw[this,qm,xt,fR];have:ck (lz a r) [a]=[(lz a r,a)]:=rfl;rw[this,fR,gV];dsimp only;grind
theorem CM(hz:∀u v,V u->V v->f u=0->f v=0->T u v=0)(aB:∀p q,V p->V q->f p*f q<0->V (mt p q)/\f (mt p q)=0)(o:P3)(MJ:V o)(aA:f o=0){ps:List P3}(a':∀p∈ps,V p):
  d1 T (bi (cr f mt ps))=d1 (h0 f mt T) (bi ps):=by
 cases ps with
 | nil=>rfl
 | cons a r =>
  have CN:=a' a Sv;have first:=xu hz aB (ps:=a::r) (w:=a) (z:=o) a' CN MJ (fun _=>aA) (by simp)
  have ag:(a::r).headD a=a:=rfl;have ao:(a::r).tail=r:=rfl;rw[ag,ao,xv]at first
  by_cases n:cr f mt (a::r)=[]
  ·have gI:cJ f mt (a::r) a=[]:=n;rw[gI]at first
   have be:ck o []=[]:=rfl;have ci:lz o []=o:=rfl;rw[be,ci,gV]at first
   rw[n];have eL:bi []=[]:=rfl;rw[eL,gV];have:=first.1
   grind
  ·have be:lz o (cJ f mt (a::r) a)=lz (0,0,1) (cr f mt (a::r)):=sO n;have f2:f a<0->f (lz (0,0,1) (cr f mt (a::r)))=0:=fun h=>by rw[<-be];exact first.2 h
   have gh:V (lz (0,0,1) (cr f mt (a::r))):=by
    rcases oK (sP (z:=(0,0,1)) n)with⟨h,_⟩|⟨p,aq,q,aL,c,e⟩
    ·exact a' _ h
    ·rw[e];exact(aB p q (a' p aq) (a' q aL) c).1
   have snd:=xu hz aB (ps:=a::r) (w:=a) (z:=lz (0,0,1) (cr f mt (a::r))) a' CN gh f2 (by simp);rw[ag,ao,xv]at snd;have ci:lz (lz (0,0,1) (cr f mt (a::r))) (cJ f mt (a::r) a)=lz (0,0,1) (cr f mt (a::r)):=sO n;rw[ci]at snd;have:=snd.1;show d1 T (ck (lz (0,0,1) (cr f mt (a::r))) (cJ f mt (a::r) a))=_
   grind
theorem xw{T1 T2 T3:P3->P3->Rat}:∀{es:List (P3×P3)},(∀e∈es,T1 e.1 e.2+T2 e.1 e.2=T3 e.1 e.2)->d1 T1 es+d1 T2 es=d1 T3 es
 | [],_=>by rw[gV,gV,gV];grind
 | e::es,h=>by
  have aa:=h e Sv;have ab:=xw (es:=es) fun e au=>h e (Sw _ au);rw[fR,fR,fR];grind
theorem MK(hz:∀u v,V u->V v->f u=0->f v=0->T u v=0){p q:P3}(oN:V p)(vq:V q)(aB:f p*f q<0->T p (mt p q)+T (mt p q) q=T p q):h0 f mt T p q+h0 (fun c => -f c) mt T p q=T p q:=by
 have f5:(-f p)*(-f q)=f p*f q:=T9 _ _;unfold h0;dsimp only;rw[f5];rcases T8 (f p) 0 with a|a|a
 ·rw[TT (show ¬0<=f p by lia),TI (show 0 <= -f p by lia)];rcases T8 (f q) 0 with b|b|b
  ·have c:¬f p*f q<0:=by have:=U7 a b;lia
   rw[TT c,TI (show 0 <= -f q by lia)];grind
  ·have c:¬f p*f q<0:=by rw[b,SW];lia
   rw[TT c,TI (show 0 <= -f q by lia)];grind
  ·have c:f p*f q<0:=by rw[SX];exact S2 b a
   rw[TI c,TT (show ¬0 <= -f q by lia),TI c];have:=aB c;grind
 ·have c:¬f p*f q<0:=by rw[a,T7];lia
  rw[TI (show 0<=f p by lia),TI (show 0 <= -f p by lia),TT c];rcases T8 (f q) 0 with b|b|b
  ·rw[TT (show ¬0<=f q by lia),TI (show 0 <= -f q by lia)];grind
  ·rw[TI (show 0<=f q by lia),TI (show 0 <= -f q by lia)];have:=hz p q oN vq a b;grind
  ·rw[TI (show 0<=f q by lia),TT (show ¬0 <= -f q by lia)];grind
 ·rw[TI (show 0<=f p by lia),TT (show ¬0 <= -f p by lia)];rcases T8 (f q) 0 with b|b|b
  ·have c:f p*f q<0:=S2 a b;rw[TT (show ¬0<=f q by lia),TI c,TI c];exact aB c
  ·have c:¬f p*f q<0:=by rw[b,SW];lia
   rw[TI (show 0<=f q by lia),TT c];grind
  ·have c:¬f p*f q<0:=by have:=SH a b;lia
   rw[TI (show 0<=f q by lia),TT c];grind
theorem xx(hz:∀u v,V u->V v->f u=0->f v=0->T u v=0):∀{es:List (P3×P3)},(∀e∈es,V e.1/\V e.2/\f e.1<=0/\f e.2<=0)->d1 (h0 f mt T) es=0
 | [],_=>rfl
 | e::es,h=>by
  obtain⟨v1,v2,cv,cN⟩:=h e Sv;have bR:=xx hz (es:=es) fun e au=>h e (Sw _ au);rw[fR,bR];have c:¬f e.1*f e.2<0:=by have:=Int.mul_nonneg_of_nonpos_of_nonpos cv cN;lia
  have:h0 f mt T e.1 e.2=0:=by
   unfold h0;rw[TT c,TT c];by_cases a:0<=f e.1
   ·rw[TI a];by_cases b:0<=f e.2
    ·rw[TI b];exact hz _ _ v1 v2 (by lia) (by lia)
    ·rw[TT b]
   ·rw[TT a]
  rw[this];grind
end
def dF(p:P3):Rat:=(p.1:Rat)/(p.2.2:Rat)
def dB(p:P3):Rat:=(p.2.1:Rat)/(p.2.2:Rat)
def gW(p q:P3):Rat:=dF p*dB q-dB p*dF q
def ef(o p q:P3):Rat:=(dF p-dF o)*(dB q-dB o)-(dB p-dB o)*(dF q-dF o)
theorem eG{x:Int}(h:0<x):(x:Rat)≠0:=fun z=>by
 have:=U9.mp z;lia
theorem ML{p q m:P3}(h:hh p q m)(aq:0<p.2.2)(aL:0<q.2.2)(aB:0<m.2.2):∃a b:Rat,a+b=1/\dF m=a*dF p+b*dF q/\dB m=a*dB p+b*dB q:=by
 obtain⟨s,a,b,ak,ax,ae,e⟩:=h;have ag:s*m.1=a*p.1+b*q.1:=Uf (fun x:P3=>x.1) e;have ao:s*m.2.1=a*p.2.1+b*q.2.1:=Uf (fun x:P3=>x.2.1) e;have be:s*m.2.2=a*p.2.2+b*q.2.2:=Uf (fun x:P3=>x.2.2) e;have iL:=eG ak;have cS:=eG aB;have jo:=eG aq;have e9:=eG aL;have bd:(s:Rat)*m.1=a*p.1+b*q.1:=by rw[<-SU,ag,TP,SU,SU]
 have bH:(s:Rat)*m.2.1=a*p.2.1+b*q.2.1:=by rw[<-SU,ao,TP,SU,SU]
 have bW:(s:Rat)*m.2.2=a*p.2.2+b*q.2.2:=by rw[<-SU,be,TP,SU,SU]
 unfold dF dB;generalize(s:Rat)=s' at *;generalize(a:Rat)=iH at *;generalize(b:Rat)=l0 at *;generalize(m.1:Rat)=bF at *;generalize(m.2.1:Rat)=bS at *;generalize(m.2.2:Rat)=fJ at *;generalize(p.1:Rat)=cx at *;generalize(p.2.1:Rat)=cg at *;generalize(p.2.2:Rat)=jp at *;generalize(q.1:Rat)=aN at *;generalize(q.2.1:Rat)=a3 at *;generalize(q.2.2:Rat)=cE at *;refine⟨iH*jp/(s'*fJ),l0*cE/(s'*fJ),?_,?_,?_⟩<;>grind
theorem MM{o p q m:P3}(h:hh p q m)(aq:0<p.2.2)(aL:0<q.2.2)(aB:0<m.2.2):ef o p m+ef o m q=ef o p q:=by
 obtain⟨a,b,e,ex,jH⟩:=ML h aq aL aB;unfold ef;rw[ex,jH];have:a=1-b:=by grind
 subst this;grind
theorem xy{l p:P3}(aq:0<p.2.2)(h:ln l p=0):(l.1:Rat)*dF p+l.2.1*dB p+l.2.2=0:=by
 have h:((l.1*p.1+l.2.1*p.2.1+l.2.2*p.2.2:Int):Rat)=0:=U9.mpr h;rw[TP,TP,SU,SU,SU]at h;have jo:=eG aq;unfold dF dB;generalize(p.1:Rat)=cx at *;generalize(p.2.1:Rat)=cg at *;generalize(p.2.2:Rat)=jp at *;grind
theorem MN{l o u v:P3}(ay:l.1≠0∨l.2.1≠0)(aA:0<o.2.2)(bM:0<u.2.2)(a':0<v.2.2)(lo:ln l o=0)(v5:ln l u=0)(lv:ln l v=0):ef o u v=0:=by
 have a:=xy aA lo;have b:=xy bM v5;have c:=xy a' lv;unfold ef;generalize dF o=dI at *;generalize dB o=y0 at *;generalize dF u=gt at *;generalize dB u=dN at *;generalize dF v=nB at *;generalize dB v=fZ at *;rcases ay with h|h
 ·have h:(l.1:Rat)≠0:=fun z=>h (U9.mp z);generalize(l.1:Rat)=bZ at *;generalize(l.2.1:Rat)=b0 at *;generalize(l.2.2:Rat)=f2 at *;have aN:bZ*(gt-dI) = -b0*(dN-y0):=by grind
  have a3:bZ*(nB-dI) = -b0*(fZ-y0):=by grind
  have:bZ*((gt-dI)*(fZ-y0)-(dN-y0)*(nB-dI))=0:=by grind
  grind
 ·have h:(l.2.1:Rat)≠0:=fun z=>h (U9.mp z);generalize(l.1:Rat)=bZ at *;generalize(l.2.1:Rat)=b0 at *;generalize(l.2.2:Rat)=f2 at *;have aN:b0*(dN-y0) = -bZ*(gt-dI):=by grind
  have a3:b0*(fZ-y0) = -bZ*(nB-dI):=by grind
  have:b0*((gt-dI)*(fZ-y0)-(dN-y0)*(nB-dI))=0:=by grind
  grind
def cP(ps:List P3):Rat:=d1 gW (bi ps)
theorem CO(h:P3->Rat):∀(z:P3)(L:List P3),d1 (fun p q=>h p-h q) (ck z L)=h z-h (lz z L)
 | z,[]=>by rw[show ck z []=[]from rfl,gV,show lz z []=z from rfl];grind
 | z,p::L=>by
  rw[show ck z (p::L)=(z,p)::ck p L from rfl,fR,CO h p L,show lz z (p::L)=lz p L from rfl];dsimp only;grind
theorem qq(o:P3)(ps:List P3):d1 (ef o) (bi ps)=cP ps:=by
 have t:d1 (fun p q=>gW o p-gW o q) (bi ps)=0:=by
  unfold bi;rw[CO];cases ps with
  | nil=>rw[show lz (lz (0,0,1) []) []=lz (0,0,1) []from rfl];grind
  | cons a r=>rw[show lz (lz (0,0,1) (a::r)) (a::r)=lz (0,0,1) (a::r)from rfl];grind
 have s:=xw (T1:=gW) (T2:=fun p q=>gW o p-gW o q) (T3:=ef o) (es:=bi ps) fun e _=>by
  unfold ef gW;grind
 unfold cP;grind
open Classical in
noncomputable def dn(f:P3->Int)(mt:P3->P3->P3)(ps:List P3):List P3:=if ∃c∈ps,0<f c then cr f mt ps else[]
theorem CP{l o:P3}{ps:List P3}(ay:l.1≠0∨l.2.1≠0)(aA:0<o.2.2)(lo:ln l o=0)(a':∀p∈ps,bL p):
  cP (dn (ln l) (bv l) ps)+cP (dn (fun c => -ln l c) (bv l) ps)=cP ps:=by
 have xz:∀p q,bL p->bL q->ln l p*ln l q<0->bL (bv l p q):=fun p q aq aL c=>by
  rw[<-sL aq aL];exact ji (sM aq aL c)
 have hz:∀u v,(0<u.2.2)->(0<v.2.2)->ln l u=0->ln l v=0->ef o u v=0:=fun u v bM a' a b=>MN ay aA bM a' lo a b;have CQ:∀u v,(0<u.2.2)->(0<v.2.2) -> -ln l u=0 -> -ln l v=0->ef o u v=0:=fun u v bM a' a b=>hz u v bM a' (by lia) (by lia)
 have sW:∀u:P3,(bL u∨u=o)->0<u.2.2:=fun u bM=>by
  rcases bM with h|h
  ·exact h.1
  ·rw[h];exact aA
 have h6:∀p∈ps,0<p.2.2:=fun p aq=>(a' p aq).1
 have one:cP (dn (ln l) (bv l) ps)=d1 (h0 (ln l) (bv l) (ef o)) (bi ps):=by
  unfold dn;split
  ·rw[<-qq o]
   exact CM (V:=fun p=>bL p∨p=o) (fun u v bM a'=>hz u v (sW u bM) (sW v a')) (fun p q aq aL c=>⟨.inl (by
    rcases aq with aq|aq
    ·rcases aL with aL|aL
     ·exact xz p q aq aL c
     ·rw[aL,lo,SW]at c;lia
    ·rw[aq,lo,T7]at c;lia),xr c⟩) o (.inr rfl) lo (fun p aq=>.inl (a' p aq))
  ·rename_i n
   rw[xx (V:=fun p=>0<p.2.2) hz fun e au=>?_]
   ·rfl
   ·obtain⟨aa,ab⟩:=iq au;have a:¬0<ln l e.1:=fun z=>n ⟨_,aa,z⟩;have b:¬0<ln l e.2:=fun z=>n ⟨_,ab,z⟩;exact⟨h6 _ aa,h6 _ ab,by lia,by lia⟩
 have two:cP (dn (fun c => -ln l c) (bv l) ps)=d1 (h0 (fun c => -ln l c) (bv l) (ef o)) (bi ps):=by
  unfold dn;split
  ·rw[<-qq o];refine CM (f:=fun c => -ln l c) (V:=fun p=>bL p∨p=o) (fun u v bM a'=>CQ u v (sW u bM) (sW v a')) (fun p q aq aL c=>?_) o (.inr rfl) (by show -ln l o=0;lia) (fun p aq=>.inl (a' p aq));have c:ln l p*ln l q<0:=by rw[T9]at c;exact c
   refine⟨.inl ?_,by show -ln l (bv l p q)=0;rw[xr c];rfl⟩;rcases aq with aq|aq
   ·rcases aL with aL|aL
    ·exact xz p q aq aL c
    ·rw[aL,lo,SW]at c;lia
   ·rw[aq,lo,T7]at c;lia
  ·rename_i n
   rw[xx (f:=fun c => -ln l c) (V:=fun p=>0<p.2.2) CQ fun e au=>?_]
   ·rfl
   ·obtain⟨aa,ab⟩:=iq au;have a:¬0 < -ln l e.1:=fun z=>n ⟨_,aa,z⟩;have b:¬0 < -ln l e.2:=fun z=>n ⟨_,ab,z⟩;exact⟨h6 _ aa,h6 _ ab,by show -ln l e.1<=0;lia,by show -ln l e.2<=0;lia⟩
 rw[one,two,<-qq o];refine xw fun e au=>?_;obtain⟨aa,ab⟩:=iq au;exact MK (V:=fun p=>0<p.2.2) hz (h6 _ aa) (h6 _ ab) fun c=>MM (xi c) (h6 _ aa) (h6 _ ab) (xz _ _ (a' _ aa) (a' _ ab) c).1
end Cut
namespace L3
open PySem L2
section
variable{K:Su}{X:aU}{a b e:WP}{es:List WP}{bw bA u:bb}{w:dk}{pos p:Pos}{F:cw}{eR:WP}
def MO(bw bA:bb):bb:=fun ρ k=>bw ρ fun x=>bA ρ fun y=>y=.non/\k (.bl (!isNon x))
theorem MP(ax:bn X a bw)(ae:bn X b bA)(aB:WT .IsNot b=false):gj X (.Compare a [.IsNot] [b] pos) (hF (MO bw bA)):=by
 obtain⟨_,aa,av⟩:=ax;obtain⟨_,ab,aK⟩:=ae;refine⟨_,lV H2 aa ab aB,m4 (m3 (f:=fun x y k=>y=.non/\k (.bl (!isNon x))) av aK fun x y k h R W B H σ ρ v w Q e ba cm q=>?_)⟩;obtain⟨rfl,ah⟩:=h;have ag:w=.non:=by cases cm;rfl
 have ao:decide (v=V.non)=isNon x:=by cases ba<;>simp[isNon]
 refine⟨ag,?_⟩;rw[ao];exact q _ _ B H ah e (bJ.refl _ _) (.bl _)
end
section
variable{X:aU}{e:WP}{u:bb}{pos:Pos}
def MQ(i:Nat)(u:bb):cM:=fun U ρ=>∃m,ρ[i]?=some (.val (.int m))/\u ρ fun d=>∃n,d=.int n/\U.nx (ρ.set i (.val (.int (m+n))))
theorem MR{i:Nat}{x:Str}{g1:Pos}(cd:X.N.Nodup)(aC:X.N[i]?=some x)(aj:Loc X.env.scope x)(au:bn X e u)(bG:X.fn x=true∨X.env.scope.names.lookup x=some .local:=by first|exact .inl rfl|exact .inr rfl|assumption):
  fe X (.AugAssign (.Name x g1) .Add e pos) (MQ i u):=by
 obtain⟨_,aa,av⟩:=au;refine⟨_,Hs cd aC aj aa Hw bG,fun U ρ h R W B H σ D e s=>?_⟩;obtain⟨m,aB,h⟩:=h;obtain⟨v,a',b2⟩:=e.val aB;refine⟨v,a',?_⟩;refine av ρ _ h R W B H σ _ e fun d w a7 aw aP ag aO aE=>?_;obtain⟨n,rfl,z⟩:=aP;exact⟨m,n,b2.intV,aE.intV,s.nx _ _ a7 aw z (ag.setV i (.int _)) aO⟩
end
end L3
namespace Cut
open PySem L2 L3
open PySem.Builtin.Int (intBits)
theorem nC{x:Int}(bY : -63<=x)(aa:x<=63):TE x<=6:=by
 have:∀n:Fin 127,TE ((n.val:Int)-63)<=6:=by decide +kernel
 have:=this ⟨(x+63).toNat,by lia⟩;rw[show(((x+63).toNat:Nat):Int)-63=x by lia]at this;exact this
noncomputable def eg(f:P3->Int)(mt:P3->P3->P3)(sh:List a5):List a5:=(sh.map fun s=>(dn f mt s.1,s.2)).filter fun s => !s.1.isEmpty
theorem sX{f:P3->Int}{mt:P3->P3->P3}:eg f mt []=[]:=rfl
theorem nD{f:P3->Int}{mt:P3->P3->P3}(a b:List a5):eg f mt (a++b)=eg f mt a++eg f mt b:=by unfold eg;rw[S9,UN]
theorem sY{f:P3->Int}{mt:P3->P3->P3}{s:a5}(h:(dn f mt s.1).isEmpty=false):eg f mt [s]=[(dn f mt s.1,s.2)]:=by unfold eg;simp[h]
theorem sZ{f:P3->Int}{mt:P3->P3->P3}{s:a5}(h:(dn f mt s.1).isEmpty=true):eg f mt [s]=[]:=by unfold eg;simp[h]
theorem oO{f:P3->Int}{mt:P3->P3->P3}(sh:List a5):(eg f mt sh).length<=sh.length:=by
 unfold eg;refine SA (T' _ _) ?_;rw[Sz];exact SD _
theorem CR{f:P3->Int}{mt:P3->P3->P3}{sh:List a5}{s:a5}(h:s∈eg f mt sh):∃t∈sh,s=(cr f mt t.1,t.2)/\∃c∈t.1,0<f c:=by
 unfold eg at h;obtain⟨aa,ab⟩:=Tw.mp h;obtain⟨t,aR,rfl⟩:=SJ.mp aa;refine⟨t,aR,?_⟩;unfold dn at ab ⊢;split at ab
 ·rename_i c;rw[TI c];exact⟨rfl,c⟩
 ·simp at ab
def vq(a:Int×Int):Rat:=(a.1:Rat)/(a.2:Rat)
theorem MS{a:Int×Int}{p q:P3}(ax:0<a.2)(aq:0<p.2.2)(aL:0<q.2.2):vq (ly a p q)=vq a+gW p q:=by
 unfold vq ly gW dF dB;dsimp only;rw[TP,SU,SU,SU,Rat.intCast_sub,SU,SU,SU,SU];have eR:=eG ax;have jo:=eG aq;have e9:=eG aL;generalize(a.1:Rat)=c6 at *;generalize(a.2:Rat)=dt at *;generalize(p.1:Rat)=cx at *;generalize(p.2.1:Rat)=cg at *;generalize(p.2.2:Rat)=jp at *;generalize(q.1:Rat)=aN at *;generalize(q.2.1:Rat)=a3 at *;generalize(q.2.2:Rat)=cE at *;grind
theorem MT{a:Int×Int}{p q:P3}(ax:0<a.2)(aq:0<p.2.2)(aL:0<q.2.2):0<(ly a p q).2:=SH (SH ax aq) aL
theorem CS:∀{es:List (P3×P3)}{a:Int×Int},0<a.2->(∀e∈es,0<e.1.2.2/\0<e.2.2.2)->0<(es.foldl (fun a e=>ly a e.1 e.2) a).2/\vq (es.foldl (fun a e=>ly a e.1 e.2) a)=vq a+d1 gW es
 | [],a,ax,_=>⟨ax,by rw[gV,List.foldl_nil];grind⟩
 | e::es,a,ax,h=>by
  obtain⟨aa,ab⟩:=h e Sv;obtain⟨bT,bP⟩:=CS (es:=es) (a:=ly a e.1 e.2) (MT ax aa ab) fun x aj=>h x (Sw _ aj);refine⟨bT,?_⟩;rw[List.foldl_cons,bP,MS ax aa ab,fR];grind
theorem CT:∀(z:P3)(L:List P3)(k:Nat),k<L.length->(ck z L)[k]?=some (bX (z::L) k,bX L k)
 | _,[],_,h=>absurd h (by simp)
 | z,p::L,0,_=>rfl
 | z,p::L,k+1,h=>by
  have:=CT p L k (by simpa using h);simpa[ck,B6]using this
theorem s0:∀(z:P3)(L:List P3),(ck z L).length=L.length
 | _,[]=>rfl
 | z,p::L=>by simp[ck,s0 p L]
theorem CU:∀(z:P3)(L:List P3),L≠[]->lz z L=bX L (L.length-1)
 | _,[],h=>absurd rfl h
 | z,[p],_=>rfl
 | z,p::q::L,_=>by
  have:=CU p (q::L) (by simp);show lz p (q::L)=_
  rw[this];rfl
theorem CV(ps:List P3):bi ps=(Te ps.length).map fun k=>(bX ps ((k+ps.length-1)%ps.length),bX ps k):=by
 apply U0;intro k;by_cases h:k<ps.length
 ·have aH:ps≠[]:=by rintro rfl;simp at h
  rw[S7,VB h];unfold bi;rw[CT _ _ _ h];simp only[T5];congr 2;cases k with
  | zero =>
   rw[L9,CU _ _ aH,U2,T6 (by lia)]
  | succ k =>
   rw[B6,show k+1+ps.length-1=k+ps.length by lia,Ws,T6 (by lia)]
 ·rw[TF (by unfold bi;rw[s0];lia),TF (by simp;lia)]
theorem MU(ps:List P3):ta ps ps.length=(bi ps).foldl (fun a e=>ly a e.1 e.2) (0,1):=by
 unfold ta;rw[CV,List.foldl_map]
def hk(p:P3):Rat:=(p.1:Rat)/(p.2.2:Rat)
theorem CW{a n:Int}(aH:0<n):bL (du a 0 n)/\(du a 0 n).2.1=0/\hk (du a 0 n)=(a:Rat)/n:=by
 obtain⟨pt,ag,ao,_⟩:=nn (a:=a) (b:=0) (S1 aH);refine⟨pt,?_,?_⟩
 ·rw[T7]at ao;rcases Tr.mp ao with z|z
  ·exact z
  ·lia
 ·have cD:=eG aH;have hf:=eG pt.1;have e:((du a 0 n).1:Rat)*n=a*(du a 0 n).2.2:=by rw[<-SU,ag,SU]
  unfold hk;generalize((du a 0 n).1:Rat)=x at *;generalize((du a 0 n).2.2:Rat)=y at *;generalize(a:Rat)=iH at *;generalize(n:Rat)=gI at *;grind
theorem CX{ps:List P3}(h:∀p∈ps,0<p.2.2):bL (lA ps)/\(lA ps).2.1=0/\hk (lA ps)=cP ps:=by
 obtain⟨bT,bP⟩:=CS (es:=bi ps) (a:=(0,1)) (by decide) fun e au=>⟨h _ (iq au).1,h _ (iq au).2⟩;rw[<-MU]at bT bP;obtain⟨a,b,c⟩:=CW (a:=(ta ps ps.length).1) bT;refine⟨a,b,?_⟩;show hk (du (ta ps ps.length).1 0 (ta ps ps.length).2)=_
 rw[c]
 have:vq (ta ps ps.length)=cP ps:=by
  rw[bP];unfold cP vq;rw[show(((0:Int),(1:Int)).1:Rat)=0 from rfl];grind
 exact this
def gX(sh:List a5):Rat:=(sh.map fun s=>cP s.1).sum
theorem oP(s:a5)(sh:List a5):gX (s::sh)=cP s.1+gX sh:=by unfold gX;rw[SV,To]
theorem xA:∀a b:List a5,gX (a++b)=gX a+gX b
 | [],b=>by rw[Tz,show gX []=0 from rfl];grind
 | s::a,b=>by rw[Ur,oP,oP,xA a b];grind
theorem xB{p q:P3}(aq:bL p)(aL:bL q)(h:p≠q):(crs p q).1≠0∨(crs p q).2.1≠0:=by
 by_cases a:(crs p q).1=0
 ·by_cases b:(crs p q).2.1=0
  ·exfalso
   have a:p.2.1*q.2.2-p.2.2*q.2.1=0:=a;have b:p.2.2*q.1-p.1*q.2.2=0:=b;have cv:=wY aq (S1 aL.1) (show p.1*q.2.2=q.1*p.2.2 by grind) (show p.2.1*q.2.2=q.2.1*p.2.2 by grind);have cN:=wY aL (S1 aL.1) (show q.1*q.2.2=q.1*q.2.2 from rfl) (show q.2.1*q.2.2=q.2.1*q.2.2 from rfl);exact h (cv.symm.trans cN)
  ·exact .inr b
 ·exact .inl a
theorem CY{l o:P3}(ay:l.1≠0∨l.2.1≠0)(aA:0<o.2.2)(lo:ln l o=0):∀{sh:List a5},(∀s∈sh,∀p∈s.1,bL p)->gX (eg (ln l) (bv l) sh)+gX (eg (fun c => -ln l c) (bv l) sh)=gX sh
 | [],_=>by rw[sX,sX,show gX []=0 from rfl];grind
 | s::sh,h=>by
  have bR:=CY ay aA lo (sh:=sh) fun t aR=>h t (Sw _ aR);have k:=CP ay aA lo (h s Sv)
  have one:∀(f:P3->Int),gX (eg f (bv l) [s])=cP (dn f (bv l) s.1):=fun f=>by
   cases c:(dn f (bv l) s.1).isEmpty with
   | false =>
    rw[sY c,oP,show gX []=0 from rfl];grind
   | true =>
    rw[sZ c,List.isEmpty_iff.mp c];rfl
  have e:∀(f:P3->Int),gX (eg f (bv l) (s::sh))=cP (dn f (bv l) s.1)+gX (eg f (bv l) sh):=fun f=>by
   have:s::sh=[s]++sh:=rfl;rw[this,nD,xA,one]
  rw[e,e,oP];grind
end Cut
namespace Cut
open PySem L2 L3
theorem lC{f:P3->Int}{mt:P3->P3->P3}{ps:List P3}(h:∃c∈ps,0<f c):dn f mt ps=cr f mt ps:=by unfold dn;rw[TI h]
theorem nE{f:P3->Int}{mt:P3->P3->P3}{ps:List P3}(h:¬∃c∈ps,0<f c):dn f mt ps=[]:=by unfold dn;rw[TT h]
theorem s1{l:P3}{ps:List P3}:(∃c∈ps,0<(fun c => -ln l c) c)↔∃c∈ps,ln l c<0 :=
 ⟨fun⟨c,h,z⟩=>⟨c,h,by have z:0 < -ln l c:=z;lia⟩,fun⟨c,h,z⟩=>⟨c,h,by show 0 < -ln l c;lia⟩⟩
end Cut
namespace L3
open PySem L2
theorem s2{α:Type}{f h:α->D}{P:α->Bool}{cz:c5}{u:bb}{fs:List aI}:∀{rs:List α}{v0:aI}{k:List D->Prop},(∀r∈rs,∀k:Bool->Prop,k (P r)->cz (.val (f r)::fs) k)->(∀r∈rs,∀k:D->Prop,k (h r)->u (.val (f r)::fs) k)->k ((rs.filter P).map h)->fP (d6 0) cz u (rs.map f) (v0::fs) k
 | [],_,_,_,_,ah=>ah
 | r::rs,v0,k,aa,ab,ah=>by
  refine aa r Sv _ ?_;cases c:P r with
  | true =>
   rw[TI rfl];refine ab r Sv _ ?_;refine s2 (P:=P) (fun x aj=>aa x (Sw _ aj)) (fun x aj=>ab x (Sw _ aj)) ?_;rw[List.filter_cons_of_pos c]at ah;exact ah
  | false =>
   rw[TT SP];refine s2 (P:=P) (fun x aj=>aa x (Sw _ aj)) (fun x aj=>ab x (Sw _ aj)) ?_;rw[List.filter_cons_of_neg (by rw[c];decide)]at ah;exact ah
end L3
namespace Cut
open PySem L2 L3
open PySem.Builtin.Int (intBits)
theorem MV(ps:List P3)(s:P3):wi ps s=0∨wi ps s = -1∨wi ps s=1:=by
 unfold wi;split
 ·exact .inl rfl
 ·split
  ·exact .inr (.inl rfl)
  ·exact .inr (.inr rfl)
theorem CZ{ps:List P3}{s:P3}(h:∀e∈bi ps,0<=az e.1 e.2 s)(z:∃e∈bi ps,az e.1 e.2 s=0):wi ps s = -1:=by
 unfold wi;rw[TT fun⟨e,au,q⟩=>by have:=h e au;lia,TI z]
theorem MW{ps:List P3}{i:Nat}(h:i<ps.length):(bi ps).take (i+1)=(bi ps).take i++[(bX ps ((i+ps.length-1)%ps.length),bX ps i)]:=by
 rw[List.take_succ,CV,S7,VB h];rfl
theorem MX(ps:List P3):(bi ps).take ps.length=bi ps:=UC (by unfold bi;rw[s0];exact SD _)
theorem MY{m n:Nat}{ps:List P3}(ay:ps.length<=n)(cT:∀p∈ps,cq m p):cp ((2*m+2)*n+1) (lA ps):=by
 obtain⟨e9,aN,a3⟩:=w8 cT ps.length (SD _);have iw:(2*m+2)*ps.length+1<=(2*m+2)*n+1:=Nat.succ_le_succ (Nat.mul_le_mul_left _ ay);exact cp.nP (p:=((ta ps ps.length).1,0,(ta ps ps.length).2)) ⟨SA aN iw,SA (show TE 0<=1 by decide) (Nat.le_add_left 1 _),SA a3 iw⟩ (S1 e9)
theorem C0(x:Int):sg x=0↔x=0:=by unfold sg;split<;>first|lia|(split<;>lia)
theorem kH(p q:P3):ln (crs p q) p=0:=by show az p q p=0;unfold az crs;grind
noncomputable def f9(e:P3×P3)(ps:List P3):List P3:=dn (ln (crs e.1 e.2)) (bv (crs e.1 e.2)) ps
noncomputable def cU:List P3->List (P3×P3)->Option (List P3)
 | ps,[]=>some ps
 | ps,e::es=>if(f9 e ps).isEmpty=true then none else cU (f9 e ps) es
structure cy (ps:List P3):Prop where
 t:T0 ps
 l:3<=ps.length
 p:∀x∈ps,bL x
theorem oQ{e:P3×P3}{ps:List P3}(h:(f9 e ps).isEmpty=false):(∃c∈ps,0<ln (crs e.1 e.2) c)/\f9 e ps=cr (ln (crs e.1 e.2)) (bv (crs e.1 e.2)) ps:=by
 by_cases c:∃c∈ps,0<ln (crs e.1 e.2) c
 ·exact⟨c,lC c⟩
 ·unfold f9 at h;rw[nE c]at h;cases h
theorem cy.cut{e:P3×P3}{ps:List P3}(r:cy ps)(h:(f9 e ps).isEmpty=false):cy (f9 e ps):=by
 obtain⟨c,q⟩:=oQ h;obtain⟨t,l⟩:=oI (gU _).meets r.t r.l c;rw[q];exact⟨t,l,fun x aj=>(Mo r.p x aj).1⟩
theorem qr{ps:List P3}{e:P3×P3}{es:List (P3×P3)}{rs:List P3}(h:cU ps (e::es)=some rs):(f9 e ps).isEmpty=false/\cU (f9 e ps) es=some rs:=by
 unfold cU at h;split at h
 ·cases h
 ·rename_i c
  exact⟨by cases q:(f9 e ps).isEmpty with
   | true=>exact absurd q c
   | false=>rfl,h⟩
theorem mx:∀{es:List (P3×P3)}{ps rs:List P3},cy ps->cU ps es=some rs->cy rs
 | [],ps,rs,r,h=>by
  unfold cU at h;rw[<-SM h];exact r
 | e::es,ps,rs,r,h=>by
  obtain⟨aa,ab⟩:=qr h;exact mx (r.cut aa) ab
theorem MZ{e:P3×P3}{ps:List P3}{g:P3}(h:(f9 e ps).isEmpty=false)(aD:∀x∈ps,0<=ln g x):∀x∈f9 e ps,0<=ln g x:=by
 rw[(oQ h).2];exact mv (gU _) aD
theorem oR{g:P3}:∀{es:List (P3×P3)}{ps rs:List P3},cU ps es=some rs->(∀x∈ps,0<=ln g x)->∀x∈rs,0<=ln g x
 | [],ps,rs,h,aD=>by
  unfold cU at h;rw[<-SM h];exact aD
 | e::es,ps,rs,h,aD=>by
  obtain⟨aa,ab⟩:=qr h;exact oR ab (MZ aa aD)
theorem qs:∀{es:List (P3×P3)}{ps rs:List P3},cU ps es=some rs->∀e∈es,∀x∈rs,0<=az e.1 e.2 x
 | [],_,_,_,e,au=>by cases au
 | d::es,ps,rs,h,e,au=>by
  obtain⟨aa,ab⟩:=qr h;rcases Sy.mp au with rfl|au
  ·refine oR (g:=crs e.1 e.2) ab fun x aj=>?_;rw[(oQ aa).2]at aj;exact oM (gU _) x aj
  ·exact qs ab e au
theorem xC{s:P3}:∀{es:List (P3×P3)}{ps:List P3},cy ps->(∀e∈bi ps,0<az e.1 e.2 s)->(∀e∈es,0<az e.1 e.2 s)->∃rs,cU ps es=some rs/\∀e∈bi rs,0<az e.1 e.2 s
 | [],ps,r,h,_=>⟨ps,rfl,h⟩
 | e::es,ps,r,h,au=>by
  have ak:=au e Sv
  have c:∃c∈ps,0<ln (crs e.1 e.2) c:=by
   apply Tn;intro n;have:=MH r.t r.l n ak;rw[sT h]at this;cases this
  have q:f9 e ps=cr (ln (crs e.1 e.2)) (bv (crs e.1 e.2)) ps:=lC c;have t:=oI (gU (crs e.1 e.2)).meets r.t r.l c
  have ne:(f9 e ps).isEmpty=false:=by
   rw[q];cases z:cr (ln (crs e.1 e.2)) (bv (crs e.1 e.2)) ps with
   | nil=>rw[z]at t;simp at t
   | cons a r=>rfl
  have k:=CJ (gU (crs e.1 e.2)) e.1 (kH e.1 e.2) r.t r.l c h ak;rw[<-q]at k;obtain⟨rs,ag,ao⟩:=xC (es:=es) (r.cut ne) k fun d hd=>au d (Sw _ hd);refine⟨rs,?_,ao⟩;unfold cU;rw[TT (by rw[ne];decide)];exact ag
theorem cy.ge{ps:List P3}(r:cy ps){e:P3×P3}(au:e∈bi ps):∀x∈ps,0<=ln (crs e.1 e.2) x:=(hj r.t r.l au).1
theorem M0{s:P3}{es:List (P3×P3)}{ps rs:List P3}(r:cy ps)(h:cU ps es=some rs)(ak:∀e∈bi rs,0<=az e.1 e.2 s):(∀e∈bi ps,0<=az e.1 e.2 s)/\∀e∈es,0<=az e.1 e.2 s:=by
 have q:=mx r h;exact⟨fun e au=>j4 q.t q.l ak (oR h (r.ge au)),fun e au=>j4 q.t q.l ak (qs h e au)⟩
theorem xD{l:P3}{mt:P3->P3->P3}{ps:List P3}(cO:hi l mt)(o:P3)(aA:ln l o=0)(aR:T0 ps)(ay:3<=ps.length)(aq:∃p∈ps,0<ln l p){s:P3}(h:∀e∈bi ps,0<=az e.1 e.2 s)(ak:0<=ln l s):∀e∈bi (cr (ln l) mt ps),0<=az e.1 e.2 s:=by
 obtain⟨t,hB⟩:=oI cO.meets aR ay aq
 have key:=xp (f:=ln l) (mt:=mt) (ps:=ps) (C:=fun u v=>∃g:P3,ln g u=0/\ln g v=0/\(g=l∨∃e∈bi ps,g=crs e.1 e.2)) (fun u v bM a'=>⟨l,bM,a',.inl rfl⟩) o aA
  (fun e au _ _=>⟨crs e.1 e.2,kH _ _,im _ _,.inr ⟨e,au,rfl⟩⟩)
  (fun e au c=>by
   obtain⟨b,z⟩:=cO _ _ c;have aO:ln (crs e.1 e.2) e.1=0:=kH _ _;have aT:ln (crs e.1 e.2) e.2=0:=im _ _
   exact⟨z,fun _=>⟨crs e.1 e.2,aO,b.ln0 aO aT,.inr ⟨e,au,rfl⟩⟩,fun _=>⟨crs e.1 e.2,b.ln0 aO aT,aT,.inr ⟨e,au,rfl⟩⟩⟩)
 intro e au;obtain⟨g,iu,iv,aD⟩:=key e au;obtain⟨x,aj,ew⟩:=(hj t hB au).2
 have ge:0<=ln g x/\0<=ln g s/\∃y,0<ln g y:=by
  rcases aD with rfl|⟨d,hd,rfl⟩
  ·obtain⟨y,_,aM⟩:=aq;exact⟨oM cO x aj,ak,y,aM⟩
  ·obtain⟨aa,y,_,aM⟩:=hj aR ay hd;exact⟨mv cO (fun y aM=>aa y aM) x aj,h d hd,y,aM⟩
 obtain⟨aO,aT,y,g3⟩:=ge;have c0:=sC g e.1 e.2 x s;rw[iu,iv,SW,SW]at c0;have ag:az e.1 e.2 s*ln g x=az e.1 e.2 x*ln g s:=by lia
 have kB:0<ln g x:=by
  rcases TS aO with a|a
  ·exact a
  ·have dM:=sC g e.1 e.2 x y;rw[iu,iv,<-a,SW,SW,SW]at dM;have:=SH ew g3;lia
 have M1:=Ta (S0 ew) aT;rw[<-ag]at M1;by_cases z:0<=az e.1 e.2 s
 ·exact z
 ·have:=Int.mul_neg_of_neg_of_pos (show az e.1 e.2 s<0 by lia) kB;lia
theorem qt{s:P3}:∀{es:List (P3×P3)}{ps rs:List P3},cy ps->cU ps es=some rs->(∀e∈bi ps,0<=az e.1 e.2 s)->(∀e∈es,0<=az e.1 e.2 s)->∀e∈bi rs,0<=az e.1 e.2 s
 | [],ps,rs,r,h,ak,_=>by
  unfold cU at h;rw[<-SM h];exact ak
 | e::es,ps,rs,r,h,ak,au=>by
  obtain⟨aa,ab⟩:=qr h;obtain⟨c,q⟩:=oQ aa;refine qt (r.cut aa) ab ?_ fun d hd=>au d (Sw _ hd);rw[q];exact xD (gU _) e.1 (kH _ _) r.t r.l c ak (au e Sv)
def xE(a b c:P3):P3:=eO 1 (eO 1 a 1 b) 1 c
theorem M2(g a b c:P3):ln g (xE a b c)=ln g a+ln g b+ln g c:=by unfold xE;rw[mr,mr];grind
theorem cy.mid{ps:List P3}(r:cy ps):∃s:P3,∀g:P3,(∀x∈ps,0<=ln g x)->(∃y,0<ln g y)->0<ln g s:=by
 match ps,r with
 | [],r=>exact absurd r.l (by simp)
 | [_],r=>exact absurd r.l (by simp)
 | [_,_],r=>exact absurd r.l (by simp)
 | a::b::c::rest,r =>
  refine⟨xE a b c,fun g aD ⟨y,aM⟩=>?_⟩;rw[M2];have ax:=aD a (by simp);have ae:=aD b (by simp);have hc:=aD c (by simp);have d:0<az a b c:=r.t.1.1 c Sv;by_cases z:0<ln g a+ln g b+ln g c
  ·exact z
  ·exfalso
   have k:=CE (a:=a) (b:=b) (c:=c) (s:=y) (l:=g);rw[show ln g a=0 by lia,show ln g b=0 by lia,show ln g c=0 by lia,SW,SW,SW]at k;have:=SH d aM;lia
theorem T1.nomem{a:P3}:∀{L:List P3},T1 a L->2<=L.length->a∉L
 | [],_,h,_=>by simp at h
 | [_],_,h,_=>by simp at h
 | b::c::r,t,_,aB=>by
  rcases Sy.mp aB with e|aB
  ·have:=t.1 c Sv;rw[<-e,oH]at this;lia
  ·have:=t.1 a aB;have z:az a b a=0:=by unfold az crs;grind
   lia
theorem T1.uniq{a:P3}:∀{L M:List P3},T1 a L->T1 a M->(∀x,x∈L↔x∈M)->L=M
 | [],[],_,_,_=>rfl
 | [],c::M,_,_,h=>by have:=(h c).mpr Sv;cases this
 | b::L,[],_,_,h=>by have:=(h b).mp Sv;cases this
 | b::L,c::M,fb,xF,h=>by
  have M3:b=c:=by
   apply Tn;intro n
   have ae:b∈M:=by
    rcases Sy.mp ((h b).mp Sv)with z|z
    ·exact absurd z n
    ·exact z
   have hc:c∈L:=by
    rcases Sy.mp ((h c).mpr Sv)with z|z
    ·exact absurd z.symm n
    ·exact z
   have ej:=fb.1 c hc;have fv:=xF.1 b ae;have:az a c b = -az a b c:=by unfold az crs;grind
   lia
  subst M3
  have ic:∀{K:List P3},(∀x∈K,0<az a b x)->b∉K:=fun k z=>by
   have:=k b z;rw[im]at this;lia
  have e:L=M:=T1.uniq fb.2 xF.2 fun x=>by
   constructor
   ·intro aj;rcases Sy.mp ((h x).mp (Sw _ aj))with z|z
    ·rw[z]at aj;exact absurd aj (ic fb.1)
    ·exact z
   ·intro aj;rcases Sy.mp ((h x).mpr (Sw _ aj))with z|z
    ·rw[z]at aj;exact absurd aj (ic xF.1)
    ·exact z
  rw[e]
theorem M4(a:P3)(r:List P3):cP (r++[a])=cP (a::r):=by
 unfold cP
 have e:bi (r++[a])=ck a (r++[a]):=by
  unfold bi;rw[qn];rfl
 rw[e,xv]
theorem C1:∀X Y:List P3,cP (X++Y)=cP (Y++X)
 | [],Y=>by rw[SG];rfl
 | x::X,Y=>by
  have:=C1 X (Y++[x]);rw[Ur,<-M4,SR,this,SR];rfl
theorem M5{F G:List P3}(f:cy F)(g:cy G)(h:∀x,x∈F↔x∈G):cP F=cP G:=by
 cases F with
 | nil=>exact absurd f.l (by simp)
 | cons a oS =>
  obtain⟨X,Y,e⟩:=Wv ((h a).mp Sv)
  have a6:T0 (a::(Y++X)):=by
   have:=T0.turn (xs:=X) (ys:=a::Y) (by rw[<-e];exact g.t);exact this
  have xG:2<=oS.length:=by have:=f.l;simp at this;lia
  have M6:2<=(Y++X).length:=by have:=g.l;rw[e]at this;simp at this ⊢;lia
  have hP:=T1.nomem f.t.1 xG;have ic:=T1.nomem a6.1 M6;have mg:∀x,x∈G↔x∈a::(Y++X):=fun x=>by rw[e];simp;constructor<;>(intro z;rcases z with z|z|z<;>simp[z])
  have eq:oS=Y++X:=T1.uniq f.t.1 a6.1 fun x=>by
   constructor
   ·intro aj;rcases Sy.mp ((mg x).mp ((h x).mp (Sw _ aj)))with z|z
    ·rw[z]at aj;exact absurd aj hP
    ·exact z
   ·intro aj;rcases Sy.mp ((h x).mpr ((mg x).mpr (Sw _ aj)))with z|z
    ·rw[z]at aj;exact absurd aj ic
    ·exact z
  rw[eq,e,C1 X (a::Y)];rfl
theorem M7{y c:P3}{D k:Int}(e4:0<D)(gJ:bL y)(kI:bL c)(e:sc D y=sc k c):y=c:=by
 have l9:k≠0:=by
  rintro rfl;have aQ:D*y.2.2=0*c.2.2:=Uf (fun x:P3=>x.2.2) e;rw[T7]at aQ;have:=SH e4 gJ.1;lia
 obtain⟨_,h⟩:=r7 (show D≠0 by lia) l9 kI e;rw[<-h];exact(Bc gJ).symm
theorem M8(a b c y:P3):sc (az a b c) y=(az b c y*a.1+az c a y*b.1+az a b y*c.1,az b c y*a.2.1+az c a y*b.2.1+az a b y*c.2.1,az b c y*a.2.2+az c a y*b.2.2+az a b y*c.2.2):=by
 unfold sc az crs;refine i1 ?_ ?_ ?_<;>dsimp only<;>grind
theorem C2{F G:List P3}(f:cy F)(g:cy G)(dA:∀x∈F,∀e∈bi G,0<=az e.1 e.2 x)(eZ:∀y∈G,∀e∈bi F,0<=az e.1 e.2 y):∀c∈F,c∈G:=by
 intro c hc;apply Tn;intro M9;obtain⟨X,Y,e⟩:=Wv hc
 have t:T0 (c::(Y++X)):=by
  have:=T0.turn (xs:=X) (ys:=c::Y) (by rw[<-e];exact f.t);exact this
 obtain⟨n,N,nf⟩:∃n N,Y++X=n::N:=by
  cases q:Y++X with
  | nil =>
   have l:=f.l;rw[e,SE,SO]at l;have:=Uf Th q;rw[SE,UK]at this;lia
  | cons n N=>exact⟨n,N,rfl⟩
 rw[nf]at t
 have M':N≠[]:=by
  rintro rfl;have l:=f.l;rw[e,SE,SO]at l;have:=Uf Th nf;rw[SE,SO,UK]at this;lia
 have f1:∀d,d∈bi (c::n::N)->d∈bi F:=fun d hd=>by
  have av:∀(A B:List P3),d∈bi (B++A)->d∈bi (A++B):=fun A=>by
   induction A with
   | nil=>intro B h;rw[SG]at h;exact h
   | cons a A bR =>
    intro B h;have aa:d∈bi ((B++[a])++A):=by rw[SR];exact h
    have ab:=bR (B++[a]) aa
    have aQ:bi (A++(B++[a]))=ck a ((A++B)++[a]):=by
     rw[<-SR];unfold bi;rw[qn];rfl
    rw[aQ]at ab;exact qo.mp ab
  rw[e];refine av X (c::Y) ?_;have:c::Y++X=c::n::N:=by rw[Ur,nf]
  rw[this];exact hd
 have ag:(c,n)∈bi (c::n::N):=Sw _ Sv;have ao:(lz n N,c)∈bi (c::n::N):=Sv;have Na:lz n N∈N:=sP M';generalize lz n N=z at *;have Nb:0<az c n z:=t.1.1 z Na;have one:=f1 _ ag;have two:=f1 _ ao
 have off:∀y∈G,0<az c n y+az z c y:=fun y aM=>by
  have a:0<=az c n y:=eZ y aM _ one;have b:0<=az z c y:=eZ y aM _ two;apply Tn;intro q;have eR:az c n y=0:=by lia
  have kE:az z c y=0:=by lia
  have tp:=M8 c n z y;rw[eR,kE]at tp
  have tp:sc (az c n z) y=sc (az n z y) c:=by
   rw[tp];unfold sc;refine i1 ?_ ?_ ?_<;>dsimp only<;>grind
  have:=M7 Nb (g.p y aM) (f.p c hc) tp;exact M9 (by rw[<-this];exact aM)
 have Nc:∃W:Int,0<W/\∀y∈G,y.2.2<=W:=by
  have:∀L:List P3,∃W:Int,0<W/\∀y∈L,y.2.2<=W:=fun L=>by
   induction L with
   | nil=>exact⟨1,by decide,fun y aM=>by cases aM⟩
   | cons a L bR =>
    obtain⟨W,aa,ab⟩:=bR;by_cases q:a.2.2<=W
    ·exact⟨W,aa,fun y aM=>by rcases Sy.mp aM with rfl|aM;exact q;exact ab y aM⟩
    ·exact⟨a.2.2,by lia,fun y aM=>by
      rcases Sy.mp aM with rfl|aM
      ·exact Int.le_refl _
      ·have:=ab y aM;lia⟩
  exact this G
 obtain⟨W,eU,e6⟩:=Nc
 have C3:∀y:P3,ln (eO W (eO 1 (crs c n) 1 (crs z c)) (-1) (0,0,1)) y=W*(az c n y+az z c y)-y.2.2:=fun y=>by
  unfold ln eO az;dsimp only;grind
 have:=j4 (l:=eO W (eO 1 (crs c n) 1 (crs z c)) (-1) (0,0,1)) g.t g.l (dA c hc) fun y aM=>by
  rw[C3];have aa:=off y aM;have ab:=e6 y aM;have aQ:W*1<=W*(az c n y+az z c y):=Int.mul_le_mul_of_nonneg_left (by lia) (S0 eU);lia
 rw[C3]at this;have bC:az c n c=0:=by unfold az crs;grind
 have cb:az z c c=0:=im _ _;rw[bC,cb]at this;have:=(f.p c hc).1;lia
theorem C4{f:P3->Int}{mt:P3->P3->P3}{x:P3}:∀{ps:List P3}{w:P3},x∈cJ f mt ps w->(x∈ps/\0<=f x)∨∃e∈ck (ps.headD w) (ps.tail++[w]),f e.1*f e.2<0/\x=mt e.1 e.2
 | [],_,h=>by cases h
 | p::r,w,h=>by
  have h:x∈kp f p++cI f mt p (r.headD w)++cJ f mt r w:=h;rcases SI.mp h with h|h
  ·rcases SI.mp h with h|h
   ·unfold kp at h;split at h
    ·rename_i z
     rw[S'.mp h];exact .inl ⟨Sv,z⟩
    ·cases h
   ·unfold cI at h;split at h
    ·rename_i z
     refine .inr ⟨(p,r.headD w),?_,z,S'.mp h⟩;cases r<;>exact Sv
    ·cases h
  ·rcases C4 h with⟨aa,ab⟩|⟨e,aa,ab⟩
   ·exact .inl ⟨Sw _ aa,ab⟩
   ·refine .inr ⟨e,?_,ab⟩;cases r with
    | nil=>cases h
    | cons q r=>exact Sw _ aa
theorem C5{f:P3->Int}{mt:P3->P3->P3}{x:P3}{ps:List P3}(h:x∈cr f mt ps):(x∈ps/\0<=f x)∨∃e∈bi ps,f e.1*f e.2<0/\x=mt e.1 e.2:=by
 cases ps with
 | nil=>cases h
 | cons a r =>
  rcases C4 h with h|⟨e,aa,ab⟩
  ·exact .inl h
  ·exact .inr ⟨e,qo.mp aa,ab⟩
theorem par{g u v:P3}(aD:g.1≠0∨g.2.1≠0∨g.2.2≠0)(bM:ln g u=0)(a':ln g v=0)(n:(crs u v).1≠0∨(crs u v).2.1≠0∨(crs u v).2.2≠0):∃a b:Int,a≠0/\b≠0/\sc a (crs u v)=sc b g:=by
 have t:crs g (crs u v)=eO (ln g v) u (-ln g u) v:=mn g u v;rw[bM,a']at t;generalize crs u v=w at *
 have cH:g.2.1*w.2.2-g.2.2*w.2.1=0:=by
  have:=Uf (fun x:P3=>x.1) t;unfold crs eO at this;dsimp only at this;grind
 have cn:g.2.2*w.1-g.1*w.2.2=0:=by
  have:=Uf (fun x:P3=>x.2.1) t;unfold crs eO at this;dsimp only at this;grind
 have fM:g.1*w.2.1-g.2.1*w.1=0:=by
  have:=Uf (fun x:P3=>x.2.2) t;unfold crs eO at this;dsimp only at this;grind
 have k0:∀{x y:Int},x≠0->x*y=0->y=0:=fun h e=>(Tr.mp e).resolve_left h;rcases aD with h|h|h
 ·refine⟨g.1,w.1,h,fun z=>?_,?_⟩
  ·rw[z]at cn fM;have a:=k0 h (show g.1*w.2.2=0 by grind);have b:=k0 h (show g.1*w.2.1=0 by grind);rcases n with n|n|n<;>contradiction
  ·unfold sc;refine i1 ?_ ?_ ?_<;>dsimp only<;>grind
 ·refine⟨g.2.1,w.2.1,h,fun z=>?_,?_⟩
  ·rw[z]at cH fM;have a:=k0 h (show g.2.1*w.2.2=0 by grind);have b:=k0 h (show g.2.1*w.1=0 by grind);rcases n with n|n|n<;>contradiction
  ·unfold sc;refine i1 ?_ ?_ ?_<;>dsimp only<;>grind
 ·refine⟨g.2.2,w.2.2,h,fun z=>?_,?_⟩
  ·rw[z]at cH cn;have a:=k0 h (show g.2.2*w.2.1=0 by grind);have b:=k0 h (show g.2.2*w.1=0 by grind);rcases n with n|n|n<;>contradiction
  ·unfold sc;refine i1 ?_ ?_ ?_<;>dsimp only<;>grind
theorem C6(c:Int)(p q:P3):crs p (sc c q)=sc c (crs p q):=by
 refine i1 ?_ ?_ ?_<;>simp only[crs,sc]<;>grind
theorem Nd{l w g:P3}{a b:Int}(ax:a≠0)(ae:b≠0)(e:sc a w=sc b g)(n:(crs l w).2.2≠0):(crs l g).2.2≠0/\nP (crs l w)=nP (crs l g):=by
 have ag:sc a (crs l w)=sc b (crs l g):=by rw[<-C6,e,C6]
 have aQ:a*(crs l w).2.2=b*(crs l g).2.2:=Uf (fun x:P3=>x.2.2) ag
 have cN:(crs l g).2.2≠0:=fun z=>by
  rw[z,SW]at aQ;rcases Tr.mp aQ with y|y<;>contradiction
 refine⟨cN,?_⟩;obtain⟨c,h1,hc⟩:=np cN;have ao:sc a (crs l w)=sc (b*c) (nP (crs l g)):=by rw[ag,<-Bb,<-hc]
 exact(r7 ax (fun z=>by rcases Tr.mp z with y|y<;>contradiction) (ji cN) ao).2
theorem cy.line{ps:List P3}(r:cy ps){e:P3×P3}(au:e∈bi ps):(crs e.1 e.2).1≠0∨(crs e.1 e.2).2.1≠0∨(crs e.1 e.2).2.2≠0:=by
 obtain⟨x,_,h⟩:=(hj r.t r.l au).2;apply Tn;intro z;have aP:(crs e.1 e.2).1=0:=Tn fun y=>z (.inl y);have bc:(crs e.1 e.2).2.1=0:=Tn fun y=>z (.inr (.inl y));have e5:(crs e.1 e.2).2.2=0:=Tn fun y=>z (.inr (.inr y));have h:0<(crs e.1 e.2).1*x.1+(crs e.1 e.2).2.1*x.2.1+(crs e.1 e.2).2.2*x.2.2:=h;rw[aP,bc,e5]at h;lia
theorem C7:∀(r:List P3)(a w:P3),(a::r).zip (r++[w])=ck a (r++[w])
 | [],a,w=>rfl
 | b::r,a,w=>by
  show(a,b)::(b::r).zip (r++[w])=(a,b)::ck b (r++[w])
  rw[C7 r b w]
def dG(bj:List P3):List (P3×P3):=bj.zip (bj.drop 1++bj.take 1)
theorem ix(bj:List P3):∀e,e∈dG bj↔e∈bi bj:=fun e=>by
 cases bj with
 | nil=>exact⟨fun h=>(by cases h),fun h=>(by cases h)⟩
 | cons a r =>
  show e∈(a::r).zip (r++[a])↔_
  rw[C7];exact qo
theorem xH(bj:List P3):(dG bj).length=bj.length:=by
 unfold dG;rw[TR,SE,TL,TJ];lia
theorem gB.rg{ps:List P3}(h:gB ps)(p:∀x∈ps,bL x):cy ps:=⟨(sx ps).mpr h.tri,h.1,p⟩
def Nf:Option (List P3)->D
 | none=>.non
 | some rs=>.lst (rs.map dP)
end Cut
namespace L3
open PySem L2
section
variable{X:aU}{F:cw}{eR:WP}{pos p:Pos}
def Ng(F:cw)(bC:Int)(u:List aI->Prop->Prop):bb:=fun ρ k=>u ρ (F [.bag,.val (.int bC)] fun r=>c8 r k)
theorem Nh{x:Str}{ps:List Str}{j lv:Nat}{un:List aI->Prop->Prop}{bC:Int}{bT cx}(c:aZ X.prog X.w X.K X.mg X.base x ps j (a0 X.K 2 F))(am:eF lv X.A)(aD:ep X x)(ax:vV X eR un)(h9:j<=lv:=by decide)(hO:(x==("__debug__":Str))=false:=by decide)(au:Tk [eR,.Constant (.int bC) bT cx] X.env=(false,W7 eR X.env)::Tk [.Constant (.int bC) bT cx] X.env:=by rfl)(hX:Tk [.Constant (.int bC) bT cx] X.env=(false,W7 (.Constant (.int bC) bT cx) X.env)::Tk [] X.env:=by rfl)(dV:(W1 pos (Tk [.Constant (.int bC) bT cx] X.env)).any (·.1)=false:=by rfl):
  bn X (.Call (.Name x p) [eR,.Constant (.int bC) bT cx] [] pos) (Ng F bC un):=by
 obtain⟨_,aa,av⟩:=ax;refine⟨_,rA c am aD (eJ aa (eJ gc fH hX) au) h9 hO au dV,fun ρ k h R W B H σ Q e q=>?_⟩;refine av ρ _ h R W B H σ _ e fun a a7 aw aP ag aO bd bH bW c0=>?_;show a0 X.K 2 F ([.ref a,.int bC]++[]) aw Q vu
 rw[SG];refine⟨fun b=>b=a,a7,[.bag,.val (.int bC)],_,aP,rfl,rfl,ag.bh,fun b ae=>by subst ae;exact⟨bH,bW⟩,.bag rfl (.val (.int _) .nil),fun r v cj aV ah ex=>?_⟩;obtain⟨ao,aT⟩:=ag.after2 (fun b ae=>by subst ae;exact⟨bd,c0⟩) ex.wd ex.g;have res:=ex.res;cases r with
 | no=>exact ah.elim
 | bag=>exact ah.elim
 | pin v d=>exact ah.elim
 | deep c=>exact ah.elim
 | val d=>exact q d v cj aV ah ao (aO.trans aT) res
 | new d=>exact q d v cj aV ah ao (aO.trans aT) (b3.mono Ap res)
 | own c =>
  cases c with
  | d _ _ _ _=>exact ah.elim
  | l ds =>
  obtain⟨c,rfl,bT,bP,aG,eN,eC⟩:=res;obtain⟨be,g3⟩:=ao.freeze eN (ag.toWd.fresh bT).1 bP fun i m=>absurd bT (ag.mutOk (show cX σ ρ i c from m)).2;exact q _ _ _ _ ah be ((aO.trans aT).trans g3) (.lst ei (eC.mono g3.s))
end
def s3(e:Cut.P3×Cut.P3):D:=.tup [Cut.dP e.1,Cut.dP e.2]
theorem C8{s:cM}{U:gw}{i j:Nat}(I:List (Cut.P3×Cut.P3)->List aI->Prop):∀{rs done:List (Cut.P3×Cut.P3)}{ρ:List aI},I done ρ ->
  (∀pre e rest ρ,done++rs=pre++e::rest->I pre ρ->∀N:List aI->Prop,(∀c7,I (pre++[e]) c7->N c7)->s { U with nx:=N,ct:=N,bk:=U.nx } ((ρ.set i (.val (Cut.dP e.1))).set j (.val (Cut.dP e.2))))->(∀ρ,I (done++rs) ρ->U.nx ρ) ->
  eY (ot 2 (hG (d6 i) (hG (d6 j) or))) s U (rs.map s3) ρ
 | [],done,ρ,bY,_,ab=>ab ρ (by rw[SG];exact bY)
 | e::rs,done,ρ,bY,aa,ab=>by
  refine⟨_,rfl,rfl,_,_,rfl,_,_,rfl,rfl,aa done e rs ρ rfl bY _ fun c7 am=>?_⟩;have eq:done++e::rs=(done++[e])++rs:=by simp
  rw[eq]at aa ab;exact C8 I am aa ab
end L3
namespace Cut
open PySem L2 L3
open PySem.Builtin.Int (intBits)
theorem Ni{ps:List P3}{e:P3×P3}{es:List (P3×P3)}(h:(f9 e ps).isEmpty=true):cU ps (e::es)=none:=by
 unfold cU;rw[TI h]
theorem Nj{ps:List P3}{e:P3×P3}{es:List (P3×P3)}(h:(f9 e ps).isEmpty=false):cU ps (e::es)=cU (f9 e ps) es:=by
 conv=>lhs;unfold cU
 rw[TT (by rw[h];decide)]
theorem Nk{ps:List P3}{s:P3}(h:∀e∈bi ps,0<=az e.1 e.2 s):wi ps s≠0:=fun z=>by
 by_cases c:∃e∈bi ps,az e.1 e.2 s=0
 ·rw[CZ h c]at z;cases z
 ·have:wi ps s=1:=sT fun e au=>by
   rcases TS (h e au)with a|a
   ·exact a
   ·exact absurd ⟨e,au,a.symm⟩ c
  rw[this]at z;cases z
def f'(p:P3)(x y:Rat):Prop:=bL p/\dF p=x/\dB p=y
theorem C9{a b c d:Int}(ae:0<b)(hd:0<d)(h:(a:Rat)/b=(c:Rat)/d):a*d=c*b:=by
 have kE:=eG ae;have hY:=eG hd;have:(a:Rat)*d=c*b:=by grind
 exact_mod_cast this
theorem f'.eq{p q:P3}{x y:Rat}(h:f' p x y)(g:f' q x y):p=q:=by
 obtain⟨aq,aa,ab⟩:=h;obtain⟨lD,aO,aT⟩:=g;obtain⟨ag,ao,be⟩:=vD aq lD (C9 aq.1 lD.1 (aa.trans aO.symm)) (C9 aq.1 lD.1 (ab.trans aT.symm));exact i1 ag ao be
theorem f'.to{p:P3}{x y kv hC:Rat}(h:f' p x y)(ag:x=kv)(ao:y=hC):f' p kv hC:=by subst ag ao;exact h
theorem C'{a b n:Int}(aH:0<n):f' (du a b n) ((a:Rat)/n) ((b:Rat)/n):=by
 obtain⟨p,ag,ao,_⟩:=nn (a:=a) (b:=b) (S1 aH);have cD:=eG aH;have jo:=eG p.1;have bd:(((du a b n).1:Int):Rat)*n=a*((du a b n).2.2:Int):=by exact_mod_cast ag
 have bH:(((du a b n).2.1:Int):Rat)*n=b*((du a b n).2.2:Int):=by exact_mod_cast ao
 refine⟨p,?_,?_⟩
 ·unfold dF;grind
 ·unfold dB;grind
theorem s4{g p:P3}{a b x y:Rat}(aD:f' g a b)(aq:f' p x y):f' (nP (sld g p)) (x+a) (y+b):=by
 obtain⟨aO,aT,g3⟩:=aD;obtain⟨cx,cg,jp⟩:=aq;have xI:=eG aO.1;have s5:=eG cx.1;refine(C' (a:=(sld g p).1) (b:=(sld g p).2.1) (n:=(sld g p).2.2) (SH cx.1 aO.1)).to ?_ ?_
 ·rw[<-aT,<-cg];unfold dF sld;dsimp only;push_cast;grind
 ·rw[<-g3,<-jp];unfold dB sld;dsimp only;push_cast;grind
theorem Da{p q r:P3}{gt dN nB fZ Db Dc:Rat}(aq:f' p gt dN)(aL:f' q nB fZ)(am:f' r Db Dc):∃k:Rat,0<k/\((az p q r:Int):Rat)=k*((nB-gt)*(Dc-dN)-(fZ-dN)*(Db-gt)):=by
 obtain⟨cx,cg,jp⟩:=aq;obtain⟨aN,a3,cE⟩:=aL;obtain⟨av,aK,d8⟩:=am;have s5:=eG cx.1;have abO:=eG aN.1;have oo:=eG av.1;refine⟨((p.2.2*q.2.2*r.2.2:Int):Rat),?_,?_⟩
 ·have:=SH (SH cx.1 aN.1) av.1;exact_mod_cast this
 ·rw[<-cg,<-jp,<-a3,<-cE,<-aK,<-d8];unfold az crs dF dB;dsimp only;push_cast;grind
end Cut
namespace L2
open PySem PySem.Spec PyProof.Rows PySem.W
section
variable{prog:WF}{w:WU}{A:WV}{E:SC->SL->Prop}{s:SL}{vs:List SC}{R:Nat->Int}{κ:SortKind}
theorem Nl{l:Tl}{Q:List SC->SL->Prop}(ay:s.heap.IsList l vs.toArray)(s6:vs.length<=SZ)(h:∀h':WY,s.heap.objs.size<=h'.objs.size->(∀b o,s.heap.get? b=some o->h'.get? b=some o)->Q vs { s with heap:=h' }):wpAny (UV prog w) A (collect (.ref l)) Q E s:=by
 refine collect_list ay (h _ ?_ fun b o z=>?_) s6
 ·rw[Heap.size_update,size_push'];exact VP _
 ·exact(Heap.SameBut.update _ _ _).extBut b o (S4 (Heap.lt_size z)) (Heap.get?_push_of_some _ z)
end
end L2
namespace L3
open PySem L2
section
variable{K:Su}{u:bb}{w:dk}
def Nm(K:Su)(B:ai)(J:gf)(ds:List D):Prop:=∀(H:ai),cG B H->∀i,(i<ds.length->J.go i H)/\(ds.length<=i->J.stop i H)/\∀x af,i<ds.length->J.yld i H x af->∃q vs es,H q=none/\x=.ref q/\af=upd H q (.tup vs)/\ds[i]?=some (.tup es)/\Reps K B vs es
def Dd(K:Su)(t:bQ)(u:dk):Prop:=∀(ρ:List aI)(k:List D->Prop),u ρ k->∀(R:ai)(W:Tl->Prop)(B H:ai)(σ:St)(Q:gf->ai->Prop),aX K R W B H σ ρ ->
 (∀ds J aF af,k ds->aX K R W aF af σ ρ->bJ R B aF->Nm K aF J ds->Q J af)->t σ H Q
theorem Nn{wi:bQ}{g:eI}{tt:dC}{bI:bN}{eD:ec}{cz:c5}{c':Nat}{js:List Nat}(bY:Dd K wi w)(aD:l6 K g eD)(aR:gx K tt cz)(aa:dR K bI u)(jU:js.Nodup):pB K (pX wi g tt bI c' js) (nj w eD cz u c' js):=by
 intro ρ k h R W B H σ Q e q;refine bY ρ _ h R W B H σ _ e fun ds J a7 aw aP ag aO it=>?_;obtain⟨ay,aP⟩:=aP;intro D e4;obtain⟨bd,bH,bW⟩:=ag.toWd.fresh e4;have mh:∀i,¬cX σ ρ i D:=fun i m=>ag.notNew e4 m rfl;have fh:=ag.within c' jU
 have jV:∀j a,cX (SQ c' none++fu σ js) (SQ c' .no++js.map (gz ρ)) j a->∃j,j∈js/\σ[j]?=some (some (V.ref a))/\ρ[j]?=some aI.bag:=fun j a m=>by
  have a3:=(fh.mutOk m).2;rcases m with⟨bF,z|⟨es,z⟩⟩|⟨c,z,mV⟩
  ·obtain⟨c,bC,cb,_⟩:=fh.bagAt z;rw[bF]at bC;cases bC;rcases cb with cb|cb
   ·exact cb
   ·exact absurd cb a3
  ·obtain⟨c,bC,cb,_⟩:=fh.ownC z;rw[bF]at bC;cases bC;exact absurd cb a3
  ·exact absurd ((fh.deepAt z).2.fr a mV).1 a3
 generalize mi:(fun a=>∃j,j∈js/\σ[j]?=some (some (V.ref a))/\ρ[j]?=some aI.bag)=fj at fh;have jV:∀j a,cX (SQ c' none++fu σ js) (SQ c' .no++js.map (gz ρ)) j a->fj a:=fun j a m=>by rw[<-mi];exact jV j a m
 have e6:∀a,fj a->∃i:Nat,σ[i]?=some (some (.ref a))/\ρ[i]?=some .bag:=fun a z=>by
  rw[<-mi]at z;obtain⟨j,_,z⟩:=z;exact⟨j,z⟩
 have lq:¬fj D:=fun z=>by
  obtain⟨iX,dN,fZ⟩:=e6 D z;exact mh iX (.inl ⟨dN,.inl fZ⟩)
 refine⟨fun i m ik af=>∃aF ys es he,m=ds.length-i/\i<=ds.length/\aX K aw fj aF af ik he/\bJ aw a7 aF/\af D=some (.lst ys)/\aF D=none/\(∀j a,cX ik he j a->fj a)/\ys.length<=i/\Reps K aF ys es/\fP eD cz u (ds.drop i) he fun r=>k (es++r),
  ⟨ds.length,a7,[],[],_,by simp,Ti _,fh.allocH e4 _,bJ.refl _ _,ei,bW,jV,SD _,.nil,by simpa using aP⟩,?_⟩
 rintro i m ik aV ⟨cj,ys,es,he,rfl,aC,ao,aT,aM,ae,wD,KP,cm,bc⟩;obtain⟨cH,cn,fM⟩:=it aV (aT.s.trans ao.bh) i;by_cases c9:i<ds.length
 ·refine .inr ⟨cH c9,fun x af y=>?_⟩;obtain⟨e9,nF,De,oL,rfl,rfl,hd,ba⟩:=fM x af c9 y
  have f1:ds.drop i=.tup De::ds.drop (i+1):=by
   rw[UH c9];rw[S8 c9]at hd;rw[SM hd]
  rw[f1]at bc;have Df:D≠e9:=fun z=>by rw[z,oL]at aM;cases aM
  have Dg:=ao.grow oL (.tup nF);have xJ:=ao.alloc oL (.tup nF);have s7:upd aV e9 (.tup nF) D=some (.lst ys):=by rw[b1 Df];exact aM
  have Dh:upd cj e9 (.tup nF) D=none:=by rw[b1 Df];exact ae
  have xK:=cm.mono Dg.s;have s8:=aT.trans Dg;have Di:b3 K (upd cj e9 (.tup nF)) (.ref e9) (.tup De):=.tup ei (ba.mono s8.s);generalize upd aV e9 (.tup nF)=af at xJ s7;generalize upd cj e9 (.tup nF)=xL at xJ Dh xK s8 Di;refine aD _ he _ bc aw fj xL af ik _ _ xJ Di fun gq fq e5 be gv=>?_;have iY:∀j a,cX fq gq j a->fj a:=fun j a m=>wD j a (gv j a m)
  have nk:∀{gS:ai},bJ af xL gS->gS D=none:=fun{gS} d0=>by
   cases p5:gS D with
   | none=>rfl
   | some o =>
    rcases d0.n D o p5 with z|z
    ·rw[Dh]at z;cases z
    ·rw[s7]at z;cases z
  refine aR gq _ e5 af fj xL af fq _ (be.rebase iY) fun b gS hV fc ci d0=>?_;have wE:hV D=some (.lst ys):=ci.fr D _ s7 lq;cases b with
  | false =>
   rw[TT SP]at fc ⊢;obtain⟨eL,g5⟩:=be.unbase iY ci d0;exact⟨ds.length-(i+1),by lia,gS,ys,es,gq,rfl,c9,eL,s8.trans g5,wE,nk d0,iY,by lia,xK.mono d0.s,fc⟩
  | true =>
   rw[TI rfl]at fc ⊢;refine aa gq _ fc af fj gS hV fq _ ci fun hC v nl dJ jT eL g5 d3=>?_;have lr:=d0.trans g5;have wF:dJ D=some (.lst ys):=eL.fr D _ s7 lq;obtain⟨ls,p6⟩:=be.unbase iY eL lr;refine⟨ys,wF,by lia,ds.length-(i+1),by lia,nl,ys++[v],es++[hC],gq,rfl,c9,ls.scribble e4 (nk lr) (fun j m=>lq (iY j D m)) _,s8.trans p6,ei,nk lr,iY,by rw[SE,TM];lia,(xK.mono lr.s).append (.cons d3 .nil),?_⟩;simpa[SR]using jT
 ·have eq:i=ds.length:=by lia
  subst eq;rw[UI]at bc;obtain⟨ci,d0⟩:=ag.after e6 ao.toWd aT;refine .inl ⟨cn (SD _),q _ D ys cj aV (by simpa[fP]using bc) ci (aO.trans d0) bd ae aM cm mh⟩
def Dj(X:aU)(a6 e:WP)(u:dk):Prop:=∃t,hv X a6 e t/\Dd X.K t u
variable{X:aU}{b6 cA a6:WP}{cB:List WP}{scope:W'}{bm:List (Str×Tl)}{ts fr:List Str}{js:List Nat}{eD:ec}{cz:c5}{pos:Pos}
theorem No(aC:Dj X a6 cA w)(aD:∀C s H ex,iN (cC X (ts++fr) scope bm C s H ex) a6 eD)(gA:∀C s H ex,lu (cC X (ts++fr) scope bm C s H ex) cB cz)(iR:∀C s H ex,bn (cC X (ts++fr) scope bm C s H ex) b6 u)(F:lh X scope bm fr js)(nm:js.Nodup:=by decide)(hc:X.calm=true:=by rfl)(ak:∀v,Wp cA X.env v=pure v:=by intro _;rfl):ib X (.ListComp b6 [⟨a6,cA,cB,0⟩] scope pos) (nj w eD cz u ts.length js):=by
 obtain⟨_,bY,ff⟩:=aC;obtain⟨A6,p7,rg⟩:=oA (K:=X.K) (Xs:=fun a:Tl×SL×ai×List Tl=>cC X (ts++fr) scope bm a.1 a.2.1 a.2.2.1 a.2.2.2) (fun _=>rfl) fun a=>aD a.1 a.2.1 a.2.2.1 a.2.2.2;obtain⟨tt,p8,rt⟩:=oz (K:=X.K) (Xs:=fun a:Tl×SL×ai×List Tl=>cC X (ts++fr) scope bm a.1 a.2.1 a.2.2.1 a.2.2.2) (fun _=>rfl) fun a=>gA a.1 a.2.1 a.2.2.1 a.2.2.2;obtain⟨bI,p9,iQ⟩:=r4 (K:=X.K) (Xs:=fun a:Tl×SL×ai×List Tl=>cC X (ts++fr) scope bm a.1 a.2.1 a.2.2.1 a.2.2.2) (fun _=>rfl) fun a=>iR a.1 a.2.1 a.2.2.1 a.2.2.2;exact⟨_,A1 bY (fun C s H ex=>p7 (C,s,H,ex)) (fun C s H ex=>p8 (C,s,H,ex)) (fun C s H ex=>p9 (C,s,H,ex)) F hc ak,Nn ff rg rt iQ nm⟩
end
end L3
namespace Cut
open PySem L2 L3
def qu(ps:List P3):Prop:=∃a b c,ps=[a,b,c]/\0<az a b c
def qv(t:Bool)(g p:P3):P3:=nP (sld g (if t=true then trn p else p))
end Cut
namespace Cut
open PySem L2 L3
open PySem.Builtin.Int (intBits)
theorem nG{x:Int}:0<(x:Rat)↔0<x:=by exact_mod_cast Iff.rfl
theorem xM{x:Int}:0<=(x:Rat)↔0<=x:=by exact_mod_cast Iff.rfl
theorem Dk{ps:List P3}(h:qu ps):gB ps:=by
 obtain⟨a,b,c,rfl,h⟩:=h;exact ss (sv h)
theorem xN{o p q:P3}(aA:bL o)(aq:bL p)(aL:bL q):(0<=az o p q->0<=ef o p q)/\(0<az o p q->0<ef o p q):=by
 obtain⟨k,l9,e⟩:=Da (p:=o) (q:=p) (r:=q) ⟨aA,rfl,rfl⟩ ⟨aq,rfl,rfl⟩ ⟨aL,rfl,rfl⟩;have t:(dF p-dF o)*(dB q-dB o)-(dB p-dB o)*(dF q-dF o)=ef o p q:=rfl;rw[t]at e;constructor
 ·intro h;have h:=xM.mpr h;rw[e]at h;by_cases z:0<=ef o p q
  ·exact z
  ·have:=Rat.mul_pos l9 (show 0 < -ef o p q by grind);grind
 ·intro h;have h:=nG.mpr h;rw[e]at h;by_cases z:0<ef o p q
  ·exact z
  ·have:=VQ (Ua l9) (show 0 <= -ef o p q by grind);grind
theorem Dl{T:P3->P3->Rat}:∀{es:List (P3×P3)},(∀e∈es,0<=T e.1 e.2)->0<=d1 T es
 | [],_=>by rw[gV];grind
 | e::es,h=>by
  rw[fR];have:=Dl (T:=T) (es:=es) fun x aj=>h x (Sw _ aj);have:=h e Sv;grind
theorem Dm{T:P3->P3->Rat}:∀{es:List (P3×P3)},(∀e∈es,0<=T e.1 e.2)->(∃e∈es,0<T e.1 e.2)->0<d1 T es
 | [],_,h=>by obtain⟨_,z,_⟩:=h;cases z
 | e::es,h,g=>by
  rw[fR];have h':∀x∈es,0<=T x.1 x.2:=fun x aj=>h x (Sw _ aj);have a:=Dl h';obtain⟨x,aj,dI⟩:=g;rcases Sy.mp aj with rfl|aj
  ·grind
  ·have:=Dm h' ⟨x,aj,dI⟩;have:=h e Sv;grind
theorem Np{ps:List P3}(h:gB ps)(aq:∀p∈ps,bL p):0<cP ps:=by
 have f7:=(sx ps).mpr h.tri
 match ps,h.1 with
 | a::b::c::r,_ =>
  rw[<-qq a];have iI:=aq a (by simp);refine Dm (fun e au=>?_) ⟨(b,c),?_,?_⟩
  ·obtain⟨bF,bS⟩:=iq au;refine(xN iI (aq _ bF) (aq _ bS)).1 ?_;rw[<-io];exact(hj f7 h.1 au).1 a (by simp)
  ·show(b,c)∈(_,a)::(a,b)::(b,c)::ck c r
   simp
  ·refine(xN iI (aq b (by simp)) (aq c (by simp))).2 ?_;have:=h.tri 0 1 2 (by decide) (by decide) (by simp);exact this
theorem Nq{ps:List P3}(h:qu ps)(aq:∀p∈ps,bL p):0<cP ps:=Np (Dk h) aq
theorem Nr{x y n:Int}(cD:0<n)(h:x<=y*n):(x:Rat)/n<=y:=by
 have a:(0:Rat)<(n:Rat):=nG.mpr cD;have b:(x:Rat)<=(y:Rat)*n:=by rw[<-SU];exact_mod_cast h
 rw[Rat.div_def];have c:=Us b (Ua (Rat.inv_pos.mpr a));have e:(y:Rat)*n*(n:Rat)⁻¹=y:=by rw[Rat.mul_assoc,Rat.mul_inv_cancel _ (eG cD),Rat.mul_one]
 rw[e]at c;exact c
theorem Nt{x n:Int}(cD:0<n)(h:0<=x):0<=(x:Rat)/n:=by
 rw[Rat.div_def];exact VQ (xM.mpr h) (Ua (Rat.inv_pos.mpr (nG.mpr cD)))
theorem Nu(ps:List P3):(bi ps).length=ps.length:=by
 unfold bi;generalize lz (0,0,1) ps=z;induction ps generalizing z with
 | nil=>rfl
 | cons a r bR=>show(ck a r).length+1=_;rw[bR];rfl
end Cut
namespace L2
open PySem PySem.Spec PyProof.Rows PySem.W
section
variable{X:aU}
theorem Dn{b7:Array (Int×Tok)}{i:Nat}(h:i<b7.size):numAt b7 i∈b7.toList.map (·.1):=by
 unfold numAt;rw[U4 h];exact SJ.mpr ⟨b7[i],Array.getElem_mem_toList h,rfl⟩
theorem Do{b7:Array (Int×Tok)}{n:Int}(h:n∈b7.toList.map (·.1)):∃i,i<b7.size/\numAt b7 i=n:=by
 obtain⟨p,aq,rfl⟩:=SJ.mp h;obtain⟨i,aC,e⟩:=List.mem_iff_getElem.mp aq;have s9:i<b7.size:=by simpa using aC
 refine⟨i,s9,?_⟩;unfold numAt;rw[U4 s9];simp only[Array.getElem_toList]at e;rw[<-e];rfl
theorem Nv(hc:X.calm=true):km X (.builtin "max") (fun xs H Q=>∃(l:Tl)(ns:List Int),xs=[.ref l]/\H l=some (.lst (ns.map V.int))/\ns≠[]/\∀m∈ns,(∀n∈ns,n<=m)->Q (.int m) H):=by
 intro pins s σ H xs aG Q I r h;obtain⟨l,ns,rfl,ay,ne,q⟩:=h;obtain⟨u,rfl,av⟩:=vals1 r;cases av;obtain⟨its,b2,cV,hz⟩:=I.list (cl.of ay);have aC:=intsAre_of b2;obtain⟨b7,aj⟩:=aC.allInts.items;have hB:s.heap.IsList l (intItems b7):=aj▸cV.isList
 have ag:ns=b7.toList.map (·.1):=by
  rw[<-Yl,<-aj];exact(show numsOf its.toArray.toList=ns from aC.numsOf).symm
 have sz:0<b7.size:=by
  cases ns with
  | nil=>exact absurd rfl ne
  | cons a t =>
   have:=Uf Th ag;simp at this;lia
 refine max_intList (I.ok.hd hc) hB sz fun v h' dr a' ah=>?_;obtain⟨t,rfl⟩:=intItems_at a';obtain⟨dw,d4⟩:=argBest_gt (numAt b7) (b7.size-1);refine⟨.int _,H,I.kept ah,⟨_,rfl⟩,q _ ?_ fun n aH=>?_⟩
 ·rw[ag];exact Dn (by lia)
 ·rw[ag]at aH;obtain⟨i,aC,rfl⟩:=Do aH;exact d4 i (by lia)
theorem Nw(hc:X.calm=true):km X (.builtin "min") (fun xs H Q=>∃(l:Tl)(ns:List Int),xs=[.ref l]/\H l=some (.lst (ns.map V.int))/\ns≠[]/\∀m∈ns,(∀n∈ns,m<=n)->Q (.int m) H):=by
 intro pins s σ H xs aG Q I r h;obtain⟨l,ns,rfl,ay,ne,q⟩:=h;obtain⟨u,rfl,av⟩:=vals1 r;cases av;obtain⟨its,b2,cV,hz⟩:=I.list (cl.of ay);have aC:=intsAre_of b2;obtain⟨b7,aj⟩:=aC.allInts.items;have hB:s.heap.IsList l (intItems b7):=aj▸cV.isList
 have ag:ns=b7.toList.map (·.1):=by
  rw[<-Yl,<-aj];exact(show numsOf its.toArray.toList=ns from aC.numsOf).symm
 have sz:0<b7.size:=by
  cases ns with
  | nil=>exact absurd rfl ne
  | cons a t =>
   have:=Uf Th ag;simp at this;lia
 refine min_intList (I.ok.hd hc) hB sz fun v h' dr a' ah=>?_;obtain⟨t,rfl⟩:=intItems_at a';obtain⟨dw,d4⟩:=argBest_lt (numAt b7) (b7.size-1);refine⟨.int _,H,I.kept ah,⟨_,rfl⟩,q _ ?_ fun n aH=>?_⟩
 ·rw[ag];exact Dn (by lia)
 ·rw[ag]at aH;obtain⟨i,aC,rfl⟩:=Do aH;exact d4 i (by lia)
end
end L2
namespace L3
open PySem L2
def Nx(u:bb):bb:=fun ρ k=>u ρ fun x=>∃ns:List Int,x=.lst (ns.map .int)/\ns≠[]/\∀m∈ns,(∀n∈ns,n<=m)->k (.int m)
def Ny(u:bb):bb:=fun ρ k=>u ρ fun x=>∃ns:List Int,x=.lst (ns.map .int)/\ns≠[]/\∀m∈ns,(∀n∈ns,m<=n)->k (.int m)
section
variable{X:aU}{e:WP}{u:bb}{pos p:Pos}
theorem qw(ax:bn X e u)(hc:X.calm=true)(aD:ep X "max")(aB:X.mg "max"=none)(ak:Tk [e] X.env=(false,W7 e X.env)::Tk [] X.env:=by rfl):bn X (.Call (.Name "max" p) [e] [] pos) (Nx u):=by
 obtain⟨_,aa,av⟩:=ax;refine⟨_,mP (Nv hc) aD aB (by decide +kernel) (eJ aa fH ak) (by decide) (by decide) ak,oq (f:=fun x k=>∃ns:List Int,x=.lst (ns.map .int)/\ns≠[]/\∀m∈ns,(∀n∈ns,n<=m)->k (.int m)) av fun x k h R W B H σ ρ v Q e ba q=>?_⟩;obtain⟨ns,rfl,ne,ah⟩:=h;obtain⟨a,vs,rfl,ax,rs⟩:=ba.lstV;cases rQ rs;exact⟨a,ns,rfl,e.bh _ _ ax,ne,fun m aa ab=>q _ _ B H (ah m aa ab) e (bJ.refl _ _) (.int _)⟩
theorem td(ax:bn X e u)(hc:X.calm=true)(aD:ep X "min")(aB:X.mg "min"=none)(ak:Tk [e] X.env=(false,W7 e X.env)::Tk [] X.env:=by rfl):bn X (.Call (.Name "min" p) [e] [] pos) (Ny u):=by
 obtain⟨_,aa,av⟩:=ax;refine⟨_,mP (Nw hc) aD aB (by decide +kernel) (eJ aa fH ak) (by decide) (by decide) ak,oq (f:=fun x k=>∃ns:List Int,x=.lst (ns.map .int)/\ns≠[]/\∀m∈ns,(∀n∈ns,m<=n)->k (.int m)) av fun x k h R W B H σ ρ v Q e ba q=>?_⟩;obtain⟨ns,rfl,ne,ah⟩:=h;obtain⟨a,vs,rfl,ax,rs⟩:=ba.lstV;cases rQ rs;exact⟨a,ns,rfl,e.bh _ _ ax,ne,fun m aa ab=>q _ _ B H (ah m aa ab) e (bJ.refl _ _) (.int _)⟩
end
end L3
namespace Cut
open PySem L2 L3
open PySem.Builtin.Int (intBits)
theorem Dp(p:P3):dF (trn p) = -dF p/\dB (trn p) = -dB p:=by
 constructor
 ·show(((-p.1:Int):Rat))/(p.2.2:Rat) = -((p.1:Rat)/p.2.2)
  rw[Rat.intCast_neg];grind
 ·show(((-p.2.1:Int):Rat))/(p.2.2:Rat) = -((p.2.1:Rat)/p.2.2)
  rw[Rat.intCast_neg];grind
theorem Dq:∀{z:P3}{r:List P3}{f:P3×P3},f∈ck z r->[f.1,f.2].Sublist (z::r)
 | _,[],_,h=>by cases h
 | z,a::r,f,h=>by
  rcases Sy.mp h with rfl|h
  ·exact .cons_cons _ (.cons_cons _ (List.nil_sublist _))
  ·exact .cons _ (Dq h)
theorem Dr{o p q:P3}(aA:bL o)(aq:bL p)(aL:bL q):0<az o p q↔0<ef o p q:=by
 obtain⟨k,l9,e⟩:=Da (p:=o) (q:=p) (r:=q) ⟨aA,rfl,rfl⟩ ⟨aq,rfl,rfl⟩ ⟨aL,rfl,rfl⟩;have t:(dF p-dF o)*(dB q-dB o)-(dB p-dB o)*(dF q-dF o)=ef o p q:=rfl;rw[t]at e;refine⟨(xN aA aq aL).2,fun h=>?_⟩;have:=Rat.mul_pos l9 h;rw[<-e]at this;exact nG.mp this
def fC(D:Int)(x:Rat):Prop:=∃k:Int,x*D=k
theorem fC.add{D:Int}{x y:Rat}(h:fC D x)(g:fC D y):fC D (x+y):=by
 obtain⟨a,ax⟩:=h;obtain⟨b,ae⟩:=g;exact⟨a+b,by rw[TP];grind⟩
theorem fC.sub{D:Int}{x y:Rat}(h:fC D x)(g:fC D y):fC D (x-y):=by
 obtain⟨a,ax⟩:=h;obtain⟨b,ae⟩:=g;exact⟨a-b,by rw[Rat.intCast_sub];grind⟩
theorem fC.mul{D:Int}{x y:Rat}(h:fC D x)(g:fC D y):fC (D*D) (x*y):=by
 obtain⟨a,ax⟩:=h;obtain⟨b,ae⟩:=g;exact⟨a*b,by rw[SU,SU,<-ax,<-ae];grind⟩
def qx(D:Int)(p:P3):Prop:=fC D (dF p)/\fC D (dB p)
theorem Ds{D n a:Int}(cD:0<n)(h:n∣D):fC D ((a:Rat)/n):=by
 obtain⟨k,rfl⟩:=h;have:=eG cD;exact⟨a*k,by rw[SU,SU];grind⟩
theorem xO{D:Int}{p:P3}(aq:bL p)(h:p.2.2∣D):qx D p:=⟨Ds aq.1 h,Ds aq.1 h⟩
theorem Nz{D:Int}{ps:List P3}(h:∀p∈ps,qx D p):fC (D*D) (cP ps):=by
 unfold cP
 have:∀es:List (P3×P3),(∀e∈es,qx D e.1/\qx D e.2)->fC (D*D) (d1 gW es):=fun es=>by
  induction es with
  | nil=>intro _;rw[gV];exact⟨0,by show(0:Rat)*_=0;grind⟩
  | cons e es bR =>
   intro h;obtain⟨aa,ab⟩:=h e Sv;rw[fR];refine fC.add ?_ (bR fun x aj=>h x (Sw _ aj));unfold gW;exact(aa.1.mul ab.2).sub (by first|exact ab.1.mul aa.2|exact aa.2.mul ab.1)
 exact this _ fun e au=>by obtain⟨a,b⟩:=iq au;exact⟨h _ a,h _ b⟩
theorem NA{N:Int}{p:P3}(aq:bL p)(bY:p.2.1=0)(h:fC N (hk p)):p.2.2∣N:=by
 obtain⟨k,ah⟩:=h;have z:=eG aq.1;unfold hk at ah;have e:(p.1:Rat)*N=k*p.2.2:=by grind
 have e:p.1*N=k*p.2.2:=by exact_mod_cast e
 have g:=aq.2;rw[bY]at g
 have aO:Sx p.1 p.2.2=1:=by
  rw[<-g];show Tc _ _=Tc (Tc _ _) _
  simp
 have d:p.2.2∣N*p.1:=⟨k,by rw[SX N,e,SX]⟩;have d:=TN.mpr d;rw[TC]at d;have c:Nat.Coprime p.2.2.natAbs p.1.natAbs:=by rw[Nat.coprime_comm];exact aO
 exact TN.mp (Nat.Coprime.dvd_of_dvd_mul_right c d)
theorem NB{n N:Int}{m:Nat}(cD:0<n)(gT:0<N)(h:n∣N)(b:TE N<=m):TE n<=m:=by
 have:=VR gT h;rw[intBits_le_iff]at b ⊢;lia
theorem NC{p:P3}{N:Int}{m:Nat}(aq:bL p)(gT:0<N)(h:p.2.2∣N)(b:TE N<=m)(v : -1024<=hk p/\hk p<=1024):TE p.1<=m+11:=by
 have z:=eG aq.1;have jl:=nG.mpr aq.1;have iw:=VR gT h;unfold hk at v;have e:(p.1:Rat)=(p.1:Rat)/p.2.2*p.2.2:=by grind
 have v1:=Us v.1 (Ua jl);have v2:=Us v.2 (Ua jl);rw[<-e]at v1 v2
 have gd:(-1024)*p.2.2<=p.1:=by
  have e:((-1024*p.2.2:Int):Rat) = -1024*(p.2.2:Rat):=by rw[SU];rfl
  rw[<-e]at v1;exact Rat.intCast_le_intCast.mp v1
 have h5:p.1<=1024*p.2.2:=by exact_mod_cast v2
 rw[intBits_le_iff]at b ⊢;have:2^(m+11)=2^m*2048:=by rw[Nat.pow_add]
 lia
def te(p q:P3):P3:=du (p.1*q.2.2+q.1*p.2.2) 0 (p.2.2*q.2.2)
theorem ND{p q:P3}(aq:bL p)(aL:bL q):bL (te p q)/\(te p q).2.1=0/\hk (te p q)=hk p+hk q:=by
 obtain⟨a,b,c⟩:=CW (a:=p.1*q.2.2+q.1*p.2.2) (n:=p.2.2*q.2.2) (SH aq.1 aL.1);refine⟨a,b,?_⟩;unfold te;rw[c,TP,SU,SU,SU];have:=eG aq.1;have:=eG aL.1;unfold hk;grind
theorem NE{p q:P3}(aq:bL p)(aL:bL q)(jo:p.2.1=0)(e9:q.2.1=0)(h:hk p=hk q):p=q:=by
 refine f'.eq (x:=dF p) (y:=dB p) ⟨aq,rfl,rfl⟩ ⟨aL,h.symm,?_⟩;unfold dB;rw[jo,e9];have h1:((0:Int):Rat)=0:=rfl;rw[h1];have:=eG aq.1;have:=eG aL.1;grind
end Cut
namespace L3
open PySem L2
section
variable{X:aU}{e:WP}{es:List WP}{w:dk}{u g2 fX:bb}{p pos:Pos}{n:Nat}{abP abQ:cw}
theorem Reps.dropLast{K:Su}{B:ai}:∀{vs:List V}{ds:List D},Reps K B vs ds->Reps K B vs.dropLast ds.dropLast
 | _,_,.nil=>.nil
 | _,_,.cons r .nil=>.nil
 | _,_,.cons r (.cons aK t)=>.cons r (Reps.dropLast (.cons aK t))
end
end L3
namespace Cut
open PySem L2 L3
open PySem.Builtin.Int (intBits)
theorem NF{l a b c:P3}(ay:l.1≠0∨l.2.1≠0)(ax:ln l a=0)(ae:ln l b=0)(hc:ln l c=0)(kI:0<c.2.2):az a b c=0:=by
 have ag:l.1*az a b c=0:=by
  unfold ln at ax ae hc;unfold az crs;grind
 have ao:l.2.1*az a b c=0:=by
  unfold ln at ax ae hc;unfold az crs;grind
 rcases ay with h|h
 ·exact(Tr.mp ag).resolve_left h
 ·exact(Tr.mp ao).resolve_left h
theorem NG{l:P3}{bj:List P3}(ay:l.1≠0∨l.2.1≠0)(t:T0 bj)(aq:∀p∈bj,0<p.2.2):(bj.filter fun x=>decide (ln l x=0)).length<=2:=by
 have cn:=t.sub (List.filter_sublist (p:=fun x=>decide (ln l x=0)))
 have z:∀x∈bj.filter fun x=>decide (ln l x=0),ln l x=0/\0<x.2.2:=fun x aj=>by
  have:=Tw.mp aj;exact⟨by simpa using this.2,aq x this.1⟩
 match h:bj.filter fun x=>decide (ln l x=0),cn,z with
 | [],_,_=>simp
 | [_],_,_=>simp
 | [_,_],_,_=>simp
 | a::b::c::r,cn,z =>
  exfalso
  have:=cn.1.1 c (by simp);have e:=NF ay (z a (by simp)).1 (z b (by simp)).1 (z c (by simp)).1 (z c (by simp)).2;lia
def pos(f:P3->Int)(ps:List P3):Nat:=(ps.filter fun x=>decide (0<f x)).length
theorem Dt{f:P3->Int}{mt:P3->P3->P3}(aB:∀p q,f p*f q<0->f (mt p q)=0):∀(ps:List P3)(w:P3),pos f (cJ f mt ps w)<=pos f ps
 | [],_=>SD _
 | p::r,w=>by
  have bR:=Dt aB r w;show pos f (kp f p++cI f mt p (r.headD w)++cJ f mt r w)<=_
  unfold pos at bR ⊢;rw[UN,UN,SE,SE]
  have aa:((kp f p).filter fun x=>decide (0<f x)).length=if 0<f p then 1 else 0:=by
   unfold kp;by_cases z:0<f p
   ·rw[TI (by lia),TI z];simp[z]
   ·rw[TT z];by_cases y:0<=f p
    ·rw[TI y];simp[z]
    ·rw[TT y];rfl
  have ab:((cI f mt p (r.headD w)).filter fun x=>decide (0<f x)).length=0:=by
   unfold cI;by_cases z:f p*f (r.headD w)<0
   ·rw[TI z,TG,TT (by rw[aB _ _ z];decide)];rfl
   ·rw[TT z];rfl
  rw[aa,ab,TG];by_cases z:0<f p
  ·rw[TI z,TI (by simpa using z),SO];lia
  ·rw[TT z,TT (by simpa using z)];lia
theorem xP{l:P3}{mt:P3->P3->P3}{ps:List P3}(cO:hi l mt)(ay:l.1≠0∨l.2.1≠0)(t:T0 (cr (ln l) mt ps))(aq:∀p∈cr (ln l) mt ps,0<p.2.2):(cr (ln l) mt ps).length<=ps.length+1:=by
 have bc:=NG ay t aq;have abR:pos (ln l) (cr (ln l) mt ps)<=pos (ln l) ps:=Dt (fun p q h=>(cO p q h).2) ps _
 have NH:∀bj:List P3,(∀x∈bj,0<=ln l x)->bj.length=pos (ln l) bj+(bj.filter fun x=>decide (ln l x=0)).length:=by
  intro bj;induction bj with
  | nil=>intro _;rfl
  | cons q bj bR =>
   intro h;have i:=bR fun x aj=>h x (Sw _ aj);have e9:=h q Sv;unfold pos at i ⊢;rw[TG,TG];by_cases z:ln l q=0
   ·rw[TT (by simp[z]),TI (by simp[z]),SO,SO];lia
   ·rw[TI (by simp;lia),TT (by simp[z]),SO,SO];lia
 have NI:∀x∈cr (ln l) mt ps,0<=ln l x:=fun x aj=>by
  rcases oK aj with⟨_,h⟩|⟨p,_,q,_,h,rfl⟩
  ·exact h
  ·have:=(cO p q h).2;lia
 have e:=NH _ NI;have iw:pos (ln l) ps<=ps.length:=T' _ _;by_cases all:pos (ln l) ps=ps.length
 ·-- all at abS left: nothing is cut
  have ap:∀x∈ps,0<ln l x:=fun x aj=>by
   have:=List.length_filter_eq_length_iff.mp all x aj;simpa using this
  have NJ:(cr (ln l) mt ps).filter (fun x=>decide (ln l x=0))=[]:=by
   rw[Ww];intro x aj;rcases oK aj with⟨h,_⟩|⟨p,aa,q,ab,h,rfl⟩
   ·have:=ap x h;simp;lia
   ·have a:=ap p aa;have b:=ap q ab;have:=SH a b;lia
  rw[NJ]at e;simp at e;lia
 ·lia
end Cut
namespace L2
open PySem PySem.Spec PyProof.Rows PySem.W L3
section
variable{X:aU}{pins:List (Tl×Obj)}{σ:St}{H:ai}{s:SL}{h':WY}
theorem Inv.turnedL{t':Nat}{fs:List Tl}(I:Inv X pins σ H s)(k:∀b o,b∉fs->s.heap.get? b=some o->h'.get? b=some o)(f:∀b∈fs,eV X pins H b):Inv X pins σ H { s with heap:=h',toks:=t' }:=by
 have ke:∀b u,H b=some u->b∉fs:=fun b u q m=>by rw[(f b m).1]at q;cases q
 refine I.step (g':=s.gens) (d':=s.drawn) (ch:=fs) (fun b ae=>?_) (fun b o _ _ hc q _=>k b o hc q) (fun b o _ _ hc q _=>⟨o.slots,k b o hc q⟩) (fun _ _ _ _ n=>n)
  (fun b o hc q=>⟨o,k b o hc q⟩) (fun _ _ e=>e) (fun _ _ _ e=>e) (fun b ps q=>⟨#[],by rw[q];simp⟩) (fun m aB=>?_) (fun b u q=>?_) I.bare
 ·obtain⟨hK,bo,bu,kF,qk,xj⟩:=f b ae;exact⟨kF,bo,qk,xj⟩
 ·obtain⟨o,es,c3,aA,r⟩:=aB;refine⟨o,es,c3,k _ o (fun m=>?_) aA,r⟩;obtain⟨_,bo,_⟩:=f _ m;exact bo rfl
 ·refine(I.hok b u q).stay (fun c v hc y=>k c v ?_ y) (fun _ q=>q) (fun _ _ q=>q) fun _ _ _ q=>q;rcases hc with z|z
  ·rw[z];exact ke b u q
  ·exact ke c _ z
end
def Du(K:Su)(a b:Tl):gf :=
 ⟨fun i H=>∃xs ys x y,cl K H a xs/\cl K H b ys/\xs[i]?=some x/\ys[i]?=some y,fun i H v af=>∃p x y,H p=none/\v=.ref p/\af=upd H p (.tup [x,y])/\(∀xs,cl K H a xs->xs[i]?=some x)/\∀ys,cl K H b ys->ys[i]?=some y,fun i H=>∃xs ys,cl K H a xs/\cl K H b ys/\(xs.length<=i∨ys.length<=i)⟩
theorem NK{P:WF}{w:WU}{K:Su}{jn:List WP}{k:Nat}{pos:Pos}{a b z bQ b4 bo bu:Tl}(D:Xr z bQ b4 bo bu a b):mL P w K (.Tuple jn k pos) (Du K a b) [z,bQ,b4,bo,bu] z (fun i h=>IsZip h z bQ b4 .none/\XU h bQ (.ref bo) (.ref bu)/\(∃x y,XU h b4 x y)/\h.IsListIter bo a i/\h.IsListIter bu b i) where
 mem:=by simp
 obj:=fun i h st c hc=>by
  obtain⟨aE,a4,⟨x,y,a8⟩,⟨Dv,eW,_,sF⟩,⟨Dw,d3,_,d5⟩⟩:=st;simp only[Sy,Tj,or_false]at hc;rcases hc with rfl|rfl|rfl|rfl|rfl
  ·exact⟨_,aE,fun v q=>by cases q⟩
  ·exact⟨_,a4,fun v q=>by cases q⟩
  ·exact⟨_,a8,fun v q=>by cases q⟩
  ·exact⟨Dv,eW,fun v q=>by rw[sF]at q;cases q⟩
  ·exact⟨Dw,d3,fun v q=>by rw[d5]at q;cases q⟩
 keep:=fun i h h' st kp=>by
  obtain⟨aE,a4,⟨x,y,a8⟩,eW,d3⟩:=st;exact⟨kp z (by simp) _ aE,kp bQ (by simp) _ a4,⟨x,y,kp b4 (by simp) _ a8⟩,eW.at fun o q=>kp bo (by simp) o q,d3.at fun o q=>kp bu (by simp) o q⟩
 item:=by
  intro X da hw cF hc i pins s σ H E I bG st aD;subst da hw cF;obtain⟨xs,ys,x,y,tg,th,aj,aM⟩:=aD;obtain⟨aE,a4,⟨dI,y0,a8⟩,eW,d3⟩:=st;obtain⟨its,b2,p,_⟩:=I.list tg;obtain⟨e3,pQ,cg,_⟩:=I.list th;obtain⟨u,bM,gr⟩:=b2.get aj;obtain⟨fX,NL,NM⟩:=pQ.get aM;refine XW D aE a4 a8 eW d3 p.isList cg.isList (x:=u) (y:=fX) (by simpa using bM) (by simpa using NL) fun aa aN a3 cE e8 lE zA kp=>⟨_,rfl,wpAny_letOwnedTupleGo_zip aN fun ab hX dj=>?_⟩
  have lt:∀c∈[z,bQ,b4,bo,bu],c≠s.heap.objs.size:=fun c hM e=>by
   subst e;simp only[Sy,Tj,or_false]at hM;obtain⟨Dv,d0,_⟩:=id eW;obtain⟨Dw,g5,_⟩:=id d3;rcases hM with e|e|e|e|e
   ·exact absurd (Heap.lt_size aE) (by rw[<-e];exact S6 _)
   ·exact absurd (Heap.lt_size a4) (by rw[<-e];exact S6 _)
   ·exact absurd (Heap.lt_size a8) (by rw[<-e];exact S6 _)
   ·exact absurd (Heap.lt_size d0) (by rw[<-e];exact S6 _)
   ·exact absurd (Heap.lt_size g5) (by rw[<-e];exact S6 _)
  have xk:Inv X pins σ (upd H s.heap.objs.size (.tup [x,y])) { s with heap:=s.heap.push { cls:=.type "tuple",data:=.seq #[u,fX] } }:=
   I.laid (t':=s.toks) (fun _ _ q=>Heap.get?_push_of_some _ q) (SD _) ⟨by show 2<=SZ;decide,[u,fX],.cons gr (.cons NM .nil),⟨_,Heap.get?_push_size _ rfl,rfl,_,rfl⟩⟩
  have hg:∀c∈[z,bQ,b4,bo,bu],eV X pins (upd H s.heap.objs.size (.tup [x,y])) c:=fun c hM=>⟨by rw[b1 (lt c hM)];exact(bG c hM).1,(bG c hM).2⟩
  have a2:=xk.turnedL (h':=ab) (t':=s.toks) (fs:=[z,bQ,b4,bo,bu]) (fun c o n q=>by
   simp only[Sy,Tj,or_false,not_or]at n;obtain⟨cv,cN,gK,sR,oT⟩:=n;rw[dj.2 c cv];by_cases e:c=s.heap.objs.size
   ·subst e;rw[Heap.get?_push_size _ rfl]at q;rw[<-q];exact lE
   ·refine kp c o cv gK sR oT ?_;rw[<-q]
    exact(Heap.get?_push_ne s.heap c _ e).symm) hg
  have hu:XU ab bQ (.ref bo) (.ref bu):=(dj.2 bQ D.TIz).trans (kp bQ _ D.TIz D.TITO D.TIi1 D.TIi2 a4);refine⟨.ref s.heap.objs.size,_,a2,rfl,⟨s.heap.objs.size,x,y,I.fresh,rfl,rfl,fun di hz=>by rw[I.list_inj hz tg];exact aj,fun di hz=>by rw[I.list_inj hz th];exact aM⟩,⟨hX,hu,⟨_,_,(dj.2 b4 D.TOz).trans a3⟩,cE.at fun o q=>(dj.2 bo D.i1z).trans q,e8.at fun o q=>(dj.2 bu D.i2z).trans q⟩,fun c hM=>(hg c hM).1⟩
 done:=by
  intro X da hw cF hc i pins s σ H E I bG st aD;subst da hw cF;obtain⟨xs,ys,tg,th,ay⟩:=aD;obtain⟨aE,a4,⟨dI,y0,a8⟩,eW,d3⟩:=st;obtain⟨its,b2,p,_⟩:=I.list tg;obtain⟨e3,pQ,cg,_⟩:=I.list th;have bZ:=b2.length;have b0:=pQ.length;refine X1 (I.ok.hd hc) D aE a4 a8 eW d3 p.isList cg.isList (ay.imp (fun q=>by simp;lia) (fun q=>by simp;lia)) fun h' kp=>⟨rfl,I.turnedL (t':=s.toks) (fs:=[z,bQ,b4,bo,bu]) (fun c o n q=>?_) bG⟩;simp only[Sy,Tj,or_false,not_or]at n;obtain⟨cv,cN,gK,sR,oT⟩:=n;exact kp c o cv gK sR oT q
 self:=fun _ _ _ _ _ st h=>XH st.1 h
def NN(K:Su)(ta:eE):bQ:=fun σ H R=>ta σ H fun vs aw=>∃a b,vs=[.ref a,.ref b]/\(∃xs,cl K aw a xs)/\(∃ys,cl K aw b ys)/\R (Du K a b) aw
theorem NO{X:aU}{jn:List WP}{k:Nat}{tp:Pos}{ag ao:WP}{ta:eE}{p pos:Pos}(aD:ep X "zip")(aB:X.mg "zip"=none)(ax:gG X [ag,ao] ta)(hX:Tk [ag,ao] X.env=(false,W7 ag X.env)::Tk [ao] X.env:=by rfl)(dV:(W1 pos (Tk [ao] X.env)).any (·.1)=false:=by rfl):hv X (.Tuple jn k tp) (.Call (.Name "zip" p) [ag,ao] [] pos) (NN X.K ta):=by
 intro pins s σ H R I h;refine WZ (kX (u:=.type "zip") I aD aB (by decide +kernel) ?_);refine Ui (b9 (ax pos pins s σ H _ I h) fun aG aE ⟨vs,aw,a2,av,aN⟩=>?_) hX dV;obtain⟨a,b,rfl,⟨xs,ft⟩,⟨ys,jd⟩,q⟩:=aN;obtain⟨u,v,rfl,gr,b2⟩:=vals2 av;cases gr;cases b2;obtain⟨its,_,cx,_⟩:=a2.list ft;obtain⟨e3,_,cg,_⟩:=a2.list jd;have sf:a<aE.heap.objs.size:=by obtain⟨o,aA,_⟩:=cx.isList;exact Heap.lt_size aA
 have lb:b<aE.heap.objs.size:=by obtain⟨o,aA,_⟩:=cg.isList;exact Heap.lt_size aA
 refine call_zip_2 cx.isList cg.isList fun aa c6 dt hJ il jZ lw bT=>XH c6 ?_;refine⟨aE.heap.objs.size+4,[aE.heap.objs.size+4,aE.heap.objs.size+2,aE.heap.objs.size+3,aE.heap.objs.size,aE.heap.objs.size+1],_,_,aw,rfl,a2.kept (t':=aE.toks) bT,NK (Bt sf lb),⟨c6,dt,⟨_,_,hJ⟩,il,jZ⟩,fun c hc=>?_,q⟩
 have iw:aE.heap.objs.size<=c:=by
  simp only[Sy,Tj,or_false]at hc;rcases hc with rfl|rfl|rfl|rfl|rfl
  ·exact Un _ _
  ·exact Un _ _
  ·exact Un _ _
  ·exact SD _
  ·exact Un _ _
 exact a2.fpOk iw (a2.hok.fresh iw)
end L2
namespace L3
open PySem L2
section
variable{X:aU}{bw bA:bb}{p pos:Pos}
theorem NP{tp:Pos}{jn:List WP}{aW:Nat}{ag ao:WP}(ax:bn X ag bw)(ae:bn X ao bA)(aD:ep X "zip")(aB:X.mg "zip"=none)(hX:Tk [ag,ao] X.env=(false,W7 ag X.env)::Tk [ao] X.env:=by rfl)(wU:Tk [ao] X.env=(false,W7 ao X.env)::Tk [] X.env:=by rfl)(dV:(W1 pos (Tk [ao] X.env)).any (·.1)=false:=by rfl):Dj X (.Tuple jn aW tp) (.Call (.Name "zip" p) [ag,ao] [] pos) (By bw bA):=by
 obtain⟨_,aa,av⟩:=ax;obtain⟨_,ab,aK⟩:=ae;refine⟨_,NO aD aB (eJ aa (eJ ab fH wU) hX) hX dV,fun ρ k h R W B H σ Q e q=>?_⟩;refine av ρ _ h R W B H σ _ e fun d v a7 aw aP ag aO aE=>?_;refine aK ρ _ aP R W a7 aw σ _ ag fun fv v2 cj aV bc ao aT a4=>?_;obtain⟨ds,es,rfl,rfl,z⟩:=bc;obtain⟨a,vs,rfl,ft,Dx⟩:=(aE.mono aT.s).lstV;obtain⟨b,b7,rfl,jd,Dy⟩:=a4.lstV;refine⟨a,b,rfl,⟨vs,cl.of (ao.bh _ _ ft)⟩,⟨b7,cl.of (ao.bh _ _ jd)⟩,q _ _ cj aV z ao (aO.trans aT) fun af Dz i=>?_⟩;have xQ:=cl.of (K:=X.K) (Dz _ _ ft);have xR:=cl.of (K:=X.K) (Dz _ _ jd);have sf:=Dx.length;have lb:=Dy.length;rw[Sz,TR];refine⟨fun aC=>?_,fun aC=>⟨vs,b7,xQ,xR,by lia⟩,fun x ca aC y=>?_⟩
 ·exact⟨vs,b7,vs[i],b7[i],xQ,xR,S8 (by lia),S8 (by lia)⟩
 ·obtain⟨jo,gt,dN,aq,rfl,rfl,aj,aM⟩:=y;obtain⟨d,hd,jQ⟩:=Dx.getV (aj vs xQ);obtain⟨fv,hd2,vY⟩:=Dy.getV (aM b7 xR);refine⟨jo,_,[d,fv],aq,rfl,rfl,?_,.cons jQ (.cons vY .nil)⟩;rw[S7,Wl (z:=(d,fv)) |>.mpr ⟨hd,hd2⟩];rfl
end
end L3
namespace L2
open PySem PySem.Spec PyProof.Rows PySem.W
def kJ:d7:=.ext fun _=>True
theorem xS{P:WF}{w:WU}{H:ai}{h:WY}{a:Tl}{o:Obj}(e:h.get? a=some o):fV P w H h a (.frz o kJ):=⟨e,trivial,⟨o,e⟩,fun _ _ _ _=>trivial⟩
def oU(K:YD)(mg:Str->Option SC)(cdv:SC)(q:Str):Prop :=
 ∃c P,cdv=.ref c/\(P,q)∈uQ K/\TW≠P/\(∀h,K.In h->CodeHd h c P)/\∀h,K.In h->h.BuiltinsAt mg P
def oV(H:ai)(f:Tl)(qual:Str)(params:Xc)(body:WP)(scope:W')(clos:List (Str×Tl)):Prop :=
 ∃pm c ga oc u vs t,H f=some (.frz (YK "<lambda>" qual params body scope clos pm c ga) kJ)/\H c=some (.frz oc u)/\oc.data=.fields vs/\vs[1]?=some (.str qual t)
theorem NQ{pos p:Pos}{c hL:SC}:∀(l:List SC),TriplesOk l->XM pos (l++[XQ p.line,XQ p.col,c])=some hL->XM pos l=some hL∨hL=c:=fun l=>by
 fun_induction TriplesOk l with
 | case1 =>
  intro _ h;simp only[Tz,XM,XQ]at h;split at h
  ·exact .inr (SM h).symm
  ·cases h
 | case2 a t b u x rest bR =>
  intro h e;simp only[Ur,XM]at e ⊢;split at e
  ·rename_i hc;rw[TI hc];exact .inl e
  ·rename_i hc;rw[TT hc];exact bR h e
 | case3 l aa ab=>intro h;exact h.elim
section
variable{X:aU}{params:Xc}{body:WP}{scope:W'}{pos:Pos}{clos:List (Str×Tl)}
theorem NR(LT:oU X.K X.mg X.env.code (X.env.qual++"<lambda>"))(qy:defaultsOf params X.env=([],[]))(gQ:Yu scope X.env=pure clos){pins:List (Tl×Obj)}{s:SL}{σ:St}{H:ai}{Q:cc}(I:Inv X pins σ H s)(h:∀(f:Tl) (af:ai),(∀b o,H b=some o->af b=some o)->(∀b,af b=none->H b=none)->oV af f (X.env.qual++"<lambda>") params body scope clos->Q (.ref f) af):
  wpAny (UV X.prog X.w) X.A (W7 (.Lambda params body scope pos) X.env) (fp X pins σ Q) X.xe s:=by
 obtain⟨c,P,qz,aB,NS,hd,ae⟩:=LT;obtain⟨ps,t,oW,dW⟩:=I.tabs _ aB;obtain⟨bj,da,kb,good⟩:=I.hok P _ oW;have C:=hd _ I.kIn;have G:s.heap.Ns TW X.mg:=I.mod.glob.keeps I.bk;have DA:=ae _ I.kIn;refine kla_eval qy ?_;cases hc:XM pos bj.toList with
 | some hL =>
  obtain⟨cu,oc,u,vs,fW,cH,cn,rfl,ag,ao,be,ci⟩:=good pos hL hc
  have eq:fW=X.env.qual++"<lambda>":=by
   rw[dW]at ci;have:=SM ci;injection this with z _
   exact z.symm
  subst eq;refine kla_makeFunctionHit gQ I.ok.glob G qz C da kb hc DA fun ga h' dr kp sz=>?_;have fr:H h'.objs.size=none:=I.hok.fresh sz;have dg:=I.laid (t':=dr) (a:=h'.objs.size) (o:=.frz (YK "<lambda>" (X.env.qual++"<lambda>") params body scope clos ((X.mg "__name__").getD .none) cu ga) kJ) (h':=h'.push (YK "<lambda>" (X.env.qual++"<lambda>") params body scope clos ((X.mg "__name__").getD .none) cu ga)) (fun b o e=>Heap.get?_push_of_some _ (kp b o e)) sz (xS (Heap.get?_push_size _ rfl));refine⟨.ref h'.objs.size,_,dg,rfl,h _ _ (fun b o e=>by rw[b1 (fU e fr)];exact e) (fun b e=>?_) ⟨_,cu,ga,oc,u,vs,cH,ei,by rw[b1 (fU ag fr)];exact ag,ao,be⟩⟩;by_cases z:b=h'.objs.size
  ·rw[z];exact fr
  ·rw[b1 z]at e;exact e
 | none =>
  refine kla_makeFunction gQ I.ok.glob G qz C da kb hc NS DA fun cu ga h' dr ti ge lt rc DB=>?_;obtain⟨cb,oc,vs,DC,NT,nY,DD,aL⟩:=rc;cases NT;have fr:H cu=none:=I.hok.fresh ge;have abT:P≠cu:=fun z=>by rw[z,fr]at oW;cases oW
  have DE:∀b,H b=none->b≠P:=fun b n z=>by rw[z,oW]at n;cases n
  have un:ez X.fs [] H (upd H cu (.frz oc kJ)) s.heap h':=by
   refine⟨fun b o e n _ _=>ti b o (DE b n) e,fun b o e n _ _=>⟨o.slots,ti b o (DE b n) e⟩,fun b o e n _=>?_,fun b o e _=>?_,fun b xs q=>by rw[b1 (fU q fr)];exact q,fun b o u q=>by rw[b1 (fU q fr)];exact q,fun b p q=>⟨#[],by rw[b1 (fU q fr),q];simp⟩⟩
   ·rw[b1 (S4 (S5 (Heap.lt_size e) ge))];exact n
   ·by_cases z:b=P
    ·rw[z];exact⟨_,DB⟩
    ·exact⟨o,ti b o z e⟩
  have aA:eH X.prog X.w (upd H cu (.frz oc kJ)) h':=fun b u q=>by
   by_cases z:b=cu
   ·subst z;rw[ei]at q;cases q;exact xS nY
   rw[b1 z]at q;by_cases DF:b=P
   ·subst DF;rw[oW]at q;cases q;refine⟨_,DB,by rw[Wx];exact TriplesOk_snoc _ _ _ _ kb,fun p hL DG=>?_⟩;rw[Wx]at DG;rcases NQ _ kb DG with y|rfl
    ·obtain⟨bT,bP,eN,eC,kA,NU,NV,bF,bS,fJ⟩:=good p hL y;exact⟨bT,bP,eN,eC,kA,NU,NV,bF,by rw[b1 (fU bS fr)];exact bS,fJ⟩
    ·exact⟨cu,oc,kJ,vs,_,DC,t,rfl,ei,DD,aL,dW⟩
   ·refine(I.hok b u q).stay (fun d v NW y=>ti d v ?_ y) (fun d y=>by rw[b1 (fU y fr)];exact y) (fun d xs y=>by rw[b1 (fU y fr)];exact y) fun d cf u y=>by rw[b1 (fU y fr)];exact y
    rcases NW with y|y
    ·rw[y];exact DF
    ·intro w;rw[w,oW]at y;cases y
  have a2:Inv X pins σ (upd H cu (.frz oc kJ)) { s with heap:=h',toks:=dr }:=I.un un aA;have xT:upd H cu (.frz oc kJ) h'.objs.size=none:=a2.hok.fresh (SD _);have dg:=a2.laid (t':=dr) (a:=h'.objs.size) (o:=.frz (YK "<lambda>" (X.env.qual++"<lambda>") params body scope clos ((X.mg "__name__").getD .none) cu ga) kJ) (h':=h'.push (YK "<lambda>" (X.env.qual++"<lambda>") params body scope clos ((X.mg "__name__").getD .none) cu ga)) (fun b o e=>Heap.get?_push_of_some _ e) (SD _) (xS (Heap.get?_push_size _ rfl));have DH:cu≠h'.objs.size:=S4 lt;refine⟨.ref h'.objs.size,_,dg,rfl,h _ _ (fun b o e=>by rw[b1 (fU (o:=o) (by rw[b1 (fU e fr)];exact e) xT),b1 (fU e fr)];exact e) (fun b e=>?_) ⟨_,cu,ga,oc,kJ,vs,DC,ei,by rw[b1 DH];exact ei,DD,aL⟩⟩;by_cases z:b=h'.objs.size
  ·rw[z];rw[b1 (Tp DH)]at xT;exact xT
  ·rw[b1 z]at e;by_cases bc:b=cu
   ·rw[bc];exact fr
   ·rw[b1 bc]at e;exact e
end
def xU(qual:Str)(scope:W')(clos:List (Str×Tl))(L f:Tl)(dO:SC):Env:=newEnv scope L TW clos (qual++".<locals>.") (some f) dO none Xa
def qA(X:aU)(A:WV)(N:List Str)(qual:Str)(scope:W')(clos:List (Str×Tl))(f:Tl)(dO:SC)(s:SL)(H:ai):aU :=
 { X with A:=A.deeper (xU qual scope clos s.heap.objs.size f dO),N:=N,s₀:=s,H₀:=H,env:=xU qual scope clos s.heap.objs.size f dO,outer:=X.stack,stack:=xU qual scope clos s.heap.objs.size f dO::X.stack,ex:=[],fn:=fun _=>false,calm:=true,pn:=[],xe:=fun _ _=>False }
structure tj (X:aU) (x:Str) (fr:List Str) (js:List Nat) (scope:W') (clos:List (Str×Tl)):Prop where
 kind:scope.kind=.function
 co:scope.isCoroutine=false
 gen:scope.isGenerator=false
 par:scope.names.lookup x=some .local
 nocell:∀y∈scope.names,y.2≠.cell
 free:∀y,scope.names.lookup y=some .free->∃c,clos.lookup y=some c
 sub:∀y c,clos.lookup y=some c->X.env.cells.lookup y=some c
 len:fr.length=js.length
 nd:(x::fr).Nodup
 frs:∀(i:Nat)(y:Str)(j:Nat),fr[i]?=some y->js[i]?=some j->X.N[j]?=some y/\scope.names.lookup y=some .free/\(X.env.kindOf y=some .cell∨X.env.kindOf y=some .free)
theorem NX{X:aU}{A:WV}{pins:List (Tl×Obj)}{s:SL}{σ:St}{H:ai}{Q:cc}{f:Tl}{qual x:Str}{params:Xc}{body:WP}{scope:W'}{clos:List (Str×Tl)}{fr:List Str}{js:List Nat}{u:SC}{v:V}{E:SC->SL->Prop}(ft:A.frames=some X.stack)(dh:A.handled=none)(NY:A.depth<XC)(I:Inv X pins σ H s)(F:oV H f qual params body scope clos)(S:tj X x fr js scope clos)(b2:RelV v u)(mU:∀pm c ga,XY (kla_fn "<lambda>" qual params body scope clos pm (.ref c) ga) ⟨[u],[]⟩=pure [(x,u)])(gu:∀dO,∃bI,b5 (qA X A (x::fr) qual scope clos f dO s H) body bI/\bI (some v::js.map fun j=>(σ[j]?).join) H Q):
  wpAny (UV X.prog X.w) A (call (.ref f) [u]) (mO X.stack X.prog X.w H s Q) E s:=by
 obtain⟨pm,c,ga,oc,jM,vs,t,NZ,N0,N1,N2⟩:=F;obtain⟨bG,_⟩:=I.hok f _ NZ;obtain⟨hc,_⟩:=I.hok c _ N0;obtain⟨bI,aR,aL⟩:=gu (.ref c);refine wpAny_call (XR (R:=fun r s'=>match r with|.ok (.ret w)=>mO X.stack X.prog X.w H s Q w s'|_=>False) ?_ fun r s' am=>?_);rotate_left
 ·cases r with
  | error e=>exact Tq am
  | ok fl =>
   cases fl with
   | ret w=>exact am
   | next=>exact Tq am
   | brk=>exact Tq am
   | cont=>exact Tq am
 refine kla_callFunE NY bG rfl S.co S.gen rfl ⟨c,oc,vs,t,rfl,hc,N1,N2⟩ ?_;rw[mU pm c ga];refine TD (Xq S.nocell (fun y aM=>by rw[S'.mp aM];exact S.par) (fun aa l2 oy=>⟨I.nolimit.fresh _ oy,?_⟩) S.kind);have eC:∀b o,s.heap.get? b=some o->aa.get? b=some o:=fun b o e=>oy.extBut b o (S4 (Heap.lt_size e)) (Heap.get?_push_of_some _ e)
 have ok:(qA X A (x::fr) qual scope clos f (.ref c) s H).Ok:=by
  refine⟨I.ok.mod,S.kind,rfl,rfl,SD _,fun y z d ag ao=>I.ok.inj y z d (S.sub _ _ ag) (S.sub _ _ ao),fun y aM=>?_,fun y d z=>absurd z SP,fun _=>dh,Around.frames_deeper ft,.inr ⟨rfl,rfl⟩,fun b ae=>absurd (show b∈([]:List Tl)from ae) (by simp),I.bs,SA I.ok.bsz I.sz,fun b _ _ ae=>absurd (show b∈([]:List Tl)from ae) (by simp),fun b ae=>absurd (show b∈([]:List Tl)from ae) (by simp),I.stack,I.stkFree,I.tabs⟩;have aM:scope.names.lookup y=some .cell∨scope.names.lookup y=some .free:=aM;rcases aM with aM|aM
  ·exact absurd rfl (S.nocell _ (mem_of_lookup aM))
  ·exact S.free y aM
 have J:Inv (qA X A (x::fr) qual scope clos f (.ref c) s H) [] (some v::js.map fun j=>(σ[j]?).join) H { s with heap:=aa,toks:=s.toks+[(x,u)].length }:=by
  refine⟨ok,rfl,I.bare,ez.kept eC,⟨_,l2,fun i y w ag ao be=>?_⟩,fun y d e=>?_,I.fresh,fun y d e=>I.freeC y d (S.sub _ _ e),fun p aq=>absurd (show p∈([]:List (Tl×Obj))from aq) (by simp),I.hok.kept eC,?_⟩
  ·cases i with
   | zero =>
    have ag:some x=some y:=ag;have ao:some (some v)=some (some w):=ao;cases ag;cases ao;exact⟨u,b2,.inl ⟨S.par,by simp⟩⟩
   | succ i =>
    have ag:fr[i]?=some y:=ag;have ao:(js.map fun j=>(σ[j]?).join)[i]?=some (some w):=ao;rw[S7]at ao;obtain⟨j,nc,ao⟩:=Ut.mp ao;obtain⟨N3,DI,DJ⟩:=S.frs i y j ag nc
    have N4:σ[j]?=some (some w):=by
     cases z:σ[j]? with
     | none=>rw[z]at ao;cases ao
     | some kf=>rw[z]at ao;cases ao;rfl
    obtain⟨m,_,lk⟩:=I.loc;obtain⟨fX,aK,b0⟩:=lk j y w N3 N4 (by rcases DJ with z|z;exact .inr (.inl z);exact .inr (.inr z));refine⟨fX,aK,.inr ⟨.inr DI,?_⟩⟩;obtain⟨d,f1⟩:=S.free y DI;have tk:=S.sub _ _ f1;rcases b0 with⟨z,_⟩|⟨_,fv,be,N5⟩
    ·rcases DJ with dN|dN<;>rw[z]at dN<;>cases dN
    ·rw[tk]at be;cases be;obtain⟨o,aA,N6⟩:=N5;exact⟨d,f1,o,eC _ _ aA,N6⟩
  ·obtain⟨w,o,aA,r⟩:=I.cell y d (S.sub _ _ e);exact⟨w,o,eC _ _ aA,r⟩
  ·show(some v::js.map fun j=>(σ[j]?).join).length=(x::fr).length
   simp[S.len]
 refine kla_codeExpr (WR (aR [] _ _ H _ J aL) (fun w s' ak=>?_) fun e s' ak=>Tq ak);obtain⟨kg,af,tl,c7,fW⟩:=ak;exact⟨kg,af,tl.os,tl.bare,tl.base,tl.hok,c7,fW⟩
end L2
namespace L2
open PySem PySem.Spec PyProof.Rows PySem.W L3
theorem qB{α β:Type}{g:α->β}{m n:List β}(p:m.Perm n):∀{l:List α},n=l.map g->∃l':List α,l'.Perm l/\l'.map g=m:=by
 induction p with
 | nil=>intro l e;exact⟨[],by rw[U'.mp e.symm],rfl⟩
 | cons x _ bR =>
  intro l e;cases l with
  | nil=>cases e
  | cons a l =>
   rw[SV]at e;obtain⟨rfl,bq⟩:=TO e;obtain⟨l',kj,rfl⟩:=bR bq;exact⟨a::l',kj.cons a,rfl⟩
 | swap x y _ =>
  intro l e
  match l,e with
  | a::b::l,e =>
   simp only[SV,UO]at e;obtain⟨rfl,rfl,rfl⟩:=e;exact⟨b::a::l,List.Perm.swap _ _ _,rfl⟩
 | trans _ _ bo bu =>
  intro l e;obtain⟨b0,cg,ao⟩:=bu e;obtain⟨bZ,cx,ag⟩:=bo ao.symm;exact⟨bZ,cx.trans cg,ag⟩
theorem N7{kz:List Int}:∀{xs:List V}{vs:List SC},bV xs vs->∃ts:List (Int×V×SC),ts.map (fun t=>(t.1,t.2.1))=kz.zip xs/\ts.map (fun t=>(t.1,t.2.2))=kz.zip vs/\∀t∈ts,RelV t.2.1 t.2.2:=by
 induction kz with
 | nil=>intro xs vs _;exact⟨[],rfl,rfl,fun t h=>absurd h Tj⟩
 | cons k kz bR =>
  intro xs vs r;cases r with
  | nil=>exact⟨[],rfl,rfl,fun t h=>absurd h Tj⟩
  | cons a r =>
   obtain⟨ts,ag,ao,h⟩:=bR r
   exact⟨(k,_,_)::ts,by rw[SV,ag];rfl,by rw[SV,ao];rfl,fun t aR=>by
    rcases Sy.mp aR with rfl|aR
    ·exact a
    ·exact h t aR⟩
theorem DK:∀{ts:List (Int×V×SC)},(∀t∈ts,RelV t.2.1 t.2.2)->bV (ts.map fun t=>t.2.1) (ts.map fun t=>t.2.2)
 | [],_=>.nil
 | t::ts,h=>.cons (h t Sv) (DK fun x aj=>h x (Sw _ aj))
def gY(H af:ai):Prop:=∀b o,H b=some o->af b=some o
section
variable{X:aU}{pins:List (Tl×Obj)}{σ:St}{H:ai}{s:SL}{a kS f:Tl}{vs:List SC}{xs:List V}{kz:List Int}{ag:Nat}{P:PySem.Fin->SL->Prop}{E:SC->SL->Prop}
theorem N8{keys:Array SC}{e:Nat}{A:WV}(I:Inv X pins σ H s)(et:eV X pins H a)(i4:eV X pins H kS)(ne:kS≠a)(ah:s.heap.get? kS=some (XB "list" keys e))(ax:s.heap.get? a=some (XB "list" #[] ag))(qC:X.base.get? a=none)(bk:X.base.get? kS=none)(my:XS keys.toList kz)(d9:kz.length=vs.length)(nH:vs.length<64)(b2:bV xs vs)(h:∀(s':SL) (bj:List (Int×V)),bj.Perm (kz.zip xs)->bj.Pairwise (fun p q=>p.1<=q.1)->Inv X pins σ (upd H a (.lst (bj.map TU))) s'->P (.done (.ret .none)) s'):
  wpAny (UV X.prog X.w) A (ksk_end a false vs.toArray ag (.ref kS) keys) P E s:=by
 obtain⟨m,aB,ay⟩:=I.loc;let news:=(LM s.heap).filter fun p=>(X.base.get? p.1).isNone&&(p.1 != X.env.locals&&(p.1 != kS&&p.1 != a))
 have N9:∀b o,s.heap.get? b=some o->X.base.get? b=none->b≠X.env.locals->b≠kS->b≠a->(b,o)∈news:=fun b o q aN a3 cE e8=>by
  refine Tw.mpr ⟨?_,?_⟩
  ·exact TH.mpr ⟨b,Ug.mpr (Heap.lt_size q),by rw[q];rfl⟩
  ·simp[aN,a3,cE,e8]
 have xV:∀p∈news,s.heap.get? p.1=some p.2/\p.1≠X.env.locals/\X.base.get? p.1=none/\p.1≠kS/\p.1≠a:=fun p aq=>by
  obtain⟨aN,a3⟩:=Tw.mp aq;simp only[Tu,Option.isNone_iff_eq_none,bne_iff_ne,ne_eq]at a3;refine⟨?_,a3.2.1,a3.1,a3.2.2.1,a3.2.2.2⟩;obtain⟨i,_,cE⟩:=TH.mp aN;obtain⟨o,e8,rfl⟩:=Ut.mp cE;exact e8
 have F:Fr X.base X.env.locals s.heap m:=⟨aB,I.bk,SA I.ok.bsz I.ok.above⟩
 have N:News X.base X.env.locals s.heap (news++[(kS,XB "list" keys e),(a,XB "list" #[] ag)]):=fun p aq=>by
  rcases SI.mp aq with aq|aq
  ·obtain⟨aN,a3,cE,_⟩:=xV p aq;exact⟨aN,a3,cE⟩
  ·simp only[Sy,Tj,or_false]at aq;rcases aq with rfl|rfl
   ·exact⟨ah,i4.2.1,bk⟩
   ·exact⟨ax,et.2.1,qC⟩
 refine ksk_end_ F N ne (fun p aq=>(xV p aq).2.2.2.1) (fun p aq=>(xV p aq).2.2.2.2) my d9 nH fun h' dr out c oS mo N'=>?_;obtain⟨ps,gP,wC,ip⟩:=N';obtain⟨ts,cH,cn,kb⟩:=N7 (kz:=kz) b2;obtain⟨jk,kj,lF⟩:=qB gP cn.symm
 have kept:∀b o,b≠X.env.locals->b∉[kS,a]->s.heap.get? b=some o->h'.get? b=some o:=fun b o aN a3 cE=>by
  simp only[Sy,Tj,or_false,not_or]at a3;cases z:X.base.get? b with
  | some cf =>
   have:=I.bk b cf z;rw[cE]at this;cases this;exact oS.keep b _ z
  | none=>exact(mo (b,o) (Sw _ (N9 b o cE z aN a3.1 a3.2))).1
 have hB:h'.get? a=some (XB "list" out c):=(mo _ Sv).1;have hP:∀b u,H b=some u->b≠a:=fun b u q z=>by rw[z,et.1]at q;cases q
 have ch:∀b∈[kS,a],(b∈X.ex∨X.s₀.heap.objs.size<=b)/\b≠X.env.locals/\(∀x c,X.env.cells.lookup x=some c->c≠b)/\∀p∈X.pn++pins,p.1≠b:=fun b ae=>by
  simp only[Sy,Tj,or_false]at ae;rcases ae with rfl|rfl
  ·exact⟨i4.2.2.2.1,i4.2.1,i4.2.2.2.2.1,i4.2.2.2.2.2⟩
  ·exact⟨et.2.2.2.1,et.2.1,et.2.2.2.2.1,et.2.2.2.2.2⟩
 refine h { s with heap:=h',toks:=dr } (jk.map fun t=>(t.1,t.2.1)) (by rw[<-cH];exact kj.map _) ?_ ?_
 ·rw[<-lF]at ip;rw[Va]at ip ⊢;exact ip.imp fun{x y} z=>by simpa using z
 have em:(jk.map fun t=>(t.1,t.2.1)).map TU=jk.map fun t=>t.2.1:=by rw[SY];rfl
 have Oa:out.toList=jk.map fun t=>t.2.2:=by rw[wC,<-lF,SY];rfl
 have ln:jk.length<=SZ:=by
  have aN:=kj.length_eq;have a3:=Uf Th cn;rw[Sz,TR]at a3;rw[Xg];lia
 rw[em];refine I.step (ch:=[kS,a]) (h':=h') (g':=s.gens) (d':=s.drawn) (t':=dr) ch (fun b o aN _ cE e8 _=>kept b o aN cE e8) (fun b o aN _ cE e8 _=>⟨o.slots,kept b o aN cE e8⟩) (fun b o aN _ cE=>?_) (fun b o aN a3=>?_) (fun b x q=>by rw[b1 (hP _ _ q)];exact q) (fun b o u q=>by rw[b1 (hP _ _ q)];exact q) (fun b p q=>⟨#[],by rw[b1 (hP _ _ q),q];simp⟩) (fun bS ab=>?_) (fun b u q=>?_) I.bare
 ·rw[b1 (fun z=>aN (by rw[z];simp))];exact cE
 ·by_cases z:b=X.env.locals
  ·rw[z];obtain⟨ey,es,c3,q,_⟩:=oS.ns;exact⟨ey,q⟩
  ·exact⟨o,kept b o z aN a3⟩
 ·have:bS=m:=by
   obtain⟨qc,abU,abV,aN,a3,_,cE⟩:=ab;obtain⟨qd,abW,abX,av,aK,_,d8⟩:=aB;rw[aN]at av;cases av;rw[a3]at aK;cases aK;funext n;rw[<-cE,<-d8]
  rw[this];exact oS.ns
 ·by_cases z:b=a
  ·subst z;rw[ei]at q;cases q;exact⟨by rw[Sz];exact ln,jk.map fun t=>t.2.2,c,DK fun t aR=>kb t (kj.mem_iff.mp aR),by rw[<-Oa];simpa using hB⟩
  ·rw[b1 z]at q;refine(I.hok b u q).stay (fun d v hd y=>kept d v ?_ ?_ y) (fun d y=>by rw[b1 (hP _ _ y)];exact y) (fun d x y=>by rw[b1 (hP _ _ y)];exact y) fun d cf u y=>by rw[b1 (hP _ _ y)];exact y
   ·intro w;rcases hd with y|y
    ·rw[<-y,w,I.free]at q;cases q
    ·rw[w,I.free]at y;cases y
   ·simp only[Sy,Tj,or_false,not_or];rcases hd with y|y
    ·subst y;exact⟨fun w=>(by rw[w,i4.1]at q;cases q),z⟩
    ·exact⟨fun w=>(by rw[w,i4.1]at y;cases y),hP _ _ y⟩
end
theorem eV.at{X:aU}{pins:List (Tl×Obj)}{H af:ai}{b:Tl}(f:eV X pins H b)(n:af b=none):eV X pins af b:=⟨n,f.2⟩
section
variable{X:aU}{A:WV}{pins:List (Tl×Obj)}{σ:St}{H:ai}{s:SL}{a kS f:Tl}{vs:List SC}{xs:List V}{kz:List Int}{ag:Nat}{P:PySem.Fin->SL->Prop}{E:SC->SL->Prop}
theorem Ob(I:Inv X pins σ H s)(et:eV X pins H a)(i4:eV X pins H kS)(ne:kS≠a)(ah:s.heap.get? kS=some (XB "list" #[] 0))(ax:s.heap.get? a=some (XB "list" #[] ag))(qC:X.base.get? a=none)(bk:X.base.get? kS=none)(sa:a∉frs X.stack)(xW:kS∉frs X.stack)(d9:kz.length=vs.length)(nH:vs.length<64)(b2:bV xs vs)(turn:∀(i:Nat) (v:SC) (k:Int),vs[i]?=some v->kz[i]?=some k->∀(af:ai) (s':SL),Inv X pins σ af s'->gY H af->wpAny (UV X.prog X.w) A (call (.ref f) [v]) (mO X.stack X.prog X.w af s' fun y aV=>y=.int k/\gY af aV) (fun _ _=>False) s')(h:∀(s':SL) (af:ai) (bj:List (Int×V)),gY H af->af a=none->bj.Perm (kz.zip xs)->bj.Pairwise (fun p q=>p.1<=q.1)->Inv X pins σ (upd af a (.lst (bj.map TU))) s'->P (.done (.ret .none)) s'):
  wpAny (UV X.prog X.w) A (ksk_rest a (.ref f) false vs.toArray ag (.ref kS)) P E s:=by
 unfold ksk_rest;refine SB (Ys ?_);rw[List.forIn_toArray]
 refine SB (ksk_fold (fun i s'=>∃af lG e,Inv X pins σ af s'/\gY H af/\af a=none/\af kS=none/\s'.heap.get? kS=some (XB "list" lG e)/\s'.heap.get? a=some (XB "list" #[] ag)/\XS lG.toList (kz.take i)) vs 0 s
  ⟨H,#[],0,I,fun _ _ q=>q,et.1,i4.1,ah,ax,by simpa using IntsAre.nil⟩ ?step ?done)
 case step =>
  rintro j v aE a' ⟨aw,lG,e,a2,aO,cv,cN,bT,c6,aC⟩;simp only[U2]at aC ⊢;have bz:j<vs.length:=(Uy.mp a').1;obtain⟨k,DL⟩:∃k,kz[j]?=some k:=⟨_,S8 (by lia)⟩
  have hz:lG.size<=vs.length:=by
   have q:=aC.length;rw[UR,TJ]at q;lia
  refine SB (Yo (WR (turn j v k a' DL aw aE a2 aO) (fun u a4 au=>?_) fun _ _ q=>q.elim));obtain⟨y,aV,os,bare,un,aA,r,rfl,aT⟩:=au;obtain⟨cn,rfl⟩:=r;have dg:=a2.call' (ch:=[]) os un aA bare (fun b z=>absurd z (by simp));have bP:=un.keep kS _ bT cN xW (by simp);have dt:=un.keep a _ c6 cv sa (by simp);have bS:=un.free kS _ bT cN (by simp);have bF:=un.free a _ c6 cv (by simp)
  try dsimp only
  have dj:=Heap.SameBut.update a4.heap kS (Obj.mapSeq (·.push (.int k cn)));obtain⟨cb,Oc⟩:∃cb,(a4.heap.update kS (Obj.mapSeq (·.push (.int k cn)))).get? kS=some (XB "list" (lG.push (.int k cn)) cb):=⟨_,get?_update_seq bP (·.push (.int k cn))⟩;have xX:kz.take (j+1)=kz.take j++[k]:=by rw[VK,DL];simp
  have er:(lG.push (Value.int k cn)).toList=lG.toList++[Value.int k cn]:=by simp
  refine SB (listUpdate_at bP rfl ?_ (by rw[Xg];lia) (SA (Nat.le_of_eq (Wk ..)) (by rw[Xg];lia)));have bU:Inv X pins σ aV { a4 with heap:=a4.heap.update kS (Obj.mapSeq (·.push (.int k cn))),toks:=a4.toks }:=dg.turnedL (fs:=[kS]) (fun b o q z=>(dj.2 b (fun w=>q (by rw[w];simp))).trans z) (fun b ae=>by rw[S'.mp ae];exact i4.at bS);exact TD ⟨rfl,aV,_,cb,bU,fun b o q=>aT b o (aO b o q),bF,bS,Oc,(dj.2 a ne.symm).trans dt,by rw[er,xX];exact ksk_snoc aC⟩
 case done =>
  rintro aE ⟨aw,lG,e,a2,aO,cv,cN,bT,c6,aC⟩
  have s9:XS lG.toList kz:=by
   have z:kz.take (0+vs.length)=kz:=UC (by lia);rw[z]at aC;exact aC
  try dsimp only
  refine SB (listItems_at bT rfl ?_);exact N8 a2 (et.at cv) (i4.at cN) ne bT c6 qC bk s9 d9 nH b2 fun s' bj cx cg J=>h s' aw bj aO cv cx cg J
end
end L2
namespace L2
open PySem PySem.Spec PyProof.Rows PySem.W
section
variable{prog:WF}{w:WU}{A:WV}{E:SC->SL->Prop}{s:SL}
theorem Od{R:YE->SL->Prop}{r S:Tl}{a b c:Int}{t u v:Tok}{n:Nat}(dh:A.handled=none)(am:IsRange s.heap r a b c t u v)(xY:Builtin.Range.small a b c=true)(aH:Builtin.Range.rangeSize a b c=n)(d9:n<=2^24)(dH:s.heap.get? S=some { cls:=.type "list",data:=.seq #[] })(h:∀(h':WY) (dr:Nat) (acc:Array SC) (cu:Nat),(∀b o,b≠S->s.heap.get? b=some o->h'.get? b=some o)->h'.get? S=some { cls:=.type "list",dict:=none,data:=.seq acc cu,slots :=#[] }->ItemsOf (fun i v=>∃t,v=.int (a+i*c) t) acc n->R (.ok (.ret (.ref S))) { s with heap:=h',toks:=dr }):
  codeAny (UV prog w) A (.builtin "list.__iadd__" ⟨[.ref S,.ref r],[]⟩) R s:=by
 refine Xv PySem.F.entry_list_iadd ?_;rw[Around.under_plainId Wy _];exact wpAny_extend_range dh am xY aH d9 S _ 0 dH h
theorem Oe{r:Tl}{a b c:Int}{t u v:Tok}{n:Nat}{Q:List SC->SL->Prop}(dh:A.handled=none)(am:IsRange s.heap r a b c t u v)(xY:Builtin.Range.small a b c=true)(aH:Builtin.Range.rangeSize a b c=n)(d9:n<=2^24)(h:∀(h':WY) (dr:Nat) (acc:Array SC),s.heap.objs.size<=h'.objs.size->(∀b o,s.heap.get? b=some o->h'.get? b=some o)->ItemsOf (fun i v=>∃t,v=.int (a+i*c) t) acc n->Q acc.toList { s with heap:=h',toks:=dr }):
  wpAny (UV prog w) A (collect (.ref r)) Q E s:=by
 unfold collect;refine SB (wpAny_runValue (Xv PySem.F.entry_proto_collect ?_));rw[Around.under_plainId PySem.F.plain_proto_collect _];show wpAny _ A.in1 (newList [] >>= fun l=>again (.builtin "list.__iadd__" ⟨[l,.ref r],[]⟩)) _ _ s
 refine SB (WX ?_);refine TD ⟨Yp Wy _,?_⟩;refine Od (s:={ s with heap:=s.heap.push { cls:=.type "list",data:=.seq #[] } }) dh (Heap.get?_push_of_some _ am) xY aH d9 (Heap.get?_push_size _ rfl) fun h' dr Of cu kp dH aC=>?_;show wpAny _ A (load s.heap.objs.size >>= _) _ _ _
 refine SB (wpAny_load dH ?_);exact TD (h h' dr Of (Ux (Heap.lt_size dH)) (fun b o e=>kp b o (S4 (Heap.lt_size e)) (Heap.get?_push_of_some _ e)) aC)
end
theorem Og{n:Nat}{acc:Array SC}(h:ItemsOf (fun i v=>∃t,v=.int ((0:Int)+i*1) t) acc n):bV ((Te n).map fun i:Nat=>V.int i) acc.toList:=by
 obtain⟨hz,aC⟩:=h
 have key:∀(l:List SC)(k:Nat),(∀(j:Nat)(v:SC),l[j]?=some v->∃t,v=.int ((0:Int)+((k+j:Nat):Int)*1) t)->bV ((VE k l.length).map fun i:Nat=>V.int i) l:=by
  intro l;induction l with
  | nil=>exact fun k _=>.nil
  | cons v l bR =>
   intro k ah;rw[SO,List.range'_succ,SV];refine .cons ?_ (bR (k+1) fun j kg bz=>?_)
   ·obtain⟨t,e⟩:=ah 0 v rfl;exact⟨t,by rw[e];congr 1;lia⟩
   ·obtain⟨t,e⟩:=ah (j+1) kg (by simpa using bz);exact⟨t,by rw[e];congr 1;lia⟩
 have:=key acc.toList 0 fun j v bz=>by
  rw[V8]at bz;simpa using aC j v bz
 rwa [show acc.toList.length=n from by simpa using hz,<-Wh]at this
end L2
namespace L2
open PySem PySem.Spec PyProof.Rows PySem.W L3
section
variable{X:aU}{pins:List (Tl×Obj)}{σ:St}{H:ai}{s:SL}{l f:Tl}{xs:List V}{kz:List Int}{Q:cc}
theorem Oh(I:Inv X pins σ H s)(col:∀(DM:SC->SL->Prop) (n1:List SC->SL->Prop),(∀(h':WY) (dr:Nat) (vs:List SC),s.heap.objs.size<=h'.objs.size->(∀b o,s.heap.get? b=some o->h'.get? b=some o)->bV xs vs->n1 vs { s with heap:=h',toks:=dr })->wpAny (UV X.prog X.w) X.A.in1 (collect (.ref l)) n1 DM s)(d9:kz.length=xs.length)(nH:xs.length<64)(turn:∀(i:Nat) (x:V) (v:SC) (k:Int),xs[i]?=some x->RelV x v->kz[i]?=some k->∀(af:ai) (s':SL),Inv X pins σ af s'->gY H af->wpAny (UV X.prog X.w) X.A.in1.in1 (call (.ref f) [v]) (mO X.stack X.prog X.w af s' fun y aV=>y=.int k/\gY af aV) (fun _ _=>False) s')(q:∀(af:ai) (p:Tl) (bj:List (Int×V)),gY H af->af p=none->bj.Perm (kz.zip xs)->bj.Pairwise (fun p q=>p.1<=q.1)->Q (.ref p) (upd af p (.lst (bj.map TU)))):
  wpAny (UV X.prog X.w) X.A (call (.builtin "sorted") [.ref l] [(Str.ofString "key",.ref f)]) (fp X pins σ Q) X.xe s:=by
 refine call_function_entry_kw kind_sorted plain_sorted entry_sorted (ksk_s1 _ _) ?_;unfold YJ.«sorted»;refine SB (m:=checkCount "sorted" 1 1 _) (TD (SB (col _ _ fun aa dr vs aP bT b2=>SB (wpAny_newList ?_ (by rw[Xg,<-b2.length];lia)))));have ln:=b2.length;have s6:vs.length<=SZ:=by rw[Xg];lia
 let ab:=aa.push (XB "list" vs.toArray 0)
 have a3:ab.get? aa.objs.size=some (XB "list" vs.toArray 0):=Heap.get?_push_size _ rfl;show wpAny (UV X.prog X.w) X.A.in1 _ _ _ { s with toks:=dr,heap:=ab }
 refine SB (WW (wpAny_call_entry_kw (s:={ s with toks:=dr,heap:=ab }) slot_list_sort ⟨_,a3,rfl⟩ entry_list_sort ?body (ksk_l1 _ _)))
 case body =>
  show wpAny (UV X.prog X.w) X.A.in1.in1 (YJ.«list.sort» ⟨[.ref aa.objs.size],[(Str.ofString "key",.ref f)]⟩) _ _ _
  rw[ksk_t1];unfold ksk_tree;refine SB (listItems_at (s:={ s with toks:=dr,heap:=ab }) a3 rfl ?_);refine SB (listUpdate_at (s:={ s with toks:=dr,heap:=ab }) a3 rfl ?_ (by rw[SS];exact s6) (Ti _));obtain⟨ag,DN⟩:∃ag,(ab.update aa.objs.size (Obj.mapSeq fun _=>(#[]:Array SC))).get? aa.objs.size=some (XB "list" #[] ag):=⟨_,get?_update_seq a3 fun _ => #[]⟩;have dj:=Heap.SameBut.update ab aa.objs.size (Obj.mapSeq fun _=>(#[]:Array SC));refine SB (seqEpoch_at (s:={ s with toks:=dr,heap:=ab.update aa.objs.size (Obj.mapSeq fun _=>(#[]:Array SC)) }) DN rfl ?_);refine SB (wpAny_newTuple ?_ (by show vs.length<=_;exact s6));refine SB (wpAny_newList ?_ (Ti _));refine WW ?_;let aQ:=ab.update aa.objs.size (Obj.mapSeq fun _=>(#[]:Array SC))
  let bB:=aQ.push (XB "tuple" vs.toArray 0)
  let ek:=bB.push (XB "list" #[] 0)
  have kp:∀b o,s.heap.get? b=some o->ek.get? b=some o:=fun b o e=>by
   have lt:=S5 (Heap.lt_size e) aP;exact Heap.get?_push_of_some _ (Heap.get?_push_of_some _ ((dj.2 b (S4 lt)).trans (Heap.get?_push_of_some _ (bT b o e))))
  have DO:aa.objs.size<bB.objs.size:=by
   show _<(aQ.push _).objs.size
   rw[Heap.size_push,Heap.size_update,Heap.size_push];lia
  have I5:Inv X pins σ H { s with toks:=dr,heap:=ek }:=I.kept kp
  have eT:∀b,s.heap.objs.size<=b->eV X pins H b/\X.base.get? b=none/\b∉frs X.stack:=fun b ae=>by
   refine⟨I.fpOk ae (I.hok.fresh ae),Heap.get?_none_of_le (SA (SA I.ok.bsz I.sz) ae),fun z=>?_⟩;rcases Sy.mp (I.stkSub b z)with y|y
   ·exact absurd (S5 I.lt ae) (by rw[y];exact S6 _)
   ·exact I.nofs ae y
  obtain⟨et,qC,sa⟩:=eT aa.objs.size aP;obtain⟨i4,bk,xW⟩:=eT bB.objs.size (SA aP (Ux DO))
  refine Ob (s:={ s with toks:=dr,heap:=ek }) (a:=aa.objs.size) (kS:=bB.objs.size) I5 et i4 (TA DO) (Heap.get?_push_size _ rfl) (Heap.get?_push_of_some _ (Heap.get?_push_of_some _ DN)) qC bk sa xW (d9.trans ln) (by lia) b2 (fun i v k a' ah=>by
   obtain⟨x,ex,ba⟩:=b2.getR a'
   exact turn i x v k ex ba ah) fun s' af bj g n cx cg J=>⟨_,rfl,TD ⟨_,rfl,.ref aa.objs.size,_,J,rfl,q af _ bj g n cx cg⟩⟩
end
theorem oV.grow{H af:ai}{f:Tl}{qual:Str}{params:Xc}{body:WP}{scope:W'}{clos:List (Str×Tl)}(F:oV H f qual params body scope clos)(g:gY H af):oV af f qual params body scope clos:=by
 obtain⟨pm,c,ga,oc,u,vs,t,ag,ao,r⟩:=F;exact⟨pm,c,ga,oc,u,vs,t,g _ _ ag,g _ _ ao,r⟩
theorem gY.trans{H aw aV:ai}(a:gY H aw)(b:gY aw aV):gY H aV:=fun x o q=>b x o (a x o q)
def qD(H:ai)(l:Tl)(xs:List V):Prop:=H l=some (.lst xs)∨∃n:Nat,n<64/\H l=some (.rng 0 n)/\xs=(Te n).map fun i:Nat=>V.int i
theorem qD.grow{H af:ai}{l:Tl}{xs:List V}(h:qD H l xs)(g:gY H af):qD af l xs:=by
 rcases h with h|⟨n,z,h,e⟩
 ·exact .inl (g _ _ h)
 ·exact .inr ⟨n,z,g _ _ h,e⟩
def DP(Rd:bN->Prop)(σ:St)(aw:ai)(js:List Nat)(Q:cc)(vs:List V):Prop:=∃(l:Tl)(xs:List V)(kz:List Int),vs=[.ref l]/\qD aw l xs/\xs.length<64/\kz.length=xs.length /\
 (∀(i:Nat)(x:V)(k:Int),xs[i]?=some x->kz[i]?=some k->∀af,gY aw af->∀bI:bN,Rd bI->bI (some x::js.map fun j=>(σ[j]?).join) af fun y aV=>y=.int k/\gY af aV) /\
 ∀(af:ai)(p:Tl)(bj:List (Int×V)),gY aw af->af p=none->bj.Perm (kz.zip xs)->bj.Pairwise (fun a b=>a.1<=b.1)->Q (.ref p) (upd af p (.lst (bj.map TU)))
def Oi(Rd:bN->Prop)(ta:eE)(js:List Nat):bN:=fun σ H Q=>ta σ H fun vs aw=>DP Rd σ aw js Q vs
section
variable{X:aU}{a:WP}{ta:eE}{p pos ir kp:Pos}{params:Xc}{body:WP}{scope:W'}{clos:List (Str×Tl)}{x:Str}{fr:List Str}{js:List Nat}{Rd:bN->Prop}{k:Nat}
theorem Oj(am:eF k X.A)(aD:ep X "sorted")(aB:X.mg "sorted"=none)(ax:gG X [a] ta)(LT:oU X.K X.mg X.env.code (X.env.qual++"<lambda>"))(qy:defaultsOf params X.env=([],[]))(gQ:Yu scope X.env=pure clos)(S:tj X x fr js scope clos)(mU:∀u pm c ga,XY (kla_fn "<lambda>" (X.env.qual++"<lambda>") params body scope clos pm (.ref c) ga) ⟨[u],[]⟩=pure [(x,u)])(gu:∀f dO s H,∃bI,b5 (qA X X.A.in1.in1 (x::fr) (X.env.qual++"<lambda>") scope clos f dO s H) body bI/\Rd bI)(ak:W1 pos (Tk [a] X.env)=(false,W7 a X.env)::W1 pos (Tk [] X.env):=by rfl)(dV:(W1 pos (Tk [a] X.env)).any (·.1)=false:=by rfl):
  b5 X (.Call (.Name "sorted" p) [a] [⟨some "key",.Lambda params body scope ir,kp⟩] pos) (Oi Rd ta js):=by
 intro pins s σ H Q I h;refine WZ (kX I aD aB (by decide +kernel:W8 "sorted"=some (.builtin "sorted")) ?_);refine callWith_kw (b9 (ax pos pins s σ H _ I h) fun aG aE ⟨vs,aw,a2,av,aN⟩=>?_) ak dV;obtain⟨l,xs,kz,rfl,ay,nH,hz,ask,q⟩:=aN;obtain⟨u,rfl,gr⟩:=vals1 av;cases gr;refine kws_cons (b9 (NR (Q:=fun y aV=>∃f,y=.ref f/\gY aw aV/\oV aV f (X.env.qual++"<lambda>") params body scope clos) LT qy gQ a2 fun f aV g _ F=>⟨f,rfl,g,F⟩) fun u a4 ⟨y,aV,dg,cm,f,jH,aT,F⟩=>?_);subst jH;cases cm;refine kws_nil ?_;show wpAny (UV X.prog X.w) X.A (call (.builtin "sorted") [.ref l] [(Str.ofString "key",.ref f)]) (fp X pins σ Q) X.xe a4
 refine Oh (xs:=xs) (kz:=kz) dg (fun DM n1 aL=>?_) hz nH (fun i x v aW ex ba ah ca a8 bU g3=>?_) fun ca gP bj g3 gK cx cg=>q ca gP bj (aT.trans g3) gK cx cg
 ·rcases ay.grow aT with ay|⟨n,aH,ah,rfl⟩
  ·obtain⟨its,b2,cV,_⟩:=dg.list (cl.of ay);exact Nl cV.isList (by rw[Xg,<-b2.length];lia) fun h' z kp=>aL h' a4.toks its z kp b2
  ·obtain⟨t,u,v,e⟩:=dg.hok _ _ ah;exact Oe (n:=n) (show X.A.handled=none from am.hd) e (small_one (by lia) (by lia) (by lia) (by lia)) (by rw[rangeSize_one];split<;>lia) (by lia) fun h' dr acc z kp aC=>aL h' dr acc.toList z kp (Og aC)
 refine NX (A:=X.A.in1.in1) (show X.A.frames=some X.stack from bU.ok.frames) (show X.A.handled=none from am.hd) (show X.A.depth<XC from am.depth) bU (F.grow g3) S ba (fun pm c ga=>mU v pm c ga) fun dO=>?_;obtain⟨bI,aR,jQ⟩:=gu f dO a8 ca;exact⟨bI,aR,ask i _ aW ex ah ca (aT.trans g3) bI jQ⟩
end
end L2
namespace L3
open PySem L2 PySem.W
def DQ(bA:bb)(js:List Nat)(ds:List D)(ρ:List aI)(k:List D->Prop):Prop:=∃key:D->Int,ds.length<64/\(∀j∈js,ρ[j]?≠some .bag)/\(∀d∈ds,bA (.val d::js.map (gz ρ)) fun y=>y=.int (key d)) /\
 ∀ds':List D,ds'.Perm ds->ds'.Pairwise (fun a b=>key a<=key b)->k ds'
def Ol(u bA:bb)(js:List Nat):dk:=fun ρ k=>u ρ fun x=>∃ds:List D,x=.lst ds/\DQ bA js ds ρ k
theorem aX.grown{K:YD}{R:ai}{W:Tl->Prop}{B H af:ai}{σ:St}{ρ:List aI}(e:aX K R W B H σ ρ)(g:gY H af):aX K R W B af σ ρ :=
 e.unframe (fun a o h _=>g a o h) fun a h=>by
  obtain⟨x,y,q,r⟩:=(e.frW_B h).2;exact⟨x,y,g _ _ q,r⟩
theorem DR{K:YD}{B:ai}:∀{vs:List V}{ds:List D},Reps K B vs ds->∀p∈ds.zip vs,b3 K B p.2 p.1
 | _,_,.nil,p,aq=>by cases aq
 | _,_,.cons a r,p,aq=>by
  rw[VS]at aq;rcases Sy.mp aq with rfl|aq
  ·exact a
  ·exact DR r p aq
theorem xZ{K:YD}{B:ai}:∀{di:List (D×V)},(∀p∈di,b3 K B p.2 p.1)->Reps K B (di.map TU) (di.map Prod.fst)
 | [],_=>.nil
 | p::di,h=>.cons (h p Sv) (xZ fun q aL=>h q (Sw _ aL))
theorem DS(key:D->Int):∀(ds:List D)(vs:List V),(ds.map key).zip vs=(ds.zip vs).map fun p=>(key p.1,p.2)
 | [],_=>by simp
 | _::_,[]=>by simp
 | d::ds,v::vs=>by rw[SV,VS,VS,SV,DS key ds vs]
theorem Om{K:YD}{bA:bb}{js:List Nat}{R:ai}{W:Tl->Prop}{a7 aw:ai}{σ:St}{ρ:List aI}{ds:List D}{vs:List V}{l:Tl}{aW:List D->Prop}{Q:cc}(jU:js.Nodup)(ag:aX K R W a7 aw σ ρ)(ay:qD aw l vs)(rs:Reps K a7 vs ds)(bM:DQ bA js ds ρ aW)(q:∀ds a vs af,aW ds->aX K R W a7 af σ ρ->R a=none->a7 a=none->af a=some (.lst vs)->Reps K a7 vs ds->(∀i,¬cX σ ρ i a)->Q (.ref a) af):DP (fun bI=>dR K bI bA) σ aw js Q [.ref l]:=by
 obtain⟨key,nH,ic,ae,ah⟩:=bM;have ln:=rs.length;refine⟨l,vs,ds.map key,rfl,ay,by lia,by rw[Sz];lia,fun i A0 abY aj DT aV aT bI jQ=>?_,fun aV gP bj aT cN cx cg=>?_⟩
 ·rw[S7]at DT;obtain⟨l3,f1,rfl⟩:=Ut.mp DT;obtain⟨fv,tk,fL⟩:=rs.getV aj;rw[f1]at tk;cases tk;have ao:=ag.grown aT;have kq:=(ao.within 1 jU).setV 0 fL;refine jQ _ _ (ae l3 (Tt f1)) _ _ _ _ _ _ kq fun ku v3 k5 ca e5 be g3 a8=>?_;subst e5;refine⟨by cases a8;rfl,fun b o aL=>?_⟩;refine be.fr b o aL fun⟨j,bz,_,On⟩=>ic j bz On
 ·rw[DS]at cx;obtain⟨di,s5,rfl⟩:=qB cx rfl;have lR:∀z∈di,b3 K a7 z.2 z.1:=fun z hz=>DR rs z (s5.mem_iff.mp hz);have ev:(di.map fun p=>(key p.1,p.2)).map TU=di.map TU:=by rw[SY];rfl
  rw[ev];have ao:=ag.grown aT;obtain⟨bd,bH,bW,c0,dM⟩:=ao.newO cN (xZ lR);refine q _ gP _ _ (ah (di.map Prod.fst) ?_ ?_) bd bH bW c0 (xZ lR) dM
  ·have:=s5.map Prod.fst;rw[List.map_fst_zip (by lia)]at this;exact this
  ·rw[Va]at cg ⊢;exact cg
section
variable{X:aU}{a:WP}{u bA:bb}{p fL jq pos ir kp:Pos}{params:Xc}{body:WP}{scope:W'}{clos:List (Str×Tl)}{x:Str}{fr:List Str}{js:List Nat}{k:Nat}
theorem DU(am:eF k X.A)(ax:bn X a u)(aD:ep X "sorted")(aB:X.mg "sorted"=none)(LT:oU X.K X.mg X.env.code (X.env.qual++"<lambda>"))(qy:defaultsOf params X.env=([],[]))(gQ:Yu scope X.env=pure clos)(S:tj X x fr js scope clos)(jU:js.Nodup)(mU:∀u pm c ga,XY (kla_fn "<lambda>" (X.env.qual++"<lambda>") params body scope clos pm (.ref c) ga) ⟨[u],[]⟩=pure [(x,u)])(gu:∀f dO s H,bn (qA X X.A.in1.in1 (x::fr) (X.env.qual++"<lambda>") scope clos f dO s H) body bA)(x0:Tk [a] X.env=(false,W7 a X.env)::Tk [] X.env:=by rfl)(ak:W1 pos (Tk [a] X.env)=(false,W7 a X.env)::W1 pos (Tk [] X.env):=by rfl)(dV:(W1 pos (Tk [a] X.env)).any (·.1)=false:=by rfl):
  ib X (.Call (.Name "sorted" p) [a] [⟨some "key",.Lambda params body scope ir,kp⟩] pos) (Ol u bA js):=by
 obtain⟨_,aa,av⟩:=ax;refine⟨_,Oj (Rd:=fun bI=>dR X.K bI bA) am aD aB (eJ aa fH x0) LT qy gQ S mU (fun f dO s H=>gu f dO s H) ak dV,fun ρ aW h R W B H σ Q e q=>?_⟩;refine av ρ _ h R W B H σ _ e fun d v a7 aw aP ag aO aE=>?_;obtain⟨ds,rfl,ah⟩:=aP;obtain⟨l,vs,rfl,ay,rs⟩:=aE.lstV;exact Om jU ag (.inl (ag.bh _ _ ay)) rs ah fun ds a vs af z e bd bH bW c0 dM=>q ds a vs a7 af z e aO bd bH bW c0 dM
end
end L3
namespace L3
open PySem L2 PySem.W PyProof.Rows
def tm(K:YD)(mg:Str->Option SC)(x:Str):Prop:=∀f o fd,mg x=some (.ref f)->K.lookup f=some o->o.data=.func fd->oU K mg fd.code (x++".<locals>."++"<lambda>")
section
variable{P:WF}{w:WU}{K:YD}{mg:Str->Option SC}{base:WY}{x:Str}{st:W0}{N ps:List Str}
theorem Oo{k:Nat}{sp:g7}(F:cW K mg x st ps)(L:tm K mg x)(S:cL N ps (b8 st))(len:∀vs H Q E,sp vs H Q E->vs.length=ps.length)(gu:∀(f:Tl) (cdv:SC) (A:WV) (outer:List Tv) (s:SL) (H:ai) (vs:List V) (Q:cc) (E:fF),oU K mg cdv (x++".<locals>."++"<lambda>")->eF k (A.deeper (X2 x (b8 st) s.heap.objs.size f cdv))->sp vs H Q E->∃t,hq (jD iK P w K mg base N x (b8 st) f cdv A outer s H E).nox (iJ st) t/\t { nx:=fun _ af=>Q .non af,rt:=Q } (L2.start N vs) H):aZ P w K mg base x ps (k+1) sp:=by
 obtain⟨f,fd,m,py,b⟩:=F.ex;refine⟨f,fd,m,py.kp,b,?_⟩;obtain⟨oc,od,kV,doc,pm,an,cdv,ct,osl,rfl,lk,eo⟩:=py.ex;refine zT lk eo S len fun A outer s H vs Q E am lX=>?_;obtain⟨t,h,q⟩:=gu f cdv A outer s H vs Q E (L f _ _ m lk rfl) am lX;exact⟨t,h.nox,q⟩
theorem Op{lv n:Nat}{F:cw}(pF:cW K mg x st ps)(L:tm K mg x)(S:cL N ps (b8 st))(aH:ps.length=n)(gu:∀(f:Tl) (cdv:SC) (A:WV) (outer:List Tv) (s:SL) (H:ai) (E:fF),oU K mg cdv (x++".<locals>."++"<lambda>")->eF lv (A.deeper (Vz x (b8 st) s.heap.objs.size f cdv))->∃u,hD (jD iK P w K mg base N x (b8 st) f cdv A outer s H E).nox (iJ st) u/\∀as k,as.length=n->F as k->u { nx:=fun _=>k (.val .non),rt:=k } (as++SQ (N.length-n) .no)):aZ P w K mg base x ps (lv+1) (a0 K n F):=by
 refine Oo pF L S (fun vs H Q E h=>?_) (fun f cdv A outer s H vs Q E LT am h=>?_)
 ·obtain⟨W,B,as,k,_,ay,_,_,_,el,_⟩:=h;rw[el.length,ay,aH]
 ·obtain⟨W,B,as,k,dA,ay,ae,dL,hw,el,q⟩:=h;obtain⟨u,⟨t,aR,rt⟩,bM⟩:=gu f cdv A outer s H E LT am;have ev:=aX.start (N:=N) (VA ae) dL hw el;rw[ay]at ev;refine⟨t,aR,rt _ _ (bM as k ay dA) H W B H (L2.start N vs) _ ev ⟨fun ρ σ aF af h e g=>?_,fun _ _ _ _ h=>h.elim,fun _ _ _ _ h=>h.elim,fun r v aF af h e g z=>q r v aF af h ⟨e,g,z⟩⟩⟩;exact q _ _ aF af h ⟨e.toWd,g,.non⟩
end
theorem x1{α:Type}{y:Str}{v:α}:∀{l:List (Str×α)},l.lookup y=some v->(y,v)∈l
 | [],h=>by cases h
 | p::l,h=>by
  rw[VL]at h;by_cases e:(y==p.1)=true
  ·rw[e]at h;have:=SM h;have jH:y=p.1:=by simpa using e
   rw[jH,<-this];exact Sv
  ·rw[show(y==p.1)=false from by simpa using e]at h;exact Sw _ (x1 h)
theorem DV{X:aU}{x:Str}{fr:List Str}{js:List Nat}{scope:W'}{clos:List (Str×Tl)}(aa:scope.kind=.function)(ab:scope.isCoroutine=false)(aQ:scope.isGenerator=false)(bB:scope.names.lookup x=some .local)(ek:(scope.names.all fun p=>match p.2 with|.cell=>false|.free=>(clos.lookup p.1).isSome|_=>true)=true)(fO:(clos.map fun p=>X.env.cells.lookup p.1)=clos.map fun p=>some p.2)(r2:(x::fr).Nodup)(x2:(js.map fun j=>X.N[j]?)=fr.map some)(DW:(fr.map fun y=>scope.names.lookup y)=fr.map fun _=>some .free)(Oq:(fr.map fun y=>X.env.kindOf y)=fr.map fun _=>some .cell):tj X x fr js scope clos:=by
 have all:=Ul.mp ek;have at_:∀{α β:Type}{f g:α->β}{l:List α},l.map f=l.map g->∀a∈l,f a=g a:=fun h a m=>List.map_inj_left.mp h a m;refine⟨aa,ab,aQ,bB,fun y aM e=>?_,fun y aM=>?_,fun y c hc=>at_ fO _ (x1 hc),?_,r2,fun i y j aM bz=>?_⟩
 ·have:=all y aM;rw[e]at this;cases this
 ·have:=all _ (x1 aM);exact Vp.mp this
 ·have:=Uf Th x2;simpa using this.symm
 ·have DX:=Tt aM;refine⟨?_,at_ DW y DX,.inl (at_ Oq y DX)⟩;have:=Uf (fun l=>l[i]?) x2;simp only[S7,bz,aM,T5]at this;exact SM this
end L3
namespace L3
open PySem PySem.W L2
def i5(h:WY)(a:Tl):Option Obj:=(h.get? a).filter fun o => !isTab o
def DY(h:WY):YD:=(Te h.objs.size).filterMap fun a=>(i5 h a).map fun o=>(a,o)
def nI(x:Str):Str:=x++".<locals>."++"<lambda>"
def qE(P:Tl)(q:Str):Obj:=⟨.none,none,.fields #[.ref P,.str q 0],#[]⟩
def x3(h:WY)(cR:List Str):YD:=cR.filterMap fun x=>(i9 h x).map fun P=>(TW,qE P (nI x))
def kK(h:WY)(cR:List Str):YD:=DY h++x3 h cR
theorem nJ{h:WY}{a:Tl}{o:Obj}(e:h.get? a=some o)(n:isTab o=false):i5 h a=some o:=by simp[i5,e,n,Option.filter]
theorem x4{h:WY}{a:Tl}{o:Obj}(e:i5 h a=some o):h.get? a=some o:=by
 unfold i5 at e;exact(Option.filter_eq_some_iff.mp e).1
theorem Os(h:WY)(a:Tl):(DY h).lookup a=i5 h a:=by
 refine(BC (i5 h) a _).trans ?_;by_cases e:a<h.objs.size
 ·rw[TI (Ug.mpr e)]
 ·rw[TT (fun z=>e (Ug.mp z))];simp[i5,Heap.get?_none_of_le (Nat.le_of_not_lt e)]
theorem x5{h:WY}{a:Tl}(n:a≠TW):∀cR:List Str,(x3 h cR).lookup a=none
 | []=>rfl
 | x::cR=>by
  unfold x3;cases q:i9 h x with
  | none =>
   rw[Wo (by rw[q];rfl)];exact x5 n cR
  | some P =>
   rw[Wq (b:=(TW,qE P (nI x))) (by rw[q];rfl),VL];have:(a==TW)=false:=by simpa using n
   rw[this];exact x5 n cR
theorem Ot{h:WY}{cR:List Str}{h2:Obj}(aB:i5 h TW=some h2)(a:Tl):(kK h cR).lookup a=i5 h a:=by
 unfold kK;rw[List.lookup_append,Os];by_cases e:a=TW
 ·subst e;rw[aB];rfl
 ·rw[x5 e];simp
section
variable{h:WY}{K:YD}(cF:∀a,K.lookup a=i5 h a)
include cF
theorem nK{name:Str}{r:Option SC}(e:i8 h name=some r):nsIn K TW name=some r:=by
 unfold i8 at e;split at e
 ·rename_i es c3 sl aA
  unfold nsIn;rw[cF,nJ aA rfl];exact e
 ·cases e
theorem Ou{dO:SC}{q:Str}(e:tU h dO q=true):codeIn K dO q=true:=by
 unfold tU at e;split at e
 ·split at e
  ·rename_i c bm qF vs sl aA
   split at e
   ·rename_i x n t r a'
    have c':isTab ⟨bm,qF,.fields vs,sl⟩=false:=by
     have:vs.isEmpty=false:=by
      cases z:vs.isEmpty with
      | false=>rfl
      | true =>
       rw[Vb]at z;rw[z]at a';cases a'
     unfold isTab;simp only[this];rfl
    unfold codeIn;simp only[cF,nJ aA c',a'];exact e
   ·cases e
  ·cases e
 ·cases e
theorem Ov{x:Str}{st:W0}(e:tV h x=tW x st):si K x st:=by
 unfold tV at e;split at e
 ·rename_i f bG
  split at e
  ·rename_i oc od fd osl aA
   obtain⟨zi,zz,ps,abZ,sc,qG,bm,x6,Ow,doc,pm,an,cdv,ct,ab0⟩:=fd;rw[wV]at e;simp only[Vc,Uu]at e;obtain⟨rfl,rfl,rfl,rfl,rfl,rfl,rfl,rfl,rfl,e⟩:=e;have lk:=(cF f).trans (nJ aA rfl);refine⟨f,_,nK cF bG,Jb (oc:=oc) (od:=od) (osl:=osl) (kV:=Ow) (doc:=doc) (pm:=pm) (an:=an) (cdv:=cdv) (ct:=ct) lk (Ou cF e) ?_⟩;unfold keepIn;simp only[lk]
  ·rw[wV]at e;cases e
 ·rw[wV]at e;cases e
theorem Ox{x:Str}{i j:Int}(e:tX h x=some (x,i,j)):BE K x i j:=by
 unfold tX at e;split at e
 ·rename_i p aq
  split at e
  ·rename_i od its n sl aA
   split at e
   ·rename_i iX hu iW sj aC
    simp only[Vc,Uu]at e;obtain⟨_,rfl,rfl⟩:=e;have er:its = #[.int iX hu,.int iW sj]:=Array.toList_inj.mp aC;subst er;exact⟨p,od,sl,n,hu,sj,nK cF aq,(cF p).trans (nJ aA rfl)⟩
   ·cases e
  ·cases e
 ·cases e
theorem Oy{x:Str}{c:Int ⊕ Str}(e:tY h x=some (x,c)):BG K x c:=by
 unfold tY at e;split at e
 ·rename_i i t aq
  simp only[Vc,Uu]at e;obtain⟨_,rfl⟩:=e;exact⟨t,nK cF aq⟩
 ·rename_i i t aq
  simp only[Vc,Uu]at e;obtain⟨_,rfl⟩:=e;exact⟨t,nK cF aq⟩
 ·cases e
theorem tab_of{t:jA}{w:WU}{s:SL}(ak:s.heap=h)(e:tZ t s=t0 t w):Tab t K:=by
 subst ak;simp only[tZ,t0,Uu]at e;obtain⟨ag,ao,be,ci⟩:=e;refine⟨?_,?_,?_,?_⟩
 ·generalize t.fs=l at ag;induction l with
  | nil=>trivial
  | cons p l bR =>
   simp only[SV,UO]at ag;exact⟨Ov cF ag.1,bR ag.2⟩
 ·generalize t.bs=l at ao;induction l with
  | nil=>trivial
  | cons p l bR =>
   simp only[SV,UO]at ao;exact⟨nK cF ao.1,bR ao.2⟩
 ·generalize t.ts=l at be;induction l with
  | nil=>trivial
  | cons p l bR =>
   simp only[SV,UO]at be;exact⟨Ox cF be.1,bR be.2⟩
 ·generalize t.cs=l at ci;induction l with
  | nil=>trivial
  | cons p l bR =>
   simp only[SV,UO]at ci;exact⟨Oy cF ci.1,bR ci.2⟩
end
theorem Oz{o:Obj}(e:isTab o=true):o={ cls:=.none,data:=.fields #[] }:=by
 obtain⟨bm,qF,DZ,sl⟩:=o;unfold isTab at e;split at e
 ·rename_i vs a'
  have OA:DZ=.fields vs:=a';subst OA;rw[Tu,Tu]at e;obtain⟨⟨ag,ao⟩,be⟩:=e;rw[Vb]at ag;have p0:sl = #[]:=Vb.mp ao;subst ag p0;split at be
  ·rename_i aa ab
   have pS:bm=.none:=aa;have pT:qF=none:=ab;subst pS pT;rfl
  ·cases be
 ·cases e
theorem D0{h:WY}{x:Str}{P:Tl}(e:i9 h x=some P):∃f of fd c oc,i8 h x=some (some (.ref f))/\h.get? f=some of/\of.data=.func fd/\fd.code=.ref c/\h.get? c=some oc/\isTab oc=false /\
  ∀ab:WY,ab.get? c=some oc->CodeHd ab c P/\isCodeTable ab P:=by
 unfold i9 at e;split at e
 ·rename_i f bG
  split at e
  ·rename_i bm qF fd sl aA
   split at e
   ·rename_i c hc
    split at e
    ·rename_i ab1 vs ab2 nY
     split at e
     ·rename_i ab3 fl tf OB a6 b OC tt lp x7 nL OD p3
      split at e
      ·cases e
      ·rename_i ne
       cases e;have OE:vs.getD 11 .none=.ref P:=by rw[Array.getD_eq_getD_getElem?,lp];rfl
       refine⟨f,_,fd,c,_,bG,aA,rfl,hc,nY,?_,fun ab q=>⟨⟨_,vs,fl,tf,OB,a6,b,OC,tt,q,rfl,rfl,lp,OE,x7,nL,OD,p3,ne⟩,c,_,vs,q,rfl,rfl,lp⟩⟩
       have:vs.isEmpty=false:=by
        cases z:vs.isEmpty with
        | false=>rfl
        | true =>
         rw[Vb]at z;rw[z]at lp;cases lp
       unfold isTab;simp only[this];rfl
     ·cases e
    ·cases e
   ·cases e
  ·cases e
 ·cases e
theorem x8{h:WY}{eh:Tl}(e:q7 h=some eh):∃o,i8 h "__builtins__"=some (some (.ref eh))/\h.get? eh=some o/\isTab o=false/\o.cls=.type "module"/\o.dict=some Xa/\o.data=.plain:=by
 unfold q7 at e;split at e
 ·rename_i b ae
  split at e
  ·rename_i d sl aA
   split at e
   ·rename_i z
    cases e;subst z;exact⟨_,ae,aA,rfl,rfl,rfl,rfl⟩
   ·cases e
  ·cases e
 ·cases e
structure nM (h:WY) (cR:List Str) (eh:Tl):Prop where
 m:q7 h=some eh
 b:eh≠Xa
 g:eh≠TW
 t:∀x∈cR,∃P,i9 h x=some P/\P≠TW/\P≠eh/\h.get? P=some { cls:=.none,data:=.fields #[] }/\(cR.find? fun y=>i9 h y==some P)=some x
theorem OF{h:WY}{cR:List Str}(e:t1 h cR=true):∃eh,nM h cR eh:=by
 unfold t1 at e;split at e
 ·rename_i eh aB
  rw[Tu,Tu]at e;obtain⟨⟨ag,ao⟩,be⟩:=e;refine⟨eh,aB,by simpa using ag,by simpa using ao,fun x aj=>?_⟩;have ex:=Ul.mp be x aj;unfold zf at ex;rw[Tu]at ex;obtain⟨ci,eL⟩:=ex;split at ci
  ·rename_i P da
   rw[Tu,Tu]at ci;obtain⟨⟨ls,nL⟩,x9⟩:=ci;split at x9
   ·rename_i o aA
    refine⟨P,da,by simpa using ls,by simpa using nL,by rw[aA,Oz x9],?_⟩;rw[da]at eL;exact eq_of_beq eL
   ·cases x9
  ·cases ci
 ·cases e
theorem D1{h:WY}{x:Str}{r:Option SC}(e:i8 h x=some r):∃o,h.get? TW=some o/\isTab o=false/\∀vs,o.data≠.fields vs:=by
 unfold i8 at e;split at e
 ·rename_i aA
  exact⟨_,aA,rfl,fun vs z=>by cases z⟩
 ·cases e
def x'(K:YD)(x:Str):Prop:=∀(h:WY)(mg:Str->Option SC),K.In h->h.Ns TW mg->tm K mg x
section
variable{h:WY}{cR:List Str}{eh:Tl}(L:nM h cR eh)
include L
theorem nM.at(a:Tl):(kK h cR).lookup a=i5 h a:=by
 obtain⟨o,ae,_⟩:=x8 L.m;obtain⟨h2,e,n,_⟩:=D1 ae;exact Ot (nJ e n) a
theorem nM.inn:(kK h cR).In h:=fun a o e=>x4 ((L.at a).symm.trans e)
theorem nM.lad{x:Str}(aj:x∈cR):x' (kK h cR) x:=by
 intro ab mg X G f o fd aB lk hd;obtain⟨P,mz,nP,ic,da,_⟩:=L.t x aj;obtain⟨ab4,of,ab5,c,oc,ag,ao,be,ci,eL,ls,nL⟩:=D0 mz;obtain⟨cf,dw,d4,jO,op,OG,OH⟩:=x8 L.m;have bF:=mg_of X G (nK L.at ag);have bS:=mg_of X G (nK L.at dw);rw[aB]at bF;cases bF;have q:=x4 ((L.at f).symm.trans lk);rw[ao]at q;cases q;rw[be]at hd;cases hd;have eO:∀ab:WY,(kK h cR).In ab->ab.get? c=some oc:=fun ab X=>X _ _ ((L.at c).trans (nJ eL ls));refine⟨c,P,ci,?_,fun z=>nP z.symm,fun aQ ya=>(nL aQ (eO aQ ya)).1,fun aQ ya=>⟨eh,cf,bS,L.b,L.g,fun z=>ic z.symm,ya _ _ ((L.at eh).trans (nJ d4 jO)),op,OG,OH⟩⟩;refine TH.mpr ⟨(TW,qE P (nI x)),SN _ (TH.mpr ⟨x,aj,by rw[mz];rfl⟩),?_⟩;simp[qE,nI]
theorem nM.marked{p:Tl×Str}(aq:p∈uQ (kK h cR)):∃x∈cR,i9 h x=some p.1/\p.2=nI x:=by
 obtain⟨⟨b,cf⟩,mem,e⟩:=TH.mp aq;rcases SI.mp mem with m|m
 ·obtain⟨a,_,q⟩:=TH.mp m;obtain⟨ey,e8,lE⟩:=Ut.mp q;cases lE;have g:=x4 e8;obtain⟨_,ae,_⟩:=x8 L.m;obtain⟨h2,ag,_,be⟩:=D1 ae;obtain⟨bm,qF,DZ,sl⟩:=cf;split at e
  ·rename_i dh
   cases dh;split at e
   ·split at e
    ·rename_i z
     rw[z,ag]at g;cases g;exact absurd rfl (be _)
    ·cases e
   ·cases e
  ·cases e
 ·obtain⟨x,aj,q⟩:=TH.mp m;obtain⟨P,e8,lE⟩:=Ut.mp q;cases lE;simp[qE]at e;exact⟨x,aj,by rw[e8,<-e],by rw[<-e]⟩
end
def T0(h:WY)(cR:List Str):ai:=fun b=>(cR.find? fun y=>i9 h y==some b).map fun x=>.tbl #[.str (nI x) 0]
def saysL(t:jA)(cR:List Str)(_:WU)(h:WY):Prop:=∃(aa:WY)(eh:Tl),(∀b o,aa.get? b=some o->h.get? b=some o)/\nM aa cR eh/\Tab t (kK aa cR)
theorem ofL(t:jA)(cR:List Str)(w:WU)(s:SL)(e:pb t cR s=pc t w):saysL t cR w s.heap:=by
 simp only[pb,pc,Uu]at e;obtain⟨eh,L⟩:=OF e.2;exact⟨s.heap,eh,fun _ _ e=>e,L,tab_of L.at rfl e.1⟩
theorem keepsL(t:jA)(cR:List Str)(w:WU)(h h':WY)(y:saysL t cR w h)(k:∀b o,h.get? b=some o->h'.get? b=some o):saysL t cR w h':=by
 obtain⟨aa,eh,x,r⟩:=y;exact⟨aa,eh,fun b o e=>k _ _ (x _ _ e),r⟩
theorem walkL{l:OpenLaw}{k:Nat}{q:WF}{loose:List Str}{XP:(Str->Option SC)->WY->Prop}{t:jA}{cR:List Str}{d:DefRec}(aH:l.most=some 63)(vr:d.params.defaults=[])(am:eF k Yt)(F:∀(w:WU) (K:YD) (mg:Str->Option SC) (et:Tl) (h:WY),(∀x∈cR,x' K x)->Tab t K->K.In h->h.Ns TW mg->mg d.name=some (.ref et)->∃fd:Xf,(∀(s:SL) (u:SC),YG s fd ⟨[u],[]⟩ [("_law_script",u)])/\∀base:WY,K.In base->base.Ns TW mg->h8 l.prog w K mg base iK k et fd ["_law_script"] (r0 K)):
  WalkO q loose XP (saysL t cR) l.row.toRowW d [] (fun f vs=>PySem.call f vs):=by
 refine Att.attach_call aH vr fun w s₀ c4 mg fE et o pm dO doc a vs ns G Y aA hd eo pw vt hints d9 aD=>?_;obtain⟨aa,eh,yb,L,T⟩:=Y;have lY:(kK aa cR).In c4.heap:=L.inn.keeps yb;obtain⟨fd,ae,dA⟩:=F w (kK aa cR) mg et _ (fun x aj=>L.lad aj) T lY G.T.g pw;refine I6 lY G.T.g G.T.b G.T.builtins G.T.nolimit aD vt hints (SA d9 (by decide)) am dA ae (T0 aa cR) (fun b u z=>?_) (fun p aq=>?_) (fun H rx dH=>⟨a,ns,rfl,dH,d9,fun _=>rfl⟩) fun H e s' z=>z
 ·obtain⟨x,ag,rfl⟩:=Ut.mp z;have aj:=List.mem_of_find?_eq_some ag;have tb:i9 aa x=some b:=by simpa using List.find?_some ag
  obtain⟨P,mz,_,_,da,_⟩:=L.t x aj;rw[tb]at mz;cases mz;obtain⟨_,_,_,c,oc,_,_,_,_,eL,_,nL⟩:=D0 tb;refine⟨⟨_,rfl⟩,yb _ _ da,?_,(nL _ (yb _ _ eL)).2⟩;rw[L.at];unfold i5;rw[da];rfl
 ·obtain⟨x,aj,ag,ao⟩:=L.marked aq;obtain⟨P,mz,_,_,_,fx⟩:=L.t x aj;rw[ag]at mz;cases mz;refine⟨#[.str (nI x) 0],0,?_,by rw[ao];rfl⟩;unfold T0;rw[fx];rfl
end L3
namespace L3
open PySem L2
abbrev qH:=List aI->(D->List aI->Prop)->Prop
def OI(K:Su)(t:bN)(u:qH):Prop:=∀(ρ:List aI)(k:D->List aI->Prop),u ρ k->∀(R:ai)(W:Tl->Prop)(B H:ai)(σ:St)(Q:cc),aX K R W B H σ ρ ->
 (∀d v bf aF af,k d bf->aX K R W aF af σ bf->bJ R B aF->b3 K aF v d->Q v af)->t σ H Q
def D2(X:aU)(e:WP)(u:qH):Prop:=∃t,b5 X e t/\OI X.K t u
def tn(i:Nat)(u:qH):cM:=fun U ρ=>(∃ds:List D,ρ[i]?=some (.own ds))/\u ρ fun d bf=>∃ds:List D,bf[i]?=some (.own ds)/\ds.length<SZ/\U.nx (bf.set i (.own (ds++[d])))
def tq(j:Nat):qH:=fun ρ k=>∃(ds:List D)(z:D),ρ[j]?=some (.own (ds++[z]))/\k z (ρ.set j (.own ds))
section
variable{X:aU}{e:WP}{u:qH}{pos:Pos}
theorem OJ(i:Nat){x:Str}{dy gg eb:Pos}(au:D2 X e u)(cd:X.N[i]?=some x:=by rfl)(a':iF X.env.scope x:=by first|exact Ss rfl|exact SF (Ss rfl)|exact SF (SF rfl))(hd:(x==("__debug__":Str))=false:=by decide)(eo:(x==("__classdict__":Str))=false:=by decide)(jE:Xm (.Name x dy) "append" X.env (W7 (.Name x dy) X.env)=W7 (.Name x dy) X.env:=by rfl)(mR:((W1 eb (Tk [e] X.env)).all (fun x => !x.1)&&(YI eb (X8 [] X.env)).all (fun x=>x.1.isSome)
   && decide ([e].length+([]:List X9).length+(if([]:List X9).isEmpty then 0 else 1)<30))=true:=by rfl)(jF:(gg.endLine==eb.line)=true:=by rfl)(ak:Tk [e] X.env=(false,W7 e X.env)::Tk [] X.env:=by rfl)(mS:(W1 eb (Tk ([]:List WP) X.env)).any (·.1)=false:=by rfl)(le:Xj (.Call (.Attribute (.Name x dy) "append" gg) [e] [] eb) none pos.line X.env=pure false:=by rfl):fe X (.Expr (.Call (.Attribute (.Name x dy) "append" gg) [e] [] eb) pos) (tn i u):=by
 obtain⟨_,aa,av⟩:=au;refine⟨_,uW (vm U1 Wc We rv (ki cd a' hd eo) (eJ aa fH ak) jE mR jF ak mS) le,fun U ρ h R W B H σ D e s=>?_⟩;obtain⟨⟨ds,aA⟩,h⟩:=h;obtain⟨a,vs,ag,ao,be,ci,eL⟩:=e.ownAt aA;refine⟨_,ag,.inl ⟨rfl,vs,cl.of ci⟩,?_⟩;refine av ρ _ h R W B H σ _ e fun d v bf a7 aw aP bd aO aE=>?_;obtain⟨ds',kc,ay,aP⟩:=aP;obtain⟨iH,m7,bT,bP,eN,eC,kA⟩:=bd.ownAt kc;rw[ag]at bT;cases bT;exact⟨a,m7,v,rfl,rfl,eC,by rw[kA.length];exact ay,s.nx _ _ a7 _ aP (bd.write ag kc (kA.append (.cons aE .nil))) aO⟩
theorem OK(j:Nat){x:Str}{dy gg eb:Pos}(bz:X.N[j]?=some x:=by rfl)(a':iF X.env.scope x:=by first|exact Ss rfl|exact SF (Ss rfl)|exact SF (SF rfl))(hd:(x==("__debug__":Str))=false:=by decide)(eo:(x==("__classdict__":Str))=false:=by decide)(jE:Xm (.Name x dy) "pop" X.env (W7 (.Name x dy) X.env)=W7 (.Name x dy) X.env:=by rfl)(jF:(gg.endLine==eb.line)=true:=by rfl):D2 X (.Call (.Attribute (.Name x dy) "pop" gg) [] [] eb) (tq j):=by
 refine⟨_,IP U1 PySem.F.slot_list_pop PySem.F.type_list_pop IX (ki bz a' hd eo) jE jF,fun ρ k h R W B H σ Q f q=>?_⟩;obtain⟨ds,z,aA,h⟩:=h;obtain⟨a,vs,aN,a3,cE,e8,lE⟩:=f.ownAt aA;have ll:=lE.length;rw[SE,TM]at ll;obtain⟨hC,vo,cm⟩:=lE.get (i:=ds.length) (d:=z) (by simp);refine⟨_,aN,.inl ⟨rfl,vs,cl.of e8⟩,a,vs,hC,rfl,rfl,e8,by rw[ll];exact vo,?_⟩
 have bW:=f.write aN aA (ds':=ds) (vs:=vs.dropLast) (by
  have:=lE.dropLast
  rwa [List.dropLast_concat]at this)
 exact q _ _ _ B _ h bW (bJ.refl _ _) cm
end
def tr(i:Nat)(s:cM):cM:=fun U ρ=>(∃ds:List D,ρ[i]?=some (.own ds)/\s U (ρ.set i (.val (.lst ds))))∨((∃d,ρ[i]?=some (.val d))/\s U ρ)
def D3(i:Nat):c5:=fun ρ k=>∃ds:List D,ρ[i]?=some (.own ds)/\k (!ds.isEmpty)
section
variable{X:aU}
theorem D4{st:List W0}{s:cM}(i:Nat)(h:hD X st s):hD X st (tr i s):=by
 obtain⟨_,aa,av⟩:=h;refine⟨_,aa,fun U ρ h R W B H σ D e en=>?_⟩;rcases h with⟨ds,aA,z⟩|⟨_,z⟩
 ·obtain⟨aF,bq,g⟩:=e.fz aA;exact av U _ z R W aF H σ D bq (en.grow g)
 ·exact av U _ z R W B H σ D e en
theorem OL(i:Nat){x:Str}{dy:Pos}(cd:X.N[i]?=some x:=by rfl)(a':iF X.env.scope x:=by first|exact Ss rfl|exact SF (Ss rfl)|exact SF (SF rfl))(hd:(x==("__debug__":Str))=false:=by decide)(eo:(x==("__classdict__":Str))=false:=by decide)(au:∀ho,Yb (.Name x dy) X.env ho=(do let v <-ho;X6 (Expr.Name x dy).pos;XO [v] (YL v)):=by intro _;rfl):gj X (.Name x dy) (D3 i):=by
 refine⟨_,zI (ki cd a' hd eo) au,fun ρ k h R W B H σ Q e q=>?_⟩;obtain⟨ds,aA,ah⟩:=h;obtain⟨a,vs,aN,a3,cE,e8,rs⟩:=e.ownAt aA;refine⟨_,aN,!vs.isEmpty,.inl ⟨vs,cl.of e8,rfl⟩,q _ B H ?_ e (bJ.refl _ _)⟩
 have:vs.isEmpty=ds.isEmpty:=by
  have ay:=rs.length;cases vs with
  | nil=>cases ds with
   | nil=>rfl
   | cons d ds=>simp at ay
  | cons v vs=>cases ds with
   | nil=>simp at ay
   | cons d ds=>rfl
 rw[this];exact ah
end
end L3
namespace Cut
open L3
abbrev dq:=Int×Int×Int×Int×D
def ov(r o:dq):Bool:=decide (o.1<r.2.1)&&(decide (r.1<o.2.1)&&(decide (o.2.2.1<r.2.2.2.1)&&decide (r.2.2.1<o.2.2.2.1)))
def j5(r:dq)(near aG:List dq):List dq:=near.filter (fun o=>decide (r.1<o.2.1))++aG.takeWhile fun o=>decide (o.1<r.2.1)
def oX:List dq->List dq->List dq->List (dq×dq)
 | [],_,_=>[]
 | r::rs,near,aG=>((j5 r near aG).filter (ov r)).map (fun o=>(r,o))++oX rs (j5 r near aG) (aG.dropWhile fun o=>decide (o.1<r.2.1))
theorem D5{h:Int}:∀{aG:List dq},aG.Pairwise (fun a b=>a.1<=b.1)->∀o∈aG.dropWhile (fun o=>decide (o.1<h)),h<=o.1
 | [],_,o,m=>by cases m
 | u::aG,p,o,m=>by
  obtain⟨cx,cg⟩:=Wz.mp p;rw[WA]at m;by_cases e:u.1<h
  ·rw[TI (by simpa using e)]at m;exact D5 cg o m
  ·rw[TT (by simpa using e)]at m;rcases Sy.mp m with rfl|m
   ·lia
   ·have:=cx o m;lia
theorem D6{α:Type}{f:α->Bool}{l:List α}(h:∀x∈l,f x=false):l.filter f=[]:=Ww.mpr fun x aj=>by rw[h x aj];simp
theorem OM{r o:dq}(h:r.2.1<=o.1):ov r o=false:=by
 unfold ov;rw[show decide (o.1<r.2.1)=false from WS (by lia)];rfl
theorem D7{r o:dq}(h:o.2.1<=r.1):ov r o=false:=by
 unfold ov;rw[show decide (r.1<o.2.1)=false from WS (by lia)];simp
theorem D8{all:List dq}:∀{rs near aG gone:List dq},rs.Pairwise (fun a b=>a.1<=b.1)->aG.Pairwise (fun a b=>a.1<=b.1)->(near++aG++gone).Perm all->(∀d∈gone,∀r∈rs,d.2.1<=r.1) ->
  (oX rs near aG).Perm (rs.flatMap fun r=>(all.filter (ov r)).map fun o=>(r,o))
 | [],_,_,_,_,_,_,_=>.nil
 | r::rs,near,aG,gone,wL,jc,iI,aD=>by
  obtain⟨av,aK⟩:=Wz.mp wL;have ON:=D5 (h:=r.2.1) jc;let cv:=near.filter fun o=>decide (r.1<o.2.1)
  let cD:=near.filter fun o => !decide (r.1<o.2.1)
  have split:(cv++cD).Perm near:=List.filter_append_perm _ _
  have OO:aG.takeWhile (fun o=>decide (o.1<r.2.1))++aG.dropWhile (fun o=>decide (o.1<r.2.1))=aG:=WB
  have g0:∀d∈cD,d.2.1<=r.1:=fun d hd=>by
   have:=(Tw.mp hd).2;have:¬r.1<d.2.1:=by simpa using this
   lia
  rw[TV];show(((j5 r near aG).filter (ov r)).map (fun o=>(r,o))++oX rs (j5 r near aG) (aG.dropWhile fun o=>decide (o.1<r.2.1))).Perm _
  have full:(j5 r near aG++aG.dropWhile (fun o=>decide (o.1<r.2.1))++(cD++gone)).Perm all:=by
   refine VT ?_ iI;show((cv++aG.takeWhile (fun o=>decide (o.1<r.2.1)))++aG.dropWhile (fun o=>decide (o.1<r.2.1))++(cD++gone)).Perm _
   rw[SR cv,OO,<-SR,SR cv];refine WC _ ?_;refine VT (List.Perm.append_left cv List.perm_append_comm) ?_;rw[<-SR];exact WC _ split
  refine List.Perm.append ?_ (D8 aK (jc.sublist (List.dropWhile_sublist _)) full fun d hd q aL=>?_)
  ·refine List.Perm.map _ ?_;have:=full.filter (ov r);rw[UN,UN,D6 (l:=aG.dropWhile _) fun o aA=>OM (ON o aA),D6 (l:=cD++gone) fun o aA=>?_,SG,SG]at this
   ·exact this
   ·rcases SI.mp aA with h|h
    ·exact D7 (g0 o h)
    ·exact D7 (aD o h r Sv)
  ·rcases SI.mp hd with h|h
   ·have:=g0 d h;have:=av q aL;lia
   ·exact aD d h q (Sw _ aL)
end Cut
namespace Cut
open PySem L2 L3
open PySem.Builtin.Int (intBits)
structure kL (m:Nat) (D:Int) (G:P3->Prop):Prop where
 b:∀g,G g->cp m g
 n:∀g,G g->g.1≠0∨g.2.1≠0∨g.2.2≠0
 d:∀g h,G g->G h->(crs g h).2.2≠0->(crs g h).2.2∣D
structure hl (b:Nat) (D:Int) (G:P3->Prop) (ps:List P3):Prop where
 pts:∀x∈ps,cq b x/\x.2.2∣D
 lin:∀e∈bi ps,∃g,G g/\ln g e.1=0/\ln g e.2=0
theorem D9(a:Int)(l u:P3):ln (sc a l) u=a*ln l u:=by unfold ln sc;dsimp only;grind
theorem D'(c:Int)(p q:P3):crs (sc c p) q=sc c (crs p q):=by
 refine i1 ?_ ?_ ?_<;>simp only[crs,sc]<;>grind
theorem OP{l w g:P3}{a b:Int}(ax:a≠0)(ae:b≠0)(e:sc a w=sc b g)(n:(crs w l).2.2≠0):(crs g l).2.2≠0/\nP (crs w l)=nP (crs g l):=by
 have ag:sc a (crs w l)=sc b (crs g l):=by rw[<-D',e,D']
 have aQ:a*(crs w l).2.2=b*(crs g l).2.2:=Uf (fun x:P3=>x.2.2) ag
 have cN:(crs g l).2.2≠0:=fun z=>by
  rw[z,SW]at aQ;rcases Tr.mp aQ with y|y<;>contradiction
 refine⟨cN,?_⟩;obtain⟨c,h1,hc⟩:=np cN;have ao:sc a (crs w l)=sc (b*c) (nP (crs g l)):=by rw[ag,<-Bb,<-hc]
 exact(r7 ax (fun z=>by rcases Tr.mp z with y|y<;>contradiction) (ji cN) ao).2
theorem Ea{p:P3}(h:p.2.2≠0):(nP p).2.2∣p.2.2:=by
 obtain⟨g,_,e⟩:=np h;have:p.2.2=g*(nP p).2.2:=Uf (fun x:P3=>x.2.2) e;exact⟨g,by rw[this];exact SX ..⟩
theorem hl.cut{m b:Nat}{D:Int}{G:P3->Prop}{ps:List P3}(s:kL m D G)(h:hl b D G ps){l g0:P3}{a c:Int}(aD:G g0)(ax:a≠0)(hc:c≠0)(dW:sc a l=sc c g0)(o:P3)(aA:ln l o=0)(aB:m+m+1<=b)(l':P3)(e:l'=l∨l'=fQ l):hl b D G (cr (ln l') (bv l) ps):=by
 have cO:hi l' (bv l):=by
  rcases e with rfl|rfl
  ·exact gU _
  ·exact(gU _).ng
 have yc:∀u,ln l' u=0↔ln l u=0:=fun u=>by
  rcases e with rfl|rfl
  ·exact Iff.rfl
  ·rw[f8];lia
 have qI:∀u,ln l u=0->ln g0 u=0:=fun u z=>by
  have:=Uf (fun x=>ln x u) dW;rw[show ln (sc a l) u=a*ln l u from D9 ..,show ln (sc c g0) u=c*ln g0 u from D9 ..,z,SW]at this;exact(Tr.mp this.symm).resolve_left hc
 have gv:∀p q,ln l' p*ln l' q<0->ln l p*ln l q<0:=fun p q z=>by
  rcases e with rfl|rfl
  ·exact z
  ·rw[f8,f8,T9]at z;exact z
 refine⟨fun x aj=>?_,xp (f:=ln l') (mt:=bv l) (ps:=ps) (C:=fun u v=>∃g:P3,G g/\ln g u=0/\ln g v=0) (fun u v bM a'=>⟨g0,aD,qI u ((yc u).mp bM),qI v ((yc v).mp a')⟩) o ((yc o).mpr aA) (fun e au _ _=>h.lin e au) fun e au c=>?_⟩
 ·rcases C5 aj with⟨aa,_⟩|⟨e,au,c,rfl⟩
  ·exact h.pts x aa
  ·have c:=gv _ _ c;obtain⟨bF,bS⟩:=iq au;have gp:=(h.pts _ bF).1.pt;have lD:=(h.pts _ bS).1.pt;have cD:=sM gp lD c;obtain⟨g,eZ,iu,iv⟩:=h.lin e au
   have OQ:(crs e.1 e.2).1≠0∨(crs e.1 e.2).2.1≠0∨(crs e.1 e.2).2.2≠0:=by
    apply Tn;intro z;refine cD ?_;have aP:(crs e.1 e.2).1=0:=Tn fun y=>z (.inl y);have bc:(crs e.1 e.2).2.1=0:=Tn fun y=>z (.inr (.inl y));show l.1*(crs e.1 e.2).2.1-l.2.1*(crs e.1 e.2).1=0
    rw[aP,bc];grind
   obtain⟨iH,l0,qJ,ae,e7⟩:=par (s.n g eZ) iu iv OQ;obtain⟨cN,ao⟩:=Nd (l:=l) qJ ae e7 cD;obtain⟨gK,be⟩:=OP (l:=g) ax hc dW cN;rw[<-sL gp lD,ao,be];exact⟨⟨ji gK,(cp.nP ((s.b _ aD).crs (s.b _ eZ)) gK).mono aB⟩,Tg (Ea gK) (s.d _ _ aD eZ gK)⟩
 ·obtain⟨g,eZ,iu,iv⟩:=h.lin e au;obtain⟨tu,z⟩:=cO _ _ c;exact⟨z,fun _=>⟨g,eZ,iu,tu.ln0 iu iv⟩,fun _=>⟨g,eZ,tu.ln0 iu iv,iv⟩⟩
def fx(g h:P3):Int:=if(crs g h).2.2=0 then 1 else(crs g h).2.2
def qK(g:P3):List P3->Int
 | []=>1
 | h::r=>fx g h*qK g r
def kM:List P3->Int
 | []=>6
 | g::r=>qK g r*kM r
theorem OR(g h:P3):fx g h≠0:=by
 unfold fx;split
 ·decide
 ·assumption
theorem Eb(g:P3):∀r,qK g r≠0
 | []=>(show(1:Int)≠0 by decide)
 | h::r=>fun z=>by
  rcases Tr.mp z with y|y
  ·exact OR _ _ y
  ·exact Eb g r y
theorem Ec:∀r,kM r≠0
 | []=>by decide
 | g::r=>fun z=>by
  rcases Tr.mp z with y|y
  ·exact Eb _ _ y
  ·exact Ec r y
theorem yd:∀r,(6:Int)∣kM r
 | []=>Int.dvd_refl _
 | g::r=>Tg (yd r) (UP _ _)
theorem ye{g h:P3}:∀{r:List P3},h∈r->fx g h∣qK g r
 | k::r,m=>by
  rcases Sy.mp m with rfl|m
  ·exact VU _ _
  ·exact Tg (ye m) (UP _ _)
theorem Ed(g h:P3):(crs g h).2.2 = -(crs h g).2.2:=by unfold crs;dsimp only;grind
theorem Ee{g h:P3}:∀{r:List P3},g∈r->h∈r->(crs g h).2.2≠0->(crs g h).2.2∣kM r
 | k::r,bo,bu,n=>by
  rcases Sy.mp bo with rfl|bF
  ·rcases Sy.mp bu with rfl|bS
   ·exact absurd (by unfold crs;dsimp only;grind) n
   ·have:=ye (g:=g) bS;unfold fx at this;rw[TT n]at this;exact Tg this (VU _ _)
  ·rcases Sy.mp bu with rfl|bS
   ·have:=ye (g:=h) bF;have gI:(crs h g).2.2≠0:=fun z=>n (by rw[Ed,z];rfl);unfold fx at this;rw[TT gI]at this;rw[Ed];exact Tg (Int.neg_dvd.mpr this) (VU _ _)
   ·exact Tg (Ee bF bS n) (UP _ _)
theorem OS{m:Nat}{g h:P3}(aD:cp m g)(dh:cp m h):TE (fx g h)<=m+m+1:=by
 unfold fx;split
 ·exact SA (show TE 1<=1 by decide) (by lia)
 ·exact(aD.crs dh).c
theorem Ef{m:Nat}{g:P3}(aD:cp m g):∀{r:List P3},(∀h∈r,cp m h)->TE (qK g r)<=r.length*(m+m+1)+1
 | [],_=>SA (show TE 1<=1 by decide) (by lia)
 | h::r,a=>by
  refine SA (UF (OS aD (a h Sv)) (Ef aD fun k z=>a k (Sw _ z))) ?_;rw[SO,Nat.add_mul];lia
def qL(n m:Nat):Nat:=match n with
 | 0=>3
 | n+1=>n*(m+m+1)+1+qL n m
theorem Eg{m:Nat}:∀{r:List P3},(∀h∈r,cp m h)->TE (kM r)<=qL r.length m
 | [],_=>(show TE 6<=3 by decide)
 | g::r,a=>UF (Ef (a g Sv) fun k z=>a k (Sw _ z)) (Eg fun k z=>a k (Sw _ z))
theorem Eh(m:Nat):∀{a b:Nat},a<=b->qL a m<=qL b m
 | a,0,h=>by rw[Nat.le_zero.mp h];exact SD _
 | a,b+1,h=>by
  rcases Nat.lt_or_ge b a with c|c
  ·rw[show a=b+1 by lia];exact SD _
  ·exact SA (Eh m c) (by show _<=b*(m+m+1)+1+qL b m;lia)
theorem kL.of{m:Nat}{L:List P3}(h:∀g∈L,cp m g/\(g.1≠0∨g.2.1≠0∨g.2.2≠0)):kL m (kM L) (· ∈ L):=⟨fun g aD=>(h g aD).1,fun g aD=>(h g aD).2,fun _ _ a b n=>Ee a b n⟩
noncomputable def e'(r o:List P3):Rat:=match cU r (dG o)with
 | some rs=>cP rs
 | none=>0
theorem Ei{F G:List P3}(f:cy F)(g:cy G)(dA:∀x∈F,∀e∈bi G,0<=az e.1 e.2 x)(eZ:∀y∈G,∀e∈bi F,0<=az e.1 e.2 y):cP F=cP G :=
 M5 f g fun x=>⟨C2 f g dA eZ x,C2 g f eZ dA x⟩
theorem nN{r o F:List P3}(am:cy r)(h:cU r (dG o)=some F):∀x∈F,(∀e∈bi r,0<=az e.1 e.2 x)/\∀e∈bi o,0<=az e.1 e.2 x:=fun x aj =>
 ⟨fun e au=>oR (g:=crs e.1 e.2) h (am.ge au) x aj,fun e au=>qs h e ((ix o e).mpr au) x aj⟩
theorem Ej{r o:List P3}(am:cy r)(aA:cy o){g:P3}(y:P3)(aM:0<ln g y)(aa:∀x∈r,ln g x<=0)(ab:∀x∈o,0<=ln g x):cU r (dG o)=none:=by
 cases c:cU r (dG o)with
 | none=>rfl
 | some F =>
  exfalso
  have oY:=mx am c;obtain⟨s,ak⟩:=oY.mid;have a:0<ln g s:=ak g (fun x aj=>j4 aA.t aA.l (nN am c x aj).2 ab) ⟨y,aM⟩
  have lt:=j4 (l:=fQ g) oY.t oY.l (s:=s) (fun e au=>S0 (ak (crs e.1 e.2) (oY.ge au) (by obtain⟨x,_,d⟩:=(hj oY.t oY.l au).2;exact⟨x,d⟩))) (fun x aj=>by
   have:=j4 (l:=fQ g) am.t am.l (s:=x) (nN am c x aj).1 fun z hz=>by rw[f8];have:=aa z hz;lia
   exact this)
  rw[f8]at lt;lia
theorem cy.cutL{l l':P3}{ps:List P3}(r:cy ps)(e:l'=l∨l'=fQ l)(c:∃c∈ps,0<ln l' c):cy (cr (ln l') (bv l) ps):=by
 have cO:hi l' (bv l):=by
  rcases e with rfl|rfl
  ·exact gU _
  ·exact(gU _).ng
 obtain⟨t,k⟩:=oI cO.meets r.t r.l c;refine⟨t,k,fun x aj=>?_⟩;rcases C5 aj with⟨aa,_⟩|⟨d,hd,z,rfl⟩
 ·exact r.p x aa
 ·have z:ln l d.1*ln l d.2<0:=by
   rcases e with rfl|rfl
   ·exact z
   ·rw[f8,f8,T9]at z;exact z
  obtain⟨bF,bS⟩:=iq hd;rw[<-sL (r.p _ bF) (r.p _ bS)];exact ji (sM (r.p _ bF) (r.p _ bS) z)
theorem yf{r o:List P3}{s:P3}(am:cy r)(aa:∀e∈bi r,0<az e.1 e.2 s)(ab:∀e∈bi o,0<az e.1 e.2 s):∃F,cU r (dG o)=some F:=by
 obtain⟨F,e,_⟩:=xC am aa fun e au=>ab e ((ix o e).mp au);exact⟨F,e⟩
theorem Ek{r o F:List P3}(am:cy r)(aA:cy o)(h:cU r (dG o)=some F):∃s,(∀g:P3,(∀x∈F,0<=ln g x)->(∃y,0<ln g y)->0<ln g s)/\(∀e∈bi r,0<az e.1 e.2 s)/\∀e∈bi o,0<az e.1 e.2 s:=by
 obtain⟨s,ak⟩:=(mx am h).mid;refine⟨s,ak,fun e au=>?_,fun e au=>?_⟩
 ·obtain⟨x,_,d⟩:=(hj am.t am.l au).2;exact ak (crs e.1 e.2) (oR h (am.ge au)) ⟨x,d⟩
 ·obtain⟨x,_,d⟩:=(hj aA.t aA.l au).2;exact ak (crs e.1 e.2) (fun x aj=>qs h e ((ix o e).mpr au) x aj) ⟨x,d⟩
theorem El{r o F:List P3}{l l':P3}(am:cy r)(aA:cy o)(z:P3)(lz:ln l z=0)(h:cU r (dG o)=some F)(e:l'=l∨l'=fQ l):
  cP (dn (ln l') (bv l) F)=if(dn (ln l') (bv l) o).isEmpty=true then 0 else e' r (dn (ln l') (bv l) o):=by
 have cO:hi l' (bv l):=by
  rcases e with rfl|rfl
  ·exact gU _
  ·exact(gU _).ng
 have yg:ln l' z=0:=by
  rcases e with rfl|rfl
  ·exact lz
  ·rw[f8,lz];rfl
 have dA:=mx am h;by_cases c:∃c∈F,0<ln l' c
 ·have co:∃c∈o,0<ln l' c:=by
   apply Tn;intro n;obtain⟨x,aj,kB⟩:=c
   have:=j4 (l:=fQ l') aA.t aA.l (s:=x) (nN am h x aj).2 fun y aM=>by
    rw[f8];have:¬0<ln l' y:=fun w=>n ⟨y,aM,w⟩;lia
   rw[f8]at this;lia
  have Em:=dA.cutL e c;have qM:=aA.cutL e co;rw[lC c,lC co]
  have ne:(cr (ln l') (bv l) o).isEmpty=false:=by
   have:=qM.l;cases q:cr (ln l') (bv l) o with
   | nil=>rw[q]at this;simp at this
   | cons a b=>rfl
  rw[ne,TT (by decide)];obtain⟨s,ak⟩:=Em.mid;have pos:0<ln l' s:=ak l' (oM cO) (by obtain⟨x,_,d⟩:=c;exact⟨x,d⟩);have aE:∀e∈bi r,0<az e.1 e.2 s:=fun d hd=>ak (crs d.1 d.2) (mv cO (oR h (am.ge hd))) (by obtain⟨x,_,w⟩:=(hj am.t am.l hd).2;exact⟨x,w⟩);have a4:∀e∈bi o,0<az e.1 e.2 s:=fun d hd=>ak (crs d.1 d.2) (mv cO fun x aj=>qs h d ((ix o d).mpr hd) x aj) (by obtain⟨x,_,w⟩:=(hj aA.t aA.l hd).2;exact⟨x,w⟩);obtain⟨K,cF⟩:=yf (o:=cr (ln l') (bv l) o) am aE (CJ cO z yg aA.t aA.l co a4 pos);unfold e';rw[cF];refine Ei Em (mx am cF) (fun x aj=>?_) (fun y aM=>?_)
  ·have bo:∀d∈bi F,0<=az d.1 d.2 x:=fun d hd=>mv cO (g:=crs d.1 d.2) (dA.ge hd) x aj;obtain⟨bu,kF⟩:=M0 am h bo;exact qt am cF bu fun d hd=>xD cO z yg aA.t aA.l co (fun d hd=>kF d ((ix o d).mpr hd)) (oM cO x aj) d ((ix _ d).mp hd)
  ·obtain⟨bo,bu⟩:=nN am cF y aM;obtain⟨kF,qk⟩:=sS cO aA.t aA.l co bu;exact xD cO z yg dA.t dA.l c (qt am h bo fun d hd=>kF d ((ix o d).mp hd)) qk
 ·rw[nE c];by_cases co:∃c∈o,0<ln l' c
  ·rw[lC co];have qM:=aA.cutL e co;split
   ·rfl
   ·unfold e';cases cF:cU r (dG (cr (ln l') (bv l) o))with
    | none=>rfl
    | some K =>
     exfalso
     obtain⟨s,ak,aE,a4⟩:=Ek am qM cF;have pos:0<ln l' s:=ak l' (fun x aj=>(sS cO aA.t aA.l co (nN am cF x aj).2).2) (by obtain⟨x,_,d⟩:=co;exact⟨x,d⟩);have kF:=(sS cO aA.t aA.l co fun d hd=>S0 (a4 d hd)).1
     have:=j4 (l:=fQ l') dA.t dA.l (s:=s) (qt am h (fun d hd=>S0 (aE d hd)) fun d hd=>kF d ((ix o d).mp hd)) fun y aM=>by
      rw[f8];have:¬0<ln l' y:=fun w=>c ⟨y,aM,w⟩;lia
     rw[f8]at this;lia
  ·rw[nE co];rfl
theorem En{r o:List P3}{l l':P3}(am:cy r)(aA:cy o)(h:cU r (dG o)=none)(e:l'=l∨l'=fQ l):
  (if(dn (ln l') (bv l) o).isEmpty=true then 0 else e' r (dn (ln l') (bv l) o))=0:=by
 have cO:hi l' (bv l):=by
  rcases e with rfl|rfl
  ·exact gU _
  ·exact(gU _).ng
 by_cases co:∃c∈o,0<ln l' c
 ·rw[lC co];have qM:=aA.cutL e co;split
  ·rfl
  ·unfold e';cases cF:cU r (dG (cr (ln l') (bv l) o))with
   | none=>rfl
   | some K =>
    exfalso
    obtain⟨s,ak,aE,a4⟩:=Ek am qM cF;have a8:∀d∈bi o,0<az d.1 d.2 s:=fun d hd=>ak (crs d.1 d.2) (fun x aj=>(sS cO aA.t aA.l co (nN am cF x aj).2).1 d hd) (by obtain⟨x,_,w⟩:=(hj aA.t aA.l hd).2;exact⟨x,w⟩);obtain⟨F,dA⟩:=yf am aE a8;rw[dA]at h;cases h
 ·rw[nE co];rfl
noncomputable def gZ(r:List P3)(sh:List a5):Rat:=(sh.map fun s=>e' r s.1).sum
theorem oZ(r:List P3)(s:a5)(sh:List a5):gZ r (s::sh)=e' r s.1+gZ r sh:=by unfold gZ;rw[SV,To]
theorem qN(r:List P3):∀a b:List a5,gZ r (a++b)=gZ r a+gZ r b
 | [],b=>by rw[Tz,show gZ r []=0 from rfl,Vd]
 | s::a,b=>by rw[Ur,oZ,oZ,qN r a b,Rat.add_assoc]
theorem Eo{r:List P3}{l:P3->Int}{mt:P3->P3->P3}(s:a5):gZ r (eg l mt [s])=if(dn l mt s.1).isEmpty=true then 0 else e' r (dn l mt s.1):=by
 cases c:(dn l mt s.1).isEmpty with
 | true=>rw[sZ c];rfl
 | false =>
  rw[sY c,oZ,show gZ r []=0 from rfl,Ub];rfl
theorem Ep{r:List P3}{l z:P3}(am:cy r)(ay:l.1≠0∨l.2.1≠0)(hf:0<z.2.2)(lz:ln l z=0):∀{sh:List a5},(∀s∈sh,cy s.1)->gZ r (eg (ln l) (bv l) sh)+gZ r (eg (fun c => -ln l c) (bv l) sh)=gZ r sh
 | [],_=>by rw[sX,sX,show gZ r []=0 from rfl,Ub]
 | s::sh,h=>by
  have bR:=Ep (sh:=sh) am ay hf lz fun t aR=>h t (Sw _ aR);have aA:=h s Sv;rw[show s::sh=[s]++sh from rfl,nD,nD,qN,qN,qN,Eo,Eo]
  have one:(if(dn (ln l) (bv l) s.1).isEmpty=true then 0 else e' r (dn (ln l) (bv l) s.1))+(if(dn (fun c => -ln l c) (bv l) s.1).isEmpty=true then 0 else e' r (dn (fun c => -ln l c) (bv l) s.1))=gZ r [s]:=by
   rw[oZ,show gZ r []=0 from rfl,Ub];have cv:(fun c => -ln l c)=ln (fQ l):=(CG l).symm;cases q:cU r (dG s.1)with
   | none =>
    have a:=En (l:=l) (l':=l) am aA q (.inl rfl);have b:=En (l:=l) (l':=fQ l) am aA q (.inr rfl);rw[<-cv]at b;rw[a,b];unfold e';rw[q,Ub]
   | some F =>
    have a:=El (l:=l) (l':=l) am aA z lz q (.inl rfl);have b:=El (l:=l) (l':=fQ l) am aA z lz q (.inr rfl);rw[<-cv]at b;rw[<-a,<-b,CP ay hf lz (mx am q).p];unfold e';rw[q]
  rw[<-one,<-bR];grind
theorem OT{r o:List P3}(am:cy r)(aA:cy o)(h:∀x∈r,∀e∈bi o,0<=az e.1 e.2 x):e' r o=cP r:=by
 obtain⟨s,ak⟩:=am.mid;have aE:∀e∈bi r,0<az e.1 e.2 s:=fun d hd=>ak (crs d.1 d.2) (am.ge hd) (by obtain⟨x,_,w⟩:=(hj am.t am.l hd).2;exact⟨x,w⟩);have a4:∀e∈bi o,0<az e.1 e.2 s:=fun d hd=>ak (crs d.1 d.2) (fun x aj=>h x aj d hd) (by obtain⟨x,_,w⟩:=(hj aA.t aA.l hd).2;exact⟨x,w⟩);obtain⟨F,dA⟩:=yf am aE a4;unfold e';rw[dA];exact Ei (mx am dA) am (fun x aj=>(nN am dA x aj).1) fun y aM=>qt am dA (fun e au=>am.ge au y aM) fun e au=>h y aM e ((ix o e).mp au)
end Cut
namespace L2
open PySem PySem.Spec PyProof.Rows
abbrev iy:=St->ai->(St->ai->Prop)->Prop
def o0(Y:aU)(iz:Sem Fin->Sem Fin)(em:iy):Prop:=∀(pins:List (Tl×Obj))(s:SL)(σ:St)(H:ai)(Q:St->ai->Prop)(k:Sem Fin)(R:Fin->SL->Prop)(E:SC->SL->Prop),Inv Y pins σ H s->em σ H Q ->
 (∀s' a1 af,Inv Y pins a1 af s'->Q a1 af->wpAny (UV Y.prog Y.w) Y.A k R E s')->wpAny (UV Y.prog Y.w) Y.A (iz k) R E s
def mA(e:WP)(d:Nat)(a6 src:WP)(cB:List WP)(iz:Sem Fin->Sem Fin)(it acc:SC)(env:Tv):Sem Fin :=
 X6 src.pos >>= fun _=>Yg it >>= fun r=>match r with
  | none=>pure (Fin.done .next)
  | some v=>Xk a6 it v >>= fun _=>Yc a6 env v >>= fun _ =>
   (forIn cB true fun t r=>if r=true then do let z <-Yb t env (W7 t env);pure (Um z)else pure (Um r)) >>= fun ok =>
    if ok=true then iz (again (.compLoop e d it acc env))else again (.compLoop e d it acc env)
def yh(b6:WP)(acc:SC)(env:Tv)(k:Sem Fin):Sem Fin:=(W7 b6 env >>= fun x=>call (.builtin "list.append") [acc,x] >>= fun _=>pure ()) >>= fun _=>k
def tv(e:WP)(d:Nat)(src:WP)(acc:SC)(env:Tv)(k:Sem Fin):Sem Fin :=
 W7 src env >>= fun x=>X6 src.pos >>= fun _=>Wp src env x >>= fun x=>XO [x] (pyIter x) >>= fun i=>runOwn (.compStart e d i acc env) env >>= fun _=>k
section
variable{b6 f7 hK cH bo cn bu:WP}{d2 bd bH:List WP}{sc:W'}{ps:Pos}{it acc:SC}{env:Tv}
theorem OU:XA (.ListComp b6 [⟨f7,hK,d2,0⟩,⟨cH,bo,bd,0⟩,⟨cn,bu,bH,0⟩] sc ps) 0 it acc env=mA (.ListComp b6 [⟨f7,hK,d2,0⟩,⟨cH,bo,bd,0⟩,⟨cn,bu,bH,0⟩] sc ps) 0 f7 hK d2 (tv (.ListComp b6 [⟨f7,hK,d2,0⟩,⟨cH,bo,bd,0⟩,⟨cn,bu,bH,0⟩] sc ps) 1 bo acc env) it acc env:=by rfl
theorem OV:XA (.ListComp b6 [⟨f7,hK,d2,0⟩,⟨cH,bo,bd,0⟩,⟨cn,bu,bH,0⟩] sc ps) 1 it acc env=mA (.ListComp b6 [⟨f7,hK,d2,0⟩,⟨cH,bo,bd,0⟩,⟨cn,bu,bH,0⟩] sc ps) 1 cH bo bd (tv (.ListComp b6 [⟨f7,hK,d2,0⟩,⟨cH,bo,bd,0⟩,⟨cn,bu,bH,0⟩] sc ps) 2 bu acc env) it acc env:=by rfl
theorem OW:XA (.ListComp b6 [⟨f7,hK,d2,0⟩,⟨cH,bo,bd,0⟩,⟨cn,bu,bH,0⟩] sc ps) 2 it acc env=mA (.ListComp b6 [⟨f7,hK,d2,0⟩,⟨cH,bo,bd,0⟩,⟨cn,bu,bH,0⟩] sc ps) 2 cn bu bH (yh b6 acc env) it acc env:=by rfl
end
section
variable{Y:aU}{b6 a6 src:WP}{gens:List Yq}{cB:List WP}{sc:W'}{ps:Pos}{d:Nat}{acc:SC}{wi:bQ}{g:eI}{tt:dC}{bI:bN}{em:iy}{iz:Sem Fin->Sem Fin}
def Er(bI:bN)(D:Tl):iy:=fun σ H Q=>bI σ H fun y hV=>∃ys,hV D=some (.lst ys)/\ys.length<SZ/\Q σ (upd hV D (.lst (ys++[y])))
def tw(J:gf)(g:eI)(tt:dC)(em:iy)(W:Nat->Nat->St->ai->Prop)(QS:St->ai->Prop):Prop:=∀i m σ H,W i m σ H ->
 (J.stop i H/\QS σ H)∨(J.go i H/\∀x af,J.yld i H x af->g x σ af fun kl aV=>tt kl aV fun b ca=>if b=true then em kl ca fun OX hV=>∃df,df<m/\W (i+1) df OX hV else ∃df,df<m/\W (i+1) df kl ca)
def Es(wi:bQ)(g:eI)(tt:dC)(em:iy):iy:=fun σ H Q=>wi σ H fun J aw=>∃W:Nat->Nat->St->ai->Prop,(∃m,W 0 m σ aw)/\tw J g tt em W Q
theorem Et{it:Tl}{J:gf}{bO:List Tl}{e2:Nat->WY->Prop}(aR:XA (.ListComp b6 gens sc ps) d (.ref it) acc Y.env=mA (.ListComp b6 gens sc ps) d a6 src cB iz (.ref it) acc Y.env)(T:mL Y.prog Y.w Y.K a6 J bO it e2)(aj:∀e s,¬Y.xe e s)(hc:Y.calm=true)(aD:hr Y a6 g)(gA:jh Y cB tt)(nO:o0 Y iz em){pins:List (Tl×Obj)}{W:Nat->Nat->St->ai->Prop}{QS:St->ai->Prop}{cS:Nat}{s:SL}{σ:St}{H:ai}(I:Inv Y pins σ H s)(st:e2 0 s.heap)(fr:∀b∈bO,eV Y pins H b)(eU:W 0 cS σ H)(turn:tw J g tt em W QS){R:YE->SL->Prop}(iS:∀s' a1 af,Inv Y pins a1 af s'->QS a1 af->R (.ok .next) s'):
  codeAny (UV Y.prog Y.w) Y.A (.compLoop (.ListComp b6 gens sc ps) d (.ref it) acc Y.env) R s:=by
 have iG:∀{af:ai},(∀b∈bO,af b=none)->∀b∈bO,eV Y pins af b:=fun aH b ae=>⟨aH b ae,(fr b ae).2⟩;refine codeAny_loop rfl (fun n s'=>∃i a1 af,Inv Y pins a1 af s'/\e2 i s'.heap/\(∀b∈bO,af b=none)/\W i n a1 af) (fun n d3 a'=>?_) cS ⟨0,σ,H,I,st,fun b ae=>(fr b ae).1,eU⟩;show wpAny _ Y.A (Sem.onRaise (XA (.ListComp b6 gens sc ps) d (.ref it) acc Y.env) _) _ _ d3
 rw[aR];unfold mA;refine wpAny_noted (SB (Xb (SB ?_)));obtain⟨i,jS,dJ,I5,kY,mM,wm⟩:=a';rcases turn i n jS dJ wm with⟨stop,q⟩|⟨go,step⟩
 ·refine WR (T.done Y rfl rfl rfl hc i pins d3 jS dJ (fun _ _=>False) I5 (iG mM) kY stop) (fun r dZ ⟨am,fG⟩=>?_) (fun _ _ z=>z.elim);subst am;exact TD (iS _ _ _ fG q)
 ·refine WR (T.item Y rfl rfl rfl hc i pins d3 jS dJ (fun _ _=>False) I5 (iG mM) kY go) (fun r dZ ⟨u,am,fO⟩=>?_) (fun _ _ z=>z.elim);subst am;refine SB (WR fO (fun _ gs ⟨v,g6,gL,pj,wn,nh,wo⟩=>?_) (fun _ _ z=>z.elim));have wq:=gL.pinned (iG wo) (T.obj _ _ nh)
  have back:∀{gn:SL}{li:St}{iT:ai}{gI:Nat},Inv Y (pins++n5 bO gs.heap) li iT gn->W (i+1) gI li iT->∃i a1 af,Inv Y pins a1 af gn/\e2 i gn.heap/\(∀b∈bO,af b=none)/\W i gI a1 af:=fun{gn li iT gI} iU lj=>by
   refine⟨i+1,li,iT,iU.unpinned,T.keep _ _ _ nh fun b ae hb e7=>(iU.pin (b,hb) (SN _ (SN _ (n6 ae e7)))).1,fun b ae=>?_,lj⟩;obtain⟨hb,e7,_⟩:=T.obj _ _ nh b ae;exact(iU.pin (b,hb) (SN _ (SN _ (n6 ae e7)))).2.1
  refine SB (WR (aD _ gs jS g6 v u _ wq pj (step v g6 wn)) (fun _ kC ⟨r1,ws,wt,wu⟩=>?_) (fun _ _ z=>(aj _ _ z).elim));refine SB (WR (gA _ kC r1 ws _ wt wu) (fun b gn ⟨iT,iU,lm⟩=>?_) (fun _ _ z=>(aj _ _ z).elim));cases b with
  | false =>
   rw[TT SP]at lm ⊢;obtain⟨df,iV,lj⟩:=lm;exact TD ⟨rfl,df,iV,back iU lj⟩
  | true =>
   rw[TI rfl]at lm ⊢;refine nO _ gn r1 iT _ _ _ _ iU lm fun s' a1 af kh fW=>?_;obtain⟨df,iV,lj⟩:=fW;exact TD ⟨rfl,df,iV,back kh lj⟩
theorem OY{D:Tl}(au:b5 Y b6 bI)(aj:∀e s,¬Y.xe e s):o0 Y (yh b6 (.ref D) Y.env) (Er bI D):=by
 intro pins s σ H Q k R E I h ah;unfold yh;refine SB (SB (WR (au pins s σ H _ I h) (fun wv gR ⟨y,p2,ww,wx,ys,p3,wy,OZ⟩=>?_) (fun _ _ z=>(aj _ _ z).elim)));have mt:=rv (X:=Y) pins gR σ p2 (.ref D) [y] (.ref D) [wv] (fun _ af=>af=upd p2 D (.lst (ys++[y]))) ww rfl (.cons wx .nil) ⟨D,ys,y,rfl,rfl,p3,wy,rfl⟩;refine SB (WR mt (fun _ hI ⟨_,KC,wz,_,lp⟩=>?_) (fun _ _ z=>(aj _ _ z).elim));subst lp;exact TD (ah _ _ _ wz OZ)
theorem O0{R:YE->SL->Prop}{s:SL}{it:SC}{env:Tv}{P:WF}{w:WU}{A:WV}(gQ:gens[d]?=some ⟨a6,src,cB,0⟩)(bY:codeAny (UV P w) A (.compLoop (.ListComp b6 gens sc ps) d it acc env) R s)(h:∀E,wpAny (UV P w) A (pyIter it) (fun O1 s'=>codeAny (UV P w) A (.compLoop (.ListComp b6 gens sc ps) d O1 acc env) R s') E s):
  codeAny (UV P w) A (.compStart (.ListComp b6 gens sc ps) d it acc env) R s:=by
 apply codeAny_of_tree;show wpAny _ A (Sem.onRaise (WD (.ListComp b6 gens sc ps) d it acc env) _) _ _ s
 apply wpAny_notedAt;unfold WD;rw[show clausesOf (.ListComp b6 gens sc ps)=gens from rfl,gQ];show wpAny _ _ (ask >>= _) _ _ s
 refine SB (wpAny_askSetting (wpAny_ite ?_));split
 ·exact SB (TD (TD ⟨rfl,bY⟩))
 ·refine SB (Ys (SB (Xb ?_)));exact SB (WR (h _) (fun i s' q=>TD ⟨rfl,q⟩) fun _ _ z=>z)
theorem Eu(aC:hv Y a6 src wi)(aD:hr Y a6 g)(gA:jh Y cB tt)(nO:o0 Y iz em)(aj:∀e s,¬Y.xe e s)(hc:Y.calm=true)(ak:∀v,Wp src Y.env v=pure v)(gQ:gens[d]?=some ⟨a6,src,cB,0⟩)(aR:∀it,XA (.ListComp b6 gens sc ps) d it acc Y.env=mA (.ListComp b6 gens sc ps) d a6 src cB iz it acc Y.env):
  o0 Y (tv (.ListComp b6 gens sc ps) d src acc Y.env) (Es wi g tt em):=by
 intro pins s σ H Q k R E I h ah;unfold tv;refine SB (WR (aC pins s σ H _ I h) (fun v aE aa=>?_) (fun _ _ z=>(aj _ _ z).elim));refine SB (Xb (SB (wpAny_of_eq (ak v) (SB (WW (WR aa (fun kk a4 ab=>?_) (fun _ _ z=>(aj _ _ z).elim)))))));obtain⟨it,bO,e2,J,aV,rfl,dg,T,hx,bH,W,⟨cS,eU⟩,turn⟩:=ab;refine SB (wpAny_runOwn ?_);have ir:∀R:YE->SL->Prop,(∀s' a1 af,Inv Y pins a1 af s'->Q a1 af->R (.ok .next) s')->codeAny (UV Y.prog Y.w) Y.A (.compLoop (.ListComp b6 gens sc ps) d (.ref it) acc Y.env) R a4:=fun R iS=>Et (aR _) T aj hc aD gA nO dg hx bH eU turn iS;exact O0 gQ (ir _ ah) fun E=>T.self _ 0 _ _ _ hx (ir _ ah)
end
def O2(J:gf)(g:eI)(tt:dC)(em:Tl->iy)(v':St)(D:Tl)(aw:ai)(Q:cc):Prop:=∃W:Nat->Nat->St->ai->Prop,(∃m,W 0 m v' (upd aw D (.lst [])))/\tw J g tt (em D) W fun _ H=>Q (.ref D) H
def yi(wi:bQ)(g:eI)(tt:dC)(em:Tl->iy)(c':Nat)(js:List Nat):bN:=fun σ H Q=>wi σ H fun J aw=>∀D,aw D=none->O2 J g tt em (SQ c' none++fu σ js) D aw Q
section
variable{X:aU}
theorem O3{b6 cA a6:WP}{rest:List Yq}{cB:List WP}{pos:Pos}{scope:W'}{bm:List (Str×Tl)}{ts fr:List Str}{js:List Nat}{wi:bQ}{g:eI}{tt:dC}{em:Tl->iy}{iz:SC->Tv->Sem Fin->Sem Fin}{use:Option (SC->Sem Unit)}{RQ:SC->SL->Prop}{QE:cc}(aC:hv X a6 cA wi)(aD:∀C s H ex,hr (cC X (ts++fr) scope bm C s H ex) a6 g)(gA:∀C s H ex,jh (cC X (ts++fr) scope bm C s H ex) cB tt)(nO:∀D C s H ex,o0 (cC X (ts++fr) scope bm C s H ex) (iz (.ref D) (Xz scope bm C X.env)) (em D))(yj:∀it acc env,XA (.ListComp b6 (⟨a6,cA,cB,0⟩::rest) scope pos) 0 it acc env=mA (.ListComp b6 (⟨a6,cA,cB,0⟩::rest) scope pos) 0 a6 cA cB (iz acc env) it acc env)(F:lh X scope bm fr js)(hc:X.calm=true)(ak:∀v,Wp cA X.env v=pure v){pins:List (Tl×Obj)}{s:SL}{σ:St}{H:ai}(I:Inv X pins σ H s)(h:yi wi g tt em ts.length js σ H QE)(pY:Sem SC)(wa:pY=newList [])(gP:Pos)(iS:∀(D C:Tl) (dJ:ai) (dZ:SL) (m:Str->Option SC),dZ.heap.Ns C m->dJ C=none->C≠X.env.locals->X.s₀.heap.objs.size<=C->(∀x c,X.env.cells.lookup x=some c->c≠C)->(∀p∈X.pn++pins,p.1≠C)->C∉X.fs->(∀h':WY,(∀b u,b≠C->dZ.heap.get? b=some u->h'.get? b=some u)->Inv X pins σ dJ { dZ with heap:=h' })->QE (.ref D) dJ->Ym (UV X.prog X.w) X.A X.xe use RQ (.ref D) C (.ok .next) dZ):
  wpAny (UV X.prog X.w) X.A (Yn (.ListComp b6 (⟨a6,cA,cB,0⟩::rest) scope pos) scope X.env gP pY false (W7 cA X.env) use) RQ X.xe s:=by
 refine XD (use:=use) rfl ak F.clos F.kind F.names (b9 (aC pins s σ H _ I h) fun A0 aE aa=>b9 aa fun kk a4 ab=>?_);obtain⟨it,bO,e2,J,aV,rfl,dg,T,hx,bH,ab⟩:=ab;have e4:aV a4.heap.objs.size=none:=dg.fresh;obtain⟨W,⟨cS,eU⟩,turn⟩:=ab _ e4;rw[wa];refine WX ?_;have bU:Inv X pins σ (upd aV a4.heap.objs.size (.lst [])) { a4 with heap:=a4.heap.push { cls:=.type "list",data:=.seq ([]:List SC).toArray } }:=dg.lnew (t':=a4.toks) (its:=[]) .nil (by show 0<=SZ;decide);generalize wc:({ a4 with heap:=a4.heap.push { cls:=.type "list",data:=.seq ([]:List SC).toArray } }:SL)=a8 at bU;have be:a8.heap=a4.heap.push { cls:=.type "list",data:=.seq ([]:List SC).toArray }:=by rw[<-wc]
 generalize pZ:upd aV a4.heap.objs.size (.lst [])=ca at bU eU;generalize we:a4.heap.objs.size=D at e4 pZ eU turn;have eN:∀b o,a4.heap.get? b=some o->a8.heap.get? b=some o:=fun b o e=>by rw[be];exact Heap.get?_push_of_some _ e
 have bW:∀b∈bO,eV X pins ca b:=fun b ae=>by
  obtain⟨o,aA,_⟩:=T.obj _ _ hx b ae;have lt:=Heap.lt_size aA;refine⟨?_,(bH b ae).2⟩;rw[<-pZ,b1 (by rw[<-we];exact S4 lt)];exact(bH b ae).1
 refine Xq F.cell (by intro y aM;simp at aM) (fun aa l2 oy=>?_) F.kind;have wf:a8.heap.get? a8.heap.objs.size=none:=Heap.get?_none_of_le (SD _);have eC:∀b o,a8.heap.get? b=some o->aa.get? b=some o:=fun b o e=>oy.extBut b o (S4 (Heap.lt_size e)) (Heap.get?_push_of_some _ e);show codeAny (UV X.prog X.w) X.A (.compStart (.ListComp b6 (⟨a6,cA,cB,0⟩::rest) scope pos) 0 (.ref it) (.ref D) (Xz scope bm a8.heap.objs.size X.env)) (Ym (UV X.prog X.w) X.A X.xe use RQ (.ref D) a8.heap.objs.size) _
 have ok:(cC X (ts++fr) scope bm a8.heap.objs.size a8 ca bO).Ok:=by
  refine⟨bU.ok.mod,F.kind,bU.ok.glob,bU.ok.blt,SD _,fun y z c ag ao=>bU.ok.inj y z c (F.sub _ _ ag) (F.sub _ _ ao),fun y aM=>F.has y aM,fun y c z=>absurd z SP,bU.ok.hd,bU.ok.frames,.inl rfl,fun b ae=>?_,bU.bs,SA bU.ok.bsz bU.sz,
   fun b o e ae=>?_,fun b ae bG=>?_,bU.stack,bU.stkFree,bU.tabs⟩
  ·obtain⟨o,aA,_⟩:=T.obj _ _ hx b ae;exact⟨S4 (Heap.lt_size (eN b o aA)),fun y c e=>(bW b ae).2.2.2.2.1 y c (F.sub _ _ e)⟩
  ·obtain⟨_,_,_,z,_⟩:=bW b ae;rcases z with z|z
   ·exact bU.ok.noex b o e z
   ·exact absurd (S5 (Heap.lt_size (bU.ok.bs b o e).1) z) (S6 _)
  ·rcases Sy.mp (bU.stkSub b bG)with z|z
   ·exact(bW b ae).2.1 z
   ·exact(bW b ae).2.2.1 z
 have wg:∀(dh:WY),(∀b u,a8.heap.get? b=some u->dh.get? b=some u)->∀(i:Nat)(y:Str)(v:V),fr[i]?=some y->(fu σ js)[i]?=some (some v)->∃u,RelV v u/\∀m,Look (Xz scope bm a8.heap.objs.size X.env) dh m y u:=fun dh aW i y v ag ao=>by
  obtain⟨j,nc,nf,ah,wj,c,gQ⟩:=F.frn i y ag
  have p0:σ[j]?=some (some v):=by
   unfold fu at ao;rw[S7,nc,T5]at ao;have ao:=SM ao;cases q:σ[j]? with
   | none=>rw[q]at ao;simp at ao
   | some z=>rw[q]at ao;simpa using ao
  obtain⟨m,aH,ay⟩:=bU.loc;obtain⟨u,r,l⟩:=ay j y v nf p0 (.inr (.inl ah));refine⟨u,r,fun df=>.inr ⟨wj,c,gQ,?_⟩⟩;rcases l with⟨z,_⟩|⟨_,cu,hM,wk⟩
  ·rw[ah]at z;cases z
  ·have e:=F.sub _ _ gQ;rw[hM]at e;cases e;obtain⟨hb,aN,a3⟩:=wk;exact⟨hb,aW _ _ aN,a3⟩
 have g4:Inv (cC X (ts++fr) scope bm a8.heap.objs.size a8 ca bO) [] (SQ ts.length none++fu σ js) ca { a8 with heap:=aa,toks:=a8.toks+([]:List (Str×SC)).length }:=by
  refine⟨ok,rfl,bU.bare,ez.kept eC,⟨_,l2,fun i y v ag ao be=>?_⟩,fun y c e=>?_,bU.fresh,fun y c e=>bU.freeC y c (F.sub _ _ e),fun p aq=>absurd (show p∈([]:List (Tl×Obj))from aq) (by simp),bU.hok.kept eC,?_⟩
  ·by_cases c9:i<ts.length
   ·rw[TK (by simpa using c9),T4,TI c9]at ao;cases ao
   ·have ag:(ts++fr)[i]?=some y:=ag;rw[Ts (by lia)]at ag;rw[Ts (by simp;lia),TB]at ao;obtain⟨u,r,l⟩:=wg aa eC _ y v ag ao;exact⟨u,r,l _⟩
  ·obtain⟨v,hb,aN,a3⟩:=bU.cell y c (F.sub _ _ e);exact⟨v,hb,eC _ _ aN,a3⟩
  ·show _=(ts++fr).length
   rw[SE,SE,TB];unfold fu;rw[Sz,F.len]
 have iG:∀{af:ai},(∀b∈bO,af b=none)->∀b∈bO,eV (cC X (ts++fr) scope bm a8.heap.objs.size a8 ca bO) [] af b:=fun aH b ae=>by
  obtain⟨o,aA,_⟩:=T.obj _ _ hx b ae;exact⟨aH b ae,(ok.exf b ae).1,ok.exfs b ae,.inl ae,(ok.exf b ae).2,fun p aq=>absurd (show p∈([]:List (Tl×Obj))from aq) (by simp)⟩
 have loop:∀eW:SL,eW={ a8 with heap:=aa,toks:=a8.toks+([]:List (Str×SC)).length } ->
   codeAny (UV X.prog X.w) X.A (.compLoop (.ListComp b6 (⟨a6,cA,cB,0⟩::rest) scope pos) 0 (.ref it) (.ref D) (Xz scope bm a8.heap.objs.size X.env)) (Ym (UV X.prog X.w) X.A X.xe use RQ (.ref D) a8.heap.objs.size) eW:=by
  intro eW ci;rw[<-ci]at g4;have wl:e2 0 eW.heap:=T.keep _ _ _ hx fun b _ o e=>by rw[ci];exact eC b o (eN b o e)
  refine Et (Y:=cC X (ts++fr) scope bm a8.heap.objs.size a8 ca bO) (QS:=fun _ dJ=>QE (.ref D) dJ) (yj _ _ _) T (fun _ _ z=>z) hc (aD _ _ _ _) (gA _ _ _ _) (nO D _ _ _ _) g4 wl (iG fun b ae=>(bW b ae).1) eU turn fun dZ jS dJ fG q=>?_;obtain⟨m,aH,_⟩:=id fG.loc;refine iS D a8.heap.objs.size dJ dZ m aH fG.free (TA bU.lt) bU.sz (fun y c e z=>?_) (fun p aq z=>?_) (bU.nofs (SD _)) (fun h' p1=>?_) q
  ·obtain⟨v,hb,aN,a3⟩:=bU.cell y c e;exact absurd (Heap.lt_size aN) (by rw[z];exact S6 _)
  ·exact absurd (Heap.lt_size (bU.pin p aq).1) (by rw[z];exact S6 _)
  ·refine bU.call' (s':={ dZ with heap:=h' }) (ch:=bO) fG.os ((show ez (frs X.stack) bO ca dJ a8.heap dZ.heap from fG.base).but wf p1) (fG.hok.but fG.free p1) fG.bare (fun b ae=>?_);obtain⟨_,aP,_,e5,fc,jT⟩:=bW b ae;exact⟨e5,aP,fc,jT⟩
 exact XJ (loop _ rfl) (T.self _ 0 _ _ _ (T.keep _ _ _ hx fun b _ o e=>eC b o (eN b o e)) (loop _ rfl))
theorem O4{b6 cA a6:WP}{rest:List Yq}{cB:List WP}{pos:Pos}{scope:W'}{bm:List (Str×Tl)}{ts fr:List Str}{js:List Nat}{wi:bQ}{g:eI}{tt:dC}{em:Tl->iy}{iz:SC->Tv->Sem Fin->Sem Fin}(aC:hv X a6 cA wi)(aD:∀C s H ex,hr (cC X (ts++fr) scope bm C s H ex) a6 g)(gA:∀C s H ex,jh (cC X (ts++fr) scope bm C s H ex) cB tt)(nO:∀D C s H ex,o0 (cC X (ts++fr) scope bm C s H ex) (iz (.ref D) (Xz scope bm C X.env)) (em D))(yj:∀it acc env,XA (.ListComp b6 (⟨a6,cA,cB,0⟩::rest) scope pos) 0 it acc env=mA (.ListComp b6 (⟨a6,cA,cB,0⟩::rest) scope pos) 0 a6 cA cB (iz acc env) it acc env)(F:lh X scope bm fr js)(hc:X.calm=true)(ak:∀v,Wp cA X.env v=pure v):b5 X (.ListComp b6 (⟨a6,cA,cB,0⟩::rest) scope pos) (yi wi g tt em ts.length js):=by
 intro pins s σ H Q I h;rw[eval_ListComp];refine O3 aC aD gA nO yj F hc ak I h _ rfl _ fun D C dJ dZ m aH _ _ _ _ _ _ hs q=>⟨m,aH,fun h' ni=>⟨.ref D,dJ,hs h' fun b u ae e=>ni.extBut b u ae e,rfl,q⟩⟩
end
end L2
namespace L3
open PySem L2
abbrev j6:=Nat->List aI->(List aI->List D->Prop)->Prop
def Ev(u:bb):j6:=fun n ρ k=>n<SZ/\u ρ fun y=>k ρ [y]
def lH(g:ec)(cz:c5)(fD:j6):List D->j6
 | [],_,ρ,k=>k ρ []
 | d::ds,n,ρ,k=>g d ρ fun eM=>cz eM fun b=>if b=true then fD n eM fun yk ys=>lH g cz fD ds (n+ys.length) yk fun gq di=>k gq (ys++di)else lH g cz fD ds n eM k
def yl(w:dk)(g:ec)(cz:c5)(fD:j6):j6:=fun n ρ k=>w ρ fun ds=>lH g cz fD ds n ρ k
def Ew(w:dk)(g:ec)(cz:c5)(fD:j6)(c':Nat)(js:List Nat):dk:=fun ρ k=>w ρ fun ds=>lH g cz fD ds 0 (SQ c' .no++js.map (gz ρ)) fun _ r=>k r
section
variable{K:Su}{X:aU}{u:bb}{w:dk}{pos p:Pos}
structure lI (K:Su) (R:ai) (W:Tl->Prop) (D:Tl) (B H:ai) (σ:St) (ρ:List aI) (es:List L3.D):Prop where
 ev:aX K R W B H σ ρ
 r:R D=none
 b:B D=none
 nw:¬W D
 mu:∀j a,cX σ ρ j a->W a
 l:∃ys,H D=some (.lst ys)/\Reps K B ys es
def qO(K:Su)(em:Tl->iy)(fD:j6):Prop:=∀(n:Nat)(ρ:List aI)(k:List aI->List L3.D->Prop),fD n ρ k->∀(R:ai)(W:Tl->Prop)(D:Tl)(B H:ai)(σ:St)(es:List L3.D)(Q:St->ai->Prop),lI K R W D B H σ ρ es->es.length=n ->
 (∀bf aF af a1 nw,k bf nw->lI K R W D aF af a1 bf (es++nw)->bJ R B aF->Q a1 af)->em D σ H Q
theorem lI.same{R:ai}{W:Tl->Prop}{D:Tl}{B H aF af:ai}{σ:St}{ρ:List aI}{es:List L3.D}(m:lI K R W D B H σ ρ es)(e:aX K H W aF af σ ρ)(g:bJ H B aF):lI K R W D aF af σ ρ es/\bJ R B aF:=by
 obtain⟨ys,aM,cm⟩:=m.l;obtain⟨ls,p6⟩:=m.ev.unbase m.mu e g;refine⟨⟨ls,m.r,?_,m.nw,m.mu,ys,e.fr D _ aM m.nw,cm.mono g.s⟩,p6⟩;cases p5:aF D with
 | none=>rfl
 | some o =>
  rcases g.n D o p5 with z|z
  ·rw[m.b]at z;cases z
  ·rw[aM]at z;cases z
theorem O5{bI:bN}(aa:dR K bI u):qO K (Er bI) (Ev u):=by
 intro n ρ k h R W D B H σ es Q m aH q;obtain⟨ay,h⟩:=h;refine aa ρ _ h H W B H σ _ (m.ev.rebase m.mu) fun y v nl dJ jT eL g5 d3=>?_;obtain⟨i6,ih⟩:=m.same eL g5;obtain⟨ys,aM,cm⟩:=i6.l;have rX:ys.length=es.length:=cm.length;refine⟨ys,aM,by lia,q ρ nl _ σ [y] jT ⟨i6.ev.scribble i6.r i6.b (fun j gv=>i6.nw (i6.mu j D gv)) _,i6.r,i6.b,i6.nw,i6.mu,_,ei,cm.append (.cons d3 .nil)⟩ ih⟩
theorem Ex{g:eI}{tt:dC}{em:Tl->iy}{eD:ec}{cz:c5}{fD:j6}(aD:l6 K g eD)(aR:gx K tt cz)(aB:qO K em fD){R:ai}{W:Tl->Prop}{D:Tl}{a7 aw:ai}{σ:St}{ρ:List aI}{es:List L3.D}{J:gf}{ds:List L3.D}(it:jJ K a7 J ds)(m:lI K R W D a7 aw σ ρ es){k:List aI->List L3.D->Prop}(z:lH eD cz fD ds es.length ρ k){Q:St->ai->Prop}(aL:∀bf aF af a1 nw,k bf nw->lI K R W D aF af a1 bf (es++nw)->bJ R a7 aF->Q a1 af):∃V:Nat->Nat->St->ai->Prop,(∃n,V 0 n σ aw)/\tw J g tt (em D) V Q:=by
 refine⟨fun i n ik af=>∃aF nw he,n=ds.length-i/\i<=ds.length/\lI K R W D aF af ik he (es++nw)/\bJ R a7 aF/\lH eD cz fD (ds.drop i) (es++nw).length he fun bf r=>k bf (nw++r),⟨ds.length,a7,[],ρ,by simp,Ti _,by simpa using m,bJ.refl _ _,by simpa using z⟩,?_⟩;rintro i n ik aV ⟨cj,nw,he,rfl,aC,bS,aT,bc⟩;obtain⟨cH,cn,fM⟩:=it aV (aT.s.trans bS.ev.bh) i;by_cases c9:i<ds.length
 ·refine .inr ⟨cH c9,fun x af y=>?_⟩;obtain⟨rfl,d,hd,ba⟩:=fM x af c9 y
  have f1:ds.drop i=d::ds.drop (i+1):=by
   rw[UH c9];rw[S8 c9]at hd;rw[SM hd]
  rw[f1]at bc;refine aD d he _ bc R W cj af ik x _ bS.ev (ba.mono aT.s) fun gq fq e5 be gv=>?_;have fJ:lI K R W D cj af fq gq (es++nw):=⟨be,bS.r,bS.b,bS.nw,fun j a w=>bS.mu j a (gv j a w),bS.l⟩;refine aR gq _ e5 af W cj af fq _ (be.rebase fJ.mu) fun b gS hV fc ci d0=>?_;obtain⟨nt,ih⟩:=fJ.same ci d0;cases b with
  | false =>
   rw[TT SP]at fc ⊢;exact⟨ds.length-(i+1),by lia,gS,nw,gq,rfl,c9,nt,aT.trans ih,fc⟩
  | true =>
   rw[TI rfl]at fc ⊢;refine aB _ gq _ fc R W D gS hV fq _ _ nt rfl fun O6 nl dJ jS oT jT i6 g5=>?_;rw[SR]at i6;refine⟨ds.length-(i+1),by lia,nl,nw++oT,O6,rfl,c9,i6,(aT.trans ih).trans g5,?_⟩;rw[<-SR,SE (bs:=oT)];simpa[SR]using jT
 ·have eq:i=ds.length:=by lia
  subst eq;rw[UI]at bc;exact .inl ⟨cn (SD _),aL he cj aV ik nw (by simpa[lH]using bc) bS aT⟩
theorem Ey{wi:bQ}{g:eI}{tt:dC}{em:Tl->iy}{eD:ec}{cz:c5}{fD:j6}(bY:og K wi w)(aD:l6 K g eD)(aR:gx K tt cz)(aB:qO K em fD):qO K (fun D=>Es wi g tt (em D)) (yl w eD cz fD):=by
 intro n ρ k h R W D B H σ es Q m aH q;subst aH;refine bY ρ _ h H W B H σ _ (m.ev.rebase m.mu) fun ds J a7 aw aP ag aO it=>?_;obtain⟨bF,ih⟩:=m.same ag aO;exact Ex aD aR aB it bF aP fun bf aF af a1 nw a b c=>q bf aF af a1 nw a b (ih.trans c)
theorem O7{wi:bQ}{g:eI}{tt:dC}{em:Tl->iy}{eD:ec}{cz:c5}{fD:j6}{c':Nat}{js:List Nat}(bY:og K wi w)(aD:l6 K g eD)(aR:gx K tt cz)(aB:qO K em fD)(jU:js.Nodup):pB K (yi wi g tt em c' js) (Ew w eD cz fD c' js):=by
 intro ρ k h R W B H σ Q e q;refine bY ρ _ h R W B H σ _ e fun ds J a7 aw aP ag aO it=>?_;intro D e4;obtain⟨bd,bH,bW⟩:=ag.toWd.fresh e4;have mh:∀i,¬cX σ ρ i D:=fun i m=>ag.notNew e4 m rfl;have fh:=ag.within c' jU
 have jV:∀j a,cX (SQ c' none++fu σ js) (SQ c' .no++js.map (gz ρ)) j a->∃j,j∈js/\σ[j]?=some (some (V.ref a))/\ρ[j]?=some aI.bag:=fun j a m=>by
  have a3:=(fh.mutOk m).2;rcases m with⟨bF,z|⟨es,z⟩⟩|⟨c,z,mV⟩
  ·obtain⟨c,bC,cb,_⟩:=fh.bagAt z;rw[bF]at bC;cases bC;rcases cb with cb|cb
   ·exact cb
   ·exact absurd cb a3
  ·obtain⟨c,bC,cb,_⟩:=fh.ownC z;rw[bF]at bC;cases bC;exact absurd cb a3
  ·exact absurd ((fh.deepAt z).2.fr a mV).1 a3
 generalize mi:(fun a=>∃j,j∈js/\σ[j]?=some (some (V.ref a))/\ρ[j]?=some aI.bag)=fj at fh;have jV:∀j a,cX (SQ c' none++fu σ js) (SQ c' .no++js.map (gz ρ)) j a->fj a:=fun j a m=>by rw[<-mi];exact jV j a m
 have e6:∀a,fj a->∃i:Nat,σ[i]?=some (some (.ref a))/\ρ[i]?=some .bag:=fun a z=>by
  rw[<-mi]at z;obtain⟨j,_,z⟩:=z;exact⟨j,z⟩
 have lq:¬fj D:=fun z=>by
  obtain⟨iX,dN,fZ⟩:=e6 D z;exact mh iX (.inl ⟨dN,.inl fZ⟩)
 refine Ex aD aR aB (R:=aw) (W:=fj) (es:=[]) it ⟨fh.allocH e4 _,e4,bW,lq,jV,[],ei,.nil⟩ aP fun bf cj aV a1 nw a bS aT=>?_;obtain⟨ys,aM,cm⟩:=bS.l;obtain⟨ci,d0⟩:=ag.after e6 bS.ev.toWd aT;exact q _ D ys cj aV a ci (aO.trans d0) bd bS.b aM cm mh
variable{b6 hK bo bu f7 cH cn:WP}{d2 bd bH:List WP}{scope:W'}{bm:List (Str×Tl)}{ts fr:List Str}{js:List Nat}{g0 aO aT:ec}{tx g2 fX:c5}{gd h5:dk}
theorem Ez{a6 it:WP}{α:Type}{Xs:α->aU}(cF:∀a,(Xs a).K=K)(h:∀a,kw (Xs a) a6 it w):∃t,(∀a,hv (Xs a) a6 it t)/\og K t w:=by
 refine⟨fun σ H Q=>∀a,∃t,hv (Xs a) a6 it t/\og K t w/\t σ H Q,fun a pins s σ H Q I q=>?_,fun ρ k q R W B H σ Q e z a=>?_⟩
 ·obtain⟨t,aR,_,aL⟩:=q a;exact aR pins s σ H Q I aL
 ·obtain⟨t,aR,am⟩:=h a;rw[cF a]at am;exact⟨t,aR,am,am ρ k q R W B H σ Q e z⟩
abbrev O8:=Tl×SL×ai×List Tl
theorem O9(bY:kw X f7 hK w)(O':∀C s H ex,iN (cC X (ts++fr) scope bm C s H ex) f7 g0)(Pa:∀C s H ex,lu (cC X (ts++fr) scope bm C s H ex) d2 tx)(aa:∀C s H ex,kw (cC X (ts++fr) scope bm C s H ex) cH bo gd)(Pb:∀C s H ex,iN (cC X (ts++fr) scope bm C s H ex) cH aO)(Pc:∀C s H ex,lu (cC X (ts++fr) scope bm C s H ex) bd g2)(ab:∀C s H ex,kw (cC X (ts++fr) scope bm C s H ex) cn bu h5)(Pd:∀C s H ex,iN (cC X (ts++fr) scope bm C s H ex) cn aT)(Pe:∀C s H ex,lu (cC X (ts++fr) scope bm C s H ex) bH fX)(iR:∀C s H ex,bn (cC X (ts++fr) scope bm C s H ex) b6 u)(F:lh X scope bm fr js)(nm:js.Nodup:=by decide)(hc:X.calm=true:=by rfl)(x0:∀v,Wp hK X.env v=pure v:=by intro _;rfl)(Cr:∀env v,Wp bo env v=pure v:=by intro _ _;rfl)(vQ:∀env v,Wp bu env v=pure v:=by intro _ _;rfl):
  ib X (.ListComp b6 [⟨f7,hK,d2,0⟩,⟨cH,bo,bd,0⟩,⟨cn,bu,bH,0⟩] scope pos) (Ew w g0 tx (yl gd aO g2 (yl h5 aT fX (Ev u))) ts.length js):=by
 obtain⟨_,jo,ff⟩:=bY;let Xs:O8->aU:=fun a=>cC X (ts++fr) scope bm a.1 a.2.1 a.2.2.1 a.2.2.2
 obtain⟨_,Pf,Pg⟩:=oA (K:=X.K) (Xs:=Xs) (fun _=>rfl) fun a=>O' a.1 a.2.1 a.2.2.1 a.2.2.2;obtain⟨_,Ph,Pi⟩:=oz (K:=X.K) (Xs:=Xs) (fun _=>rfl) fun a=>Pa a.1 a.2.1 a.2.2.1 a.2.2.2;obtain⟨_,cx,av⟩:=Ez (K:=X.K) (Xs:=Xs) (fun _=>rfl) fun a=>aa a.1 a.2.1 a.2.2.1 a.2.2.2;obtain⟨_,Pj,Pk⟩:=oA (K:=X.K) (Xs:=Xs) (fun _=>rfl) fun a=>Pb a.1 a.2.1 a.2.2.1 a.2.2.2;obtain⟨_,Pl,Pm⟩:=oz (K:=X.K) (Xs:=Xs) (fun _=>rfl) fun a=>Pc a.1 a.2.1 a.2.2.1 a.2.2.2;obtain⟨_,cg,aK⟩:=Ez (K:=X.K) (Xs:=Xs) (fun _=>rfl) fun a=>ab a.1 a.2.1 a.2.2.1 a.2.2.2;obtain⟨_,Pn,Po⟩:=oA (K:=X.K) (Xs:=Xs) (fun _=>rfl) fun a=>Pd a.1 a.2.1 a.2.2.1 a.2.2.2;obtain⟨_,Pq,Pr⟩:=oz (K:=X.K) (Xs:=Xs) (fun _=>rfl) fun a=>Pe a.1 a.2.1 a.2.2.1 a.2.2.2;obtain⟨_,Ps,iQ⟩:=r4 (K:=X.K) (Xs:=Xs) (fun _=>rfl) fun a=>iR a.1 a.2.1 a.2.2.1 a.2.2.2;refine⟨_,O4 jo (fun C s H ex=>Pf (C,s,H,ex)) (fun C s H ex=>Ph (C,s,H,ex)) (fun D C s H ex=>?_) (fun _ _ _=>OU) F hc x0,O7 ff Pg Pi (Ey av Pk Pm (Ey aK Po Pr (O5 iQ))) nm⟩;exact Eu (Y:=Xs (C,s,H,ex)) (cx _) (Pj _) (Pl _) (Eu (Y:=Xs (C,s,H,ex)) (cg _) (Pn _) (Pq _) (OY (Y:=Xs (C,s,H,ex)) (Ps _) fun _ _ z=>z) (fun _ _ z=>z) hc (vQ _) rfl fun _=>OW) (fun _ _ z=>z) hc (Cr _) rfl fun _=>OV
end
theorem tz{α:Type}{f:α->D}{h:α->List D}{g:ec}{fD:j6}{I:List aI->Prop}{L:Nat}:∀{xs:List α}{n:Nat}{ρ:List aI}{k:List aI->List D->Prop},(∀x∈xs,∀n ρ (k:List aI->List D->Prop),I ρ->n+(h x).length<=L->(∀bf,I bf->k bf (h x))->g (f x) ρ fun eM=>fD n eM k)->I ρ->n+(xs.flatMap h).length<=L->(∀bf,I bf->k bf (xs.flatMap h))->lH g ii fD (xs.map f) n ρ k
 | [],n,ρ,k,_,i,_,ah=>ah ρ i
 | x::xs,n,ρ,k,ak,i,ay,ah=>by
  rw[TV,SE]at ay
  have:=ak x Sv n ρ (fun yk ys=>lH g ii fD (xs.map f) (n+ys.length) yk fun gq di=>k gq (ys++di)) i (by lia) fun bf iX=>tz (fun y aM=>ak y (Sw _ aM)) iX (by lia) fun vR Pt=>by
   have:=ah vR Pt
   rwa [TV]at this
  exact this
theorem o1{α β:Type}{h:α->List β}{b:Nat}:∀{xs:List α},(∀x∈xs,(h x).length<=b)->(xs.flatMap h).length<=b*xs.length
 | [],_=>Ti _
 | x::xs,a=>by
  have:=o1 (xs:=xs) fun y aM=>a y (Sw _ aM);have:=a x Sv;rw[TV,SE,SO,Nat.mul_succ];lia
theorem qP{α:Type}{f h:α->D}{g:ec}{u:bb}{I:List aI->Prop}:∀{xs:List α}{ρ:List aI}{k:List D->Prop},(∀x∈xs,∀ρ (bP:D->List aI->Prop),I ρ->(∀bf,I bf->bP (h x) bf)->g (f x) ρ fun eM=>u eM fun y=>bP y eM)->I ρ->k (xs.map h)->fP g ii u (xs.map f) ρ k
 | [],_,_,_,_,ah=>ah
 | x::xs,ρ,k,ak,i,ah=>ak x Sv ρ (fun y eM=>fP g ii u (xs.map f) eM fun ys=>k (y::ys)) i fun bf iX=>qP (fun y aM=>ak y (Sw _ aM)) iX ah
def I5(ρ:List aI):Prop:=∃a b c d e,ρ=[a,b,c,d,e]
end L3
namespace Cut
open PySem L2 L3
open PySem.Builtin.Int (intBits)
theorem EA{b:Nat}(dw:1<=b):∀{ns:List Int},(∀n∈ns,TE n<=b)->TE ns.sum<=b+ns.length
 | [],_=>SA (show TE 0<=1 by decide) (by lia)
 | n::ns,h=>by
  have a:=EA dw (ns:=ns) fun m aB=>h m (Sw _ aB);rw[To,SO];exact SA (W6 (h n Sv) a) (by lia)
def d5(r:dq):D:=.tup [.int r.1,.int r.2.1,.int r.2.2.1,.int r.2.2.2.1,r.2.2.2.2]
def lJ(t:dq×dq):D:=.tup [t.1.2.2.2.2,t.2.2.2.2.2]
def jr(S:Int)(c:P3):Int:=(c.2.1*S).fdiv c.2.2
def jt(S:Int)(c:P3):Int:=(c.1*S).fdiv c.2.2
def ju(ns:List Int):Int:=ns.min?.getD 0
def jv(ns:List Int):Int:=ns.max?.getD 0
theorem EB{ns:List Int}{m:Int}(h:m∈ns)(l:∀n∈ns,m<=n):ju ns=m:=by
 unfold ju;rw[WE.mpr ⟨h,l⟩];rfl
theorem EC{ns:List Int}{m:Int}(h:m∈ns)(l:∀n∈ns,n<=m):jv ns=m:=by
 unfold jv;rw[WG.mpr ⟨h,l⟩];rfl
theorem ym{ns:List Int}{n:Int}(h:n∈ns):ju ns∈ns/\ju ns<=n:=by
 unfold ju;cases q:ns.min? with
 | none=>rw[List.min?_eq_none_iff]at q;rw[q]at h;cases h
 | some m =>
  obtain⟨a,b⟩:=WE.mp q;exact⟨a,b n h⟩
theorem tA{ns:List Int}{n:Int}(h:n∈ns):jv ns∈ns/\n<=jv ns:=by
 unfold jv;cases q:ns.max? with
 | none=>rw[List.max?_eq_none_iff]at q;rw[q]at h;cases h
 | some m =>
  obtain⟨a,b⟩:=WG.mp q;exact⟨a,b n h⟩
def rc(S:Int)(s:a5):dq:=(ju (s.1.map (jr S)),jv (s.1.map (jr S)),ju (s.1.map (jt S)),jv (s.1.map (jt S)),a9 s)
def o2(r:dq):dq:=(r.2.2.1,r.2.2.2.1,r.1,r.2.1,r.2.2.2.2)
theorem Pu(r o:dq):ov (o2 r) (o2 o)=ov r o:=by
 have e:∀a b c d:Bool,(a&&(b&&(c&&d)))=(c&&(d&&(a&&b))):=by decide
 show(_&&(_&&(_&&_)))=(_&&(_&&(_&&_)))
 exact e _ _ _ _
def yn(t:a5×a5):D:=.tup [a9 t.1,a9 t.2]
def fm(f:a5->a5->Bool)(sh bE:List a5):List (a5×a5):=sh.flatMap fun s=>(bE.filter (f s)).map fun o=>(s,o)
theorem Pv(h:a5->dq)(sh bE:List a5):((sh.map h).flatMap fun r=>((bE.map h).filter (ov r)).map fun o=>(r,o))=(fm (fun s o=>ov (h s) (h o)) sh bE).map fun t=>(h t.1,h t.2):=by
 unfold fm;rw[List.flatMap_map,WH];congr 1;funext s;rw[List.filter_map,SY,SY];rfl
theorem ED{f:a5->a5->Bool}{sh bE:List a5}{t:a5×a5}(h:t∈fm f sh bE):t.1∈sh/\t.2∈bE/\f t.1 t.2=true:=by
 unfold fm at h;obtain⟨s,ak,h⟩:=Uv.mp h;obtain⟨o,aA,rfl⟩:=SJ.mp h;obtain⟨a,b⟩:=Tw.mp aA;exact⟨ak,a,b⟩
theorem Pw{f:a5->a5->Bool}{sh bE:List a5}{s o:a5}(ak:s∈sh)(aA:o∈bE)(h:f s o=true):(s,o)∈fm f sh bE:=by
 unfold fm;exact Uv.mpr ⟨s,ak,SJ.mpr ⟨o,Tw.mpr ⟨aA,h⟩,rfl⟩⟩
theorem EE{a n b m S:Int}(aH:0<n)(aB:0<m)(dH:n*m<=S)(h:(b*S).fdiv m<=(a*S).fdiv n):b*n<=a*m:=by
 apply Tn;intro z;have z:a*m+1<=b*n:=by lia
 have cx:(a*S).fdiv n*n<=a*S:=by
  have:=VV (a*S) n;have d2:=WI (a*S) aH;grind
 have cg:b*S<((b*S).fdiv m+1)*m:=by
  have:=VV (b*S) m;have d2:=WJ (b*S) aB;grind
 generalize(a*S).fdiv n=x at *;generalize(b*S).fdiv m=y at *;have w4:0<S:=Int.lt_of_lt_of_le (SH aH aB) dH;have aN:b*S*n<(y+1)*m*n:=Int.mul_lt_mul_of_pos_right cg aH;have a3:x*n*m<=a*S*m:=VW cx (S0 aB);have cE:(a*m+1)*S<=b*n*S:=VW z (S0 w4);have e8:(y+1)*(m*n)<=(x+1)*(m*n):=VW (by lia) (S0 (SH aB aH));grind
theorem ap{sel:P3->Int}{qG:P3->P3}(qQ:∀c x,ln (qG c) x=c.2.2*sel x-sel c*x.2.2)(aM:∀c:P3,0<c.2.2->∃y z,0<ln (qG c) y/\ln (qG c) z<0){m:Int}{L M:List P3}(cZ:∀c∈L,0<c.2.2/\c.2.2<=m)(cO:∀c∈M,0<c.2.2/\c.2.2<=m)(f2:3<=L.length)(h:jv (L.map fun c=>(sel c*(m*m)).fdiv c.2.2)<=ju (M.map fun c=>(sel c*(m*m)).fdiv c.2.2)):∃g y z,0<ln g y/\ln g z<0/\(∀x∈L,ln g x<=0)/\∀x∈M,0<=ln g x:=by
 cases L with
 | nil=>simp at f2
 | cons a r =>
  have i:(sel a*(m*m)).fdiv a.2.2∈(a::r).map fun c=>(sel c*(m*m)).fdiv c.2.2:=SJ.mpr ⟨a,Sv,rfl⟩;obtain⟨c,hc,qz⟩:=SJ.mp (tA i).1;obtain⟨h1,EF⟩:=cZ c hc;obtain⟨y,z,y0,hf⟩:=aM c h1;have gv:∀{u v:Int},0<u->0<v->u<=m->v<=m->u*v<=m*m:=fun a b c d=>Ve c d (S0 b) (by lia);refine⟨qG c,y,z,y0,hf,fun x aj=>?_,fun x aj=>?_⟩
  ·obtain⟨dI,yo⟩:=cZ x aj;have:=EE (a:=sel c) (n:=c.2.2) (b:=sel x) (m:=x.2.2) h1 dI (gv h1 dI EF yo) (by rw[qz];exact(tA (SJ.mpr ⟨x,aj,rfl⟩)).2);rw[qQ,SX c.2.2];lia
  ·obtain⟨dI,yo⟩:=cO x aj;have:=EE (a:=sel x) (n:=x.2.2) (b:=sel c) (m:=c.2.2) dI h1 (gv dI h1 yo EF) (by rw[qz];exact Int.le_trans h (ym (SJ.mpr ⟨x,aj,rfl⟩)).2);rw[qQ,SX c.2.2];lia
theorem Px{m:Int}{s o:a5}(ak:cy s.1)(aA:cy o.1)(dH:∀c∈s.1,c.2.2<=m)(rx:∀c∈o.1,c.2.2<=m)(h:ov (rc (m*m) s) (rc (m*m) o)=false):cU s.1 (dG o.1)=none:=by
 have c6:∀c∈s.1,0<c.2.2/\c.2.2<=m:=fun c hc=>⟨(ak.p c hc).1,dH c hc⟩;have dt:∀c∈o.1,0<c.2.2/\c.2.2<=m:=fun c hc=>⟨(aA.p c hc).1,rx c hc⟩;have kB:∀c x:P3,ln (c.2.2,0,-c.1) x=c.2.2*x.1-c.1*x.2.2:=fun c x=>by unfold ln;dsimp only;grind
 have rX:∀c x:P3,ln (0,c.2.2,-c.2.1) x=c.2.2*x.2.1-c.2.1*x.2.2:=fun c x=>by unfold ln;dsimp only;grind
 have ex:∀c:P3,0<c.2.2->∃y z,0<ln (c.2.2,0,-c.1) y/\ln (c.2.2,0,-c.1) z<0:=fun c h=>⟨(1,0,0),(-1,0,0),by unfold ln;dsimp only;lia,by unfold ln;dsimp only;lia⟩;have jH:∀c:P3,0<c.2.2->∃y z,0<ln (0,c.2.2,-c.2.1) y/\ln (0,c.2.2,-c.2.1) z<0:=fun c h=>⟨(0,1,0),(0,-1,0),by unfold ln;dsimp only;lia,by unfold ln;dsimp only;lia⟩;have one:(∃g y z,0<ln g y/\ln g z<0/\(∀x∈s.1,ln g x<=0)/\∀x∈o.1,0<=ln g x)->cU s.1 (dG o.1)=none:=fun⟨g,y,z,y0,_,aa,ab⟩=>Ej ak aA y y0 aa ab;have two:(∃g y z,0<ln g y/\ln g z<0/\(∀x∈o.1,ln g x<=0)/\∀x∈s.1,0<=ln g x)->cU s.1 (dG o.1)=none:=fun⟨g,y,z,_,hf,aa,ab⟩=>Ej (g:=fQ g) ak aA z (by rw[f8];lia) (fun x aj=>by rw[f8];have:=ab x aj;lia) fun x aj=>by rw[f8];have:=aa x aj;lia
 unfold ov rc at h;dsimp only at h;by_cases aa:ju (o.1.map (jr (m*m)))<jv (s.1.map (jr (m*m)))
 ·by_cases ab:ju (s.1.map (jr (m*m)))<jv (o.1.map (jr (m*m)))
  ·by_cases aQ:ju (o.1.map (jt (m*m)))<jv (s.1.map (jt (m*m)))
   ·by_cases bB:ju (s.1.map (jt (m*m)))<jv (o.1.map (jt (m*m)))
    ·simp[aa,ab,aQ,bB]at h
    ·exact two (ap (sel:=fun c=>c.1) kB ex dt c6 aA.l (Vf.mp bB))
   ·exact one (ap (sel:=fun c=>c.1) kB ex c6 dt ak.l (Vf.mp aQ))
  ·exact two (ap (sel:=fun c=>c.2.1) rX jH dt c6 aA.l (Vf.mp ab))
 ·exact one (ap (sel:=fun c=>c.2.1) rX jH c6 dt ak.l (Vf.mp aa))
theorem EG{a n:Int}{b:Nat}(cD:0<n)(h:TE a<=b):TE (a.fdiv n)<=b:=by
 refine intBits_le_iff.mpr (Nat.lt_of_le_of_lt ?_ (intBits_le_iff.mp h));have e:=VV a n;have d2:=WI a cD;have bd:=WJ a cD;generalize a.fdiv n=q at *;generalize a.fmod n=r at *;by_cases c:0<=q
 ·have:=Ta c (show 0<=n-1 by lia);have ao:q*(n-1)=n*q-q:=by grind
  lia
 ·have:=Ta (show 0 <= -q-1 by lia) (show 0<=n-1 by lia);have ao:(-q-1)*(n-1) = -(n*q)+q-n+1:=by grind
  lia
theorem Py{S:Int}{s:a5}(dH:TE S<=180)(ne:s.1≠[])(h:∀c∈s.1,cq 90 c):TE (rc S s).1<=400/\TE (rc S s).2.1<=400/\TE (rc S s).2.2.1<=400/\TE (rc S s).2.2.2.1<=400:=by
 obtain⟨h1,cS⟩:=UM _ ne
 have aM:∀n∈s.1.map (jr S),TE n<=400:=fun n aH=>by
  obtain⟨c,hc,rfl⟩:=SJ.mp aH;exact SA (EG (h c hc).pt.1 (UF (h c hc).bp.b dH)) (by decide)
 have aj:∀n∈s.1.map (jt S),TE n<=400:=fun n aH=>by
  obtain⟨c,hc,rfl⟩:=SJ.mp aH;exact SA (EG (h c hc).pt.1 (UF (h c hc).bp.a dH)) (by decide)
 have EH:jr S h1∈s.1.map (jr S):=SJ.mpr ⟨h1,cS,rfl⟩;have EI:jt S h1∈s.1.map (jt S):=SJ.mpr ⟨h1,cS,rfl⟩;exact⟨aM _ (ym EH).1,aM _ (tA EH).1,aj _ (ym EI).1,aj _ (tA EI).1⟩
theorem Pz{N:Int}{p:P3}(aq:bL p)(h:qx N p):p.2.2∣N:=by
 obtain⟨⟨k,ah⟩,⟨j,bz⟩⟩:=h;have z:=eG aq.1;unfold dF at ah;unfold dB at bz;have ag:(p.1:Rat)*N=k*p.2.2:=by grind
 have ag:p.1*N=k*p.2.2:=by exact_mod_cast ag
 have ao:(p.2.1:Rat)*N=j*p.2.2:=by grind
 have ao:p.2.1*N=j*p.2.2:=by exact_mod_cast ao
 have ej:p.2.2.natAbs∣p.1.natAbs*N.natAbs:=by
  rw[<-TC,ag];exact TN.mpr (UP _ _)
 have fv:p.2.2.natAbs∣p.2.1.natAbs*N.natAbs:=by
  rw[<-TC,ao];exact TN.mpr (UP _ _)
 have ku:p.2.2.natAbs∣p.2.2.natAbs*N.natAbs:=Nat.dvd_mul_right _ _;have g:Tc (Tc p.1.natAbs p.2.1.natAbs) p.2.2.natAbs=1:=aq.2;have d:=UY (UY ej fv) ku;rw[UZ,UZ,g,Nat.one_mul]at d;exact TN.mp d
def fo(m:Int)(p:P3):Prop:=bL p/\p.2.2∣6/\(0<=dF p/\dF p<=(m:Rat))/\0<=dB p/\dB p<=(m:Rat)
def j7(p:P3):Prop:=cq 6 p/\fo 6 p
theorem o3{x m n:Int}(cD:0<n)(dI:0<=x)(gt:x<=m*n):0<=(x:Rat)/n/\(x:Rat)/n<=(m:Rat):=by
 have a:(0:Rat)<(n:Rat):=nG.mpr cD;refine⟨Nt cD dI,Nr cD gt⟩
theorem EJ{x m n:Int}(cD:0<n)(h:0<=(x:Rat)/n/\(x:Rat)/n<=(m:Rat)):0<=x/\x<=m*n:=by
 have z:=eG cD;have jl:=nG.mpr cD;have e:(x:Rat)=(x:Rat)/n*n:=by grind
 have v1:=Us h.1 (Ua jl);have v2:=Us h.2 (Ua jl);rw[<-e]at v1 v2;rw[Rat.zero_mul]at v1;exact⟨xM.mp v1,by exact_mod_cast v2⟩
theorem EK{a b n m:Int}(cD:0<n)(h:n∣6)(eR:0<=a)(c6:a<=m*n)(kE:0<=b)(dw:b<=m*n):fo m (nP (a,b,n)):=by
 have i:=C' (a:=a) (b:=b) cD;refine⟨i.1,Tg (Ea (p:=(a,b,n)) (S1 cD)) h,?_,?_⟩
 ·rw[show dF (nP (a,b,n))=_ from i.2.1];exact o3 cD eR c6
 ·rw[show dB (nP (a,b,n))=_ from i.2.2];exact o3 cD kE dw
theorem fo.sl{m n:Int}{g p:P3}(aq:fo m p)(aD:fo n g):fo (m+n) (nP (sld g p)):=by
 have i:=s4 (g:=g) (p:=p) ⟨aD.1,rfl,rfl⟩ ⟨aq.1,rfl,rfl⟩;have jl:=xO aq.1 aq.2.1;have qI:=xO aD.1 aD.2.1;obtain⟨_,_,⟨cx,cg⟩,jp,yp⟩:=aq;obtain⟨_,_,⟨aO,aT⟩,g3,d0⟩:=aD;have c:((m+n:Int):Rat)=(m:Rat)+n:=TP _ _;refine⟨i.1,Pz i.1 ⟨?_,?_⟩,⟨?_,?_⟩,?_,?_⟩
 ·rw[i.2.1];exact jl.1.add qI.1
 ·rw[i.2.2];exact jl.2.add qI.2
 ·rw[i.2.1];grind
 ·rw[i.2.1,c];grind
 ·rw[i.2.2];grind
 ·rw[i.2.2,c];grind
theorem fo.bits{m:Int}{p:P3}(h:fo m p):0<=p.1/\p.1<=m*p.2.2/\0<=p.2.1/\p.2.1<=m*p.2.2/\0<p.2.2/\p.2.2<=6:=by
 obtain⟨c6,dt⟩:=EJ h.1.1 h.2.2.1;obtain⟨dw,d4⟩:=EJ h.1.1 h.2.2.2;exact⟨c6,dt,dw,d4,h.1.1,VR (by decide) h.2.1⟩
def kN(ps:List P3):List P3:=(bi ps).map fun e=>crs e.1 e.2
structure gD (ring:List P3) (n:Nat) (dY:List P3) (sh:List a5):Prop where
 len:sh.length<=2^n
 ll:dY.length<=n
 lb:∀l∈dY,cp 29 l/\(l.1≠0∨l.2.1≠0∨l.2.2≠0)
 rg:∀s∈sh,cy s.1
 ln:∀s∈sh,s.1.length<=5+n
 rl:∀D G,kL 29 D G->(∀g,g∈kN ring++dY->G g)->(∀x∈ring,x.2.2∣D)->∀s∈sh,hl 59 D G s.1
 ar:gX sh=cP ring
 al:∀r,cy r->gZ r sh=e' r ring
 inn:∀s∈sh,∀x∈s.1,∀e∈bi ring,0<=az e.1 e.2 x
theorem gD.start{ring:List P3}(r:cy ring)(PA:ring.length<=5)(gp:∀x∈ring,cq 6 x)(t:Bool×P3):gD ring 0 [] [(ring,t)]:=by
 have one:∀s∈[((ring,t):a5)],s=(ring,t):=fun s h=>S'.mp h;refine⟨SD _,SD _,(fun l h=>by cases h),fun s h=>by rw[one s h];exact r,fun s h=>by rw[one s h];exact PA,fun D G cZ eZ aj s h=>?_,?_,fun q aL=>?_,fun s h=>?_⟩
 ·rw[one s h];refine⟨fun x ri=>⟨(gp x ri).mono (by decide),aj x ri⟩,fun e au=>⟨crs e.1 e.2,eZ _ (Tf _ (SJ.mpr ⟨e,au,rfl⟩)),kH _ _,im _ _⟩⟩
 ·rw[oP,show gX []=0 from rfl,Ub]
 ·rw[oZ,show gZ q []=0 from rfl,Ub]
 ·rw[one s h];exact fun x aj e au=>r.ge au x aj
theorem gD.cut{ring:List P3}{n:Nat}{dY:List P3}{sh:List a5}(h:gD ring n dY sh){p q:P3}(aq:cq 14 p)(aL:cq 14 q)(ne:p≠q):gD ring (n+1) (crs p q::dY) (eg (Cut.ln (crs p q)) (bv (crs p q)) sh++eg (fun c => -Cut.ln (crs p q) c) (bv (crs p q)) sh):=by
 have kO:=xB aq.pt aL.pt ne;have cv:(fun c => -Cut.ln (crs p q) c)=Cut.ln (fQ (crs p q)):=(CG _).symm
 have mem:∀s∈eg (Cut.ln (crs p q)) (bv (crs p q)) sh++eg (fun c => -Cut.ln (crs p q) c) (bv (crs p q)) sh,∃t∈sh,∃l',(l'=crs p q∨l'=fQ (crs p q))/\s=(cr (Cut.ln l') (bv (crs p q)) t.1,t.2)/\∃c∈t.1,0<Cut.ln l' c:=fun s ak=>by
  rcases SI.mp ak with z|z
  ·obtain⟨t,aR,e,c⟩:=CR z;exact⟨t,aR,_,.inl rfl,e,c⟩
  ·rw[cv]at z;obtain⟨t,aR,e,c⟩:=CR z;exact⟨t,aR,_,.inr rfl,e,c⟩
 have ok:∀{l'},(l'=crs p q∨l'=fQ (crs p q))->hi l' (bv (crs p q)):=fun e=>by
  rcases e with rfl|rfl
  ·exact gU _
  ·exact(gU _).ng
 refine⟨?_,Nat.succ_le_succ h.ll,fun l ay=>?_,fun s ak=>?_,fun s ak=>?_,fun D G cZ eZ aj s ak=>?_,?_,fun r am=>?_,fun s ak=>?_⟩
 ·have:=oO (f:=Cut.ln (crs p q)) (mt:=bv (crs p q)) sh;have:=oO (f:=fun c => -Cut.ln (crs p q) c) (mt:=bv (crs p q)) sh;have:=h.len;rw[SE,Nat.pow_succ];lia
 ·rcases Sy.mp ay with rfl|ay
  ·exact⟨aq.bp.crs aL.bp,kO.imp id .inl⟩
  ·exact h.lb l ay
 ·obtain⟨t,aR,l',e,rfl,c⟩:=mem s ak;exact(h.rg t aR).cutL e c
 ·obtain⟨t,aR,l',e,rfl,c⟩:=mem s ak;have jw:=(h.rg t aR).cutL e c
  have hB:l'.1≠0∨l'.2.1≠0:=by
   rcases e with rfl|rfl
   ·exact kO
   ·rcases kO with z|z
    ·exact .inl (by unfold fQ sc;dsimp only;lia)
    ·exact .inr (by unfold fQ sc;dsimp only;lia)
  have:=xP (ok e) hB jw.t fun x aj=>(jw.p x aj).1;have:=h.ln t aR;show(cr (Cut.ln l') (bv (crs p q)) t.1).length<=5+(n+1)
  lia
 ·obtain⟨t,aR,l',e,rfl,c⟩:=mem s ak
  have r:=h.rl D G cZ (fun g aD=>eZ g (by
   rcases SI.mp aD with z|z
   ·exact Tf _ z
   ·exact SN _ (Sw _ z))) aj t aR
  exact r.cut cZ (g0:=crs p q) (a:=1) (c:=1) (eZ _ (SN _ Sv)) (by decide) (by decide) rfl p (kH _ _) (by decide) l' e
 ·rw[xA,<-h.ar];exact CY kO aq.pt.1 (kH p q) fun s ak x aj=>(h.rg s ak).p x aj
 ·rw[qN,<-h.al r am];exact Ep am kO aq.pt.1 (kH p q) h.rg
 ·obtain⟨t,aR,l',e,rfl,c⟩:=mem s ak;exact fun x aj d hd=>mv (ok e) (g:=crs d.1 d.2) (fun y aM=>h.inn t aR y aM d hd) x aj
theorem gD.mono{ring:List P3}{n m:Nat}{dY:List P3}{sh:List a5}(h:gD ring n dY sh)(iw:n<=m):gD ring m dY sh :=
 ⟨SA h.len (WK (by decide) iw),SA h.ll iw,h.lb,h.rg,fun s ak=>SA (h.ln s ak) (by lia),h.rl,h.ar,h.al,h.inn⟩
theorem gD.told{ring:List P3}{n:Nat}{dY:List P3}{sh qR:List a5}(h:gD ring n dY sh)(e:qR.map (·.1)=sh.map (·.1)):gD ring n dY qR:=by
 have back:∀s∈qR,∃t∈sh,t.1=s.1:=fun s ak=>by
  have:s.1∈sh.map (·.1):=by rw[<-e];exact SJ.mpr ⟨s,ak,rfl⟩
  obtain⟨t,aR,q⟩:=SJ.mp this;exact⟨t,aR,q⟩
 have iw:qR.length=sh.length:=by have:=Uf Th e;rwa [Sz,Sz]at this
 have en:∀f:List P3->Rat,(qR.map fun s=>f s.1).sum=(sh.map fun s=>f s.1).sum:=fun f=>by
  have:=Uf (fun l=>(l.map f).sum) e;rw[SY,SY]at this;exact this
 refine⟨by rw[iw];exact h.len,h.ll,h.lb,fun s ak=>?_,fun s ak=>?_,fun D G a b c s ak=>?_,?_,fun r am=>?_,fun s ak=>?_⟩
 ·obtain⟨t,aR,q⟩:=back s ak;rw[<-q];exact h.rg t aR
 ·obtain⟨t,aR,q⟩:=back s ak;rw[<-q];exact h.ln t aR
 ·obtain⟨t,aR,q⟩:=back s ak;rw[<-q];exact h.rl D G a b c t aR
 ·rw[<-h.ar];exact en cP
 ·rw[<-h.al r am];exact en (e' r)
 ·obtain⟨t,aR,q⟩:=back s ak;rw[<-q];exact h.inn t aR
theorem PB{ring:List P3}{n m:Nat}{dY lK:List P3}{sh bE:List a5}(am:cy ring)(h:gD ring n dY sh)(g:gD ring m lK bE){f:a5->a5->Bool}(bG:∀s∈sh,∀o∈bE,f s o=false->cU s.1 (dG o.1)=none):((fm f sh bE).map fun t=>e' t.1.1 t.2.1).sum=cP ring:=by
 have one:∀s∈sh,((bE.filter (f s)).map fun o=>e' s.1 o.1).sum=cP s.1:=fun s ak=>by
  have:∀L:List a5,(∀o∈L,o∈bE)->((L.filter (f s)).map fun o=>e' s.1 o.1).sum=gZ s.1 L:=fun L=>by
   induction L with
   | nil=>intro _;rfl
   | cons o L bR =>
    intro cZ;have bR:=bR fun x aj=>cZ x (Sw _ aj);rw[oZ];cases q:f s o with
    | true=>rw[TG,TI q,SV,To,bR]
    | false =>
     rw[TG,TT (by rw[q];decide),bR];have:e' s.1 o.1=0:=by unfold e';rw[bG s ak o (cZ o Sv) q]
     rw[this,Vd]
  rw[this bE fun _ z=>z,g.al s.1 (h.rg s ak)];exact OT (h.rg s ak) am (h.inn s ak)
 have:∀L:List a5,(∀s∈L,s∈sh)->((fm f L bE).map fun t=>e' t.1.1 t.2.1).sum=gX L:=fun L=>by
  induction L with
  | nil=>intro _;rfl
  | cons s L bR =>
   intro cZ;have bR:=bR fun x aj=>cZ x (Sw _ aj);have e:fm f (s::L) bE=((bE.filter (f s)).map fun o=>(s,o))++fm f L bE:=by unfold fm;rw[TV]
   rw[e,S9,Vg,bR,oP,SY];congr 1;exact one s (cZ s Sv)
 rw[this sh fun _ z=>z,h.ar]
end Cut
namespace L3
open PySem L2
theorem EL{α:Type}{f:α->D}{g:ec}{s:cM}{U:gw}(I:List α->List aI->Prop):∀{rs done:List α}{ρ:List aI},I done ρ ->
  (∀pre x rest ρ,done++rs=pre++x::rest->I pre ρ->∀N:List aI->Prop,(∀bf,I (pre++[x]) bf->N bf)->g (f x) ρ fun eM=>s { U with nx:=N,ct:=N,bk:=U.nx } eM)->(∀ρ,I (done++rs) ρ->U.nx ρ)->eY g s U (rs.map f) ρ
 | [],done,ρ,i,_,hd=>hd ρ (by rw[SG];exact i)
 | x::rs,done,ρ,i,ak,hd=>ak done x rs ρ rfl i _ fun bf iX=>EL I (done:=done++[x]) iX (fun pre y rest ρ e=>ak pre y rest ρ (by rw[<-e,SR];rfl)) fun ρ i=>hd ρ (by rw[SR]at i;exact i)
theorem EM(a b:Bool):(!eqD (.bl a) (.bl b))=(a != b):=by
 have:eqD (.bl a) (.bl b)=(a==b):=me (by rw[beq_iff_eq,D.bl.injEq]);rw[this];rfl
end L3
namespace Cut
open PySem L2 L3
open PySem.Builtin.Int (intBits)
def cQ(s:a5)(z:P3):P3:=if s.2.1=true then trn (nP (sld (trn s.2.2) z))else nP (sld (trn s.2.2) z)
theorem PC(s:a5):su s=s.1.map (cQ s):=by
 unfold su cQ;cases s.2.1 with
 | true=>rw[TI rfl,SY];rfl
 | false=>rfl
def jx(s o:a5):P3:=if o.2.1=true then trn (nP (sld (trn o.2.2) s.2.2))else nP (sld (trn o.2.2) s.2.2)
def hm(b:Bool):Rat:=if b=true then -1 else 1
theorem yq{p:P3}{x y:Rat}(h:f' p x y):f' (trn p) (-x) (-y):=⟨h.1.trn,by rw[(Dp p).1,h.2.1],by rw[(Dp p).2,h.2.2]⟩
theorem yr{b:Bool}{p:P3}{x y:Rat}(h:f' p x y):f' (if b=true then trn p else p) (hm b*x) (hm b*y):=by
 cases b with
 | true=>rw[TI rfl];exact(yq h).to (by unfold hm;rw[TI rfl];grind) (by unfold hm;rw[TI rfl];grind)
 | false=>rw[TT SP];exact h.to (by unfold hm;rw[TT SP];grind) (by unfold hm;rw[TT SP];grind)
theorem tB{p:P3}(h:bL p):f' p (dF p) (dB p):=⟨h,rfl,rfl⟩
theorem j8{s:a5}{z:P3}(ak:bL s.2.2)(hz:bL z):f' (cQ s z) (hm s.2.1*(dF z + -dF s.2.2)) (hm s.2.1*(dB z + -dB s.2.2)):=yr (s4 (yq (tB ak)) (tB hz))
theorem PD{s o:a5}(ak:bL s.2.2)(aA:bL o.2.2):f' (jx s o) (hm o.2.1*(dF s.2.2 + -dF o.2.2)) (hm o.2.1*(dB s.2.2 + -dB o.2.2)):=yr (s4 (yq (tB aA)) (tB ak))
theorem PE(a b:Bool):hm (a != b)=hm a*hm b:=by
 cases a<;>cases b<;>unfold hm<;>simp<;>grind
theorem EN(a:Bool):hm a*hm a=1:=by cases a<;>unfold hm<;>simp<;>grind
theorem PF{s o:a5}{z:P3}(ak:bL s.2.2)(aA:bL o.2.2)(hz:bL z):qv (s.2.1 != o.2.1) (jx s o) (cQ s z)=cQ o z:=by
 have a:=s4 (PD ak aA) (yr (b:=s.2.1 != o.2.1) (j8 ak hz));have q:=EN s.2.1;rw[PE]at a;exact a.eq ((j8 aA hz).to (by grind) (by grind))
theorem EO{s:a5}{a b c:P3}(ak:bL s.2.2)(ax:bL a)(ae:bL b)(hc:bL c):ef (cQ s a) (cQ s b) (cQ s c)=ef a b c:=by
 unfold ef;rw[(j8 ak ax).2.1,(j8 ak ax).2.2,(j8 ak ae).2.1,(j8 ak ae).2.2,(j8 ak hc).2.1,(j8 ak hc).2.2];have q:=EN s.2.1;grind
theorem EP{s:a5}{a b c:P3}(ak:bL s.2.2)(ax:bL a)(ae:bL b)(hc:bL c):0<az (cQ s a) (cQ s b) (cQ s c)↔0<az a b c:=by
 rw[Dr (j8 ak ax).1 (j8 ak ae).1 (j8 ak hc).1,EO ak ax ae hc,Dr ax ae hc]
theorem EQ(a b c:P3):az a c b = -az a b c:=by unfold az crs;dsimp only;grind
theorem yt{s:a5}{a b c:P3}(ak:bL s.2.2)(ax:bL a)(ae:bL b)(hc:bL c)(h:0<=az a b c):0<=az (cQ s a) (cQ s b) (cQ s c):=by
 apply Tn;intro n;have:=(EP ak ax hc ae).mp (by rw[EQ];lia);rw[EQ]at this;lia
def j9(f:List P3):List (List P3):=((f.drop 1).zip (f.drop 2)).map fun e=>[f.headD (0,0,1),e.1,e.2]
theorem ER:∀(c:P3)(r:List P3),(c::r).zip r=ck c r
 | c,[]=>rfl
 | c,d::r=>by
  show(c,d)::(d::r).zip r=(c,d)::ck d r
  rw[ER d r]
theorem yu(a b:P3)(r:List P3):j9 (a::b::r)=(ck b r).map fun e=>[a,e.1,e.2]:=by
 show((b::r).zip r).map _=_
 rw[ER];rfl
theorem yv(h:P3->P3):∀F:List P3,F≠[]->j9 (F.map h)=(j9 F).map fun r=>r.map h
 | a::F,_=>by
  unfold j9;rw[<-UJ,<-UJ,VX,SY,SY];rfl
theorem yw(a p q:P3):cP [a,p,q]=ef a p q:=by
 show d1 gW [(q,a),(a,p),(p,q)]=_
 unfold d1 gW ef;simp only[SV,UT,To,List.sum_nil];grind
theorem PG:∀{F:List P3},3<=F.length->((j9 F).map cP).sum=cP F
 | a::b::r,_=>by
  rw[yu,<-qq a (a::b::r)];have e:bi (a::b::r)=(lz (0,0,1) (a::b::r),a)::(a,b)::ck b r:=rfl;rw[e,fR,fR,SY];have aP:ef a (lz (0,0,1) (a::b::r)) a=0:=by unfold ef;grind
  have bc:ef a a b=0:=by unfold ef;grind
  show _=ef a (lz (0,0,1) (a::b::r)) a+(ef a a b+_)
  rw[aP,bc,Vd,Vd];unfold d1;congr 1;exact Uo fun e _=>yw a e.1 e.2
theorem ES{F:List P3}(h:cy F):∀r∈j9 F,qu r/\∀x∈r,x∈F:=by
 match F,h with
 | [],h=>exact absurd h.l (by simp)
 | [_],h=>exact absurd h.l (by simp)
 | a::b::r,h =>
  intro t aR;rw[yu]at aR;obtain⟨e,au,rfl⟩:=SJ.mp aR;have dj:[a,e.1,e.2].Sublist (a::b::r):=(Dq au).cons₂ a;have f7:=h.t.sub dj;refine⟨⟨a,e.1,e.2,rfl,f7.1.1 e.2 Sv⟩,fun x aj=>dj.subset aj⟩
theorem ET{a z:P3}:∀{r:List P3}{b:P3},r≠[]->0<=az a b z->az a (lz b r) z<=0->(∀e∈ck b r,0<=az e.1 e.2 z)->∃e∈ck b r,0<=az a e.1 z/\0<=az e.1 e.2 z/\az a e.2 z<=0
 | [],_,n,_,_,_=>absurd rfl n
 | c::r,b,_,aa,ab,aQ=>by
  by_cases k:az a c z<=0
  ·exact⟨(b,c),Sv,aa,aQ (b,c) Sv,k⟩
  ·have n:r≠[]:=fun e=>by subst e;exact k ab
   obtain⟨e,au,q⟩:=ET (r:=r) (b:=c) n (by lia) ab fun e au=>aQ e (Sw _ au);exact⟨e,Sw _ au,q⟩
theorem PH{F:List P3}(h:cy F){z:P3}(hz:∀e∈bi F,0<az e.1 e.2 z):∃r∈j9 F,∀e∈bi r,0<=az e.1 e.2 z:=by
 match F,h,hz with
 | [],h,_=>exact absurd h.l (by simp)
 | [_],h,_=>exact absurd h.l (by simp)
 | [_,_],h,_=>exact absurd h.l (by simp)
 | a::b::c::r,h,hz =>
  have e:bi (a::b::c::r)=(lz (0,0,1) (a::b::c::r),a)::(a,b)::ck b (c::r):=rfl;rw[e]at hz;have bT:=hz (a,b) (by simp);have bP:=hz (lz (0,0,1) (a::b::c::r),a) (by simp)
  have eN:az a (lz b (c::r)) z<=0:=by
   have ao:lz (0,0,1) (a::b::c::r)=lz b (c::r):=rfl;rw[ao]at bP;have:az (lz b (c::r)) a z = -az a (lz b (c::r)) z:=by unfold az crs;dsimp only;grind
   have bP:0<az (lz b (c::r)) a z:=bP;lia
  obtain⟨d,hd,aN,a3,cE⟩:=ET (a:=a) (z:=z) (r:=c::r) (b:=b) (by simp) (S0 bT) eN fun d hd=>S0 (hz d (Sw _ (Sw _ hd)));refine⟨[a,d.1,d.2],by rw[yu];exact SJ.mpr ⟨d,hd,rfl⟩,fun e au=>?_⟩;have au:e∈[(d.2,a),(a,d.1),(d.1,d.2)]:=au;simp only[Sy,Tj,or_false]at au;rcases au with rfl|rfl|rfl
  ·show 0<=az d.2 a z
   have:az d.2 a z = -az a d.2 z:=by unfold az crs;dsimp only;grind
   lia
  ·exact aN
  ·exact a3
def kP(F:List P3)(s o:a5):List a5:=(j9 (F.map (cQ s))).map fun r=>(r,(s.2.1 != o.2.1),jx s o)
noncomputable def gE(t:a5×a5):List a5:=match cU t.1.1 (dG t.2.1)with
 | some F=>kP F t.1 t.2
 | none=>[]
theorem qS{t:a5×a5}{F:List P3}(h:cU t.1.1 (dG t.2.1)=some F):gE t=kP F t.1 t.2:=by unfold gE;rw[h]
theorem yx{t:a5×a5}(h:cU t.1.1 (dG t.2.1)=none):gE t=[]:=by unfold gE;rw[h]
theorem PI{α:Type}{f:α->Rat}{a b:List α}(h:a.Perm b):(a.map f).sum=(b.map f).sum:=by
 induction h with
 | nil=>rfl
 | cons x _ bR=>rw[SV,SV,To,To,bR]
 | swap x y l=>rw[SV,SV,SV,SV,To,To,To,To];grind
 | trans _ _ i j=>rw[i,j]
structure o4 (D:Int) (m:a5):Prop where
 tri:qu m.1
 gp:∀x∈m.1,cq 90 x
 st:cq 90 m.2.2
 zd:fC (D*D) (cP m.1)
theorem cq.fir{m:Nat}{s:a5}{z:P3}(hz:cq m z)(ak:cq 6 s.2.2):cq (m+7) (cQ s z):=by
 have g:cq (m+7) (nP (sld (Cut.trn s.2.2) z)):=(ak.trn.sl hz).mono (by lia);unfold cQ;split
 ·exact g.trn
 ·exact g
theorem PJ{D:Int}{G:P3->Prop}{F:List P3}{s o:a5}(dA:cy F)(rl:hl 59 D G F)(ak:cq 6 s.2.2)(aA:cq 6 o.2.2):(∀m∈kP F s o,o4 D m)/\((kP F s o).map fun m=>cP m.1).sum=cP F:=by
 have ne:F≠[]:=fun z=>by have:=dA.l;rw[z]at this;simp at this
 have pt:=dA.p;have tri:=ES dA
 have er:∀r∈j9 F,cP (r.map (cQ s))=cP r:=fun r am=>by
  obtain⟨⟨a,b,c,rfl,_⟩,dj⟩:=tri r am;show cP [cQ s a,cQ s b,cQ s c]=cP [a,b,c]
  rw[yw,yw,EO ak.pt (pt a (dj a (by simp))) (pt b (dj b (by simp))) (pt c (dj c (by simp)))]
 refine⟨fun m aB=>?_,?_⟩
 ·obtain⟨c7,EU,rfl⟩:=SJ.mp aB;rw[yv _ _ ne]at EU;obtain⟨r,am,rfl⟩:=SJ.mp EU;obtain⟨⟨a,b,c,rfl,hY⟩,dj⟩:=tri r am;have iI:=pt a (dj a (by simp));have o5:=pt b (dj b (by simp));have kI:=pt c (dj c (by simp));refine⟨⟨_,_,_,rfl,(EP ak.pt iI o5 kI).mpr hY⟩,fun x aj=>?_,?_,?_⟩
  ·obtain⟨y,aM,rfl⟩:=SJ.mp aj;exact((rl.pts y (dj y aM)).1.fir ak).mono (by decide)
  ·have g:cq 90 (nP (sld (trn o.2.2) s.2.2)):=(aA.trn.sl ak).mono (by decide);show cq 90 (jx s o)
   unfold jx;split
   ·exact g.trn
   ·exact g
  ·show fC (D*D) (cP (([a,b,c]:List P3).map (cQ s)))
   rw[er _ am];exact Nz fun x aj=>xO (pt x (dj x aj)) (rl.pts x (dj x aj)).2
 ·unfold kP;rw[SY,yv _ _ ne,SY,<-PG dA.l];congr 1;exact Uo fun r am=>er r am
theorem EV(F:List P3)(s o:a5):(kP F s o).length<=F.length:=by
 unfold kP j9;simp only[Sz,TR,TL];lia
theorem PK{F:List P3}{s o:a5}{z:P3}(dA:cy F)(ak:bL s.2.2)(hz:bL z)(h:∀e∈bi F,0<az e.1 e.2 z):∃m∈kP F s o,wi m.1 (cQ s z)≠0/\m.2=((s.2.1 != o.2.1),jx s o):=by
 have ne:F≠[]:=fun z=>by have:=dA.l;rw[z]at this;simp at this
 obtain⟨r,am,q⟩:=PH dA h;obtain⟨⟨a,b,c,rfl,_⟩,dj⟩:=ES dA r am;have iI:=dA.p a (dj a (by simp));have o5:=dA.p b (dj b (by simp));have kI:=dA.p c (dj c (by simp));refine⟨([a,b,c].map (cQ s),(s.2.1 != o.2.1),jx s o),SJ.mpr ⟨_,by rw[yv _ _ ne];exact SJ.mpr ⟨_,am,rfl⟩,rfl⟩,Nk fun e au=>?_,rfl⟩;have au:e∈[(cQ s c,cQ s a),(cQ s a,cQ s b),(cQ s b,cQ s c)]:=au;simp only[Sy,Tj,or_false]at au;rcases au with rfl|rfl|rfl
 ·exact yt ak kI iI hz (q (c,a) (by show _∈[(c,a),(a,b),(b,c)];simp))
 ·exact yt ak iI o5 hz (q (a,b) (by show _∈[(c,a),(a,b),(b,c)];simp))
 ·exact yt ak o5 kI hz (q (b,c) (by show _∈[(c,a),(a,b),(b,c)];simp))
theorem EW{ps:List P3}{s:P3}(h:wi ps s=1):∀e∈bi ps,0<az e.1 e.2 s:=by
 rcases MG (ps:=ps) (s:=s) (by rw[h];decide)with⟨_,q⟩|⟨q,_⟩
 ·exact q
 ·rw[h]at q;cases q
theorem EX{ps:List P3}(r:cy ps){e:P3×P3}(au:e∈bi ps):e.1≠e.2:=fun z=>by
 obtain⟨x,_,d⟩:=(hj r.t r.l au).2;rw[z]at d;have:az e.2 e.2 x=0:=by unfold az crs;dsimp only;grind
 lia
theorem tC{D:Int}{G:P3->Prop}{bj:List P3}(cZ:kL 29 D G):∀{es:List (P3×P3)}{ps F:List P3},cy ps->hl 59 D G ps->cy bj->hl 59 D G bj->(∀e∈es,e∈bi bj)->cU ps es=some F->cy F/\hl 59 D G F/\F.length<=ps.length+es.length
 | [],ps,F,fL,ir,_,_,_,h=>by
  unfold cU at h;rw[<-SM h];exact⟨fL,ir,SD _⟩
 | e::es,ps,F,fL,ir,jq,hZ,aB,h=>by
  obtain⟨c,ab⟩:=qr h;have au:=aB e Sv;obtain⟨bF,bS⟩:=iq au;have jw:=fL.cut c;obtain⟨g,eZ,iu,iv⟩:=hZ.lin e au;obtain⟨iH,l0,qJ,yy,e7⟩:=par (cZ.n g eZ) iu iv (jq.line au);have ao:=(oQ c).2;have rl:hl 59 D G (f9 e ps):=by rw[ao];exact ir.cut cZ eZ qJ yy e7 e.1 (kH _ _) (by decide) _ (.inl rfl)
  obtain⟨x,y,z⟩:=tC cZ jw rl jq hZ (fun d hd=>aB d (Sw _ hd)) ab;refine⟨x,y,SA z ?_⟩;have yz:(crs e.1 e.2).1≠0∨(crs e.1 e.2).2.1≠0:=xB (jq.p _ bF) (jq.p _ bS) (EX jq au);rw[ao]at jw ⊢;have:=xP (gU _) yz jw.t fun x aj=>(jw.p x aj).1;rw[SO];lia
theorem PL{n:Int}(aa:0<n)(ab:n<=3):n∣6:=by
 obtain rfl|rfl|rfl:n=1∨n=2∨n=3:=by lia
 ·exact⟨6,rfl⟩
 ·exact⟨3,rfl⟩
 ·exact⟨2,rfl⟩
theorem tD{a b n:Int}(h:bL (a,b,n))(d:n∣6)(eR:0<=a)(c6:a<=6*n)(kE:0<=b)(dw:b<=6*n):fo 6 (a,b,n):=⟨h,d,o3 h.1 eR c6,o3 h.1 kE dw⟩
theorem fo.gp{m:Int}{p:P3}(h:fo m p)(aB:m<=1830):cq 14 p:=by
 obtain⟨a,b,c,d,e,f⟩:=h.bits
 have cS:0<=m:=by
  apply Tn;intro z;have:=SH (show 0 < -m by lia) e;have ao : -m*p.2.2 = -(m*p.2.2):=Vx ..;lia
 have k:m*p.2.2<=1830*6:=Ve aB f (S0 e) (by decide);exact⟨h.1,intBits_le_iff.mpr (by show p.1.natAbs<16384;lia),intBits_le_iff.mpr (by show p.2.1.natAbs<16384;lia),intBits_le_iff.mpr (by show p.2.2.natAbs<16384;lia)⟩
theorem PM{x:P3}{d:Int}(h:j7 x)(hY:0<=d)(ej:d<61):fo 366 (du (x.1*(1+d)) (x.2.1*(1+d)) x.2.2):=by
 obtain⟨a,b,c,e,f,g⟩:=h.2.bits
 have k:∀{u:Int},0<=u->u<=6*x.2.2->0<=u*(1+d)/\u*(1+d)<=366*x.2.2:=fun{u} tx g2=>by
  refine⟨Ta tx (by lia),?_⟩;have:=Ve g2 (show 1+d<=61 by lia) (by lia) (by lia);lia
 exact EK f h.2.2.1 (k a b).1 (k a b).2 (k c e).1 (k c e).2
theorem PN{P:P3}{w:Int}(h:fo 1830 P)(eU:0<w)(gd:w<=305):cq 14 (du P.1 P.2.1 (P.2.2*w)):=by
 have g:=h.gp (by decide);obtain⟨a,b,c,d,e,f⟩:=h.bits;have ip:=SH e eU;have k:P.2.2*w<=6*305:=Ve f gd (S0 eU) (by decide);exact⟨ji (p:=(P.1,P.2.1,P.2.2*w)) (S1 ip),cp.nP (p:=(P.1,P.2.1,P.2.2*w)) ⟨g.bp.a,g.bp.b,intBits_le_iff.mpr (by show(P.2.2*w).natAbs<16384;lia)⟩ (S1 ip)⟩
theorem fo.mono{m n:Int}{p:P3}(h:fo m p)(l:m<=n):fo n p:=by
 have c:(m:Rat)<=n:=by exact_mod_cast l
 exact⟨h.1,h.2.1,⟨h.2.2.1.1,VY h.2.2.1.2 c⟩,h.2.2.2.1,VY h.2.2.2.2 c⟩
def PO:Option a5->D
 | none=>.non
 | some s=>a9 s
theorem PP{p q:P3}(aq:fo 6 p)(aL:fo 6 q): -36<=gW p q/\gW p q<=36:=by
 obtain⟨_,_,⟨a,b⟩,c,d⟩:=aq;obtain⟨_,_,⟨iH,l0⟩,cu,d'⟩:=aL;have six:((6:Int):Rat)=6:=rfl;rw[six]at b d l0 d'
 have m:∀{x y:Rat},0<=x->x<=6->0<=y->y<=6->0<=x*y/\x*y<=36:=fun{x y} dI gt y0 dN=>by
  refine⟨VQ dI y0,?_⟩;have bT:=Us gt y0;have bP:(6:Rat)*y<=36:=by grind
  exact VY bT bP
 obtain⟨g2,fX⟩:=m a b cu d';obtain⟨v1,v2⟩:=m c d iH l0;unfold gW;constructor<;>grind
theorem PQ{ps:List P3}(h:∀p∈ps,fo 6 p)(l:ps.length<=5):cP ps<=1024:=by
 have key:∀es:List (P3×P3),(∀e∈es,fo 6 e.1/\fo 6 e.2)->d1 gW es<=36*(es.length:Rat):=fun es=>by
  induction es with
  | nil=>intro _;rw[gV];show(0:Rat)<=36*((0:Nat):Rat);grind
  | cons e es bR =>
   intro dh;have i:=bR fun x aj=>dh x (Sw _ aj);have:=(PP (dh e Sv).1 (dh e Sv).2).2;rw[fR,SO];have c:((es.length+1:Nat):Rat)=(es.length:Rat)+1:=by push_cast;rfl
   rw[c];grind
 have vX:(bi ps).length=ps.length:=by unfold bi;rw[s0]
 have k:=key (bi ps) fun e au=>by obtain⟨a,b⟩:=iq au;exact⟨h _ a,h _ b⟩
 rw[vX]at k;have c:((ps.length:Nat):Rat)<=5:=by exact_mod_cast l
 unfold cP;grind
theorem EY{α β:Type}{h:α->List β}{f:β->Rat}:∀xs:List α,((xs.flatMap h).map f).sum=(xs.map fun x=>((h x).map f).sum).sum
 | []=>rfl
 | x::xs=>by rw[TV,S9,Vg,SV,To,EY xs]
structure PR (D:Int) (ps:List P3) (sh bE ms:List a5):Prop where
 ok:∀m∈ms,o4 D m
 ar:(ms.map fun m=>cP m.1).sum=cP ps
 pt:∀s∈sh,∀o∈bE,∀z,bL z->wi s.1 z=1->wi o.1 z=1->∃m∈ms,wi m.1 (cQ s z)≠0/\m.2=((s.2.1 != o.2.1),jx s o)
 len:ms.length<=1024
theorem PS{ps dY lK:List P3}{sh bE:List a5}(am:cy ps)(aa:gD ps 3 dY sh)(ab:gD ps 3 lK bE){D:Int}{G:P3->Prop}(cZ:kL 29 D G)(av:∀s∈sh,hl 59 D G s.1/\cq 6 s.2.2)(aK:∀s∈bE,hl 59 D G s.1/\cq 6 s.2.2){f:a5->a5->Bool}{bj:List (a5×a5)}(p:bj.Perm (fm f sh bE))(bG:∀s∈sh,∀o∈bE,f s o=false->cU s.1 (dG o.1)=none):PR D ps sh bE (bj.flatMap gE):=by
 have mem:∀t∈bj,t.1∈sh/\t.2∈bE:=fun t aR=>by
  obtain⟨a,b,_⟩:=ED (p.mem_iff.mp aR);exact⟨a,b⟩
 have one:∀t∈bj,(∀m∈gE t,o4 D m)/\((gE t).map fun m=>cP m.1).sum=e' t.1.1 t.2.1/\(gE t).length<=16:=fun t aR=>by
  obtain⟨a,b⟩:=mem t aR;cases e:cU t.1.1 (dG t.2.1)with
  | none =>
   rw[yx e];refine⟨(fun m h=>by cases h),?_,Ti _⟩;unfold e';rw[e];rfl
  | some F =>
   obtain⟨bC,cb,eu⟩:=tC cZ (aa.rg _ a) (av _ a).1 (ab.rg _ b) (aK _ b).1 (fun e au=>(ix _ e).mp au) e;obtain⟨bT,bP⟩:=PJ bC cb (av _ a).2 (aK _ b).2;rw[qS e];refine⟨bT,?_,SA (EV ..) ?_⟩
   ·unfold e';rw[e];exact bP
   ·rw[xH]at eu;have:=aa.ln _ a;have:=ab.ln _ b;lia
 refine⟨fun m aB=>?_,?_,fun s ak o aA z hz gd h5=>?_,?_⟩
 ·obtain⟨t,aR,q⟩:=Uv.mp aB;exact(one t aR).1 m q
 ·rw[EY,<-PB am aa ab bG,<-PI p];congr 1;exact Uo fun t aR=>(one t aR).2.1
 ·have bo:=EW gd;have bu:=EW h5;obtain⟨F,e,q⟩:=xC (es:=dG o.1) (aa.rg s ak) bo fun d hd=>bu d ((ix _ d).mp hd);obtain⟨bC,_,_⟩:=tC cZ (aa.rg _ ak) (av _ ak).1 (ab.rg _ aA) (aK _ aA).1 (fun e au=>(ix _ e).mp au) e;obtain⟨m,aB,k⟩:=PK (o:=o) bC (av _ ak).2.pt hz q
  have fs:f s o=true:=by
   cases z:f s o with
   | true=>rfl
   | false=>rw[bG s ak o aA z]at e;cases e
  exact⟨m,Uv.mpr ⟨(s,o),p.mem_iff.mpr (Pw ak aA fs),by rw[qS (t:=(s,o)) e];exact aB⟩,k⟩
 ·have bZ:(bj.flatMap gE).length<=16*bj.length:=o1 fun t aR=>(one t aR).2.2
  have b0:(fm f sh bE).length<=8*sh.length:=o1 fun s _=>by
   rw[Sz];exact SA (T' _ _) ab.len
  have f2:sh.length<=8:=aa.len;rw[<-p.length_eq]at b0;lia
structure EZ (D:Int) (done:List a5) (P:P3):Prop where
 pt:bL P
 y0:P.2.1=0
 v:hk P=(done.map fun m=>cP m.1).sum
theorem E0{D:Int}{ms:List a5}(h:∀m∈ms,o4 D m):0<=(ms.map fun m=>cP m.1).sum:=by
 induction ms with
 | nil=>exact Rat.le_refl
 | cons m r bR =>
  rw[SV,To];have aB:=h m Sv;have a:=Nq aB.tri fun x aj=>(aB.gp x aj).pt;have b:=bR fun x aj=>h x (Sw _ aj);grind
theorem PT{D:Int}{ms done rest:List a5}{P:P3}(yA:D≠0)(tE:TE D<=3700)(h:∀m∈ms,o4 D m)(aB:ms=done++rest)(iw:(ms.map fun m=>cP m.1).sum<=1024)(s:EZ D done P):cp 7900 P:=by
 have hd:∀m∈done,o4 D m:=fun m x=>h m (by rw[aB];exact Tf _ x)
 have z:fC (D*D) (hk P):=by
  rw[s.v];clear aB s;induction done with
  | nil=>exact⟨0,by show(0:Rat)*_=((0:Int):Rat);rw[Rat.zero_mul];rfl⟩
  | cons m r bR =>
   rw[SV,To];exact fC.add (hd m Sv).zd (bR fun x aj=>hd x (Sw _ aj))
 have l3:=NA s.pt s.y0 z
 have E1:0<D*D:=by
  rcases Int.lt_or_gt_of_ne yA with q|q
  ·exact U7 q q
  ·exact SH q q
 have b:TE (D*D)<=7400:=UF tE tE;have jo:=E0 hd;have cx:=E0 (D:=D) (ms:=rest) fun m x=>h m (by rw[aB];exact SN _ x);rw[aB,S9,Vg]at iw;have tb:=NC s.pt E1 l3 b ⟨by rw[s.v];grind,by rw[s.v];grind⟩;refine⟨SA tb (by decide),by rw[s.y0];decide,SA (NB s.pt.1 E1 l3 b) (by decide)⟩
structure dc (mg:Str->Option SC):Prop where
 len_:mg "len"=none
 abs_:mg "abs"=none
 int_:mg "int"=none
 bool_:mg "bool"=none
 tuple_:mg "tuple"=none
 isinstance_:mg "isinstance"=none
 range_:mg "range"=none
 all_:mg "all"=none
 sum_:mg "sum"=none
 list_:mg "list"=none
 ValueError_:mg "ValueError"=none
 zip_:mg "zip"=none
 str_:mg "str"=none
 enumerate_:mg "enumerate"=none
 set_:mg "set"=none
 max_:mg "max"=none
 min_:mg "min"=none
 sorted_:mg "sorted"=none
 dict_:mg "dict"=none
local macro_rules | `(tactic| walk_at "bu") => `(tactic| first | assumption | exact Xp (by walk_at "bu") (by walk_at "bu") | exact W6 (by walk_at "bu") (by walk_at "bu") | exact UF (by walk_at "bu") (by walk_at "bu") | exact Xe (by walk_at "bu") | exact intBits_fdiv_le (by walk_at "bu") | exact vy (by omega) (by omega) | fail)
local macro_rules | `(tactic| walk_at "bits") => `(tactic| ((with_reducible show TE _ ≤ _); first | assumption | exact SA (vy (by omega) (by omega)) (by decide) | decide +kernel | exact SA (by walk_at "bu") (by first | omega | decide) | fail))
local macro_rules | `(tactic| walk_at "sd") => `(tactic| first | ((with_reducible show TE _ ≤ _); walk_at "bits") | ((with_reducible show rz _ _); exact ⟨by walk_at "bits", by walk_at "bits"⟩) | ((with_reducible show mX _ _); exact ⟨by omega, by walk_at "bits"⟩) | ((with_reducible show (_ : Int) < _); first | omega | decide +kernel) | ((with_reducible show (_ : Int) ≤ _); first | omega | decide +kernel) | ((with_reducible show zC _ _); exact ⟨by decide, by decide, by decide⟩) | ((with_reducible show Th _ ≤ SZ); first | (show 2 ≤ SZ; decide) | (show 3 ≤ SZ; decide) | (show 1 ≤ SZ; decide) | (show 0 ≤ SZ; decide) | (show 4 ≤ SZ; decide)) | fail)
local macro_rules | `(tactic| walk_at "w1") => `(tactic| first | refine ⟨_, rfl, ?_⟩ | refine ⟨_, _, rfl, rfl, ?_⟩ | refine ⟨_, _, rfl, rfl, by walk_at "sd", ?_⟩ | refine ⟨_, _, _, .inl rfl, rfl, rfl, ?_⟩ | refine ⟨_, _, _, .inr rfl, rfl, rfl, ?_⟩ | refine ⟨_, _, rfl, fun _ => rfl, ?_⟩ | refine ⟨by walk_at "sd", ?_⟩ | refine ⟨rfl, ?_⟩)
local macro_rules | `(tactic| walk_at "w") => `(tactic| repeat walk_at "w1")
local macro_rules | `(tactic| walk_at "wd") => `(tactic| (walk_at "w"; try dsimp only [c8]))
local macro_rules | `(tactic| walk_at "it") => `(tactic| first | exact .inl (by assumption) | exact .inr (by assumption))
local macro_rules | `(tactic| walk_at "r0") => `(tactic| repeat (first | refine ⟨_, rfl, ?_⟩ | refine ⟨_, _, rfl, rfl, ?_⟩ | refine ⟨_, _, _, _, rfl, rfl, by walk_at "it", rfl, ?_⟩ | refine ⟨by walk_at "sd", ?_⟩))
local macro_rules | `(tactic| walk_at "rd") => `(tactic| (walk_at "r0"; try dsimp only))
local macro_rules | `(tactic| walk_at "fall") => `(tactic| first | exact Tb.mpr ⟨rfl, by walk_at "fall"⟩ | exact S3 _)
local macro_rules | `(tactic| walk_at "fal2") => `(tactic| first | exact S3 _ | exact Tb.mpr ⟨fun h => absurd h (by decide), by walk_at "fal2"⟩ | exact Tb.mpr ⟨fun _ => ⟨_, rfl⟩, by walk_at "fal2"⟩)
local macro_rules | `(tactic| walk_at "fsub") => `(tactic| exact fi (by walk_at "fall"))
local macro_rules | `(tactic| walk_at "fhas") => `(tactic| exact ab6 (by walk_at "fal2"))
local macro_rules | `(tactic| walk_at "ffr") => `(tactic| (intro i y e; rcases i with _ | _ | _ | _ | _ | i <;> first | (cases e; done) | (cases e; exact ⟨_, rfl, rfl, rfl, Ss rfl, _, rfl⟩)))
local macro_rules | `(tactic| walk_at "sc") => `(tactic| exact ⟨rfl, rfl, rfl, by decide +kernel, rfl, by decide +kernel, by decide +kernel⟩)
local macro_rules | `(tactic| walk_at "b1") => `(tactic| exact fun _ _ F => F.binds (i2 fun _ _ _ _ _ _ _ => rfl))
local macro_rules | `(tactic| walk_at "b2") => `(tactic| exact fun _ _ F => F.binds (fk fun _ _ _ _ _ _ _ _ => rfl))
local macro_rules | `(tactic| walk_at "b3") => `(tactic| exact fun _ _ F => F.binds (nu fun _ _ _ _ _ _ _ _ _ => rfl))
local macro_rules | `(tactic| walk_at "b4") => `(tactic| exact fun _ _ F => F.binds (LN fun _ _ _ _ _ _ _ _ _ _ => rfl))
theorem PU:cL ["_law_script","_law_k"] ["_law_script","_law_k"] (b8 up):=by walk_at "sc"
theorem PV(B:dc mg)(F:cW K mg "_law_cell" up ["_law_script","_law_k"]):
  aZ P w K mg base "_law_cell" ["_law_script","_law_k"] 1 (a0 K 2 v7):=by
 refine aZ.imp (sp:=AW K) ?_ (fun vs H Q E h=>Kt h);refine F.ok (k:=0) PU (fun vs H Q E h=>?_) (fun f cdv A outer s H vs Q E am h=>?_)
 ·obtain⟨a,k,ns,rfl,dH,bY,q⟩:=h;rfl
 obtain⟨a,k,ns,rfl,dH,bY,q⟩:=h;refine⟨_,(n3 (uX (lV jb (fY 1) (mP z4 (by rfl) B.len_ (by decide +kernel) (eJ (fY 0) fH)) (c1 _)) (n4 (lP (lZ z2 (fY 0) (fY 1) (fun _ _=>rfl)))) uV) (n4 (lP gc))),?_⟩;refine⟨_,rfl,_,rfl,a,_,rfl,.inl dH,_,_,rfl,rfl,_,rfl,?_⟩;refine gi (fun c=>?_) (fun c=>?_)
 ·rw[Sz]at c;have ah:k.toNat<ns.length:=by lia
  have xX:k=((k.toNat:Nat):Int):=by lia
  have z:ea (ns.map V.int) ((k.toNat:Nat):Int)=some (.int ns[k.toNat]):=xm (by rw[S7,S8 ah]<;>rfl);rw[<-xX]at z;exact⟨_,rfl,_,rfl,a,_,_,_,rfl,rfl,dH,z,q _⟩
 ·exact q _
theorem PW:cL ["_law_cell_here"] ["_law_cell_here"] (b8 uq):=by walk_at "sc"
theorem PX(B:dc mg)(F:cW K mg "_law_bag" uq ["_law_cell_here"]):
  aZ P w K mg base "_law_bag" ["_law_cell_here"] 1 (a0 K 1 v8):=by
 refine aZ.imp (sp:=AX) ?_ (fun vs H Q E h=>Ku h);refine F.ok (k:=0) PW (fun vs H Q E h=>?_) (fun f cdv A outer s H vs Q E am h=>?_)
 ·obtain⟨c,rfl,q⟩:=h;rfl
 obtain⟨c,rfl,q⟩:=h;refine⟨_,(n4 (lP (zL (eJ (gM HW (fY 0) (vg zJ (by rfl) B.int_ (by decide +kernel) (eJ (rm zF (fY 0) (gM HX gc gc) (c1 _)) fH))) (eJ (gM n8 (fY 0) gc) fH))))),?_⟩;have x7:(10:Int)^((18:Int).toNat)=1000000000000000000:=rfl;walk_at "rd";have cS:=Uc c (show(2147483647:Int)≠0 by decide);have bF:=Ud c (show(0:Int)<2147483647 by decide);rw[x7];refine .inr ⟨_,rfl,_,_,rfl,rfl,.inr ?_,?_⟩
 ·split<;>constructor<;>decide
 walk_at "rd";refine fun p aq=>q p _ _ aq ?_ cS bF;split
 ·rename_i h
  have h:1000000000000000000<=c:=by simpa using h
  lia
 ·lia
theorem E2:cL ["_law_bag_here","_law_many","_law_found_here"] ["_law_bag_here","_law_many"] (b8 ur):=by walk_at "sc"
theorem PY(B:dc mg)(F:cW K mg "_law_digit" ur ["_law_bag_here","_law_many"]):
  aZ P w K mg base "_law_digit" ["_law_bag_here","_law_many"] 1 (a0 K 2 (mf 400)):=by
 refine aZ.imp (sp:=AY 400) ?_ (fun vs H Q E h=>Kv h);refine F.ok (k:=0) E2 (fun vs H Q E h=>?_) (fun f cdv A outer s H vs Q E am h=>?_)
 ·obtain⟨b,m,rfl,⟨x,y,ae,dI,y0,dN⟩,cS,bF,q⟩:=h;rfl
 obtain⟨b,m,rfl,⟨x,y,ae,dI,y0,dN⟩,cS,bF,q⟩:=h;refine⟨_,(n3 (uX (lV lU (lZ mZ (fY 0) gc (fun _ _=>rfl)) gc (c1 _)) (n3 (rh (i:=2) E2.nd rfl (Ss rfl) (gM n8 (lZ mZ (fY 0) gc (fun _ _=>rfl)) (fY 1))) (n3 (u0 (gM vw (lZ mZ (fY 0) gc (fun _ _=>rfl)) (fY 1)) (zu (fY 0) gc z3)) (n4 (lP (fY 2))))) uV) (n3 (u0 (gM n8 (gM zD (gM vv (lZ mZ (fY 0) gc (fun _ _=>rfl)) gc) gc) gc) (zu (fY 0) gc z3)) (n4 (lP (gM n8 (gM vw (gM n8 (gM vv (lZ mZ (fY 0) gc (fun _ _=>rfl)) gc) gc) gc) (fY 1)))))),?_⟩;walk_at "rd";refine gi (fun g=>?_) (fun g=>?_)
 ·walk_at "rd";refine⟨b,_,_,_,rfl,rfl,ae,rfl,?_⟩;refine⟨_,rfl,?_⟩;refine q _ _ (pz.upd b H _) ⟨_,_,ei,?_,y0,dN⟩ (Uc _ (by lia)) (Ud _ cS);exact Int.fdiv_nonneg dI (S0 cS)
 ·have bS:=Uc (y*48271+11) (show(2147483647:Int)≠0 by decide);have fJ:=Ud (y*48271+11) (show(0:Int)<2147483647 by decide);walk_at "rd";refine⟨b,_,_,_,rfl,rfl,ae,rfl,?_⟩;generalize(y*48271+11)%2147483647=z at bS fJ ⊢;have nQ:(upd H b (.lst ([V.int x,V.int y].set 1 (V.int z)))) b=some (.lst [.int x,.int z]):=ei;walk_at "rd";refine q _ _ (pz.upd b H _) ⟨_,_,nQ,dI,bS,fJ⟩ (Uc _ (by lia)) (Ud _ cS)
theorem o6:cL ["_law_a","_law_b","_law_n","_law_one","_law_other","_law_rest"] ["_law_a","_law_b","_law_n"] (b8 us):=by walk_at "sc"
def mB  : cw:=fun as k=>∃(a b n:Int),as=[.val (.int a),.val (.int b),.val (.int n)]/\(0<n)/\(TE n<=9000)/\k (.val (dP (du a b n)))
theorem PZ(B:dc mg)(F:cW K mg "_law_point" us ["_law_a","_law_b","_law_n"])  :
  aZ P w K mg base "_law_point" ["_law_a","_law_b","_law_n"] 2 (a0 K 3 mB):=by
 refine dE (lv:=1) F o6 rfl (fun f cdv A outer s H E am=>⟨_,(aY (b' (i:=3) o6.nd rfl (Ss rfl) (rL (v3 0) (by rfl) B.abs_)) (aY (gy PassesOwn.never rfl (ed (dX (fK (bt (rL (v3 1) (by rfl) B.abs_) (bt (v3 2) db))))) (bx (i:=4) o6.nd rfl (Ss rfl)) (br (vS PassesOwn.never (eB (f:=fun i j=>decide (j<i)) lU (v3 4) aJ (c1 _)) (aY (b' (i:=5) o6.nd rfl (Ss rfl) (pC (v3 3) (v3 4))) (aY (b' (i:=3) o6.nd rfl (Ss rfl) (v3 4)) (br (b' (i:=4) o6.nd rfl (Ss rfl) (v3 5)))))))) (br (c2 (fg (bt (hE (v3 0) (v3 3)) (bt (hE (v3 1) (v3 3)) (bt (hE (v3 2) (v3 3)) db)))))))),?_⟩);rintro as k ay ⟨a,b,n,rfl,aH,yB,ah⟩;refine dx (r:=[.val (.int a),.val (.int b),.val (.int n),.no,.no,.no]) rfl ?_;have gp:=A' (a:=a) (b:=b) (S1 aH);have yC:=Ba (a:=a) (b:=b) (S1 aH) yB;have e:i0 a b n=g3 a b n:=by unfold i0;rw[TT (by lia)]
 have P0:((Sx ((Sx a b:Nat):Int) n:Nat):Int)=g3 a b n:=KW a b n
 have ah:k (.val (.tup [.int (a.fdiv (g3 a b n)),.int (b.fdiv (g3 a b n)),.int (n.fdiv (g3 a b n))])):=by
  have h:=ah;unfold dP du at h;rw[e]at h;exact h
 walk_at "w";dsimp only[eY,d6]
 have eT:∀cK dv:aI,AC (om (hS (m2 mX (fun i j=>D.int (i.fdiv j)) (dz 0) (dz 3)) (hS (m2 mX (fun i j=>D.int (i.fdiv j)) (dz 1) (dz 3)) (hS (m2 mX (fun i j=>D.int (i.fdiv j)) (dz 2) (dz 3)) m6)))) { nx:=fun x=>k (aI.val D.non),rt:=k } [.val (.int a),.val (.int b),.val (.int n),.val (.int (g3 a b n)),cK,dv]:=fun cK dv=>by
  generalize g3 a b n=g at *;walk_at "w";exact ah
 refine⟨fun m ρ=>∃(x y:Int)(v:aI),ρ=[.val (.int a),.val (.int b),.val (.int n),.val (.int x),.val (.int y),v]/\0<=x/\0<=y/\Sx x y=Sx a b/\m=y.toNat,⟨_,_,_,_,rfl,?_,?_,Ad a b,rfl⟩,?_⟩
 ·split<;>lia
 ·split<;>lia
 rintro m ρ ⟨x,y,v,rfl,dI,y0,aD,rfl⟩;walk_at "wd";refine gi (fun g=>?_) (fun g=>?_)
 ·walk_at "wd";have cS:=Uc x (show y≠0 by lia);have bF:=Ud x g;exact⟨_,by lia,_,_,_,rfl,y0,cS,by rw[vz dI g];exact aD,rfl⟩
 ·have e:y=0:=by lia
  subst e;have ex:=vA dI;rw[aD]at ex;subst ex
  try dsimp only[eY,d6]
  refine⟨fun m ρ=>∃(x y:Int)(v:aI),ρ=[.val (.int a),.val (.int b),.val (.int n),.val (.int x),.val (.int y),v]/\0<=x/\0<=y/\Sx x y=Sx ((Sx a b:Nat):Int) n/\m=y.toNat,⟨_,_,_,_,rfl,?_,?_,rfl,rfl⟩,?_⟩
  ·exact Int.natCast_nonneg _
  ·lia
  rintro m ρ ⟨x,y,v,rfl,dI,y0,aD,rfl⟩;walk_at "wd";refine gi (fun g=>?_) (fun g=>?_)
  ·walk_at "wd";have cS:=Uc x (show y≠0 by lia);have bF:=Ud x g;exact⟨_,by lia,_,_,_,rfl,y0,cS,by rw[vz dI g];exact aD,rfl⟩
  ·have e:y=0:=by lia
   subst e;have ex:=vA dI;rw[aD]at ex;subst ex;rw[P0];exact eT _ _
theorem P1:cL ["_law_p","_law_v"] ["_law_p","_law_v"] (b8 ut):=by walk_at "sc"
def tF  : cw:=fun as k=>∃(p g:P3),as=[.val (dP p),.val (dP g)]/\(cq 4000 p)/\(cq 4000 g)/\k (.val (dP (nP (sld g p))))
theorem P2(B:dc mg)(F:cW K mg "_law_slid" ut ["_law_p","_law_v"])(iA:aZ P w K mg base "_law_point" ["_law_a","_law_b","_law_n"] 2 (a0 K 3 mB)):
  aZ P w K mg base "_law_slid" ["_law_p","_law_v"] 3 (a0 K 2 tF):=by
 refine dE (lv:=2) F P1 rfl (fun f cdv A outer s H E am=>⟨_,(br (c2 (bK iA am (by rfl) (aS (gN (cY (bg (v3 0) aJ (fun _ _=>rfl)) (bg (v3 1) aJ (fun _ _=>rfl))) (cY (bg (v3 1) aJ (fun _ _=>rfl)) (bg (v3 0) aJ (fun _ _=>rfl)))) (aS (gN (cY (bg (v3 0) aJ (fun _ _=>rfl)) (bg (v3 1) aJ (fun _ _=>rfl))) (cY (bg (v3 1) aJ (fun _ _=>rfl)) (bg (v3 0) aJ (fun _ _=>rfl)))) (aS (cY (bg (v3 0) aJ (fun _ _=>rfl)) (bg (v3 1) aJ (fun _ _=>rfl))) bD)))))),?_⟩);rintro as k ay ⟨p,g,rfl,aq,aD,ah⟩;refine dx (r:=[.val (dP p),.val (dP g)]) rfl ?_;have aa:=aq.bp.a;have ab:=aq.bp.b;have aQ:=aq.bp.c;have bB:=aD.bp.a;have ek:=aD.bp.b;have fO:=aD.bp.c;walk_at "w";exact⟨_,_,_,rfl,SH aq.pt.1 aD.pt.1,by walk_at "bits",ah⟩
theorem P4:cL ["_law_p"] ["_law_p"] (b8 uu):=by walk_at "sc"
def yD  : cw:=fun as k=>∃(p:P3),as=[.val (dP p)]/\k (.val (dP (trn p)))
theorem P5(B:dc mg)(F:cW K mg "_law_turned" uu ["_law_p"])  :
  aZ P w K mg base "_law_turned" ["_law_p"] 2 (a0 K 1 yD):=by
 refine dE (lv:=1) F P4 rfl (fun f cdv A outer s H E am=>⟨_,(br (c2 (fg (bt (kx (bg (v3 0) aJ (fun _ _=>rfl))) (bt (kx (bg (v3 0) aJ (fun _ _=>rfl))) (bt (bg (v3 0) aJ (fun _ _=>rfl)) db)))))),?_⟩);rintro as k ay ⟨p,rfl,ah⟩;refine dx (r:=[.val (dP p)]) rfl ?_;walk_at "w";exact ah
theorem tG:cL ["_law_p","_law_q","_law_r","_law_found_here"] ["_law_p","_law_q","_law_r"] (b8 uv):=by walk_at "sc"
def tH  : cw:=fun as k=>∃(p q r:P3),as=[.val (dP p),.val (dP q),.val (dP r)]/\(cp 4000 p)/\(cp 4000 q)/\(cp 4000 r)/\k (.val (.int (sg (az p q r))))
theorem P6(B:dc mg)(F:cW K mg "_law_side" uv ["_law_p","_law_q","_law_r"])  :
  aZ P w K mg base "_law_side" ["_law_p","_law_q","_law_r"] 2 (a0 K 3 tH):=by
 refine dE (lv:=1) F tG rfl (fun f cdv A outer s H E am=>⟨_,(aY (b' (i:=3) tG.nd rfl (Ss rfl) (cY (bg (v3 0) aJ (fun _ _=>rfl)) (ha (cY (bg (v3 1) aJ (fun _ _=>rfl)) (bg (v3 2) aJ (fun _ _=>rfl))) (cY (bg (v3 1) aJ (fun _ _=>rfl)) (bg (v3 2) aJ (fun _ _=>rfl)))))) (aY (b' (i:=3) tG.nd rfl (Ss rfl) (ha (v3 3) (cY (bg (v3 0) aJ (fun _ _=>rfl)) (ha (cY (bg (v3 1) aJ (fun _ _=>rfl)) (bg (v3 2) aJ (fun _ _=>rfl))) (cY (bg (v3 1) aJ (fun _ _=>rfl)) (bg (v3 2) aJ (fun _ _=>rfl))))))) (aY (b' (i:=3) tG.nd rfl (Ss rfl) (gN (v3 3) (cY (bg (v3 0) aJ (fun _ _=>rfl)) (ha (cY (bg (v3 1) aJ (fun _ _=>rfl)) (bg (v3 2) aJ (fun _ _=>rfl))) (cY (bg (v3 1) aJ (fun _ _=>rfl)) (bg (v3 2) aJ (fun _ _=>rfl))))))) (br (c2 (ha (vP (oj (f:=fun i j=>decide (j<i)) lU (v3 3) aJ (c1 _)) (by rfl) B.int_) (vP (oj (f:=fun i j=>decide (i<j)) jb (v3 3) aJ (c1 _)) (by rfl) B.int_))))))),?_⟩);rintro as k ay ⟨p,q,r,rfl,bp,gb,kQ,ah⟩;refine dx (r:=[.val (dP p),.val (dP q),.val (dP r),.no]) rfl ?_;have aa:=bp.a;have ab:=bp.b;have aQ:=bp.c;have bB:=gb.a;have ek:=gb.b;have fO:=gb.c;have r2:=kQ.a;have x2:=kQ.b;have DW:=kQ.c;rw[<-L6,<-L4]at ah;walk_at "w";refine .inr ⟨_,rfl,?_⟩;walk_at "w";refine .inr ⟨_,rfl,?_⟩;walk_at "w";simp only[decide_eq_true_eq];exact ah
theorem E3:cL ["_law_p","_law_number"] ["_law_p"] (b8 uw):=by walk_at "sc"
def yE  : cw:=fun as k=>∃(p:P3),as=[.val (dP p)]/\(bL p)/\(cp 1000 p)/\k (.val (.bl true))
theorem P7(B:dc mg)(F:cW K mg "_law_is_point" uw ["_law_p"])(iA:aZ P w K mg base "_law_point" ["_law_a","_law_b","_law_n"] 2 (a0 K 3 mB)):
  aZ P w K mg base "_law_is_point" ["_law_p"] 3 (a0 K 1 yE):=by
 refine dE (lv:=2) F E3 rfl (fun f cdv A outer s H E am=>⟨_,(aY (dU (jL (w_or (jK (hR (m9 (T:="tuple") (v3 0) (by rfl) B.isinstance_ (mH (v:=.ty "tuple") (u:=.type "tuple") (by rfl) B.tuple_ (by decide +kernel) rfl) rfl rfl rfl))) (m5 (eB (f:=fun i j => !decide (i=j)) kZ (ie (v3 0) (by rfl) B.len_) aJ (c1 _))))) (br (c2 iP)) dS) (aY (gy PassesOwn.never rfl (J5 (v3 0)) (bx (i:=1) E3.nd rfl (Ss rfl)) (br (dU (jL (w_or (jK (hR (m9 (T:="int") (v3 1) (by rfl) B.isinstance_ (mH (v:=.ty "int") (u:=.type "int") (by rfl) B.int_ (by decide +kernel) rfl) rfl rfl rfl))) (m5 (hR (m9 (T:="bool") (v3 1) (by rfl) B.isinstance_ (mH (v:=.ty "bool") (u:=.type "bool") (by rfl) B.bool_ (by decide +kernel) rfl) rfl rfl rfl))))) (br (c2 iP)) dS))) (br (c2 (Au (oj (f:=fun i j=>decide (j<i)) lU (bg (v3 0) aJ (fun _ _=>rfl)) aJ (c1 _)) (At (Kq (am.units) (bK iA am (by rfl) (aS (bg (v3 0) aJ (fun _ _=>rfl)) (aS (bg (v3 0) aJ (fun _ _=>rfl)) (aS (bg (v3 0) aJ (fun _ _=>rfl)) bD)))) (v3 0) (c1 _)))))))),?_⟩);rintro as k ay ⟨p,rfl,aq,bp,ah⟩;refine dx (r:=[.val (dP p),.no]) rfl ?_;have jO:=bp.c;refine lg (fun N aW=>?_) ?_
 ·refine⟨_,rfl,_,_,rfl,fun _=>rfl,_,rfl,jG ?_⟩;exact⟨_,rfl,_,rfl,_,_,rfl,rfl,_,rfl,jG aW⟩
 refine gm (fun ρ=>∃v1,ρ=[.val (dP p),v1]) ?_ (fun N aW=>?_);rotate_left
 ·refine⟨_,rfl,_,rfl,?_⟩;refine oB (f:=D.int) (rs:=[p.1,p.2.1,p.2.2]) (done:=[]) (fun _ ρ=>∃v1,ρ=[.val (dP p),v1]) ⟨_,rfl⟩ ?_ ?_
  ·rintro pre r rest ρ _ ⟨v1,rfl⟩ N aW;refine⟨_,rfl,_,_,rfl,fun _=>rfl,_,rfl,jG ?_⟩;exact⟨_,rfl,_,_,rfl,fun _=>rfl,_,rfl,jG (aW _ ⟨_,rfl⟩)⟩
  ·rintro ρ ⟨v1,rfl⟩;exact aW _ ⟨_,rfl⟩
 rintro ρ ⟨v1,rfl⟩;refine⟨_,rfl,_,_,_,.inl rfl,rfl,rfl,_,_,rfl,rfl,_,rfl,?_⟩;rw[Xd (show(0:Int)<p.2.2 from aq.1)];refine Jc ?_;refine⟨_,rfl,_,_,_,.inl rfl,rfl,rfl,_,rfl,_,_,_,.inl rfl,rfl,rfl,_,rfl,_,_,_,.inl rfl,rfl,rfl,rfl,p.1,p.2.1,p.2.2,rfl,aq.1,SA jO (by decide),?_⟩;dsimp only[c8];have e:du p.1 p.2.1 p.2.2=p:=Bc aq;rw[e];refine⟨_,rfl,.T [.I,.I,.I],rfl,rfl,by decide,?_⟩;rw[ox];exact ah
theorem yF:cL ["_law_ring","_law_k","_law_j"] ["_law_ring"] (b8 ux):=by walk_at "sc"
def yG  : cw:=fun as k=>∃(ps:List P3),as=[.val (.lst (ps.map dP))]/\(ps.length<=1000)/\(∀p∈ps,cq 700 p)/\∀b:Bool,(b=true↔gB ps)->k (.val (.bl b))
theorem P8(B:dc mg)(F:cW K mg "_law_is_convex" ux ["_law_ring"])(yH:aZ P w K mg base "_law_is_point" ["_law_p"] 3 (a0 K 1 yE))(qT:aZ P w K mg base "_law_side" ["_law_p","_law_q","_law_r"] 2 (a0 K 3 tH)):
  aZ P w K mg base "_law_is_convex" ["_law_ring"] 4 (a0 K 1 yG):=by
 refine dE (lv:=3) F yF rfl (fun f cdv A outer s H E am=>⟨_,(aY (dU (jL (w_or (jK (hR (m9 (T:="list") (v3 0) (by rfl) B.isinstance_ (mH (v:=.ty "list") (u:=.type "list") (by rfl) B.list_ (by decide +kernel) rfl) rfl rfl rfl))) (m5 (eB (f:=fun i j=>decide (i<j)) jb (ie (v3 0) (by rfl) B.len_) aJ (c1 _))))) (br (c2 iP)) dS) (aY (dU (eB (f:=fun i j=>decide (j<i)) lU (ie (dX (jW (ts:=["_law_p"]) (fr:=[]) (js:=[]) (ed (v3 0)) (fun _ _ _ _=>(bx (i:=0) (show SK (["_law_p"]:List Str) by decide +kernel) rfl (Ss rfl))) (fun _ _ _ _=>(r3 (jK (hR (bK yH am (by rfl) (aS (v3 0) bD)))))) (fun _ _ _ _=>(v3 0)) ⟨rfl,by decide +kernel,rfl,by decide +kernel,fi (S3 _),fB rfl,by walk_at "ffr",rfl⟩)) (by rfl) B.len_) aJ (c1 _)) (br (c2 iP)) dS) (aY (gy PassesOwn.never rfl (la (ie (v3 0) (by rfl) B.len_) (by rfl) B.range_) (bx (i:=1) yF.nd rfl (Ss rfl)) (br (gy PassesOwn.never rfl (la (ie (v3 0) (by rfl) B.len_) (by rfl) B.range_) (bx (i:=2) yF.nd rfl (Ss rfl)) (br (dU (jL (w_and (eB (f:=fun i j => !decide (i=j)) kZ (v3 2) (v3 1) (c1 _)) (rK (eB (f:=fun i j => !decide (i=j)) kZ (v3 2) (pC (gN (v3 1) aJ) (ie (v3 0) (by rfl) B.len_)) (c1 _))))) (br (dU (eB (f:=fun i j => !decide (i=j)) kZ (bK qT am (by rfl) (aS (bg (v3 0) (v3 1) (fun _ _=>rfl)) (aS (bg (v3 0) (pC (gN (v3 1) aJ) (ie (v3 0) (by rfl) B.len_)) (fun _ _=>rfl)) (aS (bg (v3 0) (v3 2) (fun _ _=>rfl)) bD)))) aJ (c1 _)) (br (c2 iP)) dS)) dS))))) (br (c2 iP))))),?_⟩);rintro as k ay ⟨ps,rfl,ay,aq,ah⟩;refine dx (r:=[.val (.lst (ps.map dP)),.no,.no]) rfl ?_;have E4:¬gB ps->k (.val (.bl false)):=fun h=>ah false ⟨fun z=>(by cases z),fun z=>absurd z h⟩;have P9:gB ps->k (.val (.bl true)):=fun h=>ah true ⟨fun _=>h,fun _=>rfl⟩;have f6:1000<SZ:=by decide
 have cmp:∀{k:List D->Prop}{v0:aI}{cz:c5}{u:bb},(∀p∈ps,∀k:Bool->Prop,k false->cz [.val (dP p)] k)->k []->fP (d6 0) cz u (ps.map dP) [v0] k:=fun aa ab=>BS aa ab;have yI:∀n,n<ps.length->ea (ps.map dP) (n:Int)=some (dP (bX ps n)):=fun n h=>sr h;have E5:(ps.map dP).length=ps.length:=Sz ..;generalize ps.map dP=L at *;by_cases f2:ps.length<3
 ·refine⟨_,rfl,_,_,rfl,fun _=>rfl,_,rfl,jG ?_⟩;walk_at "wd";exact gi (fun _=>E4 fun z=>by have:=z.1;lia) (fun g=>absurd g (by lia))
 refine lg (fun N aW=>?_) ?_
 ·refine⟨_,rfl,_,_,rfl,fun _=>rfl,_,rfl,jG ?_⟩;walk_at "wd";exact gi (fun g=>absurd g (by lia)) (fun _=>aW)
 refine lg (fun N aW=>?_) ?_
 ·refine⟨_,rfl,_,rfl,by lia,?_⟩;refine cmp (fun p E6 bP fS=>?_) ?_
  ·refine⟨_,rfl,rfl,p,rfl,(aq p E6).pt,(aq p E6).bp.mono (by decide),_,rfl,?_⟩;exact fS
  ·walk_at "wd";exact gi (fun g=>absurd g (by decide)) (fun _=>aW)
 have cD:0<ps.length:=by lia
 refine gm (fun ρ=>(∃v1 v2,ρ=[.val (.lst L),v1,v2])/\gB ps) ?_ (fun N aW=>?_)
 ·rintro ρ ⟨⟨v1,v2,rfl⟩,hc⟩;exact P9 hc
 refine⟨_,rfl,_,rfl,_,rfl,by lia,by lia,?_⟩;rw[show((L.length:Nat):Int).toNat=ps.length by lia];refine mj (fun i ρ=>(∃v1 v2,ρ=[.val (.lst L),v1,v2])/\∀k j,k<i->j<ps.length->j≠k->j≠(k+1)%ps.length->sg (az (bX ps k) (bX ps ((k+1)%ps.length)) (bX ps j))=1) ⟨⟨_,_,rfl⟩,fun k j h=>absurd h (by lia)⟩ ?_ ?_
 ·rintro i ρ aC ⟨⟨v1,v2,rfl⟩,my⟩ N aW;have E7:(i+1)%ps.length<ps.length:=UL _ cD;refine⟨_,rfl,_,rfl,_,rfl,by lia,by lia,?_⟩;rw[show((L.length:Nat):Int).toNat=ps.length by lia];refine mj (fun iW ρ=>(∃v2,ρ=[.val (.lst L),.val (.int i),v2])/\∀j,j<iW->j≠i->j≠(i+1)%ps.length->sg (az (bX ps i) (bX ps ((i+1)%ps.length)) (bX ps j))=1) ⟨⟨_,rfl⟩,fun j h=>absurd h (by lia)⟩ ?_ ?_
  ·rintro j ρ bz ⟨⟨v2,rfl⟩,yJ⟩ N aW
   have go:∀N:List aI->Prop,(∀r,(∃v2,r=[.val (.lst L),.val (.int i),v2])/\(∀iW,iW<j+1->iW≠i->iW≠(i+1)%ps.length->sg (az (bX ps i) (bX ps ((i+1)%ps.length)) (bX ps iW))=1)->N r)->(j≠i->j≠(i+1)%ps.length->sg (az (bX ps i) (bX ps ((i+1)%ps.length)) (bX ps j))=1)->N [.val (.lst L),.val (.int i),.val (.int j)]:=fun N aW h=>aW _ ⟨⟨_,rfl⟩,fun iW aa ab aQ=>by
    by_cases e:iW=j
    ·subst e;exact h ab aQ
    ·exact yJ iW (by lia) ab aQ⟩
   walk_at "wd";refine rB (fun aO=>?_) (fun aO=>?_)
   ·refine⟨_,rfl,_,rfl,_,_,rfl,rfl,?_⟩;refine⟨_,rfl,_,rfl,_,_,rfl,rfl,by show(0:Int)<(L.length:Nat);lia,_,_,rfl,rfl,_,rfl,?_⟩;dsimp only;rw[E5,BU];refine rB (fun aT=>?_) (fun aT=>?_)
    ·refine⟨_,rfl,_,rfl,_,_,_,.inr rfl,rfl,yI i aC,?_⟩;refine⟨_,rfl,_,rfl,_,_,rfl,rfl,_,rfl,_,rfl,_,_,rfl,rfl,by show(0:Int)<(L.length:Nat);lia,_,_,_,.inr rfl,rfl,(by rw[E5,BU];exact yI _ E7),?_⟩;refine⟨_,rfl,_,rfl,_,_,_,.inr rfl,rfl,yI j bz,?_⟩;refine⟨rfl,bX ps i,bX ps ((i+1)%ps.length),bX ps j,rfl,(aq _ (lx aC)).bp.mono (by decide),(aq _ (lx E7)).bp.mono (by decide),(aq _ (lx bz)).bp.mono (by decide),?_⟩;walk_at "wd";refine rB (fun g3=>?_) (fun g3=>?_)
     ·exact E4 fun z=>g3 (z.2 i j aC bz (by lia) (by lia))
     ·exact go _ aW fun _ _=>g3
    ·exact go _ aW fun _ h=>absurd (by lia) h
   ·refine gl rfl ?_;exact go _ aW fun h=>absurd (by lia) h
  ·rintro ρ ⟨⟨v2,rfl⟩,yJ⟩
   exact aW _ ⟨⟨_,_,rfl⟩,fun k j aa ab aQ bB=>by
    by_cases e:k=i
    ·subst e;exact yJ j ab aQ bB
    ·exact my k j (by lia) ab aQ bB⟩
 ·rintro ρ ⟨⟨v1,v2,rfl⟩,my⟩;exact aW _ ⟨⟨_,_,rfl⟩,by lia,fun k j aa ab aQ bB=>my k j aa ab aQ bB⟩
theorem qU:cL ["_law_ring","_law_p","_law_found_here","_law_k","_law_hand"] ["_law_ring","_law_p"] (b8 uy):=by walk_at "sc"
def yK  : cw:=fun as k=>∃(ps:List P3)(s:P3),as=[.val (.lst (ps.map dP)),.val (dP s)]/\(ps.length<=1000)/\(∀p∈ps,cq 700 p)/\(cp 4000 s)/\k (.val (.int (wi ps s)))
theorem P'(B:dc mg)(F:cW K mg "_law_within" uy ["_law_ring","_law_p"])(qT:aZ P w K mg base "_law_side" ["_law_p","_law_q","_law_r"] 2 (a0 K 3 tH)):
  aZ P w K mg base "_law_within" ["_law_ring","_law_p"] 3 (a0 K 2 yK):=by
 refine dE (lv:=2) F qU rfl (fun f cdv A outer s H E am=>⟨_,(aY (b' (i:=2) qU.nd rfl (Ss rfl) aJ) (aY (gy PassesOwn.never rfl (la (ie (v3 0) (by rfl) B.len_) (by rfl) B.range_) (bx (i:=3) qU.nd rfl (Ss rfl)) (aY (b' (i:=4) qU.nd rfl (Ss rfl) (bK qT am (by rfl) (aS (bg (v3 0) (ha (v3 3) aJ) (fun _ _=>rfl)) (aS (bg (v3 0) (v3 3) (fun _ _=>rfl)) (aS (v3 1) bD))))) (aY (dU (eB (f:=fun i j=>decide (i<j)) jb (v3 4) aJ (c1 _)) (br (c2 aJ)) dS) (br (dU (eB (f:=fun i j=>decide (i=j)) mY (v3 4) aJ (c1 _)) (br (b' (i:=2) qU.nd rfl (Ss rfl) (kx aJ))) dS))))) (br (c2 (v3 2))))),?_⟩);rintro as k ay ⟨ps,s,rfl,ay,cT,bs,ah⟩;refine dx (r:=[.val (.lst (ps.map dP)),.val (dP s),.no,.no,.no]) rfl ?_;refine gm (fun ρ=>ρ=[.val (.lst (ps.map dP)),.val (dP s),.val (.int 1),.no,.no]) ?_ (fun N aW=>aW _ rfl);rintro ρ rfl;refine gm (fun ρ=>∃v3 cK:aI,ρ=[.val (.lst (ps.map dP)),.val (dP s),.val (.int (wi ps s)),v3,cK]) ?_ (fun N aW=>?_)
 ·rintro ρ ⟨v3,cK,rfl⟩;exact⟨_,rfl,ah⟩
 refine⟨_,rfl,_,rfl,_,rfl,by lia,by rw[Sz];lia,?_⟩;rw[Sz,show((ps.length:Nat):Int).toNat=ps.length by lia];refine mj (fun i ρ=>∃(v3 cK:aI)(x:Int),ρ=[.val (.lst (ps.map dP)),.val (dP s),.val (.int x),v3,cK]/\((x=1/\∀e∈(bi ps).take i,0<az e.1 e.2 s)∨(x = -1/\(∀e∈(bi ps).take i,0<=az e.1 e.2 s)/\∃e∈(bi ps).take i,az e.1 e.2 s=0))) ⟨_,_,1,rfl,.inl ⟨rfl,by simp⟩⟩ ?_ ?_;rotate_left
 ·rintro ρ ⟨v3,cK,x,rfl,h⟩;rw[MX]at h;rcases h with⟨rfl,h⟩|⟨rfl,h,z⟩
  ·exact aW _ ⟨_,_,by rw[sT h]⟩
  ·exact aW _ ⟨_,_,by rw[CZ h z]⟩
 rintro i ρ aC ⟨v3,cK,x,rfl,my⟩ N aW;have lF:=MW aC;have aq:=(cT _ (lx (ps:=ps) (UL (i+ps.length-1) (show 0<ps.length by lia)))).bp.mono (show 700<=4000 by decide);have aL:=(cT _ (lx aC)).bp.mono (show 700<=4000 by decide);refine⟨_,rfl,_,rfl,_,_,rfl,rfl,_,_,_,.inr rfl,rfl,B2 aC,?_⟩;refine⟨_,rfl,_,rfl,_,_,_,.inr rfl,rfl,sr aC,?_⟩;have mem:(bX ps ((i+ps.length-1)%ps.length),bX ps i)∈bi ps:=WL (i:=i+1) (by rw[lF];simp);generalize bX ps ((i+ps.length-1)%ps.length)=p at *;generalize bX ps i=q at *;refine⟨_,rfl,rfl,p,q,s,rfl,aq,aL,bs,?_⟩;dsimp only[c8];by_cases neg:az p q s<0
 ·have lt:sg (az p q s)<0:=by unfold sg;rw[TT (by lia),TI neg];decide
  refine⟨_,rfl,_,_,rfl,rfl,_,rfl,gi (fun _=>?_) (fun g=>absurd lt g)⟩;rw[CK fun z=>by have this:0<=az p q s:=z _ mem;lia]at ah;exact ah
 refine lg (fun N aW=>?_) ?_
 ·have ge:=xl.mpr (show 0<=az p q s by lia);exact⟨_,rfl,_,_,rfl,rfl,_,rfl,gi (fun g=>absurd g (by lia)) (fun _=>aW)⟩
 refine⟨_,rfl,_,_,rfl,rfl,_,rfl,gi (fun g=>?_) (fun g=>?_)⟩
 ·have hY:=(C0 _).mp g;refine⟨_,rfl,aW _ ⟨.val (.int i),.val (.int (sg (az p q s))),-1,rfl,.inr ⟨rfl,fun e au=>?_,(p,q),by rw[lF];simp,hY⟩⟩⟩;rw[lF]at au;rcases SI.mp au with au|au
  ·rcases my with⟨_,h⟩|⟨_,h,_⟩
   ·exact S0 (h e au)
   ·exact h e au
  ·rw[S'.mp au];show 0<=az p q s;lia
 ·have dp:0<az p q s:=by
   have:az p q s≠0:=fun z=>g ((C0 _).mpr z);lia
  refine aW _ ⟨.val (.int i),.val (.int (sg (az p q s))),x,rfl,?_⟩;rcases my with⟨rfl,h⟩|⟨rfl,h,z⟩
  ·refine .inl ⟨rfl,fun e au=>?_⟩;rw[lF]at au;rcases SI.mp au with au|au
   ·exact h e au
   ·rw[S'.mp au];exact dp
  ·refine .inr ⟨rfl,fun e au=>?_,?_⟩
   ·rw[lF]at au;rcases SI.mp au with au|au
    ·exact h e au
    ·rw[S'.mp au];exact S0 dp
   ·obtain⟨e,au,e9⟩:=z;exact⟨e,by rw[lF];exact Tf _ au,e9⟩
theorem mC:cL ["_law_ring","_law_top","_law_bottom","_law_k","_law_p","_law_q"] ["_law_ring"] (b8 uz):=by walk_at "sc"
def E8  : cw:=fun as k=>∃(ps:List P3),as=[.val (.lst (ps.map dP))]/\(ps.length<=40)/\(1<=ps.length)/\(∀p∈ps,cq 90 p)/\k (.val (dP (lA ps)))
theorem Qa(B:dc mg)(F:cW K mg "_law_twice_area" uz ["_law_ring"])(iA:aZ P w K mg base "_law_point" ["_law_a","_law_b","_law_n"] 2 (a0 K 3 mB)):
  aZ P w K mg base "_law_twice_area" ["_law_ring"] 3 (a0 K 1 E8):=by
 refine dE (lv:=2) F mC rfl (fun f cdv A outer s H E am=>⟨_,(aY (b' (i:=1) mC.nd rfl (Ss rfl) aJ) (aY (b' (i:=2) mC.nd rfl (Ss rfl) aJ) (aY (gy PassesOwn.never rfl (la (ie (v3 0) (by rfl) B.len_) (by rfl) B.range_) (bx (i:=3) mC.nd rfl (Ss rfl)) (aY (b' (i:=4) mC.nd rfl (Ss rfl) (bg (v3 0) (ha (v3 3) aJ) (fun _ _=>rfl))) (aY (b' (i:=5) mC.nd rfl (Ss rfl) (bg (v3 0) (v3 3) (fun _ _=>rfl))) (aY (b' (i:=1) mC.nd rfl (Ss rfl) (gN (cY (cY (v3 1) (bg (v3 4) aJ (fun _ _=>rfl))) (bg (v3 5) aJ (fun _ _=>rfl))) (cY (ha (cY (bg (v3 4) aJ (fun _ _=>rfl)) (bg (v3 5) aJ (fun _ _=>rfl))) (cY (bg (v3 4) aJ (fun _ _=>rfl)) (bg (v3 5) aJ (fun _ _=>rfl)))) (v3 2)))) (br (b' (i:=2) mC.nd rfl (Ss rfl) (cY (cY (v3 2) (bg (v3 4) aJ (fun _ _=>rfl))) (bg (v3 5) aJ (fun _ _=>rfl))))))))) (br (c2 (bK iA am (by rfl) (aS (v3 1) (aS aJ (aS (v3 2) bD))))))))),?_⟩);rintro as k ay ⟨ps,rfl,ay,bZ,cT,ah⟩;refine dx (r:=[.val (.lst (ps.map dP)),.no,.no,.no,.no,.no]) rfl ?_
 have tok:∀j,j<=ps.length->0<(ta ps j).2/\TE (ta ps j).1<=7300/\TE (ta ps j).2<=7300:=fun j bz=>by
  obtain⟨e9,aN,a3⟩:=w8 cT j bz;have:(2*90+2)*j+1<=7300:=by lia
  exact⟨e9,SA aN this,SA a3 this⟩
 refine gm (fun ρ=>ρ=[.val (.lst (ps.map dP)),.val (.int 0),.no,.no,.no,.no]) ?_ (fun N aW=>aW _ rfl);rintro ρ rfl;refine gm (fun ρ=>ρ=[.val (.lst (ps.map dP)),.val (.int 0),.val (.int 1),.no,.no,.no]) ?_ (fun N aW=>aW _ rfl);rintro ρ rfl;refine gm (fun ρ=>∃v3 cK dv:aI,ρ=[.val (.lst (ps.map dP)),.val (.int (ta ps ps.length).1),.val (.int (ta ps ps.length).2),v3,cK,dv]) ?_ (fun N aW=>?_)
 ·rintro ρ ⟨v3,cK,dv,rfl⟩;obtain⟨e9,aN,a3⟩:=tok ps.length (SD _);exact⟨_,rfl,_,rfl,rfl,_,0,_,rfl,e9,SA a3 (by decide),ah⟩
 refine⟨_,rfl,_,rfl,_,rfl,by lia,by rw[Sz];lia,?_⟩;rw[Sz,show((ps.length:Nat):Int).toNat=ps.length by lia];refine mj (fun i ρ=>∃v3 cK dv:aI,ρ=[.val (.lst (ps.map dP)),.val (.int (ta ps i).1),.val (.int (ta ps i).2),v3,cK,dv]) ⟨_,_,_,rfl⟩ ?_ (fun ρ ⟨v3,cK,dv,e⟩=>aW _ ⟨_,_,_,e⟩);rintro i ρ aC ⟨v3,cK,dv,rfl⟩ N aW;obtain⟨e9,aN,a3⟩:=tok i (by lia);have aq:=cT _ (lx (ps:=ps) (UL (i+ps.length-1) (show 0<ps.length by lia)));have aL:=cT _ (lx aC);have es:=B1 ps i;refine⟨_,rfl,_,rfl,_,_,rfl,rfl,_,_,_,.inr rfl,rfl,B2 aC,?_⟩;refine⟨_,rfl,_,rfl,_,_,_,.inr rfl,rfl,sr aC,?_⟩;generalize bX ps ((i+ps.length-1)%ps.length)=p at *;generalize bX ps i=q at *;have aa:=aq.bp.a;have ab:=aq.bp.b;have aQ:=aq.bp.c;have bB:=aL.bp.a;have ek:=aL.bp.b;have fO:=aL.bp.c;walk_at "w";exact aW _ ⟨.val (.int i),.val (dP p),.val (dP q),by rw[es];rfl⟩
theorem Qb:cL ["_law_one","_law_other"] ["_law_one","_law_other"] (b8 uA):=by walk_at "sc"
def E9  : cw:=fun as k=>∃(p q:P3),as=[.val (dP p),.val (dP q)]/\(0<p.2.2)/\(0<q.2.2)/\(cp 7900 p)/\(cp 1000 q)/\k (.val (dP (du (p.1*q.2.2+q.1*p.2.2) 0 (p.2.2*q.2.2))))
theorem Qc(B:dc mg)(F:cW K mg "_law_added" uA ["_law_one","_law_other"])(iA:aZ P w K mg base "_law_point" ["_law_a","_law_b","_law_n"] 2 (a0 K 3 mB)):
  aZ P w K mg base "_law_added" ["_law_one","_law_other"] 3 (a0 K 2 E9):=by
 refine dE (lv:=2) F Qb rfl (fun f cdv A outer s H E am=>⟨_,(br (c2 (bK iA am (by rfl) (aS (gN (cY (bg (v3 0) aJ (fun _ _=>rfl)) (bg (v3 1) aJ (fun _ _=>rfl))) (cY (bg (v3 1) aJ (fun _ _=>rfl)) (bg (v3 0) aJ (fun _ _=>rfl)))) (aS aJ (aS (cY (bg (v3 0) aJ (fun _ _=>rfl)) (bg (v3 1) aJ (fun _ _=>rfl))) bD)))))),?_⟩);rintro as k ay ⟨p,q,rfl,jo,e9,bp,gb,ah⟩;refine dx (r:=[.val (dP p),.val (dP q)]) rfl ?_;have aa:=bp.a;have aQ:=bp.c;have bB:=gb.a;have fO:=gb.c;walk_at "w";exact⟨_,_,_,rfl,SH jo e9,by walk_at "bits",ah⟩
theorem E':cL ["_law_bag_here","_law_most","_law_n"] ["_law_bag_here","_law_most"] (b8 uB):=by walk_at "sc"
def yL  : cw:=fun as k =>  as=[.bag,.val (.int 6)]/\∀p:P3,j7 p->k (.val (dP p))
theorem Qd(B:dc mg)(F:cW K mg "_law_place" uB ["_law_bag_here","_law_most"])(h3:aZ P w K mg base "_law_digit" ["_law_bag_here","_law_many"] 1 (a0 K 2 (mf 400)))(iA:aZ P w K mg base "_law_point" ["_law_a","_law_b","_law_n"] 2 (a0 K 3 mB)):
  aZ P w K mg base "_law_place" ["_law_bag_here","_law_most"] 3 (a0 K 2 yL):=by
 refine dE (lv:=2) F E' rfl (fun f cdv A outer s H E am=>⟨_,(aY (b' (i:=2) E'.nd rfl (Ss rfl) (bg (dX (fK (bt aJ (bt aJ (bt aJ (bt aJ (bt aJ db))))))) (bK h3 am (by rfl) (f0 0 (aS aJ bD))) (fun _ _=>rfl))) (br (c2 (bK iA am (by rfl) (aS (bK h3 am (by rfl) (f0 0 (aS (gN (cY (v3 1) (v3 2)) aJ) bD))) (aS (bK h3 am (by rfl) (f0 0 (aS (gN (cY (v3 1) (v3 2)) aJ) bD))) (aS (v3 2) bD))))))),?_⟩);rintro as k ay ⟨rfl,ah⟩;refine dx (r:=[.bag,.val (.int 6),.no]) rfl ?_;refine⟨by show 5<=SZ;decide,?_⟩;walk_at "w";intro r ff av
 obtain⟨n,f5,cD,cv⟩:∃n:Int,ea [D.int 1,D.int 1,D.int 1,D.int 2,D.int 3] r=some (.int n)/\1<=n/\n<=3:=by
  obtain rfl|rfl|rfl|rfl|rfl:r=0∨r=1∨r=2∨r=3∨r=4:=by lia
  ·exact⟨1,rfl,by decide,by decide⟩
  ·exact⟨1,rfl,by decide,by decide⟩
  ·exact⟨1,rfl,by decide,by decide⟩
  ·exact⟨2,rfl,by decide,by decide⟩
  ·exact⟨3,rfl,by decide,by decide⟩
 refine⟨_,_,_,.inr rfl,rfl,f5,?_⟩;clear f5 ff av r;walk_at "w";intro x dI gt;walk_at "w";intro y y0 dN;walk_at "w";refine⟨_,_,_,rfl,by lia,by walk_at "bits",?_⟩;exact ah (nP (x,y,n)) ⟨⟨ji (p:=(x,y,n)) (by show n≠0;lia),cp.nP (p:=(x,y,n)) ⟨nC (x:=x) (by lia) (by lia),nC (x:=y) (by lia) (by lia),nC (x:=n) (by lia) (by lia)⟩ (by show n≠0;lia)⟩,EK (by lia) (PL (by lia) cv) dI (by lia) y0 (by lia)⟩
theorem Fa:cL ["_law_bag_here","_law_most","_law_n"] ["_law_bag_here","_law_most"] (b8 uC):=by walk_at "sc"
def Fb  : cw:=fun as k=>∃(m:Int),as=[.bag,.val (.int m)]/\(m=6∨m=9)/\∀p:P3,cq 6 p->k (.val (dP p))
theorem Qe(B:dc mg)(F:cW K mg "_law_step" uC ["_law_bag_here","_law_most"])(h3:aZ P w K mg base "_law_digit" ["_law_bag_here","_law_many"] 1 (a0 K 2 (mf 400)))(iA:aZ P w K mg base "_law_point" ["_law_a","_law_b","_law_n"] 2 (a0 K 3 mB)):
  aZ P w K mg base "_law_step" ["_law_bag_here","_law_most"] 3 (a0 K 2 Fb):=by
 refine dE (lv:=2) F Fa rfl (fun f cdv A outer s H E am=>⟨_,(aY (b' (i:=2) Fa.nd rfl (Ss rfl) (bg (dX (fK (bt aJ (bt aJ (bt aJ (bt aJ db)))))) (bK h3 am (by rfl) (f0 0 (aS aJ bD))) (fun _ _=>rfl))) (br (c2 (bK iA am (by rfl) (aS (ha (bK h3 am (by rfl) (f0 0 (aS (gN (cY aJ (v3 1)) aJ) bD))) (v3 1)) (aS (ha (bK h3 am (by rfl) (f0 0 (aS (gN (cY aJ (v3 1)) aJ) bD))) (v3 1)) (aS (v3 2) bD))))))),?_⟩);rintro as k ay ⟨m,rfl,aB,ah⟩;refine dx (r:=[.bag,.val (.int m),.no]) rfl ?_;walk_at "w";intro r ff av
 obtain⟨n,f5,cD,cv⟩:∃n:Int,ea [D.int 1,D.int 1,D.int 2,D.int 5] r=some (.int n)/\1<=n/\n<=5:=by
  obtain rfl|rfl|rfl|rfl:r=0∨r=1∨r=2∨r=3:=by lia
  ·exact⟨1,rfl,by decide,by decide⟩
  ·exact⟨1,rfl,by decide,by decide⟩
  ·exact⟨2,rfl,by decide,by decide⟩
  ·exact⟨5,rfl,by decide,by decide⟩
 refine⟨_,_,_,.inr rfl,rfl,f5,?_⟩;clear f5 ff av r;walk_at "w";intro x dI gt;walk_at "w";intro y y0 dN;walk_at "w";refine⟨_,_,_,rfl,by lia,by walk_at "bits",?_⟩;exact ah (nP (x-m,y-m,n)) ⟨ji (p:=(x-m,y-m,n)) (by show n≠0;lia),cp.nP (p:=(x-m,y-m,n)) ⟨nC (x:=x-m) (by lia) (by lia),nC (x:=y-m) (by lia) (by lia),nC (x:=n) (by lia) (by lia)⟩ (by show n≠0;lia)⟩
theorem yM:cL ["_law_bag_here","_law_most","_law_ring","_law_hand"] ["_law_bag_here","_law_most"] (b8 uD):=by walk_at "sc"
def Fc  : cw:=fun as k =>  as=[.bag,.val (.int 6)]/\∀ps:List P3,ps.length=3->gB ps->(∀p∈ps,j7 p)->k (.own (ps.map dP))
theorem Qf(B:dc mg)(F:cW K mg "_law_three" uD ["_law_bag_here","_law_most"])(yN:aZ P w K mg base "_law_place" ["_law_bag_here","_law_most"] 3 (a0 K 2 yL))(qT:aZ P w K mg base "_law_side" ["_law_p","_law_q","_law_r"] 2 (a0 K 3 tH)):
  aZ P w K mg base "_law_three" ["_law_bag_here","_law_most"] 4 (a0 K 2 Fc):=by
 refine dE (lv:=3) F yM rfl (fun f cdv A outer s H E am=>⟨_,(aY (r5 2 (kD (i:=2) yM.nd rfl rfl (ts:=["_law_k"]) (fr:=["_law_bag_here","_law_most"]) (js:=[0,1]) (la aJ (by rfl) B.range_) (fun _ _ _ _=>(bx (i:=0) (show SK (["_law_k","_law_bag_here","_law_most"]:List Str) by decide +kernel) rfl (Ss rfl))) (fun _ _ _ _=>f3) (fun _ _ _ _=>(bK yN am (by rfl) (f0 1 (aS (v3 2) bD)))) ⟨rfl,by decide +kernel,rfl,by decide +kernel,fi (Tb.mpr ⟨rfl,(Tb.mpr ⟨rfl,(S3 _)⟩)⟩),fB rfl,by walk_at "ffr",rfl⟩)) (aY (b' (i:=3) yM.nd rfl (Ss rfl) (bK qT am (by rfl) (aS (bg (v3 2) aJ (fun _ _=>rfl)) (aS (bg (v3 2) aJ (fun _ _=>rfl)) (aS (bg (v3 2) aJ (fun _ _=>rfl)) bD))))) (aY (dU (eB (f:=fun i j=>decide (i=j)) mY (v3 3) aJ (c1 _)) (br (k8 (fK (bt (fg (bt aJ (bt aJ (bt aJ db)))) (bt (fg (bt (v3 1) (bt aJ (bt aJ db)))) (bt (fg (bt aJ (bt (v3 1) (bt aJ db)))) db)))))) dS) (br (k8 (LL (v3 2) (v3 3))))))),?_⟩);rintro as k ay ⟨rfl,ah⟩;refine dx (r:=[.bag,.val (.int 6),.no,.no]) rfl ?_;refine⟨_,rfl,by decide,by decide,by show 3<=SZ;decide,?_⟩;refine BV (Pp:=j7) (fs:=[.bag,.val (.int 6)]) (fun d hd bP fS=>?_) (fun ps Qg cT=>?_)
 ·exact⟨rfl,_,rfl,rfl,rfl,fS⟩
 obtain⟨p,q,r,rfl⟩:∃p q r,ps=[p,q,r]:=by
  match ps,Qg with
  | [p,q,r],_=>exact⟨p,q,r,rfl⟩
 have M:∀x∈[p,q,r],cp 4000 x:=fun x aj=>(cT x aj).1.bp.mono (by decide);refine⟨_,rfl,?_⟩;refine⟨_,rfl,_,_,_,.inr rfl,rfl,rfl,?_⟩;refine⟨_,rfl,_,_,_,.inr rfl,rfl,rfl,?_⟩;refine⟨_,rfl,_,_,_,.inr rfl,rfl,rfl,?_⟩;refine⟨rfl,p,q,r,rfl,M p (by simp),M q (by simp),M r (by simp),?_⟩;dsimp only[c8];walk_at "wd";refine gi (fun g=>?_) (fun g=>?_)
 ·refine⟨by show 3<=SZ;decide,?_⟩;refine⟨_,rfl,by show 3<=SZ;decide,?_⟩;refine⟨_,rfl,by show 3<=SZ;decide,by show 3<=SZ;decide,?_⟩;refine ah [(0,0,1),(6,1,1),(1,6,1)] rfl (ss (by decide)) fun x aj=>?_;have s:∀a b n:Int,0<n->Sx (Sx a b:Nat) n=1->TE a<=6->TE b<=6->TE n<=6->fo 6 (a,b,n)->j7 (a,b,n):=fun a b n aa ab aQ bB ek fO=>⟨⟨⟨aa,ab⟩,aQ,bB,ek⟩,fO⟩;rcases Sy.mp aj with rfl|aj
  ·exact s _ _ _ (by decide) (by decide) (by decide) (by decide) (by decide) (tD ⟨by decide,by decide⟩ ⟨6,rfl⟩ (by decide) (by decide) (by decide) (by decide))
  rcases Sy.mp aj with rfl|aj
  ·exact s _ _ _ (by decide) (by decide) (by decide) (by decide) (by decide) (tD ⟨by decide,by decide⟩ ⟨6,rfl⟩ (by decide) (by decide) (by decide) (by decide))
  rcases Sy.mp aj with rfl|aj
  ·exact s _ _ _ (by decide) (by decide) (by decide) (by decide) (by decide) (tD ⟨by decide,by decide⟩ ⟨6,rfl⟩ (by decide) (by decide) (by decide) (by decide))
  ·simp at aj
 ·refine⟨_,rfl,_,rfl,_,rfl,?_,_,rfl,?_⟩
  ·rcases BW (az p q r)with z|z|z
   ·exact .inl z
   ·exact .inr z
   ·exact absurd z g
  rcases BW (az p q r)with z|z|z
  ·rw[z];exact ah [p,q,r] rfl (ss z) cT
  ·rw[z];refine ah [r,q,p] rfl (ss (by rw[L7,L1,z];rfl)) fun x aj=>cT x ?_;simp at aj ⊢;rcases aj with rfl|rfl|rfl<;>simp
  ·exact absurd z g
theorem nR:cL ["_law_bag_here","_law_most","_law_ring","_law_k","_law_p","_law_at_end","_law_more"] ["_law_bag_here","_law_most"] (b8 uE):=by walk_at "sc"
def Fd  : cw:=fun as k =>  as=[.bag,.val (.int 6)]/\∀ps:List P3,ps.length<=5->gB ps->(∀p∈ps,j7 p)->k (.val (.lst (ps.map dP)))
theorem Qh(B:dc mg)(F:cW K mg "_law_bulging" uE ["_law_bag_here","_law_most"])(Qi:aZ P w K mg base "_law_three" ["_law_bag_here","_law_most"] 4 (a0 K 2 Fc))(h3:aZ P w K mg base "_law_digit" ["_law_bag_here","_law_many"] 1 (a0 K 2 (mf 400)))(yN:aZ P w K mg base "_law_place" ["_law_bag_here","_law_most"] 3 (a0 K 2 yL))(yO:aZ P w K mg base "_law_is_convex" ["_law_ring"] 4 (a0 K 1 yG)):
  aZ P w K mg base "_law_bulging" ["_law_bag_here","_law_most"] 5 (a0 K 2 Fd):=by
 refine dE (lv:=4) F nR rfl (fun f cdv A outer s H E am=>⟨_,(aY (b' (i:=2) nR.nd rfl (Ss rfl) (bK Qi am (by rfl) (f0 0 (aS (v3 1) bD)))) (aY (gy PassesOwn.never rfl (la (bK h3 am (by rfl) (f0 0 (aS aJ bD))) (by rfl) B.range_) (bx (i:=3) nR.nd rfl (Ss rfl)) (aY (b' (i:=4) nR.nd rfl (Ss rfl) (bK yN am (by rfl) (f0 0 (aS (v3 1) bD)))) (br (gy PassesOwn.never rfl (la (ie (v3 2) (by rfl) B.len_) (by rfl) B.range_) (bx (i:=5) nR.nd rfl (Ss rfl)) (aY (b' (i:=6) nR.nd rfl (Ss rfl) (dX (pK (dX (pK (dX (ow (v3 2) mb (mc (v3 5)))) (dX (fK (bt (v3 4) db))))) (dX (ow (v3 2) (mc (v3 5)) mb))))) (br (dU (hR (bK yO am (by rfl) (aS (v3 6) bD))) (aY (b' (i:=2) nR.nd rfl (Ss rfl) (v3 6)) (br JW)) dS))))))) (br (c2 (v3 2))))),?_⟩);rintro as k ay ⟨rfl,ah⟩;refine dx (r:=[.bag,.val (.int 6),.no,.no,.no,.no,.no]) rfl ?_;refine⟨rfl,_,rfl,rfl,rfl,fun ps ay hc cT=>?_⟩;dsimp only[c8];refine gm (fun ρ=>∃(ps:List P3)(v3 cK dv fT:aI),ρ=[.bag,.val (.int 6),.val (.lst (ps.map dP)),v3,cK,dv,fT]/\ps.length<=5/\gB ps/\∀p∈ps,j7 p) ?_ (fun N aW=>?_)
 ·rintro ρ ⟨ps,v3,cK,dv,fT,rfl,ay,hc,cT⟩;exact⟨_,rfl,ah ps ay hc cT⟩
 refine⟨rfl,rfl,3,rfl,by decide,by decide +kernel,fun r ff av=>?_⟩;refine⟨_,rfl,by lia,by lia,?_⟩;refine mj (fun i ρ=>∃(ps:List P3)(v3 cK dv fT:aI),ρ=[.bag,.val (.int 6),.val (.lst (ps.map dP)),v3,cK,dv,fT]/\ps.length<=3+i/\gB ps/\∀p∈ps,j7 p) ⟨ps,_,_,_,_,rfl,by lia,hc,cT⟩ ?_ ?_
 ·clear ay hc cT ps;rintro i ρ aC ⟨ps,v3,cK,dv,fT,rfl,ay,hc,cT⟩ N aW;refine⟨rfl,_,rfl,rfl,rfl,fun p aq=>?_⟩;dsimp only[c8];refine⟨_,rfl,_,rfl,_,rfl,by lia,by rw[Sz];lia,?_⟩;rw[Sz,show((ps.length:Nat):Int).toNat=ps.length by lia];refine mj (fun j ρ=>∃dv fT,ρ=[.bag,.val (.int 6),.val (.lst (ps.map dP)),.val (.int i),.val (dP p),dv,fT]) ⟨_,_,rfl⟩ ?_ ?_
  ·rintro j ρ bz ⟨dv,fT,rfl⟩ ab7 Qj;have f6:1000<=SZ:=by decide
   have ag:cutL (ps.map dP) none (some (j:Int))=(ps.take j).map dP:=by rw[A8 (by lia) (by rw[Sz];lia),<-VC];rfl
   have ao:cutL (ps.map dP) (some (j:Int)) none=(ps.drop j).map dP:=by rw[r6 (by lia) (by rw[Sz];lia),<-UJ];rfl
   have em:(ps.take j).map dP++[dP p]++(ps.drop j).map dP=(ps.take j++p::ps.drop j).map dP:=by simp
   walk_at "w";rw[ag];refine⟨by simp only[Sz,TJ,SO,UK];lia,?_⟩;refine⟨_,rfl,_,rfl,_,rfl,_,rfl,_,_,rfl,rfl,by rw[ao];simp only[SE,Sz,TJ,TL,SO,UK];lia,?_⟩;dsimp only;rw[ao,em]
   have Fe:∀x∈ps.take j++p::ps.drop j,j7 x:=fun x aj=>by
    rcases SI.mp aj with h|h
    ·exact cT x (WL h)
    ·rcases Sy.mp h with rfl|h
     ·exact aq
     ·exact cT x (List.mem_of_mem_drop h)
   have iV:(ps.take j++p::ps.drop j).length=ps.length+1:=by simp only[SE,TJ,TL,SO];lia
   generalize ps.take j++p::ps.drop j=bj at *;refine⟨_,rfl,rfl,bj,rfl,by lia,fun x aj=>(Fe x aj).1.mono (by decide),fun b ae=>⟨_,rfl,?_⟩⟩;cases b with
   | true=>exact⟨_,rfl,aW _ ⟨bj,_,_,_,_,rfl,by lia,ae.mp rfl,Fe⟩⟩
   | false=>exact Qj _ ⟨_,_,rfl⟩
  ·rintro ρ ⟨dv,fT,rfl⟩;exact aW _ ⟨ps,_,_,_,_,rfl,by lia,hc,cT⟩
 ·rintro ρ ⟨ps,v3,cK,dv,fT,rfl,ay,hc,cT⟩;exact aW _ ⟨ps,_,_,_,_,rfl,by lia,hc,cT⟩
theorem nS:cL ["_law_ring","_law_bag_here","_law_found_here","_law_weights","_law_p","_law_weight"] ["_law_ring","_law_bag_here"] (b8 uF):=by walk_at "sc"
def yP  : cw:=fun as k=>∃(ps:List P3),as=[.val (.lst (ps.map dP)),.bag]/\(1<=ps.length)/\(ps.length<=5)/\(∀p∈ps,j7 p)/\∀p:P3,cq 14 p->k (.val (dP p))
theorem Qk(B:dc mg)(F:cW K mg "_law_mixed" uF ["_law_ring","_law_bag_here"])(h3:aZ P w K mg base "_law_digit" ["_law_bag_here","_law_many"] 1 (a0 K 2 (mf 400)))(qV:aZ P w K mg base "_law_slid" ["_law_p","_law_v"] 3 (a0 K 2 tF))(iA:aZ P w K mg base "_law_point" ["_law_a","_law_b","_law_n"] 2 (a0 K 3 mB)):
  aZ P w K mg base "_law_mixed" ["_law_ring","_law_bag_here"] 4 (a0 K 2 yP):=by
 refine dE (lv:=3) F nS rfl (fun f cdv A outer s H E am=>⟨_,(aY (b' (i:=2) nS.nd rfl (Ss rfl) (fg (bt aJ (bt aJ (bt aJ db))))) (aY (b' (i:=3) nS.nd rfl (Ss rfl) aJ) (aY (gy PassesOwn.never rfl (ed (v3 0)) (bx (i:=4) nS.nd rfl (Ss rfl)) (aY (b' (i:=5) nS.nd rfl (Ss rfl) (gN aJ (bK h3 am (by rfl) (f0 1 (aS aJ bD))))) (aY (b' (i:=2) nS.nd rfl (Ss rfl) (bK qV am (by rfl) (aS (v3 2) (aS (bK iA am (by rfl) (aS (cY (bg (v3 4) aJ (fun _ _=>rfl)) (v3 5)) (aS (cY (bg (v3 4) aJ (fun _ _=>rfl)) (v3 5)) (aS (bg (v3 4) aJ (fun _ _=>rfl)) bD)))) bD)))) (br (MR (i:=3) nS.nd rfl (Ss rfl) (v3 5)))))) (br (c2 (bK iA am (by rfl) (aS (bg (v3 2) aJ (fun _ _=>rfl)) (aS (bg (v3 2) aJ (fun _ _=>rfl)) (aS (cY (bg (v3 2) aJ (fun _ _=>rfl)) (v3 3)) bD))))))))),?_⟩);rintro as k ay ⟨ps,rfl,bZ,ay,cT,ah⟩;refine dx (r:=[.val (.lst (ps.map dP)),.bag,.no,.no,.no,.no]) rfl ?_;walk_at "wd";refine oB (f:=dP) (done:=[]) (fun pre ρ=>∃(cK dv:aI)(P:P3)(w:Int),ρ=[.val (.lst (ps.map dP)),.bag,.val (dP P),.val (.int w),cK,dv]/\fo (366*pre.length) P/\(pre.length:Int)<=w/\w<=61*pre.length) ⟨_,_,(0,0,1),0,rfl,(tD (a:=0) (b:=0) (n:=1) ⟨by decide,by decide⟩ ⟨6,rfl⟩ (by decide) (by decide) (by decide) (by decide)) |> fun h=>⟨h.1,h.2.1,o3 (x:=0) (n:=1) (by decide) (by decide) (by simp),o3 (x:=0) (n:=1) (by decide) (by decide) (by simp)⟩,by simp,by simp⟩ ?_ ?_
 ·rintro pre x rest ρ dQ ⟨cK,dv,P,w,rfl,da,eU,gd⟩ N aW;have dQ:ps=pre++x::rest:=by simpa using dQ
  have aj:x∈ps:=by rw[dQ];simp
  have dV:pre.length<5:=by have:=Uf Th dQ;simp at this;lia
  have qW:=cT x aj;refine⟨rfl,rfl,61,rfl,by decide,by decide +kernel,fun d hY ej=>?_⟩;refine⟨_,_,rfl,rfl,?_⟩;have aa:=qW.1.bp.a;have ab:=qW.1.bp.b;have aQ:=qW.1.bp.c;have bB:TE (1+d)<=6:=nC (by lia) (by lia);walk_at "w";refine⟨_,_,_,rfl,qW.1.pt.1,by walk_at "bits",?_⟩;dsimp only[c8];have ih:=PM qW hY ej;refine⟨rfl,P,_,rfl,(da.gp (by lia)).mono (by decide),(ih.gp (by decide)).mono (by decide),?_⟩;dsimp only[c8];refine⟨_,rfl,_,rfl,_,rfl,aW _ ⟨.val (dP x),.val (.int (1+d)),_,_,rfl,(da.sl ih).mono (by rw[SE,TM];push_cast;lia),?_,?_⟩⟩
  ·rw[SE,TM];push_cast;lia
  ·rw[SE,TM];push_cast;lia
 rintro ρ ⟨cK,dv,P,w,rfl,da,eU,gd⟩;have eU:(ps.length:Int)<=w:=eU;have gd:w<=61*ps.length:=gd;have da:fo 1830 P:=da.mono (by rw[Tz];lia);have qX:=da.gp (by decide);have aa:=qX.bp.a;have ab:=qX.bp.b;have aQ:=qX.bp.c;have bB:TE w<=64:=vy (x:=w) (by lia) (by lia);have ip:=SH da.1.1 (show 0<w by lia);walk_at "w";refine⟨_,_,_,rfl,ip,by walk_at "bits",?_⟩;exact ah _ (PN da (by lia) (by lia))
theorem tI:cL ["one","other"] ["one","other"] (b8 t2):=by walk_at "sc"
def yQ  : cw:=fun as k=>∃(a b:Int),as=[.val (.int a),.val (.int b)]/\k (.val (.int (Sx a b:Nat)))
theorem Ql(B:dc mg)(F:cW K mg "greatest_divisor" t2 ["one","other"])  :
  aZ P w K mg base "greatest_divisor" ["one","other"] 2 (a0 K 2 yQ):=by
 refine dE (lv:=1) F tI rfl (fun f cdv A outer s H E am=>⟨_,(aY (b' (i:=0) tI.nd rfl (Ss rfl) (rL (v3 0) (by rfl) B.abs_)) (aY (b' (i:=1) tI.nd rfl (Ss rfl) (rL (v3 1) (by rfl) B.abs_)) (aY (vS PassesOwn.never (eB (f:=fun i j => !decide (i=j)) kZ (v3 1) aJ (c1 _)) (br (J1 (i:=0) (j:=1) rfl tI.nd rfl rfl (by decide) rfl rfl (bt (v3 1) (bt (pC (v3 0) (v3 1)) db)) rfl))) (br (c2 (v3 0)))))),?_⟩);rintro as k ay ⟨a,b,rfl,ah⟩;refine dx (r:=[.val (.int a),.val (.int b)]) rfl ?_;walk_at "wd";refine⟨fun m ρ=>∃(x y:Int),ρ=[.val (.int x),.val (.int y)]/\0<=x/\0<=y/\Sx x y=Sx a b/\m=y.toNat,⟨_,_,_,rfl,?_,?_,Ad a b,rfl⟩,?_⟩
 ·split<;>lia
 ·split<;>lia
 rintro m ρ ⟨x,y,rfl,dI,y0,aD,rfl⟩;walk_at "wd";refine rB (fun g=>?_) (fun g=>?_)
 ·have g:0<y:=by lia
  walk_at "wd";have cS:=Uc x (show y≠0 by lia);have bF:=Ud x g;exact⟨_,_,rfl,_,by lia,_,_,rfl,y0,cS,by rw[vz dI g];exact aD,rfl⟩
 ·subst g;refine⟨_,rfl,?_⟩;rw[<-vA dI,aD];exact ah
theorem yR:cL ["a","b","n","divisor"] ["a","b","n"] (b8 t3):=by walk_at "sc"
def Ff  : cw:=fun as k=>∃(a b n:Int),as=[.val (.int a),.val (.int b),.val (.int n)]/\(n≠0)/\(TE n<=9000)/\k (.val (dP (du a b n)))
theorem Qm(B:dc mg)(F:cW K mg "point" t3 ["a","b","n"])(o7:aZ P w K mg base "greatest_divisor" ["one","other"] 2 (a0 K 2 yQ)):
  aZ P w K mg base "point" ["a","b","n"] 3 (a0 K 3 Ff):=by
 refine dE (lv:=2) F yR rfl (fun f cdv A outer s H E am=>⟨_,(aY (dU (eB (f:=fun i j=>decide (i=j)) mY (v3 2) aJ (c1 _)) (br AD) dS) (aY (b' (i:=3) yR.nd rfl (Ss rfl) (bK o7 am (by rfl) (aS (bK o7 am (by rfl) (aS (v3 2) (aS (v3 0) bD))) (aS (v3 1) bD)))) (aY (dU (eB (f:=fun i j=>decide (i<j)) jb (v3 2) aJ (c1 _)) (br (b' (i:=3) yR.nd rfl (Ss rfl) (kx (v3 3)))) dS) (br (c2 (fg (bt (hE (v3 0) (v3 3)) (bt (hE (v3 1) (v3 3)) (bt (hE (v3 2) (v3 3)) db))))))))),?_⟩);rintro as k ay ⟨a,b,n,rfl,aH,yB,ah⟩;refine dx (r:=[.val (.int a),.val (.int b),.val (.int n),.no]) rfl ?_;walk_at "wd";refine gi (fun g=>absurd g aH) (fun _=>?_);walk_at "w";refine⟨_,_,rfl,?_⟩;walk_at "w";refine⟨_,_,rfl,?_⟩;dsimp only[c8];have gp:=A' (a:=a) (b:=b) aH;have yC:=Ba (a:=a) (b:=b) aH yB;rw[KX a b n];refine gm (fun ρ=>ρ=[.val (.int a),.val (.int b),.val (.int n),.val (.int (i0 a b n))]) ?_ (fun N aW=>?_)
 ·rintro ρ rfl;have hY:i0 a b n≠0:=by unfold i0;split<;>lia
  have Qn:TE (i0 a b n)<=9000:=by
   unfold i0;split
   ·exact Xe yC
   ·exact yC
  walk_at "w";exact ah
 ·walk_at "wd";refine gi (fun g=>?_) (fun g=>?_)
  ·walk_at "w";refine aW _ ?_;unfold i0;rw[TI g];rfl
  ·refine aW _ ?_;unfold i0;rw[TT g];rfl
theorem nT:cL ["one","other","a","b","n","c","d","m"] ["one","other"] (b8 t7):=by walk_at "sc"
def yS  : cw:=fun as k=>∃(p q:P3),as=[.val (dP p),.val (dP q)]/\(cp 2000 p)/\(cp 2000 q)/\k (.val (dP (crs p q)))
theorem Qo(B:dc mg)(F:cW K mg "crossed" t7 ["one","other"])  :
  aZ P w K mg base "crossed" ["one","other"] 2 (a0 K 2 yS):=by
 refine dE (lv:=1) F nT rfl (fun f cdv A outer s H E am=>⟨_,(aY (jP (v3 0) (fA (n:=3) rfl (ce (bx (i:=2) nT.nd rfl (Ss rfl)) (ce (bx (i:=3) nT.nd rfl (Ss rfl)) (ce (bx (i:=4) nT.nd rfl (Ss rfl)) fy))))) (aY (jP (v3 1) (fA (n:=3) rfl (ce (bx (i:=5) nT.nd rfl (Ss rfl)) (ce (bx (i:=6) nT.nd rfl (Ss rfl)) (ce (bx (i:=7) nT.nd rfl (Ss rfl)) fy))))) (br (c2 (fg (bt (ha (cY (v3 3) (v3 7)) (cY (v3 4) (v3 6))) (bt (ha (cY (v3 4) (v3 5)) (cY (v3 2) (v3 7))) (bt (ha (cY (v3 2) (v3 6)) (cY (v3 3) (v3 5))) db)))))))),?_⟩);rintro as k ay ⟨p,q,rfl,bp,gb,ah⟩;refine dx (r:=[.val (dP p),.val (dP q),.no,.no,.no,.no,.no,.no]) rfl ?_;have aa:=bp.a;have ab:=bp.b;have aQ:=bp.c;have bB:=gb.a;have ek:=gb.b;have fO:=gb.c;walk_at "w";refine⟨_,_,rfl,_,_,rfl,_,_,rfl,rfl,?_⟩;walk_at "w";refine⟨_,_,rfl,_,_,rfl,_,_,rfl,rfl,?_⟩;walk_at "w";exact ah
theorem Fg:cL ["line","p","turn"] ["line","p"] (b8 t8):=by walk_at "sc"
def Fh  : cw:=fun as k=>∃(c r:P3),as=[.val (dP c),.val (dP r)]/\(cp 2000 c)/\(cp 2000 r)/\k (.val (.int (sg (c.1*r.1+c.2.1*r.2.1+c.2.2*r.2.2))))
theorem Qp(B:dc mg)(F:cW K mg "hand_of" t8 ["line","p"])  :
  aZ P w K mg base "hand_of" ["line","p"] 2 (a0 K 2 Fh):=by
 refine dE (lv:=1) F Fg rfl (fun f cdv A outer s H E am=>⟨_,(aY (b' (i:=2) Fg.nd rfl (Ss rfl) (gN (gN (cY (bg (v3 0) aJ (fun _ _=>rfl)) (bg (v3 1) aJ (fun _ _=>rfl))) (cY (bg (v3 0) aJ (fun _ _=>rfl)) (bg (v3 1) aJ (fun _ _=>rfl)))) (cY (bg (v3 0) aJ (fun _ _=>rfl)) (bg (v3 1) aJ (fun _ _=>rfl))))) (aY (dU (eB (f:=fun i j=>decide (j<i)) lU (v3 2) aJ (c1 _)) (br (c2 aJ)) dS) (aY (dU (eB (f:=fun i j=>decide (i<j)) jb (v3 2) aJ (c1 _)) (br (c2 (kx aJ))) dS) (br (c2 aJ))))),?_⟩);rintro as k ay ⟨c,r,rfl,yT,kQ,ah⟩;refine dx (r:=[.val (dP c),.val (dP r),.no]) rfl ?_;have aa:=yT.a;have ab:=yT.b;have aQ:=yT.c;have bB:=kQ.a;have ek:=kQ.b;have fO:=kQ.c;walk_at "wd";unfold sg at ah;refine gi (fun g=>?_) (fun g=>?_)
 ·rw[TI g]at ah;exact ah
 rw[TT g]at ah;walk_at "wd";refine gi (fun aT=>?_) (fun aT=>?_)
 ·rw[TI aT]at ah;walk_at "w";exact ah
 rw[TT aT]at ah;exact ah
theorem tJ:cL ["p","q","r","s","a","b","n"] ["p","q","r","s"] (b8 t9):=by walk_at "sc"
def Fi  : cw:=fun as k=>∃(p q r s:P3),as=[.val (dP p),.val (dP q),.val (dP r),.val (dP s)]/\(cp 700 p)/\(cp 700 q)/\(cp 700 r)/\(cp 700 s)/\((crs (crs p q) (crs r s)).2.2≠0)/\k (.val (dP (nP (crs (crs p q) (crs r s)))))
theorem Qq(B:dc mg)(F:cW K mg "meet" t9 ["p","q","r","s"])(qY:aZ P w K mg base "crossed" ["one","other"] 2 (a0 K 2 yS))(Qr:aZ P w K mg base "point" ["a","b","n"] 3 (a0 K 3 Ff)):
  aZ P w K mg base "meet" ["p","q","r","s"] 4 (a0 K 4 Fi):=by
 refine dE (lv:=3) F tJ rfl (fun f cdv A outer s H E am=>⟨_,(aY (jP (bK qY am (by rfl) (aS (bK qY am (by rfl) (aS (v3 0) (aS (v3 1) bD))) (aS (bK qY am (by rfl) (aS (v3 2) (aS (v3 3) bD))) bD))) (fA (n:=3) rfl (ce (bx (i:=4) tJ.nd rfl (Ss rfl)) (ce (bx (i:=5) tJ.nd rfl (Ss rfl)) (ce (bx (i:=6) tJ.nd rfl (Ss rfl)) fy))))) (aY (dU (eB (f:=fun i j=>decide (i=j)) mY (v3 6) aJ (c1 _)) (br AD) dS) (br (c2 (bK Qr am (by rfl) (aS (v3 4) (aS (v3 5) (aS (v3 6) bD)))))))),?_⟩);rintro as k ay ⟨p,q,r,s,rfl,bp,gb,kQ,bs,aH,ah⟩;refine dx (r:=[.val (dP p),.val (dP q),.val (dP r),.val (dP s),.no,.no,.no]) rfl ?_;have dw:=bp.crs gb;have d4:=kQ.crs bs;have jO:=dw.crs d4;refine⟨_,rfl,_,rfl,rfl,p,q,rfl,bp.mono (by decide),gb.mono (by decide),?_⟩;refine⟨_,rfl,_,rfl,rfl,r,s,rfl,kQ.mono (by decide),bs.mono (by decide),?_⟩;refine⟨rfl,_,_,rfl,dw.mono (by decide),d4.mono (by decide),?_⟩;generalize crs (crs p q) (crs r s)=m at *;obtain⟨x,y,z⟩:=m;have aH:z≠0:=aH;have Qs:TE z<=9000:=SA jO.c (by decide);refine⟨_,rfl,rfl,_,_,rfl,_,_,rfl,_,_,rfl,rfl,?_⟩;walk_at "wd";refine gi (fun g=>absurd g aH) (fun _=>?_);exact⟨_,rfl,_,rfl,_,rfl,rfl,x,y,z,rfl,aH,Qs,ah⟩
theorem lL:cL ["ring","p","q","line","corner","hands","left","right","place","after","between"] ["ring","p","q"] (b8 ud):=by walk_at "sc"
def yU  : cw:=fun as k=>∃(ps:List P3)(p q:P3),as=[.val (.lst (ps.map dP)),.val (dP p),.val (dP q)]/\(cp 300 p)/\(cp 300 q)/\(∀c∈ps,cp 300 c/\bL c)/\(ps.length<=1000)/\k (.val (.tup [.lst ((dn (ln (crs p q)) (bv (crs p q)) ps).map dP),.lst ((dn (fun c => -ln (crs p q) c) (bv (crs p q)) ps).map dP)]))
theorem Qt(B:dc mg)(F:cW K mg "cut_ring" ud ["ring","p","q"])(qY:aZ P w K mg base "crossed" ["one","other"] 2 (a0 K 2 yS))(Qu:aZ P w K mg base "hand_of" ["line","p"] 2 (a0 K 2 Fh))(Qv:aZ P w K mg base "meet" ["p","q","r","s"] 4 (a0 K 4 Fi)):
  aZ P w K mg base "cut_ring" ["ring","p","q"] 5 (a0 K 3 yU):=by
 refine dE (lv:=4) F lL rfl (fun f cdv A outer s H E am=>⟨_,(aY (b' (i:=3) lL.nd rfl (SF rfl) (bK qY am (by rfl) (aS (v3 1) (aS (v3 2) bD)))) (aY (r5 5 (kD (i:=5) lL.nd rfl rfl (ts:=["corner"]) (fr:=["line"]) (js:=[3]) (ed (v3 0)) (fun _ _ _ _=>(bx (i:=0) (show SK (["corner","line"]:List Str) by decide +kernel) rfl (Ss rfl))) (fun _ _ _ _=>f3) (fun _ _ _ _=>(bK Qu am (by rfl) (aS (v3 1) (aS (v3 0) bD)))) ⟨rfl,by decide +kernel,rfl,by decide +kernel,fi (Tb.mpr ⟨rfl,(S3 _)⟩),fB rfl,by walk_at "ffr",rfl⟩)) (aY (k9 (i:=6) lL.nd rfl (Ss rfl) (fK db)) (aY (k9 (i:=7) lL.nd rfl (Ss rfl) (fK db)) (aY (Mw PassesOwn.never rfl (v3 0) (by rfl) B.enumerate_ (fA (n:=2) rfl (ce (bx (i:=8) lL.nd rfl (Ss rfl)) (ce (bx (i:=4) lL.nd rfl (Ss rfl)) fy))) (aY (dU (eB (f:=fun i j=>decide (j<=i)) zF (bg (v3 5) (v3 8) (fun _ _=>rfl)) aJ (c1 _)) (br (md 6 (v3 4))) dS) (aY (dU (eB (f:=fun i j=>decide (i<=j)) H0 (bg (v3 5) (v3 8) (fun _ _=>rfl)) aJ (c1 _)) (br (md 7 (v3 4))) dS) (aY (b' (i:=9) lL.nd rfl (Ss rfl) (pC (gN (v3 8) aJ) (ie (v3 0) (by rfl) B.len_))) (br (dU (eB (f:=fun i j=>decide (i<j)) jb (cY (bg (v3 5) (v3 8) (fun _ _=>rfl)) (bg (v3 5) (v3 9) (fun _ _=>rfl))) aJ (c1 _)) (aY (b' (i:=10) lL.nd rfl (Ss rfl) (bK Qv am (by rfl) (aS (v3 1) (aS (v3 2) (aS (v3 4) (aS (bg (v3 0) (v3 9) (fun _ _=>rfl)) bD)))))) (aY (md 6 (v3 10)) (br (md 7 (v3 10))))) dS)))))) (k7 7 (k7 6 (br (c2 (fg (bt (Av (AU (am.units) aJ (v3 5) (by rfl)) (v3 6) (dX (fK db))) (bt (Av (AU (am.units) (kx aJ) (v3 5) (by rfl)) (v3 7) (dX (fK db))) db)))))))))))),?_⟩);rintro as k ay ⟨ps,p,q,rfl,bp,gb,ae,ay,ah⟩;refine dx (r:=[.val (.lst (ps.map dP)),.val (dP p),.val (dP q),.no,.no,.no,.no,.no,.no,.no,.no]) rfl ?_;have f2:=(bp.crs gb).mono (show 300+300+1<=700 by decide);refine⟨_,rfl,_,rfl,rfl,p,q,rfl,bp.mono (by decide),gb.mono (by decide),?_⟩;dsimp only[c8];refine⟨_,rfl,_,rfl,by rw[Sz];exact SA ay (by decide),?_⟩;refine iZ (f:=dP) (h:=fun c=>D.int (sg (ln (crs p q) c))) (fs:=[.val (dP (crs p q))]) (fun r am eN qZ=>⟨_,rfl,_,rfl,rfl,crs p q,r,rfl,f2.mono (by decide),(ae r am).1.mono (by decide),qZ⟩) ?_;refine⟨_,rfl,?_⟩;walk_at "wd";have Fj:ps.headD (ps.headD (0,0,1))=ps.headD (0,0,1):=by cases ps<;>rfl
 refine Cv (f:=dP) (done:=[]) (fun pre ρ=>∃cK e0 i7 v10 rest,ps=pre++rest/\ρ=[.val (.lst (ps.map dP)),.val (dP p),.val (dP q),.val (dP (crs p q)),cK,.val (.lst (ps.map fun c=>D.int (sg (ln (crs p q) c)))),.own ((cJ (ln (crs p q)) (bv (crs p q)) pre (rest.headD (ps.headD (0,0,1)))).map dP),.own ((cJ (fun c => -ln (crs p q) c) (bv (crs p q)) pre (rest.headD (ps.headD (0,0,1)))).map dP),e0,i7,v10]) ⟨_,_,_,_,ps,rfl,rfl⟩ ?_ ?_
 ·rintro pre c rest ρ eq ⟨cK,e0,i7,v10,q0,dW,rfl⟩ N aW;have eq:ps=pre++c::rest:=by simpa using eq
  have jy:q0=c::rest:=by rw[dW]at eq;exact VZ eq
  subst jy;have hc:c∈ps:=by rw[eq];simp
  have yV:ea (ps.map fun c=>D.int (sg (ln (crs p q) c))) (pre.length:Int)=some (D.int (sg (ln (crs p q) c))):=by
   have:=MA (h:=fun c=>D.int (sg (ln (crs p q) c))) (pre:=pre) (rest:=rest) (c:=c);rw[<-eq]at this;exact this
  have an:=Cy (h:=fun c=>D.int (sg (ln (crs p q) c))) eq Fj;have Qw:=Cy (h:=dP) eq Fj;show k6 _ _ _ [.val (.lst (ps.map dP)),.val (dP p),.val (dP q),.val (dP (crs p q)),.val (dP c),.val (.lst (ps.map fun c=>D.int (sg (ln (crs p q) c)))),.own ((cJ (ln (crs p q)) (bv (crs p q)) pre c).map dP),.own ((cJ (fun c => -ln (crs p q) c) (bv (crs p q)) pre c).map dP),.val (.int pre.length),i7,v10]
  have dV:pre.length<=1000:=by rw[eq,SE]at ay;lia
  have aP:=xn (f:=ln (crs p q)) (mt:=bv (crs p q)) (ps:=pre) (w:=c);have bc:=xn (f:=fun c => -ln (crs p q) c) (mt:=bv (crs p q)) (ps:=pre) (w:=c);have f6:5000<=SZ:=by decide
  refine gm (fun ρ=>ρ=[.val (.lst (ps.map dP)),.val (dP p),.val (dP q),.val (dP (crs p q)),.val (dP c),.val (.lst (ps.map fun c=>D.int (sg (ln (crs p q) c)))),.own ((cJ (ln (crs p q)) (bv (crs p q)) pre c++kp (ln (crs p q)) c).map dP),.own ((cJ (fun c => -ln (crs p q) c) (bv (crs p q)) pre c).map dP),.val (.int pre.length),i7,v10]) ?_ (fun N aW=>?_);rotate_left
  ·refine⟨_,rfl,_,rfl,_,_,_,.inr rfl,rfl,yV,_,_,rfl,rfl,_,rfl,gi (fun g=>?_) (fun g=>?_)⟩
   ·refine⟨_,rfl,_,rfl,by rw[Sz];lia,aW _ ?_⟩;rw[CA (xl.mp g),S9];rfl
   ·refine aW _ ?_;rw[CB (fun z=>g (xl.mpr z)),SG]
  rintro ρ rfl;refine gm (fun ρ=>ρ=[.val (.lst (ps.map dP)),.val (dP p),.val (dP q),.val (dP (crs p q)),.val (dP c),.val (.lst (ps.map fun c=>D.int (sg (ln (crs p q) c)))),.own ((cJ (ln (crs p q)) (bv (crs p q)) pre c++kp (ln (crs p q)) c).map dP),.own ((cJ (fun c => -ln (crs p q) c) (bv (crs p q)) pre c++kp (fun c => -ln (crs p q) c) c).map dP),.val (.int pre.length),i7,v10]) ?_ (fun N aW=>?_);rotate_left
  ·refine⟨_,rfl,_,rfl,_,_,_,.inr rfl,rfl,yV,_,_,rfl,rfl,_,rfl,gi (fun g=>?_) (fun g=>?_)⟩
   ·refine⟨_,rfl,_,rfl,by rw[Sz];lia,aW _ ?_⟩;rw[CA (f:=fun c => -ln (crs p q) c) (c:=c) (by have:=Cx.mp g;show 0 <= -ln (crs p q) c;lia),S9 (l₂:=[c])];rfl
   ·refine aW _ ?_;rw[CB (f:=fun c => -ln (crs p q) c) (c:=c) (fun z=>g (Cx.mpr (by have z:0 <= -ln (crs p q) c:=z;lia))),SG]
  rintro ρ rfl;have pos:(0:Int)<((ps.map dP).length:Int):=by rw[Sz,eq,SE,SO];lia
  refine⟨_,rfl,_,_,rfl,rfl,_,rfl,_,rfl,_,_,rfl,rfl,pos,?_⟩;rw[Sz];have bT:(kp (ln (crs p q)) c).length<=1:=by unfold kp;split<;>simp
  have bP:(kp (fun c => -ln (crs p q) c) c).length<=1:=by unfold kp;split<;>simp
  refine⟨_,rfl,_,rfl,_,_,_,.inr rfl,rfl,yV,_,rfl,_,rfl,_,_,_,.inr rfl,rfl,an,_,_,rfl,rfl,⟨Cz _,Cz _⟩,_,_,rfl,rfl,_,rfl,gi (fun g=>?_) (fun g=>?_)⟩
  ·have lt:=Cw.mp g
   have Fk:rest.headD (ps.headD (0,0,1))∈ps:=by
    cases rest with
    | nil =>
     cases ps with
     | nil=>cases hc
     | cons a r=>exact Sv
    | cons d rest=>rw[eq];simp
   have kI:=(ae c hc).2;have pn:=(ae _ Fk).2;refine⟨_,rfl,_,rfl,_,rfl,_,rfl,_,rfl,_,_,_,.inr rfl,rfl,Qw,rfl,p,q,c,rest.headD (ps.headD (0,0,1)),rfl,bp.mono (by decide),gb.mono (by decide),(ae c hc).1.mono (by decide),(ae _ Fk).1.mono (by decide),sM kI pn lt,?_⟩;dsimp only[c8];rw[sL kI pn];refine⟨_,rfl,_,rfl,by rw[Sz,SE];lia,?_⟩;refine⟨_,rfl,_,rfl,by rw[Sz,SE];lia,aW _ ⟨.val (dP c),.val (.int pre.length),.val (.int (((pre.length:Int)+1)%(ps.length:Int))),.val (dP (bv (crs p q) c (rest.headD (ps.headD (0,0,1))))),rest,by rw[eq];simp,?_⟩⟩;rw[sK,sK,j3 lt,j3 (f:=fun c => -ln (crs p q) c) (by rw[T9];exact lt),S9 (l₂:=[bv (crs p q) c (rest.headD (ps.headD (0,0,1)))]),S9 (l₂:=[bv (crs p q) c (rest.headD (ps.headD (0,0,1)))])];rfl
  ·refine aW _ ⟨.val (dP c),.val (.int pre.length),.val (.int (((pre.length:Int)+1)%(ps.length:Int))),v10,rest,by rw[eq];simp,?_⟩;have kO:¬ln (crs p q) c*ln (crs p q) (rest.headD (ps.headD (0,0,1)))<0:=fun z=>g (Cw.mpr z);rw[sK,sK,jm kO,jm (by rw[T9];exact kO),SG,SG];rfl
 rintro ρ ⟨cK,e0,i7,v10,rest,dW,rfl⟩
 have jy:rest=[]:=by
  have:ps++[]=ps++rest:=by rw[SG];exact dW
  exact(VZ this).symm
 subst jy
 have yW:∀e∈ps.map (fun c=>D.int (sg (ln (crs p q) c))),has .I e=true:=fun e au=>by
  obtain⟨_,_,rfl⟩:=SJ.mp au;rfl
 refine⟨_,rfl,_,rfl,?_⟩;refine⟨_,rfl,.I,_,.inl rfl,rfl,yW,by decide,fun dw Fl=>⟨_,rfl,?_⟩⟩;cases dw with
 | true =>
  rw[lC (CC.mp (Fl.mp rfl))]at ah;refine gk rfl ⟨_,rfl,?_⟩;refine⟨_,rfl,_,rfl,.I,_,.inl rfl,rfl,yW,by decide,fun d4 nQ=>⟨_,rfl,?_⟩⟩;cases d4 with
  | true =>
   rw[lC (s1.mpr (sN.mp (nQ.mp rfl)))]at ah;exact gk rfl ⟨_,rfl,(show 2<=SZ by decide),ah⟩
  | false =>
   rw[nE (fun z=>SP (nQ.mpr (sN.mpr (s1.mp z))))]at ah;exact gl rfl ⟨(show 0<=SZ by decide),(show 2<=SZ by decide),ah⟩
 | false =>
  rw[nE (fun z=>SP (Fl.mpr (CC.mpr z)))]at ah;refine gl rfl ⟨(show 0<=SZ by decide),?_⟩;refine⟨_,rfl,_,rfl,.I,_,.inl rfl,rfl,yW,by decide,fun d4 nQ=>⟨_,rfl,?_⟩⟩;cases d4 with
  | true =>
   rw[lC (s1.mpr (sN.mp (nQ.mp rfl)))]at ah;exact gk rfl ⟨_,rfl,(show 2<=SZ by decide),ah⟩
  | false =>
   rw[nE (fun z=>SP (nQ.mpr (sN.mpr (s1.mp z))))]at ah;exact gl rfl ⟨(show 0<=SZ by decide),(show 2<=SZ by decide),ah⟩
theorem mD:cL ["sheet","p","q","left","right","ring","is_turned","step","left_ring","right_ring"] ["sheet","p","q"] (b8 ue):=by walk_at "sc"
def Fm  : cw:=fun as k=>∃(sh:List a5)(p q:P3),as=[.val (.lst (sh.map a9)),.val (dP p),.val (dP q)]/\(cp 300 p)/\(cp 300 q)/\(∀s∈sh,∀c∈s.1,cp 300 c/\bL c)/\(∀s∈sh,s.1.length<=1000)/\(sh.length<=1000)/\k (.val (.tup [.lst ((eg (ln (crs p q)) (bv (crs p q)) sh).map a9),.lst ((eg (fun c => -ln (crs p q) c) (bv (crs p q)) sh).map a9)]))
theorem Qx(B:dc mg)(F:cW K mg "cut_sheet" ue ["sheet","p","q"])(yX:aZ P w K mg base "cut_ring" ["ring","p","q"] 5 (a0 K 3 yU)):
  aZ P w K mg base "cut_sheet" ["sheet","p","q"] 6 (a0 K 3 Fm):=by
 refine dE (lv:=5) F mD rfl (fun f cdv A outer s H E am=>⟨_,(aY (k9 (i:=3) mD.nd rfl (Ss rfl) (fK db)) (aY (k9 (i:=4) mD.nd rfl (Ss rfl) (fK db)) (aY (gy PassesOwn.never rfl (ed (v3 0)) (fA (n:=3) rfl (ce (bx (i:=5) mD.nd rfl (Ss rfl)) (ce (bx (i:=6) mD.nd rfl (Ss rfl)) (ce (bx (i:=7) mD.nd rfl (Ss rfl)) fy)))) (aY (jP (bK yX am (by rfl) (aS (v3 5) (aS (v3 1) (aS (v3 2) bD)))) (fA (n:=2) rfl (ce (bx (i:=8) mD.nd rfl (Ss rfl)) (ce (bx (i:=9) mD.nd rfl (Ss rfl)) fy)))) (aY (dU (ql (v3 8)) (br (md 3 (fg (bt (v3 8) (bt (v3 6) (bt (v3 7) db)))))) dS) (br (dU (ql (v3 9)) (br (md 4 (fg (bt (v3 9) (bt (v3 6) (bt (v3 7) db)))))) dS))))) (k7 4 (k7 3 (br (c2 (fg (bt (v3 3) (bt (v3 4) db)))))))))),?_⟩);rintro as k ay ⟨sh,p,q,rfl,bp,gb,ae,Qy,ay,ah⟩;refine dx (r:=[.val (.lst (sh.map a9)),.val (dP p),.val (dP q),.no,.no,.no,.no,.no,.no,.no]) rfl ?_;have f6:5000<=SZ:=by decide
 walk_at "wd";refine B0 (done:=[]) (fun pre ρ=>∃dv fT iB e0 i7,ρ=[.val (.lst (sh.map a9)),.val (dP p),.val (dP q),.own ((eg (ln (crs p q)) (bv (crs p q)) pre).map a9),.own ((eg (fun c => -ln (crs p q) c) (bv (crs p q)) pre).map a9),dv,fT,iB,e0,i7]) ⟨_,_,_,_,_,rfl⟩ ?_ ?_
 ·rintro pre x rest ρ dQ ⟨dv,fT,iB,e0,i7,rfl⟩ N aW;have dQ:sh=pre++x::rest:=by simpa using dQ
  have aj:x∈sh:=by rw[dQ];simp
  have dV:pre.length<1000:=by have:=Uf Th dQ;simp at this;lia
  have bC:=oO (f:=ln (crs p q)) (mt:=bv (crs p q)) pre;have cb:=oO (f:=fun c => -ln (crs p q) c) (mt:=bv (crs p q)) pre;refine⟨_,rfl,_,rfl,_,rfl,rfl,x.1,p,q,rfl,bp,gb,ae x aj,Qy x aj,?_⟩;refine⟨_,rfl,rfl,_,_,rfl,_,_,rfl,rfl,?_⟩;show k6 (rN (xo (dz 8)) (pL 3 (om (hS (dz 8) (hS (dz 6) (hS (dz 7) m6))))) pG) (rN (xo (dz 9)) (pL 4 (om (hS (dz 9) (hS (dz 6) (hS (dz 7) m6))))) pG) _ [.val (.lst (sh.map a9)),.val (dP p),.val (dP q),.own ((eg (ln (crs p q)) (bv (crs p q)) pre).map a9),.own ((eg (fun c => -ln (crs p q) c) (bv (crs p q)) pre).map a9),.val (.lst (x.1.map dP)),.val (.bl x.2.1),.val (dP x.2.2),.val (.lst ((dn (ln (crs p q)) (bv (crs p q)) x.1).map dP)),.val (.lst ((dn (fun c => -ln (crs p q) c) (bv (crs p q)) x.1).map dP))]
  refine gm (fun ρ=>ρ=[.val (.lst (sh.map a9)),.val (dP p),.val (dP q),.own ((eg (ln (crs p q)) (bv (crs p q)) (pre++[x])).map a9),.own ((eg (fun c => -ln (crs p q) c) (bv (crs p q)) pre).map a9),.val (.lst (x.1.map dP)),.val (.bl x.2.1),.val (dP x.2.2),.val (.lst ((dn (ln (crs p q)) (bv (crs p q)) x.1).map dP)),.val (.lst ((dn (fun c => -ln (crs p q) c) (bv (crs p q)) x.1).map dP))]) ?_ (fun N aW=>?_);rotate_left
  ·refine⟨_,rfl,_,rfl,?_⟩;cases c:(dn (ln (crs p q)) (bv (crs p q)) x.1).isEmpty with
   | false =>
    refine gk (by rw[Uw,c];rfl) ?_;refine⟨_,rfl,_,rfl,_,rfl,_,rfl,by show 3<=SZ;decide,by rw[Sz];lia,aW _ ?_⟩;rw[nD,sY c,S9];rfl
   | true =>
    refine gl (by rw[Uw,c];rfl) (aW _ ?_);rw[nD,sZ c,SG]
  rintro ρ rfl;refine⟨_,rfl,_,rfl,?_⟩;cases c:(dn (fun c => -ln (crs p q) c) (bv (crs p q)) x.1).isEmpty with
  | false =>
   refine gk (by rw[Uw,c];rfl) ?_;refine⟨_,rfl,_,rfl,_,rfl,_,rfl,by show 3<=SZ;decide,by rw[Sz];lia,aW _ ⟨.val (.lst (x.1.map dP)),.val (.bl x.2.1),.val (dP x.2.2),.val (.lst ((dn (ln (crs p q)) (bv (crs p q)) x.1).map dP)),.val (.lst ((dn (fun c => -ln (crs p q) c) (bv (crs p q)) x.1).map dP)),?_⟩⟩;rw[nD (f:=fun c => -ln (crs p q) c),sY c,S9 (l₂:=[(dn (fun c => -ln (crs p q) c) (bv (crs p q)) x.1,x.2)])];rfl
  | true =>
   refine gl (by rw[Uw,c];rfl) (aW _ ⟨.val (.lst (x.1.map dP)),.val (.bl x.2.1),.val (dP x.2.2),.val (.lst ((dn (ln (crs p q)) (bv (crs p q)) x.1).map dP)),.val (.lst ((dn (fun c => -ln (crs p q) c) (bv (crs p q)) x.1).map dP)),?_⟩);rw[nD (f:=fun c => -ln (crs p q) c),sZ c,SG]
 ·rintro ρ ⟨dv,fT,iB,e0,i7,rfl⟩;refine⟨_,rfl,_,rfl,?_⟩;exact⟨_,rfl,_,rfl,by show 2<=SZ;decide,ah⟩
theorem Qz:cL ["ring"] ["ring"] (b8 ub):=by walk_at "sc"
def Fn  : cw:=fun as k=>∃(ps:List P3),as=[.val (.lst (ps.map dP))]/\k (.val (a9 (ps,false,(0,0,1))))
theorem QA(B:dc mg)(F:cW K mg "fresh" ub ["ring"])  :
  aZ P w K mg base "fresh" ["ring"] 2 (a0 K 1 Fn):=by
 refine dE (lv:=1) F Qz rfl (fun f cdv A outer s H E am=>⟨_,(br (c2 (fg (bt (dX (AG (v3 0) (by rfl) B.list_)) (bt iP (bt (fg (bt aJ (bt aJ (bt aJ db)))) db)))))),?_⟩);rintro as k ay ⟨ps,rfl,ah⟩;refine dx (r:=[.val (.lst (ps.map dP))]) rfl ?_;exact⟨_,rfl,_,.inl rfl,show 3<=SZ by decide,show 3<=SZ by decide,ah⟩
theorem QB:cL ["ring"] ["ring"] (b8 ua):=by walk_at "sc"
def Fo  : cw:=fun as k=>∃(ps:List P3),as=[.val (.lst (ps.map dP))]/\(1<=ps.length)/\(ps.length<=1000)/\k (.own ((dG ps).map s3))
theorem QC(B:dc mg)(F:cW K mg "sides_of" ua ["ring"])  :
  aZ P w K mg base "sides_of" ["ring"] 2 (a0 K 1 Fo):=by
 refine dE (lv:=1) F QB rfl (fun f cdv A outer s H E am=>⟨_,(br (k8 (LB (v3 0) (dX (pK (dX (ow (v3 0) (mc aJ) mb)) (dX (ow (v3 0) mb (mc aJ))))) rfl (by rfl) B.list_ (by rfl) B.zip_))),?_⟩);rintro as k ay ⟨ps,rfl,cv,cN,ah⟩;refine dx (r:=[.val (.lst (ps.map dP))]) rfl ?_;have f6:1000<=SZ:=by decide
 have ag:cutL (ps.map dP) (some 1) none=(ps.drop 1).map dP:=by
  rw[r6 (by decide) (by rw[Sz];lia),<-UJ];rfl
 have ao:cutL (ps.map dP) none (some 1)=(ps.take 1).map dP:=by
  rw[A8 (by decide) (by rw[Sz];lia),<-VC];rfl
 refine⟨_,rfl,_,rfl,_,rfl,_,rfl,_,rfl,_,rfl,_,rfl,_,_,rfl,rfl,?_,_,_,rfl,rfl,?_⟩
 ·rw[ag,ao];simp only[Sz,TL,TJ];lia
 rw[ag,ao,<-S9,VX,SY];exact ah
theorem q1:cL ["one","other","ring","p","q"] ["one","other"] (b8 uf):=by walk_at "sc"
def Fp  : cw:=fun as k=>∃(ps bj:List P3)(gT:Int)(G:P3->Prop),as=[.val (.lst (ps.map dP)),.val (.lst (bj.map dP))]/\(kL 29 gT G)/\(cy ps)/\(cy bj)/\(hl 59 gT G ps)/\(hl 59 gT G bj)/\(ps.length<=8)/\(bj.length<=8)/\k (.val (Nf (cU ps (dG bj))))
theorem QD(B:dc mg)(F:cW K mg "common" uf ["one","other"])(QF:aZ P w K mg base "sides_of" ["ring"] 2 (a0 K 1 Fo))(yX:aZ P w K mg base "cut_ring" ["ring","p","q"] 5 (a0 K 3 yU)):
  aZ P w K mg base "common" ["one","other"] 6 (a0 K 2 Fp):=by
 refine dE (lv:=5) F q1 rfl (fun f cdv A outer s H E am=>⟨_,(aY (b' (i:=2) q1.nd rfl (Ss rfl) (v3 0)) (aY (gy PassesOwn.never rfl (ed (bK QF am (by rfl) (aS (v3 1) bD))) (fA (n:=2) rfl (ce (bx (i:=3) q1.nd rfl (Ss rfl)) (ce (bx (i:=4) q1.nd rfl (Ss rfl)) fy))) (aY (b' (i:=2) q1.nd rfl (Ss rfl) (bg (bK yX am (by rfl) (aS (v3 2) (aS (v3 3) (aS (v3 4) bD)))) aJ (fun _ _=>rfl))) (br (dU (jK (ql (v3 2))) (br (c2 oi)) dS)))) (br (c2 (v3 2))))),?_⟩);rintro as k ay ⟨ps,bj,gT,G,rfl,cZ,fL,jq,ir,hZ,QG,ab8,ah⟩;refine dx (r:=[.val (.lst (ps.map dP)),.val (.lst (bj.map dP)),.no,.no,.no]) rfl ?_;have f6:1000<=SZ:=by decide
 have cE:=jq.l;have fl:=xH bj;refine⟨_,rfl,?_⟩;dsimp only;refine gm (fun ρ=>∃(rs:List P3)(v3 cK:aI),ρ=[.val (.lst (ps.map dP)),.val (.lst (bj.map dP)),.val (.lst (rs.map dP)),v3,cK]/\cU ps (dG bj)=some rs) ?_ (fun N aW=>?_)
 ·rintro ρ ⟨rs,v3,cK,rfl,e⟩;rw[e]at ah;exact⟨_,rfl,ah⟩
 refine⟨_,rfl,rfl,bj,rfl,by lia,by lia,_,rfl,?_⟩;refine C8 (done:=[]) (fun pre ρ=>∃(rs:List P3)(v3 cK:aI)(rest:List (P3×P3)),ρ=[.val (.lst (ps.map dP)),.val (.lst (bj.map dP)),.val (.lst (rs.map dP)),v3,cK]/\dG bj=pre++rest/\cU ps (dG bj)=cU rs rest/\hl 59 gT G rs/\cy rs/\rs.length<=8+pre.length) ⟨ps,_,_,dG bj,rfl,rfl,rfl,ir,fL,by simpa using QG⟩ ?_ ?_
 ·rintro pre e q0 ρ dQ ⟨rs,v3,cK,rest,rfl,q2,tK,tL,Fq,qQ⟩ N aW;have dQ:dG bj=pre++e::q0:=by simpa[dG]using dQ
  have jy:rest=e::q0:=by rw[q2]at dQ;exact VZ dQ
  subst jy;have dV:pre.length<8:=by have:=Uf Th dQ;rw[fl,SE,SO]at this;lia
  have au:e∈bi bj:=(ix bj e).mp (by rw[dQ];simp);obtain⟨bF,bS⟩:=iq au;have dw:=(hZ.pts _ bF).1;have d4:=(hZ.pts _ bS).1;refine⟨_,rfl,_,rfl,_,rfl,rfl,rs,e.1,e.2,rfl,dw.bp.mono (by decide),d4.bp.mono (by decide),fun c hc=>⟨(tL.pts c hc).1.bp.mono (by decide),(tL.pts c hc).1.pt⟩,by lia,_,_,_,.inl rfl,rfl,rfl,?_⟩;refine⟨_,rfl,_,rfl,?_⟩;have QH:dn (ln (crs e.1 e.2)) (bv (crs e.1 e.2)) rs=f9 e rs:=rfl;rw[QH];cases c:(f9 e rs).isEmpty with
  | true =>
   refine gk (by rw[Uw,c];rfl) ?_;rw[tK,Ni c]at ah;exact ah
  | false =>
   refine gl (by rw[Uw,c];rfl) ?_;have jw:=Fq.cut c;obtain⟨g,eZ,iu,iv⟩:=hZ.lin e au;obtain⟨iH,l0,qJ,yy,e7⟩:=par (cZ.n g eZ) iu iv (jq.line au);have ao:=(oQ c).2;refine aW _ ⟨f9 e rs,.val (dP e.1),.val (dP e.2),q0,rfl,by rw[dQ];simp,by rw[tK,Nj c],?_,jw,?_⟩
   ·rw[ao];exact tL.cut cZ eZ qJ yy e7 e.1 (kH _ _) (by decide) _ (.inl rfl)
   ·have yz:(crs e.1 e.2).1≠0∨(crs e.1 e.2).2.1≠0:=xB (jq.p _ bF) (jq.p _ bS) (EX jq au);rw[ao]at jw ⊢;have:=xP (gU _) yz jw.t fun x aj=>(jw.p x aj).1;rw[SE,TM];lia
 ·rintro ρ ⟨rs,v3,cK,rest,rfl,q2,tK,tL,Fq,qQ⟩;have q2:dG bj=dG bj++rest:=q2
  have jy:rest=[]:=by
   have:=Uf Th q2;rw[SE]at this;exact Wm.mp (by lia)
  subst jy;exact aW _ ⟨rs,v3,cK,rfl,tK⟩
theorem tM:cL ["p","a","b","n"] ["p"] (b8 t6):=by walk_at "sc"
def tN  : cw:=fun as k=>∃(p:P3),as=[.val (dP p)]/\k (.val (dP (trn p)))
theorem QI(B:dc mg)(F:cW K mg "turned" t6 ["p"])  :
  aZ P w K mg base "turned" ["p"] 2 (a0 K 1 tN):=by
 refine dE (lv:=1) F tM rfl (fun f cdv A outer s H E am=>⟨_,(aY (jP (v3 0) (fA (n:=3) rfl (ce (bx (i:=1) tM.nd rfl (Ss rfl)) (ce (bx (i:=2) tM.nd rfl (Ss rfl)) (ce (bx (i:=3) tM.nd rfl (Ss rfl)) fy))))) (br (c2 (fg (bt (kx (v3 1)) (bt (kx (v3 2)) (bt (v3 3) db))))))),?_⟩);rintro as k ay ⟨p,rfl,ah⟩;refine dx (r:=[.val (dP p),.no,.no,.no]) rfl ?_;walk_at "w";refine⟨_,_,rfl,_,_,rfl,_,_,rfl,rfl,?_⟩;walk_at "w";exact ah
theorem j':cL ["p","step","a","b","n","right","up","parts","shared","x","y","divisor"] ["p","step"] (b8 t4):=by walk_at "sc"
def yY  : cw:=fun as k=>∃(p g:P3),as=[.val (dP p),.val (dP g)]/\(bL p)/\(cp 1000 p)/\(bL g)/\(cp 1000 g)/\k (.val (dP (nP (sld g p))))
theorem QJ(B:dc mg)(F:cW K mg "slid" t4 ["p","step"])(o7:aZ P w K mg base "greatest_divisor" ["one","other"] 2 (a0 K 2 yQ)):
  aZ P w K mg base "slid" ["p","step"] 3 (a0 K 2 yY):=by
 refine dE (lv:=2) F j' rfl (fun f cdv A outer s H E am=>⟨_,(aY (jP (v3 0) (fA (n:=3) rfl (ce (bx (i:=2) j'.nd rfl (Ss rfl)) (ce (bx (i:=3) j'.nd rfl (Ss rfl)) (ce (bx (i:=4) j'.nd rfl (Ss rfl)) fy))))) (aY (jP (v3 1) (fA (n:=3) rfl (ce (bx (i:=5) j'.nd rfl (Ss rfl)) (ce (bx (i:=6) j'.nd rfl (Ss rfl)) (ce (bx (i:=7) j'.nd rfl (Ss rfl)) fy))))) (aY (b' (i:=8) j'.nd rfl (Ss rfl) (bK o7 am (by rfl) (aS (v3 4) (aS (v3 7) bD)))) (aY (b' (i:=9) j'.nd rfl (Ss rfl) (gN (cY (v3 2) (hE (v3 7) (v3 8))) (cY (v3 5) (hE (v3 4) (v3 8))))) (aY (b' (i:=10) j'.nd rfl (Ss rfl) (gN (cY (v3 3) (hE (v3 7) (v3 8))) (cY (v3 6) (hE (v3 4) (v3 8))))) (aY (b' (i:=11) j'.nd rfl (Ss rfl) (bK o7 am (by rfl) (aS (bK o7 am (by rfl) (aS (v3 8) (aS (v3 9) bD))) (aS (v3 10) bD)))) (br (c2 (fg (bt (hE (v3 9) (v3 11)) (bt (hE (v3 10) (v3 11)) (bt (cY (hE (v3 4) (v3 8)) (hE (v3 7) (v3 11))) db)))))))))))),?_⟩);rintro as k ay ⟨p,g,rfl,tO,bp,Fs,jN,ah⟩;refine dx (r:=[.val (dP p),.val (dP g),.no,.no,.no,.no,.no,.no,.no,.no,.no,.no]) rfl ?_;obtain⟨a,b,n⟩:=p;obtain⟨r,w,m⟩:=g;have aa:TE a<=1000:=bp.a;have ab:TE b<=1000:=bp.b;have aQ:TE n<=1000:=bp.c;have bB:TE r<=1000:=jN.a;have ek:TE w<=1000:=jN.b;have fO:TE m<=1000:=jN.c;have cD:n≠0:=S1 tO.1;have cS:m≠0:=S1 Fs.1;have sp:=Ji (t:=n) (b:=m) cS;have dj:=wH (a:=n) (b:=m) cS fO;have cV:=fun X Y d=>LQ (a:=a) (b:=b) (n:=n) (r:=r) (w:=w) (m:=m) tO Fs (s:=((Sx n m:Nat):Int)) (X:=X) (Y:=Y) (d:=d) rfl;have ah:k (.val (dP (du (a*m+r*n) (b*m+w*n) (n*m)))):=ah;refine⟨_,rfl,_,rfl,rfl,_,_,rfl,_,_,rfl,_,_,rfl,rfl,?_⟩;refine⟨_,rfl,_,rfl,rfl,_,_,rfl,_,_,rfl,_,_,rfl,rfl,?_⟩;walk_at "w";refine⟨_,_,rfl,?_⟩;dsimp only[c8];generalize((Sx n m:Nat):Int)=s at *;have dw:TE (m.fdiv s)<=1000:=n' (X4 _ _) fO;have d4:TE (n.fdiv s)<=1000:=n' (X4 _ _) aQ;have tb:TE (a*m.fdiv s+r*n.fdiv s)<=2001:=W6 (UF aa dw) (UF bB d4);have bA:TE (b*m.fdiv s+w*n.fdiv s)<=2001:=W6 (UF ab dw) (UF ek d4);have cV:=fun d=>cV _ _ d rfl rfl;walk_at "w";refine⟨_,_,rfl,?_⟩;dsimp only[c8];walk_at "w";refine⟨_,_,rfl,?_⟩;dsimp only[c8];generalize a*m.fdiv s+r*n.fdiv s=X at *;generalize b*m.fdiv s+w*n.fdiv s=Y at *;have cV:=cV _ rfl;have c3:=so (a:=s) (b:=X) (.inl (S1 sp))
 have jB:TE ((Sx s X:Nat):Int)<=1000:=by
  rw[UW];exact wH (S1 sp) dj
 generalize((Sx s X:Nat):Int)=e at *;have dp:=so (a:=e) (b:=Y) (.inl (S1 c3))
 have Qn:TE ((Sx e Y:Nat):Int)<=1000:=by
  rw[UW];exact wH (S1 c3) jB
 generalize((Sx e Y:Nat):Int)=d at *;have jO:TE (m.fdiv d)<=1000:=n' (X4 _ _) fO;rw[<-cV]at ah;walk_at "w";exact ah
theorem QK:cL ["p","q"] ["p","q"] (b8 t5):=by walk_at "sc"
def Ft  : cw:=fun as k=>∃(p q:P3),as=[.val (dP p),.val (dP q)]/\(bL p)/\(cp 1000 p)/\(bL q)/\(cp 1000 q)/\k (.val (dP (nP (sld (trn p) q))))
theorem QL(B:dc mg)(F:cW K mg "step_to" t5 ["p","q"])(yZ:aZ P w K mg base "slid" ["p","step"] 3 (a0 K 2 yY))(o8:aZ P w K mg base "turned" ["p"] 2 (a0 K 1 tN)):
  aZ P w K mg base "step_to" ["p","q"] 4 (a0 K 2 Ft):=by
 refine dE (lv:=3) F QK rfl (fun f cdv A outer s H E am=>⟨_,(br (c2 (bK yZ am (by rfl) (aS (v3 1) (aS (bK o8 am (by rfl) (aS (v3 0) bD)) bD))))),?_⟩);rintro as k ay ⟨p,q,rfl,tO,bp,QM,gb,ah⟩;refine dx (r:=[.val (dP p),.val (dP q)]) rfl ?_;refine⟨_,rfl,_,rfl,rfl,p,rfl,?_⟩;exact⟨rfl,q,trn p,rfl,QM,gb,Ai tO,⟨Xe bp.a,Xe bp.b,bp.c⟩,ah⟩
theorem o9:cL ["piece","ring","is_turned","step","back","corners"] ["piece"] (b8 uc):=by walk_at "sc"
def Fu  : cw:=fun as k=>∃(s:a5),as=[.val (a9 s)]/\(s.1.length<=64)/\(∀p∈s.1,cq 1000 p)/\(cq 1000 s.2.2)/\k (.own ((su s).map dP))
theorem QN(B:dc mg)(F:cW K mg "first_ring" uc ["piece"])(o8:aZ P w K mg base "turned" ["p"] 2 (a0 K 1 tN))(yZ:aZ P w K mg base "slid" ["p","step"] 3 (a0 K 2 yY)):
  aZ P w K mg base "first_ring" ["piece"] 4 (a0 K 1 Fu):=by
 refine dE (lv:=3) F o9 rfl (fun f cdv A outer s H E am=>⟨_,(aY (jP (v3 0) (fA (n:=3) rfl (ce (bx (i:=1) o9.nd rfl (Ss rfl)) (ce (bx (i:=2) o9.nd rfl (Ss rfl)) (ce (bx (i:=3) o9.nd rfl (Ss rfl)) fy))))) (aY (b' (i:=4) o9.nd rfl (SF rfl) (bK o8 am (by rfl) (aS (v3 3) bD))) (aY (kD (i:=5) o9.nd rfl rfl (ts:=["corner"]) (fr:=["back"]) (js:=[4]) (ed (v3 1)) (fun _ _ _ _=>(bx (i:=0) (show SK (["corner","back"]:List Str) by decide +kernel) rfl (Ss rfl))) (fun _ _ _ _=>f3) (fun _ _ _ _=>(bK yZ am (by rfl) (aS (v3 0) (aS (v3 1) bD)))) ⟨rfl,by decide +kernel,rfl,by decide +kernel,fi (Tb.mpr ⟨rfl,(S3 _)⟩),fB rfl,by walk_at "ffr",rfl⟩) (aY (dU (hR (v3 2)) (k7 5 (br (k8 (jW (ts:=["corner"]) (fr:=[]) (js:=[]) (ed (v3 5)) (fun _ _ _ _=>(bx (i:=0) (show SK (["corner"]:List Str) by decide +kernel) rfl (Ss rfl))) (fun _ _ _ _=>f3) (fun _ _ _ _=>(bK o8 am (by rfl) (aS (v3 0) bD))) ⟨rfl,by decide +kernel,rfl,by decide +kernel,fi (S3 _),fB rfl,by walk_at "ffr",rfl⟩)))) dS) (br (rO 5)))))),?_⟩);rintro as k ay ⟨s,rfl,ay,cT,st,ah⟩;refine dx (r:=[.val (a9 s),.no,.no,.no,.no,.no]) rfl ?_;have f6:1000<=SZ:=by decide
 refine⟨_,rfl,_,rfl,rfl,_,_,rfl,_,_,rfl,_,_,rfl,rfl,?_⟩;refine⟨_,rfl,rfl,s.2.2,rfl,?_⟩;dsimp only[c8];refine⟨_,rfl,_,rfl,by rw[Sz];lia,?_⟩;refine iZ (f:=dP) (h:=fun p=>dP (nP (sld (trn s.2.2) p))) (fs:=[.val (dP (trn s.2.2))]) (fun r am eN qZ=>⟨_,rfl,_,rfl,rfl,r,trn s.2.2,rfl,(cT r am).pt,(cT r am).bp,st.pt.trn,st.bp.trn,qZ⟩) ?_;rw[BY (fun p=>nP (sld (trn s.2.2) p))];dsimp only;unfold su at ah;refine⟨_,rfl,_,rfl,?_⟩;cases ae:s.2.1 with
 | true =>
  rw[ae,TI rfl]at ah;rw[TI rfl];refine⟨_,rfl,_,rfl,_,rfl,by rw[Sz,Sz];lia,?_⟩;refine iZ (f:=dP) (h:=fun p=>dP (trn p)) (fs:=[]) (fun r am eN qZ=>⟨_,rfl,rfl,r,rfl,qZ⟩) ?_;rw[BY trn];exact ah
 | false =>
  rw[ae,TT SP]at ah;rw[TT SP];exact⟨_,rfl,ah⟩
theorem mE:cL ["ring","piece","other","is_turned","step","other_is_turned","other_step","onward","first"] ["ring","piece","other"] (b8 ug):=by walk_at "sc"
def Fv  : cw:=fun as k=>∃(F:List P3)(s o:a5),as=[.val (.lst (F.map dP)),.val (a9 s),.val (a9 o)]/\(3<=F.length)/\(F.length<=64)/\(∀c∈F,cq 90 c)/\(cq 6 s.2.2)/\(cq 6 o.2.2)/\k (.own ((kP F s o).map a9))
theorem QO(B:dc mg)(F:cW K mg "moves_of" ug ["ring","piece","other"])(QP:aZ P w K mg base "step_to" ["p","q"] 4 (a0 K 2 Ft))(o8:aZ P w K mg base "turned" ["p"] 2 (a0 K 1 tN))(QQ:aZ P w K mg base "first_ring" ["piece"] 4 (a0 K 1 Fu)):
  aZ P w K mg base "moves_of" ["ring","piece","other"] 5 (a0 K 3 Fv):=by
 refine dE (lv:=4) F mE rfl (fun f cdv A outer s H E am=>⟨_,(aY (jP (A9 (v3 1) (mc aJ) mb) (fA (n:=2) rfl (ce (bx (i:=3) mE.nd rfl (SF rfl)) (ce (bx (i:=4) mE.nd rfl (Ss rfl)) fy)))) (aY (jP (A9 (v3 2) (mc aJ) mb) (fA (n:=2) rfl (ce (bx (i:=5) mE.nd rfl (SF rfl)) (ce (bx (i:=6) mE.nd rfl (Ss rfl)) fy)))) (aY (b' (i:=7) mE.nd rfl (SF rfl) (bK QP am (by rfl) (aS (v3 6) (aS (v3 4) bD)))) (aY (dU (hR (v3 5)) (br (b' (i:=7) mE.nd rfl (SF rfl) (bK o8 am (by rfl) (aS (v3 7) bD)))) dS) (aY (b' (i:=8) mE.nd rfl (SF rfl) (bK QQ am (by rfl) (aS (fg (bt (v3 0) (bt (v3 3) (bt (v3 4) db)))) bD))) (br (k8 (No (ts:=["p","q"]) (fr:=["is_turned","other_is_turned","onward","first"]) (js:=[3,5,7,8]) (NP (dX (ow (v3 8) (mc aJ) mb)) (dX (ow (v3 8) (mc aJ) mb)) (by rfl) B.zip_) (fun _ _ _ _=>(fA (n:=2) rfl (ce (bx (i:=0) (show SK (["p","q","is_turned","other_is_turned","onward","first"]:List Str) by decide +kernel) rfl (Ss rfl)) (ce (bx (i:=1) (show SK (["p","q","is_turned","other_is_turned","onward","first"]:List Str) by decide +kernel) rfl (Ss rfl)) fy)))) (fun _ _ _ _=>f3) (fun _ _ _ _=>(fg (bt (dX (fK (bt (bg (v3 5) aJ (fun _ _=>rfl)) (bt (v3 0) (bt (v3 1) db))))) (bt (AS (am.units) (v3 2) (v3 3) (c1 _)) (bt (v3 4) db))))) ⟨rfl,by decide +kernel,rfl,by decide +kernel,fi (Tb.mpr ⟨rfl,(Tb.mpr ⟨rfl,(Tb.mpr ⟨rfl,(Tb.mpr ⟨rfl,(S3 _)⟩)⟩)⟩)⟩),fB rfl,by walk_at "ffr",rfl⟩)))))))),?_⟩);rintro as k ay ⟨F,s,o,rfl,f2,ay,dA,ak,aA,ah⟩;refine dx (r:=[.val (.lst (F.map dP)),.val (a9 s),.val (a9 o),.no,.no,.no,.no,.no,.no]) rfl ?_;have f6:1000<=SZ:=by decide
 have nd:∀a b c:D,¬(HT.sIx [a,b,c].length 0 (some 1)=0/\HT.sIx [a,b,c].length [a,b,c].length none=[a,b,c].length):=fun a b c z=>absurd z.1 (show ¬(1:Nat)=0 by decide);refine⟨_,rfl,1,rfl,_,rfl,nd _ _ _,?_⟩;refine⟨_,rfl,rfl,_,_,rfl,_,_,rfl,rfl,?_⟩;refine⟨_,rfl,1,rfl,_,rfl,nd _ _ _,?_⟩;refine⟨_,rfl,rfl,_,_,rfl,_,_,rfl,rfl,?_⟩;refine⟨_,rfl,_,rfl,rfl,o.2.2,s.2.2,rfl,aA.pt,aA.bp.mono (by decide),ak.pt,ak.bp.mono (by decide),?_⟩;dsimp only[c8];refine gm (fun ρ=>ρ=[.val (.lst (F.map dP)),.val (a9 s),.val (a9 o),.val (.bl s.2.1),.val (dP s.2.2),.val (.bl o.2.1),.val (dP o.2.2),.val (dP (jx s o)),.no]) ?_ (fun N aW=>?_);rotate_left
 ·refine⟨_,rfl,_,rfl,?_⟩;unfold jx at aW;cases ae:o.2.1 with
  | true =>
   rw[ae,TI rfl]at aW;refine gk rfl ⟨_,rfl,rfl,_,rfl,?_⟩;dsimp only[c8];exact aW _ rfl
  | false =>
   rw[ae,TT SP]at aW;exact gl rfl (aW _ rfl)
 rintro ρ rfl;have fl:(F.map (cQ s)).length=F.length:=Sz ..;refine⟨_,rfl,_,rfl,_,rfl,show 3<=SZ by decide,rfl,(F,s.2),rfl,ay,fun p aq=>(dA p aq).mono (by decide),ak.mono (by decide),?_⟩;dsimp only[c8];rw[PC];have ab9:∀z,cQ (F,s.2) z=cQ s z:=fun z=>rfl;rw[show(F.map (cQ (F,s.2)))=F.map (cQ s)from rfl];unfold kP j9 at ah;rw[SY,SY]at ah;have xG:3<=(F.map (cQ s)).length:=by rw[fl];exact f2
 have ab':(F.map (cQ s)).length<=64:=by rw[fl];exact ay
 generalize F.map (cQ s)=f at *;have ag:cutL (f.map dP) (some 1) none=(f.drop 1).map dP:=by rw[AE,r6 (by decide) (by lia)];rfl
 have ao:cutL (f.map dP) (some 2) none=(f.drop 2).map dP:=by rw[AE,r6 (by decide) (by lia)];rfl
 have be:(((f.drop 1).map dP).zip ((f.drop 2).map dP)).map (fun p=>D.tup [p.1,p.2])=((f.drop 1).zip (f.drop 2)).map s3:=by rw[VX,SY];rfl
 have eR:ea (f.map dP) 0=some (dP (f.headD (0,0,1))):=by
  cases f with
  | nil=>simp at xG
  | cons c r=>exact LG
 refine⟨_,rfl,1,rfl,_,rfl,_,rfl,2,rfl,_,rfl,_,_,rfl,rfl,?_⟩;rw[ag,ao,be];refine⟨by rw[Sz,TR,TL];lia,?_⟩;refine qP (f:=s3) (h:=(a9∘fun r=>(r,s.2.1 != o.2.1,jx s o))∘fun e=>[f.headD (0,0,1),e.1,e.2]) (I:=fun ρ=>∃a b,ρ=[a,b,.val (.bl s.2.1),.val (.bl o.2.1),.val (dP (jx s o)),.val (.lst (f.map dP))]) (fun e au ρ bP i ab=>?_) ⟨_,_,rfl⟩ ah;obtain⟨a,b,rfl⟩:=i;have jB:(if true=true then !eqD (.bl s.2.1) (.bl o.2.1)else eqD (.bl s.2.1) (.bl o.2.1))=(s.2.1 != o.2.1):=by rw[TI rfl];exact EM _ _
 refine⟨_,rfl,rfl,_,_,rfl,_,_,rfl,rfl,_,rfl,_,0,_,.inr rfl,rfl,eR,_,rfl,_,rfl,show 3<=SZ by decide,_,rfl,_,rfl,.B,rfl,rfl,by decide,_,rfl,show 3<=SZ by decide,?_⟩;rw[jB];exact ab _ ⟨_,_,rfl⟩
theorem h4:cL ["reaches","others","waiting","near","told","low","high","left","right","piece","other_low","other_high","other_left","other_right","other_piece"] ["reaches","others"] (b8 ul):=by walk_at "sc"
def g5(a b c d e:Nat):ec:=ot 5 (hG (d6 a) (hG (d6 b) (hG (d6 c) (hG (d6 d) (hG (d6 e) or)))))
def q3:cM:=rN (ol (hF (iO (fun i j=>D.bl (decide (i<j))) (dz 10) (dz 6))) (ol (hF (iO (fun i j=>D.bl (decide (i<j))) (dz 5) (dz 11))) (ol (hF (iO (fun i j=>D.bl (decide (i<j))) (dz 12) (dz 8))) (hF (iO (fun i j=>D.bl (decide (i<j))) (dz 7) (dz 13)))))) (pL 4 (om (hS (dz 9) (hS (dz 14) m6)))) pG
theorem y1{U:gw}{v0 v1 v2 v3:aI}(r:dq):∀(ns:List dq)(ts:List (dq×dq))(gR hI iC iD iE:aI),ts.length+ns.length<=5000 ->
  (∀gR hI iC iD iE,U.nx [v0,v1,v2,v3,.own (.l ((ts++(ns.filter (ov r)).map fun o=>(r,o)).map lJ)),.val (.int r.1),.val (.int r.2.1),.val (.int r.2.2.1),.val (.int r.2.2.2.1),.val r.2.2.2.2,gR,hI,iC,iD,iE]) ->
  eY (g5 10 11 12 13 14) q3 U (ns.map d5) [v0,v1,v2,v3,.own (.l (ts.map lJ)),.val (.int r.1),.val (.int r.2.1),.val (.int r.2.2.1),.val (.int r.2.2.2.1),.val r.2.2.2.2,gR,hI,iC,iD,iE]
 | [],ts,gR,hI,iC,iD,iE,_,h=>by
  have:=h gR hI iC iD iE;simpa[eY]using this
 | o::ns,ts,gR,hI,iC,iD,iE,ay,h=>by
  rw[SO]at ay;refine⟨_,rfl,rfl,_,_,rfl,_,_,rfl,_,_,rfl,_,_,rfl,_,_,rfl,rfl,?_⟩
  have go:∀c:Bool,c=ov r o->(if c=true then pL 4 (om (hS (dz 9) (hS (dz 14) m6)))else pG) { U with nx:=eY (g5 10 11 12 13 14) q3 U (ns.map d5),ct:=eY (g5 10 11 12 13 14) q3 U (ns.map d5),bk:=U.nx }
    [v0,v1,v2,v3,.own (.l (ts.map lJ)),.val (.int r.1),.val (.int r.2.1),.val (.int r.2.2.1),.val (.int r.2.2.2.1),.val r.2.2.2.2,.val (.int o.1),.val (.int o.2.1),.val (.int o.2.2.1),.val (.int o.2.2.2.1),.val o.2.2.2.2]:=fun c hc=>by
   cases c with
   | true =>
    rw[TI rfl];refine⟨_,rfl,_,rfl,_,rfl,show 2<=SZ by decide,?_,?_⟩
    ·rw[Sz,Vh];lia
    ·have:=y1 (U:=U) (v0:=v0) (v1:=v1) (v2:=v2) (v3:=v3) r ns (ts++[(r,o)]) (.val (.int o.1)) (.val (.int o.2.1)) (.val (.int o.2.2.1)) (.val (.int o.2.2.2.1)) (.val o.2.2.2.2) (by rw[SE,TM];lia) fun a b c d e=>by
      have:=h a b c d e;rw[TG,TI hc.symm,SV]at this;rw[SR];exact this
     rw[S9]at this;exact this
   | false =>
    rw[TT (by decide)];refine y1 r ns ts _ _ _ _ _ (by lia) fun a b c d e=>?_;have:=h a b c d e
    rwa [TG,TT (by rw[<-hc];decide)]at this
  refine⟨_,rfl,_,rfl,o.1,r.2.1,rfl,rfl,_,rfl,?_⟩;have q4:ov r o=(decide (o.1<r.2.1)&&(decide (r.1<o.2.1)&&(decide (o.2.2.1<r.2.2.2.1)&&decide (r.2.2.1<o.2.2.2.1)))):=rfl;cases aa:decide (o.1<r.2.1)with
  | false=>exact go false (by rw[q4,aa];rfl)
  | true =>
   refine⟨_,rfl,_,rfl,r.1,o.2.1,rfl,rfl,_,rfl,?_⟩;cases ab:decide (r.1<o.2.1)with
   | false=>exact go false (by rw[q4,aa,ab];rfl)
   | true =>
    refine⟨_,rfl,_,rfl,o.2.2.1,r.2.2.2.1,rfl,rfl,_,rfl,?_⟩;cases aQ:decide (o.2.2.1<r.2.2.2.1)with
    | false=>exact go false (by rw[q4,aa,ab,aQ];rfl)
    | true =>
     refine⟨_,rfl,_,rfl,r.2.2.1,o.2.2.2.1,rfl,rfl,_,rfl,?_⟩;cases bB:decide (r.2.2.1<o.2.2.2.1)with
     | false=>exact go false (by rw[q4,aa,ab,aQ,bB];rfl)
     | true=>exact go true (by rw[q4,aa,ab,aQ,bB];rfl)
def y2:c5:=ol (D3 2) (hF (iO (fun i j=>D.bl (decide (i<j))) (pD (Ax 2 (vI (k4 (D.int 1)))) (k4 (D.int 0))) (dz 6)))
theorem QR{U:gw}{v0 v1 cK dv:aI}{fb:List aI}(r:dq)(near aG:List dq)(ay:near.length+aG.length<64)(h:U.nx (v0::v1::.own (.l ((aG.dropWhile fun o=>decide (o.1<r.2.1)).reverse.map d5))::.own (.l ((near++aG.takeWhile fun o=>decide (o.1<r.2.1)).map d5))::cK::dv::.val (.int r.2.1)::fb)):
  rP y2 (tn 3 (tq 2)) U (v0::v1::.own (.l (aG.reverse.map d5))::.own (.l (near.map d5))::cK::dv::.val (.int r.2.1)::fb):=by
 refine⟨fun m ρ=>∃a b,aG=a++b/\(∀x∈a,decide (x.1<r.2.1)=true)/\m=b.length/\ρ=v0::v1::.own (.l (b.reverse.map d5))::.own (.l ((near++a).map d5))::cK::dv::.val (.int r.2.1)::fb,⟨_,[],aG,rfl,(fun x aj=>by cases aj),rfl,by rw[SG]⟩,?_⟩;rintro m ρ ⟨a,b,e,ax,rfl,rfl⟩;cases b with
 | nil =>
  refine⟨_,rfl,?_⟩;rw[SG]at e;subst e
  have cH:aG.takeWhile (fun o=>decide (o.1<r.2.1))=aG:=by
   have:=WM (l₂:=[]) ax;simpa using this
  have cn:aG.dropWhile (fun o=>decide (o.1<r.2.1))=[]:=by
   have:=WN (l₂:=[]) ax;simpa using this
  rw[cH,cn]at h;exact h
 | cons x b =>
  have jy:(x::b).reverse.map d5=b.reverse.map d5++[d5 x]:=by simp
  rw[jy];have ne:(!(b.reverse.map d5++[d5 x]).isEmpty)=true:=by simp
  refine⟨_,rfl,?_⟩;show(if(!(b.reverse.map d5++[d5 x]).isEmpty)=true then _ else _)
  rw[TI ne];refine⟨_,rfl,1,rfl,-1,d5 x,rfl,?_,_,0,.int x.1,.inl rfl,rfl,rfl,_,rfl,x.1,r.2.1,rfl,rfl,_,rfl,?_⟩
  ·have:=KS (rs:=b.reverse.map d5++[d5 x]) (i:=0) (by simp);simpa using this
  ·cases q:decide (x.1<r.2.1)with
   | true =>
    rw[TI rfl];refine⟨⟨_,rfl⟩,_,_,rfl,_,rfl,?_,b.length,by simp,a++[x],b,by simp[e],?_,rfl,?_⟩
    ·have:=Uf Th e;rw[SE,SO]at this;rw[Sz,SE,Vh];lia
    ·intro y aM;rcases SI.mp aM with z|z
     ·exact ax y z
     ·rw[S'.mp z];exact q
    ·rw[<-SR,S9 (l₁:=near++a)];rfl
   | false =>
    rw[TT (by decide)]
    have cH:aG.takeWhile (fun o=>decide (o.1<r.2.1))=a:=by
     rw[e,WM ax,List.takeWhile_cons,TT (by rw[q];decide),SG]
    have cn:aG.dropWhile (fun o=>decide (o.1<r.2.1))=x::b:=by
     rw[e,WN ax,WA,TT (by rw[q];decide)]
    rw[cH,cn,jy]at h;exact h
theorem y3{low:Int}:∀(ns:List dq)(v:aI)(k:List D->Prop),k ((ns.filter fun o=>decide (low<o.2.1)).map d5)->fP (d6 0) (hF (iO (fun i j=>D.bl (decide (j<i))) (pD (dz 0) (k4 (D.int 1))) (dz 1))) (dz 0) (ns.map d5) [v,.val (.int low)] k
 | [],_,_,h=>h
 | o::ns,v,k,h=>by
  refine⟨_,rfl,_,1,.int o.2.1,.inl rfl,rfl,rfl,_,rfl,o.2.1,low,rfl,rfl,_,rfl,?_⟩;cases q:decide (low<o.2.1)with
  | true =>
   rw[TI rfl];refine⟨_,rfl,y3 ns _ _ ?_⟩;rw[TG,TI q]at h;exact h
  | false =>
   rw[TT (by decide)];refine y3 ns _ _ ?_;rw[TG,TT (by rw[q];decide)]at h;exact h
def y4:cM:=tr 3 (k6 (rM 3 (nj (pH (dz 3)) (d6 0) (hF (iO (fun i j=>D.bl (decide (j<i))) (pD (dz 0) (k4 (D.int 1))) (dz 1))) (dz 0) 1 [5])) (k6 (rP y2 (tn 3 (tq 2))) (tr 3 (vT (pH (dz 3)) (g5 10 11 12 13 14) q3))))
theorem Fw{U:gw}{v0 v1:aI}:∀(bj near aG:List dq)(ts:List (dq×dq))(ka d3 dZ gs kC gn gR hI iC iD iE:aI),(ka=.own (.l (near.map d5))∨ka=.val (.lst (near.map d5)))->near.length+aG.length<64->ts.length+64*bj.length<=4900 ->
  (∀c ka d3 dZ gs kC gn gR hI iC iD iE,U.nx [v0,v1,c,ka,.own (.l ((ts++oX bj near aG).map lJ)),d3,dZ,gs,kC,gn,gR,hI,iC,iD,iE]) ->
  eY (g5 5 6 7 8 9) y4 U (bj.map d5) [v0,v1,.own (.l (aG.reverse.map d5)),ka,.own (.l (ts.map lJ)),d3,dZ,gs,kC,gn,gR,hI,iC,iD,iE]
 | [],near,aG,ts,ka,d3,dZ,gs,kC,gn,gR,hI,iC,iD,iE,_,_,_,h=>by
  have:=h (.own (.l (aG.reverse.map d5))) ka d3 dZ gs kC gn gR hI iC iD iE;simpa[eY,oX]using this
 | r::bj,near,aG,ts,ka,d3,dZ,gs,kC,gn,gR,hI,iC,iD,iE,aH,ay,aR,h=>by
  rw[SO]at aR;have bd:(near.filter fun o=>decide (r.1<o.2.1)).length<=near.length:=T' _ _
  have dr:(aG.takeWhile fun o=>decide (o.1<r.2.1)).length+(aG.dropWhile fun o=>decide (o.1<r.2.1)).length=aG.length:=by
   rw[<-SE,WB]
  have kO:(j5 r near aG).length+(aG.dropWhile fun o=>decide (o.1<r.2.1)).length<64:=by
   unfold j5;rw[SE];lia
  have fl:((j5 r near aG).filter (ov r)).length<=(j5 r near aG).length:=T' _ _;refine⟨_,rfl,rfl,_,_,rfl,_,_,rfl,_,_,rfl,_,_,rfl,_,_,rfl,rfl,?_⟩
  have main:∀w:aI,w=.val (.lst (near.map d5))->(k6 (rM 3 (nj (pH (dz 3)) (d6 0) (hF (iO (fun i j=>D.bl (decide (j<i))) (pD (dz 0) (k4 (D.int 1))) (dz 1))) (dz 0) 1 [5])) (k6 (rP y2 (tn 3 (tq 2))) (tr 3 (vT (pH (dz 3)) (g5 10 11 12 13 14) q3)))) { U with nx:=eY (g5 5 6 7 8 9) y4 U (bj.map d5),ct:=eY (g5 5 6 7 8 9) y4 U (bj.map d5),bk:=U.nx }
    [v0,v1,.own (.l (aG.reverse.map d5)),w,.own (.l (ts.map lJ)),.val (.int r.1),.val (.int r.2.1),.val (.int r.2.2.1),.val (.int r.2.2.2.1),.val r.2.2.2.2,gR,hI,iC,iD,iE]:=fun w hw=>by
   subst hw;refine⟨_,rfl,_,rfl,by rw[Sz,Vh];lia,y3 near _ _ ?_⟩;refine QR r _ aG (by lia) ?_;refine .inl ⟨_,rfl,_,rfl,_,rfl,?_⟩;refine y1 r (j5 r near aG) ts _ _ _ _ _ (by lia) fun a b c d e=>?_;refine Fw bj (j5 r near aG) (aG.dropWhile fun o=>decide (o.1<r.2.1)) _ _ _ _ _ _ _ _ _ _ _ _ (.inr rfl) kO (by rw[SE,Sz];lia) fun c ka jZ lw Fx Fy Fz FA FB FC FD FE=>?_;have:=h c ka jZ lw Fx Fy Fz FA FB FC FD FE;rw[oX,<-SR]at this;exact this
  rcases aH with rfl|rfl
  ·exact .inl ⟨_,rfl,main _ rfl⟩
  ·exact .inr ⟨⟨_,rfl⟩,main _ rfl⟩
def FF  : cw:=fun as k=>∃(rs os:List dq),as=[.val (.lst (rs.map d5)),.val (.lst (os.map d5))]/\(rs.length<64)/\(os.length<64)/\∀ts:List (dq×dq),ts.Perm (rs.flatMap fun r=>(os.filter (ov r)).map fun o=>(r,o))->k (.own (ts.map lJ))
theorem QT(B:dc mg)(L:tm K mg "met")(F:cW K mg "met" ul ["reaches","others"])  :
  aZ P w K mg base "met" ["reaches","others"] 2 (a0 K 2 FF):=by
 refine Op (lv:=1) F L h4 rfl (fun f cdv A outer s H E LT am=>⟨_,(aY (k9 (i:=2) h4.nd rfl (Ss rfl) (DU (x:="reach") (fr:=[]) (js:=[]) am (v3 1) (by rfl) B.sorted_ LT rfl rfl (DV rfl rfl rfl rfl rfl rfl (by decide) rfl rfl rfl) (by decide) (fun _ _ _ _=>rfl) (fun _ _ _ _=>(kx (bg (v3 0) aJ (fun _ _=>rfl)))))) (aY (k9 (i:=3) h4.nd rfl (Ss rfl) (fK db)) (aY (k9 (i:=4) h4.nd rfl (Ss rfl) (fK db)) (aY (gy PassesOwn.never rfl (ed (dX (DU (x:="reach") (fr:=[]) (js:=[]) am (v3 0) (by rfl) B.sorted_ LT rfl rfl (DV rfl rfl rfl rfl rfl rfl (by decide) rfl rfl rfl) (by decide) (fun _ _ _ _=>rfl) (fun _ _ _ _=>(bg (v3 0) aJ (fun _ _=>rfl)))))) (fA (n:=5) rfl (ce (bx (i:=5) h4.nd rfl (SF rfl)) (ce (bx (i:=6) h4.nd rfl (Ss rfl)) (ce (bx (i:=7) h4.nd rfl (Ss rfl)) (ce (bx (i:=8) h4.nd rfl (Ss rfl)) (ce (bx (i:=9) h4.nd rfl (Ss rfl)) fy)))))) (D4 3 (aY (kD (i:=3) h4.nd rfl rfl (ts:=["reach"]) (fr:=["low"]) (js:=[5]) (ed (v3 3)) (fun _ _ _ _=>(bx (i:=0) (show SK (["reach","low"]:List Str) by decide +kernel) rfl (Ss rfl))) (fun _ _ _ _=>(r3 (eB (f:=fun i j=>decide (j<i)) lU (bg (v3 0) aJ (fun _ _=>rfl)) (v3 1) (c1 _)))) (fun _ _ _ _=>(v3 0)) ⟨rfl,by decide +kernel,rfl,by decide +kernel,fi (Tb.mpr ⟨rfl,(S3 _)⟩),fB rfl,by walk_at "ffr",rfl⟩) (aY (vS PassesOwn.never (jL (w_and (OL 2) (rK (eB (f:=fun i j=>decide (i<j)) jb (bg (JD 2 (kx aJ) (fun _ _=>rfl)) aJ (fun _ _=>rfl)) (v3 6) (c1 _))))) (br (OJ 3 (OK 2)))) (D4 3 (br (gy PassesOwn.never rfl (ed (v3 3)) (fA (n:=5) rfl (ce (bx (i:=10) h4.nd rfl (Ss rfl)) (ce (bx (i:=11) h4.nd rfl (Ss rfl)) (ce (bx (i:=12) h4.nd rfl (Ss rfl)) (ce (bx (i:=13) h4.nd rfl (Ss rfl)) (ce (bx (i:=14) h4.nd rfl (Ss rfl)) fy)))))) (br (dU (jL (w_and (eB (f:=fun i j=>decide (i<j)) jb (v3 10) (v3 6) (c1 _)) (w_and (eB (f:=fun i j=>decide (i<j)) jb (v3 5) (v3 11) (c1 _)) (w_and (eB (f:=fun i j=>decide (i<j)) jb (v3 12) (v3 8) (c1 _)) (rK (eB (f:=fun i j=>decide (i<j)) jb (v3 7) (v3 13) (c1 _))))))) (br (md 4 (fg (bt (v3 9) (bt (v3 14) db))))) dS))))))))) (br (rO 4)))))),?_⟩);rintro as k ay ⟨rs,os,rfl,ay,aA,ah⟩;refine dx (r:=[.val (.lst (rs.map d5)),.val (.lst (os.map d5)),.no,.no,.no,.no,.no,.no,.no,.no,.no,.no,.no,.no,.no]) rfl ?_;have FG:∀r:dq,ea [D.int r.1,.int r.2.1,.int r.2.2.1,.int r.2.2.2.1,r.2.2.2.2] 0=some (.int r.1):=fun r=>rfl;refine⟨_,rfl,os.map d5,rfl,fun d=>(match d with|.tup (.int i::_) => -i|_=>0),by simpa using aA,(fun j bz=>by cases bz),(fun d hd=>?_),fun b7 cx cg=>?_⟩
 ·obtain⟨o,_,rfl⟩:=SJ.mp hd;exact⟨_,rfl,_,0,_,.inl rfl,rfl,FG o,o.1,rfl,rfl⟩
 obtain⟨vs,fY,rfl⟩:=qB cx rfl;refine⟨Ti _,Ti _,_,rfl,rs.map d5,rfl,fun d=>(match d with|.tup (.int i::_)=>i|_=>0),by simpa using ay,(fun j bz=>by cases bz),(fun d hd=>?_),fun di jp yp=>?_⟩
 ·obtain⟨o,_,rfl⟩:=SJ.mp hd;exact⟨_,rfl,_,0,_,.inl rfl,rfl,FG o,rfl⟩
 obtain⟨bj,sB,rfl⟩:=qB jp rfl;have jy:vs.map d5=vs.reverse.reverse.map d5:=by rw[List.reverse_reverse]
 rw[jy];have lv:=fY.length_eq;have hZ:=sB.length_eq;refine⟨_,rfl,Fw bj [] vs.reverse [] _ _ _ _ _ _ _ _ _ _ _ (.inl rfl) (by simp;lia) (by simp;lia) fun c ka jZ lw Fx Fy Fz FA FB FC FD FE=>⟨_,rfl,?_⟩⟩;refine ah _ ?_;rw[Tz];refine VT (D8 (all:=os) (gone:=[]) ?_ ?_ ?_ fun d hd=>by cases hd) (sB.flatMap_right _)
 ·rw[Va]at yp;exact yp
 ·rw[Va]at cg;rw[List.pairwise_reverse]
  exact cg.imp fun{a b} hU=>by
   have : -a.1 <= -b.1:=hU;lia
 ·rw[Tz,SG];exact(List.reverse_perm _).trans fY
theorem FH:cL ["sheets","most"] ["sheets"] (b8 uh):=by walk_at "sc"
def FI  : cw:=fun as k=>∃(sh bE:List a5),as=[.val (.lst [.lst (sh.map a9),.lst (bE.map a9)])]/\(sh.length+bE.length<=64)/\(∀s∈sh++bE,s.1≠[]/\s.1.length<=64/\∀c∈s.1,cq 90 c)/\(sh++bE≠[])/\∀m:Int,0<m->TE m<=90->(∀s∈sh++bE,∀c∈s.1,c.2.2<=m)->k (.val (.int (m*m)))
theorem QU(B:dc mg)(F:cW K mg "scale_of" uh ["sheets"])  :
  aZ P w K mg base "scale_of" ["sheets"] 2 (a0 K 1 FI):=by
 refine dE (lv:=1) F FH rfl (fun f cdv A outer s H E am=>⟨_,(aY (b' (i:=1) FH.nd rfl (Ss rfl) (qw (dX (O9 (ts:=["sheet","ring","is_turned","step","corner"]) (fr:=[]) (js:=[]) (ed (v3 0)) (fun _ _ _ _=>(bx (i:=0) (show SK (["sheet","ring","is_turned","step","corner"]:List Str) by decide +kernel) rfl (Ss rfl))) (fun _ _ _ _=>f3) (fun _ _ _ _=>(ed (v3 0))) (fun _ _ _ _=>(fA (n:=3) rfl (ce (bx (i:=1) (show SK (["sheet","ring","is_turned","step","corner"]:List Str) by decide +kernel) rfl (Ss rfl)) (ce (bx (i:=2) (show SK (["sheet","ring","is_turned","step","corner"]:List Str) by decide +kernel) rfl (Ss rfl)) (ce (bx (i:=3) (show SK (["sheet","ring","is_turned","step","corner"]:List Str) by decide +kernel) rfl (Ss rfl)) fy))))) (fun _ _ _ _=>f3) (fun _ _ _ _=>(ed (v3 1))) (fun _ _ _ _=>(bx (i:=4) (show SK (["sheet","ring","is_turned","step","corner"]:List Str) by decide +kernel) rfl (Ss rfl))) (fun _ _ _ _=>f3) (fun _ _ _ _=>(bg (v3 4) aJ (fun _ _=>rfl))) ⟨rfl,by decide +kernel,rfl,by decide +kernel,fi (S3 _),fB rfl,by walk_at "ffr",rfl⟩)) rfl (by rfl) B.max_)) (br (c2 (cY (v3 1) (v3 1))))),?_⟩);rintro as k ay ⟨sh,bE,rfl,ay,ak,ne,ah⟩;refine dx (r:=[.val (.lst [.lst (sh.map a9),.lst (bE.map a9)]),.no]) rfl ?_;have f6:5000<=SZ:=by decide
 let aa:a5->List D:=fun s=>s.1.map fun c=>D.int c.2.2
 have bZ:((sh++bE).flatMap aa).length<=64*(sh++bE).length:=o1 fun s z=>by show(s.1.map _).length<=64;rw[Sz];exact(ak s z).2.1
 rw[SE]at bZ;have ao:([sh,bE].flatMap fun L:List a5=>L.flatMap aa)=(sh++bE).flatMap aa:=by simp[TV,WO]
 refine⟨_,rfl,_,rfl,?_⟩;refine tz (xs:=[sh,bE]) (f:=fun L=>.lst (L.map a9)) (h:=fun L=>L.flatMap aa) (I:=I5) (n:=0) (L:=4096) (fun L _ n ρ k i aH ah=>?_) ⟨_,_,_,_,_,rfl⟩ (by rw[ao];lia) (fun bf _=>?_)
 ·obtain⟨a,b,c,d,e,rfl⟩:=i;refine⟨_,rfl,_,rfl,?_⟩;refine tz (f:=a9) (h:=aa) (I:=I5) (L:=4096) (fun s _ n ρ k i aH ah=>?_) ⟨_,_,_,_,_,rfl⟩ aH ah;obtain⟨a,b,c,d,e,rfl⟩:=i;refine⟨_,rfl,rfl,_,_,rfl,_,_,rfl,_,_,rfl,rfl,?_⟩;refine⟨_,rfl,_,rfl,?_⟩;have be:(s.1.flatMap fun c=>[D.int c.2.2])=aa s:=by show _=s.1.map _;rw[List.map_eq_flatMap]
  refine tz (f:=dP) (h:=fun c:P3=>[D.int c.2.2]) (I:=I5) (L:=4096) (fun c _ n ρ k i aH ah=>?_) ⟨_,_,_,_,_,rfl⟩ (by rw[be];exact aH) (fun bf i=>by rw[be];exact ah bf i);obtain⟨a,b,cu,d,e,rfl⟩:=i;have aH:n+1<=4096:=aH;exact⟨by lia,_,rfl,_,2,.int c.2.2,.inl rfl,rfl,rfl,ah _ ⟨_,_,_,_,_,rfl⟩⟩
 rw[ao]
 have ci:(sh++bE).flatMap aa=((sh++bE).flatMap fun s=>s.1.map fun c:P3=>c.2.2).map D.int:=by
  rw[WH];congr 1;funext s;show s.1.map _=_
  rw[SY];rfl
 refine⟨_,by rw[ci],?_,fun m aB aj=>?_⟩
 ·intro z;cases q:sh++bE with
  | nil=>exact ne q
  | cons s r =>
   rw[q]at z ak;obtain⟨cv,_⟩:=ak s Sv;rw[TV]at z;exact cv (U'.mp (List.append_eq_nil_iff.mp z).1)
 obtain⟨s,aP,bc⟩:=Uv.mp aB;obtain⟨c,e5,rfl⟩:=SJ.mp bc;have g:=(ak s aP).2.2 c e5;have tP:TE c.2.2<=9000:=SA g.bp.c (by decide);exact⟨_,rfl,_,rfl,_,_,rfl,rfl,⟨tP,tP⟩,ah c.2.2 g.pt.1 g.bp.c fun s' dN cu fZ=>aj _ (Uv.mpr ⟨s',dN,SJ.mpr ⟨cu,fZ,rfl⟩⟩)⟩
theorem y5:cL ["piece","scale","heights","places"] ["piece","scale"] (b8 ui):=by walk_at "sc"
def FJ  : cw:=fun as k=>∃(s:a5)(S:Int),as=[.val (a9 s),.val (.int S)]/\(s.1.length<=64)/\(s.1≠[])/\(∀c∈s.1,cq 90 c)/\(TE S<=180)/\k (.val (d5 (rc S s)))
theorem QV(B:dc mg)(F:cW K mg "reach_of" ui ["piece","scale"])  :
  aZ P w K mg base "reach_of" ["piece","scale"] 2 (a0 K 2 FJ):=by
 refine dE (lv:=1) F y5 rfl (fun f cdv A outer s H E am=>⟨_,(aY (kD (i:=2) y5.nd rfl rfl (ts:=["a","b","n"]) (fr:=["scale"]) (js:=[1]) (ed (bg (v3 0) aJ (fun _ _=>rfl))) (fun _ _ _ _=>(fA (n:=3) rfl (ce (bx (i:=0) (show SK (["a","b","n","scale"]:List Str) by decide +kernel) rfl (Ss rfl)) (ce (bx (i:=1) (show SK (["a","b","n","scale"]:List Str) by decide +kernel) rfl (Ss rfl)) (ce (bx (i:=2) (show SK (["a","b","n","scale"]:List Str) by decide +kernel) rfl (Ss rfl)) fy))))) (fun _ _ _ _=>f3) (fun _ _ _ _=>(hE (cY (v3 1) (v3 3)) (v3 2))) ⟨rfl,by decide +kernel,rfl,by decide +kernel,fi (Tb.mpr ⟨rfl,(S3 _)⟩),fB rfl,by walk_at "ffr",rfl⟩) (aY (kD (i:=3) y5.nd rfl rfl (ts:=["a","b","n"]) (fr:=["scale"]) (js:=[1]) (ed (bg (v3 0) aJ (fun _ _=>rfl))) (fun _ _ _ _=>(fA (n:=3) rfl (ce (bx (i:=0) (show SK (["a","b","n","scale"]:List Str) by decide +kernel) rfl (Ss rfl)) (ce (bx (i:=1) (show SK (["a","b","n","scale"]:List Str) by decide +kernel) rfl (Ss rfl)) (ce (bx (i:=2) (show SK (["a","b","n","scale"]:List Str) by decide +kernel) rfl (Ss rfl)) fy))))) (fun _ _ _ _=>f3) (fun _ _ _ _=>(hE (cY (v3 0) (v3 3)) (v3 2))) ⟨rfl,by decide +kernel,rfl,by decide +kernel,fi (Tb.mpr ⟨rfl,(S3 _)⟩),fB rfl,by walk_at "ffr",rfl⟩) (k7 3 (k7 2 (br (c2 (fg (bt (td (v3 2) rfl (by rfl) B.min_) (bt (qw (v3 2) rfl (by rfl) B.max_) (bt (td (v3 3) rfl (by rfl) B.min_) (bt (qw (v3 3) rfl (by rfl) B.max_) (bt (v3 0) db)))))))))))),?_⟩);rintro as k ay ⟨s,S,rfl,ay,ne,ak,ae,ah⟩;refine dx (r:=[.val (a9 s),.val (.int S),.no,.no]) rfl ?_;have f6:5000<=SZ:=by decide
 have tP:TE S<=9000:=SA ae (by decide);have ln:(s.1.map dP).length<=SZ:=by rw[Sz];lia
 have st:∀(sel:P3->Int)(c:P3),c∈s.1->TE (sel c)<=90->rz (sel c) S/\mX (sel c*S) c.2.2:=fun sel c hc h=>⟨⟨SA h (by decide),tP⟩,S1 (ak c hc).pt.1,SA (ak c hc).bp.c (by decide)⟩;obtain⟨h1,cS⟩:=UM _ ne;have lM:∀f:P3->Int,(s.1.map f)≠[]:=fun f z=>ne (U'.mp z);refine⟨_,rfl,_,0,_,.inl rfl,rfl,rfl,_,rfl,ln,?_⟩;refine qP (f:=dP) (h:=fun c=>.int (jr S c)) (I:=fun ρ=>∃a b c,ρ=[a,b,c,.val (.int S)]) (fun c hc ρ bP i ab=>?_) ⟨_,_,_,rfl⟩ ?_
 ·obtain⟨a,b,d,rfl⟩:=i;obtain⟨aN,a3⟩:=st (fun c=>c.2.1) c hc (ak c hc).bp.b;exact⟨_,rfl,rfl,_,_,rfl,_,_,rfl,_,_,rfl,rfl,_,rfl,_,rfl,_,_,rfl,rfl,aN,_,rfl,_,_,rfl,rfl,a3,ab _ ⟨_,_,_,rfl⟩⟩
 refine⟨_,rfl,_,0,_,.inl rfl,rfl,rfl,_,rfl,ln,?_⟩;refine qP (f:=dP) (h:=fun c=>.int (jt S c)) (I:=fun ρ=>∃a b c,ρ=[a,b,c,.val (.int S)]) (fun c hc ρ bP i ab=>?_) ⟨_,_,_,rfl⟩ ?_
 ·obtain⟨a,b,d,rfl⟩:=i;obtain⟨aN,a3⟩:=st (fun c=>c.1) c hc (ak c hc).bp.a;exact⟨_,rfl,rfl,_,_,rfl,_,_,rfl,_,_,rfl,rfl,_,rfl,_,rfl,_,_,rfl,rfl,aN,_,rfl,_,_,rfl,rfl,a3,ab _ ⟨_,_,_,rfl⟩⟩
 refine⟨_,rfl,_,rfl,?_⟩;have em:∀f:P3->Int,(s.1.map fun c=>D.int (f c))=(s.1.map f).map D.int:=fun f=>by rw[SY];rfl
 refine⟨_,rfl,s.1.map (jr S),Uf D.lst (em _),lM _,fun bF c6 bZ=>?_⟩;refine⟨_,rfl,s.1.map (jr S),Uf D.lst (em _),lM _,fun bS dt b0=>?_⟩;refine⟨_,rfl,s.1.map (jt S),Uf D.lst (em _),lM _,fun fJ hJ f2=>?_⟩;refine⟨_,rfl,s.1.map (jt S),Uf D.lst (em _),lM _,fun nt il QW=>?_⟩;refine⟨_,rfl,show 5<=SZ by decide,?_⟩
 have e:rc S s=(bF,bS,fJ,nt,a9 s):=by
  unfold rc;rw[EB c6 bZ,EC dt b0,EB hJ f2,EC il QW]
 rw[e]at ah;exact ah
theorem q5:cL ["reaches","heights","widths","height","width"] ["reaches"] (b8 uj):=by walk_at "sc"
def FK  : cw:=fun as k=>∃(rs:List dq),as=[.val (.lst (rs.map d5))]/\(rs.length<=64)/\(rs≠[])/\(∀r∈rs,TE r.1<=400/\TE r.2.1<=400/\TE r.2.2.1<=400/\TE r.2.2.2.1<=400)/\∀b:Bool,k (.val (.bl b))
theorem QX(B:dc mg)(F:cW K mg "is_crowded" uj ["reaches"])  :
  aZ P w K mg base "is_crowded" ["reaches"] 2 (a0 K 1 FK):=by
 refine dE (lv:=1) F q5 rfl (fun f cdv A outer s H E am=>⟨_,(aY (b' (i:=1) q5.nd rfl (Ss rfl) (AH (dX (jW (ts:=["reach"]) (fr:=[]) (js:=[]) (ed (v3 0)) (fun _ _ _ _=>(bx (i:=0) (show SK (["reach"]:List Str) by decide +kernel) rfl (Ss rfl))) (fun _ _ _ _=>f3) (fun _ _ _ _=>(ha (bg (v3 0) aJ (fun _ _=>rfl)) (bg (v3 0) aJ (fun _ _=>rfl)))) ⟨rfl,by decide +kernel,rfl,by decide +kernel,fi (S3 _),fB rfl,by walk_at "ffr",rfl⟩)) rfl (by rfl) B.sum_)) (aY (b' (i:=2) q5.nd rfl (Ss rfl) (AH (dX (jW (ts:=["reach"]) (fr:=[]) (js:=[]) (ed (v3 0)) (fun _ _ _ _=>(bx (i:=0) (show SK (["reach"]:List Str) by decide +kernel) rfl (Ss rfl))) (fun _ _ _ _=>f3) (fun _ _ _ _=>(ha (bg (v3 0) aJ (fun _ _=>rfl)) (bg (v3 0) aJ (fun _ _=>rfl)))) ⟨rfl,by decide +kernel,rfl,by decide +kernel,fi (S3 _),fB rfl,by walk_at "ffr",rfl⟩)) rfl (by rfl) B.sum_)) (aY (b' (i:=3) q5.nd rfl (Ss rfl) (ha (qw (dX (jW (ts:=["reach"]) (fr:=[]) (js:=[]) (ed (v3 0)) (fun _ _ _ _=>(bx (i:=0) (show SK (["reach"]:List Str) by decide +kernel) rfl (Ss rfl))) (fun _ _ _ _=>f3) (fun _ _ _ _=>(bg (v3 0) aJ (fun _ _=>rfl))) ⟨rfl,by decide +kernel,rfl,by decide +kernel,fi (S3 _),fB rfl,by walk_at "ffr",rfl⟩)) rfl (by rfl) B.max_) (td (dX (jW (ts:=["reach"]) (fr:=[]) (js:=[]) (ed (v3 0)) (fun _ _ _ _=>(bx (i:=0) (show SK (["reach"]:List Str) by decide +kernel) rfl (Ss rfl))) (fun _ _ _ _=>f3) (fun _ _ _ _=>(bg (v3 0) aJ (fun _ _=>rfl))) ⟨rfl,by decide +kernel,rfl,by decide +kernel,fi (S3 _),fB rfl,by walk_at "ffr",rfl⟩)) rfl (by rfl) B.min_))) (aY (b' (i:=4) q5.nd rfl (Ss rfl) (ha (qw (dX (jW (ts:=["reach"]) (fr:=[]) (js:=[]) (ed (v3 0)) (fun _ _ _ _=>(bx (i:=0) (show SK (["reach"]:List Str) by decide +kernel) rfl (Ss rfl))) (fun _ _ _ _=>f3) (fun _ _ _ _=>(bg (v3 0) aJ (fun _ _=>rfl))) ⟨rfl,by decide +kernel,rfl,by decide +kernel,fi (S3 _),fB rfl,by walk_at "ffr",rfl⟩)) rfl (by rfl) B.max_) (td (dX (jW (ts:=["reach"]) (fr:=[]) (js:=[]) (ed (v3 0)) (fun _ _ _ _=>(bx (i:=0) (show SK (["reach"]:List Str) by decide +kernel) rfl (Ss rfl))) (fun _ _ _ _=>f3) (fun _ _ _ _=>(bg (v3 0) aJ (fun _ _=>rfl))) ⟨rfl,by decide +kernel,rfl,by decide +kernel,fi (S3 _),fB rfl,by walk_at "ffr",rfl⟩)) rfl (by rfl) B.min_))) (br (c2 (oj (f:=fun i j=>decide (j<i)) lU (cY (v3 1) (v3 4)) (cY (v3 2) (v3 3)) (c1 _)))))))),?_⟩);rintro as k ay ⟨rs,rfl,ay,ne,ak,ah⟩;refine dx (r:=[.val (.lst (rs.map d5)),.no,.no,.no,.no]) rfl ?_;have f6:5000<=SZ:=by decide
 have ln:(rs.map d5).length<=SZ:=by rw[Sz];lia
 have lM:∀f:dq->Int,(rs.map f)≠[]:=fun f z=>ne (U'.mp z);have em:∀f:dq->Int,(rs.map fun c=>D.int (f c))=(rs.map f).map D.int:=fun f=>by rw[SY];rfl
 have dj:∀f g:dq->Int,(∀r∈rs,TE (f r)<=400/\TE (g r)<=400)->TE (rs.map fun r=>f r-g r).sum<=9000:=fun f g h=>by
  refine SA (EA (b:=401) (by decide) fun n aH=>?_) (by rw[Sz];lia);obtain⟨r,am,rfl⟩:=SJ.mp aH;exact SA (Xp (h r am).1 (h r am).2) (by decide)
 have x6:∀{f g:dq->Int},(∀r∈rs,TE (f r)<=400/\TE (g r)<=400)->∀{m n:Int},m∈rs.map f->n∈rs.map g->TE (m-n)<=9000:=fun{f g} h {m n} aB aH=>by
  obtain⟨r,am,rfl⟩:=SJ.mp aB;obtain⟨t,aR,rfl⟩:=SJ.mp aH;exact SA (Xp (h r am).1 (h t aR).2) (by decide)
 have FL:∀r∈rs,TE r.2.1<=400/\TE r.1<=400:=fun r am=>⟨(ak r am).2.1,(ak r am).1⟩;have FM:∀r∈rs,TE r.2.2.2.1<=400/\TE r.2.2.1<=400:=fun r am=>⟨(ak r am).2.2.2,(ak r am).2.2.1⟩;refine⟨_,rfl,_,rfl,ln,?_⟩;refine iZ (f:=d5) (h:=fun r=>.int (r.2.1-r.1)) (fun r _ k ah=>⟨_,rfl,_,1,_,.inl rfl,rfl,rfl,_,rfl,_,0,_,.inl rfl,rfl,rfl,_,_,rfl,rfl,ah⟩) ?_;refine⟨_,Uf D.lst (em fun r=>r.2.1-r.1),?_⟩;refine⟨_,rfl,_,rfl,ln,?_⟩;refine iZ (f:=d5) (h:=fun r=>.int (r.2.2.2.1-r.2.2.1)) (fun r _ k ah=>⟨_,rfl,_,3,_,.inl rfl,rfl,rfl,_,rfl,_,2,_,.inl rfl,rfl,rfl,_,_,rfl,rfl,ah⟩) ?_;refine⟨_,Uf D.lst (em fun r=>r.2.2.2.1-r.2.2.1),?_⟩;have aE:=dj (fun r=>r.2.1) (fun r=>r.1) FL;have a4:=dj (fun r=>r.2.2.2.1) (fun r=>r.2.2.1) FM;refine⟨_,rfl,_,rfl,ln,?_⟩;refine iZ (f:=d5) (h:=fun r=>.int r.2.1) (fun r _ k ah=>⟨_,rfl,_,1,_,.inl rfl,rfl,rfl,ah⟩) ?_;refine⟨_,Uf D.lst (em fun r=>r.2.1),lM _,fun bF c6 _=>?_⟩;refine⟨_,rfl,_,rfl,ln,?_⟩;refine iZ (f:=d5) (h:=fun r=>.int r.1) (fun r _ k ah=>⟨_,rfl,_,0,_,.inl rfl,rfl,rfl,ah⟩) ?_;refine⟨_,Uf D.lst (em fun r=>r.1),lM _,fun bS dt _=>?_⟩;refine⟨_,_,rfl,rfl,?_⟩;refine⟨_,rfl,_,rfl,ln,?_⟩;refine iZ (f:=d5) (h:=fun r=>.int r.2.2.2.1) (fun r _ k ah=>⟨_,rfl,_,3,_,.inl rfl,rfl,rfl,ah⟩) ?_;refine⟨_,Uf D.lst (em fun r=>r.2.2.2.1),lM _,fun fJ hJ _=>?_⟩;refine⟨_,rfl,_,rfl,ln,?_⟩;refine iZ (f:=d5) (h:=fun r=>.int r.2.2.1) (fun r _ k ah=>⟨_,rfl,_,2,_,.inl rfl,rfl,rfl,ah⟩) ?_;refine⟨_,Uf D.lst (em fun r=>r.2.2.1),lM _,fun nt il _=>?_⟩;refine⟨_,_,rfl,rfl,?_⟩;exact⟨_,rfl,_,rfl,_,_,rfl,rfl,⟨aE,x6 FM hJ il⟩,_,rfl,_,rfl,_,_,rfl,rfl,⟨a4,x6 FL c6 dt⟩,_,_,rfl,rfl,ah _⟩
theorem QY:cL ["reaches"] ["reaches"] (b8 uk):=by walk_at "sc"
def FN  : cw:=fun as k=>∃(rs:List dq),as=[.val (.lst (rs.map d5))]/\(rs.length<=64)/\k (.own ((rs.map o2).map d5))
theorem QZ(B:dc mg)(F:cW K mg "seen_aside" uk ["reaches"])  :
  aZ P w K mg base "seen_aside" ["reaches"] 2 (a0 K 1 FN):=by
 refine dE (lv:=1) F QY rfl (fun f cdv A outer s H E am=>⟨_,(br (k8 (jW (ts:=["low","high","left","right","piece"]) (fr:=[]) (js:=[]) (ed (v3 0)) (fun _ _ _ _=>(fA (n:=5) rfl (ce (bx (i:=0) (show SK (["low","high","left","right","piece"]:List Str) by decide +kernel) rfl (Ss rfl)) (ce (bx (i:=1) (show SK (["low","high","left","right","piece"]:List Str) by decide +kernel) rfl (Ss rfl)) (ce (bx (i:=2) (show SK (["low","high","left","right","piece"]:List Str) by decide +kernel) rfl (Ss rfl)) (ce (bx (i:=3) (show SK (["low","high","left","right","piece"]:List Str) by decide +kernel) rfl (Ss rfl)) (ce (bx (i:=4) (show SK (["low","high","left","right","piece"]:List Str) by decide +kernel) rfl (Ss rfl)) fy))))))) (fun _ _ _ _=>f3) (fun _ _ _ _=>(fg (bt (v3 2) (bt (v3 3) (bt (v3 0) (bt (v3 1) (bt (v3 4) db))))))) ⟨rfl,by decide +kernel,rfl,by decide +kernel,fi (S3 _),fB rfl,by walk_at "ffr",rfl⟩))),?_⟩);rintro as k ay ⟨rs,rfl,ay,ah⟩;refine dx (r:=[.val (.lst (rs.map d5))]) rfl ?_;refine⟨_,rfl,_,rfl,by rw[Sz,Vh];lia,?_⟩;refine qP (f:=d5) (h:=fun r=>d5 (o2 r)) (I:=I5) (fun r am ρ bP i ab=>?_) ⟨_,_,_,_,_,rfl⟩ (by rw[SY]at ah;exact ah);obtain⟨a,b,c,d,e,rfl⟩:=i;exact⟨_,rfl,rfl,_,_,rfl,_,_,rfl,_,_,rfl,_,_,rfl,_,_,rfl,rfl,_,rfl,_,rfl,_,rfl,_,rfl,_,rfl,show 5<=SZ by decide,ab _ ⟨_,_,_,_,_,rfl⟩⟩
theorem tQ:cL ["sheet","other","scale","reaches","others"] ["sheet","other"] (b8 um):=by walk_at "sc"
def FO  : cw:=fun as k=>∃(sh bE:List a5),as=[.val (.lst (sh.map a9)),.val (.lst (bE.map a9))]/\(sh.length<=30)/\(bE.length<=30)/\(∀s∈sh++bE,cy s.1/\s.1.length<=64/\∀c∈s.1,cq 90 c)/\∀(f:a5->a5->Bool)(ps:List (a5×a5)),ps.Perm (fm f sh bE)->(∀s∈sh,∀o∈bE,f s o=false->cU s.1 (dG o.1)=none)->k (.own (ps.map yn))
theorem Q0(B:dc mg)(F:cW K mg "facing" um ["sheet","other"])(Q1:aZ P w K mg base "scale_of" ["sheets"] 2 (a0 K 1 FI))(FP:aZ P w K mg base "reach_of" ["piece","scale"] 2 (a0 K 2 FJ))(Q2:aZ P w K mg base "is_crowded" ["reaches"] 2 (a0 K 1 FK))(FQ:aZ P w K mg base "met" ["reaches","others"] 2 (a0 K 2 FF))(FR:aZ P w K mg base "seen_aside" ["reaches"] 2 (a0 K 1 FN)):
  aZ P w K mg base "facing" ["sheet","other"] 3 (a0 K 2 FO):=by
 refine dE (lv:=2) F tQ rfl (fun f cdv A outer s H E am=>⟨_,(aY (dU (jL (w_or (jK (ql (v3 0))) (m5 (jK (ql (v3 1)))))) (br (k8 (fK db))) dS) (aY (b' (i:=2) tQ.nd rfl (SF rfl) (bK Q1 am (by rfl) (aS (dX (fK (bt (v3 0) (bt (v3 1) db)))) bD))) (aY (kD (i:=3) tQ.nd rfl rfl (ts:=["piece"]) (fr:=["scale"]) (js:=[2]) (ed (v3 0)) (fun _ _ _ _=>(bx (i:=0) (show SK (["piece","scale"]:List Str) by decide +kernel) rfl (Ss rfl))) (fun _ _ _ _=>f3) (fun _ _ _ _=>(bK FP am (by rfl) (aS (v3 0) (aS (v3 1) bD)))) ⟨rfl,by decide +kernel,rfl,by decide +kernel,fi (Tb.mpr ⟨rfl,(S3 _)⟩),fB rfl,by walk_at "ffr",rfl⟩) (aY (kD (i:=4) tQ.nd rfl rfl (ts:=["piece"]) (fr:=["scale"]) (js:=[2]) (ed (v3 1)) (fun _ _ _ _=>(bx (i:=0) (show SK (["piece","scale"]:List Str) by decide +kernel) rfl (Ss rfl))) (fun _ _ _ _=>f3) (fun _ _ _ _=>(bK FP am (by rfl) (aS (v3 0) (aS (v3 1) bD)))) ⟨rfl,by decide +kernel,rfl,by decide +kernel,fi (Tb.mpr ⟨rfl,(S3 _)⟩),fB rfl,by walk_at "ffr",rfl⟩) (k7 4 (k7 3 (aY (dU (hR (bK Q2 am (by rfl) (aS (dX (pK (v3 3) (v3 4))) bD))) (br (k8 (Az FQ am (by rfl) (aS (bK FR am (by rfl) (aS (v3 3) bD)) (aS (bK FR am (by rfl) (aS (v3 4) bD)) bD))))) dS) (br (k8 (Az FQ am (by rfl) (aS (v3 3) (aS (v3 4) bD)))))))))))),?_⟩);rintro as k ay ⟨sh,bE,rfl,ay,aA,ak,ah⟩;refine dx (r:=[.val (.lst (sh.map a9)),.val (.lst (bE.map a9)),.no,.no,.no]) rfl ?_;have f6:5000<=SZ:=by decide
 cases mT:sh with
 | nil =>
  subst mT;refine⟨_,rfl,_,rfl,?_⟩;exact gk rfl ⟨Ti _,ah (fun _ _=>true) [] (List.Perm.refl _) fun s z=>by cases z⟩
 | cons iL aca =>
 cases y6:bE with
 | nil =>
  subst y6;refine⟨_,rfl,_,rfl,?_⟩;refine gl rfl ⟨_,rfl,_,rfl,?_⟩;refine gk rfl ⟨Ti _,ah (fun _ _=>true) [] ?_ fun s _ o z=>by cases z⟩;have:fm (fun _ _=>true) sh []=[]:=by unfold fm;simp
  rw[this]
 | cons acb orr =>
 rw[<-mT,<-y6];have Q3:(sh.map a9).isEmpty=false:=by rw[mT];rfl
 have Q4:(bE.map a9).isEmpty=false:=by rw[y6];rfl
 refine lg (fun N aW=>?_) ?_
 ·refine⟨_,rfl,_,rfl,gl (by rw[Q3];rfl) ⟨_,rfl,_,rfl,gl (by rw[Q4];rfl) aW⟩⟩
 have FS:∀s∈sh++bE,s.1≠[]:=fun s z e=>by have:=(ak s z).1.l;rw[e]at this;simp at this
 refine⟨_,rfl,_,rfl,show 2<=SZ by decide,rfl,sh,bE,rfl,by lia,fun s z=>⟨FS s z,(ak s z).2⟩,by rw[mT];simp,fun m cS fE aB=>?_⟩;dsimp only[c8];have y7:TE (m*m)<=180:=UF fE fE;have jQ:∀s∈sh++bE,s.1.length<=64/\s.1≠[]/\(∀c∈s.1,cq 90 c):=fun s z=>⟨(ak s z).2.1,FS s z,(ak s z).2.2⟩;have iV:∀L:List a5,(L.map a9).length=L.length:=fun L=>Sz ..;refine⟨_,rfl,_,rfl,by rw[iV];lia,?_⟩;refine iZ (f:=a9) (h:=fun s=>d5 (rc (m*m) s)) (fs:=[.val (.int (m*m))]) (fun s z bP fS=>?_) ?_
 ·obtain⟨av,aK,d8⟩:=jQ s (Tf _ z);exact⟨_,rfl,_,rfl,rfl,s,_,rfl,av,aK,d8,y7,fS⟩
 refine⟨_,rfl,_,rfl,by rw[iV];lia,?_⟩;refine iZ (f:=a9) (h:=fun s=>d5 (rc (m*m) s)) (fs:=[.val (.int (m*m))]) (fun s z bP fS=>?_) ?_
 ·obtain⟨av,aK,d8⟩:=jQ s (SN _ z);exact⟨_,rfl,_,rfl,rfl,s,_,rfl,av,aK,d8,y7,fS⟩
 have ag:∀L:List a5,(L.map fun s=>d5 (rc (m*m) s))=(L.map (rc (m*m))).map d5:=fun L=>by rw[SY];rfl
 rw[ag,ag];have FT:∀L:List a5,((L.map (rc (m*m))).map d5).length=L.length:=fun L=>by rw[Sz,Sz]
 have o':∀L:List a5,(L.map (rc (m*m))).length=L.length:=fun L=>Sz ..;have away:∀s∈sh,∀o∈bE,ov (rc (m*m) s) (rc (m*m) o)=false->cU s.1 (dG o.1)=none:=fun s aP o bc=>Px (ak s (Tf _ aP)).1 (ak o (SN _ bc)).1 (aB s (Tf _ aP)) (aB o (SN _ bc))
 have eT:∀(h:a5->dq),(∀s,(h s).2.2.2.2=a9 s)->(∀s o,ov (h s) (h o)=ov (rc (m*m) s) (rc (m*m) o))->∀ts:List (dq×dq),ts.Perm ((sh.map h).flatMap fun r=>((bE.map h).filter (ov r)).map fun o=>(r,o))->k (.own (ts.map lJ)):=fun h aa ab ts p=>by
  rw[Pv]at p;obtain⟨ps,gP,rfl⟩:=qB p rfl
  have e:(ps.map fun t=>(h t.1,h t.2)).map lJ=ps.map yn:=by
   rw[SY];refine Uo fun t _=>?_;show D.tup [(h t.1).2.2.2.2,(h t.2).2.2.2.2]=D.tup [a9 t.1,a9 t.2]
   rw[aa,aa]
  rw[e];exact ah _ ps gP fun s aP o bc w=>away s aP o bc (by rw[<-ab];exact w)
 refine⟨_,rfl,_,rfl,?_⟩
 have tu:∀r∈sh.map (rc (m*m))++bE.map (rc (m*m)),TE r.1<=400/\TE r.2.1<=400/\TE r.2.2.1<=400/\TE r.2.2.2.1<=400:=fun r am=>by
  rw[<-S9]at am;obtain⟨s,z,rfl⟩:=SJ.mp am;obtain⟨_,aK,d8⟩:=jQ s z;exact Py y7 aK d8
 refine gm (fun ρ=>ρ=[.val (.lst (sh.map a9)),.val (.lst (bE.map a9)),.val (.int (m*m)),.val (.lst ((sh.map (rc (m*m))).map d5)),.val (.lst ((bE.map (rc (m*m))).map d5))]) ?_ (fun N aW=>?_)
 ·rintro ρ rfl;exact⟨_,rfl,_,rfl,rfl,_,_,rfl,by rw[o'];lia,by rw[o'];lia,fun ts p=>⟨_,rfl,eT (rc (m*m)) (fun _=>rfl) (fun _ _=>rfl) ts p⟩⟩
 refine⟨_,rfl,_,rfl,_,_,rfl,rfl,by rw[FT,FT];lia,rfl,sh.map (rc (m*m))++bE.map (rc (m*m)),by rw[S9 (l₁:=sh.map (rc (m*m)))];rfl,by rw[SE,o',o'];lia,by rw[mT];simp,tu,fun b=>⟨_,rfl,?_⟩⟩;cases b with
 | false=>exact gl rfl (aW _ rfl)
 | true =>
  refine gk rfl ?_;refine⟨_,rfl,rfl,_,rfl,by rw[o'];lia,?_⟩;dsimp only[c8];refine⟨_,rfl,rfl,_,rfl,by rw[o'];lia,?_⟩;dsimp only[c8];have cR:∀L:List a5,((L.map (rc (m*m))).map o2).length=L.length:=fun L=>by rw[Sz,Sz]
  refine⟨rfl,_,_,rfl,by rw[cR];lia,by rw[cR];lia,fun ts p=>⟨_,rfl,?_⟩⟩;rw[SY,SY]at p;exact eT (o2∘rc (m*m)) (fun _=>rfl) (fun _ _=>Pu _ _) ts p
theorem q6:cL ["sheet","other","moves","piece","other_piece","ring"] ["sheet","other"] (b8 uo):=by walk_at "sc"
def FU  : cw:=fun as k=>∃(sh bE:List a5)(gT:Int)(G:P3->Prop),as=[.val (.lst (sh.map a9)),.val (.lst (bE.map a9))]/\(kL 29 gT G)/\(sh.length<=8)/\(bE.length<=8)/\(∀s∈sh++bE,cy s.1/\hl 59 gT G s.1/\s.1.length<=8/\cq 6 s.2.2)/\∀(f:a5->a5->Bool)(ps:List (a5×a5)),ps.Perm (fm f sh bE)->(∀s∈sh,∀o∈bE,f s o=false->cU s.1 (dG o.1)=none)->k (.own ((ps.flatMap gE).map a9))
theorem Q5(B:dc mg)(F:cW K mg "laid_over" uo ["sheet","other"])(Q6:aZ P w K mg base "facing" ["sheet","other"] 3 (a0 K 2 FO))(Q7:aZ P w K mg base "common" ["one","other"] 6 (a0 K 2 Fp))(Q8:aZ P w K mg base "moves_of" ["ring","piece","other"] 5 (a0 K 3 Fv)):
  aZ P w K mg base "laid_over" ["sheet","other"] 7 (a0 K 2 FU):=by
 refine dE (lv:=6) F q6 rfl (fun f cdv A outer s H E am=>⟨_,(aY (k9 (i:=2) q6.nd rfl (Ss rfl) (fK db)) (aY (gy PassesOwn.never rfl (ed (bK Q6 am (by rfl) (aS (v3 0) (aS (v3 1) bD)))) (fA (n:=2) rfl (ce (bx (i:=3) q6.nd rfl (Ss rfl)) (ce (bx (i:=4) q6.nd rfl (Ss rfl)) fy))) (aY (b' (i:=5) q6.nd rfl (Ss rfl) (bK Q7 am (by rfl) (aS (bg (v3 3) aJ (fun _ _=>rfl)) (aS (bg (v3 4) aJ (fun _ _=>rfl)) bD)))) (br (dU (MP (v3 5) oi (c1 _)) (br (KV 2 (bK Q8 am (by rfl) (aS (v3 5) (aS (v3 3) (aS (v3 4) bD)))))) dS)))) (br (rO 2)))),?_⟩);rintro as k ay ⟨sh,bE,gT,G,rfl,cZ,ay,aA,ak,ah⟩;refine dx (r:=[.val (.lst (sh.map a9)),.val (.lst (bE.map a9)),.no,.no,.no,.no]) rfl ?_;have f6:5000<=SZ:=by decide
 have Q9:∀s∈sh++bE,∀c∈s.1,cq 90 c:=fun s z c hc=>((ak s z).2.1.pts c hc).1.mono (by decide);refine⟨Ti _,_,rfl,_,rfl,rfl,sh,bE,rfl,by lia,by lia,fun s z=>⟨(ak s z).1,by have:=(ak s z).2.2.1;lia,Q9 s z⟩,fun f ps gP bG=>?_⟩;have ah:=ah f ps gP bG
 have FV:∀t∈ps,t.1∈sh++bE/\t.2∈sh++bE:=fun t aR=>by
  obtain⟨a,b,_⟩:=ED (gP.mem_iff.mp aR);exact⟨Tf _ a,SN _ b⟩
 have cV:ps.length<=64:=by
  rw[gP.length_eq];have:(fm f sh bE).length<=8*sh.length:=o1 fun s _=>by rw[Sz];exact SA (T' _ _) aA
  lia
 have FW:∀t∈ps,(gE t).length<=16/\∀F,cU t.1.1 (dG t.2.1)=some F->cy F/\hl 59 gT G F/\F.length<=16:=fun t aR=>by
  obtain⟨bo,bu⟩:=FV t aR;obtain⟨c6,dt,hJ,il⟩:=ak _ bo;obtain⟨dw,d4,jO,op⟩:=ak _ bu
  have key:∀F,cU t.1.1 (dG t.2.1)=some F->cy F/\hl 59 gT G F/\F.length<=16:=fun F e=>by
   obtain⟨bC,cb,eu⟩:=tC cZ c6 dt dw d4 (fun e au=>(ix _ e).mp au) e;refine⟨bC,cb,?_⟩;rw[xH]at eu;lia
  refine⟨?_,key⟩;cases e:cU t.1.1 (dG t.2.1)with
  | none=>rw[yx e];exact Ti _
  | some F=>rw[qS e];exact SA (EV ..) (key F e).2.2
 dsimp only[c8];refine⟨_,rfl,?_⟩;refine EL (f:=yn) (done:=[]) (fun pre ρ=>∃v3 cK dv:aI,ρ=[.val (.lst (sh.map a9)),.val (.lst (bE.map a9)),.own ((pre.flatMap gE).map a9),v3,cK,dv]) ⟨_,_,_,rfl⟩ ?_ ?_
 ·rintro pre t rest ρ dQ ⟨v3,cK,dv,rfl⟩ N aW;have dQ:ps=pre++t::rest:=by simpa using dQ
  have aR:t∈ps:=by rw[dQ];simp
  have dV:pre.length<64:=by have:=Uf Th dQ;rw[SE,SO]at this;lia
  have Q':∀t∈pre,t∈ps:=fun t h=>by rw[dQ];exact Tf _ h
  have pm:(pre.flatMap gE).length<=16*pre.length:=o1 fun t h=>(FW t (Q' t h)).1;have iV:((pre.flatMap gE).map a9).length=(pre.flatMap gE).length:=Sz ..;obtain⟨bF,bS⟩:=FW t aR;obtain⟨bo,bu⟩:=FV t aR;obtain⟨c6,dt,hJ,il⟩:=ak _ bo;obtain⟨dw,d4,jO,op⟩:=ak _ bu;have ap:(pre++[t]).flatMap gE=pre.flatMap gE++gE t:=by rw[WO];simp
  rw[ap]at aW;refine⟨_,rfl,rfl,_,_,rfl,_,_,rfl,rfl,?_⟩;refine⟨_,rfl,_,0,_,.inl rfl,rfl,rfl,_,rfl,_,0,_,.inl rfl,rfl,rfl,rfl,t.1.1,t.2.1,gT,G,rfl,cZ,c6,dw,dt,d4,hJ,jO,?_⟩;dsimp only[c8];cases e:cU t.1.1 (dG t.2.1)with
  | none =>
   rw[yx e,SG]at aW;exact⟨_,rfl,rfl,_,rfl,gl rfl (aW _ ⟨_,_,_,rfl⟩)⟩
  | some F =>
   obtain⟨bd,bH,bW⟩:=bS F e;rw[qS e,S9]at aW;rw[qS e]at bF;have c0:=bd.l;refine⟨_,rfl,rfl,_,rfl,gk rfl ?_⟩;refine⟨_,rfl,_,rfl,_,rfl,_,rfl,rfl,F,t.1,t.2,rfl,bd.l,by lia,fun c hc=>(bH.pts c hc).1.mono (by decide),il,op,?_⟩;dsimp only[c8];exact⟨_,rfl,by rw[iV,Sz];lia,aW _ ⟨_,_,_,rfl⟩⟩
 ·rintro ρ ⟨v3,cK,dv,rfl⟩;exact⟨_,rfl,ah⟩
theorem mF:cL ["_law_ring","_law_bag_here","_law_many","_law_sheet","_law_k","_law_p","_law_q","_law_left","_law_other"] ["_law_ring","_law_bag_here","_law_many"] (b8 uG):=by walk_at "sc"
def FX  : cw:=fun as k=>∃(ps:List P3),as=[.val (.lst (ps.map dP)),.bag,.val (.int 3)]/\(ps.length<=5)/\(gB ps)/\(∀p∈ps,j7 p)/\∀(dY:List P3)(sh:List a5),gD ps 3 dY sh->k (.val (.lst (sh.map a9)))
theorem Ra(B:dc mg)(F:cW K mg "_law_cut_up" uG ["_law_ring","_law_bag_here","_law_many"])(Rb:aZ P w K mg base "fresh" ["ring"] 2 (a0 K 1 Fn))(h3:aZ P w K mg base "_law_digit" ["_law_bag_here","_law_many"] 1 (a0 K 2 (mf 400)))(tR:aZ P w K mg base "_law_mixed" ["_law_ring","_law_bag_here"] 4 (a0 K 2 yP))(Rc:aZ P w K mg base "cut_sheet" ["sheet","p","q"] 6 (a0 K 3 Fm)):
  aZ P w K mg base "_law_cut_up" ["_law_ring","_law_bag_here","_law_many"] 7 (a0 K 3 FX):=by
 refine dE (lv:=6) F mF rfl (fun f cdv A outer s H E am=>⟨_,(aY (b' (i:=3) mF.nd rfl (Ss rfl) (dX (fK (bt (bK Rb am (by rfl) (aS (v3 0) bD)) db)))) (aY (gy PassesOwn.never rfl (la (bK h3 am (by rfl) (f0 1 (aS (gN (v3 2) aJ) bD))) (by rfl) B.range_) (bx (i:=4) mF.nd rfl (Ss rfl)) (aY (b' (i:=5) mF.nd rfl (Ss rfl) (bK tR am (by rfl) (aS (v3 0) (f0 1 bD)))) (aY (b' (i:=6) mF.nd rfl (Ss rfl) (bK tR am (by rfl) (aS (v3 0) (f0 1 bD)))) (br (dU (v6 (am.units) (v3 5) (v3 6) (c1 _)) (aY (jP (bK Rc am (by rfl) (aS (v3 3) (aS (v3 5) (aS (v3 6) bD)))) (fA (n:=2) rfl (ce (bx (i:=7) mF.nd rfl (Ss rfl)) (ce (bx (i:=8) mF.nd rfl (Ss rfl)) fy)))) (br (b' (i:=3) mF.nd rfl (Ss rfl) (dX (pK (v3 7) (v3 8)))))) dS))))) (br (c2 (v3 3))))),?_⟩);rintro as k ay ⟨ps,rfl,ay,hc,cT,ah⟩;refine dx (r:=[.val (.lst (ps.map dP)),.bag,.val (.int 3),.no,.no,.no,.no,.no,.no]) rfl ?_;have f6:5000<=SZ:=by decide
 have fL:=hc.rg (fun x aj=>(cT x aj).1.pt);have jp:=fL.l;refine⟨_,rfl,rfl,ps,rfl,?_⟩;dsimp only[c8];refine⟨show 1<=SZ by decide,?_⟩;refine gm (fun ρ=>∃(sh:List a5)(dY:List P3)(cK dv fT iB e0:aI),ρ=[.val (.lst (ps.map dP)),.bag,.val (.int 3),.val (.lst (sh.map a9)),cK,dv,fT,iB,e0]/\gD ps 3 dY sh) ?_ (fun N aW=>?_)
 ·rintro ρ ⟨sh,dY,cK,dv,fT,iB,e0,rfl,h⟩;exact⟨_,rfl,ah dY sh h⟩
 refine⟨rfl,_,rfl,_,_,rfl,rfl,rfl,4,rfl,by decide,by decide +kernel,fun d hY ej=>?_⟩;refine⟨d,rfl,by lia,by lia,?_⟩;refine mj (fun i ρ=>∃(sh:List a5)(dY:List P3)(cK dv fT iB e0:aI),ρ=[.val (.lst (ps.map dP)),.bag,.val (.int 3),.val (.lst (sh.map a9)),cK,dv,fT,iB,e0]/\gD ps i dY sh) ⟨[(ps,false,(0,0,1))],[],_,_,_,_,_,rfl,gD.start fL ay (fun x aj=>(cT x aj).1) _⟩ ?_ (fun ρ ⟨sh,dY,cK,dv,fT,iB,e0,e,h⟩=>aW _ ⟨sh,dY,cK,dv,fT,iB,e0,e,h.mono (by lia)⟩);rintro i ρ aC ⟨sh,dY,cK,dv,fT,iB,e0,rfl,h⟩ N aW;have kF:i<3:=by lia
 refine⟨_,rfl,rfl,rfl,ps,rfl,by lia,ay,cT,fun p gp=>?_⟩;dsimp only[c8];refine⟨_,rfl,rfl,rfl,ps,rfl,by lia,ay,cT,fun q lD=>?_⟩;dsimp only[c8];refine⟨_,rfl,_,rfl,.T [.I,.I,.I],rfl,rfl,by decide,_,rfl,v9 (fun ne=>?_) (fun _=>aW _ ⟨sh,dY,_,_,_,_,_,rfl,h.mono (by lia)⟩)⟩;have ne2:p≠q:=fun z=>ne (by rw[z]);have ip:2^i<=4:=SA (WK (by decide) (show i<=2 by lia)) (by decide);have qQ:=h.len;have rl:=h.rl (kM (kN ps++dY)) (· ∈ kN ps++dY) (kL.of fun g aD=>?_) (fun g aD=>aD) (fun x aj=>Tg (cT x aj).2.2.1 (yd _));rotate_left
 ·rcases SI.mp aD with z|z
  ·obtain⟨e,au,rfl⟩:=SJ.mp z;obtain⟨bF,bS⟩:=iq au;exact⟨((cT _ bF).1.bp.crs (cT _ bS).1.bp).mono (by decide),fL.line au⟩
  ·exact h.lb g z
 refine⟨_,rfl,_,rfl,_,rfl,rfl,sh,p,q,rfl,gp.bp.mono (by decide),lD.bp.mono (by decide),fun s ak c kU=>⟨((rl s ak).pts c kU).1.bp.mono (by decide),((rl s ak).pts c kU).1.pt⟩,fun s ak=>by have:=h.ln s ak;lia,by lia,?_⟩;dsimp only[c8];refine⟨_,rfl,rfl,_,_,rfl,_,_,rfl,rfl,?_⟩;have bC:=oO (f:=ln (crs p q)) (mt:=bv (crs p q)) sh;have cb:=oO (f:=fun c => -ln (crs p q) c) (mt:=bv (crs p q)) sh;refine⟨_,rfl,_,rfl,_,_,rfl,rfl,by rw[Sz,Sz];lia,?_⟩;rw[<-S9];exact aW _ ⟨_,_,_,_,_,_,_,rfl,h.cut gp lD ne2⟩
theorem y8:cL ["_law_sheet","_law_bag_here","_law_made","_law_piece"] ["_law_sheet","_law_bag_here"] (b8 uH):=by walk_at "sc"
def FY  : cw:=fun as k=>∃(sh:List a5),as=[.val (.lst (sh.map a9)),.bag]/\(sh.length<=8)/\∀jz:List a5,jz.map (·.1)=sh.map (·.1)->(∀s∈jz,cq 6 s.2.2)->k (.own (jz.map a9))
theorem Re(B:dc mg)(F:cW K mg "_law_told" uH ["_law_sheet","_law_bag_here"])(Rf:aZ P w K mg base "_law_step" ["_law_bag_here","_law_most"] 3 (a0 K 2 Fb))(h3:aZ P w K mg base "_law_digit" ["_law_bag_here","_law_many"] 1 (a0 K 2 (mf 400))):
  aZ P w K mg base "_law_told" ["_law_sheet","_law_bag_here"] 4 (a0 K 2 FY):=by
 refine dE (lv:=3) F y8 rfl (fun f cdv A outer s H E am=>⟨_,(aY (k9 (i:=2) y8.nd rfl (Ss rfl) (fK db)) (aY (gy PassesOwn.never rfl (ed (v3 0)) (bx (i:=3) y8.nd rfl (Ss rfl)) (br (md 2 (fg (bt (bg (v3 3) aJ (fun _ _=>rfl)) (bt (oj (f:=fun i j=>decide (i=j)) mY (bK h3 am (by rfl) (f0 1 (aS aJ bD))) aJ (c1 _)) (bt (bK Rf am (by rfl) (f0 1 (aS aJ bD))) db))))))) (br (rO 2)))),?_⟩);rintro as k ay ⟨sh,rfl,ay,ah⟩;refine dx (r:=[.val (.lst (sh.map a9)),.bag,.no,.no]) rfl ?_;have f6:5000<=SZ:=by decide
 refine⟨Ti _,_,rfl,_,rfl,?_⟩;refine oB (f:=a9) (done:=[]) (fun pre ρ=>∃(jz:List a5)(v3:aI),ρ=[.val (.lst (sh.map a9)),.bag,.own (jz.map a9),v3]/\jz.map (·.1)=pre.map (·.1)/\∀s∈jz,cq 6 s.2.2) ⟨[],_,rfl,rfl,fun s h=>by cases h⟩ ?_ ?_
 ·rintro pre x rest ρ dQ ⟨jz,v3,rfl,e,g⟩ N aW;have dV:pre.length<8:=by have:=Uf Th dQ;rw[Tz,SE,SO]at this;lia
  have b0:jz.length=pre.length:=by have:=Uf Th e;rwa [Sz,Sz]at this
  refine⟨_,rfl,_,rfl,_,0,_,.inl rfl,rfl,rfl,rfl,rfl,2,rfl,by decide,by decide +kernel,fun d hY ej=>?_⟩;refine⟨_,_,rfl,rfl,?_⟩;refine⟨rfl,rfl,9,rfl,.inr rfl,fun p gp=>?_⟩;dsimp only[c8];refine⟨show 3<=SZ by decide,by rw[Sz];lia,aW _ ⟨jz++[(x.1,decide (d=1),p)],.val (a9 x),?_,?_,?_⟩⟩
  ·rw[S9];rfl
  ·rw[S9,S9,e];rfl
  ·intro s ak;rcases SI.mp ak with z|z
   ·exact g s z
   ·rw[S'.mp z];exact gp
 ·rintro ρ ⟨jz,v3,rfl,e,g⟩;exact⟨_,rfl,ah jz e g⟩
theorem FZ:cL ["_law_piece","_law_p"] ["_law_piece","_law_p"] (b8 uI):=by walk_at "sc"
def F0  : cw:=fun as k=>∃(s:a5)(z:P3),as=[.val (a9 s),.val (dP z)]/\(cq 6 s.2.2)/\(cq 90 z)/\k (.val (dP (cQ s z)))
theorem Rg(B:dc mg)(F:cW K mg "_law_first" uI ["_law_piece","_law_p"])(qV:aZ P w K mg base "_law_slid" ["_law_p","_law_v"] 3 (a0 K 2 tF))(tS:aZ P w K mg base "_law_turned" ["_law_p"] 2 (a0 K 1 yD)):
  aZ P w K mg base "_law_first" ["_law_piece","_law_p"] 4 (a0 K 2 F0):=by
 refine dE (lv:=3) F FZ rfl (fun f cdv A outer s H E am=>⟨_,(aY (b' (i:=1) FZ.nd rfl (Ss rfl) (bK qV am (by rfl) (aS (v3 1) (aS (bK tS am (by rfl) (aS (bg (v3 0) aJ (fun _ _=>rfl)) bD)) bD)))) (aY (dU (hR (bg (v3 0) aJ (fun _ _=>rfl))) (br (c2 (bK tS am (by rfl) (aS (v3 1) bD)))) dS) (br (c2 (v3 1))))),?_⟩);rintro as k ay ⟨s,z,rfl,ak,hz,ah⟩;refine dx (r:=[.val (a9 s),.val (dP z)]) rfl ?_;refine⟨_,rfl,_,rfl,_,2,_,.inl rfl,rfl,rfl,rfl,s.2.2,rfl,?_⟩;dsimp only[c8];refine⟨rfl,z,trn s.2.2,rfl,hz.mono (by decide),ak.trn.mono (by decide),?_⟩;dsimp only[c8];unfold cQ at ah;refine⟨_,rfl,_,1,_,.inl rfl,rfl,rfl,_,rfl,?_⟩;by_cases ae:s.2.1=true
 ·rw[TI ae]at ah;exact gk ae ⟨_,rfl,rfl,_,rfl,ah⟩
 ·rw[TT ae]at ah;exact gl (by simpa using ae) ⟨_,rfl,ah⟩
theorem F1:cL ["_law_move","_law_p"] ["_law_move","_law_p"] (b8 uJ):=by walk_at "sc"
def F2  : cw:=fun as k=>∃(m:a5)(z:P3),as=[.val (a9 m),.val (dP z)]/\(cq 90 m.2.2)/\(cq 200 z)/\k (.val (dP (qv m.2.1 m.2.2 z)))
theorem Rh(B:dc mg)(F:cW K mg "_law_led" uJ ["_law_move","_law_p"])(tS:aZ P w K mg base "_law_turned" ["_law_p"] 2 (a0 K 1 yD))(qV:aZ P w K mg base "_law_slid" ["_law_p","_law_v"] 3 (a0 K 2 tF)):
  aZ P w K mg base "_law_led" ["_law_move","_law_p"] 4 (a0 K 2 F2):=by
 refine dE (lv:=3) F F1 rfl (fun f cdv A outer s H E am=>⟨_,(aY (dU (hR (bg (v3 0) aJ (fun _ _=>rfl))) (br (b' (i:=1) F1.nd rfl (Ss rfl) (bK tS am (by rfl) (aS (v3 1) bD)))) dS) (br (c2 (bK qV am (by rfl) (aS (v3 1) (aS (bg (v3 0) aJ (fun _ _=>rfl)) bD)))))),?_⟩);rintro as k ay ⟨m,z,rfl,ak,hz,ah⟩;refine dx (r:=[.val (a9 m),.val (dP z)]) rfl ?_;unfold qv at ah;refine gm (fun ρ=>ρ=[.val (a9 m),.val (dP (if m.2.1=true then trn z else z))]) ?_ (fun N aW=>?_);rotate_left
 ·refine⟨_,rfl,_,1,_,.inl rfl,rfl,rfl,_,rfl,?_⟩;by_cases ae:m.2.1=true
  ·rw[TI ae]at aW;refine gk ae ⟨_,rfl,rfl,_,rfl,?_⟩;dsimp only[c8];exact aW _ rfl
  ·rw[TT ae]at aW;exact gl (by simpa using ae) (aW _ rfl)
 rintro ρ rfl
 have g:cq 200 (if m.2.1=true then trn z else z):=by
  split
  ·exact hz.trn
  ·exact hz
 exact⟨_,rfl,_,rfl,_,2,_,.inl rfl,rfl,rfl,rfl,_,m.2.2,rfl,g.mono (by decide),ak.mono (by decide),ah⟩
theorem Ri:cL ["_law_move"] ["_law_move"] (b8 uK):=by walk_at "sc"
def F3  : cw:=fun as k=>∃(m:a5),as=[.val (a9 m)]/\(qu m.1)/\(∀x∈m.1,cq 90 x)/\(cq 90 m.2.2)/\k (.val (.bl true))
theorem Rj(B:dc mg)(F:cW K mg "_law_is_move" uK ["_law_move"])(yO:aZ P w K mg base "_law_is_convex" ["_law_ring"] 4 (a0 K 1 yG))(yH:aZ P w K mg base "_law_is_point" ["_law_p"] 3 (a0 K 1 yE)):
  aZ P w K mg base "_law_is_move" ["_law_move"] 5 (a0 K 1 F3):=by
 refine dE (lv:=4) F Ri rfl (fun f cdv A outer s H E am=>⟨_,(aY (dU (jL (w_or (jK (hR (m9 (T:="tuple") (v3 0) (by rfl) B.isinstance_ (mH (v:=.ty "tuple") (u:=.type "tuple") (by rfl) B.tuple_ (by decide +kernel) rfl) rfl rfl rfl))) (w_or (eB (f:=fun i j => !decide (i=j)) kZ (ie (v3 0) (by rfl) B.len_) aJ (c1 _)) (w_or (jK (hR (bK yO am (by rfl) (aS (bg (v3 0) aJ (fun _ _=>rfl)) bD)))) (m5 (eB (f:=fun i j => !decide (i=j)) kZ (ie (bg (v3 0) aJ (fun _ _=>rfl)) (by rfl) B.len_) aJ (c1 _))))))) (br (c2 iP)) dS) (br (c2 (Au (m9 (T:="bool") (bg (v3 0) aJ (fun _ _=>rfl)) (by rfl) B.isinstance_ (mH (v:=.ty "bool") (u:=.type "bool") (by rfl) B.bool_ (by decide +kernel) rfl) rfl rfl rfl) (At (bK yH am (by rfl) (aS (bg (v3 0) aJ (fun _ _=>rfl)) bD))))))),?_⟩);rintro as k ay ⟨m,rfl,aR,aD,ak,ah⟩;refine dx (r:=[.val (a9 m)]) rfl ?_;obtain⟨a,b,c,e,hY⟩:=aR;have hL:gB m.1:=Dk ⟨a,b,c,e,hY⟩;have f2:m.1.length=3:=by rw[e];rfl
 refine lg (fun N aW=>?_) ?_
 ·refine⟨_,rfl,_,_,rfl,fun _=>rfl,_,rfl,jG ?_⟩;refine⟨_,rfl,_,rfl,_,_,rfl,rfl,_,rfl,jG ?_⟩;refine⟨_,rfl,_,0,_,.inl rfl,rfl,rfl,rfl,m.1,rfl,by lia,fun x aj=>(aD x aj).mono (by decide),fun b ae=>⟨_,rfl,?_⟩⟩;rw[ae.mpr hL];refine jG ?_;refine⟨_,rfl,_,0,_,.inl rfl,rfl,rfl,_,rfl,_,_,rfl,rfl,_,rfl,?_⟩;rw[Sz,f2];exact aW
 exact⟨_,rfl,_,1,_,.inl rfl,rfl,rfl,_,_,rfl,fun _=>rfl,_,rfl,gk rfl ⟨_,rfl,_,2,_,.inl rfl,rfl,rfl,rfl,m.2.2,rfl,ak.pt,ak.bp.mono (by decide),ah⟩⟩
theorem y9:cL ["_law_sheet","_law_spot_here","_law_piece","_law_hand"] ["_law_sheet","_law_spot_here"] (b8 uL):=by walk_at "sc"
def F4  : cw:=fun as k=>∃(sh:List a5)(z:P3),as=[.val (.lst (sh.map a9)),.val (dP z)]/\(sh.length<=8)/\(∀s∈sh,s.1.length<=8/\∀c∈s.1,cq 90 c)/\(cq 90 z)/\∀r:Option a5,(∀s,r=some s->s∈sh/\wi s.1 z=1)->k (.val (PO r))
theorem Rk(B:dc mg)(F:cW K mg "_law_found" uL ["_law_sheet","_law_spot_here"])(y':aZ P w K mg base "_law_within" ["_law_ring","_law_p"] 3 (a0 K 2 yK)):
  aZ P w K mg base "_law_found" ["_law_sheet","_law_spot_here"] 4 (a0 K 2 F4):=by
 refine dE (lv:=3) F y9 rfl (fun f cdv A outer s H E am=>⟨_,(aY (gy PassesOwn.never rfl (ed (v3 0)) (bx (i:=2) y9.nd rfl (Ss rfl)) (aY (b' (i:=3) y9.nd rfl (Ss rfl) (bK y' am (by rfl) (aS (bg (v3 2) aJ (fun _ _=>rfl)) (aS (v3 1) bD)))) (br (dU (eB (f:=fun i j => !decide (i=j)) kZ (v3 3) aJ (c1 _)) (br (c2 (bg (dX (fK (bt oi (bt (v3 2) db)))) (vP (oj (f:=fun i j=>decide (i=j)) mY (v3 3) aJ (c1 _)) (by rfl) B.int_) (fun _ _=>rfl)))) dS)))) (br (c2 oi))),?_⟩);rintro as k ay ⟨sh,z,rfl,ay,ak,hz,ah⟩;refine dx (r:=[.val (.lst (sh.map a9)),.val (dP z),.no,.no]) rfl ?_;have f6:5000<=SZ:=by decide
 refine gm (fun ρ=>True) (fun ρ _=>ah none fun s z=>by cases z) (fun N aW=>?_);refine⟨_,rfl,_,rfl,?_⟩;refine oB (f:=a9) (done:=[]) (fun _ ρ=>∃v2 v3:aI,ρ=[.val (.lst (sh.map a9)),.val (dP z),v2,v3]) ⟨_,_,rfl⟩ ?_ (fun ρ _=>aW _ trivial);rintro pre x rest ρ dQ ⟨v2,v3,rfl⟩ N aW
 have aj:x∈sh:=by
  have:sh=pre++x::rest:=by simpa using dQ
  rw[this];simp
 obtain⟨aa,ab⟩:=ak x aj;refine⟨_,rfl,_,0,_,.inl rfl,rfl,rfl,_,rfl,rfl,x.1,z,rfl,by lia,fun p aq=>(ab p aq).mono (by decide),hz.bp.mono (by decide),?_⟩;dsimp only[c8];refine⟨_,rfl,_,_,rfl,rfl,_,rfl,?_⟩;rcases MV x.1 z with w|w|w
 ·exact gl (by rw[w];rfl) (aW _ ⟨_,_,rfl⟩)
 ·refine gk (by rw[w];rfl) ⟨_,rfl,show 2<=SZ by decide,_,rfl,_,_,rfl,rfl,.inr ⟨_,rfl,_,_,.non,.inr rfl,rfl,?_,ah none fun s e=>by cases e⟩⟩;rw[w];rfl
 ·refine gk (by rw[w];rfl) ⟨_,rfl,show 2<=SZ by decide,_,rfl,_,_,rfl,rfl,.inr ⟨_,rfl,_,_,a9 x,.inr rfl,rfl,?_,ah (some x) fun s e=>by cases e;exact⟨aj,w⟩⟩⟩;rw[w];rfl
theorem hn:cL ["_law_script","_law_ring","_law_bag_here","_law_one","_law_other","_law_handed","_law_moves","_law_area_told","_law_move","_law_k","_law_spot_here","_law_near","_law_far","_law_first_here","_law_last","_law_some"] ["_law_script"] (b8 uM):=by walk_at "sc"
theorem Rl{P:WF}{w:WU}{K:Su}{mg:Str->Option SC}{base:WY}{f:Tl}{fd:Xf}(B:dc mg)(F:kr K "law" "law" uM f fd)(Rm:aZ P w K mg base "_law_bulging" ["_law_bag_here","_law_most"] 5 (a0 K 2 Fd))(F5:aZ P w K mg base "_law_bag" ["_law_cell_here"] 1 (a0 K 1 v8))(F6:aZ P w K mg base "_law_cell" ["_law_script","_law_k"] 1 (a0 K 2 v7))(F7:aZ P w K mg base "_law_told" ["_law_sheet","_law_bag_here"] 4 (a0 K 2 FY))(F8:aZ P w K mg base "_law_cut_up" ["_law_ring","_law_bag_here","_law_many"] 7 (a0 K 3 FX))(Rn:aZ P w K mg base "laid_over" ["sheet","other"] 7 (a0 K 2 FU))(Ro:aZ P w K mg base "_law_is_move" ["_law_move"] 5 (a0 K 1 F3))(Rp:aZ P w K mg base "_law_added" ["_law_one","_law_other"] 3 (a0 K 2 E9))(F9:aZ P w K mg base "_law_twice_area" ["_law_ring"] 3 (a0 K 1 E8))(tR:aZ P w K mg base "_law_mixed" ["_law_ring","_law_bag_here"] 4 (a0 K 2 yP))(F':aZ P w K mg base "_law_found" ["_law_sheet","_law_spot_here"] 4 (a0 K 2 F4))(Ga:aZ P w K mg base "_law_first" ["_law_piece","_law_p"] 4 (a0 K 2 F0))(y':aZ P w K mg base "_law_within" ["_law_ring","_law_p"] 3 (a0 K 2 yK))(Rq:aZ P w K mg base "_law_led" ["_law_move","_law_p"] 4 (a0 K 2 F2)):
  h8 P w K mg base iK 8 f fd ["_law_script"] (r0 K):=by
 refine h8.imp (sp:=a0 K 1 AV) ?_ (fun vs H Q E h=>Ks h);refine Kr (lv:=7) F hn rfl (fun cdv A outer s H E am=>⟨_,(aY (b' (i:=1) hn.nd rfl (Ss rfl) (Nh Rm am (by rfl) (AI F5 am (by rfl) (aS (bK F6 am (by rfl) (aS (v3 0) (aS aJ bD))) bD)))) (aY (Kh (i:=2) hn.nd rfl (Ss rfl) (AI F5 am (by rfl) (aS (bK F6 am (by rfl) (aS (v3 0) (aS aJ bD))) bD))) (aY (b' (i:=3) hn.nd rfl (Ss rfl) (bK F7 am (by rfl) (aS (bK F8 am (by rfl) (aS (v3 1) (f0 2 (aS aJ bD)))) (f0 2 bD)))) (aY (b' (i:=4) hn.nd rfl (Ss rfl) (bK F7 am (by rfl) (aS (bK F8 am (by rfl) (aS (v3 1) (f0 2 (aS aJ bD)))) (f0 2 bD)))) (aY (r5 5 (kD (i:=5) hn.nd rfl rfl (ts:=["_law_sheet"]) (fr:=[]) (js:=[]) (ed (dX (fK (bt (v3 3) (bt (v3 4) db))))) (fun _ _ _ _=>(bx (i:=0) (show SK (["_law_sheet"]:List Str) by decide +kernel) rfl (Ss rfl))) (fun _ _ _ _=>f3) (fun _ _ _ _=>(dX (jW (ts:=["_law_r","_law_flag","_law_step_here"]) (fr:=[]) (js:=[]) (ed (v3 0)) (fun _ _ _ _=>(fA (n:=3) rfl (ce (bx (i:=0) (show SK (["_law_r","_law_flag","_law_step_here"]:List Str) by decide +kernel) rfl (Ss rfl)) (ce (bx (i:=1) (show SK (["_law_r","_law_flag","_law_step_here"]:List Str) by decide +kernel) rfl (Ss rfl)) (ce (bx (i:=2) (show SK (["_law_r","_law_flag","_law_step_here"]:List Str) by decide +kernel) rfl (Ss rfl)) fy))))) (fun _ _ _ _=>f3) (fun _ _ _ _=>(fg (bt (dX (AG (v3 0) (by rfl) B.list_)) (bt (v3 1) (bt (v3 2) db))))) ⟨rfl,by decide +kernel,rfl,by decide +kernel,fi (S3 _),fB rfl,by walk_at "ffr",rfl⟩))) ⟨rfl,by decide +kernel,rfl,by decide +kernel,fi (S3 _),fB rfl,by walk_at "ffr",rfl⟩)) (aY (b' (i:=6) hn.nd rfl (Ss rfl) (bK Rn am (by rfl) (aS (bg (v3 5) aJ (fun _ _=>rfl)) (aS (bg (v3 5) aJ (fun _ _=>rfl)) bD)))) (aY (dU (jL (w_or (v6 (am.units) (v3 5) (dX (fK (bt (v3 3) (bt (v3 4) db)))) (c1 _)) (m5 (jK (hR (m9 (T:="list") (v3 6) (by rfl) B.isinstance_ (mH (v:=.ty "list") (u:=.type "list") (by rfl) B.list_ (by decide +kernel) rfl) rfl rfl rfl)))))) (br (c2 iP)) dS) (aY (b' (i:=7) hn.nd rfl (Ss rfl) (fg (bt aJ (bt aJ (bt aJ db))))) (aY (gy PassesOwn.never rfl (ed (v3 6)) (bx (i:=8) hn.nd rfl (Ss rfl)) (aY (dU (jK (hR (bK Ro am (by rfl) (aS (v3 8) bD)))) (br (c2 iP)) dS) (br (b' (i:=7) hn.nd rfl (Ss rfl) (bK Rp am (by rfl) (aS (v3 7) (aS (bK F9 am (by rfl) (aS (bg (v3 8) aJ (fun _ _=>rfl)) bD)) bD))))))) (aY (dU (v6 (am.units) (v3 7) (bK F9 am (by rfl) (aS (v3 1) bD)) (c1 _)) (br (c2 iP)) dS) (aY (gy PassesOwn.never rfl (la aJ (by rfl) B.range_) (bx (i:=9) hn.nd rfl (Ss rfl)) (aY (b' (i:=10) hn.nd rfl (Ss rfl) (bK tR am (by rfl) (aS (v3 1) (f0 2 bD)))) (aY (b' (i:=11) hn.nd rfl (SF rfl) (bK F' am (by rfl) (aS (v3 3) (aS (v3 10) bD)))) (aY (b' (i:=12) hn.nd rfl (SF rfl) (bK F' am (by rfl) (aS (v3 4) (aS (v3 10) bD)))) (aY (dU (jL (w_or (BB (v3 11) oi (c1 _)) (m5 (BB (v3 12) oi (c1 _))))) (br JX) dS) (aY (b' (i:=13) hn.nd rfl (SF rfl) (bK Ga am (by rfl) (aS (v3 11) (aS (v3 10) bD)))) (aY (b' (i:=14) hn.nd rfl (SF rfl) (bK Ga am (by rfl) (aS (v3 12) (aS (v3 10) bD)))) (aY (r5 15 (kD (i:=15) hn.nd rfl rfl (ts:=["_law_move"]) (fr:=["_law_first_here","_law_last"]) (js:=[13,14]) (ed (v3 6)) (fun _ _ _ _=>(bx (i:=0) (show SK (["_law_move","_law_first_here","_law_last"]:List Str) by decide +kernel) rfl (Ss rfl))) (fun _ _ _ _=>(r3 (jL (w_and (eB (f:=fun i j => !decide (i=j)) kZ (bK y' am (by rfl) (aS (bg (v3 0) aJ (fun _ _=>rfl)) (aS (v3 1) bD))) aJ (c1 _)) (rK (AT (am.units) (bK Rq am (by rfl) (aS (v3 0) (aS (v3 1) bD))) (v3 2) (c1 _))))))) (fun _ _ _ _=>(v3 0)) ⟨rfl,by decide +kernel,rfl,by decide +kernel,fi (Tb.mpr ⟨rfl,(Tb.mpr ⟨rfl,(S3 _)⟩)⟩),fB rfl,by walk_at "ffr",rfl⟩)) (br (dU (eB (f:=fun i j=>decide (i=j)) mY (ie (dX (jW (ts:=["_law_move"]) (fr:=["_law_near","_law_far"]) (js:=[11,12]) (ed (v3 15)) (fun _ _ _ _=>(bx (i:=0) (show SK (["_law_move","_law_near","_law_far"]:List Str) by decide +kernel) rfl (Ss rfl))) (fun _ _ _ _=>(r3 (AT (am.units) (bg (v3 0) aJ (fun _ _=>rfl)) (AS (am.units) (bg (v3 1) aJ (fun _ _=>rfl)) (bg (v3 2) aJ (fun _ _=>rfl)) (c1 _)) (c1 _)))) (fun _ _ _ _=>(v3 0)) ⟨rfl,by decide +kernel,rfl,by decide +kernel,fi (Tb.mpr ⟨rfl,(Tb.mpr ⟨rfl,(S3 _)⟩)⟩),fB rfl,by walk_at "ffr",rfl⟩)) (by rfl) B.len_) aJ (c1 _)) (br (c2 iP)) dS)))))))))) (br (c2 iP))))))))))))),?_⟩);rintro as k ay ⟨ns,rfl,acd,ah⟩;refine dx (r:=[.val (.scr ns),.no,.no,.no,.no,.no,.no,.no,.no,.no,.no,.no,.no,.no,.no,.no]) rfl ?_;have f6:5000<=SZ:=by decide
 refine⟨_,rfl,rfl,ns,0,rfl,by decide,fun z=>?_⟩;refine⟨rfl,z,rfl,rfl,?_⟩;refine⟨rfl,fun ps tT hc cT=>?_⟩;dsimp only[c8];refine⟨_,rfl,rfl,ns,1,rfl,by decide,fun z=>?_⟩;refine⟨rfl,z,rfl,rfl,?_⟩;have fL:=hc.rg (fun x aj=>(cT x aj).1.pt);have jp:=fL.l;refine⟨_,rfl,rfl,rfl,ps,rfl,tT,hc,cT,fun dY Rr g2=>?_⟩;dsimp only[c8];refine⟨rfl,rfl,Rr,rfl,g2.len,fun sh ag aO=>?_⟩;dsimp only[c8];refine⟨_,rfl,rfl,rfl,ps,rfl,tT,hc,cT,fun lK Rs fX=>?_⟩;dsimp only[c8];refine⟨rfl,rfl,Rs,rfl,fX.len,fun bE ao aT=>?_⟩;dsimp only[c8];have bC:=g2.told ag;have cb:=fX.told ao;have bZ:sh.length<=8:=bC.len;have b0:bE.length<=8:=cb.len;refine⟨_,rfl,_,rfl,show 2<=SZ by decide,_,rfl,show 2<=SZ by decide,?_⟩;have za:∀L:List a5,L.length<=1024->(L.map a9).length<=SZ:=fun L h=>by rw[Sz];lia
 refine iZ (rs:=[sh,bE]) (f:=fun L:List a5=>.lst (L.map a9)) (h:=fun L=>.lst (L.map a9)) (fs:=[]) (fun L cZ bP fS=>?_) ?_
 ·have ace:L.length<=8:=by
   rcases Sy.mp cZ with rfl|cZ
   ·exact bZ
   ·rw[S'.mp cZ];exact b0
  refine⟨_,rfl,_,rfl,za L (by lia),?_⟩;exact BX (h:=a9) (fs:=[]) (fun s ak bP fS=>⟨_,rfl,_,.inl rfl,_,rfl,_,rfl,show 3<=SZ by decide,fS⟩) fS
 refine⟨_,rfl,?_⟩
 have Gb:∀g∈kN ps++(dY++lK),cp 29 g/\(g.1≠0∨g.2.1≠0∨g.2.2≠0):=fun g aD=>by
  rcases SI.mp aD with z|z
  ·obtain⟨e,au,rfl⟩:=SJ.mp z;obtain⟨bF,bS⟩:=iq au;exact⟨((cT _ bF).1.bp.crs (cT _ bS).1.bp).mono (by decide),fL.line au⟩
  ·rcases SI.mp z with z|z
   ·exact bC.lb g z
   ·exact cb.lb g z
 have cZ:=kL.of Gb;have six:∀x∈ps,x.2.2∣kM (kN ps++(dY++lK)):=fun x aj=>Tg (cT x aj).2.2.1 (yd _)
 have tE:TE (kM (kN ps++(dY++lK)))<=3700:=by
  refine SA (Eg fun h z=>(Gb h z).1) (SA (Eh 29 (b:=11) ?_) (by decide));have:=bC.ll;have:=cb.ll;rw[SE,SE,show(kN ps).length=ps.length by unfold kN;rw[Sz,Nu]];lia
 have av:=bC.rl _ _ cZ (fun g aD=>by
  rcases SI.mp aD with z|z
  ·exact Tf _ z
  ·exact SN _ (Tf _ z)) six
 have aK:=cb.rl _ _ cZ (fun g aD=>by
  rcases SI.mp aD with z|z
  ·exact Tf _ z
  ·exact SN _ (SN _ z)) six
 refine⟨_,rfl,_,0,_,.inr rfl,rfl,rfl,_,rfl,_,1,_,.inr rfl,rfl,rfl,rfl,sh,bE,_,_,rfl,cZ,bZ,b0,fun s ak=>?_,fun f bj gP bG=>?_⟩
 ·rcases SI.mp ak with z|z
  ·exact⟨bC.rg s z,av s z,bC.ln s z,aO s z⟩
  ·exact⟨cb.rg s z,aK s z,cb.ln s z,aT s z⟩
 dsimp only[c8];have all:=PS fL bC cb cZ (fun s ak=>⟨av s ak,aO s ak⟩) (fun s ak=>⟨aK s ak,aT s ak⟩) gP bG;generalize bj.flatMap gE=ms at all ⊢;clear gP bG;have yA:=Ec (kN ps++(dY++lK));generalize kM (kN ps++(dY++lK))=Rt at *
 have dh:has (.L w7) (.lst [.lst (sh.map a9),.lst (bE.map a9)])=true:=by
  have a:=BZ sh;have b:=BZ bE;show(([.lst (sh.map a9),.lst (bE.map a9)]:List D).all fun x=>has w7 x)=true
  rw[List.all_cons,List.all_cons,a,b];rfl
 have Ru:=za ms all.len;have xI:∀x∈ps,cq 90 x:=fun x aj=>(cT x aj).1.mono (by decide);refine lg (fun N aW=>?_) ?_
 ·refine⟨_,rfl,_,rfl,_,rfl,show 2<=SZ by decide,_,dh,dh,by decide,_,rfl,v9 (fun h=>absurd rfl h) (fun _=>?_)⟩;exact⟨_,rfl,_,_,rfl,fun _=>rfl,_,rfl,jG aW⟩
 refine⟨show 3<=SZ by decide,?_⟩;dsimp only;refine gm (fun ρ=>∃(e0:aI),ρ=[.val (.scr ns),.val (.lst (ps.map dP)),.bag,.val (.lst (sh.map a9)),.val (.lst (bE.map a9)),.val (.lst [.lst (sh.map a9),.lst (bE.map a9)]),.val (.lst (ms.map a9)),.val (dP (lA ps)),e0,.no,.no,.no,.no,.no,.no,.no]) ?_ (fun N aW=>?_);rotate_left
 ·refine⟨_,rfl,_,rfl,?_⟩;refine oB (f:=a9) (done:=[]) (fun pre ρ=>∃(P:P3)(e0:aI),ρ=[.val (.scr ns),.val (.lst (ps.map dP)),.bag,.val (.lst (sh.map a9)),.val (.lst (bE.map a9)),.val (.lst [.lst (sh.map a9),.lst (bE.map a9)]),.val (.lst (ms.map a9)),.val (dP P),e0,.no,.no,.no,.no,.no,.no,.no]/\EZ Rt pre P) ⟨(0,0,1),_,rfl,⟨⟨(show(0:Int)<1 by decide),by decide⟩,rfl,?_⟩⟩ ?_ ?_
  ·show((0:Int):Rat)/((1:Int):Rat)=0
   rw[show(((0:Int)):Rat)=0 from rfl];grind
  ·rintro pre m rest ρ dQ ⟨P,e0,rfl,da⟩ N aW;have dQ:ms=pre++m::rest:=by simpa using dQ
   have aB:m∈ms:=by rw[dQ];simp
   have h2:=all.ok m aB;have fJ:m.1.length=3:=by obtain⟨a,b,c,e,_⟩:=h2.tri;rw[e];rfl
   have o5:=PT yA tE all.ok dQ (by rw[all.ar];exact PQ (fun p aq=>(cT p aq).2) tT) da;obtain⟨cH,cn,fM⟩:=CX (ps:=m.1) fun p aq=>(h2.gp p aq).pt.1;have tb:cp 1000 (lA m.1):=(MY (n:=3) (by lia) h2.gp).mono (by decide);refine⟨_,rfl,rfl,m,rfl,h2.tri,h2.gp,h2.st,_,rfl,jG ?_⟩;refine⟨_,rfl,_,rfl,_,0,_,.inl rfl,rfl,rfl,rfl,m.1,rfl,by lia,by lia,h2.gp,?_⟩;dsimp only[c8];refine⟨rfl,P,lA m.1,rfl,da.pt.1,cH.1,o5,tb,?_⟩;dsimp only[c8];obtain⟨c6,dt,hJ⟩:=ND da.pt cH;refine aW _ ⟨_,_,rfl,⟨c6,dt,?_⟩⟩;refine Eq.trans hJ ?_;rw[da.v,fM,S9,Vg,SV,To,UT,List.sum_nil,Ub]
  ·rintro ρ ⟨P,e0,rfl,da⟩;obtain⟨cH,cn,fM⟩:=CX (ps:=ps) fun p aq=>(xI p aq).pt.1;have e:P=lA ps:=NE da.pt cH da.y0 cn (by rw[fM,<-all.ar];exact da.v);exact aW _ ⟨e0,by rw[e]⟩
 rintro ρ ⟨e0,rfl⟩;refine lg (fun N aW=>?_) ?_
 ·refine⟨_,rfl,_,rfl,rfl,ps,rfl,by lia,by lia,xI,?_⟩;exact⟨.T [.I,.I,.I],rfl,rfl,by decide,_,rfl,v9 (fun h=>absurd rfl h) (fun _=>aW)⟩
 refine gm (fun ρ=>True) (fun ρ _=>ah) (fun N aW=>?_);refine⟨_,rfl,by decide,by decide,?_⟩;refine mj (n:=8) (fun i ρ=>∃iB e0 i7 v10 v11 Gc Gd Ge Gf:aI,ρ=[.val (.scr ns),.val (.lst (ps.map dP)),.bag,.val (.lst (sh.map a9)),.val (.lst (bE.map a9)),.val (.lst [.lst (sh.map a9),.lst (bE.map a9)]),.val (.lst (ms.map a9)),iB,e0,i7,v10,v11,Gc,Gd,Ge,Gf]) ⟨_,_,_,_,_,_,_,_,_,rfl⟩ ?_ (fun ρ _=>aW _ trivial);rintro i ρ aC ⟨iB,e0,i7,v10,v11,Gc,Gd,Ge,Gf,rfl⟩ N aW;refine⟨_,rfl,rfl,rfl,ps,rfl,by lia,tT,cT,fun z qX=>?_⟩;dsimp only[c8];have nU:cq 90 z:=qX.mono (by decide);refine⟨_,rfl,_,rfl,rfl,sh,z,rfl,bZ,fun s ak=>⟨bC.ln s ak,fun c kU=>((av s ak).pts c kU).1.mono (by decide)⟩,nU,fun near aH=>?_⟩;dsimp only[c8];refine⟨_,rfl,_,rfl,rfl,bE,z,rfl,b0,fun s ak=>⟨cb.ln s ak,fun c kU=>((aK s ak).pts c kU).1.mono (by decide)⟩,nU,fun Rv bG=>?_⟩;dsimp only[c8];cases near with
 | none=>exact⟨_,rfl,rfl,_,rfl,gk rfl (gk rfl (aW _ ⟨_,_,_,_,_,_,_,_,_,rfl⟩))⟩
 | some s =>
 cases Rv with
 | none=>exact⟨_,rfl,rfl,_,rfl,gl rfl ⟨_,rfl,rfl,_,rfl,gk rfl (aW _ ⟨_,_,_,_,_,_,_,_,_,rfl⟩)⟩⟩
 | some o =>
 obtain⟨ak,b7⟩:=aH s rfl;obtain⟨aA,Rw⟩:=bG o rfl;refine lg (fun N aW=>?_) ?_
 ·exact⟨_,rfl,rfl,_,rfl,gl rfl ⟨_,rfl,rfl,_,rfl,gl rfl aW⟩⟩
 refine⟨_,rfl,_,rfl,rfl,s,z,rfl,aO s ak,nU,?_⟩;dsimp only[c8];refine⟨_,rfl,_,rfl,rfl,o,z,rfl,aT o aA,nU,?_⟩;dsimp only[c8];have Gg:cq 200 (cQ s z):=(nU.fir (aO s ak)).mono (by decide);refine⟨_,rfl,_,rfl,Ru,?_⟩;refine s2 (f:=a9) (h:=a9) (P:=fun m=>(!decide (wi m.1 (cQ s z)=0))&&eqD (dP (qv m.2.1 m.2.2 (cQ s z))) (dP (cQ o z))) (fs:=[.val (dP (cQ s z)),.val (dP (cQ o z))]) (fun m aB bP fS=>?_) (fun m aB bP fS=>⟨_,rfl,fS⟩) ?_
 ·have h2:=all.ok m aB;have fJ:m.1.length=3:=by obtain⟨a,b,c,e,_⟩:=h2.tri;rw[e];rfl
  refine⟨_,rfl,_,0,_,.inl rfl,rfl,rfl,_,rfl,rfl,m.1,cQ s z,rfl,by lia,fun p aq=>(h2.gp p aq).mono (by decide),Gg.bp.mono (by decide),?_⟩;refine⟨_,_,rfl,rfl,_,rfl,?_⟩;by_cases hw:wi m.1 (cQ s z)=0
  ·refine gl (by rw[Xd hw];rfl) ?_;rw[Xd hw]at fS;exact fS
  ·refine gk (by rw[WS hw];rfl) ?_;rw[WS hw]at fS;exact⟨_,rfl,_,rfl,rfl,m,cQ s z,rfl,h2.st,Gg,_,rfl,.T [.I,.I,.I],rfl,rfl,by decide,_,rfl,fS⟩
 refine⟨_,rfl,?_⟩;dsimp only;refine⟨_,rfl,_,rfl,za _ (SA (T' _ _) all.len),?_⟩;refine s2 (f:=a9) (h:=a9) (P:=fun m=>eqD (.bl m.2.1) (.bl (s.2.1 != o.2.1))) (fs:=[.val (a9 s),.val (a9 o)]) (fun m aB bP fS=>?_) (fun m aB bP fS=>⟨_,rfl,fS⟩) ?_
 ·refine⟨_,rfl,_,1,_,.inl rfl,rfl,rfl,_,rfl,_,1,_,.inl rfl,rfl,rfl,_,rfl,_,1,_,.inl rfl,rfl,rfl,.B,rfl,rfl,by decide,.B,rfl,rfl,by decide,_,rfl,?_⟩;rw[TI rfl,TT SP,EM];exact fS
 obtain⟨cS,Rx,eU,dW⟩:=all.pt s ak o aA z nU.pt b7 Rw;refine⟨_,rfl,_,_,rfl,rfl,_,rfl,gi (fun bY=>?_) (fun _=>aW _ ⟨_,_,_,_,_,_,_,_,_,rfl⟩)⟩
 have mem:cS∈(ms.filter fun m=>(!decide (wi m.1 (cQ s z)=0))&&eqD (dP (qv m.2.1 m.2.2 (cQ s z))) (dP (cQ o z))).filter fun m=>eqD (.bl m.2.1) (.bl (s.2.1 != o.2.1)):=by
  refine Tw.mpr ⟨Tw.mpr ⟨Rx,?_⟩,?_⟩
  ·rw[dW,PF (aO s ak).pt (aT o aA).pt nU.pt,ox,WS eU];rfl
  ·rw[dW];exact ox _
 have len:=Wu mem;rw[Sz]at bY;lia
theorem all_mk{l:PySem.W.OpenLaw}{w:WU}{K:Su}{h:WY}{mg:Str->Option SC}{et:Tl}(Z:∀x∈lams,x' K x)(Y:Tab tabs K)(X:K.In h)(G:h.Ns TW mg)(Ry:mg "law"=some (.ref et))
  : ∃fd:Xf,(∀(s:SL)(v:SC),YG s fd ⟨[v],[]⟩ [("_law_script",v)])/\∀base:WY,K.In base->base.Ns TW mg->h8 l.prog w K mg base iK 8 et fd ["_law_script"] (r0 K):=by
 obtain⟨⟨Rz,x_point,RA,RB,RC,RD,RE,RF,RG,x_fresh,RH,RI,RJ,RK,RL,RM,RN,RO,RP,RR,RS,RT,RU,RV,RW,RX,RY,RZ,R0,R1,R2,R3,R4,R5,R6,R7,R8,R9,R',Sa,Sb,Sc,Sd,Se,Sf,Sg,_⟩,⟨Sh,Si,Sj,Sk,Sl,Sm,Sn,So,Sp,Sq,Sr,aaa,aab,aac,aad,aae,aaf,aag,aah,_⟩,⟨_⟩,⟨_⟩⟩:=Y;have aai:=Rz.fnd (ps:=["one","other"]) X G (by walk_at "b2");have aaj:=x_point.fnd (ps:=["a","b","n"]) X G (by walk_at "b3");have aak:=RA.fnd (ps:=["p","step"]) X G (by walk_at "b2");have aal:=RB.fnd (ps:=["p","q"]) X G (by walk_at "b2");have aam:=RC.fnd (ps:=["p"]) X G (by walk_at "b1");have aan:=RD.fnd (ps:=["one","other"]) X G (by walk_at "b2");have aao:=RE.fnd (ps:=["line","p"]) X G (by walk_at "b2");have aap:=RF.fnd (ps:=["p","q","r","s"]) X G (by walk_at "b4");have aaq:=RG.fnd (ps:=["ring"]) X G (by walk_at "b1");have aar:=x_fresh.fnd (ps:=["ring"]) X G (by walk_at "b1");have aas:=RH.fnd (ps:=["piece"]) X G (by walk_at "b1");have aat:=RI.fnd (ps:=["ring","p","q"]) X G (by walk_at "b3");have aau:=RJ.fnd (ps:=["sheet","p","q"]) X G (by walk_at "b3");have aav:=RK.fnd (ps:=["one","other"]) X G (by walk_at "b2");have aaw:=RL.fnd (ps:=["ring","piece","other"]) X G (by walk_at "b3");have aax:=RM.fnd (ps:=["sheets"]) X G (by walk_at "b1");have aay:=RN.fnd (ps:=["piece","scale"]) X G (by walk_at "b2");have aaz:=RO.fnd (ps:=["reaches"]) X G (by walk_at "b1");have aaA:=RP.fnd (ps:=["reaches"]) X G (by walk_at "b1");have aaB:=RR.fnd (ps:=["reaches","others"]) X G (by walk_at "b2");have aaC:=RS.fnd (ps:=["sheet","other"]) X G (by walk_at "b2");have aaD:=RT.fnd (ps:=["sheet","other"]) X G (by walk_at "b2");have aaE:=RU.fnd (ps:=["_law_script","_law_k"]) X G (by walk_at "b2");have aaF:=RV.fnd (ps:=["_law_cell_here"]) X G (by walk_at "b1");have aaG:=RW.fnd (ps:=["_law_bag_here","_law_many"]) X G (by walk_at "b2");have aaH:=RX.fnd (ps:=["_law_a","_law_b","_law_n"]) X G (by walk_at "b3");have aaI:=RY.fnd (ps:=["_law_p","_law_v"]) X G (by walk_at "b2");have aaJ:=RZ.fnd (ps:=["_law_p"]) X G (by walk_at "b1");have aaK:=R0.fnd (ps:=["_law_p","_law_q","_law_r"]) X G (by walk_at "b3");have aaL:=R1.fnd (ps:=["_law_p"]) X G (by walk_at "b1");have aaM:=R2.fnd (ps:=["_law_ring"]) X G (by walk_at "b1");have aaN:=R3.fnd (ps:=["_law_ring","_law_p"]) X G (by walk_at "b2");have aaO:=R4.fnd (ps:=["_law_ring"]) X G (by walk_at "b1");have aaP:=R5.fnd (ps:=["_law_one","_law_other"]) X G (by walk_at "b2");have aaQ:=R6.fnd (ps:=["_law_bag_here","_law_most"]) X G (by walk_at "b2");have aaR:=R7.fnd (ps:=["_law_bag_here","_law_most"]) X G (by walk_at "b2");have aaS:=R8.fnd (ps:=["_law_bag_here","_law_most"]) X G (by walk_at "b2");have aaT:=R9.fnd (ps:=["_law_bag_here","_law_most"]) X G (by walk_at "b2");have aaU:=R'.fnd (ps:=["_law_ring","_law_bag_here"]) X G (by walk_at "b2");have aaV:=Sa.fnd (ps:=["_law_ring","_law_bag_here","_law_many"]) X G (by walk_at "b3");have aaW:=Sb.fnd (ps:=["_law_sheet","_law_bag_here"]) X G (by walk_at "b2");have aaX:=Sc.fnd (ps:=["_law_piece","_law_p"]) X G (by walk_at "b2");have aaY:=Sd.fnd (ps:=["_law_move","_law_p"]) X G (by walk_at "b2");have aaZ:=Se.fnd (ps:=["_law_move"]) X G (by walk_at "b1");have aa0:=Sf.fnd (ps:=["_law_sheet","_law_spot_here"]) X G (by walk_at "b2");obtain⟨d2,aa1,cS,Gh⟩:=Sg;have e:=Ry.symm.trans (PySem.W.mg_of X G cS);cases e;have B:dc mg:=⟨Td X G Sh,Td X G Si,Td X G Sj,Td X G Sk,Td X G Sl,Td X G Sm,Td X G Sn,Td X G So,Td X G Sp,Td X G Sq,Td X G Sr,Td X G aaa,Td X G aab,Td X G aac,Td X G aad,Td X G aae,Td X G aaf,Td X G aag,Td X G aah⟩;have aa2:=Z "met" (by decide) h mg X G;refine⟨aa1,fun s v=>?_,fun base _ _=>?_⟩
 ·obtain⟨_,_,_,_,_,_,_,_,_,rfl,_⟩:=Gh.ex;exact .of_eq rfl
 have aa3:=PV (P:=l.prog) (w:=w) (base:=base) B  aaE;have aa4:=PX (P:=l.prog) (w:=w) (base:=base) B  aaF;have pa:=PY (P:=l.prog) (w:=w) (base:=base) B  aaG;have nV:=PZ (P:=l.prog) (w:=w) (base:=base) B  aaH;have zb:=P2 (P:=l.prog) (w:=w) (base:=base) B  aaI nV;have Gi:=P5 (P:=l.prog) (w:=w) (base:=base) B  aaJ;have zc:=P6 (P:=l.prog) (w:=w) (base:=base) B  aaK;have Gj:=P7 (P:=l.prog) (w:=w) (base:=base) B  aaL nV;have Gk:=P8 (P:=l.prog) (w:=w) (base:=base) B  aaM Gj zc;have Gl:=P' (P:=l.prog) (w:=w) (base:=base) B  aaN zc;have aa5:=Qa (P:=l.prog) (w:=w) (base:=base) B  aaO nV;have aa6:=Qc (P:=l.prog) (w:=w) (base:=base) B  aaP nV;have Gm:=Qd (P:=l.prog) (w:=w) (base:=base) B  aaQ pa nV;have aa7:=Qe (P:=l.prog) (w:=w) (base:=base) B  aaR pa nV;have aa8:=Qf (P:=l.prog) (w:=w) (base:=base) B  aaS Gm zc;have aa9:=Qh (P:=l.prog) (w:=w) (base:=base) B  aaT aa8 pa Gm Gk;have Gn:=Qk (P:=l.prog) (w:=w) (base:=base) B  aaU pa zb nV;have Go:=Ql (P:=l.prog) (w:=w) (base:=base) B  aai;have aa':=Qm (P:=l.prog) (w:=w) (base:=base) B  aaj Go;have Gp:=Qo (P:=l.prog) (w:=w) (base:=base) B  aan;have aba:=Qp (P:=l.prog) (w:=w) (base:=base) B  aao;have abb:=Qq (P:=l.prog) (w:=w) (base:=base) B  aap Gp aa';have Gq:=Qt (P:=l.prog) (w:=w) (base:=base) B  aat Gp aba abb;have abc:=Qx (P:=l.prog) (w:=w) (base:=base) B  aau Gq;have abd:=QA (P:=l.prog) (w:=w) (base:=base) B  aar;have abe:=QC (P:=l.prog) (w:=w) (base:=base) B  aaq;have abf:=QD (P:=l.prog) (w:=w) (base:=base) B  aav abe Gq;have ze:=QI (P:=l.prog) (w:=w) (base:=base) B  aam;have Gr:=QJ (P:=l.prog) (w:=w) (base:=base) B  aak Go;have abg:=QL (P:=l.prog) (w:=w) (base:=base) B  aal Gr ze;have abh:=QN (P:=l.prog) (w:=w) (base:=base) B  aas ze Gr;have abi:=QO (P:=l.prog) (w:=w) (base:=base) B  aaw abg ze abh;have abj:=QT (P:=l.prog) (w:=w) (base:=base) B aa2 aaB;have abk:=QU (P:=l.prog) (w:=w) (base:=base) B  aax;have abl:=QV (P:=l.prog) (w:=w) (base:=base) B  aay;have abm:=QX (P:=l.prog) (w:=w) (base:=base) B  aaz;have abn:=QZ (P:=l.prog) (w:=w) (base:=base) B  aaA;have abo:=Q0 (P:=l.prog) (w:=w) (base:=base) B  aaC abk abl abm abj abn;have abp:=Q5 (P:=l.prog) (w:=w) (base:=base) B  aaD abo abf abi;have abq:=Ra (P:=l.prog) (w:=w) (base:=base) B  aaV abd pa Gn abc;have abr:=Re (P:=l.prog) (w:=w) (base:=base) B  aaW aa7 pa;have abt:=Rg (P:=l.prog) (w:=w) (base:=base) B  aaX zb Gi;have abu:=Rh (P:=l.prog) (w:=w) (base:=base) B  aaY Gi zb;have abv:=Rj (P:=l.prog) (w:=w) (base:=base) B  aaZ Gk Gj;have abw:=Rk (P:=l.prog) (w:=w) (base:=base) B  aa0 Gl;exact Rl B Gh aa9 aa4 aa3 abr abq abp abv aa6 aa5 Gn abw abt Gl abu
end Cut
open PySem PySem.W PyProof.Rows
set_option maxRecDepth 100000 in
set_option maxHeartbeats 0 in
theorem PySem.Challenge.cw_slidecut_k50_sheets_laid_over_one_anothe_holds : PySem.Challenge.rw_slidecut_k50_sheets_laid_over_one_anothe.Holds := by
 refine holds_law Cut.said fun said => holds_open (XP := XL PySem.Challenge.pw_slidecut_k50_sheets_laid_over_one_anothe []) (YP := L3.saysL Cut.tabs Cut.lams) Cut.left (L3.ofL Cut.tabs Cut.lams) (L3.keepsL Cut.tabs Cut.lams) (fun s e => xl_of s (WQ.mp e).1) XL.keeps (by rfl) (by rfl) (by rfl) (fun s e => recFacts_of (WQ.mp e).2) (by rfl) said (by decide +kernel) ⟨rfl, rfl, rfl, rfl, rfl, by decide +kernel⟩ ?hw ?hc
 case hw => w_witness2
 case hc => exact L3.walkL (k := 8) rfl rfl ⟨rfl, by decide, by decide⟩ fun w K mg et h Z Y X G pw => Cut.all_mk Z Y X G pw
#print axioms PySem.Challenge.cw_slidecut_k50_sheets_laid_over_one_anothe_holds