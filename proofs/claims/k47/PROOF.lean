import PyProof.Rows.All
import Open.Line
import KE.KIsAll
import KE.KItem
import KE.IntBitsLaws
import OpenK.KCls
import OpenK.KList
import OpenK.KWalk
import OpenK.KCall
import OpenK.KMake
import Wide.FinOn
import Lean
import PyProof.EqAt
import PyProof.EqKinds
import PyProof.TupleCall
import PyProof.AttrMissHeap
import PyProof.Cells
import PyProof.AutoListH
import PyProof.AutoSeq1
import PyProof.SeqI3
import PyProof.Rows.SortWalk
import PyProof.DictItemsLoops
import PyProof.Rows.Range3
import PyProof.DictRoadsH
import PyProof.DictKinds
import PyProof.DictIter
import PyProof.DictWalks
import PyProof.DictValues
import PyProof.FactsAll.dict_values
import PyProof.FactsAll.dict_valueiterator
import PyProof.NeKinds
import PyProof.ExcBaseAll.ValueError
import PyProof.ZipIter
import PyProof.ListCopy
import PyProof.CollectWalk
import PyProof.SliceStr2
import PyProof.Rows.StrFirst
import PyProof.StrLawsFirst
import PyProof.StrLawsIn
import PyProof.StrBlockI
import PyProof.Rows.StrNews
import PyProof.EnumMake
import PyProof.EnumFor
import PyProof.EnumStmt
import PyProof.Rows.SetFrom
import PyProof.MinMaxWalk
import PyProof.WalkInts
import PyProof.FactsAll.tuple_1
import PyProof.FactsAll.tuple_2
import PySem.Challenge.RW_slidecut_k47_boxes_of_a_box
open PySem.Builtin.Int renaming intBits→wp
open PySem renaming wpAny_bind→SB,wpAny_pure→SC,Value→Tk,Shared→Tl,starEach→TD,intBits_mul_le→TE,Addr→TI,sizeLine→TT,wpAny_newObj_type→T0,Program→Uf,model→UF,natAbs_fdiv_le→UV,Expr→Wp,mainGlobals→WF,World→WP,wpAny_call_entry→W1,foldedSetIterable→Xu,Around→Xv,wpAny_holding→Xw,attributeBase→Xx,intBits_neg_le→Xz,Stmt→XA,Heap→XB,backTo→XC,wpAny_Call_Name_kw→XD,swapsWith→XE,behindInMarks→XF,wpAny_truthy_bool→XG,wpAny_setState_of→XH,codeAny_builtin→XI,eval→XJ,SetTable→XK,sysModules→XM,wpAny_mono→XN,wpAny_isInstance→XO,intBits_add_le→XQ,wpAny_passesOwn→XR,bootBuiltins→XS,wpAny_callSpecial?_slot→XT,compareOp→XU,wpAny_typeNameOfWhole_keyiter→XV,wpAny_typeNameOfWhole_valiter→XW,assignEach→XX,wpAny_setField→XY,cLine→XZ,sliceBounds→X0,wpAny_dictEntries→X1,firstArgMember→X2,FuncData→X3,hashInt→X4,intKind→X5,keywordEach→X6,Keyword→X7,reduceHash→X8,wpAny_typeNameOf_keyiter→X9,importedModules→X',wpAny_specialOf→Yb,sizeLine_eq→Yc,Builtin→Yd,wpAny_pyIter_slot→Ye,atKey_none_of_get→Yg,intBits_sub_le→Yh,isSubtype_tuple_tuple→Yi,wpAny_notOrdered_dict→Yj,wpAny_isOneOf_keyiter→Yk,wpAny_isOneOf_valiter→Yl,wpAny_forIn_list→Yn,wpAny_loadName_local→Yo,plainId_quiet→Yp,wpAny_rule→Yq,wpAny_loadName_cell→Yr,wpAny_execs_nil→Ys,letOwnedTupleGo→Yt,DictEntry→Yu,wpAny_dictEpoch→Yv,pyNext→Yx,codeAny_mono→Yy,wpAny_tupleItemsOf→Yz,wpAny_fieldsOf→YA,builtinsNs→YB,wpAny_Name→YC,rawInt→YD,wpAny_pyIter_list→YE,wpAny_getItem_list_slice→YF,Scope→YG,wpAny_standAt→YH,swapsWithSole→YI,swappedStores→YJ,binaryOp→YK,backToKw→YL,wpAny_askSetting→YM,wpAny_pyNext_list_item→YN,wpAny_Call_method_late→YQ,treeTable→YR,PassesOwn→YT,wpAny_pyNext_list_end→YU,wpAny_updateSeq→YW,intBits_le_of_natAbs→YX,isSubtype_stop→YY,dictSetDefault→YZ,wpAny_loadName_free→Y0,holding→Y1,wpAny_field→Y2,wpAny_of_eq→Y3,Arguments→Y4,assignInOrder→Y6,NameKind→Y7,evalPart_none→Y9,wpAny_pyHash_tuple→Za,wpAny_eqBool_tuple→Zb,wpAny_attempt→Zc,wpAny_handled→Zd,entryOfKey→Zf,callerA→Zg,IsTupleKey→Zh,intKind_is→Zi,assign→Zj,wpAny_typeOf→Zk,seqIndex_neg→Zl,isTrue→Zo,IsPart→Zp,seqIndex_of→Zq,slicePick→Zr,notedBy→Zs,eqIsQuiet→Zt,atKey→Zu,wpAny_throw→Zv,storedH_new→Zw,pyIter→Zx,standAt→Zy,bindName→Zz,BindsTo→ZA,bindArgs→ZB,getItem→ZC,compEnvC→ZD,setField→ZE,newExc→ZF
open PyProof.Rows renaming IntsAre→Ym,assignInOrder_cons→Yw,subscriptTail_builtinR→YO,AllBare→YS,get?_update_seq→YV,envOfC→Y8,subscriptTail→Y',seqObj→Ze
open PySem.W renaming openEnds→Y5,openSeen→Zm,openGood→Zn
abbrev SL:=@if_pos
abbrev SZ:=@if_neg
abbrev TW:=@congrArg
abbrev Xy:=@decide_eq_true
open Int renaming gcd->Ak,ne_of_gt->Sz,mul_pos->SE,mul_ne_zero->SS,mul_zero->SW,mul_neg_of_pos_of_neg->SX,mul_comm->S2,dvd_trans->Ti,le_of_lt->Tu,mul_eq_zero->Tv,mul_nonneg->Tw,eq_of_mul_eq_mul_right->TF,gcd_comm->TL,dvd_mul_of_dvd_right->TN,emod_nonneg->TS,natAbs_mul->TZ,zero_mul->T3,lt_trichotomy->T4,neg_mul_neg->T5,emod_lt_of_pos->T6,pos_of_mul_pos_right->T',mul_neg_of_neg_of_pos->Uc,mul_assoc->Uh,mul_pos_of_neg_of_neg->Uw,neg_dvd->UD,mul_fdiv_cancel_left->UE,neg_mul->UG,ofNat_dvd_left->UH,mul_ediv_cancel'->UP,gcd_dvd_right->UX,natAbs_dvd_natAbs->UZ,pos_of_mul_pos_left->U1,neg_gcd->U5,mul_one->U6,gcd_pos_of_ne_zero_right->Vb,gcd_dvd_left->Vc,toNat_natCast->Vl,lt_or_eq_of_le->Vq,mul_nonneg_of_nonpos_of_nonpos->Vr,mul_neg->Vx,toNat->VJ,gcd_mul_left->VW,dvd_coe_gcd->V5,dvd_sub->V6,add_comm->V7,one_mul->Wl,sub_zero->Wm,fdiv_eq_ediv_of_nonneg->Wx,fdiv_eq_ediv_of_dvd->WC,eq_ofNat_of_zero_le->WT,gcd_zero_right->WU,eq_of_mul_eq_mul_left->W2,gcd_pos_of_ne_zero_left->W3,natAbs_natCast->W4,mul_ediv_cancel_left->Xc
open PySem.W renaming Frag->F6,mg_none_of->Tc,kia_one->TQ,fnOf->UC,keepIn->U7,instObj->VL,methodObj->VM,lookIn->VP,kitOne->VQ,codeIn->VS,plainGet->WG,findIn->WH,kitx_list->WI,kitx_dict->WJ,callWith_K->WK,cellsFrom_some->WL
open List renaming mem_cons_self->Sv,length_map->Sw,mem_cons_of_mem->Sy,map_cons->SD,mem_cons->SG,length_append->SH,map_append->SI,mem_map->SJ,length_cons->SK,mem_singleton->SM,sum_cons->SN,append_nil->SO,map_map->SQ,mem_append->SR,range->SV,size_toArray->SY,replicate->S0,length->S1,getElem?_map->S4,getElem?_eq_getElem->S5,append_assoc->S7,Nodup->S',nil_append->Ta,forall_mem_nil->Tb,getElem?_eq_none->Th,forall_mem_cons->Tj,getElem?_append_right->To,cons_append->Tp,not_mem_nil->Tr,mem_append_right->Ts,mem_of_getElem?->Tt,map_nil->Tz,getElem?_append_left->TC,flatten_cons->TG,nodup_cons->TJ,length_singleton->TK,map_congr_left->TM,mem_append_left->TO,getElem?_set_ne->TP,mem_range->TV,getElem?_set_self->TX,getElem?_eq_some_iff->T8,length_replicate->T9,set_set->Ua,sum_append->Ue,length_set->Ug,getElem?_of_mem->Ui,ext_getElem?->Uj,mem_filter->Up,getElem?_replicate->Ur,length_range->Ut,sum_nil->Ux,map->Uy,drop_eq_getElem_cons->UI,take_of_length_le->UK,singleton_sublist->UO,eq_nil_or_concat->UQ,concat_eq_append->UR,drop_length->U0,filter_append->U2,length_take->U8,length_drop->U9,reverse_cons->Va,getElem?_range->Vh,all_eq_true->Vj,getElem_mem->Vn,length_filter_le->Vs,filter_cons->VA,mem_flatten->VI,isEmpty_map->VK,filterMap_cons->VN,of_mem_zip->VR,eq_nil_of_length_eq_zero->V4,length_pos_iff->V9,length_pos_of_mem->V',dropLast_concat_getLast->Wa,exists_mem_of_ne_nil->Wb,take_succ->We,nodup_append->Wj,pairwise_cons->Wr,perm_append_comm->Wt,dropLast_concat->Wv,mem_filterMap->WD,take_sublist->WN,filterMap_map->WQ,getElem?_eq_none_iff->WZ,getElem?_inj->W0,filter_cons_of_pos->W5,filter_cons_of_neg->W6,mem_erase_of_ne->W7,length_erase_of_mem->W8,getElem?_cons_succ->Xb,isEmpty_iff->Xd,mem_iff_getElem->Xf,take_append_drop->Xh,length_flatten->Xn,map_eq_nil_iff->Xo,length_eq_zero_iff->Xp,append_cancel_left->Xq
open Nat renaming le_refl->Sx,le_trans->SA,ne_of_lt->S3,zero_le->S8,lt_of_lt_of_le->Tf,gcd->Tg,lt_irrefl->Tx,mod_eq_of_lt->TA,zero_add->TR,mul_add->Ud,mod_lt->Uv,ne_of_gt->UA,le_of_lt->UT,gcd_dvd_left->UY,le_add_right->U4,gcd_dvd_right->Vd,dvd_trans->Ve,gcd_mul_left->Vf,add_mod_right->Vo,le_succ->Vp,pow_succ->Vt,succ_pos->Vu,lt_succ_of_lt->Vz,max_self->VB,mul_le_mul_left->VF,le_max_left->VG,le_max_right->VH,le_of_not_lt->VU,gcd_comm->VV,eq_of_mul_eq_mul_left->VX,mul_comm->VZ,le_of_dvd->V1,add_assoc->Wh,lt_trans->Wk,add_mul->Wn,add_comm->Wo,not_lt_zero->Wq,mul_le_mul->WB,gcd_mul_right->WV,le_of_ble_eq_true->WW,lt_of_le_of_lt->Xa
open Or renaming inl->SF,inr->SP
open Option.some renaming inj->SU,injEq->Vm
open Bool renaming false_ne_true->S6,false_eq_true->Tq,not_true->Ul,and_eq_true->Us,not_false->Vv,false_and->VO,eq_iff_iff->V3,beq_eq_decide_eq->WS,and_eq_true_iff->Xr
open Ne renaming symm->S9
open Rat renaming mul_pos->Td,le_of_lt->Te,mul_le_mul_of_nonneg_right->T7,intCast_mul->Ub,div_def->Um,mul_le_mul_of_nonneg_left->Uz,inv_pos->U3,div_mul_cancel->VC,mul_lt_mul_of_pos_right->VD,intCast_neg->VE,intCast_add->Wc,zero_mul->Ww,div_lt_iff->Wy,le_of_mul_le_mul_right->Wz,neg_mul->WA,mul_lt_mul_of_pos_left->Xk
open Array renaming length_toList->Tn,getElem?_toList->UW,getElem?_eq_none->Vw,getElem?_eq_getElem->Vy,size_push->Wf,forIn_toList->Wg,mem_toList_iff->WE,toList_push->Xg,getElem?_eq_none_iff->Xi
open Classical renaming byContradiction->TB,propDecidable->Uu
open Prod renaming snd->TH,ext->TU
open False renaming elim->TY
open List.cons renaming inj->Uk,injEq->UM
open Sum renaming inl->Un,inr->Uo
open PySem renaming mem_of_lookup->Uq,sizeLine->US,Env->Vg,natAbs_fdiv_le->VY,evalArgs_none->WR
open PyProof.Rows renaming callWith_type1->UB,slot_tuple_getitem->VT,envOfC->V2,callWith_builtin1->WO
open Option renaming map_some->UJ,getD_none->U',isSome_iff_exists->WM,isSome_map->W9
open Prod.mk renaming injEq->UL
open List.Sublist renaming append->UN,refl->V8
open True renaming intro->UU
open PySem.F renaming plainAttrs_list->Vi,plainAttrs_dict->Wi,slot_list_append->WX,type_list_append->WY,slot_dict_get->W',slot_dict_setdefault->Xe,slot_dict_values->Xl
open ForInStep renaming yield->Vk
open PySem.Builtin.Int renaming intBits->V0
open List.Perm renaming append_left->Ws,refl->Xm
open PyProof.Rows.F renaming plain_set_update_loop->Wu,entry_set_update_loop->Xj
abbrev ZW:=List (PySem.Addr×PySem.Obj)
abbrev ZV:=List PySem.Keyword
abbrev ZU:=List PySem.Stmt
abbrev ZT:=List PySem.Expr
abbrev ZS:=List PySem.Addr
abbrev ZR:=List PySem.Value
abbrev ZQ:=List PySem.Str
abbrev ZN:=List Nat
abbrev ZG:=List Int
abbrev ZX:=List ZG
set_option Elab.async false
set_option linter.all false
theorem n2:3<=US:=by decide
theorem gJ:2<=US:=by decide
theorem l9:1<=US:=by decide
theorem uR:0<=US:=by decide
theorem j1:10000<=US:=by decide
theorem aR{a b c:Nat}(h:a<=b)(g:b<=c:=by decide):a<=c:=SA h g
namespace L3
open PySem PySem.W
def pk(h:XB)(name:Str):Option (Option Tk):=match h.get? WF with
 |some ⟨_,_,.dict es _,_⟩=>(match es.toList.find? (·.key.isStr name)with
   |some e=>some (some e.val)
   |none=>if es.toList.any (·.refKey)then none else some none)
 |_=>none
def x1(h:XB)(ft:Tk)(q:Str):Bool:=match ft with
 |.ref c=>(match h.get? c with
   |some ⟨_,_,.fields vs,_⟩=>(match vs.toList with|_::.str n _::_=>n==q|_=>false)
   |_=>false)
 |_=>false
def uS(h:XB)(x:Str):Option (Str×Str×Y4×FuncBody×YG×TI×List (Str×TI)×Tk×TI×Bool):=match pk h x with
 |some (some (.ref f))=>(match h.get? f with
  |some ⟨_,_,.func fd,_⟩=>some (fd.name,fd.qualname,fd.params,fd.body,fd.scope,fd.globals,fd.closure,fd.defaults,fd.builtins,x1 h fd.code x)
  |_=>none)
 |_=>none
def uT(x:Str)(st:XA):Option (Str×Str×Y4×FuncBody×YG×TI×List (Str×TI)×Tk×TI×Bool):=match st with
 |.FunctionDef _ a b _ _ _ sc _ _ _=>some (x,x,a,.stmts b,sc,WF,[],.none,YB,true)
 |_=>some (x,x,⟨[],[],none,[],[],none,[]⟩,.stmts [],{kind:=.function,names:=[],isGenerator:=false,isCoroutine:=false},WF,[],.none,YB,true)
def uU(h:XB)(x:Str):Option (Str×Int×Int):=match pk h x with
 |some (some (.ref p))=>(match h.get? p with
  |some ⟨.type "tuple",_,.seq its _,_⟩=>(match its.toList with|[.int i _,.int j _]=>some (x,i,j)|_=>none)
  |_=>none)
 |_=>none
def uV(h:XB)(x:Str):Option (Str×(Int ⊕ Str)):=match pk h x with
 |some (some (.int i _))=>some (x,.inl i)
 |some (some (.str s _))=>some (x,.inr s)
 |_=>none
abbrev da(x:Str)(s:XA):Str×XA:=(x,s)
abbrev JR(x:Str)(i j:Int):Str×Int×Int:=(x,i,j)
structure n3 where
 fs:List (Str×XA)
 bs:ZQ
 ts:List (Str×Int×Int)
 cs:List (Str×(Int ⊕ Str))
abbrev Seen:Type:=List (Option (Str×Str×Y4×FuncBody×YG×TI×List (Str×TI)×Tk×TI×Bool))×List (Option (Option Tk))×List (Option (Str×Int×Int))×List (Option (Str×(Int ⊕ Str)))
def r3(t:n3)(s:Tl):Seen:=(t.fs.map λp=>uS s.heap p.1,t.bs.map λb=>pk s.heap b,t.ts.map λp=>uU s.heap p.1,t.cs.map λp=>uV s.heap p.1)
def r4(t:n3)(_:WP):Seen:=(t.fs.map λp=>uT p.1 p.2,t.bs.map λ_=>some none,t.ts.map λp=>some p,t.cs.map λp=>some p)
theorem map_two{α β γ:Type}{E:Option α}{F:α->β×γ}{a:β×γ}(h1:E.map (λs=>(F s).1)=some a.1)(h2:E.map (λs=>(F s).2)=some a.2):E.map F=some a:=by
 cases E with
 |none=>cases h1
 |some x=>
  have ai:=SU h1;have ap:=SU h2;exact TW some (TU ai ap)
theorem JS{p q:Uf}{loose:ZQ}{Xt:Tl->Bool}{α:Type}{Yf:Tl->α}{Ya:WP->α}{N:Nat}(h1:∀w:WP,(Y5 YR p w N).map (λs=>(Zm q loose (X' p.main.body) Xt true s).1)=some (Zn q loose).1)(h2:∀w:WP,(Y5 YR p w N).map (λs=>(Zm q loose (X' p.main.body) Xt true s).2)=some (Zn q loose).2)(aF:∀w:WP,(Y5 YR p w N).map Yf=some (Ya w)):LeftO p q loose Xt Yf Ya N:=
 λw=>map_two (F:=λs=>(Zm q loose (X' p.main.body) Xt true s,Yf s)) (a:=(Zn q loose,Ya w)) (map_two (h1 w) (h2 w)) (aF w)
end L3
namespace Cut
open PySem L3
def top(i:Nat):XA:=PySem.Challenge.pw_slidecut_k47_boxes_of_a_box.main.body.getD i (.Pass ⟨0,0,0,0⟩)
abbrev x2:XA:=top 6
abbrev x3:XA:=top 7
abbrev x4:XA:=top 8
abbrev x5:XA:=top 9
abbrev x6:XA:=top 10
abbrev x7:XA:=top 11
abbrev x8:XA:=top 12
abbrev x9:XA:=top 13
abbrev x':XA:=top 14
abbrev ya:XA:=top 16
abbrev yb:XA:=top 17
abbrev yc:XA:=top 18
abbrev yd:XA:=top 19
abbrev ye:XA:=top 20
abbrev yf:XA:=top 21
abbrev yg:XA:=top 23
abbrev yh:XA:=top 24
abbrev yi:XA:=top 25
abbrev yj:XA:=top 26
abbrev yk:XA:=top 27
abbrev yl:XA:=top 28
abbrev ym:XA:=top 29
abbrev yn:XA:=top 30
abbrev yo:XA:=top 32
abbrev yp:XA:=top 33
abbrev yq:XA:=top 34
abbrev yr:XA:=top 35
abbrev yt:XA:=top 36
abbrev yu:XA:=top 37
abbrev yv:XA:=top 38
abbrev yw:XA:=top 40
abbrev yx:XA:=top 41
abbrev yy:XA:=top 42
abbrev yz:XA:=top 43
abbrev yA:XA:=top 44
abbrev yB:XA:=top 45
abbrev yC:XA:=top 46
abbrev yD:XA:=top 47
abbrev yE:XA:=top 48
abbrev yF:XA:=top 49
abbrev yG:XA:=top 50
abbrev yH:XA:=top 51
abbrev yI:XA:=top 52
abbrev yJ:XA:=top 56
abbrev yK:XA:=top 57
abbrev yL:XA:=top 58
abbrev yM:XA:=top 60
abbrev yN:XA:=top 61
abbrev yO:XA:=top 62
abbrev yP:XA:=top 63
abbrev yQ:XA:=top 64
abbrev yR:XA:=top 65
abbrev yS:XA:=top 66
abbrev yT:XA:=top 67
abbrev yU:XA:=top 68
abbrev yV:XA:=top 69
def tabs:n3:=⟨[da "greatest_divisor" x2,da "plus" x3,da "minus" x4,da "times" x5,da "over" x6,da "under" x7,da "against" x8,da "least_whole" x9,da "most_whole" x',da "point" ya,da "at" yb,da "slid" yc,da "crossed" yd,da "hand_of" ye,da "meet" yf,da "cut_ring" yg,da "cut_sheet" yh,da "cut_upright" yi,da "cut_level" yj,da "moved" yk,da "slices" yl,da "columns_of" ym,da "layers_of" yn,da "piled" yo,da "in_columns" yp,da "in_layers" yq,da "in_three" yr,da "widened" yt,da "piled_by_width" yu,da "column" yv,da "_law_cell" yw,da "_law_bag" yx,da "_law_draw" yy,da "_law_measure" yz,da "_law_low" yA,da "_law_spot" yB,da "_law_whole" yC,da "_law_line" yD,da "_law_count" yE,da "_law_part" yF,da "_law_left" yG,da "_law_is_spot" yH,da "_law_is_bulging" yI,da "_law_first" yJ,da "_law_kept" yK,da "_law_lies" yL,da "_law_product" yM,da "_law_less" yN,da "_law_pin" yO,da "_law_box" yP,da "_law_is_box" yQ,da "_law_is_low" yR,da "_law_size" yS,da "_law_lines" yT,da "_law_cells" yU,da "law" yV],["len","abs","int","bool","tuple","isinstance","range","all","sum","list","ValueError","zip","str","enumerate","set","max","min","sorted","dict"],[JR "NOTHING" 0 1],[]⟩
open PySem.W in
set_option maxRecDepth 100000 in
set_option maxHeartbeats 0 in
theorem said:(PySem.Challenge.rw_slidecut_k47_boxes_of_a_box).wellSaid=true:=by kernel_rfl
open PySem.W in
set_option maxRecDepth 100000 in
set_option maxHeartbeats 0 in
theorem JT:∀w:WP,(Y5 YR (PySem.Challenge.rw_slidecut_k47_boxes_of_a_box).row.prog w 20000).map (λs=>(Zm PySem.Challenge.pw_slidecut_k47_boxes_of_a_box [] (X' (PySem.Challenge.rw_slidecut_k47_boxes_of_a_box).row.prog.main.body) (λs=>xlAt PySem.Challenge.pw_slidecut_k47_boxes_of_a_box [] s&&recOk (RowW.records (OpenRow.toRowW (PySem.Challenge.rw_slidecut_k47_boxes_of_a_box).row)) s) true s).1)=some (Zn PySem.Challenge.pw_slidecut_k47_boxes_of_a_box []).1:=λw=>by kernel_rfl
open PySem.W in
set_option maxRecDepth 100000 in
set_option maxHeartbeats 0 in
theorem JU:∀w:WP,(Y5 YR (PySem.Challenge.rw_slidecut_k47_boxes_of_a_box).row.prog w 20000).map (λs=>(Zm PySem.Challenge.pw_slidecut_k47_boxes_of_a_box [] (X' (PySem.Challenge.rw_slidecut_k47_boxes_of_a_box).row.prog.main.body) (λs=>xlAt PySem.Challenge.pw_slidecut_k47_boxes_of_a_box [] s&&recOk (RowW.records (OpenRow.toRowW (PySem.Challenge.rw_slidecut_k47_boxes_of_a_box).row)) s) true s).2)=some (Zn PySem.Challenge.pw_slidecut_k47_boxes_of_a_box []).2:=λw=>by kernel_rfl
open PySem.W in
set_option maxRecDepth 100000 in
set_option maxHeartbeats 0 in
theorem JV:∀w:WP,(Y5 YR (PySem.Challenge.rw_slidecut_k47_boxes_of_a_box).row.prog w 20000).map (r3 tabs)=some (r4 tabs w):=λw=>by kernel_rfl
open PySem.W in
set_option maxRecDepth 100000 in
set_option maxHeartbeats 0 in
theorem left:LeftO (PySem.Challenge.rw_slidecut_k47_boxes_of_a_box).row.prog PySem.Challenge.pw_slidecut_k47_boxes_of_a_box [] (λs=>xlAt PySem.Challenge.pw_slidecut_k47_boxes_of_a_box [] s&&recOk (RowW.records (OpenRow.toRowW (PySem.Challenge.rw_slidecut_k47_boxes_of_a_box).row)) s) (r3 tabs) (r4 tabs) 20000:=JS (p:=(PySem.Challenge.rw_slidecut_k47_boxes_of_a_box).row.prog) (q:=PySem.Challenge.pw_slidecut_k47_boxes_of_a_box) (loose:=[]) (Xt:=(λs=>xlAt PySem.Challenge.pw_slidecut_k47_boxes_of_a_box [] s&&recOk (RowW.records (OpenRow.toRowW (PySem.Challenge.rw_slidecut_k47_boxes_of_a_box).row)) s)) (Yf:=r3 tabs) (Ya:=r4 tabs) (N:=20000) JT JU JV
end Cut
set_option Elab.async false
set_option linter.all false
set_option maxRecDepth 100000
namespace L2
open PySem PySem.Spec PyProof.Rows
abbrev hV:=Sum Int Str
def C1:hV->Tk->Bool
 |.inl k,v=>Value.isInt k v
 |.inr x,v=>Value.isStrOf x v
def JW(w:WP):hV->Int
 |.inl k=>X4 k
 |.inr x=>hashStr w x
theorem mY:∀{k:hV}{v:Tk},C1 k v=true->(∃i t,k=Un i/\v=Value.int i t)\/(∃x t,k=Uo x/\v=Value.str x t)
 |.inl i,v,h=>by
  obtain⟨t,e⟩:=Value.isInt_shape (k:=i) (v:=v) h;exact .inl ⟨i,t,rfl,e⟩
 |.inr x,v,h=>by
  obtain⟨t,e⟩:=Value.isStrOf_shape (x:=x) (v:=v) h;exact .inr ⟨x,t,rfl,e⟩
theorem JX(a b:Int):decide ((Un a:hV)=Un b)=(a==b):=by
 by_cases e:a=b
 ·subst e;simp
 ·have h:¬(Un a:hV)=Un b:=λq=>e (Sum.inl.inj q);rw[decide_eq_false h];exact(beq_eq_false_iff_ne.mpr e).symm
theorem JY(a b:Str):decide ((Uo a:hV)=Uo b)=decide (a=b):=by
 by_cases e:a=b
 ·subst e;simp
 ·have h:¬(Uo a:hV)=Uo b:=λq=>e (Sum.inr.inj q);rw[decide_eq_false h,decide_eq_false e]
theorem JZ(a:Int)(b:Str):decide ((Un a:hV)=Uo b)=false:=decide_eq_false (λq=>nomatch q)
theorem J0(a:Str)(b:Int):decide ((Uo a:hV)=Un b)=false:=decide_eq_false (λq=>nomatch q)
def yW(prog:Uf)(w:WP):PySem.KeyKind prog w hV where
 is:=C1
 hash:=JW w
 inj:=λv a b aw ab=>by
  rcases mY aw with⟨i,t,rfl,rfl⟩|⟨x,t,rfl,rfl⟩
  ·rcases mY ab with⟨j,u,rfl,e⟩|⟨y,u,rfl,e⟩
   ·injection e with ai _;rw[ai]
   ·exact nomatch e
  ·rcases mY ab with⟨j,u,rfl,e⟩|⟨y,u,rfl,e⟩
   ·exact nomatch e
   ·injection e with ai _;rw[ai]
 byValue:=λk v h=>by
  rcases mY h with⟨i,t,rfl,rfl⟩|⟨x,t,rfl,rfl⟩<;>rfl
 pyHash:=λaH h=>by
  rcases mY aH with⟨i,t,rfl,rfl⟩|⟨x,t,rfl,rfl⟩
  ·exact wpAny_pyHash_int h
  ·exact wpAny_pyHash_str h
 eqBool:=λbo aH h=>by
  rcases mY bo with⟨i,t,rfl,rfl⟩|⟨x,t,rfl,rfl⟩
  ·rcases mY aH with⟨j,u,rfl,rfl⟩|⟨y,u,rfl,rfl⟩
   ·rw[JX]at h;exact wpAny_eqBool_int h
   ·rw[JZ]at h;exact SeqAt.EqAt.int_str i t y u _ _ _ _ h
  ·rcases mY aH with⟨j,u,rfl,rfl⟩|⟨y,u,rfl,rfl⟩
   ·rw[J0]at h;exact SeqAt.EqAt.str_int x t j u _ _ _ _ h
   ·rw[JY]at h;exact wpAny_eqBool_str h
 «strs»:=λk x t v h=>by
  rcases mY h with⟨i,u,rfl,e⟩|⟨y,u,rfl,e⟩
  ·exact nomatch e
  ·injection e with ai _
   subst ai
   cases v<;>rfl
inductive V where
 |non|bl (b:Bool)|int (i:Int)|str (x:Str)|byt (b:Array UInt8)|flt (b:UInt64)|ref (a:TI)|ty (n:String)
 deriving DecidableEq
abbrev ZJ:=List V
def RelV:V->Tk->Prop
 |.non,u=>u=Value.none
 |.bl b,u=>u=Value.bool b
 |.int i,u=>∃t,u=Value.int i t
 |.str x,u=>∃t,u=Value.str x t
 |.byt b,u=>∃t,u=Value.bytes b t
 |.flt b,u=>∃t,u=Value.float b t
 |.ref a,u=>u=Value.ref a
 |.ty n,u=>u=Value.type n
abbrev b5:ZJ->ZR->Prop:=Paired RelV
theorem b5.length{xs:ZJ}{us:ZR}(r:b5 xs us):xs.length=us.length:=Paired.length r
theorem b5.get:∀{xs:ZJ}{us:ZR}{i:Nat}{x:V},b5 xs us->xs[i]?=some x->∃u,us[i]?=some u/\RelV x u
 |_,_,_,_,.nil,e=>by simp at e
 |_,_,0,_,.cons r _,e=>by simp at e;subst e;exact⟨_,rfl,r⟩
 |_,_,i+1,x,.cons _ t,e=>by
  obtain⟨u,h1,h2⟩:=b5.get (i:=i) (x:=x) t (by simpa using e);exact⟨u,by simpa using h1,h2⟩
theorem b5.set{x:V}{u:Tk}(r:RelV x u):∀{xs:ZJ}{us:ZR}(i:Nat),b5 xs us->b5 (xs.set i x) (us.set i u)
 |_,_,_,.nil=>.nil
 |_,_,0,.cons _ t=>.cons r t
 |_,_,i+1,.cons q t=>.cons q (b5.set r i t)
theorem b5.append:∀{xs ys:ZJ}{us fD:ZR},b5 xs us->b5 ys fD->b5 (xs++ys) (us++fD)
 |_,_,_,_,.nil,s=>s
 |_,_,_,_,.cons r t,s=>.cons r (b5.append t s)
theorem b5.take:∀{xs:ZJ}{us:ZR}(n:Nat),b5 xs us->b5 (xs.take n) (us.take n)
 |_,_,0,_=>.nil
 |_,_,_+1,.nil=>.nil
 |_,_,n+1,.cons r t=>.cons r (b5.take n t)
theorem b5.drop:∀{xs:ZJ}{us:ZR}(n:Nat),b5 xs us->b5 (xs.drop n) (us.drop n)
 |_,_,0,r=>r
 |_,_,_+1,.nil=>.nil
 |_,_,n+1,.cons _ t=>b5.drop n t
def n4:Option V->Option Tk->Prop
 |some v,some u=>RelV v u
 |none,none=>True
 |_,_=>False
def yX{κ:Type}:List (κ×V)->List (κ×Tk)->Prop:=Paired λ(p:κ×V)(q:κ×Tk)=>p.1=q.1/\RelV p.2 q.2
def kV:hV->V
 |.inl i=>.int i
 |.inr x=>.str x
inductive e6 where
 |lst (xs:ZJ)
 |tup (xs:ZJ)
 |dK (kvs:List (hV×V))|dT (kvs:List (List hV×V))
 |set (S:Int->Bool) (n:Nat)
 |ins (C eD:TI) (fs:List (Str×V))
 |own (x:TI)
 |xd (fs:List (Str×V))
 |met (f x:TI)
 |rng (lo au:Int)
 |frz (o:Obj) (u:e6)
 |tbl (ps:Array Tk)
 |ext (φ:XB->Prop)
abbrev am:=TI->Option e6
def upd(H:am)(a:TI)(o:e6):am:=λb=>if b=a then some o else H b
theorem eP{H:am}{a:TI}{o:e6}:upd H a o a=some o:=by unfold upd;rw[SL rfl]
theorem de{H:am}{a b:TI}{o:e6}(h:b≠a):upd H a o b=H b:=by unfold upd;rw[SZ h]
theorem n5{H:am}{a b:TI}{o:e6}(h:H a=some o)(h':H b=none):a≠b:=by
 intro e;subst e;rw[h]at h';cases h'
section
variable(P:Uf)(w:WP)
def gz(H:am)(h:XB)(a:TI):e6->Prop
 |.lst xs=>xs.length<=TT/\∃(its:ZR)(n:Nat),b5 xs its/\h.get? a=some {cls:=.type "list",data:=.seq its.toArray n}
 |.tup xs=>xs.length<=TT/\∃its:ZR,b5 xs its/\IsTup h a its.toArray
 |.dK kvs=>kvs.length<=TT/\(a==XM)=false/\∃vs,yX kvs vs/\h.DictOf (yW P w) a vs
 |.dT kvs=>kvs.length<=TT/\(a==XM)=false/\∃xs:List (List hV×TI×Tk),
   Paired (λ(p:List hV×V)(q:List hV×TI×Tk)=>p.1=q.1/\H q.2.1=some (.tup (p.1.map kV))/\RelV p.2 q.2.2) kvs xs /\
   ∃o es ep,h.get? a=some o/\o.ExactDict/\o.data=.dict es ep/\es.toList=xs.map (Zf (tupleKind (yW P w)))/\(xs.map (·.1)).Nodup
 |.set S n=>h.SetOf (X5 P w) a S n
 |.ins C eD fs=>H eD=some (.own a)/\fs.length<=1000/\eD≠a/\h.get? a=some (VL C eD) /\
   ∃f1,h.Ns1 eD f1/\(∀f,n4 (fs.lookup f) (f1 f))/\PySem.Within f1 (fs.map (·.1))
 |.own _=>∃o,h.get? a=some o
 |.xd fs=>∃f1,h.Ns1 a f1/\∀f,n4 (fs.lookup f) (f1 f)
 |.rng lo au=>∃t u v,h.get? a=some {cls:=.type "range",data:=.fields #[.int lo t,.int au u,.int 1 v]}
 |.frz o u=>h.get? a=some o/\gz H h a u
 |.tbl ps=>h.get? a=some {cls:=.none,data:=.fields ps}
 |.met f x=>h.get? a=some (VM (.ref f) (.ref x))
 |.ext φ=>φ h/\(∃o,h.get? a=some o)/\∀h1 h2:XB,φ h1->(∀o,h1.get? a=some o->h2.get? a=some o)->φ h2
def e0(H:am)(h:XB):Prop:=∀a o,H a=some o->gz P w H h a o
end
section
variable{P:Uf}{w:WP}{H al:am}{h h':XB}{a:TI}{o:e6}
theorem gz.lt(x:gz P w H h a o):a<h.objs.size:=by
 cases o with
 |lst xs=>obtain⟨_,_,_,_,e⟩:=x;exact Heap.lt_size e
 |tup xs=>obtain⟨_,_,_,p⟩:=x;exact p.lt
 |dK kvs=>obtain⟨_,_,_,_,o,_,_,e,_⟩:=x;exact Heap.lt_size e
 |dT kvs=>obtain⟨_,_,_,_,o,_,_,e,_⟩:=x;exact Heap.lt_size e
 |set S n=>obtain⟨o,_,_,_,e,_⟩:=x;exact Heap.lt_size e
 |ins C eD fs=>obtain⟨_,_,_,e,_⟩:=x;exact Heap.lt_size e
 |own y=>obtain⟨_,e⟩:=x;exact Heap.lt_size e
 |xd fs=>obtain⟨_,⟨_,_,_,e,_⟩,_⟩:=x;exact Heap.lt_size e
 |rng lo au=>obtain⟨_,_,_,e⟩:=x;exact Heap.lt_size e
 |frz cx u=>obtain⟨e,_⟩:=x;exact Heap.lt_size e
 |tbl ps=>exact Heap.lt_size (show h.get? a=some _ from x)
 |met f y=>exact Heap.lt_size (show h.get? a=some _ from x)
 |ext φ=>obtain⟨_,⟨_,e⟩,_⟩:=x;exact Heap.lt_size e
theorem Paired.mapP{α β:Type}{F G:α->β->Prop}:∀{l₁:List α}{l₂:List β},Paired F l₁ l₂->(∀a b,F a b->G a b)->Paired G l₁ l₂
 |_,_,.nil,_=>.nil
 |_,_,.cons r t,f=>.cons (f _ _ r) (Paired.mapP t f)
theorem gz.stay(x:gz P w H h a o)(k:∀b u,(b=a\/H b=some (.own a))->h.get? b=some u->h'.get? b=some u)(aB:∀b,H b=some (.own a)->al b=some (.own a))(bQ:∀b xs,H b=some (.tup xs)->al b=some (.tup xs)):gz P w al h' a o:=by
 induction o with
 |lst xs=>obtain⟨z,its,n,r,e⟩:=x;exact⟨z,its,n,r,k _ _ (.inl rfl) e⟩
 |tup xs=>obtain⟨z,its,r,cx,e,c⟩:=x;exact⟨z,its,r,cx,k _ _ (.inl rfl) e,c⟩
 |dK kvs=>obtain⟨z,y,vs,r,cx,es,ep,e,c⟩:=x;exact⟨z,y,vs,r,cx,es,ep,k _ _ (.inl rfl) e,c⟩
 |dT kvs=>
  obtain⟨z,y,xs,r,cx,es,ep,e,c⟩:=x;exact⟨z,y,xs,Paired.mapP r λp q z=>⟨z.1,bQ _ _ z.2.1,z.2.2⟩,cx,es,ep,k _ _ (.inl rfl) e,c⟩
 |set S n=>obtain⟨cx,es,ep,t,e,c⟩:=x;exact⟨cx,es,ep,t,k _ _ (.inl rfl) e,c⟩
 |ins C eD fs=>
  obtain⟨d,z,ne,e,f1,⟨od,es,ep,ap,c⟩,r⟩:=x;exact⟨aB _ d,z,ne,k _ _ (.inl rfl) e,f1,⟨od,es,ep,k _ _ (.inr d) ap,c⟩,r⟩
 |own y=>obtain⟨cx,e⟩:=x;exact⟨cx,k _ _ (.inl rfl) e⟩
 |xd fs=>obtain⟨f1,⟨od,es,ep,e,c⟩,r⟩:=x;exact⟨f1,⟨od,es,ep,k _ _ (.inl rfl) e,c⟩,r⟩
 |rng lo au=>obtain⟨t,u,v,e⟩:=x;exact⟨t,u,v,k _ _ (.inl rfl) e⟩
 |frz cx u bN=>obtain⟨e,q⟩:=x;exact⟨k _ _ (.inl rfl) e,bN q⟩
 |tbl ps=>
  have e:h.get? a=some {cls:=.none,data:=.fields ps}:=x;show h'.get? a=some {cls:=.none,data:=.fields ps}
  exact k a _ (.inl rfl) e
 |met f y=>
  have e:h.get? a=some (VM (.ref f) (.ref y)):=x;show h'.get? a=some (VM (.ref f) (.ref y))
  exact k a _ (.inl rfl) e
 |ext φ=>obtain⟨p,⟨o,e⟩,st⟩:=x;exact⟨st _ _ p λo q=>k _ _ (.inl rfl) q,⟨o,k _ _ (.inl rfl) e⟩,st⟩
theorem e0.lt(x:e0 P w H h)(e:H a=some o):a<h.objs.size:=(x a o e).lt
theorem e0.fresh(x:e0 P w H h)(e:h.objs.size<=a):H a=none:=by
 cases q:H a with
 |none=>rfl
 |some u=>exact absurd (Tf (x.lt q) e) (Tx _)
theorem e0.kept(x:e0 P w H h)(k:∀b u,h.get? b=some u->h'.get? b=some u):e0 P w H h':=λa o e=>
 (x a o e).stay (λb u _ q=>k b u q) (λ_ q=>q) λ_ _ q=>q
theorem e0.laid(x:e0 P w H h)(k:∀b u,h.get? b=some u->h'.get? b=some u)(ae:h.objs.size<=a)(new:gz P w (upd H a o) h' a o):e0 P w (upd H a o) h':=λb u e=>by
 have aN:=x.fresh ae;by_cases ab:b=a
 ·subst ab;rw[eP]at e;cases e;exact new
 ·rw[de ab]at e;exact(x b u e).stay (λc v _ q=>k c v q) (λc q=>by rw[de (n5 q aN)];exact q) λc xs q=>by rw[de (n5 q aN)];exact q
end
def uW(H:am)(a:TI)(u:e6):Prop:=H a=some u\/∃o,H a=some (.frz o u)
theorem uW.ok{P:Uf}{w:WP}{H:am}{h:XB}{a:TI}{u:e6}(r:uW H a u)(x:e0 P w H h):gz P w H h a u:=by
 rcases r with r|⟨o,r⟩
 ·exact x a u r
 ·obtain⟨_,q⟩:=x a _ r;exact q
def uX:Option e6->Prop
 |some (.lst _)=>True
 |some (.dK _)=>True
 |some (.dT _)=>True
 |some (.set _ _)=>True
 |some (.ins _ _ _)=>True
 |some (.ext _)=>True
 |_=>False
section
variable{P:Uf}{w:WP}{H:am}{h h':XB}{x e:TI}{gi:e6}
theorem e0.write(ok:e0 P w H h)(gK:uX (H x))(ax:e=x\/H e=some (.own x))(k:∀b u,b≠e->h.get? b=some u->h'.get? b=some u)(qC:∃u,h'.get? e=some u)(new:gz P w (upd H x gi) h' x gi):e0 P w (upd H x gi) h':=λb u q=>by
 have C2:∀c y,H c=some (.own y)->c≠x:=λc y r z=>by subst z;rw[r]at gK;exact gK
 have J1:∀c xs,H c=some (.tup xs)->c≠x:=λc xs r z=>by subst z;rw[r]at gK;exact gK
 by_cases ab:b=x
 ·subst ab;rw[eP]at q;cases q;exact new
 ·rw[de ab]at q;by_cases pl:b=e
  ·have io:H b=some (.own x):=by
    rcases ax with z|z
    ·exact absurd (pl.trans z) ab
    ·rw[pl];exact z
   rw[q]at io;cases io;obtain⟨v,aH⟩:=qC;exact⟨v,by rw[pl];exact aH⟩
  ·refine(ok b u q).stay (λc v hc r=>k c v ?_ r) (λc r=>by rw[de (C2 c b r)];exact r) λc xs r=>by rw[de (J1 c xs r)];exact r
   rcases hc with rfl|hc
   ·exact pl
   ·rintro rfl;rcases ax with z|z
    ·exact C2 c b hc z
    ·rw[hc]at z;cases z;exact ab rfl
end
structure f2 (fs ex:ZS) (H al:am) (h h':XB):Prop where
 keep:∀b o,h.get? b=some o->H b=none->b∉fs->b∉ex->h'.get? b=some o
 slot:∀b o,h.get? b=some o->H b=none->b∈fs->b∉ex->∃sl,h'.get? b=some {o with slots:=sl}
 free:∀b o,h.get? b=some o->H b=none->b∉ex->al b=none
 there:∀b o,h.get? b=some o->b∉ex->∃gi,h'.get? b=some gi
 tups:∀b xs,H b=some (.tup xs)->al b=some (.tup xs)
 frzs:∀b o u,H b=some (.frz o u)->al b=some (.frz o u)
 tbls:∀b ps,H b=some (.tbl ps)->∃more,al b=some (.tbl (ps++more))
section
variable{fs J2 ex af6:ZS}{H ar a5:am}{h h1 h2 h':XB}{a x e:TI}{o:e6}
theorem f2.any(u:f2 fs ex H ar h h1){b:TI}{cx:Obj}(q:h.get? b=some cx)(n:H b=none)(aq:b∉ex):∃sl,h1.get? b=some {cx with slots:=sl}:=by
 by_cases ab:b∈fs
 ·exact u.slot b cx q n ab aq
 ·exact⟨cx.slots,u.keep b cx q n ab aq⟩
theorem f2.kept(k:∀b u,h.get? b=some u->h'.get? b=some u):f2 fs ex H H h h':=
 ⟨λb cx q _ _ _=>k b cx q,λb cx q _ _ _=>⟨cx.slots,k b cx q⟩,λ_ _ _ n _=>n,λb cx q _=>⟨cx,k b cx q⟩,λ_ _ q=>q,λ_ _ _ q=>q,λ_ ps q=>⟨#[],by rw[q];simp⟩⟩
theorem f2.refl:f2 fs ex H H h h:=f2.kept λ_ _ q=>q
theorem f2.laid(k:∀b u,h.get? b=some u->h'.get? b=some u)(ae:h.objs.size<=a)(aN:H a=none):f2 fs ex H (upd H a o) h h' where
 keep:=λb u q _ _ _=>k b u q
 slot:=λb u q _ _ _=>⟨u.slots,k b u q⟩
 free:=λb u q n _=>by rw[de (S3 (Tf (Heap.lt_size q) ae))];exact n
 there:=λb u q _=>⟨u,k b u q⟩
 tups:=λb xs q=>by rw[de (n5 q aN)];exact q
 frzs:=λb u xs q=>by rw[de (n5 q aN)];exact q
 tbls:=λb ps q=>⟨#[],by rw[de (n5 q aN),q];simp⟩
theorem f2.write(gK:uX (H x))(ax:e=x\/H e=some (.own x))(k:∀b u,b≠e->h.get? b=some u->h'.get? b=some u)(qC:∃u,h'.get? e=some u):f2 fs ex H (upd H x o) h h':=by
 have aq:∀b,H b=none->b≠x:=λb n z=>by subst z;rw[n]at gK;exact gK
 have ab:∀b,H b=none->b≠e:=λb n z=>by
  subst z;rcases ax with r|r
  ·exact aq b n r
  ·rw[n]at r;cases r
 have av:∀b u,H b=some u->¬uX (some u)->b≠x:=λb u q ip z=>by subst z;rw[q]at gK;exact ip gK
 refine⟨λb u q n _ _=>k b u (ab b n) q,λb u q n _ _=>⟨u.slots,k b u (ab b n) q⟩,λb u q n _=>by rw[de (aq b n)];exact n,λb u q _=>?_,
  λb xs q=>by rw[de (av b _ q λz=>z)];exact q,λb u xs q=>by rw[de (av b _ q λz=>z)];exact q,λb ps q=>⟨#[],by rw[de (av b _ q λz=>z),q];simp⟩⟩
 by_cases pl:b=e
 ·subst pl;exact qC
 ·exact⟨u,k b u pl q⟩
end
def uY(h:XB)(H:am):List TI:=(SV h.objs.size).filter λa=>(H a).isSome
def mZ(h:XB)(H:am):XB:=PySem.W.hideAll h (uY h H)
theorem J3(h:XB)(H:am):(mZ h H).objs.size=h.objs.size:=PySem.W.hideAll_size _ _
theorem J4{h:XB}{H:am}{b:TI}{o:Obj}(e:h.get? b=some o)(n:H b=none):(mZ h H).get? b=some o:=
 PySem.W.hideAll_get _ e λav=>by
  have q:(H b).isSome=true:=(Up.mp av).2;rw[n]at q;simp at q
theorem J5{h:XB}{H:am}{b:TI}{o:Obj}(e:(mZ h H).get? b=some o):h.get? b=some o/\H b=none:=by
 have aW:h.get? b=some o:=PySem.W.of_hideAll (uY h H) e;refine⟨aW,?_⟩;cases q:H b with
 |none=>rfl
 |some x=>
  have av:b∈uY h H:=Up.mpr ⟨TV.mpr (Heap.lt_size aW),by simp[q]⟩;have z:(mZ h H).get? b=none:=PySem.W.hideAll_none (uY h H) av;rw[z]at e;cases e
structure Mod (K:F6) (mg:Str->Option Tk) (base:XB):Prop where
 kin:K.In base
 glob:base.Ns WF mg
 blt:∃fu,base.Ns YB fu/\∀x:Str,x≠"__name__"->fu x=XS x
 nolimit:base.NoLimit
structure aJ where
 prog:Uf
 w:WP
 K:F6
 mg:Str->Option Tk
 base:XB
 A:Xv
 N:ZQ
 s₀:Tl
 H₀:am
 env:Env
 outer:List Env
 stack:List Env
 ex:ZS
 fn:Str->Bool
 calm:Bool
 pn:ZW
 xe:Tk->Tl->Prop
def kq(l:List Env):List TI:=l.filterMap (·.frame)
abbrev aJ.fs(X:aJ):List TI:=kq X.outer
def iq(sc:YG)(x:Str):Prop:=sc.names.lookup x=some .local\/sc.names.lookup x=some .cell\/sc.names.lookup x=some .free
def Loc(sc:YG)(x:Str):Prop:=sc.names.lookup x=some .local\/sc.names.lookup x=some .cell
def Look(env:Env)(h:XB)(m:Str->Option Tk)(x:Str)(u:Tk):Prop:=
 (env.kindOf x=some .local/\m x=some u)\/((env.kindOf x=some .cell\/env.kindOf x=some .free)/\∃c,env.cells.lookup x=some c/\h.IsCell c (some u))
structure aJ.Ok (X:aJ):Prop where
 mod:Mod X.K X.mg X.base
 kind:X.env.scope.kind=.function
 glob:X.env.globals=WF
 blt:X.env.builtins=YB
 above:X.s₀.heap.objs.size<=X.env.locals
 inj:∀x y c,X.env.cells.lookup x=some c->X.env.cells.lookup y=some c->x=y
 has:∀x,(X.env.kindOf x=some .cell\/X.env.kindOf x=some .free)->∃c,X.env.cells.lookup x=some c
 cab:∀x c,X.fn x=true->X.env.cells.lookup x=some c->X.s₀.heap.objs.size<=c
 hd:X.calm=true->X.A.handled=none
 frames:X.A.frames=some X.stack
 stk:X.stack=X.outer\/(X.stack=X.env::X.outer/\X.env.frame=some X.env.locals)
 exf:∀b∈X.ex,b≠X.env.locals/\∀x c,X.env.cells.lookup x=some c->c≠b
 bs:∀b o,X.base.get? b=some o->X.s₀.heap.get? b=some o/\X.H₀ b=none
 bsz:X.base.objs.size<=X.s₀.heap.objs.size
 noex:∀b o,X.base.get? b=some o->b∉X.ex
 exfs:∀b∈X.ex,b∉X.fs
 funs:X.s₀.heap.FunFrames X.base X.outer
 frf:∀b∈X.fs,X.H₀ b=none
structure Inv (X:aJ) (pins:ZW) (σ:List (Option V)) (H:am) (s:Tl):Prop where
 ok:X.Ok
 os:s.os=X.s₀.os
 bare:YS s.gens
 base:f2 X.fs X.ex X.H₀ H X.s₀.heap s.heap
 loc:∃m,s.heap.Ns X.env.locals m/\∀(i:Nat)(x:Str)(v:V),X.N[i]?=some x->σ[i]?=some (some v)->iq X.env.scope x->∃u,RelV v u/\Look X.env s.heap m x u
 cell:∀x c,X.env.cells.lookup x=some c->∃v,s.heap.IsCell c v
 free:H X.env.locals=none
 freeC:∀x c,X.env.cells.lookup x=some c->H c=none
 pin:∀p∈X.pn++pins,s.heap.get? p.1=some p.2/\H p.1=none/\p.1≠X.env.locals/\p.1∉X.fs/\∀v,p.2.data≠.cell v
 hok:e0 X.prog X.w H s.heap
 len:σ.length=X.N.length
section
variable{X:aJ}{pins:ZW}{σ:List (Option V)}{H al:am}{s:Tl}{h':XB}
theorem aJ.Ok.nofr(ok:X.Ok){b:TI}{o:Obj}(e:X.base.get? b=some o):b∉X.fs:=λab=>by
 have:=(ok.funs.mem ab).1;rw[e]at this;cases this
theorem Inv.bs(I:Inv X pins σ H s):∀b o,X.base.get? b=some o->s.heap.get? b=some o/\H b=none:=λb o e=>
 ⟨I.base.keep b o (I.ok.bs b o e).1 (I.ok.bs b o e).2 (I.ok.nofr e) (I.ok.noex b o e),I.base.free b o (I.ok.bs b o e).1 (I.ok.bs b o e).2 (I.ok.noex b o e)⟩
theorem Inv.bk(I:Inv X pins σ H s):∀b o,X.base.get? b=some o->s.heap.get? b=some o:=λb o e=>(I.bs b o e).1
theorem Inv.mod(I:Inv X pins σ H s):Mod X.K X.mg X.base:=I.ok.mod
theorem Inv.kIn(I:Inv X pins σ H s):X.K.In s.heap:=I.ok.mod.kin.keeps I.bk
theorem Inv.lt(I:Inv X pins σ H s):X.env.locals<s.heap.objs.size:=let⟨_,aN,_⟩:=I.loc;aN.lt
theorem Inv.sz(I:Inv X pins σ H s):X.s₀.heap.objs.size<=s.heap.objs.size:=SA I.ok.above (UT I.lt)
theorem Inv.nofs(I:Inv X pins σ H s){a:TI}(h:s.heap.objs.size<=a):a∉X.fs:=λab=>by
 obtain⟨_,o,aB,_⟩:=I.ok.funs.mem ab;exact absurd (Tf (Heap.lt_size aB) (SA I.sz h)) (Tx _)
theorem Inv.cne(I:Inv X pins σ H s):∀x c,X.env.cells.lookup x=some c->c≠X.env.locals:=λx c e z=>by
 obtain⟨v,o,aB,hd⟩:=I.cell x c e;obtain⟨m,⟨gi,es,ep,pp,J6,_⟩,_⟩:=I.loc;rw[z,pp]at aB;cases aB;rw[J6]at hd;cases hd
theorem Inv.funs(I:Inv X pins σ H s):s.heap.FunFrames X.base X.outer:=by
 have all:∀(l:List Env),(∀b∈kq l,b∈X.fs)->X.s₀.heap.FunFrames X.base l->s.heap.FunFrames X.base l:=by
  intro l;induction l with
  |nil=>intro _ _;trivial
  |cons env r bN=>
   intro aj ao;obtain⟨ag,⟨L,o,bf,aN,aB,hd⟩,ak⟩:=ao;have e1:L∈X.fs:=aj L (by unfold kq;rw[VN,bf];exact Sv);obtain⟨sl,e⟩:=I.base.slot L o aB (I.ok.frf L e1) e1 λz=>I.ok.exfs L z e1;exact⟨ag,⟨L,_,bf,aN,e,hd⟩,bN (λb ab=>aj b (by unfold kq;rw[VN,bf];exact Sy _ ab)) ak⟩
 exact all X.outer (λ_ ab=>ab) I.ok.funs
theorem Inv.stack(I:Inv X pins σ H s):s.heap.FunFrames X.base X.stack:=by
 rcases I.ok.stk with e|⟨e,bf⟩
 ·rw[e];exact I.funs
 ·rw[e];obtain⟨m,aN,_⟩:=I.loc;refine .cons (by rw[I.ok.kind];decide) bf aN ?_ I.funs;exact Heap.get?_none_of_le (SA I.ok.bsz I.ok.above)
theorem Inv.stkSub(I:Inv X pins σ H s):∀b∈kq X.stack,b∈X.env.locals::X.fs:=λb ab=>by
 rcases I.ok.stk with e|⟨e,bf⟩
 ·rw[e]at ab;exact Sy _ ab
 ·rw[e]at ab;unfold kq at ab;rw[VN,bf]at ab;exact ab
theorem Inv.stkFree(I:Inv X pins σ H s):∀b∈kq X.stack,H b=none:=λb ab=>by
 rcases SG.mp (I.stkSub b ab)with e|ab
 ·rw[e];exact I.free
 ·obtain⟨_,o,aB,_⟩:=I.ok.funs.mem ab;exact I.base.free b o aB (I.ok.frf b ab) λz=>I.ok.exfs b z ab
theorem Inv.step{g':Array GenState}{t':Nat}{d':Drawn}{ch:ZS}(I:Inv X pins σ H s)(l':∀b∈ch,(b∈X.ex\/X.s₀.heap.objs.size<=b)/\b≠X.env.locals/\(∀x c,X.env.cells.lookup x=some c->c≠b)/\∀p∈X.pn++pins,p.1≠b)(keep:∀b o,b≠X.env.locals->b∉X.fs->b∉ch->s.heap.get? b=some o->H b=none->h'.get? b=some o)(slot:∀b o,b≠X.env.locals->b∈X.fs->b∉ch->s.heap.get? b=some o->H b=none->∃sl,h'.get? b=some {o with slots:=sl})(free:∀b o,b∉ch->s.heap.get? b=some o->H b=none->al b=none)(there:∀b o,b∉ch->s.heap.get? b=some o->∃gi,h'.get? b=some gi)(tups:∀b xs,H b=some (.tup xs)->al b=some (.tup xs))(frzs:∀b o u,H b=some (.frz o u)->al b=some (.frz o u))(tbls:∀b ps,H b=some (.tbl ps)->∃more,al b=some (.tbl (ps++more)))(ns:∀m,s.heap.Ns X.env.locals m->h'.Ns X.env.locals m)(hok:e0 X.prog X.w al h')(aD:YS g'):
  Inv X pins σ al {s with heap:=h',gens:=g',drawn:=d',toks:=t' }:=by
 have C3:∀b o,X.s₀.heap.get? b=some o->b≠X.env.locals:=λb o e=>S3 (Tf (Heap.lt_size e) I.ok.above)
 have uZ:∀b o,X.s₀.heap.get? b=some o->b∉X.ex->b∉ch:=λb o e aq ab=>by
  rcases(l' b ab).1 with z|z
  ·exact aq z
  ·exact absurd (Tf (Heap.lt_size e) z) (Tx _)
 have cellK:∀x c,X.env.cells.lookup x=some c->∀v,s.heap.IsCell c v->h'.IsCell c v:=λx c e v ⟨o,aB,hd⟩=>by
  have r5:c∉ch:=λz=>(l' c z).2.2.1 x c e rfl;by_cases hc:c∈X.fs
  ·obtain⟨sl,q⟩:=slot c o (I.cne x c e) hc r5 aB (I.freeC x c e);exact⟨_,q,hd⟩
  ·exact⟨o,keep c o (I.cne x c e) hc r5 aB (I.freeC x c e),hd⟩
 refine⟨I.ok,I.os,aD,⟨λb o e n ab aq=>?_,λb o e n ab aq=>?_,λb o e n aq=>?_,λb o e aq=>?_,λb xs e=>tups b xs (I.base.tups b xs e),λb o xs e=>frzs b o xs (I.base.frzs b o xs e),λb ps e=>?_⟩,?_,λx c e=>?_,?_,λx c e=>?_,λp ae=>?_,hok,I.len⟩
 ·exact keep b o (C3 b o e) ab (uZ b o e aq) (I.base.keep b o e n ab aq) (I.base.free b o e n aq)
 ·obtain⟨sl,ai⟩:=I.base.slot b o e n ab aq;obtain⟨J7,ap⟩:=slot b _ (C3 b o e) ab (uZ b o e aq) ai (I.base.free b o e n aq);exact⟨J7,ap⟩
 ·obtain⟨gi,ai⟩:=I.base.there b o e aq;exact free b gi (uZ b o e aq) ai (I.base.free b o e n aq)
 ·obtain⟨gi,ai⟩:=I.base.there b o e aq;exact there b gi (uZ b o e aq) ai
 ·obtain⟨bm,ai⟩:=I.base.tbls b ps e;obtain⟨bJ,ap⟩:=tbls b _ ai;exact⟨bm++bJ,by rw[ap,Array.append_assoc]⟩
 ·obtain⟨m,aN,ao⟩:=I.loc;refine⟨m,ns m aN,λi x v ai ap br=>?_⟩;obtain⟨u,r,l⟩:=ao i x v ai ap br;refine⟨u,r,?_⟩;rcases l with l|⟨k,c,e,z⟩
  ·exact .inl l
  ·exact .inr ⟨k,c,e,cellK x c e _ z⟩
 ·obtain⟨v,z⟩:=I.cell x c e;exact⟨v,cellK x c e v z⟩
 ·obtain⟨m,⟨o,_,_,aB,_⟩,_⟩:=I.loc;exact free _ o (λz=>(l' _ z).2.1 rfl) aB I.free
 ·obtain⟨v,o,aB,hd⟩:=I.cell x c e;exact free c o (λz=>(l' c z).2.2.1 x c e rfl) aB (I.freeC x c e)
 ·obtain⟨e,n,ne,qD,d⟩:=I.pin p ae;have r5:p.1∉ch:=λz=>(l' p.1 z).2.2.2 p ae rfl;exact⟨keep p.1 p.2 ne qD r5 e n,free p.1 p.2 r5 e n,ne,qD,d⟩
theorem Inv.un{t':Nat}(I:Inv X pins σ H s)(u:f2 X.fs [] H al s.heap h')(hok:e0 X.prog X.w al h'):Inv X pins σ al {s with heap:=h',toks:=t' }:=by
 obtain⟨m,⟨o,es,ep,aB,r⟩,_⟩:=id I.loc;obtain⟨sl,e1⟩:=u.any aB I.free (by simp)
 exact I.step (g':=s.gens) (d':=s.drawn) (ch:=[]) (λ_ z=>nomatch z) (λb o _ ab _ e n=>u.keep b o e n ab (by simp)) (λb o _ ab _ e n=>u.slot b o e n ab (by simp)) (λb o _ e n=>u.free b o e n (by simp)) (λb o _ e=>u.there b o e (by simp)) u.tups u.frzs u.tbls (λm' av=>by
  obtain⟨gi,ji,g1,pp,dJ⟩:=av;rw[aB]at pp;cases pp
  exact⟨_,ji,g1,e1,dJ⟩) hok I.bare
theorem Inv.call{g':Array GenState}{t':Nat}{d':Drawn}{ch:ZS}(I:Inv X pins σ H s)(u:f2 (kq X.stack) ch H al s.heap h')(hok:e0 X.prog X.w al h')(aD:YS g')(l':∀b∈ch,(b∈X.ex\/X.s₀.heap.objs.size<=b)/\b≠X.env.locals/\(∀x c,X.env.cells.lookup x=some c->c≠b)/\∀p∈X.pn++pins,p.1≠b):
  Inv X pins σ al {s with heap:=h',gens:=g',drawn:=d',toks:=t' }:=by
 obtain⟨m,⟨o,es,ep,aB,r⟩,_⟩:=id I.loc;obtain⟨sl,e1⟩:=u.any aB I.free λz=>(l' _ z).2.1 rfl
 exact I.step (ch:=ch) l' (λb o e1 ab hc e n=>u.keep b o e n (λz=>(SG.mp (I.stkSub b z)).elim e1 ab) hc) (λb o _ _ hc e n=>u.any e n hc) (λb o hc e n=>u.free b o e n hc) (λb o hc e=>u.there b o e hc) u.tups u.frzs u.tbls (λm' av=>by
  obtain⟨gi,ji,g1,pp,dJ⟩:=av;rw[aB]at pp;cases pp
  exact⟨_,ji,g1,e1,dJ⟩) hok aD
theorem Inv.turned{t':Nat}{it:TI}(I:Inv X pins σ H s)(k:∀b o,b≠it->s.heap.get? b=some o->h'.get? b=some o)(aN:H it=none)(e1:it≠X.env.locals)(h1:it∈X.ex\/X.s₀.heap.objs.size<=it)(h2:∀x c,X.env.cells.lookup x=some c->c≠it)(aF:∀p∈X.pn++pins,p.1≠it):Inv X pins σ H {s with heap:=h',toks:=t' }:=by
 have ma:∀b u,H b=some u->b≠it:=λb u e z=>by rw[z,aN]at e;cases e
 refine I.step (g':=s.gens) (d':=s.drawn) (ch:=[it]) (λb ab=>?_) (λb o _ _ hc e _=>k b o (λz=>hc (by simp[z])) e) (λb o _ _ hc e _=>⟨o.slots,k b o (λz=>hc (by simp[z])) e⟩) (λ_ _ _ _ n=>n)
  (λb o hc e=>⟨o,k b o (λz=>hc (by simp[z])) e⟩) (λ_ _ e=>e) (λ_ _ _ e=>e) (λb ps e=>⟨#[],by rw[e];simp⟩) (λm av=>?_) (λb u e=>?_) I.bare
 ·have e:b=it:=by simpa using ab
  subst e;exact⟨h1,e1,h2,aF⟩
 ·obtain⟨o,es,ep,aB,r⟩:=av;exact⟨o,es,ep,k _ o (S9 e1) aB,r⟩
 ·refine(I.hok b u e).stay (λc v hc q=>k c v ?_ q) (λ_ q=>q) λ_ _ q=>q;rcases hc with z|z
  ·rw[z];exact ma b u e
  ·exact ma c _ z
theorem Inv.tok(I:Inv X pins σ H s)(t:Nat):Inv X pins σ H {s with toks:=t}:=I.un (h':=s.heap) (t':=t) f2.refl I.hok
theorem Inv.kept{t':Nat}(I:Inv X pins σ H s)(k:∀b u,s.heap.get? b=some u->h'.get? b=some u):Inv X pins σ H {s with heap:=h',toks:=t' }:=I.un (f2.kept k) (I.hok.kept k)
theorem Inv.laid{a:TI}{o:e6}{t':Nat}(I:Inv X pins σ H s)(k:∀b u,s.heap.get? b=some u->h'.get? b=some u)(ae:s.heap.objs.size<=a)(new:gz X.prog X.w (upd H a o) h' a o):
  Inv X pins σ (upd H a o) {s with heap:=h',toks:=t' }:=I.un (f2.laid k ae (I.hok.fresh ae)) (I.hok.laid k ae new)
theorem Inv.write{x e:TI}{o:e6}{t':Nat}(I:Inv X pins σ H s)(gK:uX (H x))(ax:e=x\/H e=some (.own x))(k:∀b u,b≠e->s.heap.get? b=some u->h'.get? b=some u)(qC:∃u,h'.get? e=some u)(new:gz X.prog X.w (upd H x o) h' x o):Inv X pins σ (upd H x o) {s with heap:=h',toks:=t' }:=I.un (f2.write gK ax k qC) (I.hok.write gK ax k qC new)
theorem Inv.pins_of{C4:ZW}(I:Inv X pins σ H s)(h:∀p∈C4,s.heap.get? p.1=some p.2/\H p.1=none/\p.1≠X.env.locals/\p.1∉X.fs/\∀v,p.2.data≠.cell v):Inv X C4 σ H s:=
 ⟨I.ok,I.os,I.bare,I.base,I.loc,I.cell,I.free,I.freeC,λp ae=>(SR.mp ae).elim (λz=>I.pin p (TO _ z)) (h p),I.hok,I.len⟩
theorem C5{N:ZQ}(bi:N.Nodup){i j:Nat}{x:Str}(a:N[i]?=some x)(b:N[j]?=some x):i=j:=by
 obtain⟨h1,ai⟩:=T8.mp a;obtain⟨h2,ap⟩:=T8.mp b;exact(List.getElem_inj bi).mp (ai.trans ap.symm)
theorem J8{M:Model}{A:Xv}{E:Tk->Tl->Prop}{i:Nat}{x:Str}{v:V}{u:Tk}{Q:Unit->Tl->Prop}(I:Inv X pins σ H s)(bi:X.N.Nodup)(au:X.N[i]?=some x)(aq:Loc X.env.scope x)(r:RelV v u)(h:∀s',Inv X pins (σ.set i (some v)) H s'->(∃a,Heap.SameBut a s.heap s'.heap/\(a=X.env.locals\/X.env.cells.lookup x=some a))->Q () s')(bf:X.fn x=true\/X.env.scope.names.lookup x=some .local:=by first|exact .inl rfl|exact .inr rfl|assumption):wpAny M A (storeName X.env x u) Q E s:=by
 obtain⟨m,aN,ao⟩:=id I.loc;have J9:(X.env.scope.kind==.class||(X.env.scope.kind==.module&&X.env.locals != X.env.globals))=false:=by rw[I.ok.kind];rfl
 have C6:i<σ.length:=by rw[I.len];exact(T8.mp au).1
 have cne:=I.cne
 have tracked:∀{a:TI}{h':XB},(∃o,s.heap.get? a=some o/\H a=none)->Heap.SameBut a s.heap h'->e0 X.prog X.w H h':=λ{a h'} aw aj b cx e=>by
  obtain⟨_,_,C7⟩:=aw;refine(I.hok b cx e).stay (λc mb hc q=>(aj.2 c ?_).trans q) (λ_ q=>q) λ_ _ q=>q;rintro rfl;rcases hc with rfl|hc
  ·rw[C7]at e;cases e
  ·rw[C7]at hc;cases hc
 rcases aq with ag|ag
 ·refine wpAny_storeName_local ag aN (λh' J' aj=>?_) J9;obtain⟨Ka,_,_,Kb,_⟩:=id aN;refine h _ ⟨I.ok,I.os,I.bare,⟨λb o e n ab aq=>?_,λb o e n ab aq=>?_,I.base.free,λb o e aq=>?_,I.base.tups,I.base.frzs,I.base.tbls⟩,⟨_,J',λj y r6 ai ap br=>?_⟩,λy c e=>?_,I.free,I.freeC,λp ae=>?_,tracked ⟨Ka,Kb,I.free⟩ aj,by simpa using I.len⟩ ⟨_,aj,.inl rfl⟩
  ·exact(aj.2 b (S3 (Tf (Heap.lt_size e) I.ok.above))).trans (I.base.keep b o e n ab aq)
  ·obtain⟨sl,ai⟩:=I.base.slot b o e n ab aq;exact⟨sl,(aj.2 b (S3 (Tf (Heap.lt_size e) I.ok.above))).trans ai⟩
  ·obtain⟨gi,ai⟩:=I.base.there b o e aq;exact⟨gi,(aj.2 b (S3 (Tf (Heap.lt_size e) I.ok.above))).trans ai⟩
  ·by_cases b8:j=i
   ·subst b8;rw[au]at ai;cases ai;rw[TX C6]at ap;cases ap;exact⟨u,r,.inl ⟨ag,by simp⟩⟩
   ·rw[TP (S9 b8)]at ap;obtain⟨eQ,dJ,q⟩:=ao j y r6 ai ap br;refine⟨eQ,dJ,?_⟩;rcases q with⟨k,e⟩|⟨k,c,e,z⟩
    ·refine .inl ⟨k,?_⟩;have:y≠x:=λe=>b8 (C5 bi ai (e▸au));simp[this,e]
    ·exact .inr ⟨k,c,e,z.sameBut aj (cne y c e)⟩
  ·obtain⟨mb,z⟩:=I.cell y c e;exact⟨mb,z.sameBut aj (cne y c e)⟩
  ·obtain⟨e,n,ne,qD,d⟩:=I.pin p ae;exact⟨(aj.2 p.1 ne).trans e,n,ne,qD,d⟩
 ·have yY:X.fn x=true:=by
   rcases bf with z|z
   ·exact z
   ·rw[z]at ag;cases ag
  obtain⟨c,hc⟩:=I.ok.has x (.inl ag);obtain⟨mb,z⟩:=I.cell x c hc;refine wpAny_storeName_cell I.ok.kind ag hc z (λh' j2 aj=>?_);obtain⟨oc,C8,Kc⟩:=id z;refine h {s with heap:=h' } ⟨I.ok,I.os,I.bare,⟨λb o e n ab aq=>?_,λb o e n ab aq=>?_,I.base.free,λb o e aq=>?_,I.base.tups,I.base.frzs,I.base.tbls⟩,⟨m,aN.sameBut aj (S9 (cne x c hc)),λj y r6 ai ap br=>?_⟩,λy c' e=>?_,I.free,I.freeC,λp ae=>?_,tracked ⟨oc,C8,I.freeC x c hc⟩ aj,by simpa using I.len⟩ ⟨c,aj,.inr hc⟩
  ·exact(aj.2 b (S3 (Tf (Heap.lt_size e) (I.ok.cab x c yY hc)))).trans (I.base.keep b o e n ab aq)
  ·obtain⟨sl,ai⟩:=I.base.slot b o e n ab aq;exact⟨sl,(aj.2 b (S3 (Tf (Heap.lt_size e) (I.ok.cab x c yY hc)))).trans ai⟩
  ·obtain⟨gi,ai⟩:=I.base.there b o e aq;exact⟨gi,(aj.2 b (S3 (Tf (Heap.lt_size e) (I.ok.cab x c yY hc)))).trans ai⟩
  ·by_cases b8:j=i
   ·subst b8;rw[au]at ai;cases ai;rw[TX C6]at ap;cases ap;exact⟨u,r,.inr ⟨.inl ag,c,hc,j2⟩⟩
   ·rw[TP (S9 b8)]at ap;obtain⟨eQ,dJ,q⟩:=ao j y r6 ai ap br;refine⟨eQ,dJ,?_⟩;rcases q with q|⟨k,c',e,fe⟩
    ·exact .inl q
    ·refine .inr ⟨k,c',e,fe.sameBut aj ?_⟩;rintro rfl;exact b8 (C5 bi ai (I.ok.inj _ _ _ e hc▸au))
  ·by_cases C9:c'=c
   ·subst C9;exact⟨_,j2⟩
   ·obtain⟨eg,aY⟩:=I.cell y c' e;exact⟨eg,aY.sameBut aj C9⟩
  ·obtain⟨e,n,ne,qD,d⟩:=I.pin p ae;refine⟨(aj.2 p.1 ?_).trans e,n,ne,qD,d⟩;intro q;rw[q,C8]at e;have io:oc=p.2:=SU e;exact d mb (by rw[<-io];exact Kc)
theorem qE{M:Model}{A:Xv}{E:Tk->Tl->Prop}{i:Nat}{x:Str}{v:V}{u:Tk}{Q:Unit->Tl->Prop}(I:Inv X pins σ H s)(bi:X.N.Nodup)(au:X.N[i]?=some x)(aq:Loc X.env.scope x)(r:RelV v u)(h:∀s',Inv X pins (σ.set i (some v)) H s'->Q () s')(bf:X.fn x=true\/X.env.scope.names.lookup x=some .local:=by first|exact .inl rfl|exact .inr rfl|assumption):wpAny M A (storeName X.env x u) Q E s:=
 J8 I bi au aq r (λs' n6 _=>h s' n6) bf
theorem Inv.call'{s':Tl}{ch:ZS}(I:Inv X pins σ H s)(aB:s'.os=s.os)(u:f2 (kq X.stack) ch H al s.heap s'.heap)(hok:e0 X.prog X.w al s'.heap)(aD:YS s'.gens)(l':∀b∈ch,(b∈X.ex\/X.s₀.heap.objs.size<=b)/\b≠X.env.locals/\(∀x c,X.env.cells.lookup x=some c->c≠b)/\∀p∈X.pn++pins,p.1≠b):Inv X pins σ al s':=by
 obtain⟨h',g',d',t',gi⟩:=s';have e:gi=s.os:=aB;subst e;exact I.call (g':=g') (t':=t') (d':=d') u hok aD l'
end
abbrev gj:=Tk->Option TI->am->Prop
abbrev St:=List (Option V)
abbrev cN:=V->am->Prop
abbrev bK:=St->am->cN->Prop
abbrev ff:=St->am->(Bool->am->Prop)->Prop
abbrev eE:=St->am->(ZJ->am->Prop)->Prop
structure m0 where
 nx:St->am->Prop
 rt:cN
 bk:St->am->Prop:=λ_ _=>False
 ct:St->am->Prop:=λ_ _=>False
abbrev gA:=m0->St->am->Prop
def hB(X:aJ)(pins:ZW)(σ:St)(Q:cN)(u:Tk)(s':Tl):Prop:=∃v al,Inv X pins σ al s'/\RelV v u/\Q v al
def u0(X:aJ)(pins:ZW)(σ:St)(Q:Bool->am->Prop)(b:Bool)(s':Tl):Prop:=∃al,Inv X pins σ al s'/\Q b al
def Kd(X:aJ)(pins:ZW)(σ:St)(Q:ZJ->am->Prop)(us:ZR)(s':Tl):Prop:=∃vs al,Inv X pins σ al s'/\b5 vs us/\Q vs al
def qF(X:aJ)(pins:ZW)(D:m0)(f:Flow)(s':Tl):Prop:=
 match f with
 |.next=>∃bq al,Inv X pins bq al s'/\D.nx bq al
 |.brk=>∃bq al,Inv X pins bq al s'/\D.bk bq al
 |.cont=>∃bq al,Inv X pins bq al s'/\D.ct bq al
 |.ret u=>∃v bq al,Inv X pins bq al s'/\RelV v u/\D.rt v al
def b6(X:aJ)(e:Wp)(t:bK):Prop:=
 ∀(pins:ZW)(s:Tl)(σ:St)(H:am)(Q:cN),Inv X pins σ H s->t σ H Q->wpAny (UF X.prog X.w) X.A (XJ e X.env) (hB X pins σ Q) X.xe s
def jj(X:aJ)(e:Wp)(t:ff):Prop:=
 ∀(pins:ZW)(s:Tl)(σ:St)(H:am)(Q:Bool->am->Prop),Inv X pins σ H s->t σ H Q->wpAny (UF X.prog X.w) X.A (Zo e X.env (XJ e X.env)) (u0 X pins σ Q) X.xe s
def m1(X:aJ)(e:Wp)(t:ff):Prop:=
 ∀(j3:Sem Tk)(pins:ZW)(s:Tl)(σ:St)(H:am)(Q:Bool->am->Prop),Inv X pins σ H s->t σ H Q->wpAny (UF X.prog X.w) X.A (Zo e X.env j3) (u0 X pins σ Q) X.xe s
theorem m1.pt{X:aJ}{e:Wp}{t:ff}(h:m1 X e t):jj X e t:=h _
def hl(X:aJ)(es:ZT)(t:eE):Prop:=
 ∀(pos:Pos)(pins:ZW)(s:Tl)(σ:St)(H:am)(Q:ZJ->am->Prop),Inv X pins σ H s->t σ H Q->wpAny (UF X.prog X.w) X.A (spliced (XC pos (TD es X.env))) (Kd X pins σ Q) X.xe s
def jk(X:aJ)(st:XA)(t:gA):Prop:=
 ∀(pins:ZW)(s:Tl)(σ:St)(H:am)(D:m0),Inv X pins σ H s->t D σ H->wpAny (UF X.prog X.w) X.A (exec st X.env) (qF X pins D) X.xe s
def jl(X:aJ)(st:ZU)(t:gA):Prop:=
 ∀(pins:ZW)(s:Tl)(σ:St)(H:am)(D:m0),Inv X pins σ H s->t D σ H->wpAny (UF X.prog X.w) X.A (execs st X.env) (qF X pins D) X.xe s
theorem cc{α:Type}{t:Sem α}{Q pq:α->Tl->Prop}{M:Model}{A:Xv}{E:Tk->Tl->Prop}{s:Tl}(h:wpAny M A t Q E s)(ir:∀a s,Q a s->pq a s):wpAny M A t pq E s:=XN h ir λ_ _ x=>x
section
variable{X:aJ}
def yZ(i:Nat):bK:=λσ H Q=>∃v,σ[i]?=some (some v)/\Q v H
def qG(v:V):bK:=λ_ H Q=>Q v H
theorem mc{i:Nat}{x:Str}{pos:Pos}(bi:X.N[i]?=some x)(aH:iq X.env.scope x)(hd:(x==("__debug__":Str))=false:=by decide)(ec:(x==("__classdict__":Str))=false:=by decide):b6 X (.Name x pos) (yZ i):=by
 intro pins s σ H Q I h;obtain⟨v,e,h⟩:=h;obtain⟨m,aN,ao⟩:=I.loc;obtain⟨u,r,l⟩:=ao i x v bi e aH;have fU:hB X pins σ Q u s:=⟨v,H,I,r,h⟩;rcases l with⟨ag,av⟩|⟨ag,c,hc,pr⟩
 ·exact YC (Yo I.ok.kind ag aN av fU) hd
 ·rcases ag with ag|ag
  ·exact YC (Yr I.ok.kind ag hc pr fU) hd
  ·exact YC (Y0 I.ok.kind ag hc pr fU ec) hd
theorem fg{i j pos}:b6 X (.Constant (.int i) j pos) (qG (.int i)):=λ_ _ _ H _ I h=>wpAny_Constant_int ⟨.int i,H,I.tok _,⟨_,rfl⟩,h⟩
theorem Ke{b j pos}:b6 X (.Constant (.bool b) j pos) (qG (.bl b)):=λ_ _ _ H _ I h=>Constant_bool ⟨.bl b,H,I,rfl,h⟩
def e2(X:aJ)(x:Str):Prop:=X.env.kindOf x=some .globalImplicit
theorem C'{E:Tk->Tl->Prop}{pins:ZW}{s:Tl}{σ:St}{H:am}{x:Str}{u:Tk}{pos:Pos}{Q:Tk->Tl->Prop}(I:Inv X pins σ H s)(aD:e2 X x)(av:X.mg x=some u)(h:Q u s)(hd:(x==("__debug__":Str))=false:=by decide):wpAny (UF X.prog X.w) X.A (XJ (.Name x pos) X.env) Q E s:=
 Calls.Name_function_global I.ok.kind aD (Calls.loadGlobal_global (by rw[I.ok.glob];exact I.mod.glob.keeps I.bk) av h) hd
theorem m2{E:Tk->Tl->Prop}{pins:ZW}{s:Tl}{σ:St}{H:am}{x:Str}{u:Tk}{pos:Pos}{Q:Tk->Tl->Prop}(I:Inv X pins σ H s)(aD:e2 X x)(av:X.mg x=none)(aH:XS x=some u)(h:Q u s)(aN:x≠"__name__":=by decide)(hd:(x==("__debug__":Str))=false:=by decide):wpAny (UF X.prog X.w) X.A (XJ (.Name x pos) X.env) Q E s:=by
 obtain⟨fu,h1,h2⟩:=I.mod.blt;exact Calls.Name_function_global I.ok.kind aD (Calls.loadGlobal_builtin (by rw[I.ok.glob];exact I.mod.glob.keeps I.bk) av (by rw[I.ok.blt];exact h1.keeps I.bk) ((h2 x aN).trans aH) h) hd
theorem Da{x:Str}{v:V}{u:Tk}{pos:Pos}(aD:e2 X x)(av:X.mg x=some u)(r:RelV v u)(hd:(x==("__debug__":Str))=false:=by decide):b6 X (.Name x pos) (qG v):=
 λ_ _ _ H _ I h=>C' I aD av ⟨v,H,I,r,h⟩ hd
theorem m3{x:Str}{v:V}{u:Tk}{pos:Pos}(aD:e2 X x)(av:X.mg x=none)(aH:XS x=some u)(r:RelV v u)(aN:x≠"__name__":=by decide)(hd:(x==("__debug__":Str))=false:=by decide):b6 X (.Name x pos) (qG v):=
 λ_ _ _ H _ I h=>m2 I aD av aH ⟨v,H,I,r,h⟩ aN hd
variable{a b:Wp}{bO tb:bK}{pos:Pos}
def Db(t:bK):ff:=λσ H Q=>t σ H λx ar=>∃c,x=.bl c/\Q c ar
theorem Kf{e:Wp}{t:bK}(h:b6 X e t)(ax:∀j3,Zo e X.env j3=(do let v <-j3;Zy e.pos;Y1 [v] (truthy v)):=by intro _;rfl):jj X e (Db t):=by
 intro pins s σ H Q I hw;refine isTrue_plain (cc (h pins s σ H _ I hw) λv az ⟨x,ar,a2,r1,aO⟩=>?_) (ax _);obtain⟨d,rfl,q⟩:=aO;cases r1;exact XG ⟨ar,a2,q⟩
variable{kr u1:ff}{rest:ZT}
def Dc(t u:ff):ff:=λσ H Q=>t σ H λc ar=>if c=true then u σ ar Q else Q false ar
def Dd(t u:ff):ff:=λσ H Q=>t σ H λc ar=>if c=true then Q true ar else u σ ar Q
def De(t:ff):ff:=λσ H Q=>t σ H λc ar=>Q (!c) ar
theorem Kg(aw:jj X a kr):m1 X (.BoolOp .And [a] pos) kr:=by
 intro wh pins s σ H Q I h;refine isTrue_and (cc (aw pins s σ H Q I h) λc az e=>?_);cases c with
 |true=>exact isTrue_and_nil e
 |false=>exact e
theorem Kh(aw:jj X a kr):m1 X (.BoolOp .Or [a] pos) kr:=by
 intro wh pins s σ H Q I h;refine isTrue_or (cc (aw pins s σ H Q I h) λc az e=>?_);cases c with
 |false=>exact isTrue_or_nil e
 |true=>exact e
theorem Ki(aw:jj X a kr)(ab:m1 X (.BoolOp .And (b::rest) pos) u1):m1 X (.BoolOp .And (a::b::rest) pos) (Dc kr u1):=by
 intro wh pins s σ H Q I h;refine isTrue_and (cc (aw pins s σ H _ I h) λc az ⟨ar,a2,aO⟩=>?_);cases c with
 |true=>exact ab wh pins az σ ar Q a2 aO
 |false=>exact⟨ar,a2,aO⟩
theorem Kj(aw:jj X a kr)(ab:m1 X (.BoolOp .Or (b::rest) pos) u1):m1 X (.BoolOp .Or (a::b::rest) pos) (Dd kr u1):=by
 intro wh pins s σ H Q I h;refine isTrue_or (cc (aw pins s σ H _ I h) λc az ⟨ar,a2,aO⟩=>?_);cases c with
 |true=>exact⟨ar,a2,aO⟩
 |false=>exact ab wh pins az σ ar Q a2 aO
theorem Kk(aw:jj X a kr):jj X (.UnaryOp .Not a pos) (De kr):=by
 intro pins s σ H Q I h;exact isTrue_not (aw pins s σ H (λc ar=>Q (!c) ar) I h)
def Kl(bO tb:bK):bK:=λσ H Q=>bO σ H λx ar=>∃c,x=.bl c/\if c=true then tb σ ar Q else Q (.bl false) ar
def Km(bO:bK):bK:=λσ H Q=>bO σ H λx ar=>∃c,x=.bl c/\Q (.bl (!c)) ar
theorem Kn{op}{t:bK}(h:b6 X a t):b6 X (.BoolOp op [a] pos) t:=λpins s σ H Q I hw=>BoolOp_one (h pins s σ H Q I hw)
theorem Ko(aw:b6 X a bO)(ab:b6 X (.BoolOp .And (b::rest) pos) tb):b6 X (.BoolOp .And (a::b::rest) pos) (Kl bO tb):=by
 intro pins s σ H Q I h;refine BoolOp_and (cc (aw pins s σ H _ I h) λv az ⟨x,ar,a2,r1,aO⟩=>?_);obtain⟨c,rfl,aO⟩:=aO;cases r1;refine XG ?_;cases c with
 |true=>exact ab pins az σ ar Q a2 aO
 |false=>exact⟨.bl false,ar,a2,rfl,aO⟩
theorem Kp(aw:b6 X a bO):b6 X (.UnaryOp .Not a pos) (Km bO):=by
 intro pins s σ H Q I h;refine UnaryOp_ (cc (aw pins s σ H _ I h) λv az ⟨x,ar,a2,r1,aO⟩=>?_);obtain⟨c,rfl,aO⟩:=aO;cases r1;exact not_of (XG ⟨.bl (!c),ar,a2,rfl,aO⟩)
def Kq(t:ff)(bO tb:bK):bK:=λσ H Q=>t σ H λc ar=>if c=true then bO σ ar Q else tb σ ar Q
theorem Kr{c:Wp}(hc:jj X c kr)(aw:b6 X a bO)(ab:b6 X b tb):b6 X (.IfExp c a b pos) (Kq kr bO tb):=by
 intro pins s σ H Q I h;refine wpAny_IfExp (cc (hc pins s σ H _ I h) λd az ⟨ar,a2,aO⟩=>?_);cases d with
 |true=>exact aw pins az σ ar Q a2 aO
 |false=>exact ab pins az σ ar Q a2 aO
end
def cE(K:F6)(H:am)(a:TI)(xs:ZJ):Prop:=
 uW H a (.lst xs) \/
  ∃(o:Obj)(its:Array Tk)(n:Nat),K.lookup a=some o/\o.cls=.type "list"/\o.dict=none/\o.data=.seq its n/\its.size<=TT/\b5 xs its.toList
def e7(K:F6)(H:am)(a:TI)(xs:ZJ):Prop:=
 uW H a (.tup xs) \/
  ∃(o:Obj)(its:Array Tk)(n:Nat),K.lookup a=some o/\o.cls=.type "tuple"/\o.data=.seq its n/\its.size<=TT/\b5 xs its.toList
def Ks:Tk->Option V
 |.none=>some .non
 |.bool b=>some (.bl b)
 |.int i _=>some (.int i)
 |.str x _=>some (.str x)
 |.bytes b _=>some (.byt b)
 |.float b _=>some (.flt b)
 |.ref a=>some (.ref a)
 |.type n=>some (.ty n)
 |_=>none
theorem RelV.abs{x:V}{u:Tk}(r:RelV x u):Ks u=some x:=by
 cases x with
 |non=>cases r;rfl
 |bl _=>cases r;rfl
 |int _=>obtain⟨t,rfl⟩:=r;rfl
 |str _=>obtain⟨t,rfl⟩:=r;rfl
 |byt _=>obtain⟨t,rfl⟩:=r;rfl
 |flt _=>obtain⟨t,rfl⟩:=r;rfl
 |ref _=>cases r;rfl
 |ty _=>cases r;rfl
theorem RelV.inj{x y:V}{u:Tk}(r:RelV x u)(q:RelV y u):x=y:=SU (r.abs.symm.trans q.abs)
theorem b5.inj:∀{xs ys:ZJ}{us:ZR},b5 xs us->b5 ys us->xs=ys
 |_,_,_,.nil,.nil=>rfl
 |_,_,_,.cons r t,.cons dJ t'=>by rw[r.inj dJ,b5.inj t t']
section
variable{X:aJ}{pins:ZW}{σ:St}{H:am}{s:Tl}{a:TI}{xs ys:ZJ}
theorem cE.of{K:F6}(h:H a=some (.lst xs)):cE K H a xs:=.inl (.inl h)
theorem e7.of{K:F6}(h:H a=some (.tup xs)):e7 K H a xs:=.inl (.inl h)
theorem Inv.list(I:Inv X pins σ H s)(h:cE X.K H a xs):∃its:ZR,b5 xs its/\PlainL s.heap a its.toArray/\xs.length<=TT:=by
 rcases h with h|⟨o,its,n,ag,hc,hd,aj,hz,r⟩
 ·obtain⟨z,its,n,r,e⟩:=h.ok I.hok;exact⟨its,r,⟨_,n,e,rfl,rfl,rfl⟩,z⟩
 ·refine⟨its.toList,r,⟨o,n,I.kIn a o ag,hc,hd,by simpa using aj⟩,?_⟩;have e:=r.length;simp only[Tn]at e;lia
theorem Inv.tuple(I:Inv X pins σ H s)(h:e7 X.K H a xs):∃its:ZR,b5 xs its/\IsTup s.heap a its.toArray/\xs.length<=TT:=by
 rcases h with h|⟨o,its,n,ag,hc,aj,hz,r⟩
 ·obtain⟨z,its,r,p⟩:=h.ok I.hok;exact⟨its,r,p,z⟩
 ·refine⟨its.toList,r,⟨o,I.kIn a o ag,hc,n,by simpa using aj⟩,?_⟩;have e:=r.length;simp only[Tn]at e;lia
theorem Inv.list_inj(I:Inv X pins σ H s)(h:cE X.K H a xs)(h':cE X.K H a ys):xs=ys:=by
 obtain⟨its,r,⟨o,n,e,_,_,d⟩,_⟩:=I.list h;obtain⟨its',dJ,⟨gi,n',aW,_,_,d'⟩,_⟩:=I.list h';rw[e]at aW;cases aW;rw[d]at d';injection d' with bw _
 have:its=its':=by simpa using TW Array.toList bw
 subst this;exact r.inj dJ
theorem Inv.tuple_inj(I:Inv X pins σ H s)(h:e7 X.K H a xs)(h':e7 X.K H a ys):xs=ys:=by
 obtain⟨its,r,⟨o,e,_,n,d⟩,_⟩:=I.tuple h;obtain⟨its',dJ,⟨gi,aW,_,n',d'⟩,_⟩:=I.tuple h';rw[e]at aW;cases aW;rw[d]at d';injection d' with bw _
 have:its=its':=by simpa using TW Array.toList bw
 subst this;exact r.inj dJ
end
abbrev aJ.wish(X:aJ)(E:Tk->Tl->Prop):aJ:={X with xe:=E}
abbrev aJ.nox(X:aJ):aJ:=X.wish λ_ _=>False
theorem aJ.Ok.wish{X:aJ}(ok:X.Ok)(E:Tk->Tl->Prop):(X.wish E).Ok:=
 ⟨ok.mod,ok.kind,ok.glob,ok.blt,ok.above,ok.inj,ok.has,ok.cab,ok.hd,ok.frames,ok.stk,ok.exf,ok.bs,ok.bsz,ok.noex,ok.exfs,ok.funs,ok.frf⟩
theorem aJ.Ok.unwish{X:aJ}{E:Tk->Tl->Prop}(ok:(X.wish E).Ok):X.Ok:=
 ⟨ok.mod,ok.kind,ok.glob,ok.blt,ok.above,ok.inj,ok.has,ok.cab,ok.hd,ok.frames,ok.stk,ok.exf,ok.bs,ok.bsz,ok.noex,ok.exfs,ok.funs,ok.frf⟩
section
variable{X:aJ}{pins:ZW}{σ:St}{H:am}{s:Tl}{E:Tk->Tl->Prop}
theorem Inv.wish(I:Inv X pins σ H s)(E:Tk->Tl->Prop):Inv (X.wish E) pins σ H s:=⟨I.ok.wish E,I.os,I.bare,I.base,I.loc,I.cell,I.free,I.freeC,I.pin,I.hok,I.len⟩
theorem Inv.unwish(I:Inv (X.wish E) pins σ H s):Inv X pins σ H s:=⟨I.ok.unwish,I.os,I.bare,I.base,I.loc,I.cell,I.free,I.freeC,I.pin,I.hok,I.len⟩
theorem qF.unwish{D:m0}{f:Flow}{s':Tl}(h:qF (X.wish E) pins D f s'):qF X pins D f s':=by
 cases f with
 |next=>obtain⟨bq,al,I,q⟩:=h;exact⟨bq,al,I.unwish,q⟩
 |brk=>obtain⟨bq,al,I,q⟩:=h;exact⟨bq,al,I.unwish,q⟩
 |cont=>obtain⟨bq,al,I,q⟩:=h;exact⟨bq,al,I.unwish,q⟩
 |ret u=>obtain⟨v,bq,al,I,r,q⟩:=h;exact⟨v,bq,al,I.unwish,r,q⟩
theorem jl.nox{st:ZU}{t:gA}(h:jl X.nox st t):jl X st t:=λpins s σ H D I hw=>
 XN (h pins s σ H D (I.wish _) hw) (λ_ _ q=>q.unwish) λ_ _ z=>TY z
end
section
variable{X:aJ}{st:XA}{rest:ZU}{t u:gA}{e:Wp}{cH:bK}{pos:Pos}
def Kt:gA:=λD σ H=>D.nx σ H
def Ku(t u:gA):gA:=λD σ H=>t {D with nx:=u D} σ H
theorem u2:jl X [] Kt:=λ_ _ σ H _ I h=>Ys ⟨σ,H,I,h⟩
theorem n7(h1:jk X st t)(h2:jl X rest u):jl X (st::rest) (Ku t u):=by
 intro pins s σ H D I h;refine wpAny_execs_cons (cc (h1 pins s σ H {D with nx:=u D} I h) λf az q=>?_);cases f with
 |next=>
  obtain⟨bq,al,n6,q⟩:=q;exact h2 pins az bq al D n6 q
 |ret v=>exact q
 |brk=>exact q
 |cont=>exact q
theorem pu(h1:jk X st t):jl X [st] t:=by
 intro pins s σ H D I h;refine wpAny_execs_cons (cc (h1 pins s σ H D I h) λf az q=>?_);cases f with
 |next=>exact Ys q
 |ret v=>exact q
 |brk=>exact q
 |cont=>exact q
theorem Inv.quiet{pins:ZW}{σ:St}{H:am}{s:Tl}(I:Inv X pins σ H s):interactive X.env=false:=by simp[interactive,I.ok.kind]
def Kv(cH:bK):gA:=λD σ H=>cH σ H λ_ ar=>D.nx σ ar
theorem u3(ax:b6 X e cH)(aj:XE e none pos.line X.env=pure false:=by rfl):jk X (.Expr e pos) (Kv cH):=by
 intro pins s σ H D I h;exact wpAny_Expr_any (cc (ax pins s σ H _ I h) λv az ⟨x,ar,a2,r1,aO⟩=>⟨σ,ar,a2,aO⟩) I.quiet aj
def Kw(cH:bK):gA:=λD σ H=>cH σ H D.rt
theorem n8(ax:b6 X e cH):jk X (.Return (some e) pos) (Kw cH):=by
 intro pins s σ H D I h;exact wpAny_Return_some (cc (ax pins s σ H _ I h) λv az ⟨x,ar,a2,r1,aO⟩=>⟨x,σ,ar,a2,r1,aO⟩)
def Kx(c:ff)(t u:gA):gA:=λD σ H=>c σ H λb ar=>if b=true then t D σ ar else u D σ ar
theorem u4{c:Wp}{a b:ZU}{tc:ff}(hc:jj X c tc)(aw:jl X a t)(ab:jl X b u):jk X (.If c a b pos) (Kx tc t u):=by
 intro pins s σ H D I h;refine wpAny_If (cc (hc pins s σ H _ I h) λd az ⟨ar,a2,aO⟩=>?_);cases d with
 |true=>exact aw pins az σ ar D a2 aO
 |false=>exact ab pins az σ ar D a2 aO
def Df:gA:=λ_ _ _=>False
theorem Ky:jk X st Df:=λ_ _ _ _ _ _ h=>h.elim
end
abbrev hW:=V->St->am->(St->am->Prop)->Prop
abbrev n9:=ZJ->St->am->(St->am->Prop)->Prop
def kt(X:aJ)(target:Wp)(t:hW):Prop:=
 ∀(pins:ZW)(s:Tl)(σ:St)(H:am)(v:V)(u:Tk)(Q:St->am->Prop),Inv X pins σ H s->RelV v u->t v σ H Q->
  wpAny (UF X.prog X.w) X.A (Zj target X.env u) (λ_ s'=>∃bq al,Inv X pins bq al s'/\Q bq al) X.xe s
def r7(X:aJ)(ts:ZT)(t:n9):Prop:=
 ∀(pins:ZW)(s:Tl)(σ:St)(H:am)(vs:ZJ)(us:ZR)(Q:St->am->Prop),Inv X pins σ H s->b5 vs us->t vs σ H Q->
  wpAny (UF X.prog X.w) X.A (Y6 ((XX ts X.env).map (·.2)) us) (λ_ s'=>∃bq al,Inv X pins bq al s'/\Q bq al) X.xe s
abbrev y0:=V->V->V->am->(am->Prop)->Prop
def Dg(X:aJ)(t:y0):Prop:=
 ∀(pins:ZW)(s:Tl)(σ:St)(H:am)(o i v:V)(lg iv u:Tk)(Q:am->Prop),Inv X pins σ H s->RelV o lg->RelV i iv->RelV v u->t o i v H Q->
  wpAny (UF X.prog X.w) X.A (setItem lg iv u) (λ_ s'=>∃al,Inv X pins σ al s'/\Q al) X.xe s
abbrev u5:=V->V->am->cN->Prop
def Dh(X:aJ)(op:Operator)(t:u5):Prop:=
 ∀(pins:ZW)(s:Tl)(σ:St)(H:am)(x y:V)(v u:Tk)(Q:cN),Inv X pins σ H s->RelV x v->RelV y u->t x y H Q->
  wpAny (UF X.prog X.w) X.A (inplaceOp op v u) (hB X pins σ Q) X.xe s
section
variable{X:aJ}{pos:Pos}
def u6(i:Nat):hW:=λv σ H Q=>Q (σ.set i (some v)) H
theorem Kz{i:Nat}{x:Str}(bi:X.N.Nodup)(au:X.N[i]?=some x)(aq:Loc X.env.scope x)(bf:X.fn x=true\/X.env.scope.names.lookup x=some .local:=by first|exact .inl rfl|exact .inr rfl|assumption):kt X (.Name x pos) (u6 i):=by
 intro pins s σ H v u Q I r h;exact wpAny_assign_Name (qE I bi au aq r (λs' n6=>⟨_,H,n6,h⟩) bf)
def KA:n9:=λvs σ H Q=>vs=[]/\Q σ H
def KB(t:hW)(u:n9):n9:=λvs σ H Q=>∃v r,vs=v::r/\t v σ H λbq al=>u r bq al Q
theorem KC:r7 X [] KA:=by
 intro pins s σ H vs us Q I r h;obtain⟨e,h⟩:=h;subst e;cases r;exact assignInOrder_nil ⟨σ,H,I,h⟩
theorem KD{e:Wp}{es:ZT}{t:hW}{u:n9}(h1:kt X e t)(h2:r7 X es u)(aj:(XX (e::es) X.env).map (·.2)=Zj e X.env::(XX es X.env).map (·.2):=by rfl):r7 X (e::es) (KB t u):=by
 intro pins s σ H vs us Q I r h;obtain⟨v,af7,ai,h⟩:=h;subst ai;cases r with
 |cons r fV=>
  rw[aj];refine Yw (cc (h1 pins s σ H _ _ _ I r h) λ_ az ⟨hC,ar,a2,aO⟩=>?_);exact h2 pins az hC ar _ _ Q a2 fV aO
def KF(K:F6)(n:Nat)(t:n9):hW:=λv σ H Q=>∃a xs,v=.ref a/\e7 K H a xs/\xs.length=n/\t xs σ H Q
theorem KG{es:ZT}{k:Nat}{t:n9}{n:Nat}(hc:X.calm=true)(h:r7 X es t)(aN:(XX es X.env).length=n:=by rfl)(y1:(XX es X.env).findIdx? (·.1)=none:=by rfl):kt X (.Tuple es k pos) (KF X.K n t):=by
 intro pins s σ H v u Q I r hw;obtain⟨a,xs,ai,ay,ao,hw⟩:=hw;subst ai;cases r;obtain⟨its,cq,bQ,hz⟩:=I.tuple ay;refine assign_Tuple_tuple (I.ok.hd hc) bQ (by simp[aN,<-ao,cq.length]) y1 λh' aq=>?_;have a2:Inv X pins σ H {s with heap:=h' }:=I.kept (t':=s.toks) λb o e=>aq b o (S3 (Heap.lt_size e)) e;exact h pins _ σ H xs _ Q a2 (by simpa using cq) hw
def KH(to hD:bK)(t:y0):hW:=λv σ H Q=>to σ H λo ar=>hD σ ar λi a5=>t o i v a5 λcI=>Q σ cI
theorem y2{o i:Wp}{to hD:bK}{t:y0}(aB:b6 X o to)(au:b6 X i hD)(aj:Dg X t)(aw:∀v,Zj (.Subscript o i pos) X.env v=(do
   let lg <-Y1 [v] (XJ o X.env)
   let iv <-Y1 [v,lg] (XJ i X.env)
   Zy pos
   Y1 [v,lg,iv] (setItem lg iv v)
   release [v,lg,iv] []):=by intro _;rfl):kt X (.Subscript o i pos) (KH to hD t):=by
 intro pins s σ H v u Q I r h;rw[aw];refine SB (Xw (cc (aB pins s σ H _ I h) λlg az ⟨x,ar,a2,r1,aO⟩=>?_));refine SB (Xw (cc (au pins az σ ar _ a2 aO) λiv a3 ⟨y,a5,dM,r2,bz⟩=>?_));refine SB (YH (SB (Xw (cc (aj pins a3 σ a5 x y v lg iv u _ dM r1 r2 r bz) λ_ bR ⟨cI,dc,et⟩=>?_))));exact wpAny_release ⟨σ,cI,dc,et⟩
def y3(cH:bK)(g:hW):gA:=λD σ H=>cH σ H λx ar=>g x σ ar D.nx
theorem u7{bA e:Wp}{cH:bK}{g:hW}(ax:b6 X e cH)(aD:kt X bA g)(aj:YI [bA] e pos.line X.env=pure false:=by rfl)(hw:YJ [bA] e X.env=pure none:=by rfl)(h1:(XX [bA] X.env).map (·.2)=[Zj bA X.env]:=by rfl):jk X (.Assign [bA] e pos) (y3 cH g):=by
 intro pins s σ H D I h;refine wpAny_Assign_stores (cc (ax pins s σ H _ I h) λv az ⟨x,ar,a2,r1,aO⟩=>?_) aj hw;rw[h1];exact cc (aD pins az σ ar x v _ a2 r1 aO) λ_ a3 q=>q
theorem pv{i:Nat}{x:Str}{e:Wp}{cH:bK}{eF:Pos}(bi:X.N.Nodup)(au:X.N[i]?=some x)(aq:Loc X.env.scope x)(ax:b6 X e cH)(aj:XE e (some (.Name x eF)) pos.line X.env=pure false:=by rfl)(bf:X.fn x=true\/X.env.scope.names.lookup x=some .local:=by first|exact .inl rfl|exact .inr rfl|assumption):
  jk X (.Assign [.Name x eF] e pos) (y3 cH (u6 i)):=by
 intro pins s σ H D I h;refine wpAny_Assign_Name (cc (ax pins s σ H _ I h) λv az ⟨y,ar,a2,r1,aO⟩=>?_) aj;exact qE a2 bi au aq r1 (λa3 dM=>⟨_,ar,dM,aO⟩) bf
def KI(i j:Nat)(bO:eE):gA:=λD σ H=>bO σ H λvs ar=>∃v w,vs=[v,w]/\D.nx ((σ.set i (some v)).set j (some w)) ar
theorem KJ{i j:Nat}{x y:Str}{a b:Wp}{bO:eE}{px jm pt:Pos}{md cy pw}(hc:X.calm=true)(bi:X.N.Nodup)(au:X.N[i]?=some x)(b8:X.N[j]?=some y)(py:i≠j)(aq:X.env.scope.names.lookup x=some .local)(aG:X.env.scope.names.lookup y=some .local)(aw:hl X [a,b] bO)(hw:YJ [.Tuple [.Name x px,.Name y jm] md pt] (.Tuple [a,b] cy pw) X.env=pure (some [x,y]))(aj:YI [.Tuple [.Name x px,.Name y jm] md pt] (.Tuple [a,b] cy pw) pos.line X.env=pure false:=by rfl):
  jk X (.Assign [.Tuple [.Name x px,.Name y jm] md pt] (.Tuple [a,b] cy pw) pos) (KI i j bO):=by
 intro pins s σ H D I h;rw[exec_Assign_arm];refine SB (YH ?_);rw[aj];refine SB (SC ?_);rw[SZ (by decide)];refine SB (Tuple_ (cc (aw _ pins s σ H _ I h) λus az ⟨vs,ar,a2,r1,aO⟩=>?_));obtain⟨v,w,ai,aO⟩:=aO;subst ai
 obtain⟨dm,dz,rfl,cq,r8⟩:∃dm dz,us=[dm,dz]/\RelV v dm/\RelV w dz:=by
  cases r1 with
  |cons p q=>
   cases q with
   |cons r9 io=>
    cases io;exact⟨_,_,rfl,p,r9⟩
 refine T0 ?_ gJ;have dM:Inv X pins σ ar {az with heap:=az.heap.push {cls:=.type "tuple",data:=.seq [dm,dz].toArray} }:=a2.kept (t':=az.toks) λb o e=>Heap.get?_push_of_some _ e;rw[hw];refine SB (SC ?_);show wpAny (UF X.prog X.w) X.A (do rule "assign.swapped-stores";let items <-unpackItems (.ref az.heap.objs.size) 2 none;Y6 [λv=>Zz X.env y v,λv=>Zz X.env x v] items.reverse;pure Flow.next) _ _ _;refine SB (Yq (SB (unpackItems_tuple (items :=#[dm,dz]) (I.ok.hd hc) (IsTup.new az.heap _) λh' r'=>?_)));have dc:=dM.kept (h':=h') (t':=az.toks) λb o e=>r' b o (S3 (Heap.lt_size e)) e;show wpAny _ _ (Y6 [λv=>Zz X.env y v,λv=>Zz X.env x v] [dz,dm] >>= λ_=>pure Flow.next) _ _ _
 refine SB (Yw (wpAny_bindName (qE dc bi b8 (.inl aG) r8 (λa3 ku=>?_) (.inr aG))));refine Yw (wpAny_bindName (qE ku bi au (.inl aq) cq (λbR pz=>assignInOrder_nil (SC ?_)) (.inr aq)));rw[List.set_comm _ _ (S9 py)]at pz;exact⟨_,ar,pz,aO⟩
def KL(i:Nat)(cH:bK)(hD:u5):gA:=λD σ H=>∃x,σ[i]?=some (some x)/\cH σ H λy ar=>hD x y ar λz a5=>D.nx (σ.set i (some z)) a5
theorem KM{i:Nat}{x:Str}{e:Wp}{cH:bK}{op:Operator}{hD:u5}{eF:Pos}(bi:X.N.Nodup)(au:X.N[i]?=some x)(aq:Loc X.env.scope x)(ax:b6 X e cH)(aB:Dh X op hD)(bf:X.fn x=true\/X.env.scope.names.lookup x=some .local:=by first|exact .inl rfl|exact .inr rfl|assumption):
  jk X (.AugAssign (.Name x eF) op e pos) (KL i cH hD):=by
 intro pins s σ H D I h;obtain⟨v,ai,h⟩:=h;obtain⟨m,aN,ao⟩:=I.loc;have KN:iq X.env.scope x:=by rcases aq with k|k;exact .inl k;exact .inr (.inl k)
 obtain⟨u,r,l⟩:=ao i x v au ai KN;refine wpAny_AugAssign_Name ?_
 have go:wpAny (UF X.prog X.w) X.A (XJ e X.env) (λw y4=>wpAny (UF X.prog X.w) X.A (inplaceOp op u w) (λr KO=>wpAny (UF X.prog X.w) X.A (storeName X.env x r) (λ_=>qF X pins D .next) X.xe KO) X.xe y4) X.xe s:=by
  refine cc (ax pins s σ H _ I h) λw az ⟨y,ar,a2,r1,aO⟩=>?_;refine cc (aB pins az σ ar v y u w _ a2 r r1 aO) λz a3 ⟨af8,a5,dM,r2,bz⟩=>?_;exact qE dM bi au aq r2 (λbR dc=>⟨_,a5,dc,bz⟩) bf
 rcases l with⟨ag,av⟩|⟨ag,c,hc,pr⟩
 ·exact Yo I.ok.kind ag aN av go
 ·rcases ag with ag|ag
  ·exact Yr I.ok.kind ag hc pr go
  ·rcases aq with k|k
   ·have:X.env.scope.names.lookup x=some .free:=ag;rw[k]at this;cases this
   ·have:X.env.scope.names.lookup x=some .free:=ag;rw[k]at this;cases this
def KP(f:Int->Int->Int):u5:=λx y H Q=>∃i j,x=.int i/\y=.int j/\Q (.int (f i j)) H
theorem KQ:Dh X .Add (KP λi j=>i+j):=by
 intro pins s σ H x y v u Q I r1 r2 h;obtain⟨i,j,ai,ap,q⟩:=h;subst ai;subst ap;obtain⟨t,rfl⟩:=r1;obtain⟨t',rfl⟩:=r2;exact iadd_int ⟨.int _,H,I.tok _,⟨_,rfl⟩,q⟩
end
section
variable{X:aJ}{pos:Pos}
def KR(c:ff)(tb:gA):gA:=λD σ H=>∃W:Nat->St->am->Prop,(∃m,W m σ H)/\∀m σ H,W m σ H->
 c σ H λb ar=>if b=true then ∃N:St->am->Prop,(∀bq al,N bq al->∃m',m'<m/\W m' bq al)/\tb {D with nx:=N,ct:=N,bk:=D.nx} σ ar else D.nx σ ar
theorem KS{c:Wp}{body:ZU}{tc:ff}{tb:gA}(ae:YT (UF X.prog X.w) X.A X.env X.xe)(hc:jj X c tc)(ab:jl X body tb):jk X (.While c body [] pos) (KR tc tb):=by
 intro pins s σ H D I h;obtain⟨W,⟨dS,w0⟩,turn⟩:=h;refine wpAny_While (codeAny_whileLoop (λn s'=>∃bq al,Inv X pins bq al s'/\W n bq al) ?_ dS ⟨σ,H,I,w0⟩);rintro n az ⟨hC,ar,a2,w1⟩;refine XR ae (cc (hc pins az hC ar _ a2 (turn n hC ar w1)) λb a3 ⟨a5,dM,bz⟩=>?_);cases b with
 |true=>
  obtain⟨N,bi,bz⟩:=bz;rw[SL rfl];refine XR ae (cc (ab pins a3 hC a5 _ dM bz) λf bR et=>?_);cases f with
  |next=>
   obtain⟨hE,cI,dc,jn⟩:=et;obtain⟨m',av,sb⟩:=bi hE cI jn;exact⟨m',av,hE,cI,dc,sb⟩
  |cont=>
   obtain⟨hE,cI,dc,jn⟩:=et;obtain⟨m',av,sb⟩:=bi hE cI jn;exact⟨m',av,hE,cI,dc,sb⟩
  |brk=>exact et
  |ret v=>exact et
 |false=>
  rw[SZ S6];exact Ys ⟨hC,a5,dM,bz⟩
end
structure hX where
 go:Nat->am->Prop
 yld:Nat->am->V->am->Prop
 stop:Nat->am->Prop
def jG(X:aJ)(pins:ZW)(H:am)(b:TI):Prop:=
 H b=none/\b≠X.env.locals/\b∉X.fs/\(b∈X.ex\/X.s₀.heap.objs.size<=b)/\(∀x c,X.env.cells.lookup x=some c->c≠b)/\∀p∈X.pn++pins,p.1≠b
theorem Inv.fpOk{X:aJ}{pins:ZW}{σ:St}{H al:am}{s:Tl}{b:TI}(I:Inv X pins σ H s)(ab:s.heap.objs.size<=b)(aN:al b=none):jG X pins al b:=by
 refine⟨aN,UA (Tf I.lt ab),I.nofs ab,.inr (SA I.sz ab),λx c e z=>?_,λp ae z=>?_⟩
 ·obtain⟨v,q⟩:=I.cell x c e;exact absurd (Tf q.lt (by rw[z];exact ab)) (Tx _)
 ·exact absurd (Tf (Heap.lt_size (I.pin p ae).1) (by rw[z];exact ab)) (Tx _)
structure oa (P:Uf) (w:WP) (K:F6) (bA:Wp) (J:hX) (cz:ZS) (it:TI) (iu:Nat->XB->Prop):Prop where
 mem:it∈cz
 obj:∀i h,iu i h->∀b∈cz,∃o,h.get? b=some o/\∀v,o.data≠.cell v
 keep:∀i h h',iu i h->(∀b∈cz,∀o,h.get? b=some o->h'.get? b=some o)->iu i h'
 item:∀(X:aJ),X.prog=P->X.w=w->X.K=K->X.calm=true->∀(i:Nat)(pins:ZW)(s:Tl)(σ:St)(H:am)(E:Tk->Tl->Prop),Inv X pins σ H s->(∀b∈cz,jG X pins H b)->iu i s.heap->J.go i H->
  wpAny (UF P w) X.A (Yx (.ref it)) (λr az=>∃u,r=some u /\
   wpAny (UF P w) X.A (Yt bA (.ref it) u) (λ_ a3=>∃x al,Inv X pins σ al a3/\RelV x u/\J.yld i H x al/\iu (i+1) a3.heap/\∀b∈cz,al b=none) E az) E s
 done:∀(X:aJ),X.prog=P->X.w=w->X.K=K->X.calm=true->∀(i:Nat)(pins:ZW)(s:Tl)(σ:St)(H:am)(E:Tk->Tl->Prop),Inv X pins σ H s->(∀b∈cz,jG X pins H b)->iu i s.heap->J.stop i H->
  wpAny (UF P w) X.A (Yx (.ref it)) (λr az=>r=none/\Inv X pins σ H az) E s
 self:∀(A:Xv)(i:Nat)(s:Tl)(Q:Tk->Tl->Prop)(E:Tk->Tl->Prop),iu i s.heap->Q (.ref it) s->wpAny (UF P w) A (Zx (.ref it)) Q E s
abbrev e8:=St->am->(hX->am->Prop)->Prop
def Di(X:aJ)(pins:ZW)(σ:St)(bA:Wp)(R:hX->am->Prop)(ob:Tk)(a3:Tl):Prop:=
 ∃(it:TI)(cz:ZS)(iu:Nat->XB->Prop)(J:hX)(al:am),ob=.ref it/\Inv X pins σ al a3/\oa X.prog X.w X.K bA J cz it iu/\iu 0 a3.heap/\(∀b∈cz,jG X pins al b)/\R J al
def jH(X:aJ)(bA dD:Wp)(gB:e8):Prop:=
 ∀(pins:ZW)(s:Tl)(σ:St)(H:am)(R:hX->am->Prop),Inv X pins σ H s->gB σ H R->
  wpAny (UF X.prog X.w) X.A (XJ dD X.env) (λv az=>wpAny (UF X.prog X.w) X.A (Zx v) (Di X pins σ bA R) X.xe az) X.xe s
theorem se{M:Model}{A:Xv}{E:Tk->Tl->Prop}{s:Tl}{bA:Wp}{it:TI}{u:Tk}{o:Obj}{n:String}{vs:Array Tk}{Q:Unit->Tl->Prop}(aB:s.heap.get? it=some o)(hc:o.cls=.type n)(hd:o.data=.fields vs)(aN:["enumerate","zip","dict_itemiterator","dict_reverseitemiterator","odict_iterator","itertools.zip_longest","itertools.pairwise"].contains n=false)(ir:Q () s): wpAny M A (Yt bA (.ref it) u) Q E s:=by
  unfold Yt
  cases bA<;>first
    |exact SC ir
    | (cases u<;>first
        |exact SC ir
        | (refine SB (wpAny_load aB ?_)
           rw[hc,hd];show wpAny M A (if(["enumerate","zip","dict_itemiterator","dict_reverseitemiterator","odict_iterator","itertools.zip_longest","itertools.pairwise"].contains n&&vs[0]?==some (YD _))=true then _ else _) Q E s
           rw[SZ (by intro h;rw[aN,VO]at h;cases h)]
           exact SC ir))
def y5(K:F6)(a:TI):hX:=
 ⟨λi H=>∃xs x,cE K H a xs/\xs[i]?=some x,λi H x al=>al=H/\∀xs,cE K H a xs->xs[i]?=some x,λi H=>∃xs,cE K H a xs/\xs.length<=i⟩
def y6(K:F6)(a:TI):hX:=
 ⟨λi H=>∃xs x,e7 K H a xs/\xs[i]?=some x,λi H x al=>al=H/\∀xs,e7 K H a xs->xs[i]?=some x,λi H=>∃xs,e7 K H a xs/\xs.length<=i⟩
def qH(lo:Int)(n:Nat):hX:=⟨λi _=>i<n,λi H x al=>al=H/\x=.int (lo+i),λi _=>n<=i⟩
theorem KT{P:Uf}{w:WP}{K:F6}{bA:Wp}(a it:TI):oa P w K bA (y5 K a) [it] it (λi h=>h.IsListIter it a i) where
 mem:=by simp
 obj:=λi h st b ab=>by
  have e:b=it:=by simpa using ab
  subst e;obtain⟨o,e,c,d⟩:=st;exact⟨o,e,λv z=>by rw[d]at z;cases z⟩
 keep:=λi h h' st k=>st.at λo e=>k it (by simp) o e
 item:=by
  intro X fE hw eG hc i pins s σ H E I bf st aD;subst fE hw eG;obtain⟨xs,x,ay,aq⟩:=aD;obtain⟨its,cq,p,hz⟩:=I.list ay;obtain⟨u,bo,iw⟩:=cq.get aq;obtain⟨e9,a4,a',bP,dL,eR⟩:=bf it (by simp);refine YN st p.isList (x:=u) (by simpa using bo) λh' iV d5=>?_;have a2:Inv X pins σ H {s with heap:=h' }:=I.turned (t':=s.toks) (λb o ab e=>(d5.2 b ab).trans e) e9 a4 bP dL eR;obtain⟨o,e,c,d⟩:=id iV;exact⟨u,rfl,se (s:={s with heap:=h' }) e c d (by decide) ⟨x,H,a2,iw,⟨rfl,λys aG=>by rw[I.list_inj aG ay];exact aq⟩,iV,λb ab=>(bf b ab).1⟩⟩
 done:=by
  intro X fE hw eG hc i pins s σ H E I bf st aD;subst fE hw eG;obtain⟨xs,ay,aq⟩:=aD;obtain⟨its,cq,p,hz⟩:=I.list ay;obtain⟨e9,a4,a',bP,dL,eR⟩:=bf it (by simp);have ao:=cq.length;exact YU (I.ok.hd hc) st p.isList (by simp;lia) λh' dY=>⟨rfl,I.turned (t':=s.toks) (λb o ab e=>dY b o ab e) e9 a4 bP dL eR⟩
 self:=λ_ _ _ _ _ st h=>wpAny_pyIter_listiter st h
theorem KU{P:Uf}{w:WP}{K:F6}{bA:Wp}(a it:TI):oa P w K bA (y6 K a) [it] it (λi h=>h.IsTupleIter it a i) where
 mem:=by simp
 obj:=λi h st b ab=>by
  have e:b=it:=by simpa using ab
  subst e;obtain⟨o,e,c,d⟩:=st;exact⟨o,e,λv z=>by rw[d]at z;cases z⟩
 keep:=λi h h' st k=>st.at λo e=>k it (by simp) o e
 item:=by
  intro X fE hw eG hc i pins s σ H E I bf st aD;subst fE hw eG;obtain⟨xs,x,ay,aq⟩:=aD;obtain⟨its,cq,p,hz⟩:=I.tuple ay;obtain⟨u,bo,iw⟩:=cq.get aq;obtain⟨e9,a4,a',bP,dL,eR⟩:=bf it (by simp);refine wpAny_pyNext_tuple_item st (show s.heap.IsTuple a its.toArray from p) (x:=u) (by simpa using bo) λh' iV d5=>?_;have a2:Inv X pins σ H {s with heap:=h' }:=I.turned (t':=s.toks) (λb o ab e=>(d5.2 b ab).trans e) e9 a4 bP dL eR;obtain⟨o,e,c,d⟩:=id iV;exact⟨u,rfl,se (s:={s with heap:=h' }) e c d (by decide) ⟨x,H,a2,iw,⟨rfl,λys aG=>by rw[I.tuple_inj aG ay];exact aq⟩,iV,λb ab=>(bf b ab).1⟩⟩
 done:=by
  intro X fE hw eG hc i pins s σ H E I bf st aD;subst fE hw eG;obtain⟨xs,ay,aq⟩:=aD;obtain⟨its,cq,p,hz⟩:=I.tuple ay;obtain⟨e9,a4,a',bP,dL,eR⟩:=bf it (by simp);have ao:=cq.length;exact wpAny_pyNext_tuple_end (I.ok.hd hc) st (show s.heap.IsTuple a its.toArray from p) (by simp;lia) λh' dY=>⟨rfl,I.turned (t':=s.toks) (λb o ab e=>dY b o ab e) e9 a4 bP dL eR⟩
 self:=λ_ _ _ _ _ st h=>wpAny_pyIter_tupleiter st h
theorem KV{P:Uf}{w:WP}{K:F6}{bA:Wp}(it:TI)(lo:Int)(n:Nat):oa P w K bA (qH lo n) [it] it (λi h=>IsRangeIter h it (lo+(i:Nat)*1) ((n:Int)-(i:Nat)) 1) where
 mem:=by simp
 obj:=λi h st b ab=>by
  have e:b=it:=by simpa using ab
  subst e
  exact⟨_,st,λv z=>by
   have fe:Data.fields _=Data.cell v:=z
   cases fe⟩
 keep:=λi h h' st k=>k it (by simp) _ st
 item:=by
  intro X fE hw eG hc i pins s σ H E I bf st aD;subst fE hw eG;obtain⟨e9,a4,a',bP,dL,eR⟩:=bf it (by simp);have W:=Walks.range (prog:=X.prog) (w:=X.w) (I.ok.hd hc) it lo 1 n;refine W.item i s _ _ aD st λv h' dA aH iV aL=>?_;obtain⟨t,rfl⟩:=aH;have a2:Inv X pins σ H {s with heap:=h',toks:=dA}:=I.turned (λb o ab e=>aL b o (by simpa using ab) e) e9 a4 bP dL eR;refine⟨_,rfl,se (s:={s with heap:=h',toks:=dA}) (n:="range_iterator") iV rfl rfl (by decide) ⟨.int (lo+i),H,a2,⟨t,?_⟩,⟨rfl,rfl⟩,iV,λb ab=>(bf b ab).1⟩⟩;rw[U6]
 done:=by
  intro X fE hw eG hc i pins s σ H E I bf st aD;subst fE hw eG;obtain⟨e9,a4,a',bP,dL,eR⟩:=bf it (by simp);exact wpAny_pyNext_range_end (I.ok.hd hc) st (by have:n<=i:=aD;lia) λh' dY=>⟨rfl,I.turned (t':=s.toks) (λb o ab e=>dY b o ab e) e9 a4 bP dL eR⟩
 self:=λ_ _ _ _ _ st h=>wpAny_pyIter_rangeiter st h
section
variable{X:aJ}{bA:Wp}
def KW(K:F6)(f3:bK):e8:=λσ H R=>f3 σ H λx ar=>∃a,x=.ref a/\(∃xs,cE K ar a xs)/\R (y5 K a) ar
def KX(K:F6)(f3:bK):e8:=λσ H R=>f3 σ H λx ar=>∃a,x=.ref a/\(∃xs,e7 K ar a xs)/\R (y6 K a) ar
theorem KY{l:Wp}{f3:bK}(ao:b6 X l f3):jH X bA l (KW X.K f3):=by
 intro pins s σ H R I h;refine cc (ao pins s σ H _ I h) λv az ⟨x,ar,a2,r1,aO⟩=>?_;obtain⟨a,e,⟨xs,ay⟩,q⟩:=aO;subst e;cases r1;obtain⟨its,cq,p,hz⟩:=a2.list ay;refine YE p.isList ?_;refine⟨az.heap.objs.size,[az.heap.objs.size],_,_,ar,rfl,a2.kept (t':=az.toks) λb o e=>Heap.get?_push_of_some _ e,KT a _,⟨_,Heap.get?_push_size _ rfl,rfl,rfl⟩,λb ab=>?_,q⟩;have e:b=az.heap.objs.size:=by simpa using ab
 subst e;exact a2.fpOk (Sx _) (a2.hok.fresh (Sx _))
theorem KZ{l:Wp}{f3:bK}(ao:b6 X l f3):jH X bA l (KX X.K f3):=by
 intro pins s σ H R I h;refine cc (ao pins s σ H _ I h) λv az ⟨x,ar,a2,r1,aO⟩=>?_;obtain⟨a,e,⟨xs,ay⟩,q⟩:=aO;subst e;cases r1;obtain⟨its,cq,p,hz⟩:=a2.tuple ay;refine wpAny_pyIter_tuple (show az.heap.IsTuple a its.toArray from p) ?_;refine⟨az.heap.objs.size,[az.heap.objs.size],_,_,ar,rfl,a2.kept (t':=az.toks) λb o e=>Heap.get?_push_of_some _ e,KU a _,⟨_,Heap.get?_push_size _ rfl,rfl,rfl⟩,λb ab=>?_,q⟩;have e:b=az.heap.objs.size:=by simpa using ab
 subst e;exact a2.fpOk (Sx _) (a2.hok.fresh (Sx _))
theorem Dj{pins:ZW}{σ:St}{H:am}{s:Tl}{R:hX->am->Prop}{E:Tk->Tl->Prop}{lo au:Int}{t u v:Tok}{dA:Nat}(I:Inv X pins σ H s)(h1 : -(2^62)<=lo)(h2:lo<2^62)(aF : -(2^62)<=au)(bj:au<2^62)(q:R (qH lo (au-lo).toNat) H):wpAny (UF X.prog X.w) X.A (Zx (.ref s.heap.objs.size)) (Di X pins σ bA R) E {s with heap:=s.heap.push {cls:=.type "range",data:=.fields #[.int lo t,.int au u,.int 1 v]},toks:=dA}:=by
 refine wpAny_pyIter_range (IsRange.new ..) (small_one h1 h2 aF bj) ?_;have a2:Inv X pins σ H {s with heap:=s.heap.push {cls:=.type "range",data:=.fields #[.int lo t,.int au u,.int 1 v]},toks:=dA}:=I.kept λb o e=>Heap.get?_push_of_some _ e
 refine⟨(s.heap.push {cls:=.type "range",data:=.fields #[.int lo t,.int au u,.int 1 v]}).objs.size,[(s.heap.push {cls:=.type "range",data:=.fields #[.int lo t,.int au u,.int 1 v]}).objs.size],_,_,H,rfl,
  a2.kept (t':=dA) λb o e=>Heap.get?_push_of_some _ e,KV _ lo (au-lo).toNat,?_,λb ab=>?_,q⟩
 ·have ai:lo+((0:Nat):Int)*1=lo:=by simp
  have ap:(((au-lo).toNat:Nat):Int)-((0:Nat):Int)=Builtin.Range.rangeSize lo au 1:=by rw[rangeSize_one];split<;>lia
  show IsRangeIter _ _ (lo+((0:Nat):Int)*1) ((((au-lo).toNat:Nat):Int)-((0:Nat):Int)) 1
  rw[ai,ap];exact Heap.get?_push_size _ rfl
 ·have e:b=(s.heap.push {cls:=.type "range",data:=.fields #[.int lo t,.int au u,.int 1 v]}).objs.size:=by simpa using ab
  subst e;exact a2.fpOk (Sx _) (a2.hok.fresh (Sx _))
def K0(bO:eE):e8:=λσ H R=>bO σ H λvs ar=>∃j:Int,vs=[.int j] /\ -(2^62)<=j/\j<2^62/\R (qH 0 j.toNat) ar
def K1(bO:eE):e8:=λσ H R=>bO σ H λvs ar=>∃i j:Int,vs=[.int i,.int j]/\(-(2^62)<=i/\i<2^62 /\ -(2^62)<=j/\j<2^62)/\R (qH i (j-i).toNat) ar
theorem K2{a:Wp}{bO:eE}{p pos:Pos}(aD:e2 X "range")(av:X.mg "range"=none)(aw:hl X [a] bO)(aj:TD [a] X.env=[(false,XJ a X.env)]:=by rfl):jH X bA (.Call (.Name "range" p) [a] [] pos) (K0 bO):=by
 intro pins s σ H R I h;refine Call_ (m2 I aD av boot_range (UB (cc (aw pos pins s σ H _ I h) λus az ⟨vs,ar,a2,r1,aO⟩=>?_) aj rfl));obtain⟨j,e,aO,bz,q⟩:=aO;subst e;cases r1 with
 |cons r fV=>
  cases fV;obtain⟨t,rfl⟩:=r;exact call_range_1 (Dj a2 (by lia) (by lia) aO bz (by simpa using q))
theorem K3{a b:Wp}{bO:eE}{p pos:Pos}(aD:e2 X "range")(av:X.mg "range"=none)(aw:hl X [a,b] bO)(aj:TD [a,b] X.env=[(false,XJ a X.env),(false,XJ b X.env)]:=by rfl)(ix:TD [b] X.env=[(false,XJ b X.env)]:=by rfl):
  jH X bA (.Call (.Name "range" p) [a,b] [] pos) (K1 bO):=by
 intro pins s σ H R I h;refine Call_ (m2 I aD av boot_range (UB (cc (aw pos pins s σ H _ I h) λus az ⟨vs,ar,a2,r1,aO⟩=>?_) (by rw[aj,ix]) (by rw[ix];rfl)));obtain⟨i,j,e,⟨aO,bz,et,m4⟩,q⟩:=aO;subst e;cases r1 with
 |cons r fV=>
  cases fV with
  |cons dJ fV=>
   cases fV;obtain⟨t,rfl⟩:=r;obtain⟨t',rfl⟩:=dJ;exact call_range_2 (Dj a2 aO bz et m4 q)
def K4(gB:e8)(g:hW)(tb:gA):gA:=λD σ H=>gB σ H λJ ar=>∃W:Nat->Nat->St->am->Prop,(∃m,W 0 m σ ar)/\∀i m σ H,W i m σ H->
 (J.stop i H/\D.nx σ H)\/(J.go i H/\∃N:St->am->Prop,(∀bq al,N bq al->∃m',m'<m/\W (i+1) m' bq al)/\∀x al,J.yld i H x al->g x σ al λqI a5=>tb {D with nx:=N,ct:=N,bk:=D.nx} qI a5)
def sf(cz:ZS)(h:XB):List (TI×Obj):=cz.filterMap λb=>(h.get? b).map λo=>(b,o)
theorem u8{cz:ZS}{h:XB}{b:TI}{o:Obj}(ab:b∈cz)(e:h.get? b=some o):(b,o)∈sf cz h:=WD.mpr ⟨b,ab,by rw[e];rfl⟩
theorem K5{cz:ZS}{h:XB}{p:TI×Obj}(ae:p∈sf cz h):p.1∈cz/\h.get? p.1=some p.2:=by
 obtain⟨b,ab,e⟩:=WD.mp ae;cases q:h.get? b with
 |none=>rw[q]at e;cases e
 |some o=>
  rw[q]at e;have aW:(b,o)=p:=SU e;subst aW;exact⟨ab,q⟩
theorem Inv.pinned{pins:ZW}{σ:St}{H:am}{s:Tl}{cz:ZS}(I:Inv X pins σ H s)(bf:∀b∈cz,jG X pins H b)(aB:∀b∈cz,∃o,s.heap.get? b=some o/\∀v,o.data≠.cell v):Inv X (pins++sf cz s.heap) σ H s:=
 I.pins_of λp ae=>(SR.mp ae).elim (λz=>I.pin p (Ts _ z)) λz=>by
  obtain⟨ab,e⟩:=K5 z;obtain⟨e9,a4,a',_⟩:=bf p.1 ab;obtain⟨o,aW,d⟩:=aB p.1 ab;rw[e]at aW;cases aW;exact⟨e,e9,a4,a',d⟩
theorem Inv.unpinned{pins cm:ZW}{σ:St}{H:am}{s:Tl}(I:Inv X (pins++cm) σ H s):Inv X pins σ H s:=I.pins_of λp ae=>I.pin p (Ts _ (TO _ ae))
theorem y7{dD:Wp}{body:ZU}{gB:e8}{g:hW}{tb:gA}{pos:Pos}(ae:YT (UF X.prog X.w) X.A X.env X.xe)(hc:X.calm=true)(au:jH X bA dD gB)(aD:kt X bA g)(ab:jl X body tb)(aj:∀x,Xu dD X.env x=pure x:=by intro _;rfl):jk X (.For bA dD body [] pos) (K4 gB g tb):=by
 intro pins s σ H D I h;refine wpAny_For (cc (au pins s σ H _ I h) λv az h1=>cc h1 λob a3 h2=>?_) aj;obtain⟨it,cz,iu,J,a5,e,dM,T,m5,a',W,⟨dS,w0⟩,turn⟩:=h2;subst e;have pA:∀{al:am},(∀b∈cz,al b=none)->∀b∈cz,jG X pins al b:=λaN b ab=>⟨aN b ab,(a' b ab).2⟩;refine codeAny_forLoop_any (λn s'=>∃i bq al,Inv X pins bq al s'/\iu i s'.heap/\(∀b∈cz,al b=none)/\W i n bq al) ?_ dS ⟨0,σ,a5,dM,m5,λb ab=>(a' b ab).1,w0⟩;rintro n bR ⟨i,hE,cI,dc,u9,Dk,sb⟩;rcases turn i n hE cI sb with⟨stop,Dl⟩|⟨go,N,bi,step⟩
 ·refine XR ae (cc (T.done X rfl rfl rfl hc i pins bR hE cI X.xe dc (pA Dk) u9 stop) λr gk ⟨ak,ku⟩=>?_);subst ak;exact Ys ⟨hE,cI,ku,Dl⟩
 ·refine XR ae (cc (T.item X rfl rfl rfl hc i pins bR hE cI X.xe dc (pA Dk) u9 go) λr gk ⟨u,ak,bj⟩=>?_);subst ak;refine XR ae (cc bj λ_ g2 ⟨x,gL,pz,K6,K7,qJ,u'⟩=>?_);have K8:=pz.pinned (pA u') (T.obj _ _ qJ);refine XR ae (cc (aD _ g2 hE gL x u _ K8 K6 (step x gL K7)) λ_ iW ⟨K9,K',kv,va⟩=>?_);refine XR ae (cc (ab _ iW K9 K' _ kv va) λf j4 hY=>?_)
  have again:∀{li:St}{jI:am},Inv X (pins++sf cz g2.heap) li jI j4->N li jI->∃m,m<n/\∃i bq al,Inv X pins bq al j4/\iu i j4.heap/\(∀b∈cz,al b=none)/\W i m bq al:=λ{li jI} iX si=>by
   obtain⟨m',av,La⟩:=bi li jI si;refine⟨m',av,i+1,li,jI,iX.unpinned,T.keep _ _ _ qJ λb ab o e=>(iX.pin (b,o) (Ts _ (Ts _ (u8 ab e)))).1,λb ab=>?_,La⟩;obtain⟨o,e,d⟩:=T.obj _ _ qJ b ab;exact(iX.pin (b,o) (Ts _ (Ts _ (u8 ab e)))).2.1
  cases f with
  |next=>obtain⟨li,jI,iX,si⟩:=hY;exact again iX si
  |cont=>obtain⟨li,jI,iX,si⟩:=hY;exact again iX si
  |brk=>obtain⟨li,jI,iX,hY⟩:=hY;exact⟨li,jI,iX.unpinned,hY⟩
  |ret v=>obtain⟨Lb,li,jI,iX,y8,hY⟩:=hY;exact⟨Lb,li,jI,iX.unpinned,y8,hY⟩
end
abbrev fh:=V->V->am->cN->Prop
def gl(X:aJ)(f:Tk->Tk->Sem Tk)(r:fh):Prop:=
 ∀(pins:ZW)(s:Tl)(σ:St)(H:am)(x y:V)(v u:Tk)(Q:cN),Inv X pins σ H s->RelV x v->RelV y u->r x y H Q->
  wpAny (UF X.prog X.w) X.A (f v u) (hB X pins σ Q) X.xe s
def y9(X:aJ)(f:Tk->Sem Tk)(r:V->am->cN->Prop):Prop:=
 ∀(pins:ZW)(s:Tl)(σ:St)(H:am)(x:V)(v:Tk)(Q:cN),Inv X pins σ H s->RelV x v->r x H Q->
  wpAny (UF X.prog X.w) X.A (f v) (hB X pins σ Q) X.xe s
def pB(X:aJ)(f:Tk)(r:ZJ->am->cN->Prop):Prop:=
 ∀(pins:ZW)(s:Tl)(σ:St)(H:am)(xs:ZJ)(us:ZR)(Q:cN),Inv X pins σ H s->b5 xs us->r xs H Q->
  wpAny (UF X.prog X.w) X.A (call f us) (hB X pins σ Q) X.xe s
def Lc(X:aJ)(r:V->am->(Bool->am->Prop)->Prop):Prop:=
 ∀(pins:ZW)(s:Tl)(σ:St)(H:am)(x:V)(v:Tk)(Q:Bool->am->Prop),Inv X pins σ H s->RelV x v->r x H Q->
  wpAny (UF X.prog X.w) X.A (truthy v) (u0 X pins σ Q) X.xe s
def m6(r:fh)(bO tb:bK):bK:=λσ H Q=>bO σ H λx ar=>tb σ ar λy a5=>r x y a5 Q
def y'(r:V->am->cN->Prop)(bO:bK):bK:=λσ H Q=>bO σ H λx ar=>r x ar Q
def qK(C:Int->Int->Prop)(g:Int->Int->V):fh:=λx y H Q=>∃i j,x=.int i/\y=.int j/\C i j/\Q (g i j) H
def kw(g:Int->Int->V):fh:=λx y H Q=>∃i j,x=.int i/\y=.int j/\Q (g i j) H
def za(g:Int->V):V->am->cN->Prop:=λx H Q=>∃i,x=.int i/\Q (g i) H
section
variable{X:aJ}{a b c:Wp}{bO tb tc:bK}{pos:Pos}
theorem zb(aw:b6 X a bO)(ab:b6 X b tb){pins:ZW}{s:Tl}{σ:St}{H:am}{R:V->V->am->Prop}(I:Inv X pins σ H s)(h:bO σ H λx ar=>tb σ ar λy a5=>R x y a5){Q:Tk->Tl->Prop}{f:Tk->Tk->Sem Tk}(bf:∀v u a3 x y a5,Inv X pins σ a5 a3->RelV x v->RelV y u->R x y a5->wpAny (UF X.prog X.w) X.A (f v u) Q X.xe a3):
  wpAny (UF X.prog X.w) X.A (XJ a X.env) (λv dZ=>wpAny (UF X.prog X.w) X.A (XJ b X.env) (λu y4=>wpAny (UF X.prog X.w) X.A (f v u) Q X.xe y4) X.xe dZ) X.xe s:=by
 refine cc (aw pins s σ H _ I h) λv az ⟨x,ar,a2,r1,aO⟩=>?_;refine cc (ab pins az σ ar _ a2 aO) λu a3 ⟨y,a5,dM,r2,bz⟩=>?_;exact bf v u a3 x y a5 dM r1 r2 bz
theorem fW{op:Operator}{r:fh}(aB:gl X (YK op) r)(aw:b6 X a bO)(ab:b6 X b tb):b6 X (.BinOp a op b pos) (m6 r bO tb):=by
 intro pins s σ H Q I h;exact wpAny_BinOp (zb aw ab I h λv u a3 x y a5 dM bt cA q=>aB pins a3 σ a5 x y v u Q dM bt cA q)
theorem Ld{op:UnaryOp}{r:V->am->cN->Prop}(aB:y9 X (unaryOp op) r)(aw:b6 X a bO):b6 X (.UnaryOp op a pos) (y' r bO):=by
 intro pins s σ H Q I h;exact UnaryOp_ (cc (aw pins s σ H _ I h) λv az ⟨x,ar,a2,r1,aO⟩=>aB pins az σ ar x v Q a2 r1 aO)
theorem vb{f:Tk->Tk->Sem Tk}{C:Int->Int->Prop}{g:Int->Int->Int}(rule:∀(i j:Int) (t u:Tok) (s:Tl) (Q:Tk->Tl->Prop) (E:Tk->Tl->Prop),C i j->Q (.int (g i j) s.toks) {s with toks:=s.toks+1}->wpAny (UF X.prog X.w) X.A (f (.int i t) (.int j u)) Q E s):
  gl X f (qK C λi j=>.int (g i j)):=by
 intro pins s σ H x y v u Q I bt cA h;obtain⟨i,j,rfl,rfl,hc,q⟩:=h;obtain⟨t,rfl⟩:=bt;obtain⟨t',rfl⟩:=cA;exact rule i j t t' s _ _ hc ⟨.int (g i j),H,I.tok _,⟨_,rfl⟩,q⟩
theorem Dm{f:Tk->Tk->Sem Tk}{g:Int->Int->Int}(rule:∀(i j:Int) (t u:Tok) (s:Tl) (Q:Tk->Tl->Prop) (E:Tk->Tl->Prop),Q (.int (g i j) s.toks) {s with toks:=s.toks+1}->wpAny (UF X.prog X.w) X.A (f (.int i t) (.int j u)) Q E s):
  gl X f (kw λi j=>.int (g i j)):=by
 intro pins s σ H x y v u Q I bt cA h;obtain⟨i,j,rfl,rfl,q⟩:=h;obtain⟨t,rfl⟩:=bt;obtain⟨t',rfl⟩:=cA;exact rule i j t t' s _ _ ⟨.int (g i j),H,I.tok _,⟨_,rfl⟩,q⟩
theorem qL{f:Tk->Tk->Sem Tk}{g:Int->Int->Bool}(rule:∀(i j:Int) (t u:Tok) (s:Tl) (Q:Tk->Tl->Prop) (E:Tk->Tl->Prop),Q (.bool (g i j)) s->wpAny (UF X.prog X.w) X.A (f (.int i t) (.int j u)) Q E s):
  gl X f (kw λi j=>.bl (g i j)):=by
 intro pins s σ H x y v u Q I bt cA h;obtain⟨i,j,rfl,rfl,q⟩:=h;obtain⟨t,rfl⟩:=bt;obtain⟨t',rfl⟩:=cA;exact rule i j t t' s _ _ ⟨.bl (g i j),H,I,rfl,q⟩
def Dn(i j:Int):Prop:=0<=j/\j<=1000000/\i.natAbs<2^64
theorem vc:gl X (YK .Add) (kw λi j=>.int (i+j)):=Dm λ_ _ _ _ _ _ _ q=>add_int q
theorem Le:gl X (YK .Sub) (kw λi j=>.int (i-j)):=Dm λ_ _ _ _ _ _ _ q=>sub_int q
theorem m7:gl X (YK .Mod) (qK (λ_ j=>0<j) λi j=>.int (i%j)):=vb λi j _ _ _ _ _ hc q=>by
 have h1:(0:Int)<j:=hc;exact mod_int' (by lia) (by rw[Int.fmod_eq_emod_of_nonneg i (by lia)];exact q)
theorem zc:gl X (YK .Pow) (qK Dn λi j=>.int (i^j.toNat)):=vb λ_ _ _ _ _ _ _ hc q=>pow_int_small hc.1 hc.2.1 hc.2.2 q
theorem Lf{f:Tk->Sem Tk}{g:Int->Int}(rule:∀(i:Int) (t:Tok) (s:Tl) (Q:Tk->Tl->Prop) (E:Tk->Tl->Prop),Q (.int (g i) s.toks) {s with toks:=s.toks+1}->wpAny (UF X.prog X.w) X.A (f (.int i t)) Q E s):
  y9 X f (za λi=>.int (g i)):=by
 intro pins s σ H x v Q I bt h;obtain⟨i,rfl,q⟩:=h;obtain⟨t,rfl⟩:=bt;exact rule i t s _ _ ⟨.int (g i),H,I.tok _,⟨_,rfl⟩,q⟩
theorem Lg:y9 X (unaryOp .USub) (za λi=>.int (-i)):=Lf λ_ _ _ _ _ q=>neg_int q
end
section
variable{X:aJ}{a b c:Wp}{bO tb tc:bK}{pos:Pos}
theorem me:gl X (XU .Lt) (kw λi j=>.bl (decide (i<j))):=qL λ_ _ _ _ _ _ _ q=>lt_int q
theorem Lh:gl X (XU .LtE) (kw λi j=>.bl (decide (i<=j))):=qL λ_ _ _ _ _ _ _ q=>le_int q
theorem qM:gl X (XU .Gt) (kw λi j=>.bl (decide (j<i))):=qL λ_ _ _ _ _ _ _ q=>gt_int q
theorem zd:gl X (XU .GtE) (kw λi j=>.bl (decide (j<=i))):=qL λ_ _ _ _ _ _ _ q=>ge_int q
theorem d6(b:Wp){op:CmpOp}(h:op≠.In:=by decide)(h2:op≠.NotIn:=by decide):XF op b=false:=by
 have ai:(op==CmpOp.In)=false:=by cases op<;>first|rfl|exact absurd rfl h
 have ap:(op==CmpOp.NotIn)=false:=by cases op<;>first|rfl|exact absurd rfl h2
 cases b<;>simp[XF,ai,ap]
theorem Do{op:CmpOp}{r:fh}(aB:gl X (XU op) r)(aw:b6 X a bO)(ab:b6 X b tb)(av:XF op b=false):b6 X (.Compare a [op] [b] pos) (m6 r bO tb):=by
 intro pins s σ H Q I h;exact wpAny_Compare1 (zb aw ab I h λv u a3 x y a5 dM bt cA q=>aB pins a3 σ a5 x y v u Q dM bt cA q) av
def Li(t:bK):ff:=λσ H Q=>t σ H λx al=>∃k,x=.bl k/\Q k al
theorem pC{op:CmpOp}{r:fh}(aB:gl X (XU op) r)(aw:b6 X a bO)(ab:b6 X b tb)(av:XF op b=false):jj X (.Compare a [op] [b] pos) (Li (m6 r bO tb)):=by
 intro pins s σ H Q I h
 refine wpAny_isTrue_Compare1 (cc (aw pins s σ H _ I h) λv az ⟨x,ar,a2,r1,aO⟩=>cc (ab pins az σ ar _ a2 aO) λu a3 ⟨y,a5,dM,r2,bz⟩=>
  cc (aB pins a3 σ a5 x y v u _ dM r1 r2 bz) λc bR ⟨z,cI,dc,gM,k,e,et⟩=>?_) av
 subst e;cases gM;exact XG ⟨cI,dc,et⟩
def Dp(K:F6)(x:V)(H:am)(k:Bool):Prop:=
 match x with
 |.non=>k=false
 |.bl b=>k=b
 |.int i=>k=(i != 0)
 |.str y=>y.length<=TT/\k=((y.length:Int) != 0)
 |.byt y=>y.size<=TT/\k=((y.size:Int) != 0)
 |.ref p=>(∃xs,cE K H p xs/\k = !xs.isEmpty)\/(∃xs,e7 K H p xs/\k = !xs.isEmpty)\/∃kvs,H p=some (.dK kvs)/\k = !kvs.isEmpty
 |_=>False
theorem Lj{κ:Type}{kvs:List (κ×V)}{vs:List (κ×Tk)}(r:yX kvs vs):(!vs.isEmpty) = !kvs.isEmpty:=by
 cases r<;>rfl
theorem Dq{xs:ZJ}{its:ZR}(r:b5 xs its):(!its.toArray.isEmpty) = !xs.isEmpty:=by
 cases r<;>simp
theorem sj:(TT:Nat)<2^63:=by rw[Yc];decide
theorem Lk:Lc X (λx H Q=>∃k,Dp X.K x H k/\Q k H):=by
 intro pins s σ H x v Q I bt h;obtain⟨k,e,q⟩:=h;have ao:=sj;have aj:TT=16777216:=Yc;cases x with
 |non=>
  cases bt;have aW:k=false:=e;subst aW;exact truthy_none ⟨H,I,q⟩
 |bl b=>
  cases bt;have aW:k=b:=e;subst aW;exact XG ⟨H,I,q⟩
 |int i=>
  obtain⟨t,rfl⟩:=bt;have aW:k=(i != 0):=e;subst aW;exact PySem.P.truthy_int ⟨H,I,q⟩
 |str y=>
  obtain⟨t,rfl⟩:=bt;obtain⟨aG,aW⟩:y.length<=TT/\k=((y.length:Int) != 0):=e;subst aW;exact PySem.P.truthy_str (by lia) ⟨H,I.tok _,q⟩
 |byt y=>
  obtain⟨t,rfl⟩:=bt;obtain⟨aG,aW⟩:y.size<=TT/\k=((y.size:Int) != 0):=e;subst aW;exact PySem.W.truthy_bytes (by lia) ⟨H,I.tok _,q⟩
 |ref p=>
  cases bt;have aW:(∃xs,cE X.K H p xs/\k = !xs.isEmpty)\/(∃xs,e7 X.K H p xs/\k = !xs.isEmpty)\/∃kvs,H p=some (.dK kvs)/\k = !kvs.isEmpty:=e;rcases aW with⟨xs,aq,aW⟩|⟨xs,aq,aW⟩|⟨kvs,aq,aW⟩
  ·subst aW;obtain⟨its,r,cm,hz⟩:=I.list aq;have gb:=r.length;exact wpAny_truthy_list cm.isList (by simp only[SY];lia) ⟨H,I.tok _,by rw[Dq r];exact q⟩
  ·subst aW;obtain⟨its,r,cm,hz⟩:=I.tuple aq;have gb:=r.length;exact truthy_tuple cm (by simp only[SY];lia) ⟨H,I.tok _,by rw[Dq r];exact q⟩
  ·subst aW;obtain⟨hz,ci,vs,r,m⟩:kvs.length<=TT/\(p==XM)=false/\∃vs,yX kvs vs/\s.heap.DictOf (yW X.prog X.w) p vs:=I.hok p _ aq;have gb:kvs.length=vs.length:=Paired.length r;exact wpAny_truthy_dict ci m (by lia) ⟨H,I.tok _,by rw[Lj r];exact q⟩
 |_=>exact(show False from e).elim
theorem Ll(aw:b6 X a bO)(ax:∀j3,Zo a X.env j3=(do let v <-j3;Zy a.pos;Y1 [v] (truthy v))):
  jj X a (λσ H Q=>bO σ H λx al=>∃k,Dp X.K x al k/\Q k al):=by
 intro pins s σ H Q I h;exact isTrue_plain (cc (aw pins s σ H _ I h) λv az ⟨x,ar,a2,r1,aO⟩=>Lk pins az σ ar x v Q a2 r1 aO) (ax _)
theorem vals1{x:V}{us:ZR}(r:b5 [x] us):∃u,us=[u]/\RelV x u:=by
 cases r with
 |cons r1 r2=>cases r2;exact⟨_,rfl,r1⟩
theorem vals2{x y:V}{us:ZR}(r:b5 [x,y] us):∃u mb,us=[u,mb]/\RelV x u/\RelV y mb:=by
 cases r with
 |cons r1 r2=>
  cases r2 with
  |cons gM sk=>cases sk;exact⟨_,_,rfl,r1,gM⟩
theorem Lm:pB X (.builtin "abs") (λxs H Q=>∃i,xs=[.int i]/\Q (.int (if i<0 then -i else i)) H):=by
 intro pins s σ H xs us Q I r h;obtain⟨i,rfl,q⟩:=h;obtain⟨u,rfl,t,rfl⟩:=vals1 r;exact call_abs_int λu dA=>⟨.int (if i<0 then -i else i),H,I.tok _,⟨_,rfl⟩,q⟩
theorem Ln:pB X (.type "int") (λxs H Q=>(∃i,xs=[.int i]/\Q (.int i) H)\/∃k,xs=[.bl k]/\Q (.int (if k then 1 else 0)) H):=by
 intro pins s σ H xs us Q I r h;rcases h with⟨i,rfl,q⟩|⟨k,rfl,q⟩
 ·obtain⟨u,rfl,t,rfl⟩:=vals1 r;exact call_int_int ⟨.int i,H,I,⟨_,rfl⟩,q⟩
 ·obtain⟨u,rfl,r1⟩:=vals1 r;cases r1;exact call_int_bool ⟨.int (if k then 1 else 0),H,I.tok _,⟨_,rfl⟩,q⟩
end
structure ze (h:XB) (x eD C:TI) (f1:Str->Option Tk):Prop where
 obj:h.get? x=some (VL C eD)
 ns:h.Ns1 eD f1
 ne:eD≠x
theorem Lo{h:XB}{eD:TI}{f1:Str->Option Tk}(n:h.Ns1 eD f1):∃od,h.get? eD=some od/\∀name,VP name od=some (f1 name):=by
 obtain⟨o,es,ep,aB,hd,ag,_,av⟩:=n;refine⟨o,aB,λname=>?_⟩;have e:=av name;unfold nsFind findBy at e;rw[<-Array.find?_toList]at e;unfold VP;rw[hd];dsimp only;split
 ·rename_i y q
  rw[q]at e;exact TW some e
 ·rename_i q
  rw[q]at e
  have a:es.toList.any (·.refKey)=false:=by
   rw[List.any_eq_false];intro y aG;obtain⟨z,t,pD⟩:=ag y (WE.mp aG);simp[DictEntry.refKey,pD]
  have fv:¬es.toList.any (·.refKey)=true:=by rw[a];exact S6
  rw[SZ fv];exact TW some e
theorem ze.look{h:XB}{x eD C:TI}{f1:Str->Option Tk}(I:ze h x eD C f1):∃od,PySem.W.InstAt h x (VL C eD) C (some od)/\∀name,VP name od=some (f1 name):=
 let⟨od,aB,ao⟩:=Lo I.ns
 ⟨od,⟨I.obj,rfl,rfl,aB⟩,ao⟩
theorem n4.some_of{v:V}{o:Option Tk}(r:n4 (some v) o):∃u,o=some u/\RelV v u:=by
 cases o with
 |none=>exact(show False from r).elim
 |some u=>exact⟨u,rfl,r⟩
section
variable{P:Uf}{w:WP}{H al:am}{h h':XB}{a C eD:TI}{fs J2:List (Str×V)}
theorem Lp(hok:e0 P w H h)(e:H a=some (.ins C eD fs)):∃f1,ze h a eD C f1/\(∀f,n4 (fs.lookup f) (f1 f))/\PySem.Within f1 (fs.map (·.1))/\fs.length<=1000/\H eD=some (.own a):=by
 obtain⟨d,z,ne,cx,f1,n,r,q⟩:=(show gz P w H h a (.ins C eD fs)from hok a _ e);exact⟨f1,⟨cx,n,ne⟩,r,q,z,d⟩
end
structure zf (K:F6) (C:TI):Prop where
 pg:WG K C Str.empty=true
 hd:PySem.W.hasDictIn K C=true
 po:PySem.W.plainOver K C=true
 sa:WH K (.ref C) "__setattr__"=some (some (.builtin "object.__setattr__"))
theorem zf.get{K:F6}{C:TI}(c:zf K C)(f:Str):WG K C f=true:=c.pg
section
variable{X:aJ}{pins:ZW}{σ:St}{H:am}{s:Tl}{A:Xv}{E:Tk->Tl->Prop}{Q:Tk->Tl->Prop}{c:Tk}{b:Bool}
inductive jJ (K:F6) (H:am):V->Tk->Prop where
 |non:jJ K H .non (.type "NoneType")
 |bl (x:Bool):jJ K H (.bl x) (.type "bool")
 |int (i:Int):jJ K H (.int i) (.type "int")
 |str (x:Str):jJ K H (.str x) (.type "str")
 |flt (x:UInt64):jJ K H (.flt x) (.type "float")
 |lst {a:TI} {xs:ZJ} (e:H a=some (.lst xs)):jJ K H (.ref a) (.type "list")
 |frz {a:TI} {o:Obj} {xs:ZJ} (e:H a=some (.frz o (.lst xs))):jJ K H (.ref a) (.type "list")
 |tup {a:TI} {xs:ZJ} (e:H a=some (.tup xs)):jJ K H (.ref a) (.type "tuple")
 |dK {a:TI} {kvs:List (hV×V)} (e:H a=some (.dK kvs)):jJ K H (.ref a) (.type "dict")
 |dT {a:TI} {kvs:List (List hV×V)} (e:H a=some (.dT kvs)):jJ K H (.ref a) (.type "dict")
 |ins {a C eD:TI} {fs:List (Str×V)} (e:H a=some (.ins C eD fs)) (bv:zf K C) (aw:WH K (.ref C) "__class__"=some (some (.builtin "object.__class__")))
   (aN:PySem.W.specialIn K (.builtin "object.__class__") "__get__"=some (some (.builtin "getset_descriptor.__get__"))) (Dr:PySem.W.takesIn K (.builtin "object.__class__")=some true)
   (av:PySem.W.mroIn K C (.type "object")=some true):jJ K H (.ref a) (.ref C)
theorem Lq{x:V}{u t:Tk}(I:Inv X pins σ H s)(bt:RelV x u)(ty:jJ X.K H x t)(e:VQ X.K t c=some b)(h:∀dA,Q (.bool b) {s with toks:=dA}):
  wpAny (UF X.prog X.w) A (call (.builtin "isinstance") [u,c]) Q E s:=by
 cases ty with
 |non=>cases(show u=Value.none from bt);exact TQ PySem.W.kitx_none I.kIn UU e (λz=>nomatch z) h
 |bl y=>cases(show u=Value.bool y from bt);exact TQ PySem.W.kitx_bool I.kIn UU e (λz=>nomatch z) h
 |int i=>obtain⟨t,q⟩:=(show ∃t,u=Value.int i t from bt);cases q;exact TQ PySem.W.kitx_int I.kIn UU e (λz=>nomatch z) h
 |str y=>obtain⟨t,q⟩:=(show ∃t,u=Value.str y t from bt);cases q;exact TQ PySem.W.kitx_str I.kIn UU e (λz=>nomatch z) h
 |flt y=>obtain⟨t,q⟩:=(show ∃t,u=Value.float y t from bt);cases q;exact TQ PySem.W.kitx_float I.kIn UU e (λz=>nomatch z) h
 | @lst a xs dN=>
  cases(show u=Value.ref a from bt);obtain⟨_,_,n,_,h1⟩:=(show gz X.prog X.w H s.heap a (.lst xs)from I.hok a _ dN);exact TQ WI I.kIn ⟨_,h1,rfl⟩ e (λz=>nomatch z) h
 | @frz a cx xs dN=>
  cases(show u=Value.ref a from bt);obtain⟨_,_,_,n,_,h1⟩:=(show gz X.prog X.w H s.heap a (.frz cx (.lst xs))from I.hok a _ dN);exact TQ WI I.kIn ⟨_,h1,rfl⟩ e (λz=>nomatch z) h
 | @tup a xs dN=>
  cases(show u=Value.ref a from bt);obtain⟨_,_,_,p⟩:=(show gz X.prog X.w H s.heap a (.tup xs)from I.hok a _ dN);obtain⟨o,h1,h2,_⟩:=p;exact TQ PySem.W.kitx_tuple I.kIn ⟨o,h1,h2⟩ e (λz=>nomatch z) h
 | @dK a kvs dN=>
  cases(show u=Value.ref a from bt);obtain⟨_,_,vs,_,p⟩:=(show gz X.prog X.w H s.heap a (.dK kvs)from I.hok a _ dN);obtain⟨o,es,ep,h1,h2,_⟩:=p;exact TQ WJ I.kIn ⟨o,h1,h2.1⟩ e (λz=>nomatch z) h
 | @dT a kvs dN=>
  cases(show u=Value.ref a from bt);obtain⟨_,_,xs,_,o,es,ep,h1,h2,_⟩:=(show gz X.prog X.w H s.heap a (.dT kvs)from I.hok a _ dN);exact TQ WJ I.kIn ⟨o,h1,h2.1⟩ e (λz=>nomatch z) h
 | @ins a C eD fs dN bv aw aN Dr av=>
  cases(show u=Value.ref a from bt);obtain⟨f1,O,_⟩:=Lp I.hok dN;obtain⟨od,J,_⟩:=O.look;exact TQ (PySem.W.kitx_own (bv.get _) bv.hd aw aN Dr av) I.kIn J e (λz=>nomatch z) h
end
structure fw (k:Nat) (A:Xv):Prop where
 hd:A.handled=none
 dp:A.depth+3*k+5<recursionLimit
 un:A.units+16*k+200<XZ
theorem fw.mono{j k:Nat}{A:Xv}(r:fw k A)(h:j<=k):fw j A:=⟨r.hd,by have:=r.dp;lia,by have:=r.un;lia⟩
theorem fw.deeper{k:Nat}{A:Xv}(r:fw (k+1) A)(env:Env):fw k (A.deeper env):=
 ⟨r.hd,by have:=r.dp;show A.depth+1+3*k+5<_;lia,by have:=r.un;show A.units+3+16*k+200<_;lia⟩
theorem fw.depth{k:Nat}{A:Xv}(r:fw k A):A.depth<recursionLimit:=by have:=r.dp;lia
theorem fw.units{k:Nat}{A:Xv}(r:fw k A):A.units+64<XZ:=by have:=r.un;lia
def vd:eE:=λ_ H Q=>Q [] H
def ve(bO:bK)(Lr:eE):eE:=λσ H Q=>bO σ H λx ar=>Lr σ ar λxs a5=>Q (x::xs) a5
section
variable{X:aJ}{e:Wp}{es:ZT}{cH:bK}{t:eE}{pos:Pos}
theorem gN:hl X [] vd:=λ_ _ _ _ H Q I h=>Calls.spliced_nil ⟨[],H,I,.nil,h⟩
theorem fi(aw:b6 X e cH)(ak:hl X es t)(aj:TD (e::es) X.env=(false,XJ e X.env)::TD es X.env:=by rfl):hl X (e::es) (ve cH t):=by
 intro pos pins s σ H Q I h;rw[aj];show wpAny _ _ (spliced ((false,XJ e X.env)::XC pos (TD es X.env))) _ _ s
 refine Calls.spliced_cons (cc (aw pins s σ H _ I h) λu az ⟨x,ar,a2,r1,aO⟩=>?_);exact cc (ak pos pins az σ ar _ a2 aO) λus a3 ⟨xs,a5,dM,r2,bz⟩=>⟨x::xs,a5,dM,.cons r1 r2,bz⟩
def Ls(t:eE):bK:=λσ H Q=>t σ H λxs ar=>xs.length<=TT/\∀p,ar p=none->Q (.ref p) (upd ar p (.tup xs))
def Lu(t:eE):bK:=λσ H Q=>t σ H λxs ar=>xs.length<=TT/\∀p,ar p=none->Q (.ref p) (upd ar p (.lst xs))
theorem Ds{bC}(h:hl X es t):b6 X (.Tuple es bC pos) (Ls t):=by
 intro pins s σ H Q I ay;refine wpAny_Tuple_spliced (cc (h pos pins s σ H _ I ay) λus az ⟨xs,ar,a2,r,z,q⟩=>⟨by rw[<-r.length];exact z,?_⟩);have bf:ar az.heap.objs.size=none:=a2.hok.fresh (Sx _);refine⟨.ref az.heap.objs.size,upd ar az.heap.objs.size (.tup xs),a2.laid (t':=az.toks) (λb u e=>Heap.get?_push_of_some _ e) (Sx _) ?_,rfl,q _ bf⟩;exact⟨z,us,r,⟨_,Heap.get?_push_size _ rfl,rfl,_,rfl⟩⟩
theorem vf(h:hl X es t):b6 X (.List es pos) (Lu t):=by
 intro pins s σ H Q I ay;refine wpAny_List_spliced (cc (h pos pins s σ H _ I ay) λus az ⟨xs,ar,a2,r,z,q⟩=>⟨by rw[<-r.length];exact z,?_⟩);have bf:ar az.heap.objs.size=none:=a2.hok.fresh (Sx _);refine⟨.ref az.heap.objs.size,upd ar az.heap.objs.size (.lst xs),a2.laid (t':=az.toks) (λb u e=>Heap.get?_push_of_some _ e) (Sx _) ?_,rfl,q _ bf⟩;exact⟨z,us,0,r,Heap.get?_push_size _ rfl⟩
end
abbrev hm:=ZJ->am->cN->gj->Prop
abbrev lj:=List Env->am->Tl->gj->Tk->Tl->Prop
structure vg (P:Uf) (w:WP) (K:F6) (mg:Str->Option Tk) (base:XB) (A:Xv) (outer:List Env) (s:Tl) (H:am):Prop where
 frames:A.frames=some outer
 mod:Mod K mg base
 bs:∀b o,base.get? b=some o->s.heap.get? b=some o/\H b=none
 bsz:base.objs.size<=s.heap.objs.size
 funs:s.heap.FunFrames base outer
 frf:∀b∈kq outer,H b=none
 hok:e0 P w H s.heap
 bare:YS s.gens
def zg(outer:List Env)(P:Uf)(w:WP)(H:am)(s:Tl)(Q:cN)(u:Tk)(s':Tl):Prop:=
 ∃v al,s'.os=s.os/\YS s'.gens/\f2 (kq outer) [] H al s.heap s'.heap/\e0 P w al s'.heap/\RelV v u/\Q v al
def Lv(fL:lj)(outer:List Env)(P:Uf)(w:WP)(H:am)(s:Tl)(Q:cN)(E:gj)(r:Result)(s':Tl):Prop:=
 match r with
 |.ok (.ret u)=>zg outer P w H s Q u s'
 |.ok _=>False
 |.error e=>fL outer H s E e s'
structure jK (P:Uf) (w:WP) (K:F6) (mg:Str->Option Tk) (base:XB) (fL:lj) (k:Nat) (f:TI) (fd:X3) (ps:ZQ) (sp:hm):Prop where
 len:∀vs H Q E,sp vs H Q E->vs.length=ps.length
 run:∀(A:Xv)(outer:List Env)(s:Tl)(H:am)(args:Args)(us:ZR)(vs:ZJ)(Q:cN)(E:gj),fw k A->vg P w K mg base A outer s H->ZA s fd args (ps.zip us)->b5 vs us->sp vs H Q E->
  codeAny (UF P w) A (.call (.ref f) args) (Lv fL outer P w H s Q E) s
theorem jK.imp{P:Uf}{w:WP}{K:F6}{mg:Str->Option Tk}{base:XB}{fL:lj}{k:Nat}{f:TI}{fd:X3}{ps:ZQ}{sp sn:hm}(F:jK P w K mg base fL k f fd ps sp)(h:∀vs H Q E,sn vs H Q E->sp vs H Q E):jK P w K mg base fL k f fd ps sn:=
 ⟨λvs H Q E q=>F.len vs H Q E (h _ _ _ _ q),λA outer s H args us vs Q E ak ax ab aH aj=>F.run A outer s H args us vs Q E ak ax ab aH (h _ _ _ _ aj)⟩
section
variable{X:aJ}{pins:ZW}{σ:St}{H:am}{s s':Tl}
theorem Inv.env0(I:Inv X pins σ H s):vg X.prog X.w X.K X.mg X.base X.A X.stack s H:=
 ⟨I.ok.frames,I.ok.mod,I.bs,SA I.ok.bsz I.sz,I.stack,I.stkFree,I.hok,I.bare⟩
theorem Inv.after{Q:cN}{u:Tk}(I:Inv X pins σ H s)(h:zg X.stack X.prog X.w H s Q u s'):hB X pins σ Q u s':=by
 obtain⟨v,al,os,bare,un,hok,r,q⟩:=h;obtain⟨dE,g,d,t,Lw⟩:=s';obtain rfl:Lw=s.os:=os;exact⟨v,al,I.call (h':=dE) (g':=g) (d':=d) (t':=t) (ch:=[]) un hok bare (λb z=>absurd z (by simp)),r,q⟩
end
def vh(sp:hm)(oe:ZJ)(E:gj)(t:eE):bK:=λσ H Q=>t σ H λvs ar=>sp (vs++oe) ar Q E
def Binds(K:F6)(fd:X3)(ps:ZQ)(ds:ZR):Prop:=
 ∀(s:Tl)(us:ZR),K.In s.heap->(us++ds).length=ps.length->ZA s fd ⟨us,[]⟩ (ps.zip (us++ds))
theorem Binds.all{K:F6}{fd:X3}{ps:ZQ}(h:∀us:ZR,us.length=ps.length->ZB fd ⟨us,[]⟩=pure (ps.zip us)):Binds K fd ps []:=λs us _ ao=>by
 rw[SO]at ao⊢;exact .of_eq (h us ao)
def zh(fL:lj)(X:aJ)(E:gj):Prop:=∀(pins:ZW)(σ:St)(H:am)(s:Tl)(e:Tk)(s':Tl),Inv X pins σ H s->fL X.stack H s E e s'->X.xe e s'
section
variable{X:aJ}{fL:lj}{k:Nat}{f C:TI}{fd:X3}{ps:ZQ}{sp:hm}{oe:ZJ}{ds:ZR}{E:gj}{x m:Str}{p pos dr:Pos}{e o:Wp}{es:ZT}{bO:bK}{t:eE}
theorem Dt{pins:ZW}{σ:St}{H:am}{s:Tl}{Q:cN}{us:ZR}{vs:ZJ}(F:jK X.prog X.w X.K X.mg X.base fL k f fd ps sp)(ak:fw k X.A)(ab:Binds X.K fd ps ds)(hd:b5 oe ds)(aq:zh fL X E)(I:Inv X pins σ H s)(r:b5 vs us)(h:sp (vs++oe) H Q E):wpAny (UF X.prog X.w) X.A (call (.ref f) us) (hB X pins σ Q) X.xe s:=by
 have r2:b5 (vs++oe) (us++ds):=r.append hd;have ao:(us++ds).length=ps.length:=by rw[<-r2.length];exact F.len _ _ _ _ h
 refine wpAny_call (Yy (F.run X.A X.stack s H ⟨us,[]⟩ (us++ds) (vs++oe) Q E ak I.env0 (ab s us I.kIn ao) r2 h) λr s' ay=>?_);cases r with
 |error e=>exact aq pins σ H s e s' I ay
 |ok kx=>
  cases kx with
  |ret u=>exact I.after ay
  |next=>exact TY ay
  |brk=>exact TY ay
  |cont=>exact TY ay
theorem Lx(F:jK X.prog X.w X.K X.mg X.base fL k f fd ps sp)(ak:fw k X.A)(aD:e2 X x)(av:X.mg x=some (.ref f))(ag:U7 X.K (.ref f)=true)(ab:Binds X.K fd ps ds)(hd:b5 oe ds)(aq:zh fL X E)(aw:hl X (e::es) t)(iy:(x==("__debug__":Str))=false:=by decide)(ax:TD (e::es) X.env=(false,XJ e X.env)::TD es X.env:=by rfl)(fj:(XC pos (TD es X.env)).any (·.1)=false:=by rfl):
  b6 X (.Call (.Name x p) (e::es) [] pos) (vh sp oe E t):=by
 intro pins s σ H Q I h;refine XD (C' I aD av ?_ iy);refine WK (h₀:=X.base) I.ok.mod.kin ag (cc (aw pos pins s σ H _ I h) λus az ⟨vs,ar,a2,r,q⟩=>⟨a2.kIn,?_⟩) ax fj;exact Dt F ak ab hd aq a2 r q
end
structure cM (N P:ZQ) (sc:YG):Prop where
 kind:sc.kind=.function
 co:sc.isCoroutine=false
 gen:sc.isGenerator=false
 nd:N.Nodup
 pre:N.take P.length=P
 par:∀x∈P,sc.names.lookup x=some .local\/sc.names.lookup x=some .cell
 nofree:∀y∈sc.names,y.2≠.free
theorem Du{kindOf:Str->Option Y7}{x:Str}:∀{binds:List (Str×Tk)}{m:Str->Option Tk},(∀v,(x,v)∉binds)->bindL kindOf binds m x=m x
 |[],_,_=>rfl
 | (n,v)::r,m,h=>by
  unfold bindL;rw[Du λw hw=>h w (Sy _ hw)];split
  ·have:x≠n:=by rintro rfl;exact h v Sv
   simp[this]
  ·rfl
theorem Dv{kindOf:Str->Option Y7}{x:Str}:∀{binds:List (Str×Tk)}{m:Str->Option Tk},(∀v,(x,v)∉binds)->bindC kindOf binds m x=m x
 |[],_,_=>rfl
 | (n,v)::r,m,h=>by
  unfold bindC;rw[Dv λw hw=>h w (Sy _ hw)];split
  ·rfl
  ·have:x≠n:=by rintro rfl;exact h v Sv
   simp[this]
theorem Dw{kindOf:Str->Option Y7}{x:Str}{v:Tk}:∀{P:ZQ}{vs:ZR}{i:Nat}{m:Str->Option Tk},P.Nodup->P[i]?=some x->vs[i]?=some v->kindOf x=some .local->
  bindL kindOf (P.zip vs) m x=some v
 |[],_,_,_,_,h,_,_=>by simp at h
 |_::_,[],_,_,_,_,h,_=>by simp at h
 |p::P,w::vs,0,m,nd,h1,h2,ag=>by
  simp at h1 h2;subst h1;subst h2;show bindL kindOf ((p,w)::P.zip vs) m p=_
  unfold bindL;rw[Du λv aH=>(TJ.mp nd).1 (VR aH).1,SL ag];simp
 |p::P,w::vs,i+1,m,nd,h1,h2,ag=>by
  show bindL kindOf ((p,w)::P.zip vs) m x=_
  unfold bindL;exact Dw (i:=i) (TJ.mp nd).2 (by simpa using h1) (by simpa using h2) ag
theorem Dx{kindOf:Str->Option Y7}{x:Str}{v:Tk}:∀{P:ZQ}{vs:ZR}{i:Nat}{m:Str->Option Tk},P.Nodup->P[i]?=some x->vs[i]?=some v->kindOf x≠some .local->
  bindC kindOf (P.zip vs) m x=some v
 |[],_,_,_,_,h,_,_=>by simp at h
 |_::_,[],_,_,_,_,h,_=>by simp at h
 |p::P,w::vs,0,m,nd,h1,h2,ag=>by
  simp at h1 h2;subst h1;subst h2;show bindC kindOf ((p,w)::P.zip vs) m p=_
  unfold bindC;rw[Dv λv aH=>(TJ.mp nd).1 (VR aH).1,SZ ag];simp
 |p::P,w::vs,i+1,m,nd,h1,h2,ag=>by
  show bindC kindOf ((p,w)::P.zip vs) m x=_
  unfold bindC;exact Dx (i:=i) (TJ.mp nd).2 (by simpa using h1) (by simpa using h2) ag
def start(N:ZQ)(vs:ZJ):St:=vs.map some++S0 (N.length-vs.length) none
def mf(fL:lj)(P:Uf)(w:WP)(K:F6)(mg:Str->Option Tk)(base:XB)(N:ZQ)(eh:Str)(scope:YG)(f:TI)(ft:Tk)(A:Xv)(outer:List Env)(s:Tl)(H:am)(E:gj):aJ where
 prog:=P
 w:=w
 K:=K
 mg:=mg
 base:=base
 A:=A.deeper (Y8 eh scope s.heap.objs.size f ft)
 N:=N
 s₀:=s
 H₀:=H
 env:=Y8 eh scope s.heap.objs.size f ft
 outer:=outer
 stack:=Y8 eh scope s.heap.objs.size f ft::outer
 ex:=[]
 calm:=true
 fn:=λ_=>true
 pn:=[]
 xe:=λe s'=>wpAny (UF P w) (A.deeper (Y8 eh scope s.heap.objs.size f ft)) (leaving (Y8 eh scope s.heap.objs.size f ft) e) (λ_ zi=>fL outer H s E e zi) (λaW zi=>fL outer H s E aW zi) s'
theorem Dy{sc:YG}{n:Nat}{x:Str}(h:sc.names.lookup x=some .cell):∃c,(cellsFrom n sc.names []).lookup x=some c:=by
 have q:=WL sc.names n [] (.inl h);exact WM.mp q
theorem Ly{fL:lj}{P:Uf}{w:WP}{K:F6}{mg:Str->Option Tk}{base:XB}{N ps:ZQ}{eh:Str}{scope:YG}{f:TI}{ft:Tk}{A:Xv}{outer:List Env}{s az:Tl}{H:am}{E:gj}{us:ZR}{vs:ZJ}(S:cM N ps scope)(hd:A.handled=none)(d0:vg P w K mg base A outer s H)(ao:vs.length=ps.length)(r:b5 vs us)(x:InCallC s s.heap.objs.size (bindL (Y8 eh scope s.heap.objs.size f ft).kindOf (ps.zip us) λ_=>none) (cellsFrom (s.heap.objs.size+1) scope.names []) (bindC (Y8 eh scope s.heap.objs.size f ft).kindOf (ps.zip us) λ_=>none) az):
  Inv (mf fL P w K mg base N eh scope f ft A outer s H E) [] (start N vs) H az:=by
 have fj:ps.length<=N.length:=by have:=TW S1 S.pre;rw[U8]at this;lia
 obtain⟨h1,dA,rfl,ag⟩:=x.done;have so:∀b:TI,b∉(mf fL P w K mg base N eh scope f ft A outer s H E).ex:=λb z=>absurd (show b∈([]:ZS)from z) (by simp)
 refine⟨⟨d0.mod,S.kind,rfl,rfl,Sx _,λy z c h1 h2=>?_,λy aG=>?_,λy c _ h=>?_,λ_=>hd,Around.frames_deeper d0.frames,.inr ⟨rfl,rfl⟩,λb z=>absurd z (so b),d0.bs,d0.bsz,λb _ _=>so b,λb z=>absurd z (so b),d0.funs,d0.frf⟩,
  rfl,d0.bare,f2.kept ag,⟨_,x.toInCall.ns,λi y v h1 h2 aF=>?_⟩,λy c h=>⟨_,x.cell y c h⟩,d0.hok.fresh (Sx _),λy c h=>?_,λp ae=>absurd (show p∈([]:ZW)from ae) (by simp),d0.hok.kept ag,?_⟩
 ·exact name_of_addr x.apart (Uq h1) (Uq h2)
 ·have aG:scope.names.lookup y=some .cell\/scope.names.lookup y=some .free:=aG;rcases aG with aG|aG
  ·exact Dy aG
  ·exact absurd rfl (S.nofree _ (Uq aG))
 ·exact UT (x.above y c (Uq h))
 ·have au:i<vs.length:=by
   unfold start at h2;by_cases au:i<vs.length
   ·exact au
   ·rw[To (by simpa using au)]at h2;rw[Ur]at h2;split at h2<;>cases h2
  have aw:vs[i]?=some v:=by
   unfold start at h2;rw[TC (by simpa using au),S4]at h2;cases e:vs[i]? with
   |none=>rw[e]at h2;cases h2
   |some a=>rw[e]at h2;cases h2;rfl
  obtain⟨u,bo,cq⟩:=r.get aw
  have ae:ps[i]?=some y:=by
   rw[<-S.pre,List.getElem?_take_of_lt (by lia)];exact h1
  have Dz:ps.Nodup:=by rw[<-S.pre];exact S.nd.sublist (WN _ _)
  refine⟨u,cq,?_⟩;rcases S.par y (Tt ae)with k|k
  ·exact .inl ⟨k,Dw Dz ae bo k⟩
  ·obtain⟨c,e⟩:=Dy (n:=s.heap.objs.size+1) k;refine .inr ⟨.inl k,c,e,?_⟩;have q:=x.cell y c e;rw[Dx Dz ae bo (by show scope.names.lookup y≠_;rw[k];decide)]at q;exact q
 ·exact d0.hok.fresh (UT (x.above y c (Uq h)))
 ·unfold start;show _=N.length
  rw[SH,Sw,T9];lia
theorem Lz{fL:lj}{P:Uf}{w:WP}{K:F6}{mg:Str->Option Tk}{base:XB}{k:Nat}{f:TI}{name eh:Str}{params:Y4}{body:ZU}{scope:YG}{vi kV doc pm cdv ct oc:Tk}{an od:Option TI}{osl:Array (Option Tk)}{N ps:ZQ}{sp:hm}(lk:K.lookup f=some ⟨oc,od,.func (UC name eh params body scope vi kV doc pm an cdv ct),osl⟩)(ec:VS K cdv eh=true)(S:cM N ps scope)(len:∀vs H Q E,sp vs H Q E->vs.length=ps.length)(lm:∀(A:Xv) (outer:List Env) (s:Tl) (H:am) (vs:ZJ) (Q:cN) (E:gj),fw k (A.deeper (Y8 eh scope s.heap.objs.size f cdv))->sp vs H Q E->∃t,jl (mf fL P w K mg base N eh scope f cdv A outer s H E) body t/\t {nx:=λ_ al=>Q .non al,rt:=Q} (start N vs) H):
  jK P w K mg base fL (k+1) f (UC name eh params body scope vi kV doc pm an cdv ct) ps sp:=by
 refine⟨len,λA outer s H args us vs Q E ak d0 ab r qN=>?_⟩;have ao:=len _ _ _ _ qN;have og:K.In s.heap:=d0.mod.kin.keeps λb o e=>(d0.bs b o e).1;have lim:s.heap.NoLimit:=d0.mod.nolimit.keeps λb o e=>(d0.bs b o e).1
 have LA:∀y∈ps.zip us,scope.names.lookup y.1=some .local\/(scope.names.lookup y.1=some .cell/\((cellsFrom (s.heap.objs.size+1) scope.names []).lookup y.1).isSome=true):=λ⟨n,v⟩ aG=>by
  rcases S.par n (VR aG).1 with q|q
  ·exact .inl q
  ·exact .inr ⟨q,WL _ _ _ (.inl q)⟩
 refine codeAny_call_function ak.depth (og _ _ lk) rfl S.co S.gen rfl (PySem.W.codeRec_of og ec) (ab _ _ _ _ ?_);refine wpAny_newFunctionEnv_cells S.kind LA λenv ax az x=>?_;subst ax;refine⟨lim.keeps x.toInCall.keep,codeAny_func ?_⟩;obtain⟨t,bQ,ay⟩:=lm A outer s H vs Q E (ak.deeper _) qN;have I:Inv (mf fL P w K mg base N eh scope f cdv A outer s H E) [] (start N vs) H az:=Ly S ak.hd d0 ao r x;refine XN (bQ [] az (start N vs) H _ I ay) (λkx s' aj=>?_) λe s' aj=>aj
 have fU:∀{bq:St}{al:am}{v:V}{u:Tk},Inv (mf fL P w K mg base N eh scope f cdv A outer s H E) [] bq al s'->RelV v u->Q v al->zg outer P w H s Q u s':=
  λ{bq al v u} J cq q=>⟨v,al,J.os,J.bare,J.base,J.hok,cq,q⟩
 cases kx with
 |ret u=>
  obtain⟨v,bq,al,J,cq,q⟩:=aj;exact fU J cq q
 |next=>
  obtain⟨bq,al,J,q⟩:=aj;exact fU (v:=V.non) (u:=Value.none) J rfl q
 |brk=>
  obtain⟨_,_,_,q⟩:=aj;exact TY q
 |cont=>
  obtain⟨_,_,_,q⟩:=aj;exact TY q
section
variable{X:aJ}{x:Str}{p pos:Pos}{e:Wp}{es:ZT}{t:eE}{id T:String}{r:ZJ->am->cN->Prop}
def zj(r:ZJ->am->cN->Prop)(t:eE):bK:=λσ H Q=>t σ H λvs ar=>r vs ar Q
theorem sq(hc:pB X (.builtin id) r)(aD:e2 X x)(av:X.mg x=none)(aH:XS x=some (.builtin id))(aw:hl X (e::es) t)(aN:x≠"__name__":=by decide)(iy:(x==("__debug__":Str))=false:=by decide)(ax:TD (e::es) X.env=(false,XJ e X.env)::TD es X.env:=by rfl)(fj:(XC pos (TD es X.env)).any (·.1)=false:=by rfl):b6 X (.Call (.Name x p) (e::es) [] pos) (zj r t):=by
 intro pins s σ H Q I h;refine XD (m2 I aD av aH ?_ aN iy);exact WO (cc (aw pos pins s σ H _ I h) λus az ⟨vs,ar,a2,r1,aO⟩=>hc pins az σ ar vs us Q a2 r1 aO) ax fj
theorem LB(hc:pB X (.type T) r)(aD:e2 X x)(av:X.mg x=none)(aH:XS x=some (.type T))(aw:hl X (e::es) t)(aN:x≠"__name__":=by decide)(iy:(x==("__debug__":Str))=false:=by decide)(ax:TD (e::es) X.env=(false,XJ e X.env)::TD es X.env:=by rfl)(fj:(XC pos (TD es X.env)).any (·.1)=false:=by rfl):b6 X (.Call (.Name x p) (e::es) [] pos) (zj r t):=by
 intro pins s σ H Q I h;refine XD (m2 I aD av aH ?_ aN iy);exact UB (cc (aw pos pins s σ H _ I h) λus az ⟨vs,ar,a2,r1,aO⟩=>hc pins az σ ar vs us Q a2 r1 aO) ax fj
end
end L2
namespace HT
open PySem PyProof.Rows
section
open PySem.SeqAt
open PySem.AutoSeq1 (wpAny_loadPart')
open PySem.MeetsSeq PySem.MeetsSeq2 PySem.MeetsSeq3
end
section
variable{prog:Uf}{w:WP}{A:Xv}{E:Tk->Tl->Prop}{s:Tl}
def sIx(n d:Nat):Option Int->Nat
 |none=>d
 |some v=>if v<0 then(v+(n:Int)).toNat else min v.toNat n
theorem LC(n d:Nat)(hd:d<=n)(o:Option Int):sIx n d o<=n:=by
 cases o with
 |none=>exact hd
 |some v=>
  show(if v<0 then(v+(n:Int)).toNat else min v.toNat n)<=n
  by_cases aH:v<0
  ·rw[SL aH];lia
  ·rw[SZ aH];exact Nat.min_le_right _ _
theorem DA(v:Int)(n d:Nat):(if v<0 then max (v+(n:Int)) 0 else min v (n:Int))=((sIx n d (some v):Nat):Int):=by
 show(if v<0 then max (v+(n:Int)) 0 else min v (n:Int))=(((if v<0 then(v+(n:Int)).toNat else min v.toNat n):Nat):Int)
 by_cases aH:v<0
 ·simp only[SL aH];lia
 ·simp only[SZ aH];lia
theorem LD(lo au:Option Int)(n:Nat):Builtin.Slice.sliceAdjust lo au 1 (n:Int)=(((sIx n 0 lo:Nat):Int),((sIx n n au:Nat):Int)):=by
 have h1:¬((1:Int)<0):=by lia
 unfold Builtin.Slice.sliceAdjust;simp only[h1,if_false];refine TU ?_ ?_
 ·cases lo with
  |none=>rfl
  |some v=>exact DA v n 0
 ·cases au with
  |none=>rfl
  |some v=>exact DA v n n
theorem LF(i j:Nat):Builtin.Slice.slicePlaces (i:Int) (j:Int) 1=j-i:=by
 unfold Builtin.Slice.slicePlaces;have h1:(1:Int)>0:=by lia
 simp only[h1,if_true,Int.ediv_one];split<;>lia
theorem DB{v:Tk}{o:Option Int}{Q:Option Int->Tl->Prop}(p:Zp v o)(h:Q o s):wpAny (UF prog w) A (Builtin.Slice.slicePartIndex v) Q E s:=by
 cases p with
 |none=>exact slicePart_none h
 |int i t=>exact slicePart_int h
theorem LG{sl:TI}{hn iY:Tk}{lo au:Option Int}{n:Nat}{Q:Int×Int×Nat->Tl->Prop}(aj:s.heap.IsSliceOf sl hn iY .none)(cm:Zp hn lo)(m8:Zp iY au)(h:Q (((sIx n 0 lo:Nat):Int),1,sIx n n au-sIx n 0 lo) s):wpAny (UF prog w) A (Builtin.Slice.sliceApplied (.ref sl) (pure (n:Int))) Q E s:=by
 obtain⟨os,m9,DC,na⟩:=id aj;unfold Builtin.Slice.sliceApplied Builtin.Slice.sliceFields;refine SB (SB (Y2 m9 na (x:=hn) rfl (SB (Y2 m9 na (x:=iY) rfl (SB (Y2 m9 na (x:=.none) rfl (SC ?_)))))));refine SB (slicePart_none ?_);show wpAny _ _ (if((1:Int)==0)=true then _ else _) _ _ s
 rw[SZ (by decide)];refine SB (DB cm (SB (DB m8 (SB (SC ?_)))));show wpAny _ _ (match Builtin.Slice.sliceAdjust lo au 1 (n:Int)with|(lo,au)=>pure (lo,(1:Int),Builtin.Slice.slicePlaces lo au 1)) _ _ s
 rw[LD lo au n];show wpAny _ _ (pure (((sIx n 0 lo:Nat):Int),(1:Int),Builtin.Slice.slicePlaces ((sIx n 0 lo:Nat):Int) ((sIx n n au:Nat):Int) 1)) _ _ s
 rw[LF];exact SC h
theorem LH(xs:Array Tk)(i k:Nat):((SV k).filterMap λ(m:Nat)=>xs[((i:Int)+(m:Int)*1).toNat]?).toArray=((xs.toList.drop i).take k).toArray:=by
 have e:(λ(m:Nat)=>xs[((i:Int)+(m:Int)*1).toNat]?)=λm=>xs[i+m]?:=by
  funext m;have:((i:Int)+(m:Int)*1).toNat=i+m:=by lia
  rw[this]
 rw[e];have:=pick_run xs i k;rw[WQ]at this;have ap:((λx=>xs[x]?)∘λx=>i+x)=λm=>xs[i+m]?:=rfl;rw[ap]at this;rw[this]
theorem getItem_tuple_cut{t sl:TI}{items:Array Tk}{hn iY:Tk}{lo au:Option Int}{Q:Tk->Tl->Prop}(bQ:IsTup s.heap t items)(aj:s.heap.IsSliceOf sl hn iY .none)(cm:Zp hn lo)(m8:Zp iY au)(hw:¬(sIx items.size 0 lo=0/\sIx items.size items.size au=items.size))(h:Q (.ref s.heap.objs.size) {s with heap:=s.heap.push {cls:=.type "tuple",data:=.seq ((items.toList.drop (sIx items.size 0 lo)).take (sIx items.size items.size au-sIx items.size 0 lo)).toArray} })(ky:items.size<=TT):wpAny (UF prog w) A (ZC (.ref t) (.ref sl)) Q E s:=by
 have vj:sizeOk (.seq ((items.toList.drop (sIx items.size 0 lo)).take (sIx items.size items.size au-sIx items.size 0 lo)).toArray):=by
  show((items.toList.drop (sIx items.size 0 lo)).take (sIx items.size items.size au-sIx items.size 0 lo)).toArray.size<=TT
  rw[SY,U8,U9,Tn];lia
 have b8:sIx items.size items.size au<=items.size:=LC _ _ (Sx _) au;obtain⟨os,m9,DC,na⟩:=id aj;have LI:s.TypeIs (.ref sl) "slice":=⟨os,m9,DC⟩;unfold ZC
 try with_reducible refine Xw ?_
 first|refine SB (SC ?_)|skip
 refine SB (wpAny_sequenceKey bQ.typeIs (by decide) ?_)
 refine SB (XT (name:=Str.ofString "__getitem__") bQ.typeIs VT
  (W1 VT bQ.typeIs entry_tuple_getitem ?_ (args_tuple_getitem _ _)))
 show wpAny _ _ (Builtin.Tuple.tupleItemsOf (.ref t) >>= _) _ _ s
 refine SB (tupleItemsOf_ bQ ?_);refine SB (Zk LI ?_);rw[SL (by decide)];refine SB (LG aj cm m8 ?_)
 have pE:¬((((sIx items.size 0 lo:Nat):Int)==0&&(1:Int)==1&&(sIx items.size items.size au-sIx items.size 0 lo)==items.size)=true):=by
  intro q;rw[Us,Us]at q;have aO:((sIx items.size 0 lo:Nat):Int)=0:=eq_of_beq q.1.1;have bz:sIx items.size items.size au-sIx items.size 0 lo=items.size:=eq_of_beq q.2;exact hw ⟨by lia,by lia⟩
 show wpAny _ _ (if(((sIx items.size 0 lo:Nat):Int)==0&&(1:Int)==1&&(sIx items.size items.size au-sIx items.size 0 lo)==items.size)=true then _ else _) _ _ s
 rw[SZ pE,LH]
 first
  |exact SB (m:=Builtin.Tuple.tupleExact _) (T0 (SC ⟨_,rfl,SC h⟩) vj)
  |exact SB (m:=Builtin.Tuple.tupleExact _) (T0 (SB (SC (SC ⟨_,rfl,SC h⟩))) vj)
  |exact SB (SB (m:=Builtin.Tuple.tupleExact _) (T0 (SC (SC ⟨_,rfl,SC h⟩)) vj))
  |exact SB (SB (m:=Builtin.Tuple.tupleExact _) (T0 (SC ⟨_,rfl,SC h⟩) vj))
end
end HT
namespace L2
open PySem PySem.Spec PyProof.Rows
abbrev iz:=St->am->(Option Int->am->Prop)->Prop
def sr(X:aJ)(e:Option Wp)(t:iz):Prop:=
 ∀(pins:ZW)(s:Tl)(σ:St)(H:am)(Q:Option Int->am->Prop),Inv X pins σ H s->t σ H Q->
  wpAny (UF X.prog X.w) X.A (evalPart e X.env) (λu s'=>∃o al,Inv X pins σ al s'/\Zp u o/\Q o al) X.xe s
def LJ:iz:=λ_ H Q=>Q none H
def LK(t:bK):iz:=λσ H Q=>t σ H λx ar=>∃i,x=.int i/\Q (some i) ar
theorem intsAre_of{ns:ZG}:∀{us:ZR},b5 (ns.map V.int) us->Ym us ns:=by
 induction ns with
 |nil=>intro us r;rw[Tz]at r;cases r;exact .nil
 |cons n ns bN=>
  intro us r;rw[SD]at r;cases r with
  |cons r1 r2=>
   obtain⟨t,e⟩:=r1;subst e;exact .cons n t (bN r2)
section
variable{X:aJ}{e:Wp}{cH:bK}{lo au:Option Wp}{f3 vk:iz}{pos b1:Pos}
theorem LL:sr X none LJ:=by
 intro pins s σ H Q I h;rw[Y9];exact SC ⟨none,H,I,.none,h⟩
theorem LM(h:b6 X e cH):sr X (some e) (LK cH):=by
 intro pins s σ H Q I hw;rw[evalPart_some];refine cc (h pins s σ H _ I hw) λu az ⟨x,ar,a2,r1,aO⟩=>?_;obtain⟨i,rfl,q⟩:=aO;obtain⟨t,rfl⟩:=r1;exact⟨some i,ar,a2,.int i t,q⟩
def zk(X:aJ)(r:V->Option Int->Option Int->am->cN->Prop):Prop:=
 ∀(pins:ZW)(s:Tl)(σ:St)(H:am)(x:V)(v hn iY:Tk)(lo au:Option Int)(sl:TI)(Q:cN),Inv X pins σ H s->RelV x v->s.heap.IsSliceOf sl hn iY .none->Zp hn lo->Zp iY au->r x lo au H Q->
  ∃T id,typeLookup (.type T) "__getitem__"=pure (some (.builtin id))/\s.TypeIs v T/\wpAny (UF X.prog X.w) X.A (ZC v (.ref sl)) (hB X pins σ Q) X.xe s
def LN(r:V->Option Int->Option Int->am->cN->Prop)(cH:bK)(f3 vk:iz):bK:=λσ H Q=>cH σ H λx ar=>f3 σ ar λl a5=>vk σ a5 λu cI=>r x l u cI Q
theorem DD{r:V->Option Int->Option Int->am->cN->Prop}(ak:zk X r)(ax:b6 X e cH)(ao:sr X lo f3)(bo:sr X au vk):b6 X (.Subscript e (.Slice lo au none b1) pos) (LN r cH f3 vk):=by
 intro pins s σ H Q I h;refine Subscript_ (cc (ax pins s σ H _ I h) λv az ⟨x,ar,a2,r1,aO⟩=>?_);refine wpAny_Slice (cc (ao pins az σ ar _ a2 aO) λhn a3 ⟨l,a5,dM,cm,bz⟩=>cc (bo pins a3 σ a5 _ dM bz) λiY bR ⟨u,cI,dc,m8,et⟩=>?_);rw[Y9];refine SC ?_;have ku:Inv X pins σ cI {bR with heap:=bR.heap.push {cls:=.type "slice",data:=.fields #[hn,iY,.none]} }:=dc.kept (t':=bR.toks) λb cx q=>Heap.get?_push_of_some _ q;obtain⟨T,id,dU,bQ,aD⟩:=ak pins {bR with heap:=bR.heap.push {cls:=.type "slice",data:=.fields #[hn,iY,.none]} } σ cI x v hn iY l u bR.heap.objs.size Q ku r1 (Heap.IsSliceOf.new ..) cm m8 et;show wpAny (UF X.prog X.w) X.A (Y' e (.Slice lo au none b1) v (.ref bR.heap.objs.size)) (hB X pins σ Q) X.xe {bR with heap:=bR.heap.push {cls:=.type "slice",data:=.fields #[hn,iY,.none]} }
 exact tail_any (ops:=[.ref bR.heap.objs.size,v]) bQ dU aD (by with_unfolding_all rfl)
def pF(xs:ZJ)(lo au:Option Int):List V:=(xs.drop (HT.sIx xs.length 0 lo)).take (HT.sIx xs.length xs.length au-HT.sIx xs.length 0 lo)
theorem DE(xs:ZJ)(lo au:Option Int):(pF xs lo au).length<=xs.length:=by
 unfold pF;rw[U8,U9];lia
def LO(K:F6):V->Option Int->Option Int->am->cN->Prop:=λx lo au H Q=>∃a xs,x=.ref a/\e7 K H a xs /\
 ¬(HT.sIx xs.length 0 lo=0/\HT.sIx xs.length xs.length au=xs.length)/\∀p,H p=none->Q (.ref p) (upd H p (.tup (pF xs lo au)))
theorem LP:zk X (LO X.K):=by
 intro pins s σ H x v hn iY lo au sl Q I bt aj cm m8 h;obtain⟨a,xs,rfl,aq,hw,q⟩:=h;cases bt;obtain⟨its,r,bQ,hz⟩:=I.tuple aq;have gb:its.toArray.size=xs.length:=by rw[SY];exact r.length.symm
 refine⟨"tuple",_,VT.lookup,bQ.typeIs,?_⟩;refine HT.getItem_tuple_cut bQ aj cm m8 (by rw[gb];exact hw) ?_ (by rw[gb];exact hz);rw[gb];refine⟨.ref s.heap.objs.size,_,I.laid (t':=s.toks) (o:=.tup (pF xs lo au)) (λb cx q=>Heap.get?_push_of_some _ q) (Sx _) ?_,rfl,q _ (I.hok.fresh (Sx _))⟩;exact⟨SA (DE xs lo au) hz,_,(r.drop (HT.sIx xs.length 0 lo)).take (HT.sIx xs.length xs.length au-HT.sIx xs.length 0 lo),IsTup.new _ _⟩
end
def ixN(n:Nat)(i:Int):Option Nat:=if 0<=i then(if i<n then some i.toNat else none)else if -(n:Int)<=i then some (i+n).toNat else none
def ej{α:Type}(xs:List α)(i:Int):Option α:=(ixN xs.length i).bind λj=>xs[j]?
theorem DF{n:Nat}{i:Int}{j:Nat}(h:ixN n i=some j):seqIndex? i n=some j/\j<n /\ -(n:Int)<=i/\i<n:=by
 unfold ixN at h;by_cases h0:0<=i
 ·rw[SL h0]at h;by_cases h1:i<n
  ·rw[SL h1]at h;have e:i.toNat=j:=SU h;exact⟨by rw[Zq h0 h1,e],by lia,by lia,h1⟩
  ·rw[SZ h1]at h;cases h
 ·rw[SZ h0]at h;by_cases h1 : -(n:Int)<=i
  ·rw[SL h1]at h;have e:(i+n).toNat=j:=SU h;exact⟨by rw[Zl (by lia) h1,e],by lia,h1,by lia⟩
  ·rw[SZ h1]at h;cases h
theorem DG{α:Type}{xs:List α}{i:Int}{v:α}(h:ej xs i=some v):∃j,seqIndex? i xs.length=some j/\xs[j]?=some v/\j<xs.length /\ -(xs.length:Int)<=i/\i<xs.length:=by
 unfold ej at h;cases e:ixN xs.length i with
 |none=>rw[e]at h;cases h
 |some j=>
  rw[e]at h;obtain⟨h1,h2,aF,bj⟩:=DF e;exact⟨j,h1,h,h2,aF,bj⟩
theorem atI_last{α:Type}(xs:List α)(v:α):ej (xs++[v]) (-1)=some v:=by
 have ao:(xs++[v]).length=xs.length+1:=by simp
 have e:ixN (xs++[v]).length (-1)=some xs.length:=by
  unfold ixN;rw[ao,SZ (by decide),SL (by lia)];congr 1;lia
 unfold ej;rw[e];show(xs++[v])[xs.length]?=some v
 simp
def vl(b:Wp):Prop:=∀o i,subscripted b false o i=operate [o,i] (ZC o i)
def qO(X:aJ)(r:fh):Prop:=
 ∀(value slice:Wp)(pins:ZW)(s:Tl)(σ:St)(H:am)(x y:V)(v u:Tk)(Q:cN),Inv X pins σ H s->RelV x v->RelV y u->r x y H Q->
  subscripted slice false v u=operate [v,u] (ZC v u)->wpAny (UF X.prog X.w) X.A (Y' value slice v u) (hB X pins σ Q) X.xe s
def vm(X:aJ)(id:String)(r:V->ZJ->am->cN->Prop):Prop:=
 ∀(pins:ZW)(s:Tl)(σ:St)(H:am)(x:V)(xs:ZJ)(v:Tk)(us:ZR)(Q:cN),Inv X pins σ H s->RelV x v->b5 xs us->r x xs H Q->
  wpAny (UF X.prog X.w) X.A (call (.builtin id) (v::us)) (hB X pins σ Q) X.xe s
section
variable{X:aJ}{a b:Wp}{bO tb:bK}{pos:Pos}
theorem mh{r:fh}(ak:qO X r)(aw:b6 X a bO)(ab:b6 X b tb)(aj:vl b):b6 X (.Subscript a b pos) (m6 r bO tb):=by
 intro pins s σ H Q I h;exact Subscript_ (zb aw ab I h λv u a3 x y a5 dM bt cA q=>ak a b pins a3 σ a5 x y v u Q dM bt cA q (aj _ _))
def LQ(K:F6):fh:=λx y H Q=>∃p xs i v,x=.ref p/\y=.int i/\cE K H p xs/\ej xs i=some v/\Q v H
def LR(K:F6):fh:=λx y H Q=>∃p xs i v,x=.ref p/\y=.int i/\e7 K H p xs/\ej xs i=some v/\Q v H
theorem zl:qO X (LQ X.K):=by
 intro value slice pins s σ H x y v u Q I bt cA h aj;obtain⟨p,xs,i,z,rfl,rfl,ay,ax,q⟩:=h;cases bt;obtain⟨t,rfl⟩:=cA;obtain⟨its,r,cm,hz⟩:=I.list ay;obtain⟨j,h1,h2,aF,bj,c5⟩:=DG ax;obtain⟨w,jL,r8⟩:=r.get h2;have ao:=r.length;have aN:=sj;have fU:hB X pins σ Q w s:=⟨z,H,I,r8,q⟩;by_cases h0:0<=i
 ·have b8:i.toNat=j:=by
   rw[Zq h0 c5]at h1;exact SU h1
  exact item_listR cm.isList h0 (by lia) (by rw[b8];simpa using jL) fU aj
 ·have b8:(i+(its.toArray.size:Int)).toNat=j:=by
   rw[Zl (by lia) bj]at h1;rw[SY,<-ao];exact SU h1
  exact YO (x:=w) cm.isList.typeIs slot_list_getitem.lookup
   (wpAny_getItem_list_neg (Q:=λr s'=>r=w/\hB X pins σ Q r s') cm.isList (by lia) (by rw[SY]<;>lia) (by lia) (by rw[b8];simpa using jL) ⟨rfl,fU⟩) aj
theorem DH:qO X (LR X.K):=by
 intro value slice pins s σ H x y v u Q I bt cA h aj;obtain⟨p,xs,i,z,rfl,rfl,ay,ax,q⟩:=h;cases bt;obtain⟨t,rfl⟩:=cA;obtain⟨its,r,cm,hz⟩:=I.tuple ay;obtain⟨j,h1,h2,aF,bj,c5⟩:=DG ax;obtain⟨w,jL,r8⟩:=r.get h2;have ao:=r.length;have aN:=sj;have fU:hB X pins σ Q w s:=⟨z,H,I,r8,q⟩
 exact YO (x:=w) cm.typeIs slot_tuple_getitem.lookup
  (getItem_tuple (j:=j) (Q:=λr s'=>r=w/\hB X pins σ Q r s') cm (by lia) (by lia) (by rw[SY,<-ao];exact h1) (by simpa using jL) ⟨rfl,fU⟩) aj
theorem LS(its:ZR)(n j:Nat)(u:Tk):Obj.mapSeq (·.setIfInBounds j u) {cls:=.type "list",data:=.seq its.toArray n}={cls:=.type "list",data:=.seq (its.set j u).toArray n}:=by
 simp[Obj.mapSeq]
theorem Inv.lst{pins:ZW}{σ:St}{H:am}{s:Tl}{p:TI}{xs:ZJ}(I:Inv X pins σ H s)(h:H p=some (.lst xs)):
  ∃(its:ZR)(n:Nat),b5 xs its/\s.heap.get? p=some {cls:=.type "list",data:=.seq its.toArray n}/\xs.length<=TT:=by
 obtain⟨z,its,n,r,e⟩:=I.hok p _ h;exact⟨its,n,r,e,z⟩
theorem Inv.lstUpd{pins:ZW}{σ:St}{H:am}{s:Tl}{p:TI}{xs ys:ZJ}{its its':ZR}{n n':Nat}{f:Obj->Obj}(I:Inv X pins σ H s)(h:H p=some (.lst xs))(aB:s.heap.get? p=some {cls:=.type "list",data:=.seq its.toArray n})(bf:f {cls:=.type "list",data:=.seq its.toArray n}={cls:=.type "list",data:=.seq its'.toArray n' })(r:b5 ys its')(hz:ys.length<=TT)(t:Nat):
  Inv X pins σ (upd H p (.lst ys)) {s with heap:=s.heap.update p f,toks:=t}:=by
 have e:(s.heap.update p f).get? p=some {cls:=.type "list",data:=.seq its'.toArray n' }:=by
  rw[Heap.get?_update_self f aB (by rw[bf]<;>rfl),bf]
 refine I.write (x:=p) (e:=p) (by rw[h];trivial) (.inl rfl) (λb u ab q=>(Heap.get?_update_other _ _ (S9 ab)).trans q) ⟨_,e⟩ ?_;exact⟨hz,its',n',r,e⟩
def LU:V->V->V->am->(am->Prop)->Prop:=λo i v H Q=>∃p xs k j,o=.ref p/\i=.int k/\H p=some (.lst xs)/\ixN xs.length k=some j/\Q (upd H p (.lst (xs.set j v)))
theorem zm:Dg X LU:=by
 intro pins s σ H o i v lg iv u Q I LV zn cq h;obtain⟨p,xs,k,j,rfl,rfl,ae,b8,q⟩:=h;cases LV;obtain⟨t,rfl⟩:=zn;obtain⟨its,n,r,aB,hz⟩:=I.lst ae;obtain⟨h1,h2,aF,bj⟩:=DF b8;have ao:=r.length;have aN:=sj
 have n6:Inv X pins σ (upd H p (.lst (xs.set j v))) {s with heap:=s.heap.update p (Obj.mapSeq (·.setIfInBounds j u))}:=
  I.lstUpd ae aB (LS its n j u) (r.set cq j) (by rw[Ug];exact hz) s.toks
 by_cases h0:0<=k
 ·have ag:k.toNat=j:=by
   rw[Zq h0 bj]at h1;exact SU h1
  exact PySem.W.ki_setAt aB h0 (by lia) (by rw[SY,<-ao];exact bj) (by rw[ag];exact⟨_,n6,q⟩)
 ·have ag:(k+(its.toArray.size:Int)).toNat=j:=by
   rw[Zl (by lia) aF]at h1;rw[SY,<-ao];exact SU h1
  exact PySem.W.ki_setBack aB (by lia) (by rw[SY,<-ao];exact aF) (by lia) (by rw[ag];exact⟨_,n6,q⟩)
theorem LW(lo au:Option Int)(n:Nat):(X0 lo au none n).1=((HT.sIx n 0 lo:Nat):Int)/\(X0 lo au none n).2.1=((HT.sIx n n au:Nat):Int)/\(X0 lo au none n).2.2=1:=by
 refine⟨?_,?_,rfl⟩
 ·cases lo with
  |none=>simp[X0,HT.sIx]
  |some i=>
   simp only[X0,HT.sIx,U',show(1:Int)>0 by decide,if_true];by_cases h:i<0
   ·simp only[h,if_true]<;>lia
   ·simp only[h,if_false]<;>lia
 ·cases au with
  |none=>simp[X0,HT.sIx]
  |some i=>
   simp only[X0,HT.sIx,U',show(1:Int)>0 by decide,if_true];by_cases h:i<0
   ·simp only[h,if_true]<;>lia
   ·simp only[h,if_false]<;>lia
theorem LX(its:ZR)(lo au:Option Int):Zr its.toArray lo au none=((its.drop (HT.sIx its.length 0 lo)).take (HT.sIx its.length its.length au-HT.sIx its.length 0 lo)).toArray:=by
 obtain⟨h1,h2,aF⟩:=LW lo au its.toArray.size;unfold Zr;rw[h1,h2,aF];simp only[sliceRange_one,pick_run,SY]<;>rfl
def LY(K:F6):V->Option Int->Option Int->am->cN->Prop:=λx lo au H Q=>∃a xs,x=.ref a/\cE K H a xs/\∀p,H p=none->Q (.ref p) (upd H p (.lst (pF xs lo au)))
theorem LZ:zk X (LY X.K):=by
 intro pins s σ H x v hn iY lo au sl Q I bt aj cm m8 h;obtain⟨a,xs,rfl,aq,q⟩:=h;cases bt;obtain⟨its,r,bQ,hz⟩:=I.list aq;have gb:=r.length;refine⟨"list",_,slot_list_getitem.lookup,bQ.isList.typeIs,?_⟩;refine YF bQ.isList aj cm m8 .none (by simp) ?_ (by rw[SY]<;>lia);rw[LX,<-gb];refine⟨.ref s.heap.objs.size,_,I.laid (t':=s.toks) (o:=.lst (pF xs lo au)) (λb cx q=>Heap.get?_push_of_some _ q) (Sx _) ?_,rfl,q _ (I.hok.fresh (Sx _))⟩;exact⟨SA (DE xs lo au) hz,_,0,(r.drop (HT.sIx xs.length 0 lo)).take (HT.sIx xs.length xs.length au-HT.sIx xs.length 0 lo),Heap.get?_push_size _ rfl⟩
theorem DI:pB X (.builtin "len") (λxs H Q=>∃p ys,xs=[.ref p]/\(cE X.K H p ys\/e7 X.K H p ys)/\Q (.int ys.length) H):=by
 intro pins s σ H xs us Q I r h;obtain⟨p,ys,rfl,ay,q⟩:=h;obtain⟨u,rfl,bt⟩:=vals1 r;cases bt;have aN:=sj;rcases ay with ay|ay
 ·obtain⟨its,dJ,cm,hz⟩:=I.list ay;have gb:=dJ.length;exact Calls.call_len_list cm.isList (by simp only[SY]<;>lia) ⟨.int ys.length,H,I.tok _,⟨s.toks+1,by rw[SY,gb]⟩,q⟩
 ·obtain⟨its,dJ,cm,hz⟩:=I.tuple ay;have gb:=dJ.length;exact len_tuple cm (by simp only[SY]<;>lia) ⟨.int ys.length,H,I.tok _,⟨s.toks+1,by rw[SY,gb]⟩,q⟩
def vn(K:F6)(T:String)(x:V)(H:am):Prop:=match x with
 |.str _=>T="str"
 |.int _=>T="int"
 |.ref p=>(T="list"/\∃xs,cE K H p xs)\/(T="tuple"/\∃o,K.lookup p=some o/\o.cls=.type "tuple"/\o.dict=none) \/
   (T="dict"/\((∃kvs,H p=some (.dK kvs))\/∃kvs,H p=some (.dT kvs)))\/(T="set"/\∃S n,H p=some (.set S n))
 |_=>False
theorem DJ{pins:ZW}{σ:St}{H:am}{s:Tl}{T:String}{x:V}{v:Tk}(I:Inv X pins σ H s)(r:RelV x v)(ty:vn X.K T x H):
  s.TypeIs v T/\∀a,v=.ref a->∃cx,s.heap.get? a=some cx/\cx.dict=none:=by
 cases x with
 |str z=>
  obtain⟨t,rfl⟩:=r;cases(show T="str" from ty);exact⟨typeIs_str s z t,λ_ e=>nomatch e⟩
 |int i=>
  obtain⟨t,rfl⟩:=r;cases(show T="int" from ty);exact⟨typeIs_int s i t,λ_ e=>nomatch e⟩
 |ref p=>
  cases r;rcases ty with⟨rfl,xs,ay⟩|⟨rfl,o,ag,hc,hd⟩|⟨rfl,ag⟩|⟨rfl,S,n,ag⟩
  ·obtain⟨its,_,cm,_⟩:=I.list ay;refine⟨cm.isList.typeIs,λa e=>?_⟩;cases e;obtain⟨o,n,e,c,hd,_⟩:=cm;exact⟨o,e,hd⟩
  ·refine⟨⟨o,I.kIn p o ag,hc⟩,λa e=>?_⟩;cases e;exact⟨o,I.kIn _ o ag,hd⟩
  ·have z:∃o,s.heap.get? p=some o/\o.ExactDict:=by
    rcases ag with⟨kvs,ag⟩|⟨kvs,ag⟩
    ·obtain⟨_,_,_,_,o,_,_,e,ex,_⟩:=I.hok p _ ag;exact⟨o,e,ex⟩
    ·obtain⟨_,_,_,_,o,_,_,e,ex,_⟩:=I.hok p _ ag;exact⟨o,e,ex⟩
   obtain⟨o,e,ex⟩:=z;refine⟨⟨o,e,ex.1⟩,λa ap=>?_⟩;cases ap;exact⟨o,e,ex.2.1⟩
  ·obtain⟨o,_,_,_,e,ex,_⟩:=I.hok p _ ag;refine⟨⟨o,e,ex.1⟩,λa ap=>?_⟩;cases ap;exact⟨o,e,ex.2.1⟩
 |_=>exact TY ty
def L0(K:F6)(T:String)(r:V->ZJ->am->cN->Prop)(to:bK):bK:=λσ H Q=>to σ H λx ar=>vn K T x ar/\r x [] ar Q
def L1(K:F6)(T:String)(r:V->ZJ->am->cN->Prop)(to:bK)(t:eE):bK:=λσ H Q=>to σ H λx ar=>vn K T x ar/\t σ ar λxs a5=>r x xs a5 Q
variable{o e:Wp}{es:ZT}{to:bK}{t:eE}{name:Str}{dr cr:Pos}{T id:String}{r:V->ZJ->am->cN->Prop}
theorem L4(ss:PlainAttrs T)(slot:Slot T name id)(su:typeOf (.builtin id)=pure (.type "method_descriptor"))(av:vm X id r)(aB:b6 X o to)(g4:Xx o name X.env (XJ o X.env)=XJ o X.env:=by rfl)(g5:(dr.endLine==cr.line)=true:=by rfl):b6 X (.Call (.Attribute o name dr) [] [] cr) (L0 X.K T r to):=by
 intro pins s σ H Q I h;refine wpAny_Call_method0_late g4 g5 (cc (aB pins s σ H _ I h) λv az ⟨x,ar,a2,r1,ty,aO⟩=>?_);obtain⟨h1,h2⟩:=DJ a2 r1 ty;exact⟨T,id,ss,slot,su,h1,h2,Calls.callWith_builtin rfl (WR (av pins az σ ar x [] v [] Q a2 r1 .nil aO))⟩
theorem zo(ss:PlainAttrs T)(slot:Slot T name id)(su:typeOf (.builtin id)=pure (.type "method_descriptor"))(av:vm X id r)(aB:b6 X o to)(aw:hl X (e::es) t)(g4:Xx o name X.env (XJ o X.env)=XJ o X.env:=by rfl)(j5:((XC cr (TD (e::es) X.env)).all (λx => !x.1)&&(YL cr (X6 [] X.env)).all (λx=>x.1.isSome)
   && decide ((e::es).length+([]:ZV).length+(if([]:ZV).isEmpty then 0 else 1)<30))=true:=by rfl)(g5:(dr.endLine==cr.line)=true:=by rfl)(aj:TD (e::es) X.env=(false,XJ e X.env)::TD es X.env:=by rfl)(pG:(XC cr (TD es X.env)).any (·.1)=false:=by rfl):
  b6 X (.Call (.Attribute o name dr) (e::es) [] cr) (L1 X.K T r to t):=by
 intro pins s σ H Q I h;refine YQ g4 j5 g5 rfl (cc (aB pins s σ H _ I h) λv az ⟨x,ar,a2,r1,ty,aO⟩=>?_);obtain⟨h1,h2⟩:=DJ a2 r1 ty;refine⟨T,id,ss,slot,su,h1,h2,?_⟩;have g6:=aw cr pins az σ ar _ a2 aO;rw[aj]at g6⊢;refine Calls.callWith_builtin (by show(false||(XC cr (TD es X.env)).any (·.1))=false;rw[pG]<;>rfl) (Calls.evalArgs_plain ?_);exact cc g6 λus a3 ⟨vs,a5,dM,r2,bz⟩=>av pins a3 σ a5 x vs v us Q dM r1 r2 bz
end
def zp(X:aJ)(id:String)(r:V->ZJ->am->cN->Prop):Prop:=
 ∀(pins:ZW)(s:Tl)(σ:St)(H:am)(x:V)(xs:ZJ)(v:Tk)(us:ZR)(Q:cN),Inv X pins σ H s->RelV x v->b5 xs us->r x xs H Q->
  wpAny (UF X.prog X.w) X.A (call (.builtin id) (v::us)) (hB X pins σ Q) X.xe s
theorem b5.one:∀{x:V}{us:ZR},b5 [x] us->∃u,us=[u]/\RelV x u
 |_,_,.cons r .nil=>⟨_,rfl,r⟩
theorem b5.two:∀{x y:V}{us:ZR},b5 [x,y] us->∃u v,us=[u,v]/\RelV x u/\RelV y v
 |_,_,_,.cons r (.cons q .nil)=>⟨_,_,rfl,r,q⟩
theorem b5.zero:∀{us:ZR},b5 [] us->us=[]
 |_,.nil=>rfl
theorem b5.dropLast{xs:ZJ}{us:ZR}(h:b5 xs us):b5 xs.dropLast us.dropLast:=by
 induction h with
 |nil=>exact .nil
 |cons r t bN=>
  cases t with
  |nil=>exact .nil
  |cons q t'=>exact .cons r bN
theorem b5.reverse{xs:ZJ}{us:ZR}(h:b5 xs us):b5 xs.reverse us.reverse:=by
 induction h with
 |nil=>exact .nil
 |cons r t bN=>rw[Va,Va];exact b5.append bN (.cons r .nil)
theorem L5{α:Type}(l:List α):l.eraseIdx (l.length-1)=l.dropLast:=by
 induction l with
 |nil=>rfl
 |cons a r bN=>
  cases r with
  |nil=>rfl
  |cons b r=>
   have e:(a::b::r).length-1=((b::r).length-1)+1:=by
    have h1:(a::b::r).length=r.length+2:=rfl;have h2:(b::r).length=r.length+1:=rfl;lia
   rw[e,List.eraseIdx_cons_succ,bN]
   all_goals rfl
section
variable{X:aJ}{pins:ZW}{σ:St}{H:am}{s:Tl}{l b:TI}{xs ys ek:ZJ}
theorem Inv.lset{its its':ZR}{n:Nat}{f:Array Tk->Array Tk}{t':Nat}(I:Inv X pins σ H s)(eS:H l=some (.lst xs))(e:s.heap.get? l=some {cls:=.type "list",data:=.seq its.toArray n})(bf:f its.toArray=its'.toArray)(aH:b5 ys its')(hz:ys.length<=TT):
  Inv X pins σ (upd H l (.lst ys)) {s with heap:=s.heap.update l (Obj.mapSeq f),toks:=t' }:=by
 have q:=PySem.IsL.update e f;rw[bf]at q;refine I.write (x:=l) (e:=l) (by rw[eS];exact trivial) (.inl rfl) (λb' u ab bo=>(Heap.get?_update_other s.heap (Obj.mapSeq f) (S9 ab)).trans bo) ⟨_,q⟩ ?_;exact⟨hz,its',_,aH,q⟩
theorem Inv.lnew{its:ZR}{t':Nat}(I:Inv X pins σ H s)(aH:b5 ys its)(hz:ys.length<=TT):
  Inv X pins σ (upd H s.heap.objs.size (.lst ys)) {s with heap:=s.heap.push {cls:=.type "list",data:=.seq its.toArray},toks:=t' }:=
 I.laid (λ_ _ q=>Heap.get?_push_of_some _ q) (Sx _) ⟨hz,its,0,aH,Heap.get?_push_size _ rfl⟩
theorem Inv.fresh(I:Inv X pins σ H s):H s.heap.objs.size=none:=I.hok.fresh (Sx _)
theorem Inv.lstM(I:Inv X pins σ H s)(eS:H l=some (.lst xs)):xs.length<=TT/\∃(its:ZR)(n:Nat),b5 xs its/\xs.length=its.length/\s.heap.get? l=some {cls:=.type "list",data:=.seq its.toArray n}:=by
 obtain⟨z,its,n,r,e⟩:=I.hok l _ eS;exact⟨z,its,n,r,r.length,e⟩
theorem L6{n:Nat}(h:n<=TT):Builtin.List.listTooLong n=false:=by
 unfold Builtin.List.listTooLong;exact decide_eq_false (by lia)
end
section
variable{X:aJ}
def DK:V->ZJ->am->cN->Prop:=λx vs H Q=>∃l xs y,x=.ref l/\vs=[y]/\H l=some (.lst xs)/\xs.length<TT/\Q .non (upd H l (.lst (xs++[y])))
theorem zq:zp X "list.append" DK:=by
 intro pins s σ H x vs v us Q I bt cq h;obtain⟨l,xs,y,rfl,rfl,eS,hz,q⟩:=h;cases bt;obtain⟨u,rfl,iw⟩:=cq.one;obtain⟨z,its,n,r,ao,e⟩:=I.lstM eS;refine call_meets F.slot_list_append ⟨_,e,rfl⟩ F.entry_list_append (F.args_list_append_2 _ _) (PySem.list_append l its.toArray n u (by rw[SY];lia)) ⟨e,?_⟩;refine⟨.non,_,I.lset (its':=its++[u]) eS e (by simp) (r.append (.cons iw .nil)) ?_,rfl,q⟩;rw[SH,TK];lia
def L7:V->ZJ->am->cN->Prop:=λx vs H Q=>∃l b xs ek,x=.ref l/\vs=[.ref b]/\H l=some (.lst xs)/\H b=some (.lst ek)/\xs.length+ek.length<=TT/\Q .non (upd H l (.lst (xs++ek)))
theorem L8:zp X "list.extend" L7:=by
 intro pins s σ H x vs v us Q I bt cq h;obtain⟨l,b,xs,ek,rfl,rfl,eS,eH,hz,q⟩:=h;cases bt;obtain⟨u,rfl,iw⟩:=cq.one;cases iw;obtain⟨z,its,n,r,ao,e⟩:=I.lstM eS;obtain⟨aY,gO,dn,r2,zr,ap⟩:=I.lstM eH;have ky:its.toArray.size+gO.toArray.size<=TT:=by rw[SY,SY];lia
 have L9:¬(!its.toArray.isEmpty&&Builtin.List.listTooLong (its.toArray.size+gO.toArray.size))=true:=by
  rw[L6 ky,Bool.and_false];exact S6
 refine call_meets F.slot_list_extend ⟨_,e,rfl⟩ F.entry_list_extend (F.args_list_extend_2 _ _)
  (AutoSeq1.list_extend_list_list_0 l its.toArray n b gO.toArray dn L9 (by rw[SY];lia) (by lia)) ⟨e,ap,?_⟩
 refine⟨.non,_,I.lset (its':=its++gO) eS e (by simp) (r.append r2) ?_,rfl,q⟩;rw[SH];lia
def L':V->ZJ->am->cN->Prop:=λx vs H Q=>∃l xs y,x=.ref l/\vs=[]/\H l=some (.lst xs)/\xs[xs.length-1]?=some y/\Q y (upd H l (.lst xs.dropLast))
theorem Ma:zp X "list.pop" L':=by
 intro pins s σ H x vs v us Q I bt cq h;obtain⟨l,xs,y,rfl,rfl,eS,aG,q⟩:=h;cases bt;have Mb:=cq.zero;subst Mb;obtain⟨z,its,n,r,ao,e⟩:=I.lstM eS;obtain⟨u,bo,iw⟩:=r.get aG
 have oh:its.toArray[its.toArray.size-1]?=some u:=by
  show its.toArray[its.length-1]?=some u
  rw[<-UW,<-ao];exact bo
 refine call_meets F.slot_list_pop ⟨_,e,rfl⟩ F.entry_list_pop (F.args_list_pop_1 _) (MeetsSeq.list_pop_last l its.toArray n u oh (by rw[SY];lia)) ⟨e,?_⟩;refine⟨y,_,I.lset (its':=its.dropLast) eS e ?_ r.dropLast ?_,iw,q⟩
 ·show its.toArray.eraseIdxIfInBounds (its.toArray.size-1)=its.dropLast.toArray
  rw[SY,List.eraseIdxIfInBounds_toArray,L5]
 ·rw[List.length_dropLast];lia
def Mc:fh:=λx y H Q=>∃l b xs ek,x=.ref l/\y=.ref b/\H l=some (.lst xs)/\H b=some (.lst ek)/\xs.length+ek.length<=TT/\∀p,H p=none->Q (.ref p) (upd H p (.lst (xs++ek)))
theorem Md:gl X (YK .Add) Mc:=by
 intro pins s σ H x y v u Q I bt cA h;obtain⟨l,b,xs,ek,rfl,rfl,eS,eH,hz,q⟩:=h;cases bt;cases cA;obtain⟨z,its,n,r,ao,e⟩:=I.lstM eS;obtain⟨aY,gO,dn,r2,zr,ap⟩:=I.lstM eH;refine PySem.P.add_list e ap ?_ (by rw[SY,SY];lia);have dN:its.toArray++gO.toArray=(its++gO).toArray:=by simp
 rw[dN];exact⟨.ref _,_,I.lnew (t':=s.toks) (r.append r2) (by rw[SH];lia),rfl,q _ I.fresh⟩
end
section
variable{prog:Uf}{w:WP}{A:Xv}{E:Tk->Tl->Prop}{s:Tl}
set_option maxRecDepth 100000 in
end
end L2
namespace Att
open PySem PySem.W PySem.Calls PyProof.Rows
theorem Me{P:Params}{h:XB}:∀(ns:ZG)(vs:ZR),WellAll P h vs (ns.map WData.int)->Ym vs ns:=by
 intro ns;induction ns with
 |nil=>
  intro vs w;rw[Tz]at w;cases w;exact .nil
 |cons n ns bN=>
  intro vs w;rw[SD]at w;cases w with
  |cons a b=>
   cases a;exact .cons _ _ (bN _ b)
theorem Mf{l:OpenLaw}{n:Nat}(aN:l.most=some n){P:Params}{h:XB}{args:List WData}{vals:ZR}(lp:l.row.toRowW.claim.pre args=true)(zs:WellAll P h vals args):
  ∃a vs ns,vals=[Value.ref a]/\args=[WData.list (ns.map WData.int)]/\h.get? a=some {cls:=.type "list",data:=.seq vs.toArray}/\Ym vs ns/\ns.length<=n:=by
 have hsh:WShape.hasAll [] args [.list .int]=true:=(pre_splitW lp).1;have hc:l.pre.holds [] {args:=args}=true:=(pre_splitW lp).2;obtain⟨d,r,rfl,h1,h2⟩:=hasAllW_cons hsh;obtain rfl:=hasAllW_nil h2;obtain⟨xs,rfl,aF⟩:=hasW_list h1;obtain⟨ns,rfl⟩:=items_int aF
 have gb:ns.length<=n:=by
  unfold OpenLaw.pre at hc
  have bj:(WTm.not (.lt (.lit (.int (n:Int))) (.len (.arg 0)))).holds [] {args:=[.list (ns.map .int)]}=true:=by
   have bj:=(holds_andW hc).1;rw[aN]at bj;exact bj
  have c5:=condW_of bj (w_not (w_lt w_lit (w_len_list (w_arg rfl))));rw[Sw]at c5;refine VU λq=>?_;have io:(n:Int)<((ns.length:Nat):Int):=by lia
  first
   | (rw[Xy io]at c5;exact absurd c5 (by decide))
   | (simp at c5;lia)
 cases zs with
 |cons w1 eg=>
  cases eg;cases w1 with
  |list aB vo=>exact⟨_,_,ns,rfl,rfl,aB,Me ns _ vo,gb⟩
theorem Mg(l:OpenLaw)(args:List WData):l.row.toRowW.claim.post args (.bool true) args=true:=
 postW_of (r:=l.row.toRowW) (X:=(true==true))
  (show WShape.has [] (.bool true) .bool=true by first|rfl|decide|simp[WShape.has,WShape.arms,WShape.armsAll])
  (show(WTm.eq .res (.lit (.bool true))).value [] {args:=args,res:=some (.bool true),after:=args}=some (.bool (true==true))from w_eq_bool (w_res rfl) w_lit) rfl
theorem attach_call{l:OpenLaw}{n:Nat}{q:Uf}{loose:ZQ}{XP:(Str->Option Tk)->XB->Prop}{YP:WP->XB->Prop}{d:DefRec}(aN:l.most=some n)(zt:d.params.defaults=[])(call:∀(w:WP) (s₀ dZ:Tl) (mg fu:Str->Option Tk) (g7:TI) (o:Obj) (pm ft doc:Tk) (a:TI) (vs:ZR) (ns:ZG),Ground q loose [] XP w s₀ mg fu dZ.heap->YP w dZ.heap->dZ.heap.get? g7=some o->o.data=.func (docDef d.name d.params d.body d.scope pm ft doc)->dZ.heap.CodeRec ft d.name->mg d.name=some (.ref g7)->dZ.heap.get? a=some {cls:=.type "list",data:=.seq vs.toArray}->Ym vs ns->ns.length<=n->dZ.gens = #[]->codeAny (UF l.prog w) Zg (.call (.ref g7) ⟨[.ref a],[]⟩) (λr s'=>r=.ok (.ret (.bool true))/\OldK dZ.heap s'.heap/\s'.os=dZ.os/\YS s'.gens) dZ):
  WalkO q loose XP YP l.row.toRowW d [] (λf vs=>PySem.call f vs):=by
 intro w s₀ dZ mg fu G Y g7 o pm ft doc vi kV aB hd ec jo sv aD args vals as lp agc agd zs age;obtain rfl:vi=.none:=Dflts.none jo zt;obtain rfl:kV=.none:=Dflts.noKw jo;obtain⟨a,vs,ns,rfl,rfl,zu,hints,gb⟩:=Mf aN lp zs;refine enter_call (Yy (call w s₀ dZ mg fu g7 o pm ft doc a vs ns G Y aB (fd_plain hd) ec sv zu hints gb aD) λr s' ay=>?_);obtain⟨rfl,h2,aF,bj⟩:=ay;exact⟨.inl ⟨.bool true,.bool true,[],rfl,λ_=>rfl,.bool true,Mg l _,λ_=>⟨List.Pairwise.nil,λ_ av=>(nomatch av)⟩⟩,h2,aF,bj⟩
end Att
namespace L2
open PySem PySem.Spec PyProof.Rows
theorem zv:∀{vs:ZR}{ns:ZG},Ym vs ns->b5 (ns.map V.int) vs
 |_,_,.nil=>.nil
 |_,_,.cons n t h=>.cons ⟨t,rfl⟩ (zv h)
def DL(H:am):Prop:=∀b,H b=none\/∃o xs,H b=some (.frz o (.lst xs))
theorem Mh{P:Uf}{w:WP}{K:F6}{mg fu:Str->Option Tk}{fL:lj}{k:Nat}{g7 a:TI}{fd:X3}{x:Str}{sp:hm}{dZ:Tl}{vs:ZR}{ns:ZG}(og:K.In dZ.heap)(oi:dZ.heap.Ns WF mg)(ab:dZ.heap.Ns YB fu)(qP:∀x:Str,x≠"__name__"->fu x=XS x)(Mi:dZ.heap.NoLimit)(aD:dZ.gens = #[])(aw:dZ.heap.get? a=some {cls:=.type "list",data:=.seq vs.toArray})(au:Ym vs ns)(ao:ns.length<=TT)(ak:fw k Zg)(F:∀base:XB,K.In base->base.Ns WF mg->jK P w K mg base fL k g7 fd [x] sp)(Mj:∀(s:Tl) (u:Tk),ZA s fd ⟨[u],[]⟩ [(x,u)])(qN:∀H:am,DL H->cE K H a (ns.map V.int)->sp [.ref a] H (λv _=>v=.bl true) λ_ _ _=>False)(Mk:∀H e s',fL [] H dZ (λ_ _ _=>False) e s'->False):
  codeAny (UF P w) Zg (.call (.ref g7) ⟨[.ref a],[]⟩) (λr s'=>r=.ok (.ret (.bool true))/\OldK dZ.heap s'.heap/\s'.os=dZ.os/\YS s'.gens) dZ:=by
 have cq:=zv au;have Ml:=au.length
 have core:∀H:am,DL H->cE K H a (ns.map V.int)->e0 P w H dZ.heap->(∀b,H b≠none->b=a)->(H a≠none->K.lookup a=none)->
   codeAny (UF P w) Zg (.call (.ref g7) ⟨[.ref a],[]⟩) (λr s'=>r=.ok (.ret (.bool true))/\OldK dZ.heap s'.heap/\s'.os=dZ.os/\YS s'.gens) dZ:=by
  intro H zw ci hok g6 eG;have DM:∀{b:TI}{o:Obj},dZ.heap.get? b=some o->H b=none->(mZ dZ.heap H).get? b=some o:=λe n=>J4 e n
  have so:∀{b:TI}{o:Obj}{es:Array Yu}{ep:Nat},dZ.heap.get? b=some o->o.data=.dict es ep->H b=none:=λ{b o es ep} e d=>by
   cases q:H b with
   |none=>rfl
   |some u=>
    have aW:b=a:=g6 b (by rw[q];simp);subst aW;rw[aw]at e;cases e;have d':Data.seq vs.toArray _=Data.dict es ep:=d;cases d'
  have vp:∀{b:TI}{m:Str->Option Tk},dZ.heap.Ns b m->(mZ dZ.heap H).Ns b m:=λ{b m} ⟨o,es,ep,e,d,r⟩=>⟨o,es,ep,DM e (so e d),d,r⟩
  have DN:K.In (mZ dZ.heap H):=λb o e=>DM (og b o e) (by
   cases q:H b with
   |none=>rfl
   |some u=>
    have aW:b=a:=g6 b (by rw[q];simp);subst aW
    rw[eG (by rw[q];simp)]at e;cases e)
  have ho:Mod K mg (mZ dZ.heap H):=⟨DN,vp oi,⟨fu,vp ab,qP⟩,let⟨sw,h1,h2⟩:=Mi;⟨sw,vp h1,h2⟩⟩;have d0:vg P w K mg (mZ dZ.heap H) Zg [] dZ H:=⟨rfl,ho,λb o e=>J5 e,Nat.le_of_eq (J3 _ _),trivial,λb ab=>absurd (show b∈([]:ZS)from ab) (by simp),hok,.of_eq aD⟩;refine Yy ((F _ DN (vp oi)).run Zg [] dZ H ⟨[.ref a],[]⟩ [.ref a] [.ref a] _ _ ak d0 (Mj dZ (.ref a)) (.cons rfl .nil) (qN H zw ci)) λr s' h=>?_;cases r with
  |error e=>exact(Mk H e s' h).elim
  |ok kx=>
   cases kx with
   |next=>exact TY h
   |brk=>exact TY h
   |cont=>exact TY h
   |ret u=>
    obtain⟨v,al,os,bare,un,Mm,dJ,q⟩:=h;have io:v=.bl true:=q;subst io;obtain rfl:u=Value.bool true:=dJ;refine⟨rfl,OldK.of_keep λb o e=>?_,os,bare⟩;cases q:H b with
    |none=>exact un.keep b o e q (by intro z;exact absurd (show b∈([]:ZS)from z) (by simp)) (by simp)
    |some u=>
     rcases zw b with z|⟨cx,xs,z⟩
     ·rw[q]at z;cases z
     ·have aY:=un.frzs b cx _ z;obtain⟨ai,_⟩:=hok b _ z;obtain⟨ap,_⟩:=Mm b _ aY;rw[e]at ai;cases ai;exact ap
 cases ag:K.lookup a with
 |some o=>
  have e:=og a o ag;rw[aw]at e;cases e;refine core (λ_=>none) (λ_=>.inl rfl) (.inr ⟨_,vs.toArray,_,ag,rfl,rfl,rfl,by rw[SY,Ml];exact ao,by simpa using cq⟩) (λb u z=>by have fe:(none:Option e6)=some u:=z;cases fe) (λb z=>absurd rfl z) λz=>absurd rfl z
 |none=>
  refine core (λb=>if b=a then some (.frz {cls:=.type "list",data:=.seq vs.toArray} (.lst (ns.map V.int)))else none) (λb=>?_) (.inl (.inr ⟨{cls:=.type "list",data:=.seq vs.toArray},SL rfl⟩)) (λb u z=>?_) (λb z=>?_) λ_=>ag
  ·by_cases ab:b=a
   ·exact .inr ⟨_,_,SL ab⟩
   ·exact .inl (SZ ab)
  ·by_cases ab:b=a
   ·have fe:=(SL ab).symm.trans z;cases fe;subst ab;exact⟨aw,by rw[Sw];exact ao,vs,_,cq,aw⟩
   ·have fe:=(SZ ab).symm.trans z;cases fe
  ·by_cases ab:b=a
   ·exact ab
   ·exact absurd (SZ ab) z
def pH(s:XA):Y4:=match s with
 |.FunctionDef _ a _ _ _ _ _ _ _ _=>a
 |_=>{posonlyargs:=[],args:=[],vararg:=none,kwonlyargs:=[],kw_defaults:=[],kwarg:=none,defaults:=[]}
def kz(s:XA):List XA:=match s with
 |.FunctionDef _ _ b _ _ _ _ _ _ _=>b
 |_=>[]
def cd(s:XA):YG:=match s with
 |.FunctionDef _ _ _ _ _ _ sc _ _ _=>sc
 |_=>{kind:=.function,names:=[],isGenerator:=false,isCoroutine:=false}
abbrev kA:lj:=λ_ _ _ _ _ _=>False
abbrev qQ:gj:=λ_ _ _=>False
theorem DO{X:aJ}:zh kA X qQ:=λ_ _ _ _ _ _ _ h=>h.elim
structure mi (K:F6) (x eh:Str) (st:XA) (f:TI) (fd:X3):Prop where
 ex:∃(oc:Tk)(od:Option TI)(kV doc pm:Tk)(an:Option TI)(cdv ct:Tk)(osl:Array (Option Tk)),
  fd=UC x eh (pH st) (kz st) (cd st) .none kV doc pm an cdv ct/\K.lookup f=some ⟨oc,od,.func fd,osl⟩/\VS K cdv eh=true
 kp:U7 K (.ref f)=true
section
variable{P:Uf}{w:WP}{K:F6}{mg:Str->Option Tk}{base:XB}
theorem mi.ok{x eh:Str}{st:XA}{f:TI}{fd:X3}{N ps:ZQ}{k:Nat}{sp:hm}(F:mi K x eh st f fd)(S:cM N ps (cd st))(len:∀vs H Q E,sp vs H Q E->vs.length=ps.length)(lm:∀(cdv:Tk) (A:Xv) (outer:List Env) (s:Tl) (H:am) (vs:ZJ) (Q:cN) (E:gj),fw k (A.deeper (Y8 eh (cd st) s.heap.objs.size f cdv))->sp vs H Q E->∃t,jl (mf kA P w K mg base N eh (cd st) f cdv A outer s H E).nox (kz st) t/\t {nx:=λ_ al=>Q .non al,rt:=Q} (start N vs) H):jK P w K mg base kA (k+1) f fd ps sp:=by
 obtain⟨oc,od,kV,doc,pm,an,cdv,ct,osl,rfl,lk,ec⟩:=F.ex;refine Lz lk ec S len λA outer s H vs Q E ak qN=>?_;obtain⟨t,h,q⟩:=lm cdv A outer s H vs Q E ak qN;exact⟨t,h.nox,q⟩
theorem mi.binds{x eh:Str}{st:XA}{f:TI}{fd:X3}{ps:ZQ}(F:mi K x eh st f fd)(h:∀(kV doc pm:Tk) (an:Option TI) (cdv ct:Tk) (us:ZR),us.length=ps.length->ZB (UC x eh (pH st) (kz st) (cd st) .none kV doc pm an cdv ct) ⟨us,[]⟩=pure (ps.zip us)):Binds K fd ps []:=by
 obtain⟨oc,od,kV,doc,pm,an,cdv,ct,osl,rfl,lk,ec⟩:=F.ex;exact .all (h kV doc pm an cdv ct)
theorem Mn{x eh:Str}{st:XA}{f:TI}{oc:Tk}{od an:Option TI}{osl:Array (Option Tk)}{kV doc pm cdv ct:Tk}(l:K.lookup f=some ⟨oc,od,.func (UC x eh (pH st) (kz st) (cd st) .none kV doc pm an cdv ct),osl⟩)(c:VS K cdv eh=true)(k:U7 K (.ref f)=true):mi K x eh st f (UC x eh (pH st) (kz st) (cd st) .none kV doc pm an cdv ct):=⟨⟨oc,od,kV,doc,pm,an,cdv,ct,osl,rfl,l,c⟩,k⟩
end
section
variable{X:aJ}
theorem gc(i:Nat){x:Str}{pos:Pos}(bi:X.N[i]?=some x:=by rfl)(aH:iq X.env.scope x:=by first|exact SF rfl|exact SP (SF rfl)|exact SP (SP rfl))(hd:(x==("__debug__":Str))=false:=by decide)(ec:(x==("__classdict__":Str))=false:=by decide):b6 X (.Name x pos) (yZ i):=mc bi aH hd ec
end
theorem gP{A B:Prop}(h:B):if false=true then A else B:=by
 rw[SZ S6];exact h
theorem Mo{A B:Prop}(h:A):if true=true then A else B:=by
 rw[SL rfl];exact h
def cF(H al:am):Prop:=∀b o,H b=some o->al b=some o
theorem cF.refl(H:am):cF H H:=λ_ _ h=>h
theorem cF.trans{H ar a5:am}(a:cF H ar)(b:cF ar a5):cF H a5:=λc o h=>b c o (a c o h)
theorem cF.free{H al:am}(e:cF H al){l:TI}(h:al l=Option.none):H l=Option.none:=by
 cases q:H l with
 |none=>rfl
 |some o=>
  rw[e l o q]at h;cases h
theorem cF.seq{K:F6}{H al:am}{a:TI}{xs:ZJ}(e:cF H al)(h:cE K H a xs):cE K al a xs:=by
 rcases h with(h|⟨o,h⟩)|h
 ·exact .inl (.inl (e _ _ h))
 ·exact .inl (.inr ⟨o,e _ _ h⟩)
 ·exact .inr h
end L2
set_option maxHeartbeats 4000000
namespace L2
open PySem PySem.Spec PyProof.Rows
open PySem.Builtin.Int (intBits)
def vq(i j:Int):Prop:=wp i<=9000/\wp j<=9000
def qR(_ j:Int):Prop:=j≠0/\wp j<=9000
theorem Mp{x y:Int}(h:wp y<=9000):Builtin.divisionGoesByPylong x y=false:=by
 by_cases h0:y=0
 ·subst h0;exact PyProof.noPylong_small (by decide)
 ·refine PyProof.noPylong_of_log2 ?_;have q:=intBits_le_iff.mp h;have aN:y.natAbs≠0:=by lia
  exact(Nat.log2_lt aN).mpr q
section
variable{X:aJ}{a b:Wp}{bO tb:bK}{pos:Pos}
theorem sx:gl X (YK .Mult) (qK vq λi j=>.int (i*j)):=vb λ_ _ _ _ _ _ _ hc q=>mul_int q (IntMulOk.of_le hc.1 hc.2 (by decide))
theorem vr:gl X (YK .FloorDiv) (qK qR λi j=>.int (i.fdiv j)):=vb λ_ _ _ _ _ _ _ hc q=>floordiv_int hc.1 q (.inl (Mp hc.2))
theorem mj:gl X (XU .Eq) (kw λi j=>.bl (decide (i=j))):=qL λ_ _ _ _ _ _ _ q=>eq_int (by rw[WS];exact q)
theorem sy:gl X (XU .NotEq) (kw λi j=>.bl (!decide (i=j))):=qL λ_ _ _ _ _ _ _ q=>ne_int (by rw[bne,WS];exact q)
def Mq(H:am)(p:TI)(xs:ZJ):Prop:=H p=some (.tup xs)\/H p=some (.lst xs)
def Mr:fh:=λx y H Q=>∃p xs i v,x=.ref p/\y=.int i/\Mq H p xs/\ej xs i=some v/\Q v H
theorem pI:qO X Mr:=by
 intro value slice pins s σ H x y v u Q I bt cA h aj;obtain⟨p,xs,i,z,ai,ap,ay,ax,q⟩:=h;rcases ay with ay|ay
 ·exact DH value slice pins s σ H x y v u Q I bt cA ⟨p,xs,i,z,ai,ap,e7.of ay,ax,q⟩ aj
 ·exact zl value slice pins s σ H x y v u Q I bt cA ⟨p,xs,i,z,ai,ap,cE.of ay,ax,q⟩ aj
theorem Ms:pB X (.builtin "isinstance") (λxs H Q=>∃x t n b,xs=[x,.ty n]/\jJ X.K H x t/\VQ X.K t (.type n)=some b/\Q (.bl b) H):=by
 intro pins s σ H xs us Q I r h;obtain⟨x,t,n,b,rfl,ty,e,q⟩:=h;obtain⟨u,mb,rfl,r1,r2⟩:=vals2 r;cases r2;exact Lq I r1 ty e λdA=>⟨.bl b,H,I.tok _,rfl,q⟩
structure cf (P:Uf) (w:WP) (K:F6) (mg:Str->Option Tk) (base:XB) (x:Str) (ps:ZQ) (k:Nat) (sp:hm):Prop where
 ex:∃f fd,mg x=some (.ref f)/\U7 K (.ref f)=true/\Binds K fd ps []/\jK P w K mg base kA k f fd ps sp
structure cU (K:F6) (mg:Str->Option Tk) (x:Str) (st:XA) (ps:ZQ):Prop where
 ex:∃f fd,mg x=some (.ref f)/\mi K x x st f fd/\Binds K fd ps []
theorem cf.imp{P:Uf}{w:WP}{K:F6}{mg:Str->Option Tk}{base:XB}{x:Str}{ps:ZQ}{k:Nat}{sp sn:hm}(c:cf P w K mg base x ps k sp)(h:∀vs H Q E,sn vs H Q E->sp vs H Q E):cf P w K mg base x ps k sn:=by
 obtain⟨f,fd,m,kp,b,F⟩:=c.ex;exact⟨f,fd,m,kp,b,F.imp h⟩
theorem vt{x:Str}{ps:ZQ}{j k:Nat}{sp:hm}{p:Pos}{e:Wp}{es:ZT}{t:eE}(c:cf X.prog X.w X.K X.mg X.base x ps j sp)(ak:fw k X.A)(aD:e2 X x)(aw:hl X (e::es) t)(hjk:j<=k:=by decide)(iy:(x==("__debug__":Str))=false:=by decide)(ax:TD (e::es) X.env=(false,XJ e X.env)::TD es X.env:=by rfl)(fj:(XC pos (TD es X.env)).any (·.1)=false:=by rfl):
  b6 X (.Call (.Name x p) (e::es) [] pos) (vh sp [] qQ t):=by
 obtain⟨f,fd,m,kp,b,F⟩:=c.ex;exact Lx F (ak.mono hjk) aD m kp b .nil DO aw iy ax fj
theorem cU.ok{P:Uf}{w:WP}{K:F6}{mg:Str->Option Tk}{base:XB}{x:Str}{st:XA}{N ps:ZQ}{k:Nat}{sp:hm}(F:cU K mg x st ps)(S:cM N ps (cd st))(len:∀vs H Q E,sp vs H Q E->vs.length=ps.length)(lm:∀(f:TI) (cdv:Tk) (A:Xv) (outer:List Env) (s:Tl) (H:am) (vs:ZJ) (Q:cN) (E:gj),fw k (A.deeper (Y8 x (cd st) s.heap.objs.size f cdv))->sp vs H Q E->∃t,jl (mf kA P w K mg base N x (cd st) f cdv A outer s H E).nox (kz st) t/\t {nx:=λ_ al=>Q .non al,rt:=Q} (start N vs) H):cf P w K mg base x ps (k+1) sp:=by
 obtain⟨f,fd,m,DP,b⟩:=F.ex;exact⟨f,fd,m,DP.kp,b,DP.ok S len (lm f)⟩
end
theorem gQ{p:Prop}[Decidable p]{A B:Prop}(h1:p->A)(h2:¬p->B):if decide p=true then A else B:=by
 by_cases h:p
 ·rw[Xy h];exact h1 h
 ·rw[decide_eq_false h];exact h2 h
theorem Mt{p:Prop}[Decidable p]{A B:Prop}(h1:¬p->A)(h2:p->B):if(!decide p)=true then A else B:=by
 by_cases h:p
 ·rw[Xy h];exact h2 h
 ·rw[decide_eq_false h];exact h1 h
def ml(b:TI)(H al:am):Prop:=∀a o,a≠b->H a=some o->al a=some o
theorem ml.trans{b:TI}{H ar a5:am}(e:ml b H ar)(f:ml b ar a5):ml b H a5:=λa o n h=>f a o n (e a o n h)
theorem ml.upd(b:TI)(H:am)(o:e6):ml b H (L2.upd H b o):=λa u n h=>by rw[de n];exact h
theorem vu{H:am}{p:TI}(h:H p=none)(o:e6):cF H (L2.upd H p o):=λb u q=>by rw[de (n5 q h)];exact q
end L2
namespace L2
open PySem PySem.Spec PyProof.Rows
theorem e0.but{P:Uf}{w:WP}{H:am}{h h':XB}{C:TI}(x:e0 P w H h)(n:H C=none)(k:∀b u,b≠C->h.get? b=some u->h'.get? b=some u):e0 P w H h':=λa o e=>
 (x a o e).stay (λb u ab q=>k b u (by rcases ab with rfl|ab;exact n5 e n;exact n5 ab n) q) (λ_ q=>q) λ_ _ q=>q
theorem f2.but{fs ex:ZS}{H al:am}{h h1 h2:XB}{C:TI}(u:f2 fs ex H al h h1)(vv:h.get? C=none)(k:∀b u,b≠C->h1.get? b=some u->h2.get? b=some u):f2 fs ex H al h h2 where
 keep:=λb o q n f e=>k b o (by rintro rfl;rw[vv]at q;cases q) (u.keep b o q n f e)
 slot:=λb o q n f e=>by
  obtain⟨sl,z⟩:=u.slot b o q n f e;exact⟨sl,k b _ (by rintro rfl;rw[vv]at q;cases q) z⟩
 free:=u.free
 there:=λb o q e=>by
  obtain⟨gi,z⟩:=u.there b o q e;exact⟨gi,k b _ (by rintro rfl;rw[vv]at q;cases q) z⟩
 tups:=u.tups
 frzs:=u.frzs
 tbls:=u.tbls
def eu(X:aJ)(N:ZQ)(scope:YG)(bv:List (Str×TI))(C:TI)(s:Tl)(H:am)(ex:ZS):aJ:=
 {X with N:=N,s₀:=s,H₀:=H,env:=ZD scope bv C X.env,outer:=X.stack,ex:=ex,fn:=λ_=>false,pn:=[],xe:=λ_ _=>False}
def iZ(σ:St)(js:ZN):St:=js.map λj=>(σ[j]?).join
theorem b5.getR:∀{xs:ZJ}{us:ZR}{i:Nat}{u:Tk},b5 xs us->us[i]?=some u->∃x,xs[i]?=some x/\RelV x u
 |_,_,_,_,.nil,e=>by simp at e
 |_,_,0,_,.cons r _,e=>by simp at e;subst e;exact⟨_,rfl,r⟩
 |_,_,i+1,u,.cons _ t,e=>by
  obtain⟨x,h1,h2⟩:=b5.getR (i:=i) (u:=u) t (by simpa using e);exact⟨x,by simpa using h1,h2⟩
section
variable{X:aJ}
theorem Mu(hc:X.calm=true):pB X (.builtin "all") (λxs H Q=>∃l ys,xs=[.ref l]/\H l=some (.lst ys)/\(∀y∈ys,y=.bl true)/\Q (.bl true) H):=by
 intro pins s σ H xs us Q I r h;obtain⟨l,ys,rfl,ao,bQ,q⟩:=h;obtain⟨u,rfl,r1⟩:=vals1 r;cases r1;obtain⟨its,cq,cm,hz⟩:=I.list (cE.of ao);have zx:=cm.isList
 have dF:l<s.heap.objs.size:=by
  obtain⟨_,e,_⟩:=zx;exact Heap.lt_size e
 refine call_all_walk (YE zx ⟨s.heap.objs.size,[s.heap.objs.size,l],[s.heap.objs.size],its.toArray.size,_,_,λ_=>true,rfl,Walks.list (A:=X.A.in1) (I.ok.hd hc) _ l (S3 dF) its.toArray,?_,?_,?_⟩)
 ·exact⟨⟨_,Heap.get?_push_size _ rfl,rfl,rfl⟩,zx.push _⟩
 ·intro i v s' pq zy fE ir;obtain⟨y,gn,cA⟩:=cq.getR (i:=i) (u:=v) (by simpa using fE);have e:=bQ y (Tt gn);subst e;cases cA;exact XG ir
 ·intro h' dA ag;have e:((SV its.toArray.size).all λ_=>true)=true:=by simp
  rw[e];refine⟨.bl true,H,I.kept (h':=h') (t':=dA) λb o dY=>?_,rfl,q⟩;refine ag b o (λav=>?_) (Heap.get?_push_of_some _ dY);rw[SM.mp av]at dY;exact Tx _ (Heap.lt_size dY)
end
end L2
namespace Cut
open PySem
open PySem.Builtin.Int (intBits)
theorem nb{x:Int}(h1 : -(2^64)<x)(h2:x<2^64):wp x<=64:=intBits_le_64 h1 h2
theorem dO{x t:Int}{n:Nat}(h:x.natAbs<=t.natAbs)(bQ:wp t<=n):wp x<=n:=YX h bQ
def aE(x y:Int):Prop:=0<y/\Ak x y=1
theorem DQ{x y:Int}(aq:0<=x)(aG:0<y):Ak y (x%y)=Ak x y:=by
 obtain⟨m,rfl⟩:=WT aq;obtain⟨n,rfl⟩:=WT (Tu aG);have e:((m:Int)%(n:Int))=((m%n:Nat):Int):=rfl;rw[e];show Tg n (m%n)=Tg m n
 rw[VV m n,Nat.gcd_rec n m,VV]
theorem DR(a b:Int):Ak (if a<0 then -a else a) (if b<0 then -b else b)=Ak a b:=by
 have e:∀z:Int,(if z<0 then -z else z).natAbs=z.natAbs:=λz=>by split<;>lia
 unfold Ak;rw[e,e]
theorem DS{x:Int}(h:0<=x):((Ak x 0:Nat):Int)=x:=by
 rw[WU];lia
theorem oj{t b:Int}(ab:b≠0):0<((Ak t b:Nat):Int):=by
 have:0<Ak t b:=Vb t ab;lia
theorem DT{t b g s:Int}(ab:b≠0)(aD:g=(Ak t b:Nat))(aj:s=g/\0<b\/s = -g/\b<0):
  aE (t.fdiv s) (b.fdiv s)/\t.fdiv s*b=t*b.fdiv s/\(t.fdiv s).natAbs<=t.natAbs/\(b.fdiv s).natAbs<=b.natAbs:=by
 have dG:0<g:=by rw[aD];exact oj ab
 have bw:g∣t:=by rw[aD];exact Vc t b
 have bF:g∣b:=by rw[aD];exact UX t b
 have az:s∣t:=by rcases aj with⟨h,_⟩|⟨h,_⟩<;>rw[h];exact bw;exact UD.mpr bw
 have a3:s∣b:=by rcases aj with⟨h,_⟩|⟨h,_⟩<;>rw[h];exact bF;exact UD.mpr bF
 have eT:s≠0:=by rcases aj with⟨h,_⟩|⟨h,_⟩<;>lia
 obtain⟨x,aq⟩:=az;obtain⟨y,aG⟩:=a3;have ex:t.fdiv s=x:=by rw[aq];exact UE x eT
 have gn:b.fdiv s=y:=by rw[aG];exact UE y eT
 have ai:(t.fdiv s).natAbs<=t.natAbs:=UV t s;have ap:(b.fdiv s).natAbs<=b.natAbs:=UV b s;refine⟨⟨?_,?_⟩,?_,ai,ap⟩
 ·rw[gn];rcases aj with⟨h,ae⟩|⟨h,ae⟩
  ·rw[aG,h]at ae;exact T' ae dG
  ·rw[aG,h]at ae;have:0<g*y:=by rw[UG]at ae;lia
   exact T' this dG
 ·rw[ex,gn]
  have q:Ak t b=s.natAbs*Ak x y:=by
   rw[aq,aG,VW]
  have DU:s.natAbs=g.toNat:=by rcases aj with⟨h,_⟩|⟨h,_⟩<;>lia
  have pJ:g.toNat=Ak t b:=by lia
  rw[DU,pJ]at q;have pos:0<Ak t b:=Vb t ab;have:Ak t b*Ak x y=Ak t b*1:=by lia
  exact VX pos this
 ·rw[ex,gn];have:x*b=x*(s*y):=by rw[<-aG]
  have h2:t*y=s*x*y:=by rw[<-aq]
  rw[this,h2,<-Uh,S2 x s]
theorem nc{k n m:Int}(h:k∣n*m)(g:Ak k n=1):k∣m:=by
 have q:=Int.dvd_gcd_mul_iff_dvd_mul.mpr h;rw[g]at q;simpa using q
theorem zz{x y g8 fk:Int}(h:aE x y)(h':aE g8 fk)(e:x*fk=g8*y):x=g8/\y=fk:=by
 obtain⟨p,g⟩:=h;obtain⟨r9,g'⟩:=h'
 have bw:y∣fk:=by
  have:y∣x*fk:=⟨g8,by rw[e,S2]⟩;exact nc this (by rw[TL];exact g)
 have bF:fk∣y:=by
  have:fk∣g8*y:=⟨x,by rw[<-e,S2]⟩;exact nc this (by rw[TL];exact g')
 have gn:y=fk:=Int.dvd_antisymm (Tu p) (Tu r9) bw bF;refine⟨?_,gn⟩;rw[gn]at e;exact TF (by lia) e
end Cut
namespace Cut
def mm(x y z:Int):Prop:=0<z/\Ak (Ak x y:Nat) z=1
theorem vw(a b n:Int):Ak (Ak a n:Nat) b=Tg (Tg a.natAbs b.natAbs) n.natAbs:=by
 show Tg (Tg a.natAbs n.natAbs) b.natAbs=_
 rw[Nat.gcd_assoc,VV n.natAbs,<-Nat.gcd_assoc]
theorem zA(a b n:Int):Ak (Ak a b:Nat) n=Tg (Tg a.natAbs b.natAbs) n.natAbs:=rfl
theorem Mv(a b n:Int):Ak (Ak n a:Nat) b=Ak (Ak a n:Nat) b:=by
 rw[TL n a]
theorem DV{a b n:Int}(aN:n≠0):0<((Ak (Ak a n:Nat) b:Nat):Int):=by
 rw[vw];have:0<Tg (Tg a.natAbs b.natAbs) n.natAbs:=Nat.gcd_pos_of_pos_right _ (by lia);lia
theorem DW(a b n:Int):((Ak (Ak a n:Nat) b:Nat):Int)∣a/\((Ak (Ak a n:Nat) b:Nat):Int)∣b/\((Ak (Ak a n:Nat) b:Nat):Int)∣n:=by
 rw[vw];have h1:=UY (Tg a.natAbs b.natAbs) n.natAbs;have h2:=Vd (Tg a.natAbs b.natAbs) n.natAbs;refine⟨?_,?_,?_⟩
 ·exact UH.mpr (Ve h1 (UY _ _))
 ·exact UH.mpr (Ve h1 (Vd _ _))
 ·exact UH.mpr h2
theorem DX{a b n g s:Int}(aN:n≠0)(aD:g=(Ak (Ak a n:Nat) b:Nat))(aj:s=g/\0<n\/s = -g/\n<0):
  mm (a.fdiv s) (b.fdiv s) (n.fdiv s)/\a.fdiv s*n=a*n.fdiv s/\b.fdiv s*n=b*n.fdiv s/\(a.fdiv s).natAbs<=a.natAbs/\(b.fdiv s).natAbs<=b.natAbs/\(n.fdiv s).natAbs<=n.natAbs:=by
 have dG:0<g:=by rw[aD];exact DV aN
 obtain⟨bw,bF,gC⟩:=DW a b n;rw[<-aD]at bw bF gC;have eT:s≠0:=by rcases aj with⟨h,_⟩|⟨h,_⟩<;>lia
 have zB:∀z:Int,g∣z->s∣z:=λz hz=>by
  rcases aj with⟨h,_⟩|⟨h,_⟩<;>rw[h]
  ·exact hz
  ·exact UD.mpr hz
 obtain⟨x,aq⟩:=zB a bw;obtain⟨y,aG⟩:=zB b bF;obtain⟨z,hz⟩:=zB n gC;have ex:a.fdiv s=x:=by rw[aq];exact UE x eT
 have gn:b.fdiv s=y:=by rw[aG];exact UE y eT
 have qS:n.fdiv s=z:=by rw[hz];exact UE z eT
 refine⟨⟨?_,?_⟩,?_,?_,VY a s,VY b s,VY n s⟩
 ·rw[qS];rcases aj with⟨h,ae⟩|⟨h,ae⟩
  ·rw[hz,h]at ae;exact T' ae dG
  ·rw[hz,h]at ae;have:0<g*z:=by rw[UG]at ae;lia
   exact T' this dG
 ·rw[ex,gn,qS,zA];rw[vw,aq,aG,hz,TZ,TZ,TZ,Vf,Vf]at aD;have DU:s.natAbs=g.toNat:=by rcases aj with⟨h,_⟩|⟨h,_⟩<;>lia
  have pos:0<s.natAbs:=by lia
  have q:s.natAbs*Tg (Tg x.natAbs y.natAbs) z.natAbs=s.natAbs*1:=by lia
  exact VX pos q
 ·rw[ex,qS];have h1:x*n=x*(s*z):=by rw[<-hz]
  have h2:a*z=s*x*z:=by rw[<-aq]
  rw[h1,h2,<-Uh,S2 x s]
 ·rw[gn,qS];have h1:y*n=y*(s*z):=by rw[<-hz]
  have h2:b*z=s*y*z:=by rw[<-aG]
  rw[h1,h2,<-Uh,S2 y s]
theorem zC{x y z g8 fk fe:Int}(g:Ak (Ak x y:Nat) z=1)(ai:x*fe=g8*z)(ap:y*fe=fk*z):z∣fe:=by
 have bw:z.natAbs∣x.natAbs*fe.natAbs:=⟨g8.natAbs,by rw[<-TZ,ai,TZ,VZ]⟩;have bF:z.natAbs∣y.natAbs*fe.natAbs:=⟨fk.natAbs,by rw[<-TZ,ap,TZ,VZ]⟩;have gC:z.natAbs∣z.natAbs*fe.natAbs:=⟨fe.natAbs,rfl⟩;have q:=Nat.dvd_gcd (Nat.dvd_gcd bw bF) gC;rw[WV,WV]at q;rw[zA]at g;rw[g,Nat.one_mul]at q;exact UZ.mp q
theorem vx{x y z g8 fk fe:Int}(h:mm x y z)(h':mm g8 fk fe)(ai:x*fe=g8*z)(ap:y*fe=fk*z):x=g8/\y=fk/\z=fe:=by
 have bw:=zC h.2 ai ap;have bF:=zC h'.2 ai.symm ap.symm;have qS:z=fe:=Int.dvd_antisymm (Tu h.1) (Tu h'.1) bw bF;subst qS;have jM:z≠0:=Sz h.1;exact⟨TF jM ai,TF jM ap,rfl⟩
theorem Mw{a b n:Int}{k:Nat}(aN:n≠0)(h:V0 n<=k):V0 ((Ak (Ak a n:Nat) b:Nat):Int)<=k:=by
 refine PySem.intBits_le_of_natAbs ?_ h;exact V1 (by lia) (UZ.mpr (DW a b n).2.2)
theorem DY{u v:Int}(bo:0<u)(aH:0<v):u*v≠0:=Sz (SE bo aH)
theorem zD{x y z:Int}(h:mm x y z):mm (-x) (-y) z:=by
 refine⟨h.1,?_⟩;have g:=h.2;rw[zA]at g⊢;rw[Int.natAbs_neg,Int.natAbs_neg];exact g
end Cut
namespace L3
open PySem L2
open PySem.Builtin.Int (intBits)
inductive D where
 |non|bl (b:Bool)|int (i:Int)|str (x:Str)|ty (n:String)|tup (xs:List D)|lst (xs:List D)|scr (ns:ZG)|ktup (xs:List D)|kfn (f:TI)|dct (b:Bool) (ks:List ZX) (ds:List D)
abbrev ZK:=List D
abbrev Z0:=List ZK
inductive nf where
 |l (ds:ZK)|d (b:Bool) (t:Option TI) (ks:List ZX) (ds:ZK)
instance:Coe ZK nf:=⟨nf.l⟩
inductive hF where
 |ll (a:TI) (as:ZS) (b2:Z0)|dl (b:Bool) (a:TI) (ks:List ZX) (as:ZS) (b2:Z0)
def hF.adr:hF->TI
 |.ll a _ _=>a
 |.dl _ a _ _ _=>a
def hF.ins:hF->ZS
 |.ll _ as _=>as
 |.dl _ _ _ as _=>as
inductive aQ where
 |no|val (d:D)|own (c:nf)|bag|new (d:D)|pin (v:V) (d:D)|deep (c:hF)
abbrev ZL:=List aQ
def ol(b:Bool)(k:ZX):Int:=
 if b then X8 (Builtin.Tuple.tupleHashOf (k.map λks=>X8 (Builtin.Tuple.tupleHashOf (ks.map X4))))else X8 (Builtin.Tuple.tupleHashOf ((k.headD []).map X4))
def i0(b:Bool)(k:ZX):D:=if b then .tup (k.map λks=>.tup (ks.map D.int))else .tup ((k.headD []).map D.int)
def j6(b:Bool):List ZX->ZS->ZR->List Yu
 |k::ks,a::as,u::us=>⟨ol b k,.ref a,u⟩::j6 b ks as us
 |_,_,_=>[]
def g9(b:Bool)(a:TI)(ep:Nat)(ks:List ZX)(as:ZS)(vs:ZJ):e6:=.ext λh=>ks.length<=TT/\as.length=ks.length/\vs.length=ks.length/\(a==XM)=false /\
 ∃us:ZR,b5 vs us/\∃o es,h.get? a=some o/\o.ExactDict/\o.data=.dict es ep/\es.toList=j6 b ks as us/\ks.Nodup
mutual
inductive b3 (K:F6) (B:am):V->D->Prop where
 |non:b3 K B .non .non
 |bl (b:Bool):b3 K B (.bl b) (.bl b)
 |int (i:Int):b3 K B (.int i) (.int i)
 |str (x:Str):b3 K B (.str x) (.str x)
 |ty (n:String):b3 K B (.ty n) (.ty n)
 |tup {a:TI} {vs:ZJ} {ds:ZK} (h:B a=some (.tup vs)) (r:Reps K B vs ds):b3 K B (.ref a) (.tup ds)
 |lst {a:TI} {vs:ZJ} {ds:ZK} (h:B a=some (.lst vs)) (r:Reps K B vs ds):b3 K B (.ref a) (.lst ds)
 |scr {a:TI} {ns:ZG} (h:cE K B a (ns.map V.int)):b3 K B (.ref a) (.scr ns)
 |ktup {a:TI} {vs:ZJ} {ds:ZK} (h:e7 K B a vs) (r:Reps K B vs ds):b3 K B (.ref a) (.ktup ds)
 |kfn (f:TI):b3 K B (.ref f) (.kfn f)
 |dct {a:TI} {b:Bool} {ep:Nat} {ks:List ZX} {as:ZS} {vs:ZJ} {ds:ZK} (h:B a=some (g9 b a ep ks as vs)) (ag:Reps K B (as.map V.ref) (ks.map (i0 b))) (ab:b=false->∀k∈ks,∃l,k=[l]) (r:Reps K B vs ds):b3 K B (.ref a) (.dct b ks ds)
inductive Reps (K:F6) (B:am):ZJ->ZK->Prop where
 |nil:Reps K B [] []
 |cons {v:V} {d:D} {vs:ZJ} {ds:ZK} (h:b3 K B v d) (r:Reps K B vs ds):Reps K B (v::vs) (d::ds)
end
theorem DZ{K:F6}{H al:am}{a:TI}{xs:ZJ}(e:cF H al)(h:e7 K H a xs):e7 K al a xs:=by
 rcases h with(h|⟨o,h⟩)|h
 ·exact .inl (.inl (e _ _ h))
 ·exact .inl (.inr ⟨o,e _ _ h⟩)
 ·exact .inr h
section
variable{K:F6}{B aC:am}
mutual
theorem b3.mono(s:cF B aC):∀{v:V}{d:D},b3 K B v d->b3 K aC v d
 |_,_,.non=>.non
 |_,_,.bl b=>.bl b
 |_,_,.int i=>.int i
 |_,_,.str x=>.str x
 |_,_,.ty n=>.ty n
 |_,_,.tup h r=>.tup (s _ _ h) (Reps.mono s r)
 |_,_,.lst h r=>.lst (s _ _ h) (Reps.mono s r)
 |_,_,.scr h=>.scr (s.seq h)
 |_,_,.ktup h r=>.ktup (DZ s h) (Reps.mono s r)
 |_,_,.kfn f=>.kfn f
 |_,_,.dct h ag ab r=>.dct (s _ _ h) (Reps.mono s ag) ab (Reps.mono s r)
theorem Reps.mono(s:cF B aC):∀{vs:ZJ}{ds:ZK},Reps K B vs ds->Reps K aC vs ds
 |_,_,.nil=>.nil
 |_,_,.cons h r=>.cons (b3.mono s h) (Reps.mono s r)
end
theorem Reps.length:∀{vs:ZJ}{ds:ZK},Reps K B vs ds->vs.length=ds.length
 |_,_,.nil=>rfl
 |_,_,.cons _ r=>by rw[SK,SK,r.length]
theorem Reps.get:∀{vs:ZJ}{ds:ZK}{i:Nat}{d:D},Reps K B vs ds->ds[i]?=some d->∃v,vs[i]?=some v/\b3 K B v d
 |_,_,_,_,.nil,e=>by simp at e
 |_,_,0,_,.cons h _,e=>by simp at e;subst e;exact⟨_,rfl,h⟩
 |_,_,i+1,d,.cons _ r,e=>by
  obtain⟨v,h1,h2⟩:=Reps.get (i:=i) (d:=d) r (by simpa using e);exact⟨v,by simpa using h1,h2⟩
theorem Reps.getV:∀{vs:ZJ}{ds:ZK}{i:Nat}{v:V},Reps K B vs ds->vs[i]?=some v->∃d,ds[i]?=some d/\b3 K B v d
 |_,_,_,_,.nil,e=>by simp at e
 |_,_,0,_,.cons h _,e=>by simp at e;subst e;exact⟨_,rfl,h⟩
 |_,_,i+1,v,.cons _ r,e=>by
  obtain⟨d,h1,h2⟩:=Reps.getV (i:=i) (v:=v) r (by simpa using e);exact⟨d,by simpa using h1,h2⟩
theorem Reps.append:∀{vs fD:ZJ}{ds es:ZK},Reps K B vs ds->Reps K B fD es->Reps K B (vs++fD) (ds++es)
 |_,_,_,_,.nil,s=>s
 |_,_,_,_,.cons h r,s=>.cons h (Reps.append r s)
theorem Reps.take:∀{vs:ZJ}{ds:ZK}(n:Nat),Reps K B vs ds->Reps K B (vs.take n) (ds.take n)
 |_,_,0,_=>.nil
 |_,_,_+1,.nil=>.nil
 |_,_,n+1,.cons h r=>.cons h (Reps.take n r)
theorem Reps.drop:∀{vs:ZJ}{ds:ZK}(n:Nat),Reps K B vs ds->Reps K B (vs.drop n) (ds.drop n)
 |_,_,0,r=>r
 |_,_,_+1,.nil=>.nil
 |_,_,n+1,.cons _ r=>Reps.drop n r
theorem Reps.ints:∀(ns:ZG),Reps K B (ns.map V.int) (ns.map D.int)
 |[]=>.nil
 |n::r=>.cons (.int n) (Reps.ints r)
end
def hZ(H:am)(b:TI):Prop:=∃x y:Int,H b=some (.lst [.int x,.int y])/\0<=x/\0<=y/\y<2147483647
def cQ(σ:St)(ρ:ZL)(i:Nat)(a:TI):Prop:=(σ[i]?=some (some (.ref a))/\(ρ[i]?=some .bag\/∃ds,ρ[i]?=some (.own ds)))\/∃c,ρ[i]?=some (.deep c)/\a∈c.adr::c.ins
structure Wd (R:am) (W:TI->Prop) (B H:am):Prop where
 fr:∀a o,R a=some o->¬W a->H a=some o
 bh:cF B H
 wb:∀a,W a->B a=none
 wh:∀a,W a->hZ H a
 wr:∀a,W a->R a≠none
open Classical in
noncomputable def jN(R:am)(W:TI->Prop)(B:am):am:=λa=>match R a with
 |some (.lst vs)=>if W a then B a else some (.lst vs)
 |_=>B a
theorem vy{R:am}{W:TI->Prop}{B aC:am}(s:cF B aC):cF (jN R W B) (jN R W aC):=λa o h=>by
 unfold jN at h⊢;split at h
 ·split at h
  ·rename_i z;rw[SL z];exact s a o h
  ·rename_i z;rw[SZ z];exact h
 ·exact s a o h
def kB(K:F6)(B H:am)(a:TI):nf->Prop
 |.l ds=>∃vs,H a=some (.lst vs)/\Reps K B vs ds
 |.d b t ks ds=>∃ep as vs,(∀c,t=some c->c=a)/\H a=some (g9 b a ep ks as vs)/\Reps K B (as.map V.ref) (ks.map (i0 b))/\(b=false->∀k∈ks,∃l,k=[l])/\Reps K B vs ds
theorem kB.mono{K:F6}{B aC H al:am}{a:TI}{c:nf}(h:kB K B H a c)(s:cF B aC)(e:al a=H a):kB K aC al a c:=by
 cases c with
 |l ds=>obtain⟨vs,h1,h2⟩:=h;exact⟨vs,by rw[e];exact h1,h2.mono s⟩
 |d b t ks ds=>obtain⟨ep,as,vs,h0,h1,h2,aF,bj⟩:=h;exact⟨ep,as,vs,h0,by rw[e];exact h1,h2.mono s,aF,bj.mono s⟩
theorem kB.ne{K:F6}{B H:am}{a:TI}{c:nf}(h:kB K B H a c):H a≠none:=by
 cases c with
 |l ds=>obtain⟨vs,h1,h2⟩:=h;rw[h1];simp
 |d b t ks ds=>obtain⟨ep,as,vs,_,h1,_⟩:=h;rw[h1];simp
structure mn (K:F6) (B H:am) (as:ZS) (b2:Z0):Prop where
 len:as.length=b2.length
 at_:∀(i:Nat)(a:TI)(ds:ZK),as[i]?=some a->b2[i]?=some ds->∃vs,H a=some (.lst vs)/\Reps K B vs ds
theorem mn.mono{K:F6}{B aC H al:am}{as:ZS}{b2:Z0}(h:mn K B H as b2)(s:cF B aC)(e:∀a∈as,al a=H a):mn K aC al as b2:=
 ⟨h.len,λi a ds h1 h2=>by
  obtain⟨vs,aO,bz⟩:=h.at_ i a ds h1 h2
  exact⟨vs,by rw[e a (Tt h1)];exact aO,bz.mono s⟩⟩
theorem mn.ne{K:F6}{B H:am}{as:ZS}{b2:Z0}(h:mn K B H as b2){a:TI}(m:a∈as):H a≠none:=by
 obtain⟨i,au⟩:=Ui m
 have lt:i<as.length:=by
  by_cases z:i<as.length
  ·exact z
  ·rw[Th (by lia)]at au;cases au
 obtain⟨vs,aO,_⟩:=h.at_ i a _ au (S5 (by rw[<-h.len];exact lt));rw[aO];simp
def om(K:F6)(B H:am):hF->Prop
 |.ll a as b2=>H a=some (.lst (as.map V.ref))/\mn K B H as b2
 |.dl b a ks as b2=>∃ep oo,H a=some (g9 b a ep ks oo (as.map V.ref))/\Reps K B (oo.map V.ref) (ks.map (i0 b))/\(b=false->∀k∈ks,∃l,k=[l])/\mn K B H as b2
structure D0 (K:F6) (R B H:am) (c:hF):Prop where
 fr:∀a∈c.adr::c.ins,R a=none/\B a=none
 nd:(c.adr::c.ins).Nodup
 ok:om K B H c
theorem om.mono{K:F6}{B aC H al:am}{c:hF}(h:om K B H c)(s:cF B aC)(e:∀a∈c.adr::c.ins,al a=H a):om K aC al c:=by
 cases c with
 |ll a as b2=>exact⟨by rw[e a Sv];exact h.1,h.2.mono s λx m=>e x (Sy _ m)⟩
 |dl b a ks as b2=>
  obtain⟨ep,oo,h1,h2,aF,bj⟩:=h;exact⟨ep,oo,by rw[e a Sv];exact h1,h2.mono s,aF,bj.mono s λx m=>e x (Sy _ m)⟩
theorem om.ne{K:F6}{B H:am}{c:hF}(h:om K B H c){a:TI}(m:a∈c.adr::c.ins):H a≠none:=by
 cases c with
 |ll b as b2=>
  rcases SG.mp m with e|m
  ·rw[show a=b from e,h.1];simp
  ·exact h.2.ne m
 |dl b p ks as b2=>
  obtain⟨ep,oo,h1,h2,aF,bj⟩:=h;rcases SG.mp m with e|m
  ·rw[show a=p from e,h1];simp
  ·exact bj.ne m
def D1(K:F6)(R:am)(W:TI->Prop)(B H:am)(o:Option V):aQ->Prop
 |.no=>True
 |.val d=>∃v,o=some v/\b3 K B v d
 |.own c=>∃a,o=some (.ref a)/\R a=none/\B a=none/\kB K B H a c
 |.bag=>∃b,o=some (.ref b)/\(W b\/R b=none)/\B b=none/\hZ H b
 |.new d=>∃v,o=some v/\b3 K (jN R W B) v d
 |.pin v d=>o=some v/\b3 K (jN R W B) v d
 |.deep c=>o=some (.ref c.adr)/\D0 K R B H c
structure a0 (K:F6) (R:am) (W:TI->Prop) (B H:am) (σ:St) (ρ:ZL):Prop extends Wd R W B H where
 len:σ.length=ρ.length
 ok:∀(i:Nat)(k:aQ),ρ[i]?=some k->D1 K R W B H (σ[i]?).join k
 sep:∀(i j:Nat)(a:TI),cQ σ ρ i a->cQ σ ρ j a->i=j
structure bV (R B aC:am):Prop where
 s:cF B aC
 n:∀a o,aC a=some o->B a=some o\/R a=none
theorem bV.refl(R B:am):bV R B B:=⟨cF.refl _,λ_ _ h=>.inl h⟩
theorem bV.trans{R B aC D2:am}(g:bV R B aC)(h:bV R aC D2):bV R B D2:=⟨g.s.trans h.s,λa o e=>(h.n a o e).elim (g.n a o) .inr⟩
theorem Wd.fresh{R:am}{W:TI->Prop}{B H:am}(w:Wd R W B H){p:TI}(h:H p=none):R p=none/\¬W p/\B p=none:=by
 have f4:¬W p:=λz=>by
  obtain⟨x,y,e,_⟩:=w.wh p z;rw[h]at e;cases e
 refine⟨?_,f4,w.bh.free h⟩;cases q:R p with
 |none=>rfl
 |some o=>rw[w.fr p o q f4]at h;cases h
theorem hG{α:Type}{o:Option (Option α)}{v:α}(h:o.join=some v):o=some (some v):=by
 cases o with
 |none=>cases h
 |some x=>exact TW some h
section
variable{K:F6}{R:am}{W:TI->Prop}{B aC H al:am}{σ:St}{ρ:ZL}
theorem a0.val(e:a0 K R W B H σ ρ){i:Nat}{d:D}(h:ρ[i]?=some (.val d)):∃v,σ[i]?=some (some v)/\b3 K B v d:=by
 obtain⟨v,h1,h2⟩:=e.ok i _ h;exact⟨v,hG h1,h2⟩
theorem a0.ownAt(e:a0 K R W B H σ ρ){i:Nat}{ds:ZK}(h:ρ[i]?=some (.own ds)):∃a vs,σ[i]?=some (some (.ref a))/\R a=none/\B a=none/\H a=some (.lst vs)/\Reps K B vs ds:=by
 obtain⟨a,h1,h2,aF,vs,bj,c5⟩:=e.ok i _ h;exact⟨a,vs,hG h1,h2,aF,bj,c5⟩
theorem a0.ownC(e:a0 K R W B H σ ρ){i:Nat}{c:nf}(h:ρ[i]?=some (.own c)):∃a,σ[i]?=some (some (.ref a))/\R a=none/\B a=none/\kB K B H a c:=by
 obtain⟨a,h1,h2⟩:=e.ok i _ h;exact⟨a,hG h1,h2⟩
theorem a0.bagAt(e:a0 K R W B H σ ρ){i:Nat}(h:ρ[i]?=some .bag):∃b,σ[i]?=some (some (.ref b))/\(W b\/R b=none)/\B b=none/\hZ H b:=by
 obtain⟨a,h1,h2⟩:=e.ok i _ h;exact⟨a,hG h1,h2⟩
theorem a0.deepAt(e:a0 K R W B H σ ρ){i:Nat}{c:hF}(h:ρ[i]?=some (.deep c)):σ[i]?=some (some (.ref c.adr))/\D0 K R B H c:=by
 obtain⟨h1,h2⟩:=e.ok i _ h;exact⟨hG h1,h2⟩
theorem a0.mutOk(e:a0 K R W B H σ ρ){i:Nat}{a:TI}(m:cQ σ ρ i a):B a=none/\H a≠none:=by
 rcases m with⟨h1,h2|⟨ds,h2⟩⟩|⟨c,h1,h2⟩
 ·obtain⟨b,ai,_,br,x,y,cW,_⟩:=e.bagAt h2;rw[h1]at ai;cases ai;exact⟨br,by rw[cW];simp⟩
 ·obtain⟨b,ai,_,br,cW⟩:=e.ownC h2;rw[h1]at ai;cases ai;exact⟨br,cW.ne⟩
 ·have q:=(e.deepAt h1).2;exact⟨(q.fr a h2).2,q.ok.ne h2⟩
theorem Mx{i:Nat}{a:TI}(m:cQ σ ρ i a)(n:∀c,ρ[i]?≠some (.deep c)):σ[i]?=some (some (.ref a))/\(ρ[i]?=some .bag\/∃ds,ρ[i]?=some (.own ds)):=by
 rcases m with m|⟨c,h,_⟩
 ·exact m
 ·exact absurd h (n c)
theorem qT{i:Nat}{a:TI}(m:cQ σ ρ i a)(h:ρ[i]?=some .bag):σ[i]?=some (some (.ref a)):=(Mx m λc z=>by rw[h]at z;cases z).1
theorem a0.move(e:a0 K R W B H σ ρ)(w:Wd R W aC al)(s:cF B aC)(m:∀i a,cQ σ ρ i a->aC a=none/\(ρ[i]?=some .bag->hZ al a)/\(ρ[i]?≠some .bag->al a=H a)):a0 K R W aC al σ ρ:=by
 refine⟨w,e.len,λi k h=>?_,e.sep⟩;cases k with
 |no=>trivial
 |new d=>
  obtain⟨v,h1,h2⟩:=e.ok i _ h;exact⟨v,h1,h2.mono (vy s)⟩
 |pin v d=>
  obtain⟨h1,h2⟩:=e.ok i _ h;exact⟨h1,h2.mono (vy s)⟩
 |val d=>
  obtain⟨v,h1,h2⟩:=e.ok i _ h;exact⟨v,h1,h2.mono s⟩
 |own ds=>
  obtain⟨a,h1,h2,aF,bj⟩:=e.ok i _ h;obtain⟨bm,bJ,j7⟩:=m i a (.inl ⟨hG h1,.inr ⟨ds,h⟩⟩);exact⟨a,h1,h2,bm,bj.mono s (j7 (by rw[h];simp))⟩
 |deep c=>
  obtain⟨h1,h2⟩:=e.ok i _ h
  have bL:∀a∈c.adr::c.ins,aC a=none/\al a=H a:=λa kC=>by
   obtain⟨bm,bJ,j7⟩:=m i a (.inr ⟨c,h,kC⟩);exact⟨bm,j7 (by rw[h];simp)⟩
  exact⟨h1,λa kC=>⟨(h2.fr a kC).1,(bL a kC).1⟩,h2.nd,h2.ok.mono s λa kC=>(bL a kC).2⟩
 |bag=>
  obtain⟨b,h1,h2,aF,bj⟩:=e.ok i _ h;obtain⟨bm,bJ,j7⟩:=m i b (.inl ⟨hG h1,.inl h⟩);exact⟨b,h1,h2,bm,bJ h⟩
theorem hZ.upd{H:am}{b p:TI}{o:e6}(h:hZ H b)(n:b≠p):hZ (L2.upd H p o) b:=by
 obtain⟨x,y,e,q⟩:=h;exact⟨x,y,by rw[de n];exact e,q⟩
theorem Wd.alloc(w:Wd R W B H){p:TI}(h:H p=none)(o:e6):Wd R W (upd B p o) (upd H p o):=by
 obtain⟨a4,a',bP⟩:=w.fresh h;refine⟨λa u q f4=>?_,λa u q=>?_,λa z=>?_,λa z=>?_,w.wr⟩
 ·rw[de (by rintro rfl;rw[a4]at q;cases q)];exact w.fr a u q f4
 ·unfold L2.upd at q⊢;split
  ·rename_i z;rw[SL z]at q;exact q
  ·rename_i z;rw[SZ z]at q;exact w.bh a u q
 ·rw[de (by rintro rfl;exact a' z)];exact w.wb a z
 ·exact(w.wh a z).upd (by rintro rfl;exact a' z)
theorem Wd.allocH(w:Wd R W B H){p:TI}(h:H p=none)(o:e6):Wd R W B (upd H p o):=by
 obtain⟨a4,a',bP⟩:=w.fresh h;refine⟨λa u q f4=>?_,λa u q=>?_,w.wb,λa z=>?_,w.wr⟩
 ·rw[de (by rintro rfl;rw[a4]at q;cases q)];exact w.fr a u q f4
 ·rw[de (by rintro rfl;rw[bP]at q;cases q)];exact w.bh a u q
 ·exact(w.wh a z).upd (by rintro rfl;exact a' z)
theorem a0.notNew(e:a0 K R W B H σ ρ){p:TI}(h:H p=none){i:Nat}{a:TI}(m:cQ σ ρ i a):a≠p:=by
 rintro rfl;exact(e.mutOk m).2 h
theorem a0.alloc(e:a0 K R W B H σ ρ){p:TI}(h:H p=none)(o:e6):a0 K R W (upd B p o) (upd H p o) σ ρ:=by
 obtain⟨a4,a',bP⟩:=e.toWd.fresh h;refine e.move (e.toWd.alloc h o) (vu bP o) λi a m=>?_;have n:=e.notNew h m;refine⟨by rw[de n];exact(e.mutOk m).1,λz=>?_,λ_=>de n⟩;obtain⟨b,ai,_,_,cW⟩:=e.bagAt z;rw[qT m z]at ai;cases ai;exact cW.upd n
theorem a0.allocH(e:a0 K R W B H σ ρ){p:TI}(h:H p=none)(o:e6):a0 K R W B (upd H p o) σ ρ:=by
 refine e.move (e.toWd.allocH h o) (cF.refl _) λi a m=>?_;have n:=e.notNew h m;refine⟨(e.mutOk m).1,λz=>?_,λ_=>de n⟩;obtain⟨b,ai,_,_,cW⟩:=e.bagAt z;rw[qT m z]at ai;cases ai;exact cW.upd n
theorem a0.grow(e:a0 K R W B H σ ρ){p:TI}(h:H p=none)(o:e6):bV R B (upd B p o):=by
 obtain⟨a4,a',bP⟩:=e.toWd.fresh h;refine⟨vu bP o,λa u q=>?_⟩;by_cases z:a=p
 ·subst z;exact .inr a4
 ·rw[de z]at q;exact .inl q
theorem a0.freezeO(e:a0 K R W B H σ ρ){a:TI}{o:e6}(h:H a=some o)(ak:R a=none)(ab:B a=none)(av:∀i,¬cQ σ ρ i a):a0 K R W (upd B a o) H σ ρ/\bV R B (upd B a o):=by
 have f4:¬W a:=λz=>e.wr a z ak;refine⟨e.move ⟨e.fr,λb u q=>?_,λb z=>?_,e.wh,e.wr⟩ (vu ab _) (λi b m=>?_),⟨vu ab _,λb u q=>?_⟩⟩
 ·by_cases z:b=a
  ·subst z;rw[eP]at q;cases q;exact h
  ·rw[de z]at q;exact e.bh b u q
 ·rw[de (by rintro rfl;exact f4 z)];exact e.wb b z
 ·have n:b≠a:=by rintro rfl;exact av i m
  refine⟨by rw[de n];exact(e.mutOk m).1,λz=>?_,λ_=>rfl⟩;obtain⟨c,ai,_,_,cW⟩:=e.bagAt z;rw[qT m z]at ai;cases ai;exact cW
 ·by_cases z:b=a
  ·subst z;exact .inr ak
  ·rw[de z]at q;exact .inl q
theorem a0.freeze(e:a0 K R W B H σ ρ){a:TI}{vs:ZJ}(h:H a=some (.lst vs))(ak:R a=none)(ab:B a=none)(av:∀i,¬cQ σ ρ i a):a0 K R W (upd B a (.lst vs)) H σ ρ/\bV R B (upd B a (.lst vs)):=e.freezeO h ak ab av
theorem iA{α:Type}{l:List α}{i j:Nat}{x y:α}(h:(l.set i x)[j]?=some y):(j=i/\y=x)\/(j≠i/\l[j]?=some y):=by
 by_cases e:i=j
 ·subst e;rw[List.getElem?_set_self']at h;cases q:l[i]? with
  |none=>rw[q]at h;cases h
  |some z=>rw[q]at h;exact .inl ⟨rfl,(SU h).symm⟩
 ·rw[TP e]at h;exact .inr ⟨λz=>e z.symm,h⟩
def aQ.adrs:aQ->ZS
 |.deep c=>c.adr::c.ins
 |_=>[]
theorem vz{i j:Nat}{v:V}{k:aQ}{a:TI}(m:cQ (σ.set i (some v)) (ρ.set i k) j a):(j=i/\((v=.ref a/\(k=.bag\/∃ds,k=.own ds))\/a∈k.adrs))\/(j≠i/\cQ σ ρ j a):=by
 rcases m with⟨h1,h2⟩|⟨c,h1,h2⟩
 ·rcases iA h1 with⟨e,h1⟩|⟨e,h1⟩
  ·refine .inl ⟨e,.inl ⟨(SU h1).symm,?_⟩⟩;rcases h2 with h2|⟨ds,h2⟩
   ·rcases iA h2 with⟨_,h2⟩|⟨n,_⟩
    ·exact .inl h2.symm
    ·exact absurd e n
   ·rcases iA h2 with⟨_,h2⟩|⟨n,_⟩
    ·exact .inr ⟨ds,h2.symm⟩
    ·exact absurd e n
  ·refine .inr ⟨e,.inl ⟨h1,?_⟩⟩;rcases h2 with h2|⟨ds,h2⟩
   ·rcases iA h2 with⟨n,_⟩|⟨_,h2⟩
    ·exact absurd n e
    ·exact .inl h2
   ·rcases iA h2 with⟨n,_⟩|⟨_,h2⟩
    ·exact absurd n e
    ·exact .inr ⟨ds,h2⟩
 ·rcases iA h1 with⟨e,h1⟩|⟨e,h1⟩
  ·exact .inl ⟨e,.inr (by rw[<-h1];exact h2)⟩
  ·exact .inr ⟨e,.inr ⟨c,h1,h2⟩⟩
theorem qU{i j:Nat}{v:V}{k:aQ}{a:TI}(m:cQ (σ.set i (some v)) (ρ.set i k) j a)(bX:k≠.bag)(dn:∀c,k≠.own c)(jn:k.adrs=[]):j≠i/\cQ σ ρ j a:=by
 rcases vz m with⟨_,⟨_,z|⟨c,z⟩⟩|z⟩|m
 ·exact absurd z bX
 ·exact absurd z (dn c)
 ·rw[jn]at z;cases z
 ·exact m
theorem a0.set(e:a0 K R W B H σ ρ)(i:Nat){v:V}{k:aQ}(ag:D1 K R W B H (some v) k)(av:∀a,v=.ref a->(k=.bag\/∃ds,k=.own ds)->∀j,j≠i->¬cQ σ ρ j a)(hd:∀a∈k.adrs,∀j,j≠i->¬cQ σ ρ j a:=by intro _ z;cases z):a0 K R W B H (σ.set i (some v)) (ρ.set i k):=by
 refine⟨e.toWd,by rw[Ug,Ug];exact e.len,λj k' h=>?_,λx y a aq aG=>?_⟩
 ·rcases iA h with⟨rfl,rfl⟩|⟨n,h⟩
  ·have lt:j<σ.length:=by
    rw[e.len];by_cases z:j<ρ.length
    ·exact z
    ·rw[Th (by rw[Ug];lia)]at h;cases h
   have q:((σ.set j (some v))[j]?).join=some v:=by rw[TX lt];rfl
   rw[q];exact ag
  ·rw[TP (λz=>n z.symm)];exact e.ok j k' h
 ·rcases vz aq with⟨ai,z1⟩|⟨bX,bm⟩
  ·rcases vz aG with⟨ap,_⟩|⟨dn,bJ⟩
   ·rw[ai,ap]
   ·rcases z1 with⟨v1,bM⟩|z1
    ·exact absurd bJ (av a v1 bM y dn)
    ·exact absurd bJ (hd a z1 y dn)
  ·rcases vz aG with⟨ap,aY⟩|⟨dn,bJ⟩
   ·rcases aY with⟨ev,cy⟩|aY
    ·exact absurd bm (av a ev cy x bX)
    ·exact absurd bm (hd a aY x bX)
   ·exact e.sep x y a bm bJ
theorem a0.setV(e:a0 K R W B H σ ρ)(i:Nat){v:V}{d:D}(r:b3 K B v d):a0 K R W B H (σ.set i (some v)) (ρ.set i (.val d)):=
 e.set i ⟨v,rfl,r⟩ λ_ _ z=>by rcases z with z|⟨_,z⟩<;>cases z
theorem a0.setO(e:a0 K R W B H σ ρ)(i:Nat){a:TI}{vs:ZJ}{ds:ZK}(ak:R a=none)(ab:B a=none)(dE:H a=some (.lst vs))(r:Reps K B vs ds)(av:∀j,j≠i->¬cQ σ ρ j a):a0 K R W B H (σ.set i (some (.ref a))) (ρ.set i (.own ds)):=
 e.set i ⟨a,rfl,ak,ab,vs,dE,r⟩ λb z _=>by cases z;exact av
theorem a0.setC(e:a0 K R W B H σ ρ)(i:Nat){a:TI}{c:nf}(ak:R a=none)(ab:B a=none)(dE:kB K B H a c)(av:∀j,j≠i->¬cQ σ ρ j a):a0 K R W B H (σ.set i (some (.ref a))) (ρ.set i (.own c)):=
 e.set i ⟨a,rfl,ak,ab,dE⟩ λb z _=>by cases z;exact av
theorem a0.writeC(e:a0 K R W B H σ ρ){i:Nat}{a:TI}{c c':nf}{o:e6}(h:σ[i]?=some (some (.ref a)))(aB:ρ[i]?=some (.own c))(r:kB K B (upd H a o) a c'):a0 K R W B (upd H a o) σ (ρ.set i (.own c')):=by
 obtain⟨fv,ai,ap,br,cW⟩:=e.ownC aB;rw[h]at ai;cases ai;have f4:¬W a:=λz=>e.wr a z ap;have gp:cQ σ ρ i a:=.inl ⟨h,.inr ⟨c,aB⟩⟩;refine⟨⟨λb u q z=>?_,λb u q=>?_,e.wb,λb z=>?_,e.wr⟩,by rw[Ug];exact e.len,λj k q=>?_,λx y b aq aG=>?_⟩
 ·rw[de (by rintro rfl;rw[ap]at q;cases q)];exact e.fr b u q z
 ·rw[de (by rintro rfl;rw[br]at q;cases q)];exact e.bh b u q
 ·exact(e.wh b z).upd (by rintro rfl;exact f4 z)
 ·rcases iA q with⟨rfl,rfl⟩|⟨n,q⟩
  ·exact⟨a,by rw[h];rfl,ap,br,r⟩
  ·have z:=e.ok j k q;cases k with
   |no=>trivial
   |new d=>exact z
   |pin v d=>exact z
   |val d=>exact z
   |own es=>
    obtain⟨b,z1,aY,eI,eJ⟩:=z;exact⟨b,z1,aY,eI,eJ.mono (cF.refl _) (de (by rintro rfl;exact n (e.sep j i b (.inl ⟨hG z1,.inr ⟨es,q⟩⟩) gp)))⟩
   |deep d=>
    exact⟨z.1,z.2.fr,z.2.nd,z.2.ok.mono (cF.refl _) λb fu=>de (by rintro rfl;exact n (e.sep j i b (.inr ⟨d,q,fu⟩) gp))⟩
   |bag=>
    obtain⟨b,z1,aY,eI,eJ⟩:=z;exact⟨b,z1,aY,eI,eJ.upd (by rintro rfl;exact n (e.sep j i b (.inl ⟨hG z1,.inl q⟩) gp))⟩
 ·have back:∀x,cQ σ (ρ.set i (.own c')) x b->cQ σ ρ x b:=λx m=>by
   rcases m with⟨bm,bJ⟩|⟨d,bm,bJ⟩
   ·by_cases z:x=i
    ·subst z;exact .inl ⟨bm,.inr ⟨c,aB⟩⟩
    ·refine .inl ⟨bm,?_⟩;rw[TP (λw=>z w.symm)]at bJ;exact bJ
   ·rcases iA bm with⟨_,z⟩|⟨_,bm⟩
    ·cases z
    ·exact .inr ⟨d,bm,bJ⟩
  exact e.sep x y b (back x aq) (back y aG)
theorem a0.write(e:a0 K R W B H σ ρ){i:Nat}{a:TI}{ds ds':ZK}{vs:ZJ}(h:σ[i]?=some (some (.ref a)))(aB:ρ[i]?=some (.own ds))(r:Reps K B vs ds'):a0 K R W B (upd H a (.lst vs)) σ (ρ.set i (.own ds')):=
 e.writeC h aB ⟨vs,eP,r⟩
theorem a0.fz(e:a0 K R W B H σ ρ){i:Nat}{ds:ZK}(aB:ρ[i]?=some (.own ds)):∃aC,a0 K R W aC H σ (ρ.set i (.val (.lst ds)))/\bV R B aC:=by
 obtain⟨a,vs,ai,ap,br,cW,f5⟩:=e.ownAt aB;have gp:cQ σ ρ i a:=.inl ⟨ai,.inr ⟨ds,aB⟩⟩;have f:=(e.setV (d:=.non) i (v:=.non) .non)
 have a':=f.freeze cW ap br (λj m=>by
  obtain⟨n,m⟩:=qU m (by simp) (by simp) rfl
  exact n (e.sep j i a m gp))
 refine⟨_,?_,a'.2⟩;have g:=a'.1.setV i (v:=.ref a) (d:=.lst ds) (.lst eP (f5.mono a'.2.s));rw[Ua,Ua]at g
 have q:σ.set i (some (.ref a))=σ:=by
  apply Uj;intro j;by_cases z:i=j
  ·subst z
   have lt:i<σ.length:=by
    by_cases z:i<σ.length
    ·exact z
    ·rw[Th (by lia)]at ai;cases ai
   rw[TX lt,ai]
  ·rw[TP z]
 rw[q]at g;exact g
theorem a0.fzD(e:a0 K R W B H σ ρ){i:Nat}{b:Bool}{t:Option TI}{ks:List ZX}{ds:ZK}(aB:ρ[i]?=some (.own (.d b t ks ds))):∃aC,a0 K R W aC H σ (ρ.set i (.val (.dct b ks ds)))/\bV R B aC:=by
 obtain⟨a,ai,ap,br,ep,as,vs,_,cW,f5,kD,kE⟩:=e.ownC aB;have gp:cQ σ ρ i a:=.inl ⟨ai,.inr ⟨_,aB⟩⟩;have f:=(e.setV (d:=.non) i (v:=.non) .non)
 have a':=f.freezeO cW ap br (λj m=>by
  obtain⟨n,m⟩:=qU m (by simp) (by simp) rfl
  exact n (e.sep j i a m gp))
 refine⟨_,?_,a'.2⟩;have g:=a'.1.setV i (v:=.ref a) (d:=.dct b ks ds) (.dct eP (f5.mono a'.2.s) kD (kE.mono a'.2.s));rw[Ua,Ua]at g
 have q:σ.set i (some (.ref a))=σ:=by
  apply Uj;intro j;by_cases z:i=j
  ·subst z
   have lt:i<σ.length:=by
    by_cases z:i<σ.length
    ·exact z
    ·rw[Th (by lia)]at ai;cases ai
   rw[TX lt,ai]
  ·rw[TP z]
 rw[q]at g;exact g
end
end L3
namespace L3
open PySem L2
open PySem.Builtin.Int (intBits)
abbrev a9:=ZL->(D->Prop)->Prop
abbrev cZ:=ZL->(ZK->Prop)->Prop
abbrev dW:=ZL->(Bool->Prop)->Prop
inductive Arg where
 |val (d:D)|bag (i:Nat)
abbrev ZP:=List Arg
abbrev i1:=ZL->(ZP->Prop)->Prop
structure iB where
 nx:ZL->Prop
 rt:aQ->Prop
 bk:ZL->Prop:=λ_=>False
 ct:ZL->Prop:=λ_=>False
abbrev cX:=iB->ZL->Prop
abbrev gd:=D->ZL->(ZL->Prop)->Prop
abbrev oq:=ZK->ZL->(ZL->Prop)->Prop
section
variable(K:F6)
def e'(t:bK)(u:a9):Prop:=∀(ρ:ZL)(k:D->Prop),u ρ k->∀(R:am)(W:TI->Prop)(B H:am)(σ:St)(Q:cN),a0 K R W B H σ ρ->
 (∀d v aC al,k d->a0 K R W aC al σ ρ->bV R B aC->b3 K aC v d->Q v al)->t σ H Q
def vA(t:bK)(u:cZ):Prop:=∀(ρ:ZL)(k:ZK->Prop),u ρ k->∀(R:am)(W:TI->Prop)(B H:am)(σ:St)(Q:cN),a0 K R W B H σ ρ->
 (∀ds a vs aC al,k ds->a0 K R W aC al σ ρ->bV R B aC->R a=none->aC a=none->al a=some (.lst vs)->Reps K aC vs ds->(∀i,¬cQ σ ρ i a)->Q (.ref a) al)->t σ H Q
def i2(t:ff)(u:dW):Prop:=∀(ρ:ZL)(k:Bool->Prop),u ρ k->∀(R:am)(W:TI->Prop)(B H:am)(σ:St)(Q:Bool->am->Prop),a0 K R W B H σ ρ->
 (∀b aC al,k b->a0 K R W aC al σ ρ->bV R B aC->Q b al)->t σ H Q
def vB(t:eE)(u:cZ):Prop:=∀(ρ:ZL)(k:ZK->Prop),u ρ k->∀(R:am)(W:TI->Prop)(B H:am)(σ:St)(Q:ZJ->am->Prop),a0 K R W B H σ ρ->
 (∀ds vs aC al,k ds->a0 K R W aC al σ ρ->bV R B aC->Reps K aC vs ds->Q vs al)->t σ H Q
inductive j8 (B:am) (σ:St) (ρ:ZL):ZJ->ZP->Prop where
 |nil:j8 B σ ρ [] []
 |val {v:V} {d:D} {vs:ZJ} {as:ZP} (h:b3 K B v d) (r:j8 B σ ρ vs as):j8 B σ ρ (v::vs) (.val d::as)
 |bag {v:V} {i:Nat} {vs:ZJ} {as:ZP} (h:σ[i]?=some (some v)) (ab:ρ[i]?=some .bag) (r:j8 B σ ρ vs as):j8 B σ ρ (v::vs) (.bag i::as)
def D3(t:eE)(u:i1):Prop:=∀(ρ:ZL)(k:ZP->Prop),u ρ k->∀(R:am)(W:TI->Prop)(B H:am)(σ:St)(Q:ZJ->am->Prop),a0 K R W B H σ ρ->
 (∀as vs aC al,k as->a0 K R W aC al σ ρ->bV R B aC->j8 K aC σ ρ vs as->Q vs al)->t σ H Q
def zE(R B:am):am:=λa=>match B a with
 |some (.lst vs)=>if(R a).isNone then some (.lst vs)else none
 |o=>o
def zF(R:am)(B H:am)(v:V):aQ->Prop
 |.no=>False
 |.val d=>b3 K B v d
 |.own c=>∃a,v=.ref a/\R a=none/\B a=none/\kB K B H a c
 |.bag=>∃b,v=.ref b/\R b=none/\B b=none/\hZ H b
 |.new d=>b3 K (zE R B) v d
 |.pin _ _=>False
 |.deep _=>False
structure sA (R:am) (W:TI->Prop) (B:am) (U:iB) (D:m0):Prop where
 nx:∀ρ σ aC al,U.nx ρ->a0 K R W aC al σ ρ->bV R B aC->D.nx σ al
 bk:∀ρ σ aC al,U.bk ρ->a0 K R W aC al σ ρ->bV R B aC->D.bk σ al
 ct:∀ρ σ aC al,U.ct ρ->a0 K R W aC al σ ρ->bV R B aC->D.ct σ al
 rt:∀r v aC al,U.rt r->Wd R W aC al->bV R B aC->zF K R aC al v r->D.rt v al
def D4(t:gA)(u:cX):Prop:=∀(U:iB)(ρ:ZL),u U ρ->∀(R:am)(W:TI->Prop)(B H:am)(σ:St)(D:m0),a0 K R W B H σ ρ->sA K R W B U D->t D σ H
def sB(g:hW)(u:gd):Prop:=∀(d:D)(ρ:ZL)(k:ZL->Prop),u d ρ k->∀(R:am)(W:TI->Prop)(B H:am)(σ:St)(v:V)(Q:St->am->Prop),a0 K R W B H σ ρ->b3 K B v d->
 (∀bS bq,k bS->a0 K R W B H bq bS->(∀j a,cQ bq bS j a->cQ σ ρ j a)->Q bq H)->g v σ H Q
def My(g:n9)(u:oq):Prop:=∀(ds:ZK)(ρ:ZL)(k:ZL->Prop),u ds ρ k->∀(R:am)(W:TI->Prop)(B H:am)(σ:St)(vs:ZJ)(Q:St->am->Prop),a0 K R W B H σ ρ->Reps K B vs ds->
 (∀bS bq,k bS->a0 K R W B H bq bS->(∀j a,cQ bq bS j a->cQ σ ρ j a)->Q bq H)->g vs σ H Q
def j9(B:am)(J:hX)(ds:ZK):Prop:=∀(H:am),cF B H->∀i,(i<ds.length->J.go i H)/\(ds.length<=i->J.stop i H)/\∀x al,i<ds.length->J.yld i H x al->al=H/\∃d,ds[i]?=some d/\b3 K B x d
def D5(t:e8)(u:cZ):Prop:=∀(ρ:ZL)(k:ZK->Prop),u ρ k->∀(R:am)(W:TI->Prop)(B H:am)(σ:St)(Q:hX->am->Prop),a0 K R W B H σ ρ->
 (∀ds J aC al,k ds->a0 K R W aC al σ ρ->bV R B aC->j9 K aC J ds->Q J al)->t σ H Q
end
theorem D6{R B:am}:cF (zE R B) B:=λa o h=>by
 unfold zE at h;split at h
 ·rename_i vs e
  split at h
  ·rw[e];exact h
  ·cases h
 ·exact h
theorem sA.grow{K:F6}{R:am}{W:TI->Prop}{B aC:am}{U:iB}{D:m0}(s:sA K R W B U D)(g:bV R B aC):sA K R W aC U D:=
 ⟨λρ σ C H h e q=>s.nx ρ σ C H h e (g.trans q),λρ σ C H h e q=>s.bk ρ σ C H h e (g.trans q),λρ σ C H h e q=>s.ct ρ σ C H h e (g.trans q),λr v C H h e q z=>s.rt r v C H h e (g.trans q) z⟩
section
variable(X:aJ)
def bn(e:Wp)(u:a9):Prop:=∃t,b6 X e t/\e' X.K t u
def lq(e:Wp)(u:cZ):Prop:=∃t,b6 X e t/\vA X.K t u
def iC(e:Wp)(u:dW):Prop:=∃t,jj X e t/\i2 X.K t u
def pK(e:Wp)(u:dW):Prop:=∃t,m1 X e t/\i2 X.K t u
def pL(es:ZT)(u:cZ):Prop:=∃t,hl X es t/\vB X.K t u
def mo(es:ZT)(u:i1):Prop:=∃t,hl X es t/\D3 X.K t u
def fM(s:XA)(u:cX):Prop:=∃t,jk X s t/\D4 X.K t u
def hp(s:ZU)(u:cX):Prop:=∃t,jl X s t/\D4 X.K t u
def kF(e:Wp)(u:gd):Prop:=∃t,kt X e t/\sB X.K t u
def vC(e:ZT)(u:oq):Prop:=∃t,r7 X e t/\My X.K t u
def nh(bA e:Wp)(u:cZ):Prop:=∃t,jH X bA e t/\D5 X.K t u
end
def gq(i:Nat):a9:=λρ k=>∃d,ρ[i]?=some (.val d)/\k d
def pM(d:D):a9:=λ_ k=>k d
def vD(C:Int->Int->Prop)(g:Int->Int->D)(bD bY:a9):a9:=λρ k=>bD ρ λx=>bY ρ λy=>∃i j,x=.int i/\y=.int j/\C i j/\k (g i j)
def sC(g:Int->Int->D)(bD bY:a9):a9:=λρ k=>bD ρ λx=>bY ρ λy=>∃i j,x=.int i/\y=.int j/\k (g i j)
def D7(bD:a9):a9:=λρ k=>bD ρ λx=>∃i,x=.int i/\k (.int (-i))
section
variable{K:F6}{X:aJ}
theorem Mz(i:Nat):e' K (yZ i) (gq i):=by
 intro ρ k h R W B H σ Q e q;obtain⟨d,h,z⟩:=h;obtain⟨v,ai,r⟩:=e.val h;exact⟨v,ai,q d v B H z e (bV.refl _ _) r⟩
theorem D8{v:V}{d:D}(h:∀B,b3 K B v d):e' K (qG v) (pM d):=λρ k z R W B H σ Q e q=>q d v B H z e (bV.refl _ _) (h B)
theorem qV{bO tb:bK}{bD bY:a9}{r:fh}{f:D->D->(D->Prop)->Prop}(aw:e' K bO bD)(ab:e' K tb bY)(ak:∀(x y:D) (k:D->Prop),f x y k->∀(R:am) (W:TI->Prop) (B H:am) (σ:St) (ρ:ZL) (v w:V) (Q:cN),a0 K R W B H σ ρ->b3 K B v x->b3 K B w y->(∀d v aC al,k d->a0 K R W aC al σ ρ->bV R B aC->b3 K aC v d->Q v al)->r v w H Q):
  e' K (m6 r bO tb) (λρ k=>bD ρ λx=>bY ρ λy=>f x y k):=by
 intro ρ k h R W B H σ Q e q;refine aw ρ _ h R W B H σ _ e λx v bd ar h1 ai aI r1=>?_;refine ab ρ _ h1 R W bd ar σ _ ai λy w ca a5 h2 ap aP r2=>?_;exact ak x y k h2 R W ca a5 σ ρ v w Q ap (r1.mono aP.s) r2 λd u ot cI aF br g3 gM=>q d u ot cI aF br ((aI.trans aP).trans g3) gM
theorem MA{bO:bK}{bD:a9}{r:V->am->cN->Prop}{f:D->(D->Prop)->Prop}(aw:e' K bO bD)(ak:∀(x:D) (k:D->Prop),f x k->∀(R:am) (W:TI->Prop) (B H:am) (σ:St) (ρ:ZL) (v:V) (Q:cN),a0 K R W B H σ ρ->b3 K B v x->(∀d v aC al,k d->a0 K R W aC al σ ρ->bV R B aC->b3 K aC v d->Q v al)->r v H Q):
  e' K (y' r bO) (λρ k=>bD ρ λx=>f x k):=by
 intro ρ k h R W B H σ Q e q;refine aw ρ _ h R W B H σ _ e λx v bd ar h1 ai aI r1=>?_;exact ak x k h1 R W bd ar σ ρ v Q ai r1 λd u ot cI aF br g3 gM=>q d u ot cI aF br (aI.trans g3) gM
theorem b3.intV{B:am}{v:V}{i:Int}(r:b3 K B v (.int i)):v=.int i:=by cases r;rfl
theorem b3.blV{B:am}{v:V}{b:Bool}(r:b3 K B v (.bl b)):v=.bl b:=by cases r;rfl
theorem b3.nonV{B:am}{v:V}(r:b3 K B v .non):v=.non:=by cases r;rfl
theorem b3.tupV{B:am}{v:V}{ds:ZK}(r:b3 K B v (.tup ds)):∃a vs,v=.ref a/\B a=some (.tup vs)/\Reps K B vs ds:=by
 cases r with|tup h r=>exact⟨_,_,rfl,h,r⟩
theorem b3.lstV{B:am}{v:V}{ds:ZK}(r:b3 K B v (.lst ds)):∃a vs,v=.ref a/\B a=some (.lst vs)/\Reps K B vs ds:=by
 cases r with|lst h r=>exact⟨_,_,rfl,h,r⟩
theorem b3.scrV{B:am}{v:V}{ns:ZG}(r:b3 K B v (.scr ns)):∃a,v=.ref a/\cE K B a (ns.map V.int):=by
 cases r with|scr h=>exact⟨_,rfl,h⟩
theorem zG{C:Int->Int->Prop}{f:Int->Int->V}{g:Int->Int->D}{bO tb:bK}{bD bY:a9}(aD:∀B i j,b3 K B (f i j) (g i j))(aw:e' K bO bD)(ab:e' K tb bY):e' K (m6 (qK C f) bO tb) (vD C g bD bY):=
 qV aw ab λx y k h R W B H σ ρ v w Q e bt cA q=>by
  obtain⟨i,j,rfl,rfl,hc,ag⟩:=h;exact⟨i,j,bt.intV,cA.intV,hc,q _ _ B H ag e (bV.refl _ _) (aD B i j)⟩
theorem vE{f:Int->Int->V}{g:Int->Int->D}{bO tb:bK}{bD bY:a9}(aD:∀B i j,b3 K B (f i j) (g i j))(aw:e' K bO bD)(ab:e' K tb bY):e' K (m6 (kw f) bO tb) (sC g bD bY):=
 qV aw ab λx y k h R W B H σ ρ v w Q e bt cA q=>by
  obtain⟨i,j,rfl,rfl,ag⟩:=h;exact⟨i,j,bt.intV,cA.intV,q _ _ B H ag e (bV.refl _ _) (aD B i j)⟩
theorem MB{bO:bK}{bD:a9}(aw:e' K bO bD):e' K (y' (za λi=>.int (-i)) bO) (D7 bD):=
 MA (f:=λx k=>∃i,x=.int i/\k (.int (-i))) aw λx k h R W B H σ ρ v Q e bt q=>by
  obtain⟨i,rfl,ag⟩:=h;exact⟨i,bt.intV,q _ _ B H ag e (bV.refl _ _) (.int _)⟩
variable{a b:Wp}{bD bY:a9}{pos:Pos}
theorem ah(i:Nat){x:Str}{pos:Pos}(bi:X.N[i]?=some x:=by rfl)(aH:iq X.env.scope x:=by first|exact SF rfl|exact SP (SF rfl)|exact SP (SP rfl))(hd:(x==("__debug__":Str))=false:=by decide)(ec:(x==("__classdict__":Str))=false:=by decide):bn X (.Name x pos) (gq i):=⟨_,mc bi aH hd ec,Mz i⟩
theorem bb{i j pos}:bn X (.Constant (.int i) j pos) (pM (.int i)):=⟨_,fg,D8 λ_=>.int _⟩
theorem iD{b j pos}:bn X (.Constant (.bool b) j pos) (pM (.bl b)):=⟨_,Ke,D8 λ_=>.bl _⟩
theorem hq(aw:bn X a bD)(ab:bn X b bY):bn X (.BinOp a .Add b pos) (sC (λi j=>.int (i+j)) bD bY):=by
 obtain⟨_,h1,r1⟩:=aw;obtain⟨_,h2,r2⟩:=ab;exact⟨_,fW vc h1 h2,vE (λ_ _ _=>.int _) r1 r2⟩
theorem gR(aw:bn X a bD)(ab:bn X b bY):bn X (.BinOp a .Sub b pos) (sC (λi j=>.int (i-j)) bD bY):=by
 obtain⟨_,h1,r1⟩:=aw;obtain⟨_,h2,r2⟩:=ab;exact⟨_,fW Le h1 h2,vE (λ_ _ _=>.int _) r1 r2⟩
theorem cO(aw:bn X a bD)(ab:bn X b bY):bn X (.BinOp a .Mult b pos) (vD vq (λi j=>.int (i*j)) bD bY):=by
 obtain⟨_,h1,r1⟩:=aw;obtain⟨_,h2,r2⟩:=ab;exact⟨_,fW sx h1 h2,zG (λ_ _ _=>.int _) r1 r2⟩
theorem d7(aw:bn X a bD)(ab:bn X b bY):bn X (.BinOp a .FloorDiv b pos) (vD qR (λi j=>.int (i.fdiv j)) bD bY):=by
 obtain⟨_,h1,r1⟩:=aw;obtain⟨_,h2,r2⟩:=ab;exact⟨_,fW vr h1 h2,zG (λ_ _ _=>.int _) r1 r2⟩
theorem zH(aw:bn X a bD)(ab:bn X b bY):bn X (.BinOp a .Mod b pos) (vD (λ_ j=>0<j) (λi j=>.int (i%j)) bD bY):=by
 obtain⟨_,h1,r1⟩:=aw;obtain⟨_,h2,r2⟩:=ab;exact⟨_,fW m7 h1 h2,zG (λ_ _ _=>.int _) r1 r2⟩
theorem h3(aw:bn X a bD):bn X (.UnaryOp .USub a pos) (D7 bD):=by
 obtain⟨_,h1,r1⟩:=aw;exact⟨_,Ld Lg h1,MB r1⟩
def D9(op:CmpOp)(f:Int->Int->Bool)(X:aJ):Prop:=gl X (XU op) (kw λi j=>.bl (f i j))
theorem ou{op:CmpOp}{f:Int->Int->Bool}(aB:D9 op f X)(aw:bn X a bD)(ab:bn X b bY)(av:XF op b=false):bn X (.Compare a [op] [b] pos) (sC (λi j=>.bl (f i j)) bD bY):=by
 obtain⟨_,h1,r1⟩:=aw;obtain⟨_,h2,r2⟩:=ab;exact⟨_,Do aB h1 h2 av,vE (λ_ _ _=>.bl _) r1 r2⟩
def pN(bD:a9):dW:=λρ k=>bD ρ λx=>∃c,x=.bl c/\k c
def D'(u:dW):dW:=λρ k=>u ρ λc=>k (!c)
def Ea(u w:dW):dW:=λρ k=>u ρ λc=>if c=true then w ρ k else k false
def Eb(u w:dW):dW:=λρ k=>u ρ λc=>if c=true then k true else w ρ k
theorem sD{bO:bK}{bD:a9}(aw:e' K bO bD):i2 K (Db bO) (pN bD):=by
 intro ρ k h R W B H σ Q e q;refine aw ρ _ h R W B H σ _ e λx v bd ar h1 ai aI r1=>?_;obtain⟨c,rfl,ag⟩:=h1;exact⟨c,r1.blV,q c bd ar ag ai aI⟩
theorem hH{e:Wp}{u:a9}(h:bn X e u)(ax:∀j3,Zo e X.env j3=(do let v <-j3;Zy e.pos;Y1 [v] (truthy v)):=by intro _;rfl):iC X e (pN u):=by
 obtain⟨_,h1,r1⟩:=h;exact⟨_,Kf h1 ax,sD r1⟩
theorem gr{op:CmpOp}{f:Int->Int->Bool}(aB:D9 op f X)(aw:bn X a bD)(ab:bn X b bY)(av:XF op b=false):iC X (.Compare a [op] [b] pos) (pN (sC (λi j=>.bl (f i j)) bD bY)):=by
 obtain⟨_,h1,r1⟩:=aw;obtain⟨_,h2,r2⟩:=ab;exact⟨_,pC aB h1 h2 av,sD (vE (λ_ _ _=>.bl _) r1 r2)⟩
theorem MC{t:ff}{u:dW}(h:i2 K t u):i2 K (De t) (D' u):=λρ k z R W B H σ Q e q=>h ρ _ z R W B H σ _ e λb aC al h1 ai aI=>q (!b) aC al h1 ai aI
theorem MD{t t':ff}{u eQ:dW}(h:i2 K t u)(h':i2 K t' eQ):i2 K (Dc t t') (Ea u eQ):=by
 intro ρ k z R W B H σ Q e q;refine h ρ _ z R W B H σ _ e λb bd ar h1 ai aI=>?_;cases b with
 |true=>
  rw[SL rfl]at h1⊢;exact h' ρ _ h1 R W bd ar σ _ ai λc ca a5 h2 ap aP=>q c ca a5 h2 ap (aI.trans aP)
 |false=>
  rw[SZ S6]at h1⊢;exact q false bd ar h1 ai aI
theorem ME{t t':ff}{u eQ:dW}(h:i2 K t u)(h':i2 K t' eQ):i2 K (Dd t t') (Eb u eQ):=by
 intro ρ k z R W B H σ Q e q;refine h ρ _ z R W B H σ _ e λb bd ar h1 ai aI=>?_;cases b with
 |false=>
  rw[SZ S6]at h1⊢;exact h' ρ _ h1 R W bd ar σ _ ai λc ca a5 h2 ap aP=>q c ca a5 h2 ap (aI.trans aP)
 |true=>
  rw[SL rfl]at h1⊢;exact q true bd ar h1 ai aI
theorem hI{u:dW}(h:iC X a u):iC X (.UnaryOp .Not a pos) (D' u):=by
 obtain⟨_,h1,r1⟩:=h;exact⟨_,Kk h1,MC r1⟩
theorem MF{u:dW}(h:iC X a u):pK X (.BoolOp .And [a] pos) u:=by
 obtain⟨_,h1,r1⟩:=h;exact⟨_,Kg h1,r1⟩
theorem ov{u:dW}(h:iC X a u):pK X (.BoolOp .Or [a] pos) u:=by
 obtain⟨_,h1,r1⟩:=h;exact⟨_,Kh h1,r1⟩
theorem w_and{rest:ZT}{u eQ:dW}(h:iC X a u)(h':pK X (.BoolOp .And (b::rest) pos) eQ):pK X (.BoolOp .And (a::b::rest) pos) (Ea u eQ):=by
 obtain⟨_,h1,r1⟩:=h;obtain⟨_,h2,r2⟩:=h';exact⟨_,Ki h1 h2,MD r1 r2⟩
theorem w_or{rest:ZT}{u eQ:dW}(h:iC X a u)(h':pK X (.BoolOp .Or (b::rest) pos) eQ):pK X (.BoolOp .Or (a::b::rest) pos) (Eb u eQ):=by
 obtain⟨_,h1,r1⟩:=h;obtain⟨_,h2,r2⟩:=h';exact⟨_,Kj h1 h2,ME r1 r2⟩
theorem ni{u:dW}(h:pK X a u):iC X a u:=by
 obtain⟨_,h1,r1⟩:=h;exact⟨_,h1.pt,r1⟩
def MG(u w:a9):a9:=λρ k=>u ρ λx=>∃c,x=.bl c/\if c=true then w ρ k else k (.bl false)
def MH(u:a9):a9:=λρ k=>u ρ λx=>∃c,x=.bl c/\k (.bl (!c))
theorem vF{op:BoolOp}(h:bn X a bD):bn X (.BoolOp op [a] pos) bD:=by
 obtain⟨_,h1,r1⟩:=h;exact⟨_,Kn h1,r1⟩
theorem sE{rest:ZT}(h:bn X a bD)(h':bn X (.BoolOp .And (b::rest) pos) bY):bn X (.BoolOp .And (a::b::rest) pos) (MG bD bY):=by
 obtain⟨_,h1,r1⟩:=h;obtain⟨_,h2,r2⟩:=h';refine⟨_,Ko h1 h2,λρ k z R W B H σ Q e q=>?_⟩;refine r1 ρ _ z R W B H σ _ e λx v bd ar z1 ai aI az=>?_;obtain⟨c,rfl,z1⟩:=z1;refine⟨c,az.blV,?_⟩;cases c with
 |true=>
  rw[SL rfl]at z1⊢;exact r2 ρ _ z1 R W bd ar σ _ ai λd w ca a5 h2 ap aP a3=>q d w ca a5 h2 ap (aI.trans aP) a3
 |false=>
  rw[SZ S6]at z1⊢;exact q _ _ bd ar z1 ai aI (.bl _)
theorem MI(h:bn X a bD):bn X (.UnaryOp .Not a pos) (MH bD):=by
 obtain⟨_,h1,r1⟩:=h;refine⟨_,Kp h1,λρ k z R W B H σ Q e q=>?_⟩;refine r1 ρ _ z R W B H σ _ e λx v bd ar z1 ai aI az=>?_;obtain⟨c,rfl,z1⟩:=z1;exact⟨c,az.blV,q _ _ bd ar z1 ai aI (.bl _)⟩
def MJ(c:dW)(u w:a9):a9:=λρ k=>c ρ λb=>if b=true then u ρ k else w ρ k
theorem Ec{c:Wp}{hJ:dW}(hc:iC X c hJ)(aw:bn X a bD)(ab:bn X b bY):bn X (.IfExp c a b pos) (MJ hJ bD bY):=by
 obtain⟨_,h0,ha⟩:=hc;obtain⟨_,h1,r1⟩:=aw;obtain⟨_,h2,r2⟩:=ab;refine⟨_,Kr h0 h1 h2,λρ k z R W B H σ Q e q=>?_⟩;refine ha ρ _ z R W B H σ _ e λc bd ar z1 ai aI=>?_;cases c with
 |true=>
  rw[SL rfl]at z1⊢;exact r1 ρ _ z1 R W bd ar σ _ ai λd w ca a5 h2 ap aP a3=>q d w ca a5 h2 ap (aI.trans aP) a3
 |false=>
  rw[SZ S6]at z1⊢;exact r2 ρ _ z1 R W bd ar σ _ ai λd w ca a5 h2 ap aP a3=>q d w ca a5 h2 ap (aI.trans aP) a3
def vG:cZ:=λ_ k=>k []
def ow(u:a9)(w:cZ):cZ:=λρ k=>u ρ λd=>w ρ λds=>k (d::ds)
variable{e:Wp}{es:ZT}{u:a9}{w:cZ}
theorem MK:vB K vd vG:=λρ k h R W B H σ Q e q=>q [] [] B H h e (bV.refl _ _) .nil
theorem ML{cH:bK}{t:eE}(h1:e' K cH u)(h2:vB K t w):vB K (ve cH t) (ow u w):=by
 intro ρ k h R W B H σ Q e q;refine h1 ρ _ h R W B H σ _ e λd v bd ar z1 ai aI r1=>?_;refine h2 ρ _ z1 R W bd ar σ _ ai λds vs ca a5 aY ap aP r2=>?_;exact q _ _ ca a5 aY ap (aI.trans aP) (.cons (r1.mono aP.s) r2)
theorem b9:pL X [] vG:=⟨_,gN,MK⟩
theorem aV(aw:bn X e u)(ak:pL X es w)(aj:TD (e::es) X.env=(false,XJ e X.env)::TD es X.env:=by rfl):pL X (e::es) (ow u w):=by
 obtain⟨_,h1,r1⟩:=aw;obtain⟨_,h2,r2⟩:=ak;exact⟨_,fi h1 h2 aj,ML r1 r2⟩
def zI(w:cZ):a9:=λρ k=>w ρ λds=>ds.length<=TT/\k (.tup ds)
theorem db{bC}(h:pL X es w):bn X (.Tuple es bC pos) (zI w):=by
 obtain⟨_,h1,r1⟩:=h;refine⟨_,Ds h1,λρ k z R W B H σ Q e q=>?_⟩;refine r1 ρ _ z R W B H σ _ e λds vs bd ar z1 ai aI az=>?_;refine⟨by rw[az.length];exact z1.1,λp ae=>?_⟩;have aP:=ai.grow ae (.tup vs);exact q _ _ _ _ z1.2 (ai.alloc ae _) (aI.trans aP) (.tup eP (az.mono aP.s))
def MM(w:cZ):cZ:=λρ k=>w ρ λds=>ds.length<=TT/\k ds
theorem gS(h:pL X es w):lq X (.List es pos) (MM w):=by
 obtain⟨_,h1,r1⟩:=h;refine⟨_,vf h1,λρ k z R W B H σ Q e q=>?_⟩;refine r1 ρ _ z R W B H σ _ e λds vs bd ar z1 ai aI az=>?_;refine⟨by rw[az.length];exact z1.1,λp ae=>?_⟩;obtain⟨a4,a',bP⟩:=ai.toWd.fresh ae;exact q ds p vs bd _ z1.2 (ai.allocH ae _) aI a4 bP eP az λi m=>ai.notNew ae m rfl
def zJ(w:cZ):a9:=λρ k=>w ρ λds=>k (.lst ds)
theorem MN{t:bK}(h:vA K t w):e' K t (zJ w):=by
 intro ρ k z R W B H σ Q e q;refine h ρ _ z R W B H σ _ e λds a vs bd ar z1 ai aI ak ab dE ge av=>?_;obtain⟨ap,aP⟩:=ai.freeze dE ak ab av;exact q _ _ _ _ z1 ap (aI.trans aP) (.lst eP (ge.mono aP.s))
theorem ed(h:lq X e w):bn X e (zJ w):=by
 obtain⟨_,h1,r1⟩:=h;exact⟨_,h1,MN r1⟩
def zK(bD bY:a9):a9:=λρ k=>bD ρ λx=>bY ρ λy=>∃ds i d,(x=.tup ds\/x=.lst ds)/\y=.int i/\ej ds i=some d/\k d
theorem sF{B:am}{vs:ZJ}{ds:ZK}{i:Int}{d:D}(r:Reps K B vs ds)(h:ej ds i=some d):∃v,ej vs i=some v/\b3 K B v d:=by
 unfold ej at h⊢;rw[r.length];cases q:ixN ds.length i with
 |none=>rw[q]at h;cases h
 |some j=>
  rw[q]at h;exact r.get h
theorem jp(aw:bn X a bD)(ab:bn X b bY)(aj:vl b):bn X (.Subscript a b pos) (zK bD bY):=by
 obtain⟨_,h1,r1⟩:=aw;obtain⟨_,h2,r2⟩:=ab;refine⟨_,mh pI h1 h2 aj,qV r1 r2 λx y k h R W B H σ ρ v mb Q e bt cA q=>?_⟩;obtain⟨ds,i,d,aq,rfl,aw,ag⟩:=h;rcases aq with rfl|rfl
 ·obtain⟨p,vs,rfl,ae,ge⟩:=bt.tupV;obtain⟨z,hz,i3⟩:=sF ge aw;exact⟨p,vs,i,z,rfl,cA.intV,.inl (e.bh _ _ ae),hz,q d z B H ag e (bV.refl _ _) i3⟩
 ·obtain⟨p,vs,rfl,ae,ge⟩:=bt.lstV;obtain⟨z,hz,i3⟩:=sF ge aw;exact⟨p,vs,i,z,rfl,cA.intV,.inr (e.bh _ _ ae),hz,q d z B H ag e (bV.refl _ _) i3⟩
end
abbrev cn:=ZL->(aQ->Prop)->Prop
def mq:ZL->Nat
 |[]=>0
 |.bag::r=>mq r+1
 |_::r=>mq r
inductive kG (K:F6) (W:TI->Prop) (B:am):ZJ->ZL->Prop where
 |nil:kG K W B [] []
 |val {v:V} {d:D} {vs:ZJ} {as:ZL} (h:b3 K B v d) (r:kG K W B vs as):kG K W B (v::vs) (.val d::as)
 |bag {b:TI} {vs:ZJ} {as:ZL} (h:W b) (r:kG K W B vs as):kG K W B (.ref b::vs) (.bag::as)
structure MO (K:F6) (W:TI->Prop) (B H:am) (v:V) (r:aQ) (aC al:am):Prop where
 wd:Wd H W aC al
 g:bV H B aC
 res:zF K H aC al v r
def cl(K:F6)(n:Nat)(F:cn):hm:=λvs H Q _=>∃(W:TI->Prop)(B:am)(as:ZL)(k:aQ->Prop),F as k/\as.length=n/\Nat.ble (mq as) 1=true/\cF B H/\(∀a,W a->B a=none/\hZ H a)/\kG K W B vs as /\
 ∀r v aC al,k r->MO K W B H v r aC al->Q v al
section
variable{K:F6}{R:am}{W:TI->Prop}{B aC H al:am}{σ:St}{ρ:ZL}
theorem kG.length:∀{vs:ZJ}{as:ZL},kG K W B vs as->vs.length=as.length
 |_,_,.nil=>rfl
 |_,_,.val _ r=>by rw[SK,SK,r.length]
 |_,_,.bag _ r=>by rw[SK,SK,r.length]
theorem kG.get:∀{vs:ZJ}{as:ZL},kG K W B vs as->∀(i:Nat)(k:aQ),as[i]?=some k->(∃v d,vs[i]?=some v/\k=.val d/\b3 K B v d)\/(∃b,vs[i]?=some (.ref b)/\k=.bag/\W b)
 |_,_,.nil,i,k,e=>by simp at e
 |_,_,.val h r,0,k,e=>by simp at e;subst e;exact .inl ⟨_,_,rfl,rfl,h⟩
 |_,_,.val h r,i+1,k,e=>by simpa using r.get i k (by simpa using e)
 |_,_,.bag h r,0,k,e=>by simp at e;subst e;exact .inr ⟨_,rfl,rfl,h⟩
 |_,_,.bag h r,i+1,k,e=>by simpa using r.get i k (by simpa using e)
theorem ox:∀{as:ZL}{i:Nat},mq as=0->as[i]?≠some .bag
 |[],i,_=>by simp
 |.bag::r,i,h=>by simp[mq]at h
 |.no::r,0,h=>by simp
 |.no::r,i+1,h=>by simpa using ox (as:=r) (i:=i) h
 |.val d::r,0,h=>by simp
 |.val d::r,i+1,h=>by simpa using ox (as:=r) (i:=i) h
 |.new d::r,0,h=>by simp
 |.new d::r,i+1,h=>by simpa using ox (as:=r) (i:=i) h
 |.pin v d::r,0,h=>by simp
 |.pin v d::r,i+1,h=>by simpa using ox (as:=r) (i:=i) h
 |.own d::r,0,h=>by simp
 |.own d::r,i+1,h=>by simpa using ox (as:=r) (i:=i) h
 |.deep d::r,0,h=>by simp
 |.deep d::r,i+1,h=>by simpa using ox (as:=r) (i:=i) h
theorem pO:∀{as:ZL}{i j:Nat},mq as<=1->as[i]?=some .bag->as[j]?=some .bag->i=j
 |[],i,j,_,e,_=>by simp at e
 |.bag::r,0,0,_,_,_=>rfl
 |.bag::r,0,j+1,h,_,e=>absurd (by simpa using e) (ox (as:=r) (i:=j) (by simp[mq]at h;exact h))
 |.bag::r,i+1,_,h,e,_=>absurd (by simpa using e) (ox (as:=r) (i:=i) (by simp[mq]at h;exact h))
 |.no::r,0,_,_,e,_=>by simp at e
 |.no::r,i+1,0,_,_,e=>by simp at e
 |.no::r,i+1,j+1,h,e,aW=>by rw[pO (as:=r) (i:=i) (j:=j) h (by simpa using e) (by simpa using aW)]
 |.val d::r,0,_,_,e,_=>by simp at e
 |.val d::r,i+1,0,_,_,e=>by simp at e
 |.val d::r,i+1,j+1,h,e,aW=>by rw[pO (as:=r) (i:=i) (j:=j) h (by simpa using e) (by simpa using aW)]
 |.new d::r,0,_,_,e,_=>by simp at e
 |.new d::r,i+1,0,_,_,e=>by simp at e
 |.new d::r,i+1,j+1,h,e,aW=>by rw[pO (as:=r) (i:=i) (j:=j) h (by simpa using e) (by simpa using aW)]
 |.pin v d::r,0,_,_,e,_=>by simp at e
 |.pin v d::r,i+1,0,_,_,e=>by simp at e
 |.pin v d::r,i+1,j+1,h,e,aW=>by rw[pO (as:=r) (i:=i) (j:=j) h (by simpa using e) (by simpa using aW)]
 |.own d::r,0,_,_,e,_=>by simp at e
 |.own d::r,i+1,0,_,_,e=>by simp at e
 |.own d::r,i+1,j+1,h,e,aW=>by rw[pO (as:=r) (i:=i) (j:=j) h (by simpa using e) (by simpa using aW)]
 |.deep d::r,0,_,_,e,_=>by simp at e
 |.deep d::r,i+1,0,_,_,e=>by simp at e
 |.deep d::r,i+1,j+1,h,e,aW=>by rw[pO (as:=r) (i:=i) (j:=j) h (by simpa using e) (by simpa using aW)]
theorem a0.after{nj:TI->Prop}(e:a0 K R W B H σ ρ)(i4:∀a,nj a->∃i:Nat,σ[i]?=some (some (.ref a))/\ρ[i]?=some .bag)(wd:Wd H nj aC al)(g:bV H B aC):a0 K R W aC al σ ρ/\bV R B aC:=by
 have mr:∀a,B a=none->H a≠none->aC a=none:=λa h1 h2=>by
  cases q:aC a with
  |none=>rfl
  |some o=>
   rcases g.n a o q with z|z
   ·rw[h1]at z;cases z
   ·exact absurd z h2
 have st:∀a,¬nj a->H a≠none->al a=H a:=λa h1 h2=>by
  cases q:H a with
  |none=>exact absurd q h2
  |some o=>exact wd.fr a o q h1
 have Ed:∀a,hZ H a->hZ al a:=λa h=>by
  by_cases z:nj a
  ·exact wd.wh a z
  ·obtain⟨x,y,ai,q⟩:=h;exact⟨x,y,by rw[st a z (by rw[ai];simp)];exact ai,q⟩
 have MP:∀a,hZ H a->H a≠none:=λa ⟨x,y,ai,_⟩=>by rw[ai];simp
 refine⟨e.move ⟨λa o h f4=>?_,wd.bh,λa h=>mr a (e.wb a h) (MP a (e.wh a h)),λa h=>Ed a (e.wh a h),e.wr⟩ g.s (λi a m=>⟨mr a (e.mutOk m).1 (e.mutOk m).2,λz=>?_,λz=>?_⟩),⟨g.s,λa o h=>?_⟩⟩
 ·have h1:=e.fr a o h f4;refine wd.fr a o h1 λz=>?_;obtain⟨i,z1,aY⟩:=i4 a z;obtain⟨b,bx,dH,_⟩:=e.bagAt aY;rw[z1]at bx;cases bx;rcases dH with dH|dH
  ·exact f4 dH
  ·rw[dH]at h;cases h
 ·obtain⟨b,bx,_,_,nk⟩:=e.bagAt z;rw[qT m z]at bx;cases bx;exact Ed _ nk
 ·refine st a (λq=>?_) (e.mutOk m).2;obtain⟨j,z1,aY⟩:=i4 a q;have:=e.sep i j a m (.inl ⟨z1,.inl aY⟩);subst this;exact z aY
 ·rcases g.n a o h with z|z
  ·exact .inl z
  ·exact .inr (e.toWd.fresh z).1
theorem a0.start{N:ZQ}{vs:ZJ}{as:ZL}(ab:mq as<=1)(dI:cF B H)(hw:∀a,W a->B a=none/\hZ H a)(fN:kG K W B vs as):a0 K H W B H (L2.start N vs) (as++S0 (N.length-as.length) .no):=by
 have ao:=fN.length;have wd:Wd H W B H:=⟨λ_ _ h _=>h,dI,λa h=>(hw a h).1,λa h=>(hw a h).2,λa h=>by obtain⟨x,y,q,_⟩:=(hw a h).2;rw[q];simp⟩
 have lo:∀i k,as[i]?=some k->(L2.start N vs)[i]?=(vs[i]?).map some:=λi k h=>by
  have lt:i<as.length:=by
   by_cases z:i<as.length
   ·exact z
   ·rw[Th (by lia)]at h;cases h
  unfold L2.start;rw[TC (by rw[Sw];lia),S4]
 have cs:∀(i:Nat)(k:aQ),(as++S0 (N.length-as.length) aQ.no)[i]?=some k->as[i]?=some k\/k=aQ.no:=λi k h=>by
  by_cases z:i<as.length
  ·rw[TC z]at h;exact .inl h
  ·rw[To (by lia)]at h;rw[Ur]at h;split at h
   ·exact .inr (SU h).symm
   ·cases h
 have h4:∀i:Nat,(as++S0 (N.length-as.length) aQ.no)[i]?=some aQ.bag->as[i]?=some aQ.bag:=λi h=>by
  rcases cs i _ h with h|h
  ·exact h
  ·cases h
 refine⟨wd,by unfold L2.start;simp[ao],λi k h=>?_,λi j a bm bJ=>?_⟩
 ·rcases cs i k h with h|rfl
  ·rw[lo i k h];rcases fN.get i k h with⟨v,d,h1,rfl,r⟩|⟨b,h1,rfl,r⟩
   ·rw[h1];exact⟨v,rfl,r⟩
   ·rw[h1];exact⟨b,rfl,.inl r,(hw b r).1,(hw b r).2⟩
  ·trivial
 ·have one:∀i,cQ (L2.start N vs) (as++S0 (N.length-as.length) aQ.no) i a->as[i]?=some .bag:=λi m=>by
   rcases m with⟨_,z|⟨ds,z⟩⟩|⟨c,z,_⟩
   ·exact h4 i z
   ·rcases cs i _ z with z|z
    ·rcases fN.get i _ z with⟨v,d,_,q,_⟩|⟨b,_,q,_⟩<;>cases q
    ·cases z
   ·rcases cs i _ z with z|z
    ·rcases fN.get i _ z with⟨v,d,_,q,_⟩|⟨b,_,q,_⟩<;>cases q
    ·cases z
  exact pO ab (one i bm) (one j bJ)
theorem dh{P:Uf}{w:WP}{mg:Str->Option Tk}{base:XB}{x:Str}{st:XA}{N ps:ZQ}{lv n:Nat}{F:cn}(sG:cU K mg x st ps)(S:cM N ps (cd st))(aN:ps.length=n)(lm:∀(f:TI) (cdv:Tk) (A:Xv) (outer:List Vg) (s:Tl) (H:am) (E:gj),fw lv (A.deeper (V2 x (cd st) s.heap.objs.size f cdv))->∃u,hp (mf kA P w K mg base N x (cd st) f cdv A outer s H E).nox (kz st) u/\∀as k,as.length=n->F as k->u {nx:=λ_=>k (.val .non),rt:=k} (as++S0 (N.length-n) .no)):cf P w K mg base x ps (lv+1) (cl K n F):=by
 refine sG.ok S (λvs H Q E h=>?_) (λf cdv A outer s H vs Q E ak h=>?_)
 ·obtain⟨W,B,as,k,_,ao,_,_,_,fN,_⟩:=h;rw[fN.length,ao,aN]
 ·obtain⟨W,B,as,k,kH,ao,ab,dI,hw,fN,q⟩:=h;obtain⟨u,⟨t,bQ,rt⟩,bo⟩:=lm f cdv A outer s H E ak;have fl:=a0.start (N:=N) (WW ab) dI hw fN;rw[ao]at fl;refine⟨t,bQ,rt _ _ (bo as k ao kH) H W B H (L2.start N vs) _ fl ⟨λρ σ aC al h e g=>?_,λ_ _ _ _ h=>h.elim,λ_ _ _ _ h=>h.elim,λr v aC al h e g z=>q r v aC al h ⟨e,g,z⟩⟩⟩;exact q _ _ aC al h ⟨e.toWd,g,.non⟩
end
def Arg.sl:Arg->aQ
 |.val d=>.val d
 |.bag _=>.bag
def bU:aQ->(D->Prop)->Prop
 |.val d,k=>k d
 |.own (.l ds),k=>k (.lst ds)
 |.new d,k=>k d
 |_,_=>False
def vH:i1:=λ_ k=>k []
def kI(u:a9)(w:i1):i1:=λρ k=>u ρ λd=>w ρ λas=>k (.val d::as)
def MQ(i:Nat)(w:i1):i1:=λρ k=>ρ[i]?=some .bag/\w ρ λas=>k (.bag i::as)
def sh(as:ZP)(n:Nat):Bool:=Nat.beq as.length n&&Nat.ble (mq (as.map Arg.sl)) 1
def oy(n:Nat)(F:cn)(w:i1):a9:=λρ k=>w ρ λas=>sh as n=true/\F (as.map Arg.sl) λr=>bU r k
def MR(n:Nat)(F:cn)(w:i1):cZ:=λρ k=>w ρ λas=>sh as n=true/\F (as.map Arg.sl) λr=>∃ds:ZK,r=.own ds/\k ds
section
variable{K:F6}{X:aJ}{e:Wp}{es:ZT}{u:a9}{w:i1}{pos p:Pos}{n:Nat}{F:cn}
theorem a1:mo X [] vH:=⟨_,gN,λρ k h R W B H σ Q e q=>q [] [] B H h e (bV.refl _ _) .nil⟩
theorem aA(aw:bn X e u)(ak:mo X es w)(aj:TD (e::es) X.env=(false,XJ e X.env)::TD es X.env:=by rfl):mo X (e::es) (kI u w):=by
 obtain⟨_,h1,r1⟩:=aw;obtain⟨_,h2,r2⟩:=ak;refine⟨_,fi h1 h2 aj,λρ k h R W B H σ Q e q=>?_⟩;refine r1 ρ _ h R W B H σ _ e λd v bd ar z1 ai aI az=>?_;refine r2 ρ _ z1 R W bd ar σ _ ai λas vs ca a5 aY ap aP a3=>?_;exact q _ _ ca a5 aY ap (aI.trans aP) (.val (az.mono aP.s) a3)
theorem jO(i:Nat){x:Str}{px:Pos}(ak:mo X es w)(bi:X.N[i]?=some x:=by rfl)(aH:iq X.env.scope x:=by first|exact SF rfl|exact SP (SF rfl)|exact SP (SP rfl))(hd:(x==("__debug__":Str))=false:=by decide)(ec:(x==("__classdict__":Str))=false:=by decide)(aj:TD (.Name x px::es) X.env=(false,XJ (.Name x px) X.env)::TD es X.env:=by rfl):mo X (.Name x px::es) (MQ i w):=by
 obtain⟨_,h2,r2⟩:=ak;refine⟨_,fi (mc bi aH hd ec) h2 aj,λρ k h R W B H σ Q e q=>?_⟩;obtain⟨ab,h⟩:=h;obtain⟨b,bc,bg⟩:=e.bagAt ab;refine⟨_,bc,?_⟩;refine r2 ρ _ h R W B H σ _ e λas vs ca a5 aY ap aP a3=>?_;exact q _ _ ca a5 aY ap aP (.bag bc ab a3)
theorem j8.toIn{B:am}{σ:St}{ρ:ZL}{W:TI->Prop}{R H:am}{oz:TI->Prop}(e:a0 K R oz B H σ ρ):∀{vs:ZJ}{as:ZP},j8 K B σ ρ vs as->(∀i b,Arg.bag i∈as->σ[i]?=some (some (.ref b))->W b)->kG K W B vs (as.map Arg.sl)
 |_,_,.nil,_=>.nil
 |_,_,.val h r,hw=>.val h (j8.toIn e r λi b m=>hw i b (Sy _ m))
 |_,_,.bag h ab r,hw=>by
  obtain⟨b,bc,_⟩:=e.bagAt ab;rw[h]at bc;cases bc;exact .bag (hw _ b Sv h) (j8.toIn e r λi c m=>hw i c (Sy _ m))
theorem j8.bagIn{B:am}{σ:St}{ρ:ZL}:∀{vs:ZJ}{as:ZP}{i:Nat},j8 K B σ ρ vs as->Arg.bag i∈as->ρ[i]?=some .bag
 |_,_,_,.nil,m=>by simp at m
 |_,_,_,.val h r,m=>by
  rcases SG.mp m with m|m
  ·cases m
  ·exact r.bagIn m
 |_,_,_,.bag h ab r,m=>by
  rcases SG.mp m with m|m
  ·cases m;exact ab
  ·exact r.bagIn m
theorem vI{R:am}{W:TI->Prop}{B H:am}{σ:St}{ρ:ZL}{vs:ZJ}{as:ZP}{k:aQ->Prop}{Q:cN}{E:gj}(e:a0 K R W B H σ ρ)(ok:j8 K B σ ρ vs as)(aj:sh as n=true)(kH:F (as.map Arg.sl) k)(q:∀r v aC al,k r->a0 K R W aC al σ ρ->bV R B aC->zF K H aC al v r->Q v al):cl K n F vs H Q E:=by
 rw[sh,Us]at aj;have h1:as.length=n:=Nat.eq_of_beq_eq_true aj.1;have i4:∀a,(∃i:Nat,Arg.bag i∈as/\σ[i]?=some (some (.ref a)))->∃i:Nat,σ[i]?=some (some (.ref a))/\ρ[i]?=some .bag:=λa ⟨i,m,z⟩=>⟨i,z,ok.bagIn m⟩;refine⟨λa=>∃i:Nat,Arg.bag i∈as/\σ[i]?=some (some (.ref a)),B,as.map Arg.sl,k,kH,by rw[Sw];exact h1,aj.2,e.bh,λa h=>?_,ok.toIn e λi b m z=>⟨i,m,z⟩,λr v aC al ag ex=>?_⟩
 ·obtain⟨i,z1,aY⟩:=i4 a h;obtain⟨b,bc,_,dP,fa⟩:=e.bagAt aY;rw[z1]at bc;cases bc;exact⟨dP,fa⟩
 ·obtain⟨ap,aP⟩:=e.after i4 ex.wd ex.g;exact q r v aC al ag ap aP ex.res
theorem vJ{x:Str}{ps:ZQ}{j lv:Nat}(c:cf X.prog X.w X.K X.mg X.base x ps j (cl X.K n F))(ak:fw lv X.A)(aD:e2 X x)(aw:mo X (e::es) w)(hjk:j<=lv:=by decide)(iy:(x==("__debug__":Str))=false:=by decide)(ax:TD (e::es) X.env=(false,XJ e X.env)::TD es X.env:=by rfl)(fj:(XC pos (TD es X.env)).any (·.1)=false:=by rfl):
  bn X (.Call (.Name x p) (e::es) [] pos) (oy n F w):=by
 obtain⟨_,h1,r1⟩:=aw;refine⟨_,vt c ak aD h1 hjk iy ax fj,λρ k h R W B H σ Q e q=>?_⟩;refine r1 ρ _ h R W B H σ _ e λas vs bd ar z1 ai aI az=>?_;rw[SO];refine vI ai az z1.1 z1.2 λr v ca a5 ag ap aP res=>?_;cases r with
 |no=>exact ag.elim
 |bag=>exact ag.elim
 |pin v d=>exact ag.elim
 |deep c=>exact ag.elim
 |val d=>exact q d v ca a5 ag ap (aI.trans aP) res
 |new d=>exact q d v ca a5 ag ap (aI.trans aP) (b3.mono D6 res)
 |own c=>
  cases c with
  |d _ _ _ _=>exact ag.elim
  |l ds=>
  obtain⟨a,rfl,a4,a',us,bP,dL⟩:=res
  obtain⟨br,g3⟩:=ap.freeze bP (ai.toWd.fresh a4).1 a' λi m=>absurd a4 (by
   have bm:cQ σ ρ i a:=m
   exact(ai.mutOk bm).2)
  exact q _ _ _ _ ag br ((aI.trans aP).trans g3) (.lst eP (dL.mono g3.s))
theorem MS{x:Str}{ps:ZQ}{j lv:Nat}(c:cf X.prog X.w X.K X.mg X.base x ps j (cl X.K n F))(ak:fw lv X.A)(aD:e2 X x)(aw:mo X (e::es) w)(hjk:j<=lv:=by decide)(iy:(x==("__debug__":Str))=false:=by decide)(ax:TD (e::es) X.env=(false,XJ e X.env)::TD es X.env:=by rfl)(fj:(XC pos (TD es X.env)).any (·.1)=false:=by rfl):
  lq X (.Call (.Name x p) (e::es) [] pos) (MR n F w):=by
 obtain⟨_,h1,r1⟩:=aw;refine⟨_,vt c ak aD h1 hjk iy ax fj,λρ k h R W B H σ Q e q=>?_⟩;refine r1 ρ _ h R W B H σ _ e λas vs bd ar z1 ai aI az=>?_;rw[SO];refine vI ai az z1.1 z1.2 λr v ca a5 ag ap aP res=>?_;obtain⟨ds,rfl,ag⟩:=ag;obtain⟨a,rfl,a4,a',us,bP,dL⟩:=res;exact q ds a us ca a5 ag ap (aI.trans aP) (ai.toWd.fresh a4).1 a' bP dL λi m=>(ai.mutOk m).2 a4
end
def Ee:D->Option Nat
 |.tup ds=>some ds.length
 |.lst ds=>some ds.length
 |.scr ns=>some ns.length
 |_=>none
def MT(u:a9):a9:=λρ k=>u ρ λx=>∃n,Ee x=some n/\k (.int n)
def MU(u:a9):a9:=λρ k=>u ρ λx=>∃i,x=.int i/\k (.int (if i<0 then -i else i))
def MV(u:a9):a9:=λρ k=>u ρ λx=>(∃i,x=.int i/\k (.int i))\/∃c,x=.bl c/\k (.int (if c then 1 else 0))
def Ef:D->Option String
 |.int _=>some "int"
 |.bl _=>some "bool"
 |.tup _=>some "tuple"
 |.lst _=>some "list"
 |.non=>some "NoneType"
 |.str _=>some "str"
 |_=>none
def MW(u:a9)(n:String):a9:=λρ k=>u ρ λx=>∃t b,Ef x=some t/\(∀K,VQ K (.type t) (.type n)=some b)/\k (.bl b)
section
variable{K:F6}{X:aJ}{e:Wp}{es:ZT}{u:a9}{pos p:Pos}{n:Nat}
theorem vK{cH:bK}{r:ZJ->am->cN->Prop}{f:D->(D->Prop)->Prop}(aw:e' K cH u)(ak:∀(x:D) (k:D->Prop),f x k->∀(R:am) (W:TI->Prop) (B H:am) (σ:St) (ρ:ZL) (v:V) (Q:cN),a0 K R W B H σ ρ->b3 K B v x->(∀d v aC al,k d->a0 K R W aC al σ ρ->bV R B aC->b3 K aC v d->Q v al)->r [v] H Q):
  e' K (zj r (ve cH vd)) (λρ k=>u ρ λx=>f x k):=by
 intro ρ k h R W B H σ Q e q;refine aw ρ _ h R W B H σ _ e λx v bd ar h1 ai aI r1=>?_;exact ak x k h1 R W bd ar σ ρ v Q ai r1 λd u ot cI aF br g3 gM=>q d u ot cI aF br (aI.trans g3) gM
theorem ms(aw:bn X e u)(aD:e2 X "len")(av:X.mg "len"=none)(aj:TD [e] X.env=(false,XJ e X.env)::TD [] X.env:=by rfl):bn X (.Call (.Name "len" p) [e] [] pos) (MT u):=by
 obtain⟨_,h1,r1⟩:=aw;refine⟨_,sq DI aD av PySem.boot_len (fi h1 gN aj) (by decide) (by decide) aj,vK (f:=λx k=>∃n,Ee x=some n/\k (.int n)) r1 λx k h R W B H σ ρ v Q e bt q=>?_⟩;obtain⟨n,aN,ag⟩:=h;cases x<;>first|(cases aN;done)|skip
 ·obtain⟨a,vs,rfl,aw,r⟩:=bt.tupV;cases aN;rw[<-r.length]at ag;exact⟨a,vs,rfl,.inr (e7.of (e.bh _ _ aw)),q _ _ B H ag e (bV.refl _ _) (.int _)⟩
 ·obtain⟨a,vs,rfl,aw,r⟩:=bt.lstV;cases aN;rw[<-r.length]at ag;exact⟨a,vs,rfl,.inl (cE.of (e.bh _ _ aw)),q _ _ B H ag e (bV.refl _ _) (.int _)⟩
 ·obtain⟨a,rfl,aw⟩:=bt.scrV;cases aN;refine⟨a,_,rfl,.inl (e.bh.seq aw),?_⟩;rw[Sw];exact q _ _ B H ag e (bV.refl _ _) (.int _)
theorem vL(aw:bn X e u)(aD:e2 X "abs")(av:X.mg "abs"=none)(aj:TD [e] X.env=(false,XJ e X.env)::TD [] X.env:=by rfl):bn X (.Call (.Name "abs" p) [e] [] pos) (MU u):=by
 obtain⟨_,h1,r1⟩:=aw;refine⟨_,sq Lm aD av (by decide +kernel) (fi h1 gN aj) (by decide) (by decide) aj,vK (f:=λx k=>∃i,x=.int i/\k (.int (if i<0 then -i else i))) r1 λx k h R W B H σ ρ v Q e bt q=>?_⟩;obtain⟨i,rfl,ag⟩:=h;exact⟨i,by rw[bt.intV],q _ _ B H ag e (bV.refl _ _) (.int _)⟩
theorem MX(aw:bn X e u)(aD:e2 X "int")(av:X.mg "int"=none)(aj:TD [e] X.env=(false,XJ e X.env)::TD [] X.env:=by rfl):bn X (.Call (.Name "int" p) [e] [] pos) (MV u):=by
 obtain⟨_,h1,r1⟩:=aw;refine⟨_,LB Ln aD av (by decide +kernel) (fi h1 gN aj) (by decide) (by decide) aj,vK (f:=λx k=>(∃i,x=.int i/\k (.int i))\/∃c,x=.bl c/\k (.int (if c then 1 else 0))) r1 λx k h R W B H σ ρ v Q e bt q=>?_⟩;rcases h with⟨i,rfl,ag⟩|⟨c,rfl,ag⟩
 ·exact .inl ⟨i,by rw[bt.intV],q _ _ B H ag e (bV.refl _ _) (.int _)⟩
 ·exact .inr ⟨c,by rw[bt.blV],q _ _ B H ag e (bV.refl _ _) (.int _)⟩
theorem MY{B H:am}{v:V}{x:D}{t:String}(s:cF B H)(r:b3 K B v x)(h:Ef x=some t):jJ K H v (.type t):=by
 cases r<;>cases h
 ·exact .non
 ·exact .bl _
 ·exact .int _
 ·exact .str _
 ·exact .tup (s _ _ (by assumption))
 ·exact .lst (s _ _ (by assumption))
theorem nl{T:String}{y:Str}{mu:Pos}(aw:bn X e u)(aD:e2 X "isinstance")(av:X.mg "isinstance"=none)(dU:b6 X (.Name y mu) (qG (.ty T)))(aj:TD [e,.Name y mu] X.env=(false,XJ e X.env)::TD [.Name y mu] X.env)(ix:TD [.Name y mu] X.env=(false,XJ (.Name y mu) X.env)::TD [] X.env)(fj:(XC pos (TD [.Name y mu] X.env)).any (·.1)=false):bn X (.Call (.Name "isinstance" p) [e,.Name y mu] [] pos) (MW u T):=by
 obtain⟨_,h1,r1⟩:=aw;refine⟨_,sq Ms aD av (by decide +kernel) (fi h1 (fi dU gN ix) aj) (by decide) (by decide) aj fj,λρ k h R W B H σ Q e q=>?_⟩;refine r1 ρ _ h R W B H σ _ e λx v bd ar h1 ai aI az=>?_;obtain⟨t,b,bQ,ag,z⟩:=h1;exact⟨v,_,T,b,rfl,MY ai.bh az bQ,ag _,q _ _ bd ar z ai aI (.bl _)⟩
end
section
variable{K:F6}{X:aJ}{e:Wp}{es:ZT}{u:a9}{w:cZ}{pos p:Pos}
def zL:cX:=λU ρ=>U.nx ρ
def sH(s t:cX):cX:=λU ρ=>s {U with nx:=t U} ρ
def Eg(u:a9):cX:=λU ρ=>u ρ λd=>U.rt (.val d)
def MZ(w:cZ):cX:=λU ρ=>w ρ λds=>U.rt (.own ds)
def Eh(i:Nat)(u:a9):cX:=λU ρ=>u ρ λd=>U.nx (ρ.set i (.val d))
def Ei(i:Nat)(w:cZ):cX:=λU ρ=>w ρ λds=>U.nx (ρ.set i (.own ds))
def zM(c:dW)(s t:cX):cX:=λU ρ=>c ρ λb=>if b=true then s U ρ else t U ρ
def M0(i:Nat)(s:cX):cX:=λU ρ=>∃ds:ZK,ρ[i]?=some (.own ds)/\s U (ρ.set i (.val (.lst ds)))
theorem fO:hp X [] zL:=⟨_,u2,λU ρ h R W B H σ D e s=>s.nx ρ σ B H h e (bV.refl _ _)⟩
theorem bH{st:XA}{s:cX}(h:fM X st s):hp X [st] s:=by
 obtain⟨_,h1,r1⟩:=h;exact⟨_,pu h1,r1⟩
theorem ba{st:XA}{rest:ZU}{s t:cX}(h:fM X st s)(h':hp X rest t):hp X (st::rest) (sH s t):=by
 obtain⟨_,h1,r1⟩:=h;obtain⟨_,h2,r2⟩:=h';refine⟨_,n7 h1 h2,λU ρ h R W B H σ D e dQ=>?_⟩;exact r1 _ ρ h R W B H σ _ e ⟨λbS bq aC al z aW g=>r2 U bS z R W aC al bq D aW (dQ.grow g),dQ.bk,dQ.ct,dQ.rt⟩
theorem mv{st:ZU}{s:cX}(i:Nat)(h:hp X st s):hp X st (M0 i s):=by
 obtain⟨_,h1,r1⟩:=h;refine⟨_,h1,λU ρ h R W B H σ D e dQ=>?_⟩;obtain⟨ds,aB,z⟩:=h;obtain⟨aC,aW,g⟩:=e.fz aB;exact r1 U _ z R W aC H σ D aW (dQ.grow g)
theorem zN{st:XA}:fM X st (λ_ _=>False):=⟨_,Ky,λU ρ h=>h.elim⟩
theorem M1{st:ZU}:hp X st (λ_ _=>False):=⟨Df,λ_ _ _ _ _ _ h=>h.elim,λU ρ h=>h.elim⟩
theorem cB(h:bn X e u):fM X (.Return (some e) pos) (Eg u):=by
 obtain⟨_,h1,r1⟩:=h;refine⟨_,n8 h1,λU ρ h R W B H σ D e s=>?_⟩;exact r1 ρ _ h R W B H σ _ e λd v bd ar z1 ai aI az=>s.rt _ v bd ar z1 ai.toWd aI az
theorem Ej(h:lq X e w):fM X (.Return (some e) pos) (MZ w):=by
 obtain⟨_,h1,r1⟩:=h;refine⟨_,n8 h1,λU ρ h R W B H σ D e s=>?_⟩;exact r1 ρ _ h R W B H σ _ e λds a vs bd ar z1 ai aI a4 a' bP dL eR=>s.rt (.own ds) _ bd ar z1 ai.toWd aI ⟨a,rfl,a4,a',vs,bP,dL⟩
theorem Ek{i:Nat}{x:Str}{eF:Pos}(bi:X.N.Nodup)(au:X.N[i]?=some x)(aq:Loc X.env.scope x)(ax:bn X e u)(aj:XE e (some (.Name x eF)) pos.line X.env=pure false:=by rfl)(bf:X.fn x=true\/X.env.scope.names.lookup x=some .local:=by first|exact .inl rfl|exact .inr rfl|assumption):
  fM X (.Assign [.Name x eF] e pos) (Eh i u):=by
 obtain⟨_,h1,r1⟩:=ax;refine⟨_,pv bi au aq h1 aj bf,λU ρ h R W B H σ D e s=>?_⟩;exact r1 ρ _ h R W B H σ _ e λd v bd ar z1 ai aI az=>s.nx _ _ bd ar z1 (ai.setV i az) aI
theorem mw{i:Nat}{x:Str}{eF:Pos}(bi:X.N.Nodup)(au:X.N[i]?=some x)(aq:Loc X.env.scope x)(ax:lq X e w)(aj:XE e (some (.Name x eF)) pos.line X.env=pure false:=by rfl)(bf:X.fn x=true\/X.env.scope.names.lookup x=some .local:=by first|exact .inl rfl|exact .inr rfl|assumption):
  fM X (.Assign [.Name x eF] e pos) (Ei i w):=by
 obtain⟨_,h1,r1⟩:=ax;refine⟨_,pv bi au aq h1 aj bf,λU ρ h R W B H σ D e s=>?_⟩;exact r1 ρ _ h R W B H σ _ e λds a vs bd ar z1 ai aI a4 a' bP dL eR=>s.nx _ _ bd ar z1 (ai.setO i a4 a' bP dL λj _=>eR j) aI
theorem fF{c:Wp}{a b:ZU}{hJ:dW}{s t:cX}(hc:iC X c hJ)(aw:hp X a s)(ab:hp X b t):fM X (.If c a b pos) (zM hJ s t):=by
 obtain⟨_,h0,ha⟩:=hc;obtain⟨_,h1,r1⟩:=aw;obtain⟨_,h2,r2⟩:=ab;refine⟨_,u4 h0 h1 h2,λU ρ h R W B H σ D e dQ=>?_⟩;refine ha ρ _ h R W B H σ _ e λc bd ar z1 ai aI=>?_;cases c with
 |true=>
  rw[SL rfl]at z1⊢;exact r1 U ρ z1 R W bd ar σ D ai (dQ.grow aI)
 |false=>
  rw[SZ S6]at z1⊢;exact r2 U ρ z1 R W bd ar σ D ai (dQ.grow aI)
def e3(i:Nat):gd:=λd ρ k=>k (ρ.set i (.val d))
def nm:oq:=λds ρ k=>ds=[]/\k ρ
def hr(g:gd)(nn:oq):oq:=λds ρ k=>∃d r,ds=d::r/\g d ρ λbS=>nn r bS k
def np(n:Nat)(nn:oq):gd:=λd ρ k=>∃ds,d=.tup ds/\ds.length=n/\nn ds ρ k
def M2(u:a9)(g:gd):cX:=λU ρ=>u ρ λd=>g d ρ U.nx
theorem gs{i:Nat}{x:Str}(bi:X.N.Nodup)(au:X.N[i]?=some x)(aq:Loc X.env.scope x)(bf:X.fn x=true\/X.env.scope.names.lookup x=some .local:=by first|exact .inl rfl|exact .inr rfl|assumption):kF X (.Name x pos) (e3 i):=
 ⟨_,Kz bi au aq bf,λd ρ k h R W B H σ v Q e r q=>q _ _ h (e.setV i r) λj a m=>by
  exact(qU m (by simp) (by simp) rfl).2⟩
theorem gD:vC X [] nm:=⟨_,KC,λds ρ k h R W B H σ vs Q e r q=>by
 obtain⟨rfl,h⟩:=h;cases r
 exact⟨rfl,q _ _ h e λ_ _ m=>m⟩⟩
theorem c0{g:gd}{nn:oq}(h1:kF X e g)(h2:vC X es nn)(aj:(XX (e::es) X.env).map (·.2)=Zj e X.env::(XX es X.env).map (·.2):=by rfl):vC X (e::es) (hr g nn):=by
 obtain⟨_,h1,r1⟩:=h1;obtain⟨_,h2,r2⟩:=h2;refine⟨_,KD h1 h2 aj,λds ρ k h R W B H σ vs Q e r q=>?_⟩;obtain⟨d,fV,rfl,h⟩:=h;cases r with
 |cons cq rs=>
  refine⟨_,_,rfl,r1 d ρ _ h R W B H σ _ _ e cq λbS bq z aW bL=>?_⟩;exact r2 fV bS k z R W B H bq _ _ aW rs λM3 M4 aY ap bJ=>q M3 M4 aY ap λj a m=>bL j a (bJ j a m)
theorem gE{du:Nat}{nn:oq}{n:Nat}(hc:X.calm=true)(h:vC X es nn)(aN:(XX es X.env).length=n:=by rfl)(y1:(XX es X.env).findIdx? (·.1)=none:=by rfl):kF X (.Tuple es du pos) (np n nn):=by
 obtain⟨_,h1,r1⟩:=h;refine⟨_,KG hc h1 aN y1,λd ρ k h R W B H σ v Q e r q=>?_⟩;obtain⟨ds,rfl,ao,h⟩:=h;obtain⟨a,vs,rfl,aw,rs⟩:=r.tupV;exact⟨a,vs,rfl,e7.of (e.bh _ _ aw),by rw[rs.length];exact ao,r1 ds ρ k h R W B H σ vs Q e rs q⟩
theorem jP{bA:Wp}{g:gd}(ax:bn X e u)(aD:kF X bA g)(aj:YI [bA] e pos.line X.env=pure false:=by rfl)(hw:YJ [bA] e X.env=pure none:=by rfl)(h1:(XX [bA] X.env).map (·.2)=[Zj bA X.env]:=by rfl):fM X (.Assign [bA] e pos) (M2 u g):=by
 obtain⟨_,aw,r1⟩:=ax;obtain⟨_,ab,r2⟩:=aD;refine⟨_,u7 aw ab aj hw h1,λU ρ h R W B H σ D e s=>?_⟩;refine r1 ρ _ h R W B H σ _ e λd v bd ar z1 ai aI az=>?_;exact r2 d ρ _ z1 R W bd ar σ v _ ai az λbS bq aY ap _=>s.nx _ _ bd ar aY ap aI
def M5(i j:Nat)(w:cZ):cX:=λU ρ=>w ρ λds=>∃x y,ds=[x,y]/\U.nx ((ρ.set i (.val x)).set j (.val y))
theorem El{i j:Nat}{x y:Str}{a b:Wp}{px jm pt:Pos}{md cy pw}(hc:X.calm=true)(bi:X.N.Nodup)(au:X.N[i]?=some x)(b8:X.N[j]?=some y)(py:i≠j)(aq:X.env.scope.names.lookup x=some .local)(aG:X.env.scope.names.lookup y=some .local)(aw:pL X [a,b] w)(hw:YJ [.Tuple [.Name x px,.Name y jm] md pt] (.Tuple [a,b] cy pw) X.env=pure (some [x,y]))(aj:YI [.Tuple [.Name x px,.Name y jm] md pt] (.Tuple [a,b] cy pw) pos.line X.env=pure false:=by rfl):
  fM X (.Assign [.Tuple [.Name x px,.Name y jm] md pt] (.Tuple [a,b] cy pw) pos) (M5 i j w):=by
 obtain⟨_,h1,r1⟩:=aw;refine⟨_,KJ hc bi au b8 py aq aG h1 hw aj,λU ρ h R W B H σ D e s=>?_⟩;refine r1 ρ _ h R W B H σ _ e λds vs bd ar z1 ai aI az=>?_;obtain⟨x,y,rfl,z1⟩:=z1;cases az with
 |cons kJ rb=>cases rb with
  |cons rb rc=>
   cases rc;exact⟨_,_,rfl,s.nx _ _ bd ar z1 ((ai.setV i kJ).setV j rb) aI⟩
def M6(c:dW)(s:cX):cX:=λU ρ=>∃M:Nat->ZL->Prop,(∃m,M m ρ)/\∀m ρ,M m ρ->c ρ λb=>if b=true then s {U with nx:=λbS=>∃m',m'<m/\M m' bS,ct:=λbS=>∃m',m'<m/\M m' bS,bk:=U.nx} ρ else U.nx ρ
theorem Em{c:Wp}{body:ZU}{hJ:dW}{s:cX}(ae:YT (UF X.prog X.w) X.A X.env X.xe)(hc:iC X c hJ)(ab:hp X body s):fM X (.While c body [] pos) (M6 hJ s):=by
 obtain⟨_,h0,ha⟩:=hc;obtain⟨_,h1,r1⟩:=ab;refine⟨_,KS ae h0 h1,λU ρ h R W B H σ D e dQ=>?_⟩;obtain⟨M,⟨dS,av⟩,turn⟩:=h;refine⟨λm bq al=>∃bS aC,M m bS/\a0 X.K R W aC al bq bS/\bV R B aC,⟨dS,ρ,B,av,e,bV.refl _ _⟩,?_⟩;rintro m hC ar ⟨gF,bd,sI,ai,aI⟩;refine ha gF _ (turn m gF sI) R W bd ar hC _ ai λb ca a5 aY ap aP=>?_;cases b with
 |true=>
  rw[SL rfl]at aY⊢;refine⟨λbq al=>∃bS aC,(∃m',m'<m/\M m' bS)/\a0 X.K R W aC al bq bS/\bV R B aC,?_,?_⟩
  ·rintro bq al ⟨bS,aC,⟨m',l,q⟩,aW,g'⟩;exact⟨m',l,bS,aC,q,aW,g'⟩
  ·have vM:=aI.trans aP;exact r1 _ gF aY R W ca a5 hC _ ap ⟨λbS bq aC al z aW g=>⟨bS,aC,z,aW,vM.trans g⟩,λbS bq aC al z aW g=>dQ.nx bS bq aC al z aW (vM.trans g),λbS bq aC al z aW g=>⟨bS,aC,z,aW,vM.trans g⟩,λr v aC al z aW g q=>dQ.rt r v aC al z aW (vM.trans g) q⟩
 |false=>
  rw[SZ S6]at aY⊢;exact dQ.nx gF hC ca a5 aY ap (aI.trans aP)
theorem j9.list{B:am}{a:TI}{vs:ZJ}{ds:ZK}(h:B a=some (.lst vs))(r:Reps K B vs ds):j9 K B (y5 K a) ds:=by
 intro H s i;have eS:=s _ _ h;have q:cE K H a vs:=cE.of eS;refine⟨λau=>?_,λau=>⟨vs,q,by rw[r.length];exact au⟩,λx al au ⟨ai,ap⟩=>⟨ai,?_⟩⟩
 ·obtain⟨v,e,_⟩:=r.get (S5 au);exact⟨vs,v,q,e⟩
 ·exact r.getV (ap vs q)
theorem j9.tup{B:am}{a:TI}{vs:ZJ}{ds:ZK}(h:B a=some (.tup vs))(r:Reps K B vs ds):j9 K B (y6 K a) ds:=by
 intro H s i;have eS:=s _ _ h;have q:e7 K H a vs:=e7.of eS;refine⟨λau=>?_,λau=>⟨vs,q,by rw[r.length];exact au⟩,λx al au ⟨ai,ap⟩=>⟨ai,?_⟩⟩
 ·obtain⟨v,e,_⟩:=r.get (S5 au);exact⟨vs,v,q,e⟩
 ·exact r.getV (ap vs q)
theorem j9.rng{B:am}(n:Nat):j9 K B (qH 0 n) ((SV n).map λi:Nat=>D.int i):=by
 intro H s i;rw[Sw,Ut];refine⟨λau=>au,λau=>au,λx al au ⟨ai,ap⟩=>⟨ai,?_⟩⟩;refine⟨.int i,?_,?_⟩
 ·rw[S4,Vh au];rfl
 ·rw[ap,Int.zero_add];exact .int _
def M7(u:a9):cZ:=λρ k=>u ρ λd=>∃ds,d=.lst ds/\k ds
def M8(u:a9):cZ:=λρ k=>u ρ λd=>∃ds,d=.tup ds/\k ds
def M9(u:a9):cZ:=λρ k=>u ρ λd=>∃j,d=.int j /\ -(2^62)<=j/\j<2^62/\k ((SV j.toNat).map λi:Nat=>D.int i)
variable{bA:Wp}
theorem i5{l:Wp}(ao:bn X l u):nh X bA l (M7 u):=by
 obtain⟨_,h1,r1⟩:=ao;refine⟨_,KY h1,λρ k h R W B H σ Q e q=>?_⟩;refine r1 ρ _ h R W B H σ _ e λd v bd ar z1 ai aI az=>?_;obtain⟨ds,rfl,z⟩:=z1;obtain⟨a,vs,rfl,aw,rs⟩:=az.lstV;exact⟨a,rfl,⟨vs,cE.of (ai.bh _ _ aw)⟩,q ds _ bd ar z ai aI (j9.list aw rs)⟩
theorem zO{l:Wp}(ao:bn X l u):nh X bA l (M8 u):=by
 obtain⟨_,h1,r1⟩:=ao;refine⟨_,KZ h1,λρ k h R W B H σ Q e q=>?_⟩;refine r1 ρ _ h R W B H σ _ e λd v bd ar z1 ai aI az=>?_;obtain⟨ds,rfl,z⟩:=z1;obtain⟨a,vs,rfl,aw,rs⟩:=az.tupV;exact⟨a,rfl,⟨vs,e7.of (ai.bh _ _ aw)⟩,q ds _ bd ar z ai aI (j9.tup aw rs)⟩
theorem zP{a:Wp}(aw:bn X a u)(aD:e2 X "range")(av:X.mg "range"=none)(aj:TD [a] X.env=[(false,XJ a X.env)]:=by rfl):nh X bA (.Call (.Name "range" p) [a] [] pos) (M9 u):=by
 obtain⟨_,h1,r1⟩:=aw;refine⟨_,K2 aD av (fi h1 gN (by exact aj)) aj,λρ k h R W B H σ Q e q=>?_⟩;refine r1 ρ _ h R W B H σ _ e λd v bd ar z1 ai aI az=>?_;obtain⟨j,rfl,M',ee,z⟩:=z1;exact⟨j,by rw[az.intV],M',ee,q _ _ bd ar z ai aI (j9.rng _)⟩
def h5(g:gd)(s:cX)(U:iB):ZK->ZL->Prop
 |[],ρ=>U.nx ρ
 |d::ds,ρ=>g d ρ λbS=>s {U with nx:=h5 g s U ds,ct:=h5 g s U ds,bk:=U.nx} bS
def En(w:cZ)(g:gd)(s:cX):cX:=λU ρ=>w ρ λds=>h5 g s U ds ρ
theorem mx{dD:Wp}{body:ZU}{g:gd}{s:cX}(ae:YT (UF X.prog X.w) X.A X.env X.xe)(hc:X.calm=true)(au:nh X bA dD w)(aD:kF X bA g)(ab:hp X body s)(aj:∀x,Xu dD X.env x=pure x:=by intro _;rfl):fM X (.For bA dD body [] pos) (En w g s):=by
 obtain⟨_,h0,ha⟩:=au;obtain⟨_,h1,r1⟩:=aD;obtain⟨_,h2,r2⟩:=ab;refine⟨_,y7 ae hc h0 h1 h2 aj,λU ρ h R W B H σ D e dQ=>?_⟩;refine ha ρ _ h R W B H σ _ e λds J bd ar z1 ai aI it=>?_;refine⟨λi m bq al=>∃bS aC,m=ds.length-i/\i<=ds.length/\h5 g s U (ds.drop i) bS/\a0 X.K R W aC al bq bS/\bV R B aC/\cF bd aC,⟨ds.length,ρ,bd,by simp,S8 _,z1,ai,aI,cF.refl _⟩,?_⟩;rintro i m hC a5 ⟨gF,ca,rfl,au,aY,ap,aP,a3⟩;obtain⟨ew,cP,fx⟩:=it a5 (a3.trans ap.bh) i;by_cases dF:i<ds.length
 ·refine .inr ⟨ew dF,λbq al=>∃bS aC,h5 g s U (ds.drop (i+1)) bS/\a0 X.K R W aC al bq bS/\bV R B aC/\cF bd aC,?_,?_⟩
  ·rintro bq al ⟨bS,aC,z,aW,g',s'⟩;exact⟨ds.length-(i+1),by lia,bS,aC,rfl,dF,z,aW,g',s'⟩
  ·intro x al y;obtain⟨rfl,d,hd,bt⟩:=fx x al dF y
   have hK:ds.drop i=d::ds.drop (i+1):=by
    rw[UI dF];rw[S5 dF]at hd;rw[SU hd]
   rw[hK]at aY;refine r1 d gF _ aY R W ca _ hC x _ ap (bt.mono a3) λbS bq fe aW _=>?_;exact r2 _ bS fe R W ca _ bq _ aW ⟨λbS bq aC al z aW g=>⟨bS,aC,z,aW,aP.trans g,a3.trans g.s⟩,λbS bq aC al z aW g=>dQ.nx bS bq aC al z aW (aP.trans g),λbS bq aC al z aW g=>⟨bS,aC,z,aW,aP.trans g,a3.trans g.s⟩,λr v aC al z aW g q=>dQ.rt r v aC al z aW (aP.trans g) q⟩
 ·have ei:i=ds.length:=by lia
  subst ei;rw[U0]at aY;exact .inl ⟨cP (Sx _),dQ.nx gF hC ca a5 aY ap aP⟩
end
section
variable{K:F6}{X:aJ}{e:Wp}{es:ZT}{u:a9}{w:cZ}{pos p:Pos}
theorem a0.newO{R:am}{W:TI->Prop}{B H:am}{σ:St}{ρ:ZL}(e:a0 K R W B H σ ρ){q:TI}(ay:H q=none){vs:ZJ}{ds:ZK}(r:Reps K B vs ds):
  a0 K R W B (upd H q (.lst vs)) σ ρ/\R q=none/\B q=none/\(upd H q (.lst vs)) q=some (.lst vs)/\∀i,¬cQ σ ρ i q:=by
 obtain⟨a4,a',bP⟩:=e.toWd.fresh ay;exact⟨e.allocH ay _,a4,bP,eP,λi m=>e.notNew ay m rfl⟩
def jQ{α:Type}(xs:List α)(lo au:Option Int):List α:=(xs.drop (HT.sIx xs.length 0 lo)).take (HT.sIx xs.length xs.length au-HT.sIx xs.length 0 lo)
theorem Reps.cut{B:am}{vs:ZJ}{ds:ZK}(r:Reps K B vs ds)(lo au:Option Int):Reps K B (jQ vs lo au) (jQ ds lo au):=by
 unfold jQ;rw[r.length];exact(r.drop _).take _
abbrev oA:=ZL->(Option Int->Prop)->Prop
def Na(K:F6)(t:iz)(u:oA):Prop:=∀(ρ:ZL)(k:Option Int->Prop),u ρ k->∀(R:am)(W:TI->Prop)(B H:am)(σ:St)(Q:Option Int->am->Prop),a0 K R W B H σ ρ->
 (∀o aC al,k o->a0 K R W aC al σ ρ->bV R B aC->Q o al)->t σ H Q
def qW(X:aJ)(e:Option Wp)(u:oA):Prop:=∃t,sr X e t/\Na X.K t u
def Nb:oA:=λ_ k=>k none
def Nc(u:a9):oA:=λρ k=>u ρ λd=>∃i,d=.int i/\k (some i)
theorem qX:qW X none Nb:=⟨_,LL,λρ k h R W B H σ Q e q=>q none B H h e (bV.refl _ _)⟩
theorem qY(h:bn X e u):qW X (some e) (Nc u):=by
 obtain⟨_,h1,r1⟩:=h;refine⟨_,LM h1,λρ k h R W B H σ Q e q=>?_⟩;refine r1 ρ _ h R W B H σ _ e λd v bd ar z1 ai aI az=>?_;obtain⟨i,rfl,z⟩:=z1;exact⟨i,az.intV,q _ bd ar z ai aI⟩
def zQ:D->Option ZK
 |.lst ds=>some ds
 |.scr ns=>some (ns.map .int)
 |_=>none
theorem Eo{B H:am}{v:V}{x:D}{ds:ZK}(s:cF B H)(r:b3 K B v x)(h:zQ x=some ds):∃a vs,v=.ref a/\cE K H a vs/\Reps K B vs ds:=by
 cases x<;>first|(cases h;done)|skip
 ·obtain⟨a,vs,rfl,aw,rs⟩:=r.lstV;cases h;exact⟨a,vs,rfl,cE.of (s _ _ aw),rs⟩
 ·obtain⟨a,rfl,aw⟩:=r.scrV;cases h;exact⟨a,_,rfl,s.seq aw,Reps.ints _⟩
def Nd(u:a9)(l h:oA):cZ:=λρ k=>u ρ λx=>l ρ λlo=>h ρ λau=>∃ds,zQ x=some ds/\k (jQ ds lo au)
theorem sJ{lo au:Option Wp}{oB sK:oA}{b1:Pos}(ax:bn X e u)(ao:qW X lo oB)(dE:qW X au sK):lq X (.Subscript e (.Slice lo au none b1) pos) (Nd u oB sK):=by
 obtain⟨_,h1,r1⟩:=ax;obtain⟨_,h2,r2⟩:=ao;obtain⟨_,aF,gM⟩:=dE;refine⟨_,DD LZ h1 h2 aF,λρ k h R W B H σ Q e q=>?_⟩;refine r1 ρ _ h R W B H σ _ e λd v bd ar z1 ai aI az=>?_;refine r2 ρ _ z1 R W bd ar σ _ ai λlo ca a5 aY ap aP=>?_;refine gM ρ _ aY R W ca a5 σ _ ap λau ot cI eI br g3=>?_;obtain⟨ds,hd,z⟩:=eI;obtain⟨a,vs,rfl,aw,rs⟩:=Eo br.bh (az.mono (aP.trans g3).s) hd;refine⟨a,vs,rfl,aw,λp ae=>?_⟩;obtain⟨a4,a',bP,dL,eR⟩:=br.newO ae (rs.cut lo au);exact q _ p _ ot _ z a4 ((aI.trans aP).trans g3) a' bP dL (rs.cut lo au) eR
def Ep(u v:a9):cZ:=λρ k=>u ρ λx=>v ρ λy=>∃ds es,x=.lst ds/\y=.lst es/\ds.length+es.length<=TT/\k (ds++es)
theorem pP{a b:Wp}{bD bY:a9}(aw:bn X a bD)(ab:bn X b bY):lq X (.BinOp a .Add b pos) (Ep bD bY):=by
 obtain⟨_,h1,r1⟩:=aw;obtain⟨_,h2,r2⟩:=ab;refine⟨_,fW Md h1 h2,λρ k h R W B H σ Q e q=>?_⟩;refine r1 ρ _ h R W B H σ _ e λd v bd ar z1 ai aI az=>?_;refine r2 ρ _ z1 R W bd ar σ _ ai λd' r6 ca a5 aY ap aP a3=>?_;obtain⟨ds,es,rfl,rfl,ao,z⟩:=aY;obtain⟨a,vs,rfl,aw,rs⟩:=(az.mono aP.s).lstV;obtain⟨b,fD,rfl,ab,rt⟩:=a3.lstV;refine⟨a,b,vs,fD,rfl,rfl,ap.bh _ _ aw,ap.bh _ _ ab,by rw[rs.length,rt.length];exact ao,λp ae=>?_⟩;obtain⟨a4,a',bP,dL,eR⟩:=ap.newO ae (rs.append rt);exact q _ p _ ca _ z a4 (aI.trans aP) a' bP dL (rs.append rt) eR
theorem Er{B:am}:∀{ns:ZG}{vs:ZJ},Reps K B vs (ns.map D.int)->vs=ns.map V.int
 |[],_,.nil=>rfl
 |n::r,_,.cons h t=>by rw[h.intV,Er t];rfl
def zR(i:Nat)(u:a9):cX:=λU ρ=>∃ds:ZK,ρ[i]?=some (.own ds)/\u ρ λd=>ds.length<TT/\U.nx (ρ.set i (.own (ds++[d])))
theorem nq(i:Nat){x:Str}{px dr cr:Pos}(ax:bn X e u)(bi:X.N[i]?=some x:=by rfl)(aH:iq X.env.scope x:=by first|exact SF rfl|exact SP (SF rfl)|exact SP (SP rfl))(hd:(x==("__debug__":Str))=false:=by decide)(ec:(x==("__classdict__":Str))=false:=by decide)(g4:Xx (.Name x px) "append" X.env (XJ (.Name x px) X.env)=XJ (.Name x px) X.env:=by rfl)(j5:((XC cr (TD [e] X.env)).all (λx => !x.1)&&(YL cr (X6 [] X.env)).all (λx=>x.1.isSome)
   && decide ([e].length+([]:ZV).length+(if([]:ZV).isEmpty then 0 else 1)<30))=true:=by rfl)(g5:(dr.endLine==cr.line)=true:=by rfl)(aj:TD [e] X.env=(false,XJ e X.env)::TD [] X.env:=by rfl)(pG:(XC cr (TD ([]:ZT) X.env)).any (·.1)=false:=by rfl)(nr:XE (.Call (.Attribute (.Name x px) "append" dr) [e] [] cr) none pos.line X.env=pure false:=by rfl):fM X (.Expr (.Call (.Attribute (.Name x px) "append" dr) [e] [] cr) pos) (zR i u):=by
 obtain⟨_,h1,r1⟩:=ax;refine⟨_,u3 (zo Vi WX WY zq (mc bi aH hd ec) (fi h1 gN aj) g4 j5 g5 aj pG) nr,λU ρ h R W B H σ D e s=>?_⟩;obtain⟨ds,aB,h⟩:=h;obtain⟨a,vs,ai,ap,br,cW,f5⟩:=e.ownAt aB;refine⟨_,ai,.inl ⟨rfl,vs,cE.of cW⟩,?_⟩;refine r1 ρ _ h R W B H σ _ e λd v bd ar z1 a4 aI az=>?_;obtain⟨fv,my,bM,cy,gt,j',sL⟩:=a4.ownAt aB;rw[ai]at bM;cases bM;exact⟨a,my,v,rfl,rfl,j',by rw[sL.length];exact z1.1,s.nx _ _ bd _ z1.2 (a4.write ai aB (sL.append (.cons az .nil))) aI⟩
def lr(ρ:ZL)(j:Nat):aQ:=match ρ[j]? with
 |some (.val d)=>.val d
 |some .bag=>.bag
 |_=>.no
theorem a0.scribble{R:am}{W:TI->Prop}{B H:am}{σ:St}{ρ:ZL}(e:a0 K R W B H σ ρ){a:TI}(ak:R a=none)(ab:B a=none)(av:∀i,¬cQ σ ρ i a)(o:e6):a0 K R W B (upd H a o) σ ρ:=by
 have f4:¬W a:=λz=>e.wr a z ak;refine e.move ⟨λb q h z=>?_,λb q h=>?_,e.wb,λb z=>(e.wh b z).upd (by rintro rfl;exact f4 z),e.wr⟩ (cF.refl _) λi b m=>?_
 ·rw[de (by rintro rfl;rw[ak]at h;cases h)];exact e.fr b q h z
 ·rw[de (by rintro rfl;rw[ab]at h;cases h)];exact e.bh b q h
 ·have n:b≠a:=by rintro rfl;exact av i m
  refine⟨(e.mutOk m).1,λz=>?_,λ_=>de n⟩;obtain⟨c,c1,_,_,c4⟩:=e.bagAt z;rw[qT m z]at c1;cases c1;exact c4.upd n
theorem Nf{σ:St}{js:ZN}{i:Nat}{o:Option V}(h:(iZ σ js)[i]?=some o):∃j,js[i]?=some j/\o=(σ[j]?).join:=by
 unfold iZ at h;rw[S4]at h;cases q:js[i]? with
 |none=>rw[q]at h;cases h
 |some j=>rw[q]at h;exact⟨j,rfl,(SU h).symm⟩
def Ng(K:F6)(t:bK)(u:ZL->Prop->Prop):Prop:=∀(ρ:ZL)(k:Prop),u ρ k->∀(R:am)(W:TI->Prop)(B H:am)(σ:St)(Q:cN),a0 K R W B H σ ρ->
 (∀a aC al,k->a0 K R W aC al σ ρ->bV R B aC->R a=none->aC a=none->hZ al a->(∀i,¬cQ σ ρ i a)->Q (.ref a) al)->t σ H Q
def Es(X:aJ)(e:Wp)(u:ZL->Prop->Prop):Prop:=∃t,b6 X e t/\Ng X.K t u
def Nh(n:Nat)(F:cn)(w:i1):ZL->Prop->Prop:=λρ k=>w ρ λas=>sh as n=true/\F (as.map Arg.sl) λr=>r=.bag/\k
theorem Ni{n:Nat}{F:cn}{w:i1}{x:Str}{ps:ZQ}{j lv:Nat}(c:cf X.prog X.w X.K X.mg X.base x ps j (cl X.K n F))(ak:fw lv X.A)(aD:e2 X x)(aw:mo X (e::es) w)(hjk:j<=lv:=by decide)(iy:(x==("__debug__":Str))=false:=by decide)(ax:TD (e::es) X.env=(false,XJ e X.env)::TD es X.env:=by rfl)(fj:(XC pos (TD es X.env)).any (·.1)=false:=by rfl):
  Es X (.Call (.Name x p) (e::es) [] pos) (Nh n F w):=by
 obtain⟨_,h1,r1⟩:=aw;refine⟨_,vt c ak aD h1 hjk iy ax fj,λρ k h R W B H σ Q e q=>?_⟩;refine r1 ρ _ h R W B H σ _ e λas vs bd ar z1 ai aI az=>?_;rw[SO];refine vI ai az z1.1 z1.2 λr v ca a5 ag ap aP res=>?_;obtain⟨rfl,ag⟩:=ag;obtain⟨a,rfl,a4,a',bP⟩:=res;exact q a ca a5 ag ap (aI.trans aP) (ai.toWd.fresh a4).1 a' bP λi m=>(ai.mutOk m).2 a4
def Nj(i:Nat)(u:ZL->Prop->Prop):cX:=λU ρ=>u ρ (U.nx (ρ.set i .bag))
theorem Nk{i:Nat}{x:Str}{eF:Pos}{u:ZL->Prop->Prop}(bi:X.N.Nodup)(au:X.N[i]?=some x)(aq:Loc X.env.scope x)(ax:Es X e u)(aj:XE e (some (.Name x eF)) pos.line X.env=pure false:=by rfl)(bf:X.fn x=true\/X.env.scope.names.lookup x=some .local:=by first|exact .inl rfl|exact .inr rfl|assumption):
  fM X (.Assign [.Name x eF] e pos) (Nj i u):=by
 obtain⟨_,h1,r1⟩:=ax;refine⟨_,pv bi au aq h1 aj bf,λU ρ h R W B H σ D e s=>?_⟩;refine r1 ρ _ h R W B H σ _ e λa bd ar z1 ai aI a4 a' bP dL=>s.nx _ _ bd ar z1 (ai.set i ⟨a,rfl,.inr a4,a',bP⟩ λb z _ j _=>?_) aI;cases z;exact dL j
end
end L3
namespace L3
open PySem L2
inductive iE where
 |I|B|N|S|T (dv:List iE)|L (s:iE)
mutual
def has:iE->D->Bool
 |.I,.int _=>true
 |.B,.bl _=>true
 |.N,.non=>true
 |.S,.str _=>true
 |.T dv,.tup xs=>hass dv xs
 |.L s,.lst xs=>xs.all λx=>has s x
 |_,_=>false
def hass:List iE->ZK->Bool
 |[],[]=>true
 |s::dv,x::xs=>has s x&&hass dv xs
 |_,_=>false
end
mutual
def i6:iE->Nat
 |.T dv=>deps dv+1
 |.L s=>i6 s+1
 |_=>0
def deps:List iE->Nat
 |[]=>0
 |s::dv=>max (i6 s) (deps dv)
end
noncomputable def eqD(x y:D):Bool :=@decide (x=y) (Uu _)
theorem sM{x y:D}:eqD x y=true↔x=y:=by unfold eqD;exact @decide_eq_true_iff _ (Uu _)
theorem qZ(x:D):eqD x x=true:=sM.mpr rfl
theorem oC{x y:D}{b:Bool}(h:b=true↔x=y):eqD x y=b:=by
 rw[V3,sM,h]
section
variable{K:F6}{B:am}
theorem has_int{x:D}(h:has .I x=true):∃i,x=.int i:=by cases x<;>first|exact⟨_,rfl⟩|(simp[has]at h)
theorem vN{x:D}(h:has .B x=true):∃i,x=.bl i:=by cases x<;>first|exact⟨_,rfl⟩|(simp[has]at h)
theorem vO{x:D}(h:has .N x=true):x=.non:=by cases x<;>first|rfl|(simp[has]at h)
theorem has_str{x:D}(h:has .S x=true):∃i,x=.str i:=by cases x<;>first|exact⟨_,rfl⟩|(simp[has]at h)
theorem vP{x:D}{dv:List iE}(h:has (.T dv) x=true):∃xs,x=.tup xs/\hass dv xs=true:=by
 cases x<;>first|exact⟨_,rfl,by simpa[has]using h⟩|(simp[has]at h)
theorem vQ{x:D}{s:iE}(h:has (.L s) x=true):∃xs,x=.lst xs/\∀y∈xs,has s y=true:=by
 cases x<;>first|exact⟨_,rfl,by simpa[has]using h⟩|(simp[has]at h)
theorem sN:∀{dv:List iE}{xs:ZK},hass dv xs=true->xs.length=dv.length
 |[],[],_=>rfl
 |[],_::_,h=>by simp[hass]at h
 |_::_,[],h=>by simp[hass]at h
 |s::dv,x::xs,h=>by
  simp[hass]at h;simp[sN h.2]
mutual
theorem pQ:∀(sh:iE){x y:D}{v:V},has sh x=true->has sh y=true->b3 K B v x->b3 K B v y->x=y
 |.I,x,y,v,h1,h2,r1,r2=>by
  obtain⟨i,rfl⟩:=has_int h1;obtain⟨j,rfl⟩:=has_int h2
  have e:=r1.intV.symm.trans r2.intV
  cases e;rfl
 |.B,x,y,v,h1,h2,r1,r2=>by
  obtain⟨i,rfl⟩:=vN h1;obtain⟨j,rfl⟩:=vN h2
  have e:=r1.blV.symm.trans r2.blV
  cases e;rfl
 |.N,x,y,v,h1,h2,r1,r2=>by rw[vO h1,vO h2]
 |.S,x,y,v,h1,h2,r1,r2=>by
  obtain⟨i,rfl⟩:=has_str h1;obtain⟨j,rfl⟩:=has_str h2
  cases r1;cases r2;rfl
 |.T dv,x,y,v,h1,h2,r1,r2=>by
  obtain⟨xs,rfl,aO⟩:=vP h1;obtain⟨ys,rfl,bz⟩:=vP h2
  obtain⟨a,vs,rfl,aw,kJ⟩:=r1.tupV
  obtain⟨b,fD,e,ab,rb⟩:=r2.tupV
  cases e
  rw[aw]at ab;cases ab
  rw[reps_fn dv aO bz kJ rb]
 |.L s,x,y,v,h1,h2,r1,r2=>by
  obtain⟨xs,rfl,aO⟩:=vQ h1;obtain⟨ys,rfl,bz⟩:=vQ h2
  obtain⟨a,vs,rfl,aw,kJ⟩:=r1.lstV
  obtain⟨b,fD,e,ab,rb⟩:=r2.lstV
  cases e
  rw[aw]at ab;cases ab
  have:xs=ys:=by
   apply Uj
   intro i
   cases zS:xs[i]? with
   |none=>
    have:ys[i]?=none:=by
     have h1:=kJ.length
     have h2:=rb.length
     have aF:=WZ.mp zS
     exact WZ.mpr (by lia)
    rw[this]
   |some d=>
    obtain⟨v,fl,cq⟩:=kJ.get zS
    obtain⟨d',hK,fm⟩:=rb.getV fl
    rw[hK,pQ s (aO d (Tt zS)) (bz d' (Tt hK)) cq fm]
  rw[this]
theorem reps_fn:∀(dv:List iE){xs ys:ZK}{vs:ZJ},hass dv xs=true->hass dv ys=true->Reps K B vs xs->Reps K B vs ys->xs=ys
 |[],xs,ys,vs,h1,h2,r1,r2=>by
  have ai:=sN h1;have ap:=sN h2
  rw[List.length_nil]at ai ap
  rw[V4 ai,V4 ap]
 |s::dv,[],ys,vs,h1,h2,r1,r2=>by simp[hass]at h1
 |s::dv,x::xs,[],vs,h1,h2,r1,r2=>by simp[hass]at h2
 |s::dv,x::xs,y::ys,vs,h1,h2,r1,r2=>by
  simp[hass]at h1 h2
  cases r1 with
  |cons b7 bc=>cases r2 with
   |cons bW bg=>rw[pQ s h1.1 h2.1 b7 bW,reps_fn dv h1.2 h2.2 bc bg]
end
end
section
variable{X:aJ}{pins:ZW}{σ:St}{H B:am}{s:Tl}
theorem Et{xs ys:ZK}{n:Nat}{e:Nat->Bool}(aN:n=xs.length)(ao:xs.length=ys.length)(ax:∀j,j<n->(e j=true↔xs[j]?=ys[j]?)):((SV n).all e)=true↔xs=ys:=by
 rw[Vj];constructor
 ·intro h;apply Uj;intro i;by_cases au:i<n
  ·exact(ax i au).mp (h i (TV.mpr au))
  ·rw[Th (by lia),Th (by lia)]
 ·rintro rfl j b8;exact(ax j (TV.mp b8)).mpr rfl
noncomputable def ls(xs ys:ZK)(j:Nat):Bool :=@decide (xs[j]?=ys[j]?) (Uu _)
theorem sO{xs ys:ZK}{j:Nat}:ls xs ys j=true↔xs[j]?=ys[j]?:=by unfold ls;exact @decide_eq_true_iff _ (Uu _)
theorem Eu{xs ys:ZK}{j:Nat}{x y:D}(h1:xs[j]?=some x)(h2:ys[j]?=some y):ls xs ys j=eqD x y:=by
 rw[V3,sO,sM,h1,h2];constructor
 ·intro h;exact SU h
 ·intro h;rw[h]
structure Nl (A:Xv) (s:Tl) (u w:Tk) (x y:D):Prop where
 rc:SeqAt.RcAt A s u w (eqD x y)
 ne:SeqAt.RcNeAt A s u w (!eqD x y)
 eq:SeqAt.EqAt A s u w (eqD x y)
mutual
theorem sP(I:Inv X pins σ H s)(dI:cF B H):∀(sh:iE){A:Xv}{x y:D}{v w:V}{u eQ:Tk},has sh x=true->has sh y=true->b3 X.K B v x->b3 X.K B w y->RelV v u->RelV w eQ->A.units+i6 sh<XZ->Nl A s u eQ x y
 |.I,A,x,y,v,w,u,eQ,h1,h2,r1,r2,a6,a7,bo=>by
  obtain⟨i,rfl⟩:=has_int h1;obtain⟨j,rfl⟩:=has_int h2
  cases r1.intV;cases r2.intV
  obtain⟨t,rfl⟩:=a6;obtain⟨t',rfl⟩:=a7
  have e:eqD (.int i) (.int j)=(i==j):=oC (by simp)
  refine⟨?_,?_,?_⟩<;>rw[e]
  ·exact SeqAt.RcAt.int_int i t j t'
  ·exact SeqAt.RcNeAt.int_int i t j t'
  ·exact SeqAt.EqAt.int_int i t j t'
 |.B,A,x,y,v,w,u,eQ,h1,h2,r1,r2,a6,a7,bo=>by
  obtain⟨i,rfl⟩:=vN h1;obtain⟨j,rfl⟩:=vN h2
  cases r1.blV;cases r2.blV
  cases a6;cases a7
  have e:eqD (.bl i) (.bl j)=(i==j):=oC (by simp)
  refine⟨?_,?_,?_⟩<;>rw[e]
  ·exact SeqAt.RcAt.bool_bool i j
  ·exact SeqAt.RcNeAt.bool_bool i j
  ·exact SeqAt.EqAt.bool_bool i j
 |.N,A,x,y,v,w,u,eQ,h1,h2,r1,r2,a6,a7,bo=>by
  cases vO h1;cases vO h2
  cases r1.nonV;cases r2.nonV
  cases a6;cases a7
  have e:eqD .non .non=true:=qZ _
  refine⟨?_,?_,?_⟩<;>rw[e]
  ·exact SeqAt.RcAt.none_none
  ·exact SeqAt.RcNeAt.none_none
  ·exact SeqAt.EqAt.same _
 |.S,A,x,y,v,w,u,eQ,h1,h2,r1,r2,a6,a7,bo=>by
  obtain⟨i,rfl⟩:=has_str h1;obtain⟨j,rfl⟩:=has_str h2
  cases r1;cases r2
  obtain⟨t,rfl⟩:=a6;obtain⟨t',rfl⟩:=a7
  have e:eqD (.str i) (.str j)=(i==j):=oC (by simp)
  refine⟨?_,?_,?_⟩<;>rw[e]
  ·exact SeqAt.RcAt.str_str i t j t'
  ·exact SeqAt.RcNeAt.str_str i t j t'
  ·exact SeqAt.EqAt.str_str i t j t'
 |.T dv,A,x,y,v,w,u,eQ,h1,h2,r1,r2,a6,a7,bo=>by
  have vR:=r1
  have vS:=r2
  obtain⟨xs,rfl,aO⟩:=vP h1;obtain⟨ys,rfl,bz⟩:=vP h2
  obtain⟨a,vs,rfl,aw,kJ⟩:=r1.tupV
  obtain⟨b,fD,rfl,ab,rb⟩:=r2.tupV
  cases a6;cases a7
  obtain⟨its,bM,ew,_⟩:=I.tuple (e7.of (dI _ _ aw))
  obtain⟨gO,cy,cP,_⟩:=I.tuple (e7.of (dI _ _ ab))
  have bw:i6 (.T dv)=deps dv+1:=by simp[i6]
  have sQ:=sN aO
  have zT:=sN bz
  have z1:=kJ.length;have aY:=rb.length;have eI:=bM.length;have eJ:=cy.length
  have gu:=eqs_sh I dI dv (A:=A.in1) aO bz kJ rb bM cy (by show A.units+1+deps dv<XZ;lia)
  have ax:∀j (h1:j<its.toArray.size) (h2:j<gO.toArray.size),SeqAt.EqAt A.in1 s its.toArray[j] gO.toArray[j] (ls xs ys j):=λj aI aP=>by
   have:=gu j (by simpa using aI) (by simpa using aP)
   simpa using this
  have e:eqD (.tup xs) (.tup ys)=((SV (min its.toArray.size gO.toArray.size)).all (ls xs ys)&&its.toArray.size==gO.toArray.size):=by
   refine oC ?_
   have az:its.toArray.size=xs.length:=by simp;lia
   have a3:gO.toArray.size=xs.length:=by simp;lia
   rw[az,a3,Nat.min_self,Us]
   have:=Et (xs:=xs) (ys:=ys) (n:=xs.length) (e:=ls xs ys) rfl (by lia) (λj _=>sO)
   constructor
   ·intro h;rw[this.mp h.1]
   ·intro h;cases h;exact⟨this.mpr rfl,by simp⟩
  have rc:SeqAt.RcAt A s (.ref a) (.ref b) (eqD (.tup xs) (.tup ys)):=by rw[e];exact SeqAt.RcAt.tuples ew cP (by lia) ax
  refine⟨rc,by rw[e];exact SeqAt.RcNeAt.tuples ew cP (by lia) ax,?_⟩
  by_cases jq:a=b
  ·subst jq
   have:=pQ (.T dv) h1 h2 vR vS
   rw[this,qZ]
   exact SeqAt.EqAt.same _
  ·exact SeqAt.EqAt.of_refs jq rc
 |.L sh,A,x,y,v,w,u,eQ,h1,h2,r1,r2,a6,a7,bo=>by
  have vR:=r1
  have vS:=r2
  obtain⟨xs,rfl,aO⟩:=vQ h1;obtain⟨ys,rfl,bz⟩:=vQ h2
  obtain⟨a,vs,rfl,aw,kJ⟩:=r1.lstV
  obtain⟨b,fD,rfl,ab,rb⟩:=r2.lstV
  cases a6;cases a7
  obtain⟨its,bM,cp,_⟩:=I.list (cE.of (dI _ _ aw))
  obtain⟨gO,cy,b1,_⟩:=I.list (cE.of (dI _ _ ab))
  have ew:=cp.isList
  have cP:=b1.isList
  have bw:i6 (.L sh)=i6 sh+1:=by simp[i6]
  have z1:=kJ.length;have aY:=rb.length;have eI:=bM.length;have eJ:=cy.length
  have ax:∀j (h1:j<its.toArray.size) (h2:j<gO.toArray.size),SeqAt.EqAt A.in1 s its.toArray[j] gO.toArray[j] (ls xs ys j):=λj aI aP=>by
   have Nm:j<its.length:=by simpa using aI
   have Nn:j<gO.length:=by simpa using aP
   obtain⟨v1,ai,No⟩:=bM.getR (S5 Nm)
   obtain⟨ev,ap,sR⟩:=cy.getR (S5 Nn)
   obtain⟨c1,a4,zU⟩:=kJ.getV ai
   obtain⟨c2,a',zV⟩:=rb.getV ap
   rw[Eu a4 a']
   have:=(sP I dI sh (A:=A.in1) (aO c1 (Tt a4)) (bz c2 (Tt a')) zU zV No sR (by show A.units+1+i6 sh<XZ;lia)).eq
   simpa using this
  by_cases ky:its.toArray.size=gO.toArray.size
  ·have az:its.toArray.size=xs.length:=by simp;lia
   have a3:xs.length=ys.length:=by simp at ky;lia
   have e:eqD (.lst xs) (.lst ys)=(SV its.toArray.size).all (ls xs ys):=by
    refine oC ?_
    rw[Et (xs:=xs) (ys:=ys) az a3 (λj _=>sO)]
    constructor
    ·intro h;rw[h]
    ·intro h;cases h;rfl
   have rc:SeqAt.RcAt A s (.ref a) (.ref b) (eqD (.lst xs) (.lst ys)):=by rw[e];exact SeqAt.RcAt.lists ew cP ky (by lia) ax
   refine⟨rc,by rw[e];exact SeqAt.RcNeAt.lists ew cP ky (by lia) ax,?_⟩
   by_cases jq:a=b
   ·subst jq
    have:=pQ (.L sh) h1 h2 vR vS
    rw[this,qZ]
    exact SeqAt.EqAt.same _
   ·exact SeqAt.EqAt.of_refs jq rc
  ·have e:eqD (.lst xs) (.lst ys)=false:=oC (by
    constructor
    ·intro h;cases h
    ·intro h;cases h;simp at ky;lia)
   have nt:(its.toArray.size != gO.toArray.size)=true:=by simpa using ky
   have rc:SeqAt.RcAt A s (.ref a) (.ref b) (eqD (.lst xs) (.lst ys)):=by rw[e];exact SeqAt.RcAt.lists_lengths ew cP nt (by lia)
   refine⟨rc,by rw[e];exact SeqAt.RcNeAt.lists_lengths ew cP nt (by lia),?_⟩
   refine SeqAt.EqAt.of_refs (λjq=>?_) rc
   subst jq
   have:=pQ (.L sh) h1 h2 vR vS
   cases this
   simp at ky;lia
theorem eqs_sh(I:Inv X pins σ H s)(dI:cF B H):∀(dv:List iE){A:Xv}{xs ys:ZK}{vs fD:ZJ}{us jr:ZR},hass dv xs=true->hass dv ys=true->Reps X.K B vs xs->Reps X.K B fD ys->b5 vs us->b5 fD jr->A.units+deps dv<XZ->
  ∀j (h1:j<us.length) (h2:j<jr.length),SeqAt.EqAt A s us[j] jr[j] (ls xs ys j)
 |[],A,[],ys,_,_,_,_,h1,h2,.nil,r2,.nil,a7,bo,j,aI,aP=>absurd aI (by simp)
 |[],A,x::xs,ys,_,_,_,_,h1,h2,r1,r2,a6,a7,bo,j,aI,aP=>by simp[hass]at h1
 |s::dv,A,[],ys,vs,fD,us,jr,h1,h2,r1,r2,a6,a7,bo,j,aI,aP=>by simp[hass]at h1
 |s::dv,A,x::xs,[],vs,fD,us,jr,h1,h2,r1,r2,a6,a7,bo,j,aI,aP=>by simp[hass]at h2
 |s::dv,A,x::xs,y::ys,v::vs,w::fD,u::us,eQ::jr,h1,h2,.cons b7 bc,.cons bW bg,.cons c1 bw,.cons c2 bF,bo,0,aI,aP=>by
  have sS:has s x=true:=by simp[hass]at h1;exact h1.1
  have sT:has s y=true:=by simp[hass]at h2;exact h2.1
  have h6:deps (s::dv)=max (i6 s) (deps dv):=by simp[deps]
  have:=(sP I dI s (A:=A) sS sT b7 bW c1 c2 (by lia)).eq
  rw[Eu (xs:=x::xs) (ys:=y::ys) (j:=0) rfl rfl]
  exact this
 |s::dv,A,x::xs,y::ys,v::vs,w::fD,u::us,eQ::jr,h1,h2,.cons b7 bc,.cons bW bg,.cons c1 bw,.cons c2 bF,bo,j+1,aI,aP=>by
  have sS:hass dv xs=true:=by simp[hass]at h1;exact h1.2
  have sT:hass dv ys=true:=by simp[hass]at h2;exact h2.2
  have h6:deps (s::dv)=max (i6 s) (deps dv):=by simp[deps]
  have:=eqs_sh I dI dv (A:=A) sS sT bc bg bw bF (by lia) j (by simpa using aI) (by simpa using aP)
  have e:ls (x::xs) (y::ys) (j+1)=ls xs ys j:=by
   rw[V3,sO,sO];simp
  rw[e]
  exact this
end
def zW(K:F6)(ng:Bool):fh:=λx y H Q=>∃B d e sh,b3 K B x d/\b3 K B y e/\cF B H/\has sh d=true/\has sh e=true/\i6 sh<=50/\Q (.bl (if ng then !eqD d e else eqD d e)) H
theorem Np(bo:X.A.units+64<XZ):gl X (XU .Eq) (zW X.K false):=by
 intro pins s σ H x y v u Q I bt cA h;obtain⟨B,d,e,sh,r1,r2,dI,h1,h2,hd,q⟩:=h;exact(sP I dI sh (A:=X.A) h1 h2 r1 r2 bt cA (by lia)).rc _ _ _ _ ⟨.bl _,H,I,rfl,q⟩
theorem Nq(bo:X.A.units+64<XZ):gl X (XU .NotEq) (zW X.K true):=by
 intro pins s σ H x y v u Q I bt cA h;obtain⟨B,d,e,sh,r1,r2,dI,h1,h2,hd,q⟩:=h;exact(sP I dI sh (A:=X.A) h1 h2 r1 r2 bt cA (by lia)).ne _ _ _ _ ⟨.bl _,H,I,rfl,q⟩
def zX(K:F6)(ng:Bool):fh:=λx y H Q=>∃B d es sh,b3 K B x d/\(b3 K B y (.lst es)\/b3 K B y (.tup es))/\cF B H/\has sh d=true/\(∀e∈es,has sh e=true)/\i6 sh<=50/\∀b:Bool,(b=true↔d∈es)->Q (.bl (if ng then !b else b)) H
noncomputable def lu(K:F6)(B:am)(sh:iE)(d:D)(u:Tk):Bool :=@decide (∃v,RelV v u/\b3 K B v d) (Uu _)
theorem zY{K:F6}{sh:iE}{d:D}{u:Tk}:lu K B sh d u=true↔∃v,RelV v u/\b3 K B v d:=by unfold lu;exact @decide_eq_true_iff _ (Uu _)
theorem Ev{v w:V}{u:Tk}(h1:RelV v u)(h2:RelV w u):v=w:=by
 cases v<;>cases w<;>simp only[RelV]at h1 h2<;>first
  |rfl
  | (obtain⟨t,rfl⟩:=h1;obtain⟨t',e⟩:=h2;cases e;rfl)
  | (obtain⟨t,rfl⟩:=h1;obtain⟨t',e⟩:=h2;cases e;done)
  | (obtain⟨t,rfl⟩:=h1;cases h2;done)
  | (obtain⟨t,rfl⟩:=h2;cases h1;done)
  | (subst h1;cases h2;rfl)
  | (subst h1;cases h2;done)
theorem vT{K:F6}{sh:iE}{d:D}{vs:ZJ}{es:ZK}{its:ZR}(h1:has sh d=true)(h2:∀e∈es,has sh e=true)(r:Reps K B vs es)(l:b5 vs its):its.toArray.any (lu K B sh d)=true↔d∈es:=by
 rw[show its.toArray.any (lu K B sh d)=its.any (lu K B sh d) by simp,List.any_eq_true];constructor
 ·rintro⟨u,bo,z⟩;obtain⟨v,lv,cq⟩:=zY.mp z;obtain⟨j,b8⟩:=Ui bo;obtain⟨w,jL,lw⟩:=l.getR b8;cases Ev lv lw;obtain⟨e,hb,lx⟩:=r.getV jL;have gp:=Tt hb;rw[pQ sh h1 (h2 e gp) cq lx];exact gp
 ·intro m;obtain⟨j,b8⟩:=Ui m;obtain⟨v,fl,cq⟩:=r.get b8;obtain⟨u,Nr,sU⟩:=l.get fl;exact⟨u,Tt Nr,zY.mpr ⟨v,sU,cq⟩⟩
theorem vU(I:Inv X pins σ H s)(dI:cF B H){A:Xv}{sh:iE}{d:D}{vs:ZJ}{es:ZK}{its:ZR}{x:V}{v:Tk}(h1:has sh d=true)(h2:∀e∈es,has sh e=true)(bt:b3 X.K B x d)(sQ:RelV x v)(r:Reps X.K B vs es)(l:b5 vs its)(bo:A.units+i6 sh<XZ):∀y,y∈its.toArray->SeqAt.EqAt A s y v (lu X.K B sh d y):=λy aG=>by
 obtain⟨j,b8⟩:=Ui (show y∈its by simpa using aG);obtain⟨w,jL,lw⟩:=l.getR b8;obtain⟨e,hb,lx⟩:=r.getV jL;have ax:=h2 e (Tt hb);have q:=(sP I dI sh (A:=A) ax h1 lx bt lw sQ bo).eq
 have z:eqD e d=lu X.K B sh d y:=oC (by
  rw[zY];constructor
  ·rintro⟨r6,gf,dJ⟩;cases Ev gf lw;exact pQ sh ax h1 lx dJ
  ·rintro rfl
   exact⟨w,lw,lx⟩)
 rw[<-z];exact q
theorem Nt(bo:X.A.units+64<XZ):gl X (XU .In) (zX X.K false):=by
 intro pins s σ H x y v u Q I bt cA h;obtain⟨B,d,es,sh,r1,r2,dI,h1,h2,hd,q⟩:=h;rcases r2 with r2|r2
 ·obtain⟨a,vs,rfl,aw,rs⟩:=r2.lstV;cases cA;obtain⟨its,bM,cp,_⟩:=I.list (cE.of (dI _ _ aw));exact SeqAt.in_listAt (lu X.K B sh d) cp.isList (vU I dI (A:=X.A.in1) h1 h2 r1 bt rs bM (by show X.A.units+1+_<XZ;lia)) ⟨.bl _,H,I,rfl,q _ (vT h1 h2 rs bM)⟩
 ·obtain⟨a,vs,rfl,aw,rs⟩:=r2.tupV;cases cA;obtain⟨its,bM,cp,_⟩:=I.tuple (e7.of (dI _ _ aw));exact SeqAt.in_tupleAt (lu X.K B sh d) cp (vU I dI (A:=X.A.in1) h1 h2 r1 bt rs bM (by show X.A.units+1+_<XZ;lia)) ⟨.bl _,H,I,rfl,q _ (vT h1 h2 rs bM)⟩
theorem Nu(bo:X.A.units+64<XZ):gl X (XU .NotIn) (zX X.K true):=by
 intro pins s σ H x y v u Q I bt cA h;obtain⟨B,d,es,sh,r1,r2,dI,h1,h2,hd,q⟩:=h;rcases r2 with r2|r2
 ·obtain⟨a,vs,rfl,aw,rs⟩:=r2.lstV;cases cA;obtain⟨its,bM,cp,_⟩:=I.list (cE.of (dI _ _ aw));exact SeqAt.notIn_listAt (lu X.K B sh d) cp.isList (vU I dI (A:=X.A.in1) h1 h2 r1 bt rs bM (by show X.A.units+1+_<XZ;lia)) ⟨.bl _,H,I,rfl,q _ (vT h1 h2 rs bM)⟩
 ·obtain⟨a,vs,rfl,aw,rs⟩:=r2.tupV;cases cA;obtain⟨its,bM,cp,_⟩:=I.tuple (e7.of (dI _ _ aw));exact SeqAt.notIn_tupleAt (lu X.K B sh d) cp (vU I dI (A:=X.A.in1) h1 h2 r1 bt rs bM (by show X.A.units+1+_<XZ;lia)) ⟨.bl _,H,I,rfl,q _ (vT h1 h2 rs bM)⟩
end
section
variable{K:F6}{X:aJ}{a b:Wp}{bD bY:a9}{pos:Pos}
def vV(ng:Bool)(bD bY:a9):a9:=λρ k=>bD ρ λx=>bY ρ λy=>∃sh,has sh x=true/\has sh y=true/\i6 sh<=50/\k (.bl (if ng then !eqD x y else eqD x y))
def zZ(ng:Bool)(bD bY:a9):a9:=λρ k=>bD ρ λx=>bY ρ λy=>∃sh es,(y=.lst es\/y=.tup es)/\has sh x=true/\(∀e∈es,has sh e=true)/\i6 sh<=50/\∀b:Bool,(b=true↔x∈es)->k (.bl (if ng then !b else b))
theorem Ew{bO tb:bK}{ng:Bool}(aw:e' K bO bD)(ab:e' K tb bY):e' K (m6 (zW K ng) bO tb) (vV ng bD bY):=
 qV aw ab λx y k h R W B H σ ρ v w Q e bt cA q=>by
  obtain⟨sh,h1,h2,hd,ag⟩:=h;exact⟨B,x,y,sh,bt,cA,e.bh,h1,h2,hd,q _ _ B H ag e (bV.refl _ _) (.bl _)⟩
theorem Ex{bO tb:bK}{ng:Bool}(aw:e' K bO bD)(ab:e' K tb bY):e' K (m6 (zX K ng) bO tb) (zZ ng bD bY):=
 qV aw ab λx y k h R W B H σ ρ v w Q e bt cA q=>by
  obtain⟨sh,es,aG,h1,h2,hd,ag⟩:=h;refine⟨B,x,es,sh,bt,?_,e.bh,h1,h2,hd,λb ab=>q _ _ B H (ag b ab) e (bV.refl _ _) (.bl _)⟩;rcases aG with rfl|rfl
  ·exact .inl cA
  ·exact .inr cA
theorem z2(bo:X.A.units+64<XZ)(aw:bn X a bD)(ab:bn X b bY)(av:XF .Eq b=false):iC X (.Compare a [.Eq] [b] pos) (pN (vV false bD bY)):=by
 obtain⟨_,h1,r1⟩:=aw;obtain⟨_,h2,r2⟩:=ab;exact⟨_,pC (Np bo) h1 h2 av,sD (Ew r1 r2)⟩
theorem Nv(bo:X.A.units+64<XZ)(aw:bn X a bD)(ab:bn X b bY)(av:XF .NotEq b=false):iC X (.Compare a [.NotEq] [b] pos) (pN (vV true bD bY)):=by
 obtain⟨_,h1,r1⟩:=aw;obtain⟨_,h2,r2⟩:=ab;exact⟨_,pC (Nq bo) h1 h2 av,sD (Ew r1 r2)⟩
theorem Ey(bo:X.A.units+64<XZ)(aw:bn X a bD)(ab:bn X b bY)(av:XF .NotIn b=false):bn X (.Compare a [.NotIn] [b] pos) (zZ true bD bY):=by
 obtain⟨_,h1,r1⟩:=aw;obtain⟨_,h2,r2⟩:=ab;exact⟨_,Do (Nu bo) h1 h2 av,Ex r1 r2⟩
theorem Ez(bo:X.A.units+64<XZ)(aw:bn X a bD)(ab:bn X b bY)(av:XF .In b=false):iC X (.Compare a [.In] [b] pos) (pN (zZ false bD bY)):=by
 obtain⟨_,h1,r1⟩:=aw;obtain⟨_,h2,r2⟩:=ab;exact⟨_,pC (Nt bo) h1 h2 av,sD (Ex r1 r2)⟩
end
end L3
namespace L3
open PySem L2
open PySem.Builtin.Int (intBits)
theorem Nw{K:F6}{P:Uf}{w:WP}{mg:Str->Option Tk}{base:XB}{x eh:Str}{st:XA}{f:TI}{fd:X3}{N ps:ZQ}{lv n:Nat}{F:cn}(sG:mi K x eh st f fd)(S:cM N ps (cd st))(aN:ps.length=n)(lm:∀(cdv:Tk) (A:Xv) (outer:List Vg) (s:Tl) (H:am) (E:gj),fw lv (A.deeper (V2 eh (cd st) s.heap.objs.size f cdv))->∃u,hp (mf kA P w K mg base N eh (cd st) f cdv A outer s H E).nox (kz st) u/\∀as k,as.length=n->F as k->u {nx:=λ_=>k (.val .non),rt:=k} (as++S0 (N.length-n) .no)):jK P w K mg base kA (lv+1) f fd ps (cl K n F):=by
 refine sG.ok S (λvs H Q E h=>?_) (λcdv A outer s H vs Q E ak h=>?_)
 ·obtain⟨W,B,as,k,_,ao,_,_,_,fN,_⟩:=h;rw[fN.length,ao,aN]
 ·obtain⟨W,B,as,k,kH,ao,ab,dI,hw,fN,q⟩:=h;obtain⟨u,⟨t,bQ,rt⟩,bo⟩:=lm cdv A outer s H E ak;have fl:=a0.start (N:=N) (WW ab) dI hw fN;rw[ao]at fl;refine⟨t,bQ,rt _ _ (bo as k ao kH) H W B H (L2.start N vs) _ fl ⟨λρ σ aC al h e g=>?_,λ_ _ _ _ h=>h.elim,λ_ _ _ _ h=>h.elim,λr v aC al h e g z=>q r v aC al h ⟨e,g,z⟩⟩⟩;exact q _ _ aC al h ⟨e.toWd,g,.non⟩
def vW(K:F6):hm:=λvs H Q _=>∃(a:TI)(ns:ZG),vs=[.ref a]/\cE K H a (ns.map V.int)/\ns.length<=63/\∀al,Q (.bl true) al
def EA:cn:=λas k=>∃ns:ZG,as=[.val (.scr ns)]/\ns.length<=63/\k (.val (.bl true))
theorem Nx{K:F6}{vs:ZJ}{H:am}{Q:cN}{E:gj}(h:vW K vs H Q E):cl K 1 EA vs H Q E:=by
 obtain⟨a,ns,rfl,ci,ao,q⟩:=h;refine⟨λ_=>False,H,[.val (.scr ns)],λr=>r=.val (.bl true),⟨ns,rfl,ao,rfl⟩,rfl,rfl,cF.refl _,λ_ z=>z.elim,.val (.scr ci) .nil,λr v aC al ak ex=>?_⟩;subst ak;have:=ex.res;rw[b3.blV this];exact q al
def EB(K:F6):hm:=λvs H Q _=>∃(a:TI)(k:Int)(ns:ZG),vs=[.ref a,.int k]/\cE K H a (ns.map V.int)/\0<=k/\∀z,Q (.int z) H
def EC:cn:=λas k=>∃(ns:ZG)(i:Int),as=[.val (.scr ns),.val (.int i)]/\0<=i/\∀z:Int,k (.val (.int z))
theorem Wd.entry{H B:am}{W:TI->Prop}(dI:cF B H)(hw:∀a,W a->B a=none/\hZ H a):Wd H W B H:=
 ⟨λ_ _ h _=>h,dI,λa h=>(hw a h).1,λa h=>(hw a h).2,λa h=>by obtain⟨x,y,q,_⟩:=(hw a h).2;rw[q];simp⟩
theorem Ny{K:F6}{vs:ZJ}{H:am}{Q:cN}{E:gj}(h:cl K 2 EC vs H Q E):EB K vs H Q E:=by
 obtain⟨W,B,as,k,⟨ns,i,rfl,au,ag⟩,ao,ab,dI,hw,fN,q⟩:=h;cases fN with
 |val r1 fN=>cases fN with
  |val r2 fN=>
   cases fN;obtain⟨a,rfl,aw⟩:=r1.scrV;cases r2.intV;exact⟨a,i,ns,rfl,dI.seq aw,au,λz=>q _ _ B H (ag z) ⟨Wd.entry dI hw,bV.refl _ _,.int z⟩⟩
def ED:hm:=λvs H Q _=>∃c:Int,vs=[.int c]/\∀(b:TI)(x y:Int),H b=none->0<=x->0<=y->y<2147483647->Q (.ref b) (upd H b (.lst [.int x,.int y]))
def EE:cn:=λas k=>∃c:Int,as=[.val (.int c)]/\k .bag
theorem Nz{K:F6}{vs:ZJ}{H:am}{Q:cN}{E:gj}(h:cl K 1 EE vs H Q E):ED vs H Q E:=by
 obtain⟨W,B,as,k,⟨c,rfl,ag⟩,ao,ab,dI,hw,fN,q⟩:=h;cases fN with
 |val r1 fN=>
  cases fN;cases r1.intV;refine⟨c,rfl,λb x y aN ce bZ bx=>?_⟩;have wd:=Wd.entry dI hw;exact q .bag _ B _ ag ⟨wd.allocH aN _,bV.refl _ _,b,rfl,aN,(wd.fresh aN).2.2,x,y,eP,ce,bZ,bx⟩
def EF(lim:Nat):hm:=λvs H Q _=>∃(b:TI)(m:Int),vs=[.ref b,.int m]/\hZ H b/\0<m/\wp m<=lim/\∀(r:Int)(al:am),ml b H al->hZ al b->0<=r->r<m->Q (.int r) al
def EG(lim:Nat):cn:=λas k=>∃m:Int,as=[.bag,.val (.int m)]/\0<m/\wp m<=lim/\∀r:Int,0<=r->r<m->k (.val (.int r))
theorem NA{K:F6}{lim:Nat}{vs:ZJ}{H:am}{Q:cN}{E:gj}(h:cl K 2 (EG lim) vs H Q E):EF lim vs H Q E:=by
 obtain⟨W,B,as,k,⟨m,rfl,dS,fu,ag⟩,ao,ab,dI,hw,fN,q⟩:=h;cases fN with
 |bag i4 fN=>cases fN with
  |val r2 fN=>
   cases fN;cases r2.intV
   rename_i b
   refine⟨b,m,rfl,(hw b i4).2,dS,fu,λr al ex h4 ha r1=>?_⟩;have wd:=Wd.entry dI hw;refine q _ _ B al (ag r ha r1) ⟨⟨λa o h1 h2=>ex a o (by rintro rfl;exact h2 i4) h1,λa o h1=>ex a o (by rintro rfl;rw[(hw _ i4).1]at h1;cases h1) (dI a o h1),wd.wb,λa z=>?_,wd.wr⟩,bV.refl _ _,.int r⟩;by_cases e:a=b
   ·subst e;exact h4
   ·obtain⟨x,y,h1,h2⟩:=(hw a z).2;exact⟨x,y,ex a _ e h1,h2⟩
theorem q0{c:Bool}{A B:Prop}(h:c=true)(a:A):if c=true then A else B:=by rw[SL h];exact a
theorem q1{c:Bool}{A B:Prop}(h:c=false)(b:B):if c=true then A else B:=by rw[h,SZ S6];exact b
theorem NB{x y:D}{A B:Prop}(h1:x≠y->A)(h2:x=y->B):if(!eqD x y)=true then A else B:=by
 by_cases h:x=y
 ·rw[sM.mpr h];exact h2 h
 ·have:eqD x y=false:=by
   cases q:eqD x y with
   |false=>rfl
   |true=>exact absurd (sM.mp q) h
  rw[this];exact h1 h
theorem c6{u:cX}{U:iB}{ρ r:ZL}(e:ρ=r)(h:u U r):u U ρ:=by rw[e];exact h
theorem oD{s t:cX}{U:iB}{ρ:ZL}(first:∀N:ZL->Prop,N ρ->s {U with nx:=N} ρ)(rest:t U ρ):sH s t U ρ:=first (t U) rest
theorem d8{s t:cX}{U:iB}{ρ:ZL}(I:ZL->Prop)(rest:∀bS,I bS->t U bS)(first:∀N:ZL->Prop,(∀bS,I bS->N bS)->s {U with nx:=N} ρ):sH s t U ρ:=first _ rest
end L3
namespace L3
open PySem L2
section
variable{X:aJ}
theorem h7{bv cs:List (Str×TI)}(h:∀p∈bv,cs.lookup p.1=some p.2):∀y c,bv.lookup y=some c->cs.lookup y=some c:=λy c e=>h (y,c) (Uq e)
theorem iF{names:List (Str×Y7)}{bv:List (Str×TI)}(h:(names.all λp => !(p.2==.cell||p.2==.free)||(bv.lookup p.1).isSome)=true):∀y,(names.lookup y=some .cell\/names.lookup y=some .free)->∃c,bv.lookup y=some c:=λy e=>by
 have key:∀k:Y7,(k==.cell||k==.free)=true->names.lookup y=some k->∃c,bv.lookup y=some c:=λk ag e=>by
  have q:=Vj.mp h (y,k) (Uq e);have q:(!(k==.cell||k==.free)||(bv.lookup y).isSome)=true:=q;rw[ag]at q;exact WM.mp (by simpa using q)
 rcases e with e|e
 ·exact key _ rfl e
 ·exact key _ rfl e
end
end L3
namespace L2
open PySem PySem.Spec PyProof.Rows
def oE(X:aJ)(ey:ZT)(tt:ff):Prop:=∀(pins:ZW)(s:Tl)(σ:St)(H:am)(Q:Bool->am->Prop),Inv X pins σ H s->tt σ H Q->
 wpAny (UF X.prog X.w) X.A (forIn ey true λt r=>if r=true then do let z <-Zo t X.env (XJ t X.env);pure (Vk z)else pure (Vk r)) (u0 X pins σ Q) X.xe s
def NC:ff:=λ_ H Q=>Q true H
theorem ND{X:aJ}:oE X [] NC:=λ_ _ _ H _ I h=>wpAny_tests_nil ⟨H,I,h⟩
theorem NE{X:aJ}{c:Wp}{tt:ff}(h:jj X c tt):oE X [c] tt:=λpins s σ H Q I q=>wpAny_tests_one (h pins s σ H Q I q)
theorem NF{P:Uf}{w:WP}{A:Xv}{R:Result->Tl->Prop}{s:Tl}{eU bA src:Wp}{ey:ZT}{sc:YG}{ps:Pos}{ob acc:Tk}{env:Vg}(sV:Nat->Tl->Prop)(n:Nat)(h0:sV n s)(turn:∀n s,sV n s->wpAny (UF P w) A (Yx ob) (λr az=>match r with
   |none=>R (.ok .next) az
   |some v=>wpAny (UF P w) A (Yt bA ob v) (λ_ sg=>wpAny (UF P w) A (Zj bA env v) (λ_ a3=>
     wpAny (UF P w) A (forIn ey true λt r=>if r=true then do let z <-Zo t env (XJ t env);pure (Vk z)else pure (Vk r)) (λz bR=>
      if z=true then wpAny (UF P w) A (XJ eU env) (λy gk=>wpAny (UF P w) A (call (.builtin "list.append") [acc,y]) (λ_ g2=>∃m,m<n/\sV m g2) (Zs (UF P w) A env λe s'=>R (.error e) s') gk) (Zs (UF P w) A env λe s'=>R (.error e) s') bR
      else ∃m,m<n/\sV m bR) (Zs (UF P w) A env λe s'=>R (.error e) s') a3) (Zs (UF P w) A env λe s'=>R (.error e) s') sg) (Zs (UF P w) A env λe s'=>R (.error e) s') az) (Zs (UF P w) A env λe s'=>R (.error e) s') s):
  codeAny (UF P w) A (.compLoop (.ListComp eU [⟨bA,src,ey,0⟩] sc ps) 0 ob acc env) R s:=by
 refine codeAny_loop rfl sV (λk s' aH=>?_) n h0;show wpAny _ A ((compTurn (.ListComp eU [⟨bA,src,ey,0⟩] sc ps) 0 ob acc env).onRaise (λz=>do noteFrame z env;theTreesLotGoes z)) _ _ s';rw[compTurn_list];refine wpAny_noted (SB (YH (SB (XN (turn k s' aH) (λr az h1=>?_) λ_ _ z=>z))));cases r with
 |none=>exact SC h1
 |some v=>
  refine SB (XN h1 (λ_ sg aD=>SB (XN aD (λ_ a3 h2=>SB (XN h2 (λz bR aF=>?_) λ_ _ q=>q)) λ_ _ q=>q)) λ_ _ q=>q);cases z with
  |false=>exact SC ⟨rfl,aF⟩
  |true=>exact SB (SB (XN aF (λy gk bj=>SB (XN bj (λ_ g2 c5=>SC (SC ⟨rfl,c5⟩)) λ_ _ q=>q)) λ_ _ q=>q))
def NG(J:hX)(g:hW)(tt:ff)(cH:bK)(NH:St)(D:TI)(ar:am)(Q:cN):Prop:=∃W:Nat->Nat->St->am->Prop,(∃m,W 0 m NH (upd ar D (.lst [])))/\∀i m σ H,W i m σ H->
 (J.stop i H/\Q (.ref D) H)\/(J.go i H/\∀x al,J.yld i H x al->g x σ al λqI a5=>tt qI a5 λb cI=>if b=true then cH qI cI λy mz=>∃ys,mz D=some (.lst ys)/\ys.length<TT/\∃m',m'<m/\W (i+1) m' qI (upd mz D (.lst (ys++[y])))else ∃m',m'<m/\W (i+1) m' qI cI)
def sW(gB:e8)(g:hW)(tt:ff)(cH:bK)(eV:Nat)(js:ZN):bK:=λσ H Q=>gB σ H λJ ar=>∀D,ar D=none->NG J g tt cH (S0 eV none++iZ σ js) D ar Q
section
variable{X:aJ}
structure q2 (X:aJ) (scope:YG) (bv:List (Str×TI)) (fr:ZQ) (js:ZN):Prop where
 clos:closureFor scope X.env=pure bv
 cell:∀y∈scope.names,y.2≠.cell
 kind:scope.kind=.function
 names:∀y∈scope.names,y.2=.local->scope.names.lookup y.1=some .local
 sub:∀y c,bv.lookup y=some c->X.env.cells.lookup y=some c
 has:∀y,((relabel scope X.env).names.lookup y=some .cell\/(relabel scope X.env).names.lookup y=some .free)->∃c,bv.lookup y=some c
 frn:∀(i:Nat)(y:Str),fr[i]?=some y->∃j:Nat,js[i]?=some j/\X.N[j]?=some y/\X.env.kindOf y=some .cell/\((relabel scope X.env).names.lookup y=some .cell\/(relabel scope X.env).names.lookup y=some .free)/\∃c,bv.lookup y=some c
 len:js.length=fr.length
theorem EH{eU dD bA:Wp}{ey:ZT}{pos:Pos}{scope:YG}{bv:List (Str×TI)}{ts fr:ZQ}{js:ZN}{gB:e8}{g:hW}{tt:ff}{cH:bK}{use:Option (Tk->Sem Unit)}{RQ:Tk->Tl->Prop}{QE:cN}(au:jH X bA dD gB)(aD:∀C s H ex,kt (eu X (ts++fr) scope bv C s H ex) bA g)(ly:∀C s H ex,oE (eu X (ts++fr) scope bv C s H ex) ey tt)(lz:∀C s H ex,b6 (eu X (ts++fr) scope bv C s H ex) eU cH)(F:q2 X scope bv fr js)(hc:X.calm=true)(aj:∀v,Xu dD X.env v=pure v){pins:ZW}{s:Tl}{σ:St}{H:am}(I:Inv X pins σ H s)(h:sW gB g tt cH ts.length js σ H QE)(EI:Sem Tk)(NI:EI=newList [])(EJ:Pos)(mA:∀(D C:TI) (gL:am) (iW:Tl) (m:Str->Option Tk),iW.heap.Ns C m->gL C=none->C≠X.env.locals->X.s₀.heap.objs.size<=C->(∀x c,X.env.cells.lookup x=some c->c≠C)->(∀p∈X.pn++pins,p.1≠C)->C∉X.fs->(∀h':XB,(∀b u,b≠C->iW.heap.get? b=some u->h'.get? b=some u)->Inv X pins σ gL {iW with heap:=h' })->QE (.ref D) gL->compPost (UF X.prog X.w) X.A X.xe use RQ (.ref D) C (.ok .next) iW):
  wpAny (UF X.prog X.w) X.A (comprehension (.ListComp eU [⟨bA,dD,ey,0⟩] scope pos) scope X.env EJ EI false (XJ dD X.env) use) RQ X.xe s:=by
 refine wpAny_comprehension_free (use:=use) rfl aj F.clos F.kind F.names (cc (au pins s σ H _ I h) λagf az h1=>cc h1 λob a3 h2=>?_);obtain⟨it,cz,iu,J,a5,rfl,dM,T,m5,a',h2⟩:=h2;have jo:a5 a3.heap.objs.size=none:=dM.fresh;obtain⟨W,⟨dS,w0⟩,turn⟩:=h2 _ jo;rw[NI];refine T0 ?_;have dc:Inv X pins σ (upd a5 a3.heap.objs.size (.lst [])) {a3 with heap:=a3.heap.push {cls:=.type "list",data:=.seq ([]:ZR).toArray} }:=dM.lnew (t':=a3.toks) (its:=[]) .nil uR;generalize q3:({a3 with heap:=a3.heap.push {cls:=.type "list",data:=.seq ([]:ZR).toArray} }:Tl)=bR at dc;have br:bR.heap=a3.heap.push {cls:=.type "list",data:=.seq ([]:ZR).toArray}:=by rw[<-q3]
 generalize EK:upd a5 a3.heap.objs.size (.lst [])=cI at dc w0;generalize NJ:a3.heap.objs.size=D at jo EK w0 turn;have gt:∀b o,a3.heap.get? b=some o->bR.heap.get? b=some o:=λb o e=>by rw[br];exact Heap.get?_push_of_some _ e
 have bP:∀b∈cz,jG X pins cI b:=λb ab=>by
  obtain⟨o,aB,_⟩:=T.obj _ _ m5 b ab;have lt:=Heap.lt_size aB;refine⟨?_,(a' b ab).2⟩;rw[<-EK,de (by rw[<-NJ];exact S3 lt)];exact(a' b ab).1
 refine wpAny_newFunctionEnv F.cell (by intro y aG;simp at aG) (λh1 oi NK=>?_) F.kind;have NL:bR.heap.get? bR.heap.objs.size=none:=Heap.get?_none_of_le (Sx _);have j':∀b o,bR.heap.get? b=some o->h1.get? b=some o:=λb o e=>NK.extBut b o (S3 (Heap.lt_size e)) (Heap.get?_push_of_some _ e);show codeAny (UF X.prog X.w) X.A (.compStart (.ListComp eU [⟨bA,dD,ey,0⟩] scope pos) 0 (.ref it) (.ref D) (ZD scope bv bR.heap.objs.size X.env)) (compPost (UF X.prog X.w) X.A X.xe use RQ (.ref D) bR.heap.objs.size) _
 have ok:(eu X (ts++fr) scope bv bR.heap.objs.size bR cI cz).Ok:=by
  refine⟨dc.ok.mod,F.kind,dc.ok.glob,dc.ok.blt,Sx _,λy z c ai ap=>dc.ok.inj y z c (F.sub _ _ ai) (F.sub _ _ ap),λy aG=>F.has y aG,λy c z=>absurd z S6,dc.ok.hd,dc.ok.frames,.inl rfl,λb ab=>?_,dc.bs,SA dc.ok.bsz dc.sz,
   λb o e ab=>?_,λb ab bf=>?_,dc.stack,dc.stkFree⟩
  ·obtain⟨o,aB,_⟩:=T.obj _ _ m5 b ab;exact⟨S3 (Heap.lt_size (gt b o aB)),λy c e=>(bP b ab).2.2.2.2.1 y c (F.sub _ _ e)⟩
  ·obtain⟨_,_,_,z,_⟩:=bP b ab;rcases z with z|z
   ·exact dc.ok.noex b o e z
   ·exact absurd (Tf (Heap.lt_size (dc.ok.bs b o e).1) z) (Tx _)
  ·rcases SG.mp (dc.stkSub b bf)with z|z
   ·exact(bP b ab).2.1 z
   ·exact(bP b ab).2.2.1 z
 have NM:∀(dE:XB),(∀b u,bR.heap.get? b=some u->dE.get? b=some u)->∀(i:Nat)(y:Str)(v:V),fr[i]?=some y->(iZ σ js)[i]?=some (some v)->∃u,RelV v u/\∀m,Look (ZD scope bv bR.heap.objs.size X.env) dE m y u:=λdE aL i y v ai ap=>by
  obtain⟨j,NN,sX,ag,NO,c,vX⟩:=F.frn i y ai
  have NP:σ[j]?=some (some v):=by
   unfold iZ at ap;rw[S4,NN,UJ]at ap;have ap:=SU ap;cases q:σ[j]? with
   |none=>rw[q]at ap;simp at ap
   |some z=>rw[q]at ap;simpa using ap
  obtain⟨m,aN,ao⟩:=dc.loc;obtain⟨u,r,l⟩:=ao j y v sX NP (.inr (.inl ag));refine⟨u,r,λm'=>.inr ⟨NO,c,vX,?_⟩⟩;rcases l with⟨z,_⟩|⟨_,c',j2,NQ⟩
  ·rw[ag]at z;cases z
  ·have e:=F.sub _ _ vX;rw[j2]at e;cases e;obtain⟨oF,aO,bz⟩:=NQ;exact⟨oF,aL _ _ aO,bz⟩
 have ku:Inv (eu X (ts++fr) scope bv bR.heap.objs.size bR cI cz) [] (S0 ts.length none++iZ σ js) cI {bR with heap:=h1,toks:=bR.toks+([]:List (Str×Tk)).length}:=by
  refine⟨ok,rfl,dc.bare,f2.kept j',⟨_,oi,λi y v ai ap br=>?_⟩,λy c e=>?_,dc.fresh,λy c e=>dc.freeC y c (F.sub _ _ e),λp ae=>absurd (show p∈([]:ZW)from ae) (by simp),dc.hok.kept j',?_⟩
  ·by_cases dF:i<ts.length
   ·rw[TC (by simpa using dF),Ur,SL dF]at ap;cases ap
   ·have ai:(ts++fr)[i]?=some y:=ai;rw[To (by lia)]at ai;rw[To (by simp;lia),T9]at ap;obtain⟨u,r,l⟩:=NM h1 j' _ y v ai ap;exact⟨u,r,l _⟩
  ·obtain⟨v,oF,aO,bz⟩:=dc.cell y c (F.sub _ _ e);exact⟨v,oF,j' _ _ aO,bz⟩
  ·show _=(ts++fr).length
   rw[SH,SH,T9];unfold iZ;rw[Sw,F.len]
 have pA:∀{al:am},(∀b∈cz,al b=none)->∀b∈cz,jG (eu X (ts++fr) scope bv bR.heap.objs.size bR cI cz) [] al b:=λaN b ab=>by
  obtain⟨o,aB,_⟩:=T.obj _ _ m5 b ab;exact⟨aN b ab,(ok.exf b ab).1,ok.exfs b ab,.inl ab,(ok.exf b ab).2,λp ae=>absurd (show p∈([]:ZW)from ae) (by simp)⟩
 have loop:∀gk:Tl,gk={bR with heap:=h1,toks:=bR.toks+([]:List (Str×Tk)).length}->
   codeAny (UF X.prog X.w) X.A (.compLoop (.ListComp eU [⟨bA,dD,ey,0⟩] scope pos) 0 (.ref it) (.ref D) (ZD scope bv bR.heap.objs.size X.env)) (compPost (UF X.prog X.w) X.A X.xe use RQ (.ref D) bR.heap.objs.size) gk:=by
  intro gk cW;rw[<-cW]at ku;have NR:iu 0 gk.heap:=T.keep _ _ _ m5 λb _ o e=>by rw[cW];exact j' b o (gt b o e)
  refine NF (λn s'=>∃i bq al,Inv (eu X (ts++fr) scope bv bR.heap.objs.size bR cI cz) [] bq al s'/\iu i s'.heap/\(∀b∈cz,al b=none)/\W i n bq al) dS ⟨0,_,cI,ku,NR,λb ab=>(bP b ab).1,w0⟩ ?_;rintro n g2 ⟨i,vY,gL,pz,qJ,u',NS⟩;rcases turn i n vY gL NS with⟨stop,q⟩|⟨go,step⟩
  ·refine cc (T.done (eu X (ts++fr) scope bv bR.heap.objs.size bR cI cz) rfl rfl rfl hc i [] g2 vY gL _ pz (pA u') qJ stop) λr iW ⟨ak,kv⟩=>?_;subst ak;obtain⟨m,aN,_⟩:=id kv.loc;refine mA D bR.heap.objs.size gL iW m aN kv.free (UA dc.lt) dc.sz (λy c e z=>?_) (λp ae z=>?_) (dc.nofs (Sx _)) (λh' vZ=>?_) q
   ·obtain⟨v,oF,aO,bz⟩:=dc.cell y c e;exact absurd (Heap.lt_size aO) (by rw[z];exact Tx _)
   ·exact absurd (Heap.lt_size (dc.pin p ae).1) (by rw[z];exact Tx _)
   ·refine dc.call' (s':={iW with heap:=h' }) (ch:=cz) kv.os ((show f2 (kq X.stack) cz cI gL bR.heap iW.heap from kv.base).but NL vZ) (kv.hok.but kv.free vZ) kv.bare (λb ab=>?_);obtain⟨_,z1,_,eI,eJ,lA⟩:=bP b ab;exact⟨eI,z1,eJ,lA⟩
  ·refine cc (T.item (eu X (ts++fr) scope bv bR.heap.objs.size bR cI cz) rfl rfl rfl hc i [] g2 vY gL _ pz (pA u') qJ go) λr iW ⟨u,ak,fX⟩=>?_;subst ak;refine cc fX λ_ j4 ⟨v,jI,iX,y8,NT,z3,NU⟩=>?_;have NV:=iX.pinned (pA NU) (T.obj _ _ z3)
   have back:∀{q4:Tl}{v2:St}{q5:am}{n':Nat},Inv (eu X (ts++fr) scope bv bR.heap.objs.size bR cI cz) ([]++sf cz j4.heap) v2 q5 q4->W (i+1) n' v2 q5->∃i bq al,Inv (eu X (ts++fr) scope bv bR.heap.objs.size bR cI cz) [] bq al q4/\iu i q4.heap/\(∀b∈cz,al b=none)/\W i n' bq al:=λ{q4 v2 q5 n'} q6 z4=>by
    refine⟨i+1,v2,q5,q6.unpinned (pins:=[]),T.keep _ _ _ z3 λb ab oF hb=>(q6.pin (b,oF) (Ts _ (Ts _ (u8 ab hb)))).1,λb ab=>?_,z4⟩;obtain⟨oF,hb,_⟩:=T.obj _ _ z3 b ab;exact(q6.pin (b,oF) (Ts _ (Ts _ (u8 ab hb)))).2.1
   refine XN (aD bR.heap.objs.size bR cI cz _ j4 vY jI v u _ NV y8 (step v jI NT)) (λ_ NW ⟨NX,NY,NZ,sY⟩=>?_) (λ_ _ z=>z.elim);refine XN (ly bR.heap.objs.size bR cI cz _ NW NX NY _ NZ sY) (λb q4 ⟨q5,q6,q7⟩=>?_) (λ_ _ z=>z.elim);cases b with
   |false=>
    rw[SZ S6]at q7⊢;obtain⟨m',h8,z4⟩:=q7;exact⟨m',h8,back q6 z4⟩
   |true=>
    rw[SL rfl]at q7⊢;refine XN (lz bR.heap.objs.size bR cI cz _ q4 _ q5 _ q6 q7) (λN0 N1 ⟨y,EL,N2,N3,ys,N4,N5,m',h8,N6⟩=>?_) (λ_ _ z=>z.elim);have mt:=zq (X:=eu X (ts++fr) scope bv bR.heap.objs.size bR cI cz) _ N1 _ EL (.ref D) [y] (.ref D) [N0] (λ_ al=>al=upd EL D (.lst (ys++[y]))) N2 rfl (.cons N3 .nil) ⟨D,ys,y,rfl,rfl,N4,N5,rfl⟩;refine XN mt (λ_ agg ⟨_,agh,N7,_,v3⟩=>?_) (λ_ _ z=>z.elim);subst v3;exact⟨m',h8,back N7 N6⟩
 exact codeAny_compStart_list (loop _ rfl) (T.self _ 0 _ _ _ (T.keep _ _ _ m5 λb _ o e=>j' b o (gt b o e)) (loop _ rfl))
theorem EM{eU dD bA:Wp}{ey:ZT}{pos:Pos}{scope:YG}{bv:List (Str×TI)}{ts fr:ZQ}{js:ZN}{gB:e8}{g:hW}{tt:ff}{cH:bK}(au:jH X bA dD gB)(aD:∀C s H ex,kt (eu X (ts++fr) scope bv C s H ex) bA g)(ly:∀C s H ex,oE (eu X (ts++fr) scope bv C s H ex) ey tt)(lz:∀C s H ex,b6 (eu X (ts++fr) scope bv C s H ex) eU cH)(F:q2 X scope bv fr js)(hc:X.calm=true)(aj:∀v,Xu dD X.env v=pure v):b6 X (.ListComp eU [⟨bA,dD,ey,0⟩] scope pos) (sW gB g tt cH ts.length js):=by
 intro pins s σ H Q I h;rw[eval_ListComp];refine EH au aD ly lz F hc aj I h _ rfl _ λD C gL iW m aN _ _ _ _ _ _ iv q=>⟨m,aN,λh' fb=>⟨.ref D,gL,iv h' λb u ab e=>fb.extBut b u ab e,rfl,q⟩⟩
theorem N8{eU dD bA:Wp}{ey:ZT}{pos:Pos}{scope:YG}{bv:List (Str×TI)}{ts fr:ZQ}{js:ZN}{gB:e8}{g:hW}{tt:ff}{cH:bK}{i:Nat}{y:Str}{jm sZ:Pos}(bi:X.N.Nodup)(z5:X.N[i]?=some y)(aG:X.env.scope.names.lookup y=some .local)(au:jH X bA dD gB)(aD:∀C s H ex,kt (eu X (ts++fr) scope bv C s H ex) bA g)(ly:∀C s H ex,oE (eu X (ts++fr) scope bv C s H ex) ey tt)(lz:∀C s H ex,b6 (eu X (ts++fr) scope bv C s H ex) eU cH)(F:q2 X scope bv fr js)(hc:X.calm=true)(aj:∀v,Xu dD X.env v=pure v)(nr:XE (.ListComp eU [⟨bA,dD,ey,0⟩] scope pos) (some (.Name y jm)) sZ.line X.env=pure true):
  jk X (.Assign [.Name y jm] (.ListComp eU [⟨bA,dD,ey,0⟩] scope pos) sZ) (y3 (sW gB g tt cH ts.length js) (u6 i)):=by
 intro pins s σ H D I h;rw[exec_Assign_Name_used _ _ _ _ nr];refine SB (YH (SB ?_));show wpAny _ X.A (do let _ <-comprehension (.ListComp eU [⟨bA,dD,ey,0⟩] scope pos) scope X.env _ (newList []) false (XJ dD X.env) (some (Zj (.Name y jm) X.env))) _ _ s
 refine SB (cc (EH (RQ:=λ_ s'=>∃bq al,Inv X pins bq al s'/\D.nx bq al) (QE:=λv ar=>u6 i v σ ar D.nx) au aD ly lz F hc aj I h _ rfl _ ?_) λ_ s' q=>SC (SC q));intro L C gL iW m aN bf e1 ky vX N9 Oa iv q;obtain⟨o,es,ep,aB,hd,r⟩:=id aN;have kv:Inv X pins σ gL iW:=iv iW.heap λb u _ e=>e
 have Ob:Inv X (pins++[(C,o)]) σ gL iW:=kv.pins_of λp ae=>by
  rcases SR.mp ae with z|z
  ·exact kv.pin p (Ts _ z)
  ·have z:p=(C,o):=by simpa using z
   subst z;exact⟨aB,bf,e1,Oa,λv z=>by rw[hd]at z;cases z⟩
 show wpAny _ X.A (Zj (.Name y jm) X.env (.ref L)) _ _ _
 refine wpAny_assign_Name (qE Ob bi z5 (.inl aG) (v:=.ref L) rfl (λj4 iX=>?_) (.inr aG));have q8:j4.heap.get? C=some o:=(iX.pin (C,o) (Ts _ (Ts _ (SM.mpr rfl)))).1;refine⟨m,⟨o,es,ep,q8,hd,r⟩,λh' fb=>⟨_,gL,?_,q⟩⟩;exact iX.unpinned.turned (t':=j4.toks) (λb u ab e=>fb.extBut b u ab e) bf e1 (.inr ky) vX N9
end
end L2
namespace L3
open PySem L2
def he(g:gd)(ez:dW)(u:a9):ZK->ZL->(ZK->Prop)->Prop
 |[],_,k=>k []
 |d::ds,ρ,k=>g d ρ λgF=>ez gF λb=>if b=true then u gF λy=>he g ez u ds gF λys=>k (y::ys)else he g ez u ds gF k
def ka:dW:=λ_ k=>k true
def s0(w:cZ)(g:gd)(ez:dW)(u:a9)(eV:Nat)(js:ZN):cZ:=λρ k=>w ρ λds=>ds.length<=TT/\he g ez u ds (S0 eV .no++js.map (lr ρ)) k
section
variable{K:F6}{X:aJ}{e:Wp}{es:ZT}{u:a9}{w:cZ}{pos p:Pos}
theorem z6{ρ:ZL}(j:Nat):lr ρ j=.no\/(∃d,lr ρ j=.val d/\ρ[j]?=some (.val d))\/(lr ρ j=.bag/\ρ[j]?=some .bag):=by
 unfold lr;split
 ·rename_i d b8;exact .inr (.inl ⟨d,rfl,b8⟩)
 ·rename_i b8;exact .inr (.inr ⟨rfl,b8⟩)
 ·exact .inl rfl
theorem a0.within{R:am}{W:TI->Prop}{B H:am}{σ:St}{ρ:ZL}(e:a0 K R W B H σ ρ)(eV:Nat){js:ZN}(s1:js.Nodup):
  a0 K H (λa=>∃j,j∈js/\σ[j]?=some (some (.ref a))/\ρ[j]?=some .bag) B H (S0 eV none++iZ σ js) (S0 eV .no++js.map (lr ρ)):=by
 have h4:∀(a:TI)(j:Nat),σ[j]?=some (some (V.ref a))->ρ[j]?=some aQ.bag->B a=none/\hZ H a:=λa j z1 aY=>by
  obtain⟨c,c1,_,c3,c4⟩:=e.bagAt aY;rw[z1]at c1;cases c1;exact⟨c3,c4⟩
 refine⟨⟨λ_ _ z _=>z,e.bh,λa ⟨j,_,z1,aY⟩=>(h4 a j z1 aY).1,λa ⟨j,_,z1,aY⟩=>(h4 a j z1 aY).2,λa ⟨j,_,z1,aY⟩=>?_⟩,?_,λn aL ag=>?_,λn m a bm bJ=>?_⟩
 ·obtain⟨x,y,q,_⟩:=(h4 a j z1 aY).2;rw[q];simp
 ·unfold iZ;simp
 ·by_cases dF:n<eV
  ·rw[TC (by simpa using dF),Ur,SL dF]at ag;cases ag;trivial
  ·rw[To (by simp;lia),T9,S4]at ag;cases jR:js[n-eV]? with
   |none=>rw[jR]at ag;cases ag
   |some j=>
    rw[jR]at ag;have ag:=SU ag
    have z7:((S0 eV none++iZ σ js)[n]?).join=(σ[j]?).join:=by
     rw[To (by simp;lia),T9];unfold iZ;rw[S4,jR];rfl
    rw[z7,<-ag];rcases z6 (ρ:=ρ) j with z|⟨h6,z,b8⟩|⟨z,b8⟩<;>rw[z]
    ·trivial
    ·obtain⟨v,v1,ev⟩:=e.ok j _ b8;exact⟨v,v1,ev⟩
    ·obtain⟨c,c1,_,c3,c4⟩:=e.ok j _ b8;exact⟨c,c1,.inl ⟨j,Tt jR,hG c1,b8⟩,c3,c4⟩
 ·have back:∀n,cQ (S0 eV none++iZ σ js) (S0 eV .no++js.map (lr ρ)) n a->∃j,eV<=n/\js[n-eV]?=some j/\cQ σ ρ j a:=λn bL=>by
   rcases bL with⟨bm,bJ⟩|⟨c,bm,_⟩
   rotate_left
   ·by_cases dF:n<eV
    ·rw[TC (by simpa using dF),Ur,SL dF]at bm;cases bm
    ·rw[To (by simp;lia),T9,S4]at bm;cases jR:js[n-eV]? with
     |none=>rw[jR]at bm;cases bm
     |some j=>
      rw[jR,UJ]at bm;rcases z6 (ρ:=ρ) j with z|⟨h6,z,b8⟩|⟨z,b8⟩<;>rw[z]at bm<;>cases bm
   by_cases dF:n<eV
   ·rw[TC (by simpa using dF),Ur,SL dF]at bm;cases bm
   ·rw[To (by simp;lia),T9]at bm;obtain⟨j,jR,Oc⟩:=Nf bm;rw[To (by simp;lia),T9,S4,jR]at bJ;refine⟨j,by lia,jR,.inl ⟨hG Oc.symm,.inl ?_⟩⟩;rcases z6 (ρ:=ρ) j with z|⟨h6,z,b8⟩|⟨z,b8⟩
    ·rw[UJ,z]at bJ;rcases bJ with q|⟨_,q⟩<;>cases q
    ·rw[UJ,z]at bJ;rcases bJ with q|⟨_,q⟩<;>cases q
    ·exact b8
  obtain⟨j,a6,jR,Od⟩:=back n bm;obtain⟨z8,a7,Oe,Of⟩:=back m bJ;have:=e.sep j z8 a Od Of;subst this
  have df:n-eV<js.length:=by
   by_cases z:n-eV<js.length
   ·exact z
   ·rw[Th (by lia)]at jR;cases jR
  have:=(W0 df s1).mp (jR.trans Oe.symm);lia
theorem EN{R:am}{W:TI->Prop}{B:am}{a:TI}{vs:ZJ}(h:R a=some (.lst vs))(f4:¬W a):jN R W B a=some (.lst vs):=by
 unfold jN;rw[h];dsimp only;rw[SZ f4]
theorem Og{R:am}{W:TI->Prop}{B:am}{a:TI}(h:∀vs,R a≠some (.lst vs)):jN R W B a=B a:=by
 unfold jN;split
 ·rename_i vs e;exact absurd e (h vs)
 ·rfl
theorem EO{R:am}{W:TI->Prop}{B:am}{a:TI}{o:e6}(h:jN R W B a=some o):B a=some o\/(¬W a/\R a=some o/\∃vs,o=.lst vs):=by
 unfold jN at h;split at h
 ·rename_i vs e
  split at h
  ·exact .inl h
  ·rename_i z;cases h;exact .inr ⟨z,e,vs,rfl⟩
 ·exact .inl h
theorem Oh{R:am}{W:TI->Prop}{B H:am}(w:Wd R W B H):cF (jN R W B) H:=λa o h=>by
 rcases EO h with h|⟨h1,h2,_⟩
 ·exact w.bh a o h
 ·exact w.fr a o h2 h1
theorem EP{R:am}{W nj:TI->Prop}{B aC H:am}(w:Wd R W B H)(s:cF B aC)(dI:cF aC H)(hw:∀a,nj a->R a≠none->W a)(ab:∀a,nj a->aC a=none):cF (jN R W B) (jN H nj aC):=λa o h=>by
 have eS:=Oh w a o h;rcases EO h with h|⟨h1,h2,vs,rfl⟩
 ·have h':=s a o h;by_cases z:nj a
  ·rw[ab a z]at h';cases h'
  ·by_cases q:∃vs,H a=some (.lst vs)
   ·obtain⟨vs,q⟩:=q;rw[eS]at q;cases q;exact EN eS z
   ·rw[Og λvs e=>q ⟨vs,e⟩];exact h'
 ·exact EN eS λz=>h1 (hw a z (by rw[h2];simp))
theorem a0.rebase{R:am}{W:TI->Prop}{B H:am}{σ:St}{ρ:ZL}(e:a0 K R W B H σ ρ)(av:∀j a,cQ σ ρ j a->W a):a0 K H W B H σ ρ:=by
 refine⟨⟨λ_ _ z _=>z,e.bh,e.wb,e.wh,λa z=>by obtain⟨g8,fk,io,_⟩:=e.wh a z;rw[io];simp⟩,e.len,λj aL b8=>?_,e.sep⟩;have:=e.ok j aL b8;cases aL with
 |no=>trivial
 |new d=>
  obtain⟨v,h1,h2⟩:=this;exact⟨v,h1,h2.mono (EP e.toWd (cF.refl _) e.bh (λ_ z _=>z) e.wb)⟩
 |pin v d=>exact⟨this.1,this.2.mono (EP e.toWd (cF.refl _) e.bh (λ_ z _=>z) e.wb)⟩
 |val d=>exact this
 |own ds=>
  obtain⟨a,aO,bz,_⟩:=this;exact absurd bz (e.wr a (av j a (.inl ⟨hG aO,.inr ⟨ds,b8⟩⟩)))
 |deep c=>exact absurd (this.2.fr _ Sv).1 (e.wr _ (av j _ (.inr ⟨c,b8,Sv⟩)))
 |bag=>
  obtain⟨c,c1,c2,c3,c4⟩:=this;exact⟨c,c1,.inl (av j c (.inl ⟨hG c1,.inl b8⟩)),c3,c4⟩
theorem a0.unbase{R:am}{W:TI->Prop}{B H aC al:am}{σ:St}{ρ:ZL}(e:a0 K R W B H σ ρ)(av:∀j a,cQ σ ρ j a->W a)(aW:a0 K H W aC al σ ρ)(g:bV H B aC):a0 K R W aC al σ ρ/\bV R B aC:=by
 refine⟨⟨⟨λa o z f4=>aW.fr a o (e.fr a o z f4) f4,aW.bh,aW.wb,aW.wh,e.wr⟩,aW.len,λj aL b8=>?_,aW.sep⟩,⟨g.s,λa o z=>?_⟩⟩
 ·have:=aW.ok j aL b8;cases aL with
  |no=>trivial
  |new d=>
   obtain⟨v,h1,h2⟩:=e.ok j _ b8;exact⟨v,h1,h2.mono (vy g.s)⟩
  |pin v d=>
   obtain⟨h1,h2⟩:=e.ok j _ b8;exact⟨h1,h2.mono (vy g.s)⟩
  |val d=>exact this
  |own ds=>
   obtain⟨a,aO,bz,_⟩:=e.ok j _ b8;exact absurd bz (e.wr a (av j a (.inl ⟨hG aO,.inr ⟨ds,b8⟩⟩)))
  |deep c=>exact absurd ((e.deepAt b8).2.fr _ Sv).1 (e.wr _ (av j _ (.inr ⟨c,b8,Sv⟩)))
  |bag=>
   obtain⟨c,c1,c2,c3,c4⟩:=this;exact⟨c,c1,.inl (av j c (.inl ⟨hG c1,.inl b8⟩)),c3,c4⟩
 ·rcases g.n a o z with q|q
  ·exact .inl q
  ·exact .inr (e.toWd.fresh q).1
theorem EQ{gB:e8}{g:hW}{tt:ff}{cH:bK}{gT:gd}{ez:dW}{eV:Nat}{js:ZN}(h0:D5 K gB w)(aD:sB K g gT)(bQ:i2 K tt ez)(h1:e' K cH u)(s1:js.Nodup):vA K (sW gB g tt cH eV js) (s0 w gT ez u eV js):=by
 intro ρ k h R W B H σ Q e q;refine h0 ρ _ h R W B H σ _ e λds J bd ar z1 ai aI it=>?_;obtain⟨ao,z1⟩:=z1;intro D jo;obtain⟨a4,a',bP⟩:=ai.toWd.fresh jo;have s2:∀i,¬cQ σ ρ i D:=λi m=>ai.notNew jo m rfl;have ei:=ai.within eV s1
 have pR:∀j a,cQ (S0 eV none++iZ σ js) (S0 eV .no++js.map (lr ρ)) j a->∃j,j∈js/\σ[j]?=some (some (V.ref a))/\ρ[j]?=some aQ.bag:=λj a m=>by
  have bz:=(ei.mutOk m).2;rcases m with⟨bm,z|⟨es,z⟩⟩|⟨c,z,sw⟩
  ·obtain⟨c,c1,c2,_⟩:=ei.bagAt z;rw[bm]at c1;cases c1;rcases c2 with c2|c2
   ·exact c2
   ·exact absurd c2 bz
  ·obtain⟨c,c1,c2,_⟩:=ei.ownC z;rw[bm]at c1;cases c1;exact absurd c2 bz
  ·exact absurd ((ei.deepAt z).2.fr a sw).1 bz
 generalize s3:(λa=>∃j,j∈js/\σ[j]?=some (some (V.ref a))/\ρ[j]?=some aQ.bag)=hL at ei;have pR:∀j a,cQ (S0 eV none++iZ σ js) (S0 eV .no++js.map (lr ρ)) j a->hL a:=λj a m=>by rw[<-s3];exact pR j a m
 have i4:∀a,hL a->∃i:Nat,σ[i]?=some (some (.ref a))/\ρ[i]?=some .bag:=λa z=>by
  rw[<-s3]at z;obtain⟨j,_,z⟩:=z;exact⟨j,z⟩
 have pS:¬hL D:=λz=>by
  obtain⟨oG,bx,dH⟩:=i4 D z;exact s2 oG (.inl ⟨bx,.inl dH⟩)
 refine⟨λi m nu al=>∃aC ys es lB,m=ds.length-i/\i<=ds.length/\a0 K ar hL aC al nu lB/\bV ar bd aC/\al D=some (.lst ys)/\aC D=none/\(∀j a,cQ nu lB j a->hL a)/\ys.length<=i/\Reps K aC ys es/\he gT ez u (ds.drop i) lB λr=>k (es++r),
  ⟨ds.length,bd,[],[],_,by simp,S8 _,ei.allocH jo _,bV.refl _ _,eP,bP,pR,Sx _,.nil,by simpa using z1⟩,?_⟩
 rintro i m nu a5 ⟨ca,ys,es,lB,rfl,au,ap,aP,aG,ab,z9,Oi,cA,aY⟩;obtain⟨ew,cP,fx⟩:=it a5 (aP.s.trans ap.bh) i;by_cases dF:i<ds.length
 ·refine .inr ⟨ew dF,λx al y=>?_⟩;obtain⟨rfl,d,hd,bt⟩:=fx x al dF y
  have hK:ds.drop i=d::ds.drop (i+1):=by
   rw[UI dF];rw[S5 dF]at hd;rw[SU hd]
  rw[hK]at aY;refine aD d lB _ aY ar hL ca al nu x _ ap (bt.mono aP.s) λlC hE eI br bL=>?_;have kb:∀j a,cQ hE lC j a->hL a:=λj a m=>z9 j a (bL j a m)
  have pT:∀{jt:am},bV al ca jt->jt D=none:=λ{jt} el=>by
   cases z':jt D with
   |none=>rfl
   |some o=>
    rcases el.n D o z' with z|z
    ·rw[ab]at z;cases z
    ·rw[aG]at z;cases z
  refine bQ lC _ eI al hL ca al hE _ (br.rebase kb) λb jt mz eJ cW el=>?_;have Aa:mz D=some (.lst ys):=cW.fr D _ aG pS;cases b with
  |false=>
   rw[SZ S6]at eJ⊢;obtain⟨f5,nv⟩:=br.unbase kb cW el;exact⟨ds.length-(i+1),by lia,jt,ys,es,lC,rfl,dF,f5,aP.trans nv,Aa,pT el,kb,by lia,cA.mono el.s,eJ⟩
  |true=>
   rw[SL rfl]at eJ⊢;refine h1 lC _ eJ al hL jt mz hE _ cW λfk v Ab gL lA f5 nv g2=>?_;have nw:=el.trans nv;have Ac:gL D=some (.lst ys):=f5.fr D _ aG pS;obtain⟨kD,Ad⟩:=br.unbase kb f5 nw;refine⟨ys,Ac,by lia,ds.length-(i+1),by lia,Ab,ys++[v],es++[fk],lC,rfl,dF,kD.scribble jo (pT nw) (λj m=>pS (kb j D m)) _,aP.trans Ad,eP,pT nw,kb,by rw[SH,TK];lia,(cA.mono nw.s).append (.cons g2 .nil),?_⟩;simpa[S7]using lA
 ·have eq:i=ds.length:=by lia
  subst eq;rw[U0]at aY;obtain⟨cW,el⟩:=ai.after i4 ap.toWd aP;refine .inl ⟨cP (Sx _),q _ D ys ca a5 (by simpa[he]using aY) cW (aI.trans el) a4 ab aG cA s2⟩
def q9(X:aJ)(ey:ZT)(ez:dW):Prop:=∃t,oE X ey t/\i2 X.K t ez
theorem ju:q9 X [] ka:=⟨_,ND,λρ k h R W B H σ Q e q=>q true B H h e (bV.refl _ _)⟩
theorem ER{c:Wp}{ez:dW}(h:iC X c ez):q9 X [c] ez:=by
 obtain⟨_,h1,r1⟩:=h;exact⟨_,NE h1,r1⟩
theorem Ae{eU:Wp}{α:Type}{Xs:α->aJ}(eG:∀a,(Xs a).K=K)(h:∀a,bn (Xs a) eU u):∃t,(∀a,b6 (Xs a) eU t)/\e' K t u:=by
 refine⟨λσ H Q=>∀a,∃t,b6 (Xs a) eU t/\e' K t u/\t σ H Q,λa pins s σ H Q I q=>?_,λρ k q R W B H σ Q e z a=>?_⟩
 ·obtain⟨t,bQ,_,ay⟩:=q a;exact bQ pins s σ H Q I ay
 ·obtain⟨t,bQ,ak⟩:=h a;rw[eG a]at ak;exact⟨t,bQ,ak,ak ρ k q R W B H σ Q e z⟩
theorem Af{ey:ZT}{ez:dW}{α:Type}{Xs:α->aJ}(eG:∀a,(Xs a).K=K)(h:∀a,q9 (Xs a) ey ez):∃t,(∀a,oE (Xs a) ey t)/\i2 K t ez:=by
 refine⟨λσ H Q=>∀a,∃t,oE (Xs a) ey t/\i2 K t ez/\t σ H Q,λa pins s σ H Q I q=>?_,λρ k q R W B H σ Q e z a=>?_⟩
 ·obtain⟨t,bQ,_,ay⟩:=q a;exact bQ pins s σ H Q I ay
 ·obtain⟨t,bQ,ak⟩:=h a;rw[eG a]at ak;exact⟨t,bQ,ak,ak ρ k q R W B H σ Q e z⟩
theorem Ag{bA:Wp}{gT:gd}{α:Type}{Xs:α->aJ}(eG:∀a,(Xs a).K=K)(h:∀a,kF (Xs a) bA gT):∃t,(∀a,kt (Xs a) bA t)/\sB K t gT:=by
 refine⟨λv σ H Q=>∀a,∃t,kt (Xs a) bA t/\sB K t gT/\t v σ H Q,λa pins s σ H v x Q I r q=>?_,λd ρ k q R W B H σ v Q e r z a=>?_⟩
 ·obtain⟨t,bQ,_,ay⟩:=q a;exact bQ pins s σ H v x Q I r ay
 ·obtain⟨t,bQ,ak⟩:=h a;rw[eG a]at ak;exact⟨t,bQ,ak,ak d ρ k q R W B H σ v Q e r z⟩
variable{eU dD bA:Wp}{ey:ZT}{scope:YG}{bv:List (Str×TI)}{ts fr:ZQ}{js:ZN}{gT:gd}{ez:dW}
theorem lD(au:nh X bA dD w)(aD:∀C s H ex,kF (eu X (ts++fr) scope bv C s H ex) bA gT)(ly:∀C s H ex,q9 (eu X (ts++fr) scope bv C s H ex) ey ez)(lz:∀C s H ex,bn (eu X (ts++fr) scope bv C s H ex) eU u)(F:q2 X scope bv fr js)(s4:js.Nodup:=by decide)(hc:X.calm=true:=by rfl)(aj:∀v,Xu dD X.env v=pure v:=by intro _;rfl):lq X (.ListComp eU [⟨bA,dD,ey,0⟩] scope pos) (s0 w gT ez u ts.length js):=by
 obtain⟨_,h0,ha⟩:=au;obtain⟨ES,s5,rg⟩:=Ag (K:=X.K) (Xs:=λa:TI×Tl×am×ZS=>eu X (ts++fr) scope bv a.1 a.2.1 a.2.2.1 a.2.2.2) (λ_=>rfl) λa=>aD a.1 a.2.1 a.2.2.1 a.2.2.2;obtain⟨tt,s6,rt⟩:=Af (K:=X.K) (Xs:=λa:TI×Tl×am×ZS=>eu X (ts++fr) scope bv a.1 a.2.1 a.2.2.1 a.2.2.2) (λ_=>rfl) λa=>ly a.1 a.2.1 a.2.2.1 a.2.2.2;obtain⟨cH,s7,lx⟩:=Ae (K:=X.K) (Xs:=λa:TI×Tl×am×ZS=>eu X (ts++fr) scope bv a.1 a.2.1 a.2.2.1 a.2.2.2) (λ_=>rfl) λa=>lz a.1 a.2.1 a.2.2.1 a.2.2.2;exact⟨_,EM h0 (λC s H ex=>s5 (C,s,H,ex)) (λC s H ex=>s6 (C,s,H,ex)) (λC s H ex=>s7 (C,s,H,ex)) F hc aj,EQ ha rg rt lx s4⟩
theorem v4{i:Nat}{y:Str}{jm sZ:Pos}(bi:X.N.Nodup)(z5:X.N[i]?=some y)(aG:X.env.scope.names.lookup y=some .local)(au:nh X bA dD w)(aD:∀C s H ex,kF (eu X (ts++fr) scope bv C s H ex) bA gT)(ly:∀C s H ex,q9 (eu X (ts++fr) scope bv C s H ex) ey ez)(lz:∀C s H ex,bn (eu X (ts++fr) scope bv C s H ex) eU u)(F:q2 X scope bv fr js)(s4:js.Nodup:=by decide)(hc:X.calm=true:=by rfl)(aj:∀v,Xu dD X.env v=pure v:=by intro _;rfl)(nr:XE (.ListComp eU [⟨bA,dD,ey,0⟩] scope pos) (some (.Name y jm)) sZ.line X.env=pure true:=by rfl):
  fM X (.Assign [.Name y jm] (.ListComp eU [⟨bA,dD,ey,0⟩] scope pos) sZ) (Ei i (s0 w gT ez u ts.length js)):=by
 obtain⟨_,h0,ha⟩:=au;obtain⟨ES,s5,rg⟩:=Ag (K:=X.K) (Xs:=λa:TI×Tl×am×ZS=>eu X (ts++fr) scope bv a.1 a.2.1 a.2.2.1 a.2.2.2) (λ_=>rfl) λa=>aD a.1 a.2.1 a.2.2.1 a.2.2.2;obtain⟨tt,s6,rt⟩:=Af (K:=X.K) (Xs:=λa:TI×Tl×am×ZS=>eu X (ts++fr) scope bv a.1 a.2.1 a.2.2.1 a.2.2.2) (λ_=>rfl) λa=>ly a.1 a.2.1 a.2.2.1 a.2.2.2;obtain⟨cH,s7,lx⟩:=Ae (K:=X.K) (Xs:=λa:TI×Tl×am×ZS=>eu X (ts++fr) scope bv a.1 a.2.1 a.2.2.1 a.2.2.2) (λ_=>rfl) λa=>lz a.1 a.2.1 a.2.2.1 a.2.2.2;refine⟨_,N8 bi z5 aG h0 (λC s H ex=>s5 (C,s,H,ex)) (λC s H ex=>s6 (C,s,H,ex)) (λC s H ex=>s7 (C,s,H,ex)) F hc aj nr,λU ρ h R W B H σ D e s=>?_⟩;exact EQ ha rg rt lx s4 ρ _ h R W B H σ _ e λds a vs bd ar z1 ai aI a4 a' bP dL eR=>s.nx _ _ bd ar z1 (ai.setO i a4 a' bP dL λj _=>eR j) aI
theorem v5{st:XA}{s:cX}(i:Nat)(h:fM X st s):fM X st (λU ρ=>s {U with nx:=λbS=>∃ds:ZK,bS[i]?=some (.own ds)/\U.nx (bS.set i (.val (.lst ds)))} ρ):=by
 obtain⟨_,h1,r1⟩:=h;refine⟨_,h1,λU ρ h R W B H σ D e dQ=>?_⟩;refine r1 _ ρ h R W B H σ D e ⟨λbS bq aC al z aW g=>?_,dQ.bk,dQ.ct,dQ.rt⟩;obtain⟨ds,aB,z⟩:=z;obtain⟨ca,ap,aP⟩:=aW.fz aB;exact dQ.nx _ bq ca al z ap (g.trans aP)
end
theorem oH{α:Type}{f:α->D}{s:cX}{U:iB}{m:Nat}(I:List α->ZL->Prop):∀{rs done:List α}{ρ:ZL},I done ρ->
  (∀(pre:List α)(r:α)(rest:List α) ρ,done++rs=pre++r::rest->I pre ρ->∀N:ZL->Prop,(∀dJ,I (pre++[r]) dJ->N dJ)->s {U with nx:=N,ct:=N,bk:=U.nx} (ρ.set m (.val (f r))))->(∀ρ,I (done++rs) ρ->U.nx ρ)->h5 (e3 m) s U (rs.map f) ρ
 |[],done,ρ,h0,_,h2=>h2 ρ (by rw[SO];exact h0)
 |r::rs,done,ρ,h0,h1,h2=>by
  refine h1 done r rs ρ rfl h0 _ λdJ ak=>?_;have e:done++r::rs=(done++[r])++rs:=by simp
  rw[e]at h1 h2;exact oH I ak h1 h2
theorem ET{s:cX}{U:iB}{m:Nat}(I:Nat->ZL->Prop):∀{n i:Nat}{ρ:ZL},I i ρ->(∀(j:Nat) ρ,i<=j->j<i+n->I j ρ->∀N:ZL->Prop,(∀r,I (j+1) r->N r)->s {U with nx:=N,ct:=N,bk:=U.nx} (ρ.set m (.val (.int j))))->
  (∀ρ,I (i+n) ρ->U.nx ρ)->h5 (e3 m) s U ((List.range' i n).map λj:Nat=>D.int j) ρ
 |0,i,ρ,h0,_,h2=>h2 ρ h0
 |n+1,i,ρ,h0,h1,h2=>by
  show h5 (e3 m) s U (D.int i::(List.range' (i+1) n).map λj:Nat=>D.int j) ρ
  refine h1 i ρ (Sx _) (by lia) h0 _ λr ak=>?_;exact ET I ak (λj ρ b8 agi=>h1 j ρ (by lia) (by lia)) λρ h=>h2 ρ (by rw[show i+(n+1)=i+1+n by lia];exact h)
theorem Oj{s:cX}{U:iB}{m n:Nat}{ρ:ZL}(I:Nat->ZL->Prop)(h0:I 0 ρ)(h1:∀(j:Nat) ρ,j<n->I j ρ->∀N:ZL->Prop,(∀r,I (j+1) r->N r)->s {U with nx:=N,ct:=N,bk:=U.nx} (ρ.set m (.val (.int j))))(h2:∀ρ,I n ρ->U.nx ρ):h5 (e3 m) s U ((SV n).map λj:Nat=>D.int j) ρ:=by
 rw[List.range_eq_range'];exact ET I h0 (λj ρ _ b8=>h1 j ρ (by lia)) λρ h=>h2 ρ (by rw[TR]at h;exact h)
theorem kK{α:Type}{f h:α->D}{u:a9}{fs:ZL}:∀{rs:List α}{v0:aQ}{k:ZK->Prop},(∀r∈rs,∀k:D->Prop,k (h r)->u (.val (f r)::fs) k)->k (rs.map h)->he (e3 0) ka u (rs.map f) (v0::fs) k
 |[],v0,k,_,ag=>ag
 |r::rs,v0,k,bo,ag=>by
  show(if true=true then u (.val (f r)::fs) λy=>he (e3 0) ka u (rs.map f) (.val (f r)::fs) λys=>k (y::ys)else he (e3 0) ka u (rs.map f) (.val (f r)::fs) k)
  rw[SL rfl];exact bo r Sv _ (kK (λq ay=>bo q (Sy _ ay)) ag)
theorem s8{α β:Type}{f:α->β}{rs:List α}{i:Int}{r:α}(h:ej rs i=some r):ej (rs.map f) i=some (f r):=by
 unfold ej at h⊢;rw[Sw];cases q:ixN rs.length i with
 |none=>rw[q]at h;cases h
 |some j=>
  rw[q]at h;show(rs.map f)[j]?=_
  rw[S4,show rs[j]?=some r from h];rfl
theorem Ol{α:Type}{rs:List α}{i:Nat}(h:i<rs.length):ej rs (i:Int)=some rs[i]:=by
 unfold ej ixN;rw[SL (by lia),SL (by lia)];show rs[((i:Int)).toNat]?=_
 rw[show((i:Int)).toNat=i by lia,S5 h]
theorem EU{α:Type}{xs:List α}{i:Int}(h0:0<=i)(h1:i<=xs.length):jQ xs (some i) none=xs.drop i.toNat:=by
 unfold jQ
 have ai:HT.sIx xs.length 0 (some i)=i.toNat:=by
  unfold HT.sIx
  first|lia|(simp only[];split<;>lia)|(split<;>lia)|(dsimp only;split<;>(try split)<;>lia)
 have ap:HT.sIx xs.length xs.length none=xs.length:=rfl;rw[ai,ap];exact UK (by rw[U9];lia)
theorem EV{α:Type}{xs:List α}{i:Int}(h0:0<=i)(h1:i<=xs.length):jQ xs none (some i)=xs.take i.toNat:=by
 unfold jQ
 have ai:HT.sIx xs.length xs.length (some i)=i.toNat:=by
  unfold HT.sIx
  first|lia|(simp only[];split<;>lia)|(split<;>lia)|(dsimp only;split<;>(try split)<;>lia)
 have ap:HT.sIx xs.length 0 none=0:=rfl;rw[ai,ap];rfl
section
variable{X:aJ}{e:Wp}{u:a9}{pos p:Pos}
def Om(u:a9):a9:=λρ k=>u ρ λx=>∃ds,x=.lst ds/\(∀d∈ds,d=.bl true)/\k (.bl true)
theorem Ah(aw:bn X e u)(hc:X.calm=true)(aD:e2 X "all")(av:X.mg "all"=none)(aj:TD [e] X.env=(false,XJ e X.env)::TD [] X.env:=by rfl):bn X (.Call (.Name "all" p) [e] [] pos) (Om u):=by
 obtain⟨_,h1,r1⟩:=aw;refine⟨_,sq (Mu hc) aD av (by decide +kernel) (fi h1 gN aj) (by decide) (by decide) aj,vK (f:=λx k=>∃ds,x=.lst ds/\(∀d∈ds,d=.bl true)/\k (.bl true)) r1 λx k h R W B H σ ρ v Q e bt q=>?_⟩;obtain⟨ds,rfl,hd,ag⟩:=h;obtain⟨a,vs,rfl,aw,rs⟩:=bt.lstV;refine⟨a,vs,rfl,e.bh _ _ aw,λy aG=>?_,q _ _ B H ag e (bV.refl _ _) (.bl _)⟩;obtain⟨j,b8⟩:=Ui aG;obtain⟨d,hK,fm⟩:=rs.getV b8;have:=hd d (Tt hK);subst this;exact fm.blV
end
section
variable{X:aJ}{e:Wp}{u:a9}{pos p:Pos}
def On(u:a9)(l h:oA):a9:=λρ k=>u ρ λx=>l ρ λlo=>h ρ λau=>∃ds,x=.tup ds/\¬(HT.sIx ds.length 0 lo=0/\HT.sIx ds.length ds.length au=ds.length)/\k (.tup (jQ ds lo au))
theorem Oo{lo au:Option Wp}{oB sK:oA}{b1:Pos}(ax:bn X e u)(ao:qW X lo oB)(dE:qW X au sK):bn X (.Subscript e (.Slice lo au none b1) pos) (On u oB sK):=by
 obtain⟨_,h1,r1⟩:=ax;obtain⟨_,h2,r2⟩:=ao;obtain⟨_,aF,gM⟩:=dE;refine⟨_,DD LP h1 h2 aF,λρ k h R W B H σ Q e q=>?_⟩;refine r1 ρ _ h R W B H σ _ e λd v bd ar z1 ai aI az=>?_;refine r2 ρ _ z1 R W bd ar σ _ ai λlo ca a5 aY ap aP=>?_;refine gM ρ _ aY R W ca a5 σ _ ap λau ot cI eI br g3=>?_;obtain⟨ds,rfl,aN,z⟩:=eI;obtain⟨a,vs,rfl,aw,rs⟩:=(az.mono (aP.trans g3).s).tupV;refine⟨a,vs,rfl,e7.of (br.bh _ _ aw),by rw[rs.length];exact aN,λp ae=>?_⟩;have el:=br.grow ae (.tup (pF vs lo au));exact q _ _ _ _ z (br.alloc ae _) (((aI.trans aP).trans g3).trans el) (.tup eP ((rs.cut lo au).mono el.s))
def Op(i:Nat)(u:a9):cX:=λU ρ=>∃ds:ZK,ρ[i]?=some (.own ds)/\u ρ λd=>∃es,d=.lst es/\ds.length+es.length<=TT/\U.nx (ρ.set i (.own (ds++es)))
theorem EW(i:Nat){x:Str}{px dr cr:Pos}(ax:bn X e u)(bi:X.N[i]?=some x:=by rfl)(aH:iq X.env.scope x:=by first|exact SF rfl|exact SP (SF rfl)|exact SP (SP rfl))(hd:(x==("__debug__":Str))=false:=by decide)(ec:(x==("__classdict__":Str))=false:=by decide)(g4:Xx (.Name x px) "extend" X.env (XJ (.Name x px) X.env)=XJ (.Name x px) X.env:=by rfl)(j5:((XC cr (TD [e] X.env)).all (λx => !x.1)&&(YL cr (X6 [] X.env)).all (λx=>x.1.isSome)
   && decide ([e].length+([]:ZV).length+(if([]:ZV).isEmpty then 0 else 1)<30))=true:=by rfl)(g5:(dr.endLine==cr.line)=true:=by rfl)(aj:TD [e] X.env=(false,XJ e X.env)::TD [] X.env:=by rfl)(pG:(XC cr (TD ([]:ZT) X.env)).any (·.1)=false:=by rfl)(nr:XE (.Call (.Attribute (.Name x px) "extend" dr) [e] [] cr) none pos.line X.env=pure false:=by rfl):fM X (.Expr (.Call (.Attribute (.Name x px) "extend" dr) [e] [] cr) pos) (Op i u):=by
 obtain⟨_,h1,r1⟩:=ax;refine⟨_,u3 (zo Vi PySem.F.slot_list_extend PySem.F.type_list_extend L8 (mc bi aH hd ec) (fi h1 gN aj) g4 j5 g5 aj pG) nr,λU ρ h R W B H σ D e s=>?_⟩;obtain⟨ds,aB,h⟩:=h;obtain⟨a,vs,ai,ap,br,cW,f5⟩:=e.ownAt aB;refine⟨_,ai,.inl ⟨rfl,vs,cE.of cW⟩,?_⟩;refine r1 ρ _ h R W B H σ _ e λd v bd ar z1 a4 aI az=>?_;obtain⟨fv,my,bM,cy,gt,j',sL⟩:=a4.ownAt aB;rw[ai]at bM;cases bM;obtain⟨es,rfl,ao,z⟩:=z1;obtain⟨b,fD,rfl,ab,rt⟩:=az.lstV;exact⟨a,b,my,fD,rfl,rfl,j',a4.bh _ _ ab,by rw[sL.length,rt.length];exact ao,s.nx _ _ bd _ z (a4.write ai aB (sL.append rt)) aI⟩
end
end L3
namespace Cut
open PySem L2 L3
open PySem.Builtin.Int (intBits)
def dR(r:Int×Int):D:=.tup [.int r.1,.int r.2]
def aS(p:Int×Int×Int):D:=.tup [.int p.1,.int p.2.1,.int p.2.2]
def s9(t b:Int):Int:=if b<0 then -((Ak t b:Nat):Int)else((Ak t b:Nat):Int)
def cg(t b:Int):Int×Int:=(t.fdiv (s9 t b),b.fdiv (s9 t b))
theorem gG{t b:Int}(ab:b≠0):aE (cg t b).1 (cg t b).2/\(cg t b).1*b=t*(cg t b).2/\(cg t b).1.natAbs<=t.natAbs/\(cg t b).2.natAbs<=b.natAbs:=by
 unfold cg s9;split
 ·exact DT ab rfl (.inr ⟨rfl,by assumption⟩)
 ·exact DT ab rfl (.inl ⟨rfl,by lia⟩)
def g3(a b n:Int):Int:=((Ak (Ak a n:Nat) b:Nat):Int)
def kc(a b n:Int):Int:=if n<0 then -g3 a b n else g3 a b n
def cC(a b n:Int):Int×Int×Int:=(a.fdiv (kc a b n),b.fdiv (kc a b n),n.fdiv (kc a b n))
theorem i7{a b n:Int}(aN:n≠0):mm (cC a b n).1 (cC a b n).2.1 (cC a b n).2.2/\(cC a b n).1*n=a*(cC a b n).2.2/\(cC a b n).2.1*n=b*(cC a b n).2.2/\(cC a b n).1.natAbs<=a.natAbs/\(cC a b n).2.1.natAbs<=b.natAbs/\(cC a b n).2.2.natAbs<=n.natAbs:=by
 unfold cC kc;split
 ·exact DX aN rfl (.inr ⟨rfl,by assumption⟩)
 ·exact DX aN rfl (.inl ⟨rfl,by lia⟩)
theorem Oq(a b n:Int):((Ak (Ak a b:Nat) n:Nat):Int)=g3 a b n:=by
 unfold g3;rw[vw];rfl
theorem Os(a b n:Int):((Ak (Ak n a:Nat) b:Nat):Int)=g3 a b n:=by
 unfold g3;rw[Mv]
theorem EX{a b n:Int}(aN:n≠0):0<g3 a b n:=DV aN
theorem EY{a b n:Int}{k:Nat}(aN:n≠0)(h:wp n<=k):wp (g3 a b n)<=k:=Mw aN h
theorem lE{a b:Int}{k:Nat}(ab:b≠0)(h:wp b<=k):wp ((Ak a b:Nat):Int)<=k:=by
 refine YX ?_ h;exact V1 (by lia) (by simpa using UZ.mpr (UX a b))
theorem Ot{x:Int}(h0 : -(10^30)<x)(h1:x<10^30):wp x<=100:=by
 refine intBits_le_iff.mpr ?_;have Ou:(10:Int)^30=1000000000000000000000000000000:=rfl;have Ov:(2:Nat)^100=1267650600228229401496703205376:=rfl;rw[Ou]at h0 h1;rw[Ov];lia
theorem iG{a s x:Int}(h:a=s*x)(eT:s≠0):a.fdiv s=x:=by rw[h];exact UE x eT
theorem Ow{a b s x y:Int}(h1:a=s*x)(h2:b=s*y):Ak a b=s.natAbs*Ak x y:=by rw[h1,h2,VW]
theorem EZ{p q:Int×Int×Int}(h:aS p=aS q):p=q:=by
 obtain⟨a,b,c⟩:=p;obtain⟨d,e,f⟩:=q;unfold aS at h;cases h;rfl
theorem Ox{p q:Int×Int}(h:dR p=dR q):p=q:=by
 obtain⟨a,b⟩:=p;obtain⟨d,e⟩:=q;unfold dR at h;cases h;rfl
theorem Oy{t b:Int}(ab:b≠0):cg (-t) (-b)=cg t b:=by
 obtain⟨a6,ai,_⟩:=gG (t :=-t) (b :=-b) (by lia);obtain⟨a7,ap,_⟩:=gG (t:=t) ab
 have e:(cg (-t) (-b)).1*(cg t b).2=(cg t b).1*(cg (-t) (-b)).2:=by
  refine TF ab ?_;grind
 obtain⟨a,c⟩:=zz a6 a7 e;exact TU a c
theorem Oz{a b c d:Int}(ab:b≠0)(hd:d≠0)(h:a*d=c*b):cg a b=cg c d:=by
 obtain⟨a6,ai,_⟩:=gG (t:=a) ab;obtain⟨a7,ap,_⟩:=gG (t:=c) hd
 have e:(cg a b).1*(cg c d).2=(cg c d).1*(cg a b).2:=by
  refine TF (SS ab hd) ?_;grind
 obtain⟨x,y⟩:=zz a6 a7 e;exact TU x y
theorem OA{x y:Int}(h:aE x y):cg x y=(x,y):=by
 obtain⟨l,e,_⟩:=gG (t:=x) (Sz h.1);obtain⟨a,b⟩:=zz l h e;exact TU a b
abbrev aa:=Int×Int×Int
abbrev ZH:=List aa
abbrev ZZ:=List ZH
def crs(p q:aa):aa:=(p.2.1*q.2.2-p.2.2*q.2.1,p.2.2*q.1-p.1*q.2.2,p.1*q.2.1-p.2.1*q.1)
def sc(c:Int)(p:aa):aa:=(c*p.1,c*p.2.1,c*p.2.2)
def f7(a:Int)(p:aa)(b:Int)(q:aa):aa:=(a*p.1+b*q.1,a*p.2.1+b*q.2.1,a*p.2.2+b*q.2.2)
def nP(p:aa):aa:=cC p.1 p.2.1 p.2.2
theorem eW{p q:aa}(h1:p.1=q.1)(h2:p.2.1=q.2.1)(aF:p.2.2=q.2.2):p=q:=TU h1 (TU h2 aF)
variable{P:Uf}{w:WP}{K:F6}{mg:Str->Option Tk}{base:XB}
theorem Ai{c d:Int}{p q:aa}(h:sc c p=sc d q):c*p.1=d*q.1/\c*p.2.1=d*q.2.1/\c*p.2.2=d*q.2.2:=
 ⟨TW (·.1) h,TW (·.2.1) h,TW (·.2.2) h⟩
theorem Aj(c d:Int)(p q:aa):crs (sc c p) (sc d q)=sc (c*d) (crs p q):=by
 refine eW ?_ ?_ ?_<;>simp only[crs,sc]<;>grind
theorem E0(c d:Int)(p:aa):sc c (sc d p)=sc (c*d) p:=by
 refine eW ?_ ?_ ?_<;>simp only[sc]<;>grind
theorem ke{p:aa}(aN:p.2.2≠0):∃g,g≠0/\p=sc g (nP p):=by
 obtain⟨pt,ai,ap,_⟩:=i7 (a:=p.1) (b:=p.2.1) aN;have z0:(nP p).2.2≠0:=Sz pt.1;obtain⟨g,aD⟩:=zC pt.2 ai ap;have aZ:g≠0:=λz=>aN (by rw[aD,z,SW]);refine⟨g,aZ,eW ?_ ?_ ?_⟩
 ·refine TF z0 ?_;show p.1*(cC p.1 p.2.1 p.2.2).2.2=g*(cC p.1 p.2.1 p.2.2).1*(cC p.1 p.2.1 p.2.2).2.2
  rw[<-ai];grind
 ·refine TF z0 ?_;show p.2.1*(cC p.1 p.2.1 p.2.2).2.2=g*(cC p.1 p.2.1 p.2.2).2.1*(cC p.1 p.2.1 p.2.2).2.2
  rw[<-ap];grind
 ·show p.2.2=g*(cC p.1 p.2.1 p.2.2).2.2
  rw[S2];exact aD
abbrev aT(p:aa):Prop:=mm p.1 p.2.1 p.2.2
theorem gg{p:aa}(aN:p.2.2≠0):aT (nP p):=(i7 aN).1
theorem q'{M h:aa}{G c:Int}(E1:G≠0)(hc:c≠0)(ae:aT h)(e:sc G M=sc c h):M.2.2≠0/\nP M=h:=by
 obtain⟨ai,ap,br⟩:=Ai e;have h0:h.2.2≠0:=Sz ae.1
 have dS:M.2.2≠0:=λz=>by
  rw[z,SW]at br;exact SS hc h0 br.symm
 refine⟨dS,?_⟩;obtain⟨pt,a4,a',_⟩:=i7 (a:=M.1) (b:=M.2.1) dS;have bM:M.1*h.2.2=h.1*M.2.2:=W2 (SS E1 hc) (by grind);have cy:M.2.1*h.2.2=h.2.1*M.2.2:=W2 (SS E1 hc) (by grind);obtain⟨aO,bz,et⟩:=vx pt ae (TF dS (by grind)) (TF dS (by grind));exact eW aO bz et
theorem E2{h:aa}(ae:aT h):nP h=h:=(q' (M:=h) (h:=h) (G:=1) (c:=1) (by decide) (by decide) ae rfl).2
structure cD (m:Nat) (p:aa):Prop where
 a:wp p.1<=m
 b:wp p.2.1<=m
 c:wp p.2.2<=m
theorem cD.mono{m n:Nat}{p:aa}(h:cD m p)(l:m<=n):cD n p:=⟨SA h.a l,SA h.b l,SA h.c l⟩
theorem cD.nP{m:Nat}{p:aa}(h:cD m p)(aN:p.2.2≠0):cD m (Cut.nP p):=by
 obtain⟨_,_,_,c1,c2,c3⟩:=i7 (a:=p.1) (b:=p.2.1) aN;exact⟨dO c1 h.a,dO c2 h.b,dO c3 h.c⟩
theorem cD.crs{m n:Nat}{p q:aa}(ae:cD m p)(ay:cD n q):cD (m+n+1) (Cut.crs p q):=by
 have e:∀{x y u v:Int},wp x<=m->wp y<=n->wp u<=m->wp v<=n->wp (x*y-u*v)<=m+n+1:=λa b c d=>SA (Yh (TE a b) (TE c d)) (by lia);exact⟨e ae.b ay.c ae.c ay.b,e ae.c ay.a ae.a ay.c,e ae.a ay.b ae.b ay.a⟩
end Cut
namespace L2
open PySem PySem.Spec PyProof.Rows PySem.W
theorem neN{x y:Nat}(h:x<y\/y<x):x≠y:=by lia
theorem OB{n a b:Nat}(aw:a<n)(ab:b<n):ZipApart (n+4) (n+2) (n+3) n (n+1) a b:=
 ⟨neN (by lia),neN (by lia),neN (by lia),neN (by lia),neN (by lia),neN (by lia),neN (by lia),neN (by lia),neN (by lia),neN (by lia),neN (by lia),neN (by lia),neN (by lia),neN (by lia),neN (by lia),neN (by lia),neN (by lia),neN (by lia)⟩
end L2
namespace L3
open PySem L2
section
variable{X:aJ}{ai ap:Wp}{bD bY:a9}
def OC(bD bY:a9):cZ:=λρ k=>bD ρ λx=>bY ρ λy=>∃ds es,x=.lst ds/\y=.lst es/\k ((ds.zip es).map λp=>.tup [p.1,p.2])
end
end L3
namespace L2
open PySem PySem.Spec PyProof.Rows PySem.W
theorem E3(its:ZR):∀m,m<=its.length->(SV m).filterMap (λk=>its[its.length-1-k]?)=its.reverse.take m
 |0,_=>rfl
 |m+1,h=>by
  rw[List.range_succ,List.filterMap_append,E3 its m (by lia),List.take_add_one,List.getElem?_reverse (by lia)];congr 1
theorem OD(its:ZR):Zr its.toArray none none (some (-1))=its.reverse.toArray:=by
 have ab:X0 none none (some (-1)) its.toArray.size=((its.length:Int)-1,-1,-1):=by simp[X0]
 unfold Zr;rw[ab]
 have ak:sliceRange ((its.length:Int)-1) (-1) (-1)=(SV its.length).map λk=>its.length-1-k:=by
  unfold sliceRange
  have c:(if(-1:Int)>0 then(if(its.length:Int)-1 < -1 then(-1-((its.length:Int)-1) + -1-1) / -1 else 0)else(if(its.length:Int)-1 > -1 then((its.length:Int)-1 - -1 - -1-1)/(- -1)else 0))=(its.length:Int):=by
   rw[SZ (by decide)];split
   ·rw[show(- -1:Int)=1 by decide,Int.ediv_one];lia
   ·lia
  simp only[c,Vl];refine TM λk ag=>?_;lia
 simp only[ak,WQ];have:=E3 its its.length (Sx _);rw[UK (by simp)]at this;rw[<-this]
 have e:((λx=>its.toArray[x]?)∘λk=>its.length-1-k)=λk=>its[its.length-1-k]?:=by
  funext k;simp
 rw[e]
section
variable{X:aJ}{e st:Wp}{cH ts:bK}{b1 pos:Pos}
def OE(cH ts:bK)(K:F6):bK:=λσ H Q=>cH σ H λx ar=>ts σ ar λi a5=>i=.int (-1)/\∃a xs,x=.ref a/\cE K a5 a xs/\∀p,a5 p=none->Q (.ref p) (upd a5 p (.lst xs.reverse))
theorem OF(ax:b6 X e cH)(aj:b6 X st ts):b6 X (.Subscript e (.Slice none none (some st) b1) pos) (OE cH ts X.K):=by
 intro pins s σ H Q I h;refine Subscript_ (cc (ax pins s σ H _ I h) λv az ⟨x,ar,a2,r1,aO⟩=>?_);refine wpAny_Slice ?_;rw[Y9];refine SC ?_;refine SC ?_;rw[evalPart_some];refine cc (aj pins az σ ar _ a2 aO) λu bR ⟨i,cI,dc,zn,et⟩=>?_;obtain⟨rfl,a,xs,rfl,aq,q⟩:=et;obtain⟨dA,rfl⟩:=zn;cases r1;have ku:Inv X pins σ cI {bR with heap:=bR.heap.push {cls:=.type "slice",data:=.fields #[.none,.none,.int (-1) dA]} }:=dc.kept (t':=bR.toks) λb cx q=>Heap.get?_push_of_some _ q;obtain⟨its,r,bQ,hz⟩:=ku.list aq;have gb:=r.length;show wpAny (UF X.prog X.w) X.A (Y' e (.Slice none none (some st) b1) (.ref a) (.ref bR.heap.objs.size)) (hB X pins σ Q) X.xe {bR with heap:=bR.heap.push {cls:=.type "slice",data:=.fields #[.none,.none,.int (-1) dA]} }
 refine tail_any (ops:=[.ref a,.ref bR.heap.objs.size]) bQ.isList.typeIs slot_list_getitem.lookup ?_ (by with_unfolding_all rfl);refine YF (st:=some (-1)) bQ.isList (Heap.IsSliceOf.new ..) .none .none (.int _ _) (by simp) ?_ (by rw[SY]<;>lia);rw[OD];refine⟨.ref _,_,ku.laid (t':=bR.toks) (o:=.lst xs.reverse) (λb cx q=>Heap.get?_push_of_some _ q) (Sx _) ?_,rfl,q _ (ku.hok.fresh (Sx _))⟩;exact⟨by rw[List.length_reverse];exact hz,_,0,r.reverse,Heap.get?_push_size _ rfl⟩
end
end L2
namespace L3
open PySem L2
section
variable{X:aJ}{e st:Wp}{u us:a9}{b1 pos:Pos}
theorem Reps.reverse{K:F6}{B:am}:∀{vs:ZJ}{ds:ZK},Reps K B vs ds->Reps K B vs.reverse ds.reverse
 |_,_,.nil=>.nil
 |_,_,.cons h r=>by
  rw[Va,Va];exact(Reps.reverse r).append (.cons h .nil)
def OG(u us:a9):cZ:=λρ k=>u ρ λx=>us ρ λi=>i=.int (-1)/\∃ds,zQ x=some ds/\k ds.reverse
theorem OH(ax:bn X e u)(aj:bn X st us):lq X (.Subscript e (.Slice none none (some st) b1) pos) (OG u us):=by
 obtain⟨_,h1,r1⟩:=ax;obtain⟨_,h2,r2⟩:=aj;refine⟨_,OF h1 h2,λρ k h R W B H σ Q e q=>?_⟩;refine r1 ρ _ h R W B H σ _ e λd v bd ar z1 ai aI az=>?_;refine r2 ρ _ z1 R W bd ar σ _ ai λi iv ca a5 aY ap aP a3=>?_;obtain⟨rfl,ds,hd,z⟩:=aY;obtain⟨a,vs,rfl,aw,rs⟩:=Eo ap.bh (az.mono aP.s) hd;refine⟨a3.intV,a,vs,rfl,aw,λp ae=>?_⟩;obtain⟨a4,a',bP,dL,eR⟩:=ap.newO ae rs.reverse;exact q _ p _ ca _ z a4 (aI.trans aP) a' bP dL rs.reverse eR
end
end L3
namespace Cut
open PySem L2 L3
open PySem.Builtin.Int (intBits)
abbrev aX:=Int×Int
end Cut
namespace L3
open PySem L2
section
variable{X:aJ}{a b:Wp}{bD bY:a9}{pos:Pos}
def ta:D->Option ZK
 |.tup ds=>some ds
 |.lst ds=>some ds
 |.ktup ds=>some ds
 |_=>none
def OI(K:F6):fh:=λx y H Q=>∃p xs i v,x=.ref p/\y=.int i/\(e7 K H p xs\/cE K H p xs)/\ej xs i=some v/\Q v H
theorem OJ:qO X (OI X.K):=by
 intro value slice pins s σ H x y v u Q I bt cA h aj;obtain⟨p,xs,i,z,ai,ap,ay,ax,q⟩:=h;rcases ay with ay|ay
 ·exact DH value slice pins s σ H x y v u Q I bt cA ⟨p,xs,i,z,ai,ap,ay,ax,q⟩ aj
 ·exact zl value slice pins s σ H x y v u Q I bt cA ⟨p,xs,i,z,ai,ap,ay,ax,q⟩ aj
def OK(bD bY:a9):a9:=λρ k=>bD ρ λx=>bY ρ λy=>∃ds i d,ta x=some ds/\y=.int i/\ej ds i=some d/\k d
theorem i8(aw:bn X a bD)(ab:bn X b bY)(aj:vl b):bn X (.Subscript a b pos) (OK bD bY):=by
 obtain⟨_,h1,r1⟩:=aw;obtain⟨_,h2,r2⟩:=ab;refine⟨_,mh OJ h1 h2 aj,qV r1 r2 λx y k h R W B H σ ρ v mb Q e bt cA q=>?_⟩;obtain⟨ds,i,d,aq,rfl,aw,ag⟩:=h;cases bt with
 |tup ae ge=>
  cases aq;obtain⟨z,hz,i3⟩:=sF ge aw;exact⟨_,_,i,z,rfl,cA.intV,.inl (e7.of (e.bh _ _ ae)),hz,q d z B H ag e (bV.refl _ _) i3⟩
 |lst ae ge=>
  cases aq;obtain⟨z,hz,i3⟩:=sF ge aw;exact⟨_,_,i,z,rfl,cA.intV,.inr (cE.of (e.bh _ _ ae)),hz,q d z B H ag e (bV.refl _ _) i3⟩
 |ktup ae ge=>
  cases aq;obtain⟨z,hz,i3⟩:=sF ge aw;exact⟨_,_,i,z,rfl,cA.intV,.inl (DZ e.bh ae),hz,q d z B H ag e (bV.refl _ _) i3⟩
 |_=>cases aq
structure v6 (K:F6) (mg:Str->Option Tk) (x:Str) (ns:ZG):Prop where
 ex:∃p:TI,mg x=some (.ref p)/\∀H:am,e7 K H p (ns.map V.int)
theorem ra{x:Str}{ns:ZG}(g:v6 X.K X.mg x ns)(aD:e2 X x)(hd:(x==("__debug__":Str))=false:=by decide):bn X (.Name x pos) (pM (.ktup (ns.map D.int))):=by
 obtain⟨p,av,aj⟩:=g.ex;refine⟨_,Da (v:=.ref p) aD av rfl hd,λρ k h R W B H σ Q e q=>?_⟩;exact q _ _ B H h e (bV.refl _ _) (.ktup (aj B) (Reps.ints ns))
theorem OL{K:F6}{mg:Str->Option Tk}{x:Str}{p:TI}{i j:Int}{hD pU:Tok}{od:Option TI}{sl:Array (Option Tk)}{n:Nat}(av:mg x=some (.ref p))(ao:K.lookup p=some ⟨.type "tuple",od,.seq #[.int i hD,.int j pU] n,sl⟩):v6 K mg x [i,j]:=
 ⟨p,av,λH=>.inr ⟨_,_,_,ao,rfl,rfl,gJ,.cons ⟨_,rfl⟩ (.cons ⟨_,rfl⟩ .nil)⟩⟩
end
end L3
namespace L3
open PySem PySem.W L2
def kL(h:XB):Frag:=(SV h.objs.size).filterMap λa=>(h.get? a).map λo=>(a,o)
theorem E4(g:Nat->Option Obj)(a:Nat):∀l:ZN,(l.filterMap λb=>(g b).map λo=>(b,o)).lookup a=if a∈l then g a else none
 |[]=>rfl
 |b::l=>by
  have bN:=E4 g a l;cases q:g b with
  |none=>
   rw[List.filterMap_cons_none (by rw[q];rfl),bN];by_cases e:a=b
   ·subst e;rw[q];simp
   ·simp[e]
  |some o=>
   rw[List.filterMap_cons_some (b:=(b,o)) (by rw[q];rfl),List.lookup_cons];by_cases e:a=b
   ·subst e;simp[q]
   ·have:(a==b)=false:=by simpa using e
    simp only[this,bN,SG,e,false_or]
theorem rd(h:XB)(a:TI):(kL h).lookup a=h.get? a:=by
 refine(E4 h.get? a _).trans ?_;by_cases e:a<h.objs.size
 ·rw[SL (TV.mpr e)]
 ·rw[SZ (λz=>e (TV.mp z))];exact(Heap.get?_none_of_le (VU e)).symm
theorem OM(h:XB):Frag.In (kL h) h:=λa o e=>by rw[rd]at e;exact e
theorem td(h:XB)(name:Str):nsIn (kL h) WF name=pk h name:=by unfold nsIn pk;rw[rd];rfl
theorem ON(h:XB)(ft:Tk)(q:Str):codeIn (kL h) ft q=x1 h ft q:=by
 unfold codeIn x1;cases ft<;>first|rfl|(simp only[rd];rfl)
def v7(K:Frag)(x:Str)(st:XA):Prop:=∃f fd,nsIn K WF x=some (some (.ref f))/\mi K x x st f fd
theorem Al(x:Str)(st:XA):uT x st=some (x,x,pH st,.stmts (kz st),cd st,WF,[],.none,YB,true):=by cases st<;>rfl
theorem OO{h:XB}{x:Str}{st:XA}(e:uS h x=uT x st):v7 (kL h) x st:=by
 unfold uS at e;split at e
 ·rename_i f bf
  split at e
  ·rename_i oc od fd osl aB
   obtain⟨ip,Dl,ps,v8,sc,te,bv,agj,kd,doc,pm,an,cdv,ct,jv⟩:=fd;rw[Al]at e;simp only[Vm,UL]at e;obtain⟨rfl,rfl,rfl,rfl,rfl,rfl,rfl,rfl,rfl,e⟩:=e;refine⟨f,_,by rw[td];exact bf,Mn (oc:=oc) (od:=od) (osl:=osl) (kV:=kd) (doc:=doc) (pm:=pm) (an:=an) (cdv:=cdv) (ct:=ct) (by rw[rd];exact aB) (by rw[ON];exact e) ?_⟩;unfold keepIn;simp only[rd,aB]
  ·rw[Al]at e;cases e
 ·rw[Al]at e;cases e
def Am(K:Frag):List (Str×XA)->Prop
 |[]=>True
 |p::l=>v7 K p.1 p.2/\Am K l
def AllB(K:Frag):ZQ->Prop
 |[]=>True
 |b::l=>nsIn K WF b=some none/\AllB K l
def v9(K:Frag)(x:Str)(i j:Int):Prop:=∃p od sl n hD pU,nsIn K WF x=some (some (.ref p))/\K.lookup p=some ⟨.type "tuple",od,.seq #[.int i hD,.int j pU] n,sl⟩
def An(K:Frag):List (Str×Int×Int)->Prop
 |[]=>True
 |p::l=>v9 K p.1 p.2.1 p.2.2/\An K l
def E5(K:Frag)(x:Str)(c:Int ⊕ Str):Prop:=match c with
 |.inl i=>∃t,nsIn K WF x=some (some (.int i t))
 |.inr s=>∃t,nsIn K WF x=some (some (.str s t))
def Ao(K:Frag):List (Str×(Int ⊕ Str))->Prop
 |[]=>True
 |p::l=>E5 K p.1 p.2/\Ao K l
structure Tab (t:n3) (K:Frag):Prop where
 tf:Am K t.fs
 tb:AllB K t.bs
 tt:An K t.ts
 tc:Ao K t.cs
def saysH(t:n3)(_:WP)(h:XB):Prop:=∃K:Frag,K.In h/\Tab t K
theorem E6{h:XB}:∀{l:List (Str×XA)},(l.map λp=>uS h p.1)=(l.map λp=>uT p.1 p.2)->Am (kL h) l
 |[],_=>trivial
 |p::l,e=>by
  simp only[SD,UM]at e;exact⟨OO e.1,E6 e.2⟩
theorem allB_of{h:XB}:∀{l:ZQ},(l.map λb=>pk h b)=(l.map λ_=>some none)->AllB (kL h) l
 |[],_=>trivial
 |p::l,e=>by
  simp only[SD,UM]at e;exact⟨by rw[td];exact e.1,allB_of e.2⟩
theorem OP{h:XB}{x:Str}{i j:Int}(e:uU h x=some (x,i,j)):v9 (kL h) x i j:=by
 unfold uU at e;split at e
 ·rename_i p ae
  split at e
  ·rename_i od its n sl aB
   split at e
   ·rename_i oG hD z8 pU au
    simp only[Vm,UL]at e;obtain⟨_,rfl,rfl⟩:=e;have dN:its = #[.int oG hD,.int z8 pU]:=Array.toList_inj.mp au;subst dN;exact⟨p,od,sl,n,hD,pU,by rw[td];exact ae,by rw[rd];exact aB⟩
   ·cases e
  ·cases e
 ·cases e
theorem E7{h:XB}:∀{l:List (Str×Int×Int)},(l.map λp=>uU h p.1)=(l.map λp=>some p)->An (kL h) l
 |[],_=>trivial
 |p::l,e=>by
  simp only[SD,UM]at e;exact⟨OP e.1,E7 e.2⟩
theorem OQ{h:XB}{x:Str}{c:Int ⊕ Str}(e:uV h x=some (x,c)):E5 (kL h) x c:=by
 unfold uV at e;split at e
 ·rename_i i t ae
  simp only[Vm,UL]at e;obtain⟨_,rfl⟩:=e;exact⟨t,by rw[td];exact ae⟩
 ·rename_i i t ae
  simp only[Vm,UL]at e;obtain⟨_,rfl⟩:=e;exact⟨t,by rw[td];exact ae⟩
 ·cases e
theorem E8{h:XB}:∀{l:List (Str×(Int ⊕ Str))},(l.map λp=>uV h p.1)=(l.map λp=>some p)->Ao (kL h) l
 |[],_=>trivial
 |p::l,e=>by
  simp only[SD,UM]at e;exact⟨OQ e.1,E8 e.2⟩
theorem ofH(t:n3)(w:WP)(s:Tl)(e:r3 t s=r4 t w):saysH t w s.heap:=by
 simp only[r3,r4,UL]at e;exact⟨kL s.heap,OM _,E6 e.1,allB_of e.2.1,E7 e.2.2.1,E8 e.2.2.2⟩
theorem keepsH(t:n3)(w:WP)(h h':XB)(y:saysH t w h)(k:∀b o,h.get? b=some o->h'.get? b=some o):saysH t w h':=by
 obtain⟨K,x,r⟩:=y;exact⟨K,x.keeps k,r⟩
theorem v7.fnd{K:Frag}{h:XB}{mg:Str->Option Tk}{x:Str}{st:XA}{ps:ZQ}(X:K.In h)(G:h.Ns WF mg)(F:v7 K x st)(b:∀f fd,mi K x x st f fd->Binds K fd ps []):cU K mg x st ps:=by
 obtain⟨f,fd,m,F⟩:=F;exact⟨f,fd,mg_of X G m,F,b f fd F⟩
abbrev tg(x:Str)(st:XA)(us:ZR)(r:List (Str×Tk)):Prop:=∀(kV doc pm:Tk)(an:Option TI)(cdv ct:Tk),ZB (fnOf x x (pH st) (kz st) (cd st) .none kV doc pm an cdv ct) ⟨us,[]⟩=pure r
abbrev th(x:Str)(st:XA)(ps:ZQ):Prop:=∀(kV doc pm:Tk)(an:Option TI)(cdv ct:Tk)(us:ZR),us.length=ps.length->ZB (fnOf x x (pH st) (kz st) (cd st) .none kV doc pm an cdv ct) ⟨us,[]⟩=pure (ps.zip us)
section
variable{x:Str}{st:XA}
theorem kf{p:Str}(hb:∀a,tg x st [a] [(p,a)]):th x st [p]:=λ_ _ _ _ _ _ us ao=>match us,ao with|[a],_=>hb a _ _ _ _ _ _
theorem fy{p q:Str}(hb:∀a b,tg x st [a,b] [(p,a),(q,b)]):th x st [p,q]:=λ_ _ _ _ _ _ us ao=>match us,ao with|[a,b],_=>hb a b _ _ _ _ _ _
theorem mB{p q r:Str}(hb:∀a b c,tg x st [a,b,c] [(p,a),(q,b),(r,c)]):th x st [p,q,r]:=λ_ _ _ _ _ _ us ao=>match us,ao with|[a,b,c],_=>hb a b c _ _ _ _ _ _
theorem OR{p q r s:Str}(hb:∀a b c d,tg x st [a,b,c,d] [(p,a),(q,b),(r,c),(s,d)]):th x st [p,q,r,s]:=λ_ _ _ _ _ _ us ao=>match us,ao with|[a,b,c,d],_=>hb a b c d _ _ _ _ _ _
theorem OS{p q r s t:Str}(hb:∀a b c d e,tg x st [a,b,c,d,e] [(p,a),(q,b),(r,c),(s,d),(t,e)]):th x st [p,q,r,s,t]:=λ_ _ _ _ _ _ us ao=>match us,ao with|[a,b,c,d,e],_=>hb a b c d e _ _ _ _ _ _
end
theorem v9.gtup{K:Frag}{h:XB}{mg:Str->Option Tk}{x:Str}{i j:Int}(X:K.In h)(G:h.Ns WF mg)(F:v9 K x i j):v6 K mg x [i,j]:=by
 obtain⟨p,od,sl,n,hD,pU,m,l⟩:=F;exact OL (mg_of X G m) l
theorem walkH{l:OpenLaw}{k:Nat}{q:Uf}{loose:ZQ}{XP:(Str->Option Tk)->XB->Prop}{t:n3}{d:DefRec}(aN:l.most=some 63)(zt:d.params.defaults=[])(ak:fw k Zg)(F:∀(w:WP) (K:Frag) (mg:Str->Option Tk) (g7:TI) (h:XB),Tab t K->K.In h->h.Ns WF mg->mg d.name=some (.ref g7)->∃fd:X3,(∀(s:Tl) (u:Tk),ZA s fd ⟨[u],[]⟩ [("_law_script",u)])/\∀base:XB,K.In base->base.Ns WF mg->jK l.prog w K mg base kA k g7 fd ["_law_script"] (vW K)):
  WalkO q loose XP (saysH t) l.row.toRowW d [] (λf vs=>PySem.call f vs):=by
 refine Att.attach_call aN zt λw s₀ dZ mg fu g7 o pm ft doc a vs ns G Y aB hd ec sv zu hints gb aD=>?_;obtain⟨K,og,T⟩:=Y;obtain⟨fd,ab,kH⟩:=F w K mg g7 _ T og G.T.g sv;exact Mh og G.T.g G.T.b G.T.builtins G.T.nolimit aD zu hints (aR gb) ak kH ab (λH zw ci=>⟨a,ns,rfl,ci,gb,λ_=>rfl⟩) λH e s' z=>z
end L3
namespace Cut
open PySem L2 L3
open PySem.Builtin.Int (intBits)
def sld(g p:aa):aa:=(p.1*g.2.2+g.1*p.2.2,p.2.1*g.2.2+g.2.1*p.2.2,p.2.2*g.2.2)
def trn(p:aa):aa:=(-p.1,-p.2.1,p.2.2)
def Ap(p q r s:aa):aa:=crs (crs p q) (crs r s)
def be(p q r:aa):Int:=(crs p q).1*r.1+(crs p q).2.1*r.2.1+(crs p q).2.2*r.2.2
def sg(x:Int):Int:=if 0<x then 1 else if x<0 then -1 else 0
theorem OT{x y c d:Int}(hc:0<c)(hd:0<d)(h:c*x=d*y):sg x=sg y:=by
 have pos:0<x↔0<y:=by
  constructor
  ·intro aq;have:=SE hc aq;rw[h]at this;exact T' this hd
  ·intro aG;have:=SE hd aG;rw[<-h]at this;exact T' this hc
 have E9:x=0↔y=0:=by
  constructor
  ·intro aq;rw[aq,SW]at h;exact(Tv.mp h.symm).resolve_left (Sz hd)
  ·intro aG;rw[aG,SW]at h;exact(Tv.mp h).resolve_left (Sz hc)
 unfold sg;by_cases h1:0<x
 ·rw[SL h1,SL (pos.mp h1)]
 ·rw[SZ h1,SZ (λz=>h1 (pos.mpr z))];by_cases h2:x=0
  ·rw[SZ (by lia),SZ (by have:=E9.mp h2;lia)]
  ·have:y≠0:=λz=>h2 (E9.mpr z);have:¬0<y:=λz=>h1 (pos.mpr z);rw[SL (by lia),SL (by lia)]
structure ti (L:aa->aa):Prop where
 hom:∀c p,L (sc c p)=sc c (L p)
 z:∃k,0<k/\∀p,(L p).2.2=k*p.2.2
 mt:∃d,d≠0/\∀p q r s,Ap (L p) (L q) (L r) (L s)=sc d (L (Ap p q r s))
 dt:∃d,0<d/\∀p q r,be (L p) (L q) (L r)=d*be p q r
def cs(g c:aa):aa:=(g.2.2*c.1,g.2.2*c.2.1,g.2.2*c.2.2-g.1*c.1-g.2.1*c.2.1)
theorem Aq(g p q:aa):crs (sld g p) (sld g q)=sc g.2.2 (cs g (crs p q)):=by
 refine eW ?_ ?_ ?_<;>simp only[crs,sc,sld,cs]<;>grind
theorem OU(g u v:aa):crs (cs g u) (cs g v)=sc g.2.2 (sld g (crs u v)):=by
 refine eW ?_ ?_ ?_<;>simp only[crs,sc,sld,cs]<;>grind
theorem OV{g:aa}(aD:0<g.2.2):ti (sld g):=by
 have aZ:=Sz aD;refine⟨λc p=>by refine eW ?_ ?_ ?_<;>simp only[sc,sld]<;>grind,⟨g.2.2,aD,λp=>by simp only[sld];grind⟩,⟨g.2.2*g.2.2*g.2.2,SS (SS aZ aZ) aZ,λp q r s=>?_⟩,⟨g.2.2*g.2.2*g.2.2,SE (SE aD aD) aD,λp q r=>?_⟩⟩
 ·unfold Ap;rw[Aq,Aq,Aj,OU,E0]
 ·unfold be;rw[Aq];generalize crs p q=c;simp only[sc,cs,sld];grind
theorem ti.low{L:aa->aa}(l:ti L){p:aa}(ae:0<p.2.2):0<(L p).2.2/\∃k,0<k/\L p=sc k (nP (L p)):=by
 obtain⟨k,du,e⟩:=l.z;have pos:0<(L p).2.2:=by rw[e];exact SE du ae
 obtain⟨g,aZ,oI⟩:=ke (Sz pos);have dB:=(gg (Sz pos)).1;refine⟨pos,g,?_,oI⟩;have br:(L p).2.2=g*(nP (L p)).2.2:=TW (λp:aa=>p.2.2) oI;rw[br]at pos;exact U1 pos dB
theorem OW(a b c:Int)(p q r:aa):be (sc a p) (sc b q) (sc c r)=a*b*c*be p q r:=by
 simp only[be,Aj];generalize crs p q=u;simp only[sc];grind
theorem ti.side{L:aa->aa}(l:ti L){p q r:aa}(ae:0<p.2.2)(ay:0<q.2.2)(ak:0<r.2.2):sg (be (nP (L p)) (nP (L q)) (nP (L r)))=sg (be p q r):=by
 obtain⟨_,a,f6,dN⟩:=l.low ae;obtain⟨_,b,b0,dY⟩:=l.low ay;obtain⟨_,c,h9,lF⟩:=l.low ak;obtain⟨d,ia,hK⟩:=l.dt;refine OT (SE (SE f6 b0) h9) ia ?_;rw[<-OW,<-dN,<-dY,<-lF,hK]
theorem jw{a b:Int}(h:∀k:Int,k∣a->k∣b->k∣1):Ak a b=1:=by
 have q:=UZ.mpr (h _ (Vc a b) (UX a b));simpa using q
theorem jS{a b k:Int}(g:Ak a b=1)(h1:k∣a)(h2:k∣b):k∣1:=by
 have:=V5 h1 h2;rw[g]at this;exact this
theorem oJ{k n m:Int}(h:k∣n*m)(g:Ak k m=1):k∣n:=nc (by rw[S2];exact h) g
theorem tj{a b k:Int}(g:Ak a b=1)(h:k∣a):Ak k b=1:=jw λj h1 h2=>jS g (Ti h1 h) h2
theorem v'{x y t b:Int}(l:aE x y)(ab:b≠0)(e:x*b=t*y):cg t b=(x,y):=by
 rw[<-OA l];exact Oz ab (Sz l.1) e.symm
theorem E'{x y z a b n:Int}(p:mm x y z)(aN:n≠0)(ai:x*n=a*z)(ap:y*n=b*z):cC a b n=(x,y,z):=by
 obtain⟨q,a4,a',_⟩:=i7 (a:=a) (b:=b) aN;obtain⟨h1,h2,aF⟩:=vx q p (TF aN (by grind)) (TF aN (by grind));exact TU h1 (TU h2 aF)
theorem oK{a b:Int}(h:a≠0\/b≠0):∃x y:Int,a=((Ak a b:Nat):Int)*x/\b=((Ak a b:Nat):Int)*y/\Ak x y=1:=by
 obtain⟨x,aq⟩:=Vc a b;obtain⟨y,aG⟩:=UX a b;refine⟨x,y,aq,aG,?_⟩
 have pos:0<Ak a b:=by
  rcases h with h|h
  ·exact W3 b h
  ·exact Vb a h
 have q:Ak a b=(((Ak a b:Nat):Int)).natAbs*Ak x y:=Ow aq aG;rw[W4]at q;exact VX pos (by lia)
theorem Fa{a b:Int}(h:a≠0\/b≠0):((Ak a b:Nat):Int)≠0:=by
 have pos:0<Ak a b:=by
  rcases h with h|h
  ·exact W3 b h
  ·exact Vb a h
 lia
theorem lG{a b:Int}(h:a≠0\/b≠0):0<((Ak a b:Nat):Int):=by
 have:=Fa h;lia
theorem ny{s y:Int}(eT:0<s)(h:0<s*y):0<y:=T' h eT
theorem Fb{x y u k Y V:Int}(g:Ak x y=1)(aG:Y∣y)(OX:Ak Y V=1)(h1:k∣x*V+u*Y)(h2:k∣Y):k∣1:=by
 have aF:k∣x*V:=by
  have:=V6 h1 (TN h2 (b:=u));simpa using this
 exact jS g (oJ aF (tj OX h2)) (Ti h2 aG)
theorem Fc{x y u v:Int}(a6:aE x y)(a7:aE u v){s top d:Int}(aj:s=(Ak y v:Nat))(bQ:top=x*v.fdiv s+u*y.fdiv s)(hd:d=(Ak s top:Nat)):
  (top.fdiv d,y.fdiv s*v.fdiv d)=cg (x*v+u*y) (y*v):=by
 obtain⟨bZ,aI⟩:=a6;obtain⟨v0,aP⟩:=a7;obtain⟨Y,V,mC,mD,tk⟩:=oK (a:=y) (b:=v) (.inl (Sz bZ));have eT:0<s:=by rw[aj];exact lG (.inl (Sz bZ))
 rw[<-aj]at mC mD;have az:=Sz eT;rw[iG mD az,iG mC az]at bQ;obtain⟨S,T,ci,dU,OY⟩:=oK (a:=s) (b:=top) (.inl az);have ia:0<d:=by rw[hd];exact lG (.inl az)
 rw[<-hd]at ci dU;have bw:=Sz ia;have Ar:v=d*(S*V):=by rw[mD,ci,Uh]
 rw[iG dU bw,iG mC az,iG Ar bw];have tl:0<Y:=ny eT (by lia);have As:0<V:=ny eT (by lia);have At:0<S:=ny ia (by lia);refine(v' ⟨SE tl (SE At As),?_⟩ (Sz (SE bZ v0)) ?_).symm
 ·refine jw λk h1 h2=>?_;have md:k∣top:=by rw[dU];exact TN h1
  have c1:Ak k Y=1:=jw λj ee eK=>Fb aI ⟨s,by rw[mC,S2]⟩ tk (by rw[<-bQ];exact Ti ee md) eK;have c2:Ak k V=1:=jw λj ee eK=>Fb (x:=u) (u:=x) (Y:=V) (V:=Y) aP ⟨s,by rw[mD,S2]⟩ (by rw[TL];exact tk) (by rw[V7,<-bQ];exact Ti ee md) eK;exact jS OY (oJ (nc h2 c1) c2) h1
 ·grind
theorem OZ{x y u v:Int}(a6:aE x y)(a7:aE u v):
  (x.fdiv ((Ak x v:Nat):Int)*u.fdiv ((Ak u y:Nat):Int),y.fdiv ((Ak u y:Nat):Int)*v.fdiv ((Ak x v:Nat):Int))=cg (x*u) (y*v):=by
 obtain⟨bZ,aI⟩:=a6;obtain⟨v0,aP⟩:=a7;obtain⟨X,V,oL,mD,O0⟩:=oK (a:=x) (b:=v) (.inr (Sz v0));obtain⟨U,Y,oM,mC,O1⟩:=oK (a:=u) (b:=y) (.inr (Sz bZ));have e9:=lG (a:=x) (b:=v) (.inr (Sz v0));have h0:=lG (a:=u) (b:=y) (.inr (Sz bZ));generalize((Ak x v:Nat):Int)=f at *;generalize((Ak u y:Nat):Int)=h at *;rw[iG oL (Sz e9),iG mD (Sz e9),iG oM (Sz h0),iG mC (Sz h0)];have tl:0<Y:=ny h0 (by lia);have As:0<V:=ny e9 (by lia);refine(v' ⟨SE tl As,?_⟩ (Sz (SE bZ v0)) ?_).symm
 ·refine jw λk bM cy=>?_;have O2:Ak X Y=1:=jw λj ee eK=>jS aI (by rw[oL];exact TN ee) (by rw[mC];exact TN eK);have O3:Ak U V=1:=jw λj ee eK=>jS aP (by rw[oM];exact TN ee) (by rw[mD];exact TN eK)
  have c1:Ak k Y=1:=jw λj ee eK=>by
   have aF:j∣X*U:=Ti ee bM;have bj:j∣U:=nc aF (jw λi ef fP=>jS O2 fP (Ti ef eK));exact jS O1 bj eK
  have c5:k∣V:=nc cy c1;have fX:k∣U:=nc bM (jw λi ef fP=>jS O0 fP (Ti ef c5));exact jS O3 fX c5
 ·grind
theorem Fd{x y z:Int}(h:∀k:Int,k∣x->k∣y->k∣z->k∣1):Ak (Ak x y:Nat) z=1:=
 jw λk h1 h2=>h k (Ti h1 (Vc x y)) (Ti h1 (UX x y)) h2
theorem O4{x y z k:Int}(g:Ak (Ak x y:Nat) z=1)(h1:k∣x)(h2:k∣y)(aF:k∣z):k∣1:=jS g (V5 h1 h2) aF
theorem O5{x y u v:Int}(a6:aE x y)(a7:aE u v):
  (x*v.fdiv ((Ak y v:Nat):Int),u*y.fdiv ((Ak y v:Nat):Int),y.fdiv ((Ak y v:Nat):Int)*v)=cC (x*v) (u*y) (y*v):=by
 obtain⟨bZ,aI⟩:=a6;obtain⟨v0,aP⟩:=a7;obtain⟨Y,V,mC,mD,tk⟩:=oK (a:=y) (b:=v) (.inl (Sz bZ));have eT:=lG (a:=y) (b:=v) (.inl (Sz bZ));generalize((Ak y v:Nat):Int)=s at *;rw[iG mD (Sz eT),iG mC (Sz eT)];have tl:0<Y:=ny eT (by lia);refine(E' ⟨SE tl v0,?_⟩ (Sz (SE bZ v0)) ?_ ?_).symm
 ·refine Fd λk h1 h2 aF=>?_;have c1:Ak k Y=1:=jw λj ee eK=>jS aI (oJ (Ti ee h1) (tj tk eK)) (by rw[mC];exact TN eK);have c2:Ak k V=1:=jw λj ee eK=>jS aP (oJ (Ti ee h2) (tj (by rw[TL];exact tk) eK)) (by rw[mD];exact TN eK);have bj:k∣u:=oJ h2 c1;have c5:k∣v:=nc aF c1;exact jS aP bj c5
 ·grind
 ·grind
theorem Fe{a b n r w k N M:Int}(g:Ak (Ak a b:Nat) n=1)(aN:N∣n)(Ff:Ak N M=1)(h1:k∣a*M+r*N)(h2:k∣b*M+w*N)(aF:k∣N):k∣1:=by
 have aO:k∣a*M:=by
  have:=V6 h1 (TN aF (b:=r));simpa using this
 have bz:k∣b*M:=by
  have:=V6 h2 (TN aF (b:=w));simpa using this
 exact O4 g (oJ aO (tj Ff aF)) (oJ bz (tj Ff aF)) (Ti aF aN)
theorem O6{a b n r w m:Int}(cp:mm a b n)(b1:mm r w m){s X Y d:Int}(aj:s=(Ak n m:Nat))(oL:X=a*m.fdiv s+r*n.fdiv s)(Au:Y=b*m.fdiv s+w*n.fdiv s)(hd:d=(Ak ((Ak s X:Nat):Int) Y:Nat)):
  (X.fdiv d,Y.fdiv d,n.fdiv s*m.fdiv d)=cC (a*m+r*n) (b*m+w*n) (n*m):=by
 obtain⟨dB,aI⟩:=cp;obtain⟨dS,aP⟩:=b1;obtain⟨N,M,bi,ho,Fg⟩:=oK (a:=n) (b:=m) (.inl (Sz dB));have eT:0<s:=by rw[aj];exact lG (.inl (Sz dB))
 rw[<-aj]at bi ho;have az:=Sz eT;rw[iG bi az,iG ho az]at oL Au;obtain⟨wa,O7,O8,O9,O'⟩:=oK (a:=s) (b:=X) (.inl az);have ai:=Fa (a:=s) (b:=X) (.inl az);obtain⟨E,agk,Av,Aw,Pa⟩:=oK (a:=((Ak s X:Nat):Int)) (b:=Y) (.inl ai);have ia:0<d:=by rw[hd];exact lG (.inl ai)
 rw[<-hd]at Av Aw;have bw:=Sz ia
 have ci:s=d*(E*wa):=by
  rw[O8]
  conv=>lhs;rw[Av]
  rw[Uh]
 have Fh:X=d*(E*O7):=by
  rw[O9]
  conv=>lhs;rw[Av]
  rw[Uh]
 have tm:m=d*(E*wa*M):=by rw[ho,ci,Uh]
 rw[iG Fh bw,iG Aw bw,iG bi az,iG tm bw];have d9:0<N:=ny eT (by lia);have nz:0<M:=ny eT (by lia);have At:0<E*wa:=ny ia (by lia);refine(E' ⟨SE d9 (SE At nz),?_⟩ (Sz (SE dB dS)) ?_ ?_).symm
 ·refine Fd λk h1 h2 aF=>?_;have Fi:k∣X:=by rw[Fh];exact TN h1
  have Fj:k∣Y:=by rw[Aw];exact TN h2
  have c1:Ak k N=1:=jw λj ee eK=>Fe aI ⟨s,by rw[bi,S2]⟩ Fg (by rw[<-oL];exact Ti ee Fi) (by rw[<-Au];exact Ti ee Fj) eK;have c2:Ak k M=1:=jw λj ee eK=>Fe (a:=r) (b:=w) (n:=m) (r:=a) (w:=b) (N:=M) (M:=N) aP ⟨s,by rw[ho,S2]⟩ (by rw[TL];exact Fg) (by rw[V7,<-oL];exact Ti ee Fi) (by rw[V7,<-Au];exact Ti ee Fj) eK;have bj:k∣E*wa:=oJ (nc aF c1) c2
  have c5:k∣E:=by
   have z:=V5 bj h1;rw[VW,O',Nat.mul_one]at z;exact Ti z (Int.natAbs_dvd.mpr (Int.dvd_refl E))
  exact jS Pa c5 h2
 ·grind
 ·grind
theorem cD.sld{m n:Nat}{g p:aa}(aD:cD m g)(ae:cD n p):cD (n+m+1) (Cut.sld g p):=by
 refine⟨?_,?_,?_⟩
 ·exact SA (XQ (TE ae.a aD.c) (TE aD.a ae.c)) (by lia)
 ·exact SA (XQ (TE ae.b aD.c) (TE aD.b ae.c)) (by lia)
 ·exact SA (TE ae.c aD.c) (by lia)
theorem cD.trn{m:Nat}{p:aa}(ae:cD m p):cD m (Cut.trn p):=⟨Xz ae.a,Xz ae.b,ae.c⟩
theorem aT.trn{p:aa}(h:aT p):aT (Cut.trn p):=zD h
theorem tn{g p:aa}(aD:aT g)(ae:aT p):(sld g p).2.2≠0:=DY ae.1 aD.1
theorem aT.sld{g p:aa}(aD:aT g)(ae:aT p):aT (nP (Cut.sld g p)):=gg (tn aD ae)
theorem cD.sldN{m n:Nat}{g p:aa}(aD:cD m g)(ae:cD n p)(Pb:aT g)(Pc:aT p):cD (n+m+1) (Cut.nP (Cut.sld g p)):=(aD.sld ae).nP (tn Pb Pc)
theorem re(p q:aa):be p q q=0:=by unfold be crs;grind
def cK(ps:ZH)(n:Nat):aa:=(ps[n]?).getD (0,0,1)
theorem rf{ps:ZH}{n:Nat}(h:n<ps.length):cK ps n=ps[n]:=by unfold cK;rw[S5 h];rfl
theorem Ax{f:aa->aa}{ps:ZH}{n:Nat}(h:n<ps.length):cK (ps.map f) n=f (cK ps n):=by
 rw[rf h,rf (by rw[Sw];exact h),List.getElem_map]
theorem wc{ps:ZH}{n:Nat}(h:n<ps.length):cK ps n∈ps:=by rw[rf h];exact Vn h
theorem rh{ps:ZH}{n:Nat}(h:n<ps.length):ej (ps.map aS) (n:Int)=some (aS (cK ps n)):=by rw[rf h];exact s8 (Ol h)
def gv(ps:ZH):Prop:=3<=ps.length/\∀k j,k<ps.length->j<ps.length->j≠k->j≠(k+1)%ps.length->sg (be (cK ps k) (cK ps ((k+1)%ps.length)) (cK ps j))=1
theorem gv.map{f:aa->aa}{ps:ZH}(bf:∀p q r,p∈ps->q∈ps->r∈ps->sg (be (f p) (f q) (f r))=sg (be p q r))(h:gv ps):gv (ps.map f):=by
 refine⟨by rw[Sw];exact h.1,λk j ag b8 h1 h2=>?_⟩;rw[Sw]at ag b8 h2⊢;have jT:(k+1)%ps.length<ps.length:=Uv _ (by lia);rw[Ax ag,Ax b8,Ax jT,bf _ _ _ (wc ag) (wc jT) (wc b8)];exact h.2 k j ag b8 h1 h2
abbrev aK:=ZH×Bool×aa
abbrev ZI:=List aK
abbrev ZY:=List ZI
def cY(s:aK):D:=.tup [.lst (s.1.map aS),.bl s.2.1,aS s.2.2]
structure eA (m:Nat) (p:aa):Prop where
 pt:aT p
 bp:cD m p
theorem eA.mono{m n:Nat}{p:aa}(h:eA m p)(l:m<=n):eA n p:=⟨h.pt,h.bp.mono l⟩
def eL(g:aa)(s:aK):aK:=(s.1.map (λp=>nP (sld g p)),s.2.1,nP (sld g s.2.2))
theorem eA.trn{m:Nat}{p:aa}(h:eA m p):eA m (Cut.trn p):=⟨h.pt.trn,h.bp.trn⟩
theorem eA.sl{m n:Nat}{g p:aa}(aD:eA m g)(h:eA n p):eA (n+m+1) (nP (sld g p)):=⟨aD.pt.sld h.pt,aD.bp.sldN h.bp aD.pt h.pt⟩
abbrev Ay:gd:=np 3 (hr (e3 0) (hr (e3 1) (hr (e3 2) nm)))
theorem Fk{u:a9}{fs:ZL}{h:aK->D}:∀{sh:ZI}{v0 v1 ev:aQ}{k:ZK->Prop},(∀s∈sh,∀k:D->Prop,k (h s)->u (.val (.lst (s.1.map aS))::.val (.bl s.2.1)::.val (aS s.2.2)::fs) k)->k (sh.map h)->he Ay ka u (sh.map cY) (v0::v1::ev::fs) k
 |[],_,_,_,_,_,ag=>ag
 |s::sh,v0,v1,ev,k,bo,ag=>by
  refine⟨_,rfl,rfl,_,_,rfl,_,_,rfl,_,_,rfl,rfl,?_⟩;show(if true=true then u (.val (.lst (s.1.map aS))::.val (.bl s.2.1)::.val (aS s.2.2)::fs) λy=>he Ay ka u (sh.map cY) (.val (.lst (s.1.map aS))::.val (.bl s.2.1)::.val (aS s.2.2)::fs) λys=>k (y::ys)else he Ay ka u (sh.map cY) (.val (.lst (s.1.map aS))::.val (.bl s.2.1)::.val (aS s.2.2)::fs) k)
  rw[SL rfl];refine bo s Sv _ ?_;exact Fk (λx aq=>bo x (Sy _ aq)) ag
theorem Pd(f:aa->aa)(ps:ZH):(ps.map λp=>aS (f p))=(ps.map f).map aS:=by rw[SQ];rfl
theorem Fl{a b c:Nat}{s:cX}{U:iB}(I:ZI->ZL->Prop):∀{sh done:ZI}{ρ:ZL},I done ρ->
  (∀pre x rest ρ,done++sh=pre++x::rest->I pre ρ->∀N:ZL->Prop,(∀r,I (pre++[x]) r->N r)->s {U with nx:=N,ct:=N,bk:=U.nx} (((ρ.set a (.val (.lst (x.1.map aS)))).set b (.val (.bl x.2.1))).set c (.val (aS x.2.2))))->
  (∀ρ,I (done++sh) ρ->U.nx ρ)->h5 (np 3 (hr (e3 a) (hr (e3 b) (hr (e3 c) nm)))) s U (sh.map cY) ρ
 |[],done,ρ,h0,_,h2=>h2 ρ (by rw[SO];exact h0)
 |x::sh,done,ρ,h0,h1,h2=>by
  refine⟨_,rfl,rfl,_,_,rfl,_,_,rfl,_,_,rfl,rfl,?_⟩;refine h1 done x sh ρ rfl h0 _ λr ak=>?_;refine Fl I ak (λpre y rest ρ e=>h1 pre y rest ρ (by rw[<-e];simp)) λρ h=>h2 ρ ?_;have e:done++[x]++sh=done++x::sh:=by simp
  rw[<-e];exact h
def fG(s:aK):List aa:=if s.2.1=true then(s.1.map λp=>nP (sld (trn s.2.2) p)).map trn else s.1.map λp=>nP (sld (trn s.2.2) p)
theorem Fm(x y:Int):Ak (Ak x 0:Nat) y=Ak x y:=by rw[WU];show Tg (Int.natAbs (x.natAbs:Int)) y.natAbs=_;rw[W4];rfl
theorem Pe(x y:Int):Ak (Ak 0 x:Nat) y=Ak x y:=by rw[TL 0 x,Fm]
theorem Fn{w:Int×Int}(l:aE w.1 w.2):aT (w.1,0,w.2):=⟨l.1,(Fm _ _).trans l.2⟩
theorem Fo{w:Int×Int}(l:aE w.1 w.2):aT (0,w.1,w.2):=⟨l.1,(Pe _ _).trans l.2⟩
def cj(w h:Int×Int):aa:=cC (w.1*h.2) (h.1*w.2) (w.2*h.2)
def fo(w h:Int×Int):List aa:=[(0,0,1),(w.1,0,w.2),cj w h,(0,h.1,h.2)]
structure jx (w h:Int×Int):Prop where
 lw:aE w.1 w.2
 lh:aE h.1 h.2
 w0:0<w.1
 h0:0<h.1
theorem jx.top{w h:Int×Int}(b:jx w h):aT (cj w h)/\(cj w h).1*w.2=w.1*(cj w h).2.2/\(cj w h).2.1*h.2=h.1*(cj w h).2.2/\0<(cj w h).1/\0<(cj w h).2.1:=by
 have dB:w.2*h.2≠0:=DY b.lw.1 b.lh.1;obtain⟨p,ai,ap,_⟩:=i7 (a:=w.1*h.2) (b:=h.1*w.2) dB;have p:aT (cj w h):=p;have ai:(cj w h).1*(w.2*h.2)=w.1*h.2*(cj w h).2.2:=ai;have ap:(cj w h).2.1*(w.2*h.2)=h.1*w.2*(cj w h).2.2:=ap;have a4:(cj w h).1*w.2=w.1*(cj w h).2.2:=TF (Sz b.lh.1) (by grind);have a':(cj w h).2.1*h.2=h.1*(cj w h).2.2:=TF (Sz b.lw.1) (by grind);refine⟨p,a4,a',?_,?_⟩
 ·have:0<(cj w h).1*w.2:=by rw[a4];exact SE b.w0 p.1
  exact U1 this b.lw.1
 ·have:0<(cj w h).2.1*h.2:=by rw[a'];exact SE b.h0 p.1
  exact U1 this b.lh.1
theorem oN{x:Int}(h:0<x):sg x=1:=by unfold sg;rw[SL h]
section
variable{w h:Int×Int}
theorem jx.d012(b:jx w h):sg (be (0,0,1) (w.1,0,w.2) (cj w h))=1:=by
 obtain⟨_,_,_,ce,bZ⟩:=b.top;have e:be (0,0,1) (w.1,0,w.2) (cj w h)=w.1*(cj w h).2.1:=by unfold be crs;simp
 rw[e];exact oN (SE b.w0 bZ)
theorem jx.d013(b:jx w h):sg (be (0,0,1) (w.1,0,w.2) (0,h.1,h.2))=1:=by
 have e:be (0,0,1) (w.1,0,w.2) (0,h.1,h.2)=w.1*h.1:=by unfold be crs;simp
 rw[e];exact oN (SE b.w0 b.h0)
theorem jx.d023(b:jx w h):sg (be (0,0,1) (cj w h) (0,h.1,h.2))=1:=by
 obtain⟨_,_,_,ce,bZ⟩:=b.top;have e:be (0,0,1) (cj w h) (0,h.1,h.2)=(cj w h).1*h.1:=by unfold be crs;simp
 rw[e];exact oN (SE ce b.h0)
theorem jx.d312(b:jx w h):sg (be (0,h.1,h.2) (w.1,0,w.2) (cj w h))=1:=by
 obtain⟨p,ai,ap,ce,bZ⟩:=b.top;have e:be (0,h.1,h.2) (w.1,0,w.2) (cj w h)=h.1*w.1*(cj w h).2.2:=by unfold be crs;simp;grind
 rw[e];exact oN (SE (SE b.h0 b.w0) p.1)
end
theorem Pf{p q r s:aa}(h1:sg (be p q r)=1)(h2:sg (be p q s)=1)(aF:sg (be q r s)=1)(bj:sg (be p r s)=1):gv [p,q,r,s]:=by
 have tp:∀a b c:aa,be b c a=be a b c:=λa b c=>by unfold be crs;grind
 refine⟨by simp,λk j ag b8 bX dn=>?_⟩;have l:[p,q,r,s].length=4:=rfl;rw[l]at ag b8 dn⊢;have:k=0\/k=1\/k=2\/k=3:=by lia
 rcases this with rfl|rfl|rfl|rfl
 ·have:j=2\/j=3:=by lia
  rcases this with rfl|rfl
  ·exact h1
  ·exact h2
 ·have:j=0\/j=3:=by lia
  rcases this with rfl|rfl
  ·show sg (be q r p)=1
   rw[tp p q r];exact h1
  ·exact aF
 ·have:j=0\/j=1:=by lia
  rcases this with rfl|rfl
  ·show sg (be r s p)=1
   rw[tp p r s];exact bj
  ·show sg (be r s q)=1
   rw[tp q r s];exact aF
 ·have:j=1\/j=2:=by lia
  rcases this with rfl|rfl
  ·show sg (be s p q)=1
   rw[<-tp s p q];exact h2
  ·show sg (be s p r)=1
   rw[<-tp s p r];exact bj
theorem jx.cvx{w h:Int×Int}(b:jx w h):gv (fo w h):=by
 refine Pf b.d012 b.d013 ?_ b.d023;have:be (w.1,0,w.2) (cj w h) (0,h.1,h.2)=be (0,h.1,h.2) (w.1,0,w.2) (cj w h):=by unfold be crs;grind
 rw[this];exact b.d312
theorem Fp{ps:ZH}{k:Nat}(h:k<ps.length):ej (ps.map aS) ((k:Int)-1)=some (aS (cK ps ((k+ps.length-1)%ps.length))):=by
 cases k with
 |zero=>
  have e:((0:Nat)+ps.length-1)%ps.length=ps.length-1:=by rw[TR];exact TA (by lia)
  rw[e,rf (by lia)];unfold ej ixN;rw[SZ (by lia),SL (by rw[Sw];lia)];show(ps.map aS)[_]?=_
  rw[S4,Sw,show(((0:Nat):Int)-1+(ps.length:Int)).toNat=ps.length-1 by lia,S5 (by lia)];rfl
 |succ k=>
  have e:(k+1+ps.length-1)%ps.length=k:=by
   rw[show k+1+ps.length-1=k+ps.length by lia,Vo];exact TA (by lia)
  rw[e,show(((k+1:Nat):Int)-1)=(k:Int) by lia];exact rh (by lia)
theorem jy(p q r:aa):be q r p=be p q r:=by unfold be crs;grind
theorem tq(p q:aa):be p p q=0:=by unfold be crs;grind
theorem Pg(o u a b c:aa):be o u b*be o a c=be o u a*be o b c+be o u c*be o a b:=by
 unfold be crs;grind
theorem Fq{x:Int}(h:sg x=1):0<x:=by
 unfold sg at h;split at h
 ·assumption
 ·split at h<;>lia
def tr(ps:ZH):Prop:=∀i j k,i<j->j<k->k<ps.length->0<be (cK ps i) (cK ps j) (cK ps k)
theorem gv.edge{ps:ZH}(h:gv ps){k j:Nat}(ag:k+1<ps.length)(b8:j<ps.length)(bX:j≠k)(dn:j≠k+1):0<be (cK ps k) (cK ps (k+1)) (cK ps j):=by
 have:=h.2 k j (by lia) b8 bX (by rw[TA ag];exact dn);rw[TA ag]at this;exact Fq this
theorem gv.tri{ps:ZH}(h:gv ps):tr ps:=by
 intro i j k py hjk ag;induction k with
 |zero=>lia
 |succ k bN=>
  by_cases e:j=k
  ·subst e;rw[<-jy];exact h.edge ag (by lia) (by lia) (by lia)
  ·have h1:=bN (by lia) (by lia)
   have h2:0<be (cK ps i) (cK ps k) (cK ps (k+1)):=by
    rw[<-jy];exact h.edge ag (by lia) (by lia) (by lia)
   have bY:=h.edge (k:=i) (j:=k) (by lia) (by lia) (by lia) (by lia);have hJ:=h.edge (k:=i) (j:=k+1) (by lia) (by lia) (by lia) (by lia)
   have bD:0<=be (cK ps i) (cK ps (i+1)) (cK ps j):=by
    by_cases z:j=i+1
    ·subst z;have:be (cK ps i) (cK ps (i+1)) (cK ps (i+1))=0:=re _ _;lia
    ·exact Tu (h.edge (by lia) (by lia) (by lia) z)
   have cm:=Pg (cK ps i) (cK ps (i+1)) (cK ps j) (cK ps k) (cK ps (k+1));have r1:=Tw bD (Tu h2);have r2:=SE hJ h1;have:0<be (cK ps i) (cK ps (i+1)) (cK ps k)*be (cK ps i) (cK ps j) (cK ps (k+1)):=by lia
   exact T' this bY
theorem tr.cvx{ps:ZH}(ao:3<=ps.length)(h:tr ps):gv ps:=by
 refine⟨ao,λk j ag b8 bX dn=>oN ?_⟩;by_cases e:k+1<ps.length
 ·rw[TA e]at dn⊢;by_cases z:k<j
  ·exact h k (k+1) j (by lia) (by lia) b8
  ·rw[jy];exact h j k (k+1) (by lia) (by lia) e
 ·have kM:k+1=ps.length:=by lia
  rw[kM,Nat.mod_self]at dn⊢;rw[<-jy];exact h 0 j k (by lia) (by lia) ag
def T1(a:aa):ZH->Prop
 |[]=>True
 |b::r=>(∀c∈r,0<be a b c)/\T1 a r
def cu:ZH->Prop
 |[]=>True
 |a::r=>T1 a r/\cu r
theorem T1.sub{a:aa}{l m:ZH}(s:l.Sublist m):T1 a m->T1 a l:=by
 induction s with
 |slnil=>exact id
 |cons b s bN=>exact λh=>bN h.2
 |cons_cons b s bN=>exact λh=>⟨λc hc=>h.1 c (s.subset hc),bN h.2⟩
theorem cu.sub{l m:ZH}(s:l.Sublist m):cu m->cu l:=by
 induction s with
 |slnil=>exact id
 |cons b s bN=>exact λh=>bN h.2
 |cons_cons b s bN=>exact λh=>⟨T1.sub s h.1,bN h.2⟩
theorem Fs(a:aa)(r:ZH)(i:Nat):cK (a::r) (i+1)=cK r i:=rfl
theorem Ph(a:aa)(r:ZH):cK (a::r) 0=a:=rfl
theorem Pi{r:ZH}{i:Nat}(h:i<r.length):cK r i∈r:=by
 induction r generalizing i with
 |nil=>exact absurd h (by simp)
 |cons a r bN=>
  cases i with
  |zero=>exact Sv
  |succ i=>exact Sy _ (bN (by simpa using h))
theorem Pj{r:ZH}{c:aa}(h:c∈r):∃i,i<r.length/\cK r i=c:=by
 induction r with
 |nil=>cases h
 |cons a r bN=>
  rcases SG.mp h with rfl|h
  ·exact⟨0,by simp,rfl⟩
  ·obtain⟨i,au,e⟩:=bN h;exact⟨i+1,by simpa using au,e⟩
theorem we(a:aa):∀r:ZH,T1 a r↔∀j k,j<k->k<r.length->0<be a (cK r j) (cK r k)
 |[]=>⟨λ_ j k _ h=>absurd h (by simp),λ_=>trivial⟩
 |b::r=>by
  constructor
  ·rintro⟨h1,h2⟩ j k hjk ag;cases k with
   |zero=>lia
   |succ k=>
    have ag:k<r.length:=by simpa using ag
    cases j with
    |zero=>exact h1 _ (Pi ag)
    |succ j=>exact(we a r).mp h2 j k (by lia) ag
  ·intro h;refine⟨λc hc=>?_,(we a r).mpr λj k hjk ag=>h (j+1) (k+1) (by lia) (by simpa using ag)⟩;obtain⟨i,au,rfl⟩:=Pj hc;exact h 0 (i+1) (by lia) (by simpa using au)
theorem wf:∀ps:ZH,cu ps↔tr ps
 |[]=>⟨λ_ i j k _ _ h=>absurd h (by simp),λ_=>trivial⟩
 |a::r=>by
  constructor
  ·rintro⟨h1,h2⟩ i j k py hjk ag;cases k with
   |zero=>lia
   |succ k=>
    cases j with
    |zero=>lia
    |succ j=>
     have ag:k<r.length:=by simpa using ag
     cases i with
     |zero=>exact(we a r).mp h1 j k (by lia) ag
     |succ i=>exact(wf r).mp h2 i j k (by lia) (by lia) ag
  ·intro h;exact⟨(we a r).mpr λj k hjk ag=>h 0 (j+1) (k+1) (by lia) (by lia) (by simpa using ag),(wf r).mpr λi j k h1 h2 ag=>h (i+1) (j+1) (k+1) (by lia) (by lia) (by simpa using ag)⟩
theorem tu(c a b:aa):crs c (crs a b)=f7 (c.1*b.1+c.2.1*b.2.1+c.2.2*b.2.2) a (-(c.1*a.1+c.2.1*a.2.1+c.2.2*a.2.2)) b:=by
 unfold crs f7;refine eW ?_ ?_ ?_<;>dsimp only<;>grind
theorem Ft(s t:Int)(a b q r:aa):be (f7 s a t b) q r=s*be a q r+t*be b q r:=by unfold be crs f7;dsimp only;grind
theorem Fu(s:Int)(a q r:aa):be (sc s a) q r=s*be a q r:=by unfold be crs sc;dsimp only;grind
end Cut
namespace Cut
open PySem L2 L3
theorem Fv{b a:aa}:∀{r:ZH},T1 b r->(∀c∈r,0<be b c a)->T1 b (r++[a])
 |[],_,_=>⟨λc hc=>absurd hc (by simp),trivial⟩
 |d::r,h,k=>⟨λc hc=>by
   rcases SR.mp hc with hc|hc
   ·exact h.1 c hc
   ·rw[SM.mp hc];exact k d Sv,Fv h.2 λc hc=>k c (Sy _ hc)⟩
theorem Fw{a:aa}:∀{r:ZH},cu r->T1 a r->cu (r++[a])
 |[],_,_=>⟨trivial,trivial⟩
 |b::r,h,k=>⟨Fv h.1 λc hc=>by rw[jy];exact k.1 c hc,Fw h.2 k.2⟩
theorem cu.rot{a:aa}{r:ZH}(h:cu (a::r)):cu (r++[a]):=Fw h.2 h.1
def tv:ZH->ZH->Prop
 |[],_=>True
 |x::xs,ek=>(∀y∈xs,∀z∈ek,0<be x y z)/\tv xs ek
theorem wg{x:aa}:∀{xs ek:ZH},T1 x (xs++ek)↔T1 x xs/\T1 x ek/\∀y∈xs,∀z∈ek,0<be x y z
 |[],ek=>⟨λh=>⟨trivial,h,λy aG=>absurd aG (by simp)⟩,λh=>h.2.1⟩
 |y::xs,ek=>by
  constructor
  ·rintro⟨h1,h2⟩;obtain⟨bM,cy,gt⟩:=wg.mp h2;refine⟨⟨λc hc=>h1 c (TO _ hc),bM⟩,cy,λw hw z hz=>?_⟩;rcases SG.mp hw with rfl|hw
   ·exact h1 z (Ts _ hz)
   ·exact gt w hw z hz
  ·rintro⟨⟨h1,h2⟩,aF,bj⟩;refine⟨λc hc=>?_,wg.mpr ⟨h2,aF,λw hw z hz=>bj w (Sy _ hw) z hz⟩⟩;rcases SR.mp hc with hc|hc
   ·exact h1 c hc
   ·exact bj y Sv c hc
theorem lI:∀{xs ek:ZH},cu (xs++ek)↔cu xs/\cu ek/\(∀x∈xs,T1 x ek)/\tv xs ek
 |[],ek=>⟨λh=>⟨trivial,h,λy aG=>absurd aG (by simp),trivial⟩,λh=>h.2.1⟩
 |x::xs,ek=>by
  constructor
  ·rintro⟨h1,h2⟩;obtain⟨bM,cy,gt,j'⟩:=lI.mp h2;obtain⟨ee,eK,mE⟩:=wg.mp h1;refine⟨⟨ee,bM⟩,cy,λw hw=>?_,⟨mE,j'⟩⟩;rcases SG.mp hw with rfl|hw
   ·exact eK
   ·exact gt w hw
  ·rintro⟨⟨h1,h2⟩,aF,bj,c5,fX⟩;exact⟨wg.mpr ⟨h1,bj x Sv,c5⟩,lI.mpr ⟨h2,aF,λw hw=>bj w (Sy _ hw),fX⟩⟩
theorem wi{ek fD:ZH}(h:∀x y,(∀z∈ek,0<be x y z)->∀z∈fD,0<be x y z):∀{xs:ZH},tv xs ek->tv xs fD
 |[],_=>trivial
 |x::xs,k=>⟨λy aG=>h x y (k.1 y aG),wi h k.2⟩
def i9(p q m:aa):Prop:=∃s a b:Int,0<s/\0<a/\0<b/\sc s m=f7 a p b q
theorem Pk{s x y:Int}(aj:0<s)(e:s*x=y)(aG:0<y):0<x:=by
 rw[<-e]at aG;exact T' aG aj
theorem tw{p q m u v:aa}(h:i9 p q m)(h1:0<=be p u v)(h2:0<=be q u v)(aF:0<be p u v\/0<be q u v):0<be m u v:=by
 obtain⟨s,a,b,aj,aw,ab,e⟩:=h;have k:s*be m u v=a*be p u v+b*be q u v:=by rw[<-Fu,e,Ft]
 refine Pk aj k ?_;have bX:=Tw (Tu aw) h1;have dn:=Tw (Tu ab) h2;rcases aF with aF|aF
 ·have:=SE aw aF;lia
 ·have:=SE ab aF;lia
theorem pV{p q m u v:aa}(h:i9 p q m)(h1:0<=be u p v)(h2:0<=be u q v)(aF:0<be u p v\/0<be u q v):0<be u m v:=by
 rw[<-jy]at h1 h2⊢;rw[<-jy u p v,<-jy u q v]at aF;exact tw h h1 h2 aF
theorem pW{p q m u v:aa}(h:i9 p q m)(h1:0<=be u v p)(h2:0<=be u v q)(aF:0<be u v p\/0<be u v q):0<be u v m:=by
 rw[jy]at h1 h2⊢;rw[jy p u v,jy q u v]at aF;exact tw h h1 h2 aF
theorem Az{p q m:aa}(h:i9 p q m):∀{ys:ZH},T1 p ys->T1 q ys->T1 m ys
 |[],_,_=>trivial
 |y::ys,h1,h2=>⟨λc hc=>tw h (Tu (h1.1 c hc)) (Tu (h2.1 c hc)) (.inl (h1.1 c hc)),Az h h1.2 h2.2⟩
theorem fA{x:Int}(z:0<x):0<=x:=Tu z
theorem nA{x:Int}(z:x=0):0<=x:=by lia
theorem cu.back{xs ys:ZH}{p q m:aa}(h:cu (xs++p::q::ys))(av:i9 p q m):cu (xs++p::m::ys):=by
 obtain⟨h1,⟨⟨cp,b1⟩,aO,bz⟩,aF,bj⟩:=lI.mp h;refine lI.mpr ⟨h1,⟨⟨λc hc=>?_,b1⟩,Az av b1 aO,bz⟩,λx aq=>?_,wi (λx y hz z hw=>?_) bj⟩
 ·exact pV av (nA (tq p c)) (fA (cp c hc)) (.inr (cp c hc))
 ·obtain⟨bM,cy,gt⟩:=aF x aq;refine⟨λc hc=>?_,λc hc=>?_,gt⟩
  ·rcases SG.mp hc with rfl|hc
   ·exact pW av (nA (re x p)) (fA (bM q Sv)) (.inr (bM q Sv))
   ·exact bM c (Sy _ hc)
  ·exact pV av (fA (bM c (Sy _ hc))) (fA (cy c hc)) (.inr (cy c hc))
 ·rcases SG.mp hw with rfl|hw
  ·exact hz _ Sv
  ·rcases SG.mp hw with rfl|hw
   ·exact pW av (fA (hz p Sv)) (fA (hz q (Sy _ Sv))) (.inl (hz p Sv))
   ·exact hz z (Sy _ (Sy _ hw))
theorem cu.on{xs ys:ZH}{p q m:aa}(h:cu (xs++p::q::ys))(av:i9 p q m):cu (xs++m::q::ys):=by
 obtain⟨h1,⟨⟨cp,b1⟩,aO,bz⟩,aF,bj⟩:=lI.mp h;refine lI.mpr ⟨h1,⟨⟨λc hc=>?_,Az av b1 aO⟩,aO,bz⟩,λx aq=>?_,wi (λx y hz z hw=>?_) bj⟩
 ·exact tw av (fA (cp c hc)) (nA (tq q c)) (.inl (cp c hc))
 ·obtain⟨bM,cy,gt⟩:=aF x aq;refine⟨λc hc=>?_,cy,gt⟩;rcases SG.mp hc with rfl|hc
  ·exact pV av (fA (bM c Sv)) (nA (re x c)) (.inl (bM c Sv))
  ·exact pV av (fA (bM c (Sy _ hc))) (fA (cy c hc)) (.inr (cy c hc))
 ·rcases SG.mp hw with rfl|hw
  ·exact pW av (fA (hz p Sv)) (fA (hz q (Sy _ Sv))) (.inl (hz p Sv))
  ·exact hz z (Sy _ hw)
theorem cu.off{xs ys:ZH}{p q r m n:aa}(h:cu (xs++p::q::r::ys))(av:i9 p q m)(aN:i9 q r n):cu (xs++p::m::n::r::ys):=by
 have ai:=cu.on (xs:=xs++[p]) (p:=q) (q:=r) (by rw[S7];exact h) aN;rw[S7]at ai;obtain⟨h1,⟨⟨cp,b1⟩,aO,bz⟩,aF,bj⟩:=lI.mp h;obtain⟨_,⟨⟨b7,bW⟩,bc,bg⟩,c3,c4⟩:=lI.mp (show cu (xs++p::n::r::ys)from ai);have Pl:cu (xs++p::m::r::ys):=h.back av;obtain⟨_,⟨⟨bw,bF⟩,a4,a'⟩,g3,el⟩:=lI.mp Pl;have Fx:0<be p q n:=pW aN (nA (re p q)) (fA (cp r Sv)) (.inr (cp r Sv))
 have Pm:∀c∈r::ys,0<be m n c:=λc hc=>by
  refine tw av (fA (b7 c hc)) ?_ (.inl (b7 c hc));rcases SG.mp hc with rfl|hc
  ·exact nA (by
    obtain⟨s,a,b,aj,_,_,e⟩:=aN
    have k:s*be q n c=a*be q q c+b*be q c c:=by
     rw[<-jy q n c,<-jy q q c,<-jy q c c,<-Fu,e,Ft]
    rw[tq,re,SW,SW]at k;rcases Tv.mp k with z|z
    ·lia
    ·exact z)
  ·exact fA (pV aN (nA (tq q c)) (fA (aO.1 c hc)) (.inr (aO.1 c hc)))
 refine lI.mpr ⟨h1,⟨⟨λc hc=>?_,b7,bW⟩,⟨Pm,a4⟩,bc,bg⟩,λx aq=>?_,wi (λx y hz z hw=>?_) bj⟩
 ·rcases SG.mp hc with rfl|hc
  ·exact pV av (nA (tq p c)) (fA Fx) (.inr Fx)
  ·exact bw c hc
 ·obtain⟨bM,cy,gt⟩:=aF x aq;obtain⟨a6,a7,df⟩:=c3 x aq;obtain⟨i',jz,wj⟩:=g3 x aq;refine⟨λc hc=>?_,λc hc=>?_,a7,df⟩
  ·rcases SG.mp hc with rfl|hc
   ·exact i' c Sv
   ·exact a6 c hc
  ·rcases SG.mp hc with rfl|hc
   ·have Fy:0<be x q c:=pW aN (nA (re x q)) (fA (cy r Sv)) (.inr (cy r Sv));exact pV av (fA (a6 c Sv)) (fA Fy) (.inr Fy)
   ·exact jz c hc
 ·have AA:=hz q (Sy _ Sv);have AB:=hz p Sv;have Pn:=hz r (Sy _ (Sy _ Sv));rcases SG.mp hw with rfl|hw
  ·exact AB
  ·rcases SG.mp hw with rfl|hw
   ·exact pW av (fA AB) (fA AA) (.inl AB)
   ·rcases SG.mp hw with rfl|hw
    ·exact pW aN (fA AA) (fA Pn) (.inl AA)
    ·exact hz z (Sy _ (Sy _ hw))
def ln(l p:aa):Int:=l.1*p.1+l.2.1*p.2.1+l.2.2*p.2.2
theorem Po(l p q r s:aa):be q r s*ln l p-be p r s*ln l q+be p q s*ln l r-be p q r*ln l s=0:=by
 unfold be crs ln;grind
theorem T1.one{a:aa}:∀{xs:ZH},tv xs [a]->T1 a xs
 |[],_=>trivial
 |x::xs,h=>⟨λc hc=>by rw[<-jy];exact h.1 c hc a Sv,T1.one h.2⟩
theorem cu.unrot{a:aa}{r:ZH}(h:cu (r++[a])):cu (a::r):=by
 obtain⟨h1,_,_,bj⟩:=lI.mp h;exact⟨T1.one bj,h1⟩
theorem cu.turn:∀{xs ys:ZH},cu (xs++ys)->cu (ys++xs)
 |[],ys,h=>by rw[SO];exact h
 |x::xs,ys,h=>by
  have h1:cu (xs++(ys++[x])):=by rw[<-S7];exact cu.rot h
  have h2:=cu.turn h1;rw[S7]at h2;exact h2
section
variable(f:aa->Int)(mt:aa->aa->aa)
def kp(p:aa):List aa:=if 0<=f p then[p]else[]
def cw(p q:aa):List aa:=if f p*f q<0 then[mt p q]else[]
def dd:ZH->aa->ZH
 |[],_=>[]
 |p::r,w=>kp f p++cw f mt p (r.headD w)++dd r w
def dq(ps:ZH):List aa:=dd f mt ps (ps.headD (0,0,1))
end
variable{f:aa->Int}{mt:aa->aa->aa}
theorem Pq(xs ys:ZH)(w:aa):(xs++ys).headD w=xs.headD (ys.headD w):=by
 cases xs<;>rfl
theorem tx(w:aa):∀xs ys:ZH,dd f mt (xs++ys) w=dd f mt xs (ys.headD w)++dd f mt ys w
 |[],_=>rfl
 |p::xs,ys=>by
  show kp f p++cw f mt p ((xs++ys).headD w)++dd f mt (xs++ys) w=kp f p++cw f mt p (xs.headD (ys.headD w))++dd f mt xs (ys.headD w)++dd f mt ys w
  rw[tx w xs ys,Pq,S7,S7,S7]
theorem Pr(xs ys:ZH):∃P Q,dq f mt (xs++ys)=P++Q/\dq f mt (ys++xs)=Q++P:=by
 cases xs with
 |nil=>exact⟨[],dq f mt ys,rfl,by rw[SO,SO]⟩
 |cons x xs=>
  cases ys with
  |nil=>exact⟨dq f mt (x::xs),[],by rw[SO,SO],rfl⟩
  |cons y ys=>
   refine⟨dd f mt (x::xs) y,dd f mt (y::ys) x,?_,?_⟩
   ·unfold dq;rw[tx];rfl
   ·unfold dq;rw[tx];rfl
theorem Fz{xs ys:ZH}(h:cu (dq f mt (ys++xs))/\3<=(dq f mt (ys++xs)).length):cu (dq f mt (xs++ys))/\3<=(dq f mt (xs++ys)).length:=by
 obtain⟨P,Q,ai,ap⟩:=Pr (f:=f) (mt:=mt) xs ys;rw[ai];rw[ap]at h;refine⟨cu.turn h.1,?_⟩;have:=h.2;rw[SH]at this⊢;lia
theorem AC{w:aa}:∀{a:aa}{A:ZH},(∀p∈A++[a],0<=f p)->dd f mt (A++[a]) w=A++[a]++cw f mt a w
 |a,[],h=>by
  show kp f a++cw f mt a w++[]=[a]++cw f mt a w
  unfold kp;rw[SL (h a (by simp)),SO]
 |a,p::A,h=>by
  show kp f p++cw f mt p ((A++[a]).headD w)++dd f mt (A++[a]) w=p::A++[a]++cw f mt a w
  rw[AC λq ay=>h q (Sy _ ay)];have ae:=h p Sv
  have ay:0<=f ((A++[a]).headD w):=by
   cases A with
   |nil=>exact h a (by simp)
   |cons b A=>exact h b (by simp)
  unfold kp cw;rw[SL ae,SZ (by have:=Tw ae ay;lia)];simp
theorem FA{w:aa}:∀{s:aa}{N:ZH},(∀p∈N++[s],f p<0)->dd f mt (N++[s]) w=cw f mt s w
 |s,[],h=>by
  show kp f s++cw f mt s w++[]=cw f mt s w
  unfold kp;rw[SZ (by have:=h s (by simp);lia),SO,Ta]
 |s,p::N,h=>by
  show kp f p++cw f mt p ((N++[s]).headD w)++dd f mt (N++[s]) w=cw f mt s w
  rw[FA λq ay=>h q (Sy _ ay)];have ae:=h p Sv
  have ay:f ((N++[s]).headD w)<0:=by
   cases N with
   |nil=>exact h s (by simp)
   |cons b N=>exact h b (by simp)
  unfold kp cw;rw[SZ (by lia),SZ (by have:=Uw ae ay;lia)];rfl
def Meets(f:aa->Int)(mt:aa->aa->aa):Prop:=∀p q,f p*f q<0->i9 p q (mt p q)
theorem lJ{p q:aa}(h:f p*f q<0):cw f mt p q=[mt p q]:=by unfold cw;rw[SL h]
theorem kN{p q:aa}(h:¬f p*f q<0):cw f mt p q=[]:=by unfold cw;rw[SZ h]
theorem neg_mul{a b:Int}(aw:0<a)(ab:b<0):a*b<0:=SX aw ab
theorem Ps{b:aa}{A N:ZH}{s:aa}(ho:Meets f mt)(h:cu ((A++[b])++(N++[s])))(g6:∀p∈A++[b],0<=f p)(bi:∀p∈N++[s],f p<0)(ao:3<=((A++[b])++(N++[s])).length)(ae:∃p∈A++[b],0<f p):
  cu (dq f mt ((A++[b])++(N++[s])))/\3<=(dq f mt ((A++[b])++(N++[s]))).length:=by
 obtain⟨a,hM,dN⟩:∃a hM,A++[b]=a::hM:=by
  cases A with
  |nil=>exact⟨b,[],rfl⟩
  |cons a A=>exact⟨a,A++[b],rfl⟩
 obtain⟨n,N',mF⟩:∃n N',N++[s]=n::N':=by
  cases N with
  |nil=>exact⟨s,[],rfl⟩
  |cons n N=>exact⟨n,N++[s],rfl⟩
 have g7:0<=f a:=g6 a (by rw[dN];exact Sv);have wk:0<=f b:=g6 b (by simp);have fn:f n<0:=bi n (by rw[mF];exact Sv);have fs:f s<0:=bi s (by simp)
 have e:dq f mt ((A++[b])++(N++[s]))=(A++[b])++cw f mt b n++cw f mt s a:=by
  unfold dq;rw[tx,AC g6,FA bi,dN,mF];rfl
 rw[e]
 have two:N≠[]->cu ((A++[b])++[n,s]):=λz=>by
  refine cu.sub (UN (V8 _) ?_) h;cases N with
  |nil=>exact absurd rfl z
  |cons m N=>
   have:m=n:=(Uk mF).1;subst this;exact List.Sublist.cons_cons _ (List.sublist_append_right N [s])
 have Pt:cu ((A++[b])++[n]):=cu.sub (UN (V8 _) (UO.mpr (by rw[mF];exact Sv))) h;have oneS:cu ((A++[b])++[s]):=cu.sub (UN (V8 _) (UO.mpr (by simp))) h;by_cases ab:0<f b
 ·have fu:f b*f n<0:=neg_mul ab fn;have AD:=ho b n fu;rw[lJ fu];by_cases aw:0<f a
  ·have kC:f s*f a<0:=by rw[S2];exact neg_mul aw fs
   have wl:=ho s a kC;rw[lJ kC];refine⟨?_,by simp⟩;by_cases z:N=[]
   ·subst z;have es:s=n:=(Uk mF).1;subst es;cases A with
    |nil=>simp at ao
    |cons bW nB=>
     have:bW=a:=(Uk dN).1;subst this
     have r1:cu (nB++b::s::bW::[]):=by
      have:=cu.rot (a:=bW) (r:=nB++[b]++[s]) oneS;simpa using this
     have r2:=cu.unrot (a:=bW) (r:=nB++[b,mt b s,mt s bW]) (by simpa using r1.off AD wl);simpa using r2
   ·have t:=two z;have r1:cu (A++b::mt b n::[s]):=cu.back (by simpa using t) AD
    have r2:cu (a::(hM++[mt b n,s])):=by
     have:cu ((A++[b])++[mt b n,s]):=by simpa using r1
     rw[dN]at this;exact this
    have gM:cu ((hM++[mt b n])++s::a::[]):=by simpa using cu.rot r2
    have sk:=cu.unrot (a:=a) (r:=hM++[mt b n,mt s a]) (by simpa using gM.on wl);rw[dN];simpa using sk
  ·have f6:f a=0:=by lia
   have AE:A≠[]:=by
    rintro rfl;have:b=a:=(Uk dN).1;subst this;exact aw ab
   rw[kN (by rw[f6,SW];lia),SO];refine⟨?_,?_⟩
   ·have r:=cu.back (xs:=A) (p:=b) (q:=n) (ys:=[]) (by simpa using Pt) AD;simpa using r
   ·have:=V9.mpr AE;simp;lia
 ·have b0:f b=0:=by lia
  rw[kN (by rw[b0,T3];lia),SO];by_cases aw:0<f a
  ·have kC:f s*f a<0:=by rw[S2];exact neg_mul aw fs
   have wl:=ho s a kC
   have AE:A≠[]:=by
    rintro rfl;have:b=a:=(Uk dN).1;subst this;exact ab aw
   rw[lJ kC];refine⟨?_,?_⟩
   ·have r1:cu (a::(hM++[s])):=by rw[dN]at oneS;exact oneS
    have gM:cu (hM++s::a::[]):=by simpa using cu.rot r1
    have sk:=cu.unrot (a:=a) (r:=hM++[mt s a]) (by simpa using gM.on wl);rw[dN];exact sk
   ·have:=V9.mpr AE;simp;lia
  ·have f6:f a=0:=by lia
   rw[kN (by rw[f6,SW];lia),SO];refine⟨cu.sub (List.sublist_append_left _ _) h,?_⟩;obtain⟨p,oO,lK⟩:=ae;have ai:p≠b:=by rintro rfl;lia
   have ap:p≠a:=by rintro rfl;lia
   have FB:p∈A:=by
    rcases SR.mp oO with q|q
    ·exact q
    ·exact absurd (SM.mp q) ai
   cases A with
   |nil=>cases FB
   |cons bW nB=>
    have:bW=a:=(Uk dN).1;subst this;rcases SG.mp FB with q|q
    ·exact absurd q ap
    ·have:=V' q;simp;lia
theorem wm{P:aa->Prop}:∀ps:ZH,(∀p,P p\/¬P p)->∃A r,ps=A++r/\(∀p∈A,P p)/\(r=[]\/∃x dJ,r=x::dJ/\¬P x)
 |[],_=>⟨[],[],rfl,λp ae=>absurd ae (by simp),.inl rfl⟩
 |p::ps,em=>by
  rcases em p with h|h
  ·obtain⟨A,r,e,g6,ak⟩:=wm ps em;refine⟨p::A,r,by rw[e];rfl,λq ay=>?_,ak⟩;rcases SG.mp ay with rfl|ay
   ·exact h
   ·exact g6 q ay
  ·exact⟨[],p::ps,rfl,λq ay=>absurd ay (by simp),.inr ⟨p,ps,rfl,h⟩⟩
theorem FC{l p q r s:aa}(h:cu [p,q,r,s]):¬(0<=ln l p/\ln l q<0/\0<=ln l r/\ln l s<0)/\¬(ln l p<0/\0<=ln l q/\ln l r<0/\0<=ln l s):=by
 obtain⟨⟨h1,h2,_⟩,⟨aF,_⟩,_⟩:=h;have bw:=h1 r (by simp);have bF:=h1 s (by simp);have gC:=h2 s (by simp);have lL:=aF s (by simp);have k:=Po l p q r s;constructor
 ·rintro⟨a,b,c,d⟩;have ew:=Tw (fA lL) a;have cP:=SX gC b;have fx:=Tw (fA bF) c;have Pu:=SX bw d;lia
 ·rintro⟨a,b,c,d⟩;have ew:=SX lL a;have cP:=Tw (fA gC) b;have fx:=SX bF c;have Pu:=Tw (fA bw) d;lia
theorem FD{a b c d:aa}{A B C D:ZH}(aw:a∈A)(ab:b∈B)(hc:c∈C)(hd:d∈D):[a,b,c,d].Sublist (A++(B++(C++D))):=
 UN (UO.mpr aw) (UN (UO.mpr ab) (UN (UO.mpr hc) (UO.mpr hd)))
theorem Pv{l:aa}{ps:ZH}(ho:Meets (ln l) mt)(h:cu ps)(ao:3<=ps.length)(ae:∃p∈ps,0<ln l p):cu (dq (ln l) mt ps)/\3<=(dq (ln l) mt ps).length:=by
 have em:∀p,0<=ln l p\/¬0<=ln l p:=λp=>by lia
 have norm:∀A N:ZH,A≠[]->N≠[]->cu (A++N)->3<=(A++N).length->(∀p∈A,0<=ln l p)->(∀p∈N,ln l p<0)->(∃p∈A,0<ln l p)->cu (dq (ln l) mt (A++N))/\3<=(dq (ln l) mt (A++N)).length:=λA N g6 bi oP len pX Pw ex=>by
  obtain⟨hM,b,rfl⟩:∃hM b,A=hM++[b]:=⟨_,_,(Wa g6).symm⟩;obtain⟨N',s,rfl⟩:∃N' s,N=N'++[s]:=⟨_,_,(Wa bi).symm⟩;exact Ps ho oP pX Pw len ex
 obtain⟨ri,r,rfl,tz,ak⟩:=wm (P:=λp=>0<=ln l p) ps em;rcases ak with rfl|⟨x,dJ,rfl,aq⟩
 ·rw[SO]at h ao ae⊢;have ne:ri≠[]:=by rintro rfl;simp at ao
  obtain⟨hM,b,rfl⟩:∃hM b,ri=hM++[b]:=⟨_,_,(Wa ne).symm⟩
  have e:dq (ln l) mt (hM++[b])=hM++[b]:=by
   unfold dq;rw[AC tz,kN,SO];have h1:=tz b (by simp)
   have h2:0<=ln l ((hM++[b]).headD (0,0,1)):=by
    cases hM with
    |nil=>exact h1
    |cons a hM=>exact tz a (by simp)
   have:=Tw h1 h2;lia
  rw[e];exact⟨h,ao⟩
 obtain⟨hf,r2,ap,Px,pY⟩:=wm (P:=λp=>¬0<=ln l p) (x::dJ) (λp=>by lia)
 have AF:hf≠[]:=by
  rintro rfl;rcases pY with rfl|⟨y,q,e,aG⟩
  ·cases ap
  ·rw[e]at ap;have:x=y:=(Uk ap).1;subst this;exact aG aq
 have pZ:∀p∈hf,ln l p<0:=λp ae=>by have:=Px p ae;lia
 obtain⟨bX,wn⟩:=Wb hf AF;rw[ap]at h ao ae⊢;by_cases AG:ri=[]
 ·subst AG;simp only[Ta]at h ao ae⊢;rcases pY with rfl|⟨y,q,rfl,aG⟩
  ·obtain⟨p,oO,lK⟩:=ae;rw[SO]at oO;have:=pZ p oO;lia
  ·have aG:0<=ln l y:=by lia
   obtain⟨nB,gM,br,FE,FF⟩:=wm (P:=λp=>0<=ln l p) (y::q) em
   have FG:nB≠[]:=by
    rintro rfl;rcases FF with rfl|⟨z,io,e,hz⟩
    ·cases br
    ·rw[e]at br;have:y=z:=(Uk br).1;subst this;exact hz aG
   rw[br]at h ao ae⊢
   have FH:∀w∈gM,ln l w<0:=λw hw=>by
    rcases FF with rfl|⟨z,io,rfl,hz⟩
    ·cases hw
    ·by_cases ib:0<=ln l w
     ·rcases SG.mp hw with rfl|hw
      ·exact absurd ib hz
      ·obtain⟨bW,FI⟩:=Wb nB FG;have t:=cu.sub (FD (a:=bX) (b:=bW) (c:=z) (d:=w) (A:=hf) (B:=nB) (C:=[z]) (D:=io) wn FI Sv hw) (by simpa using h);exact absurd ⟨pZ bX wn,FE bW FI,by lia,ib⟩ (FC t).2
     ·lia
   refine Fz ?_;rw[S7];refine norm nB (gM++hf) FG (by simp[AF]) (by rw[<-S7];exact cu.turn h) (by simp at ao⊢;lia) FE (λp ae=>?_) ?_
   ·rcases SR.mp ae with z|z
    ·exact FH p z
    ·exact pZ p z
   ·obtain⟨p,oO,lK⟩:=ae;refine⟨p,?_,lK⟩;rcases SR.mp oO with z|z
    ·have:=pZ p z;lia
    ·rcases SR.mp z with z|z
     ·exact z
     ·have:=FH p z;lia
 ·obtain⟨b7,FJ⟩:=Wb ri AG
  have Py:∀w∈r2,0<=ln l w:=λw hw=>by
   rcases pY with rfl|⟨y,q,rfl,aG⟩
   ·cases hw
   ·by_cases ib:0<=ln l w
    ·exact ib
    ·have aG:0<=ln l y:=by lia
     rcases SG.mp hw with rfl|hw
     ·exact aG
     ·have t:=cu.sub (FD (a:=b7) (b:=bX) (c:=y) (d:=w) (A:=ri) (B:=hf) (C:=[y]) (D:=q) FJ wn Sv hw) (by simpa using h);exact absurd ⟨tz b7 FJ,pZ bX wn,aG,by lia⟩ (FC t).1
  rw[<-S7]at h ao ae⊢;refine Fz ?_;rw[<-S7];refine norm (r2++ri) hf (by simp[AG]) AF (by rw[S7];exact cu.turn h) (by simp at ao⊢;lia) (λp ae=>?_) pZ ?_
  ·rcases SR.mp ae with z|z
   ·exact Py p z
   ·exact tz p z
  ·obtain⟨p,oO,lK⟩:=ae;refine⟨p,?_,lK⟩;rcases SR.mp oO with z|z
   ·rcases SR.mp z with z|z
    ·exact Ts _ z
    ·have:=pZ p z;lia
   ·exact TO _ z
end Cut
namespace Cut
open PySem L2 L3
def aU(l p q:aa):aa:=if 0<p.2.2/\0<q.2.2 then nP (crs l (crs p q))else if 0<ln l q then f7 (ln l q) p (-ln l p) q else f7 (-ln l q) p (ln l p) q
theorem lM{x y:Int}(h:x*y<0):(0<x/\y<0)\/(x<0/\0<y):=by
 rcases T4 x 0 with z|z|z
 ·rcases T4 y 0 with w|w|w
  ·have:=Uw z w;lia
  ·rw[w,SW]at h;lia
  ·exact .inr ⟨z,w⟩
 ·rw[z,T3]at h;lia
 ·rcases T4 y 0 with w|w|w
  ·exact .inl ⟨z,w⟩
  ·rw[w,SW]at h;lia
  ·have:=SE z w;lia
theorem FK(p:aa):sc 1 p=p:=by unfold sc;simp
theorem Pz{g a b:Int}{m p q:aa}(h:f7 a p b q=sc g m):sc (-g) m=f7 (-a) p (-b) q:=by
 have h1:=TW (λx:aa=>x.1) h;have h2:=TW (λx:aa=>x.2.1) h;have aF:=TW (λx:aa=>x.2.2) h;unfold sc f7 at *;dsimp only at h1 h2 aF⊢;refine eW ?_ ?_ ?_<;>dsimp only<;>grind
theorem p0{l p q:aa}(h:ln l p*ln l q<0):i9 p q (aU l p q):=by
 unfold aU;by_cases w:0<p.2.2/\0<q.2.2
 ·rw[SL w];have iI:crs l (crs p q)=f7 (ln l q) p (-ln l p) q:=tu l p q;have br:(crs l (crs p q)).2.2=ln l q*p.2.2 + -ln l p*q.2.2:=by rw[iI];rfl
  rcases lM h with⟨h1,h2⟩|⟨h1,h2⟩
  ·have bX:ln l q*p.2.2<0:=by rw[S2];exact SX w.1 h2
   have dn : -ln l p*q.2.2<0:=by rw[S2];exact SX w.2 (by lia)
   have dB:(crs l (crs p q)).2.2≠0:=by lia
   obtain⟨g,_,aD⟩:=ke dB;have ae:=(gg dB).1;have aF:(crs l (crs p q)).2.2=g*(nP (crs l (crs p q))).2.2:=TW (λx:aa=>x.2.2) aD
   have aZ:g<0:=by
    by_cases z:g<0
    ·exact z
    ·have:=Tw (show 0<=g by lia) (fA ae);lia
   rw[iI]at aD;refine⟨-g,-ln l q,ln l p,by lia,by lia,h1,?_⟩;have:=Pz aD;rw[Int.neg_neg,<-iI]at this;exact this
  ·have bX:0<ln l q*p.2.2:=SE h2 w.1;have dn:0 < -ln l p*q.2.2:=SE (by lia) w.2;have dB:(crs l (crs p q)).2.2≠0:=by lia
   obtain⟨g,_,aD⟩:=ke dB;have ae:=(gg dB).1;have aF:(crs l (crs p q)).2.2=g*(nP (crs l (crs p q))).2.2:=TW (λx:aa=>x.2.2) aD
   have aZ:0<g:=by
    by_cases z:0<g
    ·exact z
    ·have:=Tw (show 0 <= -g by lia) (fA ae);rw[UG]at this;lia
   refine⟨g,ln l q,-ln l p,aZ,h2,by lia,?_⟩;rw[<-aD,iI]
 ·rw[SZ w];rcases lM h with⟨h1,h2⟩|⟨h1,h2⟩
  ·rw[SZ (by lia)];exact⟨1,_,_,by decide,by lia,h1,FK _⟩
  ·rw[SL h2];exact⟨1,_,_,by decide,h2,by lia,FK _⟩
theorem wo(l p q:aa)(a b:Int):ln l (f7 a p b q)=a*ln l p+b*ln l q:=by unfold ln f7;dsimp only;grind
theorem AH(l p:aa)(s:Int):ln l (sc s p)=s*ln l p:=by unfold ln sc;dsimp only;grind
theorem FL{f:aa->Int}{mt:aa->aa->aa}{x:aa}:∀{ps:ZH}{w:aa},x∈dd f mt ps w->(x∈ps/\0<=f x)\/∃p∈ps,∃q,(q∈ps\/q=w)/\f p*f q<0/\x=mt p q
 |[],_,h=>by cases h
 |p::r,w,h=>by
  have h:x∈kp f p++cw f mt p (r.headD w)++dd f mt r w:=h;rcases SR.mp h with h|h
  ·rcases SR.mp h with h|h
   ·unfold kp at h;split at h
    ·rename_i z
     rw[SM.mp h];exact .inl ⟨Sv,z⟩
    ·cases h
   ·unfold cw at h;split at h
    ·rename_i z
     refine .inr ⟨p,Sv,r.headD w,?_,z,SM.mp h⟩;cases r with
     |nil=>exact .inr rfl
     |cons y r=>exact .inl (Sy _ Sv)
    ·cases h
  ·rcases FL h with⟨h1,h2⟩|⟨r9,h1,q,h2,aF,bj⟩
   ·exact .inl ⟨Sy _ h1,h2⟩
   ·refine .inr ⟨r9,Sy _ h1,q,?_,aF,bj⟩;rcases h2 with h2|h2
    ·exact .inl (Sy _ h2)
    ·exact .inr h2
theorem p1{f:aa->Int}{mt:aa->aa->aa}{x:aa}{ps:ZH}(h:x∈dq f mt ps):(x∈ps/\0<=f x)\/∃p∈ps,∃q∈ps,f p*f q<0/\x=mt p q:=by
 rcases FL h with h|⟨p,h1,q,h2,aF⟩
 ·exact .inl h
 ·refine .inr ⟨p,h1,q,?_,aF⟩;rcases h2 with h2|h2
  ·exact h2
  ·cases ps with
   |nil=>cases h1
   |cons a r=>rw[h2];exact Sv
end Cut
namespace L2
open PySem PySem.Spec PyProof.Rows PySem.W
section
variable{X:aJ}{pins:ZW}{σ:St}{H:am}{s:Tl}{h':XB}
theorem Inv.turned2{t':Nat}{it e:TI}(I:Inv X pins σ H s)(k:∀b o,b≠it->b≠e->s.heap.get? b=some o->h'.get? b=some o)(wq:jG X pins H it)(rj:jG X pins H e):Inv X pins σ H {s with heap:=h',toks:=t' }:=by
 obtain⟨lN,ef,fP,lO,AI,AJ⟩:=wq;obtain⟨d0,ai,ap,br,cW,f5⟩:=rj;have ma:∀b u,H b=some u->b≠it/\b≠e:=λb u q=>⟨(λz=>by rw[z,lN]at q;cases q),(λz=>by rw[z,d0]at q;cases q)⟩;have aL:∀b o,b∉[it,e]->s.heap.get? b=some o->h'.get? b=some o:=λb o hc q=>k b o (λz=>hc (by simp[z])) (λz=>hc (by simp[z])) q
 refine I.step (g':=s.gens) (d':=s.drawn) (ch:=[it,e]) (λb ab=>?_) (λb o _ _ hc q _=>aL b o hc q) (λb o _ _ hc q _=>⟨o.slots,aL b o hc q⟩) (λ_ _ _ _ n=>n)
  (λb o hc q=>⟨o,aL b o hc q⟩) (λ_ _ e=>e) (λ_ _ _ e=>e) (λb ps q=>⟨#[],by rw[q];simp⟩) (λm av=>?_) (λb u q=>?_) I.bare
 ·rcases SG.mp ab with rfl|ab
  ·exact⟨lO,ef,AI,AJ⟩
  ·rw[SM.mp ab];exact⟨br,ai,cW,f5⟩
 ·obtain⟨o,es,ep,aB,r⟩:=av;exact⟨o,es,ep,k _ o (S9 ef) (S9 ai) aB,r⟩
 ·refine(I.hok b u q).stay (λc v hc y=>k c v ?_ ?_ y) (λ_ q=>q) λ_ _ q=>q
  ·rcases hc with z|z
   ·rw[z];exact(ma b u q).1
   ·exact(ma c _ z).1
  ·rcases hc with z|z
   ·rw[z];exact(ma b u q).2
   ·exact(ma c _ z).2
end
def FM(K:F6)(a:TI):hX:=
 ⟨λi H=>∃xs x,cE K H a xs/\xs[i]?=some x,λi H x al=>∃p y,H p=none/\x=.ref p/\al=upd H p (.tup [.int i,y])/\∀xs,cE K H a xs->xs[i]?=some y,λi H=>∃xs,cE K H a xs/\xs.length<=i⟩
theorem PA{P:Uf}{w:WP}{K:F6}{jA:ZT}{k:Nat}{pos:Pos}(a it e:TI)(nt:e≠it):oa P w K (.Tuple jA k pos) (FM K a) [e,it] e (λi h=>(∃old,IsEnum h e it (i:Nat) old)/\h.IsListIter it a i) where
 mem:=by simp
 obj:=λi h st b ab=>by
  obtain⟨⟨old,ax⟩,o,aB,c,d⟩:=st;rcases SG.mp ab with rfl|ab
  ·exact⟨_,ax,λv z=>by cases z⟩
  ·rw[SM.mp ab];exact⟨o,aB,λv z=>by rw[d]at z;cases z⟩
 keep:=λi h h' st kp=>by
  obtain⟨⟨old,ax⟩,au⟩:=st;exact⟨⟨old,kp e (by simp) _ ax⟩,au.at λo q=>kp it (by simp) o q⟩
 item:=by
  intro X fE hw eG hc i pins s σ H E I bf st aD;subst fE hw eG;obtain⟨xs,x,ay,aq⟩:=aD;obtain⟨⟨old,ax⟩,au⟩:=st;obtain⟨its,cq,p,hz⟩:=I.list ay;obtain⟨u,bo,iw⟩:=cq.get aq;have rj:=bf e (by simp);have wq:=bf it (by simp);have eU:e<s.heap.objs.size:=Heap.lt_size ax;have PB:it<s.heap.objs.size:=by obtain⟨o,aB,_⟩:=id au;exact Heap.lt_size aB
  refine wpAny_pyNext_enum_item ax au p.isList (x:=u) (by simpa using bo) nt λh1 out PC bQ tA kp=>⟨_,rfl,wpAny_letOwnedTupleGo_enum out λh2 kO d5=>?_⟩;have FN:s.heap.objs.size≠e:=UA eU;have FO:s.heap.objs.size≠it:=UA PB
  have AK:Inv X pins σ (upd H s.heap.objs.size (.tup [.int i,x])) {s with heap:=s.heap.push {cls:=.type "tuple",data:=.seq #[.int i s.toks,u]},toks:=s.toks+1}:=
   I.laid (t':=s.toks+1) (λ_ _ q=>Heap.get?_push_of_some _ q) (Sx _) ⟨gJ,[.int i s.toks,u],.cons ⟨_,rfl⟩ (.cons iw .nil),⟨_,Heap.get?_push_size _ rfl,rfl,_,rfl⟩⟩
  have hN:∀b,jG X pins H b->b≠s.heap.objs.size->jG X pins (upd H s.heap.objs.size (.tup [.int i,x])) b:=λb f n=>⟨by rw[de n];exact f.1,f.2⟩
  have a2:=AK.turned2 (h':=h2) (t':=s.toks+1) (it:=it) (e:=e) (λb o bX dn q=>by
   rw[d5.2 b dn];by_cases z:b=s.heap.objs.size
   ·subst z;rw[Heap.get?_push_size _ rfl]at q;rw[<-q];exact bQ
   ·refine kp b o dn bX ?_;rw[<-q]
    exact(Heap.get?_push_ne s.heap b _ z).symm) (hN it wq (S9 FO)) (hN e rj (S9 FN))
  refine⟨.ref s.heap.objs.size,_,a2,rfl,⟨s.heap.objs.size,x,I.fresh,rfl,rfl,λys aG=>by rw[I.list_inj aG ay];exact aq⟩,⟨⟨_,kO⟩,PC.at λo q=>(d5.2 it (S9 nt)).trans q⟩,λb ab=>?_⟩;rcases SG.mp ab with rfl|ab
  ·exact(hN _ rj (S9 FN)).1
  ·rw[SM.mp ab];exact(hN it wq (S9 FO)).1
 done:=by
  intro X fE hw eG hc i pins s σ H E I bf st aD;subst fE hw eG;obtain⟨xs,ay,aq⟩:=aD;obtain⟨⟨old,ax⟩,au⟩:=st;obtain⟨its,cq,p,hz⟩:=I.list ay;obtain⟨e9,a4,a',bP,dL,eR⟩:=bf it (by simp);have ao:=cq.length;exact wpAny_pyNext_enum_end (I.ok.hd hc) ax au p.isList (by simp;lia) λh' dY=>⟨rfl,I.turned (t':=s.toks) (λb o ab q=>dY b o ab q) e9 a4 bP dL eR⟩
 self:=λ_ _ _ _ _ st h=>by
  obtain⟨⟨old,ax⟩,_⟩:=st;exact wpAny_pyIter_enum ax h
def PD(K:F6)(bO:eE):e8:=λσ H R=>bO σ H λvs ar=>∃a,vs=[.ref a]/\(∃xs,cE K ar a xs)/\R (FM K a) ar
theorem FP{X:aJ}{jA:ZT}{k:Nat}{iI:Pos}{a:Wp}{bO:eE}{p pos:Pos}(aD:e2 X "enumerate")(av:X.mg "enumerate"=none)(aw:hl X [a] bO)(aj:TD [a] X.env=[(false,XJ a X.env)]:=by rfl):jH X (.Tuple jA k iI) (.Call (.Name "enumerate" p) [a] [] pos) (PD X.K bO):=by
 intro pins s σ H R I h;refine Call_ (m2 I aD av (by decide +kernel:XS "enumerate"=some (.type "enumerate")) (UB (cc (aw pos pins s σ H _ I h) λus az ⟨vs,ar,a2,r1,aO⟩=>?_) aj rfl));obtain⟨l,e,⟨xs,ay⟩,q⟩:=aO;subst e;obtain⟨u,rfl,r⟩:=vals1 r1;cases r;obtain⟨its,cq,cm,hz⟩:=a2.list ay;refine call_enumerate_list cm.isList λh' mF PE sz kp=>wpAny_pyIter_enum mF ?_;refine⟨az.heap.objs.size+1,[az.heap.objs.size+1,az.heap.objs.size],_,_,ar,rfl,a2.kept (t':=az.toks) kp,PA l az.heap.objs.size (az.heap.objs.size+1) (Nat.succ_ne_self _),⟨⟨_,mF⟩,PE⟩,λb ab=>?_,q⟩;rcases SG.mp ab with rfl|ab
 ·exact a2.fpOk (Vp _) (a2.hok.fresh (Vp _))
 ·rw[SM.mp ab];exact a2.fpOk (Sx _) (a2.hok.fresh (Sx _))
end L2
namespace L3
open PySem L2
def kg:Nat->ZK->ZK
 |_,[]=>[]
 |n,d::r=>.tup [.int (n:Nat),d]::kg (n+1) r
def PF(u:a9)(g:gd)(s:cX):cX:=λU ρ=>u ρ λd=>∃ds,d=.lst ds/\h5 g s U (kg 0 ds) ρ
section
variable{X:aJ}{a:Wp}{u:a9}{pos p:Pos}
theorem FQ{jA:ZT}{k:Nat}{iI:Pos}{body:ZU}{g:gd}{s:cX}(ae:YT (UF X.prog X.w) X.A X.env X.xe)(hc:X.calm=true)(aw:bn X a u)(PG:e2 X "enumerate")(av:X.mg "enumerate"=none)(aD:kF X (.Tuple jA k iI) g)(ab:hp X body s)(FR:TD [a] X.env=[(false,XJ a X.env)]:=by rfl)(aj:∀x,Xu (.Call (.Name "enumerate" p) [a] [] pos) X.env x=pure x:=by intro _;rfl){eF:Pos}:
  fM X (.For (.Tuple jA k iI) (.Call (.Name "enumerate" p) [a] [] pos) body [] eF) (PF u g s):=by
 obtain⟨_,h0,ha⟩:=aw;obtain⟨_,h1,r1⟩:=aD;obtain⟨_,h2,r2⟩:=ab;refine⟨_,y7 ae hc (FP PG av (fi h0 gN (by rw[FR];rfl)) FR) h1 h2 aj,λU ρ h R W B H σ D e dQ=>?_⟩;refine ha ρ _ h R W B H σ _ e λd v bd ar z1 ai aI cq=>?_;obtain⟨ds,rfl,z1⟩:=z1;obtain⟨l,vs,rfl,ao,rs⟩:=cq.lstV;refine⟨l,rfl,⟨vs,cE.of (ai.bh _ _ ao)⟩,?_⟩;refine⟨λi m bq al=>∃bS aC,m=ds.length-i/\i<=ds.length/\h5 g s U (kg i (ds.drop i)) bS/\a0 X.K R W aC al bq bS/\bV R B aC/\cF bd aC,⟨ds.length,ρ,bd,by simp,S8 _,z1,ai,aI,cF.refl _⟩,?_⟩;rintro i m hC a5 ⟨gF,ca,rfl,au,aY,ap,aP,a3⟩;have ay:cE X.K a5 l vs:=cE.of (ap.bh _ _ (a3 _ _ ao));by_cases dF:i<ds.length
 ·have PH:i<vs.length:=by rw[rs.length];exact dF
  refine .inr ⟨⟨vs,vs[i],ay,S5 PH⟩,λbq al=>∃bS aC,h5 g s U (kg (i+1) (ds.drop (i+1))) bS/\a0 X.K R W aC al bq bS/\bV R B aC/\cF bd aC,?_,?_⟩
  ·rintro bq al ⟨bS,aC,z,aW,g',s'⟩;exact⟨ds.length-(i+1),by lia,bS,aC,rfl,dF,z,aW,g',s'⟩
  ·rintro x al ⟨q,y,mG,rfl,rfl,aG⟩;obtain⟨d,hd,bt⟩:=rs.getV (aG vs ay)
   have hK:ds.drop i=d::ds.drop (i+1):=by
    rw[UI dF];rw[S5 dF]at hd;rw[SU hd]
   rw[hK]at aY;have g3:=ap.grow mG (.tup [.int i,y]);have br:=ap.alloc mG (.tup [.int i,y]);refine r1 _ gF _ aY R W _ _ hC (.ref q) _ br (.tup eP (.cons (.int _) (.cons (bt.mono (a3.trans g3.s)) .nil))) λbS bq fe aW _=>?_;have el:=aP.trans g3;have gk:=a3.trans g3.s;exact r2 _ bS fe R W _ _ bq _ aW ⟨λbS bq aC al z aW g=>⟨bS,aC,z,aW,el.trans g,gk.trans g.s⟩,λbS bq aC al z aW g=>dQ.nx bS bq aC al z aW (el.trans g),λbS bq aC al z aW g=>⟨bS,aC,z,aW,el.trans g,gk.trans g.s⟩,λr v aC al z aW g q=>dQ.rt r v aC al z aW (el.trans g) q⟩
 ·have ei:i=ds.length:=by lia
  subst ei;rw[U0]at aY;exact .inl ⟨⟨vs,ay,by rw[rs.length];exact Sx _⟩,dQ.nx gF hC ca a5 aY ap aP⟩
end
theorem AL{α:Type}{f:α->D}{s:cX}{U:iB}{i j:Nat}(I:List α->ZL->Prop):∀{rs done:List α}{ρ:ZL},I done ρ->
  (∀(pre:List α)(r:α)(rest:List α) ρ,done++rs=pre++r::rest->I pre ρ->∀N:ZL->Prop,(∀dJ,I (pre++[r]) dJ->N dJ)->s {U with nx:=N,ct:=N,bk:=U.nx} ((ρ.set i (.val (.int pre.length))).set j (.val (f r))))->(∀ρ,I (done++rs) ρ->U.nx ρ)->
  h5 (np 2 (hr (e3 i) (hr (e3 j) nm))) s U (kg done.length (rs.map f)) ρ
 |[],done,ρ,h0,_,h2=>h2 ρ (by rw[SO];exact h0)
 |r::rs,done,ρ,h0,h1,h2=>by
  refine⟨_,rfl,rfl,_,_,rfl,_,_,rfl,rfl,h1 done r rs ρ rfl h0 _ λdJ ak=>?_⟩;have e:done++r::rs=(done++[r])++rs:=by simp
  rw[e]at h1 h2;have:=AL I ak h1 h2;rw[SH]at this;exact this
end L3
namespace Cut
open PySem L2 L3
theorem FS{x y:Int}:sg x*sg y<0↔x*y<0:=by
 constructor
 ·intro h;rcases lM h with⟨a,b⟩|⟨a,b⟩
  ·have h1:0<x:=by unfold sg at a;split at a<;>first|assumption|(split at a<;>lia)
   have h2:y<0:=by unfold sg at b;split at b<;>first|lia|(split at b<;>first|assumption|lia)
   exact SX h1 h2
  ·have h1:x<0:=by unfold sg at a;split at a<;>first|lia|(split at a<;>first|assumption|lia)
   have h2:0<y:=by unfold sg at b;split at b<;>first|assumption|(split at b<;>lia)
   rw[S2];exact SX h2 h1
 ·intro h;rcases lM h with⟨a,b⟩|⟨a,b⟩
  ·have ai:sg x=1:=oN a;have ap:sg y = -1:=by unfold sg;rw[SZ (by lia),SL b]
   rw[ai,ap];decide
  ·have ai:sg x = -1:=by unfold sg;rw[SZ (by lia),SL a]
   have ap:sg y=1:=oN b;rw[ai,ap];decide
theorem FT{x:Int}:0<=sg x↔0<=x:=by unfold sg;split<;>first|lia|(split<;>lia)
theorem FU{x:Int}:sg x<=0↔x<=0:=by unfold sg;split<;>first|lia|(split<;>lia)
theorem PI{pre rest:ZH}{c f6:aa}(h:(pre++c::rest).headD f6=f6):cK (pre++c::rest) ((pre.length+1)%(pre++c::rest).length)=rest.headD f6:=by
 cases rest with
 |nil=>
  have e:(pre.length+1)%(pre++[c]).length=0:=by rw[SH];simp
  rw[e];cases pre with
  |nil=>exact h
  |cons p pre=>exact h
 |cons d rest=>
  rw[TA (by simp)];unfold cK;rw[To (by lia)];simp
theorem AM{α:Type}{xs:List α}{i:Nat}{x:α}(h:xs[i]?=some x):ej xs (i:Int)=some x:=by
 have lt:i<xs.length:=(T8.mp h).1;unfold ej
 have e:L2.ixN xs.length (i:Int)=some i:=by
  unfold L2.ixN;rw[SL (by lia)];simp[lt]
 rw[e];exact h
theorem PJ{α:Type}{h:aa->α}{pre rest:ZH}{c:aa}:ej ((pre++c::rest).map h) (pre.length:Int)=some (h c):=by
 refine AM ?_;rw[S4,To (Sx _)];simp
theorem FV{α:Type}{h:aa->α}{ps pre rest:ZH}{c f6:aa}(e:ps=pre++c::rest)(aw:ps.headD f6=f6):ej (ps.map h) (((pre.length:Int)+1)%(ps.length:Int))=some (h (rest.headD f6)):=by
 subst e;have dB:0<(pre++c::rest).length:=by rw[SH,SK];lia
 have lt:=Uv (pre.length+1) dB;have ai:((pre.length:Int)+1)%((pre++c::rest).length:Int)=(((pre.length+1)%(pre++c::rest).length:Nat):Int):=by rw[Int.natCast_emod];rfl
 rw[ai];refine AM ?_;rw[S4];have:=PI aw;unfold cK at this;rw[S5 lt]at this⊢;simp at this;simp[this]
theorem ws{f:aa->Int}{mt:aa->aa->aa}{pre:ZH}{c w:aa}:dd f mt (pre++[c]) w=dd f mt pre c++kp f c++cw f mt c w:=by
 rw[tx];show dd f mt pre c++(kp f c++cw f mt c w++[])=_
 rw[SO,S7]
theorem AN{f:aa->Int}{mt:aa->aa->aa}:∀{ps:ZH}{w:aa},(dd f mt ps w).length<=2*ps.length
 |[],_=>Sx _
 |p::r,w=>by
  show(kp f p++cw f mt p (r.headD w)++dd f mt r w).length<=_
  have h:=AN (f:=f) (mt:=mt) (ps:=r) (w:=w);have h1:(kp f p).length<=1:=by unfold kp;split<;>simp
  have h2:(cw f mt p (r.headD w)).length<=1:=by unfold cw;split<;>simp
  rw[SH,SH,SK];lia
theorem PK(x:Int): -1<=sg x/\sg x<=1:=by unfold sg;split<;>first|lia|(split<;>lia)
theorem FW(x:Int):V0 (sg x)<=9000:=by
 have:=PK x;have wt:(10:Int)^30=1000000000000000000000000000000:=rfl;exact SA (Ot (by lia) (by lia)) (by decide)
theorem FX{f:aa->Int}{c:aa}(h:0<=f c):kp f c=[c]:=by unfold kp;rw[SL h]
theorem FY{f:aa->Int}{c:aa}(h:¬0<=f c):kp f c=[]:=by unfold kp;rw[SZ h]
theorem kh{l p q:aa}(ae:aT p)(ay:aT q):nP (crs l (crs p q))=aU l p q:=by unfold aU;rw[SL ⟨ae.1,ay.1⟩]
theorem ki{l p q:aa}(ae:aT p)(ay:aT q)(h:ln l p*ln l q<0):(crs l (crs p q)).2.2≠0:=by
 rw[show(crs l (crs p q)).2.2=ln l q*p.2.2 + -ln l p*q.2.2 by rw[tu l p q];rfl];have w1:=ae.1;have eg:=ay.1;rcases lM h with⟨a,b⟩|⟨a,b⟩
 ·have bX:ln l q*p.2.2<0:=by rw[S2];exact SX w1 b
  have dn : -ln l p*q.2.2<0:=by rw[S2];exact SX eg (by lia)
  lia
 ·have bX:0<ln l q*p.2.2:=SE b w1;have dn:0 < -ln l p*q.2.2:=SE (by lia) eg;lia
theorem FZ{l:aa}{ps:ZH}:D.int 1∈ps.map (λc=>D.int (sg (ln l c)))↔∃c∈ps,0<ln l c:=by
 rw[SJ];constructor
 ·rintro⟨c,hc,e⟩;exact⟨c,hc,Fq (D.int.inj e)⟩
 ·rintro⟨c,hc,h⟩;exact⟨c,hc,by rw[oN h]⟩
theorem wu{l:aa}{ps:ZH}:D.int (-1)∈ps.map (λc=>D.int (sg (ln l c)))↔∃c∈ps,ln l c<0:=by
 rw[SJ];constructor
 ·rintro⟨c,hc,e⟩;refine⟨c,hc,?_⟩;have:=D.int.inj e;unfold sg at this;split at this
  ·lia
  ·split at this<;>lia
 ·rintro⟨c,hc,h⟩;exact⟨c,hc,by unfold sg;rw[SZ (by lia),SL h]⟩
end Cut
namespace L3
open PySem L2
section
variable{K:F6}{X:aJ}{e:Wp}{es:ZT}{u:a9}{w:cZ}{pos p:Pos}
variable{bA:Wp}
def AO(u:a9):dW:=λρ k=>u ρ λx=>∃ds,x=.lst ds/\k (!ds.isEmpty)
theorem AP{a:Wp}{bD:a9}(aw:bn X a bD)(ax:∀j3,Zo a X.env j3=(do let v <-j3;Zy a.pos;Y1 [v] (truthy v)):=by intro _;rfl):iC X a (AO bD):=by
 obtain⟨_,h1,r1⟩:=aw;refine⟨_,Ll h1 ax,λρ k h R W B H σ Q e q=>?_⟩;refine r1 ρ _ h R W B H σ _ e λx v bd ar z1 ai aI az=>?_;obtain⟨ds,rfl,ag⟩:=z1;obtain⟨a,vs,rfl,aw,rs⟩:=az.lstV;refine⟨!vs.isEmpty,.inl ⟨vs,cE.of (ai.bh _ _ aw),rfl⟩,q _ bd ar ?_ ai aI⟩
 have:vs.isEmpty=ds.isEmpty:=by
  have ao:=rs.length;cases vs with
  |nil=>cases ds with
   |nil=>rfl
   |cons d ds=>simp at ao
  |cons v vs=>cases ds with
   |nil=>simp at ao
   |cons d ds=>rfl
 rw[this];exact ag
variable{eU dD:Wp}{ey:ZT}{scope:YG}{bv:List (Str×TI)}{ts fr:ZQ}{js:ZN}{gT:gd}{ez:dW}
end
end L3
namespace Cut
open PySem L2 L3
def dg:aa->ZH->List (aa×aa)
 |_,[]=>[]
 |z,p::r=>(z,p)::dg p r
def cG:aa->ZH->aa
 |z,[]=>z
 |_,p::r=>cG p r
def dw(ps:ZH):List (aa×aa):=dg (cG (0,0,1) ps) ps
theorem tB:∀(z:aa)(A B:ZH),dg z (A++B)=dg z A++dg (cG z A) B
 |_,[],_=>rfl
 |z,p::A,B=>by
  show(z,p)::dg p (A++B)=(z,p)::(dg p A++dg (cG p A) B)
  rw[tB p A B]
theorem wv:∀(z:aa)(A B:ZH),cG z (A++B)=cG (cG z A) B
 |_,[],_=>rfl
 |_,p::A,B=>wv p A B
theorem rk{z fe:aa}{L:ZH}(h:L≠[]):cG z L=cG fe L:=by
 cases L with
 |nil=>exact absurd rfl h
 |cons p r=>rfl
theorem AQ:∀{z:aa}{L:ZH},L≠[]->cG z L∈L
 |_,[],h=>absurd rfl h
 |z,[p],_=>Sv
 |z,p::q::r,_=>Sy _ (AQ (z:=p) (L:=q::r) (by simp))
theorem F0:∀{z:aa}{L:ZH}{e:aa×aa},e∈dg z L->(e.1=z\/e.1∈L)/\e.2∈L
 |_,[],_,h=>by cases h
 |z,p::r,e,h=>by
  rcases SG.mp h with rfl|h
  ·exact⟨.inl rfl,Sv⟩
  ·obtain⟨h1,h2⟩:=F0 h;refine⟨.inr ?_,Sy _ h2⟩;rcases h1 with h1|h1
   ·rw[h1];exact Sv
   ·exact Sy _ h1
theorem kP{L:ZH}{e:aa×aa}(h:e∈dw L):e.1∈L/\e.2∈L:=by
 have n:L≠[]:=by rintro rfl;cases h
 obtain⟨h1,h2⟩:=F0 h;refine⟨?_,h2⟩;rcases h1 with h1|h1
 ·rw[h1];exact AQ n
 ·exact h1
section
variable{f:aa->Int}{mt:aa->aa->aa}
theorem ww{C:aa->aa->Prop}(hz:∀u v,f u=0->f v=0->C u v):∀{ps:ZH}{w z:aa},
  (∀p q,(p,q)∈dg (ps.headD w) (ps.tail++[w])->0<=f p->0<=f q->C p q)->
  (∀p q,(p,q)∈dg (ps.headD w) (ps.tail++[w])->f p*f q<0->f (mt p q)=0/\(0<f p->C p (mt p q))/\(0<f q->C (mt p q) q))->
  (0<=f (ps.headD w)->C z (ps.headD w))->(f (ps.headD w)<0->f z=0)->ps≠[]->
  (∀e∈dg z (dd f mt ps w),C e.1 e.2)/\(0<=f w->C (cG z (dd f mt ps w)) w)/\(f w<0->f (cG z (dd f mt ps w))=0)
 |[],_,_,_,_,_,_,aN=>absurd rfl aN
 |p::r,w,z,h1,h2,aF,bj,_=>by
  have aF:0<=f p->C z p:=aF;have bj:f p<0->f z=0:=bj
  have ay:(p,r.headD w)∈dg p (r++[w]):=by
   cases r with
   |nil=>exact Sv
   |cons q r=>exact Sv
  have h1:∀a b,(a,b)∈dg p (r++[w])->0<=f a->0<=f b->C a b:=h1;have h2:∀a b,(a,b)∈dg p (r++[w])->f a*f b<0->f (mt a b)=0/\(0<f a->C a (mt a b))/\(0<f b->C (mt a b) b):=h2
  have step:(∀e∈dg z (kp f p++cw f mt p (r.headD w)),C e.1 e.2)/\(0<=f (r.headD w)->C (cG z (kp f p++cw f mt p (r.headD w))) (r.headD w))/\(f (r.headD w)<0->f (cG z (kp f p++cw f mt p (r.headD w)))=0):=by
   generalize r.headD w=q at ay;by_cases cz:0<=f p
   ·rw[show kp f p=[p] by unfold kp;rw[SL cz]];by_cases c:f p*f q<0
    ·rw[lJ c];obtain⟨dS,bm,bJ⟩:=h2 p q ay c
     have iJ:0<f p:=by
      rcases lM c with⟨a,_⟩|⟨a,_⟩
      ·exact a
      ·lia
     have hs:f q<0:=by
      rcases lM c with⟨_,a⟩|⟨a,_⟩
      ·exact a
      ·lia
     refine⟨λe ax=>?_,λh=>absurd h (by lia),λ_=>dS⟩;rcases SG.mp ax with rfl|ax
     ·exact aF cz
     ·rcases SG.mp ax with rfl|ax
      ·exact bm iJ
      ·cases ax
    ·rw[kN c];refine⟨λe ax=>?_,λh=>h1 p q ay cz h,λh=>?_⟩
     ·rcases SG.mp ax with rfl|ax
      ·exact aF cz
      ·cases ax
     ·show f p=0
      rcases Vq cz with a|a
      ·exact absurd (SX a h) c
      ·exact a.symm
   ·rw[show kp f p=[] by unfold kp;rw[SZ cz]];have z0:=bj (by lia);by_cases c:f p*f q<0
    ·rw[lJ c];obtain⟨dS,bm,bJ⟩:=h2 p q ay c
     have hs:0<f q:=by
      rcases lM c with⟨a,_⟩|⟨_,a⟩
      ·lia
      ·exact a
     refine⟨λe ax=>?_,λ_=>bJ hs,λh=>absurd h (by lia)⟩;rcases SG.mp ax with rfl|ax
     ·exact hz _ _ z0 dS
     ·cases ax
    ·rw[kN c];refine⟨λe ax=>(by cases ax),λh=>hz _ _ z0 ?_,λ_=>z0⟩;rcases Vq h with a|a
     ·exact absurd (by rw[S2];exact SX a (by lia)) c
     ·exact a.symm
  obtain⟨az,a3,bR⟩:=step;show(∀e∈dg z (kp f p++cw f mt p (r.headD w)++dd f mt r w),C e.1 e.2)/\(0<=f w->C (cG z (kp f p++cw f mt p (r.headD w)++dd f mt r w)) w)/\(f w<0->f (cG z (kp f p++cw f mt p (r.headD w)++dd f mt r w))=0)
  rw[tB z (kp f p++cw f mt p (r.headD w)),wv z (kp f p++cw f mt p (r.headD w))];cases r with
  |nil=>exact⟨λe ax=>by rw[show dg _ (dd f mt [] w)=[]from rfl,SO]at ax;exact az e ax,a3,bR⟩
  |cons q r=>
   obtain⟨ew,cP,fx⟩:=ww hz (ps:=q::r) (w:=w) (z:=cG z (kp f p++cw f mt p q)) (λa b jq=>h1 a b (Sy _ jq)) (λa b jq=>h2 a b (Sy _ jq)) a3 bR (by simp);refine⟨λe ax=>?_,cP,fx⟩;rcases SR.mp ax with ax|ax
   ·exact az e ax
   ·exact ew e ax
theorem AR{a:aa}{r:ZH}{e:aa×aa}:e∈dg a (r++[a])↔e∈dw (a::r):=by
 have:dw (a::r)=(cG a r,a)::dg a r:=rfl;rw[this,tB];simp[dg,or_comm]
theorem PL{C:aa->aa->Prop}{ps:ZH}(hz:∀u v,f u=0->f v=0->C u v)(o:aa)(aB:f o=0)(h1:∀e∈dw ps,0<=f e.1->0<=f e.2->C e.1 e.2)(h2:∀e∈dw ps,f e.1*f e.2<0->f (mt e.1 e.2)=0/\(0<f e.1->C e.1 (mt e.1 e.2))/\(0<f e.2->C (mt e.1 e.2) e.2)):
  ∀e∈dw (dq f mt ps),C e.1 e.2:=by
 cases ps with
 |nil=>intro e ax;cases ax
 |cons a r=>
  intro e ax;have n:dq f mt (a::r)≠[]:=by intro z;rw[z]at ax;cases ax
  have aI:∀p q,(p,q)∈dg ((a::r).headD a) ((a::r).tail++[a])->0<=f p->0<=f q->C p q:=λp q h=>h1 (p,q) (AR.mp h);have aP:∀p q,(p,q)∈dg ((a::r).headD a) ((a::r).tail++[a])->f p*f q<0->f (mt p q)=0/\(0<f p->C p (mt p q))/\(0<f q->C (mt p q) q):=λp q h=>h2 (p,q) (AR.mp h);have first:=ww (f:=f) (mt:=mt) (C:=λu v=>u=o\/C u v) (λu v bo aH=>.inr (hz u v bo aH)) (ps:=a::r) (w:=a) (z:=o) (λp q h x y=>.inr (aI p q h x y)) (λp q h x=>⟨(aP p q h x).1,λy=>.inr ((aP p q h x).2.1 y),λy=>.inr ((aP p q h x).2.2 y)⟩) (λ_=>.inl rfl) (λ_=>aB) (by simp)
  have ai:cG o (dd f mt (a::r) a)=cG (0,0,1) (dq f mt (a::r)):=rk n;have df:f a<0->f (cG (0,0,1) (dq f mt (a::r)))=0:=λh=>by rw[<-ai];exact first.2.2 h
  have a7:0<=f a->C (cG (0,0,1) (dq f mt (a::r))) a:=λh=>by
   by_cases AS:cG o (dd f mt (a::r) a)=o
   ·
    have:=ww (f:=f) (mt:=mt) (C:=λu v=>(u=a/\v=a)\/C u v) (λu v bo aH=>.inr (hz u v bo aH)) (ps:=a::r) (w:=a) (z:=a) (λp q h x y=>.inr (aI p q h x y)) (λp q h x=>⟨(aP p q h x).1,λy=>.inr ((aP p q h x).2.1 y),λy=>.inr ((aP p q h x).2.2 y)⟩) (λ_=>.inl ⟨rfl,rfl⟩) (λy=>absurd y (show ¬f a<0 by lia)) (by simp);have ap:cG a (dd f mt (a::r) a)=cG (0,0,1) (dq f mt (a::r)):=rk n;rcases this.2.1 h with⟨aO,_⟩|q
    ·rw[ap]at aO;rw[aO];rw[ai,aO]at AS;rw[AS];exact hz o o aB aB
    ·rw[<-ap];exact q
   ·rcases first.2.1 h with q|q
    ·exact absurd q AS
    ·rw[<-ai];exact q
  exact(ww hz aI aP a7 df (by simp)).1 e ax
end
end Cut
namespace Cut
open PySem L2 L3
open PySem.Builtin.Int (intBits)
def nC(l:aa)(mt:aa->aa->aa):Prop:=∀p q,ln l p*ln l q<0->i9 p q (mt p q)/\ln l (mt p q)=0
theorem rl{l p q:aa}(h:ln l p*ln l q<0):ln l (aU l p q)=0:=by
 unfold aU;by_cases w:0<p.2.2/\0<q.2.2
 ·rw[SL w]
  have dB:(crs l (crs p q)).2.2≠0:=by
   rw[show(crs l (crs p q)).2.2=ln l q*p.2.2 + -ln l p*q.2.2 by rw[tu l p q];rfl];rcases lM h with⟨a,b⟩|⟨a,b⟩
   ·have bX:ln l q*p.2.2<0:=by rw[S2];exact SX w.1 b
    have dn : -ln l p*q.2.2<0:=by rw[S2];exact SX w.2 (by lia)
    lia
   ·have bX:0<ln l q*p.2.2:=SE b w.1;have dn:0 < -ln l p*q.2.2:=SE (by lia) w.2;lia
  obtain⟨g,aZ,aD⟩:=ke dB;have z:ln l (crs l (crs p q))=0:=by rw[show crs l (crs p q)=f7 (ln l q) p (-ln l p) q from tu l p q,wo];grind
  rw[aD,AH]at z;rcases Tv.mp z with y|y
  ·exact absurd y aZ
  ·exact y
 ·rw[SZ w];by_cases c:0<ln l q
  ·rw[SL c,wo];grind
  ·rw[SZ c,wo];grind
theorem wx(l:aa):nC l (aU l):=λ_ _ h=>⟨p0 h,rl h⟩
def lP(l:aa):aa:=sc (-1) l
theorem mH(l p:aa):ln (lP l) p = -ln l p:=by unfold lP ln sc;dsimp only;grind
theorem nC.ng{l:aa}{mt:aa->aa->aa}(h:nC l mt):nC (lP l) mt:=λp q c=>by
 rw[mH,mH,T5]at c;refine⟨(h p q c).1,?_⟩;rw[mH,(h p q c).2];rfl
theorem nC.meets{l:aa}{mt:aa->aa->aa}(h:nC l mt):Meets (ln l) mt:=λp q c=>(h p q c).1
theorem i9.ln0{p q m g:aa}(h:i9 p q m)(h1:Cut.ln g p=0)(h2:Cut.ln g q=0):Cut.ln g m=0:=by
 obtain⟨s,a,b,aj,aw,ab,e⟩:=h;have k:s*Cut.ln g m=a*Cut.ln g p+b*Cut.ln g q:=by rw[<-AH,e,wo]
 rw[h1,h2,SW,SW]at k;rcases Tv.mp k with z|z
 ·lia
 ·exact z
def eB(T:aa->aa->Rat)(es:List (aa×aa)):Rat:=(es.map λe=>T e.1 e.2).sum
theorem iK(T:aa->aa->Rat):eB T []=0:=rfl
theorem ht(T:aa->aa->Rat)(e:aa×aa)(es:List (aa×aa)):eB T (e::es)=T e.1 e.2+eB T es:=by unfold eB;rw[SD,SN]
theorem AT(T:aa->aa->Rat):∀es fs:List (aa×aa),eB T (es++fs)=eB T es+eB T fs
 |[],fs=>by rw[Ta,iK];grind
 |e::es,fs=>by rw[Tp,ht,ht,AT T es fs];grind
section
variable{f:aa->Int}{mt:aa->aa->aa}{T:aa->aa->Rat}{V:aa->Prop}
def iL(f:aa->Int)(mt:aa->aa->aa)(T:aa->aa->Rat)(p q:aa):Rat:=
 if 0<=f p then(if 0<=f q then T p q else if f p*f q<0 then T p (mt p q)else 0)else(if f p*f q<0 then T (mt p q) q else 0)
def mI(f:aa->Int)(T:aa->aa->Rat)(z p:aa):Rat:=if 0<=f p then T z p else 0
theorem wy{z p:aa}(h:0<=f p):mI f T z p=T z p:=by unfold mI;rw[SL h]
theorem wz{z p:aa}(h:¬0<=f p):mI f T z p=0:=by unfold mI;rw[SZ h]
theorem PM(hz:∀u v,V u->V v->f u=0->f v=0->T u v=0){p q z:aa}(tC:V z)(oQ:V q)(av:f p*f q<0->V (mt p q)/\f (mt p q)=0)(bj:f p<0->f z=0):
  eB T (dg z (kp f p++cw f mt p q))+mI f T (cG z (kp f p++cw f mt p q)) q=mI f T z p+iL f mt T p q/\(f q<0->f (cG z (kp f p++cw f mt p q))=0):=by
 by_cases cz:0<=f p
 ·rw[show kp f p=[p] by unfold kp;rw[SL cz],wy cz];by_cases c:f p*f q<0
  ·rw[lJ c]
   have hs:¬0<=f q:=by
    rcases lM c with⟨_,a⟩|⟨a,_⟩<;>lia
   have ai:cG z ([p]++[mt p q])=mt p q:=rfl;have ap:dg z ([p]++[mt p q])=[(z,p),(p,mt p q)]:=rfl;refine⟨?_,λ_=>by rw[ai];exact(av c).2⟩;rw[ai,ap,wz hs,ht,ht,iK];unfold iL;rw[SL cz,SZ hs,SL c];dsimp only;grind
  ·rw[kN c];have ai:cG z ([p]++[])=p:=rfl;have ap:dg z ([p]++[])=[(z,p)]:=rfl;rw[ai,ap,ht,iK];refine⟨?_,λh=>?_⟩
   ·unfold iL;rw[SL cz];by_cases oR:0<=f q
    ·rw[wy oR,SL oR];dsimp only;grind
    ·rw[wz oR,SZ oR,SZ c];dsimp only;grind
   ·rcases Vq cz with a|a
    ·exact absurd (SX a h) c
    ·exact a.symm
 ·rw[show kp f p=[] by unfold kp;rw[SZ cz],wz cz,Ta];have z0:=bj (by lia);unfold iL;rw[SZ cz];by_cases c:f p*f q<0
  ·rw[lJ c,SL c]
   have hs:0<=f q:=by
    rcases lM c with⟨a,_⟩|⟨_,a⟩<;>lia
   have ai:cG z [mt p q]=mt p q:=rfl;have ap:dg z [mt p q]=[(z,mt p q)]:=rfl;have oP:T z (mt p q)=0:=hz _ _ tC (av c).1 z0 (av c).2;rw[ai,ap,ht,iK,wy hs];refine⟨?_,λh=>absurd h (by lia)⟩;dsimp only;rw[oP];grind
  ·rw[kN c,SZ c];have ai:cG z []=z:=rfl;have ap:dg z []=[]:=rfl;rw[ai,ap,iK];refine⟨?_,λ_=>z0⟩;by_cases oR:0<=f q
   ·have iM:f q=0:=by
     rcases Vq oR with a|a
     ·exact absurd (by rw[S2];exact SX a (by lia)) c
     ·exact a.symm
    rw[wy oR,hz _ _ tC oQ z0 iM]
   ·rw[wz oR]
theorem AU(hz:∀u v,V u->V v->f u=0->f v=0->T u v=0)(av:∀p q,V p->V q->f p*f q<0->V (mt p q)/\f (mt p q)=0):∀{ps:ZH}{w z:aa},(∀p∈ps,V p)->V w->V z->(f (ps.headD w)<0->f z=0)->ps≠[]->
  eB T (dg z (dd f mt ps w))+mI f T (cG z (dd f mt ps w)) w=mI f T z (ps.headD w)+eB (iL f mt T) (dg (ps.headD w) (ps.tail++[w]))/\(f w<0->f (cG z (dd f mt ps w))=0)
 |[],_,_,_,_,_,_,aN=>absurd rfl aN
 |p::r,w,z,aH,F1,tC,bj,_=>by
  have bj:f p<0->f z=0:=bj;have rm:=aH p Sv
  have oQ:V (r.headD w):=by
   cases r with
   |nil=>exact F1
   |cons q r=>exact aH q (by simp)
  obtain⟨az,a3⟩:=PM (f:=f) (mt:=mt) (T:=T) (V:=V) hz tC oQ (av p _ rm oQ) bj;show eB T (dg z (kp f p++cw f mt p (r.headD w)++dd f mt r w))+mI f T (cG z (kp f p++cw f mt p (r.headD w)++dd f mt r w)) w=mI f T z p+eB (iL f mt T) (dg p (r++[w]))/\(f w<0->f (cG z (kp f p++cw f mt p (r.headD w)++dd f mt r w))=0)
  rw[tB z (kp f p++cw f mt p (r.headD w)),wv z (kp f p++cw f mt p (r.headD w)),AT]
  have hn:V (cG z (kp f p++cw f mt p (r.headD w))):=by
   by_cases cz:0<=f p
   ·rw[show kp f p=[p] by unfold kp;rw[SL cz]];by_cases c:f p*f (r.headD w)<0
    ·rw[lJ c];exact(av _ _ rm oQ c).1
    ·rw[kN c];exact rm
   ·rw[show kp f p=[] by unfold kp;rw[SZ cz]];by_cases c:f p*f (r.headD w)<0
    ·rw[lJ c];exact(av _ _ rm oQ c).1
    ·rw[kN c];exact tC
  cases r with
  |nil=>
   have d0:dg (cG z (kp f p++cw f mt p (([]:ZH).headD w))) (dd f mt [] w)=[]:=rfl;have ai:dg p ([]++[w])=[(p,w)]:=rfl;have ap:([]:ZH).headD w=w:=rfl;have br:cG (cG z (kp f p++cw f mt p (([]:ZH).headD w))) (dd f mt [] w)=cG z (kp f p++cw f mt p w):=rfl;rw[d0,ai,br,iK,ht,iK];rw[ap]at az a3⊢;refine⟨?_,a3⟩;dsimp only;grind
  |cons q r=>
   obtain⟨ew,cP⟩:=AU hz av (ps:=q::r) (w:=w) (z:=cG z (kp f p++cw f mt p q)) (λx aq=>aH x (Sy _ aq)) F1 hn a3 (by simp);refine⟨?_,cP⟩;have ai:dg p (q::r++[w])=(p,q)::dg q (r++[w]):=rfl;have ap:(q::r).headD w=q:=rfl;have br:(q::r).tail=r:=rfl;rw[ai,ht];rw[ap,br]at ew;rw[ap]at az⊢;dsimp only;grind
theorem AV(T:aa->aa->Rat)(a:aa)(r:ZH):eB T (dg a (r++[a]))=eB T (dw (a::r)):=by
 have:dw (a::r)=(cG a r,a)::dg a r:=rfl;rw[this,tB,AT,ht];have:dg (cG a r) [a]=[(cG a r,a)]:=rfl;rw[this,ht,iK];dsimp only;grind
theorem F2(hz:∀u v,V u->V v->f u=0->f v=0->T u v=0)(av:∀p q,V p->V q->f p*f q<0->V (mt p q)/\f (mt p q)=0)(o:aa)(PN:V o)(aB:f o=0){ps:ZH}(aH:∀p∈ps,V p):
  eB T (dw (dq f mt ps))=eB (iL f mt T) (dw ps):=by
 cases ps with
 |nil=>rfl
 |cons a r=>
  have AW:=aH a Sv;have first:=AU hz av (ps:=a::r) (w:=a) (z:=o) aH AW PN (λ_=>aB) (by simp)
  have ai:(a::r).headD a=a:=rfl;have ap:(a::r).tail=r:=rfl;rw[ai,ap,AV]at first
  by_cases n:dq f mt (a::r)=[]
  ·have n':dd f mt (a::r) a=[]:=n;rw[n']at first
   have br:dg o []=[]:=rfl;have cW:cG o []=o:=rfl;rw[br,cW,iK]at first
   rw[n];have f5:dw []=[]:=rfl;rw[f5,iK];have:=first.1
   grind
  ·have br:cG o (dd f mt (a::r) a)=cG (0,0,1) (dq f mt (a::r)):=rk n;have df:f a<0->f (cG (0,0,1) (dq f mt (a::r)))=0:=λh=>by rw[<-br];exact first.2 h
   have hn:V (cG (0,0,1) (dq f mt (a::r))):=by
    rcases p1 (AQ (z:=(0,0,1)) n)with⟨h,_⟩|⟨p,ae,q,ay,c,e⟩
    ·exact aH _ h
    ·rw[e];exact(av p q (aH p ae) (aH q ay) c).1
   have snd:=AU hz av (ps:=a::r) (w:=a) (z:=cG (0,0,1) (dq f mt (a::r))) aH AW hn df (by simp);rw[ai,ap,AV]at snd;have cW:cG (cG (0,0,1) (dq f mt (a::r))) (dd f mt (a::r) a)=cG (0,0,1) (dq f mt (a::r)):=rk n;rw[cW]at snd;have:=snd.1;show eB T (dg (cG (0,0,1) (dq f mt (a::r))) (dd f mt (a::r) a))=_
   grind
theorem F3{T1 T2 F4:aa->aa->Rat}:∀{es:List (aa×aa)},(∀e∈es,T1 e.1 e.2+T2 e.1 e.2=F4 e.1 e.2)->eB T1 es+eB T2 es=eB F4 es
 |[],_=>by rw[iK,iK,iK];grind
 |e::es,h=>by
  have h1:=h e Sv;have h2:=F3 (es:=es) λe ax=>h e (Sy _ ax);rw[ht,ht,ht];grind
theorem PO(hz:∀u v,V u->V v->f u=0->f v=0->T u v=0){p q:aa}(rm:V p)(oQ:V q)(av:f p*f q<0->T p (mt p q)+T (mt p q) q=T p q):iL f mt T p q+iL (λc => -f c) mt T p q=T p q:=by
 have mF:(-f p)*(-f q)=f p*f q:=T5 _ _;unfold iL;dsimp only;rw[mF];rcases T4 (f p) 0 with a|a|a
 ·rw[SZ (show ¬0<=f p by lia),SL (show 0 <= -f p by lia)];rcases T4 (f q) 0 with b|b|b
  ·have c:¬f p*f q<0:=by have:=Uw a b;lia
   rw[SZ c,SL (show 0 <= -f q by lia)];grind
  ·have c:¬f p*f q<0:=by rw[b,SW];lia
   rw[SZ c,SL (show 0 <= -f q by lia)];grind
  ·have c:f p*f q<0:=by rw[S2];exact SX b a
   rw[SL c,SZ (show ¬0 <= -f q by lia),SL c];have:=av c;grind
 ·have c:¬f p*f q<0:=by rw[a,T3];lia
  rw[SL (show 0<=f p by lia),SL (show 0 <= -f p by lia),SZ c];rcases T4 (f q) 0 with b|b|b
  ·rw[SZ (show ¬0<=f q by lia),SL (show 0 <= -f q by lia)];grind
  ·rw[SL (show 0<=f q by lia),SL (show 0 <= -f q by lia)];have:=hz p q rm oQ a b;grind
  ·rw[SL (show 0<=f q by lia),SZ (show ¬0 <= -f q by lia)];grind
 ·rw[SL (show 0<=f p by lia),SZ (show ¬0 <= -f p by lia)];rcases T4 (f q) 0 with b|b|b
  ·have c:f p*f q<0:=SX a b;rw[SZ (show ¬0<=f q by lia),SL c,SL c];exact av c
  ·have c:¬f p*f q<0:=by rw[b,SW];lia
   rw[SL (show 0<=f q by lia),SZ c];grind
  ·have c:¬f p*f q<0:=by have:=SE a b;lia
   rw[SL (show 0<=f q by lia),SZ c];grind
theorem AX(hz:∀u v,V u->V v->f u=0->f v=0->T u v=0):∀{es:List (aa×aa)},(∀e∈es,V e.1/\V e.2/\f e.1<=0/\f e.2<=0)->eB (iL f mt T) es=0
 |[],_=>rfl
 |e::es,h=>by
  obtain⟨v1,ev,bX,dn⟩:=h e Sv;have bN:=AX hz (es:=es) λe ax=>h e (Sy _ ax);rw[ht,bN];have c:¬f e.1*f e.2<0:=by have:=Vr bX dn;lia
  have:iL f mt T e.1 e.2=0:=by
   unfold iL;rw[SZ c,SZ c];by_cases a:0<=f e.1
   ·rw[SL a];by_cases b:0<=f e.2
    ·rw[SL b];exact hz _ _ v1 ev (by lia) (by lia)
    ·rw[SZ b]
   ·rw[SZ a]
  rw[this];grind
end
def hO(p:aa):Rat:=(p.1:Rat)/(p.2.2:Rat)
def hP(p:aa):Rat:=(p.2.1:Rat)/(p.2.2:Rat)
theorem di{x:Int}(h:0<x):(x:Rat)≠0:=λz=>by
 have:=Rat.intCast_eq_zero_iff.mp z;lia
theorem AY{p q m:aa}(h:i9 p q m)(ae:0<p.2.2)(ay:0<q.2.2)(av:0<m.2.2):∃a b:Rat,a+b=1/\hO m=a*hO p+b*hO q/\hP m=a*hP p+b*hP q:=by
 obtain⟨s,a,b,aj,aw,ab,e⟩:=h;have ai:s*m.1=a*p.1+b*q.1:=TW (λx:aa=>x.1) e;have ap:s*m.2.1=a*p.2.1+b*q.2.1:=TW (λx:aa=>x.2.1) e;have br:s*m.2.2=a*p.2.2+b*q.2.2:=TW (λx:aa=>x.2.2) e;have eT:=di aj;have dS:=di av;have p2:=di ae;have iM:=di ay;have a4:(s:Rat)*m.1=a*p.1+b*q.1:=by rw[<-Ub,ai,Wc,Ub,Ub]
 have a':(s:Rat)*m.2.1=a*p.2.1+b*q.2.1:=by rw[<-Ub,ap,Wc,Ub,Ub]
 have bP:(s:Rat)*m.2.2=a*p.2.2+b*q.2.2:=by rw[<-Ub,br,Wc,Ub,Ub]
 unfold hO hP;generalize(s:Rat)=s' at *;generalize(a:Rat)=fv at *;generalize(b:Rat)=b' at *;generalize(m.1:Rat)=bm at *;generalize(m.2.1:Rat)=bJ at *;generalize(m.2.2:Rat)=j7 at *;generalize(p.1:Rat)=cp at *;generalize(p.2.1:Rat)=b1 at *;generalize(p.2.2:Rat)=iH at *;generalize(q.1:Rat)=aO at *;generalize(q.2.1:Rat)=bz at *;generalize(q.2.2:Rat)=et at *;refine⟨fv*iH/(s'*j7),b'*et/(s'*j7),?_,?_,?_⟩<;>grind
theorem F5(h:aa->Rat):∀(z:aa)(L:ZH),eB (λp q=>h p-h q) (dg z L)=h z-h (cG z L)
 |z,[]=>by rw[show dg z []=[]from rfl,iK,show cG z []=z from rfl];grind
 |z,p::L=>by
  rw[show dg z (p::L)=(z,p)::dg p L from rfl,ht,F5 h p L,show cG z (p::L)=cG p L from rfl];dsimp only;grind
open Classical in
noncomputable def cR(f:aa->Int)(mt:aa->aa->aa)(ps:ZH):List aa:=if ∃c∈ps,0<f c then dq f mt ps else[]
end Cut
namespace L3
open PySem L2
section
variable{X:aJ}{e:Wp}{u:a9}{pos:Pos}
def PP(i:Nat)(u:a9):cX:=λU ρ=>∃m,ρ[i]?=some (.val (.int m))/\u ρ λd=>∃n,d=.int n/\U.nx (ρ.set i (.val (.int (m+n))))
theorem PQ{i:Nat}{x:Str}{eF:Pos}(bi:X.N.Nodup)(au:X.N[i]?=some x)(aq:Loc X.env.scope x)(ax:bn X e u)(bf:X.fn x=true\/X.env.scope.names.lookup x=some .local:=by first|exact .inl rfl|exact .inr rfl|assumption):
  fM X (.AugAssign (.Name x eF) .Add e pos) (PP i u):=by
 obtain⟨_,h1,r1⟩:=ax;refine⟨_,KM bi au aq h1 KQ bf,λU ρ h R W B H σ D e s=>?_⟩;obtain⟨m,av,h⟩:=h;obtain⟨v,aH,cq⟩:=e.val av;refine⟨v,aH,?_⟩;refine r1 ρ _ h R W B H σ _ e λd w bd ar z1 ai aI az=>?_;obtain⟨n,rfl,z⟩:=z1;exact⟨m,n,cq.intV,az.intV,s.nx _ _ bd ar z (ai.setV i (.int _)) aI⟩
end
end L3
namespace Cut
open PySem L2 L3
open PySem.Builtin.Int (intBits)
noncomputable def ck(f:aa->Int)(mt:aa->aa->aa)(sh:ZI):List aK:=(sh.map λs=>(cR f mt s.1,s.2)).filter λs => !s.1.isEmpty
theorem tD{f:aa->Int}{mt:aa->aa->aa}(a b:ZI):ck f mt (a++b)=ck f mt a++ck f mt b:=by unfold ck;rw[SI,U2]
theorem wA{f:aa->Int}{mt:aa->aa->aa}{s:aK}(h:(cR f mt s.1).isEmpty=false):ck f mt [s]=[(cR f mt s.1,s.2)]:=by unfold ck;simp[h]
theorem wB{f:aa->Int}{mt:aa->aa->aa}{s:aK}(h:(cR f mt s.1).isEmpty=true):ck f mt [s]=[]:=by unfold ck;simp[h]
theorem lQ{f:aa->Int}{mt:aa->aa->aa}(sh:ZI):(ck f mt sh).length<=sh.length:=by
 unfold ck;refine SA (Vs _ _) ?_;rw[Sw];exact Sx _
theorem tE{f:aa->Int}{mt:aa->aa->aa}{sh:ZI}{s:aK}(h:s∈ck f mt sh):∃t∈sh,s=(dq f mt t.1,t.2)/\∃c∈t.1,0<f c:=by
 unfold ck at h;obtain⟨h1,h2⟩:=Up.mp h;obtain⟨t,bQ,rfl⟩:=SJ.mp h1;refine⟨t,bQ,?_⟩;unfold cR at h2⊢;split at h2
 ·rename_i c;rw[SL c];exact⟨rfl,c⟩
 ·simp at h2
theorem F7:∀(z:aa)(L:ZH)(k:Nat),k<L.length->(dg z L)[k]?=some (cK (z::L) k,cK L k)
 |_,[],_,h=>absurd h (by simp)
 |z,p::L,0,_=>rfl
 |z,p::L,k+1,h=>by
  have:=F7 p L k (by simpa using h);simpa[dg,Fs]using this
theorem AZ:∀(z:aa)(L:ZH),(dg z L).length=L.length
 |_,[]=>rfl
 |z,p::L=>by simp[dg,AZ p L]
theorem F8:∀(z:aa)(L:ZH),L≠[]->cG z L=cK L (L.length-1)
 |_,[],h=>absurd rfl h
 |z,[p],_=>rfl
 |z,p::q::L,_=>by
  have:=F8 p (q::L) (by simp);show cG p (q::L)=_
  rw[this];rfl
theorem F9(ps:ZH):dw ps=(SV ps.length).map λk=>(cK ps ((k+ps.length-1)%ps.length),cK ps k):=by
 apply Uj;intro k;by_cases h:k<ps.length
 ·have aN:ps≠[]:=by rintro rfl;simp at h
  rw[S4,Vh h];unfold dw;rw[F7 _ _ _ h];simp only[UJ];congr 2;cases k with
  |zero=>
   rw[Ph,F8 _ _ aN,TR,TA (by lia)]
  |succ k=>
   rw[Fs,show k+1+ps.length-1=k+ps.length by lia,Vo,TA (by lia)]
 ·rw[Th (by unfold dw;rw[AZ];lia),Th (by simp;lia)]
end Cut
namespace Cut
open PySem L2 L3
theorem wC{f:aa->Int}{mt:aa->aa->aa}{ps:ZH}(h:∃c∈ps,0<f c):cR f mt ps=dq f mt ps:=by unfold cR;rw[SL h]
theorem A0{f:aa->Int}{mt:aa->aa->aa}{ps:ZH}(h:¬∃c∈ps,0<f c):cR f mt ps=[]:=by unfold cR;rw[SZ h]
theorem wD{l:aa}{ps:ZH}:(∃c∈ps,0<(λc => -ln l c) c)↔∃c∈ps,ln l c<0:=
 ⟨λ⟨c,h,z⟩=>⟨c,h,by have z:0 < -ln l c:=z;lia⟩,λ⟨c,h,z⟩=>⟨c,h,by show 0 < -ln l c;lia⟩⟩
end Cut
namespace L3
open PySem L2
theorem A1{α:Type}{f h:α->D}{P:α->Bool}{ez:dW}{u:a9}{fs:ZL}:∀{rs:List α}{v0:aQ}{k:ZK->Prop},(∀r∈rs,∀k:Bool->Prop,k (P r)->ez (.val (f r)::fs) k)->(∀r∈rs,∀k:D->Prop,k (h r)->u (.val (f r)::fs) k)->k ((rs.filter P).map h)->he (e3 0) ez u (rs.map f) (v0::fs) k
 |[],_,_,_,_,ag=>ag
 |r::rs,v0,k,h1,h2,ag=>by
  refine h1 r Sv _ ?_;cases c:P r with
  |true=>
   rw[SL rfl];refine h2 r Sv _ ?_;refine A1 (P:=P) (λx aq=>h1 x (Sy _ aq)) (λx aq=>h2 x (Sy _ aq)) ?_;rw[W5 c]at ag;exact ag
  |false=>
   rw[SZ S6];refine A1 (P:=P) (λx aq=>h1 x (Sy _ aq)) (λx aq=>h2 x (Sy _ aq)) ?_;rw[W6 (by rw[c];decide)]at ag;exact ag
end L3
namespace Cut
open PySem L2 L3
open PySem.Builtin.Int (intBits)
theorem PR{ps:ZH}{i:Nat}(h:i<ps.length):(dw ps).take (i+1)=(dw ps).take i++[(cK ps ((i+ps.length-1)%ps.length),cK ps i)]:=by
 rw[We,F9,S4,Vh h];rfl
theorem PS(ps:ZH):(dw ps).take ps.length=dw ps:=UK (by unfold dw;rw[AZ];exact Sx _)
theorem oS(p q:aa):ln (crs p q) p=0:=by show be p q p=0;unfold be crs;grind
theorem F'{f:aa->Int}{mt:aa->aa->aa}{x:aa}:∀{ps:ZH}{w:aa},x∈dd f mt ps w->(x∈ps/\0<=f x)\/∃e∈dg (ps.headD w) (ps.tail++[w]),f e.1*f e.2<0/\x=mt e.1 e.2
 |[],_,h=>by cases h
 |p::r,w,h=>by
  have h:x∈kp f p++cw f mt p (r.headD w)++dd f mt r w:=h;rcases SR.mp h with h|h
  ·rcases SR.mp h with h|h
   ·unfold kp at h;split at h
    ·rename_i z
     rw[SM.mp h];exact .inl ⟨Sv,z⟩
    ·cases h
   ·unfold cw at h;split at h
    ·rename_i z
     refine .inr ⟨(p,r.headD w),?_,z,SM.mp h⟩;cases r<;>exact Sv
    ·cases h
  ·rcases F' h with⟨h1,h2⟩|⟨e,h1,h2⟩
   ·exact .inl ⟨Sy _ h1,h2⟩
   ·refine .inr ⟨e,?_,h2⟩;cases r with
    |nil=>cases h
    |cons q r=>exact Sy _ h1
theorem PT{f:aa->Int}{mt:aa->aa->aa}{x:aa}{ps:ZH}(h:x∈dq f mt ps):(x∈ps/\0<=f x)\/∃e∈dw ps,f e.1*f e.2<0/\x=mt e.1 e.2:=by
 cases ps with
 |nil=>cases h
 |cons a r=>
  rcases F' h with h|⟨e,h1,h2⟩
  ·exact .inl h
  ·exact .inr ⟨e,AR.mp h1,h2⟩
structure wE (b m:Nat) (ps:ZH):Prop where
 pts:∀x∈ps,eA b x
 lin:∀e∈dw ps,∃g:aa,cD m g/\(g.1≠0\/g.2.1≠0\/g.2.2≠0)/\ln g e.1=0/\ln g e.2=0
theorem par{g u v:aa}(aD:g.1≠0\/g.2.1≠0\/g.2.2≠0)(bo:ln g u=0)(aH:ln g v=0)(n:(crs u v).1≠0\/(crs u v).2.1≠0\/(crs u v).2.2≠0):∃a b:Int,a≠0/\b≠0/\sc a (crs u v)=sc b g:=by
 have t:crs g (crs u v)=f7 (ln g v) u (-ln g u) v:=tu g u v;rw[bo,aH]at t;generalize crs u v=w at *
 have ew:g.2.1*w.2.2-g.2.2*w.2.1=0:=by
  have:=TW (λx:aa=>x.1) t;unfold crs f7 at this;dsimp only at this;grind
 have cP:g.2.2*w.1-g.1*w.2.2=0:=by
  have:=TW (λx:aa=>x.2.1) t;unfold crs f7 at this;dsimp only at this;grind
 have fx:g.1*w.2.1-g.2.1*w.1=0:=by
  have:=TW (λx:aa=>x.2.2) t;unfold crs f7 at this;dsimp only at this;grind
 have jM:∀{x y:Int},x≠0->x*y=0->y=0:=λh e=>(Tv.mp e).resolve_left h;rcases aD with h|h|h
 ·refine⟨g.1,w.1,h,λz=>?_,?_⟩
  ·rw[z]at cP fx;have a:=jM h (show g.1*w.2.2=0 by grind);have b:=jM h (show g.1*w.2.1=0 by grind);rcases n with n|n|n<;>contradiction
  ·unfold sc;refine eW ?_ ?_ ?_<;>dsimp only<;>grind
 ·refine⟨g.2.1,w.2.1,h,λz=>?_,?_⟩
  ·rw[z]at ew fx;have a:=jM h (show g.2.1*w.2.2=0 by grind);have b:=jM h (show g.2.1*w.1=0 by grind);rcases n with n|n|n<;>contradiction
  ·unfold sc;refine eW ?_ ?_ ?_<;>dsimp only<;>grind
 ·refine⟨g.2.2,w.2.2,h,λz=>?_,?_⟩
  ·rw[z]at ew cP;have a:=jM h (show g.2.2*w.2.1=0 by grind);have b:=jM h (show g.2.2*w.1=0 by grind);rcases n with n|n|n<;>contradiction
  ·unfold sc;refine eW ?_ ?_ ?_<;>dsimp only<;>grind
theorem Ga(c:Int)(p q:aa):crs p (sc c q)=sc c (crs p q):=by
 refine eW ?_ ?_ ?_<;>simp only[crs,sc]<;>grind
theorem PU{l w g:aa}{a b:Int}(aw:a≠0)(ab:b≠0)(e:sc a w=sc b g)(n:(crs l w).2.2≠0):(crs l g).2.2≠0/\nP (crs l w)=nP (crs l g):=by
 have ai:sc a (crs l w)=sc b (crs l g):=by rw[<-Ga,e,Ga]
 have aF:a*(crs l w).2.2=b*(crs l g).2.2:=TW (λx:aa=>x.2.2) ai
 have dn:(crs l g).2.2≠0:=λz=>by
  rw[z,SW]at aF;rcases Tv.mp aF with y|y<;>contradiction
 refine⟨dn,?_⟩;obtain⟨c,h9,hc⟩:=ke dn;have ap:sc a (crs l w)=sc (b*c) (nP (crs l g)):=by rw[ai,<-E0,<-hc]
 exact(q' aw (λz=>by rcases Tv.mp z with y|y<;>contradiction) (gg dn) ap).2
theorem gv.sl{g:aa}{ps:ZH}(aD:aT g)(ae:∀p∈ps,aT p)(h:gv ps):gv (ps.map λp=>nP (sld g p)):=h.map λp q r a b c=>(OV aD.1).side (ae p a).1 (ae q b).1 (ae r c).1
end Cut
namespace Tab
open PySem PySem.SetTable
def nD(m:Nat):Prop:=m=7\/m=15\/m=31\/m=63\/m=127\/m=255
def tF(m i:Nat):Nat:=(i*5+1)%(m+1)
def iN(m:Nat):Nat->Nat->Nat
 |0,i=>i
 |k+1,i=>iN m k (tF m i)
theorem wF(m:Nat):∀(a b i:Nat),iN m (a+b) i=iN m b (iN m a i)
 |0,b,i=>by rw[TR];rfl
 |a+1,b,i=>by
  rw[show a+1+b=(a+b)+1 by lia];exact wF m a b _
def jU(m:Nat):List Nat:=if m=7 then[0,1,6,7,4,5,2,3]else if m=15 then[0,1,6,15,12,13,2,11,8,9,14,7,4,5,10,3]else if m=31 then[0,1,6,15,28,13,2,27,24,25,30,7,20,5,26,19,16,17,22,31,12,29,18,11,8,9,14,23,4,21,10,3]else if m=63 then[0,1,6,47,28,45,2,59,56,25,62,7,20,5,58,19,48,49,54,31,12,29,50,43,40,9,46,55,4,53,42,3,32,33,38,15,60,13,34,27,24,57,30,39,52,37,26,51,16,17,22,63,44,61,18,11,8,41,14,23,36,21,10,35]else if m=127 then[0,1,70,111,28,109,2,123,120,25,126,71,20,5,58,83,112,49,54,31,12,29,114,43,104,73,110,119,4,53,42,3,96,97,38,79,124,77,98,91,88,121,94,39,116,101,26,51,80,17,22,127,108,125,82,11,72,41,78,87,100,21,10,99,64,65,6,47,92,45,66,59,56,89,62,7,84,69,122,19,48,113,118,95,76,93,50,107,40,9,46,55,68,117,106,67,32,33,102,15,60,13,34,27,24,57,30,103,52,37,90,115,16,81,86,63,44,61,18,75,8,105,14,23,36,85,74,35]else[0,1,70,239,156,109,2,123,120,25,254,71,148,5,58,83,240,49,182,159,140,157,114,43,104,73,110,247,132,53,170,3,224,97,38,79,124,205,226,219,88,121,222,167,116,101,26,179,208,145,150,255,108,253,82,139,72,169,78,87,100,149,138,99,192,193,6,175,92,45,194,59,56,217,190,7,84,197,250,19,176,241,118,95,76,93,50,235,40,9,46,183,68,245,106,195,160,33,230,15,60,141,162,155,24,57,158,103,52,37,218,115,144,81,86,191,44,189,18,75,8,105,14,23,36,85,74,35,128,129,198,111,28,237,130,251,248,153,126,199,20,133,186,211,112,177,54,31,12,29,242,171,232,201,238,119,4,181,42,131,96,225,166,207,252,77,98,91,216,249,94,39,244,229,154,51,80,17,22,127,236,125,210,11,200,41,206,215,228,21,10,227,64,65,134,47,220,173,66,187,184,89,62,135,212,69,122,147,48,113,246,223,204,221,178,107,168,137,174,55,196,117,234,67,32,161,102,143,188,13,34,27,152,185,30,231,180,165,90,243,16,209,214,63,172,61,146,203,136,233,142,151,164,213,202,163]
theorem PV:(SV 8).all (λe=>iN 7 ((jU 7).getD e 0) 0==e&&decide ((jU 7).getD e 0<=7))=true:=by decide +kernel
theorem PW:(SV 16).all (λe=>iN 15 ((jU 15).getD e 0) 0==e&&decide ((jU 15).getD e 0<=15))=true:=by decide +kernel
theorem PX:(SV 32).all (λe=>iN 31 ((jU 31).getD e 0) 0==e&&decide ((jU 31).getD e 0<=31))=true:=by decide +kernel
theorem PY:(SV 64).all (λe=>iN 63 ((jU 63).getD e 0) 0==e&&decide ((jU 63).getD e 0<=63))=true:=by decide +kernel
theorem PZ:(SV 128).all (λe=>iN 127 ((jU 127).getD e 0) 0==e&&decide ((jU 127).getD e 0<=127))=true:=by decide +kernel
theorem P0:(SV 256).all (λe=>iN 255 ((jU 255).getD e 0) 0==e&&decide ((jU 255).getD e 0<=255))=true:=by decide +kernel
theorem Gb{m e:Nat}(av:nD m)(ax:e<=m):∃k,k<=m/\iN m k 0=e:=by
 have go:∀{m:Nat},(SV (m+1)).all (λe=>iN m ((jU m).getD e 0) 0==e&&decide ((jU m).getD e 0<=m))=true->e<=m->∃k,k<=m/\iN m k 0=e:=λh ax=>by
  have:=Vj.mp h e (TV.mpr (by lia));rw[Us]at this;exact⟨_,of_decide_eq_true this.2,eq_of_beq this.1⟩
 rcases av with rfl|rfl|rfl|rfl|rfl|rfl
 ·exact go PV ax
 ·exact go PW ax
 ·exact go PX ax
 ·exact go PY ax
 ·exact go PZ ax
 ·exact go P0 ax
theorem P1{m:Nat}(av:nD m):iN m (m+1) 0=0:=by
 rcases av with rfl|rfl|rfl|rfl|rfl|rfl<;>decide +kernel
theorem P2{m i e:Nat}(av:nD m)(au:i<=m)(ax:e<=m):∃k,k<=m/\iN m (k+1) i=e:=by
 obtain⟨a,b7,bW⟩:=Gb av au;obtain⟨b,bc,bg⟩:=Gb av ax;by_cases c:a<b
 ·refine⟨b-a-1,by lia,?_⟩;rw[<-bW,<-wF,show a+(b-a-1+1)=b by lia];exact bg
 ·refine⟨m-a+b,by lia,?_⟩;rw[<-bW,<-wF,show a+(m-a+b+1)=(m+1)+b by lia,wF,P1 av];exact bg
def ja(m:Nat):Nat->Nat->Nat->Nat×Nat
 |0,i,q=>(i,q)
 |k+1,i,q=>ja m k (leap m i q).1 (leap m i q).2
theorem Gc(m:Nat):∀(a b i q:Nat),ja m (a+b) i q=ja m b (ja m a i q).1 (ja m a i q).2
 |0,b,i,q=>by rw[TR];rfl
 |a+1,b,i,q=>by
  rw[show a+1+b=(a+b)+1 by lia];exact Gc m a b _ _
theorem Gd(m:Nat):∀(k i q:Nat),(ja m k i q).2=q/32^k
 |0,i,q=>by simp[ja]
 |k+1,i,q=>by
  show(ja m k (leap m i q).1 (leap m i q).2).2=_
  rw[Gd m k];show q/32/32^k=_
  rw[Nat.div_div_eq_div_mul,Vt,VZ]
theorem Ge(m:Nat):∀(k i q:Nat),0<k->(ja m k i q).1<=m
 |0,_,_,h=>absurd h (by lia)
 |k+1,i,q,_=>by
  show(ja m k (leap m i q).1 (leap m i q).2).1<=m
  cases k with
  |zero=>
   show(i*5+1+q/32)%(m+1)<=m
   exact Nat.le_of_lt_succ (Uv _ (Vu _))
  |succ k=>exact Ge m (k+1) _ _ (by lia)
theorem Gf(m:Nat):∀(k i:Nat),(ja m k i 0).1=iN m k i/\(ja m k i 0).2=0
 |0,i=>⟨rfl,rfl⟩
 |k+1,i=>by
  have e:leap m i 0=(tF m i,0):=by simp[leap,tF]
  show(ja m k (leap m i 0).1 (leap m i 0).2).1=iN m k (tF m i)/\_
  rw[e];exact Gf m k (tF m i)
theorem P3{m i q e:Nat}(av:nD m)(ay:q<2^64)(ax:e<=m):∃k,1<=k/\k<=m+14/\(ja m k i q).1=e:=by
 have z:(ja m 13 i q).2=0:=by
  rw[Gd];exact Nat.div_eq_of_lt (Tf ay (by decide))
 obtain⟨k,h1,h2⟩:=P2 av (Ge m 13 i q (by decide)) ax;refine⟨13+(k+1),by lia,by lia,?_⟩;rw[Gc,z,(Gf m (k+1) _).1];exact h2
variable{t:XK}{hashAt:Nat->Int}{h:Int}
theorem wG(hd:t.dummies = #[])(j:Nat):t.slot j≠.dummy:=by
 unfold SetTable.slot;dsimp only;split
 ·exact λz=>by cases z
 ·rw[SZ]
  ·exact λz=>by cases z
  ·rw[hd];simp[SetTable.has]
theorem Gg(m i:Nat):runEnd m i-i<=9:=by unfold runEnd;split<;>lia
theorem P4(hd:t.dummies = #[]):∀(k:Nat)(fuel:Nat)(p:Probe),1<=k->t.slot (ja t.mask k p.i p.perturb).1=.empty->p.more+10*k<=fuel->p.more<=9->∃met,SetTable.probe.go t hashAt h (fuel+1) p=some met:=by
 intro k;induction k with
 |zero=>intro _ _ h;lia
 |succ k P5=>
  intro fuel;induction fuel with
  |zero=>intro p _ _ bf;lia
  |succ fuel bN=>
   intro p ag aj bf av;unfold SetTable.probe.go;cases q:t.slot p.j with
   |empty=>exact⟨_,rfl⟩
   |dummy=>exact absurd q (wG hd _)
   |live i=>
    dsimp only;split
    ·exact⟨_,rfl⟩
    ·unfold SetTable.advance;by_cases c:p.more>0
     ·rw[SL c];exact bN {p with j:=p.j+1,more:=p.more-1} ag aj (by dsimp only;lia) (by dsimp only;lia)
     ·rw[SZ c];dsimp only;have ak:=Gg t.mask (leap t.mask p.i p.perturb).1;cases k with
      |zero=>
       have aj:t.slot (leap t.mask p.i p.perturb).1=.empty:=aj;unfold SetTable.probe.go;dsimp only;rw[aj];exact⟨_,rfl⟩
      |succ k=>exact P5 fuel {p with j:=(leap t.mask p.i p.perturb).1,more:=runEnd t.mask (leap t.mask p.i p.perturb).1-(leap t.mask p.i p.perturb).1,i:=(leap t.mask p.i p.perturb).1,perturb:=(leap t.mask p.i p.perturb).2} (by lia) aj (by dsimp only;lia) (by dsimp only;lia)
theorem Gh:∀{l m:ZN},l.Nodup->(∀x∈l,x∈m)->l.length<=m.length
 |[],_,_,_=>S8 _
 |a::l,m,aN,h=>by
  have aw:=h a Sv;have bN:=Gh (l:=l) (m:=m.erase a) (TJ.mp aN).2 λx aq=>(W7 (λe=>(TJ.mp aN).1 (by rw[<-e];exact aq))).mpr (h x (Sy _ aq));have e:=W8 aw;have p:=V' aw;rw[SK];lia
theorem P6{j i:Nat}(e:t.slot j=.live i):t.place[i]?=some j:=by
 unfold SetTable.slot at e;dsimp only at e;split at e
 ·rename_i z
  injection e with e
  subst e;exact eq_of_beq z
 ·split at e<;>cases e
theorem P7(hd:t.dummies = #[])(bf:t.place.size<=t.mask):∃j,j<=t.mask/\t.slot j=.empty:=by
 apply TB;intro n
 have all:∀j∈SV (t.mask+1),j∈t.place.toList:=λj b8=>by
  cases q:t.slot j with
  |empty=>exact absurd ⟨j,by have:=TV.mp b8;lia,q⟩ n
  |dummy=>exact absurd q (wG hd _)
  |live i=>
   have:=P6 q;exact WE.mpr (Array.mem_of_getElem? this)
 have:=Gh (List.nodup_range (n:=t.mask+1)) all;rw[Ut,Tn]at this;lia
structure Gi (t:XK) (p:Probe):Prop where
 more:p.more<=9
 pert:p.perturb<2^64
theorem P8(h:Int):bits h<2^64:=by
 unfold bits;have h1:=TS h (show(2^64:Int)≠0 by decide);have h2:=T6 h (show(0:Int)<2^64 by decide);lia
theorem P9(t:XK)(h:Int):Gi t (t.probeStart h):=⟨Gg _ _,P8 h⟩
theorem P'(av:nD t.mask)(hd:t.dummies = #[])(bf:t.place.size<=t.mask){p:Probe}(s:Gi t p):∃met,t.probe hashAt h p=some met:=by
 obtain⟨e,ax,aj⟩:=P7 hd bf;obtain⟨k,bM,cy,gt⟩:=P3 (i:=p.i) av s.pert ax;have Qa:10*turns t.mask=(10*turns t.mask-1)+1:=by unfold turns;lia
 unfold SetTable.probe;rw[Qa];exact P4 hd k _ p bM (by rw[gt];exact aj) (by unfold turns;have:=s.more;lia) s.more
end Tab
namespace Tab
open PySem PySem.SetTable
def wH(t:XK):Nat->Probe->Probe
 |0,p=>p
 |n+1,p=>wH t n (t.advance p)
section
variable{t:XK}{hashAt:Nat->Int}{h:Int}
theorem Qb(p:Probe):(t.advance p).dummy=p.dummy:=by
 unfold SetTable.advance;split<;>rfl
theorem Gj(hd:t.dummies = #[]):∀(fuel:Nat)(p:Probe)(met:Met),SetTable.probe.go t hashAt h fuel p=some met->
  (∃j n,met=.empty j p.dummy/\n<fuel/\t.slot (wH t n p).j=.empty)\/(∃j i n,met=.candidate j i (wH t (n+1) p)/\t.slot j=.live i/\∀m,m<=n->t.slot (wH t m p).j≠.empty)
 |0,p,met,e=>by cases e
 |fuel+1,p,met,e=>by
  unfold SetTable.probe.go at e;cases q:t.slot p.j with
  |empty=>
   rw[q]at e;cases e;exact .inl ⟨_,0,rfl,Vu _,q⟩
  |dummy=>exact absurd q (wG hd _)
  |live i=>
   rw[q]at e;dsimp only at e;split at e
   ·cases e;refine .inr ⟨p.j,i,0,rfl,q,λm av=>?_⟩;have:m=0:=by lia
    subst this;show t.slot p.j≠.empty
    rw[q];exact λz=>by cases z
   ·rcases Gj hd fuel (t.advance p) met e with⟨j,n,a,b,c⟩|⟨j,oG,n,a,b,c⟩
    ·exact .inl ⟨j,n+1,by rw[a,Qb],by lia,c⟩
    ·refine .inr ⟨j,oG,n+1,a,b,λm av=>?_⟩;cases m with
     |zero=>show t.slot p.j≠.empty;rw[q];exact λz=>by cases z
     |succ m=>exact c m (by lia)
end
section
variable{prog:Uf}{w:WP}{A:Xv}{E:Tk->Tl->Prop}{s:Tl}
structure rn (t:XK) (n:Nat):Prop where
 msk:nD t.mask
 dum:t.dummies = #[]
 sz:t.place.size=n
 lo:n*5<t.mask*3
theorem rn.fits{t:XK}{n:Nat}(o:rn t n):t.fits n=true:=by
 have:=o.lo;unfold SetTable.fits SetTable.fill;rw[o.sz,o.dum];simp only[beq_self_eq_true,Bool.true_and,decide_eq_true_eq];show n+0<=_
 lia
theorem Qc{t:XK}{n:Nat}(av:nD t.mask)(hd:t.dummies = #[])(hz:t.place.size=n)(j:Nat):(t.put j).1.mask=t.mask/\(t.put j).1.dummies = #[]/\(t.put j).1.place.size=n+1/\(t.put j).1.led=t.led:=by
 unfold SetTable.put;refine⟨rfl,?_,?_,rfl⟩
 ·dsimp only;rw[hd];rfl
 ·show(SetTable.insertAt t.place _ j).size=_
  rw[<-Tn,(SetTable.insertAt_perm _ _ _).length_eq,Tn,Wf,hz]
theorem stored{h:XB}{a:TI}{o:Obj}{es:Array (Int×Tk)}{ep:Nat}{t:XK}(aB:h.get? a=some o)(hd:o.data=.set es ep t)(ji:Array (Int×Tk))(t':XK):
  (h.update a (Obj.putSet ji t')).get? a=some {o with data:=.set ji (ep+1) t' }:=by
 have:=Heap.get?_update_self (Obj.putSet ji t') aB (by rw[putSet_of ji t' hd];rfl);rw[putSet_of ji t' hd]at this;exact this
end
section
variable{prog:Uf}{w:WP}{A:Xv}{E:Tk->Tl->Prop}{s:Tl}
abbrev fresh(led:Bool):Obj:={cls:=.type "set",dict:=none,data:=.set #[] 0 (.fresh 0 0 led)}
end
end Tab
namespace L3
open PySem L2
section
variable{K:F6}{X:aJ}{pos p:Pos}{bA:Wp}
theorem j9.rng2{B:am}(lN:Int)(n:Nat):j9 K B (qH lN n) ((SV n).map λi:Nat=>D.int (lN+i)):=by
 intro H s i;rw[Sw,Ut];refine⟨λau=>au,λau=>au,λx al au ⟨ai,ap⟩=>⟨ai,?_⟩⟩;refine⟨.int (lN+i),?_,?_⟩
 ·rw[S4,Vh au];rfl
 ·rw[ap];exact .int _
def Qd(u dz:a9):cZ:=λρ k=>u ρ λd=>dz ρ λbF=>∃i j,d=.int i/\bF=.int j/\(-(2^62)<=i/\i<2^62 /\ -(2^62)<=j/\j<2^62)/\k ((SV (j-i).toNat).map λt:Nat=>D.int (i+t))
theorem Qe{a b:Wp}{u dz:a9}(aw:bn X a u)(ab:bn X b dz)(aD:e2 X "range")(av:X.mg "range"=none)(aj:TD [a,b] X.env=[(false,XJ a X.env),(false,XJ b X.env)]:=by rfl)(ix:TD [b] X.env=[(false,XJ b X.env)]:=by rfl):nh X bA (.Call (.Name "range" p) [a,b] [] pos) (Qd u dz):=by
 obtain⟨_,h1,r1⟩:=aw;obtain⟨_,h2,r2⟩:=ab;refine⟨_,K3 aD av (fi h1 (fi h2 gN (by rw[ix];rfl)) (by rw[aj,ix])) aj ix,λρ k h R W B H σ Q e q=>?_⟩;refine r1 ρ _ h R W B H σ _ e λd v bd ar z1 ai aI az=>?_;refine r2 ρ _ z1 R W bd ar σ _ ai λbF ev ca a5 aY ap aP a3=>?_;obtain⟨i,j,rfl,rfl,Qf,z⟩:=aY;exact⟨i,j,by rw[az.intV,a3.intV],Qf,q _ _ ca a5 z ap (aI.trans aP) (j9.rng2 _ _)⟩
end
section
variable{P:Uf}{w:WP}{A:Xv}{E:Tk->Tl->Prop}{s:Tl}
inductive iO (h:XB):ZX->ZR->Prop
 |nil:iO h [] []
 |cons {l:ZG} {a:TI} {ks:ZX} {us:ZR} (k:Zh (X5 P w) h l a) (r:iO h ks us):iO h (l::ks) (.ref a::us)
def jB(P:Uf)(w:WP)(h:XB)(ks:ZX)(a:TI):Prop:=∃cx us n,h.get? a=some cx/\cx.cls=.type "tuple"/\cx.data=.seq us n/\iO (P:=P) (w:=w) h ks us.toList
theorem iO.inj2{h:XB}{us:ZR}:∀{x y:ZX},iO (P:=P) (w:=w) h x us->iO (P:=P) (w:=w) h y us->x=y:=by
 intro x y p;induction p generalizing y with
 |nil=>intro q;cases q;rfl
 |cons k r bN=>
  intro q;cases q with
  |cons k' dJ=>rw[k.inj k',bN dJ]
theorem jB.ty{ks:ZX}{a:TI}(x:jB P w s.heap ks a):s.TypeIs (.ref a) "tuple":=let⟨cx,_,_,h1,h2,_⟩:=x;⟨cx,h1,h2⟩
theorem jB.inj2{h:XB}{a:TI}{x y:ZX}(p:jB P w h x a)(q:jB P w h y a):x=y:=by
 obtain⟨i',dm,bX,b7,_,c1,bw⟩:=p;obtain⟨jz,dz,dn,bW,_,c2,bF⟩:=q;rw[b7]at bW;cases bW;rw[c1]at c2;cases c2;exact bw.inj2 bF
theorem iO.keep{h h':XB}{d:TI}{cx:Obj}{es:Array Yu}{ep:Nat}(aB:h.get? d=some cx)(hd:cx.data=.dict es ep)(aj:Heap.SameBut d h h'):∀{ks:ZX}{us:ZR},iO (P:=P) (w:=w) h ks us->iO (P:=P) (w:=w) h' ks us
 |_,_,.nil=>.nil
 |_,_,.cons k r=>.cons (k.keeps aB hd aj) (iO.keep aB hd aj r)
theorem jB.keep{h h':XB}{ks:ZX}{a d:TI}{cx:Obj}{es:Array Yu}{ep:Nat}(x:jB P w h ks a)(aB:h.get? d=some cx)(hd:cx.data=.dict es ep)(aj:Heap.SameBut d h h'):jB P w h' ks a:=by
 obtain⟨i',dm,bX,b7,bc,c1,bw⟩:=x;refine⟨i',dm,bX,?_,bc,c1,bw.keep aB hd aj⟩
 have ne:a≠d:=by
  rintro rfl;rw[aB]at b7;cases b7;rw[hd]at c1;cases c1
 exact(aj.2 a ne).trans b7
def wI(ks:ZX):Nat:=(ks.map λl=>l.length+1).sum+1
theorem Qg{ks:ZX}{a:TI}{Q:Int->Tl->Prop}(bo:A.units+3<XZ)(ag:jB P w s.heap ks a)(h:Q (ol true ks) {s with toks:=s.toks+wI ks}):wpAny (UF P w) A (pyHash (.ref a)) Q E s:=by
 have dU:=ag.ty;obtain⟨cx,us,n,h1,_,aF,bj⟩:=ag;unfold pyHash
 first|unfold pyHashByItsType|skip
 first|refine SB (wpAny_cRoomFor_or (.inr (by lia)) ?_)|skip
 refine SB (Yb dU F.slot_tuple_hash.lookup ?_);show wpAny (UF P w) A (if(some (Value.builtin "tuple.__hash__")==some Value.none)=true then _ else _) Q E s
 rw[SZ (by rw[beq_builtin_none];exact S6)];refine SB (Yb dU F.slot_tuple_hash.lookup ?_);show wpAny (UF P w) A (callSpecialIfBoundUnlessNone? (.ref a) "__hash__" _ >>= _) Q E s
 refine SB (wpAny_callSpecialIfBoundUnlessNone?_slot dU F.slot_tuple_hash (W1 F.slot_tuple_hash dU F.entry_tuple_hash ?_ (F.args_tuple_hash_1 _)));show wpAny (UF P w) _ (Builtin.Tuple.tupleItemsOf (.ref a) >>= _) _ _ s
 refine SB (Yz h1 aF ?_);refine SB ?_;rw[<-Wg]
 refine Yn _
  (λrest (b:Array Int) s'=>∃done left,ks=done++left/\iO (P:=P) (w:=w) s.heap left rest/\b.toList=done.map (λl=>X8 (Builtin.Tuple.tupleHashOf (l.map X4)))/\s'={s with toks:=s.toks+(done.map λl=>l.length+1).sum})
  _ ?_ ?_ _ _ ⟨[],ks,rfl,bj,rfl,rfl⟩
 ·rintro x rest b s' ⟨done,left,rfl,ao,ab,rfl⟩;cases ao with
  | @cons l c jb _ bM r1=>
   have fU:∃kQ wJ,done++l::jb=kQ++wJ/\iO (P:=P) (w:=w) s.heap wJ rest/\(b.push (X8 (Builtin.Tuple.tupleHashOf (l.map X4)))).toList=kQ.map (λl=>X8 (Builtin.Tuple.tupleHashOf (l.map X4))) /\
     ({s with toks:=s.toks+(done.map λl=>l.length+1).sum+(l.length+1)}:Tl)={s with toks:=s.toks+(kQ.map λl=>l.length+1).sum}:=⟨done++[l],jb,by simp,r1,by simp[ab],by simp[Wh]⟩
   refine SB (Za (s:={s with toks:=s.toks+(done.map λl=>l.length+1).sum}) (by show A.units+_<XZ;lia) bM ?_)
   first
    |exact SC fU
    |exact SB (SC (SC fU))
 ·rintro b s' ⟨done,left,rfl,ao,ab,rfl⟩;cases ao;rw[SO]at h;show wpAny (UF P w) _ (retInt (Builtin.Tuple.tupleHashOf b.toList)) _ _ _
  rw[ab];refine wpAny_ret_mkInt ?_;generalize hz:Builtin.Tuple.tupleHashOf (done.map λl=>X8 (Builtin.Tuple.tupleHashOf (l.map X4)))=z;have ap:ol true done=X8 z:=by rw[<-hz];rfl
  rw[ap]at h;show wpAny (UF P w) _ (if(decide (-(2:Int)^63<=z)&&decide (z<2^63))=true then _ else _) Q E _
  unfold X8 at h;by_cases ak:(decide (-(2:Int)^63<=z)&&decide (z<2^63))=true
  ·rw[SL ak];rw[SL ak]at h;exact SC (by simpa[Wh,wI]using h)
  ·rw[SZ ak];rw[SZ ak]at h;exact SB (Yq (SC (by simpa[Wh,wI]using h)))
theorem Qh{x y:ZX}{a b:TI}{R:PySem.Fin->Tl->Prop}(bo:A.units+2<XZ)(aq:jB P w s.heap x a)(aG:jB P w s.heap y b)(h:R (.done (.ret (.bool (decide (x=y))))) s):
  wpAny (UF P w) A (Yd.«tuple.__eq__» ⟨[.ref a,.ref b],[]⟩) R E s:=by
 have dU:=aG.ty;obtain⟨i',xs,bX,b7,_,c1,bw⟩:=aq;obtain⟨jz,ys,dn,bW,_,c2,bF⟩:=aG;show wpAny (UF P w) A (isInstance (.ref b) (.type "tuple") >>= _) _ _ s
 refine SB (XO dU Yi ?_);simp only[Ul,Tq,if_false];refine SB (Yz b7 c1 (SB (Yz bW c2 (SB ?_))))
 refine Yn _
  (λrest r s'=>r.1=none/\s'=s/\∃g8 fk tG tH,rest=List.zip tG tH/\iO (P:=P) (w:=w) s.heap g8 tG/\iO (P:=P) (w:=w) s.heap fk tH/\decide (g8=fk)=decide (x=y)/\(tG.length==tH.length)=(xs.size==ys.size))
  _ ?_ ?_ _ _ ⟨rfl,rfl,x,y,xs.toList,ys.toList,rfl,bw,bF,rfl,by simp⟩
 ·rintro⟨u,v⟩ rest r s' ⟨ak,rfl,g8,fk,tG,tH,hz,r',oh,wK,gb⟩;cases r' with
  |nil=>simp at hz
  | @cons bM agl e4 Qi h1 Qj=>
   cases oh with
   |nil=>simp at hz
   | @cons cy agm dH Qk h2 Ql=>
    rw[List.zip_cons_cons,UM,UL]at hz;obtain⟨⟨rfl,rfl⟩,rfl⟩:=hz;refine SB (Zb (by lia) h1 h2 ?_);by_cases ag:bM=cy
    ·subst ag;rw[Xy rfl];simp only[Ul,Tq,if_false];refine SC ⟨rfl,rfl,e4,dH,Qi,Qk,rfl,Qj,Ql,?_,by simpa using gb⟩;rw[<-wK];by_cases ap:e4=dH<;>simp[ap]
    ·rw[decide_eq_false ag];simp only[Vv,if_true];have bf:decide (x=y)=false:=by rw[<-wK];simp[ag]
     rw[bf]at h;exact SB (SC (SC (SC h)))
 ·rintro⟨r1,r2⟩ s' ⟨ak,rfl,g8,fk,tG,tH,hz,r',oh,wK,gb⟩;simp only at ak;subst ak;refine SC ?_
  have Qm:(xs.size==ys.size)=decide (x=y):=by
   rw[<-wK,<-gb];cases r' with
   |nil=>cases oh<;>simp
   |cons _ _=>
    cases oh with
    |nil=>simp
    |cons _ _=>simp at hz
  show R (.done (.ret (.bool (xs.size==ys.size)))) s'
  rw[Qm];exact h
theorem Qn{x y:ZX}{a b:TI}{Q:Bool->Tl->Prop}(bo:A.units+3<XZ)(aq:jB P w s.heap x a)(aG:jB P w s.heap y b)(h:Q (decide (x=y)) s):wpAny (UF P w) A (eqBool (.ref a) (.ref b)) Q E s:=by
 unfold eqBool
 try with_reducible refine Xw ?_
 show wpAny (UF P w) A (if(Value.ref a==Value.ref b)=true then _ else _) Q E s
 by_cases jq:(Value.ref a==Value.ref b)=true
 ·rw[SL jq];obtain rfl:a=b:=by have:=eq_of_beq jq;injection this
  obtain rfl:=aq.inj2 aG;exact SB (Yq (SC (by simpa using h)))
 ·rw[SZ jq]
  exact SB (wpAny_richCompare_same_room (op:=.Eq) aq.ty aG.ty F.slot_tuple_eq
   (W1 F.slot_tuple_eq aq.ty F.entry_tuple_eq (Qh (by show A.units+_+2<XZ;lia) aq aG ⟨_,rfl,(λe=>nomatch e),XG h⟩) (F.args_tuple_eq_2 _ _)) (by lia))
theorem Qo(n:Nat){l:ZG}{a:TI}{Q:Bool->Tl->Prop}(ag:Zh (X5 P w) s.heap l a)(h:Q true s):wpAny (UF P w) A (Zt (n+1) (.ref a)) Q E s:=by
 have dU:=ag.typeIs;obtain⟨cx,us,m,h1,_,aF,bj⟩:=ag;unfold Zt;refine SB (Yb dU F.slot_tuple_eq.lookup ?_);show wpAny (UF P w) A (isInstance (.ref a) (.type "tuple") >>= _) _ _ s
 refine SB (XO dU Yi ?_);simp only[Ul,Tq,if_false];refine SB (wpAny_seqItems h1 aF (SB ?_));show wpAny (UF P w) A (forIn us _ _) _ _ s
 rw[<-Wg];refine Yn _ (λrest r s'=>r.1=none/\s'=s/\∀v∈rest,carriedByValue v=true) _ ?_ ?_ _ _ ⟨rfl,rfl,bj.byValue⟩
 ·rintro v rest r s' ⟨ak,rfl,vo⟩;rw[eqIsQuiet_byValue _ (vo v Sv)];refine SB (SC ?_);simp only[Ul,Tq,if_false];exact SC ⟨rfl,rfl,λu ro=>vo u (Sy _ ro)⟩
 ·rintro⟨r1,r2⟩ s' ⟨ak,rfl,_⟩;simp only at ak;subst ak;exact SC h
theorem Qp{ks:ZX}{a:TI}{Q:Bool->Tl->Prop}(ag:jB P w s.heap ks a)(h:Q true s):wpAny (UF P w) A (Zt 8 (.ref a)) Q E s:=by
 have dU:=ag.ty;obtain⟨cx,us,m,h1,_,aF,bj⟩:=ag;unfold Zt;refine SB (Yb dU F.slot_tuple_eq.lookup ?_);show wpAny (UF P w) A (isInstance (.ref a) (.type "tuple") >>= _) _ _ s
 refine SB (XO dU Yi ?_);simp only[Ul,Tq,if_false];refine SB (wpAny_seqItems h1 aF (SB ?_));show wpAny (UF P w) A (forIn us _ _) _ _ s
 rw[<-Wg];refine Yn _ (λrest r s'=>r.1=none/\s'=s/\∃left,iO (P:=P) (w:=w) s.heap left rest) _ ?_ ?_ _ _ ⟨rfl,rfl,ks,bj⟩
 ·rintro v rest r s' ⟨ak,rfl,left,ao⟩;cases ao with
  | @cons l c jb _ bM r1=>
   refine SB (Qo 6 bM ?_);simp only[Ul,Tq,if_false];exact SC ⟨rfl,rfl,jb,r1⟩
 ·rintro⟨r1,r2⟩ s' ⟨ak,rfl,_⟩;simp only at ak;subst ak;exact SC h
end
def kd(P:Uf)(w:WP):Bool->HeapKind P w ZX
 |false=>{
  is:=λh k a=>∃l,k=[l]/\Zh (X5 P w) h l a
  hash:=ol false
  draws:=λk=>(k.headD []).length+1
  room:=λA=>A.units+3<XZ
  inj:=by rintro h a x y ⟨l,rfl,p⟩ ⟨m,rfl,q⟩;rw[p.inj q]
  keeps:=λ⟨l,e,p⟩ aB hd aj=>⟨l,e,p.keeps aB hd aj⟩
  pyHash:=λbo ⟨l,e,p⟩ h=>by subst e;exact Za (by lia) p h
  eqBool:=λbo ⟨l,e,p⟩ ⟨m,aW,q⟩ h=>by subst e aW;exact Zb (by lia) p q (by simpa using h)
  quiet:=λ⟨l,e,p⟩ h=>wpAny_eqIsQuiet_tuple p h}
 |true=>{
  is:=jB P w
  hash:=ol true
  draws:=wI
  room:=λA=>A.units+3<XZ
  inj:=λp q=>p.inj2 q
  keeps:=λp aB hd aj=>p.keep aB hd aj
  pyHash:=λbo p h=>Qg bo p h
  eqBool:=λbo p q h=>Qn bo p q h
  quiet:=λp h=>Qp p h}
theorem Qq(P:Uf)(w:WP)(b:Bool)(k:ZX):(kd P w b).hash k=ol b k:=by cases b<;>rfl
theorem wL{P:Uf}{w:WP}{b:Bool}{A:Xv}(h:A.units+4<XZ):(kd P w b).room A.in1:=by
 cases b<;>exact(show A.units+1+3<XZ by lia)
def bB{α:Type}:List ZX->List α->ZX->Option α
 |k'::ks,d::ds,k=>if k'=k then some d else bB ks ds k
 |_,_,_=>none
def fH{α:Type}:List ZX->List α->ZX->α->List α
 |k'::ks,d::ds,k,x=>(if k'=k then x else d)::fH ks ds k x
 |_,ds,_,_=>ds
def eM(ks:List ZX)(k:ZX):List ZX:=if k∈ks then ks else ks++[k]
def gw{α:Type}(ks:List ZX)(ds:List α)(k:ZX)(x:α):List α:=if k∈ks then fH ks ds k x else ds++[x]
def ea:List ZX->ZS->ZR->List (ZX×TI×Tk)
 |k::ks,a::as,u::us=>(k,a,u)::ea ks as us
 |_,_,_=>[]
section
variable{P:Uf}{w:WP}{b:Bool}
theorem wM:∀(ks:List ZX)(as:ZS)(us:ZR),j6 b ks as us=(ea ks as us).map (Zf (kd P w b))
 |k::ks,a::as,u::us=>by
  rw[j6,ea,SD,<-wM ks as us];unfold Zf;rw[Qq]
 |[],_,_=>by simp[j6,ea]
 |_::_,[],_=>by simp[j6,ea]
 |_::_,_::_,[]=>by simp[j6,ea]
theorem wN:∀{ks:List ZX}{as:ZS}{us:ZR},as.length=ks.length->us.length=ks.length->(ea ks as us).map (·.1)=ks
 |[],_,_,_,_=>by simp[ea]
 |k::ks,[],_,h,_=>by simp at h
 |k::ks,_::_,[],_,h=>by simp at h
 |k::ks,a::as,u::us,h1,h2=>by
  rw[ea,SD,wN (by simpa using h1) (by simpa using h2)]
theorem tI:∀{ks:List ZX}{as:ZS}{us:ZR}(k:ZX),as.length=ks.length->us.length=ks.length->(Zu (ea ks as us) k).map (·.2)=bB ks us k
 |[],_,_,_,_,_=>by simp[ea,Zu,bB]
 |k::ks,[],_,_,h,_=>by simp at h
 |k::ks,_::_,[],_,_,h=>by simp at h
 |k'::ks,a::as,u::us,k,h1,h2=>by
  have bN:=tI (ks:=ks) (as:=as) (us:=us) k (by simpa using h1) (by simpa using h2);by_cases e:k'=k
  ·simp[ea,Zu,bB,e]
  ·rw[bB,SZ e,<-bN];simp[ea,Zu,List.find?_cons,e]
theorem oT{α:Type}:∀{ks:List ZX}{ds:List α}{k:ZX},ds.length=ks.length->(bB ks ds k=none↔k∉ks)
 |[],_,_,_=>by simp[bB]
 |k'::ks,[],_,h=>by simp at h
 |k'::ks,d::ds,k,h=>by
  have bN:=oT (ks:=ks) (ds:=ds) (k:=k) (by simpa using h);rw[bB];by_cases e:k'=k
  ·simp[e]
  ·rw[SZ e,bN,SG];constructor
   ·intro z w;rcases w with w|w
    ·exact e w.symm
    ·exact z w
   ·exact λz w=>z (.inr w)
theorem A2{α:Type}{x:α}:∀(ks:List ZX)(ds:List α)(k:ZX),(fH ks ds k x).length=ds.length
 |[],_,_=>by simp[fH]
 |k'::ks,[],_=>by simp[fH]
 |k'::ks,d::ds,k=>by rw[fH,SK,A2 ks ds k,SK]
theorem Gk:∀{ks:List ZX}{as:ZS}{us:ZR}(k:ZX)(u:Tk),(ea ks as us).map (putAt k u)=ea ks as (fH ks us k u)
 |[],_,_,_,_=>by simp[ea]
 |k::ks,[],_,_,_=>by simp[ea]
 |k::ks,_::_,[],_,_=>by simp[ea,fH]
 |k'::ks,a::as,v::us,k,u=>by
  rw[ea,SD,Gk k u,fH,ea];unfold putAt;by_cases e:k'=k
  ·rw[SL e,SL e]
  ·rw[SZ e,SZ e]
theorem Gl:∀{ks:List ZX}{as:ZS}{us:ZR}(k:ZX)(a:TI)(u:Tk),as.length=ks.length->us.length=ks.length->ea (ks++[k]) (as++[a]) (us++[u])=ea ks as us++[(k,a,u)]
 |[],[],[],_,_,_,_,_=>rfl
 |[],_::_,_,_,_,_,h,_=>by simp at h
 |[],[],_::_,_,_,_,_,h=>by simp at h
 |k::ks,[],_,_,_,_,h,_=>by simp at h
 |k::ks,_::_,[],_,_,_,_,h=>by simp at h
 |k'::ks,fv::as,eQ::us,k,a,u,h1,h2=>by
  rw[Tp,Tp,Tp,ea,Gl k a u (by simpa using h1) (by simpa using h2),ea,Tp]
theorem Gm{ks:List ZX}{as:ZS}{us:ZR}(k:ZX)(a:TI)(u:Tk)(h1:as.length=ks.length)(h2:us.length=ks.length):
  storedH (ea ks as us) k a u=ea (eM ks k) (if k∈ks then as else as++[a]) (gw ks us k u):=by
 have g:=tI (as:=as) (us:=us) k h1 h2;unfold storedH eM gw;by_cases m:k∈ks
 ·have s:(Zu (ea ks as us) k).isSome=true:=by
   have z:((Zu (ea ks as us) k).map (·.2)).isSome=true:=by
    rw[g];cases q:bB ks us k with
    |none=>exact absurd m ((oT h2).mp q)
    |some x=>rfl
   rwa [W9]at z
  rw[SL s,SL m,SL m,SL m,Gk]
 ·have s:¬(Zu (ea ks as us) k).isSome=true:=by
   have z:((Zu (ea ks as us) k).map (·.2)).isSome=false:=by
    rw[g,(oT h2).mpr m];rfl
   rw[W9]at z;rw[z];simp
  rw[SZ s,SZ m,SZ m,SZ m,Gl k a u h1 h2]
def mJ(H:am)(b:Bool)(k:ZX)(a:TI):Prop:=match b with
 |false=>∃l:ZG,k=[l]/\H a=some (.tup (l.map V.int))
 |true=>∃as:ZS,H a=some (.tup (as.map V.ref))/\Paired (λ(l:ZG) c=>H c=some (.tup (l.map V.int))) k as
theorem Gn:∀{l:ZG}{us:ZR},b5 (l.map V.int) us->ItemsAre (X5 P w) l us
 |[],_,r=>by rw[Tz]at r;cases r;exact .nil
 |i::l,_,r=>by
  rw[SD]at r;cases r with
  |cons h t=>
   obtain⟨t',e⟩:=(show ∃t,_=Value.int i t from h);subst e;exact .cons (by simp[X5,Value.isInt]) (Gn t)
theorem Go{H:am}{h:XB}{l:ZG}{a:TI}(ok:e0 P w H h)(e:H a=some (.tup (l.map V.int))):Zh (X5 P w) h l a:=by
 obtain⟨_,its,r,o,h1,h2,n,aF⟩:=(show gz P w H h a (.tup (l.map V.int))from ok a _ e);exact⟨o,its.toArray,n,h1,h2,aF,by simpa using Gn r⟩
theorem Gp{H:am}{h:XB}(ok:e0 P w H h):∀{ks:ZX}{as:ZS}{us:ZR},Paired (λ(l:ZG) c=>H c=some (.tup (l.map V.int))) ks as->b5 (as.map V.ref) us->iO (P:=P) (w:=w) h ks us
 |[],[],_,.nil,r=>by rw[Tz]at r;cases r;exact .nil
 |_::_,a::as,_,.cons p q,r=>by
  rw[SD]at r;cases r with
  |cons h t=>
   cases(show _=Value.ref a from h);exact .cons (Go ok p) (Gp ok q t)
theorem mJ.is{H:am}{h:XB}{k:ZX}{a:TI}(x:mJ H b k a)(ok:e0 P w H h):(kd P w b).is h k a:=by
 cases b with
 |false=>
  obtain⟨l,rfl,e⟩:=x;exact⟨l,rfl,Go ok e⟩
 |true=>
  obtain⟨as,e,p⟩:=x;obtain⟨_,its,r,o,h1,h2,n,aF⟩:=(show gz P w H h a (.tup (as.map V.ref))from ok a _ e);exact⟨o,its.toArray,n,h1,h2,aF,by simpa using Gp ok p r⟩
structure mK (H:am) (b:Bool) (a:TI) (ep:Nat) (ks:List ZX) (as:ZS) (vs:ZJ):Prop where
 h:H a=some (g9 b a ep ks as vs)
 k:Paired (mJ H b) ks as
theorem Gq{H:am}{h:XB}(ok:e0 P w H h):∀{ks:List ZX}{as:ZS}{us:ZR},Paired (mJ H b) ks as->∀x∈ea ks as us,(kd P w b).is h x.1 x.2.1
 |_,_,[],p,x,m=>by cases p<;>simp[ea]at m
 |[],[],_::_,.nil,x,m=>by simp[ea]at m
 |k::ks,a::as,u::us,.cons p q,x,m=>by
  rw[ea]at m;rcases SG.mp m with e|m
  ·subst e;exact p.is ok
  ·exact Gq ok q x m
theorem mK.raw{H:am}{h:XB}{a:TI}{ep:Nat}{ks:List ZX}{as:ZS}{vs:ZJ}(d:mK H b a ep ks as vs)(ok:e0 P w H h):
  ks.length<=TT/\as.length=ks.length/\vs.length=ks.length/\(a==XM)=false/\∃us,b5 vs us/\h.DictOfH (kd P w b) a (ea ks as us)/\ks.Nodup:=by
 obtain⟨⟨h1,h2,aF,bj,us,c5,o,es,fX,q8,lR,tJ,A3⟩,_⟩:=(show gz P w H h a (g9 b a ep ks as vs)from ok a _ d.h);have tK:=c5.length;exact⟨h1,h2,aF,bj,us,c5,⟨o,es,ep,fX,q8,lR,by rw[tJ,wM (P:=P) (w:=w)],Gq ok d.k,by rw[wN h2 (by lia)];exact A3⟩,A3⟩
theorem tL:∀{ks:List ZX}{vs:ZJ}{us:ZR}(k:ZX),b5 vs us->n4 (bB ks vs k) (bB ks us k)
 |[],_,_,_,_=>by simp[bB];trivial
 |_::_,_,_,_,.nil=>by simp[bB];trivial
 |k'::ks,_,_,k,.cons r t=>by
  rw[bB,bB];by_cases e:k'=k
  ·rw[SL e,SL e];exact r
  ·rw[SZ e,SZ e];exact tL k t
theorem Gr{v:V}{u:Tk}(r:RelV v u):∀{ks:List ZX}{vs:ZJ}{us:ZR}(k:ZX),b5 vs us->b5 (fH ks vs k v) (fH ks us k u)
 |[],_,_,_,t=>by simp only[fH];exact t
 |_::_,_,_,_,.nil=>by simp only[fH];exact .nil
 |k'::ks,_,_,k,.cons q t=>by
  rw[fH,fH];refine .cons ?_ (Gr r k t);by_cases e:k'=k
  ·rw[SL e,SL e];exact r
  ·rw[SZ e,SZ e];exact q
theorem Qr{v:V}{u:Tk}(r:RelV v u){ks:List ZX}{vs:ZJ}{us:ZR}(k:ZX)(t:b5 vs us):b5 (gw ks vs k v) (gw ks us k u):=by
 unfold gw;by_cases m:k∈ks
 ·rw[SL m,SL m];exact Gr r k t
 ·rw[SZ m,SZ m];exact Paired.snoc t r
end
theorem Qs{o:Option V}{u:Option Tk}{d:V}{d':Tk}(r:n4 o u)(fm:RelV d d'):RelV (o.getD d) (u.getD d'):=by
 cases o<;>cases u<;>first|exact fm|exact r|exact r.elim
def Qt(b:Bool):fh:=λx y H Q=>∃a c ep ks as vs k v,x=.ref a/\y=.ref c/\mK H b a ep ks as vs/\mJ H b k c/\bB ks vs k=some v/\Q v H
def Gs(H:am)(a:TI):Prop:=∃b ep ks as vs,mK H b a ep ks as vs
def Qu(b:Bool):bK:=λ_ H Q=>∀p,H p=none->Q (.ref p) (upd H p (g9 b p 0 [] [] []))
def Qv(b:Bool)(oU ty wO:bK):bK:=λσ H Q=>oU σ H λx ar=>∃a,x=.ref a/\Gs ar a/\ty σ ar λy a5=>wO σ a5 λz cI=>∃c ep ks as vs k,y=.ref c/\mK cI b a ep ks as vs/\mJ cI b k c/\Q ((bB ks vs k).getD z) cI
def Qw(b:Bool)(oU ty sm:bK):gA:=λD σ H=>sm σ H λv ar=>oU σ ar λx a5=>ty σ a5 λy cI=>∃a c ep ks as vs k,x=.ref a/\y=.ref c/\mK cI b a ep ks as vs/\mJ cI b k c/\ks.length<TT /\
 ∀g1,D.nx σ (upd cI a (g9 b a g1 (eM ks k) (if k∈ks then as else as++[c]) (gw ks vs k v)))
section
variable{X:aJ}{b:Bool}{pos eF dr cr:Pos}{o e f i value:Wp}{oU ty wO sm:bK}
theorem mK.typ{H:am}{s:Tl}{pins:ZW}{σ:St}{a:TI}{ep:Nat}{ks:List ZX}{as:ZS}{vs:ZJ}(I:Inv X pins σ H s)(d:mK H b a ep ks as vs):
  s.TypeIs (.ref a) "dict"/\∀c,Value.ref a=.ref c->∃cx,s.heap.get? c=some cx/\cx.dict=none:=by
 obtain⟨_,_,_,_,us,_,h6,_⟩:=d.raw I.hok;refine⟨h6.typeIs,λc q=>?_⟩;cases q;obtain⟨cx,_,_,h1,h2,_⟩:=h6;exact⟨cx,h1,h2.2.1⟩
theorem Qx(bo:X.A.units+4<XZ):qO X (Qt b):=by
 intro AW sl pins s σ H x y v u Q I bt cA h aj;obtain⟨a,c,ep,ks,as,vs,k,z,rfl,rfl,d,oV,l,q⟩:=h;cases bt;cases(show u=Value.ref c from cA);obtain⟨h1,h2,aF,bj,us,c5,h6,fX⟩:=d.raw I.hok;have tK:=c5.length;have g:=tI (as:=as) (us:=us) k h2 (by lia);obtain⟨eQ,ro,iw⟩:=n4.some_of (v:=z) (o:=bB ks us k) (by rw[<-l];exact tL k c5);rw[ro]at g;obtain⟨p,ae,lK⟩:=Option.map_eq_some_iff.mp g
 exact PyProof.Rows.subscriptTail_builtinR (x:=eQ) h6.typeIs PySem.F.slot_dict_getitem.lookup
  (wpAny_getItem_heap (Q:=λr s'=>r=eQ/\hB X pins σ Q r s') (wL bo) (oV.is I.hok) h6 ae ⟨lK,by rw[lK];exact⟨z,H,I.tok _,iw,q⟩⟩) aj
theorem Qy(bo:X.A.units+4<XZ)(aB:b6 X o oU)(ax:b6 X e ty)(bf:b6 X f wO)(g4:Xx o "get" X.env (XJ o X.env)=XJ o X.env:=by rfl)(j5:((XC cr (TD [e,f] X.env)).all (λx => !x.1)&&(YL cr (X6 [] X.env)).all (λx=>x.1.isSome)
   && decide (([e,f]:ZT).length+([]:ZV).length+(if([]:ZV).isEmpty then 0 else 1)<30))=true:=by rfl)(g5:(dr.endLine==cr.line)=true:=by rfl)(A4:XC cr (TD [e,f] X.env)=[(false,XJ e X.env),(false,XJ f X.env)]:=by rfl):
  b6 X (.Call (.Attribute o "get" dr) [e,f] [] cr) (Qv b oU ty wO):=by
 intro pins s σ H Q I h;refine wpAny_Call_method g4 j5 g5 Wi W' PySem.F.type_dict_get (cc (aB pins s σ H _ I h) λu az ⟨x,ar,a2,bt,a,ex,Qz,aO⟩=>?_);obtain⟨bc,QA,ks1,as1,kR,d⟩:=Qz;subst ex;obtain rfl:u=Value.ref a:=bt;obtain⟨ew,cP⟩:=d.typ a2;refine⟨ew,cP,?_⟩;rw[A4]
 refine Calls.callWith_builtin rfl (Calls.evalArgs_plain (Calls.spliced_cons (cc (ax pins az σ ar _ a2 aO) λiv a3 ⟨y,a5,dM,cA,bz⟩=>
  Calls.spliced_cons (cc (bf pins a3 σ a5 _ dM bz) λQB bR ⟨z,cI,dc,i3,c,ep,ks,as,vs,k,gn,kS,oV,et⟩=>Calls.spliced_nil ?_))))
 subst gn;obtain rfl:iv=Value.ref c:=cA;obtain⟨h1,h2,aF,bj,us,c5,h6,fX⟩:=kS.raw dc.hok;have tK:=c5.length;refine call_meetsIn W' h6.typeIs PySem.F.entry_dict_get (PySem.F.args_dict_get_3 _ _ _) (meetsH_dict_get_default (kd X.prog X.w b) a c bj QB) ⟨wL bo,k,ea ks as us,oV.is dc.hok,h6,?_⟩;rw[tI k h2 (by lia)];exact⟨_,cI,dc.tok _,Qs (tL k c5) i3,et⟩
theorem Gu{ks:List ZX}{k:ZX}(h:ks.Nodup):(eM ks k).Nodup:=by
 unfold eM;by_cases m:k∈ks
 ·rw[SL m];exact h
 ·rw[SZ m];refine Wj.mpr ⟨h,by simp,λx aq y aG=>?_⟩;rw[SM.mp aG];rintro rfl;exact m aq
theorem QC(bo:X.A.units+4<XZ)(aB:b6 X o oU)(au:b6 X i ty)(aH:b6 X value sm)(aj:XE value (some (.Subscript o i eF)) pos.line X.env=pure false:=by rfl):
  jk X (.Assign [.Subscript o i eF] value pos) (Qw b oU ty sm):=by
 intro pins s σ H D I h;refine wpAny_Assign_Subscript (cc (aH pins s σ H _ I h) λr az ⟨v,ar,a2,cq,aO⟩=>cc (aB pins az σ ar _ a2 aO) λu a3 ⟨x,a5,dM,bt,bz⟩=>cc (au pins a3 σ a5 _ dM bz) λiv bR ⟨y,cI,dc,cA,a,c,QD,ks,as,vs,k,ex,gn,kS,oV,ao,et⟩=>?_) aj;subst ex gn;obtain rfl:u=Value.ref a:=bt;obtain rfl:iv=Value.ref c:=cA;obtain⟨h1,h2,aF,bj,us,c5,h6,fX⟩:=kS.raw dc.hok;have tK:=c5.length
 have le:(ea ks as us).length=ks.length:=by
  have:=TW S1 (wN (as:=as) (us:=us) h2 (by lia))
  rwa [Sw]at this
 refine wpAny_setItem_heap (wL bo) (oV.is dc.hok) h6 (λh' kQ d5=>?_) (by lia);rw[Gm k c r h2 (by lia)]at kQ
 have lk:(eM ks k).length<=TT:=by
  unfold eM;split
  ·exact h1
  ·rw[SH,TK];lia
 have p3:(if k∈ks then as else as++[c]).length=(eM ks k).length:=by
  unfold eM;split
  ·exact h2
  ·rw[SH,SH,h2];rfl
 have lv:(gw ks vs k v).length=(eM ks k).length:=by
  unfold eM gw;split
  ·rw[A2];exact aF
  ·rw[SH,SH,aF];rfl
 obtain⟨cx,es,ep,i',jz,wj,jV,wP,QF⟩:=kQ
 have A5:Inv X pins σ (upd cI a (g9 b a ep (eM ks k) (if k∈ks then as else as++[c]) (gw ks vs k v))) {bR with heap:=h',toks:=bR.toks+(kd X.prog X.w b).draws k}:=by
  refine dc.write (x:=a) (e:=a) (by rw[kS.h];trivial) (.inl rfl) (λc' q ab z=>(d5.2 c' ab).trans z) ⟨cx,i'⟩ ?_;refine⟨⟨lk,p3,lv,bj,_,Qr cq k c5,cx,es,i',jz,wj,?_,Gu fX⟩,⟨cx,i'⟩,?_⟩
  ·rw[jV,wM (P:=X.prog) (w:=X.w)]
  ·rintro aI aP ⟨z1,aY,eI,eJ,jr,lA,tM,ji,tN,tO⟩ ag;exact⟨z1,aY,eI,eJ,jr,lA,tM,ji,ag _ tN,tO⟩
 exact⟨σ,_,A5,et ep⟩
theorem Gv:b6 X (.Dict [] [] pos) (Qu b):=λpins s σ H Q I h=>by
 have gH:XM<s.heap.objs.size:=Wk (by decide) ((I.mod.glob.keeps I.bk).lt:WF<s.heap.objs.size);refine wpAny_Dict_empty ⟨.ref s.heap.objs.size,_,I.laid (a:=s.heap.objs.size) (o:=g9 b s.heap.objs.size 0 [] [] []) (t':=s.toks) (λ_ _ q=>Heap.get?_push_of_some _ q) (Sx _) ?_,rfl,h _ (I.hok.fresh (Sx _))⟩;refine⟨⟨S8 _,rfl,rfl,beq_eq_false_iff_ne.mpr (S9 (S3 gH)),[],.nil,_,#[],Heap.get?_push_size _ rfl,⟨rfl,rfl,rfl⟩,rfl,rfl,List.nodup_nil⟩,⟨_,Heap.get?_push_size _ rfl⟩,?_⟩;rintro aI aP ⟨z1,aY,eI,eJ,jr,lA,tM,ji,tN,tO⟩ ag;exact⟨z1,aY,eI,eJ,jr,lA,tM,ji,ag _ tN,tO⟩
end
def nE(h:XB)(d:TI)(es:Array Yu)(ep:Nat):Prop:=∃o,h.get? d=some o/\o.ExactDict/\o.data=.dict es ep
section
variable{prog:Uf}{w:WP}{A:Xv}{E:Tk->Tl->Prop}{s:Tl}{d it:TI}{i ep:Nat}{es:Array Yu}
theorem QG{Q:Tk->Tl->Prop}(hd:(d==XM)=false)(av:nE s.heap d es ep)(ir:Q (.ref s.heap.objs.size) {s with heap:=s.heap.push {cls:=.type "dict_keyiterator",data:=.fields #[.ref d,.int 0 0,.int es.size 0,.int ep 0]} }):wpAny (UF prog w) A (Zx (.ref d)) Q E s:=by
 obtain⟨o,aB,hc,ax⟩:=av;have ty:s.TypeIs (.ref d) "dict":=⟨o,aB,hc.1⟩;have no:¬(d==XM)=true:=λz=>by rw[hd]at z;cases z
 refine Ye ty F.slot_dict_iter (W1 F.slot_dict_iter ty F.entry_dict_iter ?_ (F.args_dict_iter_1 _));unfold Yd.«dict.__iter__» Builtin.Dict.dictSlotNone;refine SB (SB (Yj ty (show wpAny _ _ (pure (Value.ref d)) _ _ s from SC ?_)));show wpAny _ _ (Builtin.Dict.showsAll d >>= _) _ _ s
 unfold Builtin.Dict.showsAll;rw[SZ no];refine SB (SC (SB (X1 aB ax (SB (Yv aB ax (SB (T0 (SC ?_))))))));exact⟨_,rfl,"dict_keyiterator",_,⟨_,Heap.get?_push_size _ rfl,rfl⟩,F.slot_dict_keyiterator_next.lookup,by simpa[YD]using ir⟩
theorem Gw{Q:Option Tk->Tl->Prop}(dE:A.handled=none)(hit:s.heap.IsKeyIter it d i es.size ep)(av:nE s.heap d es ep)(more:∀e h',es[i]?=some e->h'.IsKeyIter it d (i+1) es.size ep->Heap.SameBut it s.heap h'->Q (some e.key) {s with heap:=h' })(done:∀h',es[i]?=none->Heap.ExtBut it s.heap h'->Q none {s with heap:=h' }):wpAny (UF prog w) A (Yx (.ref it)) Q E s:=by
 have ty:=hit.typeIs;obtain⟨A6,au,rp,ic⟩:=hit;obtain⟨o,aB,hc,ax⟩:=av;have own:Builtin.Dict_items.ownsTuple "dict_keyiterator"=false:=by decide
 have dB:¬((i:Int)<0):=by lia
 have none_:¬(Value.ref d==Value.none)=true:=S6;unfold Yx;refine SB (Zc (XT (name:="__next__") ty F.slot_dict_keyiterator_next (W1 F.slot_dict_keyiterator_next ty F.entry_dict_keyiterator_next ?_ (F.args_dict_keyiterator_next_1 _))));refine SB (SC (SB (SB ?_)))
 first|refine SB (XV ty (SC (SB (YA au ic ?_))))|refine SB (X9 ty (SC (SB (YA au ic ?_))))
 rw[own];show wpAny _ _ (if(Value.ref d==Value.none)=true then _ else _) _ _ s
 rw[SZ none_];refine SB (SC (SB (X1 aB ax ?_)));rw[SZ (by simp)];refine SB (SC (SB (Yv aB ax ?_)));rw[SZ (by simp)];refine SC ?_;simp only[dB,if_false,Vl];cases q:es[i]? with
 |some e=>
  let h1:=s.heap.update it (Obj.mapFields (·.setIfInBounds 1 (YD ((i:Int)+1))))
  have bM:h1.IsKeyIter it d (i+1) es.size ep:=by
   refine⟨_,Heap.get?_update_self _ au ?_,(Obj.cls_mapFields ..).trans rp,?_⟩
   ·exact Obj.isFreed_of_fields (Obj.data_mapFields ic _)
   ·rw[Obj.data_mapFields ic];simp[YD]
  refine SB ?_
  first|refine SB (XV ty (SC (SB (Yk ty ?_))))|refine SB (X9 ty (SC (SB (Yk ty ?_))))
  show wpAny _ _ (ZE (.ref it) 1 (YD ((i:Int)+1)) >>= _) _ _ s
  refine SB (XY au ic (by simp) (SB (Xw (SB (Yk (s:={s with heap:=h1}) bM.typeIs ?_)))));exact SC (SC ⟨_,rfl,SC (more e h1 q bM (Heap.SameBut.update ..))⟩)
 |none=>
  refine SB ?_
  first|refine SB (XV ty (SC ?_))|refine SB (X9 ty (SC ?_))
  show wpAny _ _ (ZE (.ref it) 0 .none >>= _) _ _ s
  refine SB (XY au ic (by simp) ?_);show wpAny _ _ (ZF (.type "StopIteration") [] >>= _) _ _ _
  unfold ZF newTuple;refine SB (SB (T0 (SB (m:=X2 _ _) (Y3 (a:=Value.none) (by first|rfl|(unfold X2;rfl)) (T0 ?_ (by size_fits)))) (by size_fits)));unfold raiseNew;refine SB (Zd ?_);rw[show A.in1.handled=none from dE];refine SB (SC (Zv ?_));refine SB (XO (T:="StopIteration") (b:=true) (by exact⟨_,Heap.get?_push_size _ rfl,rfl⟩) YY ?_);exact SC (done _ q (((Heap.SameBut.update ..).extBut.push _).push _))
theorem QH{k v:Tk}{hsh:Int}{Q:Option Tk->Tl->Prop}(dE:A.handled=none)(hit:s.heap.IsKeyIter it d i es.size ep)(av:nE s.heap d es ep)(aq:es[i]?=some ⟨hsh,k,v⟩)(ir:∀h',h'.IsKeyIter it d (i+1) es.size ep->Heap.SameBut it s.heap h'->Q (some k) {s with heap:=h' }):wpAny (UF prog w) A (Yx (.ref it)) Q E s:=
 Gw dE hit av (λe h' q a b=>by rw[aq]at q;cases q;exact ir h' a b) λh' q _=>by rw[aq]at q;cases q
theorem QI{Q:Option Tk->Tl->Prop}(dE:A.handled=none)(hit:s.heap.IsKeyIter it d i es.size ep)(av:nE s.heap d es ep)(aq:es.size<=i)(ir:∀h',Heap.ExtBut it s.heap h'->Q none {s with heap:=h' }):wpAny (UF prog w) A (Yx (.ref it)) Q E s:=
 Gw dE hit av (λe h' q _ _=>by rw[Vw aq]at q;cases q) λh' _ dY=>ir h' dY
end
def Gx(b:Bool)(a:TI)(ep:Nat)(ks:List ZX)(as:ZS)(vs:ZJ):hX where
 go:=λi H=>H a=some (g9 b a ep ks as vs)/\i<ks.length
 yld:=λi H x al=>al=H/\∃c,as[i]?=some c/\x=.ref c
 stop:=λi H=>H a=some (g9 b a ep ks as vs)/\ks.length<=i
theorem Gy{b:Bool}:∀{ks:List ZX}{as:ZS}{us:ZR},as.length=ks.length->us.length=ks.length->(j6 b ks as us).length=ks.length
 |[],_,_,_,_=>by simp[j6]
 |k::ks,[],_,h,_=>by simp at h
 |k::ks,_::_,[],_,h=>by simp at h
 |k::ks,a::as,u::us,h1,h2=>by rw[j6,SK,SK,Gy (by simpa using h1) (by simpa using h2)]
theorem A7{b:Bool}:∀{ks:List ZX}{as:ZS}{us:ZR}{i:Nat},as.length=ks.length->us.length=ks.length->i<ks.length->∃k c u,as[i]?=some c/\us[i]?=some u/\(j6 b ks as us)[i]?=some ⟨ol b k,.ref c,u⟩
 |[],_,_,i,_,_,h=>by simp at h
 |k::ks,[],_,_,h,_,_=>by simp at h
 |k::ks,_::_,[],_,_,h,_=>by simp at h
 |k::ks,a::as,u::us,0,_,_,_=>⟨k,a,u,rfl,rfl,rfl⟩
 |k::ks,a::as,u::us,i+1,h1,h2,aF=>by
  obtain⟨k',c,eQ,z1,aY,eI⟩:=A7 (b:=b) (ks:=ks) (as:=as) (us:=us) (i:=i) (by simpa using h1) (by simpa using h2) (by simpa using aF);exact⟨k',c,eQ,by simpa using z1,by simpa using aY,by simpa[j6]using eI⟩
section
variable{P:Uf}{w:WP}{K:F6}{bA:Wp}{b:Bool}{a:TI}{ep:Nat}{ks:List ZX}{as:ZS}{vs:ZJ}
theorem rq{H:am}{h:XB}(ok:e0 P w H h)(e:H a=some (g9 b a ep ks as vs)):∃us es,nE h a es ep/\es.toList=j6 b ks as us/\as.length=ks.length/\us.length=ks.length/\es.size=ks.length/\b5 vs us/\(a==XM)=false:=by
 obtain⟨⟨h1,h2,aF,bj,us,c5,o,es,fX,q8,lR,tJ,A3⟩,_⟩:=(show gz P w H h a (g9 b a ep ks as vs)from ok a _ e);have tK:=c5.length;exact⟨us,es,⟨o,fX,q8,lR⟩,tJ,h2,by lia,by rw[<-Tn,tJ,Gy h2 (by lia)],c5,bj⟩
theorem QJ(it:TI):oa P w K bA (Gx b a ep ks as vs) [it] it (λi h=>h.IsKeyIter it a i ks.length ep) where
 mem:=by simp
 obj:=λi h st c hc=>by
  have e:c=it:=by simpa using hc
  subst e;obtain⟨o,e,_,d⟩:=st;exact⟨o,e,λv z=>by rw[d]at z;cases z⟩
 keep:=λi h h' st k=>st.at λo e=>k it (by simp) o e
 item:=by
  intro X fE hw eG hc i pins s σ H E I bf st aD;subst fE hw eG;obtain⟨ay,au⟩:=aD;obtain⟨us,es,fm,gu,a6,a7,df,_⟩:=rq I.hok ay;obtain⟨k,c,u,Gz,wQ,ax⟩:=A7 (b:=b) a6 a7 au;obtain⟨e9,a4,a',bP,dL,eR⟩:=bf it (by simp);refine QH (I.ok.hd hc) (by rw[df];exact st) fm (hsh:=ol b k) (k:=.ref c) (v:=u) (by rw[<-UW,gu];exact ax) λh' iV d5=>?_;rw[df]at iV;have a2:Inv X pins σ H {s with heap:=h' }:=I.turned (t':=s.toks) (λc' o ab e=>(d5.2 c' ab).trans e) e9 a4 bP dL eR;obtain⟨o,e,c2,d⟩:=id iV;exact⟨.ref c,rfl,se (s:={s with heap:=h' }) e c2 d (by decide) ⟨.ref c,H,a2,rfl,⟨rfl,c,Gz,rfl⟩,iV,λb' ab=>(bf b' ab).1⟩⟩
 done:=by
  intro X fE hw eG hc i pins s σ H E I bf st aD;subst fE hw eG;obtain⟨ay,au⟩:=aD;obtain⟨us,es,fm,gu,a6,a7,df,_⟩:=rq I.hok ay;obtain⟨e9,a4,a',bP,dL,eR⟩:=bf it (by simp);exact QI (I.ok.hd hc) (by rw[df];exact st) fm (by lia) λh' dY=>⟨rfl,I.turned (t':=s.toks) (λc' o ab e=>dY c' o ab e) e9 a4 bP dL eR⟩
 self:=λ_ _ _ _ _ st h=>wpAny_pyIter_keyiter st h
end
def QK(f3:bK):e8:=λσ H R=>f3 σ H λx ar=>∃b a ep ks as vs,x=.ref a/\ar a=some (g9 b a ep ks as vs)/\R (Gx b a ep ks as vs) ar
section
variable{X:aJ}{bA:Wp}
theorem QL{l:Wp}{f3:bK}(ao:b6 X l f3):jH X bA l (QK f3):=by
 intro pins s σ H R I h;refine cc (ao pins s σ H _ I h) λv az ⟨x,ar,a2,r1,aO⟩=>?_;obtain⟨b,a,ep,ks,as,vs,e,ay,q⟩:=aO;subst e;cases r1;obtain⟨us,es,fm,gu,a6,a7,df,_,aj⟩:=rq a2.hok ay;refine QG aj fm ?_;refine⟨az.heap.objs.size,[az.heap.objs.size],_,_,ar,rfl,a2.kept (t':=az.toks) λb o e=>Heap.get?_push_of_some _ e,QJ _,⟨_,Heap.get?_push_size _ rfl,rfl,by rw[df];rfl⟩,λc hc=>?_,q⟩;have e:c=az.heap.objs.size:=by simpa using hc
 subst e;exact a2.fpOk (Sx _) (a2.hok.fresh (Sx _))
end
section
variable{K:F6}{B H:am}
theorem A8:∀{vs:ZJ}{l:ZG},Reps K B vs (l.map D.int)->vs=l.map V.int
 |_,[],r=>by cases r;rfl
 |_,i::l,r=>by
  rw[SD]at r;cases r with
  |cons h t=>rw[h.intV,A8 t];rfl
theorem GA(s:cF B H):∀{vs:ZJ}{k:ZX},Reps K B vs (k.map λks=>.tup (ks.map D.int))->∃as:ZS,vs=as.map V.ref/\Paired (λ(l:ZG) c=>H c=some (.tup (l.map V.int))) k as
 |_,[],r=>by cases r;exact⟨[],rfl,.nil⟩
 |_,l::k,r=>by
  rw[SD]at r;cases r with
  |cons h t=>
   obtain⟨c,us,rfl,hc,rs⟩:=h.tupV;rw[A8 rs]at hc;obtain⟨as,rfl,p⟩:=GA s t;exact⟨c::as,rfl,.cons (s _ _ hc) p⟩
theorem wR{b:Bool}{k:ZX}{v:V}(r:b3 K B v (i0 b k)):∃c,v=.ref c:=by
 unfold i0 at r;split at r
 ·obtain⟨c,_,rfl,_⟩:=r.tupV;exact⟨c,rfl⟩
 ·obtain⟨c,_,rfl,_⟩:=r.tupV;exact⟨c,rfl⟩
theorem tP{b:Bool}{k:ZX}{c:TI}(s:cF B H)(ab:b=false->∃l,k=[l])(r:b3 K B (.ref c) (i0 b k)):mJ H b k c:=by
 cases b with
 |false=>
  obtain⟨l,rfl⟩:=ab rfl;obtain⟨c',us,e,hc,rs⟩:=(show b3 K B (.ref c) (.tup (l.map D.int))from r).tupV;cases e;rw[A8 rs]at hc;exact⟨l,rfl,s _ _ hc⟩
 |true=>
  obtain⟨c',us,e,hc,rs⟩:=(show b3 K B (.ref c) (.tup (k.map λks=>.tup (ks.map D.int)))from r).tupV;cases e;obtain⟨as,rfl,p⟩:=GA s rs;exact⟨as,s _ _ hc,p⟩
theorem oW{b:Bool}(s:cF B H):∀{ks:List ZX}{as:ZS},(b=false->∀k∈ks,∃l,k=[l])->Reps K B (as.map V.ref) (ks.map (i0 b))->Paired (mJ H b) ks as
 |[],[],_,_=>.nil
 |[],_::_,_,r=>by cases r
 |_::_,[],_,r=>by cases r
 |k::ks,a::as,ab,r=>by
  rw[SD,SD]at r;cases r with
  |cons h t=>exact .cons (tP s (λz=>ab z k Sv) h) (oW s (λz k' m=>ab z k' (Sy _ m)) t)
theorem GB{b:Bool}{z:V}{GC:D}(i3:b3 K B z GC)(k:ZX):∀{ks:List ZX}{vs:ZJ}{ds:ZK},Reps K B vs ds->b3 K B ((bB ks vs k).getD z) ((bB ks ds k).getD GC)
 |[],_,_,_=>by simp only[bB,U'];exact i3
 |_::_,_,_,.nil=>by simp only[bB,U'];exact i3
 |k'::ks,_,_,.cons h t=>by
  rw[bB,bB];by_cases e:k'=k
  ·rw[SL e,SL e];exact h
  ·rw[SZ e,SZ e];exact GB (b:=b) i3 k t
theorem GD{d:D}(k:ZX):∀{ks:List ZX}{vs:ZJ}{ds:ZK},Reps K B vs ds->bB ks ds k=some d->∃v,bB ks vs k=some v/\b3 K B v d
 |[],_,_,_,e=>by simp[bB]at e
 |_::_,_,_,.nil,e=>by simp[bB]at e
 |k'::ks,_,_,.cons h t,e=>by
  rw[bB]at e⊢;by_cases z:k'=k
  ·rw[SL z]at e⊢;cases e;exact⟨_,rfl,h⟩
  ·rw[SZ z]at e⊢;exact GD k t e
theorem GE{v:V}{d:D}(r:b3 K B v d)(k:ZX):∀{ks:List ZX}{vs:ZJ}{ds:ZK},Reps K B vs ds->Reps K B (fH ks vs k v) (fH ks ds k d)
 |[],_,_,t=>by simp only[fH];exact t
 |_::_,_,_,.nil=>by simp only[fH];exact .nil
 |k'::ks,_,_,.cons h t=>by
  rw[fH,fH];refine .cons ?_ (GE r k t);by_cases e:k'=k
  ·rw[SL e,SL e];exact r
  ·rw[SZ e,SZ e];exact h
theorem QM{v:V}{d:D}(r:b3 K B v d)(k:ZX){ks:List ZX}{vs:ZJ}{ds:ZK}(t:Reps K B vs ds):Reps K B (gw ks vs k v) (gw ks ds k d):=by
 unfold gw;by_cases m:k∈ks
 ·rw[SL m,SL m];exact GE r k t
 ·rw[SZ m,SZ m];exact t.append (.cons r .nil)
theorem QN{b:Bool}{c:TI}{k:ZX}{ks:List ZX}{as:ZS}(r:b3 K B (.ref c) (i0 b k))(t:Reps K B (as.map V.ref) (ks.map (i0 b))):
  Reps K B ((if k∈ks then as else as++[c]).map V.ref) ((eM ks k).map (i0 b)):=by
 unfold eM;by_cases m:k∈ks
 ·rw[SL m,SL m];exact t
 ·rw[SZ m,SZ m,SI,SI];exact t.append (.cons r .nil)
end
def tQ(b:Bool)(k:ZX):Prop:=b=false->∃l,k=[l]
theorem QO{b:Bool}{k:ZX}{ks:List ZX}(h:b=false->∀k∈ks,∃l,k=[l])(ag:tQ b k):b=false->∀k'∈eM ks k,∃l,k'=[l]:=λz k' m=>by
 unfold eM at m;split at m
 ·exact h z k' m
 ·rcases SR.mp m with m|m
  ·exact h z k' m
  ·rw[SM.mp m];exact ag z
def QP(b:Bool)(i:Nat):cX:=λU ρ=>U.nx (ρ.set i (.own (.d b none [] [])))
def QQ(b:Bool)(n:Nat)(iP lS:a9):a9:=λρ k=>∃t ks ds,ρ[n]?=some (.own (.d b t ks ds))/\iP ρ λy=>lS ρ λz=>∃aL,y=i0 b aL/\tQ b aL/\k ((bB ks ds aL).getD z)
def QR(b:Bool)(n:Nat)(iP wS:a9):cX:=λU ρ=>wS ρ λd=>∃t ks ds,ρ[n]?=some (.own (.d b t ks ds))/\iP ρ λy=>∃aL,y=i0 b aL/\tQ b aL/\ks.length<TT/\U.nx (ρ.set n (.own (.d b t (eM ks aL) (gw ks ds aL d))))
def QS(b:Bool)(lH iP:a9):a9:=λρ k=>lH ρ λx=>iP ρ λy=>∃ks ds aL d,x=.dct b ks ds/\y=i0 b aL/\tQ b aL/\bB ks ds aL=some d/\k d
def QT(u:a9):cZ:=λρ k=>u ρ λx=>∃b ks ds,x=.dct b ks ds/\k (ks.map (i0 b))
def QU(i:Nat)(s:cX):cX:=λU ρ=>∃b t ks ds,ρ[i]?=some (.own (.d b t ks ds))/\s U (ρ.set i (.val (.dct b ks ds)))
section
variable{X:aJ}{b:Bool}{n:Nat}{x:Str}{px pos eF dr cr tR:Pos}{o e f i value:Wp}{lH iP lS wS:a9}{bA:Wp}
theorem QV{i:Nat}(bi:X.N.Nodup)(au:X.N[i]?=some x)(aq:Loc X.env.scope x)(aj:XE (.Dict [] [] tR) (some (.Name x eF)) pos.line X.env=pure false:=by rfl)(bf:X.fn x=true\/X.env.scope.names.lookup x=some .local:=by first|exact .inl rfl|exact .inr rfl|assumption):
  fM X (.Assign [.Name x eF] (.Dict [] [] tR) pos) (QP b i):=by
 refine⟨_,pv bi au aq (Gv (b:=b)) aj bf,λU ρ h R W B H σ D e s=>?_⟩;intro p ae;obtain⟨a4,a',bP⟩:=e.toWd.fresh ae;exact s.nx _ _ B _ h ((e.allocH ae _).setC i a4 bP ⟨0,[],[],(λ_ z=>nomatch z),eP,.nil,λ_ _ z=>by simp at z,.nil⟩ λj _ m=>e.notNew ae m rfl) (bV.refl _ _)
theorem GF(n:Nat)(bo:X.A.units+4<XZ)(ax:bn X e iP)(bf:bn X f lS)(bi:X.N[n]?=some x:=by rfl)(aH:iq X.env.scope x:=by first|exact SF rfl|exact SP (SF rfl)|exact SP (SP rfl))(hd:(x==("__debug__":Str))=false:=by decide)(ec:(x==("__classdict__":Str))=false:=by decide)(g4:Xx (.Name x px) "get" X.env (XJ (.Name x px) X.env)=XJ (.Name x px) X.env:=by rfl)(j5:((XC cr (TD [e,f] X.env)).all (λx => !x.1)&&(YL cr (X6 [] X.env)).all (λx=>x.1.isSome)
   && decide (([e,f]:ZT).length+([]:ZV).length+(if([]:ZV).isEmpty then 0 else 1)<30))=true:=by rfl)(g5:(dr.endLine==cr.line)=true:=by rfl)(A4:XC cr (TD [e,f] X.env)=[(false,XJ e X.env),(false,XJ f X.env)]:=by rfl):
  bn X (.Call (.Attribute (.Name x px) "get" dr) [e,f] [] cr) (QQ b n iP lS):=by
 obtain⟨_,h1,r1⟩:=ax;obtain⟨_,h2,r2⟩:=bf;refine⟨_,Qy (b:=b) bo (mc bi aH hd ec) h1 h2 g4 j5 g5 A4,λρ k z R W B H σ Q fl q=>?_⟩;obtain⟨t,ks,ds,aB,z⟩:=z;obtain⟨a,ai,ap,br,ep,as,vs,_,cW,f5,kD,kE⟩:=fl.ownC aB;refine⟨_,ai,a,rfl,⟨b,ep,ks,as,vs,cW,oW fl.bh kD f5⟩,?_⟩;refine r1 ρ _ z R W B H σ _ fl λy v bd ar z1 a4 aI az=>?_;refine r2 ρ _ z1 R W bd ar σ _ a4 λdH ev ca a5 aY a' aP a3=>?_;obtain⟨aL,rfl,ag,ay⟩:=aY;obtain⟨c,rfl⟩:=wR az;obtain⟨fv,c1,c2,c3,g1,tS,my,_,c4,bE,bG,mL⟩:=a'.ownC aB;rw[ai]at c1;cases c1;exact⟨c,g1,ks,tS,my,aL,rfl,⟨c4,oW a'.bh bG bE⟩,tP a'.bh ag (az.mono aP.s),q _ _ ca a5 ay a' (aI.trans aP) (GB (b:=b) a3 aL mL)⟩
theorem QW(b:Bool)(bo:X.A.units+4<XZ)(aB:bn X o lH)(ax:bn X e iP)(aj:vl e):bn X (.Subscript o e pos) (QS b lH iP):=by
 obtain⟨_,h1,r1⟩:=aB;obtain⟨_,h2,r2⟩:=ax;refine⟨_,mh (Qx (b:=b) bo) h1 h2 aj,λρ k z R W B H σ Q fl q=>?_⟩;refine r1 ρ _ z R W B H σ _ fl λx v bd ar z1 a4 aI az=>?_;refine r2 ρ _ z1 R W bd ar σ _ a4 λy ev ca a5 aY a' aP a3=>?_;obtain⟨ks,ds,aL,d,rfl,rfl,ag,ao,ay⟩:=aY;obtain⟨c,rfl⟩:=wR a3;cases az.mono aP.s with
 | @dct a _ ep _ as vs _ eH tT qP fV=>
  obtain⟨v,aH,cq⟩:=GD aL fV ao;exact⟨a,c,ep,ks,as,vs,aL,v,rfl,rfl,⟨a'.bh _ _ eH,oW a'.bh qP tT⟩,tP a'.bh ag a3,aH,q _ _ ca a5 ay a' (aI.trans aP) cq⟩
theorem GG(n:Nat)(bo:X.A.units+4<XZ)(ax:bn X e iP)(aH:bn X value wS)(bi:X.N[n]?=some x:=by rfl)(QX:iq X.env.scope x:=by first|exact SF rfl|exact SP (SF rfl)|exact SP (SP rfl))(hd:(x==("__debug__":Str))=false:=by decide)(ec:(x==("__classdict__":Str))=false:=by decide)(aj:XE value (some (.Subscript (.Name x px) e eF)) pos.line X.env=pure false:=by rfl):
  fM X (.Assign [.Subscript (.Name x px) e eF] value pos) (QR b n iP wS):=by
 obtain⟨_,h1,r1⟩:=aH;obtain⟨_,h2,r2⟩:=ax;refine⟨_,QC (b:=b) bo (mc bi QX hd ec) h2 h1 aj,λU ρ z R W B H σ D fl dQ=>?_⟩;refine r1 ρ _ z R W B H σ _ fl λd v bd ar z1 a4 aI az=>?_;obtain⟨t,ks,ds,aB,z1⟩:=z1;obtain⟨a,ai,ap,br,_⟩:=a4.ownC aB;refine⟨_,ai,?_⟩;refine r2 ρ _ z1 R W bd ar σ _ a4 λy ev ca a5 aY a' aP a3=>?_;obtain⟨aL,rfl,ag,ao,ay⟩:=aY;obtain⟨c,rfl⟩:=wR a3;obtain⟨fv,c1,c2,c3,ep,as,vs,h9,c4,bE,bG,mL⟩:=a'.ownC aB;rw[ai]at c1;cases c1;refine⟨a,c,ep,ks,as,vs,aL,rfl,rfl,⟨c4,oW a'.bh bG bE⟩,tP a'.bh ag a3,ao,λg1=>?_⟩;exact dQ.nx _ _ ca _ ay (a'.writeC ai aB ⟨g1,_,_,h9,eP,QN a3 bE,QO bG ag,QM (az.mono aP.s) aL mL⟩) (aI.trans aP)
theorem QY{st:ZU}{s:cX}(i:Nat)(h:hp X st s):hp X st (QU i s):=by
 obtain⟨_,h1,r1⟩:=h;refine⟨_,h1,λU ρ h R W B H σ D e dQ=>?_⟩;obtain⟨b,t,ks,ds,aB,z⟩:=h;obtain⟨aC,aW,g⟩:=e.fzD aB;exact r1 U _ z R W aC H σ D aW (dQ.grow g)
theorem QZ{l:Wp}(ao:bn X l lH):nh X bA l (QT lH):=by
 obtain⟨_,h1,r1⟩:=ao;refine⟨_,QL h1,λρ k h R W B H σ Q e q=>?_⟩;refine r1 ρ _ h R W B H σ _ e λd v bd ar z1 ai aI az=>?_;obtain⟨b,ks,ds,rfl,z⟩:=z1;cases az with
 | @dct a _ ep _ as vs _ eH tT qP fV=>
  refine⟨b,a,ep,ks,as,vs,rfl,ai.bh _ _ eH,q _ _ bd ar z ai aI λal mM i=>⟨λau=>⟨mM _ _ eH,by simpa using au⟩,λau=>⟨mM _ _ eH,by simpa using au⟩,λx a5 au y=>?_⟩⟩;obtain⟨rfl,c,hc,rfl⟩:=y;obtain⟨d,hd,fm⟩:=tT.getV (i:=i) (v:=.ref c) (by rw[S4,hc];rfl);exact⟨rfl,d,hd,fm⟩
end
theorem rr{A:Xv}{k:Nat}(ak:fw k A):A.units+4<XZ:=Xa (Nat.add_le_add_left (by decide:4<=64) _) ak.units
abbrev tU:=Bool->List ZX->ZK->ZK->(List ZX->ZK->Prop)->Prop
def wT(K:F6)(n:Nat)(F:tU):hm:=λvs H Q _=>∃(B:am)(a:TI)(us:ZJ)(xs:ZK)(b:Bool)(ks:List ZX)(ds:ZK)(k:List ZX->ZK->Prop),
 vs=.ref a::us/\F b ks ds xs k/\xs.length+1=n/\cF B H/\B a=none/\kB K B H a (.d b none ks ds)/\Reps K B us xs /\
 ∀jb ds' aC al,k jb ds'->(∀c o,c≠a->H c=some o->al c=some o)->cF aC al->cF B aC->(∀c o,aC c=some o->B c=some o\/c=a\/H c=none)->aC a=none->kB K aC al a (.d b none jb ds')->Q .non al
def Q0(m n:Nat)(F:tU)(w:cZ):cX:=λU ρ=>∃b t ks ds,ρ[m]?=some (.own (.d b t ks ds))/\w ρ λxs=>xs.length+1=n/\F b ks ds xs λjb ds'=>U.nx (ρ.set m (.own (.d b t jb ds')))
section
variable{K:F6}
theorem Q1{P:Uf}{w:WP}{mg:Str->Option Tk}{base:XB}{x:Str}{st:XA}{N ps:ZQ}{lv n:Nat}{F:tU}(sG:cU K mg x st ps)(S:cM N ps (cd st))(aN:ps.length=n)(lm:∀(f:TI) (cdv:Tk) (A:Xv) (outer:List Vg) (s:Tl) (H:am) (E:gj),fw lv (A.deeper (V2 x (cd st) s.heap.objs.size f cdv))->∃u,hp (mf kA P w K mg base N x (cd st) f cdv A outer s H E).nox (kz st) u/\∀b t ks ds xs k,xs.length+1=n->F b ks ds xs k->u {nx:=λρ=>∃jb ds',ρ[0]?=some (.own (.d b t jb ds'))/\k jb ds',rt:=λ_=>False} (.own (.d b t ks ds)::xs.map aQ.val++S0 (N.length-n) .no)):cf P w K mg base x ps (lv+1) (wT K n F):=by
 refine sG.ok S (λvs H Q E h=>?_) (λf cdv A outer s H vs Q E ak h=>?_)
 ·obtain⟨B,a,us,xs,b,ks,ds,k,rfl,_,ao,_,_,_,rs,_⟩:=h;rw[SK,rs.length,ao,aN]
 ·obtain⟨B,a,us,xs,b,ks,ds,k,rfl,kH,ao,dI,ab,hc,rs,q⟩:=h;obtain⟨u,⟨t,bQ,rt⟩,bo⟩:=lm f cdv A outer s H E ak;obtain⟨ep,as,vs,_,c4,bE,bG,mL⟩:=hc;have gb:=rs.length;have A9:(λc=>if c=a then none else H c:am) a=none:=SL rfl;have wU:∀c,c≠a->(λc=>if c=a then none else H c:am) c=H c:=λc z=>SZ z;generalize mA:(λc=>if c=a then none else H c:am)=R at A9 wU;have agn:(xs.map aQ.val).length=us.length:=by rw[Sw];lia
  have Q2:(L2.start N (.ref a::us))[0]?=some (some (.ref a)):=rfl
  have atS:∀i v,us[i]?=some v->(L2.start N (.ref a::us))[i+1]?=some (some v):=λi v h=>by
   have lt:i<us.length:=by
    by_cases z:i<us.length
    ·exact z
    ·rw[Th (by lia)]at h;cases h
   unfold L2.start;rw[TC (by rw[Sw,SK];lia),S4,Xb,h];rfl
  have look:∀(i:Nat)(aL:aQ),(aQ.own (.d b (some a) ks ds)::xs.map aQ.val++S0 (N.length-n) aQ.no)[i]?=some aL->(i=0/\aL=.own (.d b (some a) ks ds))\/(∃j d,i=j+1/\xs[j]?=some d/\aL=.val d)\/aL=.no:=λi aL h=>by
   cases i with
   |zero=>exact .inl ⟨rfl,(SU h).symm⟩
   |succ j=>
    rw[Tp,Xb]at h;by_cases z:j<(xs.map aQ.val).length
    ·rw[TC z,S4]at h;cases y:xs[j]? with
     |none=>rw[y]at h;cases h
     |some d=>rw[y]at h;exact .inr (.inl ⟨j,d,rfl,y,(SU h).symm⟩)
    ·rw[To (by lia),Ur]at h;split at h
     ·exact .inr (.inr (SU h).symm)
     ·cases h
  have fl:a0 K R (λ_=>False) B H (L2.start N (.ref a::us)) (.own (.d b (some a) ks ds)::xs.map aQ.val++S0 (N.length-n) .no):=by
   refine⟨⟨λc o h _=>?_,dI,λ_ z=>z.elim,λ_ z=>z.elim,λ_ z=>z.elim⟩,?_,λi aL h=>?_,λi j c bm bJ=>?_⟩
   ·by_cases z:c=a
    ·subst z;rw[A9]at h;cases h
    ·rw[wU c z]at h;exact h
   ·unfold L2.start;simp only[SH,Sw,SK,T9];lia
   ·rcases look i aL h with⟨rfl,rfl⟩|⟨j,d,rfl,hd,rfl⟩|rfl
    ·exact⟨a,by rw[Q2];rfl,A9,ab,ep,as,vs,λc z=>by cases z;rfl,c4,bE,bG,mL⟩
    ·obtain⟨v,aH,cq⟩:=rs.get hd;exact⟨v,by rw[atS j v aH];rfl,cq⟩
    ·trivial
   ·have one:∀i,cQ (L2.start N (.ref a::us)) (.own (.d b (some a) ks ds)::xs.map aQ.val++S0 (N.length-n) .no) i c->i=0:=λi m=>by
     rcases m with⟨_,z|⟨_,z⟩⟩|⟨_,z,_⟩
     rotate_right
     ·rcases look i _ z with⟨rfl,y⟩|⟨j,d,rfl,hd,y⟩|y<;>cases y
     ·rcases look i _ z with⟨rfl,y⟩|⟨j,d,rfl,hd,y⟩|y<;>cases y
     ·rcases look i _ z with⟨rfl,y⟩|⟨j,d,rfl,hd,y⟩|y
      ·rfl
      ·cases y
      ·cases y
    rw[one i bm,one j bJ]
  refine⟨t,bQ,rt _ _ (bo b (some a) ks ds xs k ao kH) R (λ_=>False) B H (L2.start N (.ref a::us)) _ fl ⟨λρ σ aC al h e g=>?_,λ_ _ _ _ h=>h.elim,λ_ _ _ _ h=>h.elim,λ_ _ _ _ h=>h.elim⟩⟩;obtain⟨jb,ds',aB,ag⟩:=h;obtain⟨fv,bw,bF,gC,g1,tS,my,ia,lL,tV,A',Ba⟩:=e.ownC aB;have dN:a=fv:=ia a rfl;subst dN;refine q jb ds' aC al ag (λc o hc eS=>e.fr c o (by rw[wU c hc];exact eS) λz=>z) e.bh g.s (λc o z=>?_) gC ⟨g1,tS,my,(λ_ z=>nomatch z),lL,tV,A',Ba⟩;rcases g.n c o z with y|y
  ·exact .inl y
  ·by_cases aY:c=a
   ·exact .inr (.inl aY)
   ·rw[wU c aY]at y;exact .inr (.inr y)
end
section
variable{X:aJ}{m n:Nat}{x:Str}{px p pos kj:Pos}{e:Wp}{es:ZT}{F:tU}{w:cZ}
theorem GH{f:Str}{ps:ZQ}{j lv:Nat}(m:Nat)(c:cf X.prog X.w X.K X.mg X.base f ps j (wT X.K n F))(ak:fw lv X.A)(aD:e2 X f)(aw:pL X es w)(bi:X.N[m]?=some x:=by rfl)(aH:iq X.env.scope x:=by first|exact SF rfl|exact SP (SF rfl)|exact SP (SP rfl))(hd:(x==("__debug__":Str))=false:=by decide)(ec:(x==("__classdict__":Str))=false:=by decide)(hjk:j<=lv:=by decide)(iy:(f==("__debug__":Str))=false:=by decide)(ax:TD (.Name x px::es) X.env=(false,XJ (.Name x px) X.env)::TD es X.env:=by rfl)(fj:(XC pos (TD es X.env)).any (·.1)=false:=by rfl)(aj:XE (.Call (.Name f p) (.Name x px::es) [] pos) none kj.line X.env=pure false:=by rfl):
  fM X (.Expr (.Call (.Name f p) (.Name x px::es) [] pos) kj) (Q0 m n F w):=by
 obtain⟨_,h1,r1⟩:=aw;refine⟨_,u3 (vt c ak aD (fi (mc bi aH hd ec) h1 ax) hjk iy ax fj) aj,λU ρ h R W B H σ D fl dQ=>?_⟩;obtain⟨b,t,ks,ds,aB,h⟩:=h;obtain⟨a,ai,ap,br,_⟩:=fl.ownC aB;refine⟨_,ai,?_⟩;refine r1 ρ _ h R W B H σ _ fl λxs vs bd ar z1 a4 aI az=>?_;obtain⟨ru,z1⟩:=z1;obtain⟨fv,c1,c2,c3,ep,as,us,h9,c4,bE,bG,mL⟩:=a4.ownC aB;rw[ai]at c1;cases c1;show wT X.K n F ((.ref a::vs)++[]) ar _ _
 rw[SO];refine⟨bd,a,vs,xs,b,ks,ds,_,rfl,z1,ru,a4.bh,c3,⟨ep,as,us,(λ_ z=>nomatch z),c4,bE,bG,mL⟩,az,λjb ds' aC al ag fr dI a3 pJ Q3 Q4=>?_⟩;have GI:¬W a:=λz=>a4.wr a z c2;have bL:cQ σ ρ m a:=.inl ⟨ai,.inr ⟨_,aB⟩⟩
 have mr:∀c,c≠a->bd c=none->ar c≠none->aC c=none:=λc hc h1 h2=>by
  cases z:aC c with
  |none=>rfl
  |some o=>
   rcases pJ c o z with y|y|y
   ·rw[h1]at y;cases y
   ·exact absurd y hc
   ·exact absurd y h2
 have e9:a0 X.K R W bd ar (σ.set m (some .non)) (ρ.set m .no):=a4.set m trivial λ_ _ z=>by rcases z with z|⟨_,z⟩<;>cases z
 have wd:Wd R W aC al:=by
  refine⟨λc o h f4=>fr c o (by rintro rfl;rw[c2]at h;cases h) (a4.fr c o h f4),dI,λc z=>?_,λc z=>?_,a4.wr⟩
  ·obtain⟨bx,dH,rv,_⟩:=a4.wh c z;exact mr c (by rintro rfl;exact GI z) (a4.wb c z) (by rw[rv];simp)
  ·obtain⟨bx,dH,rv,nk⟩:=a4.wh c z;exact⟨bx,dH,fr c _ (by rintro rfl;exact GI z) rv,nk⟩
 have keep:∀c,c≠a->ar c≠none->al c=ar c:=λc hc aN=>by
  cases z:ar c with
  |none=>exact absurd z aN
  |some o=>exact fr c o hc z
 have a':a0 X.K R W aC al (σ.set m (some .non)) (ρ.set m .no):=e9.move wd a3 λi c gK=>by
  have ne:c≠a:=by
   rintro rfl;obtain⟨nt,gK⟩:=qU gK (by simp) (by simp) rfl;exact nt (a4.sep i m c gK bL)
  obtain⟨bx,dH⟩:=e9.mutOk gK;refine⟨mr c ne bx dH,λz=>?_,λ_=>keep c ne dH⟩;obtain⟨c',w1,_,_,Q5⟩:=e9.bagAt z;rw[qT gK z]at w1;cases w1;obtain⟨bC,e4,nF,kT⟩:=Q5;exact⟨bC,e4,by rw[keep c ne dH];exact nF,kT⟩
 obtain⟨g1,tS,jr,_,lL,tV,A',Ba⟩:=Q4
 have bP:=a'.setC m (c:=.d b t jb ds') c2 Q3 ⟨g1,tS,jr,h9,lL,tV,A',Ba⟩ λj b8 gK=>by
  obtain⟨nt,gK⟩:=qU gK (by simp) (by simp) rfl;exact nt (a4.sep j m a gK bL)
 rw[Ua,Ua]at bP
 have q:σ.set m (some (.ref a))=σ:=by
  apply Uj;intro j;by_cases z:m=j
  ·subst z
   have lt:m<σ.length:=by
    by_cases z:m<σ.length
    ·exact z
    ·rw[Th (by lia)]at ai;cases ai
   rw[TX lt,ai]
  ·rw[TP z]
 rw[q]at bP;refine dQ.nx _ _ aC al ag bP (aI.trans ⟨a3,λc o z=>?_⟩);rcases pJ c o z with y|y|y
 ·exact .inl y
 ·subst y;exact .inr c2
 ·exact .inr (a4.toWd.fresh y).1
end
end L3
namespace Cut
open PySem L2 L3
abbrev kk(ps:ZH):D:=.lst (ps.map aS)
theorem GJ{α β:Type}{f:α->β}{L:List α}{i:Int}(h1 : -(L.length:Int)<=i)(h2:i<L.length):∃x∈L,ej (L.map f) i=some (f x):=by
 have e:∃j,L2.ixN (L.map f).length i=some j/\j<L.length:=by
  unfold L2.ixN;rw[Sw];by_cases h0:0<=i
  ·rw[SL h0,SL h2];exact⟨_,rfl,by lia⟩
  ·rw[SZ h0,SL h1];exact⟨_,rfl,by lia⟩
 obtain⟨j,e,b8⟩:=e;refine⟨L[j],Vn _,?_⟩;unfold ej;rw[e];simp[b8]
theorem GK{α:Type}{f:α->D}{u:a9}{fs:ZL}{Pp:α->Prop}:∀{ds:ZK}{v0:aQ}{k:ZK->Prop},(∀d∈ds,∀k:D->Prop,(∀p,Pp p->k (f p))->u (.val d::fs) k)->(∀ps:List α,ps.length=ds.length->(∀p∈ps,Pp p)->k (ps.map f))->he (e3 0) ka u ds (v0::fs) k
 |[],_,_,_,ag=>ag [] rfl (λ_ h=>by simp at h)
 |d::ds,v0,k,h,ag=>by
  show(if true=true then u (.val d::fs) λy=>he (e3 0) ka u ds (.val d::fs) λys=>k (y::ys)else he (e3 0) ka u ds (.val d::fs) k)
  rw[SL rfl];refine h d Sv _ λp ae=>GK (λd' hd=>h d' (Sy _ hd)) λps ao Q6=>?_
  exact ag (p::ps) (by simp[ao]) λq ay=>by
   rcases SG.mp ay with rfl|ay
   ·exact ae
   ·exact Q6 q ay
end Cut
namespace Cut
open PySem L2 L3
open PySem.Builtin.Int (intBits)
abbrev GL:=ZZ
end Cut
namespace Cut
open PySem L2 L3
def fp(p:aa):List Int:=[p.1,p.2.1,p.2.2]
def kl(l:aa):Int:=(Tg (Tg l.1.natAbs l.2.1.natAbs) l.2.2.natAbs:Nat)
def lT(l:aa):Prop:=l.1<0\/(l.1=0/\l.2.1<0)
instance(l:aa):Decidable (lT l):=by unfold lT;infer_instance
def gU(l:aa):Int:=if lT l then -kl l else kl l
def hQ(l:aa):aa:=(l.1/gU l,l.2.1/gU l,l.2.2/gU l)
theorem GM(l:aa):kl l∣l.1/\kl l∣l.2.1/\kl l∣l.2.2:=by
 unfold kl;refine⟨?_,?_,?_⟩
 ·exact UH.mpr (Ve (UY _ _) (UY _ _))
 ·exact UH.mpr (Ve (UY _ _) (Vd _ _))
 ·exact UH.mpr (Vd _ _)
theorem tW(l:aa):gU l∣l.1/\gU l∣l.2.1/\gU l∣l.2.2:=by
 obtain⟨a,b,c⟩:=GM l;unfold gU;split
 ·exact⟨UD.mpr a,UD.mpr b,UD.mpr c⟩
 ·exact⟨a,b,c⟩
theorem Q7(c:Int)(l:aa):kl (sc c l)=c.natAbs*kl l:=by
 unfold kl sc;dsimp only;rw[TZ,TZ,TZ,Vf,Vf,Int.natCast_mul]
theorem Q8{c:Int}{l:aa}(hc:c≠0)(ao:l.1≠0\/l.2.1≠0):gU (sc c l)=c*gU l:=by
 have down:lT (sc c l)↔(if 0<c then lT l else ¬lT l):=by
  unfold lT sc;dsimp only;split
  ·rename_i h
   constructor
   ·rintro(z|⟨z,y⟩)
    ·exact .inl (by
      by_cases q:l.1<0
      ·exact q
      ·have:=Tw (Tu h) (show 0<=l.1 by lia)
       lia)
    ·have z:=(Tv.mp z).resolve_left hc;refine .inr ⟨z,?_⟩;by_cases q:l.2.1<0
     ·exact q
     ·have:=Tw (Tu h) (show 0<=l.2.1 by lia);lia
   ·rintro(z|⟨z,y⟩)
    ·exact .inl (SX h z)
    ·exact .inr ⟨by rw[z,SW],SX h y⟩
  ·rename_i h
   have h:c<0:=by lia
   constructor
   ·rintro(z|⟨z,y⟩) (q|⟨q,r⟩)
    ·have:=Uw h q;lia
    ·rw[q,SW]at z;lia
    ·have z:=(Tv.mp z).resolve_left hc;lia
    ·have:=Uw h r;lia
   ·intro z;have z1:¬l.1<0:=λq=>z (.inl q);by_cases q:l.1=0
    ·refine .inr ⟨by rw[q,SW],Uc h ?_⟩;have aY:¬l.2.1<0:=λr=>z (.inr ⟨q,r⟩);rcases ao with w|w
     ·exact absurd q w
     ·lia
    ·exact .inl (Uc h (by lia))
 unfold gU;rw[Q7];by_cases h:0<c
 ·rw[SL h]at down;have e:((c.natAbs:Nat):Int)=c:=by lia
  by_cases d:lT l
  ·rw[SL (down.mpr d),SL d,e,Vx]
  ·rw[SZ (λz=>d (down.mp z)),SZ d,e]
 ·rw[SZ h]at down;have e:((c.natAbs:Nat):Int) = -c:=by lia
  by_cases d:lT l
  ·rw[SZ (λz=>down.mp z d),SL d,e,Vx,UG]
  ·rw[SL (down.mpr d),SZ d,e,UG,Int.neg_neg]
theorem wV{l:aa}(ao:l.1≠0\/l.2.1≠0):gU l≠0:=by
 have g:kl l≠0:=λz=>by
  obtain⟨a,b,_⟩:=GM l;rw[z]at a b;have a:=Int.zero_dvd.mp a;have b:=Int.zero_dvd.mp b;rcases ao with h|h<;>contradiction
 unfold gU;split
 ·lia
 ·exact g
theorem Bb{c x g:Int}(hc:c≠0)(aD:g≠0)(h:g∣x):c*x/(c*g)=x/g:=by
 obtain⟨k,rfl⟩:=h;rw[Xc _ aD,<-Uh,Xc _ (SS hc aD)]
theorem oX{c:Int}{l:aa}(hc:c≠0)(ao:l.1≠0\/l.2.1≠0):hQ (sc c l)=hQ l:=by
 obtain⟨a,b,d⟩:=tW l;have g:=wV ao;unfold hQ;rw[Q8 hc ao];unfold sc;dsimp only;rw[Bb hc g a,Bb hc g b,Bb hc g d]
def eC(p q:aa):aa:=hQ (crs p q)
def en(p q x:aa):List ZG:=[fp (eC p q),fp x]
def ie(φ:ZX->Int)(p q:aa):Rat:=((φ (en p q p):Int):Rat)-((φ (en p q q):Int):Rat)
def dC(φ:ZX->Int)(ps:ZH):Rat:=eB (ie φ) (dw ps)
def fY(φ:ZX->Int)(rs:ZZ):Rat:=(rs.map (dC φ)).sum
def fZ(rs qs:ZZ):Prop:=∀φ,fY φ rs=fY φ qs
theorem Q9{l w:aa}(ao:l.1≠0\/l.2.1≠0)(hw:w.1≠0\/w.2.1≠0)(h:crs l w=(0,0,0)):hQ l=hQ w:=by
 have h1:l.2.1*w.2.2-l.2.2*w.2.1=0:=TW (·.1) h;have h2:l.2.2*w.1-l.1*w.2.2=0:=TW (·.2.1) h;have aF:l.1*w.2.1-l.2.1*w.1=0:=TW (·.2.2) h;by_cases a:l.1=0
 ·have b:l.2.1≠0:=ao.resolve_left λz=>z a
  have w1:w.1=0:=by
   rw[a]at aF;have:l.2.1*w.1=0:=by lia
   exact(Tv.mp this).resolve_left b
  have eg:w.2.1≠0:=hw.resolve_left λz=>z w1;have e:sc w.2.1 l=sc l.2.1 w:=eW (by show w.2.1*l.1=l.2.1*w.1;rw[a,w1];simp) (by show w.2.1*l.2.1=l.2.1*w.2.1;rw[S2]) (by show w.2.1*l.2.2=l.2.1*w.2.2;grind);rw[<-oX eg ao,e,oX b hw]
 ·have w1:w.1≠0:=λz=>by
   rw[z]at aF;have:l.1*w.2.1=0:=by lia
   have:=(Tv.mp this).resolve_left a;rcases hw with q|q
   ·exact q z
   ·exact q this
  have e:sc w.1 l=sc l.1 w:=eW (by show w.1*l.1=l.1*w.1;rw[S2]) (by show w.1*l.2.1=l.1*w.2.1;grind) (by show w.1*l.2.2=l.1*w.2.2;grind);rw[<-oX w1 ao,e,oX a hw]
theorem kU{u v:aa}(bo:aT u)(aH:aT v)(h:u≠v):(crs u v).1≠0\/(crs u v).2.1≠0:=by
 by_cases a:(crs u v).1=0
 ·right;intro b;have a:u.2.1*v.2.2-u.2.2*v.2.1=0:=a;have b:u.2.2*v.1-u.1*v.2.2=0:=b;obtain⟨ai,ap,br⟩:=vx bo aH (by grind) (by grind);exact h (eW ai ap br)
 ·exact .inl a
theorem Q'{l u v:aa}(bo:ln l u=0)(aH:ln l v=0):crs l (crs u v)=(0,0,0):=by
 unfold ln at bo aH;refine eW ?_ ?_ ?_<;>simp only[crs]<;>grind
theorem Ra{l u v:aa}(ao:l.1≠0\/l.2.1≠0)(bo:aT u)(aH:aT v)(h:u≠v)(sU:ln l u=0)(lv:ln l v=0):eC u v=hQ l:=(Q9 ao (kU bo aH h) (Q' sU lv)).symm
theorem Rb(u v:aa):crs v u=sc (-1) (crs u v):=by refine eW ?_ ?_ ?_<;>simp only[crs,sc]<;>grind
theorem Rc{u v:aa}(bo:aT u)(aH:aT v):eC v u=eC u v:=by
 by_cases h:u=v
 ·rw[h]
 ·unfold eC;rw[Rb,oX (by decide) (kU bo aH h)]
theorem Bc{s b:Int}{x w:aa}(aj:s≠0)(ab:b≠0)(hw:w.1≠0\/w.2.1≠0)(e:sc s x=sc b w):hQ x=hQ w:=by
 obtain⟨ai,ap,_⟩:=Ai e
 have aq:x.1≠0\/x.2.1≠0:=by
  rcases hw with h|h
  ·left;intro z;rw[z,SW]at ai;exact SS ab h ai.symm
  ·right;intro z;rw[z,SW]at ap;exact SS ab h ap.symm
 rw[<-oX aj aq,e,oX ab hw]
theorem Bd{p q m:aa}(ae:aT p)(ay:aT q)(h:p≠q)(b:i9 p q m):eC p m=eC p q/\eC m q=eC p q:=by
 obtain⟨s,a,c,eT,f6,h9,e⟩:=b;obtain⟨ai,ap,br⟩:s*m.1=a*p.1+c*q.1/\s*m.2.1=a*p.2.1+c*q.2.1/\s*m.2.2=a*p.2.2+c*q.2.2:=⟨TW (·.1) e,TW (·.2.1) e,TW (·.2.2) e⟩;have w:=kU ae ay h;constructor
 ·refine Bc (s:=s) (b:=c) (by lia) (by lia) w ?_;refine eW ?_ ?_ ?_<;>simp only[crs,sc]<;>grind
 ·refine Bc (s:=s) (b:=a) (by lia) (by lia) w ?_;refine eW ?_ ?_ ?_<;>simp only[crs,sc]<;>grind
section
variable(φ:ZX->Int)(l:aa)
def p4(x:aa):Rat:=((φ [fp (hQ l),fp x]:Int):Rat)
def hR(p q:aa):Rat:=ie φ p q-(p4 φ l p-p4 φ l q)
end
theorem GN{T1 T2:aa->aa->Rat}:∀(es:List (aa×aa)),eB (λp q=>T1 p q-T2 p q) es=eB T1 es-eB T2 es
 |[]=>by rw[iK,iK,iK];grind
 |e::es=>by rw[ht,ht,ht,GN es];grind
theorem wW{T1 T2:aa->aa->Rat}:∀{es:List (aa×aa)},(∀e∈es,T1 e.1 e.2=T2 e.1 e.2)->eB T1 es=eB T2 es
 |[],_=>rfl
 |e::es,h=>by rw[ht,ht,h e Sv,wW λe ax=>h e (Sy _ ax)]
theorem Rd(h:aa->Rat)(ps:ZH):eB (λp q=>h p-h q) (dw ps)=0:=by
 cases ps with
 |nil=>rfl
 |cons a r=>
  have e:cG (cG (0,0,1) (a::r)) (a::r)=cG (0,0,1) (a::r):=rk (by simp);unfold dw;rw[F5,e];grind
theorem Be(φ:ZX->Int)(l:aa)(ps:ZH):eB (hR φ l) (dw ps)=dC φ ps:=by
 unfold hR dC;rw[GN (T1:=ie φ) (T2:=λp q=>p4 φ l p-p4 φ l q),Rd];grind
theorem Bf(φ:ZX->Int)(u:aa):ie φ u u=0:=by unfold ie;grind
theorem wX{φ:ZX->Int}{l u v:aa}(ao:l.1≠0\/l.2.1≠0)(bo:aT u)(aH:aT v)(sU:ln l u=0)(lv:ln l v=0):hR φ l u v=0:=by
 by_cases h:u=v
 ·subst h;unfold hR;rw[Bf];grind
 ·unfold hR ie p4 en;rw[Ra ao bo aH h sU lv];grind
section
variable{l o:aa}{ps:ZH}
theorem GO(φ:ZX->Int)(ao:l.1≠0\/l.2.1≠0)(aB:aT o)(lo:ln l o=0)(aH:∀p∈ps,aT p):dC φ (cR (ln l) (aU l) ps)=eB (iL (ln l) (aU l) (hR φ l)) (dw ps):=by
 have tX:∀p q,aT p->aT q->ln l p*ln l q<0->aT (aU l p q):=λp q ae ay c=>by
  rw[<-kh ae ay];exact gg (ki ae ay c)
 have hz:∀u v,aT u->aT v->ln l u=0->ln l v=0->hR φ l u v=0:=λu v bo aH a b=>wX ao bo aH a b;unfold cR;split
 ·rw[<-Be φ l];exact F2 (V:=aT) hz (λp q ae ay c=>⟨tX p q ae ay c,rl c⟩) o aB lo aH
 ·rename_i n
  rw[AX (V:=aT) hz λe ax=>?_]
  ·rfl
  ·obtain⟨h1,h2⟩:=kP ax;have a:¬0<ln l e.1:=λz=>n ⟨_,h1,z⟩;have b:¬0<ln l e.2:=λz=>n ⟨_,h2,z⟩;exact⟨aH _ h1,aH _ h2,by lia,by lia⟩
theorem GP(φ:ZX->Int)(ao:l.1≠0\/l.2.1≠0)(aB:aT o)(lo:ln l o=0)(aH:∀p∈ps,aT p):dC φ (cR (λc => -ln l c) (aU l) ps)=eB (iL (λc => -ln l c) (aU l) (hR φ l)) (dw ps):=by
 have tX:∀p q,aT p->aT q->ln l p*ln l q<0->aT (aU l p q):=λp q ae ay c=>by
  rw[<-kh ae ay];exact gg (ki ae ay c)
 have hz:∀u v,aT u->aT v -> -ln l u=0 -> -ln l v=0->hR φ l u v=0:=λu v bo aH a b=>wX ao bo aH (by lia) (by lia);unfold cR;split
 ·rw[<-Be φ l];refine F2 (f:=λc => -ln l c) (V:=aT) hz (λp q ae ay c=>?_) o aB (by show -ln l o=0;lia) aH;have c:ln l p*ln l q<0:=by rw[T5]at c;exact c
  exact⟨tX p q ae ay c,by show -ln l (aU l p q)=0;rw[rl c];rfl⟩
 ·rename_i n
  rw[AX (f:=λc => -ln l c) (V:=aT) hz λe ax=>?_]
  ·rfl
  ·obtain⟨h1,h2⟩:=kP ax;have a:¬0 < -ln l e.1:=λz=>n ⟨_,h1,z⟩;have b:¬0 < -ln l e.2:=λz=>n ⟨_,h2,z⟩;exact⟨aH _ h1,aH _ h2,by show -ln l e.1<=0;lia,by show -ln l e.2<=0;lia⟩
theorem Bg{p q:aa}(c:ln l p*ln l q<0):p≠q:=by
 rintro rfl
 have:0<=ln l p*ln l p:=by
  rcases Int.le_total 0 (ln l p)with h|h
  ·exact Tw h h
  ·exact Vr h h
 lia
theorem Re{φ:ZX->Int}{p q m:aa}(ae:aT p)(ay:aT q)(h:p≠q)(b:i9 p q m):hR φ l p m+hR φ l m q=hR φ l p q:=by
 obtain⟨ai,ap⟩:=Bd ae ay h b;unfold hR ie en;rw[ai,ap];grind
theorem wY(φ:ZX->Int)(ao:l.1≠0\/l.2.1≠0)(aB:aT o)(lo:ln l o=0)(aH:∀p∈ps,aT p):dC φ (cR (ln l) (aU l) ps)+dC φ (cR (λc => -ln l c) (aU l) ps)=dC φ ps:=by
 rw[GO φ ao aB lo aH,GP φ ao aB lo aH,<-Be φ l];refine F3 λe ax=>?_;obtain⟨h1,h2⟩:=kP ax;exact PO (V:=aT) (λu v bo aH a b=>wX ao bo aH a b) (aH _ h1) (aH _ h2) λc=>Re (aH _ h1) (aH _ h2) (Bg c) (p0 c)
end
def jW:ZG->aa
 |[a,b,c]=>(a,b,c)
 |_=>(0,0,0)
theorem wZ(p:aa):jW (fp p)=p:=rfl
def kW(s:Int)(φ:ZX->Int)(l:aa):ZX->Int
 |[k,x]=>if 0<s*ln l (jW x)then φ [k,x]-φ [fp (hQ l),x]-(φ [k,fp (nP (crs l (jW k)))]-φ [fp (hQ l),fp (nP (crs l (jW k)))])else 0
 |_=>0
theorem Bh{l p q:aa}(ae:aT p)(ay:aT q)(h:p≠q)(aN:(crs l (crs p q)).2.2≠0):nP (crs l (eC p q))=nP (crs l (crs p q)):=by
 have w:=kU ae ay h;have g:=wV w;obtain⟨bw,bF,gC⟩:=tW (crs p q)
 have e:crs p q=sc (gU (crs p q)) (eC p q):=by
  unfold eC hQ sc;refine eW ?_ ?_ ?_
  ·exact(UP bw).symm
  ·exact(UP bF).symm
  ·exact(UP gC).symm
 have ap:crs l (crs p q)=sc (gU (crs p q)) (crs l (eC p q)):=by
  conv=>lhs;rw[e]
  refine eW ?_ ?_ ?_<;>simp only[crs,sc]<;>grind
 have pt:=gg aN;obtain⟨c,h9,hc⟩:=ke aN;exact(q' (M:=crs l (eC p q)) (h:=nP (crs l (crs p q))) g h9 pt (by rw[<-ap];exact hc)).2
theorem GQ{l p q:aa}(ae:aT p)(ay:aT q)(iJ:ln l p≠0)(hs:ln l q=0):nP (crs l (eC p q))=q/\nP (crs l (eC q p))=q:=by
 have ne:p≠q:=by rintro rfl;exact iJ hs
 have e:crs l (crs p q)=sc (-ln l p) q:=by
  unfold ln at hs⊢;refine eW ?_ ?_ ?_<;>simp only[crs,sc]<;>grind
 have mG:=ay.1
 have aN:(crs l (crs p q)).2.2≠0:=by
  rw[e];exact SS (by lia) (by lia)
 have a:nP (crs l (eC p q))=q:=by
  rw[Bh ae ay ne aN];exact(q' (M:=crs l (crs p q)) (G:=1) (c :=-ln l p) (by decide) (by lia) ay (by rw[e];unfold sc;simp)).2
 exact⟨a,by rw[Rc ae ay];exact a⟩
theorem w2(a b:Int):((a-b:Int):Rat)=(a:Rat)-(b:Rat):=by grind
section
variable{l:aa}{φ:ZX->Int}
theorem w3{s:Int}{k:ZG}{x:aa}(h:0<s*ln l x):((kW s φ l [k,fp x]:Int):Rat)=((φ [k,fp x]:Int):Rat)-p4 φ l x-(((φ [k,fp (nP (crs l (jW k)))]:Int):Rat)-p4 φ l (nP (crs l (jW k)))):=by
 have e:kW s φ l [k,fp x]=φ [k,fp x]-φ [fp (hQ l),fp x]-(φ [k,fp (nP (crs l (jW k)))]-φ [fp (hQ l),fp (nP (crs l (jW k)))]):=by
  show(if 0<s*ln l x then _ else _)=_
  rw[SL h]
 rw[e,w2,w2,w2];rfl
theorem p5{s:Int}{k:ZG}{x:aa}(h:¬0<s*ln l x):((kW s φ l [k,fp x]:Int):Rat)=0:=by
 have e:kW s φ l [k,fp x]=0:=by
  show(if 0<s*ln l x then _ else _)=_
  rw[SZ h]
 rw[e];rfl
theorem GR(ao:l.1≠0\/l.2.1≠0){p q:aa}(ae:aT p)(ay:aT q){s:Int}(aj:s=1\/s = -1):iL (λc=>s*ln l c) (aU l) (hR φ l) p q=ie (kW s φ l) p q:=by
 have w4:∀a b:Int,(s*a)*(s*b)=a*b:=λa b=>by rcases aj with rfl|rfl<;>grind
 unfold iL;dsimp only;rw[w4];have eT:∀x:Int,s*x=0->x=0:=λx h=>by rcases aj with rfl|rfl<;>lia
 have key:ie (kW s φ l) p q=((kW s φ l [fp (eC p q),fp p]:Int):Rat)-((kW s φ l [fp (eC p q),fp q]:Int):Rat):=rfl;rw[key];rcases T4 (s*ln l p) 0 with a|a|a
 ·rw[SZ (show ¬0<=s*ln l p by lia),p5 (show ¬0<s*ln l p by lia)];by_cases b:0<s*ln l q
  ·have c:ln l p*ln l q<0:=by rw[<-w4];exact Uc a b
   have ne:=Bg c;obtain⟨ai,ap⟩:=Bd ae ay ne (p0 c);have em:nP (crs l (jW (fp (eC p q))))=aU l p q:=by rw[wZ,Bh ae ay ne (ki ae ay c),kh ae ay]
   rw[SL c,w3 b,em];unfold hR ie en;rw[ap];grind
  ·have c:¬ln l p*ln l q<0:=by rw[<-w4];have:=Vr (show s*ln l p<=0 by lia) (show s*ln l q<=0 by lia);lia
   rw[SZ c,p5 b];grind
 ·have iJ:=eT _ a;have c:¬ln l p*ln l q<0:=by rw[iJ,T3];lia
  rw[SL (show 0<=s*ln l p by lia),p5 (show ¬0<s*ln l p by lia),SZ c];rcases T4 (s*ln l q) 0 with b|b|b
  ·rw[SZ (show ¬0<=s*ln l q by lia),p5 (show ¬0<s*ln l q by lia)];grind
  ·rw[SL (show 0<=s*ln l q by lia),p5 (show ¬0<s*ln l q by lia),wX ao ae ay iJ (eT _ b)];grind
  ·have hs:ln l q≠0:=λz=>by rw[z,SW]at b;lia
   have em:nP (crs l (jW (fp (eC p q))))=p:=by rw[wZ];exact(GQ ay ae hs iJ).2
   rw[SL (show 0<=s*ln l q by lia),w3 b,em];unfold hR ie en;grind
 ·have iJ:ln l p≠0:=λz=>by rw[z,SW]at a;lia
  rw[SL (show 0<=s*ln l p by lia),w3 a];rcases T4 (s*ln l q) 0 with b|b|b
  ·have c:ln l p*ln l q<0:=by rw[<-w4];exact SX a b
   have ne:=Bg c;obtain⟨ai,ap⟩:=Bd ae ay ne (p0 c);have em:nP (crs l (jW (fp (eC p q))))=aU l p q:=by rw[wZ,Bh ae ay ne (ki ae ay c),kh ae ay]
   rw[SZ (show ¬0<=s*ln l q by lia),SL c,p5 (show ¬0<s*ln l q by lia),em];unfold hR ie en;rw[ai];grind
  ·have em:nP (crs l (jW (fp (eC p q))))=q:=by rw[wZ];exact(GQ ae ay iJ (eT _ b)).1
   rw[SL (show 0<=s*ln l q by lia),p5 (show ¬0<s*ln l q by lia),em];unfold hR ie en;grind
  ·rw[SL (show 0<=s*ln l q by lia),w3 b];unfold hR ie en;grind
theorem GS{o:aa}{ps:ZH}(ao:l.1≠0\/l.2.1≠0)(aB:aT o)(lo:ln l o=0)(aH:∀p∈ps,aT p):dC φ (cR (ln l) (aU l) ps)=dC (kW 1 φ l) ps/\dC φ (cR (λc => -ln l c) (aU l) ps)=dC (kW (-1) φ l) ps:=by
 rw[GO φ ao aB lo aH,GP φ ao aB lo aH];constructor
 ·refine wW λe ax=>?_;obtain⟨h1,h2⟩:=kP ax;have:=GR (φ:=φ) ao (aH _ h1) (aH _ h2) (s:=1) (.inl rfl);rw[<-this];congr 1;funext c;rw[Wl]
 ·refine wW λe ax=>?_;obtain⟨h1,h2⟩:=kP ax;have:=GR (φ:=φ) ao (aH _ h1) (aH _ h2) (s :=-1) (.inr rfl);rw[<-this];congr 1;funext c;rw[Int.neg_one_mul]
end
theorem fZ.keep{l o:aa}{rs qs:ZZ}(h:fZ rs qs)(ao:l.1≠0\/l.2.1≠0)(aB:aT o)(lo:ln l o=0)(ak:∀ps∈rs,∀p∈ps,aT p)(ay:∀ps∈qs,∀p∈ps,aT p):
  fZ (rs.map (cR (ln l) (aU l))) (qs.map (cR (ln l) (aU l)))/\fZ (rs.map (cR (λc => -ln l c) (aU l))) (qs.map (cR (λc => -ln l c) (aU l))):=by
 have one:∀(L:ZZ) φ,(∀ps∈L,∀p∈ps,aT p)->fY φ (L.map (cR (ln l) (aU l)))=fY (kW 1 φ l) L:=λL φ e1=>by
  unfold fY;rw[SQ];congr 1;exact TM λps ae=>(GS ao aB lo (e1 ps ae)).1
 have two:∀(L:ZZ) φ,(∀ps∈L,∀p∈ps,aT p)->fY φ (L.map (cR (λc => -ln l c) (aU l)))=fY (kW (-1) φ l) L:=λL φ e1=>by
  unfold fY;rw[SQ];congr 1;exact TM λps ae=>(GS ao aB lo (e1 ps ae)).2
 exact⟨λφ=>by rw[one rs φ ak,one qs φ ay];exact h _,λφ=>by rw[two rs φ ak,two qs φ ay];exact h _⟩
theorem GT(m:aa->aa):∀(z:aa)(L:ZH),dg (m z) (L.map m)=(dg z L).map λe=>(m e.1,m e.2)
 |_,[]=>rfl
 |z,p::L=>by
  show(m z,m p)::dg (m p) (L.map m)=_
  rw[GT m p L];rfl
theorem GU(m:aa->aa):∀(z:aa)(L:ZH),cG (m z) (L.map m)=m (cG z L)
 |_,[]=>rfl
 |z,p::L=>GU m p L
theorem Bi(m:aa->aa)(ps:ZH):dw (ps.map m)=(dw ps).map λe=>(m e.1,m e.2):=by
 cases ps with
 |nil=>rfl
 |cons a r=>
  unfold dw
  have e:cG (0,0,1) ((a::r).map m)=m (cG (0,0,1) (a::r)):=by
   rw[<-GU m (0,0,1) (a::r)];exact rk (by simp)
  rw[e,GT]
theorem Rf{T:aa->aa->Rat}(m:aa->aa)(es:List (aa×aa)):eB T (es.map λe=>(m e.1,m e.2))=eB (λp q=>T (m p) (m q)) es:=by
 unfold eB;rw[SQ];rfl
structure km (m A:aa->aa):Prop where
 lin:∀c l,A (sc c l)=sc c (A l)
 ne:∀l:aa,(l.1≠0\/l.2.1≠0)->(A l).1≠0\/(A l).2.1≠0
 pt:∀p,aT p->aT (m p)
 ln:∀p q,aT p->aT q->∃g h:Int,g≠0/\h≠0/\sc g (crs (m p) (m q))=sc h (A (crs p q))
def Bj(m A:aa->aa)(φ:ZX->Int):ZX->Int
 |[k,x]=>φ [fp (hQ (A (jW k))),fp (m (jW x))]
 |_=>0
theorem GV{p q:aa}:crs p q=sc (gU (crs p q)) (eC p q):=by
 obtain⟨bw,bF,gC⟩:=tW (crs p q);unfold eC hQ sc;refine eW ?_ ?_ ?_
 ·exact(UP bw).symm
 ·exact(UP bF).symm
 ·exact(UP gC).symm
theorem Rg{p q:aa}(ae:aT p)(ay:aT q)(h:p≠q):(eC p q).1≠0\/(eC p q).2.1≠0:=by
 have w:=kU ae ay h;rw[GV]at w;rcases w with w|w
 ·exact .inl λz=>w (by show _*(eC p q).1=0;rw[z,SW])
 ·exact .inr λz=>w (by show _*(eC p q).2.1=0;rw[z,SW])
theorem km.line{m A:aa->aa}(M:km m A){p q:aa}(ae:aT p)(ay:aT q)(h:p≠q):eC (m p) (m q)=hQ (A (eC p q)):=by
 obtain⟨g,c,aZ,h9,e⟩:=M.ln p q ae ay;have w:=kU ae ay h;have ai:eC (m p) (m q)=hQ (A (crs p q)):=Bc aZ h9 (M.ne _ w) e;rw[ai]
 conv=>lhs;rw[GV,M.lin]
 exact oX (wV w) (M.ne _ (Rg ae ay h))
theorem km.side{m A:aa->aa}(M:km m A)(φ:ZX->Int){p q:aa}(ae:aT p)(ay:aT q):ie φ (m p) (m q)=ie (Bj m A φ) p q:=by
 by_cases h:p=q
 ·subst h;rw[Bf,Bf]
 ·unfold ie en;rw[M.line ae ay h];rfl
theorem km.ring{m A:aa->aa}(M:km m A)(φ:ZX->Int){ps:ZH}(aH:∀p∈ps,aT p):dC φ (ps.map m)=dC (Bj m A φ) ps:=by
 unfold dC;rw[Bi,Rf];refine wW λe ax=>?_;obtain⟨h1,h2⟩:=kP ax;exact M.side φ (aH _ h1) (aH _ h2)
theorem km.bal{m A:aa->aa}(M:km m A){rs qs:ZZ}(h:fZ rs qs)(ak:∀ps∈rs,∀p∈ps,aT p)(ay:∀ps∈qs,∀p∈ps,aT p):fZ (rs.map λps=>ps.map m) (qs.map λps=>ps.map m):=λφ=>by
 have one:∀(L:ZZ),(∀ps∈L,∀p∈ps,aT p)->fY φ (L.map λps=>ps.map m)=fY (Bj m A φ) L:=λL e1=>by
  unfold fY;rw[SQ];congr 1;exact TM λps ae=>M.ring φ (e1 ps ae)
 rw[one rs ak,one qs ay];exact h _
def slA(v l:aa):aa:=(l.1*v.2.2,l.2.1*v.2.2,l.2.2*v.2.2-l.1*v.1-l.2.1*v.2.1)
def rx(l:aa):aa:=(-l.1,-l.2.1,l.2.2)
theorem Bk{v:aa}(aH:0<v.2.2):km (λp=>nP (sld v p)) (slA v):=by
 refine⟨λc l=>?_,λl h=>?_,λp ae=>gg ?_,λp q ae ay=>?_⟩
 ·refine eW ?_ ?_ ?_<;>simp only[slA,sc]<;>grind
 ·rcases h with h|h
  ·exact .inl (SS h (by lia))
  ·exact .inr (SS h (by lia))
 ·have:=ae.1;show p.2.2*v.2.2≠0
  exact SS (by lia) (by lia)
 ·have bX:(sld v p).2.2≠0:=SS (by have:=ae.1;lia) (by lia);have dn:(sld v q).2.2≠0:=SS (by have:=ay.1;lia) (by lia);obtain⟨aI,z1,ai⟩:=ke bX;obtain⟨aP,aY,ap⟩:=ke dn;refine⟨aI*aP,v.2.2,SS z1 aY,by lia,?_⟩;rw[<-Aj,<-ai,<-ap];refine eW ?_ ?_ ?_<;>simp only[crs,sc,slA,sld]<;>grind
theorem p6:km trn rx:=by
 refine⟨λc l=>?_,λl h=>?_,λp ae=>zD ae,λp q ae ay=>⟨1,1,by decide,by decide,?_⟩⟩
 ·refine eW ?_ ?_ ?_<;>simp only[rx,sc]<;>grind
 ·rcases h with h|h
  ·exact .inl (by show -l.1≠0;lia)
  ·exact .inr (by show -l.2.1≠0;lia)
 ·refine eW ?_ ?_ ?_<;>simp only[crs,sc,rx,trn]<;>grind
theorem GW(φ:ZX->Int)(a:aa)(r:ZH):dC φ (r++[a])=dC φ (a::r):=by
 unfold dC;rw[<-AV]
 have e:dw (r++[a])=dg a (r++[a]):=by
  unfold dw;rw[wv];rfl
 rw[e]
end Cut
namespace Cut
open PySem L2 L3
open PySem.Builtin.Int (intBits)
theorem Rh{ps:ZH}{i:Nat}(h:i<ps.length):∃p q,p∈ps/\q∈ps/\ej (ps.map aS) ((i:Int)-1)=some (aS p)/\ej (ps.map aS) (i:Int)=some (aS q)/\(p,q)∈dw ps/\(dw ps).take (i+1)=(dw ps).take i++[(p,q)]:=by
 obtain⟨p,mp,ae⟩:=GJ (f:=id) (L:=ps) (i:=(i:Int)-1) (by lia) (by lia);obtain⟨q,tY,ay⟩:=GJ (f:=id) (L:=ps) (i:=(i:Int)) (by lia) (by lia);rw[List.map_id]at ae ay;have ai:cK ps ((i+ps.length-1)%ps.length)=p:=EZ (SU ((Fp h).symm.trans (s8 ae)));have ap:cK ps i=q:=EZ (SU ((rh h).symm.trans (s8 ay)));have w5:(dw ps).take (i+1)=(dw ps).take i++[(p,q)]:=by rw[PR h,ai,ap]
 exact⟨p,q,mp,tY,s8 ae,s8 ay,List.mem_of_mem_take (i:=i+1) (by rw[w5];simp),w5⟩
theorem GX{α:Type}(k:ZX)(x:α):∀{ks:List ZX}{ds:List α}(key:ZX),ds.length=ks.length->bB (eM ks k) (gw ks ds k x) key=if key=k then some x else bB ks ds key:=by
 have ge:∀{ks:List ZX}{ds:List α}(key:ZX),ds.length=ks.length->bB ks (fH ks ds k x) key=if key=k/\k∈ks then some x else bB ks ds key:=by
  intro ks;induction ks with
  |nil=>intro ds key h;simp[bB]
  |cons k' ks bN=>
   intro ds key h;cases ds with
   |nil=>simp at h
   |cons d ds=>
    have bN:=bN (ds:=ds) key (by simpa using h);rw[fH,bB,bB];by_cases e:k'=key
    ·rw[SL e,SL e];by_cases ap:k'=k
     ·rw[SL ap,SL ⟨by rw[<-e,ap],by rw[ap];simp⟩]
     ·rw[SZ ap,SZ (λz=>ap (e.trans z.1))]
    ·rw[SZ e,SZ e,bN];by_cases z:key=k/\k∈ks
     ·rw[SL z,SL ⟨z.1,Sy _ z.2⟩]
     ·rw[SZ z,SZ (λy=>z ⟨y.1,by
       rcases SG.mp y.2 with q|q
       ·exact absurd (q.symm.trans y.1.symm) e
       ·exact q⟩)]
 have tZ:∀{ks:List ZX}{ds:List α}(key:ZX),ds.length=ks.length->bB (ks++[k]) (ds++[x]) key=(bB ks ds key).or (if k=key then some x else none):=by
  intro ks;induction ks with
  |nil=>
   intro ds key h;cases ds with
   |nil=>simp[bB]
   |cons d ds=>simp at h
  |cons k' ks bN=>
   intro ds key h;cases ds with
   |nil=>simp at h
   |cons d ds=>
    have bN:=bN (ds:=ds) key (by simpa using h);rw[Tp,Tp,bB,bB];by_cases e:k'=key
    ·rw[SL e,SL e];rfl
    ·rw[SZ e,SZ e,bN]
 intro ks ds key h;unfold eM gw;by_cases m:k∈ks
 ·rw[SL m,SL m,ge key h];by_cases e:key=k
  ·rw[SL ⟨e,m⟩,SL e]
  ·rw[SZ (λz=>e z.1),SZ e]
 ·rw[SZ m,SZ m,tZ key h];by_cases e:key=k
  ·subst e;rw[(oT h).mpr m,SL rfl];rfl
  ·rw[SZ e,SZ (λz=>e z.symm)];cases bB ks ds key<;>rfl
theorem GY{α:Type}{k:ZX}{x:α}{ks:List ZX}{ds:List α}(h:ds.length=ks.length):(gw ks ds k x).length=(eM ks k).length/\(eM ks k).length<=ks.length+1:=by
 unfold eM gw;by_cases m:k∈ks
 ·rw[SL m,SL m,A2];exact⟨h,by lia⟩
 ·rw[SZ m,SZ m,SH,SH,h];exact⟨rfl,Sx _⟩
theorem Bl{α β:Type}(f:α->β):∀(ks:List ZX)(ds:List α)(key:ZX),bB ks (ds.map f) key=(bB ks ds key).map f
 |[],_,_=>by simp[bB]
 |_::_,[],_=>by simp[bB]
 |k'::ks,d::ds,key=>by
  rw[SD,bB,bB];by_cases e:k'=key
  ·rw[SL e,SL e];rfl
  ·rw[SZ e,SZ e,Bl f ks ds key]
theorem GZ{α β:Type}(f:α->β)(k:ZX)(x:α)(ks:List ZX)(ds:List α):(gw ks ds k x).map f=gw ks (ds.map f) k (f x):=by
 have ge:∀(ks:List ZX)(ds:List α),(fH ks ds k x).map f=fH ks (ds.map f) k (f x):=by
  intro ks;induction ks with
  |nil=>intro ds;simp[fH]
  |cons k' ks bN=>
   intro ds;cases ds with
   |nil=>simp[fH]
   |cons d ds=>
    rw[fH,SD,bN,SD,fH];by_cases e:k'=k
    ·rw[SL e,SL e]
    ·rw[SZ e,SZ e]
 unfold gw;by_cases m:k∈ks
 ·rw[SL m,SL m,ge]
 ·rw[SZ m,SZ m,SI];rfl
def t0(key:ZX)(e:aa×aa):Int:=(if key=en e.1 e.2 e.1 then 1 else 0)-(if key=en e.1 e.2 e.2 then 1 else 0)
def oY(key:ZX)(es:List (aa×aa)):Int:=(es.map (t0 key)).sum
def oZ(key:ZX)(rs:ZZ):Int:=(rs.map λps=>oY key (dw ps)).sum
theorem Bm:∀(l:ZG),((l.sum:Int):Rat)=(l.map λx:Int=>(x:Rat)).sum
 |[]=>by simp
 |a::l=>by
  rw[SN,SD,SN,<-Bm l];grind
theorem Ri{rs qs:ZZ}(h:fZ rs qs)(key:ZX):oZ key rs=oZ key qs:=by
 have one:∀L:ZZ,((oZ key L:Int):Rat)=fY (λk=>if key=k then 1 else 0) L:=λL=>by
  unfold oZ fY;rw[Bm,SQ];congr 1;refine TM λps _=>?_;show((oY key (dw ps):Int):Rat)=_
  unfold oY dC eB;rw[Bm,SQ];congr 1;refine TM λe _=>?_;show((t0 key e:Int):Rat)=_
  unfold t0 ie;rw[w2]
 have:=h (λk=>if key=k then 1 else 0);rw[<-one,<-one]at this;exact_mod_cast this
def nG(ps:ZH):Prop:=ps.length<=75/\(∀e∈dw ps,(crs e.1 e.2).1≠0\/(crs e.1 e.2).2.1≠0)/\∀p∈ps,cD 4000 p
theorem G0{g x:Int}{n:Nat}(h:g∣x)(ce:x≠0)(b:wp x<=n):wp g<=n:=by
 refine intBits_le_iff.mpr (Xa ?_ (intBits_le_iff.mp b));exact V1 (by lia) (UZ.mpr h)
theorem Rj{l:aa}{n:Nat}(bc:wp l.1<=n)(bg:wp l.2.1<=n)(w:l.1≠0\/l.2.1≠0):wp (gU l)<=n:=by
 obtain⟨bw,bF,_⟩:=tW l;rcases w with h|h
 ·exact G0 bw h bc
 ·exact G0 bF h bg
theorem G1(ks:List ZX)(vs:ZG)(key:ZX):(bB ks (vs.map D.int) key).getD (.int 0)=.int ((bB ks vs key).getD 0):=by
 rw[Bl];cases bB ks vs key<;>rfl
theorem Rk{ps:ZH}{k:Nat}(h:k<ps.length)(h2:2<=ps.length):ej (ps.map aS) ((k:Int)-2)=some (aS (cK ps ((k+ps.length-2)%ps.length))):=by
 by_cases z:2<=k
 ·have e:(k+ps.length-2)%ps.length=k-2:=by
   rw[show k+ps.length-2=(k-2)+ps.length by lia,Vo,TA (by lia)]
  rw[e,show((k:Int)-2)=((k-2:Nat):Int) by lia];exact rh (by lia)
 ·have e:(k+ps.length-2)%ps.length=k+ps.length-2:=TA (by lia);rw[e,rf (by lia)];unfold ej ixN;rw[SZ (by lia),SL (by rw[Sw];lia)];show(ps.map aS)[_]?=_
  rw[S4,Sw,show((k:Int)-2+(ps.length:Int)).toNat=k+ps.length-2 by lia,S5 (by lia)];rfl
theorem G2{x:Int}(h:sg x=1):0<x:=by
 unfold sg at h;split at h
 ·assumption
 ·split at h<;>lia
theorem gv.turn{ps:ZH}(h:gv ps){k:Nat}(ag:k<ps.length):0<be (cK ps ((k+ps.length-2)%ps.length)) (cK ps ((k+ps.length-1)%ps.length)) (cK ps k):=by
 have df:=h.1
 have e:((k+ps.length-2)%ps.length+1)%ps.length=(k+ps.length-1)%ps.length:=by
  rw[Nat.mod_add_mod];congr 1;lia
 have ry:∀d,0<d->d<ps.length->k≠(k+ps.length-d)%ps.length:=λd ia bw z=>by
  by_cases y:d<=k
  ·rw[show k+ps.length-d=(k-d)+ps.length by lia,Vo,TA (by lia)]at z;lia
  ·rw[TA (by lia)]at z;lia
 have:=h.2 ((k+ps.length-2)%ps.length) k (Uv _ (by lia)) ag (ry 2 (by decide) (by lia)) (by rw[e];exact ry 1 (by decide) (by lia));rw[e]at this;exact G2 this
theorem Rl(p q r:aa):be p q r=be q r p:=by unfold be crs;grind
theorem gv.fan{ps:ZH}(h:gv ps){k:Nat}(du:0<k)(ag:k+1<ps.length):0<be (cK ps 0) (cK ps k) (cK ps (k+1)):=by
 have:=h.2 k 0 (by lia) (by lia) (by lia) (by rw[TA ag];lia);rw[TA ag]at this;rw[Rl];exact G2 this
theorem Rm{p s:aa}(ae:aT p)(aj:aT s)(kx:Bool):cC ((1-2*(if kx then 1 else 0))*(p.1*s.2.2-s.1*p.2.2)) ((1-2*(if kx then 1 else 0))*(p.2.1*s.2.2-s.2.1*p.2.2)) (p.2.2*s.2.2)=if kx=true then trn (nP (sld (trn s) p))else nP (sld (trn s) p):=by
 have e:sld (trn s) p=(p.1*s.2.2-s.1*p.2.2,p.2.1*s.2.2-s.2.1*p.2.2,p.2.2*s.2.2):=by
  refine eW ?_ ?_ ?_<;>simp only[sld,trn]<;>grind
 have dB:(sld (trn s) p).2.2≠0:=by
  rw[e];exact SS (Sz ae.1) (Sz aj.1)
 cases kx with
 |false=>
  simp only[Tq,if_false,SW,Wm,Wl];unfold nP;rw[e]
 |true=>
  simp only[if_true];obtain⟨g,aZ,aD⟩:=ke dB;refine(q' (M:=((1-2*1)*(p.1*s.2.2-s.1*p.2.2),(1-2*1)*(p.2.1*s.2.2-s.2.1*p.2.2),p.2.2*s.2.2)) (h:=trn (nP (sld (trn s) p))) (G:=1) (c:=g) (by decide) aZ (zD (gg dB)) ?_).2;rw[e]at aD⊢;obtain⟨h1,h2,aF⟩:p.1*s.2.2-s.1*p.2.2=g*(nP (p.1*s.2.2-s.1*p.2.2,p.2.1*s.2.2-s.2.1*p.2.2,p.2.2*s.2.2)).1/\p.2.1*s.2.2-s.2.1*p.2.2=g*(nP (p.1*s.2.2-s.1*p.2.2,p.2.1*s.2.2-s.2.1*p.2.2,p.2.2*s.2.2)).2.1/\p.2.2*s.2.2=g*(nP (p.1*s.2.2-s.1*p.2.2,p.2.1*s.2.2-s.2.1*p.2.2,p.2.2*s.2.2)).2.2:=⟨TW (·.1) aD,TW (·.2.1) aD,TW (·.2.2) aD⟩;refine eW ?_ ?_ ?_
  ·show 1*((1-2*1)*(p.1*s.2.2-s.1*p.2.2))=g * -(nP _).1;grind
  ·show 1*((1-2*1)*(p.2.1*s.2.2-s.2.1*p.2.2))=g * -(nP _).2.1;grind
  ·show 1*(p.2.2*s.2.2)=g*(nP _).2.2;grind
theorem o0(s:aK):fG s=s.1.map λp=>if s.2.1=true then trn (nP (sld (trn s.2.2) p))else nP (sld (trn s.2.2) p):=by
 unfold fG;by_cases h:s.2.1=true
 ·rw[SL h,SQ];refine TM λp _=>?_;rw[SL h];rfl
 ·rw[SZ h];refine TM λp _=>?_;rw[SZ h]
theorem G3(a p:aa):be a p p=0:=by unfold be crs;grind
theorem gv.side{ps:ZH}(h:gv ps){p q:aa}(gp:(p,q)∈dw ps):p≠q:=by
 rw[F9]at gp;obtain⟨i,au,e⟩:=SJ.mp gp;have au:=TV.mp au;have t:=h.turn au;obtain⟨rfl,rfl⟩:=Prod.mk.inj e;intro z;rw[z,G3]at t;lia
theorem km.rg{m A:aa->aa}(M:km m A){ps:ZH}(aH:∀p∈ps,aT p)(ax:∀e∈dw ps,(crs e.1 e.2).1≠0\/(crs e.1 e.2).2.1≠0):∀e∈dw (ps.map m),(crs e.1 e.2).1≠0\/(crs e.1 e.2).2.1≠0:=λe h=>by
 rw[Bi]at h;obtain⟨d,hd,rfl⟩:=SJ.mp h;obtain⟨h1,h2⟩:=kP hd;obtain⟨g,c,aZ,h9,q⟩:=M.ln d.1 d.2 (aH _ h1) (aH _ h2);obtain⟨aO,bz,_⟩:=Ai q;rcases M.ne _ (ax d hd)with w|w
 ·exact .inl λz=>SS h9 w (by rw[<-aO];show g*(crs (m d.1) (m d.2)).1=0;rw[show(crs (m d.1) (m d.2)).1=0 from z,SW])
 ·exact .inr λz=>SS h9 w (by rw[<-bz];show g*(crs (m d.1) (m d.2)).2.1=0;rw[show(crs (m d.1) (m d.2)).2.1=0 from z,SW])
theorem G4(s:aK):(fG s).length=s.1.length:=by rw[o0,Sw]
theorem w6{α:Type}{f:α->Nat}{m:Nat}:∀{l:List α},(∀x∈l,f x<=m)->(l.map f).sum<=l.length*m
 |[],_=>by simp
 |x::l,h=>by
  rw[SD,SN,SK];have h1:=h x Sv;have h2:=w6 (l:=l) λy aG=>h y (Sy _ aG);rw[Wn,Nat.one_mul];lia
theorem Rn(a b:Bool):eqD (.bl a) (.bl b)=(a==b):=by
 by_cases h:a=b
 ·subst h;rw[qZ];simp
 ·have:eqD (.bl a) (.bl b)=false:=by
   unfold eqD;exact @decide_eq_false _ (Uu _) λz=>h (D.bl.inj z)
  rw[this];cases a<;>cases b<;>first|rfl|exact absurd rfl h
theorem Ro{ps:ZH}(cv:gv ps)(ae:∀p∈ps,eA 4000 p)(ao:ps.length<=75):nG ps:=⟨ao,λe ax=>by
 obtain⟨h1,h2⟩:=kP ax
 exact kU (ae _ h1).pt (ae _ h2).pt (cv.side ax),λp h=>(ae p h).bp⟩
def d1(x:Int×Int):aa:=crs (cC (x.1*1) (0*x.2) (x.2*1)) (cC (x.1*1) (1*x.2) (x.2*1))
def d2(x:Int×Int):aa:=crs (cC (0*x.2) (x.1*1) (1*x.2)) (cC (1*x.2) (x.1*1) (1*x.2))
theorem kX{x y u v:Int}{m n:Nat}(jc:wp x<=m)(hS:wp y<=m)(jv:wp u<=n)(gV:wp v<=n)(a6:aE x y)(a7:aE u v):cD (m+n) (cC (x*v) (u*y) (y*v)):=
 cD.nP (p:=(x*v,u*y,y*v)) ⟨TE jc gV,by rw[Wo];exact TE jv hS,TE hS gV⟩ (SS (Sz a6.1) (Sz a7.1))
noncomputable def cL(x:Int×Int)(b:Bool)(sh:ZI):List aK:=if b then ck (ln (d1 x)) (aU (d1 x)) sh else ck (λc => -ln (d1 x) c) (aU (d1 x)) sh
noncomputable def cV(x:Int×Int)(b:Bool)(sh:ZI):List aK:=if b then ck (ln (d2 x)) (aU (d2 x)) sh else ck (λc => -ln (d2 x) c) (aU (d2 x)) sh
theorem w7(φ:ZX->Int)(ps:ZH)(rs:ZZ):fY φ (ps::rs)=dC φ ps+fY φ rs:=by unfold fY;rw[SD,SN]
theorem rz(φ:ZX->Int):∀rs qs:ZZ,fY φ (rs++qs)=fY φ rs+fY φ qs
 |[],qs=>by rw[Ta];show _=(0:Rat)+_;grind
 |ps::rs,qs=>by rw[Tp,w7,w7,rz φ rs qs];grind
theorem iQ(φ:ZX->Int)(ps:ZH):fY φ [ps]=dC φ ps:=by rw[w7];show _+(0:Rat)=_;grind
theorem t1(φ:ZX->Int)(f:aa->Int)(mt:aa->aa->aa):∀sh:ZI,fY φ ((ck f mt sh).map λs=>s.1)=fY φ (sh.map λs=>cR f mt s.1)
 |[]=>rfl
 |s::sh=>by
  have bN:=t1 φ f mt sh
  have e:ck f mt (s::sh)=ck f mt [s]++ck f mt sh:=by
   unfold ck;rw[<-U2,<-SI];rfl
  rw[e,SI,rz,bN,SD,w7];congr 1;cases c:(cR f mt s.1).isEmpty with
  |true=>
   rw[wB c,Xd.mp c];rfl
  |false=>
   rw[wA c];exact iQ φ _
section
variable{l o:aa}{sh:ZI}{qs:ZH}
theorem w8(h:fZ (sh.map λs=>s.1) [qs])(ao:l.1≠0\/l.2.1≠0)(aB:aT o)(lo:ln l o=0)(ak:∀s∈sh,∀p∈s.1,aT p)(ay:∀p∈qs,aT p):
  fZ ((ck (ln l) (aU l) sh).map λs=>s.1) [cR (ln l) (aU l) qs]/\fZ ((ck (λc => -ln l c) (aU l) sh).map λs=>s.1) [cR (λc => -ln l c) (aU l) qs]:=by
 obtain⟨a,b⟩:=h.keep ao aB lo (λps ae=>by
  obtain⟨s,aj,rfl⟩:=SJ.mp ae
  exact ak s aj) (λps ae=>by rw[SM.mp ae];exact ay)
 rw[SQ]at a b;exact⟨λφ=>by rw[t1];exact a φ,λφ=>by rw[t1];exact b φ⟩
theorem Rp{g:aa}(aD:0<g.2.2)(h:fZ (sh.map λs=>s.1) [qs])(ak:∀s∈sh,∀p∈s.1,aT p)(ay:∀p∈qs,aT p):fZ ((sh.map (eL g)).map λs=>s.1) [qs.map λp=>nP (sld g p)]:=by
 have:=(Bk aD).bal h (λps ae=>by
  obtain⟨s,aj,rfl⟩:=SJ.mp ae
  exact ak s aj) (λps ae=>by rw[SM.mp ae];exact ay)
 rw[SQ]at this;rw[SQ];exact this
end
theorem Rq{s:aK}(aj:aT s.2.2):∃A,km (λp=>if s.2.1=true then trn (nP (sld (trn s.2.2) p))else nP (sld (trn s.2.2) p)) A:=by
 have bm:=Bk (v:=trn s.2.2) aj.1;by_cases h:s.2.1=true
 ·refine⟨λl=>rx (slA (trn s.2.2) l),⟨λc l=>by rw[bm.lin,p6.lin],λl ao=>p6.ne _ (bm.ne l ao),λp ae=>by rw[SL h];exact p6.pt _ (bm.pt p ae),λp q ae ay=>?_⟩⟩;simp only[SL h];obtain⟨g,c,aZ,h9,e⟩:=bm.ln p q ae ay;obtain⟨g',c',Rr,Rs,aW⟩:=p6.ln _ _ (bm.pt p ae) (bm.pt q ay);refine⟨g*g',c*c',SS aZ Rr,SS h9 Rs,?_⟩
  have ap:sc g (rx (crs (nP (sld (trn s.2.2) p)) (nP (sld (trn s.2.2) q))))=sc c (rx (slA (trn s.2.2) (crs p q))):=by
   rw[<-p6.lin,e,p6.lin]
  have dv:∀(a b:Int)(x:aa),sc (a*b) x=sc a (sc b x):=λa b x=>by refine eW ?_ ?_ ?_<;>simp only[sc]<;>grind
  have p7:∀(a b:Int)(x:aa),sc a (sc b x)=sc b (sc a x):=λa b x=>by refine eW ?_ ?_ ?_<;>simp only[sc]<;>grind
  rw[dv,aW,p7,ap,<-dv,S2 c']
 ·refine⟨slA (trn s.2.2),⟨bm.lin,bm.ne,λp ae=>by rw[SZ h];exact bm.pt p ae,λp q ae ay=>?_⟩⟩;simp only[SZ h];exact bm.ln p q ae ay
theorem Rt{l o:aa}{s:aK}(φ:ZX->Int)(aj:aT s.2.2)(ao:l.1≠0\/l.2.1≠0)(aB:aT o)(lo:ln l o=0)(aH:∀p∈s.1,aT p):dC φ (fG (cR (ln l) (aU l) s.1,s.2))+dC φ (fG (cR (λc => -ln l c) (aU l) s.1,s.2))=dC φ (fG s):=by
 obtain⟨A,M⟩:=Rq aj
 have tX:∀p q,aT p->aT q->ln l p*ln l q<0->aT (aU l p q):=λp q ae ay c=>by
  rw[<-kh ae ay];exact gg (ki ae ay c)
 have kp:∀f:aa->Int,(∀p q,f p*f q<0->ln l p*ln l q<0)->∀p∈cR f (aU l) s.1,aT p:=λf bf p ae=>by
  unfold cR at ae;split at ae
  ·rcases p1 ae with⟨h,_⟩|⟨a,aw,b,ab,c,e⟩
   ·exact aH p h
   ·rw[e];exact tX a b (aH a aw) (aH b ab) (bf a b c)
  ·cases ae
 have ai:=M.ring φ (kp (ln l) λp q h=>h);have ap:=M.ring φ (kp (λc => -ln l c) λp q h=>by rw[T5]at h;exact h);have br:=M.ring φ aH;rw[o0,o0,o0,ai,ap,br];exact wY _ ao aB lo aH
theorem Ru{g p q:aa}(aD:aT g)(ae:aT p)(ay:aT q):nP (sld (trn (nP (sld g q))) (nP (sld g p)))=nP (sld (trn q) p):=by
 have jM:∀{a b:aa},aT a->aT b->(sld a b).2.2≠0:=λaw ab=>SS (Sz ab.1) (Sz aw.1);obtain⟨kY,f6,dN⟩:=ke (jM aD ae);obtain⟨ig,b0,dY⟩:=ke (jM aD ay);obtain⟨mN,h0,rA⟩:=ke (jM ay.trn ae);have dE:aT (nP (sld (trn q) p)):=gg (jM ay.trn ae);obtain⟨b7,bW,hT⟩:(sld g p).1=kY*(nP (sld g p)).1/\(sld g p).2.1=kY*(nP (sld g p)).2.1/\(sld g p).2.2=kY*(nP (sld g p)).2.2:=⟨TW (·.1) dN,TW (·.2.1) dN,TW (·.2.2) dN⟩;obtain⟨bc,bg,dP⟩:(sld g q).1=ig*(nP (sld g q)).1/\(sld g q).2.1=ig*(nP (sld g q)).2.1/\(sld g q).2.2=ig*(nP (sld g q)).2.2:=⟨TW (·.1) dY,TW (·.2.1) dY,TW (·.2.2) dY⟩;obtain⟨h1,h2,aF⟩:(sld (trn q) p).1=mN*(nP (sld (trn q) p)).1/\(sld (trn q) p).2.1=mN*(nP (sld (trn q) p)).2.1/\(sld (trn q) p).2.2=mN*(nP (sld (trn q) p)).2.2:=⟨TW (·.1) rA,TW (·.2.1) rA,TW (·.2.2) rA⟩;generalize nP (sld g p)=a at *;generalize nP (sld g q)=b at *;generalize nP (sld (trn q) p)=h at *;simp only[sld,trn]at b7 bW hT bc bg dP h1 h2 aF;refine(q' (M:=sld (trn b) a) (h:=h) (G:=kY*ig) (c:=g.2.2*g.2.2*mN) (SS f6 b0) (SS (SS (Sz aD.1) (Sz aD.1)) h0) dE ?_).2;refine eW ?_ ?_ ?_<;>simp only[sc,sld,trn]
 ·have:kY*ig*(a.1*b.2.2 + -b.1*a.2.2)=(kY*a.1)*(ig*b.2.2)-(ig*b.1)*(kY*a.2.2):=by grind
  rw[this,<-b7,<-dP,<-bc,<-hT];have:g.2.2*g.2.2*mN*h.1=g.2.2*g.2.2*(mN*h.1):=by grind
  rw[this,<-h1];grind
 ·have:kY*ig*(a.2.1*b.2.2 + -b.2.1*a.2.2)=(kY*a.2.1)*(ig*b.2.2)-(ig*b.2.1)*(kY*a.2.2):=by grind
  rw[this,<-bW,<-dP,<-bg,<-hT];have:g.2.2*g.2.2*mN*h.2.1=g.2.2*g.2.2*(mN*h.2.1):=by grind
  rw[this,<-h2];grind
 ·have:kY*ig*(a.2.2*b.2.2)=(kY*a.2.2)*(ig*b.2.2):=by grind
  rw[this,<-hT,<-dP];have:g.2.2*g.2.2*mN*h.2.2=g.2.2*g.2.2*(mN*h.2.2):=by grind
  rw[this,<-aF];grind
theorem Rv{g:aa}{s:aK}(aD:aT g)(aj:aT s.2.2)(aH:∀p∈s.1,aT p):fG (eL g s)=fG s:=by
 rw[o0,o0];unfold eL;dsimp only;rw[SQ];refine TM λp ae=>?_;show(if s.2.1=true then trn (nP (sld (trn (nP (sld g s.2.2))) (nP (sld g p))))else nP (sld (trn (nP (sld g s.2.2))) (nP (sld g p))))=_
 rw[Ru aD (aH p ae) aj]
def c7(φ:ZX->Int)(b:Bool)(L:ZI):Rat:=fY φ ((L.filter λs=>s.2.1==b).map fG)
theorem p8(φ:ZX->Int)(b:Bool)(L M:ZI):c7 φ b (L++M)=c7 φ b L+c7 φ b M:=by unfold c7;rw[U2,SI,rz]
theorem G5(φ:ZX->Int)(b:Bool):c7 φ b []=0:=rfl
theorem o1(φ:ZX->Int)(b:Bool)(s:aK):c7 φ b [s]=if s.2.1==b then dC φ (fG s)else 0:=by
 unfold c7;by_cases h:(s.2.1==b)=true
 ·rw[SL h,W5 (by exact h)];exact iQ φ _
 ·rw[SZ h,W6 (by exact h)];rfl
theorem Bn(φ:ZX->Int)(b:Bool)(s:aK)(L:ZI):c7 φ b (s::L)=c7 φ b [s]+c7 φ b L:=by rw[<-p8];rfl
theorem t2(φ:ZX->Int)(b:Bool){g:aa}(aD:aT g):∀{L:ZI},(∀s∈L,aT s.2.2/\∀p∈s.1,aT p)->c7 φ b (L.map (eL g))=c7 φ b L
 |[],_=>rfl
 |s::L,h=>by
  obtain⟨h1,h2⟩:=h s Sv;rw[SD,Bn,Bn φ b s,t2 φ b aD λt bQ=>h t (Sy _ bQ),o1,o1,Rv aD h1 h2];rfl
theorem w9(φ:ZX->Int)(b:Bool){l o:aa}(ao:l.1≠0\/l.2.1≠0)(aB:aT o)(lo:ln l o=0):∀{L:ZI},(∀s∈L,aT s.2.2/\∀p∈s.1,aT p)->c7 φ b (ck (ln l) (aU l) L)+c7 φ b (ck (λc => -ln l c) (aU l) L)=c7 φ b L
 |[],_=>by show c7 φ b []+c7 φ b []=_;rw[G5];grind
 |s::L,h=>by
  obtain⟨h1,h2⟩:=h s Sv;have bN:=w9 φ b ao aB lo λt bQ=>h t (Sy _ bQ);have e:∀f:aa->Int,ck f (aU l) (s::L)=ck f (aU l) [s]++ck f (aU l) L:=λf=>tD (f:=f) [s] L
  have one:∀f:aa->Int,c7 φ b (ck f (aU l) [s])=if s.2.1==b then dC φ (fG (cR f (aU l) s.1,s.2))else 0:=λf=>by
   cases c:(cR f (aU l) s.1).isEmpty with
   |true=>
    rw[wB c,G5,Xd.mp c,o0];split
    ·rfl
    ·rfl
   |false=>rw[wA c,o1]
  have fs:=Rt φ h1 ao aB lo h2;rw[e,e,p8,p8,one,one,Bn,o1,<-bN];by_cases c:(s.2.1==b)=true
  ·rw[SL c,SL c,SL c,<-fs];grind
  ·rw[SZ c,SZ c,SZ c];grind
theorem t3{x:Int×Int}(l:aE x.1 x.2):((d1 x).1≠0\/(d1 x).2.1≠0)/\aT (cC (x.1*1) (0*x.2) (x.2*1))/\ln (d1 x) (cC (x.1*1) (0*x.2) (x.2*1))=0:=by
 have dB:x.2*1≠0:=by have:=l.1;lia
 have cp:aT (cC (x.1*1) (0*x.2) (x.2*1)):=gg (p:=(x.1*1,0*x.2,x.2*1)) dB;have b1:aT (cC (x.1*1) (1*x.2) (x.2*1)):=gg (p:=(x.1*1,1*x.2,x.2*1)) dB
 have ne:cC (x.1*1) (0*x.2) (x.2*1)≠cC (x.1*1) (1*x.2) (x.2*1):=λz=>by
  obtain⟨_,ai,ap,_⟩:=i7 (a:=x.1*1) (b:=0*x.2) dB;obtain⟨q,a4,a',_⟩:=i7 (a:=x.1*1) (b:=1*x.2) dB;rw[z,a']at ap;have iM:=q.1;have o2:=l.1;have:1*x.2*(cC (x.1*1) (1*x.2) (x.2*1)).2.2=0:=by rw[ap];simp
  have:=SE (show 0<1*x.2 by lia) iM;lia
 refine⟨kU cp b1 ne,cp,?_⟩;unfold d1 ln crs;grind
theorem t4{x:Int×Int}(l:aE x.1 x.2):((d2 x).1≠0\/(d2 x).2.1≠0)/\aT (cC (0*x.2) (x.1*1) (1*x.2))/\ln (d2 x) (cC (0*x.2) (x.1*1) (1*x.2))=0:=by
 have dB:1*x.2≠0:=by have:=l.1;lia
 have cp:aT (cC (0*x.2) (x.1*1) (1*x.2)):=gg (p:=(0*x.2,x.1*1,1*x.2)) dB;have b1:aT (cC (1*x.2) (x.1*1) (1*x.2)):=gg (p:=(1*x.2,x.1*1,1*x.2)) dB
 have ne:cC (0*x.2) (x.1*1) (1*x.2)≠cC (1*x.2) (x.1*1) (1*x.2):=λz=>by
  obtain⟨_,ai,ap,_⟩:=i7 (a:=0*x.2) (b:=x.1*1) dB;obtain⟨q,a4,a',_⟩:=i7 (a:=1*x.2) (b:=x.1*1) dB;rw[z,a4]at ai;have iM:=q.1;have o2:=l.1;have:1*x.2*(cC (1*x.2) (x.1*1) (1*x.2)).2.2=0:=by rw[ai];simp
  have:=SE (show 0<1*x.2 by lia) iM;lia
 refine⟨kU cp b1 ne,cp,?_⟩;unfold d2 ln crs;grind
theorem G6(φ:ZX->Int)(b c:Bool){x:Int×Int}(l:aE x.1 x.2){L:ZI}(h:∀s∈L,aT s.2.2/\∀p∈s.1,aT p):c7 φ b (cL x c L)+c7 φ b (cL x (!c) L)=c7 φ b L:=by
 obtain⟨dm,dz,hg⟩:=t3 l;have:=w9 φ b dm dz hg h;cases c with
 |true=>exact this
 |false=>rw[<-this];show c7 φ b (ck _ _ L)+c7 φ b (ck _ _ L)=_;grind
theorem Rw(φ:ZX->Int)(b c:Bool){x:Int×Int}(l:aE x.1 x.2){L:ZI}(h:∀s∈L,aT s.2.2/\∀p∈s.1,aT p):c7 φ b (cV x c L)+c7 φ b (cV x (!c) L)=c7 φ b L:=by
 obtain⟨dm,dz,hg⟩:=t4 l;have:=w9 φ b dm dz hg h;cases c with
 |true=>exact this
 |false=>rw[<-this];show c7 φ b (ck _ _ L)+c7 φ b (ck _ _ L)=_;grind
theorem gW(a:Rat):(0:Rat)/a=0:=by grind
theorem G7(d:Rat):d<0\/d=0\/0<d:=by grind
def cb(p:aa)(x y:Rat):Prop:=aT p/\hO p=x/\hP p=y
theorem Bo{a b c d:Int}(ab:0<b)(hd:0<d)(h:(a:Rat)/b=(c:Rat)/d):a*d=c*b:=by
 have b0:=di ab;have ia:=di hd;have:(a:Rat)*d=c*b:=by grind
 exact_mod_cast this
theorem cb.eq{p q:aa}{x y:Rat}(h:cb p x y)(g:cb q x y):p=q:=by
 obtain⟨ae,h1,h2⟩:=h;obtain⟨iR,aI,aP⟩:=g;obtain⟨ai,ap,br⟩:=vx ae iR (Bo ae.1 iR.1 (h1.trans aI.symm)) (Bo ae.1 iR.1 (h2.trans aP.symm));exact eW ai ap br
theorem cb.to{p:aa}{x y g8 fk:Rat}(h:cb p x y)(ai:x=g8)(ap:y=fk):cb p g8 fk:=by subst ai ap;exact h
def af(r:Int×Int):Rat:=(r.1:Rat)/r.2
theorem p9{a b n:Int}(aN:0<n):cb (cC a b n) ((a:Rat)/n) ((b:Rat)/n):=by
 obtain⟨p,ai,ap,_⟩:=i7 (a:=a) (b:=b) (Sz aN);have dB:=di aN;have p2:=di p.1;have a4:(((cC a b n).1:Int):Rat)*n=a*((cC a b n).2.2:Int):=by exact_mod_cast ai
 have a':(((cC a b n).2.1:Int):Rat)*n=b*((cC a b n).2.2:Int):=by exact_mod_cast ap
 refine⟨p,?_,?_⟩
 ·unfold hO;grind
 ·unfold hP;grind
theorem gx{w h:Int×Int}(lw:0<w.2)(lh:0<h.2):cb (cj w h) (af w) (af h):=by
 have w0:=di lw;have h0:=di lh;refine(p9 (SE lw lh)).to ?_ ?_<;>(unfold af;push_cast;grind)
theorem w'{w:Int×Int}(l:aE w.1 w.2):cb (w.1,0,w.2) (af w) 0:=⟨Fn l,rfl,by unfold hP;show((0:Int):Rat)/_=0;exact gW _⟩
theorem xa{w:Int×Int}(l:aE w.1 w.2):cb (0,w.1,w.2) 0 (af w):=⟨Fo l,by unfold hO;show((0:Int):Rat)/_=0;exact gW _,rfl⟩
theorem G8:cb (0,0,1) 0 0:=⟨⟨by decide,by decide⟩,by unfold hO;exact gW _,by unfold hP;exact gW _⟩
theorem kZ{g p:aa}{a b x y:Rat}(aD:cb g a b)(ae:cb p x y):cb (nP (sld g p)) (x+a) (y+b):=by
 obtain⟨aI,aP,g3⟩:=aD;obtain⟨cp,b1,iH⟩:=ae;have ago:=di aI.1;have Rx:=di cp.1;refine(p9 (a:=(sld g p).1) (b:=(sld g p).2.1) (n:=(sld g p).2.2) (SE cp.1 aI.1)).to ?_ ?_
 ·rw[<-aP,<-b1];unfold hO sld;dsimp only;push_cast;grind
 ·rw[<-g3,<-iH];unfold hP sld;dsimp only;push_cast;grind
theorem Bp{p q r:aa}{bC bx e4 dH nF rv:Rat}(ae:cb p bC bx)(ay:cb q e4 dH)(ak:cb r nF rv):∃k:Rat,0<k/\((be p q r:Int):Rat)=k*((e4-bC)*(rv-bx)-(dH-bx)*(nF-bC)):=by
 obtain⟨cp,b1,iH⟩:=ae;obtain⟨aO,bz,et⟩:=ay;obtain⟨r1,r2,gM⟩:=ak;have Rx:=di cp.1;have agp:=di aO.1;have i3:=di r1.1;refine⟨((p.2.2*q.2.2*r.2.2:Int):Rat),?_,?_⟩
 ·have:=SE (SE cp.1 aO.1) r1.1;exact_mod_cast this
 ·rw[<-b1,<-iH,<-bz,<-et,<-r2,<-gM];unfold be crs hO hP;dsimp only;push_cast;grind
section
variable{X:Int×Int}{c:aa}{x y:Rat}
theorem t5(l:aE X.1 X.2)(hc:cb c x y):∃k:Rat,0<k/\((ln (d1 X) c:Int):Rat)=k*(af X-x):=by
 have ce:=di l.1;have a:cb (cC (X.1*1) (0*X.2) (X.2*1)) (af X) 0:=(p9 (by have:=l.1;lia)).to (by unfold af;simp) (by simp;exact gW _);have b:cb (cC (X.1*1) (1*X.2) (X.2*1)) (af X) 1:=(p9 (by have:=l.1;lia)).to (by unfold af;simp) (by simp;grind);obtain⟨k,du,e⟩:=Bp a b hc;exact⟨k,du,by show((be _ _ c:Int):Rat)=_;rw[e];grind⟩
theorem t6(l:aE X.1 X.2)(hc:cb c x y):∃k:Rat,0<k/\((ln (d2 X) c:Int):Rat)=k*(y-af X):=by
 have ce:=di l.1;have a:cb (cC (0*X.2) (X.1*1) (1*X.2)) 0 (af X):=(p9 (by have:=l.1;lia)).to (by simp;exact gW _) (by unfold af;simp);have b:cb (cC (1*X.2) (X.1*1) (1*X.2)) 1 (af X):=(p9 (by have:=l.1;lia)).to (by simp;grind) (by unfold af;simp);obtain⟨k,du,e⟩:=Bp a b hc;exact⟨k,du,by show((be _ _ c:Int):Rat)=_;rw[e];grind⟩
end
theorem lU{n:Int}{k d:Rat}(du:0<k)(e:(n:Rat)=k*d)(h:0<d):0<n:=by
 have:(0:Rat)<n:=by rw[e];exact Td du h
 exact_mod_cast this
theorem o3{n:Int}{k d:Rat}(du:0<k)(e:(n:Rat)=k*d)(h:d<0):n<0:=by
 have:0 < -n:=lU du (d :=-d) (by push_cast;rw[e];grind) (by grind);lia
theorem xb{n:Int}{k d:Rat}(e:(n:Rat)=k*d)(h:d=0):n=0:=by
 rw[h]at e;have:(n:Rat)=0:=by rw[e];grind
 exact_mod_cast this
section
variable{X:Int×Int}{c p q:aa}{x y bC bx e4 dH:Rat}
theorem t7(l:aE X.1 X.2)(hc:cb c x y)(h:x<af X):0<ln (d1 X) c:=by
 obtain⟨k,du,e⟩:=t5 l hc;exact lU du e (by grind)
theorem Bq(l:aE X.1 X.2)(hc:cb c x y)(h:af X<x):ln (d1 X) c<0:=by
 obtain⟨k,du,e⟩:=t5 l hc;exact o3 du e (by grind)
theorem Br(l:aE X.1 X.2)(hc:cb c x y)(h:af X<y):0<ln (d2 X) c:=by
 obtain⟨k,du,e⟩:=t6 l hc;exact lU du e (by grind)
theorem t8(l:aE X.1 X.2)(hc:cb c x y)(h:y<af X):ln (d2 X) c<0:=by
 obtain⟨k,du,e⟩:=t6 l hc;exact o3 du e (by grind)
theorem xc(l:aE X.1 X.2)(ae:cb p bC bx)(ay:cb q e4 dH)(h:ln (d1 X) p*ln (d1 X) q<0)(aG:(y-bx)*(e4-bC)=(af X-bC)*(dH-bx)):cb (aU (d1 X) p q) (af X) y:=by
 have pm:aT (aU (d1 X) p q):=by rw[<-kh ae.1 ay.1];exact gg (ki ae.1 ay.1 h)
 obtain⟨a,b,xf,ex,gn⟩:=AY (p0 h) ae.1.1 ay.1.1 pm.1;have nH:cb (aU (d1 X) p q) (hO (aU (d1 X) p q)) (hP (aU (d1 X) p q)):=⟨pm,rfl,rfl⟩;obtain⟨k,du,e⟩:=t5 l nH;rw[rl h]at e
 have xe:hO (aU (d1 X) p q)=af X:=by
  have bM:k≠0:=by intro z;rw[z]at du;exact absurd du (by decide)
  have:k*(af X-hO (aU (d1 X) p q))=0:=by rw[<-e];rfl
  grind
 have ne:e4-bC≠0:=λz=>by
  obtain⟨cy,t9,ap⟩:=t5 l ae;obtain⟨gt,ua,br⟩:=t5 l ay;have Bs:e4=bC:=by grind
  rw[Bs]at br;rcases G7 (af X-bC)with d|d|d
  ·have b7:=o3 t9 ap d;have bW:=o3 ua br d;have:=Uw b7 bW;lia
  ·have b7:=xb ap d;rw[b7,T3]at h;lia
  ·have b7:=lU t9 ap d;have bW:=lU ua br d;have:=SE b7 bW;lia
 refine nH.to xe ?_;rw[gn,ae.2.2,ay.2.2];rw[ex,ae.2.1,ay.2.1]at xe;have dN:a=1-b:=by grind
 subst dN;grind
theorem xg(l:aE X.1 X.2)(ae:cb p bC bx)(ay:cb q e4 dH)(h:ln (d2 X) p*ln (d2 X) q<0)(aq:(x-bC)*(dH-bx)=(af X-bx)*(e4-bC)):cb (aU (d2 X) p q) x (af X):=by
 have pm:aT (aU (d2 X) p q):=by rw[<-kh ae.1 ay.1];exact gg (ki ae.1 ay.1 h)
 obtain⟨a,b,xf,ex,gn⟩:=AY (p0 h) ae.1.1 ay.1.1 pm.1;have nH:cb (aU (d2 X) p q) (hO (aU (d2 X) p q)) (hP (aU (d2 X) p q)):=⟨pm,rfl,rfl⟩;obtain⟨k,du,e⟩:=t6 l nH;rw[rl h]at e
 have G9:hP (aU (d2 X) p q)=af X:=by
  have bM:k≠0:=by intro z;rw[z]at du;exact absurd du (by decide)
  have:k*(hP (aU (d2 X) p q)-af X)=0:=by rw[<-e];rfl
  grind
 have ne:dH-bx≠0:=λz=>by
  obtain⟨cy,t9,ap⟩:=t6 l ae;obtain⟨gt,ua,br⟩:=t6 l ay;have Bs:dH=bx:=by grind
  rw[Bs]at br;rcases G7 (bx-af X)with d|d|d
  ·have b7:=o3 t9 ap d;have bW:=o3 ua br d;have:=Uw b7 bW;lia
  ·have b7:=xb ap d;rw[b7,T3]at h;lia
  ·have b7:=lU t9 ap d;have bW:=lU ua br d;have:=SE b7 bW;lia
 refine nH.to ?_ G9;rw[ex,ae.2.1,ay.2.1];rw[gn,ae.2.2,ay.2.2]at G9;have dN:a=1-b:=by grind
 subst dN;grind
end
end Cut
namespace Cut
open PySem L2 L3
section
variable{f:aa->Int}{mt:aa->aa->aa}{a b c d:aa}
theorem k0:dq f mt [a,b,c,d]=kp f a++cw f mt a b++(kp f b++cw f mt b c++(kp f c++cw f mt c d++(kp f d++cw f mt d a++[]))):=rfl
theorem f8(h:0<=f a):kp f a=[a]:=by unfold kp;rw[SL h]
theorem gX(h:f a<0):kp f a=[]:=by unfold kp;rw[SZ (by lia)]
theorem hu(h:(0<f a/\f b<0)\/(f a<0/\0<f b)):cw f mt a b=[mt a b]:=by
 unfold cw;rcases h with⟨h1,h2⟩|⟨h1,h2⟩
 ·rw[SL (SX h1 h2)]
 ·rw[SL (Uc h1 h2)]
theorem fQ(h:(0<=f a/\0<=f b)\/(f a<=0/\f b<=0)):cw f mt a b=[]:=by
 unfold cw;rcases h with⟨h1,h2⟩|⟨h1,h2⟩
 ·rw[SZ (by have:=Tw h1 h2;lia)]
 ·rw[SZ (by have:=Vr h1 h2;lia)]
theorem k1{ps:ZH}(p:aa)(ae:p∈ps)(h:0<f p):cR f mt ps=dq f mt ps:=wC ⟨p,ae,h⟩
theorem Ry(aw:f a<0)(ab:f b<0)(hc:0<f c)(hd:f d=0):cR f mt [a,b,c,d]=[mt b c,c,d]:=by
 rw[k1 c (by simp) hc,k0,gX aw,fQ (.inr ⟨by lia,by lia⟩),gX ab,hu (.inr ⟨ab,hc⟩),f8 (by lia),fQ (.inl ⟨by lia,by lia⟩),f8 (by lia),fQ (.inr ⟨by lia,by lia⟩)];rfl
theorem Rz(aw:0<f a)(ab:0<f b)(hc:f c<0)(hd:f d=0):cR f mt [a,b,c,d]=[a,b,mt b c,d]:=by
 rw[k1 a (by simp) aw,k0,f8 (by lia),fQ (.inl ⟨by lia,by lia⟩),f8 (by lia),hu (.inl ⟨ab,hc⟩),gX hc,fQ (.inr ⟨by lia,by lia⟩),f8 (by lia),fQ (.inl ⟨by lia,by lia⟩)];rfl
end
theorem mO{t b:Int}(ab:0<b):af (cg t b)=(t:Rat)/b:=by
 obtain⟨l,e,_,_⟩:=gG (t:=t) (b:=b) (Sz ab);have b0:=di ab;have o2:=di l.1;have f:(((cg t b).1:Int):Rat)*b=t*((cg t b).2:Int):=by exact_mod_cast e
 unfold af;grind
theorem dV{r:Int×Int}(h:0<r.1)(h2:0<r.2):0<af r:=by
 have a:(0:Rat)<r.1:=by exact_mod_cast h
 have b:(0:Rat)<r.2:=by exact_mod_cast h2
 unfold af;rw[Um];exact Td a (U3.mpr b)
theorem G'{a b c fv b' c':aa}(h1:a=fv)(h2:b=b')(aF:c=c'):[a,b,c]=[fv,b',c']:=by rw[h1,h2,aF]
theorem Ha{a b c d fv b' c' d':aa}(h1:a=fv)(h2:b=b')(aF:c=c')(bj:d=d'):[a,b,c,d]=[fv,b',c',d']:=by rw[h1,h2,aF,bj]
theorem Hb{a b c:aa}{P:aa->Prop}(h1:P a)(h2:P b)(aF:P c):∀p∈[a,b,c],P p:=by simp;exact⟨h1,h2,aF⟩
theorem Bt{a b c d:aa}{P:aa->Prop}(h1:P a)(h2:P b)(aF:P c)(bj:P d):∀p∈[a,b,c,d],P p:=by simp;exact⟨h1,h2,aF,bj⟩
end Cut
namespace L3
open PySem PySem.Spec PyProof.Rows L2
section
variable{prog:Uf}{w:WP}{A:Xv}{E:Tk->Tl->Prop}{s:Tl}{d:TI}{ep:Nat}{es:Array Yu}
theorem RA{α:Type}{M:Model}{Q:α->Tl->Prop}{b:Bool}{x y:Sem α}(ab:b=true)(h:wpAny M A x Q E s):wpAny M A (if b=true then x else y) Q E s:=by rw[SL ab];exact h
theorem RB{α:Type}{M:Model}{Q:α->Tl->Prop}{b:Bool}{x y:Sem α}(ab:b=false)(h:wpAny M A y Q E s):wpAny M A (if b=true then x else y) Q E s:=by rw[SZ (by rw[ab];simp)];exact h
end
end L3
namespace L2
open PySem PySem.Spec PyProof.Rows PySem.W
section
variable{prog:Uf}{w:WP}{A:Xv}{E:Tk->Tl->Prop}{s:Tl}
theorem Bu{a:Int}{v:Tk}(h:(X5 prog w).is a v=true):∃t,v=.int a t:=by
 cases v<;>simp[X5,Value.isInt]at h;subst h;exact⟨_,rfl⟩
end
end L2
namespace L2
open PySem PySem.Spec PyProof.Rows PySem.W
open PySem.SeqAt
open PySem.AutoSeq1 (wpAny_loadPart')
open PySem.MeetsSeq PySem.MeetsSeq2 PySem.MeetsSeq3
theorem Hc:∀{vs:ZR}{ns:ZG},Ym vs ns->vs.length=ns.length
 |_,_,.nil=>rfl
 |_,_,.cons _ _ h=>by simp[Hc h]
end L2
namespace L3
open PySem L2
section
variable{K:F6}{u:a9}{w:cZ}
def RC(K:F6)(B:am)(J:hX)(ds:ZK):Prop:=∀(H:am),cF B H->∀i,(i<ds.length->J.go i H)/\(ds.length<=i->J.stop i H)/\∀x al,i<ds.length->J.yld i H x al->∃q vs es,H q=none/\x=.ref q/\al=upd H q (.tup vs)/\ds[i]?=some (.tup es)/\Reps K B vs es
def Hd(K:F6)(t:e8)(u:cZ):Prop:=∀(ρ:ZL)(k:ZK->Prop),u ρ k->∀(R:am)(W:TI->Prop)(B H:am)(σ:St)(Q:hX->am->Prop),a0 K R W B H σ ρ->
 (∀ds J aC al,k ds->a0 K R W aC al σ ρ->bV R B aC->RC K aC J ds->Q J al)->t σ H Q
theorem RD{gB:e8}{g:hW}{tt:ff}{cH:bK}{gT:gd}{ez:dW}{eV:Nat}{js:ZN}(h0:Hd K gB w)(aD:sB K g gT)(bQ:i2 K tt ez)(h1:e' K cH u)(s1:js.Nodup):vA K (sW gB g tt cH eV js) (s0 w gT ez u eV js):=by
 intro ρ k h R W B H σ Q e q;refine h0 ρ _ h R W B H σ _ e λds J bd ar z1 ai aI it=>?_;obtain⟨ao,z1⟩:=z1;intro D jo;obtain⟨a4,a',bP⟩:=ai.toWd.fresh jo;have s2:∀i,¬cQ σ ρ i D:=λi m=>ai.notNew jo m rfl;have ei:=ai.within eV s1
 have pR:∀j a,cQ (S0 eV none++iZ σ js) (S0 eV .no++js.map (lr ρ)) j a->∃j,j∈js/\σ[j]?=some (some (V.ref a))/\ρ[j]?=some aQ.bag:=λj a m=>by
  have bz:=(ei.mutOk m).2;rcases m with⟨bm,z|⟨es,z⟩⟩|⟨c,z,sw⟩
  ·obtain⟨c,c1,c2,_⟩:=ei.bagAt z;rw[bm]at c1;cases c1;rcases c2 with c2|c2
   ·exact c2
   ·exact absurd c2 bz
  ·obtain⟨c,c1,c2,_⟩:=ei.ownC z;rw[bm]at c1;cases c1;exact absurd c2 bz
  ·exact absurd ((ei.deepAt z).2.fr a sw).1 bz
 generalize s3:(λa=>∃j,j∈js/\σ[j]?=some (some (V.ref a))/\ρ[j]?=some aQ.bag)=hL at ei;have pR:∀j a,cQ (S0 eV none++iZ σ js) (S0 eV .no++js.map (lr ρ)) j a->hL a:=λj a m=>by rw[<-s3];exact pR j a m
 have i4:∀a,hL a->∃i:Nat,σ[i]?=some (some (.ref a))/\ρ[i]?=some .bag:=λa z=>by
  rw[<-s3]at z;obtain⟨j,_,z⟩:=z;exact⟨j,z⟩
 have pS:¬hL D:=λz=>by
  obtain⟨oG,bx,dH⟩:=i4 D z;exact s2 oG (.inl ⟨bx,.inl dH⟩)
 refine⟨λi m nu al=>∃aC ys es lB,m=ds.length-i/\i<=ds.length/\a0 K ar hL aC al nu lB/\bV ar bd aC/\al D=some (.lst ys)/\aC D=none/\(∀j a,cQ nu lB j a->hL a)/\ys.length<=i/\Reps K aC ys es/\he gT ez u (ds.drop i) lB λr=>k (es++r),
  ⟨ds.length,bd,[],[],_,by simp,S8 _,ei.allocH jo _,bV.refl _ _,eP,bP,pR,Sx _,.nil,by simpa using z1⟩,?_⟩
 rintro i m nu a5 ⟨ca,ys,es,lB,rfl,au,ap,aP,aG,ab,z9,Oi,cA,aY⟩;obtain⟨ew,cP,fx⟩:=it a5 (aP.s.trans ap.bh) i;by_cases dF:i<ds.length
 ·refine .inr ⟨ew dF,λx al y=>?_⟩;obtain⟨iM,p',He,mG,rfl,rfl,hd,bt⟩:=fx x al dF y
  have hK:ds.drop i=.tup He::ds.drop (i+1):=by
   rw[UI dF];rw[S5 dF]at hd;rw[SU hd]
  rw[hK]at aY;have Hf:D≠iM:=λz=>by rw[z,mG]at aG;cases aG
  have Hg:=ap.grow mG (.tup p');have Bv:=ap.alloc mG (.tup p');have xh:upd a5 iM (.tup p') D=some (.lst ys):=by rw[de Hf];exact aG
  have Hh:upd ca iM (.tup p') D=none:=by rw[de Hf];exact ab
  have Bw:=cA.mono Hg.s;have xi:=aP.trans Hg;have Hi:b3 K (upd ca iM (.tup p')) (.ref iM) (.tup He):=.tup eP (bt.mono xi.s);generalize upd a5 iM (.tup p')=al at Bv xh;generalize upd ca iM (.tup p')=Bx at Bv Hh Bw xi Hi;refine aD _ lB _ aY ar hL Bx al nu _ _ Bv Hi λlC hE eI br bL=>?_;have kb:∀j a,cQ hE lC j a->hL a:=λj a m=>z9 j a (bL j a m)
  have pT:∀{jt:am},bV al Bx jt->jt D=none:=λ{jt} el=>by
   cases z':jt D with
   |none=>rfl
   |some o=>
    rcases el.n D o z' with z|z
    ·rw[Hh]at z;cases z
    ·rw[xh]at z;cases z
  refine bQ lC _ eI al hL Bx al hE _ (br.rebase kb) λb jt mz eJ cW el=>?_;have Aa:mz D=some (.lst ys):=cW.fr D _ xh pS;cases b with
  |false=>
   rw[SZ S6]at eJ⊢;obtain⟨f5,nv⟩:=br.unbase kb cW el;exact⟨ds.length-(i+1),by lia,jt,ys,es,lC,rfl,dF,f5,xi.trans nv,Aa,pT el,kb,by lia,Bw.mono el.s,eJ⟩
  |true=>
   rw[SL rfl]at eJ⊢;refine h1 lC _ eJ al hL jt mz hE _ cW λfk v Ab gL lA f5 nv g2=>?_;have nw:=el.trans nv;have Ac:gL D=some (.lst ys):=f5.fr D _ xh pS;obtain⟨kD,Ad⟩:=br.unbase kb f5 nw;refine⟨ys,Ac,by lia,ds.length-(i+1),by lia,Ab,ys++[v],es++[fk],lC,rfl,dF,kD.scribble jo (pT nw) (λj m=>pS (kb j D m)) _,xi.trans Ad,eP,pT nw,kb,by rw[SH,TK];lia,(Bw.mono nw.s).append (.cons g2 .nil),?_⟩;simpa[S7]using lA
 ·have eq:i=ds.length:=by lia
  subst eq;rw[U0]at aY;obtain⟨cW,el⟩:=ai.after i4 ap.toWd aP;refine .inl ⟨cP (Sx _),q _ D ys ca a5 (by simpa[he]using aY) cW (aI.trans el) a4 ab aG cA s2⟩
def xj(X:aJ)(bA e:Wp)(u:cZ):Prop:=∃t,jH X bA e t/\Hd X.K t u
variable{X:aJ}{eU dD bA:Wp}{ey:ZT}{scope:YG}{bv:List (Str×TI)}{ts fr:ZQ}{js:ZN}{gT:gd}{ez:dW}{pos:Pos}
theorem Hj(au:xj X bA dD w)(aD:∀C s H ex,kF (eu X (ts++fr) scope bv C s H ex) bA gT)(ly:∀C s H ex,q9 (eu X (ts++fr) scope bv C s H ex) ey ez)(lz:∀C s H ex,bn (eu X (ts++fr) scope bv C s H ex) eU u)(F:q2 X scope bv fr js)(s4:js.Nodup:=by decide)(hc:X.calm=true:=by rfl)(aj:∀v,Xu dD X.env v=pure v:=by intro _;rfl):lq X (.ListComp eU [⟨bA,dD,ey,0⟩] scope pos) (s0 w gT ez u ts.length js):=by
 obtain⟨_,h0,ha⟩:=au;obtain⟨ES,s5,rg⟩:=Ag (K:=X.K) (Xs:=λa:TI×Tl×am×ZS=>eu X (ts++fr) scope bv a.1 a.2.1 a.2.2.1 a.2.2.2) (λ_=>rfl) λa=>aD a.1 a.2.1 a.2.2.1 a.2.2.2;obtain⟨tt,s6,rt⟩:=Af (K:=X.K) (Xs:=λa:TI×Tl×am×ZS=>eu X (ts++fr) scope bv a.1 a.2.1 a.2.2.1 a.2.2.2) (λ_=>rfl) λa=>ly a.1 a.2.1 a.2.2.1 a.2.2.2;obtain⟨cH,s7,lx⟩:=Ae (K:=X.K) (Xs:=λa:TI×Tl×am×ZS=>eu X (ts++fr) scope bv a.1 a.2.1 a.2.2.1 a.2.2.2) (λ_=>rfl) λa=>lz a.1 a.2.1 a.2.2.1 a.2.2.2;exact⟨_,EM h0 (λC s H ex=>s5 (C,s,H,ex)) (λC s H ex=>s6 (C,s,H,ex)) (λC s H ex=>s7 (C,s,H,ex)) F hc aj,RD ha rg rt lx s4⟩
end
theorem By{α:Type}{f g:α->D}{s:cX}{U:iB}{i j:Nat}(I:List α->ZL->Prop):∀{rs done:List α}{ρ:ZL},I done ρ->
  (∀pre e rest ρ,done++rs=pre++e::rest->I pre ρ->∀N:ZL->Prop,(∀dJ,I (pre++[e]) dJ->N dJ)->s {U with nx:=N,ct:=N,bk:=U.nx} ((ρ.set i (.val (f e))).set j (.val (g e))))->(∀ρ,I (done++rs) ρ->U.nx ρ)->
  h5 (np 2 (hr (e3 i) (hr (e3 j) nm))) s U (rs.map λe=>.tup [f e,g e]) ρ
 |[],done,ρ,h0,_,h2=>h2 ρ (by rw[SO];exact h0)
 |e::rs,done,ρ,h0,h1,h2=>by
  refine⟨_,rfl,rfl,_,_,rfl,_,_,rfl,rfl,h1 done e rs ρ rfl h0 _ λdJ ak=>?_⟩;have eq:done++e::rs=(done++[e])++rs:=by simp
  rw[eq]at h1 h2;exact By I ak h1 h2
section
variable{prog:Uf}{w:WP}{K:Type}[DecidableEq K]{knd:HeapKind prog w K}{A:Xv}{E:Tk->Tl->Prop}{s:Tl}
theorem RE{d a:TI}{xs:List (K×TI×Tk)}{k:K}{v:Tk}{Q:Tk->Tl->Prop}(bo:knd.room A)(pD:knd.is s.heap k a)(av:s.heap.DictOfH knd d xs)(h1:∀p,Zu xs k=some p->Q p.2 {s with toks:=s.toks+knd.draws k})(h2:Zu xs k=none->∀h',h'.DictOfH knd d (storedH xs k a v)->Heap.SameBut d s.heap h'->Q v {s with heap:=h',toks:=s.toks+knd.draws k})(ky:xs.length<=TT):wpAny (UF prog w) A (YZ d (.ref a) v) Q E s:=by
 obtain⟨o,es,ep,aB,hc,hd,ax,Hk,aN⟩:=av;unfold YZ
 try with_reducible refine Xw ?_
 refine SB (knd.pyHash bo pD ?_);refine SB (wpAny_dictFind_heap (s:={s with toks:=s.toks+knd.draws k}) bo pD aB hd ax Hk aN ?_ ?_)
 ·intro pE;have RF:k∉xs.map (·.1):=not_mem_keys_of_get pE
  refine SB (Yq (SB (wpAny_updateDictKeys (hz:=by have e:=size_of_entries ax;lia) (s:={s with toks:=s.toks+knd.draws k}) aB hd (SC (h2 (Yg pE) _ ⟨_,_,ep+1,Heap.get?_update_self _ aB (Obj.isFreed_of_dict (Obj.data_mapDictKeys hd _)),
   hc.mapDictKeys _,Obj.data_mapDictKeys hd _,?_,?_,?_⟩ (Heap.SameBut.update ..))))))
  ·rw[Zw (Yg pE)];simp[ax,Zf]
  ·rw[Zw (Yg pE)];intro x aq;rcases SR.mp aq with aq|aq
   ·exact knd.keeps (Hk x aq) aB hd (Heap.SameBut.update ..)
   ·simp only[SM]at aq;subst aq;exact knd.keeps pD aB hd (Heap.SameBut.update ..)
  ·rw[Zw (Yg pE)];rw[SI,Wj];refine⟨aN,by simp,?_⟩;intro x aq y aG;simp only[SD,Tz,SM]at aG;subst aG;exact λe=>RF (e▸aq)
 ·intro j p b8;refine SB (X1 (s:={s with toks:=s.toks+knd.draws k}) aB hd ?_);rw[entry_at ax j,b8];exact SB (Yq (SC (h1 p (atKey_of_get aN b8))))
theorem RG(knd:HeapKind prog w K)(d a:TI)(hd:(d==XM)=false)(v:Tk):
  MeetsIn prog w (Yd.«dict.setdefault» ⟨[.ref d,.ref a,v],[]⟩) (λA R s=>knd.room A.in1/\∃k xs,knd.is s.heap k a/\s.heap.DictOfH knd d xs/\xs.length<=TT /\
   (∀p,Zu xs k=some p->R (.ok (.ret p.2)) {s with toks:=s.toks+knd.draws k}) /\
   (Zu xs k=none->∀h',h'.DictOfH knd d (storedH xs k a v)->Heap.SameBut d s.heap h'->R (.ok (.ret v)) {s with heap:=h',toks:=s.toks+knd.draws k})):=
 .of_wp λA R s ⟨bo,k,xs,pD,av,hz,h1,h2⟩=>by
  unfold Yd.«dict.setdefault»;refine SB ?_;unfold Builtin.Dict.keyAndDefault;refine SB (Yj av.typeIs ?_);show wpAny _ _ (pure (d,Value.ref a,some v)) _ _ s
  refine SC ?_;show wpAny _ _ (if(d==XM)=true then _ else(YZ d (.ref a) v >>= _)) _ _ s
  rw[SZ (by rw[hd];exact S6)];exact SB (RE bo pD av (λp ae=>SC ⟨p.2,rfl,h1 p ae⟩) (λaN h' RH fb=>SC ⟨v,rfl,h2 aN h' RH fb⟩) hz)
end
def RI(b:Bool):V->ZJ->am->cN->Prop:=λx xs H Q=>∃a c z ep ks as vs k,x=.ref a/\xs=[.ref c,z]/\mK H b a ep ks as vs/\mJ H b k c/\ks.length<TT /\
 (∀v,bB ks vs k=some v->Q v H)/\(bB ks vs k=none->∀g1,Q z (upd H a (g9 b a g1 (ks++[k]) (as++[c]) (vs++[z]))))
section
variable{X:aJ}{b:Bool}
theorem RJ(bo:X.A.units+4<XZ):vm X "dict.setdefault" (RI b):=by
 intro pins s σ H x xs v us Q I bt rs h;obtain⟨a,c,z,QD,ks,as,vs,k,rfl,rfl,kS,oV,ao,aO,bz⟩:=h;obtain rfl:v=Value.ref a:=bt;obtain⟨dm,dz,rfl,r1,r2⟩:=rs.two;obtain rfl:dm=Value.ref c:=r1;obtain⟨h1,h2,aF,bj,us,c5,h6,fX⟩:=kS.raw I.hok;have tK:=c5.length
 have le:(ea ks as us).length=ks.length:=by
  have:=TW S1 (wN (as:=as) (us:=us) h2 (by lia))
  rwa [Sw]at this
 have g:=tI (as:=as) (us:=us) k h2 (by lia);refine call_meetsIn Xe h6.typeIs PySem.F.entry_dict_setdefault (PySem.F.args_dict_setdefault_3 _ _ _) (RG (kd X.prog X.w b) a c bj dz) ⟨wL bo,k,ea ks as us,oV.is I.hok,h6,by lia,λp ae=>?_,λaN h' kQ d5=>?_⟩
 ·rw[ae]at g;have fV:=tL (ks:=ks) k c5;rw[<-g]at fV;cases q:bB ks vs k with
  |none=>rw[q]at fV;exact fV.elim
  |some Bz=>rw[q]at fV;exact⟨Bz,H,I.tok _,fV,aO Bz q⟩
 ·rw[aN]at g;have fV:=tL (ks:=ks) k c5;rw[<-g]at fV
  have Hl:bB ks vs k=none:=by
   cases q:bB ks vs k with
   |none=>rfl
   |some Bz=>rw[q]at fV;exact fV.elim
  have ip:k∉ks:=(oT aF).mp Hl;rw[Gm k c dz h2 (by lia),SZ ip]at kQ;have ai:eM ks k=ks++[k]:=SZ ip;have ap:gw ks us k dz=us++[dz]:=SZ ip;rw[ai,ap]at kQ;obtain⟨cx,es,ep,i',jz,wj,jV,wP,QF⟩:=kQ;refine⟨z,_,?_,r2,bz Hl ep⟩;refine I.write (x:=a) (e:=a) (by rw[kS.h];trivial) (.inl rfl) (λc' q ab z=>(d5.2 c' ab).trans z) ⟨cx,i'⟩ ?_;have nd:(ks++[k]).Nodup:=by have:=Gu (k:=k) fX;rwa [ai]at this
  refine⟨⟨by rw[SH,TK];lia,by rw[SH,SH,h2];rfl,by rw[SH,SH,aF];rfl,bj,_,Paired.snoc c5 r2,cx,es,i',jz,wj,?_,nd⟩,⟨cx,i'⟩,?_⟩
  ·rw[jV,wM (P:=X.prog) (w:=X.w)]
  ·rintro aI aP ⟨z1,aY,eI,eJ,jr,lA,tM,ji,tN,tO⟩ ag;exact⟨z1,aY,eI,eJ,jr,lA,tM,ji,ag _ tN,tO⟩
end
def qa:List ZX->Z0->ZX->D->Z0
 |k'::ks,ds::b2,k,d=>if k'=k then(ds++[d])::b2 else ds::qa ks b2 k d
 |_,b2,_,_=>b2
def qb(ks:List ZX)(b2:Z0)(k:ZX)(d:D):List ZK:=if k∈ks then qa ks b2 k d else b2++[[d]]
theorem Hm{α:Type}:∀{ks:List ZX}{as:List α}{k:ZX}{x:α},bB ks as k=some x->∃j:Nat,as[j]?=some x/\∀{β:Type}(ds:List β),ds.length=as.length->bB ks ds k=ds[j]?
 |[],_,_,_,h=>by simp[bB]at h
 |_::_,[],_,_,h=>by simp[bB]at h
 |k'::ks,a::as,k,x,h=>by
  rw[bB]at h;by_cases e:k'=k
  ·rw[SL e]at h;cases h;refine⟨0,rfl,λds ao=>?_⟩;cases ds with
   |nil=>simp at ao
   |cons d ds=>rw[bB,SL e];rfl
  ·rw[SZ e]at h;obtain⟨j,h1,h2⟩:=Hm h;refine⟨j+1,by simpa using h1,λds ao=>?_⟩;cases ds with
   |nil=>simp at ao
   |cons d ds=>rw[bB,SZ e,h2 ds (by simpa using ao)];rfl
theorem Hn{α:Type}:∀{ks:List ZX}{as:List α}{k:ZX}{x:α},bB ks as k=some x->∃j:Nat,as[j]?=some x/\∀(b2:Z0)(ds:ZK)(d:D),b2.length=as.length->b2[j]?=some ds->bB ks b2 k=some ds/\qa ks b2 k d=b2.set j (ds++[d])
 |[],_,_,_,h=>by simp[bB]at h
 |_::_,[],_,_,h=>by simp[bB]at h
 |k'::ks,a::as,k,x,h=>by
  rw[bB]at h;by_cases e:k'=k
  ·rw[SL e]at h;cases h;refine⟨0,rfl,λb2 ds d ao hd=>?_⟩;cases b2 with
   |nil=>simp at ao
   |cons y b2=>
    cases(show y=ds by simpa using hd);exact⟨by rw[bB,SL e],by rw[qa,SL e];rfl⟩
  ·rw[SZ e]at h;obtain⟨j,h1,h2⟩:=Hn h;refine⟨j+1,by simpa using h1,λb2 ds d ao hd=>?_⟩;cases b2 with
   |nil=>simp at ao
   |cons y b2=>
    obtain⟨aF,bj⟩:=h2 b2 ds d (by simpa using ao) (by simpa using hd);exact⟨by rw[bB,SZ e,aF],by rw[qa,SZ e,bj];rfl⟩
section
variable{K:F6}{R:am}{W:TI->Prop}{B aC H al:am}{σ:St}{ρ:ZL}
theorem RK{i:Nat}{v:V}(h:σ[i]?=some (some v)):σ.set i (some v)=σ:=by
 apply Uj;intro j;by_cases z:i=j
 ·subst z
  have lt:i<σ.length:=by
   by_cases z:i<σ.length
   ·exact z
   ·rw[Th (by lia)]at h;cases h
  rw[TX lt,h]
 ·rw[TP z]
theorem RL{i:Nat}{k:aQ}(h:ρ[i]?=some k):ρ.set i k=ρ:=by
 apply Uj;intro j;by_cases z:i=j
 ·subst z
  have lt:i<ρ.length:=by
   by_cases z:i<ρ.length
   ·exact z
   ·rw[Th (by lia)]at h;cases h
  rw[TX lt,h]
 ·rw[TP z]
theorem a0.deepW(e:a0 K R W B H σ ρ){i:Nat}{c c':hF}{x:TI}{o:e6}(aB:ρ[i]?=some (.deep c))(aq:x∈c.adr::c.ins)(aw:c'.adr=c.adr)(sub:∀y∈c'.ins,y∈c.ins)(nd:(c'.adr::c'.ins).Nodup)(ok:om K B (upd H x o) c'):a0 K R W B (upd H x o) σ (ρ.set i (.deep c')):=by
 obtain⟨bw,bF⟩:=e.deepAt aB;have qc:=bF.fr x aq;have f4:¬W x:=λz=>e.wr x z qc.1;have gp:cQ σ ρ i x:=.inr ⟨c,aB,aq⟩
 have ub:∀y∈c'.adr::c'.ins,y∈c.adr::c.ins:=λy aG=>by
  rcases SG.mp aG with z|z
  ·rw[z,aw];exact Sv
  ·exact Sy _ (sub y z)
 refine⟨⟨λb u q z=>?_,λb u q=>?_,e.wb,λb z=>?_,e.wr⟩,by rw[Ug];exact e.len,λj k q=>?_,λa b y aG hz=>?_⟩
 ·rw[de (by rintro rfl;rw[qc.1]at q;cases q)];exact e.fr b u q z
 ·rw[de (by rintro rfl;rw[qc.2]at q;cases q)];exact e.bh b u q
 ·exact(e.wh b z).upd (by rintro rfl;exact f4 z)
 ·rcases iA q with⟨rfl,rfl⟩|⟨n,q⟩
  ·exact⟨by rw[aw,bw];rfl,λy aG=>bF.fr y (ub y aG),nd,ok⟩
  ·have z:=e.ok j k q;have ne:∀y,cQ σ ρ j y->y≠x:=λy m=>by rintro rfl;exact n (e.sep j i y m gp)
   cases k with
   |no=>trivial
   |new d=>exact z
   |pin v d=>exact z
   |val d=>exact z
   |own es=>
    obtain⟨b,z1,aY,eI,eJ⟩:=z;exact⟨b,z1,aY,eI,eJ.mono (cF.refl _) (de (ne b (.inl ⟨hG z1,.inr ⟨es,q⟩⟩)))⟩
   |deep d=>exact⟨z.1,z.2.fr,z.2.nd,z.2.ok.mono (cF.refl _) λb fu=>de (ne b (.inr ⟨d,q,fu⟩))⟩
   |bag=>
    obtain⟨b,z1,aY,eI,eJ⟩:=z;exact⟨b,z1,aY,eI,eJ.upd (ne b (.inl ⟨hG z1,.inl q⟩))⟩
 ·have back:∀a,cQ σ (ρ.set i (.deep c')) a y->cQ σ ρ a y:=λa m=>by
   rcases m with⟨bm,bJ⟩|⟨d,bm,bJ⟩
   ·refine .inl ⟨bm,?_⟩;rcases bJ with bJ|⟨es,bJ⟩
    ·rcases iA bJ with⟨_,z⟩|⟨_,bJ⟩
     ·cases z
     ·exact .inl bJ
    ·rcases iA bJ with⟨_,z⟩|⟨_,bJ⟩
     ·cases z
     ·exact .inr ⟨es,bJ⟩
   ·rcases iA bm with⟨rfl,z⟩|⟨_,bm⟩
    ·cases z;exact .inr ⟨c,aB,ub y bJ⟩
    ·exact .inr ⟨d,bm,bJ⟩
  exact e.sep a b y (back a aG) (back b hz)
theorem a0.deepN(e:a0 K R W B H σ ρ){i:Nat}{c c':hF}{p:TI}{vs:ZJ}{o:e6}(aB:ρ[i]?=some (.deep c))(ae:H p=some (.lst vs))(ak:R p=none)(ab:B p=none)(av:∀j,¬cQ σ ρ j p)(aw:c'.adr=c.adr)(sub:∀y∈c'.ins,y∈c.ins\/y=p)(nd:(c'.adr::c'.ins).Nodup)(ok:om K B (upd H c.adr o) c'):a0 K R W B (upd H c.adr o) σ (ρ.set i (.deep c')):=by
 obtain⟨bw,bF⟩:=e.deepAt aB;have qc:=bF.fr c.adr Sv;have f4:¬W c.adr:=λz=>e.wr _ z qc.1;have gp:cQ σ ρ i c.adr:=.inr ⟨c,aB,Sv⟩
 have ub:∀y∈c'.adr::c'.ins,y∈c.adr::c.ins\/y=p:=λy aG=>by
  rcases SG.mp aG with z|z
  ·rw[z,aw];exact .inl Sv
  ·exact(sub y z).imp (Sy _) id
 refine⟨⟨λb u q z=>?_,λb u q=>?_,e.wb,λb z=>?_,e.wr⟩,by rw[Ug];exact e.len,λj k q=>?_,λa b y aG hz=>?_⟩
 ·rw[de (by rintro rfl;rw[qc.1]at q;cases q)];exact e.fr b u q z
 ·rw[de (by rintro rfl;rw[qc.2]at q;cases q)];exact e.bh b u q
 ·exact(e.wh b z).upd (by rintro rfl;exact f4 z)
 ·rcases iA q with⟨rfl,rfl⟩|⟨n,q⟩
  ·exact⟨by rw[aw,bw];rfl,λy aG=>by
    rcases ub y aG with z|rfl
    ·exact bF.fr y z
    ·exact⟨ak,ab⟩,nd,ok⟩
  ·have z:=e.ok j k q;have ne:∀y,cQ σ ρ j y->y≠c.adr:=λy m=>by rintro rfl;exact n (e.sep j i _ m gp)
   cases k with
   |no=>trivial
   |new d=>exact z
   |pin v d=>exact z
   |val d=>exact z
   |own es=>
    obtain⟨b,z1,aY,eI,eJ⟩:=z;exact⟨b,z1,aY,eI,eJ.mono (cF.refl _) (de (ne b (.inl ⟨hG z1,.inr ⟨es,q⟩⟩)))⟩
   |deep d=>exact⟨z.1,z.2.fr,z.2.nd,z.2.ok.mono (cF.refl _) λb fu=>de (ne b (.inr ⟨d,q,fu⟩))⟩
   |bag=>
    obtain⟨b,z1,aY,eI,eJ⟩:=z;exact⟨b,z1,aY,eI,eJ.upd (ne b (.inl ⟨hG z1,.inl q⟩))⟩
 ·have back:∀a,cQ σ (ρ.set i (.deep c')) a y->cQ σ ρ a y\/(a=i/\y=p):=λa m=>by
   rcases m with⟨bm,bJ⟩|⟨d,bm,bJ⟩
   ·refine .inl (.inl ⟨bm,?_⟩);rcases bJ with bJ|⟨es,bJ⟩
    ·rcases iA bJ with⟨_,z⟩|⟨_,bJ⟩
     ·cases z
     ·exact .inl bJ
    ·rcases iA bJ with⟨_,z⟩|⟨_,bJ⟩
     ·cases z
     ·exact .inr ⟨es,bJ⟩
   ·rcases iA bm with⟨rfl,z⟩|⟨_,bm⟩
    ·cases z;rcases ub y bJ with z|z
     ·exact .inl (.inr ⟨c,aB,z⟩)
     ·exact .inr ⟨rfl,z⟩
    ·exact .inl (.inr ⟨d,bm,bJ⟩)
  rcases back a aG with h1|⟨h1,sS⟩
  ·rcases back b hz with h2|⟨h2,sT⟩
   ·exact e.sep a b y h1 h2
   ·subst sT;exact absurd h1 (av a)
  ·rcases back b hz with h2|⟨h2,_⟩
   ·subst sS;exact absurd h2 (av b)
   ·rw[h1,h2]
end
def RM(r:V->ZJ->am->cN->Prop)(to:bK)(t:eE):bK:=λσ H Q=>to σ H λx ar=>(∃a,x=.ref a/\Gs ar a)/\t σ ar λxs a5=>r x xs a5 Q
theorem RN{X:aJ}{o e:Wp}{es:ZT}{to:bK}{t:eE}{name:Str}{dr cr:Pos}{id:String}{r:V->ZJ->am->cN->Prop}(slot:Slot "dict" name id)(su:typeOf (.builtin id)=pure (.type "method_descriptor"))(av:vm X id r)(aB:b6 X o to)(aw:hl X (e::es) t)(g4:Xx o name X.env (XJ o X.env)=XJ o X.env:=by rfl)(j5:((XC cr (TD (e::es) X.env)).all (λx => !x.1)&&(YL cr (X6 [] X.env)).all (λx=>x.1.isSome)
   && decide ((e::es).length+([]:ZV).length+(if([]:ZV).isEmpty then 0 else 1)<30))=true:=by rfl)(g5:(dr.endLine==cr.line)=true:=by rfl)(aj:TD (e::es) X.env=(false,XJ e X.env)::TD es X.env:=by rfl)(pG:(XC cr (TD es X.env)).any (·.1)=false:=by rfl):
  b6 X (.Call (.Attribute o name dr) (e::es) [] cr) (RM r to t):=by
 intro pins s σ H Q I h;refine YQ g4 j5 g5 rfl (cc (aB pins s σ H _ I h) λv az ⟨x,ar,a2,r1,⟨a,dN,bc,QA,ks1,as1,kR,kS⟩,aO⟩=>?_);subst dN;obtain rfl:v=Value.ref a:=r1;obtain⟨h1,h2⟩:=kS.typ a2;refine⟨"dict",id,Wi,slot,su,h1,h2,?_⟩;have g6:=aw cr pins az σ ar _ a2 aO;rw[aj]at g6⊢;refine Calls.callWith_builtin (by show(false||(XC cr (TD es X.env)).any (·.1))=false;rw[pG]<;>rfl) (Calls.evalArgs_plain ?_);exact cc g6 λus a3 ⟨vs,a5,dM,r2,bz⟩=>av pins a3 σ a5 (.ref a) vs (.ref a) us Q dM rfl r2 bz
def RO(b:Bool)(i:Nat):cX:=λU ρ=>∀a,U.nx (ρ.set i (.deep (.dl b a [] [] [])))
def RP(b:Bool)(n:Nat)(iP lS:a9):cX:=λU ρ=>∃a ks as b2,ρ[n]?=some (.deep (.dl b a ks as b2))/\iP ρ λy=>∃aL,y=i0 b aL/\tQ b aL/\ks.length<TT/\b2.length=ks.length/\(∀ds,bB ks b2 aL=some ds->ds.length<TT) /\
 ∀as1 dss1,lS (ρ.set n (.deep (.dl b a (eM ks aL) as1 dss1))) λd=>U.nx (ρ.set n (.deep (.dl b a (eM ks aL) as1 (qb ks b2 aL d))))
section
variable{X:aJ}{b:Bool}{n:Nat}{x:Str}{px pos eF dr cr BA rB tR cm:Pos}{e f:Wp}{iP lS:a9}
theorem RR{i:Nat}(bi:X.N.Nodup)(au:X.N[i]?=some x)(aq:Loc X.env.scope x)(aj:XE (.Dict [] [] tR) (some (.Name x eF)) pos.line X.env=pure false:=by rfl)(bf:X.fn x=true\/X.env.scope.names.lookup x=some .local:=by first|exact .inl rfl|exact .inr rfl|assumption):
  fM X (.Assign [.Name x eF] (.Dict [] [] tR) pos) (RO b i):=by
 refine⟨_,pv bi au aq (Gv (b:=b)) aj bf,λU ρ h R W B H σ D e s=>?_⟩;intro p ae;obtain⟨a4,a',bP⟩:=e.toWd.fresh ae;refine s.nx _ _ B _ (h p) ((e.allocH ae _).set i ⟨rfl,λa aw=>?_,by simp[hF.adr,hF.ins],0,[],eP,.nil,λ_ _ z=>by simp at z,rfl,λj a ds z=>by simp at z⟩ (λa _ z=>by rcases z with z|⟨_,z⟩<;>cases z) λa aw j _ m=>?_) (bV.refl _ _)
 ·have:a=p:=by simpa[hF.adr,hF.ins]using aw
  subst this;exact⟨a4,bP⟩
 ·have:a=p:=by simpa[aQ.adrs,hF.adr,hF.ins]using aw
  subst this;exact e.notNew ae m rfl
theorem Ho{α:Type}:∀{ks:List ZX}{ds:List α}{k:ZX}{x:α},bB ks ds k=some x->k∈ks
 |[],_,_,_,h=>by simp[bB]at h
 |_::_,[],_,_,h=>by simp[bB]at h
 |k'::ks,d::ds,k,x,h=>by
  rw[bB]at h;by_cases e:k'=k
  ·rw[e];exact Sv
  ·rw[SZ e]at h;exact Sy _ (Ho h)
theorem Hp{K:F6}{t:bK}{U:iB}{D:m0}{ρ gF:ZL}{R:am}{W:TI->Prop}{B Hq H:am}{σ:St}{a x:TI}{ks1 ks:List ZX}{as as1:ZS}{b2 dss1:List (List L3.D)}{j:Nat}{ds:List L3.D}{F:L3.D->List (List L3.D)}(r2:e' K t lS)(fl:a0 K R W B H σ gF)(aB:ρ[n]?=some (.deep (.dl b a ks as b2)))(ai:ρ.set n (.deep (.dl b a ks1 as1 dss1))=gF)(aq:as1[j]?=some x)(hd:dss1[j]?=some ds)(ao:ds.length<TT)(g:bV R Hq B)(dQ:sA K R W Hq U D)(ay:lS (ρ.set n (.deep (.dl b a ks1 as1 dss1))) λd=>U.nx (ρ.set n (.deep (.dl b a ks1 as1 (F d)))))(kH:∀d,F d=dss1.set j (ds++[d])):
  vn K "list" (.ref x) H/\ve t vd σ H λxs cI=>DK (.ref x) xs cI λ_ mz=>D.nx σ mz:=by
 have Hr:n<ρ.length:=by
  by_cases z:n<ρ.length
  ·exact z
  ·rw[Th (by lia)]at aB;cases aB
 have BB:gF[n]?=some (.deep (.dl b a ks1 as1 dss1)):=by rw[<-ai,TX Hr]
 obtain⟨_,bF⟩:=fl.deepAt BB;obtain⟨_,_,_,_,_,mL⟩:=bF.ok;obtain⟨vs,aH,_⟩:=mL.at_ j x ds aq hd;refine⟨.inl ⟨rfl,vs,cE.of aH⟩,?_⟩;rw[ai]at ay;refine r2 gF _ ay R W B H σ _ fl λd v ca a5 aY a' aP a3=>?_;obtain⟨gC,lL⟩:=a'.deepAt BB;obtain⟨g1,o4,cW,f5,kD,kE⟩:=lL.ok;have BC:a5 a=some (g9 b a g1 ks1 o4 (as1.map V.ref)):=cW;obtain⟨my,RS,Hs⟩:=kE.at_ j x ds aq hd;have uc:(a::as1).Nodup:=lL.nd;have cw:x∈as1:=Tt aq;have RT:a≠x:=λz=>(TJ.mp uc).1 (by rw[z];exact cw);refine⟨x,my,v,rfl,rfl,RS,by rw[Hs.length];exact ao,?_⟩;have bP:=a'.deepW (c':=.dl b a ks1 as1 (F d)) (x:=x) (o:=.lst (my++[v])) BB (Sy _ cw) rfl (λy aG=>aG) uc ⟨g1,o4,by rw[de RT];exact BC,f5,kD,by rw[kH,Ug];exact kE.len,λi y es aG k2=>?_⟩
 ·rw[<-ai,Ua]at bP;exact dQ.nx _ _ ca _ aY bP (g.trans aP)
 ·rw[kH]at k2;by_cases z:j=i
  ·subst z;rw[aq]at aG;cases aG;rw[TX (by have:=T8.mp hd;exact this.1)]at k2;cases k2;exact⟨_,eP,Hs.append (.cons a3 .nil)⟩
  ·rw[TP z]at k2;obtain⟨us,wQ,BD⟩:=kE.at_ i y es aG k2;refine⟨us,?_,BD⟩;rw[de ?_]
   ·exact wQ
   ·rintro rfl;have a6:i<as1.length:=(T8.mp aG).1;exact z ((W0 a6 (TJ.mp uc).2).mp (aG.trans aq.symm)).symm
theorem RU(n:Nat)(bo:X.A.units+4<XZ)(ax:bn X e iP)(bf:bn X f lS)(bi:X.N[n]?=some x:=by rfl)(aH:iq X.env.scope x:=by first|exact SF rfl|exact SP (SF rfl)|exact SP (SP rfl))(hd:(x==("__debug__":Str))=false:=by decide)(ec:(x==("__classdict__":Str))=false:=by decide)(g4:Xx (.Name x px) "setdefault" X.env (XJ (.Name x px) X.env)=XJ (.Name x px) X.env:=by rfl)(j5:((XC cr (TD [e,.List [] cm] X.env)).all (λx => !x.1)&&(YL cr (X6 [] X.env)).all (λx=>x.1.isSome)
   && decide (([e,.List [] cm]:ZT).length+([]:ZV).length+(if([]:ZV).isEmpty then 0 else 1)<30))=true:=by rfl)(g5:(dr.endLine==cr.line)=true:=by rfl)(tA:TD [e,.List [] cm] X.env=(false,XJ e X.env)::TD [.List [] cm] X.env:=by rfl)(ix:TD [.List [] cm] X.env=(false,XJ (.List [] cm) X.env)::TD [] X.env:=by rfl)(RV:(XC cr (TD [.List [] cm] X.env)).any (·.1)=false:=by rfl)(RW:Xx (.Call (.Attribute (.Name x px) "setdefault" dr) [e,.List [] cm] [] cr) "append" X.env (XJ (.Call (.Attribute (.Name x px) "setdefault" dr) [e,.List [] cm] [] cr) X.env)=XJ (.Call (.Attribute (.Name x px) "setdefault" dr) [e,.List [] cm] [] cr) X.env:=by rfl)(RX:((XC rB (TD [f] X.env)).all (λx => !x.1)&&(YL rB (X6 [] X.env)).all (λx=>x.1.isSome)
   && decide ([f].length+([]:ZV).length+(if([]:ZV).isEmpty then 0 else 1)<30))=true:=by rfl)(RY:(BA.endLine==rB.line)=true:=by rfl)(q3:TD [f] X.env=(false,XJ f X.env)::TD [] X.env:=by rfl)(RZ:(XC rB (TD ([]:ZT) X.env)).any (·.1)=false:=by rfl)(nr:XE (.Call (.Attribute (.Call (.Attribute (.Name x px) "setdefault" dr) [e,.List [] cm] [] cr) "append" BA) [f] [] rB) none pos.line X.env=pure false:=by rfl):
  fM X (.Expr (.Call (.Attribute (.Call (.Attribute (.Name x px) "setdefault" dr) [e,.List [] cm] [] cr) "append" BA) [f] [] rB) pos) (RP b n iP lS):=by
 obtain⟨_,h1,r1⟩:=ax;obtain⟨_,h2,r2⟩:=bf
 refine⟨_,u3 (zo Vi WX WY zq
  (RN Xe PySem.F.type_dict_setdefault (RJ (b:=b) bo) (mc bi aH hd ec) (fi h1 (fi (vf gN) gN ix) tA) g4 j5 g5 tA RV)
  (fi h2 gN q3) RW RX RY q3 RZ) nr,λU ρ h R W B H σ D fl dQ=>?_⟩
 obtain⟨a,ks,as,b2,aB,h⟩:=h;obtain⟨bw,bF⟩:=fl.deepAt aB;obtain⟨ep,oo,c4,bE,bG,mL⟩:=bF.ok;refine⟨_,bw,⟨a,rfl,b,ep,ks,oo,_,c4,oW fl.bh bG bE⟩,?_⟩;refine r1 ρ _ h R W B H σ _ fl λy v bd ar z1 a4 aI az=>?_;obtain⟨aL,rfl,ag,ao,agq,hz,ay⟩:=z1;obtain⟨c,rfl⟩:=wR az;refine⟨S8 _,λp ae=>?_⟩;obtain⟨aO,bz,et⟩:=a4.toWd.fresh ae;have a':=a4.allocH ae (.lst []);have ip:∀j,¬cQ σ ρ j p:=λj m=>a4.notNew ae m rfl;obtain⟨_,gC⟩:=a'.deepAt aB;obtain⟨g1,o4,cW,f5,kD,kE⟩:=gC.ok;have BC:(upd ar p (.lst [])) a=some (g9 b a g1 ks o4 (as.map V.ref)):=cW;have xk:as.length=b2.length:=kE.len;have uc:(a::as).Nodup:=gC.nd;have agr:bB ks b2 aL=none\/∃ds,bB ks b2 aL=some ds:=by cases bB ks b2 aL with|none=>exact .inl rfl|some ds=>exact .inr ⟨ds,rfl⟩
 refine⟨a,c,.ref p,g1,ks,o4,as.map V.ref,aL,rfl,rfl,⟨BC,oW a'.bh kD f5⟩,tP a'.bh ag az,ao,λv aH=>?_,λaN BE=>?_⟩
 ·
  obtain⟨j,ee,eK⟩:=Hn aH
  have R0:j<b2.length:=by
   have:=T8.mp ee;obtain⟨z,_⟩:=this;rw[Sw]at z;lia
  have na:=S5 R0
  obtain⟨bC,qd,rfl⟩:∃bC,as[j]?=some bC/\v=.ref bC:=by
   rw[S4]at ee;cases q:as[j]? with
   |none=>rw[q]at ee;cases ee
   |some bC=>rw[q]at ee;exact⟨bC,rfl,(SU ee).symm⟩
  have m:aL∈ks:=by
   by_cases z:aL∈ks
   ·exact z
   ·have h8:(as.map V.ref).length=ks.length:=by
     have:=(eK b2 b2[j] .non (by rw[Sw];lia) na).1;obtain⟨_,aF,_⟩:=Hm this
     exact absurd aF (by
      have:=Ho aH
      exact absurd this z)
    exact absurd ((oT h8).mpr z) (by rw[aH];simp)
  have kM:eM ks aL=ks:=SL m;refine Hp (ds:=b2[j]) r2 a' aB (by rw[kM];exact RL aB) qd na (hz _ (eK b2 b2[j] .non (by rw[Sw];lia) na).1) aI dQ (ay as b2) λd=>?_;rw[<-(eK b2 b2[j] d (by rw[Sw];lia) na).2];unfold qb;rw[SL m]
 ·have h8:(as.map V.ref).length=ks.length:=by
   rw[Sw];lia
  have m:aL∉ks:=(oT h8).mp aN;have kM:eM ks aL=ks++[aL]:=SZ m;rw[Sw]at h8
  have ss:a≠p:=λz=>by
   have:=bF.ok;obtain⟨_,BF⟩:=a4.deepAt aB;exact BF.ok.ne (a:=a) Sv (by rw[z];exact ae)
  have pin:p∉as:=λz=>by
   obtain⟨_,BF⟩:=a4.deepAt aB;exact BF.ok.ne (a:=p) (Sy _ z) ae
  have Ht:(a::(as++[p])).Nodup:=by
   rw[<-Tp,Wj];refine⟨uc,by simp,λx aq y aG=>?_⟩;rw[SM.mp aG];rcases SG.mp aq with z|z
   ·rw[z];exact ss
   ·rintro rfl;exact pin z
  have bP:=a'.deepN (c':=.dl b a (ks++[aL]) (as++[p]) (b2++[[]])) (p:=p) (vs:=[]) (o:=g9 b a BE (ks++[aL]) (o4++[c]) (as.map V.ref++[.ref p])) aB eP aO et ip rfl (λy aG=>by
    rcases SR.mp aG with z|z
    ·exact .inl z
    ·exact .inr (SM.mp z)) Ht ⟨BE,o4++[c],by
     show upd _ a _ a=_
     rw[eP,SI];rfl,?_,?_,by rw[SH,SH,xk];rfl,λi y es aG k2=>?_⟩
  ·have bP:a0 X.K R W bd (upd (upd ar p (.lst [])) a (g9 b a BE (ks++[aL]) (o4++[c]) (as.map V.ref++[.ref p]))) σ (ρ.set n (.deep (.dl b a (eM ks aL) (as++[p]) (b2++[[]])))):=by rw[kM];exact bP
   refine Hp (F:=λd=>qb ks b2 aL d) (ds:=[]) (j:=as.length) (x:=p) (as1:=as++[p]) (dss1:=b2++[[]]) (ks1:=eM ks aL) r2 bP aB rfl (by rw[To (Sx _)];simp) (by rw[xk,To (Sx _)];simp) (by decide) aI dQ (ay _ _) λd=>?_;unfold qb;rw[SZ m,xk,List.set_append_right _ _ (Sx _)];simp
  ·rw[SI,SI];exact f5.append (.cons az .nil)
  ·intro z k' R1;rcases SR.mp R1 with w|w
   ·exact kD z k' w
   ·rw[SM.mp w];exact ag z
  ·have R2:y≠a:=by
    rintro rfl;have:y∈as++[p]:=Tt aG;exact(TJ.mp Ht).1 this
   show ∃vs,upd _ a _ y=_/\_
   rw[de R2];by_cases z:i<as.length
   ·rw[TC z]at aG;rw[TC (by lia)]at k2;exact kE.at_ i y es aG k2
   ·rw[To (by lia)]at aG k2
    have lN:i-as.length=0:=by
     by_cases q:i-as.length=0
     ·exact q
     ·rw[Th (by simp;lia)]at aG;cases aG
    rw[lN]at aG;rw[<-xk,lN]at k2;simp at aG k2;subst aG k2;exact⟨[],eP,.nil⟩
end
section
variable{K:F6}{R:am}{W:TI->Prop}{B aC H al:am}{σ:St}{ρ:ZL}
theorem a0.fzIn:∀{as:ZS}{b2:Z0}{B:am},a0 K R W B H σ ρ->as.Nodup->mn K B H as b2->(∀a∈as,R a=none/\B a=none/\∀i,¬cQ σ ρ i a)->∃aC,a0 K R W aC H σ ρ/\bV R B aC/\Reps K aC (as.map V.ref) (b2.map D.lst)/\∀a,a∉as->aC a=B a
 |[],[],B,e,_,_,_=>⟨B,e,bV.refl _ _,.nil,λ_ _=>rfl⟩
 |[],_::_,_,_,_,h,_=>by have:=h.len;simp at this
 |_::_,[],_,_,_,h,_=>by have:=h.len;simp at this
 |a::as,ds::b2,B,e,nd,h,bf=>by
  obtain⟨vs,h1,h2⟩:=h.at_ 0 a ds rfl rfl;obtain⟨a4,a',bP⟩:=bf a Sv;obtain⟨ai,aI⟩:=e.freeze h1 a4 a' bP;obtain⟨bX,dn⟩:=TJ.mp nd
  have h':mn K (upd B a (.lst vs)) H as b2:=⟨by have:=h.len;simpa using this,λi x es aq ax=>by
   obtain⟨us,dm,dz⟩:=h.at_ (i+1) x es (by simpa using aq) (by simpa using ax)
   exact⟨us,dm,dz.mono aI.s⟩⟩
  obtain⟨ca,ap,aP,r2,jz⟩:=a0.fzIn ai dn h' λx aq=>by
   obtain⟨aO,bz,et⟩:=bf x (Sy _ aq);exact⟨aO,by rw[de (by rintro rfl;exact bX aq)];exact bz,et⟩
  refine⟨ca,ap,aI.trans aP,.cons (.lst (aP.s _ _ eP) (h2.mono (aI.trans aP).s)) r2,λx aq=>?_⟩;rw[jz x λz=>aq (Sy _ z),de (by rintro rfl;exact aq Sv)]
theorem a0.fzDL(e:a0 K R W B H σ ρ){i:Nat}{c:hF}(aB:ρ[i]?=some (.deep c)):∃aC,bV R B aC/\a0 K R W aC H σ (ρ.set i (.val (match c with|.ll _ _ b2=>.lst (b2.map D.lst)|.dl b _ ks _ b2=>.dct b ks (b2.map D.lst)))):=by
 obtain⟨bw,bF⟩:=e.deepAt aB;have f:=e.setV (d:=.non) i (v:=.non) .non
 have gp:∀x∈c.adr::c.ins,∀j,¬cQ (σ.set i (some V.non)) (ρ.set i (.val .non)) j x:=λx aq j m=>by
  obtain⟨n,m⟩:=qU m (by simp) (by simp) rfl;exact n (e.sep j i x m (.inr ⟨c,aB,aq⟩))
 have Hr:i<ρ.length:=by
  by_cases z:i<ρ.length
  ·exact z
  ·rw[Th (by lia)]at aB;cases aB
 have fU:∀(o:e6)(b2:Z0)(d:D),H c.adr=some o->mn K B H c.ins b2->(∀ca,cF B ca->ca c.adr=some o->Reps K ca (c.ins.map V.ref) (b2.map D.lst)->b3 K ca (.ref c.adr) d)->∃aC,bV R B aC/\a0 K R W aC H σ (ρ.set i (.val d)):=λo b2 d h1 h2 aF=>by
  obtain⟨bX,dn⟩:=TJ.mp bF.nd;obtain⟨ca,ap,aP,r2,jz⟩:=f.fzIn dn h2 λx aq=>⟨(bF.fr x (Sy _ aq)).1,(bF.fr x (Sy _ aq)).2,gp x (Sy _ aq)⟩;obtain⟨aO,bz⟩:=bF.fr c.adr Sv;obtain⟨br,g3⟩:=ap.freezeO h1 aO (by rw[jz _ bX];exact bz) (gp _ Sv);refine⟨_,aP.trans g3,?_⟩;have cW:=br.setV i (aF _ (aP.trans g3).s eP (r2.mono g3.s));rw[Ua,Ua,RK bw]at cW;exact cW
 cases c with
 |ll a as b2=>exact fU _ b2 _ bF.ok.1 bF.ok.2 λca s h r=>.lst h r
 |dl b a ks as b2=>
  obtain⟨ep,oo,h1,h2,aF,bj⟩:=bF.ok;exact fU _ b2 _ h1 bj λca s h r=>.dct h (h2.mono s) aF r
end
def R3(i:Nat)(s:cX):cX:=λU ρ=>∃b a ks as b2,ρ[i]?=some (.deep (.dl b a ks as b2))/\s U (ρ.set i (.val (.dct b ks (b2.map D.lst))))
section
variable{X:aJ}{bA:Wp}{w:cZ}{pos:Pos}
theorem R4{st:ZU}{s:cX}(i:Nat)(h:hp X st s):hp X st (R3 i s):=by
 obtain⟨_,h1,r1⟩:=h;refine⟨_,h1,λU ρ h R W B H σ D e dQ=>?_⟩;obtain⟨b,a,ks,as,b2,aB,z⟩:=h;obtain⟨aC,g,aW⟩:=e.fzDL aB;exact r1 U _ z R W aC H σ D aW (dQ.grow g)
theorem Hu{dD:Wp}{body:ZU}{g:gd}{s:cX}(ae:YT (UF X.prog X.w) X.A X.env X.xe)(hc:X.calm=true)(au:xj X bA dD w)(aD:kF X bA g)(ab:hp X body s)(aj:∀x,Xu dD X.env x=pure x:=by intro _;rfl):fM X (.For bA dD body [] pos) (En w g s):=by
 obtain⟨_,h0,ha⟩:=au;obtain⟨_,h1,r1⟩:=aD;obtain⟨_,h2,r2⟩:=ab;refine⟨_,y7 ae hc h0 h1 h2 aj,λU ρ h R W B H σ D e dQ=>?_⟩;refine ha ρ _ h R W B H σ _ e λds J bd ar z1 ai aI it=>?_;refine⟨λi m bq al=>∃bS aC,m=ds.length-i/\i<=ds.length/\h5 g s U (ds.drop i) bS/\a0 X.K R W aC al bq bS/\bV R B aC/\cF bd aC,⟨ds.length,ρ,bd,by simp,S8 _,z1,ai,aI,cF.refl _⟩,?_⟩;rintro i m hC a5 ⟨gF,ca,rfl,au,aY,ap,aP,a3⟩;obtain⟨ew,cP,fx⟩:=it a5 (a3.trans ap.bh) i;by_cases dF:i<ds.length
 ·refine .inr ⟨ew dF,λbq al=>∃bS aC,h5 g s U (ds.drop (i+1)) bS/\a0 X.K R W aC al bq bS/\bV R B aC/\cF bd aC,?_,?_⟩
  ·rintro bq al ⟨bS,aC,z,aW,g',s'⟩;exact⟨ds.length-(i+1),by lia,bS,aC,rfl,dF,z,aW,g',s'⟩
  ·rintro x al aG;obtain⟨q,vs,es,mG,rfl,rfl,hd,bt⟩:=fx x al dF aG
   have hK:ds.drop i=.tup es::ds.drop (i+1):=by
    rw[UI dF];rw[S5 dF]at hd;rw[SU hd]
   rw[hK]at aY;have g3:=ap.grow mG (.tup vs);have br:=ap.alloc mG (.tup vs);refine r1 _ gF _ aY R W _ _ hC (.ref q) _ br (.tup eP (bt.mono (a3.trans g3.s))) λbS bq fe aW _=>?_;have el:=aP.trans g3;have gk:=a3.trans g3.s;exact r2 _ bS fe R W _ _ bq _ aW ⟨λbS bq aC al z aW g=>⟨bS,aC,z,aW,el.trans g,gk.trans g.s⟩,λbS bq aC al z aW g=>dQ.nx bS bq aC al z aW (el.trans g),λbS bq aC al z aW g=>⟨bS,aC,z,aW,el.trans g,gk.trans g.s⟩,λr v aC al z aW g q=>dQ.rt r v aC al z aW (el.trans g) q⟩
 ·have ei:i=ds.length:=by lia
  subst ei;rw[U0]at aY;exact .inl ⟨cP (Sx _),dQ.nx gF hC ca a5 aY ap aP⟩
end
end L3
namespace Cut
open PySem L2 L3
open PySem.Builtin.Int (intBits)
theorem fZ.refl(rs:ZZ):fZ rs rs:=λ_=>rfl
end Cut
namespace Tab
open PySem PySem.SetTable
section
variable{prog:Uf}{w:WP}{A:Xv}{E:Tk->Tl->Prop}{s:Tl}
theorem BG{t:XK}{hashAt:Nat->Int}{h:Int}:∀(fuel:Nat)(p:Probe)(j:Nat)(d:Option Nat),SetTable.probe.go t hashAt h fuel p=some (.empty j d)->t.slot j=.empty
 |0,_,_,_,e=>by cases e
 |fuel+1,p,j,d,e=>by
  unfold SetTable.probe.go at e;cases q:t.slot p.j with
  |empty=>
   rw[q]at e;cases e;exact q
  |dummy=>
   rw[q]at e;exact BG fuel _ j d e
  |live i=>
   rw[q]at e;dsimp only at e;split at e
   ·cases e
   ·exact BG fuel _ j d e
end
def k3(xs:Array Nat):Prop:=∀i j,i<j->j<xs.size->xs.getD i 0<xs.getD j 0
theorem mP{xs:Array Nat}{i:Nat}(h:i<xs.size)(d:Nat):xs.getD i d=xs[i]:=by simp[Array.getD,h]
theorem BH{xs:Array Nat}{j:Nat}(r:k3 xs):∀(fuel lo au:Nat),au-lo<=fuel->lo<=au->au<=xs.size->(∀i,i<lo->xs.getD i 0<j)->(∀i,au<=i->i<xs.size->j<=xs.getD i 0)->
  ∃p,SetTable.below.go xs j fuel lo au=p/\p<=xs.size/\(∀i,i<p->xs.getD i 0<j)/\∀i,p<=i->i<xs.size->j<=xs.getD i 0
 |0,lo,au,h,a6,a7,a,b=>by
  have e:lo=au:=by lia
  subst e;exact⟨lo,rfl,a7,a,b⟩
 |fuel+1,lo,au,h,a6,a7,a,b=>by
  unfold SetTable.below.go;by_cases z:lo<au
  ·rw[SL z];dsimp only;have jd:(lo+au)/2<xs.size:=by lia
   have g:xs.getD ((lo+au)/2) j=xs.getD ((lo+au)/2) 0:=by rw[mP jd,mP jd]
   rw[g];by_cases c:xs.getD ((lo+au)/2) 0<j
   ·rw[SL c];refine BH r fuel _ au (by lia) (by lia) a7 (λi qe=>?_) b;by_cases q:i=(lo+au)/2
    ·rw[q];exact c
    ·exact Wk (r i ((lo+au)/2) (by lia) jd) c
   ·rw[SZ c];refine BH r fuel lo _ (by lia) (by lia) (by lia) a λi h1 h2=>?_;by_cases q:i=(lo+au)/2
    ·rw[q];lia
    ·exact SA (VU c) (UT (r ((lo+au)/2) i (by lia) h2))
  ·rw[SZ z];have e:lo=au:=by lia
   subst e;exact⟨lo,rfl,a7,a,b⟩
theorem BI{xs:Array Nat}(r:k3 xs)(j:Nat):SetTable.below xs j<=xs.size/\(∀i,i<SetTable.below xs j->xs.getD i 0<j)/\∀i,SetTable.below xs j<=i->i<xs.size->j<=xs.getD i 0:=by
 obtain⟨p,e,h⟩:=BH (j:=j) r xs.size 0 xs.size (by lia) (S8 _) (Sx _) (λi h=>absurd h (Wq _)) (λi h1 h2=>absurd h2 (by lia));have:SetTable.below xs j=p:=e;rw[this];exact h
theorem R5{xs:Array Nat}(r:k3 xs){i:Nat}(h:i<xs.size):SetTable.below xs (xs.getD i 0+1)=i+1:=by
 obtain⟨a,b,c⟩:=BI r (xs.getD i 0+1);generalize SetTable.below xs (xs.getD i 0+1)=p at a b c;rcases Nat.lt_trichotomy p (i+1)with z|z|z
 ·have:=c i (by lia) h;lia
 ·exact z
 ·have:=b (i+1) z;have q:=r i (i+1) (by lia) (by lia);lia
theorem R6{xs:Array Nat}(r:k3 xs):SetTable.below xs 0=0:=by
 obtain⟨a,b,c⟩:=BI r 0;generalize SetTable.below xs 0=p at a b c;by_cases z:0<p
 ·have:=b 0 z;lia
 ·lia
theorem Hv{xs:Array Nat}:k3 xs↔xs.toList.Pairwise (· < ·):=by
 rw[List.pairwise_iff_getElem];constructor
 ·intro r i k au ag BJ;have h:=r i k BJ (by simpa using ag);rw[mP (by simpa using au),mP (by simpa using ag)]at h;simpa using h
 ·intro r i k BJ ag;have h:=r i k (by simp;lia) (by simpa using ag) BJ;rw[mP (by lia),mP ag];simpa using h
theorem R7{xs:Array Nat}{j:Nat}(r:k3 xs)(n:xs[SetTable.below xs j]?≠some j):k3 (SetTable.insertAt xs (SetTable.below xs j) j):=by
 obtain⟨a,b,c⟩:=BI r j;generalize ae:SetTable.below xs j=p at a b c n
 have e:(SetTable.insertAt xs p j).toList=xs.toList.take p++j::xs.toList.drop p:=by
  unfold SetTable.insertAt;simp;exact UK (by simp)
 rw[Hv,e];have ib:=Hv.mp r
 have Hw:∀x∈xs.toList.take p,x<j:=λx aq=>by
  obtain⟨i,au,q⟩:=Xf.mp aq;have qe:i<p:=by simp at au;lia
  have:=b i qe;rw[mP (by lia)]at this;rw[<-q,List.getElem_take];simpa using this
 have Hx:∀x∈xs.toList.drop p,j<x:=λx aq=>by
  obtain⟨i,au,q⟩:=Xf.mp aq;have qe:p+i<xs.size:=by simp at au;lia
  have h1:=c (p+i) (by lia) qe;rw[mP qe]at h1;have h2:x=xs[p+i]:=by rw[<-q,List.getElem_drop];simp
  rw[h2];rcases Nat.lt_or_ge j xs[p+i]with z|z
  ·exact z
  ·exfalso
   have ai:xs[p+i]=j:=by lia
   by_cases lN:i=0
   ·subst lN;exact n (by rw[Vy (by lia)];exact TW some ai)
   ·have aF:=c p (by lia) (by lia);have bj:=r p (p+i) (by lia) qe;rw[mP qe,ai]at bj;lia
 refine List.pairwise_append.mpr ⟨ib.sublist (WN _ _),Wr.mpr ⟨Hx,ib.sublist (List.drop_sublist _ _)⟩,λx aq y aG=>?_⟩;rcases SG.mp aG with rfl|aG
 ·exact Hw x aq
 ·exact Wk (Hw x aq) (Hx y aG)
theorem R8{t:XK}{j:Nat}(h:t.slot j=.empty):t.place[SetTable.below t.place j]?≠some j:=λe=>by
 unfold SetTable.slot at h;dsimp only at h;rw[e]at h;simp at h
theorem R9{t:XK}{j:Nat}(r:k3 t.place)(h:t.slot j=.empty):k3 (t.put j).1.place:=R7 r (R8 h)
instance(m:Nat):Decidable (nD m):=by unfold nD;infer_instance
end Tab
namespace Tab
open PySem PySem.SetTable PyProof.Rows
section
variable{prog:Uf}{w:WP}{A:Xv}{E:Tk->Tl->Prop}{s:Tl}
def byT(w:WP):Bool:=w.params.followText "set-order"
theorem R'(a:Tk){Q₁:Tk->Tl->Prop}(h:Q₁ (.ref s.heap.objs.size) {s with heap:=s.heap.push (fresh (!byT w))}):codeAny (UF prog w) A (.call (.builtin "set.__new__") ⟨[.type "set",a],[]⟩) (wants Q₁ E) s:=by
 refine codeAny_of_tree (show wpAny _ A.in1 (do checkBuiltinCall "set.__new__" ⟨[.type "set",a],[]⟩;again (.builtin "set.__new__" ⟨[.type "set",a],[]⟩)) _ _ s from ?_);refine SB (Y3 (F.newCall_set_1 a) (SC ⟨Yp F.plain_set_new _,?_⟩));refine XI F.entry_set_new ?_;rw[Around.under_plainId F.plain_set_new _];unfold Yd.«set.__new__» Builtin.Frozenset.newClass;have agu:=sub_set_self;obtain⟨ae,g,d,dA,os⟩:=s;dsimp only;wp_walk;refine YM (SC ?_);dsimp only;simp only[newObj];exact SB (wpAny_alloc (SC (SC h)))
end
end Tab
namespace Tab
open PySem PySem.SetTable
section
variable{prog:Uf}{w:WP}{A:Xv}{E:Tk->Tl->Prop}{s:Tl}
theorem Hy{α:Type}(next:Nat->Nat):∀(fuel k:Nat)(left:List α)(out:Array α),left.length=fuel->(pickOrder.go next fuel k left out).toList.Perm (out.toList++left)
 |0,k,left,out,h=>by
  have:left=[]:=V4 h;subst this;unfold pickOrder.go;simp
 |fuel+1,k,left,out,h=>by
  unfold pickOrder.go;have lt:next k%left.length<left.length:=Uv _ (by lia)
  rw[S5 lt];dsimp only;refine(Hy next fuel (k+1) _ _ (by rw[List.length_eraseIdx_of_lt lt];lia)).trans ?_;rw[Xg,S7];refine Ws _ ?_;generalize next k%left.length=i at lt
  rw[List.eraseIdx_eq_take_drop_succ];have e:left=left.take i++left[i]::left.drop (i+1):=by rw[<-UI lt,Xh]
  conv=>rhs;rw[e]
  exact(List.perm_middle (l₁:=left.take i) (l₂:=left.drop (i+1)) (a:=left[i])).symm
def lV(w:WP)(a:TI)(ep:Nat)(es:Array (Int×Tk)):Array (Int×Tk):=if byT w=true then pickOrder (w.params.setOrder a ep) es else es
theorem ord_perm(a:TI)(ep:Nat)(es:Array (Int×Tk)):(lV w a ep es).toList.Perm es.toList:=by
 unfold lV;split
 ·have:=Hy (w.params.setOrder a ep) es.size 0 es.toList #[] (by simp);simpa[pickOrder]using this
 ·exact .refl _
theorem BK{Q:Bool->Tl->Prop}(h:Q (byT w) s):wpAny (UF prog w) A setsByText Q E s:=by
 unfold setsByText;exact SB (YM (SC h))
theorem Sa{a:TI}{o:Obj}{es:Array (Int×Tk)}{ep n:Nat}{t:XK}{Q:Array (Int×Tk)->Tl->Prop}(aB:s.heap.get? a=some o)(hd:o.data=.set es ep t)(hz:es.size=n)(ok:rn t n)(ao:t.led = !byT w)(ae:t.plain=true)(h:Q (lV w a ep es) s):wpAny (UF prog w) A (setWalk a) Q E s:=by
 unfold setWalk;refine SB (XH aB hd (by rw[hz];exact ok.fits) ?_);dsimp only;refine SB (BK ?_);unfold lV at h;cases q:byT w with
 |true=>
  rw[q]at h;simp only[if_true]at h⊢;exact SB (YM (SC h))
 |false=>
  rw[q]at h ao;simp only[Tq,if_false]at h⊢;change wpAny _ _ (if(!t.plain&&decide (es.size>1))=true then _ else((if(!t.led&&decide (es.size>1))=true then unsupported "set:maker-not-led" else pure ()) >>= λ_=>pure es)) _ _ _;rw[ae,ao];simp only[Ul,Vv,VO,Tq,if_false];exact SB (SC (SC h))
end
end Tab
namespace Tab
open PySem PySem.SetTable PyProof.Rows L2 L3
theorem Sb:Manifest.owners.lookup (String.ofList ['r','o','t','a','r','e','t','i','_','t','e','s'].reverse)=some Manifest.sig_set_iterator:=by kernel_rfl
theorem BL:Slot "set_iterator" "__next__" "set_iterator.__next__":=
 .of (owner:="set_iterator") (n:="__next__") (by rw[typeLookup_type,builtinLookup_eq_fast];kernel_rfl) (by decide +kernel) (by decide +kernel) (by decide +kernel)
  (by first|exact .inl (by decide +kernel)|exact .inr (by decide +kernel)) (by rw[isSubtype_type];kernel_rfl)
theorem Sc:entryFor table "set_iterator.__next__"=some Yd.«set_iterator.__next__»:=entryFor_of_tree (by kernel_rfl)
theorem Sd(a:Tk):argsOk "set_iterator.__next__" ⟨[a],[]⟩:=by
 unfold argsOk;rw[signature?_of (id:="set_iterator.__next__") (n:=['_','_','t','x','e','n','_','_']) (o:=['r','o','t','a','r','e','t','i','_','t','e','s']) (by kernel_rfl) Sb];kernel_rfl
theorem Se:entryFor table "set.__iter__"=some Yd.«frozenset.__iter__»:=entryFor_alias (id':="frozenset.__iter__") (by kernel_rfl) rfl (by decide +kernel) (by kernel_rfl)
section
variable{prog:Uf}{w:WP}{A:Xv}{E:Tk->Tl->Prop}{s:Tl}{a it:TI}{es:Array (Int×Tk)}{ep n:Nat}{t:XK}
def slotAt(w:WP)(t:XK)(i:Nat):Nat:=if byT w=true then 0 else if i=0 then 0 else t.place.getD (i-1) 0+1
def nI(h:XB)(it a:TI)(j i n ep:Nat):Prop:=∃o,h.get? it=some o/\o.cls=.type "set_iterator"/\o.data=.fields #[.int j 0,.int i 0,.ref a,.int n 0,.int ep 0]
def RawS(w:WP)(h:XB)(a:TI)(es:Array (Int×Tk))(ep:Nat)(t:XK):Prop:=∃o,h.get? a=some o/\o.cls=.type "set"/\o.data=.set es ep t/\rn t es.size/\t.led=(!byT w)/\k3 t.place/\t.plain=true
theorem RawS.mono{h h':XB}(x:RawS w h a es ep t)(k:∀o,h.get? a=some o->h'.get? a=some o):RawS w h' a es ep t:=by
 obtain⟨o,q,b⟩:=x;exact⟨o,k o q,b⟩
theorem nI.mono{h h':XB}{j i:Nat}(x:nI h it a j i n ep)(k:∀o,h.get? it=some o->h'.get? it=some o):nI h' it a j i n ep:=by
 obtain⟨o,q,b⟩:=x;exact⟨o,k o q,b⟩
theorem Sf{Q:Tk->Tl->Prop}(av:RawS w s.heap a es ep t)(ir:Q (.ref s.heap.objs.size) {s with heap:=s.heap.push {cls:=.type "set_iterator",data:=.fields #[.int 0 0,.int 0 0,.ref a,.int es.size 0,.int ep 0]} }):wpAny (UF prog w) A (Zx (.ref a)) Q E s:=by
 obtain⟨o,aB,hc,ax,ok,ao,ak,ae⟩:=av;have ty:s.TypeIs (.ref a) "set":=⟨o,aB,hc⟩;refine Ye ty F.slot_set_iter (W1 F.slot_set_iter ty Se ?_ (F.args_set_iter_1 _));unfold Yd.«frozenset.__iter__» Builtin.Frozenset.slot0 Builtin.Frozenset.sizeOf setEntries setDrawn setEpoch;refine SB (SC (SB (SB (SB (XH aB ax ok.fits (SC (SC ?_)))))));refine SB (SB (XH aB ax ok.fits ?_));dsimp only;refine SB (BK (SC ?_));have Sg:(!byT w&&(!t.plain&&decide (es.size>1)))=false:=by rw[ae];simp
 change wpAny _ _ (if(!byT w&&(!t.plain&&decide (es.size>1)))=true then _ else _) _ _ _;rw[Sg,SZ (by simp)];refine SB (SC (SB (SB (XH aB ax ok.fits (SC ?_)))));refine SB (T0 (SC ?_));exact⟨_,rfl,"set_iterator",_,⟨_,Heap.get?_push_size _ rfl,rfl⟩,BL.lookup,by simpa[YD]using ir⟩
theorem BM:(lV w a ep es).size=es.size:=by
 have:=(ord_perm (w:=w) a ep es).length_eq;simpa using this
theorem Sh{i:Nat}{Q:Option (Tk×Nat)->Tl->Prop}(av:RawS w s.heap a es ep t)(au:i<=es.size)(h:Q ((lV w a ep es)[i]?.map λe=>(e.2,slotAt w t (i+1))) s):wpAny (UF prog w) A (setNext a (slotAt w t i) i ep) Q E s:=by
 obtain⟨o,aB,hc,ax,ok,ao,ak,ae⟩:=av;unfold setNext;refine SB (XH aB ax ok.fits ?_);dsimp only;refine SB (BK ?_);unfold slotAt at h⊢;cases q:byT w with
 |true=>
  simp only[q,if_true]at h⊢;rw[SZ (by simp)];exact SB (Sa aB ax rfl ok ao ae (SC h))
 |false=>
  rw[q]at ao;have Si:lV w a ep es=es:=by unfold lV;rw[q];rfl
  rw[Si]at h;simp only[q,Tq,if_false]at h⊢;change wpAny _ _ (if(!t.plain&&decide (es.size>1))=true then _ else((if(!t.led && !es.isEmpty)=true then unsupported "set:maker-not-led" else pure ()) >>= λ_=>_)) _ _ _;rw[ae,ao];simp only[Ul,Vv,VO,Tq,if_false];refine SB (SC (SC ?_));have sz:=ok.sz
  have Sj:SetTable.below t.place (if i=0 then 0 else t.place.getD (i-1) 0+1)=i:=by
   by_cases z:i=0
   ·rw[SL z,z];exact R6 ak
   ·rw[SZ z,R5 ak (by lia)];lia
  rw[Sj];rw[SZ (by lia),Nat.add_sub_cancel]at h;by_cases z:i<es.size
  ·rw[Vy z,Vy (by lia)];rw[Vy z,mP (by lia)]at h;exact h
  ·rw[Vw (by lia)];rw[Vw (by lia)]at h;exact h
theorem Hz{i:Nat}{Q:Option Tk->Tl->Prop}(dE:A.handled=none)(hit:nI s.heap it a (slotAt w t i) i es.size ep)(av:RawS w s.heap a es ep t)(more:∀e h',(lV w a ep es)[i]?=some e->nI h' it a (slotAt w t (i+1)) (i+1) es.size ep->Heap.SameBut it s.heap h'->Q (some e.2) {s with heap:=h' })(done:∀h',es.size<=i->Heap.ExtBut it s.heap h'->Q none {s with heap:=h' })(au:i<=es.size):wpAny (UF prog w) A (Yx (.ref it)) Q E s:=by
 obtain⟨A6,ud,rp,ic⟩:=id hit;have ty:s.TypeIs (.ref it) "set_iterator":=⟨A6,ud,rp⟩;obtain⟨o,aB,hc,ax,ok,ao,ak,ae⟩:=id av;unfold Yx;refine SB (Zc (XT (name:="__next__") ty BL (W1 BL ty Sc ?_ (Sd _))));unfold Yd.«set_iterator.__next__» setEntries;refine SB (SC (SB (YA ud ic ?_)));dsimp only;refine SB (SB (XH aB ax ok.fits (SC ?_)));rw[SZ (by simp)];simp only[Vl];refine SB (Sh av au ?_);cases q:(lV w a ep es)[i]? with
 |some e=>
  simp only[UJ];let h1:=s.heap.update it (Obj.mapFields (·.setIfInBounds 0 (YD (slotAt w t (i+1):Nat))))
  let h2:=h1.update it (Obj.mapFields (·.setIfInBounds 1 (YD ((i:Int)+1))))
  have bM:nI h1 it a (slotAt w t (i+1)) i es.size ep:=by
   refine⟨_,Heap.get?_update_self _ ud ?_,(Obj.cls_mapFields ..).trans rp,?_⟩
   ·exact Obj.isFreed_of_fields (Obj.data_mapFields ic _)
   ·rw[Obj.data_mapFields ic];simp[YD]
  obtain⟨i',aI,c1,bw⟩:=id bM
  have cy:nI h2 it a (slotAt w t (i+1)) (i+1) es.size ep:=by
   refine⟨_,Heap.get?_update_self _ aI ?_,(Obj.cls_mapFields ..).trans c1,?_⟩
   ·exact Obj.isFreed_of_fields (Obj.data_mapFields bw _)
   ·rw[Obj.data_mapFields bw];simp[YD]
  refine SB (XY ud ic (by simp) (SB (XY (s:={s with heap:=h1}) aI bw (by simp) ?_)));exact SC ⟨_,rfl,SC (more e h2 q cy ((Heap.SameBut.update ..).trans (Heap.SameBut.update ..)))⟩
 |none=>
  simp only[Option.map_none];refine SB (XY ud ic (by simp) ?_);show wpAny _ _ (ZF (.type "StopIteration") [] >>= _) _ _ _
  unfold ZF newTuple;refine SB (SB (T0 (SB (m:=X2 _ _) (Y3 (a:=Value.none) (by first|rfl|(unfold X2;rfl)) (T0 ?_ (by size_fits)))) (by size_fits)));unfold raiseNew;refine SB (Zd ?_);rw[show A.in1.handled=none from dE];refine SB (SC (Zv ?_));refine SB (XO (T:="StopIteration") (b:=true) (by exact⟨_,Heap.get?_push_size _ rfl,rfl⟩) YY ?_);refine SC (done _ ?_ (((Heap.SameBut.update ..).extBut.push _).push _));have:=Xi.mp q;rw[BM]at this;exact this
def vls(w:WP)(a:TI)(ep:Nat)(es:Array (Int×Tk)):List Tk:=(lV w a ep es).toList.map (·.2)
theorem Sk{S I:TI}{res:Tk}{R:Result->Tl->Prop}(dE:A.in1.handled=none)(bX:S≠I)(dn:S≠a)(jn:I≠a)(xl:es.size<=TT):
  ∀(k i:Nat)(s:Tl)(c:Nat),es.size-i=k->i<=es.size->nI s.heap I a (slotAt w t i) i es.size ep->RawS w s.heap a es ep t->s.heap.get? S=some (Ze "list" ((vls w a ep es).take i).toArray c)->
  (∀(h':XB)(c':Nat),h'.get? S=some (Ze "list" (vls w a ep es).toArray c')->(∀b o,b≠S->b≠I->s.heap.get? b=some o->h'.get? b=some o)->R (.ok (.ret res)) {s with heap:=h' })->
  codeAny (UF prog w) A (.builtin "list.extend.loop" ⟨[.ref S,.ref I,res],[]⟩) R s:=by
 have lv:(vls w a ep es).length=es.size:=by unfold vls;rw[Sw,Tn,BM]
 intro k;induction k with
 |zero=>
  intro i s c ag au it fm ci mA;have Sl:i=es.size:=by lia
  subst Sl;refine XI F.entry_extend_loop ?_;rw[Around.under_plainId F.plain_extend_loop _];show wpAny _ A.in1 (Yx (.ref I) >>= _) _ _ s
  refine SB (Hz dE it fm (λe h' q _ _=>?_) (λh' _ dY=>SC (mA h' c ?_ λb o _ mr e=>dY b o mr e)) au)
  ·have:=(Array.getElem?_eq_some_iff.mp q).1;rw[BM]at this;lia
  ·have:=dY S _ bX ci
   rwa [UK (by lia)]at this
 |succ k bN=>
  intro i s c ag au it fm ci mA;have dF:i<es.size:=by lia
  refine XI F.entry_extend_loop ?_;rw[Around.under_plainId F.plain_extend_loop _];show wpAny _ A.in1 (Yx (.ref I) >>= _) _ _ s
  refine SB (Hz dE it fm (λe h' q Sm d5=>?_) (λh' q _=>absurd q (by lia)) au);have HA:=(d5.2 S bX).trans ci;have sz:((vls w a ep es).take i).toArray.size=i:=by simp;lia
  show wpAny _ A.in1 (updateSeq S (·.push e.2) >>= _) _ _ _
  refine SB ?_;have rC:Heap.SameBut S h' (h'.update S (Obj.mapSeq (·.push e.2))):=Heap.SameBut.update ..
  have ai:(vls w a ep es).take (i+1)=(vls w a ep es).take i++[e.2]:=by
   rw[We];congr 1;unfold vls;rw[S4,UW,q];rfl
  have Sn:(h'.update S (Obj.mapSeq (·.push e.2))).get? S=some (Ze "list" ((vls w a ep es).take (i+1)).toArray (if(((vls w a ep es).take i).toArray.push e.2).size==((vls w a ep es).take i).toArray.size then c else c+1)):=by
   rw[ai,<-List.push_toArray];exact YV HA λxs=>xs.push e.2
  refine YW HA rfl (SC ⟨Yp F.plain_extend_loop _,bN (i+1) _ _ (by lia) dF (Sm.mono λo e=>rC.extBut _ _ (S9 bX) e) ((fm.mono λo e=>(d5.2 a (S9 jn)).trans e).mono λo e=>rC.extBut _ _ (S9 dn) e) Sn λSo c' bz et=>?_⟩)
   (by rw[sz];lia) (by show(Array.push _ _).size<=TT+1;rw[Wf,sz];lia)
  exact mA So c' bz λb o mr HB e=>et b o mr HB (rC.extBut _ _ mr ((d5.2 b HB).trans e))
theorem collect_set{Q:ZR->Tl->Prop}(dE:A.in1.handled=none)(av:RawS w s.heap a es ep t)(xl:es.size<=TT)(h:∀h':XB,s.heap.objs.size<=h'.objs.size->(∀b o,s.heap.get? b=some o->h'.get? b=some o)->Q (vls w a ep es) {s with heap:=h' }):wpAny (UF prog w) A (collect (.ref a)) Q E s:=by
 obtain⟨o,aB,hc,ax,ok,ao,ak,ae⟩:=id av;have dl:=Heap.lt_size aB;let S:=s.heap.objs.size
 let h1:=s.heap.push (Ze "list" #[] 0)
 have z1:h1.objs.size=S+1:=size_push' _ _;have Sp:Shared.TypeIs {s with heap:=h1} (.ref a) "set":=⟨o,Heap.get?_push_of_some _ aB,hc⟩;let h2:=h1.push {cls:=.type "set_iterator",data:=.fields #[.int 0 0,.int 0 0,.ref a,.int es.size 0,.int ep 0]}
 have BN:Shared.TypeIs {s with heap:=h2} (.ref a) "set":=⟨o,Heap.get?_push_of_some _ (Heap.get?_push_of_some _ aB),hc⟩;have BO:S≠a:=UA dl;have HC:h2.get? S=some (Ze "list" #[] 0):=Heap.get?_push_of_some _ (Heap.get?_push_size _ rfl);have eT:slotAt w t 0=0:=by unfold slotAt;split<;>rfl
 have Sq:nI h2 h1.objs.size a (slotAt w t 0) 0 es.size ep:=by rw[eT];exact⟨_,Heap.get?_push_size _ rfl,rfl,rfl⟩
 have HD:S≠h1.objs.size:=by rw[z1];exact S3 (Nat.lt_succ_self _)
 have Sr:h1.objs.size≠a:=by rw[z1];exact UA (Vz dl)
 unfold collect;refine SB (wpAny_runValue (XI F.entry_proto_collect ?_));rw[Around.under_plainId F.plain_proto_collect _];show wpAny _ A.in1 (newList [] >>= λl=>again (.builtin "list.__iadd__" ⟨[l,.ref a],[]⟩)) _ _ s
 refine SB (T0 (SC ⟨Yp F.plain_list_iadd _,XI F.entry_list_iadd ?_⟩));rw[Around.under_plainId F.plain_list_iadd _];show wpAny _ A.in1 (Builtin.List.listExtendWith (.ref S) (.ref a) (.ref S)) _ _ {s with heap:=h1}
 unfold Builtin.List.listExtendWith;refine SB (Zk Sp ?_);have ew:Builtin.List.listSameRef (.ref S) (.ref a)=false:=by simp[Builtin.List.listSameRef,BO]
 have cP:(Value.type "set"==Value.type "list")=false:=by decide
 have fx:(Value.type "set"==Value.type "tuple")=false:=by decide
 simp only[ew,cP,fx,Bool.or_false,Tq,if_false];refine SB (Sf (s:={s with heap:=h1}) (av.mono λo e=>Heap.get?_push_of_some _ e) (SB (Xw ?_)));unfold Builtin.List.listLengthHint;refine SB (Yb (s:={s with heap:=h2}) (name:=Str.ofString "__len__") BN F.slot_set_len.lookup ?_);generalize HE:("set.__len__":String)=ip
 wp_delta
 rw[show splitId ip=some ("set","__len__")from by subst HE;decide +kernel];subst HE;refine SB (XO (b:=true) (s:={s with heap:=h2}) BN sub_set_self ?_);refine RB (b :=!true) rfl ?_;refine RA (by decide) ?_;refine SB (Zk (s:={s with heap:=h2}) BN (SC ?_));show wpAny _ A.in1 (rule "list.extend.makes-room" >>= λ_=>Builtin.List.listTouch (.ref S) >>= λ_=>again (.builtin "list.extend.loop" ⟨[.ref S,.ref h1.objs.size,.ref S],[]⟩)) _ _ {s with heap:=h2}
 refine SB (Yq (SB ?_));show wpAny _ A.in1 (updateSeq S (·.push .none) >>= λ_=>updateSeq S (·.pop)) _ _ {s with heap:=h2}
 let aF:=h2.update S (Obj.mapSeq (·.push Value.none))
 let bj:=aF.update S (Obj.mapSeq (·.pop))
 have df:∃c,aF.get? S=some (Ze "list" #[Value.none] c):=⟨_,YV HC (·.push Value.none)⟩;obtain⟨c3,df⟩:=df;have jC:∃c,bj.get? S=some (Ze "list" #[] c):=⟨_,YV df (·.pop)⟩;obtain⟨c4,jC⟩:=jC;have BP:∀b o,b≠S->h2.get? b=some o->bj.get? b=some o:=λb o n e=>(Heap.SameBut.update aF S _).extBut b o n ((Heap.SameBut.update h2 S _).extBut b o n e);refine SB (YW (s:={s with heap:=h2}) HC rfl (YW (s:={s with heap:=aF}) df rfl ?_));refine SC ⟨Yp F.plain_extend_loop _,Sk (s:={s with heap:=bj}) (a:=a) (es:=es) (ep:=ep) (t:=t) dE HD BO Sr xl es.size 0 c4 rfl (S8 _) (Sq.mono λo e=>BP _ o (S9 HD) e) (RawS.mono (RawS.mono av λo e=>Heap.get?_push_of_some _ (Heap.get?_push_of_some _ e)) λo e=>BP a o (S9 BO) e) jC λc5 bE aO bz=>?_⟩;show wpAny _ A (load S >>= _) _ _ {s with heap:=c5}
 refine SB (wpAny_load (s:={s with heap:=c5}) aO (SC ?_));refine h c5 (UT (Heap.lt_size aO)) λb o e=>?_;have lt:=Heap.lt_size e;have bX:b≠S:=S3 lt;exact bz b o bX (by rw[z1];exact S3 (Vz lt)) (BP b o bX (Heap.get?_push_of_some _ (Heap.get?_push_of_some _ e)))
end
end Tab
namespace L3
open PySem PySem.Spec PyProof.Rows PySem.W L2
section
variable{X:aJ}
theorem ld_var{E:Tk->Tl->Prop}{pins:ZW}{s:Tl}{σ:L2.St}{H:am}{i:Nat}{x:Str}{v:V}{pos:Pos}{Q:Tk->Tl->Prop}(I:Inv X pins σ H s)(bi:X.N[i]?=some x)(aH:iq X.env.scope x)(e:σ[i]?=some (some v))(h:∀u,RelV v u->Q u s)(hd:(x==("__debug__":Str))=false:=by decide)(ec:(x==("__classdict__":Str))=false:=by decide):wpAny (UF X.prog X.w) X.A (XJ (.Name x pos) X.env) Q E s:=by
 obtain⟨m,aN,ao⟩:=I.loc;obtain⟨u,r,l⟩:=ao i x v bi e aH;have fU:=h u r;rcases l with⟨ag,av⟩|⟨ag,c,hc,pr⟩
 ·exact YC (Yo I.ok.kind ag aN av fU) hd
 ·rcases ag with ag|ag
  ·exact YC (Yr I.ok.kind ag hc pr fU) hd
  ·exact YC (Y0 I.ok.kind ag hc pr fU ec) hd
end
end L3
namespace L3
open PySem PySem.Spec PyProof.Rows L2
section
open PySem.W
variable{X:aJ}
end
end L3
namespace Tab
open PySem PySem.SetTable PyProof.Rows L2 PySem.W
section
variable{prog:Uf}{w:WP}{A:Xv}{E:Tk->Tl->Prop}{s:Tl}
theorem HF{t:XK}(hd:t.dummies = #[]){h:Int}:∀(fuel:Nat)(p:Probe)(j i:Nat)(nx:Probe),SetTable.probe.go t (λ_=>h+1) h fuel p≠some (.candidate j i nx)
 |0,p,j,i,nx=>λz=>by cases z
 |fuel+1,p,j,i,nx=>λz=>by
  unfold SetTable.probe.go at z;cases q:t.slot p.j with
  |empty=>rw[q]at z;cases z
  |dummy=>exact absurd q (wG hd _)
  |live oG=>
   rw[q]at z;dsimp only at z;rw[SZ (by simp;lia)]at z;exact HF hd fuel _ _ _ _ z
theorem Su{t:XK}{n:Nat}(ok:rn t n)(h:Int):∃j,t.freeSlot h=some (j,false)/\t.slot j=.empty:=by
 have lo:=ok.lo;obtain⟨met,e⟩:=P' (hashAt:=λ_=>h+1) (h:=h) ok.msk ok.dum (by rw[ok.sz];lia) (P9 t h);have aW:=e;unfold SetTable.probe at aW;rcases Gj ok.dum _ _ _ aW with⟨j,n,a,b,c⟩|⟨j,i,n,a,b,c⟩
 ·have kQ:(t.probeStart h).dummy=none:=rfl;rw[kQ]at a;subst a;refine⟨j,?_,BG _ _ _ _ aW⟩;unfold SetTable.freeSlot;rw[e];rfl
 ·rw[a]at aW;exact absurd aW (HF ok.dum _ _ _ _ _)
def iv:Tk->Int
 |.int i _=>i
 |_=>0
def lW(prog:Uf)(w:WP)(h:XB)(a:TI)(L:Bool)(ns:ZG):Prop:=
 ∃o es ep t,h.get? a=some o/\o.ExactSet/\o.data=.set es ep t/\rn t es.size/\t.mask=7/\t.led=L/\k3 t.place/\t.plain=true/\ElemsOf (X5 prog w) es.toList/\(es.toList.map λe=>iv e.2).Perm ns/\ns.Nodup
theorem HG{k:Int}{v:Tk}(h:∃m,(X5 prog w).is m v=true):(X5 prog w).is k v=true↔iv v=k:=by
 obtain⟨m,h⟩:=h;obtain⟨t,rfl⟩:=Bu h;constructor
 ·intro z;obtain⟨t',e⟩:=Bu z;cases e;rfl
 ·intro z;have:m=k:=z;rw[this];exact Zi _ _ _ _
theorem elems_ints{es:List (Int×Tk)}(h:ElemsOf (X5 prog w) es):∀v∈es.map (·.2),∃i t,v=.int i t:=λv aH=>by
 obtain⟨e,ax,rfl⟩:=SJ.mp aH;obtain⟨⟨k,ag,_⟩,_⟩:=h e ax;exact⟨k,Bu ag⟩
theorem add_int{L:Bool}{a:TI}{ns:ZG}{k:Int}{dA:Tok}{Q:Bool->Tl->Prop}(st:lW prog w s.heap a L ns)(aN:ns.length<4)(h:∀b h' eX,Heap.SameBut a s.heap h'->lW prog w h' a L eX->(∀m,m∈eX↔m∈ns\/m=k)->eX.length<=ns.length+1->Q b {s with heap:=h' }):wpAny (UF prog w) A (setAddHashed a (.int k dA) (X4 k)) Q E s:=by
 obtain⟨o,es,ep,t,aB,hex,hd,ok,av,ao,ak,ae,gu,pm,nd⟩:=st;have sz:es.size=ns.length:=by rw[<-pm.length_eq,Sw,Tn]
 unfold setAddHashed;refine Xw ?_;unfold setAddHashedIn;refine SB (XH aB hd ok.fits ?_);dsimp only
 have bs:byScan (.int k dA) es=true:=by
  unfold byScan;rw[Us,Us];refine⟨⟨rfl,by rw[decide_eq_true_eq,sz];unfold scanBound;lia⟩,?_⟩;rw[<-Array.all_toList,Vj];exact λe ax=>(gu e ax).2
 rw[bs];simp only[if_true];unfold setAddByScan;refine SB (SB (Yq (SB (wpAny_setScan_of (knd:=X5 prog w) (k:=k) (Zi _ _ _ _) aB hd ok.fits gu ?_))));cases q:List.findIdx? (λe=>(X5 prog w).is k e.snd) es.toList with
 |some j=>
  dsimp only;refine SC (SC (h _ _ ns (Heap.SameBut.refl _ _) ⟨o,es,ep,t,aB,hex,hd,ok,av,ao,ak,ae,gu,pm,nd⟩ (λm=>⟨.inl,λz=>z.elim id λz=>?_⟩) (Vp _)));subst z;obtain⟨lt,b8,_⟩:=List.findIdx?_eq_some_iff_getElem.mp q;rw[<-pm.mem_iff];exact SJ.mpr ⟨_,Vn lt,(HG ((gu _ (Vn lt)).1.imp λ_ z=>z.1)).mp b8⟩
 |none=>
  dsimp only
  have no:k∉ns:=λz=>by
   rw[<-pm.mem_iff]at z;obtain⟨e,ax,ap⟩:=SJ.mp z;have:=List.findIdx?_eq_none_iff.mp q e ax;rw[(HG ((gu e ax).1.imp λ_ z=>z.1)).mpr ap]at this;cases this
  obtain⟨j,fs,rj⟩:=Su ok (X4 k);obtain⟨cp,b1,iH,BQ⟩:=Qc ok.msk ok.dum ok.sz j;have BR:k3 (t.put j).1.place:=R9 ak rj;have jD:(t.put j).1.plain=true:=(show(t.put j).1.plain=t.plain from rfl).trans ae
  have ln:layNew t es (X4 k) (.int k dA)=(SetTable.insertAt es (t.put j).2 (X4 k,.int k dA),(t.put j).1,false,false):=by
   unfold layNew;rw[fs]
   have ue:(SetTable.insertAt es (t.put j).2 (X4 k,Value.int k dA)).size=es.size+1:=by
    rw[<-Tn,(SetTable.insertAt_perm _ _ _).length_eq,Tn,Wf]
   have HH:(t.put j).1.fits (es.size+1)=true:=by
    unfold SetTable.fits SetTable.fill;rw[cp,b1,iH,av];simp;lia
   dsimp only;rw[ue,HH];unfold SetTable.orStandIn;rw[HH];simp
  rw[ln];generalize lK:t.put j=iI at cp b1 iH BQ BR jD;obtain⟨ew,p⟩:=iI;dsimp only at cp b1 iH BQ BR jD⊢;have xm:=SetTable.insertAt_perm es p (X4 k,Value.int k dA);rw[Xg]at xm
  have ue:(SetTable.insertAt es p (X4 k,Value.int k dA)).size=es.size+1:=by
   rw[<-Tn,xm.length_eq,SH,Tn];rfl
  have d5:=Heap.SameBut.update s.heap a (Obj.putSet (SetTable.insertAt es p (X4 k,Value.int k dA)) ew);have aaa:=stored aB hd (SetTable.insertAt es p (X4 k,Value.int k dA)) ew
  have tf:ew.tooFull=false:=by
   unfold SetTable.tooFull SetTable.fill;rw[cp,b1,iH,av];simp;lia
  refine SB (SC ?_);rw[jD];simp only[if_true];refine SB (SC ?_);simp only[if_true];refine SB (wpAny_storeSet_of aB hd ?_ (by rw[ue,Yc];lia));rw[tf];simp only[Vv,Bool.and_false,Tq,if_false];refine SC (SC (h _ _ (k::ns) d5 ⟨_,_,_,_,aaa,hex,rfl,⟨by rw[cp];exact ok.msk,b1,by rw[iH,ue],by rw[cp,ue,av];lia⟩,by rw[cp];exact av,by rw[BQ];exact ao,BR,jD,λe ax=>?_,?_,TJ.mpr ⟨no,nd⟩⟩ (λm=>?_) (Sx _)))
  ·rcases SR.mp (xm.mem_iff.mp ax)with z|z
   ·exact gu e z
   ·rw[SM.mp z];exact⟨⟨k,Zi _ _ _ _,rfl⟩,rfl⟩
  ·refine(xm.map _).trans ?_;rw[SI];exact(Wt).trans (.cons k pm)
  ·rw[SG];exact Or.comm
theorem lW.keep{h h':XB}{a:TI}{L:Bool}{ns:ZG}(st:lW prog w h a L ns)(k:∀o,h.get? a=some o->h'.get? a=some o):lW prog w h' a L ns:=by
 obtain⟨o,es,ep,t,aB,r⟩:=st;exact⟨o,es,ep,t,k o aB,r⟩
theorem aab{S I l:TI}{items:Array Tk}{jd:ZG}{L:Bool}{R:Result->Tl->Prop}(bX:l≠S)(dn:l≠I)(jn:S≠I)(dE:A.handled=none)(au:Ym items.toList jd)(room:items.size<=4):
  ∀(k i:Nat)(ns:ZG)(s:Tl),items.size-i=k->i<=items.size->s.heap.IsListIter I l i->s.heap.IsList l items->lW prog w s.heap S L ns->ns.length<=i->(∀m,m∈ns↔m∈jd.take i)->
   (∀h' dA eX,s.toks<=dA->(∀b o,b≠S->b≠I->s.heap.get? b=some o->h'.get? b=some o)->lW prog w h' S L eX->(∀m,m∈eX↔m∈jd)->eX.length<=4->R (.ok (.ret .none)) {s with heap:=h',toks:=dA})->
   codeAny (UF prog w) A (.builtin "set.update.loop" ⟨[.ref S,.ref I],[]⟩) R s:=by
 have h8:items.size=jd.length:=by rw[<-Tn];exact Hc au
 have at':∀{vs:ZR}{jd:ZG},Ym vs jd->∀{i:Nat}(h:i<vs.length),∃m t,vs[i]=.int m t/\jd[i]?=some m:=by
  intro vs jd h;induction h with
  |nil=>intro i h;exact absurd h (Wq _)
  |cons n t h bN=>
   intro i au;cases i with
   |zero=>exact⟨n,t,rfl,rfl⟩
   |succ i=>obtain⟨m,t,ai,ap⟩:=bN (i:=i) (by simpa using au);exact⟨m,t,by simpa using ai,by simpa using ap⟩
 intro k;induction k with
 |zero=>
  intro i ns s ag au hit ao st aN aH mA;refine XI Xj ?_;simp only[Around.under_plainId Wu];show wpAny _ A.in1 (Yx (.ref I) >>= _) _ _ _
  refine SB (YU dE hit ao (Xi.mpr (by lia)) λh' ax=>?_);show wpAny _ A.in1 (ret Value.none) _ _ _
  refine SC (mA h' s.toks ns (Sx _) (λb o _ bg e=>ax b o bg e) (st.keep λo e=>ax S o jn e) (λm=>?_) (by lia));rw[aH,UK (by lia)]
 |succ k bN=>
  intro i ns s ag au hit ao st aN aH mA;have lt:i<items.size:=by lia
  obtain⟨m,HI,em,gp⟩:=at' ‹_› (i:=i) (by rw[Tn];exact lt);rw[Array.getElem_toList]at em;refine XI Xj ?_;simp only[Around.under_plainId Wu];show wpAny _ A.in1 (Yx (.ref I) >>= _) _ _ _
  refine SB (YN hit ao (x:=items[i]) (by simp[lt]) λh1 aac HJ=>?_);have aad:lW prog w h1 S L ns:=st.keep λo e=>HJ.extBut S o jn e;rw[em];show wpAny _ A.in1 (Y1 [Value.int m HI] (setAdd S (.int m HI)) >>= _) _ _ _
  refine SB (Xw ?_);unfold setAdd;refine Xw ?_;refine SB ((X5 prog w).pyHash (k:=m) (Zi _ _ _ _) ?_);refine add_int (A:=A.in1) aad (by lia) λxn h2 eX rC m5 bL ln=>?_;have hN:∀c o,c≠S->c≠I->s.heap.get? c=some o->h2.get? c=some o:=λc o c1 c2 e=>(rC.2 c c1).trans (HJ.extBut c o c2 e);refine SC ⟨Yp Wu _,bN (i+1) eX _ (by lia) lt (aac.at λo e=>(rC.2 I (S9 jn)).trans e) (ao.at λo e=>hN l o bX dn e) m5 (by lia) (λx=>?_) λaF dA aae bQ aaf u9 aag df=>?_⟩
  ·rw[bL x,aH x,We,gp,SR];simp
  ·exact mA aF dA aae (SA (U4 _ _) bQ) (λc o c1 c2 e=>aaf c o c1 c2 (hN c o c1 c2 e)) u9 aag df
theorem aah{h:XB}{a:TI}{led:Bool}(e:h.get? a=some (fresh led)):lW prog w h a led []:=
 ⟨_,#[],0,_,e,⟨rfl,rfl,rfl⟩,rfl,⟨.inl rfl,rfl,rfl,show 0*5<7*3 by decide⟩,rfl,rfl,λi k _ h=>absurd h (Wq _),rfl,λe ax=>by simp at ax,.nil,.nil⟩
theorem call_setI{l:TI}{items:Array Tk}{jd:ZG}{Q:Tk->Tl->Prop}(dE:A.handled=none)(ao:s.heap.IsList l items)(au:Ym items.toList jd)(room:items.size<=4)(h:∀(h':XB) (dA:Nat) (ns:ZG),s.toks<=dA->lW prog w h' s.heap.objs.size (!byT w) ns->(∀m,m∈ns↔m∈jd)->ns.length<=4->(∀b o,s.heap.get? b=some o->h'.get? b=some o)->Q (.ref s.heap.objs.size) {s with heap:=h',toks:=dA}):
  wpAny (UF prog w) A (call (.type "set") [.ref l]) Q E s:=by
 obtain⟨c,f3,agx⟩:=F.called_set.mro;have ry:=F.called_set.made;have d5:=F.called_set.sub;have c1:=F.called_set.notType;have c2:=F.called_set.canCreate;have c3:=F.typeCall_set_1 (.ref l);refine wpAny_call (codeAny_of_tree (show wpAny _ _ (callAny (.type "set") _) _ _ _ from SC ⟨Code.quiet_builtin _ (by decide +kernel),XI F.entry_type_call ?_⟩));rw[Around.under_plain (weight_type_call_type "set" [.ref l] []) rfl]
 repeat (any_goals (first|assumption|wp_step))
 refine Yy (R' (.ref l) (E:=E) (Q₁:=λv z=>v=.ref s.heap.objs.size/\z={s with heap:=s.heap.push (fresh (!byT w))}) ⟨rfl,rfl⟩) λr z ak=>?_;cases r with
 |error e=>exact ak
 |ok kx=>
  cases kx with
  |ret v=>
   obtain⟨rfl,rfl⟩:=ak;have HK:(s.heap.push (fresh (!byT w))).get? s.heap.objs.size=some (fresh (!byT w)):=Heap.get?_push_size _ rfl;have aai:Shared.TypeIs {s with heap:=s.heap.push (fresh (!byT w))} (.ref s.heap.objs.size) "set":=⟨_,HK,rfl⟩;have bw:=F.called_set.init.lookup;have bF:=F.called_set.init.bind (.ref s.heap.objs.size)
   repeat (any_goals (first|assumption|wp_step))
   refine Yy (codeAny_call_builtin (R:=wants (λv z=>v=.none/\∃h' dA ns,s.toks<=dA/\z={s with heap:=h',toks:=dA}/\lW prog w h' s.heap.objs.size (!byT w) ns/\(∀m,m∈ns↔m∈jd)/\ns.length<=4/\∀b o,s.heap.get? b=some o->h'.get? b=some o) E) F.called_set.init.plain F.entry_set_init (check_set_init_1 aai ?_)) λr2 aY pY=>?_
   ·obtain⟨aaj,te,f7,uf,ld⟩:=id ao;obtain⟨oc,od,agy,osl⟩:=aaj;simp only at f7 ld;subst f7 ld;have HL:=Heap.lt_size te;have aak:(s.heap.push (fresh (!byT w))).get? l=some ⟨.type "list",od,.seq items uf,osl⟩:=Heap.get?_push_of_some _ te;have a4:=F.sub_list_set;have a':=F.sub_list_frozenset;have bP:(Value.type "list"==Value.type "dict")=false:=by decide
    have qf:(s.heap.push (fresh (!byT w))).IsList l items:=⟨_,aak,rfl,uf,rfl⟩;have sz:(s.heap.push (fresh (!byT w))).objs.size=s.heap.objs.size+1:=Heap.size_push _ _;unfold Yd.«set.__init__» noKeywords Builtin.Frozenset.updateFrom;generalize g:Zx=it
    wp_walk
    subst g;refine YE qf (SB (wpAny_runValue ?_));have kp:∀b o,s.heap.get? b=some o->((s.heap.push (fresh (!byT w))).push {cls:=.type "list_iterator",data:=.fields #[.ref l,.int 0 0]}).get? b=some o:=λb o e=>Heap.get?_push_of_some _ (Heap.get?_push_of_some _ e);refine aab (S:=s.heap.objs.size) (I:=(s.heap.push (fresh (!byT w))).objs.size) (l:=l) (items:=items) (S3 HL) (by rw[sz];exact S3 (Vz HL)) (by rw[sz];exact S3 (Nat.lt_succ_self _)) (by simp[dE]) au room (items.size-0) 0 [] _ rfl (S8 _) ⟨_,Heap.get?_push_size _ rfl,rfl,rfl⟩ (qf.push _) (aah (Heap.get?_push_of_some _ HK)) (Sx _) (λm=>by simp) λh' dA ns bQ hN p7 av aN=>?_;refine SC (show wpAny _ _ (ret Value.none) _ _ _ from SC ⟨rfl,h',dA,ns,bQ,rfl,p7,av,aN,λb o e=>?_⟩);have bl:=Heap.lt_size e;exact hN b o (S3 bl) (by rw[sz];exact S3 (Vz bl)) (kp b o e)
   ·cases r2 with
    |error e=>exact pY
    |ok aal=>
     cases aal with
     |ret r=>
      obtain⟨rfl,h',dA,ns,bQ,rfl,p7,av,aN,kp⟩:=pY
      repeat (any_goals (first|assumption|wp_step))
      exact h _ _ _ bQ p7 av aN kp
     |_=>exact pY.elim
  |_=>exact ak.elim
theorem sorted_gotI{v:Tk}{vs:ZR}{ns:ZG}{Q:Tk->Tl->Prop}(aam:vs.length<64)(col:∀(zy:Tk->Tl->Prop) (pq:ZR->Tl->Prop),(∀h':XB,s.heap.objs.size<=h'.objs.size->(∀b o,s.heap.get? b=some o->h'.get? b=some o)->pq vs {s with heap:=h' })->wpAny (UF prog w) A.in1 (collect v) pq zy s)(A5:Ym vs ns)(k:∀(out:Array Tk) (eX:ZG) (h':XB) (l:TI) (e:Nat),Ym out.toList eX->eX.Perm ns->eX.Pairwise (· <= ·)->s.heap.objs.size<=l->(∀b o,s.heap.get? b=some o->h'.get? b=some o)->h'.get? l=some (Ze "list" out e)->Q (.ref l) {s with heap:=h' }):
  wpAny (UF prog w) A (call (.builtin "sorted") [v]) Q E s:=by
 have xl:vs.length<=TT:=by rw[Yc];lia
 refine Calls.call_function_entry kind_sorted plain_sorted entry_sorted (args_sorted1 _) ?_;unfold Yd.«sorted»;refine SB (m:=checkCount "sorted" 1 1 _) (SC (SB (col _ _ λh1 z1 bM=>SB (wpAny_newList ?_ xl))));let h2:=h1.push (Ze "list" vs.toArray 0)
 have bz:h2.get? h1.objs.size=some (Ze "list" vs.toArray 0):=Heap.get?_push_size _ rfl;show wpAny (UF prog w) A.in1 _ _ _ {s with heap:=h2}
 have kp:∀b o,s.heap.get? b=some o->b≠h1.objs.size/\h2.get? b=some o:=λb o z=>⟨S3 (Tf (Heap.lt_size z) z1),Heap.get?_push_of_some _ (bM b o z)⟩;refine SB (Xw (W1 (s:={s with heap:=h2}) slot_list_sort ⟨_,bz,rfl⟩ entry_list_sort (list_sort_tree bz A5 aam λout eX b7 bW hT=>⟨_,rfl,SC ⟨_,rfl,?_⟩⟩) (args_list_sort _)));obtain⟨e,ax⟩:=sortedHeap_at (vs:=vs) (out:=out) bz;refine k out eX _ _ e b7 bW hT z1 (λb o z=>?_) ax;rw[sortedHeap_old (kp b o z).1 (Heap.lt_size (kp b o z).2)];exact(kp b o z).2
theorem ints_iv:∀{vs:ZR},(∀v∈vs,∃i t,v=.int i t)->Ym vs (vs.map iv)
 |[],_=>.nil
 |v::vs,h=>by
  obtain⟨i,t,rfl⟩:=h _ Sv;exact .cons _ _ (ints_iv λv aH=>h v (Sy _ aH))
end
end Tab
namespace L2
open PySem PySem.Spec PyProof.Rows PySem.W
def aan(bO:eE):bK:=λσ H Q=>bO σ H λvs ar=>∃(l:TI)(ns:ZG),vs=[.ref l]/\ar l=some (.lst (ns.map V.int))/\ns.length<=4/\∀eX:ZG,(∀m,m∈eX↔m∈ns)->eX.Pairwise (· < ·)->eX.length<=4->∀p,ar p=none->Q (.ref p) (upd ar p (.lst (eX.map V.int)))
theorem aao{X:aJ}{a:Wp}{bO:eE}{p b1 pos kj:Pos}(hc:X.calm=true)(BS:e2 X "sorted")(sI:X.mg "sorted"=none)(BU:e2 X "set")(tm:X.mg "set"=none)(aw:hl X [a] bO)(aj:TD [a] X.env=[(false,XJ a X.env)]:=by rfl)(ix:TD [.Call (.Name "set" b1) [a] [] kj] X.env=[(false,XJ (.Call (.Name "set" b1) [a] [] kj) X.env)]:=by rfl):
  b6 X (.Call (.Name "sorted" p) [.Call (.Name "set" b1) [a] [] kj] [] pos) (aan bO):=by
 intro pins s σ H Q I h;refine XD (m2 I BS sI (by decide +kernel:XS "sorted"=some (.builtin "sorted")) (WO ?_ ix rfl));rw[ix];show wpAny _ _ (spliced ((false,XJ (.Call (.Name "set" b1) [a] [] kj) X.env)::XC pos [])) _ _ s
 refine Calls.spliced_cons ?_;refine XD (m2 I BU tm (by decide +kernel:XS "set"=some (.type "set")) (UB (cc (aw kj pins s σ H _ I h) λus az ⟨vs,ar,a2,r1,aO⟩=>?_) aj rfl));obtain⟨l,ns,rfl,ay,hz,q⟩:=aO;obtain⟨u,rfl,r⟩:=vals1 r1;cases r;obtain⟨its,cq,cm,_⟩:=a2.list (cE.of ay);have ln:=cq.length;rw[Sw]at ln;refine Tab.call_setI (a2.ok.hd hc) cm.isList (intsAre_of cq) (by rw[SY];lia) λh' dA eX bQ p7 av aN kp=>?_;refine Calls.spliced_nil ?_;obtain⟨o,es,ep,t,aB,hex,hd,ok,agz,ao,ak,ae,gu,pm,nd⟩:=p7;generalize hK:az.heap.objs.size=S at aB;have sz:es.size=eX.length:=by rw[<-pm.length_eq,Sw,Tn]
 have aap:Tab.RawS X.w h' S es ep t:=⟨o,aB,hex.1,hd,ok,ao,ak,ae⟩;have op:=Tab.ord_perm (w:=X.w) S ep es
 have aaq:∀v∈Tab.vls X.w S ep es,∃i t,v=.int i t:=λv aH=>by
  obtain⟨e,ax,rfl⟩:=SJ.mp aH;exact Tab.elems_ints gu _ (List.mem_map_of_mem (op.mem_iff.mp ax))
 have gc:((Tab.vls X.w S ep es).map Tab.iv).Perm eX:=by
  unfold Tab.vls;rw[SQ];exact(op.map _).trans pm
 have lv:(Tab.vls X.w S ep es).length=eX.length:=by rw[<-gc.length_eq,Sw]
 have dM:Inv X pins σ ar {az with heap:=h',toks:=dA}:=a2.kept kp;refine Tab.sorted_gotI (s:={az with heap:=h',toks:=dA}) (vs:=Tab.vls X.w S ep es) (by lia) (λzy pq ay=>Tab.collect_set (s:={az with heap:=h',toks:=dA}) (show X.A.in1.in1.handled=none from a2.ok.hd hc) aap (by rw[sz,Yc];lia) ay) (Tab.ints_iv aaq) λout BV h2 a7 ap b7 bW hT lo aar ax=>?_;have BW:BV.Perm eX:=bW.trans gc;have lt:BV.Pairwise (· < ·):=(List.Pairwise.and hT (BW.nodup_iff.mpr nd)).imp λ{x y} ⟨a,b⟩=>by have b:x≠y:=b;lia
 have ll:=BW.length_eq;refine⟨.ref a7,_,dM.laid (t':=dA) aar lo (show gz X.prog X.w _ _ _ (.lst (BV.map V.int))from⟨by rw[Sw,ll,Yc];lia,out.toList,ap,zv b7,ax⟩),rfl,q _ (λm=>by rw[BW.mem_iff,av]) lt (by rw[ll];exact aN) a7 (dM.hok.fresh lo)⟩
end L2
namespace L3
open PySem L2
variable{X:aJ}{e:Wp}{u:a9}{p b1 pos kj:Pos}
def aas(u:a9):cZ:=λρ k=>u ρ λx=>∃ns:ZG,x=.lst (ns.map D.int)/\ns.length<=4/\∀eX:ZG,(∀m,m∈eX↔m∈ns)->eX.Pairwise (· < ·)->eX.length<=4->k (eX.map D.int)
theorem aat(hc:X.calm=true)(aw:bn X e u)(BS:e2 X "sorted")(sI:X.mg "sorted"=none)(BU:e2 X "set")(tm:X.mg "set"=none)(aj:TD [e] X.env=[(false,XJ e X.env)]:=by rfl)(ix:TD [.Call (.Name "set" b1) [e] [] kj] X.env=[(false,XJ (.Call (.Name "set" b1) [e] [] kj) X.env)]:=by rfl):
  lq X (.Call (.Name "sorted" p) [.Call (.Name "set" b1) [e] [] kj] [] pos) (aas u):=by
 obtain⟨_,h1,r1⟩:=aw;refine⟨_,aao hc BS sI BU tm (fi h1 gN (by rw[aj];rfl)) aj ix,λρ k h R W B H σ Q e q=>?_⟩;refine r1 ρ _ h R W B H σ _ e λd v bd ar z1 ai aI az=>?_;obtain⟨ns,rfl,aN,z⟩:=z1;obtain⟨a,vs,rfl,aw,rs⟩:=az.lstV;have fl:=Er rs;subst fl;refine⟨a,ns,rfl,ai.bh _ _ aw,aN,λeX cp b1 iH p ae=>?_⟩;obtain⟨a4,a',bP,dL,eR⟩:=ai.newO ae (Reps.ints eX);exact q _ p _ bd _ (z eX cp b1 iH) a4 aI a' bP dL (Reps.ints eX) eR
end L3
namespace L2
open PySem PySem.Spec PyProof.Rows PySem.W
variable{X:aJ}
def BX(i:Nat)(f:TI)(sp:hm)(E:gj)(t:eE):bK:=λσ H Q=>σ[i]?=some (some (.ref f))/\vh sp [] E t σ H Q
theorem HM{i:Nat}{x y:Str}{f:TI}{ps:ZQ}{j k:Nat}{sp:hm}{p pos:Pos}{e:Wp}{es:ZT}{t:eE}(c:cf X.prog X.w X.K X.mg X.base y ps j sp)(av:X.mg y=some (.ref f))(ak:fw k X.A)(aw:hl X (e::es) t)(hjk:j<=k)(bi:X.N[i]?=some x)(aH:iq X.env.scope x)(hd:(x==("__debug__":Str))=false)(ec:(x==("__classdict__":Str))=false)(ax:TD (e::es) X.env=(false,XJ e X.env)::TD es X.env:=by rfl)(fj:(XC pos (TD es X.env)).any (·.1)=false:=by rfl):
  b6 X (.Call (.Name x p) (e::es) [] pos) (BX i f sp qQ t):=by
 obtain⟨agB,fd,m,kp,b,F⟩:=c.ex;rw[av]at m;cases m;intro pins s σ H Q I h;obtain⟨h0,h⟩:=h;refine XD (L3.ld_var I bi aH h0 (λu r=>?_) hd ec);cases r;refine WK (h₀:=X.base) I.ok.mod.kin kp (cc (aw pos pins s σ H _ I h) λus az ⟨vs,ar,a2,r,q⟩=>⟨a2.kIn,?_⟩) ax fj;exact Dt F (ak.mono hjk) b .nil DO a2 r q
end L2
namespace L3
open PySem L2
section
variable{X:aJ}{e:Wp}{es:ZT}{w:cZ}{u dm dz:a9}{p pos:Pos}{n:Nat}{ug aX:cn}
theorem HN{x:Str}{f:TI}(av:X.mg x=some (.ref f))(aD:e2 X x)(hd:(x==("__debug__":Str))=false:=by decide):bn X (.Name x pos) (pM (.kfn f)):=
 ⟨_,Da (v:=.ref f) aD av rfl hd,λ_ _ h _ _ B H _ _ e q=>q _ _ B H h e (bV.refl _ _) (.kfn f)⟩
theorem call_plain{x:Str}{ps:ZQ}{R:am}{W:TI->Prop}{B H:am}{σ:St}{ρ:ZL}{F:cn}{t:eE}{w:i1}(r1:D3 X.K t w){k:D->Prop}(h:oy n F w ρ k){Q:cN}(e:a0 X.K R W B H σ ρ)(q:∀d v aC al,k d->a0 X.K R W aC al σ ρ->bV R B aC->b3 X.K aC v d->Q v al):vh (cl X.K n F) [] qQ t σ H Q:=by
 refine r1 ρ _ h R W B H σ _ e λas vs bd ar z1 ai aI az=>?_;rw[SO];refine vI ai az z1.1 z1.2 λr v ca a5 ag ap aP res=>?_;cases r with
 |no=>exact ag.elim
 |bag=>exact ag.elim
 |pin v d=>exact ag.elim
 |deep c=>exact ag.elim
 |val d=>exact q d v ca a5 ag ap (aI.trans aP) res
 |new d=>exact q d v ca a5 ag ap (aI.trans aP) (b3.mono D6 res)
 |own c=>
  cases c with
  |d _ _ _ _=>exact ag.elim
  |l ds=>
  obtain⟨a,rfl,a4,a',us,bP,dL⟩:=res
  obtain⟨br,g3⟩:=ap.freeze bP (ai.toWd.fresh a4).1 a' λi m=>absurd a4 (by
   have bm:cQ σ ρ i a:=m
   exact(ai.mutOk bm).2)
  exact q _ _ _ _ ag br ((aI.trans aP).trans g3) (.lst eP (dL.mono g3.s))
def aav(i:Nat)(a4 a':TI)(n:Nat)(ug aX:cn)(w:i1):a9:=λρ k=>(ρ[i]?=some (.val (.kfn a4))/\oy n ug w ρ k)\/(ρ[i]?=some (.val (.kfn a'))/\oy n aX w ρ k)
theorem aaw(i:Nat){x bx dH:Str}{b7 bW:TI}{xo aax:ZQ}{ee eK lv:Nat}{w:i1}(c1:cf X.prog X.w X.K X.mg X.base bx xo ee (cl X.K n ug))(bm:X.mg bx=some (.ref b7))(c2:cf X.prog X.w X.K X.mg X.base dH aax eK (cl X.K n aX))(bJ:X.mg dH=some (.ref bW))(ak:fw lv X.A)(aw:mo X (e::es) w)(h1:ee<=lv:=by decide)(h2:eK<=lv:=by decide)(bi:X.N[i]?=some x:=by rfl)(aH:iq X.env.scope x:=by first|exact SF rfl|exact SP (SF rfl)|exact SP (SP rfl))(hd:(x==("__debug__":Str))=false:=by decide)(ec:(x==("__classdict__":Str))=false:=by decide)(ax:TD (e::es) X.env=(false,XJ e X.env)::TD es X.env:=by rfl)(fj:(XC pos (TD es X.env)).any (·.1)=false:=by rfl):
  bn X (.Call (.Name x p) (e::es) [] pos) (aav i b7 bW n ug aX w):=by
 obtain⟨t,aI,r1⟩:=aw;refine⟨λσ H Q=>BX i b7 (cl X.K n ug) qQ t σ H Q\/BX i bW (cl X.K n aX) qQ t σ H Q,λpins s σ H Q I h=>?_,λρ k h R W B H σ Q e q=>?_⟩
 ·rcases h with h|h
  ·exact HM c1 bm ak aI h1 bi aH hd ec ax fj pins s σ H Q I h
  ·exact HM c2 bJ ak aI h2 bi aH hd ec ax fj pins s σ H Q I h
 ·rcases h with⟨h0,h⟩|⟨h0,h⟩
  ·obtain⟨v,BY,cq⟩:=e.val h0;cases cq;exact .inl ⟨BY,call_plain (x:=bx) (ps:=xo) r1 h e q⟩
  ·obtain⟨v,BY,cq⟩:=e.val h0;cases cq;exact .inr ⟨BY,call_plain (x:=bx) (ps:=xo) r1 h e q⟩
def aay(u:a9):cZ:=λρ k=>u ρ λx=>∃ds,x=.lst ds/\k (kg 0 ds)
theorem xp:∀(n:Nat)(ds:ZK),(kg n ds).length=ds.length
 |_,[]=>rfl
 |n,d::ds=>by simp[kg,xp (n+1) ds]
theorem HO:∀(n:Nat){ds:ZK}{i:Nat}{d:D},ds[i]?=some d->(kg n ds)[i]?=some (.tup [.int ((n+i:Nat):Int),d])
 |_,[],i,d,h=>by simp at h
 |n,x::ds,0,d,h=>by simp at h;subst h;rfl
 |n,x::ds,i+1,d,h=>by
  have:=HO (n+1) (ds:=ds) (i:=i) (d:=d) (by simpa using h);rw[show n+1+i=n+(i+1) by lia]at this;simpa[kg]using this
theorem HP{iI:Pos}{jA:ZT}{aL:Nat}{a:Wp}(aw:bn X a u)(aD:e2 X "enumerate")(av:X.mg "enumerate"=none)(aj:TD [a] X.env=[(false,XJ a X.env)]:=by rfl):xj X (.Tuple jA aL iI) (.Call (.Name "enumerate" p) [a] [] pos) (aay u):=by
 obtain⟨_,h1,r1⟩:=aw;refine⟨_,FP aD av (fi h1 gN (by rw[aj];rfl)) aj,λρ k h R W B H σ Q e q=>?_⟩;refine r1 ρ _ h R W B H σ _ e λd v bd ar z1 ai aI az=>?_;obtain⟨ds,rfl,z⟩:=z1;obtain⟨fv,vs,rfl,eH,fV⟩:=az.lstV;refine⟨fv,rfl,⟨vs,cE.of (ai.bh _ _ eH)⟩,q _ _ bd ar z ai aI λal mM i=>?_⟩;have eS:=mM _ _ eH;have ll:=fV.length;rw[xp];refine⟨λau=>?_,λau=>⟨vs,cE.of eS,by lia⟩,λx a5 au y=>?_⟩
 ·exact⟨vs,vs[i],cE.of eS,S5 (by lia)⟩
 ·obtain⟨p2,y,ae,rfl,rfl,aG⟩:=y;obtain⟨d,hd,fm⟩:=fV.getV (aG vs (cE.of eS));have:=HO 0 hd;rw[TR]at this;exact⟨p2,_,_,ae,rfl,rfl,this,.cons (.int _) (.cons fm .nil)⟩
theorem Reps.dropLast{K:F6}{B:am}:∀{vs:ZJ}{ds:ZK},Reps K B vs ds->Reps K B vs.dropLast ds.dropLast
 |_,_,.nil=>.nil
 |_,_,.cons r .nil=>.nil
 |_,_,.cons r (.cons r2 t)=>.cons r (Reps.dropLast (.cons r2 t))
def aaz(i j:Nat)(dm dz:a9):cX:=λU ρ=>∃(ds:ZK)(z:D),ρ[j]?=some (.own (ds++[z]))/\dm ρ λbw=>dz ρ λbF=>U.nx ((ρ.set j (.own ds)).set i (.val (.tup [bw,bF,z])))
theorem aaA(i j:Nat){x y:Str}{ai ap:Wp}{px eF dr cr:Pos}{HQ}(h1:bn X ai dm)(h2:bn X ap dz)(bi:X.N.Nodup)(au:X.N[i]?=some y)(aG:Loc X.env.scope y)(b8:X.N[j]?=some x:=by rfl)(aH:iq X.env.scope x:=by first|exact SF rfl|exact SP (SF rfl)|exact SP (SP rfl))(hd:(x==("__debug__":Str))=false:=by decide)(ec:(x==("__classdict__":Str))=false:=by decide)(g4:Xx (.Name x px) "pop" X.env (XJ (.Name x px) X.env)=XJ (.Name x px) X.env:=by rfl)(g5:(dr.endLine==cr.line)=true:=by rfl)(tA:TD [ai,ap,.Call (.Attribute (.Name x px) "pop" dr) [] [] cr] X.env=(false,XJ ai X.env)::TD [ap,.Call (.Attribute (.Name x px) "pop" dr) [] [] cr] X.env:=by rfl)(ix:TD [ap,.Call (.Attribute (.Name x px) "pop" dr) [] [] cr] X.env=(false,XJ ap X.env)::TD [.Call (.Attribute (.Name x px) "pop" dr) [] [] cr] X.env:=by rfl)(q3:TD [.Call (.Attribute (.Name x px) "pop" dr) [] [] cr] X.env=(false,XJ (.Call (.Attribute (.Name x px) "pop" dr) [] [] cr) X.env)::TD [] X.env:=by rfl)(aj:XE (.Tuple [ai,ap,.Call (.Attribute (.Name x px) "pop" dr) [] [] cr] HQ p) (some (.Name y eF)) pos.line X.env=pure false:=by rfl)(bf:X.fn y=true\/X.env.scope.names.lookup y=some .local:=by first|exact .inl rfl|exact .inr rfl|assumption):
  fM X (.Assign [.Name y eF] (.Tuple [ai,ap,.Call (.Attribute (.Name x px) "pop" dr) [] [] cr] HQ p) pos) (aaz i j dm dz):=by
 obtain⟨_,aI,r1⟩:=h1;obtain⟨_,aP,r2⟩:=h2;refine⟨_,pv bi au aG (Ds (fi aI (fi aP (fi (L4 Vi PySem.F.slot_list_pop PySem.F.type_list_pop Ma (mc b8 aH hd ec) g4 g5) gN q3) ix) tA)) aj bf,λU ρ h R W B H σ D e s=>?_⟩;obtain⟨ds,z,aB,h⟩:=h;refine r1 ρ _ h R W B H σ _ e λbw v1 bd ar z1 a4 bM az=>?_;refine r2 ρ _ z1 R W bd ar σ _ a4 λbF ev ca a5 aY a' cy a3=>?_;obtain⟨a,vs,aO,bz,et,m4,nJ⟩:=a'.ownAt aB;have ll:=nJ.length;rw[SH,TK]at ll;obtain⟨fk,oh,cA⟩:=nJ.get (i:=ds.length) (d:=z) (by simp);refine⟨_,aO,.inl ⟨rfl,vs,cE.of m4⟩,a,vs,fk,rfl,rfl,m4,by rw[ll];exact oh,?_⟩
 have bP:=a'.write aO aB (ds':=ds) (vs:=vs.dropLast) (by
  have:=nJ.dropLast
  rwa [Wv]at this)
 refine⟨n2,λp2 HR=>?_⟩;have g3:=bP.grow HR (.tup [v1,ev,fk]);exact s.nx _ _ _ _ aY ((bP.alloc HR _).setV i (.tup eP (.cons ((az.mono cy.s).mono g3.s) (.cons (a3.mono g3.s) (.cons (cA.mono g3.s) .nil))))) ((bM.trans cy).trans g3)
end
end L3
namespace Cut
open PySem L2 L3
open PySem.Builtin.Int (intBits)
theorem aaB{l a b c:aa}(ao:l.1≠0\/l.2.1≠0)(aw:ln l a=0)(ab:ln l b=0)(hc:ln l c=0)(k4:0<c.2.2):be a b c=0:=by
 have ai:l.1*be a b c=0:=by
  unfold ln at aw ab hc;unfold be crs;grind
 have ap:l.2.1*be a b c=0:=by
  unfold ln at aw ab hc;unfold be crs;grind
 rcases ao with h|h
 ·exact(Tv.mp ai).resolve_left h
 ·exact(Tv.mp ap).resolve_left h
theorem aaC{l:aa}{qs:ZH}(ao:l.1≠0\/l.2.1≠0)(t:cu qs)(ae:∀p∈qs,0<p.2.2):(qs.filter λx=>decide (ln l x=0)).length<=2:=by
 have cP:=t.sub (List.filter_sublist (p:=λx=>decide (ln l x=0)))
 have z:∀x∈qs.filter λx=>decide (ln l x=0),ln l x=0/\0<x.2.2:=λx aq=>by
  have:=Up.mp aq;exact⟨by simpa using this.2,ae x this.1⟩
 match h:qs.filter λx=>decide (ln l x=0),cP,z with
 |[],_,_=>simp
 |[_],_,_=>simp
 |[_,_],_,_=>simp
 |a::b::c::r,cP,z=>
  exfalso
  have:=cP.1.1 c (by simp);have e:=aaB ao (z a (by simp)).1 (z b (by simp)).1 (z c (by simp)).1 (z c (by simp)).2;lia
def pos(f:aa->Int)(ps:ZH):Nat:=(ps.filter λx=>decide (0<f x)).length
theorem HS{f:aa->Int}{mt:aa->aa->aa}(av:∀p q,f p*f q<0->f (mt p q)=0):∀(ps:ZH)(w:aa),pos f (dd f mt ps w)<=pos f ps
 |[],_=>Sx _
 |p::r,w=>by
  have bN:=HS av r w;show pos f (kp f p++cw f mt p (r.headD w)++dd f mt r w)<=_
  unfold pos at bN⊢;rw[U2,U2,SH,SH]
  have h1:((kp f p).filter λx=>decide (0<f x)).length=if 0<f p then 1 else 0:=by
   unfold kp;by_cases z:0<f p
   ·rw[SL (by lia),SL z];simp[z]
   ·rw[SZ z];by_cases y:0<=f p
    ·rw[SL y];simp[z]
    ·rw[SZ y];rfl
  have h2:((cw f mt p (r.headD w)).filter λx=>decide (0<f x)).length=0:=by
   unfold cw;by_cases z:f p*f (r.headD w)<0
   ·rw[SL z,VA,SZ (by rw[av _ _ z];decide)];rfl
   ·rw[SZ z];rfl
  rw[h1,h2,VA];by_cases z:0<f p
  ·rw[SL z,SL (by simpa using z),SK];lia
  ·rw[SZ z,SZ (by simpa using z)];lia
theorem aaD{l:aa}{mt:aa->aa->aa}{ps:ZH}(ho:nC l mt)(ao:l.1≠0\/l.2.1≠0)(t:cu (dq (ln l) mt ps))(ae:∀p∈dq (ln l) mt ps,0<p.2.2):(dq (ln l) mt ps).length<=ps.length+1:=by
 have aY:=aaC ao t ae;have xo:pos (ln l) (dq (ln l) mt ps)<=pos (ln l) ps:=HS (λp q h=>(ho p q h).2) ps _
 have BZ:∀qs:ZH,(∀x∈qs,0<=ln l x)->qs.length=pos (ln l) qs+(qs.filter λx=>decide (ln l x=0)).length:=by
  intro qs;induction qs with
  |nil=>intro _;rfl
  |cons q qs bN=>
   intro h;have i:=bN λx aq=>h x (Sy _ aq);have iM:=h q Sv;unfold pos at i⊢;rw[VA,VA];by_cases z:ln l q=0
   ·rw[SZ (by simp[z]),SL (by simp[z]),SK,SK];lia
   ·rw[SL (by simp;lia),SZ (by simp[z]),SK,SK];lia
 have aaE:∀x∈dq (ln l) mt ps,0<=ln l x:=λx aq=>by
  rcases p1 aq with⟨_,h⟩|⟨p,_,q,_,h,rfl⟩
  ·exact h
  ·have:=(ho p q h).2;lia
 have e:=BZ _ aaE;have le:pos (ln l) ps<=ps.length:=Vs _ _;by_cases all:pos (ln l) ps=ps.length
 ·
  have tZ:∀x∈ps,0<ln l x:=λx aq=>by
   have:=List.length_filter_eq_length_iff.mp all x aq;simpa using this
  have aaF:(dq (ln l) mt ps).filter (λx=>decide (ln l x=0))=[]:=by
   rw[List.filter_eq_nil_iff];intro x aq;rcases p1 aq with⟨h,_⟩|⟨p,h1,q,h2,h,rfl⟩
   ·have:=tZ x h;simp;lia
   ·have a:=tZ p h1;have b:=tZ q h2;have:=SE a b;lia
  rw[aaF]at e;simp at e;lia
 ·lia
structure jE (b m n t:Nat) (s:aK):Prop where
 cv:gv s.1
 rb:wE b m s.1
 ln:s.1.length<=n
 st:eA t s.2.2
theorem jE.mono{b m n t b' m' n' t':Nat}{s:aK}(h:jE b m n t s)(h1:b<=b')(h2:m<=m')(aF:n<=n')(bj:t<=t'):jE b' m' n' t' s:=
 ⟨h.cv,⟨λx aq=>(h.rb.pts x aq).mono h1,λe ax=>by obtain⟨g,a,c⟩:=h.rb.lin e ax;exact⟨g,a.mono h2,c⟩⟩,SA h.ln aF,h.st.mono bj⟩
theorem wE.cut2{b c m:Nat}{l:aa}{ps:ZH}(h:wE b m ps)(bl:cD c l)(gI:c<=m)(ao:l.1≠0\/l.2.1≠0\/l.2.2≠0)(o:aa)(aB:Cut.ln l o=0)(av:c+m+1<=b)(gf:aa)(e:gf=l\/gf=lP l):wE b m (dq (Cut.ln gf) (aU l) ps):=by
 have ho:nC gf (aU l):=by
  rcases e with rfl|rfl
  ·exact wx _
  ·exact(wx _).ng
 have B0:∀u,Cut.ln gf u=0↔Cut.ln l u=0:=λu=>by
  rcases e with rfl|rfl
  ·exact Iff.rfl
  ·rw[mH];lia
 have bL:∀p q,Cut.ln gf p*Cut.ln gf q<0->Cut.ln l p*Cut.ln l q<0:=λp q z=>by
  rcases e with rfl|rfl
  ·exact z
  ·rw[mH,mH,T5]at z;exact z
 refine⟨λx aq=>?_,PL (f:=Cut.ln gf) (mt:=aU l) (ps:=ps) (C:=λu v=>∃g:aa,cD m g/\(g.1≠0\/g.2.1≠0\/g.2.2≠0)/\Cut.ln g u=0/\Cut.ln g v=0) (λu v bo aH=>⟨l,bl.mono gI,ao,(B0 u).mp bo,(B0 v).mp aH⟩) o ((B0 o).mpr aB) (λe ax _ _=>h.lin e ax) λe ax c=>?_⟩
 ·rcases PT aq with⟨h1,_⟩|⟨e,ax,c,rfl⟩
  ·exact h.pts x h1
  ·have c:=bL _ _ c;obtain⟨bm,bJ⟩:=kP ax;have dG:=(h.pts _ bm).pt;have iR:=(h.pts _ bJ).pt;have dB:=ki dG iR c;obtain⟨g,h4,aZ,uh,ui⟩:=h.lin e ax
   have uj:(crs e.1 e.2).1≠0\/(crs e.1 e.2).2.1≠0\/(crs e.1 e.2).2.2≠0:=by
    apply TB;intro z;refine dB ?_;have z1:(crs e.1 e.2).1=0:=TB λy=>z (.inl y);have aY:(crs e.1 e.2).2.1=0:=TB λy=>z (.inr (.inl y));show l.1*(crs e.1 e.2).2.1-l.2.1*(crs e.1 e.2).1=0
    rw[z1,aY];grind
   obtain⟨a,b',aw,ab,hb⟩:=par aZ uh ui uj;obtain⟨dn,ap⟩:=PU (l:=l) aw ab hb dB;rw[<-kh dG iR,ap];exact⟨gg dn,(cD.nP (bl.crs h4) dn).mono av⟩
 ·obtain⟨g,h4,aZ,uh,ui⟩:=h.lin e ax;obtain⟨k5,z⟩:=ho _ _ c;exact⟨z,λ_=>⟨g,h4,aZ,uh,k5.ln0 uh ui⟩,λ_=>⟨g,h4,aZ,k5.ln0 uh ui,ui⟩⟩
theorem o5{b c m n t:Nat}{l o:aa}{sh:ZI}(h:∀s∈sh,jE b m n t s)(bl:cD c l)(gI:c<=m)(ao:l.1≠0\/l.2.1≠0)(aB:Cut.ln l o=0)(av:c+m+1<=b)(gf:aa)(e:gf=l\/gf=lP l):∀s∈ck (Cut.ln gf) (aU l) sh,jE b m (n+1) t s:=λs aj=>by
 obtain⟨q,ay,rfl,c⟩:=tE aj;have g:=h q ay
 have ho:nC gf (aU l):=by
  rcases e with rfl|rfl
  ·exact wx _
  ·exact(wx _).ng
 have qg:gf.1≠0\/gf.2.1≠0:=by
  rcases e with rfl|rfl
  ·exact ao
  ·rcases ao with z|z
   ·exact .inl (by unfold lP sc;dsimp only;lia)
   ·exact .inr (by unfold lP sc;dsimp only;lia)
 obtain⟨oP,df⟩:=Pv ho.meets ((wf q.1).mpr g.cv.tri) g.cv.1 c;have rb:=g.rb.cut2 bl gI (ao.imp id .inl) o aB av gf e;refine⟨tr.cvx df ((wf _).mp oP),rb,?_,g.st⟩;have:=aaD ho qg oP λp ae=>(rb.pts p ae).pt.1;have:=g.ln;show(dq (Cut.ln gf) (aU l) q.1).length<=n+1
 lia
theorem cD.slA{m g:Nat}{l v:aa}(ao:cD m l)(aH:cD g v):cD (m+g+2) (slA v l):=by
 refine⟨SA (TE ao.a aH.c) (by lia),SA (TE ao.b aH.c) (by lia),?_⟩;have a:=TE ao.c aH.c;have b:=TE ao.a aH.a;have c:=TE ao.b aH.b;have d:=Yh a b;rw[VB]at d;have e:=Yh d (SA c (Vp _));rw[VB]at e;exact e
theorem aaG{v l p:aa}:∃c:Int,Cut.ln (slA v l) (Cut.sld v p)=c*Cut.ln l p:=⟨v.2.2*v.2.2,by
 unfold slA Cut.sld Cut.ln;dsimp only
 grind⟩
theorem jE.slid{b m n t g:Nat}{v:aa}{s:aK}(h:jE b m n t s)(aH:eA g v):jE (b+g+1) (m+g+2) n (t+g+1) (eL v s):=by
 have v0:=aH.pt.1;refine⟨?_,⟨λx aq=>?_,λe ax=>?_⟩,?_,⟨gg (tn aH.pt h.st.pt),aH.bp.sldN h.st.bp aH.pt h.st.pt⟩⟩
 ·exact h.cv.sl aH.pt λp ae=>(h.rb.pts p ae).pt
 ·obtain⟨p,ae,rfl⟩:=SJ.mp aq;have:=h.rb.pts p ae;exact⟨gg (tn aH.pt this.pt),aH.bp.sldN this.bp aH.pt this.pt⟩
 ·have ax:e∈dw (s.1.map λp=>nP (Cut.sld v p)):=ax;rw[Bi]at ax;obtain⟨d,hd,rfl⟩:=SJ.mp ax;obtain⟨l,bl,o2,z1,aY⟩:=h.rb.lin d hd
  have on:∀p,aT p->Cut.ln l p=0->Cut.ln (slA v l) (nP (Cut.sld v p))=0:=λp ae z=>by
   obtain⟨c,hc⟩:=aaG (v:=v) (l:=l) (p:=p);rw[z,SW]at hc;obtain⟨k,du,ag⟩:=ke (tn aH.pt ae);rw[ag,AH]at hc;exact(Tv.mp hc).resolve_left du
  obtain⟨bm,bJ⟩:=kP hd;refine⟨slA v l,bl.slA aH.bp,?_,on _ (h.rb.pts _ bm).pt z1,on _ (h.rb.pts _ bJ).pt aY⟩;unfold slA;dsimp only;by_cases z:l.1=0
  ·by_cases y:l.2.1=0
   ·have:l.2.2≠0:=by
     rcases o2 with q|q|q
     ·exact absurd z q
     ·exact absurd y q
     ·exact q
    refine .inr (.inr ?_);rw[z,y,T3,T3,Wm,Wm];exact SS this (by lia)
   ·exact .inr (.inl (SS y (by lia)))
  ·exact .inl (SS z (by lia))
 ·show(s.1.map _).length<=n
  rw[Sw];exact h.ln
section
variable{f:aa->Int}{mt:aa->aa->aa}{a b c d:aa}
theorem aaH(aw:0<f a)(ab:f b<0)(hc:f c<0)(hd:0<f d):cR f mt [a,b,c,d]=[a,mt a b,mt c d,d]:=by
 rw[k1 a (by simp) aw,k0,f8 (by lia),hu (.inl ⟨aw,ab⟩),gX ab,fQ (.inr ⟨by lia,by lia⟩),gX hc,hu (.inr ⟨hc,hd⟩),f8 (by lia),fQ (.inl ⟨by lia,by lia⟩)];rfl
theorem aaI(aw:f a<0)(ab:0<f b)(hc:0<f c)(hd:f d<0):cR f mt [a,b,c,d]=[mt a b,b,c,mt c d]:=by
 rw[k1 b (by simp) ab,k0,gX aw,hu (.inr ⟨aw,ab⟩),f8 (by lia),fQ (.inl ⟨by lia,by lia⟩),f8 (by lia),hu (.inl ⟨hc,hd⟩),gX hd,fQ (.inr ⟨by lia,by lia⟩)];rfl
theorem aaJ(aw:f a<0)(ab:f b<0)(hc:0<f c)(hd:0<f d):cR f mt [a,b,c,d]=[mt b c,c,d,mt d a]:=by
 rw[k1 c (by simp) hc,k0,gX aw,fQ (.inr ⟨by lia,by lia⟩),gX ab,hu (.inr ⟨ab,hc⟩),f8 (by lia),fQ (.inl ⟨by lia,by lia⟩),f8 (by lia),hu (.inl ⟨hd,aw⟩)];rfl
theorem aaK(aw:0<f a)(ab:0<f b)(hc:f c<0)(hd:f d<0):cR f mt [a,b,c,d]=[a,b,mt b c,mt d a]:=by
 rw[k1 a (by simp) aw,k0,f8 (by lia),fQ (.inl ⟨by lia,by lia⟩),f8 (by lia),hu (.inl ⟨ab,hc⟩),gX hc,fQ (.inr ⟨by lia,by lia⟩),gX hd,hu (.inr ⟨hd,aw⟩)];rfl
end
def eo(R:ZH)(ce bC bZ bx:Rat):Prop:=∃a b c d:aa,R=[a,b,c,d]/\cb a ce bZ/\cb b bC bZ/\cb c bC bx/\cb d ce bx
def fR(sh:ZI)(R:ZH):Prop:=fZ (sh.map λs=>s.1) [R]
def e5(sh:ZI):Prop:=∀s∈sh,∀p∈s.1,aT p
theorem eo.pts{R:ZH}{ce bC bZ bx:Rat}(h:eo R ce bC bZ bx):∀p∈R,aT p:=by
 obtain⟨a,b,c,d,rfl,h1,h2,aF,bj⟩:=h;exact Bt h1.1 h2.1 aF.1 bj.1
theorem eo.eq{R Q:ZH}{ce bC bZ bx:Rat}(h:eo R ce bC bZ bx)(g:eo Q ce bC bZ bx):R=Q:=by
 obtain⟨a,b,c,d,rfl,h1,h2,aF,bj⟩:=h;obtain⟨fv,b',c',d',rfl,aI,aP,g3,el⟩:=g;exact Ha (h1.eq aI) (h2.eq aP) (aF.eq g3) (bj.eq el)
theorem eo.to{R:ZH}{ce bC bZ bx z0 z1 w0 w1:Rat}(h:eo R ce bC bZ bx)(ai:ce=z0)(ap:bC=z1)(br:bZ=w0)(cW:bx=w1):eo R z0 z1 w0 w1:=by subst ai ap br cW;exact h
theorem fR.rot{sh:ZI}{a:aa}{r:ZH}(h:fR sh (r++[a])):fR sh (a::r):=λφ=>by
 rw[h φ,iQ,iQ,GW]
theorem HU{sh:ZI}{R:ZH}{ce bC bZ bx:Rat}{X:Int×Int}(ae:e5 sh)(h:fR sh R)(r:eo R ce bC bZ bx)(l:aE X.1 X.2)(uk:ce<af X)(qd:af X<bC):
  (∃Q,eo Q ce (af X) bZ bx/\fR (cL X true sh) Q)/\∃Q,eo Q (af X) bC bZ bx/\fR (cL X false sh) Q:=by
 have ay:=r.pts;obtain⟨a,b,c,d,rfl,nK,nL,lX,id'⟩:=r;obtain⟨dm,dz,hg⟩:=t3 l;have bD:=t7 l nK uk;have bY:=Bq l nL qd;have hJ:=Bq l lX qd;have ul:=t7 l id' uk;have bm:=xc l nK nL (SX bD bY) (y:=bZ) (by grind);have bJ:=xc l lX id' (Uc hJ ul) (y:=bx) (by grind);obtain⟨z1,aY⟩:=w8 h dm dz hg ae ay;rw[aaH (f:=ln (d1 X)) bD bY hJ ul]at z1;rw[aaI (f:=λc => -ln (d1 X) c) (by show -ln (d1 X) a<0;lia) (by show 0 < -ln (d1 X) b;lia) (by show 0 < -ln (d1 X) c;lia) (by show -ln (d1 X) d<0;lia)]at aY;exact⟨⟨_,⟨_,_,_,_,rfl,nK,bm,bJ,id'⟩,z1⟩,⟨_,⟨_,_,_,_,rfl,bm,nL,lX,bJ⟩,aY⟩⟩
theorem HV{sh:ZI}{R:ZH}{ce bC bZ bx:Rat}{X:Int×Int}(ae:e5 sh)(h:fR sh R)(r:eo R ce bC bZ bx)(l:aE X.1 X.2)(uk:bZ<af X)(qd:af X<bx):
  (∃Q,eo Q ce bC bZ (af X)/\fR (cV X false sh) Q)/\∃Q,eo Q ce bC (af X) bx/\fR (cV X true sh) Q:=by
 have ay:=r.pts;obtain⟨a,b,c,d,rfl,nK,nL,lX,id'⟩:=r;obtain⟨dm,dz,hg⟩:=t4 l;have bD:=t8 l nK uk;have bY:=t8 l nL uk;have hJ:=Br l lX qd;have ul:=Br l id' qd;have bm:=xg l nL lX (Uc bY hJ) (x:=bC) (by grind);have bJ:=xg l id' nK (SX ul bD) (x:=ce) (by grind);obtain⟨z1,aY⟩:=w8 h dm dz hg ae ay;rw[aaJ (f:=ln (d2 X)) bD bY hJ ul]at z1;rw[aaK (f:=λc => -ln (d2 X) c) (by show 0 < -ln (d2 X) a;lia) (by show 0 < -ln (d2 X) b;lia) (by show -ln (d2 X) c<0;lia) (by show -ln (d2 X) d<0;lia)]at aY;refine⟨⟨_,⟨_,_,_,_,rfl,nK,nL,bm,bJ⟩,aY⟩,⟨_,⟨_,_,_,_,rfl,bJ,bm,lX,id'⟩,?_⟩⟩;exact fR.rot (sh:=cV X true sh) (r:=[_,_,_]) z1
theorem fR.slid{sh:ZI}{R:ZH}{g:aa}(aD:aT g)(ae:e5 sh)(ay:∀p∈R,aT p)(h:fR sh R):fR (sh.map (eL g)) (R.map λp=>nP (sld g p)):=Rp aD.1 h ae ay
theorem eo.slid{R:ZH}{ce bC bZ bx u v:Rat}{g:aa}(aD:cb g u v)(r:eo R ce bC bZ bx):eo (R.map λp=>nP (sld g p)) (ce+u) (bC+u) (bZ+v) (bx+v):=by
 obtain⟨a,b,c,d,rfl,nK,nL,lX,id'⟩:=r;exact⟨_,_,_,_,rfl,kZ aD nK,kZ aD nL,kZ aD lX,kZ aD id'⟩
theorem qh{w h:Int×Int}(lw:aE w.1 w.2)(lh:aE h.1 h.2):eo (fo w h) 0 (af w) 0 (af h):=⟨_,_,_,_,rfl,G8,w' lw,gx lw.1 lh.1,xa lh⟩
theorem e5.cL{sh:ZI}{X:Int×Int}{b:Bool}(l:aE X.1 X.2)(h:e5 sh):e5 (cL X b sh):=by
 intro s aj p ae;unfold Cut.cL at aj
 have key:∀f:aa->Int,(∀p q,f p*f q<0->ln (d1 X) p*ln (d1 X) q<0)->s∈ck f (aU (d1 X)) sh->aT p:=λf bf aj=>by
  obtain⟨t,bQ,rfl,c⟩:=tE aj;rcases p1 ae with⟨h1,_⟩|⟨u,h1,v,h2,aF,rfl⟩
  ·exact h t bQ p h1
  ·have dG:=h t bQ u h1;have iR:=h t bQ v h2;rw[<-kh dG iR];exact gg (ki dG iR (bf _ _ aF))
 cases b with
 |true=>exact key _ (λ_ _ z=>z) aj
 |false=>exact key _ (λp q z=>by rwa [T5]at z) aj
theorem e5.cV{sh:ZI}{X:Int×Int}{b:Bool}(l:aE X.1 X.2)(h:e5 sh):e5 (cV X b sh):=by
 intro s aj p ae;unfold Cut.cV at aj
 have key:∀f:aa->Int,(∀p q,f p*f q<0->ln (d2 X) p*ln (d2 X) q<0)->s∈ck f (aU (d2 X)) sh->aT p:=λf bf aj=>by
  obtain⟨t,bQ,rfl,c⟩:=tE aj;rcases p1 ae with⟨h1,_⟩|⟨u,h1,v,h2,aF,rfl⟩
  ·exact h t bQ p h1
  ·have dG:=h t bQ u h1;have iR:=h t bQ v h2;rw[<-kh dG iR];exact gg (ki dG iR (bf _ _ aF))
 cases b with
 |true=>exact key _ (λ_ _ z=>z) aj
 |false=>exact key _ (λp q z=>by rwa [T5]at z) aj
def c8(w:Int×Int)(k:Int):Int×Int:=cg (w.1*k) (w.2*1)
theorem hv{w:Int×Int}(l:0<w.2)(k:Int):aE (c8 w k).1 (c8 w k).2/\af (c8 w k)=af w*k:=by
 have h2:0<w.2*1:=by lia
 refine⟨(gG (t:=w.1*k) (b:=w.2*1) (by lia)).1,?_⟩;unfold c8;rw[mO h2];have a:=di l;unfold af;push_cast;grind
noncomputable def lowC(c:Bool)(x:Int×Int)(sh:ZI):List aK:=if c=true then cV x false sh else cL x true sh
noncomputable def highC(c:Bool)(x:Int×Int)(sh:ZI):List aK:=if c=true then cV x true sh else cL x false sh
noncomputable def gY(c:Bool)(w:Int×Int):Nat->ZI->Nat->Nat->ZY
 |0,sh,_,_=>[sh]
 |n+1,sh,a,b=>if b-a=1 then[sh]else gY c w n (lowC c (c8 w ((a+b)/2:Nat)) sh) a ((a+b)/2)++gY c w n (highC c (c8 w ((a+b)/2:Nat)) sh) ((a+b)/2) b
theorem nM(c:Bool)(w:Int×Int):∀(n:Nat)(sh:ZI)(a b:Nat),a<b->b-a<=2^n->(gY c w n sh a b).length=b-a
 |0,sh,a,b,h,g=>by
  have:b-a=1:=by simp at g;lia
  rw[this];rfl
 |n+1,sh,a,b,h,g=>by
  rw[gY];by_cases z:b-a=1
  ·rw[SL z,z];rfl
  ·rw[SZ z,SH,nM c w n _ _ _ (by lia) (by rw[Vt]at g;lia),nM c w n _ _ _ (by lia) (by rw[Vt]at g;lia)];lia
def nN(c:Bool)(R:ZH)(k6 dm v0 v1:Rat):Prop:=if c=true then eo R v0 v1 k6 dm else eo R k6 dm v0 v1
theorem e5.lowC{sh:ZI}{X:Int×Int}{c:Bool}(l:aE X.1 X.2)(h:e5 sh):e5 (lowC c X sh)/\e5 (highC c X sh):=by
 unfold Cut.lowC Cut.highC;cases c with
 |true=>
  rw[SL rfl,SL rfl];exact⟨h.cV (b:=false) l,h.cV (b:=true) l⟩
 |false=>
  rw[SZ (by simp),SZ (by simp)];exact⟨h.cL (b:=true) l,h.cL (b:=false) l⟩
theorem aaL{c:Bool}{sh:ZI}{R:ZH}{k6 dm v0 v1:Rat}{X:Int×Int}(ae:e5 sh)(h:fR sh R)(r:nN c R k6 dm v0 v1)(l:aE X.1 X.2)(h0:k6<af X)(h1:af X<dm):
  (∃Q,nN c Q k6 (af X) v0 v1/\fR (lowC c X sh) Q)/\∃Q,nN c Q (af X) dm v0 v1/\fR (highC c X sh) Q:=by
 unfold nN at r⊢;unfold lowC highC;cases c with
 |true=>
  simp only[if_true]at r⊢;exact HV ae h r l h0 h1
 |false=>
  simp only[Tq,if_false]at r⊢;exact HU ae h r l h0 h1
theorem B1{c:Bool}{w:Int×Int}(w0:0<w.1)(eg:0<w.2){v0 v1 U:Rat}:∀(n:Nat){sh:ZI}{a b:Nat}{R:ZH},a<b->b-a<=2^n->e5 sh->fR sh R->nN c R (af w*a) U v0 v1->af w*((b-1:Nat):Rat)<U->
  ∀(k:Nat) S,(gY c w n sh a b)[k]?=some S->e5 S/\∃Q,fR S Q/\nN c Q (af w*((a+k:Nat):Rat)) (if a+k+1=b then U else af w*((a+k+1:Nat):Rat)) v0 v1
 |0,sh,a,b,R,h,g,ae,ao,r,oM,k,S,e=>by
  have:b=a+1:=by simp at g;lia
  subst this;cases k with
  |zero=>
   have e:some sh=some S:=e;cases e;refine⟨ae,R,ao,?_⟩;rw[Nat.add_zero,SL rfl];exact r
  |succ k=>simp[gY]at e
 |n+1,sh,a,b,R,h,g,ae,ao,r,oM,k,S,e=>by
  rw[gY]at e;by_cases z:b-a=1
  ·rw[SL z]at e;have:b=a+1:=by lia
   subst this;cases k with
   |zero=>
    have e:some sh=some S:=e;cases e;refine⟨ae,R,ao,?_⟩;rw[Nat.add_zero,SL rfl];exact r
   |succ k=>simp at e
  ·rw[SZ z]at e;generalize av:(a+b)/2=m at e;have qi:a<m:=by lia
   have fu:m<b:=by lia
   rw[Vt]at g;obtain⟨fS,o6⟩:=hv (w:=w) eg (m:Int);have iM:=dV w0 eg
   have lt:∀i j:Nat,i<j->af w*(i:Rat)<af w*(j:Rat):=λi j py=>by
    have:((i:Nat):Rat)<(j:Rat):=by exact_mod_cast py
    exact Xk this iM
   have o6:af (c8 w (m:Int))=af w*(m:Rat):=o6
   have aaM:af w*(m:Rat)<U:=by
    rcases Nat.lt_or_ge m (b-1)with y|y
    ·have z1:=lt _ _ y;grind
    ·have:m=b-1:=by lia
     rw[this];exact oM
   obtain⟨⟨HW,r1,a6⟩,⟨HX,r2,a7⟩⟩:=aaL ae ao r fS (by rw[o6];exact lt _ _ qi) (by rw[o6];exact aaM);obtain⟨cp,b1⟩:=ae.lowC (c:=c) fS;rw[o6]at r1 r2;have ln:=nM c w n (lowC c (c8 w (m:Int)) sh) a m qi (by lia);by_cases y:k<m-a
   ·rw[TC (by rw[ln];exact y)]at e;obtain⟨ef,Q,fP,lO⟩:=B1 w0 eg (U:=af w*(m:Rat)) n qi (by lia) cp a6 r1 (lt _ _ (by lia)) k S e;refine⟨ef,Q,fP,?_⟩;rw[SZ (show ¬a+k+1=b by lia)];by_cases x:a+k+1=m
    ·rw[SL x]at lO;rw[x];exact lO
    ·rw[SZ x]at lO;exact lO
   ·rw[To (by rw[ln];lia),ln]at e;obtain⟨ef,Q,fP,lO⟩:=B1 w0 eg (U:=U) n fu (by lia) b1 a7 r2 oM (k-(m-a)) S e;rw[show m+(k-(m-a))=a+k by lia]at lO;exact⟨ef,Q,fP,lO⟩
structure rD (s:aK):Prop where
 ps:∀p∈s.1,eA 2770 p
 ln:s.1.length<=75
 st:eA 2770 s.2.2
theorem jE.gm{b m n t:Nat}{s:aK}(h:jE b m n t s)(h1:b<=2770)(h2:n<=75)(aF:t<=2770):rD s:=⟨λp ae=>(h.rb.pts p ae).mono h1,SA h.ln h2,h.st.mono aF⟩
def dSh(sh:ZI):D:=.lst (sh.map cY)
def fB{α β:Type}(h:Nat->α->β):Nat->List α->List β
 |_,[]=>[]
 |i,r::rs=>h i r::fB h (i+1) rs
theorem B2{α β γ:Type}(h:Nat->α->β)(f:β->γ):∀(i:Nat)(rs:List α),(fB h i rs).map f=fB (λi r=>f (h i r)) i rs
 |_,[]=>rfl
 |i,r::rs=>by rw[fB,SD,B2 h f (i+1) rs,fB]
theorem HY{α β:Type}(h:Nat->α->β):∀(i:Nat)(rs:List α),(fB h i rs).length=rs.length
 |_,[]=>rfl
 |i,r::rs=>by simp[fB,HY h (i+1) rs]
theorem B3{α β:Type}(h:Nat->α->β):∀(i:Nat)(rs:List α)(k:Nat),(fB h i rs)[k]?=(rs[k]?).map (h (i+k))
 |_,[],k=>by simp[fB]
 |i,r::rs,0=>by simp[fB]
 |i,r::rs,k+1=>by
  have:=B3 h (i+1) rs k;rw[show i+1+k=i+(k+1) by lia]at this;simpa[fB]using this
theorem B4{α:Type}{f:α->D}{h:Nat->α->D}{u:a9}{fs:ZL}:∀{i:Nat}{rs:List α}{v0 v1:aQ}{k:ZK->Prop},(∀j r,(j,r)∈(fB Prod.mk i rs)->∀k:D->Prop,k (h j r)->u (.val (.int (j:Nat))::.val (f r)::fs) k)->k (fB h i rs)->he (np 2 (hr (e3 0) (hr (e3 1) nm))) ka u (kg i (rs.map f)) (v0::v1::fs) k
 |i,[],_,_,_,_,ag=>ag
 |i,r::rs,v0,v1,k,h1,ag=>by
  refine⟨_,rfl,rfl,_,_,rfl,_,_,rfl,rfl,?_⟩;show(if true=true then u (.val (.int (i:Nat))::.val (f r)::fs) λy=>he (np 2 (hr (e3 0) (hr (e3 1) nm))) ka u (kg (i+1) (rs.map f)) (.val (.int (i:Nat))::.val (f r)::fs) λys=>k (y::ys)else he (np 2 (hr (e3 0) (hr (e3 1) nm))) ka u (kg (i+1) (rs.map f)) (.val (.int (i:Nat))::.val (f r)::fs) k)
  rw[SL rfl];refine h1 i r (by simp[fB]) _ ?_;exact B4 (λj dJ av=>h1 j dJ (by rw[fB];exact Sy _ av)) ag
def kn(c:Bool)(w:Int×Int)(k:Nat):aa:=if c=true then cj (0,1) (c8 w (-(k:Int)))else cj (c8 w (-(k:Int))) (0,1)
noncomputable def eb(c:Bool)(w:Int×Int)(sh:ZI)(m:Nat):List ZI:=fB (λk S=>S.map (eL (kn c w k))) 0 (gY c w 4 sh 0 m)
def cJ(b m n t N:Nat)(sh:ZI):Prop:=(∀s∈sh,jE b m n t s)/\sh.length<=N
theorem HZ{X:Int×Int}{q:Nat}(l:aE X.1 X.2)(bc:wp X.1<=q)(bg:wp X.2<=q):cD (2*q+5) (d1 X):=by
 have aI:=kX (x:=X.1) (y:=X.2) (u:=0) (v:=1) (n:=2) bc bg (by decide) (by decide) l ⟨by decide,by decide⟩;have aP:=kX (x:=X.1) (y:=X.2) (u:=1) (v:=1) (n:=2) bc bg (by decide) (by decide) l ⟨by decide,by decide⟩;exact(aI.crs aP).mono (by lia)
theorem H0{X:Int×Int}{q:Nat}(l:aE X.1 X.2)(bc:wp X.1<=q)(bg:wp X.2<=q):cD (2*q+5) (d2 X):=by
 have aI:=kX (x:=0) (y:=1) (u:=X.1) (v:=X.2) (m:=2) (by decide) (by decide) bc bg ⟨by decide,by decide⟩ l;have aP:=kX (x:=1) (y:=1) (u:=X.1) (v:=X.2) (m:=2) (by decide) (by decide) bc bg ⟨by decide,by decide⟩ l;exact(aI.crs aP).mono (by lia)
theorem o7{f:aa->Int}{mt:aa->aa->aa}(sh:ZI):(ck f mt sh).length<=sh.length:=lQ sh
theorem cJ.cL{b m n t N q:Nat}{X:Int×Int}{sh:ZI}(h:cJ b m n t N sh)(c:Bool)(l:aE X.1 X.2)(bc:wp X.1<=q)(bg:wp X.2<=q)(gI:2*q+5<=m)(av:2*q+5+m+1<=b):cJ b m (n+1) t N (cL X c sh):=by
 obtain⟨dm,dz,hg⟩:=t3 l;unfold Cut.cL;cases c with
 |true=>
  rw[SL rfl];exact⟨o5 h.1 (HZ l bc bg) gI dm hg av _ (.inl rfl),SA (lQ sh) h.2⟩
 |false=>
  rw[SZ (by simp)];have e:(λc => -ln (d1 X) c)=ln (lP (d1 X)):=funext λc=>(mH _ _).symm;rw[e];exact⟨o5 h.1 (HZ l bc bg) gI dm hg av _ (.inr rfl),SA (lQ sh) h.2⟩
theorem cJ.cV{b m n t N q:Nat}{X:Int×Int}{sh:ZI}(h:cJ b m n t N sh)(c:Bool)(l:aE X.1 X.2)(bc:wp X.1<=q)(bg:wp X.2<=q)(gI:2*q+5<=m)(av:2*q+5+m+1<=b):cJ b m (n+1) t N (cV X c sh):=by
 obtain⟨dm,dz,hg⟩:=t4 l;unfold Cut.cV;cases c with
 |true=>
  rw[SL rfl];exact⟨o5 h.1 (H0 l bc bg) gI dm hg av _ (.inl rfl),SA (lQ sh) h.2⟩
 |false=>
  rw[SZ (by simp)];have e:(λc => -ln (d2 X) c)=ln (lP (d2 X)):=funext λc=>(mH _ _).symm;rw[e];exact⟨o5 h.1 (H0 l bc bg) gI dm hg av _ (.inr rfl),SA (lQ sh) h.2⟩
theorem cJ.mono{b m n t N b' m' n' t' N':Nat}{sh:ZI}(h:cJ b m n t N sh)(h1:b<=b')(h2:m<=m')(aF:n<=n')(bj:t<=t')(c5:N<=N'):cJ b' m' n' t' N' sh:=⟨λs aj=>(h.1 s aj).mono h1 h2 aF bj,SA h.2 c5⟩
theorem cJ.mo5{b m n t N b' m' n' t' N':Nat}{sh:ZI}(h:cJ b m n t N sh)(h1:b<=b':=by lia)(h2:m<=m':=by lia)(aF:n<=n':=by lia)(bj:t<=t':=by lia)(c5:N<=N':=by lia):cJ b' m' n' t' N' sh:=⟨λs aj=>(h.1 s aj).mono h1 h2 aF bj,SA h.2 c5⟩
theorem cJ.md5{b m n t N b' m' n' t' N':Nat}{sh:ZI}(h:cJ b m n t N sh)(h1:b<=b':=by decide)(h2:m<=m':=by decide)(aF:n<=n':=by decide)(bj:t<=t':=by decide)(c5:N<=N':=by decide):cJ b' m' n' t' N' sh:=⟨λs aj=>(h.1 s aj).mono h1 h2 aF bj,SA h.2 c5⟩
theorem cJ.cut{b m n t N q:Nat}{X:Int×Int}{sh:ZI}{c:Bool}(h:cJ b m n t N sh)(l:aE X.1 X.2)(bc:wp X.1<=q)(bg:wp X.2<=q)(gI:2*q+5<=m)(av:2*q+5+m+1<=b):cJ b m (n+1) t N (lowC c X sh)/\cJ b m (n+1) t N (highC c X sh):=by
 unfold lowC highC;cases c with
 |true=>
  rw[SL rfl,SL rfl];exact⟨h.cV _ l bc bg gI av,h.cV _ l bc bg gI av⟩
 |false=>
  rw[SZ (by simp),SZ (by simp)];exact⟨h.cL _ l bc bg gI av,h.cL _ l bc bg gI av⟩
theorem cJ.slid{b m n t N g:Nat}{v:aa}{sh:ZI}(h:cJ b m n t N sh)(aH:eA g v):cJ (b+g+1) (m+g+2) n (t+g+1) N (sh.map (eL v)):=⟨λs aj=>by
 obtain⟨r,ak,rfl⟩:=SJ.mp aj
 exact(h.1 r ak).slid aH,by rw[Sw];exact h.2⟩
theorem cJ.app{b m n t N M:Nat}{sh H1:ZI}(h:cJ b m n t N sh)(g:cJ b m n t M H1):cJ b m n t (N+M) (sh++H1):=⟨λs aj=>(SR.mp aj).elim (h.1 s) (g.1 s),by rw[SH];have:=h.2;have:=g.2;lia⟩
theorem k7{w:Int×Int}{q:Nat}(eg:0<w.2)(bc:wp w.1<=q)(bg:wp w.2<=q){k:Int}(ag : -16<=k/\k<=16):wp (c8 w k).1<=q+5/\wp (c8 w k).2<=q+5:=by
 obtain⟨_,_,h1,h2⟩:=gG (t:=w.1*k) (b:=w.2*1) (by lia);have bk:wp k<=5:=dO (t:=16) (by lia) (by decide);exact⟨dO h1 (TE bc bk),dO h2 (SA (TE bg (show wp 1<=1 by decide)) (by lia))⟩
theorem um{c:Bool}{w:Int×Int}{b m t N q:Nat}(eg:0<w.2)(bc:wp w.1<=q)(bg:wp w.2<=q)(gI:2*q+15<=m)(av:2*q+15+m+1<=b):∀(k:Nat){n:Nat}{sh:ZI}{x y:Nat},x<y->y<=16->cJ b m n t N sh->∀S∈gY c w k sh x y,cJ b m (n+k) t N S
 |0,n,sh,x,y,_,_,h,S,ci=>by rw[SM.mp ci];exact h
 |k+1,n,sh,x,y,H2,aG,h,S,ci=>by
  rw[gY]at ci;by_cases z:y-x=1
  ·rw[SL z]at ci;rw[SM.mp ci];exact h.mono (Sx _) (Sx _) (by lia) (Sx _) (Sx _)
  ·rw[SZ z]at ci;obtain⟨l,_⟩:=hv (w:=w) eg (((x+y)/2:Nat):Int);obtain⟨c1,c2⟩:=k7 (w:=w) (q:=q) eg bc bg (k:=(((x+y)/2:Nat):Int)) (by lia);obtain⟨h1,h2⟩:=h.cut (c:=c) l c1 c2 (by lia) (by lia);rcases SR.mp ci with e|e
   ·have:=um eg bc bg gI av k (by lia) (by lia) h1 S e
    rwa [show n+1+k=n+(k+1) by lia]at this
   ·have:=um eg bc bg gI av k (by lia) aG h2 S e
    rwa [show n+1+k=n+(k+1) by lia]at this
theorem B5{α:Type}{j:Nat}{r:α}:∀{i:Nat}{rs:List α},(j,r)∈fB Prod.mk i rs->i<=j/\j<i+rs.length/\r∈rs
 |i,[],h=>by simp[fB]at h
 |i,x::rs,h=>by
  rw[fB]at h;rcases SG.mp h with h|h
  ·cases h;exact⟨Sx _,by simp,Sv⟩
  ·obtain⟨a,b,c⟩:=B5 h;exact⟨by lia,by simp;lia,Sy _ c⟩
theorem B6{c:Bool}{w:Int×Int}{q:Nat}(eg:0<w.2)(bc:wp w.1<=q)(bg:wp w.2<=q){j:Nat}(b8:j<=16):eA (q+7) (kn c w j):=by
 obtain⟨l,_⟩:=hv (w:=w) eg (-(j:Int));obtain⟨c1,c2⟩:=k7 (w:=w) (q:=q) eg bc bg (k :=-(j:Int)) (by lia);unfold kn cj;cases c with
 |true=>
  rw[SL rfl];exact⟨(i7 (n:=1*(c8 w (-(j:Int))).2) (Sz (SE (by decide) l.1))).1,(kX (x:=0) (y:=1) (m:=2) (by decide) (by decide) c1 c2 ⟨by decide,by decide⟩ l).mono (by lia)⟩
 |false=>
  rw[SZ (by simp)];exact⟨(i7 (n:=(c8 w (-(j:Int))).2*1) (Sz (SE l.1 (by decide)))).1,(kX (u:=0) (v:=1) (n:=2) c1 c2 (by decide) (by decide) l ⟨by decide,by decide⟩).mono (by lia)⟩
abbrev BoxD:=aX×aX×ZI
abbrev ZM:=List BoxD
def dBx(b:BoxD):D:=.tup [dR b.1,dR b.2.1,dSh b.2.2]
def ih(H h:aX):aX:=cg (H.1*h.2+h.1*H.2) (H.2*h.2)
noncomputable def dj:ZM->aX->ZI
 |[],_=>[]
 |b::r,H=>b.2.2.map (eL (cj (0,1) H))++dj r (ih H b.2.1)
def bI:ZM->aX->aX
 |[],H=>H
 |b::r,H=>bI r (ih H b.2.1)
theorem B7:∀(a b:ZM)(H:aX),bI (a++b) H=bI b (bI a H)
 |[],_,_=>rfl
 |x::a,b,H=>B7 a b _
theorem H3:∀(a b:ZM)(H:aX),dj (a++b) H=dj a H++dj b (bI a H)
 |[],_,_=>rfl
 |x::a,b,H=>by
  rw[Tp,dj,dj,H3 a b,S7];rfl
theorem qj:∀(bs:ZM)(H:aX),(dj bs H).length=(bs.map λb=>b.2.2.length).sum
 |[],_=>rfl
 |b::r,H=>by rw[dj,SH,Sw,qj r,SD,SN]
theorem aaN(x:D)(r:ZK):ej (x::r) 0=some x:=by
 unfold ej ixN;rw[SL (by lia),SL (by simp)];rfl
theorem o8{H h:aX}(a6:0<H.2)(a7:0<h.2):aE (ih H h).1 (ih H h).2:=(gG (Sz (SE a6 a7))).1
theorem uo:∀{bs:ZM}{H:aX},aE H.1 H.2->(∀b∈bs,0<b.2.1.2)->aE (bI bs H).1 (bI bs H).2
 |[],_,l,_=>l
 |b::r,H,l,h=>by
  rw[bI];exact uo (bs:=r) (o8 l.1 (h b Sv)) λx aq=>h x (Sy _ aq)
theorem up{H h:aX}(a6:0<H.2)(a7:0<h.2):af (ih H h)=af H+af h:=by
 unfold ih;rw[mO (SE a6 a7)];have a:=di a6;have b:=di a7;unfold af;push_cast;grind
def d3(a b:aX):aX:=cg (a.1*b.2) (a.2*b.1)
def fI(a b:aX):aX:=cg (a.1*b.2-b.1*a.2) (a.2*b.2)
def hU(w g:aX)(N:Nat):aX:=fI w (c8 g ((N:Int)-1))
def fT(h:aX)(N:Nat):aX:=d3 h ((N:Int),1)
noncomputable def fJ(w:aX)(i:Nat)(Ss:ZY):List aK:=(fB (λk S=>S.map (eL (cj (c8 w (k:Int)) (0,1)))) i Ss).flatten
def er(w h g:aX):aX:=d3 (cg (w.1*h.1) (w.2*h.2)) g
def bT(w H:aX):aa:=crs (cj w (0,1)) (cj (0,1) H)
noncomputable def lY(w h g:aX)(sh:ZI):List aK:=
 cL g true (ck (ln (bT w (er w h g))) (aU (bT w (er w h g))) sh)++(cL g false (ck (ln (bT w (er w h g))) (aU (bT w (er w h g))) sh)).map (eL (cj (-g.1,g.2) h))++(ck (λc => -ln (bT w (er w h g)) c) (aU (bT w (er w h g))) sh).map (eL (cj (fI g w) (fI (er w h g) h)))
theorem nO{a b:aX}(h1:0<a.2)(h2:0<b.1)(aF:0<b.2):aE (d3 a b).1 (d3 a b).2/\af (d3 a b)=af a/af b:=by
 have p:=SE h1 h2;refine⟨(gG (t:=a.1*b.2) (b:=a.2*b.1) (Sz p)).1,?_⟩;unfold d3;rw[mO p];have x:=di h1;have y:=di h2;have z:=di aF;unfold af;push_cast;grind
theorem rE{a b:aX}{p q:Nat}(h1:0<a.2)(h2:0<b.1)(bc:wp a.1<=p)(bg:wp a.2<=p)(dP:wp b.1<=q)(fa:wp b.2<=q):wp (d3 a b).1<=p+q/\wp (d3 a b).2<=p+q:=by
 obtain⟨_,_,ai,ap⟩:=gG (t:=a.1*b.2) (b:=a.2*b.1) (Sz (SE h1 h2));exact⟨dO ai (TE bc fa),dO ap (TE bg dP)⟩
theorem nQ{a b:aX}(h1:0<a.2)(h2:0<b.2):aE (fI a b).1 (fI a b).2/\af (fI a b)=af a-af b:=by
 have p:=SE h1 h2;refine⟨(gG (t:=a.1*b.2-b.1*a.2) (b:=a.2*b.2) (Sz p)).1,?_⟩;unfold fI;rw[mO p];have x:=di h1;have y:=di h2;unfold af;push_cast;grind
theorem uq{a b:aX}{p q:Nat}(h1:0<a.2)(h2:0<b.2)(bc:wp a.1<=p)(bg:wp a.2<=p)(dP:wp b.1<=q)(fa:wp b.2<=q):wp (fI a b).1<=p+q+1/\wp (fI a b).2<=p+q+1:=by
 obtain⟨_,_,ai,ap⟩:=gG (t:=a.1*b.2-b.1*a.2) (b:=a.2*b.2) (Sz (SE h1 h2));have x:=TE bc fa;have y:=TE dP bg;rw[Wo q p]at y;have z:=Yh x y;rw[VB]at z;exact⟨dO ai z,dO ap (SA (TE bg fa) (by lia))⟩
theorem je{a b:aX}{p q:Nat}(a6:aE a.1 a.2)(a7:aE b.1 b.2)(bc:wp a.1<=p)(bg:wp a.2<=p)(dP:wp b.1<=q)(fa:wp b.2<=q):eA (p+q) (cj a b):=⟨(i7 (n:=a.2*b.2) (Sz (SE a6.1 a7.1))).1,kX bc bg dP fa a6 a7⟩
theorem B8{w:aX}:∀(Ss:ZY)(S:ZI)(i:Nat),fJ w i (Ss++[S])=fJ w i Ss++S.map (eL (cj (c8 w ((i+Ss.length:Nat):Int)) (0,1)))
 |[],S,i=>by simp[fJ,fB]
 |T::Ss,S,i=>by
  have:=B8 Ss S (i+1) (w:=w);unfold fJ at this⊢;rw[Tp,fB,TG,this,fB,TG,S7,SK,show i+1+Ss.length=i+(Ss.length+1) by lia]
theorem mQ{c:Bool}{w:aX}{sh:ZI}{m:Nat}(h:1<=m)(lR:m<=16):(eb c w sh m).length=m:=by
 unfold eb;rw[HY,nM c w 4 sh 0 m (by lia) (by lia)];lia
theorem H4{c:Bool}{w:aX}{sh:ZI}{m:Nat}{S:ZI}(ci:S∈eb c w sh m):∃(k:Nat)(T:ZI),T∈gY c w 4 sh 0 m/\k<(gY c w 4 sh 0 m).length/\S=T.map (eL (kn c w k)):=by
 obtain⟨k,ag⟩:=Ui ci;unfold eb at ag;rw[B3,TR]at ag;cases q:(gY c w 4 sh 0 m)[k]? with
 |none=>rw[q]at ag;cases ag
 |some T=>
  rw[q]at ag;cases ag;exact⟨k,T,Tt q,(T8.mp q).1,rfl⟩
theorem xq{c:Bool}{w:aX}{b m t N q:Nat}(eg:0<w.2)(bc:wp w.1<=q)(bg:wp w.2<=q)(gI:2*q+15<=m)(av:2*q+15+m+1<=b){n:Nat}{sh:ZI}{y:Nat}(bx:1<=y)(xr:y<=16)(h:cJ b m n t N sh):∀S∈eb c w sh y,cJ (b+q+8) (m+q+9) (n+4) (t+q+8) N S:=λS ci=>by
 obtain⟨k,T,dU,ag,rfl⟩:=H4 ci;rw[nM c w 4 sh 0 y (by lia) (by lia)]at ag;have:=um (c:=c) eg bc bg gI av 4 (by lia) xr h T dU;exact(this.slid (B6 (c:=c) eg bc bg (j:=k) (by lia))).mo5
theorem xt{w h g H:aX}(lw:aE w.1 w.2)(w0:0<w.1)(lh:aE h.1 h.2)(h0:0<h.1)(aM:aE g.1 g.2)(aZ:0<g.1)(e:H=er w h g):0<H.1:=by
 have lt:=gG (t:=w.1*h.1) (b:=w.2*h.2) (Sz (SE lw.1 lh.1));obtain⟨b4,ii⟩:=nO (a:=cg (w.1*h.1) (w.2*h.2)) (b:=g) lt.1.1 aZ aM.1;have ap:=mO (t:=w.1*h.1) (b:=w.2*h.2) (SE lw.1 lh.1);have a:=dV w0 lw.1;have b:=dV h0 lh.1;have c:=dV aZ aM.1
 have br:((w.1*h.1:Int):Rat)/((w.2*h.2:Int):Rat)=af w*af h:=by
  have x:=di lw.1;have y:=di lh.1;unfold af;push_cast;grind
 have pos:0<af H:=by
  rw[e];show 0<af (d3 (cg (w.1*h.1) (w.2*h.2)) g)
  rw[ii,ap,br,Um];exact Td (Td a b) (U3.mpr c)
 have a7:0<H.2:=by rw[e];exact b4.1
 apply TB;intro z;have z1:((H.1:Int):Rat)<=0:=by exact_mod_cast (show H.1<=0 by lia)
 have aY:(0:Rat)<((H.2:Int):Rat):=by exact_mod_cast a7
 unfold af at pos;rw[Um]at pos;have eI:=U3.mpr aY
 have:((H.1:Int):Rat)*(((H.2:Int):Rat))⁻¹<=0:=by
  have:=T7 z1 (Te eI)
  rwa [Ww]at this
 grind
theorem ur{w H:aX}(lw:aE w.1 w.2)(w0:0<w.1)(b4:aE H.1 H.2)(f9:0<H.1):(bT w H).1≠0\/(bT w H).2.1≠0:=by
 have ef:cb (cj w (0,1)) (af w) 0:=(gx lw.1 (by decide)).to rfl (gW _);have fP:cb (cj (0,1) H) 0 (af H):=(gx (by decide) b4.1).to (gW _) rfl;refine kU ef.1 fP.1 λe=>?_;rw[e]at ef;have:=ef.2.1.symm.trans fP.2.1;have:=dV w0 lw.1;grind
theorem o9{a b:aX}(a6:aE a.1 a.2)(a7:aE b.1 b.2)(e:af a=af b):a=b:=by
 have c:=Bo a6.1 a7.1 e;have h1:=v' (t:=a.1) (b:=a.2) a6 (Sz a6.1) rfl;have h2:=v' (t:=a.1) (b:=a.2) a7 (Sz a6.1) c.symm;exact h1.symm.trans h2
def cS(w g:aX):Nat:=(-((-(d3 g w).1).fdiv (d3 g w).2)).toNat
def dk(w g:aX):Nat:=((d3 w g).1.fdiv (d3 w g).2).toNat
theorem aaO{x y:Int}(h:0<y):x.fdiv y*y<=x/\x<(x.fdiv y+1)*y:=by
 rw[Wx _ (by lia)];have a:=Int.mul_ediv_add_emod x y;have b:=TS x (show y≠0 by lia);have c:=T6 x h;rw[Int.add_mul,S2];lia
theorem H5{x y:Int}(h:0<y):((x.fdiv y:Int):Rat)<=(x:Rat)/y/\(x:Rat)/y<((x.fdiv y+1:Int):Rat):=by
 obtain⟨a,b⟩:=aaO (x:=x) h;have aG:(0:Rat)<(y:Rat):=by exact_mod_cast h
 have fv:((x.fdiv y:Int):Rat)*y<=(x:Rat):=by exact_mod_cast a
 have b':(x:Rat)<((x.fdiv y+1:Int):Rat)*y:=by exact_mod_cast b
 refine⟨?_,(Wy aG).mpr b'⟩;apply TB;intro z;have z:=Rat.not_le.mp z;have:=(Wy aG).mp z;grind
section
variable{w g:aX}(lw:aE w.1 w.2)(w0:0<w.1)(aM:aE g.1 g.2)(aZ:0<g.1)
include lw w0 aM aZ
theorem rF(h:g.1*w.2<=w.1*g.2)(lR:w.1*g.2<=16*(g.1*w.2)):(d3 w g).1.fdiv (d3 w g).2=(dk w g:Int)/\1<=dk w g/\dk w g<=16/\(dk w g:Rat)*af g<=af w/\af w<((dk w g+1:Nat):Rat)*af g:=by
 obtain⟨l,e⟩:=nO (a:=w) (b:=g) lw.1 aZ aM.1;obtain⟨a4,a'⟩:=H5 (x:=(d3 w g).1) l.1;have aW:(((d3 w g).1:Int):Rat)/((d3 w g).2:Int)=af w/af g:=e;rw[aW]at a4 a';have qk:=dV aZ aM.1;have oz:=dV w0 lw.1
 have bC:af g<=af w:=by
  have cp:=di lw.1;have b1:=di aM.1;have b7:(0:Rat)<w.2:=by exact_mod_cast lw.1
  have bW:(0:Rat)<g.2:=by exact_mod_cast aM.1
  have c:(g.1:Rat)*w.2<=(w.1:Rat)*g.2:=by exact_mod_cast h
  refine Wz (c:=(w.2:Rat)*g.2) ?_ (Td b7 bW);unfold af;have u:(g.1:Rat)/g.2*(w.2*g.2)=g.1*w.2:=by grind
  have v:(w.1:Rat)/w.2*(w.2*g.2)=w.1*g.2:=by grind
  rw[u,v];exact c
 have aaP:af w<=16*af g:=by
  have cp:=di lw.1;have b1:=di aM.1;have b7:(0:Rat)<w.2:=by exact_mod_cast lw.1
  have bW:(0:Rat)<g.2:=by exact_mod_cast aM.1
  have c:(w.1:Rat)*g.2<=16*((g.1:Rat)*w.2):=by exact_mod_cast lR
  refine Wz (c:=(w.2:Rat)*g.2) ?_ (Td b7 bW);unfold af;have u:16*((g.1:Rat)/g.2)*(w.2*g.2)=16*(g.1*w.2):=by grind
  have v:(w.1:Rat)/w.2*(w.2*g.2)=w.1*g.2:=by grind
  rw[u,v];exact c
 generalize ay:(d3 w g).1.fdiv (d3 w g).2=q at a4 a';have pJ:af g≠0:=by grind
 have bm:(q:Rat)*af g<=af w:=by
  have:=T7 a4 (Te qk)
  rwa [VC pJ]at this
 have bJ:af w<((q+1:Int):Rat)*af g:=by
  have:=VD a' qk
  rwa [VC pJ]at this
 have aO:1<=q:=by
  apply TB;intro z;have:((q+1:Int):Rat)<=1:=by exact_mod_cast (show q+1<=1 by lia)
  have:=T7 this (Te qk);grind
 have sY:q<=16:=by
  apply TB;intro z;have:(17:Rat)<=(q:Rat):=by exact_mod_cast (show 17<=q by lia)
  have:=T7 this (Te qk);grind
 have eq:(dk w g:Int)=q:=by unfold dk;rw[ay];lia
 refine⟨eq.symm,by lia,by lia,?_,?_⟩
 ·have:((dk w g:Nat):Rat)=(q:Rat):=by rw[<-eq];rfl
  rw[this];exact bm
 ·have:((dk w g+1:Nat):Rat)=((q+1:Int):Rat):=by rw[<-eq];rfl
  rw[this];exact bJ
theorem ut(h:w.1*g.2<g.1*w.2)(lR:g.1*w.2<=16*(w.1*g.2)): -((-(d3 g w).1).fdiv (d3 g w).2)=(cS w g:Int)/\1<=cS w g/\cS w g<=16/\((cS w g:Rat)-1)*af w<af g/\af g<=(cS w g:Rat)*af w:=by
 obtain⟨l,e⟩:=nO (a:=g) (b:=w) aM.1 w0 lw.1;obtain⟨a4,a'⟩:=H5 (x :=-(d3 g w).1) l.1
 have aW:((-(d3 g w).1:Int):Rat)/((d3 g w).2:Int) = -(af g/af w):=by
  have:(((d3 g w).1:Int):Rat)/((d3 g w).2:Int)=af g/af w:=e;rw[<-this,VE,Um,Um,WA]
 rw[aW]at a4 a';have qk:=dV aZ aM.1;have oz:=dV w0 lw.1
 have bC:af w<af g:=by
  have cp:=di lw.1;have b1:=di aM.1;have b7:(0:Rat)<w.2:=by exact_mod_cast lw.1
  have bW:(0:Rat)<g.2:=by exact_mod_cast aM.1
  have c:(w.1:Rat)*g.2<(g.1:Rat)*w.2:=by exact_mod_cast h
  refine Rat.lt_of_mul_lt_mul_right (c:=(w.2:Rat)*g.2) ?_ (Te (Td b7 bW));unfold af;have u:(g.1:Rat)/g.2*(w.2*g.2)=g.1*w.2:=by grind
  have v:(w.1:Rat)/w.2*(w.2*g.2)=w.1*g.2:=by grind
  rw[u,v];exact c
 have aaP:af g<=16*af w:=by
  have cp:=di lw.1;have b1:=di aM.1;have b7:(0:Rat)<w.2:=by exact_mod_cast lw.1
  have bW:(0:Rat)<g.2:=by exact_mod_cast aM.1
  have c:(g.1:Rat)*w.2<=16*((w.1:Rat)*g.2):=by exact_mod_cast lR
  refine Wz (c:=(w.2:Rat)*g.2) ?_ (Td b7 bW);unfold af;have u:(g.1:Rat)/g.2*(w.2*g.2)=g.1*w.2:=by grind
  have v:16*((w.1:Rat)/w.2)*(w.2*g.2)=16*(w.1*g.2):=by grind
  rw[u,v];exact c
 generalize ay:(-(d3 g w).1).fdiv (d3 g w).2=q at a4 a';have uj:af w≠0:=by grind
 have bm:(q:Rat)*af w <= -af g:=by
  have:=T7 a4 (Te oz)
  rwa [WA,VC uj]at this
 have bJ : -af g<((q+1:Int):Rat)*af w:=by
  have:=VD a' oz
  rwa [WA,VC uj]at this
 have lF:((q+1:Int):Rat)=(q:Rat)+1:=by push_cast;rfl
 have aO:q <= -1:=by
  apply TB;intro z;have:(0:Rat)<=(q:Rat):=by exact_mod_cast (show 0<=q by lia)
  have:=T7 this (Te oz);grind
 have sY : -16<=q:=by
  apply TB;intro z;have:((q+1:Int):Rat)<=((-16:Int):Rat):=Rat.intCast_le_intCast.mpr (show q+1 <= -16 by lia);have xu:((-16:Int):Rat) = -16:=by rfl
  rw[xu]at this;have:=T7 this (Te oz);grind
 have eq:(cS w g:Int) = -q:=by unfold cS;rw[ay];lia
 have rG:((cS w g:Nat):Rat) = -(q:Rat):=by
  have:((cS w g:Nat):Rat)=((-q:Int):Rat):=by rw[<-eq];rfl
  rw[this,VE]
 refine⟨eq.symm,by lia,by lia,?_,?_⟩
 ·rw[rG];rw[lF]at bJ;grind
 ·rw[rG];grind
end
noncomputable def d4(g:aX)(b:BoxD):BoxD:=if b.1=g then b else(g,er b.1 b.2.1 g,lY b.1 b.2.1 g b.2.2)
theorem H6(g:aX)(b:BoxD):(d4 g b).1=g:=by
 unfold d4;by_cases h:b.1=g
 ·rw[SL h];exact h
 ·rw[SZ h]
noncomputable def layB(w h g:aX)(sh:ZI):BoxD:=(c8 w (cS w g:Int),fT h (cS w g),fJ w 0 (eb true (fT h (cS w g)) sh (cS w g)))
noncomputable def fc(w h g:aX)(sh:ZI):List BoxD:=
 if w.1*g.2<g.1*w.2 then[d4 g (layB w h g sh)]
 else(eb false g sh (dk w g)).dropLast.map (λS=>((g,h,S):BoxD))++[d4 g (hU w g (dk w g),h,(eb false g sh (dk w g)).getLastD [])]
theorem uu{w h g:aX}{sh:ZI}(c:w.1*g.2<g.1*w.2):fc w h g sh=[d4 g (layB w h g sh)]:=by
 unfold fc;rw[SL c]
theorem rH{w h g:aX}{sh:ZI}(c:¬w.1*g.2<g.1*w.2){Ss:ZY}{Z:ZI}(e:eb false g sh (dk w g)=Ss++[Z]):fc w h g sh=Ss.map (λS=>((g,h,S):BoxD))++[d4 g (hU w g (dk w g),h,Z)]:=by
 unfold fc;rw[SZ c,e,Wv,List.getLastD_concat]
theorem aaQ{w h g:aX}{sh:ZI}:∀b∈fc w h g sh,b.1=g:=by
 intro b ab;unfold fc at ab;by_cases c:w.1*g.2<g.1*w.2
 ·rw[SL c]at ab;rw[SM.mp ab,H6]
 ·rw[SZ c]at ab;rcases SR.mp ab with ab|ab
  ·obtain⟨S,_,rfl⟩:=SJ.mp ab;rfl
  ·rw[SM.mp ab,H6]
theorem H7{h:aX}(l:0<h.2):∀{bs:ZM}{H:aX},aE H.1 H.2->(∀b∈bs,b.2.1=h)->af (bI bs H)=af H+(bs.length:Rat)*af h
 |[],H,_,_=>by
  show af H=af H+((0:Nat):Rat)*af h
  have:((0:Nat):Rat)=0:=rfl;rw[this];grind
 |b::r,H,b4,ab=>by
  have e:=ab b Sv;rw[bI,e,H7 l (bs:=r) (o8 b4.1 l) (λx aq=>ab x (Sy _ aq)),up b4.1 l,SK];have:((r.length+1:Nat):Rat)=(r.length:Rat)+1:=by push_cast;rfl
  rw[this];grind
theorem H8{h:aX}(l:aE h.1 h.2){bs:ZM}(ab:∀b∈bs,b.2.1=h):bI bs (0,1)=c8 h (bs.length:Int):=by
 obtain⟨h8,em⟩:=hv (w:=h) l.1 (bs.length:Int);refine o9 (uo ⟨by decide,by decide⟩ λb nR=>by rw[ab b nR];exact l.1) h8 ?_;rw[em,H7 l.1 ⟨by decide,by decide⟩ ab];have:af (0,1)=0:=gW _;rw[this];have:(((bs.length:Nat):Int):Rat)=(bs.length:Rat):=rfl;rw[this];grind
theorem xv{b m n t N q:Nat}:∀{bs:ZM}{H:aX},(∀pre x rest,bs=pre++x::rest->eA q (cj (0,1) (bI pre H)))->(∀x∈bs,cJ b m n t N x.2.2)->cJ (b+q+1) (m+q+2) n (t+q+1) (N*bs.length) (dj bs H)
 |[],H,_,_=>⟨λs aj=>absurd aj Tr,S8 _⟩
 |x::r,H,ae,aj=>by
  have a:=(aj x Sv).slid (ae [] x r rfl);have c:=xv (bs:=r) (H:=ih H x.2.1) (λpre y rest e=>ae (x::pre) y rest (by rw[e];rfl)) λy aG=>aj y (Sy _ aG);rw[dj];refine(a.app c).mono (Sx _) (Sx _) (Sx _) (Sx _) ?_;rw[SK,Ud];lia
theorem H9{w:aX}(lw:aE w.1 w.2)(c1:wp w.1<=30)(c2:wp w.2<=30){b m n t N:Nat}:∀{Ss:ZY}{i:Nat},i+Ss.length<=16->(∀S∈Ss,cJ b m n t N S)->cJ (b+38) (m+39) n (t+38) (N*Ss.length) (fJ w i Ss)
 |[],i,_,_=>⟨λs aj=>absurd aj Tr,S8 _⟩
 |S::r,i,au,aj=>by
  rw[SK]at au;obtain⟨fS,_⟩:=hv (w:=w) lw.1 (i:Int);obtain⟨bC,e4⟩:=k7 (w:=w) (q:=30) lw.1 c1 c2 (k:=(i:Int)) (by lia);have dG:=je (a:=c8 w (i:Int)) (b:=(0,1)) (p:=35) (q:=2) fS ⟨by decide,by decide⟩ bC e4 (by decide) (by decide);have a:=(aj S Sv).slid dG;have c:=H9 lw c1 c2 (Ss:=r) (i:=i+1) (by lia) λy aG=>aj y (Sy _ aG)
  have e:fJ w i (S::r)=S.map (eL (cj (c8 w (i:Int)) (0,1)))++fJ w (i+1) r:=by
   unfold fJ;rw[fB,TG]
  rw[e];refine(a.app c).mono (Sx _) (Sx _) (Sx _) (Sx _) ?_;rw[SK,Ud];lia
section
variable{w h g:aX}(lw:aE w.1 w.2)(w0:0<w.1)(lh:aE h.1 h.2)(h0:0<h.1)(aM:aE g.1 g.2)(aZ:0<g.1)
include lw w0 lh h0 aM aZ
theorem uv{p q r:Nat}(c1:wp w.1<=p)(c2:wp w.2<=p)(c3:wp h.1<=q)(c4:wp h.2<=q)(bE:wp g.1<=r)(bG:wp g.2<=r):aE (er w h g).1 (er w h g).2/\wp (er w h g).1<=p+q+r/\wp (er w h g).2<=p+q+r/\af (er w h g)=af w*af h/af g:=by
 have lt:=gG (t:=w.1*h.1) (b:=w.2*h.2) (Sz (SE lw.1 lh.1));have k5:wp (cg (w.1*h.1) (w.2*h.2)).1<=p+q/\wp (cg (w.1*h.1) (w.2*h.2)).2<=p+q:=⟨dO lt.2.2.1 (TE c1 c3),dO lt.2.2.2 (TE c2 c4)⟩;obtain⟨b4,ii⟩:=nO (a:=cg (w.1*h.1) (w.2*h.2)) (b:=g) lt.1.1 aZ aM.1;obtain⟨bw,bF⟩:=rE (a:=cg (w.1*h.1) (w.2*h.2)) (b:=g) (p:=p+q) (q:=r) lt.1.1 aZ k5.1 k5.2 bE bG;refine⟨b4,bw,bF,?_⟩;refine ii.trans ?_;rw[mO (SE lw.1 lh.1)]
 have br:((w.1*h.1:Int):Rat)/((w.2*h.2:Int):Rat)=af w*af h:=by
  have x:=di lw.1;have y:=di lh.1;unfold af;push_cast;grind
 rw[br]
theorem aaR(c1:wp w.1<=70)(c2:wp w.2<=70)(c3:wp h.1<=110)(c4:wp h.2<=110)(bE:wp g.1<=30)(bG:wp g.2<=30){b m n t N:Nat}{sh:ZI}(aj:cJ b m n t N sh)(av:300<=m)(ab:301+m<=b):cJ (b+423) (m+424) (n+2) (t+423) (3*N) (lY w h g sh):=by
 obtain⟨b4,bw,bF,ii⟩:=uv lw w0 lh h0 aM aZ c1 c2 c3 c4 bE bG;have d9:aE 0 1:=⟨by decide,by decide⟩;have f9:=xt lw w0 lh h0 aM aZ rfl;unfold lY;generalize er w h g=H at b4 bw bF ii f9⊢;have cp:=je (a:=w) (b:=(0,1)) (p:=70) (q:=2) lw d9 c1 c2 (by decide) (by decide);have b1:=je (a:=(0,1)) (b:=H) (p:=2) (q:=210) d9 b4 (by decide) (by decide) bw bF;have bl:cD 300 (bT w H):=(cp.bp.crs b1.bp).mono (by decide);have nS:(bT w H).1≠0\/(bT w H).2.1≠0:=ur lw w0 b4 f9;have e:(λc => -ln (bT w H) c)=ln (lP (bT w H)):=funext λc=>(mH _ _).symm;have z1:cJ b m (n+1) t N (ck (ln (bT w H)) (aU (bT w H)) sh):=⟨o5 aj.1 bl (by lia) nS (oS _ _) (by lia) _ (.inl rfl),SA (lQ sh) aj.2⟩
 have aY:cJ b m (n+1) t N (ck (λc => -ln (bT w H) c) (aU (bT w H)) sh):=by
  rw[e];exact⟨o5 aj.1 bl (by lia) nS (oS _ _) (by lia) _ (.inr rfl),SA (lQ sh) aj.2⟩
 have bM:=z1.cL (X:=g) (q:=30) true aM bE bG (by lia) (by lia);have cy:=z1.cL (X:=g) (q:=30) false aM bE bG (by lia) (by lia);have aO:=je (a:=(-g.1,g.2)) (b:=h) (p:=30) (q:=110) ⟨aM.1,by rw[U5];exact aM.2⟩ lh (Xz bE) bG c3 c4;obtain⟨mR,_⟩:=nQ (a:=g) (b:=w) aM.1 lw.1;obtain⟨rI,_⟩:=nQ (a:=H) (b:=h) b4.1 lh.1;obtain⟨bC,e4⟩:=uq (a:=g) (b:=w) (p:=30) (q:=70) aM.1 lw.1 bE bG c1 c2;obtain⟨nF,kT⟩:=uq (a:=H) (b:=h) (p:=210) (q:=110) b4.1 lh.1 bw bF c3 c4;have bz:=je (a:=fI g w) (b:=fI H h) (p:=101) (q:=321) mR rI bC e4 nF kT;have a3:=(cy.slid aO).mono (b':=b+423) (m':=m+424) (n':=n+2) (t':=t+423) (N':=N) (by lia) (by lia) (by lia) (by lia) (by lia);have bR:=(aY.slid bz).mono (b':=b+423) (m':=m+424) (n':=n+2) (t':=t+423) (N':=N) (by lia) (by lia) (by lia) (by lia) (by lia);have az:=bM.mono (b':=b+423) (m':=m+424) (n':=n+2) (t':=t+423) (N':=N) (by lia) (by lia) (by lia) (by lia) (by lia);exact((az.app a3).app bR).mono (Sx _) (Sx _) (Sx _) (Sx _) (by lia)
theorem H'(c1:wp w.1<=70)(c2:wp w.2<=70)(c3:wp h.1<=110)(c4:wp h.2<=110)(bE:wp g.1<=30)(bG:wp g.2<=30){b m n t N:Nat}{sh:ZI}(aj:cJ b m n t N sh)(av:300<=m)(ab:301+m<=b):cJ (b+423) (m+424) (n+2) (t+423) (3*N) (d4 g (w,h,sh)).2.2/\aE (d4 g (w,h,sh)).2.1.1 (d4 g (w,h,sh)).2.1.2/\wp (d4 g (w,h,sh)).2.1.1<=210/\wp (d4 g (w,h,sh)).2.1.2<=210/\af (d4 g (w,h,sh)).2.1=af w*af h/af g:=by
 obtain⟨b4,bw,bF,ii⟩:=uv lw w0 lh h0 aM aZ c1 c2 c3 c4 bE bG;unfold d4;by_cases e:w=g
 ·rw[SL e];refine⟨aj.mo5,lh,aR c3,aR c4,?_⟩;show af h=_
  have:=dV w0 lw.1;rw[<-e];grind
 ·rw[SZ e];exact⟨aaR lw w0 lh h0 aM aZ c1 c2 c3 c4 bE bG aj av ab,b4,bw,bF,ii⟩
end
theorem ql{a:aX}(h:0<af a)(h2:0<a.2):0<a.1:=by
 apply TB;intro z;have z1:((a.1:Int):Rat)<=0:=by exact_mod_cast (show a.1<=0 by lia)
 have aY:(0:Rat)<((a.2:Int):Rat):=by exact_mod_cast h2
 unfold af at h;rw[Um]at h;have eI:=U3.mpr aY
 have:((a.1:Int):Rat)*(((a.2:Int):Rat))⁻¹<=0:=by
  have:=T7 z1 (Te eI)
  rwa [Ww]at this
 grind
section
variable{w h g:aX}(lw:aE w.1 w.2)(w0:0<w.1)(lh:aE h.1 h.2)(h0:0<h.1)(aM:aE g.1 g.2)(aZ:0<g.1)(c1:wp w.1<=30)(c2:wp w.2<=30)(c3:wp h.1<=100)(c4:wp h.2<=100)(bE:wp g.1<=30)(bG:wp g.2<=30)
include lw w0 aM aZ c1 c2 bE bG
theorem xw(h1:g.1*w.2<=w.1*g.2)(lR:w.1*g.2<=16*(g.1*w.2)):aE (hU w g (dk w g)).1 (hU w g (dk w g)).2/\0<(hU w g (dk w g)).1/\wp (hU w g (dk w g)).1<=66/\wp (hU w g (dk w g)).2<=66/\af (hU w g (dk w g))=af w-af g*((dk w g:Rat)-1):=by
 obtain⟨_,bX,eN,ai,_⟩:=rF lw w0 aM aZ h1 lR;generalize dk w g=N at bX eN ai⊢;obtain⟨jF,k8⟩:=hv (w:=g) aM.1 ((N:Int)-1);obtain⟨bm,bJ⟩:=k7 (w:=g) (q:=30) aM.1 bE bG (k:=(N:Int)-1) (by lia);obtain⟨fq,hx⟩:=nQ (a:=w) (b:=c8 g ((N:Int)-1)) lw.1 jF.1;obtain⟨bC,e4⟩:=uq (a:=w) (b:=c8 g ((N:Int)-1)) (p:=30) (q:=35) lw.1 jF.1 c1 c2 bm bJ;have qk:=dV aZ aM.1;have lF:(((N:Int)-1:Int):Rat)=(N:Rat)-1:=by push_cast;rfl
 have e:af (hU w g N)=af w-af g*((N:Rat)-1):=by
  unfold hU;rw[hx,k8,lF]
 refine⟨fq,ql ?_ fq.1,bC,e4,e⟩;rw[e];grind
omit aM aZ bE bG
include lh h0 c3 c4
theorem uw{N:Nat}(hf:1<=N)(qm:N<=16):aE (fT h N).1 (fT h N).2/\0<(fT h N).1/\wp (fT h N).1<=105/\wp (fT h N).2<=105/\af (fT h N)=af h/(N:Rat)/\aE (c8 w (N:Int)).1 (c8 w (N:Int)).2/\0<(c8 w (N:Int)).1/\wp (c8 w (N:Int)).1<=35/\wp (c8 w (N:Int)).2<=35/\af (c8 w (N:Int))=af w*(N:Rat):=by
 have qn:wp (N:Int)<=5:=dO (t:=16) (by lia) (by decide);obtain⟨fq,hx⟩:=nO (a:=h) (b:=((N:Int),1)) lh.1 (by show(0:Int)<N;lia) (show(0:Int)<1 by decide);obtain⟨a6,a7⟩:=rE (a:=h) (b:=((N:Int),1)) (p:=100) (q:=5) lh.1 (by show(0:Int)<N;lia) c3 c4 qn (show wp 1<=5 by decide);obtain⟨jF,k8⟩:=hv (w:=w) lw.1 (N:Int);obtain⟨bm,bJ⟩:=k7 (w:=w) (q:=30) lw.1 c1 c2 (k:=(N:Int)) (by lia);have xx:(0:Rat)<(N:Rat):=by exact_mod_cast (show 0<N by lia)
 have W:=dV w0 lw.1;have H:=dV h0 lh.1
 have sX:af ((N:Int),1)=(N:Rat):=by
  unfold af;show((N:Int):Rat)/((1:Int):Rat)=_
  have:((1:Int):Rat)=1:=rfl;rw[this];have:(((N:Nat):Int):Rat)=(N:Rat):=rfl;rw[this];grind
 rw[sX]at hx
 have cp:0<af (d3 h ((N:Int),1)):=by
  rw[hx,Um];exact Td H (U3.mpr xx)
 have b1:0<af (c8 w (N:Int)):=by
  rw[k8];exact Td W xx
 exact⟨fq,ql cp fq.1,a6,a7,hx,jF,ql b1 jF.1,bm,bJ,k8⟩
include aM aZ bE bG
theorem Ia{B bL n t N:Nat}{sh:ZI}(aj:cJ B bL n t N sh)(eH:310+bL<=B)(av:270<=bL)(bX:1<=cS w g)(eN:cS w g<=16):
  cJ (B+151) (bL+153) (n+4) (t+151) (N*16) (layB w h g sh).2.2:=by
 obtain⟨fq,ij,a6,a7,_⟩:=uw lw w0 lh h0 c1 c2 c3 c4 bX eN;have jX:=xq (c:=true) (w:=fT h (cS w g)) (b:=B) (m:=bL) (t:=t) (N:=N) (q:=105) fq.1 a6 a7 (by lia) (by lia) bX eN aj;have bv:=mQ (c:=true) (w:=fT h (cS w g)) (sh:=sh) bX eN;have:=H9 lw c1 c2 (i:=0) (Ss:=eb true (fT h (cS w g)) sh (cS w g)) (by lia) jX;refine this.mono (by lia) (by lia) (by lia) (by lia) ?_;rw[bv];exact VF _ eN
theorem B9{B bL n t N:Nat}{sh:ZI}(aj:cJ B bL n t N sh)(eH:310+bL<=B)(av:270<=bL)(r1:w.1*g.2<=16*(g.1*w.2))(r2:g.1*w.2<=16*(w.1*g.2)):
  (∀x∈fc w h g sh,aE x.2.1.1 x.2.1.2/\wp x.2.1.1<=210/\wp x.2.1.2<=210/\cJ (B+574) (bL+577) (n+6) (t+574) (48*N) x.2.2) /\
  (∀pre x rest,fc w h g sh=pre++x::rest->aE (bI pre (0,1)).1 (bI pre (0,1)).2/\wp (bI pre (0,1)).1<=105/\wp (bI pre (0,1)).2<=105) /\
  ((fc w h g sh).map λb=>b.2.2.length).sum<=48*N/\bI (fc w h g sh) (0,1)=er w h g:=by
 have d9:aE 0 1:=⟨by decide,by decide⟩;obtain⟨b4,bw,bF,ii⟩:=uv lw w0 lh h0 aM aZ c1 c2 c3 c4 bE bG;have oz:=dV w0 lw.1;have qk:=dV aZ aM.1;have f9:=dV h0 lh.1;have z0:af (0,1)=0:=gW _;by_cases c:w.1*g.2<g.1*w.2
 ·obtain⟨_,bX,eN,_,_⟩:=ut lw w0 aM aZ c r2;obtain⟨fq,ij,a6,a7,hx,jF,nz,bm,bJ,k8⟩:=uw lw w0 lh h0 c1 c2 c3 c4 bX eN;have ru:=Ia lw w0 lh h0 aM aZ c1 c2 c3 c4 bE bG aj eH av bX eN;obtain⟨b7,bW,hT,rJ,rK⟩:=H' jF nz fq ij aM aZ (aR bm) (aR bJ) (aR a6) (aR a7) bE bG ru (by lia) (by lia);have xx:(0:Rat)<(cS w g:Rat):=by exact_mod_cast (show 0<cS w g by lia)
  have Ib:af (d4 g (layB w h g sh)).2.1=af w*af h/af g:=by
   refine rK.trans ?_;rw[hx,k8];grind
  have B':cJ (B+151+423) (bL+153+424) (n+4+2) (t+151+423) (3*(N*16)) (d4 g (layB w h g sh)).2.2:=b7;have xy:aE (d4 g (layB w h g sh)).2.1.1 (d4 g (layB w h g sh)).2.1.2:=bW;have Ic:wp (d4 g (layB w h g sh)).2.1.1<=210:=hT;have Ie:wp (d4 g (layB w h g sh)).2.1.2<=210:=rJ;rw[uu c];generalize d4 g (layB w h g sh)=X at B' xy Ic Ie Ib⊢;refine⟨λx aq=>?_,λpre x rest e=>?_,?_,?_⟩
  ·rw[SM.mp aq];exact⟨xy,Ic,Ie,B'.mo5⟩
  ·cases pre with
   |nil=>exact⟨d9,by decide,by decide⟩
   |cons y r=>exact absurd (TW S1 e) (by simp)
  ·have:=B'.2;simp only[SD,Tz,SN,Ux];lia
  ·refine o9 (o8 d9.1 xy.1) b4 ?_;show af (ih (0,1) X.2.1)=_
   rw[up d9.1 xy.1,ii,Ib,z0];grind
 ·have h1:g.1*w.2<=w.1*g.2:=by lia
  obtain⟨_,bX,eN,_,_⟩:=rF lw w0 aM aZ h1 r1;obtain⟨fq,ij,a6,a7,hx⟩:=xw lw w0 aM aZ c1 c2 bE bG h1 r1;have jX:=xq (c:=false) (w:=g) (b:=B) (m:=bL) (t:=t) (N:=N) (q:=30) aM.1 bE bG (by lia) (by lia) bX eN aj;have bv:=mQ (c:=false) (w:=g) (sh:=sh) bX eN
  obtain⟨Ss,Z,gh⟩:∃Ss Z,eb false g sh (dk w g)=Ss++[Z]:=by
   rcases UQ (eb false g sh (dk w g))with z|⟨Ss,Z,z⟩
   ·rw[z]at bv;simp at bv;lia
   ·exact⟨Ss,Z,by rw[z,UR]⟩
  rw[rH c gh];rw[gh]at jX bv;rw[SH,TK]at bv;obtain⟨b7,bW,hT,rJ,rK⟩:=H' fq ij lh h0 aM aZ (aR a6) (aR a7) (aR c3) (aR c4) bE bG (jX Z (by simp)) (by lia) (by lia);generalize d4 g (hU w g (dk w g),h,Z)=X at b7 bW hT rJ rK⊢
  have dE:∀b∈Ss.map (λS=>((g,h,S):BoxD)),b.2.1=h:=λb ab=>by
   obtain⟨S,_,rfl⟩:=SJ.mp ab;rfl
  refine⟨λx aq=>?_,λpre x rest e=>?_,?_,?_⟩
  ·rcases SR.mp aq with aq|aq
   ·obtain⟨S,ci,rfl⟩:=SJ.mp aq;exact⟨lh,aR c3,aR c4,(jX S (TO _ ci)).mo5⟩
   ·rw[SM.mp aq];exact⟨bW,hT,rJ,b7.mo5⟩
  ·have sub:∀b∈pre,b∈Ss.map (λS=>((g,h,S):BoxD)):=by
    have:=TW List.dropLast e;rw[Wv,List.dropLast_append_of_ne_nil (by simp)]at this;intro b ab;rw[this];exact TO _ ab
   have cm:pre.length<=Ss.length:=by
    have:=TW S1 e;simp only[SH,Sw,SK,List.length_nil]at this;lia
   rw[H8 lh λb ab=>dE b (sub b ab)];obtain⟨bm,bJ⟩:=k7 (w:=h) (q:=100) lh.1 c3 c4 (k:=(pre.length:Int)) (by lia);exact⟨(hv lh.1 _).1,bm,bJ⟩
  ·rw[SI,Ue,SQ]
   have az:(Uy ((λb:BoxD=>b.2.2.length)∘λS=>((g,h,S):BoxD)) Ss).sum<=N*Ss.length:=by
    have:∀lZ:ZY,(∀S∈lZ,S.length<=N)->(Uy ((λb:BoxD=>b.2.2.length)∘λS=>((g,h,S):BoxD)) lZ).sum<=N*lZ.length:=λlZ=>by
     induction lZ with
     |nil=>intro _;exact S8 _
     |cons S r bN=>
      intro dU;have x:=dU S Sv;have y:=bN λS ci=>dU S (Sy _ ci);rw[SD,SN,SK,Ud];show S.length+_<=_
      lia
    exact this Ss λS ci=>(jX S (TO _ ci)).2
   have a3:=b7.2;have bR:N*Ss.length<=N*15:=VF _ (by lia);simp only[SD,Tz,SN,Ux];lia
  ·rw[B7,H8 lh dE,Sw];obtain⟨h8,em⟩:=hv (w:=h) lh.1 (Ss.length:Int);refine o9 (o8 h8.1 bW.1) b4 ?_;show af (ih (c8 h (Ss.length:Int)) X.2.1)=_
   rw[up h8.1 bW.1,em,rK,hx,ii];have sX:(dk w g:Rat)=(Ss.length:Rat)+1:=by rw[<-bv];push_cast;rfl
   have aaS:(((Ss.length:Nat):Int):Rat)=(Ss.length:Rat):=rfl;rw[sX,aaS];grind
theorem aaT{B bL n t N:Nat}{sh:ZI}(aj:cJ B bL n t N sh)(eH:310+bL<=B)(av:270<=bL)(r1:w.1*g.2<=16*(g.1*w.2))(r2:g.1*w.2<=16*(w.1*g.2)):
  cJ (B+682) (bL+686) (n+6) (t+682) (48*N) (dj (fc w h g sh) (0,1)):=by
 obtain⟨bM,cy,gt,_⟩:=B9 lw w0 lh h0 aM aZ c1 c2 c3 c4 bE bG aj eH av r1 r2
 have:=xv (q:=107) (bs:=fc w h g sh) (H:=(0,1)) (λpre x rest e=>by
  obtain⟨l,bc,bg⟩:=cy pre x rest e
  exact je (a:=(0,1)) (p:=2) (q:=105) ⟨by decide,by decide⟩ l (by decide) (by decide) bc bg) λx aq=>(bM x aq).2.2.2
 exact⟨(this.mono (by lia) (by lia) (by lia) (by lia) (Sx _)).1,by rw[qj];exact gt⟩
end
end Cut
namespace L3
open PySem L2
theorem aaU{α:Type}(xs:List α)(x:α):jQ (xs++[x]) none (some (-1))=xs:=by
 unfold jQ;have ai:HT.sIx (xs++[x]).length 0 none=0:=rfl
 have ap:HT.sIx (xs++[x]).length (xs++[x]).length (some (-1))=xs.length:=by
  unfold HT.sIx;simp
  try lia
 rw[ai,ap,List.drop_zero,Nat.sub_zero,List.take_left]
end L3
namespace Cut
open PySem L2 L3
open PySem.Builtin.Int (intBits)
theorem e5.slid{sh:ZI}{g:aa}{u v:Rat}(aD:cb g u v)(h:e5 sh):e5 (sh.map (eL g)):=by
 intro s aj p ae;obtain⟨r,ak,rfl⟩:=SJ.mp aj;obtain⟨q,ay,rfl⟩:=SJ.mp (show p∈r.1.map λp=>nP (sld g p)from ae);exact(kZ aD ⟨h r ak q ay,rfl,rfl⟩).1
theorem e5.app{a b:ZI}(h:e5 a)(g:e5 b):e5 (a++b):=λs aj=>(SR.mp aj).elim (h s) (g s)
theorem rL(m:Rat):∃X:aX,aE X.1 X.2/\af X=m:=by
 refine⟨(m.num,(m.den:Int)),⟨by show(0:Int)<(m.den:Int);exact_mod_cast m.den_pos,?_⟩,?_⟩
 ·have:=m.reduced;show Ak m.num (m.den:Int)=1
  exact this
 ·unfold af;exact(Rat.divInt_eq_div _ _).symm.trans (Rat.num_divInt_den m)
def oneS(R:ZH):List aK:=[(R,false,(0,0,1))]
theorem Ig(R:ZH):fR (oneS R) R:=fZ.refl _
theorem Ih{R:ZH}(h:∀p∈R,aT p):e5 (oneS R):=λs aj=>by rw[SM.mp aj];exact h
theorem Ii{l o:aa}{R:ZH}(ao:l.1≠0\/l.2.1≠0)(aB:aT o)(lo:ln l o=0)(aH:∀p∈R,aT p)(φ:ZX->Int):fY φ ((ck (ln l) (aU l) (oneS R)).map λs=>s.1)+fY φ ((ck (λc => -ln l c) (aU l) (oneS R)).map λs=>s.1)=dC φ R:=by
 rw[t1,t1];show fY φ [cR (ln l) (aU l) R]+fY φ [cR (λc => -ln l c) (aU l) R]=dC φ R
 rw[iQ,iQ];exact wY φ ao aB lo aH
theorem Ij{R k9 fh:ZH}{ce bC bZ bx m:Rat}(r1:eo k9 ce m bZ bx)(r2:eo fh m bC bZ bx)(r:eo R ce bC bZ bx)(h0:ce<m)(h1:m<bC)(φ:ZX->Int):dC φ k9+dC φ fh=dC φ R:=by
 obtain⟨X,fS,rfl⟩:=rL m;obtain⟨⟨HW,aO,z1⟩,HX,bz,aY⟩:=HU (Ih r.pts) (Ig R) r fS h0 h1;obtain⟨dm,dz,hg⟩:=t3 fS;have s:=Ii dm dz hg r.pts φ;have a:=z1 φ;have b:=aY φ;rw[aO.eq r1,iQ]at a;rw[bz.eq r2,iQ]at b;rw[<-a,<-b,<-s];rfl
theorem Ik{R k9 fh:ZH}{ce bC bZ bx m:Rat}(r1:eo k9 ce bC bZ m)(r2:eo fh ce bC m bx)(r:eo R ce bC bZ bx)(h0:bZ<m)(h1:m<bx)(φ:ZX->Int):dC φ k9+dC φ fh=dC φ R:=by
 obtain⟨X,fS,rfl⟩:=rL m;obtain⟨⟨HW,aO,z1⟩,HX,bz,aY⟩:=HV (Ih r.pts) (Ig R) r fS h0 h1;obtain⟨dm,dz,hg⟩:=t4 fS;have s:=Ii dm dz hg r.pts φ;have a:=z1 φ;have b:=aY φ;rw[aO.eq r1,iQ]at a;rw[bz.eq r2,iQ]at b;rw[<-a,<-b,<-s,Rat.add_comm];rfl
theorem fR.join{A B:ZI}{k9 fh R:ZH}(h1:fR A k9)(h2:fR B fh)(e:∀φ,dC φ k9+dC φ fh=dC φ R):fR (A++B) R:=λφ=>by
 rw[SI,rz,h1 φ,h2 φ,iQ,iQ,iQ,e]
theorem qo(ce bC bZ bx:Rat):∃R,eo R ce bC bZ bx:=by
 obtain⟨a,p3,rfl⟩:=rL ce;obtain⟨b,nT,rfl⟩:=rL bC;obtain⟨c,f7,rfl⟩:=rL bZ;obtain⟨d,ld,rfl⟩:=rL bx;exact⟨_,_,_,_,_,rfl,gx p3.1 f7.1,gx nT.1 f7.1,gx nT.1 ld.1,gx p3.1 ld.1⟩
def dx(S:ZI)(ce bC bZ bx:Rat):Prop:=e5 S/\∃R,fR S R/\eo R ce bC bZ bx
theorem dx.to{S:ZI}{ce bC bZ bx z0 z1 w0 w1:Rat}(h:dx S ce bC bZ bx)(ai:ce=z0)(ap:bC=z1)(br:bZ=w0)(cW:bx=w1):dx S z0 z1 w0 w1:=by subst ai ap br cW;exact h
theorem dx.slid{S:ZI}{ce bC bZ bx u v:Rat}{g:aa}(aD:cb g u v)(h:dx S ce bC bZ bx):dx (S.map (eL g)) (ce+u) (bC+u) (bZ+v) (bx+v):=by
 obtain⟨ae,R,ao,r⟩:=h;exact⟨ae.slid aD,_,ao.slid aD.1 ae r.pts,r.slid aD⟩
theorem dx.joinU{A B:ZI}{ce bC bZ bx m:Rat}(h:dx A ce m bZ bx)(g:dx B m bC bZ bx)(h0:ce<m)(h1:m<bC):dx (A++B) ce bC bZ bx:=by
 obtain⟨ae,k9,a6,r1⟩:=h;obtain⟨ay,fh,a7,r2⟩:=g;obtain⟨R,r⟩:=qo ce bC bZ bx;exact⟨ae.app ay,R,a6.join a7 (Ij r1 r2 r h0 h1),r⟩
theorem dx.joinV{A B:ZI}{ce bC bZ bx m:Rat}(h:dx A ce bC bZ m)(g:dx B ce bC m bx)(h0:bZ<m)(h1:m<bx):dx (A++B) ce bC bZ bx:=by
 obtain⟨ae,k9,a6,r1⟩:=h;obtain⟨ay,fh,a7,r2⟩:=g;obtain⟨R,r⟩:=qo ce bC bZ bx;exact⟨ae.app ay,R,a6.join a7 (Ik r1 r2 r h0 h1),r⟩
theorem o'(n:Nat):((n+1:Nat):Rat)=(n:Rat)+1:=by push_cast;rfl
theorem Il{w:aX}(lw:aE w.1 w.2)(w0:0<w.1){L:Rat}:∀{Ss:ZY}{S:ZI}{i:Nat},(∀T∈S::Ss,dx T 0 (af w) 0 L)->dx (fJ w i (S::Ss)) (af w*(i:Rat)) (af w*((i+Ss.length+1:Nat):Rat)) 0 L
 |Ss,S,i,aj=>by
  have W:=dV w0 lw.1;obtain⟨fS,o6⟩:=hv (w:=w) lw.1 (i:Int);have ei:(((i:Nat):Int):Rat)=(i:Rat):=rfl;have dG:cb (cj (c8 w (i:Int)) (0,1)) (af w*(i:Rat)) 0:=(gx (w:=c8 w (i:Int)) (h:=(0,1)) fS.1 (by decide)).to (o6.trans (by rw[ei])) (gW _);have a:=(aj S Sv).slid dG
  have e:fJ w i (S::Ss)=S.map (eL (cj (c8 w (i:Int)) (0,1)))++fJ w (i+1) Ss:=by
   unfold fJ;rw[fB,TG]
  rw[e];have fv:=a.to (z0:=af w*(i:Rat)) (z1:=af w*((i+1:Nat):Rat)) (w0:=0) (w1:=L) (by grind) (by rw[o'];grind) (by grind) (by grind)
  match Ss,aj with
  |[],aj=>
   have:fJ w (i+1) ([]:ZY)=[]:=rfl;rw[this,SO];exact fv
  |T::r,aj=>
   have b:=Il lw w0 (L:=L) (Ss:=r) (S:=T) (i:=i+1) λX oL=>aj X (Sy _ oL);have c:=b.to (z1:=af w*((i+(T::r).length+1:Nat):Rat)) rfl (by rw[SK,show i+1+r.length+1=i+(r.length+1)+1 by lia]) rfl rfl;refine fv.joinU c ?_ ?_
   ·rw[o'];grind
   ·have lt:((i+1:Nat):Rat)<((i+(T::r).length+1:Nat):Rat):=by
     exact_mod_cast (show i+1<i+(T::r).length+1 by rw[SK];lia)
    have:=VD lt W;grind
theorem xz{G:Rat}:∀{bs:ZM}{b:BoxD}{H:aX},aE H.1 H.2->(∀x∈b::bs,dx x.2.2 0 G 0 (af x.2.1)/\0<x.2.1.2/\0<af x.2.1)->dx (dj (b::bs) H) 0 G (af H) (af (bI (b::bs) H))/\af H<af (bI (b::bs) H)
 |bs,b,H,b4,aj=>by
  obtain⟨o,b1,EJ⟩:=aj b Sv;have dG:cb (cj (0,1) H) 0 (af H):=(gx (by decide) b4.1).to (gW _) rfl;have a:=o.slid dG;have l0:=o8 b4.1 b1;have xA:=up b4.1 b1;have fv:=a.to (z0:=0) (z1:=G) (w0:=af H) (w1:=af (ih H b.2.1)) (by grind) (by grind) (by grind) (by rw[xA];grind);rw[dj,bI]
  match bs,aj with
  |[],aj=>
   have:dj ([]:ZM) (ih H b.2.1)=[]:=rfl;rw[this,SO];exact⟨fv,by show af H<af (ih H b.2.1);rw[xA];grind⟩
  |c::r,aj=>
   obtain⟨q,lt⟩:=xz (G:=G) (bs:=r) (b:=c) (H:=ih H b.2.1) l0 λx aq=>aj x (Sy _ aq);exact⟨fv.joinV q (by rw[xA];grind) lt,by rw[xA]at lt;grind⟩
section
variable{f:aa->Int}{mt:aa->aa->aa}{a b c d:aa}
theorem aaV(aw:0<f a)(ab:f b=0)(hc:f c<0)(hd:0<f d):cR f mt [a,b,c,d]=[a,b,mt c d,d]:=by
 rw[k1 a (by simp) aw,k0,f8 (by lia),fQ (.inl ⟨by lia,by lia⟩),f8 (by lia),fQ (.inr ⟨by lia,by lia⟩),gX hc,hu (.inr ⟨hc,hd⟩),f8 (by lia),fQ (.inl ⟨by lia,by lia⟩)];rfl
theorem aaW(aw:f a<0)(ab:f b=0)(hc:0<f c)(hd:f d<0):cR f mt [a,b,c,d]=[b,c,mt c d]:=by
 rw[k1 c (by simp) hc,k0,gX aw,fQ (.inr ⟨by lia,by lia⟩),f8 (by lia),fQ (.inl ⟨by lia,by lia⟩),f8 (by lia),hu (.inl ⟨hc,hd⟩),gX hd,fQ (.inr ⟨by lia,by lia⟩)];rfl
theorem aaX(aw:0<f a)(ab:f b<0)(hc:0<f c)(hd:0<f d):cR f mt [a,b,c,d]=[a,mt a b,mt b c,c,d]:=by
 rw[k1 a (by simp) aw,k0,f8 (by lia),hu (.inl ⟨aw,ab⟩),gX ab,hu (.inr ⟨ab,hc⟩),f8 (by lia),fQ (.inl ⟨by lia,by lia⟩),f8 (by lia),fQ (.inl ⟨by lia,by lia⟩)];rfl
theorem aaY(aw:f a<0)(ab:0<f b)(hc:f c<0)(hd:f d<0):cR f mt [a,b,c,d]=[mt a b,b,mt b c]:=by
 rw[k1 b (by simp) ab,k0,gX aw,hu (.inr ⟨aw,ab⟩),f8 (by lia),hu (.inl ⟨ab,hc⟩),gX hc,fQ (.inr ⟨by lia,by lia⟩),gX hd,fQ (.inr ⟨by lia,by lia⟩)];rfl
theorem aaZ(aw:f a<0)(ab:f b<0)(hc:f c<0)(hd:0<f d):cR f mt [a,b,c,d]=[mt c d,d,mt d a]:=by
 rw[k1 d (by simp) hd,k0,gX aw,fQ (.inr ⟨by lia,by lia⟩),gX ab,fQ (.inr ⟨by lia,by lia⟩),gX hc,hu (.inr ⟨hc,hd⟩),f8 (by lia),hu (.inl ⟨hd,aw⟩)];rfl
theorem aa0(aw:0<f a)(ab:0<f b)(hc:0<f c)(hd:f d<0):cR f mt [a,b,c,d]=[a,b,c,mt c d,mt d a]:=by
 rw[k1 a (by simp) aw,k0,f8 (by lia),fQ (.inl ⟨by lia,by lia⟩),f8 (by lia),fQ (.inl ⟨by lia,by lia⟩),f8 (by lia),hu (.inl ⟨hc,hd⟩),gX hd,hu (.inr ⟨hd,aw⟩)];rfl
end
theorem e5.cut{sh:ZI}{l:aa}(h:e5 sh):e5 (ck (ln l) (aU l) sh)/\e5 (ck (λc => -ln l c) (aU l) sh):=by
 have key:∀f:aa->Int,(∀p q,f p*f q<0->ln l p*ln l q<0)->e5 (ck f (aU l) sh):=λf bf s aj p ae=>by
  obtain⟨t,bQ,rfl,c⟩:=tE aj;rcases p1 ae with⟨h1,_⟩|⟨u,h1,v,h2,aF,rfl⟩
  ·exact h t bQ p h1
  ·have dG:=h t bQ u h1;have iR:=h t bQ v h2;rw[<-kh dG iR];exact gg (ki dG iR (bf _ _ aF))
 exact⟨key _ (λ_ _ z=>z),key _ (λp q z=>by rwa [T5]at z)⟩
section
variable{w H:aX}(lw:aE w.1 w.2)(b4:aE H.1 H.2)
include lw b4
theorem nU{c:aa}{x y:Rat}(hc:cb c x y):∃k:Rat,0<k/\((ln (bT w H) c:Int):Rat)=k*(af w*af H-af H*x-af w*y):=by
 have ef:cb (cj w (0,1)) (af w) 0:=(gx lw.1 (by decide)).to rfl (gW _);have fP:cb (cj (0,1) H) 0 (af H):=(gx (by decide) b4.1).to (gW _) rfl;obtain⟨k,du,e⟩:=Bp ef fP hc;exact⟨k,du,by show((be _ _ c:Int):Rat)=_;rw[e];grind⟩
theorem Im{p q:aa}{bC bx e4 dH x y:Rat}(w0:0<af w)(f9:0<af H)(ae:cb p bC bx)(ay:cb q e4 dH)(h:ln (bT w H) p*ln (bT w H) q<0)(ao:af H*x+af w*y=af w*af H)(hz:(bC=e4/\x=bC)\/(bx=dH/\y=bx)):cb (aU (bT w H) p q) x y:=by
 have pm:aT (aU (bT w H) p q):=by rw[<-kh ae.1 ay.1];exact gg (ki ae.1 ay.1 h)
 obtain⟨a,b,xf,ex,gn⟩:=AY (p0 h) ae.1.1 ay.1.1 pm.1;have nH:cb (aU (bT w H) p q) (hO (aU (bT w H) p q)) (hP (aU (bT w H) p q)):=⟨pm,rfl,rfl⟩;obtain⟨k,du,e⟩:=nU lw b4 nH;rw[rl h]at e;have bM:k≠0:=by intro z;rw[z]at du;exact absurd du (by decide)
 have z:af w*af H-af H*hO (aU (bT w H) p q)-af w*hP (aU (bT w H) p q)=0:=by
  have:k*(af w*af H-af H*hO (aU (bT w H) p q)-af w*hP (aU (bT w H) p q))=0:=by rw[<-e];rfl
  grind
 have uj:af w≠0:=by grind
 have agC:af H≠0:=by grind
 rw[ae.2.1,ay.2.1]at ex;rw[ae.2.2,ay.2.2]at gn;generalize hO (aU (bT w H) p q)=cw at *;generalize hP (aU (bT w H) p q)=ux at *;rcases hz with⟨h1,h2⟩|⟨h1,h2⟩
 ·subst h1 h2;have ai:cw=x:=by rw[ex];grind
  subst ai;refine nH.to rfl ?_;have:af w*(ux-y)=0:=by grind
  grind
 ·subst h1 h2;have ai:ux=y:=by rw[gn];grind
  subst ai;refine nH.to ?_ rfl;have:af H*(cw-x)=0:=by grind
  grind
end
theorem pa{a:Int}(h:0<a): -a<0:=by lia
theorem rM{a:Int}(h:a<0):0 < -a:=by lia
section
variable{w h g H:aX}(lw:aE w.1 w.2)(w0:0<w.1)(lh:aE h.1 h.2)(h0:0<h.1)(aM:aE g.1 g.2)(aZ:0<g.1)(b4:aE H.1 H.2)(f9:0<H.1)(e:af g*af H=af w*af h)(uy:af g<af w)(pb:af w<2*af g)
include lw w0 lh h0 aM aZ b4 f9 e uy pb
theorem aa1{sh:ZI}(on:dx sh 0 (af w) 0 (af h)):∃A E B P C M D:aa,cb A 0 0/\cb E (af g) 0/\cb B (af w) 0/\cb P (af g) (af H-af h)/\cb C (af w) (af h)/\cb M (af w-af g) (af h)/\cb D 0 (af h) /\
  fR (cL g true (ck (ln (bT w H)) (aU (bT w H)) sh)) [A,E,P,M,D]/\fR (cL g false (ck (ln (bT w H)) (aU (bT w H)) sh)) [E,B,P]/\fR (ck (λc => -ln (bT w H) c) (aU (bT w H)) sh) [B,C,M]:=by
 obtain⟨ae,R,ao,r⟩:=on;have ay:=r.pts;have W:=dV w0 lw.1;have L:=dV h0 lh.1;have G:=dV aZ aM.1;have pc:=dV f9 b4.1;obtain⟨A,B,C,D,rfl,ko,l1,rN,mS⟩:=r;have nS:(bT w H).1≠0\/(bT w H).2.1≠0:=ur lw w0 b4 f9;have ef:cb (cj w (0,1)) (af w) 0:=(gx lw.1 (by decide)).to rfl (gW _);obtain⟨z1,aY⟩:=w8 ao nS ef.1 (oS _ _) ae ay;have i4:af w*af H-af w*af h=af H*(af w-af g):=by grind
 have pX:0<ln (bT w H) A:=by
  obtain⟨k,du,aW⟩:=nU lw b4 ko;refine lU du aW ?_;have:=Td W pc;grind
 have aa2:ln (bT w H) B=0:=by
  obtain⟨k,du,aW⟩:=nU lw b4 l1;exact xb aW (by grind)
 have qp:ln (bT w H) C<0:=by
  obtain⟨k,du,aW⟩:=nU lw b4 rN;refine o3 du aW ?_;have:=Td W L;grind
 have uz:0<ln (bT w H) D:=by
  obtain⟨k,du,aW⟩:=nU lw b4 mS;refine lU du aW ?_;have:=Td pc (show 0<af w-af g by grind);grind
 have la:cb (aU (bT w H) C D) (af w-af g) (af h):=Im lw b4 W pc rN mS (Uc qp uz) (by grind) (.inr ⟨rfl,rfl⟩);rw[aaV (f:=ln (bT w H)) pX aa2 qp uz]at z1;rw[aaW (f:=λc => -ln (bT w H) c) (pa pX) (by show -ln (bT w H) B=0;lia) (rM qp) (pa uz)]at aY;generalize aU (bT w H) C D=M at la z1 aY;obtain⟨dm,dz,hg⟩:=t3 aM;obtain⟨bx,dH⟩:=w8 z1 dm dz hg (ae.cut (l:=bT w H)).1 (Bt ko.1 l1.1 la.1 mS.1);have qq:=t7 aM ko (by grind);have xB:=Bq aM l1 (by grind);have Ca:=t7 aM la (by grind);have qr:=t7 aM mS (by grind);have l2:=xc aM ko l1 (SX qq xB) (y:=0) (by grind);have l3:=xc aM l1 la (Uc xB Ca) (y:=af H-af h) (by grind);rw[aaX (f:=ln (d1 g)) qq xB Ca qr]at bx;rw[aaY (f:=λc => -ln (d1 g) c) (pa qq) (rM xB) (pa Ca) (pa qr)]at dH;exact⟨A,_,B,_,C,M,D,ko,l2,l1,l3,rN,la,mS,bx,dH,aY⟩
theorem aa3{R:ZH}{A E P M D qt lb:aa}(r:eo R 0 (af g) 0 (af H))(ko:cb A 0 0)(l2:cb E (af g) 0)(l3:cb P (af g) (af H-af h))(la:cb M (af w-af g) (af h))(mS:cb D 0 (af h))(rO:cb qt (af g) (af H))(mT:cb lb 0 (af H))(φ:ZX->Int):
  dC φ [A,E,P,M,D]+dC φ [D,M,lb]+dC φ [P,qt,lb]=dC φ R:=by
 have W:=dV w0 lw.1;have L:=dV h0 lh.1;have G:=dV aZ aM.1;have pc:=dV f9 b4.1;have ay:=r.pts
 have d0:R=[A,E,qt,lb]:=by
  obtain⟨a,b,c,d,rfl,Io,Ip,aa4,aa5⟩:=r;exact Ha (Io.eq ko) (Ip.eq l2) (aa4.eq rO) (aa5.eq mT)
 subst d0
 have te:0<af g*(af H-af h):=by
  have:=Td (show 0<af w-af g by grind) L;grind
 have aa6:af h<af H:=by
  apply TB;intro z;have z:=Rat.not_lt.mp z;have:=Uz z (Te G);grind
 have a5:af H<2*af h:=by
  apply TB;intro z;have z:=Rat.not_lt.mp z;have a:=Uz z (Te G);have b:=VD pb L;grind
 have nS:(bT w H).1≠0\/(bT w H).2.1≠0:=ur lw w0 b4 f9;have ef:cb (cj w (0,1)) (af w) 0:=(gx lw.1 (by decide)).to rfl (gW _);have az:=wY φ nS ef.1 (oS _ _) ay
 have pX:0<ln (bT w H) A:=by
  obtain⟨k,du,aW⟩:=nU lw b4 ko;refine lU du aW ?_;have:=Td W pc;grind
 have Cb:0<ln (bT w H) E:=by
  obtain⟨k,du,aW⟩:=nU lw b4 l2;refine lU du aW ?_;have:=Td pc (show 0<af w-af g by grind);grind
 have qp:ln (bT w H) qt<0:=by
  obtain⟨k,du,aW⟩:=nU lw b4 rO;refine o3 du aW ?_;have:=Td pc G;grind
 have uz:ln (bT w H) lb=0:=by
  obtain⟨k,du,aW⟩:=nU lw b4 mT;exact xb aW (by grind)
 have aa7:cb (aU (bT w H) E qt) (af g) (af H-af h):=Im lw b4 W pc l2 rO (SX Cb qp) (by grind) (.inl ⟨rfl,rfl⟩);rw[Rz (f:=ln (bT w H)) pX Cb qp uz,Ry (f:=λc => -ln (bT w H) c) (pa pX) (pa Cb) (rM qp) (by show -ln (bT w H) lb=0;lia),aa7.eq l3]at az;obtain⟨dm,dz,hg⟩:=t4 lh;have a3:=wY φ dm dz hg (Bt ko.1 l2.1 l3.1 mT.1);have qq:=t8 lh ko L;have Iq:=t8 lh l2 L;have Cc:=t8 lh l3 (by grind);have qr:=Br lh mT aa6;have aa8:=xg lh l3 mT (Uc Cc qr) (x:=af w-af g) (by grind);have aa9:=xg lh mT ko (SX qr qq) (x:=0) (by grind);rw[aaZ (f:=ln (d2 h)) qq Iq Cc qr,aa0 (f:=λc => -ln (d2 h) c) (rM qq) (rM Iq) (rM Cc) (pa qr),aa8.eq la,aa9.eq mS]at a3;have t:=GW φ D [M,lb];have t':dC φ [M,lb,D]=dC φ [D,M,lb]:=t;rw[t']at a3;rw[<-az,<-a3];grind
end
section
variable{w h g:aX}(lw:aE w.1 w.2)(w0:0<w.1)(lh:aE h.1 h.2)(h0:0<h.1)(aM:aE g.1 g.2)(aZ:0<g.1)
include lw w0 lh h0 aM aZ
theorem xC:aE (er w h g).1 (er w h g).2/\0<(er w h g).1/\af g*af (er w h g)=af w*af h:=by
 obtain⟨a,_,_,d⟩:=uv lw w0 lh h0 aM aZ (VG _ (wp w.2)) (VH (wp w.1) _) (VG _ (wp h.2)) (VH (wp h.1) _) (VG _ (wp g.2)) (VH (wp g.1) _);refine⟨a,xt lw w0 lh h0 aM aZ rfl,?_⟩;have:=dV aZ aM.1;rw[d];grind
theorem aa'(uy:af g<af w)(pb:af w<2*af g){sh:ZI}(on:dx sh 0 (af w) 0 (af h)):dx (lY w h g sh) 0 (af g) 0 (af (er w h g)):=by
 obtain⟨b4,f9,e⟩:=xC lw w0 lh h0 aM aZ;unfold lY;generalize er w h g=H at b4 f9 e⊢;obtain⟨A,E,B,P,C,M,D,ko,l2,l1,l3,rN,la,mS,bx,dH,aY⟩:=aa1 lw w0 lh h0 aM aZ b4 f9 e uy pb on;obtain⟨R,r⟩:=qo 0 (af g) 0 (af H);obtain⟨fv,b',qt,lb,Ir,Io,Ip,rO,mT⟩:=id r;obtain⟨cp,b1⟩:=on.1.cut (l:=bT w H);have bM:=cp.cL (b:=true) aM;have cy:=cp.cL (b:=false) aM
 have dn:af (-g.1,g.2) = -af g:=by
  unfold af;show((-g.1:Int):Rat)/_=_
  rw[VE];grind
 have az:cb (cj (-g.1,g.2) h) (-af g) (af h):=(gx (w:=(-g.1,g.2)) aM.1 lh.1).to dn rfl;obtain⟨mR,xD⟩:=nQ (a:=g) (b:=w) aM.1 lw.1;obtain⟨rI,aba⟩:=nQ (a:=H) (b:=h) b4.1 lh.1;have a3:cb (cj (fI g w) (fI H h)) (af g-af w) (af H-af h):=(gx mR.1 rI.1).to xD aba;have a7:=dH.slid az.1 cy (Hb l2.1 l1.1 l3.1);have df:=aY.slid a3.1 b1 (Hb l1.1 rN.1 la.1);have ap:Uy (λp=>nP (sld (cj (-g.1,g.2) h) p)) [E,B,P]=[D,M,lb]:=G' (((kZ az l2).to (by grind) (by grind)).eq mS) (((kZ az l1).to (by grind) (by grind)).eq la) (((kZ az l3).to (by grind) (by grind)).eq mT);have br:Uy (λp=>nP (sld (cj (fI g w) (fI H h)) p)) [B,C,M]=[P,qt,lb]:=G' (((kZ a3 l1).to (by grind) (by grind)).eq l3) (((kZ a3 rN).to (by grind) (by grind)).eq rO) (((kZ a3 la).to (by grind) (by grind)).eq mT);rw[ap]at a7;rw[br]at df;refine⟨(bM.app (cy.slid az)).app (b1.slid a3),R,λφ=>?_,r⟩;have t:=aa3 lw w0 lh h0 aM aZ b4 f9 e uy pb r ko l2 l3 la mS rO mT φ;rw[SI,SI,rz,rz,bx φ,a7 φ,df φ,iQ,iQ,iQ,iQ,t]
theorem Is(uy:af g<=af w)(pb:af w<2*af g){sh:ZI}(on:dx sh 0 (af w) 0 (af h)):dx (d4 g (w,h,sh)).2.2 0 (af g) 0 (af (d4 g (w,h,sh)).2.1)/\0<(d4 g (w,h,sh)).2.1.2/\0<af (d4 g (w,h,sh)).2.1:=by
 obtain⟨b4,f9,e⟩:=xC lw w0 lh h0 aM aZ;unfold d4;by_cases c:w=g
 ·rw[SL c];subst c;exact⟨on,lh.1,dV h0 lh.1⟩
 ·rw[SZ c];have:af w≠af g:=λz=>c (o9 lw aM z);exact⟨aa' lw w0 lh h0 aM aZ (by grind) pb on,b4.1,dV f9 b4.1⟩
end
def xE(c:Bool)(S:ZI)(k6 dm v0 v1:Rat):Prop:=if c=true then dx S v0 v1 k6 dm else dx S k6 dm v0 v1
theorem It{c:Bool}{w:aX}(lw:aE w.1 w.2)(w0:0<w.1){v0 v1 U:Rat}{sh:ZI}{m:Nat}(bm:1<=m)(rP:m<=16)(on:xE c sh 0 U v0 v1)(oM:af w*((m-1:Nat):Rat)<U){k:Nat}{S:ZI}(ci:(eb c w sh m)[k]?=some S):xE c S 0 (if k+1=m then U-af w*((m-1:Nat):Rat)else af w) v0 v1:=by
 unfold eb at ci;rw[B3,TR]at ci
 obtain⟨T,dU,rfl⟩:∃T,(gY c w 4 sh 0 m)[k]?=some T/\T.map (eL (kn c w k))=S:=by
  cases q:(gY c w 4 sh 0 m)[k]? with
  |none=>rw[q]at ci;cases ci
  |some T=>rw[q]at ci;cases ci;exact⟨T,rfl,rfl⟩
 have ae:e5 sh/\∃R,fR sh R/\nN c R 0 U v0 v1:=by
  unfold xE at on;unfold nN;cases c with
  |true=>simp only[if_true]at on⊢;exact on
  |false=>simp only[Tq,if_false]at on⊢;exact on
 obtain⟨ae,R,ao,r⟩:=ae
 have z0:af w*((0:Nat):Rat)=0:=by
  have:((0:Nat):Rat)=0:=rfl;rw[this];grind
 obtain⟨mu,Q,Iu,rQ⟩:=B1 (c:=c) w0 lw.1 (v0:=v0) (v1:=v1) (U:=U) 4 (a:=0) (b:=m) (by lia) (by lia) ae ao (by rw[z0];exact r) oM k T dU;rw[TR]at rQ;have fS:=hv (w:=w) lw.1 (-(k:Int));have kM:((-(k:Int):Int):Rat) = -(k:Rat):=by rw[VE];rfl
 have dY:∀x:Rat,x=(if k+1=m then U else af w*((k+1:Nat):Rat))->x + -(af w*(k:Rat))=if k+1=m then U-af w*((m-1:Nat):Rat)else af w:=by
  intro x aq;rw[aq];by_cases z:k+1=m
  ·rw[SL z,SL z,<-z,show k+1-1=k by lia];grind
  ·rw[SZ z,SZ z,o'];grind
 unfold xE;unfold nN at rQ;unfold kn;cases c with
 |true=>
  simp only[if_true]at rQ⊢;have s:cb (cj (0,1) (c8 w (-(k:Int)))) 0 (-(af w*(k:Rat))):=(gx (w:=(0,1)) (by decide) fS.1.1).to (gW _) (by rw[fS.2,kM];grind);have o:dx T v0 v1 (af w*(k:Rat)) (if k+1=m then U else af w*((k+1:Nat):Rat)):=⟨mu,Q,Iu,rQ⟩;exact(o.slid s).to (by grind) (by grind) (by grind) (dY _ rfl)
 |false=>
  simp only[Tq,if_false]at rQ⊢;have s:cb (cj (c8 w (-(k:Int))) (0,1)) (-(af w*(k:Rat))) 0:=(gx (h:=(0,1)) fS.1.1 (by decide)).to (by rw[fS.2,kM];grind) (gW _);have o:dx T (af w*(k:Rat)) (if k+1=m then U else af w*((k+1:Nat):Rat)) v0 v1:=⟨mu,Q,Iu,rQ⟩;exact(o.slid s).to (by grind) (dY _ rfl) (by grind) (by grind)
section
variable{w h g:aX}(lw:aE w.1 w.2)(w0:0<w.1)(lh:aE h.1 h.2)(h0:0<h.1)(aM:aE g.1 g.2)(aZ:0<g.1)(c1:wp w.1<=30)(c2:wp w.2<=30)(c3:wp h.1<=100)(c4:wp h.2<=100)(bE:wp g.1<=30)(bG:wp g.2<=30)
include lw w0 lh h0 aM aZ c1 c2 c3 c4 bE bG
theorem abb{sh:ZI}(r1:w.1*g.2<=16*(g.1*w.2))(r2:g.1*w.2<=16*(w.1*g.2))(on:dx sh 0 (af w) 0 (af h)):dx (dj (fc w h g sh) (0,1)) 0 (af g) 0 (af (bI (fc w h g sh) (0,1))):=by
 have d9:aE 0 1:=⟨by decide,by decide⟩;have z0:af (0,1)=0:=gW _;have W:=dV w0 lw.1;have L:=dV h0 lh.1;have G:=dV aZ aM.1
 have key:∀b bs,fc w h g sh=b::bs->(∀x∈b::bs,dx x.2.2 0 (af g) 0 (af x.2.1)/\0<x.2.1.2/\0<af x.2.1)->dx (dj (fc w h g sh) (0,1)) 0 (af g) 0 (af (bI (fc w h g sh) (0,1))):=λb bs e aq=>by
  rw[e];exact(xz d9 aq).1.to rfl rfl z0 rfl
 by_cases c:w.1*g.2<g.1*w.2
 ·obtain⟨_,bX,eN,a4,a'⟩:=ut lw w0 aM aZ c r2;obtain⟨fq,ij,a6,a7,hx,jF,nz,bm,bJ,k8⟩:=uw lw w0 lh h0 c1 c2 c3 c4 bX eN;have xx:(0:Rat)<(cS w g:Rat):=by exact_mod_cast (show 0<cS w g by lia)
  have Iv:(1:Rat)<=(cS w g:Rat):=by exact_mod_cast bX
  have uA:((cS w g-1:Nat):Rat)=(cS w g:Rat)-1:=by
   have:=o' (cS w g-1);rw[show cS w g-1+1=cS w g by lia]at this;grind
  have e1:af (fT h (cS w g))*(cS w g:Rat)=af h:=by rw[hx];grind
  have agD:=dV ij fq.1
  have ft:∀T∈eb true (fT h (cS w g)) sh (cS w g),dx T 0 (af w) 0 (af (fT h (cS w g))):=λT dU=>by
   obtain⟨k,ag⟩:=Ui dU;have q:=It (c:=true) fq ij (v0:=0) (v1:=af w) (U:=af h) bX eN (by show dx sh 0 (af w) 0 (af h);exact on) (by rw[uA];grind) ag;have io:dx T 0 (af w) 0 (if k+1=cS w g then af h-af (fT h (cS w g))*((cS w g-1:Nat):Rat)else af (fT h (cS w g))):=q;refine io.to rfl rfl rfl ?_;by_cases z:k+1=cS w g
   ·rw[SL z,uA];grind
   ·rw[SZ z]
  have bv:=mQ (c:=true) (w:=fT h (cS w g)) (sh:=sh) bX eN
  have lay:dx (layB w h g sh).2.2 0 (af (c8 w (cS w g:Int))) 0 (af (fT h (cS w g))):=by
   show dx (fJ w 0 (eb true (fT h (cS w g)) sh (cS w g))) _ _ _ _
   generalize eb true (fT h (cS w g)) sh (cS w g)=Cd at ft bv
   match Cd,ft,bv with
   |[],_,bv=>simp at bv;lia
   |T::r,ft,bv=>
    have q:=Il lw w0 (i:=0) ft;refine q.to ?_ ?_ rfl rfl
    ·have:((0:Nat):Rat)=0:=rfl;rw[this];grind
    ·rw[k8,<-bv,SK,TR]
  have dS:af (c8 w (cS w g:Int))<2*af g:=by
   have pb:af w<af g:=by
    have b7:(0:Rat)<w.2:=by exact_mod_cast lw.1
    have bW:(0:Rat)<g.2:=by exact_mod_cast aM.1
    have cp:=di lw.1;have b1:=di aM.1;have c':(w.1:Rat)*g.2<(g.1:Rat)*w.2:=by exact_mod_cast c
    unfold af;refine(Wy b7).mpr ?_;have u:(g.1:Rat)/g.2*w.2=g.1*w.2/g.2:=by grind
    rw[u];refine(Rat.lt_div_iff bW).mpr ?_;exact c'
   rw[k8];grind
  have q:=Is jF nz fq ij aM aZ (by rw[k8];grind) dS lay;refine key _ _ (uu c) λx aq=>?_;rw[SM.mp aq];exact q
 ·have h1:g.1*w.2<=w.1*g.2:=by lia
  obtain⟨_,bX,eN,a4,a'⟩:=rF lw w0 aM aZ h1 r1;obtain⟨fq,ij,a6,a7,hx⟩:=xw lw w0 aM aZ c1 c2 bE bG h1 r1
  have uA:((dk w g-1:Nat):Rat)=(dk w g:Rat)-1:=by
   have:=o' (dk w g-1);rw[show dk w g-1+1=dk w g by lia]at this;grind
  have bv:=mQ (c:=false) (w:=g) (sh:=sh) bX eN
  obtain⟨Ss,Z,gh⟩:∃Ss Z,eb false g sh (dk w g)=Ss++[Z]:=by
   rcases UQ (eb false g sh (dk w g))with z|⟨Ss,Z,z⟩
   ·rw[z]at bv;simp at bv;lia
   ·exact⟨Ss,Z,by rw[z,UR]⟩
  rw[gh,SH,TK]at bv
  have ft:∀(k:Nat)(T:ZI),(Ss++[Z])[k]?=some T->dx T 0 (if k+1=dk w g then af w-af g*((dk w g-1:Nat):Rat)else af g) 0 (af h):=λk T ag=>by
   rw[<-gh]at ag;exact It (c:=false) aM aZ (v0:=0) (v1:=af h) (U:=af w) bX eN (by show dx sh 0 (af w) 0 (af h);exact on) (by rw[uA];grind) ag
  have abc:dx Z 0 (af (hU w g (dk w g))) 0 (af h):=by
   have:=ft Ss.length Z (by simp);rw[SL bv,uA]at this;exact this.to rfl hx.symm rfl rfl
  have q:=Is fq ij lh h0 aM aZ (by rw[hx];grind) (by rw[hx];rw[o']at a';grind) abc
  have all:∀x∈fc w h g sh,dx x.2.2 0 (af g) 0 (af x.2.1)/\0<x.2.1.2/\0<af x.2.1:=by
   rw[rH c gh];intro x aq;rcases SR.mp aq with aq|aq
   ·obtain⟨S,ci,rfl⟩:=SJ.mp aq;obtain⟨k,ag⟩:=Ui ci;have abd:=(T8.mp ag).1;have:=ft k S (by rw[TC abd];exact ag);rw[SZ (by lia)]at this;exact⟨this,lh.1,L⟩
   ·rw[SM.mp aq];exact q
  match hw:fc w h g sh with
  |[]=>
   rw[rH c gh]at hw;exact absurd hw (by simp)
  |b::bs=>
   rw[<-hw];exact key b bs hw (by rw[<-hw];exact all)
end
end Cut
namespace Cut
open PySem L2 L3
def dX(L:ZI):Prop:=∀s∈L,aT s.2.2/\∀p∈s.1,aT p
theorem dX.pts{L:ZI}(h:dX L):e5 L:=λs aj=>(h s aj).2
theorem dX.app{L M:ZI}(h:dX L)(g:dX M):dX (L++M):=λs aj=>(SR.mp aj).elim (h s) (g s)
theorem dX.cut{sh:ZI}{l:aa}(h:dX sh):dX (ck (ln l) (aU l) sh)/\dX (ck (λc => -ln l c) (aU l) sh):=by
 obtain⟨a,b⟩:=h.pts.cut (l:=l)
 have st:∀(f:aa->Int)(s:aK),s∈ck f (aU l) sh->aT s.2.2:=λf s aj=>by
  obtain⟨t,bQ,rfl,c⟩:=tE aj;exact(h t bQ).1
 exact⟨λs aj=>⟨st _ s aj,a s aj⟩,λs aj=>⟨st _ s aj,b s aj⟩⟩
theorem dX.slid{sh:ZI}{g:aa}{u v:Rat}(aD:cb g u v)(h:dX sh):dX (sh.map (eL g)):=by
 intro s aj;refine⟨?_,h.pts.slid aD s aj⟩;obtain⟨r,ak,rfl⟩:=SJ.mp aj;exact(kZ aD ⟨(h r ak).1,rfl,rfl⟩).1
theorem dX.cL{sh:ZI}{X:aX}(c:Bool)(h:dX sh):dX (cL X c sh):=by
 unfold Cut.cL;cases c with
 |true=>exact(h.cut (l:=d1 X)).1
 |false=>exact(h.cut (l:=d1 X)).2
theorem dX.cV{sh:ZI}{X:aX}(c:Bool)(h:dX sh):dX (cV X c sh):=by
 unfold Cut.cV;cases c with
 |true=>exact(h.cut (l:=d2 X)).1
 |false=>exact(h.cut (l:=d2 X)).2
theorem dX.low{sh:ZI}{X:aX}{c:Bool}(h:dX sh):dX (lowC c X sh)/\dX (highC c X sh):=by
 unfold lowC highC;cases c with
 |true=>rw[SL rfl,SL rfl];exact⟨h.cV _,h.cV _⟩
 |false=>rw[SZ (by decide),SZ (by decide)];exact⟨h.cL _,h.cL _⟩
theorem abe(φ:ZX->Int)(b:Bool){sh:ZI}{X:aX}{c:Bool}(l:aE X.1 X.2)(h:dX sh):c7 φ b (lowC c X sh)+c7 φ b (highC c X sh)=c7 φ b sh:=by
 unfold lowC highC;cases c with
 |true=>rw[SL rfl,SL rfl];exact Rw φ b false l h
 |false=>rw[SZ (by decide),SZ (by decide)];exact G6 φ b true l h
def f0(φ:ZX->Int)(b:Bool)(Ss:ZY):Rat:=(Ss.map (c7 φ b)).sum
theorem nV(φ:ZX->Int)(b:Bool)(S:ZI)(Ss:ZY):f0 φ b (S::Ss)=c7 φ b S+f0 φ b Ss:=by unfold f0;rw[SD,SN]
theorem rR(φ:ZX->Int)(b:Bool):∀(A B:ZY),f0 φ b (A++B)=f0 φ b A+f0 φ b B
 |[],B=>by show _=(0:Rat)+_;rw[Ta];grind
 |S::A,B=>by rw[Tp,nV,nV,rR φ b A B];grind
theorem rS(φ:ZX->Int)(b:Bool)(S:ZI):f0 φ b [S]=c7 φ b S:=by rw[nV];show _+(0:Rat)=_;grind
theorem Ce(φ:ZX->Int)(b:Bool){c:Bool}{w:aX}(eg:0<w.2):∀(n:Nat){sh:ZI}{x y:Nat},dX sh->f0 φ b (gY c w n sh x y)=c7 φ b sh/\∀S∈gY c w n sh x y,dX S
 |0,sh,x,y,h=>⟨rS φ b sh,λS ci=>by rw[SM.mp ci];exact h⟩
 |n+1,sh,x,y,h=>by
  rw[gY];by_cases z:y-x=1
  ·rw[SL z];exact⟨rS φ b sh,λS ci=>by rw[SM.mp ci];exact h⟩
  ·rw[SZ z];obtain⟨l,_⟩:=hv (w:=w) eg (((x+y)/2:Nat):Int);obtain⟨p,q⟩:=h.low (X:=c8 w (((x+y)/2:Nat):Int)) (c:=c);obtain⟨b7,bW⟩:=Ce φ b (c:=c) eg n (x:=x) (y:=(x+y)/2) p;obtain⟨bc,bg⟩:=Ce φ b (c:=c) eg n (x:=(x+y)/2) (y:=y) q;refine⟨?_,λS ci=>(SR.mp ci).elim (bW S) (bg S)⟩;rw[rR,b7,bc];exact abe φ b l h
theorem Cf(φ:ZX->Int)(b:Bool){f:Nat->aa}(bf:∀k,∃u v,cb (f k) u v):∀{Ss:ZY}{i:Nat},(∀S∈Ss,dX S)->f0 φ b (fB (λk S=>S.map (eL (f k))) i Ss)=f0 φ b Ss/\∀S∈fB (λk S=>S.map (eL (f k))) i Ss,dX S
 |[],i,_=>⟨rfl,λS ci=>absurd ci Tr⟩
 |S::Ss,i,h=>by
  obtain⟨u,v,aD⟩:=bf i;have bM:=h S Sv;obtain⟨a,c⟩:=Cf φ b bf (Ss:=Ss) (i:=i+1) λT dU=>h T (Sy _ dU);rw[fB,nV,nV,a,t2 φ b aD.1 bM];exact⟨rfl,λT dU=>(SG.mp dU).elim (λe=>by rw[e];exact bM.slid aD) (c T)⟩
theorem abf{c:Bool}{w:aX}(eg:0<w.2)(k:Nat):∃u v,cb (kn c w k) u v:=by
 obtain⟨l,_⟩:=hv (w:=w) eg (-(k:Int));unfold kn;cases c with
 |true=>rw[SL rfl];exact⟨_,_,gx (w:=(0,1)) (by decide) l.1⟩
 |false=>rw[SZ (by decide)];exact⟨_,_,gx (h:=(0,1)) l.1 (by decide)⟩
theorem Iw(φ:ZX->Int)(b:Bool){c:Bool}{w:aX}(eg:0<w.2){sh:ZI}{m:Nat}(h:dX sh):f0 φ b (eb c w sh m)=c7 φ b sh/\∀S∈eb c w sh m,dX S:=by
 obtain⟨b7,bW⟩:=Ce φ b (c:=c) eg 4 (x:=0) (y:=m) h;obtain⟨bc,bg⟩:=Cf φ b (f:=λk=>kn c w k) (λk=>abf eg k) (i:=0) bW;exact⟨bc.trans b7,bg⟩
theorem Ix(φ:ZX->Int)(b:Bool):∀{Ss:ZY},(∀S∈Ss,dX S)->c7 φ b Ss.flatten=f0 φ b Ss/\dX Ss.flatten
 |[],_=>⟨rfl,λs aj=>absurd aj Tr⟩
 |S::Ss,h=>by
  obtain⟨a,c⟩:=Ix φ b (Ss:=Ss) λT dU=>h T (Sy _ dU);rw[TG,p8,nV,a];exact⟨rfl,(h S Sv).app c⟩
theorem abg(φ:ZX->Int)(b:Bool){w:aX}(eg:0<w.2){Ss:ZY}(h:∀S∈Ss,dX S):c7 φ b (fJ w 0 Ss)=f0 φ b Ss/\dX (fJ w 0 Ss):=by
 obtain⟨bc,bg⟩:=Cf φ b (f:=λk=>cj (c8 w (k:Int)) (0,1)) (λk=>⟨_,_,gx (h:=(0,1)) (hv (w:=w) eg (k:Int)).1.1 (by decide)⟩) (i:=0) h;obtain⟨c1,c2⟩:=Ix φ b bg;exact⟨c1.trans bc,c2⟩
theorem uB(φ:ZX->Int)(b:Bool):∀{bs:ZM}{H:aX},0<H.2->(∀x∈bs,dX x.2.2/\0<x.2.1.2)->c7 φ b (dj bs H)=f0 φ b (bs.map λx=>x.2.2)/\dX (dj bs H)
 |[],H,_,_=>⟨rfl,λs aj=>absurd aj Tr⟩
 |x::bs,H,l,h=>by
  obtain⟨h1,h2⟩:=h x Sv;have aD:=gx (w:=(0,1)) (h:=H) (by decide) l;obtain⟨a,c⟩:=uB φ b (bs:=bs) (H:=ih H x.2.1) (o8 l h2).1 λy aG=>h y (Sy _ aG);rw[dj,p8,t2 φ b aD.1 h1,a,SD,nV];exact⟨rfl,(h1.slid aD).app c⟩
section
variable{w h g:aX}(lw:aE w.1 w.2)(w0:0<w.1)(lh:aE h.1 h.2)(h0:0<h.1)(aM:aE g.1 g.2)(aZ:0<g.1)
include lw w0 lh h0 aM aZ
theorem Iy(φ:ZX->Int)(b:Bool){sh:ZI}(aj:dX sh):c7 φ b (d4 g (w,h,sh)).2.2=c7 φ b sh/\dX (d4 g (w,h,sh)).2.2/\0<(d4 g (w,h,sh)).2.1.2:=by
 obtain⟨b4,f9,e⟩:=xC lw w0 lh h0 aM aZ;unfold d4;by_cases c:w=g
 ·rw[SL c];exact⟨rfl,aj,lh.1⟩
 ·rw[SZ c];refine⟨?_,?_,b4.1⟩
  all_goals
   show _
   dsimp only;unfold lY
  all_goals
   generalize er w h g=H at b4 f9 e⊢;obtain⟨cp,b1⟩:=aj.cut (l:=bT w H);have bM:=cp.cL (X:=g) true;have cy:=cp.cL (X:=g) false;have az:=gx (w:=(-g.1,g.2)) (h:=h) aM.1 lh.1;have a3:=gx (w:=fI g w) (h:=fI H h) (nQ (a:=g) (b:=w) aM.1 lw.1).1.1 (nQ (a:=H) (b:=h) b4.1 lh.1).1.1
  ·have lF:c7 φ b (cL g true (ck (ln (bT w H)) (aU (bT w H)) sh))+c7 φ b (cL g false (ck (ln (bT w H)) (aU (bT w H)) sh))=c7 φ b (ck (ln (bT w H)) (aU (bT w H)) sh):=G6 φ b true aM cp;rw[p8,p8,t2 φ b az.1 cy,t2 φ b a3.1 b1,lF];exact w9 φ b (ur lw w0 b4 f9) (gx (w:=w) (h:=(0,1)) lw.1 (by decide)).1 (oS _ _) aj
  ·exact(bM.app (cy.slid az)).app (b1.slid a3)
end
section
open PySem.Builtin.Int (intBits)
variable{w h g:aX}(lw:aE w.1 w.2)(w0:0<w.1)(lh:aE h.1 h.2)(h0:0<h.1)(aM:aE g.1 g.2)(aZ:0<g.1)(c1:wp w.1<=30)(c2:wp w.2<=30)(c3:wp h.1<=100)(c4:wp h.2<=100)(bE:wp g.1<=30)(bG:wp g.2<=30)
include lw w0 lh h0 aM aZ c1 c2 c3 c4 bE bG
theorem abh{sh:ZI}(r1:w.1*g.2<=16*(g.1*w.2))(r2:g.1*w.2<=16*(w.1*g.2))(aj:dX sh)(φ:ZX->Int)(b:Bool):c7 φ b (dj (fc w h g sh) (0,1))=c7 φ b sh:=by
 by_cases c:w.1*g.2<g.1*w.2
 ·obtain⟨_,bX,eN,a4,a'⟩:=ut lw w0 aM aZ c r2;obtain⟨fq,ij,a6,a7,hx,jF,nz,bm,bJ,k8⟩:=uw lw w0 lh h0 c1 c2 c3 c4 bX eN;obtain⟨b7,bW⟩:=Iw φ b (c:=true) (w:=fT h (cS w g)) (m:=cS w g) fq.1 aj;obtain⟨bc,bg⟩:=abg φ b (w:=w) lw.1 bW;obtain⟨bw,bF,gC⟩:=Iy jF nz fq ij aM aZ φ b bg;rw[uu c]
  obtain⟨ai,ap⟩:=uB φ b (bs:=[d4 g (layB w h g sh)]) (H:=(0,1)) (by decide) λx aq=>by
   rw[SM.mp aq];exact⟨bF,gC⟩
  rw[ai];show f0 φ b [(d4 g (layB w h g sh)).2.2]=_
  rw[rS];exact bw.trans (bc.trans b7)
 ·have h1:g.1*w.2<=w.1*g.2:=by lia
  obtain⟨_,bX,eN,a4,a'⟩:=rF lw w0 aM aZ h1 r1;obtain⟨fq,ij,a6,a7,hx⟩:=xw lw w0 aM aZ c1 c2 bE bG h1 r1;have bv:=mQ (c:=false) (w:=g) (sh:=sh) bX eN
  obtain⟨Ss,Z,gh⟩:∃Ss Z,eb false g sh (dk w g)=Ss++[Z]:=by
   rcases UQ (eb false g sh (dk w g))with z|⟨Ss,Z,z⟩
   ·rw[z]at bv;simp at bv;lia
   ·exact⟨Ss,Z,by rw[z,UR]⟩
  obtain⟨b7,bW⟩:=Iw φ b (c:=false) (w:=g) (m:=dk w g) aM.1 aj;rw[gh]at b7 bW;obtain⟨bw,bF,gC⟩:=Iy fq ij lh h0 aM aZ φ b (bW Z (by simp));rw[rH c gh]
  obtain⟨ai,ap⟩:=uB φ b (bs:=Ss.map (λS=>((g,h,S):BoxD))++[d4 g (hU w g (dk w g),h,Z)]) (H:=(0,1)) (by decide) λx aq=>by
   rcases SR.mp aq with aq|aq
   ·obtain⟨S,ci,rfl⟩:=SJ.mp aq;exact⟨bW S (TO _ ci),lh.1⟩
   ·rw[SM.mp aq];exact⟨bF,gC⟩
  rw[ai,SI,SQ,rR]
  have em:Ss.map ((λx:BoxD=>x.2.2)∘λS=>((g,h,S):BoxD))=Ss:=by
   have:((λx:BoxD=>x.2.2)∘λS=>((g,h,S):BoxD))=id:=rfl;rw[this,List.map_id]
  rw[em];show f0 φ b Ss+f0 φ b [(d4 g (hU w g (dk w g),h,Z)).2.2]=_
  rw[rS,bw,<-b7,rR,rS]
end
end Cut
namespace Cut
open PySem L2 L3
open PySem.Builtin.Int (intBits)
structure Cg (m n:Nat) (s:aK):Prop where
 ps:∀p∈s.1,eA m p
 cv:gv s.1
 ln:s.1.length<=n
 st:eA 20 s.2.2
theorem abi(p q:aa):ln (crs p q) q=0:=by show be p q q=0;exact G3 _ _
theorem Cg.px{m n b:Nat}{s:aK}(h:Cg m n s)(ab:m<=b):jE b (m+m+1) n 20 s:=
 ⟨h.cv,⟨λp ae=>(h.ps p ae).mono ab,λe ax=>by
  obtain⟨h1,h2⟩:=kP ax;refine⟨crs e.1 e.2,(h.ps _ h1).bp.crs (h.ps _ h2).bp,?_,oS _ _,abi _ _⟩;rcases kU (h.ps _ h1).pt (h.ps _ h2).pt (h.cv.side ax)with z|z
  ·exact .inl z
  ·exact .inr (.inl z)⟩,h.ln,h.st⟩
structure jf (s:aK):Prop where
 ln:s.1.length<=18
 cv:gv s.1
 ps:∀p∈s.1,eA 2600 p
 st:eA 1200 s.2.2
theorem jf.side{s:aK}(h:jf s):∀e∈dw s.1,(crs e.1 e.2).1≠0\/(crs e.1 e.2).2.1≠0:=λe ax=>by
 obtain⟨h1,h2⟩:=kP ax;exact kU (h.ps _ h1).pt (h.ps _ h2).pt (h.cv.side ax)
theorem jf.rg{s:aK}(h:jf s):nG s.1:=⟨aR h.ln,h.side,λp ae=>(h.ps p ae).bp.mono (by decide)⟩
theorem jf.first{s:aK}(h:jf s):nG (fG s)/\∀p∈fG s,aT p:=by
 have st:=h.st;have sl:∀p∈s.1,eA 3801 (nP (sld (trn s.2.2) p)):=λp ae=>(st.trn.sl (h.ps p ae)).mono (by decide);have aH:∀p∈s.1,aT p:=λp ae=>(h.ps p ae).pt;have r1:=(Bk (v:=trn s.2.2) st.pt.1).rg aH h.side;unfold fG;split
 ·have Ar:∀p∈s.1.map (λp=>nP (sld (trn s.2.2) p)),aT p:=λp ae=>by
   obtain⟨q,ay,rfl⟩:=SJ.mp ae;exact(sl q ay).pt
  refine⟨⟨by rw[Sw,Sw];exact aR h.ln,p6.rg Ar r1,λp ae=>?_⟩,λp ae=>?_⟩
  ·obtain⟨q,ay,rfl⟩:=SJ.mp ae;obtain⟨r,ak,rfl⟩:=SJ.mp ay;exact(sl r ak).trn.bp.mono (by decide)
  ·obtain⟨q,ay,rfl⟩:=SJ.mp ae;obtain⟨r,ak,rfl⟩:=SJ.mp ay;exact(sl r ak).trn.pt
 ·refine⟨⟨by rw[Sw];exact aR h.ln,r1,λp ae=>?_⟩,λp ae=>?_⟩
  ·obtain⟨r,ak,rfl⟩:=SJ.mp ae;exact(sl r ak).bp.mono (by decide)
  ·obtain⟨r,ak,rfl⟩:=SJ.mp ae;exact(sl r ak).pt
theorem jE.pcu{b m n t:Nat}{s:aK}(h:jE b m n t s)(ab:b<=2600)(aN:n<=18)(bQ:t<=1200):jf s:=⟨SA h.ln aN,h.cv,λp ae=>(h.rb.pts p ae).mono ab,h.st.mono bQ⟩
theorem abj{w h g:aX}{sh:ZI}:(lY w h g sh).length<=3*sh.length:=by
 unfold lY;rw[SH,SH,Sw,Sw]
 have a:∀c,(cL g c (ck (ln (bT w (er w h g))) (aU (bT w (er w h g))) sh)).length<=sh.length:=λc=>by
  have q:=o7 (f:=ln (bT w (er w h g))) (mt:=aU (bT w (er w h g))) sh;unfold cL;cases c with
  |true=>exact SA (o7 _) q
  |false=>exact SA (o7 _) q
 have b7:=a true;have bW:=a false;have hT:=o7 (f:=λc => -ln (bT w (er w h g)) c) (mt:=aU (bT w (er w h g))) sh;lia
theorem Iz{g:aX}{b:BoxD}:(d4 g b).2.2.length<=3*b.2.2.length:=by
 unfold d4;by_cases c:b.1=g
 ·rw[SL c];lia
 ·rw[SZ c];exact abj
theorem IA{c:Bool}{X:aX}{sh:ZI}:(lowC c X sh).length<=sh.length/\(highC c X sh).length<=sh.length:=by
 unfold lowC highC cL cV;cases c with
 |true=>exact⟨o7 _,o7 _⟩
 |false=>exact⟨o7 _,o7 _⟩
theorem Ch{c:Bool}{w:aX}:∀(n:Nat){sh:ZI}{x y:Nat},∀S∈gY c w n sh x y,S.length<=sh.length
 |0,sh,x,y,S,ci=>by rw[SM.mp ci];exact Sx _
 |n+1,sh,x,y,S,ci=>by
  rw[gY]at ci;by_cases z:y-x=1
  ·rw[SL z]at ci;rw[SM.mp ci];exact Sx _
  ·rw[SZ z]at ci;rcases SR.mp ci with h|h
   ·exact SA (Ch n S h) IA.1
   ·exact SA (Ch n S h) IA.2
theorem IB{c:Bool}{w:aX}{sh:ZI}{m:Nat}{S:ZI}(ci:S∈eb c w sh m):S.length<=sh.length:=by
 obtain⟨k,T,dU,_,rfl⟩:=H4 ci;rw[Sw];exact Ch 4 T dU
theorem IC{w:aX}{N:Nat}:∀{Ss:ZY}{i:Nat},(∀S∈Ss,S.length<=N)->(fJ w i Ss).length<=N*Ss.length
 |[],i,_=>S8 _
 |S::r,i,h=>by
  have e:fJ w i (S::r)=S.map (eL (cj (c8 w (i:Int)) (0,1)))++fJ w (i+1) r:=by
   unfold fJ;rw[fB,TG]
  have a:=h S Sv;have b:=IC (w:=w) (Ss:=r) (i:=i+1) λT dU=>h T (Sy _ dU);rw[e,SH,Sw,SK,Ud];lia
section
variable{w h g:aX}(lw:aE w.1 w.2)(w0:0<w.1)(aM:aE g.1 g.2)(aZ:0<g.1)
include lw w0 aM aZ
theorem ID{a b:Nat}{x:Rat}(ce:0<x)(h:(a:Rat)*x<(b:Rat)*x):a<b:=by
 apply TB;intro z;have:((b:Nat):Rat)<=(a:Rat):=by exact_mod_cast (show b<=a by lia)
 have:=T7 this (Te ce);grind
theorem abk{sh:ZI}{M N:Nat}(agE:1<=M)(agF:M<=16)(r1:af w<=(M:Rat)*af g)(r2:af g<=(M:Rat)*af w)(aO:w.1*g.2<=16*(g.1*w.2))(bz:g.1*w.2<=16*(w.1*g.2))(bi:sh.length<=N):(dj (fc w h g sh) (0,1)).length<=3*(N*M):=by
 have W:=dV w0 lw.1;have G:=dV aZ aM.1;rw[qj];by_cases c:w.1*g.2<g.1*w.2
 ·obtain⟨_,bX,eN,a4,a'⟩:=ut lw w0 aM aZ c bz
  have ip:cS w g<=M:=by
   have Iv:((cS w g-1:Nat):Rat)=(cS w g:Rat)-1:=by
    have:=o' (cS w g-1);rw[show cS w g-1+1=cS w g by lia]at this;grind
   have:=ID lw w0 aM aZ (a:=cS w g-1) (b:=M) W (by rw[Iv];grind);lia
  rw[uu c];have a:=Iz (g:=g) (b:=layB w h g sh)
  have b:(layB w h g sh).2.2.length<=N*cS w g:=by
   have:=IC (w:=w) (N:=N) (Ss:=eb true (fT h (cS w g)) sh (cS w g)) (i:=0) λS ci=>SA (IB ci) bi;rw[mQ bX eN]at this;exact this
  have d:N*cS w g<=N*M:=VF _ ip;simp only[SD,Tz,SN,Ux];lia
 ·have h1:g.1*w.2<=w.1*g.2:=by lia
  obtain⟨_,bX,eN,a4,a'⟩:=rF lw w0 aM aZ h1 aO
  have ip:dk w g<=M:=by
   have:=ID lw w0 aM aZ (a:=dk w g) (b:=M+1) G (by rw[o'];grind);lia
  have bv:=mQ (c:=false) (w:=g) (sh:=sh) bX eN
  obtain⟨Ss,Z,gh⟩:∃Ss Z,eb false g sh (dk w g)=Ss++[Z]:=by
   rcases UQ (eb false g sh (dk w g))with z|⟨Ss,Z,z⟩
   ·rw[z]at bv;simp at bv;lia
   ·exact⟨Ss,Z,by rw[z,UR]⟩
  have jX:∀S∈Ss++[Z],S.length<=N:=λS ci=>SA (IB (by rw[gh];exact ci)) bi;rw[gh,SH,TK]at bv;rw[rH c gh,SI,Ue,SQ]
  have az:(Uy ((λb:BoxD=>b.2.2.length)∘λS=>((g,h,S):BoxD)) Ss).sum<=N*Ss.length:=by
   have:∀lZ:ZY,(∀S∈lZ,S.length<=N)->(Uy ((λb:BoxD=>b.2.2.length)∘λS=>((g,h,S):BoxD)) lZ).sum<=N*lZ.length:=λlZ=>by
    induction lZ with
    |nil=>intro _;exact S8 _
    |cons S r bN=>
     intro dU;have x:=dU S Sv;have y:=bN λS ci=>dU S (Sy _ ci);rw[SD,SN,SK,Ud];show S.length+_<=_
     lia
   exact this Ss λS ci=>jX S (TO _ ci)
  have a:=Iz (g:=g) (b:=(hU w g (dk w g),h,Z));have z:=jX Z (by simp);have fv:(d4 g (hU w g (dk w g),h,Z)).2.2.length<=3*Z.length:=a;have d:N*(Ss.length+1)<=N*M:=VF _ (by lia);rw[Ud]at d;simp only[SD,Tz,SN,Ux];lia
end
section
variable{w h g:aX}(lw:aE w.1 w.2)(w0:0<w.1)(lh:aE h.1 h.2)(h0:0<h.1)(aM:aE g.1 g.2)(aZ:0<g.1)(c1:wp w.1<=30)(c2:wp w.2<=30)(c3:wp h.1<=100)(c4:wp h.2<=100)(bE:wp g.1<=30)(bG:wp g.2<=30)
include lw w0 lh h0 aM aZ c1 c2 c3 c4 bE bG
theorem abl{sh:ZI}{B bL n t N:Nat}(r1:w.1*g.2<=16*(g.1*w.2))(r2:g.1*w.2<=16*(w.1*g.2))(aj:cJ B bL n t N sh)(eH:310+bL<=B)(av:270<=bL)(bal:fZ (sh.map λs=>s.1) [fo w h]):
  bI (fc w h g sh) (0,1)=er w h g/\cJ (B+682) (bL+686) (n+6) (t+682) (48*N) (dj (fc w h g sh) (0,1))/\fZ ((dj (fc w h g sh) (0,1)).map λs=>s.1) [fo g (er w h g)]/\∀φ b,c7 φ b (dj (fc w h g sh) (0,1))=c7 φ b sh:=by
 obtain⟨_,_,_,ii⟩:=B9 lw w0 lh h0 aM aZ c1 c2 c3 c4 bE bG aj eH av r1 r2;have sz:=aaT lw w0 lh h0 aM aZ c1 c2 c3 c4 bE bG aj eH av r1 r2;have kp:dX sh:=λs h=>⟨(aj.1 s h).st.pt,λp ae=>((aj.1 s h).rb.pts p ae).pt⟩;have on:dx sh 0 (af w) 0 (af h):=⟨kp.pts,fo w h,bal,qh lw lh⟩;obtain⟨_,R,uC,xF⟩:=abb lw w0 lh h0 aM aZ c1 c2 c3 c4 bE bG r1 r2 on;obtain⟨b4,_⟩:=xC lw w0 lh h0 aM aZ;rw[ii]at xF;have Ir:=xF.eq (qh aM b4);rw[Ir]at uC;exact⟨ii,sz,uC,λφ b=>abh lw w0 lh h0 aM aZ c1 c2 c3 c4 bE bG r1 r2 kp φ b⟩
end
theorem IE{a b:aX}{M:Nat}(aw:0<a.2)(ab:0<b.2)(h:af a<=(M:Rat)*af b):a.1*b.2<=(M:Int)*(b.1*a.2):=by
 have b7:(0:Rat)<a.2:=by exact_mod_cast aw
 have bc:(0:Rat)<b.2:=by exact_mod_cast ab
 have cp:=di aw;have b1:=di ab;unfold af at h;have:=T7 h (Te (Td b7 bc));have u:(a.1:Rat)/a.2*(a.2*b.2)=a.1*b.2:=by grind
 have v:(M:Rat)*((b.1:Rat)/b.2)*(a.2*b.2)=M*(b.1*a.2):=by grind
 rw[u,v]at this;exact_mod_cast this
theorem abm{w h:aX}(lw:aE w.1 w.2)(lh:aE h.1 h.2)(c1:wp w.1<=10)(c2:wp w.2<=10)(c3:wp h.1<=10)(c4:wp h.2<=10):∀p∈fo w h,eA 22 p:=λp ae=>by
 have z:wp 0<=22:=by decide
 have m:∀{z:Int},wp z<=10->wp z<=22:=λh=>aR h;unfold fo at ae;simp only[SG,Tr,or_false]at ae;rcases ae with rfl|rfl|rfl|rfl
 ·exact⟨⟨by decide,by decide⟩,⟨by decide,by decide,by decide⟩⟩
 ·exact⟨(w' lw).1,⟨m c1,z,m c2⟩⟩
 ·exact(je lw lh c1 c2 c3 c4).mono (by decide)
 ·exact⟨(xa lh).1,⟨z,m c3,m c4⟩⟩
end Cut
namespace L3
open PySem L2
section
variable{prog:Uf}{w:WP}{A:Xv}{E:Tk->Tl->Prop}{s:Tl}{d it:TI}{i ep:Nat}{es:Array Yu}
theorem IF{Q:Option Tk->Tl->Prop}(dE:A.handled=none)(hit:s.heap.IsValIter it d i es.size ep)(av:nE s.heap d es ep)(more:∀e h',es[i]?=some e->h'.IsValIter it d (i+1) es.size ep->Heap.SameBut it s.heap h'->Q (some e.val) {s with heap:=h' })(done:∀h',es[i]?=none->Heap.ExtBut it s.heap h'->Q none {s with heap:=h' }):wpAny (UF prog w) A (Yx (.ref it)) Q E s:=by
 have ty:=hit.typeIs;obtain⟨A6,au,rp,ic⟩:=hit;obtain⟨o,aB,hc,ax⟩:=av;have own:Builtin.Dict_items.ownsTuple "dict_valueiterator"=false:=by decide
 have dB:¬((i:Int)<0):=by lia
 have none_:¬(Value.ref d==Value.none)=true:=S6;unfold Yx;refine SB (Zc (XT (name:="__next__") ty F.slot_dict_valueiterator_next (W1 F.slot_dict_valueiterator_next ty F.entry_dict_valueiterator_next ?_ (F.args_dict_valueiterator_next_1 _))));refine SB (SC (SB (SB ?_)));refine SB (XW ty (SC (SB (YA au ic ?_))));rw[own];show wpAny _ _ (if(Value.ref d==Value.none)=true then _ else _) _ _ s
 rw[SZ none_];refine SB (SC (SB (X1 aB ax ?_)));rw[SZ (by simp)];refine SB (SC (SB (Yv aB ax ?_)));rw[SZ (by simp)];refine SC ?_;simp only[dB,if_false,Vl];cases q:es[i]? with
 |some e=>
  let h1:=s.heap.update it (Obj.mapFields (·.setIfInBounds 1 (YD ((i:Int)+1))))
  have bM:h1.IsValIter it d (i+1) es.size ep:=by
   refine⟨_,Heap.get?_update_self _ au ?_,(Obj.cls_mapFields ..).trans rp,?_⟩
   ·exact Obj.isFreed_of_fields (Obj.data_mapFields ic _)
   ·rw[Obj.data_mapFields ic];simp[YD]
  refine SB ?_;refine SB (XW ty (SC (SB (Yl ty ?_))));show wpAny _ _ (ZE (.ref it) 1 (YD ((i:Int)+1)) >>= _) _ _ s
  refine SB (XY au ic (by simp) (SB (Xw (SB (Yl (s:={s with heap:=h1}) bM.typeIs (SB (Yl (s:={s with heap:=h1}) bM.typeIs ?_)))))));exact SC (SC ⟨_,rfl,SC (more e h1 q bM (Heap.SameBut.update ..))⟩)
 |none=>
  refine SB ?_;refine SB (XW ty (SC ?_));show wpAny _ _ (ZE (.ref it) 0 .none >>= _) _ _ s
  refine SB (XY au ic (by simp) ?_);show wpAny _ _ (ZF (.type "StopIteration") [] >>= _) _ _ _
  unfold ZF newTuple;refine SB (SB (T0 (SB (m:=X2 _ _) (Y3 (a:=Value.none) (by first|rfl|(unfold X2;rfl)) (T0 ?_ (by size_fits)))) (by size_fits)));unfold raiseNew;refine SB (Zd ?_);rw[show A.in1.handled=none from dE];refine SB (SC (Zv ?_));refine SB (XO (T:="StopIteration") (b:=true) (by exact⟨_,Heap.get?_push_size _ rfl,rfl⟩) YY ?_);exact SC (done _ q (((Heap.SameBut.update ..).extBut.push _).push _))
theorem abn{v:TI}{Q:Tk->Tl->Prop}(aH:s.heap.IsValuesView v d)(av:nE s.heap d es ep)(ir:Q (.ref s.heap.objs.size) {s with heap:=s.heap.push {cls:=.type "dict_valueiterator",data:=.fields #[.ref d,.int 0 0,.int es.size 0,.int ep 0]} }):wpAny (UF prog w) A (Zx (.ref v)) Q E s:=by
 have IG:=aH.typeIs;obtain⟨p,ae,agG,dp⟩:=aH;obtain⟨o,aB,hc,ax⟩:=av;have own:Builtin.Dict_items.ownsTuple "dict_valueiterator"=false:=by decide
 refine Ye IG F.slot_dict_values_iter (W1 F.slot_dict_values_iter IG F.entry_dict_values_iter ?_ (F.args_dict_values_iter_1 _));unfold Yd.«dict_values.__iter__»;refine SB (SC (SB ?_));unfold Builtin.Dict_items.dictOf;refine SB (Y2 ae dp (x:=.ref d) rfl (SC (SB ?_)));unfold Builtin.Dict_items.newIterator;refine SB (X1 aB ax (SB (Yv aB ax ?_)));simp only[own];refine T0 (SC ⟨_,rfl,"dict_valueiterator",_,⟨_,Heap.get?_push_size _ rfl,rfl⟩,F.slot_dict_valueiterator_next.lookup,?_⟩) (by simp[sizeOk,Yc]);simpa[YD]using ir
theorem abo(d:TI)(hd:(d==XM)=false):
  MeetsIn prog w (Yd.«dict.values» ⟨[.ref d],[]⟩) (λ_ R s=>(∃es ep,nE s.heap d es ep)/\R (.ok (.ret (.ref s.heap.objs.size))) {s with heap:=s.heap.push {cls:=.type "dict_values",data:=.fields #[.ref d]} }):=
 .of_wp λA R s ⟨⟨es,ep,av⟩,h⟩=>by
  obtain⟨o,aB,hc,ax⟩:=av;have ty:s.TypeIs (.ref d) "dict":=⟨o,aB,hc.1⟩;have no:¬(d==XM)=true:=λz=>by rw[hd]at z;cases z
  show wpAny _ _ (Builtin.Dict.noArgs "values" ⟨[.ref d],[]⟩ >>= λd=>Builtin.Dict.showsAll d >>= λ_=>newFields "dict_values" [.ref d] >>= λx=>ret x) _ _ s
  unfold Builtin.Dict.noArgs;refine SB (SB (Yj ty (show wpAny _ _ (pure d) _ _ s from SC ?_)));show wpAny _ _ (Builtin.Dict.showsAll d >>= _) _ _ s
  unfold Builtin.Dict.showsAll;rw[SZ no];exact SB (SC (SB (T0 (SC ⟨_,rfl,h⟩))))
end
end L3
namespace L2
open PySem PySem.Spec PyProof.Rows PySem.W L3
def IH(b:Bool)(a:TI)(ep:Nat)(ks:List ZX)(as:ZS)(vs:ZJ):hX where
 go:=λi H=>H a=some (g9 b a ep ks as vs)/\i<ks.length
 yld:=λi H x al=>al=H/\vs[i]?=some x
 stop:=λi H=>H a=some (g9 b a ep ks as vs)/\ks.length<=i
section
variable{P:Uf}{w:WP}{K:F6}{bA:Wp}{b:Bool}{a:TI}{ep:Nat}{ks:List ZX}{as:ZS}{vs:ZJ}
theorem abp:entryFor table "dict_valueiterator.__iter__"=some Yd.«dict_keyiterator.__iter__»:=entryFor_alias (id':="dict_keyiterator.__iter__") (by kernel_rfl) rfl (by decide +kernel) (by kernel_rfl)
theorem abq(it:TI):oa P w K bA (IH b a ep ks as vs) [it] it (λi h=>h.IsValIter it a i ks.length ep) where
 mem:=by simp
 obj:=λi h st c hc=>by
  have e:c=it:=by simpa using hc
  subst e;obtain⟨o,e,_,d⟩:=st;exact⟨o,e,λv z=>by rw[d]at z;cases z⟩
 keep:=λi h h' st k=>by
  obtain⟨o,e,z⟩:=st;exact⟨o,k it (by simp) o e,z⟩
 item:=by
  intro X fE hw eG hc i pins s σ H E I bf st aD;subst fE hw eG;obtain⟨ay,au⟩:=aD;obtain⟨us,es,fm,gu,a6,a7,df,cq,_⟩:=rq I.hok ay;obtain⟨k,c,u,Gz,wQ,ax⟩:=A7 (b:=b) a6 a7 au
  obtain⟨y,aG,cA⟩:∃y,vs[i]?=some y/\RelV y u:=by
   have lt:i<vs.length:=by rw[cq.length];lia
   obtain⟨eQ,ro,dJ⟩:=cq.get (S5 lt);rw[wQ]at ro;cases ro;exact⟨_,S5 lt,dJ⟩
  obtain⟨e9,a4,a',bP,dL,eR⟩:=bf it (by simp);refine IF (I.ok.hd hc) (by rw[df];exact st) fm (λe h' q iV d5=>?_) λh' q _=>?_
  ·rw[<-UW,gu,ax]at q;cases q;rw[df]at iV;have a2:Inv X pins σ H {s with heap:=h' }:=I.turned (t':=s.toks) (λc' o ab e=>(d5.2 c' ab).trans e) e9 a4 bP dL eR;obtain⟨o,e,c2,d⟩:=id iV;exact⟨u,rfl,se (s:={s with heap:=h' }) e c2 d (by decide) ⟨y,H,a2,cA,⟨rfl,aG⟩,iV,λb' ab=>(bf b' ab).1⟩⟩
  ·rw[<-UW,gu,ax]at q;cases q
 done:=by
  intro X fE hw eG hc i pins s σ H E I bf st aD;subst fE hw eG;obtain⟨ay,au⟩:=aD;obtain⟨us,es,fm,gu,a6,a7,df,_⟩:=rq I.hok ay;obtain⟨e9,a4,a',bP,dL,eR⟩:=bf it (by simp);refine IF (I.ok.hd hc) (by rw[df];exact st) fm (λe h1 q _ _=>?_) λh' _ dY=>⟨rfl,I.turned (t':=s.toks) (λc' o ab e=>dY c' o ab e) e9 a4 bP dL eR⟩;rw[Vw (by lia)]at q;cases q
 self:=λ_ _ _ _ _ st h=>by
  have ty:=st.typeIs;refine Ye ty F.slot_dict_valueiterator_iter (W1 F.slot_dict_valueiterator_iter ty abp ?_ (F.args_dict_valueiterator_iter_1 _));show wpAny _ _ (ret (.ref it)) _ _ _
  exact SC ⟨_,rfl,"dict_valueiterator",_,ty,F.slot_dict_valueiterator_next.lookup,h⟩
def abr(f3:bK):e8:=λσ H R=>f3 σ H λx ar=>∃b a ep ks as vs,x=.ref a/\mK ar b a ep ks as vs/\R (IH b a ep ks as vs) ar
theorem abt{X:aJ}{dr cr:Pos}{l:Wp}{f3:bK}(ao:b6 X l f3)(g4:Xx l "values" X.env (XJ l X.env)=XJ l X.env:=by rfl)(g5:(dr.endLine==cr.line)=true:=by rfl):jH X bA (.Call (.Attribute l "values" dr) [] [] cr) (abr f3):=by
 intro pins s σ H R I h;refine wpAny_Call_method (T:="dict") (id:="dict.values") g4 rfl g5 Wi Xl PySem.F.type_dict_values (cc (ao pins s σ H _ I h) λv az ⟨x,ar,a2,r1,b,a,ep,ks,as,vs,e,kS,q⟩=>?_);subst e;obtain rfl:v=Value.ref a:=r1;obtain⟨ew,cP⟩:=kS.typ a2;refine⟨ew,cP,?_⟩;obtain⟨us,es,fm,gu,a6,a7,df,_,aj⟩:=rq a2.hok kS.h;show wpAny _ _ (callWith cr (.builtin "dict.values") [.ref a] [] []) _ _ az
 refine method_meetsIn Xl PySem.F.entry_dict_values rfl (WR ⟨rfl,ew,PySem.F.args_dict_values_1 _,_,abo a aj,⟨es,ep,fm⟩,?_⟩)
 have zU:nE (az.heap.push {cls:=.type "dict_values",data:=.fields #[.ref a]}) a es ep:=by
  obtain⟨o,aB,z⟩:=fm;exact⟨o,Heap.get?_push_of_some _ aB,z⟩
 have dM:Inv X pins σ ar {az with heap:=az.heap.push {cls:=.type "dict_values",data:=.fields #[.ref a]} }:=a2.kept (t':=az.toks) λb o e=>Heap.get?_push_of_some _ e;refine abn (s:={az with heap:=az.heap.push {cls:=.type "dict_values",data:=.fields #[.ref a]} }) ⟨_,Heap.get?_push_size _ rfl,rfl,rfl⟩ zU ?_;refine⟨_,[_],_,_,ar,rfl,dM.kept (t':=az.toks) λb o e=>Heap.get?_push_of_some _ e,abq _,⟨_,Heap.get?_push_size _ rfl,rfl,by rw[df];rfl⟩,λc hc=>?_,q⟩;rw[SM.mp hc];exact dM.fpOk (Sx _) (dM.hok.fresh (Sx _))
end
end L2
namespace L3
open PySem L2
section
variable{X:aJ}{bA:Wp}
def abu(u:a9):cZ:=λρ k=>u ρ λx=>∃b ks ds,x=.dct b ks ds/\ds.length=ks.length/\k ds
theorem abv{dr cr:Pos}{l:Wp}{lH:a9}(ao:bn X l lH)(g4:Xx l "values" X.env (XJ l X.env)=XJ l X.env:=by rfl)(g5:(dr.endLine==cr.line)=true:=by rfl):nh X bA (.Call (.Attribute l "values" dr) [] [] cr) (abu lH):=by
 obtain⟨_,h1,r1⟩:=ao;refine⟨_,abt h1 g4 g5,λρ k h R W B H σ Q e q=>?_⟩;refine r1 ρ _ h R W B H σ _ e λd v bd ar z1 ai aI az=>?_;obtain⟨b,ks,ds,rfl,ao,z⟩:=z1;cases az with
 | @dct a _ ep _ as vs _ eH tT qP fV=>
  refine⟨b,a,ep,ks,as,vs,rfl,⟨ai.bh _ _ eH,oW ai.bh qP tT⟩,?_⟩;refine q _ _ bd ar z ai aI λal mM i=>?_;rw[ao];refine⟨λau=>⟨mM _ _ eH,au⟩,λau=>⟨mM _ _ eH,au⟩,λx a5 au y=>?_⟩;obtain⟨rfl,aG⟩:=y;obtain⟨d,hd,fm⟩:=fV.getV aG;exact⟨rfl,d,hd,fm⟩
end
end L3
namespace Cut
open PySem L2 L3
open PySem.Builtin.Int (intBits)
abbrev gy:=aX×ZM
abbrev ZO:=List gy
def ik:ZO->BoxD->ZO
 |[],b=>[(b.1,[b])]
 |p::r,b=>if p.1=b.1 then(p.1,p.2++[b])::r else p::ik r b
def jY(w:aX):List ZG:=[[w.1,w.2]]
def jZ(G:ZO):List ZX:=G.map λp=>jY p.1
def j0(G:ZO):List ZK:=G.map λp=>p.2.map dBx
theorem abw{a b:aX}(h:jY a=jY b):a=b:=by
 unfold jY at h;simp only[UM,and_true]at h;exact TU h.1 h.2
theorem II:∀(G:ZO)(b:BoxD),qb (jZ G) (j0 G) (jY b.1) (dBx b)=j0 (ik G b)/\eM (jZ G) (jY b.1)=jZ (ik G b)
 |[],b=>⟨rfl,rfl⟩
 |p::r,b=>by
  obtain⟨ef,fP⟩:=II r b;have c1:jZ (p::r)=jY p.1::jZ r:=rfl;have c2:j0 (p::r)=p.2.map dBx::j0 r:=rfl;rw[ik,c1,c2];by_cases e:p.1=b.1
  ·rw[SL e];unfold qb eM;rw[<-e,SL Sv,SL Sv,qa,SL rfl];refine⟨?_,rfl⟩;show _=(p.2++[b]).map dBx::j0 r
   rw[SI];rfl
  ·have ne:jY p.1≠jY b.1:=λz=>e (abw z);rw[SZ e];have aI:j0 (p::ik r b)=p.2.map dBx::j0 (ik r b):=rfl;have aP:jZ (p::ik r b)=jY p.1::jZ (ik r b):=rfl;rw[aI,aP,<-ef,<-fP];unfold qb eM;by_cases m:jY b.1∈jZ r
   ·rw[SL (Sy _ m),SL (Sy _ m),SL m,SL m,qa,SZ ne];exact⟨rfl,rfl⟩
   ·have ip:jY b.1∉jY p.1::jZ r:=λz=>(SG.mp z).elim (λy=>ne y.symm) m;rw[SZ ip,SZ ip,SZ m,SZ m];exact⟨rfl,rfl⟩
def eY(bs:ZM):List gy:=bs.foldl ik []
theorem abx(pre:ZM)(x:BoxD):eY (pre++[x])=ik (eY pre) x:=by
 unfold eY;rw[List.foldl_append];rfl
theorem IJ:∀(G:ZO)(b:BoxD),((ik G b).map TH).flatten.Perm ((G.map TH).flatten++[b])
 |[],b=>Xm _
 |p::r,b=>by
  rw[ik];by_cases e:p.1=b.1
  ·rw[SL e];show((p.2++[b])++(r.map TH).flatten).Perm ((p.2++(r.map TH).flatten)++[b])
   rw[S7,S7];exact Ws _ Wt
  ·rw[SZ e];show(p.2++((ik r b).map TH).flatten).Perm ((p.2++(r.map TH).flatten)++[b])
   rw[S7];exact Ws _ (IJ r b)
theorem IK:∀(bs:ZM)(G:ZO),((bs.foldl ik G).map TH).flatten.Perm ((G.map TH).flatten++bs)
 |[],G=>by rw[SO];exact Xm _
 |b::r,G=>by
  refine(IK r (ik G b)).trans ?_;have:=(IJ G b).append_right r
  rwa [S7]at this
theorem qu(bs:ZM):((eY bs).map TH).flatten.Perm bs:=IK bs []
def uD(G:ZO):Prop:=∀p∈G,p.2≠[]/\∀b∈p.2,b.1=p.1
theorem IL:∀{G:ZO}{b:BoxD},uD G->uD (ik G b)
 |[],b,_=>λp ae=>by
  rw[SM.mp ae];exact⟨by simp,λx aq=>by rw[SM.mp aq]⟩
 |q::r,b,h=>λp ae=>by
  rw[ik]at ae;have h1:=h q Sv;by_cases e:q.1=b.1
  ·rw[SL e]at ae;rcases SG.mp ae with rfl|ae
   ·refine⟨by simp,λx aq=>?_⟩;rcases SR.mp aq with aq|aq
    ·exact h1.2 x aq
    ·rw[SM.mp aq];exact e.symm
   ·exact h p (Sy _ ae)
  ·rw[SZ e]at ae;rcases SG.mp ae with rfl|ae
   ·exact h1
   ·exact IL (G:=r) (λx aq=>h x (Sy _ aq)) p ae
theorem IM:∀{bs:ZM}{G:ZO},uD G->uD (bs.foldl ik G)
 |[],_,h=>h
 |_::r,_,h=>IM (bs:=r) (IL h)
theorem xG(bs:ZM):uD (eY bs):=IM λ_ h=>absurd h Tr
theorem xH{bs:ZM}{p:gy}(ae:p∈eY bs):∀b∈p.2,b∈bs:=λb ab=>(qu bs).subset (VI.mpr ⟨p.2,SJ.mpr ⟨p,ae,rfl⟩,ab⟩)
theorem Ci{l gf:ZM}(h:l.Perm gf)(f:BoxD->Rat):(l.map f).sum=(gf.map f).sum:=by
 induction h with
 |nil=>rfl
 |cons x _ bN=>rw[SD,SD,SN,SN,bN]
 |swap x y l=>simp only[SD,SN];grind
 |trans _ _ a b=>exact a.trans b
theorem aby{l gf:ZM}(h:l.Perm gf)(f:BoxD->Nat):(l.map f).sum=(gf.map f).sum:=by
 induction h with
 |nil=>rfl
 |cons x _ bN=>rw[SD,SD,SN,SN,bN]
 |swap x y l=>simp only[SD,SN];lia
 |trans _ _ a b=>exact a.trans b
theorem IN(f:BoxD->Rat):∀G:ZO,((G.map TH).flatten.map f).sum=(G.map λp=>(p.2.map f).sum).sum
 |[]=>rfl
 |p::r=>by
  rw[SD,TG,SI,SD,SN,<-IN f r];generalize(r.map TH).flatten=L;induction p.2 with
  |nil=>show(L.map f).sum=(0:Rat)+_;grind
  |cons x l bN=>rw[SD,Tp,SN,bN,SN];grind
theorem IP(f:BoxD->Nat):∀G:ZO,((G.map TH).flatten.map f).sum=(G.map λp=>(p.2.map f).sum).sum
 |[]=>rfl
 |p::r=>by rw[SD,TG,SI,Ue,IP f r,SD,SN]
theorem IQ(bs:ZM)(f:BoxD->Rat):((eY bs).map λp=>(p.2.map f).sum).sum=(bs.map f).sum:=by rw[<-IN,Ci (qu bs)]
theorem Cj(bs:ZM)(f:BoxD->Nat):((eY bs).map λp=>(p.2.map f).sum).sum=(bs.map f).sum:=by rw[<-IP,aby (qu bs)]
theorem xI(bs:ZM):(eY bs).length<=bs.length:=by
 have h:=Cj bs λ_=>1
 have e:∀l:ZM,(l.map λ_=>1).sum=l.length:=λl=>by
  induction l with
  |nil=>rfl
  |cons x l bN=>rw[SD,SN,bN,SK];lia
 rw[e]at h;rw[<-h];have ok:=xG bs;generalize eY bs=G at ok;induction G with
 |nil=>exact Sx _
 |cons p r bN=>
  have i:=bN λx aq=>ok x (Sy _ aq);have n:=V9.mpr (ok p Sv).1;rw[SD,SN,e,SK];lia
theorem xJ:∀{l:ZN}{x:Nat},x∈l->x<=l.sum
 |y::l,x,h=>by
  rw[SN];rcases SG.mp h with rfl|h
  ·lia
  ·have:=xJ h;lia
theorem Ck{bs:ZM}{p:gy}(ae:p∈eY bs):p.2.length<=bs.length:=by
 have h:=(qu bs).length_eq;rw[Xn]at h;rw[<-h];exact xJ (SJ.mpr ⟨p.2,SJ.mpr ⟨p,ae,rfl⟩,rfl⟩)
theorem IR{α:Type}:∀{ks:List ZX}{ds:List α}{k:ZX}{x:α},bB ks ds k=some x->x∈ds
 |[],_,_,_,h=>by simp[bB]at h
 |_::_,[],_,_,h=>by simp[bB]at h
 |k'::ks,d::ds,k,x,h=>by
  rw[bB]at h;by_cases e:k'=k
  ·rw[SL e]at h;cases h;exact Sv
  ·rw[SZ e]at h;exact Sy _ (IR h)
noncomputable def f'(p:gy):BoxD:=(p.1,bI p.2 (0,1),dj p.2 (0,1))
theorem abz{H h:aX}{p q:Nat}(h1:0<H.2)(h2:0<h.2)(bc:wp H.1<=p)(bg:wp H.2<=p)(dP:wp h.1<=q)(fa:wp h.2<=q):wp (ih H h).1<=p+q+1/\wp (ih H h).2<=p+q+1:=by
 obtain⟨_,_,ai,ap⟩:=gG (t:=H.1*h.2+h.1*H.2) (b:=H.2*h.2) (Sz (SE h1 h2));have x:=TE bc fa;have y:=TE dP bg;rw[Wo q p]at y;have z:=XQ x y;rw[VB]at z;exact⟨dO ai z,dO ap (SA (TE bg fa) (by lia))⟩
theorem Cm(c:BoxD->Nat):∀{bs:ZM}{H:aX}{p:Nat},0<H.2->wp H.1<=p->wp H.2<=p->(∀b∈bs,0<b.2.1.2/\wp b.2.1.1<=c b/\wp b.2.1.2<=c b)->wp (bI bs H).1<=p+(bs.map λb=>c b+1).sum/\wp (bI bs H).2<=p+(bs.map λb=>c b+1).sum
 |[],_,_,_,bc,bg,_=>⟨bc,bg⟩
 |b::r,H,p,h0,bc,bg,h=>by
  obtain⟨f6,b7,bW⟩:=h b Sv;obtain⟨z1,aY⟩:=abz h0 f6 bc bg b7 bW;have:=Cm c (bs:=r) (o8 h0 f6).1 z1 aY λx aq=>h x (Sy _ aq);rw[bI,SD,SN];have e:p+(c b+1+(r.map λb=>c b+1).sum)=p+c b+1+(r.map λb=>c b+1).sum:=by lia
  rw[e];exact this
theorem Cn:∀{bs:ZM}{H:aX},0<H.2->(∀b∈bs,0<b.2.1.2)->af (bI bs H)=af H+(bs.map λb=>af b.2.1).sum
 |[],H,_,_=>by show af H=af H+(0:Rat);grind
 |b::r,H,h0,h=>by
  have f6:=h b Sv;rw[bI,Cn (bs:=r) (o8 h0 f6).1 λx aq=>h x (Sy _ aq),up h0 f6,SD,SN];grind
end Cut
namespace L2
open PySem PySem.Spec PyProof.Rows PySem.W L3
section
variable{X:aJ}{pins:ZW}{σ:St}{H:am}{s:Tl}{h':XB}
theorem Inv.turnedL{t':Nat}{fs:ZS}(I:Inv X pins σ H s)(k:∀b o,b∉fs->s.heap.get? b=some o->h'.get? b=some o)(f:∀b∈fs,jG X pins H b):Inv X pins σ H {s with heap:=h',toks:=t' }:=by
 have ma:∀b u,H b=some u->b∉fs:=λb u q m=>by rw[(f b m).1]at q;cases q
 refine I.step (g':=s.gens) (d':=s.drawn) (ch:=fs) (λb ab=>?_) (λb o _ _ hc q _=>k b o hc q) (λb o _ _ hc q _=>⟨o.slots,k b o hc q⟩) (λ_ _ _ _ n=>n)
  (λb o hc q=>⟨o,k b o hc q⟩) (λ_ _ e=>e) (λ_ _ _ e=>e) (λb ps q=>⟨#[],by rw[q];simp⟩) (λm av=>?_) (λb u q=>?_) I.bare
 ·obtain⟨lN,ef,fP,lO,AI,AJ⟩:=f b ab;exact⟨lO,ef,AI,AJ⟩
 ·obtain⟨o,es,ep,aB,r⟩:=av;refine⟨o,es,ep,k _ o (λm=>?_) aB,r⟩;obtain⟨_,ef,_⟩:=f _ m;exact ef rfl
 ·refine(I.hok b u q).stay (λc v hc y=>k c v ?_ y) (λ_ q=>q) λ_ _ q=>q;rcases hc with z|z
  ·rw[z];exact ma b u q
  ·exact ma c _ z
end
def IS(K:F6)(a b:TI):hX:=
 ⟨λi H=>∃xs ys x y,cE K H a xs/\cE K H b ys/\xs[i]?=some x/\ys[i]?=some y,λi H v al=>∃p x y,H p=none/\v=.ref p/\al=upd H p (.tup [x,y])/\(∀xs,cE K H a xs->xs[i]?=some x)/\∀ys,cE K H b ys->ys[i]?=some y,λi H=>∃xs ys,cE K H a xs/\cE K H b ys/\(xs.length<=i\/ys.length<=i)⟩
theorem abA{P:Uf}{w:WP}{K:F6}{jA:ZT}{k:Nat}{pos:Pos}{a b z e8 iz ef fP:TI}(D:ZipApart z e8 iz ef fP a b):oa P w K (.Tuple jA k pos) (IS K a b) [z,e8,iz,ef,fP] z (λi h=>IsZip h z e8 iz .none/\IsPair h e8 (.ref ef) (.ref fP)/\(∃x y,IsPair h iz x y)/\h.IsListIter ef a i/\h.IsListIter fP b i) where
 mem:=by simp
 obj:=λi h st c hc=>by
  obtain⟨az,a3,⟨x,y,bR⟩,⟨jV,gk,_,lL⟩,⟨wP,g2,_,tV⟩⟩:=st;simp only[SG,Tr,or_false]at hc;rcases hc with rfl|rfl|rfl|rfl|rfl
  ·exact⟨_,az,λv q=>by cases q⟩
  ·exact⟨_,a3,λv q=>by cases q⟩
  ·exact⟨_,bR,λv q=>by cases q⟩
  ·exact⟨jV,gk,λv q=>by rw[lL]at q;cases q⟩
  ·exact⟨wP,g2,λv q=>by rw[tV]at q;cases q⟩
 keep:=λi h h' st kp=>by
  obtain⟨az,a3,⟨x,y,bR⟩,gk,g2⟩:=st;exact⟨kp z (by simp) _ az,kp e8 (by simp) _ a3,⟨x,y,kp iz (by simp) _ bR⟩,gk.at λo q=>kp ef (by simp) o q,g2.at λo q=>kp fP (by simp) o q⟩
 item:=by
  intro X fE hw eG hc i pins s σ H E I bf st aD;subst fE hw eG;obtain⟨xs,ys,x,y,xK,xL,aq,aG⟩:=aD;obtain⟨az,a3,⟨ce,bZ,bR⟩,gk,g2⟩:=st;obtain⟨its,cq,p,_⟩:=I.list xK;obtain⟨gO,sR,b1,_⟩:=I.list xL;obtain⟨u,bo,iw⟩:=cq.get aq;obtain⟨dz,BD,abB⟩:=sR.get aG;refine wpAny_pyNext_zip_item D az a3 bR gk g2 p.isList b1.isList (x:=u) (y:=dz) (by simpa using bo) (by simpa using BD) λh1 aO bz et m4 nJ va kp=>⟨_,rfl,wpAny_letOwnedTupleGo_zip aO λh2 kO d5=>?_⟩
  have lt:∀c∈[z,e8,iz,ef,fP],c≠s.heap.objs.size:=λc j2 e=>by
   subst e;simp only[SG,Tr,or_false]at j2;obtain⟨jV,el,_⟩:=id gk;obtain⟨wP,nv,_⟩:=id g2;rcases j2 with e|e|e|e|e
   ·exact absurd (Heap.lt_size az) (by rw[<-e];exact Tx _)
   ·exact absurd (Heap.lt_size a3) (by rw[<-e];exact Tx _)
   ·exact absurd (Heap.lt_size bR) (by rw[<-e];exact Tx _)
   ·exact absurd (Heap.lt_size el) (by rw[<-e];exact Tx _)
   ·exact absurd (Heap.lt_size nv) (by rw[<-e];exact Tx _)
  have AK:Inv X pins σ (upd H s.heap.objs.size (.tup [x,y])) {s with heap:=s.heap.push {cls:=.type "tuple",data:=.seq #[u,dz]} }:=
   I.laid (t':=s.toks) (λ_ _ q=>Heap.get?_push_of_some _ q) (Sx _) ⟨gJ,[u,dz],.cons iw (.cons abB .nil),⟨_,Heap.get?_push_size _ rfl,rfl,_,rfl⟩⟩
  have hN:∀c∈[z,e8,iz,ef,fP],jG X pins (upd H s.heap.objs.size (.tup [x,y])) c:=λc j2=>⟨by rw[de (lt c j2)];exact(bf c j2).1,(bf c j2).2⟩
  have a2:=AK.turnedL (h':=h2) (t':=s.toks) (fs:=[z,e8,iz,ef,fP]) (λc o n q=>by
   simp only[SG,Tr,or_false,not_or]at n;obtain⟨bX,dn,jn,Co,Cp⟩:=n;rw[d5.2 c bX];by_cases e:c=s.heap.objs.size
   ·subst e;rw[Heap.get?_push_size _ rfl]at q;rw[<-q];exact nJ
   ·refine kp c o bX jn Co Cp ?_;rw[<-q]
    exact(Heap.get?_push_ne s.heap c _ e).symm) hN
  have hD:IsPair h2 e8 (.ref ef) (.ref fP):=(d5.2 e8 D.TIz).trans (kp e8 _ D.TIz D.TITO D.TIi1 D.TIi2 a3);refine⟨.ref s.heap.objs.size,_,a2,rfl,⟨s.heap.objs.size,x,y,I.fresh,rfl,rfl,λek hz=>by rw[I.list_inj hz xK];exact aq,λek hz=>by rw[I.list_inj hz xL];exact aG⟩,⟨kO,hD,⟨_,_,(d5.2 iz D.TOz).trans bz⟩,et.at λo q=>(d5.2 ef D.i1z).trans q,m4.at λo q=>(d5.2 fP D.i2z).trans q⟩,λc j2=>(hN c j2).1⟩
 done:=by
  intro X fE hw eG hc i pins s σ H E I bf st aD;subst fE hw eG;obtain⟨xs,ys,xK,xL,ao⟩:=aD;obtain⟨az,a3,⟨ce,bZ,bR⟩,gk,g2⟩:=st;obtain⟨its,cq,p,_⟩:=I.list xK;obtain⟨gO,sR,b1,_⟩:=I.list xL;have a6:=cq.length;have a7:=sR.length;refine wpAny_pyNext_zip_end (I.ok.hd hc) D az a3 bR gk g2 p.isList b1.isList (ao.imp (λq=>by simp;lia) (λq=>by simp;lia)) λh' kp=>⟨rfl,I.turnedL (t':=s.toks) (fs:=[z,e8,iz,ef,fP]) (λc o n q=>?_) bf⟩;simp only[SG,Tr,or_false,not_or]at n;obtain⟨bX,dn,jn,Co,Cp⟩:=n;exact kp c o bX jn Co Cp q
 self:=λ_ _ _ _ _ st h=>wpAny_pyIter_zip st.1 h
def abC(K:F6)(bO:eE):e8:=λσ H R=>bO σ H λvs ar=>∃a b,vs=[.ref a,.ref b]/\(∃xs,cE K ar a xs)/\(∃ys,cE K ar b ys)/\R (IS K a b) ar
theorem abD{X:aJ}{jA:ZT}{k:Nat}{iI:Pos}{ai ap:Wp}{bO:eE}{p pos:Pos}(aD:e2 X "zip")(av:X.mg "zip"=none)(aw:hl X [ai,ap] bO)(kO:TD [ai,ap] X.env=(false,XJ ai X.env)::TD [ap] X.env:=by rfl)(fj:(XC pos (TD [ap] X.env)).any (·.1)=false:=by rfl):jH X (.Tuple jA k iI) (.Call (.Name "zip" p) [ai,ap] [] pos) (abC X.K bO):=by
 intro pins s σ H R I h;refine XD (m2 (u:=.type "zip") I aD av (by decide +kernel) ?_);refine UB (cc (aw pos pins s σ H _ I h) λus az ⟨vs,ar,a2,r1,aO⟩=>?_) kO fj;obtain⟨a,b,rfl,⟨xs,g6⟩,⟨ys,eH⟩,q⟩:=aO;obtain⟨u,v,rfl,iw,cq⟩:=vals2 r1;cases iw;cases cq;obtain⟨its,_,cp,_⟩:=a2.list g6;obtain⟨gO,_,b1,_⟩:=a2.list eH;have p3:a<az.heap.objs.size:=by obtain⟨o,aB,_⟩:=cp.isList;exact Heap.lt_size aB
 have nT:b<az.heap.objs.size:=by obtain⟨o,aB,_⟩:=b1.isList;exact Heap.lt_size aB
 refine call_zip_2 cp.isList b1.isList λh1 b7 bW hT rJ rK agH bM=>wpAny_pyIter_zip b7 ?_;refine⟨az.heap.objs.size+4,[az.heap.objs.size+4,az.heap.objs.size+2,az.heap.objs.size+3,az.heap.objs.size,az.heap.objs.size+1],_,_,ar,rfl,a2.kept (t':=az.toks) bM,abA (OB p3 nT),⟨b7,bW,⟨_,_,hT⟩,rJ,rK⟩,λc hc=>?_,q⟩
 have le:az.heap.objs.size<=c:=by
  simp only[SG,Tr,or_false]at hc;rcases hc with rfl|rfl|rfl|rfl|rfl
  ·exact U4 _ _
  ·exact U4 _ _
  ·exact U4 _ _
  ·exact Sx _
  ·exact U4 _ _
 exact a2.fpOk le (a2.hok.fresh le)
end L2
namespace L3
open PySem L2
section
variable{X:aJ}{bD bY:a9}{p pos:Pos}
theorem IT{iI:Pos}{jA:ZT}{aL:Nat}{ai ap:Wp}(aw:bn X ai bD)(ab:bn X ap bY)(aD:e2 X "zip")(av:X.mg "zip"=none)(kO:TD [ai,ap] X.env=(false,XJ ai X.env)::TD [ap] X.env:=by rfl)(abE:TD [ap] X.env=(false,XJ ap X.env)::TD [] X.env:=by rfl)(fj:(XC pos (TD [ap] X.env)).any (·.1)=false:=by rfl):xj X (.Tuple jA aL iI) (.Call (.Name "zip" p) [ai,ap] [] pos) (OC bD bY):=by
 obtain⟨_,h1,r1⟩:=aw;obtain⟨_,h2,r2⟩:=ab;refine⟨_,abD aD av (fi h1 (fi h2 gN abE) kO) kO fj,λρ k h R W B H σ Q e q=>?_⟩;refine r1 ρ _ h R W B H σ _ e λd v bd ar z1 ai aI az=>?_;refine r2 ρ _ z1 R W bd ar σ _ ai λbF ev ca a5 aY ap aP a3=>?_;obtain⟨ds,es,rfl,rfl,z⟩:=aY;obtain⟨a,vs,rfl,g6,IU⟩:=(az.mono aP.s).lstV;obtain⟨b,fD,rfl,eH,IV⟩:=a3.lstV;refine⟨a,b,rfl,⟨vs,cE.of (ap.bh _ _ g6)⟩,⟨fD,cE.of (ap.bh _ _ eH)⟩,q _ _ ca a5 z ap (aI.trans aP) λal mM i=>?_⟩;have Cq:=cE.of (K:=X.K) (mM _ _ g6);have Cr:=cE.of (K:=X.K) (mM _ _ eH);have p3:=IU.length;have nT:=IV.length;rw[Sw,List.length_zip];refine⟨λau=>?_,λau=>⟨vs,fD,Cq,Cr,by lia⟩,λx cI au y=>?_⟩
 ·exact⟨vs,fD,vs[i],fD[i],Cq,Cr,S5 (by lia),S5 (by lia)⟩
 ·obtain⟨p2,bC,bx,ae,rfl,rfl,aq,aG⟩:=y;obtain⟨d,hd,fm⟩:=IU.getV (aq vs Cq);obtain⟨bF,hd2,zV⟩:=IV.getV (aG fD Cr);refine⟨p2,_,[d,bF],ae,rfl,rfl,?_,.cons fm (.cons zV .nil)⟩;rw[S4,List.getElem?_zip_eq_some (z:=(d,bF)) |>.mpr ⟨hd,hd2⟩];rfl
end
end L3
namespace Cut
open PySem L2 L3
open PySem.Builtin.Int (intBits)
noncomputable def gZ(g:aX)(p:BoxD):BoxD:=(g,bI (fc p.1 p.2.1 g p.2.2) (0,1),dj (fc p.1 p.2.1 g p.2.2) (0,1))
noncomputable def dy(g:aX)(bs:ZM):List BoxD:=(eY bs).map λp=>gZ g (f' p)
structure mU (g:aX) (b:BoxD):Prop where
 lw:aE b.1.1 b.1.2
 w0:0<b.1.1
 c1:wp b.1.1<=14
 c2:wp b.1.2<=14
 lh:aE b.2.1.1 b.2.1.2
 h0:0<b.2.1.1
 c3:wp b.2.1.1<=14
 c4:wp b.2.1.2<=14
 r1:af b.1<=3*af g
 r2:af g<=11*af b.1
 px:∀s∈b.2.2,jE 700 200 6 40 s
 bal:fZ (b.2.2.map λs=>s.1) [fo b.1 b.2.1]
theorem Cs{f:BoxD->Nat}{m:Nat}:∀{l:ZM},(∀x∈l,f x<=m)->(l.map f).sum<=m*l.length
 |[],_=>S8 _
 |x::l,h=>by
  rw[SD,SN,SK,Ud];have:=h x Sv;have:=Cs (l:=l) λy aG=>h y (Sy _ aG);lia
theorem mU.on{g:aX}{b:BoxD}(h:mU g b):dx b.2.2 0 (af b.1) 0 (af b.2.1):=⟨λs aj p ae=>((h.px s aj).rb.pts p ae).pt,fo b.1 b.2.1,h.bal,qh h.lw h.lh⟩
theorem mU.kp{g:aX}{b:BoxD}(h:mU g b):dX b.2.2:=λs aj=>⟨(h.px s aj).st.pt,λp ae=>((h.px s aj).rb.pts p ae).pt⟩
theorem IW{S:ZI}{w h:aX}(lw:aE w.1 w.2)(lh:aE h.1 h.2)(on:dx S 0 (af w) 0 (af h)):fZ (S.map λs=>s.1) [fo w h]:=by
 obtain⟨_,R,uC,xF⟩:=on;have e:=xF.eq (qh lw lh);rw[e]at uC;exact uC
theorem IX{W G:Rat}:∀{l:ZM},(∀b∈l,af b.1=W)->(l.map λb=>af b.1*af b.2.1/G).sum=W*(l.map λb=>af b.2.1).sum/G
 |[],_=>by show(0:Rat)=W*0/G;rw[Rat.mul_zero,Um,Ww]
 |b::l,h=>by
  rw[SD,SN,IX (l:=l) λx aq=>h x (Sy _ aq),h b Sv,SD,SN];grind
section
variable{g:aX}{bs:ZM}(ab:∀b∈bs,mU g b)(ao:bs.length<=6)(bi:(bs.map λb=>b.2.2.length).sum<=6)
include ab ao bi
theorem xM{p:gy}(ae:p∈eY bs):
  ((∀b∈p.2,aE b.2.1.1 b.2.1.2/\wp b.2.1.1<=350/\wp b.2.1.2<=350/\∀s∈b.2.2,rD s)/\(∀pre b rest,p.2=pre++b::rest->wp (bI pre (0,1)).1<=350/\wp (bI pre (0,1)).2<=350)/\(p.2.map λb=>b.2.2.length).sum<=400) /\
  (∃b∈bs,p.1=b.1)/\aE (bI p.2 (0,1)).1 (bI p.2 (0,1)).2/\0<(bI p.2 (0,1)).1/\wp (bI p.2 (0,1)).1<=1+15*p.2.length/\wp (bI p.2 (0,1)).2<=1+15*p.2.length/\cJ 794 295 6 134 6 (dj p.2 (0,1))/\fZ ((dj p.2 (0,1)).map λs=>s.1) [fo p.1 (bI p.2 (0,1))]/\p.2.length<=6:=by
 have d9:aE 0 1:=⟨by decide,by decide⟩;obtain⟨ne,hw⟩:=xG bs p ae;have mem:=xH ae;have cm:=Ck ae;have all:∀b∈p.2,mU g b:=λb h=>ab b (mem b h)
 have bits:∀l:ZM,(∀b∈l,b∈p.2)->wp (bI l (0,1)).1<=1+15*l.length/\wp (bI l (0,1)).2<=1+15*l.length:=λl qg=>by
  obtain⟨a,b⟩:=Cm (λ_=>14) (bs:=l) (H:=(0,1)) (p:=1) (by decide) (by decide) (by decide) λb h=>⟨(all b (qg b h)).lh.1,(all b (qg b h)).c3,(all b (qg b h)).c4⟩;have s:=Cs (f:=λ_=>14+1) (m:=15) (l:=l) λ_ _=>Sx _;exact⟨SA a (by lia),SA b (by lia)⟩
 have low:∀l:ZM,(∀b∈l,b∈p.2)->aE (bI l (0,1)).1 (bI l (0,1)).2:=λl qg=>uo d9 λb h=>(all b (qg b h)).lh.1
 have IY:∀pre b rest,p.2=pre++b::rest->wp (bI pre (0,1)).1<=91/\wp (bI pre (0,1)).2<=91/\aE (bI pre (0,1)).1 (bI pre (0,1)).2:=λpre b rest e=>by
  have sub:∀x∈pre,x∈p.2:=λx aq=>by rw[e];exact TO _ aq
  obtain⟨a,c⟩:=bits pre sub
  have:pre.length<=6:=by
   have:=TW S1 e;rw[SH]at this;lia
  exact⟨by lia,by lia,low pre sub⟩
 have cnt:(p.2.map λb=>b.2.2.length).sum<=6:=by
  have:=Cj bs λb=>b.2.2.length;have:=xJ (l:=(eY bs).map λp=>(p.2.map λb=>b.2.2.length).sum) (SJ.mpr ⟨p,ae,rfl⟩);lia
 have one:∀x∈p.2,cJ 700 200 6 40 6 x.2.2:=λx aq=>⟨(all x aq).px,by
  have:=xJ (l:=p.2.map λb=>b.2.2.length) (SJ.mpr ⟨x,aq,rfl⟩)
  lia⟩
 have sz:=xv (q:=93) (bs:=p.2) (H:=(0,1)) (λpre x rest e=>by
  obtain⟨a,c,l⟩:=IY pre x rest e
  exact je (a:=(0,1)) (p:=2) (q:=91) d9 l (by decide) (by decide) a c) one
 have l0:=low p.2 λ_ h=>h;obtain⟨abF,abG⟩:=bits p.2 λ_ h=>h
 obtain⟨b0,r,d0⟩:∃b0 r,p.2=b0::r:=by
  match p.2,ne with
  |b0::r,_=>exact⟨b0,r,rfl⟩
 have dS:b0∈p.2:=by rw[d0];exact Sv
 have w0:=hw b0 dS
 have on:dx (dj p.2 (0,1)) 0 (af p.1) (af (0,1)) (af (bI p.2 (0,1)))/\af (0,1)<af (bI p.2 (0,1)):=by
  rw[d0];refine xz d9 λx aq=>?_;rw[<-d0]at aq;have k:=all x aq;refine⟨?_,k.lh.1,dV k.h0 k.lh.1⟩;rw[<-hw x aq];exact k.on
 have z0:af (0,1)=0:=gW _;rw[z0]at on;refine⟨⟨λb h=>⟨(all b h).lh,SA (all b h).c3 (by decide),SA (all b h).c4 (by decide),λs aj=>((all b h).px s aj).gm (by decide) (by decide) (by decide)⟩,λpre b rest e=>?_,by lia⟩,⟨b0,mem b0 dS,w0.symm⟩,l0,ql on.2 l0.1,abF,abG,⟨(sz.mono (by decide) (by decide) (by decide) (by decide) (Sx _)).1,by rw[qj];exact cnt⟩,IW (by rw[<-w0];exact(all b0 dS).lw) l0 on.1,by lia⟩;obtain⟨a,c,_⟩:=IY pre b rest e;exact⟨by lia,by lia⟩
variable(aM:aE g.1 g.2)(aZ:0<g.1)(bE:wp g.1<=14)(bG:wp g.2<=14)
include aM aZ bE bG
theorem IZ{p:gy}(ae:p∈eY bs):aE p.1.1 p.1.2/\0<p.1.1/\wp p.1.1<=14/\wp p.1.2<=14/\p.1.1*g.2<=16*(g.1*p.1.2)/\g.1*p.1.2<=16*(p.1.1*g.2)/\af p.1<=((11:Nat):Rat)*af g/\af g<=((11:Nat):Rat)*af p.1:=by
 obtain⟨_,⟨b,fu,e⟩,_⟩:=xM ab ao bi ae;have k:=ab b fu;rw[e];have W:=dV k.w0 k.lw.1;have G:=dV aZ aM.1;have r1:=k.r1;have r2:=k.r2;have xu:((16:Nat):Rat)=16:=rfl;have v3:((11:Nat):Rat)=11:=rfl;exact⟨k.lw,k.w0,k.c1,k.c2,IE (M:=16) k.lw.1 aM.1 (by rw[xu];grind),IE (M:=16) aM.1 k.lw.1 (by rw[xu];grind),by rw[v3];grind,by rw[v3];exact r2⟩
theorem uE{p:gy}(ae:p∈eY bs):
  (gZ g (f' p)).2.1=er p.1 (bI p.2 (0,1)) g/\aE (gZ g (f' p)).2.1.1 (gZ g (f' p)).2.1.2/\0<(gZ g (f' p)).2.1.1/\wp (gZ g (f' p)).2.1.1<=29+15*p.2.length/\wp (gZ g (f' p)).2.1.2<=29+15*p.2.length/\af (gZ g (f' p)).2.1=af p.1*af (bI p.2 (0,1))/af g /\
  cJ 1476 981 12 816 288 (gZ g (f' p)).2.2/\dx (gZ g (f' p)).2.2 0 (af g) 0 (af (gZ g (f' p)).2.1)/\(∀φ c,c7 φ c (gZ g (f' p)).2.2=c7 φ c (dj p.2 (0,1)))/\(gZ g (f' p)).2.2.length<=33*(p.2.map λb=>b.2.2.length).sum:=by
 obtain⟨_,_,l0,uF,bc,bg,sz,bal,I0⟩:=xM ab ao bi ae;obtain⟨lw,w0,c1,c2,r1,r2,aO,bz⟩:=IZ ab ao bi aM aZ bE bG ae;have m:∀{z:Int},wp z<=14->wp z<=30:=λh=>aR h;obtain⟨ii,az,bl,uG⟩:=abl lw w0 l0 uF aM aZ (m c1) (m c2) (by lia) (by lia) (m bE) (m bG) r1 r2 sz (by decide) (by decide) bal;have len:=abk lw w0 aM aZ (h:=bI p.2 (0,1)) (sh:=dj p.2 (0,1)) (M:=11) (N:=(dj p.2 (0,1)).length) (by decide) (by decide) aO bz r1 r2 (Sx _);obtain⟨b4,bw,bF,qv⟩:=uv lw w0 l0 uF aM aZ c1 c2 bc bg bE bG;have f9:=xt lw w0 l0 uF aM aZ rfl;have e:(gZ g (f' p)).2.1=er p.1 (bI p.2 (0,1)) g:=ii;rw[e];have kp:e5 (dj (fc p.1 (bI p.2 (0,1)) g (dj p.2 (0,1))) (0,1)):=λs aj q ay=>((az.1 s aj).rb.pts q ay).pt;refine⟨rfl,b4,f9,by lia,by lia,qv,az.md5,⟨kp,_,bl,qh aM b4⟩,uG,?_⟩;have:(gZ g (f' p)).2.2.length<=3*((dj p.2 (0,1)).length*11):=len;rw[qj]at this;lia
omit aM aZ bE bG in
theorem abH:((eY bs).map λp=>p.2.length).sum<=6:=by
 have h:=(qu bs).length_eq;rw[Xn,SQ]at h;have e:(S1∘TH:gy->Nat)=λp=>p.2.length:=rfl;rw[e]at h;lia
omit ab ao bi aM aZ bE bG in
theorem Ct{α:Type}{f h:α->Nat}:∀{l:List α},(∀x∈l,f x<=h x)->(l.map f).sum<=(l.map h).sum
 |[],_=>Sx _
 |x::l,z=>by
  rw[SD,SN,SD,SN];have:=z x Sv;have:=Ct (l:=l) λy aG=>z y (Sy _ aG);lia
omit ab ao bi aM aZ bE bG in
theorem Cu{α:Type}{f:α->Nat}{a c:Nat}:∀{l:List α},(l.map λx=>a+c*f x).sum=a*l.length+c*(l.map f).sum
 |[]=>rfl
 |x::l=>by
  rw[SD,SN,Cu (l:=l),SD,SN,SK,Ud,Ud];lia
theorem I1 :
  (∀x∈dy g bs,aE x.2.1.1 x.2.1.2/\0<x.2.1.1/\wp x.2.1.1<=119/\wp x.2.1.2<=119/\cJ 1476 981 12 816 288 x.2.2/\dx x.2.2 0 (af g) 0 (af x.2.1)) /\
  (∀pre,(∃b rest,dy g bs=pre++b::rest)\/pre=dy g bs->aE (bI pre (0,1)).1 (bI pre (0,1)).2/\wp (bI pre (0,1)).1<=271/\wp (bI pre (0,1)).2<=271) /\
  ((dy g bs).map λb=>b.2.2.length).sum<=198:=by
 have each:∀x∈dy g bs,aE x.2.1.1 x.2.1.2/\0<x.2.1.1/\wp x.2.1.1<=119/\wp x.2.1.2<=119/\cJ 1476 981 12 816 288 x.2.2/\dx x.2.2 0 (af g) 0 (af x.2.1):=λx aq=>by
  obtain⟨p,ae,rfl⟩:=SJ.mp aq;obtain⟨_,b4,f9,bw,bF,_,az,on,_,_⟩:=uE ab ao bi aM aZ bE bG ae;have I0:=Ck ae;exact⟨b4,f9,by lia,by lia,az,on⟩
 refine⟨each,λpre lp=>?_,?_⟩
 ·have sub:∃rest,dy g bs=pre++rest:=by
   rcases lp with⟨b,rest,e⟩|e
   ·exact⟨_,e⟩
   ·exact⟨[],by rw[e,SO]⟩
  obtain⟨rest,e⟩:=sub;have mem:∀x∈pre,x∈dy g bs:=λx aq=>by rw[e];exact TO _ aq
  obtain⟨a,c⟩:=Cm (λx=>max (wp x.2.1.1) (wp x.2.1.2)) (bs:=pre) (H:=(0,1)) (p:=1) (by decide) (by decide) (by decide) λb h=>⟨(each b (mem b h)).1.1,VG _ _,VH _ _⟩
  have ew:(pre.map λx:BoxD=>max (wp x.2.1.1) (wp x.2.1.2)+1).sum<=((dy g bs).map λx:BoxD=>max (wp x.2.1.1) (wp x.2.1.2)+1).sum:=by
   rw[e,SI,Ue];lia
  have cP:((dy g bs).map λx:BoxD=>max (wp x.2.1.1) (wp x.2.1.2)+1).sum<=((eY bs).map λp=>30+15*p.2.length).sum:=by
   unfold dy;rw[SQ];refine Ct λp ae=>?_;obtain⟨_,_,_,bw,bF,_⟩:=uE ab ao bi aM aZ bE bG ae;show max (wp (gZ g (f' p)).2.1.1) (wp (gZ g (f' p)).2.1.2)+1<=30+15*p.2.length
   lia
  rw[Cu (f:=λp:gy=>p.2.length)]at cP;have a6:=abH ab ao bi;have a7:=xI bs;exact⟨uo ⟨by decide,by decide⟩ λb h=>(each b (mem b h)).1.1,by lia,by lia⟩
 ·have:((dy g bs).map λb:BoxD=>b.2.2.length).sum<=((eY bs).map λp=>0+33*(p.2.map λb=>b.2.2.length).sum).sum:=by
   unfold dy;rw[SQ];refine Ct λp ae=>?_;obtain⟨_,_,_,_,_,_,_,_,_,d⟩:=uE ab ao bi aM aZ bE bG ae;show(gZ g (f' p)).2.2.length<=_
   lia
  rw[Cu (f:=λp:gy=>(p.2.map λb=>b.2.2.length).sum),Cj]at this;lia
theorem abI(ne:bs≠[]):
  aE (bI (dy g bs) (0,1)).1 (bI (dy g bs) (0,1)).2/\0<(bI (dy g bs) (0,1)).1/\wp (bI (dy g bs) (0,1)).1<=271/\wp (bI (dy g bs) (0,1)).2<=271/\af (bI (dy g bs) (0,1))=(bs.map λb=>af b.1*af b.2.1/af g).sum /\
  cJ 1750 1256 12 1090 198 (dj (dy g bs) (0,1))/\fZ ((dj (dy g bs) (0,1)).map λs=>s.1) [fo g (bI (dy g bs) (0,1))]/\∀φ c,c7 φ c (dj (dy g bs) (0,1))=f0 φ c (bs.map λb=>b.2.2):=by
 obtain⟨each,pre,cnt⟩:=I1 ab ao bi aM aZ bE bG;obtain⟨b4,bw,bF⟩:=pre _ (.inr rfl);have d9:aE 0 1:=⟨by decide,by decide⟩;have z0:af (0,1)=0:=gW _
 have sz:=xv (q:=273) (bs:=dy g bs) (H:=(0,1)) (λCv x rest e=>by
  obtain⟨l,a,c⟩:=pre Cv (.inl ⟨x,rest,e⟩)
  exact je (a:=(0,1)) (p:=2) (q:=271) d9 l (by decide) (by decide) a c) λx aq=>(each x aq).2.2.2.2.1
 have xN:dy g bs≠[]:=λz=>by
  have o2:eY bs=[]:=Xo.mp z;have:=(qu bs).length_eq;rw[o2]at this;exact ne (Xp.mp this.symm)
 obtain⟨b0,r,d0⟩:∃b0 r,dy g bs=b0::r:=by
  match dy g bs,xN with
  |b0::r,_=>exact⟨b0,r,rfl⟩
 have on:dx (dj (dy g bs) (0,1)) 0 (af g) (af (0,1)) (af (bI (dy g bs) (0,1)))/\af (0,1)<af (bI (dy g bs) (0,1)):=by
  rw[d0]at each⊢;exact xz d9 λx aq=>⟨(each x aq).2.2.2.2.2,(each x aq).1.1,dV (each x aq).2.1 (each x aq).1.1⟩
 rw[z0]at on;refine⟨b4,ql on.2 b4.1,bw,bF,?_,⟨(sz.mono (by decide) (by decide) (by decide) (by decide) (Sx _)).1,by rw[qj];exact cnt⟩,IW aM b4 on.1,λφ c=>?_⟩
 ·rw[Cn (by decide) λb nR=>(each b nR).1.1,z0,<-IQ bs]
  have:((dy g bs).map λb:BoxD=>af b.2.1)=(eY bs).map λp=>(p.2.map λb=>af b.1*af b.2.1/af g).sum:=by
   unfold dy;rw[SQ];refine TM λp ae=>?_;obtain⟨_,_,_,_,_,qv,_⟩:=uE ab ao bi aM aZ bE bG ae;obtain⟨_,hw⟩:=xG bs p ae;show af (gZ g (f' p)).2.1=_
   rw[qv,IX (W:=af p.1) λb nR=>by rw[hw b nR],Cn (by decide) λb nR=>(ab b (xH ae b nR)).lh.1,z0];grind
  rw[this];grind
 ·obtain⟨bM,_⟩:=uB φ c (bs:=dy g bs) (H:=(0,1)) (by decide) λx aq=>⟨λs aj=>⟨((each x aq).2.2.2.2.1.1 s aj).st.pt,λq ay=>(((each x aq).2.2.2.2.1.1 s aj).rb.pts q ay).pt⟩,(each x aq).1.1⟩;rw[bM];unfold f0;rw[SQ,SQ];have:=IQ bs λb=>c7 φ c b.2.2;refine Eq.trans ?_ this;congr 1;unfold dy;rw[SQ];refine TM λp ae=>?_;obtain⟨_,_,_,_,_,_,_,_,uG,_⟩:=uE ab ao bi aM aZ bE bG ae;obtain⟨cy,_⟩:=uB φ c (bs:=p.2) (H:=(0,1)) (by decide) λx aq=>⟨(ab x (xH ae x aq)).kp,(ab x (xH ae x aq)).lh.1⟩;show c7 φ c (gZ g (f' p)).2.2=_
  rw[uG φ c,cy];unfold f0;rw[SQ];rfl
end
def bu(s:aX)(p:Int):aX:=cg (s.1*p) (s.2*7)
def iS(a b:aX):aX:=cg (a.1*b.2-b.1*a.2) (a.2*b.2)
theorem g0{s:aX}(l:aE s.1 s.2)(p:Int):aE (bu s p).1 (bu s p).2/\af (bu s p)=af s*(p:Rat)/7:=by
 have q:0<s.2*7:=by have:=l.1;lia
 refine⟨(gG (Sz q)).1,?_⟩;show af (cg (s.1*p) (s.2*7))=_
 rw[mO q];have x:=di l.1;unfold af;push_cast;grind
def l4(a:Int):Prop:=0<=a/\a<=7
theorem mV{s:aX}(l:aE s.1 s.2)(c1:wp s.1<=10)(c2:wp s.2<=10){p:Int}(jD:l4 p):wp (bu s p).1<=13/\wp (bu s p).2<=13:=by
 obtain⟨p2,cp⟩:=jD;have q:0<s.2*7:=by have:=l.1;lia
 obtain⟨_,_,bc,bg⟩:=gG (t:=s.1*p) (b:=s.2*7) (Sz q);have bp:wp p<=3:=intBits_le_iff.mpr (by show p.natAbs<8;lia);exact⟨dO bc (TE c1 bp),dO bg (TE c2 (show wp 7<=3 by decide))⟩
theorem abJ{s:aX}(l:aE s.1 s.2):bu s 0=(0,1):=o9 (g0 l 0).1 ⟨by decide,by decide⟩ (by
 rw[(g0 l 0).2,show af (0,1)=0 from gW _];have:((0:Int):Rat)=0:=rfl
 rw[this];grind)
theorem abK{s:aX}(l:aE s.1 s.2):bu s 7=s:=o9 (g0 l 7).1 l (by
 rw[(g0 l 7).2];have:((7:Int):Rat)=7:=rfl
 rw[this];grind)
theorem qw{s:aX}(l:aE s.1 s.2)(p q:Int):iS (bu s q) (bu s p)=bu s (q-p):=by
 obtain⟨a6,ai⟩:=g0 l p;obtain⟨a7,ap⟩:=g0 l q;obtain⟨df,br⟩:=g0 l (q-p);have m:=SE a7.1 a6.1;refine o9 (gG (Sz m)).1 df ?_;rw[br];show af (cg ((bu s q).1*(bu s p).2-(bu s p).1*(bu s q).2) ((bu s q).2*(bu s p).2))=_
 rw[mO m];have x:=di a6.1;have y:=di a7.1
 have z:(((bu s q).1*(bu s p).2-(bu s p).1*(bu s q).2:Int):Rat)/(((bu s q).2*(bu s p).2:Int):Rat)=af (bu s q)-af (bu s p):=by
  unfold af;push_cast;grind
 rw[z,ai,ap];push_cast;grind
def fK:Int->ZG->Int->Prop
 |a,[],z=>a=z
 |a,p::l,z=>a<p/\fK p l z
theorem fK.le:∀{l:ZG}{a z:Int},fK a l z->a<=z/\∀p∈l,a<p/\p<=z
 |[],a,z,h=>⟨Int.le_of_eq h,λp ae=>absurd ae Tr⟩
 |q::l,a,z,h=>by
  obtain⟨h1,h2⟩:=fK.le h.2;have:=h.1;refine⟨by lia,λp ae=>?_⟩;rcases SG.mp ae with rfl|ae
  ·exact⟨h.1,h1⟩
  ·obtain⟨b7,bW⟩:=h2 p ae;exact⟨by lia,bW⟩
def ga(a:Int)(l:ZG):List (Int×Int):=(a::l).zip l
theorem rT(a p:Int)(l:ZG):ga a (p::l)=(a,p)::ga p l:=rfl
theorem I2:∀{l:ZG}{a z:Int},fK a l z->∀q∈ga a l,a<=q.1/\q.1<q.2/\q.2<=z
 |[],a,z,_,q,ay=>absurd ay (by simp[ga])
 |p::l,a,z,h,q,ay=>by
  rw[rT]at ay;rcases SG.mp ay with rfl|ay
  ·exact⟨Int.le_refl _,h.1,(fK.le h.2).1⟩
  ·obtain⟨b7,bW⟩:=I2 h.2 q ay;have:=h.1;exact⟨by lia,bW⟩
theorem xO{l:ZG}(h:fK 0 l 7){q:Int×Int}(ay:q∈ga 0 l):l4 q.1/\l4 q.2/\l4 (q.2-q.1)/\1<=q.2-q.1:=by
 obtain⟨a,b,c⟩:=I2 h q ay;unfold l4;lia
theorem I3{ps qs:ZG}(ge:fK 0 ps 7)(nW:fK 0 qs 7):0<ps.length*qs.length:=by
 match ps,qs,ge,nW with
 |[],_,ge,_=>exact absurd (show(0:Int)=7 from ge) (by decide)
 |_::_,[],_,nW=>exact absurd (show(0:Int)=7 from nW) (by decide)
 |a::l,b::r,_,_=>exact Nat.mul_pos (Vu _) (Vu _)
theorem uH(a:Int)(l:ZG):(ga a l).length=l.length:=by unfold ga;rw[List.length_zip,SK];lia
def uI(x y:aX):aa:=cC (-x.1*y.2) (-y.1*x.2) (x.2*y.2)
def hh(w h:aX)(p q:Int×Int):BoxD:=(iS (bu w p.2) (bu w p.1),iS (bu h q.2) (bu h q.1),[(fo (iS (bu w p.2) (bu w p.1)) (iS (bu h q.2) (bu h q.1)),false,uI (bu w p.1) (bu h q.1))])
def hy(w h:aX)(ps qs:ZG):List BoxD:=((ga 0 ps).map λp=>(ga 0 qs).map λq=>hh w h p q).flatten
theorem Cw{x y:aX}(sQ:0<x.2)(zT:0<y.2):cb (uI x y) (-af x) (-af y):=by
 have e:=p9 (a :=-x.1*y.2) (b :=-y.1*x.2) (SE sQ zT);have a:=di sQ;have b:=di zT;have ai:((-x.1*y.2:Int):Rat)/((x.2*y.2:Int):Rat) = -af x:=by unfold af;push_cast;grind
 have ap:((-y.1*x.2:Int):Rat)/((x.2*y.2:Int):Rat) = -af y:=by unfold af;push_cast;grind
 rw[ai,ap]at e;exact e
theorem Cx{p:aa}{x y:Rat}(h:cb p x y):cb (trn p) (-x) (-y):=by
 obtain⟨a,b,c⟩:=h;refine⟨a.trn,?_,?_⟩
 ·rw[<-b];unfold hO trn;push_cast;grind
 ·rw[<-c];unfold hP trn;push_cast;grind
section
variable{w h:aX}(lw:aE w.1 w.2)(lh:aE h.1 h.2)
include lw lh
theorem abL(p q:Int×Int):eo (fG (fo (iS (bu w p.2) (bu w p.1)) (iS (bu h q.2) (bu h q.1)),false,uI (bu w p.1) (bu h q.1))) (af w*(p.1:Rat)/7) (af w*(p.2:Rat)/7) (af h*(q.1:Rat)/7) (af h*(q.2:Rat)/7):=by
 rw[qw lw,qw lh];obtain⟨a6,ai⟩:=g0 lw p.1;obtain⟨a7,ap⟩:=g0 lh q.1;obtain⟨df,br⟩:=g0 lw (p.2-p.1);obtain⟨jC,cW⟩:=g0 lh (q.2-q.1);have r:=(qh df jC).slid (Cx (Cw a6.1 a7.1));refine eo.to (R:=(fo (bu w (p.2-p.1)) (bu h (q.2-q.1))).map λx=>nP (sld (trn (uI (bu w p.1) (bu h q.1))) x)) r ?_ ?_ ?_ ?_
 ·rw[ai];grind
 ·rw[ai,br];push_cast;grind
 ·rw[ap];grind
 ·rw[ap,cW];push_cast;grind
theorem I4(φ:ZX->Int){p q:Int×Int}{R:ZH}(r:eo R (af w*(p.1:Rat)/7) (af w*(p.2:Rat)/7) (af h*(q.1:Rat)/7) (af h*(q.2:Rat)/7)):c7 φ false (hh w h p q).2.2=dC φ R:=by
 rw[hh,o1];dsimp only;rw[SL (show(false==false)=true from rfl),(abL lw lh p q).eq r]
variable(w0:0<w.1)(h0:0<h.1)
include w0 h0
theorem xP{r:aX}(l:aE r.1 r.2)(ha:0<r.1){a b:Int}(xf:a<b):af r*(a:Rat)/7<af r*(b:Rat)/7:=by
 have R:=dV ha l.1;have z:(a:Rat)<(b:Rat):=by exact_mod_cast xf
 have:=Xk z R;grind
theorem I5(φ:ZX->Int){p:Int×Int}:∀{l:ZG}{a c z:Int},fK c l z->a<c->∀{R:ZH},eo R (af w*(p.1:Rat)/7) (af w*(p.2:Rat)/7) (af h*(a:Rat)/7) (af h*(z:Rat)/7)->f0 φ false (((ga a (c::l)).map λq=>hh w h p q).map λb=>b.2.2)=dC φ R
 |[],a,c,z,e,ac,R,r=>by
  rw[<-show c=z from e]at r;rw[rT];show f0 φ false [(hh w h p (a,c)).2.2]=_
  rw[rS];exact I4 lw lh φ r
 |d::l,a,c,z,e,ac,R,r=>by
  rw[rT,SD,SD,nV];obtain⟨k9,r1⟩:=qo (af w*(p.1:Rat)/7) (af w*(p.2:Rat)/7) (af h*(a:Rat)/7) (af h*(c:Rat)/7);obtain⟨fh,r2⟩:=qo (af w*(p.1:Rat)/7) (af w*(p.2:Rat)/7) (af h*(c:Rat)/7) (af h*(z:Rat)/7);rw[I4 lw lh φ (q:=(a,c)) r1,I5 φ e.2 e.1 r2];have le:=(fK.le e.2).1;exact Ik r1 r2 r (xP lw lh w0 h0 lh h0 ac) (xP lw lh w0 h0 lh h0 (by have:=e.1;lia)) φ
theorem abM(φ:ZX->Int){qs:ZG}(ay:fK 0 qs 7):∀{l:ZG}{a c z:Int},fK c l z->a<c->∀{R:ZH},eo R (af w*(a:Rat)/7) (af w*(z:Rat)/7) 0 (af h)->f0 φ false ((((ga a (c::l)).map λp=>(ga 0 qs).map λq=>hh w h p q).flatten).map λb=>b.2.2)=dC φ R:=by
 have eT:af h*((0:Int):Rat)/7=0:=by
  have:((0:Int):Rat)=0:=rfl;rw[this];grind
 have j4:af h*((7:Int):Rat)/7=af h:=by
  have:((7:Int):Rat)=7:=rfl;rw[this];grind
 have one:∀(p:Int×Int){R:ZH},eo R (af w*(p.1:Rat)/7) (af w*(p.2:Rat)/7) 0 (af h)->f0 φ false (((ga 0 qs).map λq=>hh w h p q).map λb=>b.2.2)=dC φ R:=λp R r=>by
  match qs,ay with
  |[],ay=>exact absurd (show(0:Int)=7 from ay) (by decide)
  |q::qs,ay=>exact I5 lw lh w0 h0 φ ay.2 ay.1 (r.to rfl rfl eT.symm j4.symm)
 intro l;induction l with
 |nil=>
  intro a c z e ac R r;rw[<-show c=z from e]at r;rw[rT,SD,TG,SI,rR,one (a,c) r];show _+(0:Rat)=_
  grind
 |cons d l bN=>
  intro a c z e ac R r;rw[rT,SD,TG,SI,rR];obtain⟨k9,r1⟩:=qo (af w*(a:Rat)/7) (af w*(c:Rat)/7) 0 (af h);obtain⟨fh,r2⟩:=qo (af w*(c:Rat)/7) (af w*(z:Rat)/7) 0 (af h);rw[one (a,c) r1,bN e.2 e.1 r2];have le:=(fK.le e.2).1;exact Ij r1 r2 r (xP lw lh w0 h0 lw w0 ac) (xP lw lh w0 h0 lw w0 (by have:=e.1;lia)) φ
theorem abN{ps qs:ZG}(ae:fK 0 ps 7)(ay:fK 0 qs 7)(φ:ZX->Int)(c:Bool):f0 φ c ((hy w h ps qs).map λb=>b.2.2)=c7 φ c [(fo w h,false,(0,0,1))]:=by
 cases c with
 |true=>
  have z:∀b∈hy w h ps qs,c7 φ true b.2.2=0:=λb ab=>by
   obtain⟨l,ao,ab⟩:=VI.mp ab;obtain⟨p,_,rfl⟩:=SJ.mp ao;obtain⟨q,_,rfl⟩:=SJ.mp ab;rw[hh,o1];rfl
  rw[o1];generalize hy w h ps qs=L at z;induction L with
  |nil=>rfl
  |cons b L bN=>
   rw[SD,nV,z b Sv,bN λx aq=>z x (Sy _ aq)];dsimp only;rw[SZ (by decide)];grind
 |false=>
  rw[o1];dsimp only;rw[SL (show(false==false)=true from rfl)]
  have r:eo (fG (fo w h,false,(0,0,1))) 0 (af w) 0 (af h):=by
   have:=(qh lw lh).slid (Cx G8);exact eo.to (R:=(fo w h).map λx=>nP (sld (trn (0,0,1)) x)) this (by grind) (by grind) (by grind) (by grind)
  have eT:af w*((0:Int):Rat)/7=0:=by
   have:((0:Int):Rat)=0:=rfl;rw[this];grind
  have j4:af w*((7:Int):Rat)/7=af w:=by
   have:((7:Int):Rat)=7:=rfl;rw[this];grind
  match ps,ae with
  |[],ae=>exact absurd (show(0:Int)=7 from ae) (by decide)
  |p::ps,ae=>exact abM lw lh w0 h0 φ ay ae.2 ae.1 (r.to eT.symm j4.symm rfl rfl)
theorem abO{ps qs:ZG}(ae:fK 0 ps 7)(ay:fK 0 qs 7)(G:Rat):((hy w h ps qs).map λb=>af b.1*af b.2.1/G).sum=af w*af h/G:=by
 have I6:∀(r:aX),aE r.1 r.2->∀{l:ZG}{a z:Int}(K:Rat),fK a l z->((ga a l).map λp=>af (iS (bu r p.2) (bu r p.1))*K).sum=af r*((z:Rat)-a)/7*K:=by
  intro r Cy l;induction l with
  |nil=>
   intro a z K e;rw[show a=z from e];show(0:Rat)=_
   grind
  |cons p l bN=>
   intro a z K e;rw[rT,SD,SN,bN K e.2,qw Cy,(g0 Cy _).2];push_cast;grind
 have kE:((7:Int):Rat)=7:=rfl;have d0:((0:Int):Rat)=0:=rfl
 have abP:∀p:Int×Int,(((ga 0 qs).map λq=>hh w h p q).map λb=>af b.1*af b.2.1/G).sum=af (iS (bu w p.2) (bu w p.1))*(af h/G):=λp=>by
  rw[SQ];have:=I6 h lh (af (iS (bu w p.2) (bu w p.1))/G) ay;rw[kE,d0]at this
  have f:((λb:BoxD=>af b.1*af b.2.1/G)∘λq=>hh w h p q)=λq:Int×Int=>af (iS (bu h q.2) (bu h q.1))*(af (iS (bu w p.2) (bu w p.1))/G):=by
   funext q;show af (iS (bu w p.2) (bu w p.1))*af (iS (bu h q.2) (bu h q.1))/G=_
   grind
  rw[f,this];grind
 have out:∀l:List (Int×Int),(((l.map λp=>(ga 0 qs).map λq=>hh w h p q).flatten).map λb=>af b.1*af b.2.1/G).sum=(l.map λp=>af (iS (bu w p.2) (bu w p.1))*(af h/G)).sum:=by
  intro l;induction l with
  |nil=>rfl
  |cons p l bN=>rw[SD,TG,SI,Ue,abP,bN,SD,SN]
 unfold hy;rw[out,I6 w lw (af h/G) ae,kE,d0];grind
omit w0 h0 in
theorem I7{ps qs:ZG}:(hy w h ps qs).length=ps.length*qs.length:=by
 have out:∀l:List (Int×Int),((l.map λp=>(ga 0 qs).map λq=>hh w h p q).flatten).length=l.length*qs.length:=by
  intro l;induction l with
  |nil=>simp
  |cons p l bN=>rw[SD,TG,SH,bN,Sw,uH,SK,Wn];lia
 unfold hy;rw[out,uH]
variable{g:aX}(c1:wp w.1<=10)(c2:wp w.2<=10)(c3:wp h.1<=10)(c4:wp h.2<=10)(r1:af w<=3*af g)(r2:9*af g<=14*af w)
include c1 c2 c3 c4 r1 r2
theorem abQ{p q:Int×Int}(jD:l4 p.1/\l4 p.2/\l4 (p.2-p.1)/\1<=p.2-p.1)(hY:l4 q.1/\l4 q.2/\l4 (q.2-q.1)/\1<=q.2-q.1):mU g (hh w h p q):=by
 obtain⟨df,br⟩:=g0 lw (p.2-p.1);obtain⟨jC,cW⟩:=g0 lh (q.2-q.1);obtain⟨a6,ai⟩:=g0 lw p.1;obtain⟨a7,ap⟩:=g0 lh q.1;obtain⟨dP,pd⟩:=mV lw c1 c2 jD.2.2.1;obtain⟨fa,uJ⟩:=mV lh c3 c4 hY.2.2.1;obtain⟨bc,qx⟩:=mV lw c1 c2 jD.1;obtain⟨bg,xQ⟩:=mV lh c3 c4 hY.1;have W:=dV w0 lw.1;have H:=dV h0 lh.1;have bC:(1:Rat)<=((p.2-p.1:Int):Rat):=by exact_mod_cast jD.2.2.2
 have e4:((p.2-p.1:Int):Rat)<=7:=by exact_mod_cast jD.2.2.1.2
 have bx:(1:Rat)<=((q.2-q.1:Int):Rat):=by exact_mod_cast hY.2.2.2
 have bm:=Uz bC (Te W);have bJ:=Uz e4 (Te W);have j7:=Uz bx (Te H);have abR:0<af (bu w (p.2-p.1)):=by rw[br];grind
 have abS:0<af (bu h (q.2-q.1)):=by rw[cW];grind
 have I8:=ql abR df.1;have I9:=ql abS jC.1;have m:∀{z:Int},wp z<=13->wp z<=14:=λh=>aR h
 have st:eA 40 (uI (bu w p.1) (bu h q.1)):=by
  have:=Cx (Cw a6.1 a7.1);have sp:=i7 (a :=-(bu w p.1).1*(bu h q.1).2) (b :=-(bu h q.1).1*(bu w p.1).2) (n:=(bu w p.1).2*(bu h q.1).2) (Sz (SE a6.1 a7.1));have ng:∀{z:Int},wp z<=13->wp (-z)<=13:=λ{z} h=>dO (t:=z) (by lia) h;have k:∀{a b x:Int},wp a<=13->wp b<=13->x.natAbs<=(a*b).natAbs->wp x<=40:=λaw ab aq=>SA (dO aq (TE aw ab)) (by decide);exact⟨(Cw a6.1 a7.1).1,k (ng bc) xQ sp.2.2.2.1,k (ng bg) qx sp.2.2.2.2.1,k qx xQ sp.2.2.2.2.2⟩
 have jc:jx (bu w (p.2-p.1)) (bu h (q.2-q.1)):=⟨df,jC,I8,I9⟩
 have dG:∀x∈fo (bu w (p.2-p.1)) (bu h (q.2-q.1)),eA 26 x:=λx aq=>by
  have z:wp 0<=26:=by decide
  have m:∀{z:Int},wp z<=13->wp z<=26:=λh=>aR h;unfold fo at aq;simp only[SG,Tr,or_false]at aq;rcases aq with rfl|rfl|rfl|rfl
  ·exact⟨⟨by decide,by decide⟩,⟨by decide,by decide,by decide⟩⟩
  ·exact⟨(w' df).1,⟨m dP,z,m pd⟩⟩
  ·exact(je df jC dP pd fa uJ).mono (by decide)
  ·exact⟨(xa jC).1,⟨z,m fa,m uJ⟩⟩
 have abT:eA 20 ((0,0,1):aa):=⟨⟨by decide,by decide⟩,⟨by decide,by decide,by decide⟩⟩;have abU:Cg 26 4 (fo (bu w (p.2-p.1)) (bu h (q.2-q.1)),false,(0,0,1)):=⟨dG,jc.cvx,by show 4<=4;decide,abT⟩;have px:=(abU.px (b:=700) (by decide));unfold hh;rw[qw lw,qw lh];refine⟨df,I8,m dP,m pd,jC,I9,m fa,m uJ,?_,?_,λs aj=>?_,fZ.refl _⟩
 ·show af (bu w (p.2-p.1))<=_;rw[br];grind
 ·show _<=11*af (bu w (p.2-p.1));rw[br];grind
 ·rw[SM.mp aj];have Cz:=px.mono (b':=700) (m':=200) (n':=6) (t':=40) (Sx _) (by decide) (by decide) (by decide);exact⟨Cz.cv,Cz.rb,Cz.ln,st⟩
theorem abV{ps qs:ZG}(ae:fK 0 ps 7)(ay:fK 0 qs 7):∀b∈hy w h ps qs,mU g b:=λb ab=>by
 obtain⟨l,ao,ab⟩:=VI.mp ab;obtain⟨p,mp,rfl⟩:=SJ.mp ao;obtain⟨q,tY,rfl⟩:=SJ.mp ab;exact abQ lw lh w0 h0 c1 c2 c3 c4 r1 r2 (xO ae mp) (xO ay tY)
end
theorem abW{w h:aX}(b:jx w h)(bc:wp w.1<=280)(bg:wp w.2<=280)(dP:wp h.1<=280)(fa:wp h.2<=280):nG (fo w h):=Ro b.cvx (λp ae=>by
 have z:wp 0<=4000:=by decide
 have m:∀{z:Int},wp z<=280->wp z<=4000:=λh=>aR h;unfold fo at ae;simp only[SG,Tr,or_false]at ae;rcases ae with rfl|rfl|rfl|rfl
 ·exact⟨⟨by decide,by decide⟩,⟨by decide,by decide,by decide⟩⟩
 ·exact⟨(w' b.lw).1,⟨m bc,z,m bg⟩⟩
 ·exact(je b.lw b.lh bc bg dP fa).mono (by decide)
 ·exact⟨(xa b.lh).1,⟨z,m dP,m fa⟩⟩) (by show 4<=75;decide)
theorem I':∀{ns cs:ZG},ns.Pairwise (· < ·)->(∀x∈ns,x∈cs)->ns.length<=cs.length
 |[],_,_,_=>S8 _
 |x::l,cs,ib,sub=>by
  obtain⟨h1,h2⟩:=Wr.mp ib;have cw:=sub x Sv
  have bN:=I' (ns:=l) (cs:=cs.erase x) h2 λy aG=>by
   have lt:=h1 y aG;exact(W7 (by lia)).mpr (sub y (Sy _ aG))
  rw[W8 cw]at bN;have:=V' cw;rw[SK];lia
theorem Ja:∀{ns:ZG}{a:Int},(∀x∈ns,a<x/\x<7)->ns.Pairwise (· < ·)->a<7->fK a (ns++[7]) 7
 |[],a,_,_,h=>⟨h,rfl⟩
 |x::l,a,h,ib,_=>by
  obtain⟨h1,h2⟩:=Wr.mp ib;obtain⟨aI,aP⟩:=h x Sv;exact⟨aI,Ja (λy aG=>⟨h1 y aG,(h y (Sy _ aG)).2⟩) h2 aP⟩
theorem Jb(f:Int->D)(ps:ZG):(((0::ps).map f).zip (jQ ((0::ps).map f) (some 1) none)).map (λp=>D.tup [p.1,p.2])=(ga 0 ps).map λp=>.tup [f p.1,f p.2]:=by
 rw[EU (by decide) (by rw[Sw,SK];lia)];show(((0::ps).map f).zip (ps.map f)).map _=_
 rw[List.zip_map,SQ];rfl
theorem abX{w h:aX}{qs:ZG}(pre:List (Int×Int)):((pre.map λp=>(ga 0 qs).map λq=>hh w h p q).flatten).length=pre.length*qs.length:=by
 induction pre with
 |nil=>simp
 |cons p l bN=>rw[SD,TG,SH,bN,Sw,uH,SK,Wn];lia
theorem abY{w:aX}(lw:aE w.1 w.2)(w0:0<w.1)(c1:wp w.1<=10)(c2:wp w.2<=10){d:Int}(ia:0<=d)(bw:d<12):aE (cg (w.1*(3+d)) (w.2*9)).1 (cg (w.1*(3+d)) (w.2*9)).2/\0<(cg (w.1*(3+d)) (w.2*9)).1/\wp (cg (w.1*(3+d)) (w.2*9)).1<=14/\wp (cg (w.1*(3+d)) (w.2*9)).2<=14/\af w<=3*af (cg (w.1*(3+d)) (w.2*9))/\9*af (cg (w.1*(3+d)) (w.2*9))<=14*af w:=by
 have p:0<w.2*9:=by have:=lw.1;lia
 obtain⟨l,e,bc,bg⟩:=gG (t:=w.1*(3+d)) (b:=w.2*9) (Sz p);have v8:wp (3+d)<=4:=intBits_le_iff.mpr (by show(3+d).natAbs<16;lia);have qv:=mO (t:=w.1*(3+d)) p;have W:=dV w0 lw.1
 have aW:af (cg (w.1*(3+d)) (w.2*9))*9=af w*((3+d:Int):Rat):=by
  rw[qv];have x:=di lw.1;unfold af;push_cast;grind
 have h1:((3+d:Int):Rat)<=14:=by exact_mod_cast (show 3+d<=14 by lia)
 have h2:(3:Rat)<=((3+d:Int):Rat):=by exact_mod_cast (show(3:Int)<=3+d by lia)
 have bm:=Uz h1 (Te W);have bJ:=Uz h2 (Te W);generalize af (cg (w.1*(3+d)) (w.2*9))=z at aW;refine⟨l,?_,dO bc (TE c1 v8),dO bg (TE c2 (show wp 9<=4 by decide)),by grind,by grind⟩;have:0<(cg (w.1*(3+d)) (w.2*9)).1*(w.2*9):=by rw[e];exact SE (SE w0 (by lia)) l.1
 exact U1 this p
theorem Jc{a b:aX}{p q:Nat}(a6:0<a.2)(a7:0<b.2)(bc:wp a.1<=p)(bg:wp a.2<=p)(dP:wp b.1<=q)(fa:wp b.2<=q):aE (cg (a.1*b.1) (a.2*b.2)).1 (cg (a.1*b.1) (a.2*b.2)).2/\wp (cg (a.1*b.1) (a.2*b.2)).1<=p+q/\wp (cg (a.1*b.1) (a.2*b.2)).2<=p+q/\af (cg (a.1*b.1) (a.2*b.2))=af a*af b:=by
 have m:=SE a6 a7;obtain⟨l,_,bC,e4⟩:=gG (t:=a.1*b.1) (b:=a.2*b.2) (Sz m);refine⟨l,dO bC (TE bc dP),dO e4 (TE bg fa),?_⟩;rw[mO m];have x:=di a6;have y:=di a7;unfold af;push_cast;grind
theorem abZ{w h g:aX}(lw:aE w.1 w.2)(lh:aE h.1 h.2)(w0:0<w.1)(h0:0<h.1)(c1:wp w.1<=10)(c2:wp w.2<=10)(c3:wp h.1<=10)(c4:wp h.2<=10)(r1:af w<=3*af g)(r2:9*af g<=14*af w){ps qs:ZG}(ae:fK 0 ps 7)(ay:fK 0 qs 7)(iJ:ps.length<=3)(hs:qs.length<=2){bs:ZM}(pm:bs.Perm (hy w h ps qs)):
  (∀b∈bs,mU g b)/\bs.length<=6/\(bs.map λb=>b.2.2.length).sum<=6/\bs≠[]/\(bs.map λb=>af b.1*af b.2.1/af g).sum=af w*af h/af g/\∀φ c,f0 φ c (bs.map λb=>b.2.2)=c7 φ c [(fo w h,false,(0,0,1))]:=by
 have all:=abV lw lh w0 h0 c1 c2 c3 c4 r1 r2 ae ay;have len:=I7 (ps:=ps) (qs:=qs) lw lh;have le:ps.length*qs.length<=6:=SA (WB iJ hs) (by decide);have pos:=I3 ae ay;have nT:=pm.length_eq;rw[len]at nT
 have one:∀b∈bs,b.2.2.length<=1:=λb ab=>by
  obtain⟨l,ao,ab⟩:=VI.mp (pm.mem_iff.mp ab);obtain⟨p,_,rfl⟩:=SJ.mp ao;obtain⟨q,_,rfl⟩:=SJ.mp ab;exact Sx _
 have s:=Cs (f:=λb:BoxD=>b.2.2.length) (m:=1) one;refine⟨λb ab=>all b (pm.mem_iff.mp ab),by lia,by lia,λz=>by rw[z]at nT;simp at nT;lia,?_,λφ c=>?_⟩
 ·rw[Ci pm];exact abO lw lh w0 h0 ae ay _
 ·rw[<-abN lw lh w0 h0 ae ay φ c];unfold f0;rw[SQ,SQ];exact Ci pm _
end Cut
namespace L3
open PySem L2
theorem Jd{a b c:Nat}{s:cX}{U:iB}(I:List Cut.BoxD->ZL->Prop):∀{bs done:List Cut.BoxD}{ρ:ZL},I done ρ->
  (∀pre x rest ρ,done++bs=pre++x::rest->I pre ρ->∀N:ZL->Prop,(∀r,I (pre++[x]) r->N r)->s {U with nx:=N,ct:=N,bk:=U.nx} (((ρ.set a (.val (Cut.dR x.1))).set b (.val (Cut.dR x.2.1))).set c (.val (Cut.dSh x.2.2))))->
  (∀ρ,I (done++bs) ρ->U.nx ρ)->h5 (np 3 (hr (e3 a) (hr (e3 b) (hr (e3 c) nm)))) s U (bs.map Cut.dBx) ρ
 |[],done,ρ,h0,_,h2=>h2 ρ (by rw[SO];exact h0)
 |x::bs,done,ρ,h0,h1,h2=>by
  refine⟨_,rfl,rfl,_,_,rfl,_,_,rfl,_,_,rfl,rfl,?_⟩;refine h1 done x bs ρ rfl h0 _ λr ak=>?_;refine Jd I ak (λpre y rest ρ e=>h1 pre y rest ρ (by rw[<-e];simp)) λρ h=>h2 ρ ?_;have e:done++[x]++bs=done++x::bs:=by simp
  rw[<-e];exact h
section
variable{X:aJ}
theorem ei(i:Nat){x:Str}{n:Int}{j:Nat}{cp b1 iH:Pos}(bi:X.N[i]?=some x:=by rfl)(aH:iq X.env.scope x:=by first|exact SF rfl|exact SP (SF rfl)|exact SP (SP rfl))(hd:(x==("__debug__":Str))=false:=by decide)(ec:(x==("__classdict__":Str))=false:=by decide):bn X (.Subscript (.Name x cp) (.Constant (.int n) j b1) iH) (zK (gq i) (pM (.int n))):=jp (ah i bi aH hd ec) bb (λ_ _=>rfl)
theorem cT(i:Nat){x:Str}{e:Wp}{u:a9}{pos eF:Pos}(bi:X.N.Nodup)(ax:bn X e u)(au:X.N[i]?=some x:=by rfl)(aq:Loc X.env.scope x:=by exact SF rfl)(aj:XE e (some (.Name x eF)) pos.line X.env=pure false:=by rfl)(bf:X.fn x=true\/X.env.scope.names.lookup x=some .local:=by first|exact .inl rfl|exact .inr rfl|assumption):fM X (.Assign [.Name x eF] e pos) (Eh i u):=Ek bi au aq ax aj bf
theorem c9(i:Nat){x:Str}{pos:Pos}(bi:X.N.Nodup)(au:X.N[i]?=some x:=by rfl)(aq:Loc X.env.scope x:=by exact SF rfl)(bf:X.fn x=true\/X.env.scope.names.lookup x=some .local:=by first|exact .inl rfl|exact .inr rfl|assumption):kF X (.Name x pos) (e3 i):=gs bi au aq bf
theorem a8{n:Nat}{F:cn}{w:i1}{e:Wp}{es:ZT}{p pos:Pos}{x:Str}{ps:ZQ}{j lv:Nat}(c:cf X.prog X.w X.K X.mg X.base x ps j (cl X.K n F))(ak:fw lv X.A)(aw:mo X (e::es) w)(aD:e2 X x:=by rfl)(hjk:j<=lv:=by decide)(iy:(x==("__debug__":Str))=false:=by decide)(ax:TD (e::es) X.env=(false,XJ e X.env)::TD es X.env:=by rfl)(fj:(XC pos (TD es X.env)).any (·.1)=false:=by rfl):bn X (.Call (.Name x p) (e::es) [] pos) (oy n F w):=vJ c ak aD aw hjk iy ax fj
end
end L3
namespace Cut
open PySem L2 L3
open PySem.Builtin.Int (intBits)
structure Je (mg:Str->Option Tk):Prop where
 len_:mg "len"=none
 abs_:mg "abs"=none
 int_:mg "int"=none
 bool_:mg "bool"=none
 tuple_:mg "tuple"=none
 isinstance_:mg "isinstance"=none
 range_:mg "range"=none
 all_:mg "all"=none
 sum_:mg "sum"=none
 list_:mg "list"=none
 ValueError_:mg "ValueError"=none
 zip_:mg "zip"=none
 str_:mg "str"=none
 enumerate_:mg "enumerate"=none
 set_:mg "set"=none
 max_:mg "max"=none
 min_:mg "min"=none
 sorted_:mg "sorted"=none
 dict_:mg "dict"=none
local macro_rules | `(tactic| walk_at "bu") => `(tactic| first | assumption | exact Yh (by walk_at "bu") (by walk_at "bu") | exact XQ (by walk_at "bu") (by walk_at "bu") | exact TE (by walk_at "bu") (by walk_at "bu") | exact Xz (by walk_at "bu") | exact intBits_fdiv_le (by walk_at "bu") | exact nb (by omega) (by omega) | fail)
local macro_rules | `(tactic| walk_at "bits") => `(tactic| ((with_reducible show wp _ ≤ _); first | assumption | exact SA (nb (by omega) (by omega)) (by decide) | decide +kernel | exact SA (by walk_at "bu") (by first | omega | decide) | fail))
local macro_rules | `(tactic| walk_at "sd") => `(tactic| first | ((with_reducible show wp _ ≤ _); walk_at "bits") | ((with_reducible show vq _ _); exact ⟨by walk_at "bits", by walk_at "bits"⟩) | ((with_reducible show qR _ _); exact ⟨by omega, by walk_at "bits"⟩) | ((with_reducible show (_ : Int) < _); first | omega | decide +kernel) | ((with_reducible show (_ : Int) ≤ _); first | omega | decide +kernel) | ((with_reducible show Dn _ _); exact ⟨by decide, by decide, by decide⟩) | ((with_reducible show S1 _ ≤ TT); first | (show 2 ≤ TT; decide) | (show 3 ≤ TT; decide) | (show 1 ≤ TT; decide) | (show 0 ≤ TT; decide) | (show 4 ≤ TT; decide)) | fail)
local macro_rules | `(tactic| walk_at "w1") => `(tactic| first | refine ⟨_, rfl, ?_⟩ | refine ⟨_, _, rfl, rfl, ?_⟩ | refine ⟨_, _, rfl, rfl, by walk_at "sd", ?_⟩ | refine ⟨_, _, _, .inl rfl, rfl, rfl, ?_⟩ | refine ⟨_, _, _, .inr rfl, rfl, rfl, ?_⟩ | refine ⟨_, _, rfl, fun _ => rfl, ?_⟩ | refine ⟨by walk_at "sd", ?_⟩ | refine ⟨rfl, ?_⟩)
local macro_rules | `(tactic| walk_at "w") => `(tactic| repeat walk_at "w1")
local macro_rules | `(tactic| walk_at "wd") => `(tactic| (walk_at "w"; try dsimp only [bU]))
local macro_rules | `(tactic| walk_at "it") => `(tactic| first | exact .inl (by assumption) | exact .inr (by assumption))
local macro_rules | `(tactic| walk_at "r0") => `(tactic| repeat (first | refine ⟨_, rfl, ?_⟩ | refine ⟨_, _, rfl, rfl, ?_⟩ | refine ⟨_, _, _, _, rfl, rfl, by walk_at "it", rfl, ?_⟩ | refine ⟨by walk_at "sd", ?_⟩))
local macro_rules | `(tactic| walk_at "rd") => `(tactic| (walk_at "r0"; try dsimp only))
local macro_rules | `(tactic| walk_at "fall") => `(tactic| first | exact Tj.mpr ⟨rfl, by walk_at "fall"⟩ | exact Tb _)
local macro_rules | `(tactic| walk_at "fal2") => `(tactic| first | exact Tb _ | exact Tj.mpr ⟨fun h => absurd h (by decide), by walk_at "fal2"⟩ | exact Tj.mpr ⟨fun _ => ⟨_, rfl⟩, by walk_at "fal2"⟩)
local macro_rules | `(tactic| walk_at "fsub") => `(tactic| exact h7 (by walk_at "fall"))
local macro_rules | `(tactic| walk_at "fhas") => `(tactic| exact agI (by walk_at "fal2"))
local macro_rules | `(tactic| walk_at "ffr") => `(tactic| (intro i y e; rcases i with _ | _ | _ | _ | _ | i <;> first | (cases e; done) | (cases e; exact ⟨_, rfl, rfl, rfl, SF rfl, _, rfl⟩)))
local macro_rules | `(tactic| walk_at "sc") => `(tactic| exact ⟨rfl, rfl, rfl, by decide +kernel, rfl, by decide +kernel, by decide +kernel⟩)
local macro_rules | `(tactic| walk_at "b1") => `(tactic| exact fun _ _ F => F.binds (kf fun _ _ _ _ _ _ _ => rfl))
local macro_rules | `(tactic| walk_at "b2") => `(tactic| exact fun _ _ F => F.binds (fy fun _ _ _ _ _ _ _ _ => rfl))
local macro_rules | `(tactic| walk_at "b3") => `(tactic| exact fun _ _ F => F.binds (mB fun _ _ _ _ _ _ _ _ _ => rfl))
local macro_rules | `(tactic| walk_at "b4") => `(tactic| exact fun _ _ F => F.binds (OR fun _ _ _ _ _ _ _ _ _ _ => rfl))
local macro_rules | `(tactic| walk_at "b5") => `(tactic| exact fun _ _ F => F.binds (OS fun _ _ _ _ _ _ _ _ _ _ _ => rfl))
theorem ab0:cM ["_law_script","_law_k"] ["_law_script","_law_k"] (cd yw):=by walk_at "sc"
theorem ab1:cM ["_law_cell_here"] ["_law_cell_here"] (cd yx):=by walk_at "sc"
theorem Jf:cM ["_law_bag_here","_law_many","_law_found"] ["_law_bag_here","_law_many"] (cd yy):=by walk_at "sc"
theorem rU:cM ["_law_one","_law_other","_law_rest"] ["_law_one","_law_other"] (cd yz):=by walk_at "sc"
def ab2  : cn:=λas k=>∃(a b:Int),as=[.val (.int a),.val (.int b)]/\k (.val (.int (Ak a b:Nat)))
theorem CA:cM ["_law_top","_law_bottom","_law_often"] ["_law_top","_law_bottom"] (cd yA):=by walk_at "sc"
def ab3  : cn:=λas k=>∃(t b:Int),as=[.val (.int t),.val (.int b)]/\(0<b)/\(wp b<=9000)/\k (.val (dR (cg t b)))
theorem Jg:cM ["_law_x","_law_y","_law_bottom","_law_often"] ["_law_x","_law_y","_law_bottom"] (cd yB):=by walk_at "sc"
def ab4  : cn:=λas k=>∃(x y n:Int),as=[.val (.int x),.val (.int y),.val (.int n)]/\(0<n)/\(wp n<=9000)/\k (.val (aS (cC x y n)))
theorem ab5:cM ["_law_found"] ["_law_found"] (cd yC):=by walk_at "sc"
def ab6  : cn:=λas k=>∃(i:Int),as=[.val (.int i)]/\k (.val (.bl true))
theorem rV:cM ["_law_p","_law_q","_law_a","_law_b","_law_c","_law_often"] ["_law_p","_law_q"] (cd yD):=by walk_at "sc"
def ab7  : cn:=λas k=>∃(p q:aa),as=[.val (aS p),.val (aS q)]/\((crs p q).1≠0\/(crs p q).2.1≠0)/\(cD 4000 p)/\(cD 4000 q)/\k (.val (aS (eC p q)))
theorem uK:cM ["_law_tally","_law_rings","_law_number","_law_ring","_law_k","_law_p","_law_q","_law_line_here"] ["_law_tally","_law_rings","_law_number"] (cd yE):=by walk_at "sc"
def ab8:tU:=λb ks ds xs k=>∃(vs:ZG)(rs:GL)(m:Int),  b=true/\xs=[(.lst (rs.map kk)),(.int m)]/\(ds=vs.map D.int)/\(vs.length=ks.length)/\(∀ps∈rs,nG ps)/\(m=1\/m = -1)/\(ks.length+2*(rs.map S1).sum<=10000)/\∀fC hi,hi.length=fC.length->fC.length<=ks.length+2*(rs.map S1).sum->(∀key,(bB fC hi key).getD 0=(bB ks vs key).getD 0+m*oZ key rs)->k fC (hi.map D.int)
theorem Jh:cM ["_law_rings","_law_others","_law_tally"] ["_law_rings","_law_others"] (cd yF):=by walk_at "sc"
def ab9  : cn:=λas k=>∃(rs qs:GL),as=[.val (.lst (rs.map kk)),.val (.lst (qs.map kk))]/\(∀ps∈rs,nG ps)/\(∀ps∈qs,nG ps)/\((rs.map S1).sum+(qs.map S1).sum<=4000)/\(fZ rs qs)/\k (.val (.bl true))
theorem CB:cM ["_law_p","_law_q","_law_r","_law_found"] ["_law_p","_law_q","_law_r"] (cd yG):=by walk_at "sc"
def ab'  : cn:=λas k=>∃(p q r:aa),as=[.val (aS p),.val (aS q),.val (aS r)]/\(cD 2950 p)/\(cD 2950 q)/\(cD 2950 r)/\k (.val (.bl (decide (0<be p q r))))
theorem aca:cM ["_law_p"] ["_law_p"] (cd yH):=by walk_at "sc"
def acb  : cn:=λas k=>∃(p:aa),as=[.val (aS p)]/\(aT p)/\k (.val (.bl true))
theorem CC:cM ["_law_ring","_law_turns","_law_fans"] ["_law_ring"] (cd yI):=by walk_at "sc"
def acd  : cn:=λas k=>∃(ps:ZH),as=[.val (.lst (ps.map aS))]/\(ps.length<=75)/\(gv ps)/\(∀p∈ps,eA 2950 p)/\k (.val (.bl true))
theorem nX:cM ["_law_piece","_law_ring","_law_flag","_law_step","_law_sign","_law_made","_law_p","_law_x","_law_y"] ["_law_piece"] (cd yJ):=by walk_at "sc"
def Ji  : cn:=λas k=>∃(s:aK),as=[.val (cY s)]/\(s.1.length<=75)/\(∀p∈s.1,eA 2600 p)/\(eA 1200 s.2.2)/\k (.val (.lst ((fG s).map aS)))
theorem CD:cM ["_law_olds","_law_news","_law_flag","_law_near"] ["_law_olds","_law_news"] (cd yK):=by walk_at "sc"
def ace  : cn:=λas k=>∃(os ns:ZI),as=[.val (.lst (os.map cY)),.val (.lst (ns.map cY))]/\(os.length<=10)/\(ns.length<=200)/\(∀s∈os,jf s)/\(∀s∈ns,jf s)/\(∀b:Bool,fZ ((ns.filter λs=>s.2.1==b).map fG) ((os.filter λs=>s.2.1==b).map fG))/\k (.val (.bl true))
theorem Jj:cM ["_law_sheet_here","_law_ring","_law_piece"] ["_law_sheet_here","_law_ring"] (cd yL):=by walk_at "sc"
def acf  : cn:=λas k=>∃(sh:ZI)(qs:ZH),as=[.val (.lst (sh.map cY)),.val (.lst (qs.map aS))]/\(sh.length<=200)/\(∀s∈sh,jf s)/\(nG qs)/\(fZ (sh.map λs=>s.1) [qs])/\k (.val (.bl true))
theorem acg:cM ["_law_one","_law_other"] ["_law_one","_law_other"] (cd yM):=by walk_at "sc"
def ach  : cn:=λas k=>∃(r s:aX),as=[.val (dR r),.val (dR s)]/\(0<r.2)/\(0<s.2)/\(wp r.1<=1000)/\(wp r.2<=1000)/\(wp s.1<=1000)/\(wp s.2<=1000)/\k (.val (dR (cg (r.1*s.1) (r.2*s.2))))
theorem aci:cM ["_law_one","_law_other"] ["_law_one","_law_other"] (cd yN):=by walk_at "sc"
def acj  : cn:=λas k=>∃(r s:aX),as=[.val (dR r),.val (dR s)]/\(0<r.2)/\(0<s.2)/\(wp r.1<=1000)/\(wp r.2<=1000)/\(wp s.1<=1000)/\(wp s.2<=1000)/\k (.val (dR (cg (r.1*s.2-s.1*r.2) (r.2*s.2))))
theorem ack:cM ["_law_x","_law_y"] ["_law_x","_law_y"] (cd yO):=by walk_at "sc"
def acl  : cn:=λas k=>∃(r s:aX),as=[.val (dR r),.val (dR s)]/\(0<r.2)/\(0<s.2)/\(wp r.1<=1000)/\(wp r.2<=1000)/\(wp s.1<=1000)/\(wp s.2<=1000)/\k (.val (aS (cC (r.1*s.2) (s.1*r.2) (r.2*s.2))))
theorem acm:cM ["_law_wide","_law_high"] ["_law_wide","_law_high"] (cd yP):=by walk_at "sc"
def acn  : cn:=λas k=>∃(w h:aX),as=[.val (dR w),.val (dR h)]/\(aE w.1 w.2)/\(aE h.1 h.2)/\(wp w.1<=400)/\(wp w.2<=400)/\(wp h.1<=400)/\(wp h.2<=400)/\k (.val (.lst ((fo w h).map aS)))
theorem aco:cM ["_law_found"] ["_law_found"] (cd yR):=by walk_at "sc"
def acp  : cn:=λas k=>∃(r:aX),as=[.val (dR r)]/\(aE r.1 r.2)/\(0<r.1)/\k (.val (.bl true))
theorem acq:cM ["_law_found"] ["_law_found"] (cd yQ):=by walk_at "sc"
def acr  : cn:=λas k=>∃(w h:aX)(sh:ZI),as=[.val (.tup [dR w,dR h,.lst (sh.map cY)])]/\(aE w.1 w.2)/\(aE h.1 h.2)/\(wp w.1<=280)/\(wp w.2<=280)/\(wp h.1<=280)/\(wp h.2<=280)/\(0<w.1)/\(0<h.1)/\(sh.length<=200)/\(∀s∈sh,jf s)/\(fZ (sh.map λs=>s.1) [fo w h])/\k (.val (.bl true))
theorem acs:cM ["_law_bag_here"] ["_law_bag_here"] (cd yS):=by walk_at "sc"
def act  : cn:=λas k =>  as=[.bag]/\∀r:aX,aE r.1 r.2->0<r.1->wp r.1<=10->wp r.2<=10->k (.val (dR r))
theorem CE:cM ["_law_bag_here","_law_size_here","_law_most","_law_made","_law_part_here"] ["_law_bag_here","_law_size_here","_law_most"] (cd yT):=by walk_at "sc"
def acu  : cn:=λas k=>∃(s:aX)(m:Nat),as=[.bag,.val (dR s),.val (.int m)]/\(aE s.1 s.2)/\(wp s.1<=10)/\(wp s.2<=10)/\(m<=2)/\∀ps:ZG,fK 0 ps 7->ps.length<=m+1->k (.val (.lst ((0::ps).map λp=>dR (bu s p))))
theorem l5:cM ["_law_bag_here","_law_wide","_law_high","_law_across","_law_up","_law_made","_law_x","_law_u","_law_y","_law_v","_law_one","_law_step","_law_turn"] ["_law_bag_here","_law_wide","_law_high"] (cd yU):=by walk_at "sc"
def acv  : cn:=λas k=>∃(w h:aX),as=[.bag,.val (dR w),.val (dR h)]/\(aE w.1 w.2)/\(aE h.1 h.2)/\(0<w.1)/\(0<h.1)/\(wp w.1<=10)/\(wp w.2<=10)/\(wp h.1<=10)/\(wp h.2<=10)/\∀(ps qs:ZG)(bs:ZM),fK 0 ps 7->fK 0 qs 7->ps.length<=3->qs.length<=2->bs.Perm (hy w h ps qs)->k (.val (.lst (bs.map dBx)))
theorem xR:cM ["one","other"] ["one","other"] (cd x2):=by walk_at "sc"
def acw  : cn:=λas k=>∃(a b:Int),as=[.val (.int a),.val (.int b)]/\k (.val (.int (Ak a b:Nat)))
theorem qy:cM ["one","other","a","b","n","c","d","m"] ["one","other"] (cd yd):=by walk_at "sc"
def acx  : cn:=λas k=>∃(p q:aa),as=[.val (aS p),.val (aS q)]/\(cD 4000 p)/\(cD 4000 q)/\k (.val (aS (crs p q)))
theorem Jk:cM ["line","p","turn"] ["line","p"] (cd ye):=by walk_at "sc"
def acy  : cn:=λas k=>∃(c r:aa),as=[.val (aS c),.val (aS r)]/\(cD 2000 c)/\(cD 2000 r)/\k (.val (.int (sg (c.1*r.1+c.2.1*r.2.1+c.2.2*r.2.2))))
theorem CF:cM ["a","b","n","divisor"] ["a","b","n"] (cd ya):=by walk_at "sc"
def acz  : cn:=λas k=>∃(a b n:Int),as=[.val (.int a),.val (.int b),.val (.int n)]/\(n≠0)/\(wp n<=9000)/\k (.val (aS (cC a b n)))
theorem xS:cM ["p","q","r","s","a","b","n"] ["p","q","r","s"] (cd yf):=by walk_at "sc"
def acA  : cn:=λas k=>∃(p q r s:aa),as=[.val (aS p),.val (aS q),.val (aS r),.val (aS s)]/\(cD 700 p)/\(cD 700 q)/\(cD 1990 r)/\(cD 1990 s)/\((crs (crs p q) (crs r s)).2.2≠0)/\k (.val (aS (nP (crs (crs p q) (crs r s)))))
theorem nY:cM ["ring","p","q","line","corner","hands","left","right","place","after","between"] ["ring","p","q"] (cd yg):=by walk_at "sc"
def acB  : cn:=λas k=>∃(ps:ZH)(p q:aa),as=[.val (.lst (ps.map aS)),.val (aS p),.val (aS q)]/\(cD 300 p)/\(cD 300 q)/\(∀c∈ps,cD 1990 c/\aT c)/\(ps.length<=1000)/\k (.val (.tup [.lst ((cR (ln (crs p q)) (aU (crs p q)) ps).map aS),.lst ((cR (λc => -ln (crs p q) c) (aU (crs p q)) ps).map aS)]))
theorem pe:cM ["sheet","p","q","left","right","ring","is_turned","step","left_ring","right_ring"] ["sheet","p","q"] (cd yh):=by walk_at "sc"
def acC  : cn:=λas k=>∃(sh:ZI)(p q:aa),as=[.val (.lst (sh.map cY)),.val (aS p),.val (aS q)]/\(cD 300 p)/\(cD 300 q)/\(∀s∈sh,∀c∈s.1,cD 1990 c/\aT c)/\(∀s∈sh,s.1.length<=1000)/\(sh.length<=1000)/\k (.val (.tup [.lst ((ck (ln (crs p q)) (aU (crs p q)) sh).map cY),.lst ((ck (λc => -ln (crs p q) c) (aU (crs p q)) sh).map cY)]))
theorem Jl:cM ["x","y","shared"] ["x","y"] (cd yb):=by walk_at "sc"
def acD  : cn:=λas k=>∃(eD CG:D)(x y u v:Int),as=[.val eD,.val CG]/\(ta eD=some [.int x,.int y])/\(ta CG=some [.int u,.int v])/\(aE x y)/\(aE u v)/\(wp x<=4000)/\(wp y<=4000)/\(wp u<=4000)/\(wp v<=4000)/\k (.val (aS (cC (x*v) (u*y) (y*v))))
theorem acE:cM ["sheet","place"] ["sheet","place"] (cd yi):=by walk_at "sc"
def acF  : cn:=λas k=>∃(sh:ZI)(x:aX),as=[.val (.lst (sh.map cY)),.val (dR x)]/\(aE x.1 x.2)/\(wp x.1<=120)/\(wp x.2<=120)/\(∀s∈sh,∀c∈s.1,cD 1990 c/\aT c)/\(∀s∈sh,s.1.length<=1000)/\(sh.length<=1000)/\k (.val (.tup [.lst ((ck (ln (d1 x)) (aU (d1 x)) sh).map cY),.lst ((ck (λc => -ln (d1 x) c) (aU (d1 x)) sh).map cY)]))
theorem CH:cM ["sheet","height","above","below"] ["sheet","height"] (cd yj):=by walk_at "sc"
def acG  : cn:=λas k=>∃(sh:ZI)(x:aX),as=[.val (.lst (sh.map cY)),.val (dR x)]/\(aE x.1 x.2)/\(wp x.1<=120)/\(wp x.2<=120)/\(∀s∈sh,∀c∈s.1,cD 1990 c/\aT c)/\(∀s∈sh,s.1.length<=1000)/\(sh.length<=1000)/\k (.val (.tup [.lst ((ck (λc => -ln (d2 x) c) (aU (d2 x)) sh).map cY),.lst ((ck (ln (d2 x)) (aU (d2 x)) sh).map cY)]))
theorem l6:cM ["p","step","a","b","n","right","up","parts","shared","x","y","divisor"] ["p","step"] (cd yc):=by walk_at "sc"
def acH  : cn:=λas k=>∃(p g:aa),as=[.val (aS p),.val (aS g)]/\(aT p)/\(cD 3000 p)/\(aT g)/\(cD 1000 g)/\k (.val (aS (nP (sld g p))))
theorem acI:cM ["sheet","step"] ["sheet","step"] (cd yk):=by walk_at "sc"
def acJ  : cn:=λas k=>∃(sh:ZI)(g:aa),as=[.val (.lst (sh.map cY)),.val (aS g)]/\(sh.length<=400)/\(∀s∈sh,rD s)/\(eA 450 g)/\k (.val (.lst ((sh.map (eL g)).map cY)))
theorem acK:cM ["one","other"] ["one","other"] (cd x7):=by walk_at "sc"
def acL  : cn:=λas k=>∃(x y u v:Int),as=[.val (dR (x,y)),.val (dR (u,v))]/\(wp x<=4000)/\(wp y<=4000)/\(wp u<=4000)/\(wp v<=4000)/\k (.val (.bl (decide (x*v<u*y))))
theorem acM:cM ["one"] ["one"] (cd x9):=by walk_at "sc"
def acN  : cn:=λas k=>∃(x y:Int),as=[.val (dR (x,y))]/\(0<y)/\(wp y<=4000)/\k (.val (.int (-((-x).fdiv y))))
theorem acO:cM ["one"] ["one"] (cd x'):=by walk_at "sc"
def acP  : cn:=λas k=>∃(x y:Int),as=[.val (dR (x,y))]/\(0<y)/\(wp y<=4000)/\k (.val (.int (x.fdiv y)))
theorem acQ:cM ["one"] ["one"] (cd x8):=by walk_at "sc"
def acR  : cn:=λas k=>∃(x y:Int),as=[.val (dR (x,y))]/\k (.val (dR (-x,y)))
theorem pf:cM ["one","other","shared","top","divisor"] ["one","other"] (cd x3):=by walk_at "sc"
def acS  : cn:=λas k=>∃(x y u v:Int),as=[.val (dR (x,y)),.val (dR (u,v))]/\(aE x y)/\(aE u v)/\(wp x<=4000)/\(wp y<=4000)/\(wp u<=4000)/\(wp v<=4000)/\k (.val (dR (cg (x*v+u*y) (y*v))))
theorem acT:cM ["one","other"] ["one","other"] (cd x4):=by walk_at "sc"
def acU  : cn:=λas k=>∃(x y u v:Int),as=[.val (dR (x,y)),.val (dR (u,v))]/\(aE x y)/\(aE u v)/\(wp x<=4000)/\(wp y<=4000)/\(wp u<=4000)/\(wp v<=4000)/\k (.val (dR (cg (x*v-u*y) (y*v))))
theorem CI:cM ["one","other","first","second"] ["one","other"] (cd x5):=by walk_at "sc"
def acV  : cn:=λas k=>∃(x y u v:Int),as=[.val (dR (x,y)),.val (dR (u,v))]/\(aE x y)/\(aE u v)/\(wp x<=4000)/\(wp y<=4000)/\(wp u<=4000)/\(wp v<=4000)/\k (.val (dR (cg (x*u) (y*v))))
theorem acW:cM ["one","other"] ["one","other"] (cd x6):=by walk_at "sc"
def acX  : cn:=λas k=>∃(x y u v:Int),as=[.val (dR (x,y)),.val (dR (u,v))]/\(aE x y)/\(aE u v)/\(wp x<=4000)/\(wp y<=4000)/\(wp u<=4000)/\(wp v<=4000)/\(u≠0)/\k (.val (dR (cg (x*v) (y*u))))
theorem uL:cM ["sheet","cut","size","first","last","middle","one","other"] ["sheet","cut","size","first","last"] (cd yl):=by walk_at "sc"
def rW(N:Nat)(a_cut_upright a_cut_level:TI):cn:=λas k=>∃(sh:ZI)(c:Bool)(w:aX)(x y bL n t:Nat),as=[.val (dSh sh),.val (.kfn (if c=true then a_cut_level else a_cut_upright)),.val (dR w),.val (.int x),.val (.int y)]/\(aE w.1 w.2)/\(wp w.1<=110)/\(wp w.2<=110)/\(x<y)/\(y<=16)/\(y-x<=2^N)/\(cJ 1990 bL n t 400 sh)/\(235<=bL/\bL<=1700)/\(n<=1000-N)/\k (.val (.lst ((gY c w N sh x y).map dSh)))
theorem acY:cM ["sheet","wide","many"] ["sheet","wide","many"] (cd ym):=by walk_at "sc"
def acZ  : cn:=λas k=>∃(sh:ZI)(w:aX)(q:Int)(m bL n t:Nat),as=[.val (dSh sh),.val (dR w),.val (.int q)]/\(q+1=m)/\(aE w.1 w.2)/\(wp w.1<=110)/\(wp w.2<=110)/\(1<=m)/\(m<=16)/\(cJ 1990 bL n t 400 sh)/\(235<=bL/\bL<=1700)/\(n<=70)/\(t<=2770)/\k (.own ((eb false w sh m).map dSh))
theorem ac0:cM ["sheet","high","many"] ["sheet","high","many"] (cd yn):=by walk_at "sc"
def ac1  : cn:=λas k=>∃(sh:ZI)(w:aX)(q:Int)(m bL n t:Nat),as=[.val (dSh sh),.val (dR w),.val (.int q)]/\(q+1=m)/\(aE w.1 w.2)/\(wp w.1<=110)/\(wp w.2<=110)/\(1<=m)/\(m<=16)/\(cJ 1990 bL n t 400 sh)/\(235<=bL/\bL<=1700)/\(n<=70)/\(t<=2770)/\k (.own ((eb true w sh m).map dSh))
def ac2  : cn:=λas k=>∃(eD:D)(x y u v:Int),as=[.val eD,.val (dR (u,v))]/\(ta eD=some [.int x,.int y])/\(aE x y)/\(aE u v)/\(wp x<=4000)/\(wp y<=4000)/\(wp u<=4000)/\(wp v<=4000)/\k (.val (dR (cg (x*v+u*y) (y*v))))
theorem qz:cM ["boxes","height","pile","wide","high","sheet"] ["boxes"] (cd yo):=by walk_at "sc"
def ac3  : cn:=λas k=>∃(b0:BoxD)(bs:ZM),as=[.val (.lst ((b0::bs).map dBx))]/\(∀b∈b0::bs,aE b.2.1.1 b.2.1.2/\wp b.2.1.1<=350/\wp b.2.1.2<=350/\∀s∈b.2.2,rD s)/\(∀pre b rest,b0::bs=pre++b::rest->wp (bI pre (0,1)).1<=350/\wp (bI pre (0,1)).2<=350)/\(((b0::bs).map λb=>b.2.2.length).sum<=400)/\k (.val (.tup [dR b0.1,dR (bI (b0::bs) (0,1)),dSh (dj (b0::bs) (0,1))]))
theorem qA:cM ["box","wide","broad","high","sheet","many","sheets","last"] ["box","wide"] (cd yp):=by walk_at "sc"
def ac4  : cn:=λas k=>∃(w h g:aX)(sh:ZI)(N bL n t:Nat),as=[.val (dBx (w,h,sh)),.val (dR g)]/\(aE w.1 w.2)/\(aE h.1 h.2)/\(aE g.1 g.2)/\(0<w.1)/\(0<h.1)/\(0<g.1)/\(wp w.1<=30)/\(wp w.2<=30)/\(wp h.1<=100)/\(wp h.2<=100)/\(wp g.1<=30)/\(wp g.2<=30)/\((d3 w g).1.fdiv (d3 w g).2=N)/\(1<=N)/\(N<=16)/\(cJ 1990 bL n t 130 sh)/\(235<=bL/\bL<=1500)/\(n<=40)/\(t<=2000)/\∀Ss Z,eb false g sh N=Ss++[Z]->k (.val (.lst ((Ss.map (λS=>((g,h,S):BoxD))++[(hU w g N,h,Z)]).map dBx)))
theorem nZ:cM ["box","wide","narrow","high","sheet","many","low","row","place","layer"] ["box","wide"] (cd yq):=by walk_at "sc"
def ac5  : cn:=λas k=>∃(w h g:aX)(sh:ZI)(N bL n t:Nat),as=[.val (dBx (w,h,sh)),.val (dR g)]/\(aE w.1 w.2)/\(aE h.1 h.2)/\(aE g.1 g.2)/\(0<w.1)/\(0<h.1)/\(0<g.1)/\(wp w.1<=30)/\(wp w.2<=30)/\(wp h.1<=100)/\(wp h.2<=100)/\(wp g.1<=30)/\(wp g.2<=30)/\(-((-(d3 g w).1).fdiv (d3 g w).2)=N)/\(1<=N)/\(N<=16)/\(cJ 1990 bL n t 130 sh)/\(235<=bL/\bL<=1500)/\(n<=40)/\(t<=2000)/\k (.val (dBx (c8 w N,fT h N,fJ w 0 (eb true (fT h N) sh N))))
theorem l7:cM ["box","wide","broad","low","sheet","high","below","above","kept","beyond","onto","back"] ["box","wide"] (cd yr):=by walk_at "sc"
def ac6  : cn:=λas k=>∃(w h g:aX)(sh:ZI)(bL n t:Nat),as=[.val (dBx (w,h,sh)),.val (dR g)]/\(aE w.1 w.2)/\(aE h.1 h.2)/\(aE g.1 g.2)/\(0<w.1)/\(0<h.1)/\(0<g.1)/\(wp w.1<=70)/\(wp w.2<=70)/\(wp h.1<=110)/\(wp h.2<=110)/\(wp g.1<=30)/\(wp g.2<=30)/\(cJ 1990 bL n t 130 sh)/\(350<=bL/\bL<=1600)/\(n<=60)/\(t<=2000)/\k (.val (dBx (if w=g then(w,h,sh)else(g,er w h g,lY w h g sh))))
theorem CJ:cM ["box","wide","boxes"] ["box","wide"] (cd yt):=by walk_at "sc"
def ac7  : cn:=λas k=>∃(w h g:aX)(sh:ZI)(B bL n t:Nat),as=[.val (dBx (w,h,sh)),.val (dR g)]/\(aE w.1 w.2)/\(aE h.1 h.2)/\(aE g.1 g.2)/\(0<w.1)/\(0<h.1)/\(0<g.1)/\(wp w.1<=30)/\(wp w.2<=30)/\(wp h.1<=100)/\(wp h.2<=100)/\(wp g.1<=30)/\(wp g.2<=30)/\(w.1*g.2<=16*(g.1*w.2))/\(g.1*w.2<=16*(w.1*g.2))/\(cJ B bL n t 8 sh)/\(310+bL<=B/\B<=1500)/\(270<=bL)/\(n<=30)/\(t<=1400)/\k (.val (.tup [dR g,dR (bI (fc w h g sh) (0,1)),dSh (dj (fc w h g sh) (0,1))]))
theorem CK:cM ["boxes","alike","box"] ["boxes"] (cd yu):=by walk_at "sc"
def ac8  : cn:=λas k=>∃(bs:ZM),as=[.val (.lst (bs.map dBx))]/\(bs.length<=100)/\(∀p∈eY bs,(∀b∈p.2,aE b.2.1.1 b.2.1.2/\wp b.2.1.1<=350/\wp b.2.1.2<=350/\∀s∈b.2.2,rD s)/\(∀pre b rest,p.2=pre++b::rest->wp (bI pre (0,1)).1<=350/\wp (bI pre (0,1)).2<=350)/\(p.2.map λb=>b.2.2.length).sum<=400)/\k (.val (.lst ((eY bs).map λp=>dBx (f' p))))
theorem ac9:cM ["boxes","wide"] ["boxes","wide"] (cd yv):=by walk_at "sc"
def ac'  : cn:=λas k=>∃(g:aX)(bs:ZM),as=[.val (.lst (bs.map dBx)),.val (dR g)]/\(aE g.1 g.2)/\(0<g.1)/\(wp g.1<=14)/\(wp g.2<=14)/\(∀b∈bs,mU g b)/\(bs.length<=6)/\((bs.map λb=>b.2.2.length).sum<=6)/\(bs=[]->k (.val (.tup [dR g,.ktup [.int 0,.int 1],.lst []])))/\(bs≠[]->k (.val (.tup [dR g,dR (bI (dy g bs) (0,1)),dSh (dj (dy g bs) (0,1))])))
theorem mW:cM ["_law_script","_law_bag_here","_law_wide","_law_high","_law_boxes","_law_goal","_law_due","_law_whole_here","_law_some","_law_found"] ["_law_script"] (cd yV):=by walk_at "sc"
structure ada (K:F6) (mg:Str->Option Tk):Prop where
 f_greatest_divisor:cU K mg "greatest_divisor" x2 ["one","other"]
 f_plus:cU K mg "plus" x3 ["one","other"]
 f_minus:cU K mg "minus" x4 ["one","other"]
 f_times:cU K mg "times" x5 ["one","other"]
 f_over:cU K mg "over" x6 ["one","other"]
 f_under:cU K mg "under" x7 ["one","other"]
 f_against:cU K mg "against" x8 ["one"]
 f_least_whole:cU K mg "least_whole" x9 ["one"]
 f_most_whole:cU K mg "most_whole" x' ["one"]
 f_point:cU K mg "point" ya ["a","b","n"]
 f_at:cU K mg "at" yb ["x","y"]
 f_slid:cU K mg "slid" yc ["p","step"]
 f_crossed:cU K mg "crossed" yd ["one","other"]
 f_hand_of:cU K mg "hand_of" ye ["line","p"]
 f_meet:cU K mg "meet" yf ["p","q","r","s"]
 f_cut_ring:cU K mg "cut_ring" yg ["ring","p","q"]
 f_cut_sheet:cU K mg "cut_sheet" yh ["sheet","p","q"]
 f_cut_upright:cU K mg "cut_upright" yi ["sheet","place"]
 f_cut_level:cU K mg "cut_level" yj ["sheet","height"]
 f_moved:cU K mg "moved" yk ["sheet","step"]
 f_slices:cU K mg "slices" yl ["sheet","cut","size","first","last"]
 f_columns_of:cU K mg "columns_of" ym ["sheet","wide","many"]
 f_layers_of:cU K mg "layers_of" yn ["sheet","high","many"]
 f_piled:cU K mg "piled" yo ["boxes"]
 f_in_columns:cU K mg "in_columns" yp ["box","wide"]
 f_in_layers:cU K mg "in_layers" yq ["box","wide"]
 f_in_three:cU K mg "in_three" yr ["box","wide"]
 f_widened:cU K mg "widened" yt ["box","wide"]
 f_piled_by_width:cU K mg "piled_by_width" yu ["boxes"]
 f_column:cU K mg "column" yv ["boxes","wide"]
 f_law_cell:cU K mg "_law_cell" yw ["_law_script","_law_k"]
 f_law_bag:cU K mg "_law_bag" yx ["_law_cell_here"]
 f_law_draw:cU K mg "_law_draw" yy ["_law_bag_here","_law_many"]
 f_law_measure:cU K mg "_law_measure" yz ["_law_one","_law_other"]
 f_law_low:cU K mg "_law_low" yA ["_law_top","_law_bottom"]
 f_law_spot:cU K mg "_law_spot" yB ["_law_x","_law_y","_law_bottom"]
 f_law_whole:cU K mg "_law_whole" yC ["_law_found"]
 f_law_line:cU K mg "_law_line" yD ["_law_p","_law_q"]
 f_law_count:cU K mg "_law_count" yE ["_law_tally","_law_rings","_law_number"]
 f_law_part:cU K mg "_law_part" yF ["_law_rings","_law_others"]
 f_law_left:cU K mg "_law_left" yG ["_law_p","_law_q","_law_r"]
 f_law_is_spot:cU K mg "_law_is_spot" yH ["_law_p"]
 f_law_is_bulging:cU K mg "_law_is_bulging" yI ["_law_ring"]
 f_law_first:cU K mg "_law_first" yJ ["_law_piece"]
 f_law_kept:cU K mg "_law_kept" yK ["_law_olds","_law_news"]
 f_law_lies:cU K mg "_law_lies" yL ["_law_sheet_here","_law_ring"]
 f_law_product:cU K mg "_law_product" yM ["_law_one","_law_other"]
 f_law_less:cU K mg "_law_less" yN ["_law_one","_law_other"]
 f_law_pin:cU K mg "_law_pin" yO ["_law_x","_law_y"]
 f_law_box:cU K mg "_law_box" yP ["_law_wide","_law_high"]
 f_law_is_box:cU K mg "_law_is_box" yQ ["_law_found"]
 f_law_is_low:cU K mg "_law_is_low" yR ["_law_found"]
 f_law_size:cU K mg "_law_size" yS ["_law_bag_here"]
 f_law_lines:cU K mg "_law_lines" yT ["_law_bag_here","_law_size_here","_law_most"]
 f_law_cells:cU K mg "_law_cells" yU ["_law_bag_here","_law_wide","_law_high"]
 G_NOTHING:v6 K mg "NOTHING" [0,1]
section adb
variable(B:Je mg)(Y:ada K mg)
include B Y
theorem adc :
  cf P w K mg base "_law_cell" ["_law_script","_law_k"] 1 (cl K 2 EC):=by
 refine cf.imp (sp:=EB K) ?_ (λvs H Q E h=>Ny h);refine Y.f_law_cell.ok (k:=0) ab0 (λvs H Q E h=>?_) (λf cdv A outer s H vs Q E ak h=>?_)
 ·obtain⟨a,k,ns,rfl,ci,h0,q⟩:=h;rfl
 obtain⟨a,k,ns,rfl,ci,h0,q⟩:=h;refine⟨_,(n7 (u4 (pC me (gc 1) (sq DI (by rfl) B.len_ (by decide +kernel) (fi (gc 0) gN)) (d6 _)) (pu (n8 (mh zl (gc 0) (gc 1) (λ_ _=>rfl)))) u2) (pu (n8 fg))),?_⟩;refine⟨_,rfl,_,rfl,a,_,rfl,.inl ci,_,_,rfl,rfl,_,rfl,?_⟩;refine gQ (λc=>?_) (λc=>?_)
 ·rw[Sw]at c;have ag:k.toNat<ns.length:=by lia
  have kM:k=((k.toNat:Nat):Int):=by lia
  have z:ej (ns.map V.int) ((k.toNat:Nat):Int)=some (.int ns[k.toNat]):=AM (by rw[S4,S5 ag]<;>rfl);rw[<-kM]at z;exact⟨_,rfl,_,rfl,a,_,_,_,rfl,rfl,ci,z,q _⟩
 ·exact q _
theorem add :
  cf P w K mg base "_law_bag" ["_law_cell_here"] 1 (cl K 1 EE):=by
 refine cf.imp (sp:=ED) ?_ (λvs H Q E h=>Nz h);refine Y.f_law_bag.ok (k:=0) ab1 (λvs H Q E h=>?_) (λf cdv A outer s H vs Q E ak h=>?_)
 ·obtain⟨c,rfl,q⟩:=h;rfl
 obtain⟨c,rfl,q⟩:=h;refine⟨_,(n7 (u4 (pC zd (gc 0) (fW zc fg fg) (d6 _)) (pu (n8 (vf (fi (fW m7 (gc 0) (fW sx (fW zc fg fg) (fW zc fg fg))) (fi (fW m7 (gc 0) fg) gN))))) u2) (pu (n8 (vf (fi fg (fi (fW m7 (fW vc (fW sx (fW m7 (gc 0) fg) fg) fg) fg) gN)))))),?_⟩;walk_at "rd";refine gQ (λg=>?_) (λg=>?_)
 ·walk_at "rd";refine(λp ae=>q p _ _ ae (TS _ (by decide +kernel)) (TS _ (by decide)) (T6 _ (by decide)))
 ·have dS:=TS c (show(2147483647:Int)≠0 by decide);have bm:=T6 c (show(0:Int)<2147483647 by decide);walk_at "rd";refine(λp ae=>q p _ _ ae (by decide) (TS _ (by decide)) (T6 _ (by decide)))
theorem n0 :
  cf P w K mg base "_law_draw" ["_law_bag_here","_law_many"] 1 (cl K 2 (EG 400)):=by
 refine cf.imp (sp:=EF 400) ?_ (λvs H Q E h=>NA h);refine Y.f_law_draw.ok (k:=0) Jf (λvs H Q E h=>?_) (λf cdv A outer s H vs Q E ak h=>?_)
 ·obtain⟨b,m,rfl,⟨x,y,ab,ce,bZ,bx⟩,dS,bm,q⟩:=h;rfl
 obtain⟨b,m,rfl,⟨x,y,ab,ce,bZ,bx⟩,dS,bm,q⟩:=h;refine⟨_,(n7 (u4 (pC zd (mh pI (gc 0) fg (λ_ _=>rfl)) (gc 1) (d6 _)) (n7 (pv (i:=2) Jf.nd rfl (SF rfl) (fW m7 (mh pI (gc 0) fg (λ_ _=>rfl)) (gc 1))) (n7 (u7 (fW vr (mh pI (gc 0) fg (λ_ _=>rfl)) (gc 1)) (y2 (gc 0) fg zm)) (pu (n8 (gc 2))))) u2) (n7 (u7 fg (y2 (gc 0) fg zm)) (n7 (u7 (fW m7 (fW vc (fW sx (mh pI (gc 0) fg (λ_ _=>rfl)) fg) fg) fg) (y2 (gc 0) fg zm)) (pu (n8 (fW m7 (fW vr (fW m7 (fW sx (mh pI (gc 0) fg (λ_ _=>rfl)) (fW vc (fW vr (mh pI (gc 0) fg (λ_ _=>rfl)) fg) fg)) fg) fg) (gc 1))))))),?_⟩;walk_at "rd";refine gQ (λg=>?_) (λg=>?_)
 ·walk_at "rd";refine⟨b,_,_,_,rfl,rfl,ab,rfl,?_⟩;refine⟨_,rfl,?_⟩;refine q _ _ (ml.upd b H _) ⟨_,_,eP,?_,bZ,bx⟩ (TS _ (by lia)) (T6 _ dS);exact Int.fdiv_nonneg ce (Tu dS)
 ·walk_at "rd";refine⟨b,_,_,_,rfl,rfl,ab,rfl,?_⟩;have uM:(upd H b (.lst ([V.int x,V.int y].set (VJ 0) (V.int 0)))) b=some (.lst [.int 0,.int y]):=eP;have ai:=ml.upd b H (.lst ([V.int x,V.int y].set (VJ 0) (V.int 0)));generalize upd H b (.lst ([V.int x,V.int y].set (VJ 0) (V.int 0)))=ar at uM ai⊢;have bJ:=TS (y*48271+4099) (show(2147483647:Int)≠0 by decide);have j7:=T6 (y*48271+4099) (show(0:Int)<2147483647 by decide);walk_at "rd";refine⟨b,_,_,_,rfl,rfl,uM,rfl,?_⟩;generalize(y*48271+4099)%2147483647=z at bJ j7⊢;have qB:(upd ar b (.lst ([V.int 0,V.int y].set (VJ 1) (V.int z)))) b=some (.lst [.int 0,.int z]):=eP;have du:=Int.ediv_nonneg bJ (show(0:Int)<=65536 by decide);have bM:z/65536<=z:=Int.ediv_le_self _ bJ;have kM:Int.fdiv z 65536=z/65536:=Wx z (by decide);have vZ:wp (Int.fdiv z 65536+7)<=64:=by rw[kM];exact nb (by lia) (by lia)
  walk_at "rd";refine q _ _ (ai.trans (ml.upd b ar _)) ⟨_,_,qB,by decide,bJ,j7⟩ (TS _ (by lia)) (T6 _ dS)
theorem ph :
  cf P w K mg base "_law_measure" ["_law_one","_law_other"] 2 (cl K 2 ab2):=by
 refine dh Y.f_law_measure rU rfl (λ_ _ _ _ _ _ _ ak=>⟨_,(ba (cT 0 rU.nd (vL (ah 0) (by rfl) B.abs_)) (ba (cT 1 rU.nd (vL (ah 1) (by rfl) B.abs_)) (ba (Em PassesOwn.never (gr (f:=λi j=>decide (j<i)) qM (ah 1) bb (d6 _)) (ba (cT 2 rU.nd (zH (ah 0) (ah 1))) (ba (cT 0 rU.nd (ah 1)) (bH (cT 1 rU.nd (ah 2)))))) (bH (cB (ah 0)))))),?_⟩);rintro as k ao ⟨a,b,rfl,ag⟩;refine c6 rfl ?_;walk_at "wd";refine⟨λm ρ=>∃(x y:Int)(v:aQ),ρ=[.val (.int x),.val (.int y),v]/\0<=x/\0<=y/\Ak x y=Ak a b/\m=y.toNat,⟨_,_,_,_,rfl,?_,?_,DR a b,rfl⟩,?_⟩
 ·split<;>lia
 ·split<;>lia
 rintro m ρ ⟨x,y,v,rfl,ce,bZ,aD,rfl⟩;walk_at "wd";refine gQ (λg=>?_) (λg=>?_)
 ·walk_at "wd";have dS:=TS x (show y≠0 by lia);have bm:=T6 x g;exact⟨_,by lia,_,_,_,rfl,bZ,dS,by rw[DQ ce g];exact aD,rfl⟩
 ·have e:y=0:=by lia
  subst e;refine⟨_,rfl,?_⟩;rw[<-DS ce,aD];exact ag
theorem xT :
  cf P w K mg base "_law_low" ["_law_top","_law_bottom"] 3 (cl K 2 ab3):=by
 refine dh Y.f_law_low CA rfl (λ_ _ _ _ _ _ _ ak=>⟨_,(ba (cT 2 CA.nd (a8 (ph B Y) ak (aA (ah 0) (aA (ah 1) a1)))) (ba (fF (gr (f:=λi j=>decide (i<j)) me (ah 1) bb (d6 _)) (bH (cT 2 CA.nd (h3 (ah 2)))) fO) (bH (cB (db (aV (d7 (ah 0) (ah 2)) (aV (d7 (ah 1) (ah 2)) b9))))))),?_⟩);rintro as k ao ⟨t,b,rfl,ab,xn,ag⟩;refine c6 rfl ?_;have dG:=oj (t:=t) (b:=b) (by lia);have ig:=lE (a:=t) (b:=b) (by lia) xn;have e:s9 t b=((Ak t b:Nat):Int):=by unfold s9;rw[SZ (by lia)]
 have ag:k (.val (.tup [.int (t.fdiv ((Ak t b:Nat):Int)),.int (b.fdiv ((Ak t b:Nat):Int))])):=by
  have h:=ag;unfold dR cg at h;rw[e]at h;exact h
 walk_at "w";refine⟨_,_,rfl,?_⟩;dsimp only[bU];walk_at "wd";refine gQ (λg=>absurd g (by lia)) (λ_=>?_);walk_at "w";exact ag
theorem CL :
  cf P w K mg base "_law_spot" ["_law_x","_law_y","_law_bottom"] 3 (cl K 3 ab4):=by
 refine dh Y.f_law_spot Jg rfl (λ_ _ _ _ _ _ _ ak=>⟨_,(ba (cT 3 Jg.nd (a8 (ph B Y) ak (aA (a8 (ph B Y) ak (aA (ah 0) (aA (ah 1) a1))) (aA (ah 2) a1)))) (bH (cB (db (aV (d7 (ah 0) (ah 3)) (aV (d7 (ah 1) (ah 3)) (aV (d7 (ah 2) (ah 3)) b9))))))),?_⟩);rintro as k ao ⟨x,y,n,rfl,aN,CM,ag⟩;refine c6 rfl ?_;walk_at "w";refine⟨_,_,rfl,?_⟩;walk_at "w";refine⟨_,_,rfl,?_⟩;have dB:n≠0:=by lia
 have dG:=EX (a:=x) (b:=y) dB;have ig:=EY (a:=x) (b:=y) dB CM;have e:kc x y n=g3 x y n:=by unfold kc;rw[SZ (by lia)]
 have oI:((Ak ((Ak x y:Nat):Int) n:Nat):Int)=g3 x y n:=Oq x y n
 have ag:k (.val (.tup [.int (x.fdiv (g3 x y n)),.int (y.fdiv (g3 x y n)),.int (n.fdiv (g3 x y n))])):=by
  have h:=ag;unfold aS cC at h;rw[e]at h;exact h
 dsimp only[bU];rw[oI];generalize g3 x y n=g at dG ig ag⊢;walk_at "w";exact ag
theorem CN :
  cf P w K mg base "_law_whole" ["_law_found"] 2 (cl K 1 ab6):=by
 refine dh Y.f_law_whole ab5 rfl (λ_ _ _ _ _ _ _ ak=>⟨_,(bH (cB (sE (nl (T:="int") (ah 0) (by rfl) B.isinstance_ (m3 (v:=.ty "int") (u:=.type "int") (by rfl) B.int_ (by decide +kernel) rfl) rfl rfl rfl) (vF (MI (nl (T:="bool") (ah 0) (by rfl) B.isinstance_ (m3 (v:=.ty "bool") (u:=.type "bool") (by rfl) B.bool_ (by decide +kernel) rfl) rfl rfl rfl)))))),?_⟩);rintro as k ao ⟨i,rfl,ag⟩;refine c6 rfl ?_;refine⟨_,rfl,_,_,rfl,λ_=>rfl,_,rfl,Mo ?_⟩;exact⟨_,rfl,_,_,rfl,λ_=>rfl,_,rfl,ag⟩
theorem ade :
  cf P w K mg base "_law_line" ["_law_p","_law_q"] 3 (cl K 2 ab7):=by
 refine dh Y.f_law_line rV rfl (λ_ _ _ _ _ _ _ ak=>⟨_,(ba (cT 2 rV.nd (gR (cO (ei 0) (ei 1)) (cO (ei 0) (ei 1)))) (ba (cT 3 rV.nd (gR (cO (ei 0) (ei 1)) (cO (ei 0) (ei 1)))) (ba (cT 4 rV.nd (gR (cO (ei 0) (ei 1)) (cO (ei 0) (ei 1)))) (ba (cT 5 rV.nd (a8 (ph B Y) ak (aA (a8 (ph B Y) ak (aA (ah 2) (aA (ah 3) a1))) (aA (ah 4) a1)))) (ba (fF (ni (w_or (gr (f:=λi j=>decide (i<j)) me (ah 2) bb (d6 _)) (ov (ni (w_and (gr (f:=λi j=>decide (i=j)) mj (ah 2) bb (d6 _)) (MF (gr (f:=λi j=>decide (i<j)) me (ah 3) bb (d6 _)))))))) (bH (cT 5 rV.nd (h3 (ah 5)))) fO) (bH (cB (db (aV (d7 (ah 2) (ah 5)) (aV (d7 (ah 3) (ah 5)) (aV (d7 (ah 4) (ah 5)) b9))))))))))),?_⟩);rintro as k ao ⟨p,q,rfl,w,bp,hA,ag⟩;refine c6 (r:=[.val (aS p),.val (aS q),.no,.no,.no,.no]) rfl ?_;have h1:=bp.a;have h2:=bp.b;have aF:=bp.c;have bj:=hA.a;have c5:=hA.b;have fX:=hA.c;have bc:wp (crs p q).1<=8500:=by show wp (p.2.1*q.2.2-p.2.2*q.2.1)<=_;walk_at "bits"
 have bg:wp (crs p q).2.1<=8500:=by show wp (p.2.2*q.1-p.1*q.2.2)<=_;walk_at "bits"
 have dP:wp (crs p q).2.2<=8500:=by show wp (p.1*q.2.1-p.2.1*q.1)<=_;walk_at "bits"
 walk_at "w";refine⟨(crs p q).1,(crs p q).2.1,rfl,?_⟩;walk_at "wd";refine⟨((Ak (crs p q).1 (crs p q).2.1:Nat):Int),(crs p q).2.2,rfl,?_⟩;dsimp only[bU];refine c6 (r:=[.val (aS p),.val (aS q),.val (.int (crs p q).1),.val (.int (crs p q).2.1),.val (.int (crs p q).2.2),.val (.int (kl (crs p q)))]) rfl ?_;unfold eC at ag;generalize crs p q=l at w bc bg dP ag;refine d8 (λρ=>ρ=[.val (aS p),.val (aS q),.val (.int l.1),.val (.int l.2.1),.val (.int l.2.2),.val (.int (gU l))]) ?_ (λN aL=>?_);rotate_left
 ·have yes:lT l->N [.val (aS p),.val (aS q),.val (.int l.1),.val (.int l.2.1),.val (.int l.2.2),.val (.int (-kl l))]:=λd=>aL _ (by unfold gU;rw[SL d]);have no:¬lT l->N [.val (aS p),.val (aS q),.val (.int l.1),.val (.int l.2.1),.val (.int l.2.2),.val (.int (kl l))]:=λd=>aL _ (by unfold gU;rw[SZ d]);refine⟨_,rfl,_,_,rfl,rfl,_,rfl,gQ (λg=>?_) (λg=>?_)⟩
  ·exact⟨_,rfl,_,rfl,yes (.inl g)⟩
  ·refine⟨_,rfl,_,_,rfl,rfl,_,rfl,gQ (λaP=>?_) (λaP=>no λd=>d.elim g λz=>aP z.1)⟩;refine⟨_,rfl,_,_,rfl,rfl,_,rfl,gQ (λg3=>?_) (λg3=>no λd=>d.elim g λz=>g3 z.2)⟩;exact⟨_,rfl,_,rfl,yes (.inr ⟨aP,g3⟩)⟩
 rintro ρ rfl;have agJ:=wV w;have cx:=Rj bc bg w;obtain⟨bw,bF,gC⟩:=tW l;have a4:=WC bw;have a':=WC bF;have bP:=WC gC;have ag:k (.val (.tup [.int (l.1.fdiv (gU l)),.int (l.2.1.fdiv (gU l)),.int (l.2.2.fdiv (gU l))])):=by rw[a4,a',bP];exact ag
 walk_at "w";exact ag
theorem Jm :
  cf P w K mg base "_law_count" ["_law_tally","_law_rings","_law_number"] 4 (wT K 3 ab8):=by
 refine Q1 Y.f_law_count uK rfl (λ_ _ _ _ _ _ _ ak=>⟨_,(bH (mx PassesOwn.never rfl (i5 (ah 1)) (c9 3 uK.nd) (bH (mx PassesOwn.never rfl (zP (ms (ah 3) (by rfl) B.len_) (by rfl) B.range_) (c9 4 uK.nd) (ba (El (i:=5) (j:=6) rfl uK.nd rfl rfl (by decide) rfl rfl (aV (jp (ah 3) (gR (ah 4) bb) (λ_ _=>rfl)) (aV (jp (ah 3) (ah 4) (λ_ _=>rfl)) b9)) rfl) (ba (cT 7 uK.nd (a8 (ade B Y) ak (aA (ah 5) (aA (ah 6) a1)))) (ba (GG (b:=true) 0 (rr ak) (db (aV (ah 7) (aV (ah 5) b9))) (hq (GF (b:=true) 0 (rr ak) (db (aV (ah 7) (aV (ah 5) b9))) bb) (ah 2))) (bH (GG (b:=true) 0 (rr ak) (db (aV (ah 7) (aV (ah 6) b9))) (gR (GF (b:=true) 0 (rr ak) (db (aV (ah 7) (aV (ah 6) b9))) bb) (ah 2))))))))))),?_⟩);rintro b t ks ds xs k ao ⟨vs,rs,m,rfl,rfl,hK,aH,ak,av,ao,ag⟩;refine c6 rfl ?_;subst hK;have gH:20000<=TT:=by decide
 refine⟨_,rfl,_,rfl,?_⟩;refine oH (f:=kk) (rs:=rs) (done:=[]) (λpre ρ=>∃(ks1:List ZX)(kR:ZG)(ah il im hj hk:aQ),ρ=[.own (.d true t ks1 (kR.map D.int)),.val (.lst (rs.map kk)),.val (.int m),ah,il,im,hj,hk]/\kR.length=ks1.length/\ks1.length<=ks.length+2*(pre.map S1).sum/\∀key,(bB ks1 kR key).getD 0=(bB ks vs key).getD 0+m*oZ key pre) ⟨ks,vs,_,_,_,_,_,rfl,aH,by simp,λkey=>by simp[oZ]⟩ ?_ (λρ h=>?_);rotate_left
 ·obtain⟨ks1,kR,ah,il,im,hj,hk,rfl,h1,h2,aF⟩:=h;rw[Ta]at h2 aF;exact⟨ks1,_,rfl,ag ks1 kR h1 h2 aF⟩
 rintro pre ps rest ρ ax ⟨ks1,kR,ah,il,im,hj,hk,rfl,h1,h2,aF⟩ N aL;rw[Ta]at ax;have mem:ps∈rs:=by rw[ax];simp
 obtain⟨b7,bW,hT⟩:=ak ps mem;have BZ:(rs.map S1).sum=(pre.map S1).sum+(ps.length+(rest.map S1).sum):=by rw[ax,SI,Ue,SD,SN]
 have len:(ps.map aS).length=ps.length:=Sw ..;refine⟨_,rfl,_,rfl,_,rfl,by lia,by rw[len];lia,?_⟩;rw[len,show((ps.length:Nat):Int).toNat=ps.length by lia];refine Oj (λi ρ=>∃(fC:List ZX)(hi:ZG)(il im hj hk:aQ),ρ=[.own (.d true t fC (hi.map D.int)),.val (.lst (rs.map kk)),.val (.int m),.val (kk ps),il,im,hj,hk]/\hi.length=fC.length/\fC.length<=ks1.length+2*i/\∀key,(bB fC hi key).getD 0=(bB ks1 kR key).getD 0+m*oY key ((dw ps).take i)) ⟨ks1,kR,_,_,_,_,rfl,h1,by lia,λkey=>by simp[oY]⟩ ?_ (λρ h=>?_);rotate_left
 ·obtain⟨fC,hi,il,im,hj,hk,rfl,ee,eK,mE⟩:=h;have adf:=PS ps;rw[adf]at mE;refine aL _ ⟨fC,hi,_,_,_,_,_,rfl,ee,?_,λkey=>?_⟩
  ·rw[SI,Ue];simp only[SD,Tz,SN,Ux];lia
  ·rw[mE key,aF key];unfold oZ;rw[SI,Ue];simp only[SD,Tz,SN,Ux];grind
 clear aL;rintro i ρ au ⟨fC,hi,il,im,hj,hk,rfl,ee,eK,mE⟩ N aL;obtain⟨p,q,mp,tY,dG,iR,gp,w5⟩:=Rh au;refine⟨_,rfl,_,rfl,_,_,rfl,rfl,_,_,_,.inr rfl,rfl,dG,_,rfl,_,rfl,_,_,_,.inr rfl,rfl,iR,aS p,aS q,rfl,?_⟩;refine⟨_,rfl,_,rfl,rfl,p,q,rfl,bW _ gp,hT p mp,hT q tY,?_⟩;dsimp only[bU];obtain⟨a6,a7⟩:=GY (k:=en p q p) (x:=(bB fC hi (en p q p)).getD 0+m) ee;refine d8 (λρ=>ρ=[.own (.d true t (eM fC (en p q p)) ((gw fC hi (en p q p) ((bB fC hi (en p q p)).getD 0+m)).map D.int)),.val (.lst (rs.map kk)),.val (.int m),.val (kk ps),.val (.int i),.val (aS p),.val (aS q),.val (aS (eC p q))]) ?_ (λpi iT=>?_);rotate_left
 ·refine⟨t,fC,_,rfl,_,rfl,_,rfl,gJ,en p q p,rfl,(λz=>nomatch z),_,rfl,(bB fC hi (en p q p)).getD 0,m,G1 _ _ _,rfl,?_⟩;refine⟨t,fC,_,rfl,_,rfl,_,rfl,gJ,en p q p,rfl,(λz=>nomatch z),by lia,?_⟩;exact iT _ (by rw[GZ];rfl)
 rintro ρ rfl;generalize adg:eM fC (en p q p)=l8 at a6 a7;generalize adh:gw fC hi (en p q p) ((bB fC hi (en p q p)).getD 0+m)=pj at a6
 have g3:∀key,(bB l8 pj key).getD 0=(bB fC hi key).getD 0+(if key=en p q p then m else 0):=λkey=>by
  rw[<-adg,<-adh,GX _ _ key ee];by_cases e:key=en p q p
  ·rw[SL e,SL e,e];rfl
  ·rw[SZ e,SZ e];lia
 obtain⟨df,jC⟩:=GY (k:=en p q q) (x:=(bB l8 pj (en p q q)).getD 0-m) a6;refine⟨t,l8,_,rfl,_,rfl,_,rfl,gJ,en p q q,rfl,(λz=>nomatch z),_,rfl,(bB l8 pj (en p q q)).getD 0,m,G1 _ _ _,rfl,?_⟩;refine⟨t,l8,_,rfl,_,rfl,_,rfl,gJ,en p q q,rfl,(λz=>nomatch z),by lia,?_⟩;refine aL _ ⟨eM l8 (en p q q),gw l8 pj (en p q q) ((bB l8 pj (en p q q)).getD 0-m),.val (.int i),.val (aS p),.val (aS q),.val (aS (eC p q)),by rw[GZ];rfl,df,by lia,λkey=>?_⟩;rw[GX _ _ key a6,w5]
 have cW:oY key ((dw ps).take i++[(p,q)])=oY key ((dw ps).take i)+t0 key (p,q):=by
  unfold oY;rw[SI,Ue];simp
 have el:((if key=en p q q then some ((bB l8 pj (en p q q)).getD 0-m)else bB l8 pj key).getD 0:Int)=(bB l8 pj key).getD 0-(if key=en p q q then m else 0):=by
  by_cases e:key=en p q q
  ·rw[SL e,SL e,e];rfl
  ·rw[SZ e,SZ e];lia
 rw[el,g3 key,mE key,cW];unfold t0;dsimp only;split<;>split<;>grind
theorem Jn :
  cf P w K mg base "_law_part" ["_law_rings","_law_others"] 5 (cl K 2 ab9):=by
 refine dh Y.f_law_part Jh rfl (λ_ _ _ _ _ _ _ ak=>⟨_,(ba (QV (b:=true) (i:=2) Jh.nd rfl (SP rfl)) (ba (GH 2 (Jm B Y) ak (by rfl) (aV (ah 0) (aV bb b9))) (ba (GH 2 (Jm B Y) ak (by rfl) (aV (ah 1) (aV (h3 bb) b9))) (QY 2 (bH (cB (Ah (ed (lD (ts:=["_law_key"]) (fr:=["_law_tally"]) (js:=[2]) (QZ (ah 2)) (λ_ _ _ _=>(gs (i:=0) (show S' (["_law_key","_law_tally"]:ZQ) by decide +kernel) rfl (SF rfl))) (λ_ _ _ _=>ju) (λ_ _ _ _=>(ou (f:=λi j=>decide (i=j)) mj (QW true (rr ak) (ah 1) (ah 0) (λ_ _=>rfl)) bb (d6 _))) ⟨rfl,by decide +kernel,rfl,by decide +kernel,h7 (Tj.mpr ⟨rfl,(Tb _)⟩),iF rfl,by walk_at "ffr",rfl⟩)) rfl (by rfl) B.all_))))))),?_⟩);rintro as k ao ⟨rs,qs,rfl,ak,ay,ao,bal,ag⟩;refine c6 rfl ?_;have gH:20000<=TT:=by decide
 refine⟨true,none,[],[],rfl,_,rfl,rfl,[],rs,1,rfl,rfl,rfl,rfl,ak,.inl rfl,by simp;lia,λks1 kR a6 a7 df=>?_⟩;refine⟨true,none,ks1,_,rfl,_,rfl,1,rfl,rfl,kR,qs,-1,rfl,rfl,rfl,a6,ay,.inr rfl,?_,λfC hi bm bJ j7=>?_⟩
 ·simp at a7;lia
 have z:∀key,(bB fC hi key).getD 0=0:=λkey=>by
  rw[j7 key,df key,Ri bal key];simp[bB];lia
 simp at a7;refine⟨true,none,fC,_,rfl,?_⟩;refine⟨_,rfl,true,fC,_,rfl,by rw[Sw];lia,?_⟩;refine kK (f:=i0 true) (h:=λ_=>D.bl true) (λkey av k ag=>?_) ?_
 ·have some:bB fC (hi.map D.int) key=some (.int 0):=by
   have e:=z key;rw[Bl];cases q:bB fC hi key with
   |none=>exact absurd av ((oT bm).mp q)
   |some v=>rw[q]at e;rw[show v=0 from e];rfl
  refine⟨_,rfl,_,rfl,fC,_,key,_,rfl,rfl,(λz=>nomatch z),some,?_⟩;exact⟨_,_,rfl,rfl,ag⟩
 refine⟨_,rfl,λd hd=>?_,ag⟩;obtain⟨_,_,e⟩:=SJ.mp hd;exact e.symm
theorem Jo :
  cf P w K mg base "_law_left" ["_law_p","_law_q","_law_r"] 2 (cl K 3 ab'):=by
 refine dh Y.f_law_left CB rfl (λ_ _ _ _ _ _ _ ak=>⟨_,(ba (cT 3 CB.nd (cO (ei 0) (gR (cO (ei 1) (ei 2)) (cO (ei 1) (ei 2))))) (ba (PQ (i:=3) CB.nd rfl (SF rfl) (cO (ei 0) (gR (cO (ei 1) (ei 2)) (cO (ei 1) (ei 2))))) (bH (cB (ou (f:=λi j=>decide (j<i)) qM (hq (ah 3) (cO (ei 0) (gR (cO (ei 1) (ei 2)) (cO (ei 1) (ei 2))))) bb (d6 _)))))),?_⟩);rintro as k ao ⟨p,q,r,rfl,bp,hA,mX,ag⟩;refine c6 rfl ?_;have h1:=bp.a;have h2:=bp.b;have aF:=bp.c;have bj:=hA.a;have c5:=hA.b;have fX:=hA.c;have q8:=mX.a;have lR:=mX.b;have tJ:=mX.c;have e:be p q r=p.1*(q.2.1*r.2.2-q.2.2*r.2.1)+p.2.1*(q.2.2*r.1-q.1*r.2.2)+p.2.2*(q.1*r.2.1-q.2.1*r.1):=by unfold be crs;grind
 rw[e]at ag;walk_at "w";exact ag
theorem Jp :
  cf P w K mg base "_law_is_spot" ["_law_p"] 3 (cl K 1 acb):=by
 refine dh Y.f_law_is_spot aca rfl (λ_ _ _ _ _ _ _ ak=>⟨_,(ba (fF (ni (w_or (hI (hH (nl (T:="tuple") (ah 0) (by rfl) B.isinstance_ (m3 (v:=.ty "tuple") (u:=.type "tuple") (by rfl) B.tuple_ (by decide +kernel) rfl) rfl rfl rfl))) (w_or (gr (f:=λi j => !decide (i=j)) sy (ms (ah 0) (by rfl) B.len_) bb (d6 _)) (ov (hI (hH (Ah (ed (lD (ts:=["_law_number"]) (fr:=[]) (js:=[]) (zO (ah 0)) (λ_ _ _ _=>(gs (i:=0) (show S' (["_law_number"]:ZQ) by decide +kernel) rfl (SF rfl))) (λ_ _ _ _=>ju) (λ_ _ _ _=>(a8 (CN B Y) ak (aA (ah 0) a1))) ⟨rfl,by decide +kernel,rfl,by decide +kernel,h7 (Tb _),iF rfl,by walk_at "ffr",rfl⟩)) rfl (by rfl) B.all_))))))) (bH (cB iD)) fO) (bH (cB (sE (ou (f:=λi j=>decide (j<i)) qM (ei 0) bb (d6 _)) (vF (ou (f:=λi j=>decide (i=j)) mj (a8 (ph B Y) ak (aA (a8 (ph B Y) ak (aA (ei 0) (aA (ei 0) a1))) (aA (ei 0) a1))) bb (d6 _))))))),?_⟩);rintro as k ao ⟨p,rfl,ae,ag⟩;refine c6 rfl ?_;have oI:((Ak ((Ak p.1 p.2.1:Nat):Int) p.2.2:Nat):Int)=1:=by rw[ae.2];rfl
 have dB:=ae.1;refine oD (λN aL=>?_) ?_
 ·refine⟨_,rfl,_,_,rfl,λ_=>rfl,_,rfl,gP ?_⟩;refine⟨_,rfl,_,rfl,_,_,rfl,rfl,_,rfl,gP ?_⟩;refine⟨_,rfl,_,rfl,n2,?_⟩;refine kK (f:=D.int) (h:=λ_=>D.bl true) (rs:=[p.1,p.2.1,p.2.2]) (λi au k ag=>⟨_,rfl,rfl,i,rfl,ag⟩) ?_;exact⟨_,rfl,λd hd=>by simp at hd;exact hd,_,rfl,gP aL⟩
 walk_at "w";rw[SL (Xy dB)];walk_at "w";refine⟨_,_,rfl,?_⟩;dsimp only[bU];walk_at "w";refine⟨_,_,rfl,?_⟩;dsimp only[bU];rw[oI];exact⟨_,_,rfl,rfl,ag⟩
theorem adi :
  cf P w K mg base "_law_is_bulging" ["_law_ring"] 4 (cl K 1 acd):=by
 refine dh Y.f_law_is_bulging CC rfl (λ_ _ _ _ _ _ _ ak=>⟨_,(ba (fF (ni (w_or (hI (hH (nl (T:="list") (ah 0) (by rfl) B.isinstance_ (m3 (v:=.ty "list") (u:=.type "list") (by rfl) B.list_ (by decide +kernel) rfl) rfl rfl rfl))) (w_or (gr (f:=λi j=>decide (i<j)) me (ms (ah 0) (by rfl) B.len_) bb (d6 _)) (ov (hI (hH (Ah (ed (lD (ts:=["_law_p"]) (fr:=[]) (js:=[]) (i5 (ah 0)) (λ_ _ _ _=>(gs (i:=0) (show S' (["_law_p"]:ZQ) by decide +kernel) rfl (SF rfl))) (λ_ _ _ _=>ju) (λ_ _ _ _=>(a8 (Jp B Y) ak (aA (ah 0) a1))) ⟨rfl,by decide +kernel,rfl,by decide +kernel,h7 (Tb _),iF rfl,by walk_at "ffr",rfl⟩)) rfl (by rfl) B.all_))))))) (bH (cB iD)) fO) (ba (v5 1 (v4 (i:=1) CC.nd rfl rfl (ts:=["_law_k"]) (fr:=["_law_ring"]) (js:=[0]) (zP (ms (ah 0) (by rfl) B.len_) (by rfl) B.range_) (λ_ _ _ _=>(gs (i:=0) (show S' (["_law_k","_law_ring"]:ZQ) by decide +kernel) rfl (SF rfl))) (λ_ _ _ _=>ju) (λ_ _ _ _=>(a8 (Jo B Y) ak (aA (jp (ah 1) (gR (ah 0) bb) (λ_ _=>rfl)) (aA (jp (ah 1) (gR (ah 0) bb) (λ_ _=>rfl)) (aA (jp (ah 1) (ah 0) (λ_ _=>rfl)) a1))))) ⟨rfl,by decide +kernel,rfl,by decide +kernel,h7 (Tj.mpr ⟨rfl,(Tb _)⟩),iF rfl,by walk_at "ffr",rfl⟩)) (ba (v5 2 (v4 (i:=2) CC.nd rfl rfl (ts:=["_law_k"]) (fr:=["_law_ring"]) (js:=[0]) (Qe bb (gR (ms (ah 0) (by rfl) B.len_) bb) (by rfl) B.range_) (λ_ _ _ _=>(gs (i:=0) (show S' (["_law_k","_law_ring"]:ZQ) by decide +kernel) rfl (SF rfl))) (λ_ _ _ _=>ju) (λ_ _ _ _=>(a8 (Jo B Y) ak (aA (ei 1) (aA (jp (ah 1) (ah 0) (λ_ _=>rfl)) (aA (jp (ah 1) (hq (ah 0) bb) (λ_ _=>rfl)) a1))))) ⟨rfl,by decide +kernel,rfl,by decide +kernel,h7 (Tj.mpr ⟨rfl,(Tb _)⟩),iF rfl,by walk_at "ffr",rfl⟩)) (bH (cB (sE (Ey (ak.units) iD (ah 1) (by rfl)) (vF (Ey (ak.units) iD (ah 2) (by rfl))))))))),?_⟩);rintro as k ao ⟨ps,rfl,ao,cv,ae,ag⟩;refine c6 rfl ?_;have gH:75<=TT:=by decide
 have df:=cv.1;have len:(ps.map aS).length=ps.length:=Sw ..;have dG:∀n,n<ps.length->eA 2950 (cK ps n):=λn h=>ae _ (wc h);refine oD (λN aL=>?_) ?_
 ·refine⟨_,rfl,_,_,rfl,λ_=>rfl,_,rfl,gP ?_⟩;refine⟨_,rfl,_,rfl,_,_,rfl,rfl,_,rfl,gQ (λg=>by rw[len]at g;lia) (λ_=>?_)⟩;refine⟨_,rfl,_,rfl,by rw[len];lia,?_⟩;refine kK (f:=aS) (h:=λ_=>D.bl true) (λp av k ag=>⟨_,rfl,rfl,p,rfl,(ae p av).pt,ag⟩) ?_;exact⟨_,rfl,λd hd=>by obtain⟨_,_,e⟩:=SJ.mp hd;exact e.symm,_,rfl,gP aL⟩
 refine d8 (λρ=>ρ=[.val (.lst (ps.map aS)),.val (.lst ((SV ps.length).map λ_=>D.bl true)),.no]) ?_ (λN aL=>?_);rotate_left
 ·refine⟨_,rfl,_,rfl,_,rfl,by lia,by rw[len];lia,by rw[Sw,Ut];lia,?_⟩;rw[len,show((ps.length:Nat):Int).toNat=ps.length by lia];refine kK (f:=λt:Nat=>D.int t) (h:=λ_=>D.bl true) (λi au k ag=>?_) ⟨_,rfl,aL _ rfl⟩;have au:=TV.mp au;refine⟨_,rfl,_,rfl,_,_,rfl,rfl,_,_,_,.inr rfl,rfl,Rk au (by lia),?_⟩;refine⟨_,rfl,_,rfl,_,_,rfl,rfl,_,_,_,.inr rfl,rfl,Fp au,?_⟩;refine⟨_,rfl,_,rfl,_,_,_,.inr rfl,rfl,rh au,rfl,_,_,_,rfl,(dG _ (Uv _ (by lia))).bp,(dG _ (Uv _ (by lia))).bp,(dG _ au).bp,?_⟩;rw[Xy (cv.turn au)];exact ag
 rintro ρ rfl;refine d8 (λρ=>ρ=[.val (.lst (ps.map aS)),.val (.lst ((SV ps.length).map λ_=>D.bl true)),.val (.lst ((SV (ps.length-2)).map λ_=>D.bl true))]) ?_ (λN aL=>?_);rotate_left
 ·walk_at "w"
  have Jq:∀t:Nat,t+1<ps.length->ej (ps.map aS) (1+(t:Int))=some (aS (cK ps (t+1))):=λt h=>by
   rw[show(1+(t:Int))=((t+1:Nat):Int) by lia];exact rh h
  refine⟨⟨by decide,by decide,by rw[len];lia,by rw[len];lia⟩,by rw[Sw,Ut,len];lia,?_⟩;rw[len,show((ps.length:Int)-1-1).toNat=ps.length-2 by lia];refine kK (f:=λt:Nat=>D.int (1+t)) (h:=λ_=>D.bl true) (λi au k ag=>?_) ⟨_,rfl,aL _ rfl⟩;have au:=TV.mp au;refine⟨_,rfl,_,_,_,.inr rfl,rfl,rh (n:=0) (by lia),?_⟩;refine⟨_,rfl,_,rfl,_,_,_,.inr rfl,rfl,Jq i (by lia),?_⟩;refine⟨_,rfl,_,rfl,_,_,rfl,rfl,_,_,_,.inr rfl,rfl,by rw[show(1+(i:Int)+1)=(1+((i+1:Nat):Int)) by lia];exact Jq (i+1) (by lia),rfl,_,_,_,rfl,(dG 0 (by lia)).bp,(dG (i+1) (by lia)).bp,(dG (i+2) (by lia)).bp,?_⟩;rw[Xy (cv.fan (k:=i+1) (by lia) (by lia))];exact ag
 rintro ρ rfl
 have Jr:∀n:Nat,¬D.bl false∈(SV n).map λ_=>D.bl true:=λn h=>by
  obtain⟨_,_,e⟩:=SJ.mp h;cases e
 have eH:∀n:Nat,∀e∈(SV n).map (λ_=>D.bl true),has .B e=true:=λn e h=>by
  obtain⟨_,_,rfl⟩:=SJ.mp h;rfl
 refine⟨_,rfl,.B,_,.inl rfl,rfl,eH _,by decide,λb ab=>?_⟩
 have dY:b=false:=by
  cases b with
  |false=>rfl
  |true=>exact absurd (ab.mp rfl) (Jr _)
 subst dY;refine⟨_,rfl,?_⟩;rw[SL rfl];refine⟨_,rfl,.B,_,.inl rfl,rfl,eH _,by decide,λb ab=>?_⟩
 have dY:b=false:=by
  cases b with
  |false=>rfl
  |true=>exact absurd (ab.mp rfl) (Jr _)
 subst dY;exact ag
theorem Js :
  cf P w K mg base "_law_first" ["_law_piece"] 4 (cl K 1 Ji):=by
 refine dh Y.f_law_first nX rfl (λ_ _ _ _ _ _ _ ak=>⟨_,(ba (jP (ah 0) (gE (n:=3) rfl (c0 (c9 1 nX.nd) (c0 (c9 2 nX.nd) (c0 (c9 3 nX.nd) gD))))) (ba (cT 4 nX.nd (gR bb (cO bb (MX (ah 2) (by rfl) B.int_)))) (ba (mw (i:=5) nX.nd rfl (SF rfl) (gS b9)) (ba (mx PassesOwn.never rfl (i5 (ah 1)) (c9 6 nX.nd) (ba (cT 7 nX.nd (gR (cO (ei 6) (ei 3)) (cO (ei 3) (ei 6)))) (ba (cT 8 nX.nd (gR (cO (ei 6) (ei 3)) (cO (ei 3) (ei 6)))) (bH (nq 5 (a8 (CL B Y) ak (aA (cO (ah 4) (ah 7)) (aA (cO (ah 4) (ah 8)) (aA (cO (ei 6) (ei 3)) a1))))))))) (mv 5 (bH (cB (ah 5)))))))),?_⟩);rintro as k ao ⟨s,rfl,ao,ae,aj,ag⟩;refine c6 rfl ?_;have gH:75<=TT:=by decide
 have h1:=aj.bp.a;have h2:=aj.bp.b;have aF:=aj.bp.c;refine⟨_,rfl,_,rfl,rfl,_,_,rfl,_,_,rfl,_,_,rfl,rfl,?_⟩;walk_at "w"
 have wk:(if s.2.1=true then(1:Int)else 0)=0\/(if s.2.1=true then(1:Int)else 0)=1:=by
  cases s.2.1<;>simp
 have adj:wp (if s.2.1=true then(1:Int)else 0)<=9:=by rcases wk with e|e<;>rw[e]<;>decide
 have h4:wp (1-2*(if s.2.1=true then(1:Int)else 0))<=9:=by rcases wk with e|e<;>rw[e]<;>decide
 refine .inr ⟨s.2.1,rfl,2,_,rfl,rfl,⟨by decide,aR adj⟩,1,_,rfl,rfl,?_⟩
 have ag:k (.val (.lst ((s.1.map λp=>cC ((1-2*(if s.2.1=true then 1 else 0))*(p.1*s.2.2.2.2-s.2.2.1*p.2.2)) ((1-2*(if s.2.1=true then 1 else 0))*(p.2.1*s.2.2.2.2-s.2.2.2.1*p.2.2)) (p.2.2*s.2.2.2.2)).map aS))):=by
  rw[o0]at ag;have e:(s.1.map λp=>cC ((1-2*(if s.2.1=true then 1 else 0))*(p.1*s.2.2.2.2-s.2.2.1*p.2.2)) ((1-2*(if s.2.1=true then 1 else 0))*(p.2.1*s.2.2.2.2-s.2.2.2.1*p.2.2)) (p.2.2*s.2.2.2.2))=s.1.map λp=>if s.2.1=true then trn (nP (sld (trn s.2.2) p))else nP (sld (trn s.2.2) p):=TM λp av=>Rm (ae p av).pt aj.pt s.2.1
  rw[e];exact ag
 dsimp only;generalize(1-2*(if s.2.1=true then(1:Int)else 0))=g at h4 ag⊢;refine c6 rfl ?_;walk_at "wd";refine oH (f:=aS) (rs:=s.1) (done:=[]) (λpre ρ=>∃hj hk eO,ρ=[.val (cY s),.val (.lst (s.1.map aS)),.val (.bl s.2.1),.val (aS s.2.2),.val (.int g),.own ((pre.map λp=>cC (g*(p.1*s.2.2.2.2-s.2.2.1*p.2.2)) (g*(p.2.1*s.2.2.2.2-s.2.2.2.1*p.2.2)) (p.2.2*s.2.2.2.2)).map aS),hj,hk,eO]) ⟨_,_,_,rfl⟩ ?_ (λρ h=>?_);rotate_left
 ·obtain⟨hj,hk,eO,rfl⟩:=h;exact⟨_,rfl,_,rfl,ag⟩
 rintro pre p rest ρ ax ⟨hj,hk,eO,rfl⟩ N aL;have av:p∈s.1:=by rw[Ta]at ax;rw[ax];simp
 have bj:=(ae p av).bp.a;have c5:=(ae p av).bp.b;have fX:=(ae p av).bp.c;have cm:pre.length<s.1.length:=by rw[Ta]at ax;rw[ax,SH,SK];lia
 walk_at "w";refine⟨_,_,_,rfl,SE (ae p av).pt.1 aj.pt.1,by walk_at "bits",?_⟩;dsimp only[bU];refine⟨by rw[Sw,Sw];lia,aL _ ⟨.val (aS p),.val (.int (p.1*s.2.2.2.2-s.2.2.1*p.2.2)),.val (.int (p.2.1*s.2.2.2.2-s.2.2.2.1*p.2.2)),?_⟩⟩;rw[SI,SI];rfl
theorem adk :
  cf P w K mg base "_law_kept" ["_law_olds","_law_news"] 6 (cl K 2 ace):=by
 refine dh Y.f_law_kept CD rfl (λ_ _ _ _ _ _ _ ak=>⟨_,(ba (mx PassesOwn.never rfl (zO (db (aV iD (aV iD b9)))) (gs (i:=2) CD.nd rfl (SP rfl)) (ba (v5 3 (v4 (i:=3) CD.nd rfl rfl (ts:=["_law_piece"]) (fr:=["_law_flag"]) (js:=[2]) (i5 (ah 1)) (λ_ _ _ _=>(gs (i:=0) (show S' (["_law_piece","_law_flag"]:ZQ) by decide +kernel) rfl (SF rfl))) (λ_ _ _ _=>(ER (z2 (ak.units) (ei 0) (ah 1) (d6 _)))) (λ_ _ _ _=>(a8 (Js B Y) ak (aA (ah 0) a1))) ⟨rfl,by decide +kernel,rfl,by decide +kernel,h7 (Tj.mpr ⟨rfl,(Tb _)⟩),iF rfl,by walk_at "ffr",rfl⟩)) (bH (fF (hI (hH (a8 (Jn B Y) ak (aA (ah 3) (aA (ed (lD (ts:=["_law_piece"]) (fr:=["_law_flag"]) (js:=[2]) (i5 (ah 0)) (λ_ _ _ _=>(gs (i:=0) (show S' (["_law_piece","_law_flag"]:ZQ) by decide +kernel) rfl (SF rfl))) (λ_ _ _ _=>(ER (z2 (ak.units) (ei 0) (ah 1) (d6 _)))) (λ_ _ _ _=>(a8 (Js B Y) ak (aA (ah 0) a1))) ⟨rfl,by decide +kernel,rfl,by decide +kernel,h7 (Tj.mpr ⟨rfl,(Tb _)⟩),iF rfl,by walk_at "ffr",rfl⟩)) a1))))) (bH (cB iD)) fO)))) (bH (cB iD))),?_⟩);rintro as k ao ⟨os,ns,rfl,aB,aN,m9,oi,bal,ag⟩;refine c6 rfl ?_;have gH:1000<=TT:=by decide
 refine d8 (λρ=>∃ev ah,ρ=[.val (.lst (os.map cY)),.val (.lst (ns.map cY)),ev,ah]) ?_ (λN aL=>?_)
 ·rintro ρ ⟨ev,ah,rfl⟩;exact ag
 refine⟨gJ,_,rfl,?_⟩;refine oH (f:=D.bl) (rs:=[false,true]) (done:=[]) (λ_ ρ=>∃ev ah,ρ=[.val (.lst (os.map cY)),.val (.lst (ns.map cY)),ev,ah]) ⟨_,_,rfl⟩ ?_ (λρ h=>aL _ h);clear aL;rintro pre b rest ρ ax ⟨ev,ah,rfl⟩ N aL
 have flt:∀(L:ZI),(∀s∈L,jf s)->L.length<=200->∀(k:ZK->Prop),k (((L.filter λs=>s.2.1==b).map fG).map kk)->he (e3 0) (pN (vV false (zK (gq 0) (pM (D.int 1))) (gq 1))) (oy 1 Ji (kI (gq 0) vH)) (L.map cY) [.no,.val (.bl b)] k:=λL e1 ao k ag=>by
  refine A1 (f:=cY) (h:=λs=>kk (fG s)) (P:=λs=>s.2.1==b) (λs av k ag=>?_) (λs av k ag=>?_) (by rw[SQ]at ag;exact ag)
  ·refine⟨_,rfl,_,_,_,.inl rfl,rfl,rfl,_,rfl,.B,rfl,rfl,by decide,_,rfl,?_⟩;rw[Rn];exact ag
  ·have k4:=e1 s av;exact⟨_,rfl,rfl,s,rfl,aR k4.ln,λp ae=>(k4.ps p ae),k4.st.mono (by decide),ag⟩
 have sz:∀(L:ZI),(∀s∈L,jf s)->L.length<=200->((((L.filter λs=>s.2.1==b).map fG)).map S1).sum<=3600:=λL e1 ao=>by
  rw[SQ]
  have:=w6 (f:=S1∘fG) (m:=18) (l:=L.filter λs=>s.2.1==b) λs av=>by
   show(fG s).length<=18
   rw[G4];exact(e1 s (Up.mp av).1).ln
  have a7:=Vs (λs:aK=>s.2.1==b) L;lia
 have rg:∀(L:ZI),(∀s∈L,jf s)->∀ps∈(L.filter λs=>s.2.1==b).map fG,nG ps:=λL e1 ps ae=>by
  obtain⟨s,av,rfl⟩:=SJ.mp ae;exact(e1 s (Up.mp av).1).first.1
 refine d8 (λρ=>ρ=[.val (.lst (os.map cY)),.val (.lst (ns.map cY)),.val (.bl b),.val (.lst (((ns.filter λs=>s.2.1==b).map fG).map kk))]) ?_ (λpi iT=>?_);rotate_left
 ·refine⟨_,rfl,_,rfl,by rw[Sw];lia,?_⟩;exact flt ns oi aN _ ⟨_,rfl,iT _ rfl⟩
 rintro ρ rfl;refine⟨_,rfl,_,rfl,_,rfl,by rw[Sw];lia,?_⟩;refine flt os m9 (by lia) _ ?_
 have z1:((((os.filter λs=>s.2.1==b).map fG)).map S1).sum<=180:=by
  rw[SQ]
  have:=w6 (f:=S1∘fG) (m:=18) (l:=os.filter λs=>s.2.1==b) λs av=>by
   show(fG s).length<=18
   rw[G4];exact(m9 s (Up.mp av).1).ln
  have a7:=Vs (λs:aK=>s.2.1==b) os;lia
 have aY:=sz ns oi aN;exact⟨rfl,_,_,rfl,rg ns oi,rg os m9,by lia,bal b,_,rfl,gP (aL _ ⟨_,_,rfl⟩)⟩
theorem adl :
  cf P w K mg base "_law_lies" ["_law_sheet_here","_law_ring"] 6 (cl K 2 acf):=by
 refine dh Y.f_law_lies Jj rfl (λ_ _ _ _ _ _ _ ak=>⟨_,(ba (fF (hI (hH (nl (T:="list") (ah 0) (by rfl) B.isinstance_ (m3 (v:=.ty "list") (u:=.type "list") (by rfl) B.list_ (by decide +kernel) rfl) rfl rfl rfl))) (bH (cB iD)) fO) (ba (mx PassesOwn.never rfl (i5 (ah 0)) (c9 2 Jj.nd) (ba (fF (ni (w_or (hI (hH (nl (T:="tuple") (ah 2) (by rfl) B.isinstance_ (m3 (v:=.ty "tuple") (u:=.type "tuple") (by rfl) B.tuple_ (by decide +kernel) rfl) rfl rfl rfl))) (w_or (gr (f:=λi j => !decide (i=j)) sy (ms (ah 2) (by rfl) B.len_) bb (d6 _)) (ov (hI (hH (nl (T:="bool") (ei 2) (by rfl) B.isinstance_ (m3 (v:=.ty "bool") (u:=.type "bool") (by rfl) B.bool_ (by decide +kernel) rfl) rfl rfl rfl))))))) (bH (cB iD)) fO) (bH (fF (ni (w_or (hI (hH (a8 (adi B Y) ak (aA (ei 2) a1)))) (ov (hI (hH (a8 (Jp B Y) ak (aA (ei 2) a1))))))) (bH (cB iD)) fO)))) (bH (cB (a8 (Jn B Y) ak (aA (ed (lD (ts:=["_law_piece"]) (fr:=[]) (js:=[]) (i5 (ah 0)) (λ_ _ _ _=>(gs (i:=0) (show S' (["_law_piece"]:ZQ) by decide +kernel) rfl (SF rfl))) (λ_ _ _ _=>ju) (λ_ _ _ _=>(ei 0)) ⟨rfl,by decide +kernel,rfl,by decide +kernel,h7 (Tb _),iF rfl,by walk_at "ffr",rfl⟩)) (aA (ed (gS (aV (ah 1) b9))) a1))))))),?_⟩);rintro as k ao ⟨sh,qs,rfl,ao,aj,ay,bal,ag⟩;refine c6 rfl ?_;have gH:1000<=TT:=by decide
 refine oD (λN aL=>?_) ?_
 ·exact⟨_,rfl,_,_,rfl,λ_=>rfl,_,rfl,gP aL⟩
 refine d8 (λρ=>∃ev,ρ=[.val (.lst (sh.map cY)),.val (.lst (qs.map aS)),ev]) ?_ (λN aL=>?_);rotate_left
 ·refine⟨_,rfl,_,rfl,?_⟩;refine oH (f:=cY) (rs:=sh) (done:=[]) (λ_ ρ=>∃ev,ρ=[.val (.lst (sh.map cY)),.val (.lst (qs.map aS)),ev]) ⟨_,rfl⟩ ?_ (λρ h=>aL _ h);rintro pre s rest ρ ax ⟨ev,rfl⟩ N aL;have k4:=aj s (by rw[Ta]at ax;rw[ax];simp);refine oD (λpi iT=>?_) ?_
  ·refine⟨_,rfl,_,_,rfl,λ_=>rfl,_,rfl,gP ?_⟩;refine⟨_,rfl,_,rfl,_,_,rfl,rfl,_,rfl,gP ?_⟩;exact⟨_,rfl,_,_,_,.inl rfl,rfl,rfl,_,_,rfl,λ_=>rfl,_,rfl,gP iT⟩
  refine⟨_,rfl,_,_,_,.inl rfl,rfl,rfl,rfl,s.1,rfl,aR k4.ln,k4.cv,λp ae=>(k4.ps p ae).mono (by decide),_,rfl,gP ?_⟩;exact⟨_,rfl,_,_,_,.inl rfl,rfl,rfl,rfl,s.2.2,rfl,k4.st.pt,_,rfl,gP (aL _ ⟨_,rfl⟩)⟩
 rintro ρ ⟨ev,rfl⟩;refine⟨_,rfl,_,rfl,by rw[Sw];lia,?_⟩;refine kK (f:=cY) (h:=λs=>kk s.1) (λs av k ag=>⟨_,rfl,_,_,_,.inl rfl,rfl,rfl,ag⟩) ?_;have f3:=w6 (f:=λs:aK=>s.1.length) (m:=18) (l:=sh) λs av=>(aj s av).ln;refine⟨_,rfl,l9,rfl,sh.map (λs=>s.1),[qs],by rw[SQ];rfl,?_,?_,?_,bal,ag⟩
 ·intro ps ae;obtain⟨s,av,rfl⟩:=SJ.mp ae;exact(aj s av).rg
 ·intro ps ae;rw[SM.mp ae];exact ay
 ·rw[SQ];have e:(sh.map (S1∘λs=>s.1)).sum=(sh.map λs:aK=>s.1.length).sum:=rfl;have:=ay.1;rw[e];simp only[SD,Tz,SN,Ux];lia
theorem xU :
  cf P w K mg base "_law_product" ["_law_one","_law_other"] 4 (cl K 2 ach):=by
 refine dh Y.f_law_product acg rfl (λ_ _ _ _ _ _ _ ak=>⟨_,(bH (cB (a8 (xT B Y) ak (aA (cO (ei 0) (ei 1)) (aA (cO (ei 0) (ei 1)) a1))))),?_⟩);rintro as k ao ⟨r,s,rfl,h1,h2,bc,bg,dP,fa,ag⟩;refine c6 rfl ?_;walk_at "w";exact⟨_,_,rfl,SE h1 h2,by walk_at "bits",ag⟩
theorem Jt :
  cf P w K mg base "_law_less" ["_law_one","_law_other"] 4 (cl K 2 acj):=by
 refine dh Y.f_law_less aci rfl (λ_ _ _ _ _ _ _ ak=>⟨_,(bH (cB (a8 (xT B Y) ak (aA (gR (cO (ei 0) (ei 1)) (cO (ei 1) (ei 0))) (aA (cO (ei 0) (ei 1)) a1))))),?_⟩);rintro as k ao ⟨r,s,rfl,h1,h2,bc,bg,dP,fa,ag⟩;refine c6 rfl ?_;walk_at "w";exact⟨_,_,rfl,SE h1 h2,by walk_at "bits",ag⟩
theorem CO :
  cf P w K mg base "_law_pin" ["_law_x","_law_y"] 4 (cl K 2 acl):=by
 refine dh Y.f_law_pin ack rfl (λ_ _ _ _ _ _ _ ak=>⟨_,(bH (cB (a8 (CL B Y) ak (aA (cO (ei 0) (ei 1)) (aA (cO (ei 1) (ei 0)) (aA (cO (ei 0) (ei 1)) a1)))))),?_⟩);rintro as k ao ⟨r,s,rfl,h1,h2,bc,bg,dP,fa,ag⟩;refine c6 rfl ?_;walk_at "w";exact⟨_,_,_,rfl,SE h1 h2,by walk_at "bits",ag⟩
theorem CP :
  cf P w K mg base "_law_box" ["_law_wide","_law_high"] 5 (cl K 2 acn):=by
 refine dh Y.f_law_box acm rfl (λ_ _ _ _ _ _ _ ak=>⟨_,(bH (cB (ed (gS (aV (db (aV bb (aV bb (aV bb b9)))) (aV (a8 (CO B Y) ak (aA (ah 0) (aA (db (aV bb (aV bb b9))) a1))) (aV (a8 (CO B Y) ak (aA (ah 0) (aA (ah 1) a1))) (aV (a8 (CO B Y) ak (aA (db (aV bb (aV bb b9))) (aA (ah 1) a1))) b9)))))))),?_⟩);rintro as k ao ⟨w,h,rfl,a6,a7,bc,bg,dP,fa,ag⟩;refine c6 rfl ?_;have ex:cC (w.1*1) (0*w.2) (w.2*1)=(w.1,0,w.2):=by rw[U6,T3,U6];exact E2 (Fn a6)
 have gn:cC (0*h.2) (h.1*1) (1*h.2)=(0,h.1,h.2):=by rw[T3,U6,Wl];exact E2 (Fo a7)
 refine⟨n2,?_⟩;refine⟨_,rfl,gJ,rfl,w,(0,1),rfl,a6.1,by decide,aR bc,aR bg,by decide,by decide,?_⟩;dsimp only[bU];rw[ex];refine⟨_,rfl,_,rfl,rfl,w,h,rfl,a6.1,a7.1,aR bc,aR bg,aR dP,aR fa,?_⟩;dsimp only[bU];refine⟨gJ,_,rfl,rfl,(0,1),h,rfl,by decide,a7.1,by decide,by decide,aR dP,aR fa,?_⟩;dsimp only[bU];rw[gn];exact⟨by show 4<=TT;decide,ag⟩
theorem Ju :
  cf P w K mg base "_law_is_low" ["_law_found"] 3 (cl K 1 acp):=by
 refine dh Y.f_law_is_low aco rfl (λ_ _ _ _ _ _ _ ak=>⟨_,(ba (fF (ni (w_or (hI (hH (nl (T:="tuple") (ah 0) (by rfl) B.isinstance_ (m3 (v:=.ty "tuple") (u:=.type "tuple") (by rfl) B.tuple_ (by decide +kernel) rfl) rfl rfl rfl))) (w_or (gr (f:=λi j => !decide (i=j)) sy (ms (ah 0) (by rfl) B.len_) bb (d6 _)) (w_or (hI (hH (a8 (CN B Y) ak (aA (ei 0) a1)))) (ov (hI (hH (a8 (CN B Y) ak (aA (ei 0) a1))))))))) (bH (cB iD)) fO) (bH (cB (sE (ou (f:=λi j=>decide (j<i)) qM (ei 0) bb (d6 _)) (sE (ou (f:=λi j=>decide (j<i)) qM (ei 0) bb (d6 _)) (vF (ou (f:=λi j=>decide (i=j)) mj (a8 (ph B Y) ak (aA (ei 0) (aA (ei 0) a1))) bb (d6 _)))))))),?_⟩);rintro as k ao ⟨r,rfl,ao,h0,ag⟩;refine c6 rfl ?_;have oI:((Ak r.1 r.2:Nat):Int)=1:=by rw[ao.2];rfl
 have dB:=ao.1;refine oD (λN aL=>?_) ?_
 ·refine⟨_,rfl,_,_,rfl,λ_=>rfl,_,rfl,gP ?_⟩;refine⟨_,rfl,_,rfl,_,_,rfl,rfl,_,rfl,gP ?_⟩;refine⟨_,rfl,_,_,_,.inl rfl,rfl,rfl,rfl,r.1,rfl,_,rfl,gP ?_⟩;exact⟨_,rfl,_,_,_,.inl rfl,rfl,rfl,rfl,r.2,rfl,_,rfl,gP aL⟩
 walk_at "w";rw[SL (Xy h0)];walk_at "w";rw[SL (Xy dB)];walk_at "w";refine⟨_,_,rfl,?_⟩;dsimp only[bU];rw[oI];exact⟨_,_,rfl,rfl,ag⟩
theorem adm :
  cf P w K mg base "_law_is_box" ["_law_found"] 7 (cl K 1 acr):=by
 refine dh Y.f_law_is_box acq rfl (λ_ _ _ _ _ _ _ ak=>⟨_,(ba (fF (ni (w_or (hI (hH (nl (T:="tuple") (ah 0) (by rfl) B.isinstance_ (m3 (v:=.ty "tuple") (u:=.type "tuple") (by rfl) B.tuple_ (by decide +kernel) rfl) rfl rfl rfl))) (w_or (gr (f:=λi j => !decide (i=j)) sy (ms (ah 0) (by rfl) B.len_) bb (d6 _)) (w_or (hI (hH (a8 (Ju B Y) ak (aA (ei 0) a1)))) (ov (hI (hH (a8 (Ju B Y) ak (aA (ei 0) a1))))))))) (bH (cB iD)) fO) (bH (cB (a8 (adl B Y) ak (aA (ei 0) (aA (a8 (CP B Y) ak (aA (ei 0) (aA (ei 0) a1))) a1)))))),?_⟩);rintro as k ao ⟨w,h,sh,rfl,a6,a7,bc,bg,dP,fa,w0,h0,ao,aj,bal,ag⟩;refine c6 rfl ?_;refine oD (λN aL=>?_) ?_
 ·refine⟨_,rfl,_,_,rfl,λ_=>rfl,_,rfl,gP ?_⟩;refine⟨_,rfl,_,rfl,_,_,rfl,rfl,_,rfl,gP ?_⟩;refine⟨_,rfl,_,_,_,.inl rfl,rfl,rfl,rfl,w,rfl,a6,w0,_,rfl,gP ?_⟩;exact⟨_,rfl,_,_,_,.inl rfl,rfl,rfl,rfl,h,rfl,a7,h0,_,rfl,gP aL⟩
 refine⟨_,rfl,_,_,_,.inl rfl,rfl,rfl,_,rfl,_,_,_,.inl rfl,rfl,rfl,_,rfl,_,_,_,.inl rfl,rfl,rfl,rfl,w,h,rfl,a6,a7,aR bc,aR bg,aR dP,aR fa,?_⟩;dsimp only[bU];exact⟨rfl,sh,fo w h,rfl,ao,aj,abW ⟨a6,a7,w0,h0⟩ bc bg dP fa,bal,ag⟩
theorem Jv :
  cf P w K mg base "_law_size" ["_law_bag_here"] 4 (cl K 1 act):=by
 refine dh Y.f_law_size acs rfl (λ_ _ _ _ _ _ _ ak=>⟨_,(ba (fF (gr (f:=λi j=>decide (i=j)) mj (a8 (n0 B Y) ak (jO 0 (aA bb a1))) bb (d6 _)) (bH (cB (a8 (xT B Y) ak (aA (hq bb (a8 (n0 B Y) ak (jO 0 (aA bb a1)))) (aA (hq bb (a8 (n0 B Y) ak (jO 0 (aA bb a1)))) a1))))) fO) (bH (cB (a8 (xT B Y) ak (aA (hq bb (a8 (n0 B Y) ak (jO 0 (aA bb a1)))) (aA (hq bb (a8 (n0 B Y) ak (jO 0 (aA bb a1)))) a1)))))),?_⟩);rintro as k ao ⟨rfl,ag⟩;refine c6 rfl ?_
 have fU:∀t b:Int,0<t->0<b->wp t<=10->wp b<=10->k (.val (dR (cg t b))):=λt b oP b0 k5 xn=>by
  obtain⟨l,e,aO,bz⟩:=gG (t:=t) (b:=b) (Sz b0);refine ag _ l ?_ (dO aO k5) (dO bz xn);have:0<(cg t b).1*b:=by rw[e];exact SE oP l.1
  exact U1 this b0
 have rX:∀x:Int,0<=x->x<=1000->wp x<=10:=λx ce bC=>intBits_le_iff.mpr (by show x.natAbs<1024;lia);walk_at "w";intro c h9 c1;walk_at "wd";refine gQ (λ_=>?_) (λ_=>?_)
 ·walk_at "w";intro x ce bC;walk_at "w";intro y bZ bx;walk_at "w";exact⟨1+x,1+y,rfl,by lia,SA (rX (1+y) (by lia) (by lia)) (by decide),fU _ _ (by lia) (by lia) (rX _ (by lia) (by lia)) (rX _ (by lia) (by lia))⟩
 ·walk_at "w";intro x ce bC;walk_at "w";intro y bZ bx;walk_at "w";exact⟨1+x,1+y,rfl,by lia,SA (rX (1+y) (by lia) (by lia)) (by decide),fU _ _ (by lia) (by lia) (rX _ (by lia) (by lia)) (rX _ (by lia) (by lia))⟩
theorem Jw :
  cf P w K mg base "_law_lines" ["_law_bag_here","_law_size_here","_law_most"] 5 (cl K 3 acu):=by
 refine dh Y.f_law_lines CE rfl (λ_ _ _ _ _ _ _ ak=>⟨_,(ba (mw (i:=3) CE.nd rfl (SF rfl) (gS (aV (db (aV bb (aV bb b9))) b9))) (ba (mx PassesOwn.never rfl (i5 (ed (aat rfl (ed (lD (ts:=["_law_k"]) (fr:=["_law_bag_here"]) (js:=[0]) (zP (a8 (n0 B Y) ak (jO 0 (aA (hq (ah 2) bb) a1))) (by rfl) B.range_) (λ_ _ _ _=>(gs (i:=0) (show S' (["_law_k","_law_bag_here"]:ZQ) by decide +kernel) rfl (SF rfl))) (λ_ _ _ _=>ju) (λ_ _ _ _=>(hq bb (a8 (n0 B Y) ak (jO 1 (aA bb a1))))) ⟨rfl,by decide +kernel,rfl,by decide +kernel,h7 (Tj.mpr ⟨rfl,(Tb _)⟩),iF rfl,by walk_at "ffr",rfl⟩)) (by rfl) B.sorted_ (by rfl) B.set_))) (c9 4 CE.nd) (bH (nq 3 (a8 (xU B Y) ak (aA (ah 1) (aA (db (aV (ah 4) (aV bb b9))) a1)))))) (mv 3 (bH (cB (ed (pP (ah 3) (ed (gS (aV (ah 1) b9)))))))))),?_⟩);rintro as k ao ⟨s,m,rfl,uN,c1,c2,av,ag⟩;refine c6 rfl ?_;have cP:2<=TT:=by decide
 have gH:=j1;have iU:∀{z:Int}{a b:Nat},wp z<=a->a<=b->wp z<=b:=λh g=>SA h g;have adn:∀x:Int,0<=x->x<=7->wp x<=1000:=λx ce bC=>SA (intBits_le_iff.mpr (show x.natAbs<2^3 by show x.natAbs<8;lia)) (by decide);refine d8 (λρ=>ρ=[.bag,.val (dR s),.val (.int m),.own (.l (([0]:ZG).map λp=>dR (bu s p))),.no]) ?_ (λN aL=>⟨cP,l9,aL _ (by rw[SD,abJ uN];rfl)⟩);rintro ρ rfl;refine d8 (λρ=>∃(ns:ZG)(v:aQ),ns.Pairwise (· < ·)/\(∀x∈ns,0<x/\x<7)/\ns.length<=m/\ρ=[.bag,.val (dR s),.val (.int m),.own (.l ((0::ns).map λp=>dR (bu s p))),v]) ?_ (λN aL=>?_)
 ·rintro ρ ⟨ns,v,ib,rg,h8,rfl⟩;refine⟨_,rfl,_,rfl,_,rfl,l9,?_⟩
  have e:D.lst ((0::ns).map (λp=>dR (bu s p))++[dR s])=D.lst ((0::(ns++[7])).map λp=>dR (bu s p)):=by
   rw[<-Tp,SI];show _=D.lst (_++[dR (bu s 7)])
   rw[abK uN]
  have jT:=ag (ns++[7]) (Ja rg ib (by decide)) (by rw[SH];show _+1<=_;lia);rw[<-e]at jT;exact⟨_,_,rfl,rfl,by rw[Sw,SK];show _+1<=_;lia,jT⟩
 walk_at "w";intro n dB bX;refine⟨n,rfl,by lia,by lia,by rw[Sw,Ut];lia,?_⟩;refine GK (f:=D.int) (Pp:=λc=>0<c/\c<7) (λd hd k ag=>?_) (λcs f7 hc=>?_)
 ·refine⟨rfl,rfl,_,rfl,by decide,by decide,λc h9 c1=>?_⟩;dsimp only[bU];exact⟨_,_,rfl,rfl,ag (1+c) ⟨by lia,by lia⟩⟩
 rw[Sw,Ut]at f7;refine⟨cs,rfl,by lia,λns bL ib jC=>⟨_,rfl,?_⟩⟩;have rg:∀x∈ns,0<x/\x<7:=λx aq=>hc x ((bL x).mp aq);have h8:ns.length<=m:=SA (I' ib λx aq=>(bL x).mp aq) (by lia);refine oH (f:=D.int) (rs:=ns) (done:=[]) (λpre ρ=>∃v:aQ,ρ=[.bag,.val (dR s),.val (.int m),.own (.l ((0::pre).map λp=>dR (bu s p))),v]) ⟨_,rfl⟩ ?_ (λρ h=>?_);rotate_left
 ·obtain⟨v,rfl⟩:=h;exact aL _ ⟨ns,v,ib,rg,h8,rfl⟩
 rintro pre x rest ρ ax ⟨v,rfl⟩ pi iT;obtain⟨ce,bC⟩:=rg x (by rw[Ta]at ax;rw[ax];simp);dsimp only;refine⟨_,rfl,_,rfl,_,rfl,cP,rfl,s,(x,7),rfl,uN.1,show(0:Int)<7 by decide,iU c1 (by decide),iU c2 (by decide),adn x (by lia) (by lia),show wp 7<=1000 by decide,?_⟩;dsimp only[bU];have ao:(pre++x::rest).length<=m:=by rw[<-ax];exact h8
 rw[SH,SK]at ao;exact⟨by rw[Sw,SK];lia,iT _ ⟨_,by rw[<-Tp,SI];rfl⟩⟩
theorem ado :
  cf P w K mg base "_law_cells" ["_law_bag_here","_law_wide","_law_high"] 6 (cl K 3 acv):=by
 refine dh Y.f_law_cells l5 rfl (λ_ _ _ _ _ _ _ ak=>⟨_,(ba (cT 3 l5.nd (a8 (Jw B Y) ak (jO 0 (aA (ah 1) (aA bb a1))))) (ba (cT 4 l5.nd (a8 (Jw B Y) ak (jO 0 (aA (ah 2) (aA bb a1))))) (ba (mw (i:=5) l5.nd rfl (SF rfl) (gS b9)) (ba (Hu PassesOwn.never rfl (IT (ah 3) (ed (sJ (ah 3) (qY bb) qX)) (by rfl) B.zip_) (gE (n:=2) rfl (c0 (c9 6 l5.nd) (c0 (c9 7 l5.nd) gD))) (bH (Hu PassesOwn.never rfl (IT (ah 4) (ed (sJ (ah 4) (qY bb) qX)) (by rfl) B.zip_) (gE (n:=2) rfl (c0 (c9 8 l5.nd) (c0 (c9 9 l5.nd) gD))) (ba (cT 10 l5.nd (db (aV (a8 (Jt B Y) ak (aA (ah 7) (aA (ah 6) a1))) (aV (a8 (Jt B Y) ak (aA (ah 9) (aA (ah 8) a1))) b9)))) (ba (cT 11 l5.nd (a8 (CL B Y) ak (aA (cO (h3 (ei 6)) (ei 8)) (aA (cO (h3 (ei 8)) (ei 6)) (aA (cO (ei 6) (ei 8)) a1))))) (bH (nq 5 (db (aV (ei 10) (aV (ei 10) (aV (ed (gS (aV (db (aV (a8 (CP B Y) ak (aA (ei 10) (aA (ei 10) a1))) (aV iD (aV (ah 11) b9)))) b9))) b9))))))))))) (mv 5 (ba (cT 12 l5.nd (a8 (n0 B Y) ak (jO 0 (aA (ms (ah 5) (by rfl) B.len_) a1)))) (bH (cB (ed (pP (ed (sJ (ah 5) (qY (ah 12)) qX)) (ed (sJ (ah 5) qX (qY (ah 12)))))))))))))),?_⟩);rintro as k ao ⟨w,h,rfl,lw,lh,w0,h0,c1,c2,c3,c4,ag⟩;refine c6 rfl ?_;have iU:∀{z:Int}{a b:Nat},wp z<=a->a<=b->wp z<=b:=λh g=>SA h g;have cP:2<=TT:=by decide
 have fx:3<=TT:=by decide
 have gH:=j1;refine d8 (λρ=>∃ps:ZG,fK 0 ps 7/\ps.length<=3/\ρ=[.bag,.val (dR w),.val (dR h),.val (.lst ((0::ps).map λp=>dR (bu w p))),.no,.no,.no,.no,.no,.no,.no,.no,.no]) ?_ (λN aL=>?_);rotate_left
 ·refine⟨rfl,_,rfl,rfl,w,2,rfl,lw,c1,c2,by decide,λps r l=>?_⟩;dsimp only[bU];exact aL _ ⟨ps,r,l,rfl⟩
 rintro ρ ⟨ps,ge,iJ,rfl⟩;refine d8 (λρ=>∃qs:ZG,fK 0 qs 7/\qs.length<=2/\ρ=[.bag,.val (dR w),.val (dR h),.val (.lst ((0::ps).map λp=>dR (bu w p))),.val (.lst ((0::qs).map λp=>dR (bu h p))),.no,.no,.no,.no,.no,.no,.no,.no]) ?_ (λN aL=>?_);rotate_left
 ·refine⟨rfl,_,rfl,rfl,h,1,rfl,lh,c3,c4,by decide,λqs r l=>?_⟩;dsimp only[bU];exact aL _ ⟨qs,r,l,rfl⟩
 rintro ρ ⟨qs,nW,hs,rfl⟩;refine d8 (λρ=>ρ=[.bag,.val (dR w),.val (dR h),.val (.lst ((0::ps).map λp=>dR (bu w p))),.val (.lst ((0::qs).map λp=>dR (bu h p))),.own (.l (([]:ZM).map dBx)),.no,.no,.no,.no,.no,.no,.no]) ?_ (λN aL=>⟨S8 _,aL _ rfl⟩);rintro ρ rfl;refine d8 (λρ=>∃hj hk eO eZ v10 v11:aQ,ρ=[.bag,.val (dR w),.val (dR h),.val (.lst ((0::ps).map λp=>dR (bu w p))),.val (.lst ((0::qs).map λp=>dR (bu h p))),.own (.l ((hy w h ps qs).map dBx)),hj,hk,eO,eZ,v10,v11,.no]) ?_ (λN aL=>?_)
 ·rintro ρ ⟨hj,hk,eO,eZ,v10,v11,rfl⟩;refine⟨_,rfl,?_⟩;have len:=I7 (ps:=ps) (qs:=qs) lw lh;have pos:=I3 ge nW;have le:ps.length*qs.length<=6:=SA (WB iJ hs) (by decide);have rY:((hy w h ps qs).map dBx).length=ps.length*qs.length:=by rw[Sw,len]
  refine⟨rfl,_,rfl,_,rfl,rfl,_,rfl,?_⟩;rw[rY];refine⟨by lia,SA (nb (by lia) (by lia)) (show 64<=400 by decide),λd ia bw=>?_⟩;dsimp only[bU];have hd:d<=((hy w h ps qs).map dBx).length:=by rw[rY];lia
  have dN:=EU (xs:=(hy w h ps qs).map dBx) ia hd;have dY:=EV (xs:=(hy w h ps qs).map dBx) ia hd;refine⟨_,rfl,_,rfl,_,rfl,_,rfl,?_⟩;refine⟨_,rfl,_,rfl,_,rfl,_,rfl,_,_,rfl,rfl,?_⟩;rw[dN,dY];have a6:=U9 (l:=(hy w h ps qs).map dBx) (i:=d.toNat);have a7:=U8 (l:=(hy w h ps qs).map dBx) (i:=d.toNat);have jT:=ag ps qs ((hy w h ps qs).drop d.toNat++(hy w h ps qs).take d.toNat) ge nW iJ hs (Wt.trans (by rw[Xh]));rw[SI,List.map_drop,List.map_take]at jT;exact⟨by lia,jT⟩
 refine⟨_,rfl,_,rfl,_,rfl,_,rfl,_,_,rfl,rfl,?_⟩;rw[Jb (λp=>dR (bu w p))];refine By (f:=λp:Int×Int=>dR (bu w p.1)) (g:=λp=>dR (bu w p.2)) (rs:=ga 0 ps) (done:=[]) (λpre ρ=>∃hj hk eO eZ v10 v11:aQ,ρ=[.bag,.val (dR w),.val (dR h),.val (.lst ((0::ps).map λp=>dR (bu w p))),.val (.lst ((0::qs).map λp=>dR (bu h p))),.own (.l (((pre.map λp=>(ga 0 qs).map λq=>hh w h p q).flatten).map dBx)),hj,hk,eO,eZ,v10,v11,.no]) ⟨_,_,_,_,_,_,rfl⟩ ?_ (λρ dE=>aL _ dE);rintro pre p rest ρ ax ⟨hj,hk,eO,eZ,v10,v11,rfl⟩ pi iT;rw[Ta]at ax;have jD:=xO ge (q:=p) (by rw[ax];simp)
 have adp:pre.length<=3:=by
  have:=TW S1 ax;rw[uH,SH]at this;lia
 refine⟨_,rfl,_,rfl,_,rfl,_,rfl,_,_,rfl,rfl,?_⟩;rw[Jb (λp=>dR (bu h p))];refine By (f:=λq:Int×Int=>dR (bu h q.1)) (g:=λq=>dR (bu h q.2)) (rs:=ga 0 qs) (done:=[]) (λxV ρ=>∃eO eZ v10 v11:aQ,ρ=[.bag,.val (dR w),.val (dR h),.val (.lst ((0::ps).map λp=>dR (bu w p))),.val (.lst ((0::qs).map λp=>dR (bu h p))),.own (.l (((pre.map λp=>(ga 0 qs).map λq=>hh w h p q).flatten++xV.map λq=>hh w h p q).map dBx)),.val (dR (bu w p.1)),.val (dR (bu w p.2)),eO,eZ,v10,v11,.no]) ⟨_,_,_,_,by rw[Tz,SO];rfl⟩ ?_ (λρ dE=>?_);rotate_left
 ·obtain⟨eO,eZ,v10,v11,rfl⟩:=dE
  have e:(pre.map λp=>(ga 0 qs).map λq=>hh w h p q).flatten++((ga 0 qs).map λq=>hh w h p q)=((pre++[p]).map λp=>(ga 0 qs).map λq=>hh w h p q).flatten:=by
   rw[SI,List.flatten_append];simp
  exact iT _ ⟨_,_,_,_,_,_,by rw[Ta,e]⟩
 rintro xV q agK ρ kO ⟨eO,eZ,v10,v11,rfl⟩ agL adq;rw[Ta]at kO;have hY:=xO nW (q:=q) (by rw[kO];simp);obtain⟨a6,ai⟩:=g0 lw p.1;obtain⟨a7,ap⟩:=g0 lw p.2;obtain⟨df,br⟩:=g0 lh q.1;obtain⟨jC,cW⟩:=g0 lh q.2;obtain⟨bc,qx⟩:=mV lw c1 c2 jD.1;obtain⟨bg,xQ⟩:=mV lw c1 c2 jD.2.1;obtain⟨dP,pd⟩:=mV lh c3 c4 hY.1;obtain⟨fa,uJ⟩:=mV lh c3 c4 hY.2.1;dsimp only;refine⟨_,rfl,_,rfl,rfl,bu w p.2,bu w p.1,rfl,a7.1,a6.1,iU bg (by decide),iU xQ (by decide),iU bc (by decide),iU qx (by decide),?_⟩;dsimp only[bU];refine⟨_,rfl,_,rfl,rfl,bu h q.2,bu h q.1,rfl,jC.1,df.1,iU fa (by decide),iU uJ (by decide),iU dP (by decide),iU pd (by decide),?_⟩;dsimp only[bU];refine⟨cP,?_⟩;have fu:∀{z:Int},wp z<=13->wp (-z)<=13:=λ{z} hz=>dO (t:=z) (by lia) hz;have gI:∀{y z:Int},wp y<=13->wp z<=13->vq y z:=λaG hz=>⟨iU aG (by decide),iU hz (by decide)⟩;refine⟨_,rfl,_,_,_,.inl rfl,rfl,rfl,_,rfl,_,rfl,_,_,_,.inl rfl,rfl,rfl,_,_,rfl,rfl,gI (fu bc) pd,?_⟩;refine⟨_,rfl,_,_,_,.inl rfl,rfl,rfl,_,rfl,_,rfl,_,_,_,.inl rfl,rfl,rfl,_,_,rfl,rfl,gI (fu dP) qx,?_⟩;refine⟨_,rfl,_,_,_,.inl rfl,rfl,rfl,_,rfl,_,_,_,.inl rfl,rfl,rfl,_,_,rfl,rfl,gI qx pd,?_⟩;refine⟨rfl,_,_,_,rfl,SE a6.1 df.1,SA (TE qx pd) (by decide),?_⟩;dsimp only[bU];obtain⟨bM,aI⟩:=g0 lw (p.2-p.1);obtain⟨cy,aP⟩:=g0 lh (q.2-q.1);obtain⟨bw,Jx⟩:=mV lw c1 c2 jD.2.2.1;obtain⟨bF,Jy⟩:=mV lh c3 c4 hY.2.2.1;rw[<-qw lw]at bM bw Jx;rw[<-qw lh]at cy bF Jy;refine⟨_,rfl,_,rfl,_,_,_,.inl rfl,rfl,rfl,_,rfl,_,_,_,.inl rfl,rfl,rfl,?_⟩;refine⟨_,rfl,_,_,_,.inl rfl,rfl,rfl,_,rfl,_,_,_,.inl rfl,rfl,rfl,rfl,iS (bu w p.2) (bu w p.1),iS (bu h q.2) (bu h q.1),rfl,bM,cy,iU bw (by decide),iU Jx (by decide),iU bF (by decide),iU Jy (by decide),?_⟩;dsimp only[bU];refine⟨_,rfl,fx,l9,fx,?_,adq _ ⟨_,_,_,_,by rw[SI (l₁:=xV),<-S7,SI (l₂:=[q].map _)];rfl⟩⟩;have wJ:=abX (w:=w) (h:=h) (qs:=qs) pre
 have a7:xV.length<=2:=by
  have:=TW S1 kO;rw[uH,SH]at this;lia
 have le:pre.length*qs.length<=6:=SA (WB adp hs) (by decide);rw[Sw,SH,wJ,Sw];lia
theorem lc :
  cf P w K mg base "greatest_divisor" ["one","other"] 2 (cl K 2 acw):=by
 refine dh Y.f_greatest_divisor xR rfl (λ_ _ _ _ _ _ _ ak=>⟨_,(ba (cT 0 xR.nd (vL (ah 0) (by rfl) B.abs_)) (ba (cT 1 xR.nd (vL (ah 1) (by rfl) B.abs_)) (ba (Em PassesOwn.never (gr (f:=λi j => !decide (i=j)) sy (ah 1) bb (d6 _)) (bH (El (i:=0) (j:=1) rfl xR.nd rfl rfl (by decide) rfl rfl (aV (ah 1) (aV (zH (ah 0) (ah 1)) b9)) rfl))) (bH (cB (ah 0)))))),?_⟩);rintro as k ao ⟨a,b,rfl,ag⟩;refine c6 rfl ?_;walk_at "wd";refine⟨λm ρ=>∃(x y:Int),ρ=[.val (.int x),.val (.int y)]/\0<=x/\0<=y/\Ak x y=Ak a b/\m=y.toNat,⟨_,_,_,rfl,?_,?_,DR a b,rfl⟩,?_⟩
 ·split<;>lia
 ·split<;>lia
 rintro m ρ ⟨x,y,rfl,ce,bZ,aD,rfl⟩;walk_at "wd";refine Mt (λg=>?_) (λg=>?_)
 ·have g:0<y:=by lia
  walk_at "wd";have dS:=TS x (show y≠0 by lia);have bm:=T6 x g;exact⟨_,_,rfl,_,by lia,_,_,rfl,bZ,dS,by rw[DQ ce g];exact aD,rfl⟩
 ·subst g;refine⟨_,rfl,?_⟩;rw[<-DS ce,aD];exact ag
theorem xW :
  cf P w K mg base "crossed" ["one","other"] 2 (cl K 2 acx):=by
 refine dh Y.f_crossed qy rfl (λ_ _ _ _ _ _ _ ak=>⟨_,(ba (jP (ah 0) (gE (n:=3) rfl (c0 (c9 2 qy.nd) (c0 (c9 3 qy.nd) (c0 (c9 4 qy.nd) gD))))) (ba (jP (ah 1) (gE (n:=3) rfl (c0 (c9 5 qy.nd) (c0 (c9 6 qy.nd) (c0 (c9 7 qy.nd) gD))))) (bH (cB (db (aV (gR (cO (ah 3) (ah 7)) (cO (ah 4) (ah 6))) (aV (gR (cO (ah 4) (ah 5)) (cO (ah 2) (ah 7))) (aV (gR (cO (ah 2) (ah 6)) (cO (ah 3) (ah 5))) b9)))))))),?_⟩);rintro as k ao ⟨p,q,rfl,bp,hA,ag⟩;refine c6 rfl ?_;have h1:=bp.a;have h2:=bp.b;have aF:=bp.c;have bj:=hA.a;have c5:=hA.b;have fX:=hA.c;walk_at "w";refine⟨_,_,rfl,_,_,rfl,_,_,rfl,rfl,?_⟩;walk_at "w";refine⟨_,_,rfl,_,_,rfl,_,_,rfl,rfl,?_⟩;walk_at "w";exact ag
theorem ads :
  cf P w K mg base "hand_of" ["line","p"] 2 (cl K 2 acy):=by
 refine dh Y.f_hand_of Jk rfl (λ_ _ _ _ _ _ _ ak=>⟨_,(ba (cT 2 Jk.nd (hq (hq (cO (ei 0) (ei 1)) (cO (ei 0) (ei 1))) (cO (ei 0) (ei 1)))) (ba (fF (gr (f:=λi j=>decide (j<i)) qM (ah 2) bb (d6 _)) (bH (cB bb)) fO) (ba (fF (gr (f:=λi j=>decide (i<j)) me (ah 2) bb (d6 _)) (bH (cB (h3 bb))) fO) (bH (cB bb))))),?_⟩);rintro as k ao ⟨c,r,rfl,CQ,mX,ag⟩;refine c6 rfl ?_;have h1:=CQ.a;have h2:=CQ.b;have aF:=CQ.c;have bj:=mX.a;have c5:=mX.b;have fX:=mX.c;walk_at "wd";unfold sg at ag;refine gQ (λg=>?_) (λg=>?_)
 ·rw[SL g]at ag;exact ag
 rw[SZ g]at ag;walk_at "wd";refine gQ (λaP=>?_) (λaP=>?_)
 ·rw[SL aP]at ag;walk_at "w";exact ag
 rw[SZ aP]at ag;exact ag
theorem adt :
  cf P w K mg base "point" ["a","b","n"] 3 (cl K 3 acz):=by
 refine dh Y.f_point CF rfl (λ_ _ _ _ _ _ _ ak=>⟨_,(ba (fF (gr (f:=λi j=>decide (i=j)) mj (ah 2) bb (d6 _)) (bH zN) fO) (ba (cT 3 CF.nd (a8 (lc B Y) ak (aA (a8 (lc B Y) ak (aA (ah 2) (aA (ah 0) a1))) (aA (ah 1) a1)))) (ba (fF (gr (f:=λi j=>decide (i<j)) me (ah 2) bb (d6 _)) (bH (cT 3 CF.nd (h3 (ah 3)))) fO) (bH (cB (db (aV (d7 (ah 0) (ah 3)) (aV (d7 (ah 1) (ah 3)) (aV (d7 (ah 2) (ah 3)) b9))))))))),?_⟩);rintro as k ao ⟨a,b,n,rfl,aN,CM,ag⟩;refine c6 rfl ?_;walk_at "wd";refine gQ (λg=>absurd g aN) (λ_=>?_);walk_at "w";refine⟨_,_,rfl,?_⟩;walk_at "w";refine⟨_,_,rfl,?_⟩;dsimp only[bU];have dG:=EX (a:=a) (b:=b) aN;have ig:=EY (a:=a) (b:=b) aN CM;rw[Os a b n];refine d8 (λρ=>ρ=[.val (.int a),.val (.int b),.val (.int n),.val (.int (kc a b n))]) ?_ (λN aL=>?_)
 ·rintro ρ rfl;have ia:kc a b n≠0:=by unfold kc;split<;>lia
  have xX:wp (kc a b n)<=9000:=by
   unfold kc;split
   ·exact Xz ig
   ·exact ig
  walk_at "w";exact ag
 ·walk_at "wd";refine gQ (λg=>?_) (λg=>?_)
  ·walk_at "w";refine aL _ ?_;unfold kc;rw[SL g];rfl
  ·refine aL _ ?_;unfold kc;rw[SZ g];rfl
theorem adu :
  cf P w K mg base "meet" ["p","q","r","s"] 4 (cl K 4 acA):=by
 refine dh Y.f_meet xS rfl (λ_ _ _ _ _ _ _ ak=>⟨_,(ba (jP (a8 (xW B Y) ak (aA (a8 (xW B Y) ak (aA (ah 0) (aA (ah 1) a1))) (aA (a8 (xW B Y) ak (aA (ah 2) (aA (ah 3) a1))) a1))) (gE (n:=3) rfl (c0 (c9 4 xS.nd) (c0 (c9 5 xS.nd) (c0 (c9 6 xS.nd) gD))))) (ba (fF (gr (f:=λi j=>decide (i=j)) mj (ah 6) bb (d6 _)) (bH zN) fO) (bH (cB (a8 (adt B Y) ak (aA (ah 4) (aA (ah 5) (aA (ah 6) a1)))))))),?_⟩);rintro as k ao ⟨p,q,r,s,rfl,bp,hA,mX,bs,aN,ag⟩;refine c6 rfl ?_;have bc:=bp.crs hA;have bg:=mX.crs bs;have dP:=bc.crs bg;refine⟨_,rfl,_,rfl,rfl,p,q,rfl,bp.mono (by decide),hA.mono (by decide),?_⟩;refine⟨_,rfl,_,rfl,rfl,r,s,rfl,mX.mono (by decide),bs.mono (by decide),?_⟩;refine⟨rfl,_,_,rfl,bc.mono (by decide),bg.mono (by decide),?_⟩;generalize crs (crs p q) (crs r s)=m at *;obtain⟨x,y,z⟩:=m;have aN:z≠0:=aN;have adv:wp z<=9000:=aR dP.c;refine⟨_,rfl,rfl,_,_,rfl,_,_,rfl,_,_,rfl,rfl,?_⟩;walk_at "wd";refine gQ (λg=>absurd g aN) (λ_=>?_);exact⟨_,rfl,_,rfl,_,rfl,rfl,x,y,z,rfl,aN,adv,ag⟩
theorem adw :
  cf P w K mg base "cut_ring" ["ring","p","q"] 5 (cl K 3 acB):=by
 refine dh Y.f_cut_ring nY rfl (λ_ _ _ _ _ _ _ ak=>⟨_,(ba (Ek (i:=3) nY.nd rfl (SP rfl) (a8 (xW B Y) ak (aA (ah 1) (aA (ah 2) a1)))) (ba (v5 5 (v4 (i:=5) nY.nd rfl rfl (ts:=["corner"]) (fr:=["line"]) (js:=[3]) (i5 (ah 0)) (λ_ _ _ _=>(gs (i:=0) (show S' (["corner","line"]:ZQ) by decide +kernel) rfl (SF rfl))) (λ_ _ _ _=>ju) (λ_ _ _ _=>(a8 (ads B Y) ak (aA (ah 1) (aA (ah 0) a1)))) ⟨rfl,by decide +kernel,rfl,by decide +kernel,h7 (Tj.mpr ⟨rfl,(Tb _)⟩),iF rfl,by walk_at "ffr",rfl⟩)) (ba (mw (i:=6) nY.nd rfl (SF rfl) (gS b9)) (ba (mw (i:=7) nY.nd rfl (SF rfl) (gS b9)) (ba (FQ PassesOwn.never rfl (ah 0) (by rfl) B.enumerate_ (gE (n:=2) rfl (c0 (c9 8 nY.nd) (c0 (c9 4 nY.nd) gD))) (ba (fF (gr (f:=λi j=>decide (j<=i)) zd (jp (ah 5) (ah 8) (λ_ _=>rfl)) bb (d6 _)) (bH (nq 6 (ah 4))) fO) (ba (fF (gr (f:=λi j=>decide (i<=j)) Lh (jp (ah 5) (ah 8) (λ_ _=>rfl)) bb (d6 _)) (bH (nq 7 (ah 4))) fO) (ba (cT 9 nY.nd (zH (hq (ah 8) bb) (ms (ah 0) (by rfl) B.len_))) (bH (fF (gr (f:=λi j=>decide (i<j)) me (cO (jp (ah 5) (ah 8) (λ_ _=>rfl)) (jp (ah 5) (ah 9) (λ_ _=>rfl))) bb (d6 _)) (ba (cT 10 nY.nd (a8 (adu B Y) ak (aA (ah 1) (aA (ah 2) (aA (ah 4) (aA (jp (ah 0) (ah 9) (λ_ _=>rfl)) a1)))))) (ba (nq 6 (ah 10)) (bH (nq 7 (ah 10))))) fO)))))) (mv 7 (mv 6 (bH (cB (db (aV (Ec (Ez (ak.units) bb (ah 5) (by rfl)) (ah 6) (ed (gS b9))) (aV (Ec (Ez (ak.units) (h3 bb) (ah 5) (by rfl)) (ah 7) (ed (gS b9))) b9)))))))))))),?_⟩);rintro as k ao ⟨ps,p,q,rfl,bp,hA,ab,ao,ag⟩;refine c6 rfl ?_;have df:=(bp.crs hA).mono (show 300+300+1<=700 by decide);refine⟨_,rfl,_,rfl,rfl,p,q,rfl,bp.mono (by decide),hA.mono (by decide),?_⟩;dsimp only[bU];refine⟨_,rfl,_,rfl,by rw[Sw];exact aR ao,?_⟩;refine kK (f:=aS) (h:=λc=>D.int (sg (ln (crs p q) c))) (fs:=[.val (aS (crs p q))]) (λr ak gt CR=>⟨_,rfl,_,rfl,rfl,crs p q,r,rfl,df.mono (by decide),(ab r ak).1.mono (by decide),CR⟩) ?_;refine⟨_,rfl,?_⟩;walk_at "wd";have Jz:ps.headD (ps.headD (0,0,1))=ps.headD (0,0,1):=by cases ps<;>rfl
 refine AL (f:=aS) (done:=[]) (λpre ρ=>∃il eO eZ v10 rest,ps=pre++rest/\ρ=[.val (.lst (ps.map aS)),.val (aS p),.val (aS q),.val (aS (crs p q)),il,.val (.lst (ps.map λc=>D.int (sg (ln (crs p q) c)))),.own ((dd (ln (crs p q)) (aU (crs p q)) pre (rest.headD (ps.headD (0,0,1)))).map aS),.own ((dd (λc => -ln (crs p q) c) (aU (crs p q)) pre (rest.headD (ps.headD (0,0,1)))).map aS),eO,eZ,v10]) ⟨_,_,_,_,ps,rfl,rfl⟩ ?_ ?_
 ·rintro pre c rest ρ eq ⟨il,eO,eZ,v10,adx,d0,rfl⟩ N aL;have eq:ps=pre++c::rest:=by simpa using eq
  have rG:adx=c::rest:=by rw[d0]at eq;exact Xq eq
  subst rG;have hc:c∈ps:=by rw[eq];simp
  have qi:ej (ps.map λc=>D.int (sg (ln (crs p q) c))) (pre.length:Int)=some (D.int (sg (ln (crs p q) c))):=by
   have:=PJ (h:=λc=>D.int (sg (ln (crs p q) c))) (pre:=pre) (rest:=rest) (c:=c);rw[<-eq]at this;exact this
  have an:=FV (h:=λc=>D.int (sg (ln (crs p q) c))) eq Jz;have ady:=FV (h:=aS) eq Jz;show sH _ _ _ [.val (.lst (ps.map aS)),.val (aS p),.val (aS q),.val (aS (crs p q)),.val (aS c),.val (.lst (ps.map λc=>D.int (sg (ln (crs p q) c)))),.own ((dd (ln (crs p q)) (aU (crs p q)) pre c).map aS),.own ((dd (λc => -ln (crs p q) c) (aU (crs p q)) pre c).map aS),.val (.int pre.length),eZ,v10]
  have fj:pre.length<=1000:=by rw[eq,SH]at ao;lia
  have z1:=AN (f:=ln (crs p q)) (mt:=aU (crs p q)) (ps:=pre) (w:=c);have aY:=AN (f:=λc => -ln (crs p q) c) (mt:=aU (crs p q)) (ps:=pre) (w:=c);have gH:5000<=TT:=by decide
  refine d8 (λρ=>ρ=[.val (.lst (ps.map aS)),.val (aS p),.val (aS q),.val (aS (crs p q)),.val (aS c),.val (.lst (ps.map λc=>D.int (sg (ln (crs p q) c)))),.own ((dd (ln (crs p q)) (aU (crs p q)) pre c++kp (ln (crs p q)) c).map aS),.own ((dd (λc => -ln (crs p q) c) (aU (crs p q)) pre c).map aS),.val (.int pre.length),eZ,v10]) ?_ (λN aL=>?_);rotate_left
  ·refine⟨_,rfl,_,rfl,_,_,_,.inr rfl,rfl,qi,_,_,rfl,rfl,_,rfl,gQ (λg=>?_) (λg=>?_)⟩
   ·refine⟨_,rfl,_,rfl,by rw[Sw];lia,aL _ ?_⟩;rw[FX (FT.mp g),SI];rfl
   ·refine aL _ ?_;rw[FY (λz=>g (FT.mpr z)),SO]
  rintro ρ rfl;refine d8 (λρ=>ρ=[.val (.lst (ps.map aS)),.val (aS p),.val (aS q),.val (aS (crs p q)),.val (aS c),.val (.lst (ps.map λc=>D.int (sg (ln (crs p q) c)))),.own ((dd (ln (crs p q)) (aU (crs p q)) pre c++kp (ln (crs p q)) c).map aS),.own ((dd (λc => -ln (crs p q) c) (aU (crs p q)) pre c++kp (λc => -ln (crs p q) c) c).map aS),.val (.int pre.length),eZ,v10]) ?_ (λN aL=>?_);rotate_left
  ·refine⟨_,rfl,_,rfl,_,_,_,.inr rfl,rfl,qi,_,_,rfl,rfl,_,rfl,gQ (λg=>?_) (λg=>?_)⟩
   ·refine⟨_,rfl,_,rfl,by rw[Sw];lia,aL _ ?_⟩;rw[FX (f:=λc => -ln (crs p q) c) (c:=c) (by have:=FU.mp g;show 0 <= -ln (crs p q) c;lia),SI (l₂:=[c])];rfl
   ·refine aL _ ?_;rw[FY (f:=λc => -ln (crs p q) c) (c:=c) (λz=>g (FU.mpr (by have z:0 <= -ln (crs p q) c:=z;lia))),SO]
  rintro ρ rfl;have pos:(0:Int)<((ps.map aS).length:Int):=by rw[Sw,eq,SH,SK];lia
  refine⟨_,rfl,_,_,rfl,rfl,_,rfl,_,rfl,_,_,rfl,rfl,pos,?_⟩;rw[Sw];have bM:(kp (ln (crs p q)) c).length<=1:=by unfold kp;split<;>simp
  have cy:(kp (λc => -ln (crs p q) c) c).length<=1:=by unfold kp;split<;>simp
  refine⟨_,rfl,_,rfl,_,_,_,.inr rfl,rfl,qi,_,rfl,_,rfl,_,_,_,.inr rfl,rfl,an,_,_,rfl,rfl,⟨FW _,FW _⟩,_,_,rfl,rfl,_,rfl,gQ (λg=>?_) (λg=>?_)⟩
  ·have lt:=FS.mp g
   have JA:rest.headD (ps.headD (0,0,1))∈ps:=by
    cases rest with
    |nil=>
     cases ps with
     |nil=>cases hc
     |cons a r=>exact Sv
    |cons d rest=>rw[eq];simp
   have k4:=(ab c hc).2;have pn:=(ab _ JA).2;refine⟨_,rfl,_,rfl,_,rfl,_,rfl,_,rfl,_,_,_,.inr rfl,rfl,ady,rfl,p,q,c,rest.headD (ps.headD (0,0,1)),rfl,bp.mono (by decide),hA.mono (by decide),(ab c hc).1.mono (by decide),(ab _ JA).1.mono (by decide),ki k4 pn lt,?_⟩;dsimp only[bU];rw[kh k4 pn];refine⟨_,rfl,_,rfl,by rw[Sw,SH];lia,?_⟩;refine⟨_,rfl,_,rfl,by rw[Sw,SH];lia,aL _ ⟨.val (aS c),.val (.int pre.length),.val (.int (((pre.length:Int)+1)%(ps.length:Int))),.val (aS (aU (crs p q) c (rest.headD (ps.headD (0,0,1))))),rest,by rw[eq];simp,?_⟩⟩;rw[ws,ws,lJ lt,lJ (f:=λc => -ln (crs p q) c) (by rw[T5];exact lt),SI (l₂:=[aU (crs p q) c (rest.headD (ps.headD (0,0,1)))]),SI (l₂:=[aU (crs p q) c (rest.headD (ps.headD (0,0,1)))])];rfl
  ·refine aL _ ⟨.val (aS c),.val (.int pre.length),.val (.int (((pre.length:Int)+1)%(ps.length:Int))),v10,rest,by rw[eq];simp,?_⟩;have uf:¬ln (crs p q) c*ln (crs p q) (rest.headD (ps.headD (0,0,1)))<0:=λz=>g (FS.mpr z);rw[ws,ws,kN uf,kN (by rw[T5];exact uf),SO,SO];rfl
 rintro ρ ⟨il,eO,eZ,v10,rest,d0,rfl⟩
 have rG:rest=[]:=by
  have:ps++[]=ps++rest:=by rw[SO];exact d0
  exact(Xq this).symm
 subst rG
 have CS:∀e∈ps.map (λc=>D.int (sg (ln (crs p q) c))),has .I e=true:=λe ax=>by
  obtain⟨_,_,rfl⟩:=SJ.mp ax;rfl
 refine⟨_,rfl,_,rfl,?_⟩;refine⟨_,rfl,.I,_,.inl rfl,rfl,CS,by decide,λbc uM=>⟨_,rfl,?_⟩⟩;cases bc with
 |true=>
  rw[wC (FZ.mp (uM.mp rfl))]at ag;refine q0 rfl ⟨_,rfl,?_⟩;refine⟨_,rfl,_,rfl,.I,_,.inl rfl,rfl,CS,by decide,λbg qB=>⟨_,rfl,?_⟩⟩;cases bg with
  |true=>
   rw[wC (wD.mpr (wu.mp (qB.mp rfl)))]at ag;exact q0 rfl ⟨_,rfl,gJ,ag⟩
  |false=>
   rw[A0 (λz=>S6 (qB.mpr (wu.mpr (wD.mp z))))]at ag;exact q1 rfl ⟨uR,gJ,ag⟩
 |false=>
  rw[A0 (λz=>S6 (uM.mpr (FZ.mpr z)))]at ag;refine q1 rfl ⟨uR,?_⟩;refine⟨_,rfl,_,rfl,.I,_,.inl rfl,rfl,CS,by decide,λbg qB=>⟨_,rfl,?_⟩⟩;cases bg with
  |true=>
   rw[wC (wD.mpr (wu.mp (qB.mp rfl)))]at ag;exact q0 rfl ⟨_,rfl,gJ,ag⟩
  |false=>
   rw[A0 (λz=>S6 (qB.mpr (wu.mpr (wD.mp z))))]at ag;exact q1 rfl ⟨uR,gJ,ag⟩
theorem CT :
  cf P w K mg base "cut_sheet" ["sheet","p","q"] 6 (cl K 3 acC):=by
 refine dh Y.f_cut_sheet pe rfl (λ_ _ _ _ _ _ _ ak=>⟨_,(ba (mw (i:=3) pe.nd rfl (SF rfl) (gS b9)) (ba (mw (i:=4) pe.nd rfl (SF rfl) (gS b9)) (ba (mx PassesOwn.never rfl (i5 (ah 0)) (gE (n:=3) rfl (c0 (c9 5 pe.nd) (c0 (c9 6 pe.nd) (c0 (c9 7 pe.nd) gD)))) (ba (jP (a8 (adw B Y) ak (aA (ah 5) (aA (ah 1) (aA (ah 2) a1)))) (gE (n:=2) rfl (c0 (c9 8 pe.nd) (c0 (c9 9 pe.nd) gD)))) (ba (fF (AP (ah 8)) (bH (nq 3 (db (aV (ah 8) (aV (ah 6) (aV (ah 7) b9)))))) fO) (bH (fF (AP (ah 9)) (bH (nq 4 (db (aV (ah 9) (aV (ah 6) (aV (ah 7) b9)))))) fO))))) (mv 4 (mv 3 (bH (cB (db (aV (ah 3) (aV (ah 4) b9)))))))))),?_⟩);rintro as k ao ⟨sh,p,q,rfl,bp,hA,ab,uO,ao,ag⟩;refine c6 rfl ?_;have gH:5000<=TT:=by decide
 walk_at "wd";refine Fl (done:=[]) (λpre ρ=>∃im hj hk eO eZ,ρ=[.val (.lst (sh.map cY)),.val (aS p),.val (aS q),.own ((ck (ln (crs p q)) (aU (crs p q)) pre).map cY),.own ((ck (λc => -ln (crs p q) c) (aU (crs p q)) pre).map cY),im,hj,hk,eO,eZ]) ⟨_,_,_,_,_,rfl⟩ ?_ ?_
 ·rintro pre x rest ρ lp ⟨im,hj,hk,eO,eZ,rfl⟩ N aL;have lp:sh=pre++x::rest:=by simpa using lp
  have aq:x∈sh:=by rw[lp];simp
  have fj:pre.length<1000:=by have:=TW S1 lp;simp at this;lia
  have c1:=lQ (f:=ln (crs p q)) (mt:=aU (crs p q)) pre;have c2:=lQ (f:=λc => -ln (crs p q) c) (mt:=aU (crs p q)) pre;refine⟨_,rfl,_,rfl,_,rfl,rfl,x.1,p,q,rfl,bp,hA,ab x aq,uO x aq,?_⟩;refine⟨_,rfl,rfl,_,_,rfl,_,_,rfl,rfl,?_⟩;show sH (zM (AO (gq 8)) (zR 3 (zI (ow (gq 8) (ow (gq 6) (ow (gq 7) vG))))) zL) (zM (AO (gq 9)) (zR 4 (zI (ow (gq 9) (ow (gq 6) (ow (gq 7) vG))))) zL) _ [.val (.lst (sh.map cY)),.val (aS p),.val (aS q),.own ((ck (ln (crs p q)) (aU (crs p q)) pre).map cY),.own ((ck (λc => -ln (crs p q) c) (aU (crs p q)) pre).map cY),.val (.lst (x.1.map aS)),.val (.bl x.2.1),.val (aS x.2.2),.val (.lst ((cR (ln (crs p q)) (aU (crs p q)) x.1).map aS)),.val (.lst ((cR (λc => -ln (crs p q) c) (aU (crs p q)) x.1).map aS))]
  refine d8 (λρ=>ρ=[.val (.lst (sh.map cY)),.val (aS p),.val (aS q),.own ((ck (ln (crs p q)) (aU (crs p q)) (pre++[x])).map cY),.own ((ck (λc => -ln (crs p q) c) (aU (crs p q)) pre).map cY),.val (.lst (x.1.map aS)),.val (.bl x.2.1),.val (aS x.2.2),.val (.lst ((cR (ln (crs p q)) (aU (crs p q)) x.1).map aS)),.val (.lst ((cR (λc => -ln (crs p q) c) (aU (crs p q)) x.1).map aS))]) ?_ (λN aL=>?_);rotate_left
  ·refine⟨_,rfl,_,rfl,?_⟩;cases c:(cR (ln (crs p q)) (aU (crs p q)) x.1).isEmpty with
   |false=>
    refine q0 (by rw[VK,c];rfl) ?_;refine⟨_,rfl,_,rfl,_,rfl,_,rfl,n2,by rw[Sw];lia,aL _ ?_⟩;rw[tD,wA c,SI];rfl
   |true=>
    refine q1 (by rw[VK,c];rfl) (aL _ ?_);rw[tD,wB c,SO]
  rintro ρ rfl;refine⟨_,rfl,_,rfl,?_⟩;cases c:(cR (λc => -ln (crs p q) c) (aU (crs p q)) x.1).isEmpty with
  |false=>
   refine q0 (by rw[VK,c];rfl) ?_;refine⟨_,rfl,_,rfl,_,rfl,_,rfl,n2,by rw[Sw];lia,aL _ ⟨.val (.lst (x.1.map aS)),.val (.bl x.2.1),.val (aS x.2.2),.val (.lst ((cR (ln (crs p q)) (aU (crs p q)) x.1).map aS)),.val (.lst ((cR (λc => -ln (crs p q) c) (aU (crs p q)) x.1).map aS)),?_⟩⟩;rw[tD (f:=λc => -ln (crs p q) c),wA c,SI (l₂:=[(cR (λc => -ln (crs p q) c) (aU (crs p q)) x.1,x.2)])];rfl
  |true=>
   refine q1 (by rw[VK,c];rfl) (aL _ ⟨.val (.lst (x.1.map aS)),.val (.bl x.2.1),.val (aS x.2.2),.val (.lst ((cR (ln (crs p q)) (aU (crs p q)) x.1).map aS)),.val (.lst ((cR (λc => -ln (crs p q) c) (aU (crs p q)) x.1).map aS)),?_⟩);rw[tD (f:=λc => -ln (crs p q) c),wB c,SO]
 ·rintro ρ ⟨im,hj,hk,eO,eZ,rfl⟩;refine⟨_,rfl,_,rfl,?_⟩;exact⟨_,rfl,_,rfl,gJ,ag⟩
theorem lf :
  cf P w K mg base "at" ["x","y"] 3 (cl K 2 acD):=by
 refine dh Y.f_at Jl rfl (λ_ _ _ _ _ _ _ ak=>⟨_,(ba (cT 2 Jl.nd (a8 (lc B Y) ak (aA (i8 (ah 0) bb (λ_ _=>rfl)) (aA (i8 (ah 1) bb (λ_ _=>rfl)) a1)))) (bH (cB (db (aV (cO (i8 (ah 0) bb (λ_ _=>rfl)) (d7 (i8 (ah 1) bb (λ_ _=>rfl)) (ah 2))) (aV (cO (i8 (ah 1) bb (λ_ _=>rfl)) (d7 (i8 (ah 0) bb (λ_ _=>rfl)) (ah 2))) (aV (cO (d7 (i8 (ah 0) bb (λ_ _=>rfl)) (ah 2)) (i8 (ah 1) bb (λ_ _=>rfl))) b9))))))),?_⟩);rintro as k ao ⟨eD,CG,x,y,u,v,rfl,aq,aG,a6,a7,jc,hS,jv,gV,ag⟩;refine c6 rfl ?_;have v0:v≠0:=Sz a7.1;have sp:=oj (t:=y) (b:=v) v0;have d5:=lE (a:=y) (b:=v) v0 gV;rw[<-O5 a6 a7]at ag;refine⟨_,rfl,_,_,_,aq,rfl,rfl,_,rfl,_,_,_,aG,rfl,rfl,rfl,_,_,rfl,?_⟩;dsimp only[bU];generalize((Ak y v:Nat):Int)=s at *;have bc:wp (v.fdiv s)<=4000:=dO (UV _ _) gV;have bg:wp (y.fdiv s)<=4000:=dO (UV _ _) hS;have hd:∀z:Int,wp s<=9000->qR z s:=λz _=>⟨by lia,aR d5⟩;refine⟨_,rfl,_,_,_,aq,rfl,rfl,_,rfl,_,_,_,aG,rfl,rfl,_,rfl,_,_,rfl,rfl,hd _ (aR d5),_,_,rfl,rfl,⟨by walk_at "bits",by walk_at "bits"⟩,?_⟩;refine⟨_,rfl,_,_,_,aG,rfl,rfl,_,rfl,_,_,_,aq,rfl,rfl,_,rfl,_,_,rfl,rfl,hd _ (aR d5),_,_,rfl,rfl,⟨by walk_at "bits",by walk_at "bits"⟩,?_⟩;refine⟨_,rfl,_,_,_,aq,rfl,rfl,_,rfl,_,_,rfl,rfl,hd _ (aR d5),_,rfl,_,_,_,aG,rfl,rfl,_,_,rfl,rfl,⟨by walk_at "bits",by walk_at "bits"⟩,n2,?_⟩;exact ag
theorem JB :
  cf P w K mg base "cut_upright" ["sheet","place"] 7 (cl K 2 acF):=by
 refine dh Y.f_cut_upright acE rfl (λ_ _ _ _ _ _ _ ak=>⟨_,(bH (cB (a8 (CT B Y) ak (aA (ah 0) (aA (a8 (lf B Y) ak (aA (ah 1) (aA (db (aV bb (aV bb b9))) a1))) (aA (a8 (lf B Y) ak (aA (ah 1) (aA (db (aV bb (aV bb b9))) a1))) a1)))))),?_⟩);rintro as k ao ⟨sh,x,rfl,a6,bc,bg,ab,uO,ao,ag⟩;refine c6 rfl ?_;have d9:aE 0 1:=⟨by decide,by decide⟩;have hf:aE 1 1:=⟨by decide,by decide⟩;have eJ:wp 0<=4000:=by decide
 have jV:wp 1<=4000:=by decide
 have kT:wp x.1<=4000:=aR bc;have nk:wp x.2<=4000:=aR bg;have aI:cD 300 (cC (x.1*1) (0*x.2) (x.2*1)):=(kX (n:=10) bc bg (by decide) (by decide) a6 d9).mono (by decide);have aP:cD 300 (cC (x.1*1) (1*x.2) (x.2*1)):=(kX (n:=10) bc bg (by decide) (by decide) a6 hf).mono (by decide);refine⟨_,rfl,_,rfl,gJ,rfl,_,_,x.1,x.2,0,1,rfl,rfl,rfl,a6,d9,kT,nk,eJ,jV,?_⟩;dsimp only[bU];refine⟨_,rfl,gJ,rfl,_,_,x.1,x.2,1,1,rfl,rfl,rfl,a6,hf,kT,nk,jV,jV,?_⟩;dsimp only[bU];exact⟨rfl,sh,_,_,rfl,aI,aP,ab,uO,ao,ag⟩
theorem adz :
  cf P w K mg base "cut_level" ["sheet","height"] 7 (cl K 2 acG):=by
 refine dh Y.f_cut_level CH rfl (λ_ _ _ _ _ _ _ ak=>⟨_,(ba (jP (a8 (CT B Y) ak (aA (ah 0) (aA (a8 (lf B Y) ak (aA (db (aV bb (aV bb b9))) (aA (ah 1) a1))) (aA (a8 (lf B Y) ak (aA (db (aV bb (aV bb b9))) (aA (ah 1) a1))) a1)))) (gE (n:=2) rfl (c0 (c9 2 CH.nd) (c0 (c9 3 CH.nd) gD)))) (bH (cB (db (aV (ah 3) (aV (ah 2) b9)))))),?_⟩);rintro as k ao ⟨sh,x,rfl,a6,bc,bg,ab,uO,ao,ag⟩;refine c6 rfl ?_;have d9:aE 0 1:=⟨by decide,by decide⟩;have hf:aE 1 1:=⟨by decide,by decide⟩;have eJ:wp 0<=4000:=by decide
 have jV:wp 1<=4000:=by decide
 have kT:wp x.1<=4000:=aR bc;have nk:wp x.2<=4000:=aR bg;have aI:cD 300 (cC (0*x.2) (x.1*1) (1*x.2)):=(kX (m:=10) (by decide) (by decide) bc bg d9 a6).mono (by decide);have aP:cD 300 (cC (1*x.2) (x.1*1) (1*x.2)):=(kX (m:=10) (by decide) (by decide) bc bg hf a6).mono (by decide);refine⟨_,rfl,gJ,_,rfl,rfl,_,_,0,1,x.1,x.2,rfl,rfl,rfl,d9,a6,eJ,jV,kT,nk,?_⟩;dsimp only[bU];refine⟨gJ,_,rfl,rfl,_,_,1,1,x.1,x.2,rfl,rfl,rfl,hf,a6,jV,jV,kT,nk,?_⟩;dsimp only[bU];refine⟨rfl,sh,_,_,rfl,aI,aP,ab,uO,ao,?_⟩;refine⟨_,rfl,rfl,_,_,rfl,_,_,rfl,rfl,?_⟩;exact⟨_,rfl,_,rfl,gJ,ag⟩
theorem JC :
  cf P w K mg base "slid" ["p","step"] 3 (cl K 2 acH):=by
 refine dh Y.f_slid l6 rfl (λ_ _ _ _ _ _ _ ak=>⟨_,(ba (jP (ah 0) (gE (n:=3) rfl (c0 (c9 2 l6.nd) (c0 (c9 3 l6.nd) (c0 (c9 4 l6.nd) gD))))) (ba (jP (ah 1) (gE (n:=3) rfl (c0 (c9 5 l6.nd) (c0 (c9 6 l6.nd) (c0 (c9 7 l6.nd) gD))))) (ba (cT 8 l6.nd (a8 (lc B Y) ak (aA (ah 4) (aA (ah 7) a1)))) (ba (cT 9 l6.nd (hq (cO (ah 2) (d7 (ah 7) (ah 8))) (cO (ah 5) (d7 (ah 4) (ah 8))))) (ba (cT 10 l6.nd (hq (cO (ah 3) (d7 (ah 7) (ah 8))) (cO (ah 6) (d7 (ah 4) (ah 8))))) (ba (cT 11 l6.nd (a8 (lc B Y) ak (aA (a8 (lc B Y) ak (aA (ah 8) (aA (ah 9) a1))) (aA (ah 10) a1)))) (bH (cB (db (aV (d7 (ah 9) (ah 11)) (aV (d7 (ah 10) (ah 11)) (aV (cO (d7 (ah 4) (ah 8)) (d7 (ah 7) (ah 11))) b9)))))))))))),?_⟩);rintro as k ao ⟨p,g,rfl,JD,bp,JE,h4,ag⟩;refine c6 rfl ?_;obtain⟨a,b,n⟩:=p;obtain⟨r,w,m⟩:=g;have h1:wp a<=3000:=bp.a;have h2:wp b<=3000:=bp.b;have aF:wp n<=3000:=bp.c;have bj:wp r<=1000:=h4.a;have c5:wp w<=1000:=h4.b;have fX:wp m<=1000:=h4.c;have dB:n≠0:=Sz JD.1;have dS:m≠0:=Sz JE.1;have sp:=oj (t:=n) (b:=m) dS;have d5:=lE (a:=n) (b:=m) dS fX;have cm:=λX Y d=>O6 (a:=a) (b:=b) (n:=n) (r:=r) (w:=w) (m:=m) JD JE (s:=((Ak n m:Nat):Int)) (X:=X) (Y:=Y) (d:=d) rfl;have ag:k (.val (aS (cC (a*m+r*n) (b*m+w*n) (n*m)))):=ag;refine⟨_,rfl,_,rfl,rfl,_,_,rfl,_,_,rfl,_,_,rfl,rfl,?_⟩;refine⟨_,rfl,_,rfl,rfl,_,_,rfl,_,_,rfl,_,_,rfl,rfl,?_⟩;walk_at "w";refine⟨_,_,rfl,?_⟩;dsimp only[bU];generalize((Ak n m:Nat):Int)=s at *;have bc:wp (m.fdiv s)<=1000:=dO (UV _ _) fX;have bg:wp (n.fdiv s)<=3000:=dO (UV _ _) aF;have tb:wp (a*m.fdiv s+r*n.fdiv s)<=4001:=XQ (TE h1 bc) (TE bj bg);have bY:wp (b*m.fdiv s+w*n.fdiv s)<=4001:=XQ (TE h2 bc) (TE c5 bg);have cm:=λd=>cm _ _ d rfl rfl;walk_at "w";refine⟨_,_,rfl,?_⟩;dsimp only[bU];walk_at "w";refine⟨_,_,rfl,?_⟩;dsimp only[bU];generalize a*m.fdiv s+r*n.fdiv s=X at *;generalize b*m.fdiv s+w*n.fdiv s=Y at *;have cm:=cm _ rfl;have ep:=lG (a:=s) (b:=X) (.inl (Sz sp))
 have dY:wp ((Ak s X:Nat):Int)<=1000:=by
  rw[TL];exact lE (Sz sp) d5
 generalize((Ak s X:Nat):Int)=e at *;have dp:=lG (a:=e) (b:=Y) (.inl (Sz ep))
 have xX:wp ((Ak e Y:Nat):Int)<=1000:=by
  rw[TL];exact lE (Sz ep) dY
 generalize((Ak e Y:Nat):Int)=d at *;have dP:wp (m.fdiv d)<=1000:=dO (UV _ _) fX;rw[<-cm]at ag;walk_at "w";exact ag
theorem rZ :
  cf P w K mg base "moved" ["sheet","step"] 4 (cl K 2 acJ):=by
 refine dh Y.f_moved acI rfl (λ_ _ _ _ _ _ _ ak=>⟨_,(bH (cB (ed (lD (ts:=["ring","is_turned","elder_step"]) (fr:=["step"]) (js:=[1]) (i5 (ah 0)) (λ_ _ _ _=>(gE (n:=3) rfl (c0 (gs (i:=0) (show S' (["ring","is_turned","elder_step","step"]:ZQ) by decide +kernel) rfl (SF rfl)) (c0 (gs (i:=1) (show S' (["ring","is_turned","elder_step","step"]:ZQ) by decide +kernel) rfl (SF rfl)) (c0 (gs (i:=2) (show S' (["ring","is_turned","elder_step","step"]:ZQ) by decide +kernel) rfl (SF rfl)) gD))))) (λ_ _ _ _=>ju) (λ_ _ _ _=>(db (aV (ed (lD (ts:=["corner"]) (fr:=["step"]) (js:=[3]) (i5 (ah 0)) (λ_ _ _ _=>(gs (i:=0) (show S' (["corner","step"]:ZQ) by decide +kernel) rfl (SF rfl))) (λ_ _ _ _=>ju) (λ_ _ _ _=>(a8 (JC B Y) ak (aA (ah 0) (aA (ah 1) a1)))) ⟨rfl,by decide +kernel,rfl,by decide +kernel,h7 (Tj.mpr ⟨rfl,(Tb _)⟩),iF rfl,by walk_at "ffr",rfl⟩)) (aV (ah 1) (aV (a8 (JC B Y) ak (aA (ah 2) (aA (ah 3) a1))) b9))))) ⟨rfl,by decide +kernel,rfl,by decide +kernel,h7 (Tj.mpr ⟨rfl,(Tb _)⟩),iF rfl,by walk_at "ffr",rfl⟩)))),?_⟩);rintro as k ao ⟨sh,g,rfl,ao,aj,aD,ag⟩;refine c6 rfl ?_;have gH:1000<=TT:=by decide
 refine⟨_,rfl,_,rfl,by rw[Sw];lia,?_⟩;refine Fk (h:=λs=>cY (eL g s)) (fs:=[.val (aS g)]) (λs adA cy jT=>?_) (by rw[SQ]at ag;exact ag);have l:=aj s adA;have ln:=l.ln;refine⟨_,rfl,_,rfl,by rw[Sw];lia,?_⟩;refine kK (f:=aS) (h:=λp=>aS (nP (sld g p))) (fs:=[.val (aS g)]) (λr ak gt CR=>⟨_,rfl,_,rfl,rfl,r,g,rfl,(l.ps r ak).pt,((l.ps r ak).bp.mono (by decide)),aD.pt,(aD.bp.mono (by decide)),CR⟩) ?_;refine⟨_,rfl,?_⟩;refine⟨_,rfl,_,rfl,rfl,s.2.2,g,rfl,l.st.pt,(l.st.bp.mono (by decide)),aD.pt,(aD.bp.mono (by decide)),n2,?_⟩;rw[Pd (λp=>nP (sld g p))];exact jT
theorem adB :
  cf P w K mg base "under" ["one","other"] 2 (cl K 2 acL):=by
 refine dh Y.f_under acK rfl (λ_ _ _ _ _ _ _ ak=>⟨_,(bH (cB (ou (f:=λi j=>decide (i<j)) me (cO (ei 0) (ei 1)) (cO (ei 1) (ei 0)) (d6 _)))),?_⟩);rintro as k ao ⟨x,y,u,v,rfl,jc,hS,jv,gV,ag⟩;refine c6 rfl ?_;walk_at "w";exact ag
theorem adC :
  cf P w K mg base "least_whole" ["one"] 2 (cl K 1 acN):=by
 refine dh Y.f_least_whole acM rfl (λ_ _ _ _ _ _ _ ak=>⟨_,(bH (cB (h3 (d7 (h3 (ei 0)) (ei 0))))),?_⟩);rintro as k ao ⟨x,y,rfl,bZ,hS,ag⟩;refine c6 rfl ?_;have bx:y≠0:=by lia
 walk_at "w";exact ag
theorem adD :
  cf P w K mg base "most_whole" ["one"] 2 (cl K 1 acP):=by
 refine dh Y.f_most_whole acO rfl (λ_ _ _ _ _ _ _ ak=>⟨_,(bH (cB (d7 (ei 0) (ei 0)))),?_⟩);rintro as k ao ⟨x,y,rfl,bZ,hS,ag⟩;refine c6 rfl ?_;have bx:y≠0:=by lia
 walk_at "w";exact ag
theorem JF :
  cf P w K mg base "against" ["one"] 2 (cl K 1 acR):=by
 refine dh Y.f_against acQ rfl (λ_ _ _ _ _ _ _ ak=>⟨_,(bH (cB (db (aV (h3 (ei 0)) (aV (ei 0) b9))))),?_⟩);rintro as k ao ⟨x,y,rfl,ag⟩;refine c6 rfl ?_;walk_at "w";exact ag
theorem adE :
  cf P w K mg base "plus" ["one","other"] 3 (cl K 2 acS):=by
 refine dh Y.f_plus pf rfl (λ_ _ _ _ _ _ _ ak=>⟨_,(ba (cT 2 pf.nd (a8 (lc B Y) ak (aA (ei 0) (aA (ei 1) a1)))) (ba (cT 3 pf.nd (hq (cO (ei 0) (d7 (ei 1) (ah 2))) (cO (ei 1) (d7 (ei 0) (ah 2))))) (ba (cT 4 pf.nd (a8 (lc B Y) ak (aA (ah 2) (aA (ah 3) a1)))) (bH (cB (db (aV (d7 (ah 3) (ah 4)) (aV (cO (d7 (ei 0) (ah 2)) (d7 (ei 1) (ah 4))) b9)))))))),?_⟩);rintro as k ao ⟨x,y,u,v,rfl,a6,a7,jc,hS,jv,gV,ag⟩;refine c6 rfl ?_;have v0:v≠0:=Sz a7.1;have sp:=oj (t:=y) (b:=v) v0;have d5:=lE (a:=y) (b:=v) v0 gV;have cm:=λtop d=>Fc a6 a7 (s:=((Ak y v:Nat):Int)) (top:=top) (d:=d) rfl;walk_at "w";refine⟨_,_,rfl,?_⟩;dsimp only[bU];generalize((Ak y v:Nat):Int)=s at *;have bc:wp (v.fdiv s)<=4000:=dO (UV _ _) gV;have bg:wp (y.fdiv s)<=4000:=dO (UV _ _) hS;have tb:wp (x*v.fdiv s+u*y.fdiv s)<=8001:=XQ (TE jc bc) (TE jv bg);have cm:=λd=>cm _ d rfl;walk_at "w";refine⟨_,_,rfl,?_⟩;dsimp only[bU];generalize x*v.fdiv s+u*y.fdiv s=top at *;have cm:=cm _ rfl;have dp:=lG (a:=s) (b:=top) (.inl (Sz sp))
 have xX:wp ((Ak s top:Nat):Int)<=4000:=by
  rw[TL];exact lE (Sz sp) d5
 generalize((Ak s top:Nat):Int)=d at *;have dP:wp (v.fdiv d)<=4000:=dO (UV _ _) gV;rw[<-cm]at ag;walk_at "w";exact ag
theorem CU :
  cf P w K mg base "minus" ["one","other"] 4 (cl K 2 acU):=by
 refine dh Y.f_minus acT rfl (λ_ _ _ _ _ _ _ ak=>⟨_,(bH (cB (a8 (adE B Y) ak (aA (ah 0) (aA (a8 (JF B Y) ak (aA (ah 1) a1)) a1))))),?_⟩);rintro as k ao ⟨x,y,u,v,rfl,a6,a7,jc,hS,jv,gV,ag⟩;refine c6 rfl ?_;refine⟨_,rfl,_,rfl,rfl,u,v,rfl,?_⟩;refine⟨rfl,x,y,-u,v,rfl,a6,⟨a7.1,by rw[U5];exact a7.2⟩,jc,hS,Xz jv,gV,?_⟩;rw[UG,<-Int.sub_eq_add_neg];exact ag
theorem n1 :
  cf P w K mg base "times" ["one","other"] 3 (cl K 2 acV):=by
 refine dh Y.f_times CI rfl (λ_ _ _ _ _ _ _ ak=>⟨_,(ba (cT 2 CI.nd (a8 (lc B Y) ak (aA (ei 0) (aA (ei 1) a1)))) (ba (cT 3 CI.nd (a8 (lc B Y) ak (aA (ei 1) (aA (ei 0) a1)))) (bH (cB (db (aV (cO (d7 (ei 0) (ah 2)) (d7 (ei 1) (ah 3))) (aV (cO (d7 (ei 0) (ah 3)) (d7 (ei 1) (ah 2))) b9))))))),?_⟩);rintro as k ao ⟨x,y,u,v,rfl,a6,a7,jc,hS,jv,gV,ag⟩;refine c6 rfl ?_;have v0:v≠0:=Sz a7.1;have bZ:y≠0:=Sz a6.1;have cz:=oj (t:=x) (b:=v) v0;have wk:=lE (a:=x) (b:=v) v0 gV;have ae:=oj (t:=u) (b:=y) bZ;have ab:=lE (a:=u) (b:=y) bZ hS;rw[<-OZ a6 a7]at ag;walk_at "w";refine⟨_,_,rfl,?_⟩;walk_at "w";refine⟨_,_,rfl,?_⟩;dsimp only[bU];generalize((Ak x v:Nat):Int)=f at *;generalize((Ak u y:Nat):Int)=g at *;have bc:wp (x.fdiv f)<=4000:=dO (UV _ _) jc;have bg:wp (u.fdiv g)<=4000:=dO (UV _ _) jv;have dP:wp (y.fdiv g)<=4000:=dO (UV _ _) hS;have fa:wp (v.fdiv f)<=4000:=dO (UV _ _) gV;walk_at "w";exact ag
theorem xY :
  cf P w K mg base "over" ["one","other"] 4 (cl K 2 acX):=by
 refine dh Y.f_over acW rfl (λ_ _ _ _ _ _ _ ak=>⟨_,(ba (fF (gr (f:=λi j=>decide (i=j)) mj (ei 1) bb (d6 _)) (bH zN) fO) (ba (fF (gr (f:=λi j=>decide (i<j)) me (ei 1) bb (d6 _)) (bH (cB (a8 (n1 B Y) ak (aA (ah 0) (aA (db (aV (h3 (ei 1)) (aV (h3 (ei 1)) b9))) a1))))) fO) (bH (cB (a8 (n1 B Y) ak (aA (ah 0) (aA (db (aV (ei 1) (aV (ei 1) b9))) a1))))))),?_⟩);rintro as k ao ⟨x,y,u,v,rfl,a6,a7,jc,hS,jv,gV,k6,ag⟩;refine c6 rfl ?_;have aP:Ak v u=1:=by rw[TL];exact a7.2
 walk_at "wd";refine gQ (λg=>absurd g k6) (λ_=>?_);walk_at "wd";refine gQ (λg=>?_) (λg=>?_)
 ·walk_at "w";refine⟨x,y,-v,-u,rfl,a6,⟨by lia,by rw[U5,Int.gcd_neg];exact aP⟩,jc,hS,Xz gV,Xz jv,?_⟩;rw[Vx,Vx,Oy (SS (Sz a6.1) k6)];exact ag
 ·walk_at "w";exact⟨x,y,v,u,rfl,a6,⟨by lia,aP⟩,jc,hS,gV,jv,ag⟩
theorem adF :
  cf P w K mg base "slices" ["sheet","cut","size","first","last"] 2 (cl K 5 (rW 0 a_cut_upright a_cut_level)):=by
 refine dh Y.f_slices uL rfl (λ_ _ _ _ _ _ _ ak=>⟨_,(ba (fF (gr (f:=λi j=>decide (i=j)) mj (gR (ah 4) (ah 3)) bb (d6 _)) (bH (cB (ed (gS (aV (ah 0) b9))))) fO) M1),?_⟩);rintro as k ao ⟨sh,c,w,x,y,bL,n,t,rfl,lw,c1,c2,H2,xr,dH,aj,av,aN,ag⟩;refine c6 rfl ?_;have agM:y=x+1:=by simp at dH;lia
 refine⟨_,rfl,_,rfl,_,_,rfl,rfl,_,_,rfl,rfl,_,rfl,gQ (λg=>?_) (λg=>absurd (show((y:Nat):Int)-(x:Int)=1 by lia) g)⟩;exact⟨_,rfl,l9,ag⟩
theorem xZ{N J:Nat}(L:Nat)(bi:N<=8)(e1:7<=L)(JG:J<=L){a_cut_level:TI}(jg:mg "cut_level"=some (.ref a_cut_level)){a_cut_upright:TI}(jh:mg "cut_upright"=some (.ref a_cut_upright))(S:cf P w K mg base "slices" ["sheet","cut","size","first","last"] J (cl K 5 (rW N a_cut_upright a_cut_level))):
  cf P w K mg base "slices" ["sheet","cut","size","first","last"] (L+1) (cl K 5 (rW (N+1) a_cut_upright a_cut_level)):=by
 refine dh (lv:=L) Y.f_slices uL rfl (λ_ _ _ _ _ _ _ ak=>⟨_,(ba (fF (gr (f:=λi j=>decide (i=j)) mj (gR (ah 4) (ah 3)) bb (d6 _)) (bH (cB (ed (gS (aV (ah 0) b9))))) fO) (ba (cT 5 uL.nd (d7 (hq (ah 3) (ah 4)) bb)) (ba (jP (aaw (h1:=e1) (h2:=e1) 1 (JB B Y) jh (adz B Y) jg ak (aA (ah 0) (aA (vJ (hjk:=by lia) (n1 B Y) ak (by rfl) (aA (ah 2) (aA (db (aV (ah 5) (aV bb b9))) a1))) a1))) (gE (n:=2) rfl (c0 (c9 6 uL.nd) (c0 (c9 7 uL.nd) gD)))) (bH (cB (ed (pP (vJ (hjk:=JG) S ak (by rfl) (aA (ah 6) (aA (ah 1) (aA (ah 2) (aA (ah 3) (aA (ah 5) a1)))))) (vJ (hjk:=JG) S ak (by rfl) (aA (ah 7) (aA (ah 1) (aA (ah 2) (aA (ah 5) (aA (ah 4) a1))))))))))))),?_⟩);rintro as k ao ⟨sh,c,w,x,y,bL,n,t,rfl,lw,c1,c2,H2,xr,dH,aj,av,aN,ag⟩;refine c6 rfl ?_;have cP:2<=TT:=by decide
 have gH:=j1;rw[gY]at ag;refine⟨_,rfl,_,rfl,_,_,rfl,rfl,_,_,rfl,rfl,_,rfl,gQ (λg=>?_) (λg=>?_)⟩
 ·rw[SL (by lia)]at ag;exact⟨_,rfl,l9,ag⟩
 rw[SZ (by lia)]at ag;have dH:y-x<=2^N*2:=dH
 have ry:((x:Int)+(y:Int)).fdiv 2=(((x+y)/2:Nat):Int):=by
  rw[Wx _ (by decide)];lia
 obtain⟨m,adG⟩:∃m,m=(x+y)/2:=⟨_,rfl⟩;rw[<-adG]at ag ry;have JH:x<m:=by lia
 have ux:m<y:=by lia
 refine⟨_,rfl,_,rfl,_,_,rfl,rfl,_,_,rfl,rfl,⟨by decide,by decide⟩,?_⟩;dsimp only;rw[ry];obtain⟨fS,o6⟩:=hv (w:=w) lw.1 (m:Int);obtain⟨bw,bF⟩:=k7 (w:=w) (q:=110) lw.1 c1 c2 (k:=(m:Int)) (by lia);obtain⟨az,a3⟩:=aj.cut (c:=c) fS bw bF (by lia) (by lia);have JI:wp (m:Int)<=4000:=SA (nb (by lia) (by lia)) (by decide);have JJ:aE (m:Int) 1:=⟨by decide,by simp⟩;have ae:∀s∈sh,∀c∈s.1,cD 1990 c/\aT c:=λs fb p ae=>⟨((aj.1 s fb).rb.pts p ae).bp,((aj.1 s fb).rb.pts p ae).pt⟩;have qf:∀s∈sh,s.1.length<=1000:=λs fb=>by have:=(aj.1 s fb).ln;lia
 have uN:=aj.2
 have fU:∀A B:ZI,A=lowC c (c8 w m) sh->B=highC c (c8 w m) sh->Eg (zJ (Ep (oy 5 (rW N a_cut_upright a_cut_level) (kI (gq 6) (kI (gq 1) (kI (gq 2) (kI (gq 3) (kI (gq 5) vH)))))) (oy 5 (rW N a_cut_upright a_cut_level) (kI (gq 7) (kI (gq 1) (kI (gq 2) (kI (gq 5) (kI (gq 4) vH)))))))) {nx:=λx=>k (aQ.val D.non),rt:=k} [.val (dSh sh),.val (.kfn (if c=true then a_cut_level else a_cut_upright)),.val (dR w),.val (.int x),.val (.int y),.val (.int m),.val (dSh A),.val (dSh B)]:=by
  rintro A B rfl rfl;refine⟨_,rfl,_,rfl,_,rfl,_,rfl,_,rfl,rfl,_,c,w,x,m,bL,n+1,t,rfl,lw,c1,c2,JH,by lia,by lia,az,av,by lia,?_⟩;dsimp only[bU];refine⟨_,rfl,_,rfl,_,rfl,_,rfl,_,rfl,rfl,_,c,w,m,y,bL,n+1,t,rfl,lw,c1,c2,ux,xr,by lia,a3,av,by lia,?_⟩;dsimp only[bU];refine⟨_,_,rfl,rfl,?_,?_⟩
  ·rw[Sw,Sw,nM c w N _ _ _ JH (by lia),nM c w N _ _ _ ux (by lia)];lia
  ·rw[<-SI];exact ag
 cases c with
 |true=>
  refine .inr ⟨rfl,?_⟩;refine⟨_,rfl,_,rfl,_,rfl,cP,rfl,w.1,w.2,(m:Int),1,rfl,lw,JJ,aR c1,aR c2,JI,by decide,?_⟩;dsimp only[bU];refine⟨rfl,sh,c8 w m,rfl,fS,aR bw,aR bF,ae,qf,by lia,?_⟩;dsimp only[bU];exact⟨_,rfl,rfl,_,_,rfl,_,_,rfl,rfl,fU _ _ rfl rfl⟩
 |false=>
  refine .inl ⟨rfl,?_⟩;refine⟨_,rfl,_,rfl,_,rfl,cP,rfl,w.1,w.2,(m:Int),1,rfl,lw,JJ,aR c1,aR c2,JI,by decide,?_⟩;dsimp only[bU];refine⟨rfl,sh,c8 w m,rfl,fS,aR bw,aR bF,ae,qf,by lia,?_⟩;dsimp only[bU];exact⟨_,rfl,rfl,_,_,rfl,_,_,rfl,rfl,fU _ _ rfl rfl⟩
theorem JK{a_cut_level:TI}(jg:mg "cut_level"=some (.ref a_cut_level)){a_cut_upright:TI}(jh:mg "cut_upright"=some (.ref a_cut_upright)):
  cf P w K mg base "slices" ["sheet","cut","size","first","last"] 11 (cl K 5 (rW 4 a_cut_upright a_cut_level)):=
 (xZ B Y 10 (by decide) (by decide) (by decide) jg jh (xZ B Y 9 (by decide) (by decide) (by decide) jg jh (xZ B Y 8 (by decide) (by decide) (by decide) jg jh (xZ B Y 7 (by decide) (by decide) (by decide) jg jh (adF B Y (a_cut_upright:=a_cut_upright) (a_cut_level:=a_cut_level))))))
theorem adH{a_cut_level:TI}(jg:mg "cut_level"=some (.ref a_cut_level)){a_cut_upright:TI}(jh:mg "cut_upright"=some (.ref a_cut_upright)):
  cf P w K mg base "columns_of" ["sheet","wide","many"] 12 (cl K 3 acZ):=by
 refine dh Y.f_columns_of acY rfl (λ_ _ _ _ _ _ _ ak=>⟨_,(bH (Ej (Hj (ts:=["place","part"]) (fr:=["wide"]) (js:=[1]) (HP (a8 (JK B Y jg jh) ak (aA (ah 0) (aA (HN jh (by rfl)) (aA (ah 1) (aA bb (aA (hq (ah 2) bb) a1)))))) (by rfl) B.enumerate_) (λ_ _ _ _=>(gE (n:=2) rfl (c0 (gs (i:=0) (show S' (["place","part","wide"]:ZQ) by decide +kernel) rfl (SF rfl)) (c0 (gs (i:=1) (show S' (["place","part","wide"]:ZQ) by decide +kernel) rfl (SF rfl)) gD)))) (λ_ _ _ _=>ju) (λ_ _ _ _=>(a8 (rZ B Y) ak (aA (ah 1) (aA (a8 (lf B Y) ak (aA (a8 (n1 B Y) ak (aA (ah 2) (aA (db (aV (h3 (ah 0)) (aV bb b9))) a1))) (aA (db (aV bb (aV bb b9))) a1))) a1)))) ⟨rfl,by decide +kernel,rfl,by decide +kernel,h7 (Tj.mpr ⟨rfl,(Tb _)⟩),iF rfl,by walk_at "ffr",rfl⟩))),?_⟩);rintro as k ao ⟨sh,w,q,m,bL,n,t,rfl,ay,lw,c1,c2,bm,rP,aj,av,aN,bQ,ag⟩;refine c6 rfl ?_;have cP:2<=TT:=by decide
 have gH:=j1;have d9:aE 0 1:=⟨by decide,by decide⟩;have sz:=um (c:=false) (w:=w) (b:=1990) (m:=bL) (t:=t) (N:=400) (q:=110) lw.1 c1 c2 (by lia) (by lia) 4 (n:=n) (sh:=sh) (x:=0) (y:=m) (by lia) rP aj;have sl:=nM false w 4 sh 0 m (by lia) (by lia);refine⟨_,rfl,_,rfl,_,rfl,_,_,rfl,rfl,rfl,sh,false,w,0,m,bL,n,t,by rw[<-ay];rfl,lw,c1,c2,by lia,rP,by lia,aj,av,by lia,?_⟩;dsimp only[bU];refine⟨_,rfl,by rw[xp,Sw,sl];lia,?_⟩;refine B4 (f:=dSh) (h:=λj S=>dSh (S.map (eL (kn false w j)))) (λj S CV k ag=>?_) (by rw[eb,B2]at ag;exact ag);obtain⟨_,eK,mE⟩:=B5 CV;rw[sl]at eK;have ek:=sz S mE;obtain⟨fS,_⟩:=hv (w:=w) lw.1 (-(j:Int));obtain⟨bw,bF⟩:=k7 (w:=w) (q:=110) lw.1 c1 c2 (k :=-(j:Int)) (by lia);have CW:aE (-(j:Int)) 1:=⟨by decide,by simp⟩;have CX:wp (-(j:Int))<=4000:=SA (nb (by lia) (by lia)) (by decide);have dG:=B6 (c:=false) (w:=w) (q:=110) lw.1 c1 c2 (j:=j) (by lia);refine⟨_,rfl,_,rfl,_,rfl,_,rfl,cP,rfl,w.1,w.2,-(j:Int),1,rfl,lw,CW,aR c1,aR c2,CX,by decide,?_⟩;dsimp only[bU];refine⟨cP,rfl,_,_,(c8 w (-(j:Int))).1,(c8 w (-(j:Int))).2,0,1,rfl,rfl,rfl,fS,d9,aR bw,aR bF,by decide,by decide,?_⟩;dsimp only[bU];refine⟨rfl,S,kn false w j,rfl,ek.2,λs fb=>(ek.1 s fb).gm (by decide) (by lia) bQ,dG.mono (by decide),?_⟩;exact ag
theorem adI{a_cut_level:TI}(jg:mg "cut_level"=some (.ref a_cut_level)){a_cut_upright:TI}(jh:mg "cut_upright"=some (.ref a_cut_upright)):
  cf P w K mg base "layers_of" ["sheet","high","many"] 12 (cl K 3 ac1):=by
 refine dh Y.f_layers_of ac0 rfl (λ_ _ _ _ _ _ _ ak=>⟨_,(bH (Ej (Hj (ts:=["place","part"]) (fr:=["high"]) (js:=[1]) (HP (a8 (JK B Y jg jh) ak (aA (ah 0) (aA (HN jg (by rfl)) (aA (ah 1) (aA bb (aA (hq (ah 2) bb) a1)))))) (by rfl) B.enumerate_) (λ_ _ _ _=>(gE (n:=2) rfl (c0 (gs (i:=0) (show S' (["place","part","high"]:ZQ) by decide +kernel) rfl (SF rfl)) (c0 (gs (i:=1) (show S' (["place","part","high"]:ZQ) by decide +kernel) rfl (SF rfl)) gD)))) (λ_ _ _ _=>ju) (λ_ _ _ _=>(a8 (rZ B Y) ak (aA (ah 1) (aA (a8 (lf B Y) ak (aA (db (aV bb (aV bb b9))) (aA (a8 (n1 B Y) ak (aA (ah 2) (aA (db (aV (h3 (ah 0)) (aV bb b9))) a1))) a1))) a1)))) ⟨rfl,by decide +kernel,rfl,by decide +kernel,h7 (Tj.mpr ⟨rfl,(Tb _)⟩),iF rfl,by walk_at "ffr",rfl⟩))),?_⟩);rintro as k ao ⟨sh,w,q,m,bL,n,t,rfl,ay,lw,c1,c2,bm,rP,aj,av,aN,bQ,ag⟩;refine c6 rfl ?_;have cP:2<=TT:=by decide
 have gH:=j1;have d9:aE 0 1:=⟨by decide,by decide⟩;have sz:=um (c:=true) (w:=w) (b:=1990) (m:=bL) (t:=t) (N:=400) (q:=110) lw.1 c1 c2 (by lia) (by lia) 4 (n:=n) (sh:=sh) (x:=0) (y:=m) (by lia) rP aj;have sl:=nM true w 4 sh 0 m (by lia) (by lia);refine⟨_,rfl,_,rfl,_,rfl,_,_,rfl,rfl,rfl,sh,true,w,0,m,bL,n,t,by rw[<-ay];rfl,lw,c1,c2,by lia,rP,by lia,aj,av,by lia,?_⟩;dsimp only[bU];refine⟨_,rfl,by rw[xp,Sw,sl];lia,?_⟩;refine B4 (f:=dSh) (h:=λj S=>dSh (S.map (eL (kn true w j)))) (λj S CV k ag=>?_) (by rw[eb,B2]at ag;exact ag);obtain⟨_,eK,mE⟩:=B5 CV;rw[sl]at eK;have ek:=sz S mE;obtain⟨fS,_⟩:=hv (w:=w) lw.1 (-(j:Int));obtain⟨bw,bF⟩:=k7 (w:=w) (q:=110) lw.1 c1 c2 (k :=-(j:Int)) (by lia);have CW:aE (-(j:Int)) 1:=⟨by decide,by simp⟩;have CX:wp (-(j:Int))<=4000:=SA (nb (by lia) (by lia)) (by decide);have dG:=B6 (c:=true) (w:=w) (q:=110) lw.1 c1 c2 (j:=j) (by lia);refine⟨_,rfl,cP,_,rfl,_,rfl,_,rfl,cP,rfl,w.1,w.2,-(j:Int),1,rfl,lw,CW,aR c1,aR c2,CX,by decide,?_⟩;dsimp only[bU];refine⟨rfl,_,_,0,1,(c8 w (-(j:Int))).1,(c8 w (-(j:Int))).2,rfl,rfl,rfl,d9,fS,by decide,by decide,aR bw,aR bF,?_⟩;dsimp only[bU];refine⟨rfl,S,kn true w j,rfl,ek.2,λs fb=>(ek.1 s fb).gm (by decide) (by lia) bQ,dG.mono (by decide),?_⟩;exact ag
theorem adJ :
  cf P w K mg base "plus" ["one","other"] 3 (cl K 2 ac2):=by
 refine dh Y.f_plus pf rfl (λ_ _ _ _ _ _ _ ak=>⟨_,(ba (cT 2 pf.nd (a8 (lc B Y) ak (aA (i8 (ah 0) bb (λ_ _=>rfl)) (aA (i8 (ah 1) bb (λ_ _=>rfl)) a1)))) (ba (cT 3 pf.nd (hq (cO (i8 (ah 0) bb (λ_ _=>rfl)) (d7 (i8 (ah 1) bb (λ_ _=>rfl)) (ah 2))) (cO (i8 (ah 1) bb (λ_ _=>rfl)) (d7 (i8 (ah 0) bb (λ_ _=>rfl)) (ah 2))))) (ba (cT 4 pf.nd (a8 (lc B Y) ak (aA (ah 2) (aA (ah 3) a1)))) (bH (cB (db (aV (d7 (ah 3) (ah 4)) (aV (cO (d7 (i8 (ah 0) bb (λ_ _=>rfl)) (ah 2)) (d7 (i8 (ah 1) bb (λ_ _=>rfl)) (ah 4))) b9)))))))),?_⟩);rintro as k ao ⟨eD,x,y,u,v,rfl,aq,a6,a7,jc,hS,jv,gV,ag⟩;refine c6 rfl ?_;have v0:v≠0:=Sz a7.1;have sp:=oj (t:=y) (b:=v) v0;have d5:=lE (a:=y) (b:=v) v0 gV;have cm:=λtop d=>Fc a6 a7 (s:=((Ak y v:Nat):Int)) (top:=top) (d:=d) rfl;refine⟨_,rfl,_,_,_,aq,rfl,rfl,_,rfl,_,_,_,rfl,rfl,rfl,rfl,_,_,rfl,?_⟩;dsimp only[bU];generalize((Ak y v:Nat):Int)=s at *;have bc:wp (v.fdiv s)<=4000:=dO (UV _ _) gV;have bg:wp (y.fdiv s)<=4000:=dO (UV _ _) hS;have tb:wp (x*v.fdiv s+u*y.fdiv s)<=8001:=XQ (TE jc bc) (TE jv bg);have hd:∀z:Int,qR z s:=λz=>⟨by lia,aR d5⟩;have cm:=λd=>cm _ d rfl;refine⟨_,rfl,_,_,_,aq,rfl,rfl,_,rfl,_,_,_,rfl,rfl,rfl,_,rfl,_,_,rfl,rfl,hd _,_,_,rfl,rfl,⟨by walk_at "bits",by walk_at "bits"⟩,?_⟩;refine⟨_,rfl,_,_,_,rfl,rfl,rfl,_,rfl,_,_,_,aq,rfl,rfl,_,rfl,_,_,rfl,rfl,hd _,_,_,rfl,rfl,⟨by walk_at "bits",by walk_at "bits"⟩,_,_,rfl,rfl,?_⟩;dsimp only;generalize x*v.fdiv s+u*y.fdiv s=top at *;refine⟨_,rfl,_,rfl,rfl,_,_,rfl,?_⟩;dsimp only[bU];have cm:=cm _ rfl;have dp:=lG (a:=s) (b:=top) (.inl (Sz sp))
 have xX:wp ((Ak s top:Nat):Int)<=4000:=by
  rw[TL];exact lE (Sz sp) d5
 generalize((Ak s top:Nat):Int)=d at *;have dP:wp (v.fdiv d)<=4000:=dO (UV _ _) gV;have hd2:∀z:Int,qR z d:=λz=>⟨by lia,aR xX⟩;rw[<-cm]at ag;refine⟨_,rfl,_,rfl,_,_,rfl,rfl,hd2 _,?_⟩;refine⟨_,rfl,_,_,_,aq,rfl,rfl,_,rfl,_,_,rfl,rfl,hd _,_,rfl,_,_,_,rfl,rfl,rfl,_,rfl,_,_,rfl,rfl,hd2 _,_,_,rfl,rfl,⟨by walk_at "bits",by walk_at "bits"⟩,gJ,?_⟩;exact ag
theorem CY :
  cf P w K mg base "piled" ["boxes"] 5 (cl K 1 ac3):=by
 refine dh Y.f_piled qz rfl (λ_ _ _ _ _ _ _ ak=>⟨_,(ba (cT 1 qz.nd (ra Y.G_NOTHING (by rfl))) (ba (mw (i:=2) qz.nd rfl (SF rfl) (gS b9)) (ba (mx PassesOwn.never rfl (i5 (ah 0)) (gE (n:=3) rfl (c0 (c9 3 qz.nd) (c0 (c9 4 qz.nd) (c0 (c9 5 qz.nd) gD)))) (ba (EW 2 (a8 (rZ B Y) ak (aA (ah 5) (aA (a8 (lf B Y) ak (aA (ra Y.G_NOTHING (by rfl)) (aA (ah 1) a1))) a1)))) (bH (cT 1 qz.nd (a8 (adJ B Y) ak (aA (ah 1) (aA (ah 4) a1))))))) (mv 2 (bH (cB (db (aV (jp (ei 0) bb (λ_ _=>rfl)) (aV (ah 1) (aV (ah 2) b9)))))))))),?_⟩);rintro as k ao ⟨b0,bs,rfl,dE,ae,ao,ag⟩;refine c6 rfl ?_;have fx:3<=TT:=by decide
 have gH:=j1;have d9:aE 0 1:=⟨by decide,by decide⟩;refine d8 (λρ=>ρ=[.val (.lst ((b0::bs).map dBx)),.val (.ktup [.int 0,.int 1]),.no,.no,.no,.no]) ?_ (λN aL=>aL _ rfl);rintro ρ rfl;refine d8 (λρ=>ρ=[.val (.lst ((b0::bs).map dBx)),.val (.ktup [.int 0,.int 1]),.own (.l ((dj [] (0,1)).map cY)),.no,.no,.no]) ?_ (λN aL=>⟨S8 _,aL _ rfl⟩);rintro ρ rfl;refine d8 (λρ=>∃ah il im:aQ,ρ=[.val (.lst ((b0::bs).map dBx)),.val (dR (bI (b0::bs) (0,1))),.own (.l ((dj (b0::bs) (0,1)).map cY)),ah,il,im]) ?_ (λN aL=>?_)
 ·rintro ρ ⟨ah,il,im,rfl⟩;refine⟨_,rfl,?_⟩;refine⟨_,rfl,(b0::bs).map dBx,0,dBx b0,.inr rfl,rfl,aaN _ _,[dR b0.1,dR b0.2.1,dSh b0.2.2],0,dR b0.1,.inl rfl,rfl,rfl,?_⟩;exact⟨_,rfl,_,rfl,fx,ag⟩
 refine⟨_,rfl,_,rfl,?_⟩;refine Jd (done:=[]) (bs:=b0::bs) (λpre ρ=>∃(r0:D)(ah il im:aQ),ρ=[.val (.lst ((b0::bs).map dBx)),.val r0,.own (.l ((dj pre (0,1)).map cY)),ah,il,im]/\ta r0=some [.int (bI pre (0,1)).1,.int (bI pre (0,1)).2]/\(pre≠[]->r0=dR (bI pre (0,1)))) ⟨_,_,_,_,rfl,rfl,λz=>absurd rfl z⟩ ?_ (λρ h=>?_);rotate_left
 ·obtain⟨r0,ah,il,im,rfl,_,e⟩:=h;rw[e (by simp)];exact aL _ ⟨_,_,_,rfl⟩
 rintro pre x rest ρ ax ⟨r0,ah,il,im,rfl,au,_⟩ pi iT;rw[Ta]at ax;obtain⟨lh,c1,c2,gm⟩:=dE x (by rw[ax];simp);obtain⟨ai,ap⟩:=ae pre x rest ax;have b4:aE (bI pre (0,1)).1 (bI pre (0,1)).2:=uo d9 λb ab=>(dE b (by rw[ax];simp[ab])).1.1
 have BZ:((pre.map λb=>b.2.2.length).sum+(x.2.2.length+(rest.map λb=>b.2.2.length).sum))<=400:=by
  rw[ax]at ao;simpa using ao
 have dG:eA 450 (cj (0,1) (bI pre (0,1))):=⟨(i7 (n:=1*(bI pre (0,1)).2) (Sz (SE (by decide) b4.1))).1,(kX (x:=0) (y:=1) (m:=2) (by decide) (by decide) ai ap d9 b4).mono (by decide)⟩;dsimp only;refine⟨_,rfl,_,rfl,_,rfl,rfl,_,_,0,1,(bI pre (0,1)).1,(bI pre (0,1)).2,rfl,rfl,au,d9,b4,by decide,by decide,aR ai,aR ap,?_⟩;dsimp only[bU];refine⟨rfl,x.2.2,cj (0,1) (bI pre (0,1)),rfl,by lia,gm,dG,_,rfl,?_⟩;refine⟨by rw[Sw,Sw,Sw,qj];lia,?_⟩
 have es:(dj pre (0,1)).map cY++(x.2.2.map (eL (cj (0,1) (bI pre (0,1))))).map cY=(dj (pre++[x]) (0,1)).map cY:=by
  rw[H3,SI];show _=_++(x.2.2.map (eL (cj (0,1) (bI pre (0,1))))++[]).map cY
  rw[SO]
 have rA:bI (pre++[x]) (0,1)=ih (bI pre (0,1)) x.2.1:=by rw[B7];rfl
 rw[es];refine⟨_,rfl,_,rfl,rfl,r0,(bI pre (0,1)).1,(bI pre (0,1)).2,x.2.1.1,x.2.1.2,rfl,au,b4,lh,aR ai,aR ap,aR c1,aR c2,?_⟩;exact iT _ ⟨dR (ih (bI pre (0,1)) x.2.1),_,_,_,rfl,by rw[rA];rfl,λ_=>by rw[rA]⟩
theorem adK :
  cf P w K mg base "in_columns" ["box","wide"] 13 (cl K 2 ac4):=by
 obtain⟨a_cut_level,_,jg,_,_⟩:=id Y.f_cut_level.ex;obtain⟨a_cut_upright,_,jh,_,_⟩:=id Y.f_cut_upright.ex;refine dh Y.f_in_columns qA rfl (λ_ _ _ _ _ _ _ ak=>⟨_,(ba (jP (ah 0) (gE (n:=3) rfl (c0 (c9 2 qA.nd) (c0 (gs (i:=3) qA.nd rfl (SP rfl)) (c0 (c9 4 qA.nd) gD))))) (ba (cT 5 qA.nd (gR (a8 (adD B Y) ak (aA (a8 (xY B Y) ak (aA (ah 2) (aA (ah 1) a1))) a1)) bb)) (ba (mw (i:=6) qA.nd rfl (SF rfl) (MS (adH B Y jg jh) ak (by rfl) (aA (ah 4) (aA (ah 1) (aA (ah 5) a1))))) (ba (aaA 7 6 (a8 (CU B Y) ak (aA (ah 2) (aA (a8 (n1 B Y) ak (aA (ah 1) (aA (db (aV (ah 5) (aV bb b9))) a1))) a1))) (ah 3) qA.nd rfl (SF rfl)) (mv 6 (bH (cB (ed (pP (ed (lD (ts:=["one"]) (fr:=["wide","high"]) (js:=[1,3]) (i5 (ah 6)) (λ_ _ _ _=>(gs (i:=0) (show S' (["one","wide","high"]:ZQ) by decide +kernel) rfl (SF rfl))) (λ_ _ _ _=>ju) (λ_ _ _ _=>(db (aV (ah 1) (aV (ah 2) (aV (ah 0) b9))))) ⟨rfl,by decide +kernel,rfl,by decide +kernel,h7 (Tj.mpr ⟨rfl,(Tj.mpr ⟨rfl,(Tb _)⟩)⟩),iF rfl,by walk_at "ffr",rfl⟩)) (ed (gS (aV (ah 7) b9)))))))))))),?_⟩);rintro as k ao ⟨w,h,g,sh,N,bL,n,t,rfl,lw,lh,aM,w0,h0,aZ,c1,c2,c3,c4,bE,bG,bi,hf,qm,aj,av,aN,bQ,ag⟩;refine c6 rfl ?_;have cP:2<=TT:=by decide
 have fx:3<=TT:=by decide
 have gH:=j1;refine d8 (λρ=>ρ=[.val (dBx (w,h,sh)),.val (dR g),.val (dR w),.val (dR h),.val (dSh sh),.no,.no,.no]) ?_ (λN aL=>⟨_,rfl,_,rfl,rfl,_,_,rfl,_,_,rfl,_,_,rfl,rfl,aL _ rfl⟩);rintro ρ rfl;obtain⟨lo,z7⟩:=nO (a:=w) (b:=g) lw.1 aZ aM.1;obtain⟨i',jz⟩:=rE (a:=w) (b:=g) (p:=30) (q:=30) lw.1 aZ c1 c2 bE bG;refine d8 (λρ=>ρ=[.val (dBx (w,h,sh)),.val (dR g),.val (dR w),.val (dR h),.val (dSh sh),.val (.int ((N:Int)-1)),.no,.no]) ?_ (λN' aL=>?_);rotate_left
 ·refine⟨_,rfl,_,rfl,rfl,w.1,w.2,g.1,g.2,rfl,lw,aM,aR c1,aR c2,aR bE,aR bG,by lia,?_⟩;dsimp only[bU];refine⟨rfl,(d3 w g).1,(d3 w g).2,rfl,lo.1,aR jz,?_⟩;dsimp only[bU];rw[bi];exact⟨_,_,rfl,rfl,aL _ rfl⟩
 rintro ρ rfl;have bv:=mQ (c:=false) (w:=g) (sh:=sh) hf qm
 obtain⟨Ss,Z,gh⟩:∃Ss Z,eb false g sh N=Ss++[Z]:=by
  rcases UQ (eb false g sh N)with z|⟨Ss,Z,z⟩
  ·rw[z]at bv;simp at bv;lia
  ·exact⟨Ss,Z,by rw[z,UR]⟩
 refine d8 (λρ=>ρ=[.val (dBx (w,h,sh)),.val (dR g),.val (dR w),.val (dR h),.val (dSh sh),.val (.int ((N:Int)-1)),.own (.l (Ss.map dSh++[dSh Z])),.no]) ?_ (λN' aL=>?_);rotate_left
 ·refine⟨_,rfl,_,rfl,_,rfl,rfl,sh,g,(N:Int)-1,N,bL,n,t,rfl,by lia,aM,aR bE,aR bG,hf,qm,aj.mono (Sx _) (Sx _) (Sx _) (Sx _) (by decide),by lia,by lia,by lia,?_⟩;refine⟨_,rfl,aL _ ?_⟩;rw[gh,SI];rfl
 rintro ρ rfl;obtain⟨jF,_⟩:=hv (w:=g) aM.1 ((N:Int)-1);obtain⟨bm,bJ⟩:=k7 (w:=g) (q:=30) aM.1 bE bG (k:=(N:Int)-1) (by lia);have qn:wp ((N:Int)-1)<=4000:=SA (nb (by lia) (by lia)) (by decide);have x0:aE ((N:Int)-1) 1:=⟨by decide,by simp⟩;refine d8 (λρ=>ρ=[.val (dBx (w,h,sh)),.val (dR g),.val (dR w),.val (dR h),.val (dSh sh),.val (.int ((N:Int)-1)),.own (.l (Ss.map dSh)),.val (.tup [dR (hU w g N),dR h,dSh Z])]) ?_ (λN' aL=>?_);rotate_left
 ·refine⟨Ss.map dSh,dSh Z,rfl,?_⟩;refine⟨_,rfl,_,rfl,_,rfl,cP,rfl,g.1,g.2,(N:Int)-1,1,rfl,aM,x0,aR bE,aR bG,qn,by decide,?_⟩;dsimp only[bU];refine⟨rfl,w.1,w.2,(c8 g ((N:Int)-1)).1,(c8 g ((N:Int)-1)).2,rfl,lw,jF,aR c1,aR c2,aR bm,aR bJ,?_⟩;exact⟨_,rfl,aL _ rfl⟩
 rintro ρ rfl
 have ll:Ss.length<=16:=by
  have:=TW S1 gh;rw[bv,SH]at this;simp at this;lia
 refine⟨_,rfl,?_⟩;refine⟨_,rfl,_,rfl,by rw[Sw];lia,?_⟩;refine kK (f:=dSh) (h:=λS=>D.tup [dR g,dR h,dSh S]) (λS ci k ag=>⟨_,rfl,_,rfl,_,rfl,fx,ag⟩) ?_;refine⟨_,rfl,l9,_,_,rfl,rfl,by rw[Sw,TK];lia,?_⟩;have:=ag Ss Z gh;rw[SI,SQ]at this;exact this
theorem adL :
  cf P w K mg base "in_layers" ["box","wide"] 13 (cl K 2 ac5):=by
 obtain⟨a_cut_level,_,jg,_,_⟩:=id Y.f_cut_level.ex;obtain⟨a_cut_upright,_,jh,_,_⟩:=id Y.f_cut_upright.ex;refine dh Y.f_in_layers nZ rfl (λ_ _ _ _ _ _ _ ak=>⟨_,(ba (jP (ah 0) (gE (n:=3) rfl (c0 (c9 2 nZ.nd) (c0 (c9 3 nZ.nd) (c0 (c9 4 nZ.nd) gD))))) (ba (cT 5 nZ.nd (a8 (adC B Y) ak (aA (a8 (xY B Y) ak (aA (ah 1) (aA (ah 2) a1))) a1))) (ba (cT 6 nZ.nd (a8 (xY B Y) ak (aA (ah 3) (aA (db (aV (ah 5) (aV bb b9))) a1)))) (ba (mw (i:=7) nZ.nd rfl (SF rfl) (gS b9)) (ba (FQ PassesOwn.never rfl (a8 (adI B Y jg jh) ak (aA (ah 4) (aA (ah 6) (aA (gR (ah 5) bb) a1)))) (by rfl) B.enumerate_ (gE (n:=2) rfl (c0 (c9 8 nZ.nd) (c0 (c9 9 nZ.nd) gD))) (bH (EW 7 (a8 (rZ B Y) ak (aA (ah 9) (aA (a8 (lf B Y) ak (aA (a8 (n1 B Y) ak (aA (ah 2) (aA (db (aV (ah 8) (aV bb b9))) a1))) (aA (ra Y.G_NOTHING (by rfl)) a1))) a1)))))) (mv 7 (bH (cB (db (aV (a8 (n1 B Y) ak (aA (ah 2) (aA (db (aV (ah 5) (aV bb b9))) a1))) (aV (ah 6) (aV (ah 7) b9)))))))))))),?_⟩);rintro as k ao ⟨w,h,g,sh,N,bL,n,t,rfl,lw,lh,aM,w0,h0,aZ,c1,c2,c3,c4,bE,bG,bi,hf,qm,aj,av,aN,bQ,ag⟩;refine c6 rfl ?_;have cP:2<=TT:=by decide
 have fx:3<=TT:=by decide
 have gH:=j1;have d9:aE 0 1:=⟨by decide,by decide⟩;refine d8 (λρ=>ρ=[.val (dBx (w,h,sh)),.val (dR g),.val (dR w),.val (dR h),.val (dSh sh),.no,.no,.no,.no,.no]) ?_ (λN aL=>⟨_,rfl,_,rfl,rfl,_,_,rfl,_,_,rfl,_,_,rfl,rfl,aL _ rfl⟩);rintro ρ rfl;obtain⟨lo,z7⟩:=nO (a:=g) (b:=w) aM.1 w0 lw.1;obtain⟨i',jz⟩:=rE (a:=g) (b:=w) (p:=30) (q:=30) aM.1 w0 bE bG c1 c2;refine d8 (λρ=>ρ=[.val (dBx (w,h,sh)),.val (dR g),.val (dR w),.val (dR h),.val (dSh sh),.val (.int N),.no,.no,.no,.no]) ?_ (λN' aL=>?_);rotate_left
 ·refine⟨_,rfl,_,rfl,rfl,g.1,g.2,w.1,w.2,rfl,aM,lw,aR bE,aR bG,aR c1,aR c2,by lia,?_⟩;dsimp only[bU];refine⟨rfl,(d3 g w).1,(d3 g w).2,rfl,lo.1,aR jz,?_⟩;dsimp only[bU];rw[bi];exact aL _ rfl
 rintro ρ rfl;have qn:wp (N:Int)<=5:=dO (t:=16) (by lia) (by decide);have x0:aE (N:Int) 1:=⟨by decide,by simp⟩;obtain⟨fq,hx⟩:=nO (a:=h) (b:=((N:Int),1)) lh.1 (by show(0:Int)<N;lia) (show(0:Int)<1 by decide);obtain⟨a6,a7⟩:=rE (a:=h) (b:=((N:Int),1)) (p:=100) (q:=5) lh.1 (by show(0:Int)<N;lia) c3 c4 qn (show wp 1<=5 by decide);have adM:d3 h ((N:Int),1)=fT h N:=rfl;rw[adM]at fq a6 a7;refine d8 (λρ=>ρ=[.val (dBx (w,h,sh)),.val (dR g),.val (dR w),.val (dR h),.val (dSh sh),.val (.int N),.val (dR (fT h N)),.no,.no,.no]) ?_ (λN' aL=>?_);rotate_left
 ·refine⟨_,rfl,_,rfl,cP,rfl,h.1,h.2,(N:Int),1,rfl,lh,x0,aR c3,aR c4,aR qn,by decide,by lia,?_⟩;exact aL _ rfl
 rintro ρ rfl;refine d8 (λρ=>ρ=[.val (dBx (w,h,sh)),.val (dR g),.val (dR w),.val (dR h),.val (dSh sh),.val (.int N),.val (dR (fT h N)),.own (.l ((fJ w 0 []).map cY)),.no,.no]) ?_ (λN aL=>⟨S8 _,aL _ rfl⟩);rintro ρ rfl;obtain⟨L,e1⟩:∃L,L=fT h N:=⟨_,rfl⟩;rw[<-e1]at fq a6 a7 ag⊢;have bv:=mQ (c:=true) (w:=L) (sh:=sh) hf qm;have jX:=xq (c:=true) (w:=L) (b:=1990) (m:=bL) (t:=t) (N:=130) (q:=105) fq.1 a6 a7 (by lia) (by lia) hf qm aj;obtain⟨agN,_⟩:=hv (w:=w) lw.1 (N:Int);obtain⟨w1,eg⟩:=k7 (w:=w) (q:=30) lw.1 c1 c2 (k:=(N:Int)) (by lia);refine d8 (λρ=>∃eO eZ:aQ,ρ=[.val (dBx (w,h,sh)),.val (dR g),.val (dR w),.val (dR h),.val (dSh sh),.val (.int N),.val (dR L),.own (.l ((fJ w 0 (eb true L sh N)).map cY)),eO,eZ]) ?_ (λN' aL=>?_)
 ·rintro ρ ⟨eO,eZ,rfl⟩;refine⟨_,rfl,?_⟩;refine⟨_,rfl,_,rfl,cP,rfl,w.1,w.2,(N:Int),1,rfl,lw,x0,aR c1,aR c2,aR qn,by decide,?_⟩;exact⟨_,rfl,_,rfl,fx,ag⟩
 refine⟨_,rfl,_,rfl,_,rfl,_,_,rfl,rfl,rfl,sh,L,(N:Int)-1,N,bL,n,t,rfl,by lia,fq,aR a6,aR a7,hf,qm,aj.mono (Sx _) (Sx _) (Sx _) (Sx _) (by decide),by lia,by lia,by lia,?_⟩;dsimp only[bU];refine⟨_,rfl,?_⟩;generalize vv:eb true L sh N=Cd at bv jX ag aL;refine AL (f:=dSh) (rs:=Cd) (done:=[]) (λpre ρ=>∃eO eZ:aQ,ρ=[.val (dBx (w,h,sh)),.val (dR g),.val (dR w),.val (dR h),.val (dSh sh),.val (.int N),.val (dR L),.own (.l ((fJ w 0 pre).map cY)),eO,eZ]/\(fJ w 0 pre).length<=130*pre.length) ⟨_,_,rfl,by simp[fJ,fB]⟩ ?_ (λρ h=>?_);rotate_left
 ·obtain⟨eO,eZ,rfl,_⟩:=h;exact aL _ ⟨eO,eZ,rfl⟩
 rintro pre S rest ρ ax ⟨eO,eZ,rfl,Cy⟩ pi iT;rw[Ta]at ax
 have cm:pre.length<16:=by
  have:=TW S1 ax;rw[bv]at this;simp at this;lia
 have JL:=jX S (by rw[ax];simp);have ru:=JL.2;obtain⟨fS,_⟩:=hv (w:=w) lw.1 (pre.length:Int);obtain⟨bC,e4⟩:=k7 (w:=w) (q:=30) lw.1 c1 c2 (k:=(pre.length:Int)) (by lia);have bp:wp (pre.length:Int)<=4000:=SA (nb (by lia) (by lia)) (by decide);have adN:aE (pre.length:Int) 1:=⟨by decide,by simp⟩;have dG:=je (a:=c8 w (pre.length:Int)) (b:=(0,1)) (p:=35) (q:=2) fS d9 bC e4 (by decide) (by decide);dsimp only;refine⟨_,rfl,_,rfl,_,rfl,_,rfl,cP,rfl,w.1,w.2,(pre.length:Int),1,rfl,lw,adN,aR c1,aR c2,bp,by decide,?_⟩;dsimp only[bU];refine⟨rfl,_,_,(c8 w (pre.length:Int)).1,(c8 w (pre.length:Int)).2,0,1,rfl,rfl,rfl,fS,d9,aR bC,aR e4,by decide,by decide,?_⟩;dsimp only[bU];refine⟨rfl,S,cj (c8 w (pre.length:Int)) (0,1),rfl,by lia,λs fb=>(JL.1 s fb).gm (by decide) (by lia) (by lia),dG.mono (by decide),?_⟩;dsimp only[bU];have es:(fJ w 0 pre).map cY++(S.map (eL (cj (c8 w (pre.length:Int)) (0,1)))).map cY=(fJ w 0 (pre++[S])).map cY:=by rw[B8,SI,TR]
 refine⟨_,rfl,by rw[Sw,Sw,Sw];lia,iT _ ⟨.val (.int pre.length),.val (dSh S),by rw[es];rfl,?_⟩⟩;rw[B8,SH,Sw,SH,TK];lia
theorem adO :
  cf P w K mg base "in_three" ["box","wide"] 8 (cl K 2 ac6):=by
 refine dh Y.f_in_three l7 rfl (λ_ _ _ _ _ _ _ ak=>⟨_,(ba (jP (ah 0) (gE (n:=3) rfl (c0 (c9 2 l7.nd) (c0 (c9 3 l7.nd) (c0 (c9 4 l7.nd) gD))))) (ba (fF (z2 (ak.units) (ah 2) (ah 1) (d6 _)) (bH (cB (ah 0))) fO) (ba (cT 5 l7.nd (a8 (xY B Y) ak (aA (a8 (n1 B Y) ak (aA (ah 2) (aA (ah 3) a1))) (aA (ah 1) a1)))) (ba (jP (a8 (CT B Y) ak (aA (ah 4) (aA (a8 (lf B Y) ak (aA (ah 2) (aA (ra Y.G_NOTHING (by rfl)) a1))) (aA (a8 (lf B Y) ak (aA (ra Y.G_NOTHING (by rfl)) (aA (ah 5) a1))) a1)))) (gE (n:=2) rfl (c0 (c9 6 l7.nd) (c0 (c9 7 l7.nd) gD)))) (ba (jP (a8 (JB B Y) ak (aA (ah 6) (aA (ah 1) a1))) (gE (n:=2) rfl (c0 (c9 8 l7.nd) (c0 (c9 9 l7.nd) gD)))) (ba (cT 10 l7.nd (a8 (rZ B Y) ak (aA (ah 9) (aA (a8 (lf B Y) ak (aA (a8 (JF B Y) ak (aA (ah 1) a1)) (aA (ah 3) a1))) a1)))) (ba (cT 11 l7.nd (a8 (rZ B Y) ak (aA (ah 7) (aA (a8 (lf B Y) ak (aA (a8 (CU B Y) ak (aA (ah 1) (aA (ah 2) a1))) (aA (a8 (CU B Y) ak (aA (ah 5) (aA (ah 3) a1))) a1))) a1)))) (bH (cB (db (aV (ah 1) (aV (ah 5) (aV (ed (pP (ed (pP (ah 8) (ah 10))) (ah 11))) b9))))))))))))),?_⟩);rintro as k ao ⟨w,h,g,sh,bL,n,t,rfl,lw,lh,aM,w0,h0,aZ,c1,c2,c3,c4,bE,bG,aj,av,aN,bQ,ag⟩;refine c6 rfl ?_;have cP:2<=TT:=by decide
 have fx:3<=TT:=by decide
 have gH:=j1;have d9:aE 0 1:=⟨by decide,by decide⟩;refine d8 (λρ=>ρ=[.val (dBx (w,h,sh)),.val (dR g),.val (dR w),.val (dR h),.val (dSh sh),.no,.no,.no,.no,.no,.no,.no]) ?_ (λN aL=>⟨_,rfl,_,rfl,rfl,_,_,rfl,_,_,rfl,_,_,rfl,rfl,aL _ rfl⟩);rintro ρ rfl;by_cases jL:w=g
 ·rw[SL jL]at ag;subst jL;refine⟨_,rfl,_,rfl,.T [.I,.I],rfl,rfl,by decide,_,rfl,?_⟩;change (if eqD (dR w) (dR w)=true then _ else _);rw[qZ];exact q0 rfl ⟨_,rfl,ag⟩
 rw[SZ jL]at ag
 have ne:eqD (dR w) (dR g)=false:=oC (by
  constructor
  ·intro z;cases z
  ·intro z;exact absurd (Ox z) jL)
 refine oD (λN aL=>?_) ?_
 ·refine⟨_,rfl,_,rfl,.T [.I,.I],rfl,rfl,by decide,_,rfl,?_⟩;change (if eqD (dR w) (dR g)=true then _ else _);rw[ne];exact q1 rfl aL
 have lt:=(gG (t:=w.1*h.1) (b:=w.2*h.2) (Sz (SE lw.1 lh.1)));have k5:wp (cg (w.1*h.1) (w.2*h.2)).1<=180/\wp (cg (w.1*h.1) (w.2*h.2)).2<=180:=⟨dO lt.2.2.1 (TE c1 c3),dO lt.2.2.2 (TE c2 c4)⟩;obtain⟨b4,ii⟩:=nO (a:=cg (w.1*h.1) (w.2*h.2)) (b:=g) lt.1.1 aZ aM.1;obtain⟨bw,bF⟩:=rE (a:=cg (w.1*h.1) (w.2*h.2)) (b:=g) (p:=180) (q:=30) lt.1.1 aZ k5.1 k5.2 bE bG;have adP:d3 (cg (w.1*h.1) (w.2*h.2)) g=er w h g:=rfl;rw[adP]at b4 bw bF;obtain⟨H,eS⟩:∃H,H=er w h g:=⟨_,rfl⟩;refine d8 (λρ=>ρ=[.val (dBx (w,h,sh)),.val (dR g),.val (dR w),.val (dR h),.val (dSh sh),.val (dR H),.no,.no,.no,.no,.no,.no]) ?_ (λN aL=>?_);rotate_left
 ·refine⟨_,rfl,_,rfl,rfl,w.1,w.2,h.1,h.2,rfl,lw,lh,aR c1,aR c2,aR c3,aR c4,?_⟩;dsimp only[bU];refine⟨_,rfl,rfl,(cg (w.1*h.1) (w.2*h.2)).1,(cg (w.1*h.1) (w.2*h.2)).2,g.1,g.2,rfl,lt.1,aM,aR k5.1,aR k5.2,aR bE,aR bG,by lia,?_⟩;exact aL _ (by rw[eS];rfl)
 rintro ρ rfl;rw[<-eS]at b4 bw bF;have wt:lY w h g sh=cL g true (ck (ln (bT w H)) (aU (bT w H)) sh)++(cL g false (ck (ln (bT w H)) (aU (bT w H)) sh)).map (eL (cj (-g.1,g.2) h))++(ck (λc => -ln (bT w H) c) (aU (bT w H)) sh).map (eL (cj (fI g w) (fI H h))):=by rw[eS];rfl
 rw[wt,<-eS]at ag;have cp:=je (a:=w) (b:=(0,1)) (p:=70) (q:=2) lw d9 c1 c2 (by decide) (by decide);have b1:=je (a:=(0,1)) (b:=H) (p:=2) (q:=210) d9 b4 (by decide) (by decide) bw bF;have bl:cD 300 (bT w H):=(cp.bp.crs b1.bp).mono (by decide);have ae:∀s∈sh,∀c∈s.1,cD 1990 c/\aT c:=λs fb p ae=>⟨((aj.1 s fb).rb.pts p ae).bp,((aj.1 s fb).rb.pts p ae).pt⟩;have qf:∀s∈sh,s.1.length<=1000:=λs fb=>by have:=(aj.1 s fb).ln;lia
 have uN:=aj.2;have nS:(bT w H).1≠0\/(bT w H).2.1≠0:=ur lw w0 b4 (xt lw w0 lh h0 aM aZ eS);have e:(λc => -ln (bT w H) c)=ln (lP (bT w H)):=funext λc=>(mH _ _).symm;have z1:cJ 1990 bL (n+1) t 130 (ck (ln (bT w H)) (aU (bT w H)) sh):=⟨o5 aj.1 bl (by lia) nS (oS _ _) (by lia) _ (.inl rfl),SA (lQ sh) aj.2⟩
 have aY:cJ 1990 bL (n+1) t 130 (ck (λc => -ln (bT w H) c) (aU (bT w H)) sh):=by
  rw[e];exact⟨o5 aj.1 bl (by lia) nS (oS _ _) (by lia) _ (.inr rfl),SA (lQ sh) aj.2⟩
 generalize adQ:ck (ln (bT w H)) (aU (bT w H)) sh=lo at z1 ag;generalize adR:ck (λc => -ln (bT w H) c) (aU (bT w H)) sh=hN at aY ag;refine d8 (λρ=>ρ=[.val (dBx (w,h,sh)),.val (dR g),.val (dR w),.val (dR h),.val (dSh sh),.val (dR H),.val (dSh lo),.val (dSh hN),.no,.no,.no,.no]) ?_ (λN aL=>?_);rotate_left
 ·refine⟨_,rfl,_,rfl,rfl,_,_,w.1,w.2,0,1,rfl,rfl,rfl,lw,d9,aR c1,aR c2,by decide,by decide,?_⟩;dsimp only[bU];refine⟨_,rfl,rfl,_,_,0,1,H.1,H.2,rfl,rfl,rfl,d9,b4,by decide,by decide,aR bw,aR bF,?_⟩;dsimp only[bU];refine⟨rfl,sh,cj w (0,1),cj (0,1) H,rfl,cp.bp.mono (by decide),b1.bp.mono (by decide),ae,qf,by lia,?_⟩;dsimp only[bU];exact⟨_,rfl,rfl,_,_,rfl,_,_,rfl,rfl,aL _ (by rw[<-adQ,<-adR];rfl)⟩
 rintro ρ rfl;have lK:∀s∈lo,∀c∈s.1,cD 1990 c/\aT c:=λs fb p ae=>⟨((z1.1 s fb).rb.pts p ae).bp,((z1.1 s fb).rb.pts p ae).pt⟩;have zr:∀s∈lo,s.1.length<=1000:=λs fb=>by have:=(z1.1 s fb).ln;lia
 have a6:=z1.2;have bM:=z1.cL (X:=g) (q:=30) true aM bE bG (by lia) (by lia);have cy:=z1.cL (X:=g) (q:=30) false aM bE bG (by lia) (by lia);refine d8 (λρ=>ρ=[.val (dBx (w,h,sh)),.val (dR g),.val (dR w),.val (dR h),.val (dSh sh),.val (dR H),.val (dSh lo),.val (dSh hN),.val (dSh (cL g true lo)),.val (dSh (cL g false lo)),.no,.no]) ?_ (λN aL=>?_);rotate_left
 ·refine⟨_,rfl,_,rfl,rfl,lo,g,rfl,aM,aR bE,aR bG,lK,zr,by lia,?_⟩;dsimp only[bU];exact⟨_,rfl,rfl,_,_,rfl,_,_,rfl,rfl,aL _ rfl⟩
 rintro ρ rfl;have aO:=je (a:=(-g.1,g.2)) (b:=h) (p:=30) (q:=110) ⟨aM.1,by rw[U5];exact aM.2⟩ lh (Xz bE) bG c3 c4;refine d8 (λρ=>ρ=[.val (dBx (w,h,sh)),.val (dR g),.val (dR w),.val (dR h),.val (dSh sh),.val (dR H),.val (dSh lo),.val (dSh hN),.val (dSh (cL g true lo)),.val (dSh (cL g false lo)),.val (dSh ((cL g false lo).map (eL (cj (-g.1,g.2) h)))),.no]) ?_ (λN aL=>?_);rotate_left
 ·refine⟨_,rfl,_,rfl,rfl,g.1,g.2,rfl,?_⟩;dsimp only[bU];refine⟨_,rfl,rfl,_,_,-g.1,g.2,h.1,h.2,rfl,rfl,rfl,⟨aM.1,by rw[U5];exact aM.2⟩,lh,SA (Xz bE) (by decide),aR bG,aR c3,aR c4,?_⟩;dsimp only[bU];refine⟨rfl,cL g false lo,cj (-g.1,g.2) h,rfl,by have:=cy.2;lia,λs fb=>(cy.1 s fb).gm (by decide) (by lia) (by lia),aO.mono (by decide),?_⟩;exact aL _ rfl
 rintro ρ rfl;obtain⟨mR,_⟩:=nQ (a:=g) (b:=w) aM.1 lw.1;obtain⟨rI,_⟩:=nQ (a:=H) (b:=h) b4.1 lh.1;obtain⟨bC,e4⟩:=uq (a:=g) (b:=w) (p:=30) (q:=70) aM.1 lw.1 bE bG c1 c2;obtain⟨nF,kT⟩:=uq (a:=H) (b:=h) (p:=210) (q:=110) b4.1 lh.1 bw bF c3 c4;have bz:=je (a:=fI g w) (b:=fI H h) (p:=101) (q:=321) mR rI bC e4 nF kT;refine d8 (λρ=>ρ=[.val (dBx (w,h,sh)),.val (dR g),.val (dR w),.val (dR h),.val (dSh sh),.val (dR H),.val (dSh lo),.val (dSh hN),.val (dSh (cL g true lo)),.val (dSh (cL g false lo)),.val (dSh ((cL g false lo).map (eL (cj (-g.1,g.2) h)))),.val (dSh (hN.map (eL (cj (fI g w) (fI H h)))))]) ?_ (λN aL=>?_);rotate_left
 ·refine⟨_,rfl,_,rfl,_,rfl,rfl,g.1,g.2,w.1,w.2,rfl,aM,lw,aR bE,aR bG,aR c1,aR c2,?_⟩;dsimp only[bU];refine⟨_,rfl,_,rfl,rfl,H.1,H.2,h.1,h.2,rfl,b4,lh,aR bw,aR bF,aR c3,aR c4,?_⟩;dsimp only[bU];refine⟨rfl,_,_,(fI g w).1,(fI g w).2,(fI H h).1,(fI H h).2,rfl,rfl,rfl,mR,rI,aR bC,aR e4,aR nF,aR kT,?_⟩;dsimp only[bU];refine⟨rfl,hN,cj (fI g w) (fI H h),rfl,by have:=aY.2;lia,λs fb=>(aY.1 s fb).gm (by decide) (by lia) (by lia),bz.mono (by decide),?_⟩;exact aL _ rfl
 rintro ρ rfl;have oV:=bM.2;have vZ:=cy.2;have JM:=aY.2;refine⟨_,rfl,_,rfl,_,rfl,_,rfl,_,_,rfl,rfl,by rw[Sw,Sw,Sw];lia,_,rfl,_,_,rfl,rfl,by rw[SH,Sw,Sw,Sw,Sw,Sw];lia,fx,?_⟩;rw[<-SI,<-SI];exact ag
theorem adS :
  cf P w K mg base "widened" ["box","wide"] 14 (cl K 2 ac7):=by
 refine dh Y.f_widened CJ rfl (λ_ _ _ _ _ _ _ ak=>⟨_,(ba (fF (hH (a8 (adB B Y) ak (aA (ei 0) (aA (ah 1) a1)))) (bH (cT 2 CJ.nd (ed (gS (aV (a8 (adL B Y) ak (aA (ah 0) (aA (ah 1) a1))) b9))))) (bH (cT 2 CJ.nd (a8 (adK B Y) ak (aA (ah 0) (aA (ah 1) a1)))))) (bH (cB (a8 (CY B Y) ak (aA (ed (pP (ed (sJ (ah 2) qX (qY (h3 bb)))) (ed (gS (aV (a8 (adO B Y) ak (aA (jp (ah 2) (h3 bb) (λ_ _=>rfl)) (aA (ah 1) a1))) b9))))) a1))))),?_⟩);rintro as k ao ⟨w,h,g,sh,B,bL,n,t,rfl,lw,lh,aM,w0,h0,aZ,c1,c2,c3,c4,bE,bG,r1,r2,aj,eH,av,aN,bQ,ag⟩;refine c6 rfl ?_;have gH:=j1;obtain⟨bM,cy,gt,j'⟩:=B9 lw w0 lh h0 aM aZ c1 c2 c3 c4 bE bG aj eH.1 av r1 r2;have all1:=aaQ (w:=w) (h:=h) (g:=g) (sh:=sh)
 have ae:∀bs:ZM,bs=fc w h g sh->bs≠[]->∃b0 r,bs=b0::r/\(∀b∈b0::r,aE b.2.1.1 b.2.1.2/\wp b.2.1.1<=350/\wp b.2.1.2<=350/\∀s∈b.2.2,rD s)/\(∀pre b rest,b0::r=pre++b::rest->wp (bI pre (0,1)).1<=350/\wp (bI pre (0,1)).2<=350)/\((b0::r).map λb=>b.2.2.length).sum<=400/\b0.1=g:=by
  intro bs e ne;cases bs with
  |nil=>exact absurd rfl ne
  |cons b0 r=>
   rw[<-e]at bM cy gt all1;exact⟨b0,r,rfl,λb ab=>⟨(bM b ab).1,SA (bM b ab).2.1 (by decide),SA (bM b ab).2.2.1 (by decide),λs fb=>((bM b ab).2.2.2.1 s fb).gm (by lia) (by lia) (by lia)⟩,λpre b rest aW=>⟨SA (cy pre b rest aW).2.1 (by decide),SA (cy pre b rest aW).2.2 (by decide)⟩,by lia,all1 b0 Sv⟩
 have jL:eqD (dR w) (dR w)=true:=qZ _;refine d8 (λρ=>∃(bs:ZM)(b:BoxD)(uP n' t':Nat),ρ=[.val (dBx (w,h,sh)),.val (dR g),.val (.lst ((bs++[b]).map dBx))]/\bs++[d4 g b]=fc w h g sh/\bs.length<=16/\aE b.1.1 b.1.2/\aE b.2.1.1 b.2.1.2/\0<b.1.1/\0<b.2.1.1/\wp b.1.1<=70/\wp b.1.2<=70/\wp b.2.1.1<=110/\wp b.2.1.2<=110/\cJ 1990 uP n' t' 130 b.2.2/\(350<=uP/\uP<=1600)/\n'<=60/\t'<=2000) ?_ (λN aL=>?_)
 ·rintro ρ ⟨bs,b,uP,n',t',rfl,dY,bl,aO,bz,et,m4,nJ,va,hY,sY,q7,adT,adU,adV⟩;have ne:bs++[d4 g b]≠[]:=by simp
  obtain⟨b0,r,d0,a4,a',bP,dL⟩:=ae _ dY ne;have adW:ej ((bs++[b]).map dBx) (-1)=some (dBx b):=by rw[SI];exact L2.atI_last _ _
  have lX:jQ ((bs++[b]).map dBx) none (some (-1))=bs.map dBx:=by rw[SI];exact aaU _ _
  refine⟨_,rfl,_,rfl,_,rfl,_,rfl,?_⟩;dsimp only;rw[lX];refine⟨_,rfl,_,rfl,_,_,_,.inr rfl,rfl,adW,_,rfl,rfl,b.1,b.2.1,g,b.2.2,uP,n',t',rfl,aO,bz,aM,et,m4,aZ,nJ,va,hY,sY,bE,bG,q7,adT,adU,adV,?_⟩;dsimp only[bU];refine⟨l9,_,_,rfl,rfl,by rw[Sw,TK];lia,?_⟩
  have gu:bs.map dBx++[dBx (if b.1=g then(b.1,b.2.1,b.2.2)else(g,er b.1 b.2.1 g,lY b.1 b.2.1 g b.2.2))]=(bs++[d4 g b]).map dBx:=by
   rw[SI];rfl
  rw[gu,d0];refine⟨rfl,b0,r,rfl,a4,a',bP,?_⟩;dsimp only[bU];rw[dL,<-d0,dY];exact ag
 by_cases c:w.1*g.2<g.1*w.2
 ·obtain⟨bi,bX,eN,_,_⟩:=ut lw w0 aM aZ c r2;obtain⟨fq,ij,a6,a7,hx,jF,nz,bm,bJ,k8⟩:=uw lw w0 lh h0 c1 c2 c3 c4 bX eN;have ru:=Ia lw w0 lh h0 aM aZ c1 c2 c3 c4 bE bG aj eH.1 av bX eN;refine⟨_,rfl,_,_,_,.inl rfl,rfl,rfl,_,rfl,rfl,w.1,w.2,g.1,g.2,rfl,aR c1,aR c2,aR bE,aR bG,?_⟩;dsimp only[bU];refine⟨_,rfl,?_⟩;rw[SL (Xy c)];refine⟨_,rfl,_,rfl,rfl,w,h,g,sh,cS w g,bL,n,t,rfl,lw,lh,aM,w0,h0,aZ,c1,c2,c3,c4,bE,bG,bi,bX,eN,aj.mono (by lia) (Sx _) (Sx _) (Sx _) (by decide),by lia,by lia,by lia,?_⟩;dsimp only[bU];refine⟨l9,?_⟩;exact aL _ ⟨[],layB w h g sh,bL+153,n+4,t+151,rfl,(uu c).symm,by simp,jF,fq,nz,ij,aR bm,aR bJ,aR a6,aR a7,ru.mono (by lia) (Sx _) (Sx _) (Sx _) (by lia),by lia,by lia,by lia⟩
 ·obtain⟨bi,bX,eN,_,_⟩:=rF lw w0 aM aZ (by lia) r1;obtain⟨fq,ij,a6,a7,hx⟩:=xw lw w0 aM aZ c1 c2 bE bG (by lia) r1;have jX:=xq (c:=false) (w:=g) (b:=B) (m:=bL) (t:=t) (N:=8) (q:=30) aM.1 bE bG (by lia) (by lia) bX eN aj;have bv:=mQ (c:=false) (w:=g) (sh:=sh) bX eN
  obtain⟨Ss,Z,gh⟩:∃Ss Z,eb false g sh (dk w g)=Ss++[Z]:=by
   rcases UQ (eb false g sh (dk w g))with z|⟨Ss,Z,z⟩
   ·rw[z]at bv;simp at bv;lia
   ·exact⟨Ss,Z,by rw[z,UR]⟩
  have ll:Ss.length<=16:=by
   have:=TW S1 gh;rw[bv,SH]at this;simp at this;lia
  refine⟨_,rfl,_,_,_,.inl rfl,rfl,rfl,_,rfl,rfl,w.1,w.2,g.1,g.2,rfl,aR c1,aR c2,aR bE,aR bG,?_⟩;dsimp only[bU];refine⟨_,rfl,?_⟩;rw[SZ (by simp only[decide_eq_true_eq];exact c)];refine⟨_,rfl,_,rfl,rfl,w,h,g,sh,dk w g,bL,n,t,rfl,lw,lh,aM,w0,h0,aZ,c1,c2,c3,c4,bE,bG,bi,bX,eN,aj.mono (by lia) (Sx _) (Sx _) (Sx _) (by decide),by lia,by lia,by lia,?_⟩;intro agO agP adX;dsimp only[bU];have hb:=gh.symm.trans adX;obtain⟨dN,lF⟩:=List.append_inj' hb rfl;cases dN;cases lF;exact aL _ ⟨Ss.map (λS=>((g,h,S):BoxD)),(hU w g (dk w g),h,Z),bL+153,n+4,t+151,rfl,(rH c gh).symm,by rw[Sw];exact ll,fq,lh,ij,h0,aR a6,aR a7,aR c3,aR c4,(jX Z (by rw[gh];simp)).mo5,by lia,by lia,by lia⟩
theorem adY :
  cf P w K mg base "piled_by_width" ["boxes"] 6 (cl K 1 ac8):=by
 refine dh Y.f_piled_by_width CK rfl (λ_ _ _ _ _ _ _ ak=>⟨_,(ba (RR (b:=false) (i:=1) CK.nd rfl (SF rfl)) (ba (mx PassesOwn.never rfl (i5 (ah 0)) (c9 2 CK.nd) (bH (RU (b:=false) 1 (rr ak) (ei 2) (ah 2)))) (R4 1 (bH (cB (ed (lD (ts:=["some"]) (fr:=[]) (js:=[]) (abv (ah 1)) (λ_ _ _ _=>(gs (i:=0) (show S' (["some"]:ZQ) by decide +kernel) rfl (SF rfl))) (λ_ _ _ _=>ju) (λ_ _ _ _=>(a8 (CY B Y) ak (aA (ah 0) a1))) ⟨rfl,by decide +kernel,rfl,by decide +kernel,h7 (Tb _),iF rfl,by walk_at "ffr",rfl⟩))))))),?_⟩);rintro as k ao ⟨bs,rfl,ao,aD,ag⟩;refine c6 rfl ?_;have gH:=j1;refine d8 (λρ=>∃a,ρ=[.val (.lst (bs.map dBx)),.deep (.dl false a [] [] []),.no]) ?_ (λN aL a=>aL _ ⟨a,rfl⟩);rintro ρ ⟨a,rfl⟩;refine d8 (λρ=>∃(as:ZS)(ev:aQ),ρ=[.val (.lst (bs.map dBx)),.deep (.dl false a (jZ (eY bs)) as (j0 (eY bs))),ev]) ?_ (λN aL=>?_)
 ·rintro ρ ⟨as,ev,rfl⟩;refine⟨_,_,_,_,_,rfl,?_⟩;have aM:=xI bs;refine⟨_,rfl,_,_,_,rfl,by unfold jZ j0;simp,?_⟩;have em:(j0 (eY bs)).map D.lst=(eY bs).map λp=>D.lst (p.2.map dBx):=by unfold j0;rw[SQ];rfl
  dsimp only;rw[em];refine⟨by rw[Sw];lia,?_⟩;refine kK (f:=λp:gy=>D.lst (p.2.map dBx)) (h:=λp=>dBx (f' p)) (rs:=eY bs) (λp ae JM uQ=>?_) ag;obtain⟨aI,aP,g3⟩:=aD p ae;obtain⟨ne,hw⟩:=xG bs p ae
  match e:p.2,ne,hw,aI,aP,g3 with
  |b0::r,_,hw,aI,aP,g3=>
   refine⟨_,rfl,rfl,b0,r,rfl,aI,aP,g3,?_⟩;unfold f' at uQ;rw[e,<-hw b0 Sv]at uQ;exact uQ
 refine⟨_,rfl,_,rfl,?_⟩;refine oH (f:=dBx) (rs:=bs) (done:=[]) (λpre ρ=>∃(as:ZS)(ev:aQ),ρ=[.val (.lst (bs.map dBx)),.deep (.dl false a (jZ (eY pre)) as (j0 (eY pre))),ev]) ⟨_,_,rfl⟩ ?_ (λρ h=>?_);rotate_left
 ·obtain⟨as,ev,rfl⟩:=h;exact aL _ ⟨as,ev,rfl⟩
 rintro pre x rest ρ ax ⟨as,ev,rfl⟩ pi iT;rw[Ta]at ax;have iJ:pre.length<=100:=by rw[ax]at ao;simp at ao;lia
 have aM:=xI pre;obtain⟨az,a3⟩:=II (eY pre) x;refine⟨a,_,as,_,rfl,_,rfl,_,_,_,.inl rfl,rfl,rfl,jY x.1,rfl,λ_=>⟨_,rfl⟩,by unfold jZ;rw[Sw];lia,by unfold jZ j0;simp,λds hd=>?_,λas1 dss1=>?_⟩
 ·have m:=IR hd;unfold j0 at m;obtain⟨p,ae,rfl⟩:=SJ.mp m;have:=Ck ae;rw[Sw];lia
 ·refine⟨_,rfl,?_⟩;dsimp only;rw[az,a3,<-abx];exact iT _ ⟨as1,_,rfl⟩
theorem adZ :
  cf P w K mg base "column" ["boxes","wide"] 15 (cl K 2 ac'):=by
 refine dh Y.f_column ac9 rfl (λ_ _ _ _ _ _ _ ak=>⟨_,(ba (fF (hI (AP (ah 0))) (bH (cB (db (aV (ah 1) (aV (ra Y.G_NOTHING (by rfl)) (aV (ed (gS b9)) b9)))))) fO) (bH (cB (a8 (CY B Y) ak (aA (ed (lD (ts:=["pile"]) (fr:=["wide"]) (js:=[1]) (i5 (a8 (adY B Y) ak (aA (ah 0) a1))) (λ_ _ _ _=>(gs (i:=0) (show S' (["pile","wide"]:ZQ) by decide +kernel) rfl (SF rfl))) (λ_ _ _ _=>ju) (λ_ _ _ _=>(a8 (adS B Y) ak (aA (ah 0) (aA (ah 1) a1)))) ⟨rfl,by decide +kernel,rfl,by decide +kernel,h7 (Tj.mpr ⟨rfl,(Tb _)⟩),iF rfl,by walk_at "ffr",rfl⟩)) a1))))),?_⟩);rintro as k ao ⟨g,bs,rfl,aM,aZ,bE,bG,ab,ao,bi,ag⟩;refine c6 rfl ?_;have gH:=j1;obtain⟨ad0,JN⟩:=ag;by_cases e:bs=[]
 ·subst e;refine⟨_,rfl,_,rfl,?_⟩;dsimp only;rw[SL (show(!!(Uy dBx []).isEmpty)=true from rfl)];exact⟨_,rfl,S8 _,n2,ad0 rfl⟩
 refine oD (λN aL=>?_) ?_
 ·refine⟨_,rfl,_,rfl,?_⟩
  have em:(bs.map dBx).isEmpty=false:=by
   cases bs with
   |nil=>exact absurd rfl e
   |cons _ _=>rfl
  dsimp only;rw[em];exact aL
 obtain⟨each,pre,cnt⟩:=I1 ab ao bi aM aZ bE bG;have te:=xI bs;refine⟨_,rfl,rfl,bs,rfl,by lia,λp ae=>(xM ab ao bi ae).1,?_⟩;dsimp only[bU];refine⟨_,rfl,by rw[Sw];lia,?_⟩;refine kK (f:=λp:gy=>dBx (f' p)) (h:=λp=>dBx (gZ g (f' p))) (rs:=eY bs) (λp ae JM uQ=>?_) ?_
 ·obtain⟨_,_,l0,uF,bc,bg,sz,bal,I0⟩:=xM ab ao bi ae;obtain⟨lw,w0,bw,bF,r1,r2,_,_⟩:=IZ ab ao bi aM aZ bE bG ae;have m:∀{z:Int},wp z<=14->wp z<=30:=λh=>aR h;refine⟨_,rfl,_,rfl,rfl,p.1,bI p.2 (0,1),g,dj p.2 (0,1),794,295,6,134,rfl,lw,l0,aM,w0,uF,aZ,m bw,m bF,by lia,by lia,m bE,m bG,r1,r2,sz.md5,by decide,by decide,by decide,by decide,?_⟩;exact uQ
 have xN:dy g bs≠[]:=λz=>by
  have o2:eY bs=[]:=Xo.mp z;have:=(qu bs).length_eq;rw[o2]at this;exact e (Xp.mp this.symm)
 have em:(eY bs).map (λp=>dBx (gZ g (f' p)))=(dy g bs).map dBx:=by unfold dy;rw[SQ];rfl
 rw[em]
 have all:∀x∈dy g bs,x.1=g:=λx aq=>by
  obtain⟨p,_,rfl⟩:=SJ.mp aq;rfl
 have jT:=JN e;clear JN em;revert each pre cnt all jT;generalize dy g bs=Q at xN
 match Q,xN with
 |b0::r,_=>
  intro each pre cnt all jT;refine⟨rfl,b0,r,rfl,λb nR=>?_,λCv b rest aW=>?_,by lia,?_⟩
  ·obtain⟨aO,bz,et,m4,nJ,_⟩:=each b nR;exact⟨aO,by lia,by lia,λs aj=>(nJ.1 s aj).gm (by decide) (by decide) (by decide)⟩
  ·obtain⟨_,a,c⟩:=pre Cv (.inl ⟨b,rest,aW⟩);exact⟨by lia,by lia⟩
  rw[all b0 Sv];exact jT
theorem ad1{f:TI}{fd:X3}(F:mi K "law" "law" yV f fd):
  jK P w K mg base kA 16 f fd ["_law_script"] (vW K):=by
 refine jK.imp (sp:=cl K 1 EA) ?_ (λvs H Q E h=>Nx h);refine Nw (lv:=15) F mW rfl (λ_ _ _ _ _ _ ak=>⟨_,(ba (Nk (i:=1) mW.nd rfl (SF rfl) (Ni (add B Y) ak (by rfl) (aA (a8 (adc B Y) ak (aA (ah 0) (aA bb a1))) a1))) (ba (cT 2 mW.nd (a8 (Jv B Y) ak (jO 1 a1))) (ba (cT 3 mW.nd (a8 (Jv B Y) ak (jO 1 a1))) (ba (cT 4 mW.nd (a8 (ado B Y) ak (jO 1 (aA (ah 2) (aA (ah 3) a1))))) (ba (cT 5 mW.nd (a8 (xU B Y) ak (aA (ah 2) (aA (db (aV (hq bb (a8 (n0 B Y) ak (jO 1 (aA bb a1)))) (aV bb b9))) a1)))) (ba (cT 6 mW.nd (a8 (xU B Y) ak (aA (a8 (xU B Y) ak (aA (ah 2) (aA (ah 3) a1))) (aA (db (aV (ei 5) (aV (ei 5) b9))) a1)))) (ba (cT 7 mW.nd (ed (gS (aV (db (aV (a8 (CP B Y) ak (aA (ah 2) (aA (ah 3) a1))) (aV iD (aV (db (aV bb (aV bb (aV bb b9)))) b9)))) b9)))) (ba (mx PassesOwn.never rfl (zO (db (aV (ah 4) (aV (ed (OH (ah 4) (h3 bb))) b9)))) (c9 8 mW.nd) (ba (cT 9 mW.nd (a8 (adZ B Y) ak (aA (ah 8) (aA (ah 5) a1)))) (bH (fF (ni (w_or (hI (hH (a8 (adm B Y) ak (aA (ah 9) a1)))) (w_or (Nv (ak.units) (Oo (ah 9) qX (qY bb)) (db (aV (ah 5) (aV (ah 6) b9))) (d6 _)) (ov (hI (hH (a8 (adk B Y) ak (aA (ah 7) (aA (ei 9) a1))))))))) (bH (cB iD)) fO)))) (bH (cB iD)))))))))),?_⟩);rintro as k ao ⟨ns,rfl,agQ,ag⟩;refine c6 rfl ?_;have m:∀{z:Int}{a b:Nat},wp z<=a->a<=b->wp z<=b:=λh g=>SA h g;have gH:=j1;have cP:2<=TT:=by decide
 have fx:3<=TT:=by decide
 walk_at "w";refine⟨ns,0,rfl,by decide,λz=>?_⟩;refine⟨rfl,z,rfl,rfl,?_⟩;refine⟨rfl,rfl,rfl,λw lw w0 c1 c2=>?_⟩;dsimp only[bU];refine⟨rfl,rfl,rfl,λh lh h0 c3 c4=>?_⟩;dsimp only[bU];refine⟨rfl,_,rfl,_,rfl,rfl,w,h,rfl,lw,lh,w0,h0,c1,c2,c3,c4,λps qs bs ge nW iJ hs pm=>?_⟩;dsimp only[bU];refine⟨_,rfl,rfl,rfl,_,rfl,by decide,by decide,λd ia bw=>?_⟩;dsimp only[bU];have v8:wp (3+d)<=1000:=SA (intBits_le_iff.mpr (show(3+d).natAbs<2^4 by show(3+d).natAbs<16;lia)) (by decide);refine⟨_,_,rfl,rfl,cP,rfl,w,(3+d,9),rfl,lw.1,show(0:Int)<9 by decide,aR c1,aR c2,v8,show wp 9<=1000 by decide,?_⟩;dsimp only[bU];obtain⟨aM,aZ,bE,bG,r1,r2⟩:=abY lw w0 c1 c2 ia bw;generalize cg (w.1*(3+d)) (w.2*9)=g at aM aZ bE bG r1 r2⊢;obtain⟨mR,b7,bW,xD⟩:=Jc lw.1 lh.1 c1 c2 c3 c4;refine⟨_,rfl,_,rfl,rfl,w,h,rfl,lw.1,lh.1,aR c1,aR c2,aR c3,aR c4,?_⟩;dsimp only[bU];generalize cg (w.1*h.1) (w.2*h.2)=A at mR b7 bW xD⊢;obtain⟨CZ,ai,ap,C0⟩:=Jc (a:=A) (b:=(g.2,g.1)) mR.1 aZ b7 bW bG bE;refine⟨_,rfl,_,_,_,.inl rfl,rfl,rfl,_,rfl,_,_,_,.inl rfl,rfl,rfl,cP,rfl,A,(g.2,g.1),rfl,mR.1,aZ,aR b7,aR bW,aR bG,aR bE,?_⟩;dsimp only[bU]at CZ ai ap C0⊢;generalize cg (A.1*g.2) (A.2*g.1)=T at CZ ai ap C0⊢
 have wt:af T=af w*af h/af g:=by
  rw[C0,xD];have x:=di aZ;have y:=di aM.1;have:af (g.2,g.1)=1/af g:=by unfold af;grind
  rw[this];grind
 refine⟨_,rfl,_,rfl,rfl,w,h,rfl,lw,lh,aR c1,aR c2,aR c3,aR c4,?_⟩;dsimp only[bU];refine⟨fx,fx,l9,?_⟩;refine d8 (λρ=>∃eO eZ:aQ,ρ=[.val (.scr ns),.bag,.val (dR w),.val (dR h),.val (.lst (bs.map dBx)),.val (dR g),.val (dR T),.val (.lst ([(fo w h,false,(0,0,1))].map cY)),eO,eZ]) ?_ (λN aL=>?_)
 ·rintro ρ ⟨eO,eZ,rfl⟩;exact ag
 refine⟨_,rfl,_,rfl,_,rfl,rfl,_,rfl,cP,_,rfl,?_⟩
 have gu:[D.lst (bs.map dBx),D.lst (bs.map dBx).reverse]=[bs,bs.reverse].map λl:ZM=>D.lst (l.map dBx):=by
  rw[SD,SD,Tz,List.map_reverse]
 rw[gu];refine oH (f:=λl:ZM=>D.lst (l.map dBx)) (rs:=[bs,bs.reverse]) (done:=[]) (λ_ ρ=>∃eO eZ:aQ,ρ=[.val (.scr ns),.bag,.val (dR w),.val (dR h),.val (.lst (bs.map dBx)),.val (dR g),.val (dR T),.val (.lst ([(fo w h,false,(0,0,1))].map cY)),eO,eZ]) ⟨_,_,rfl⟩ ?_ (λρ h=>aL _ h);rintro pre l rest ρ ax ⟨eO,eZ,rfl⟩ pi iT;have rY:l∈[bs,bs.reverse]:=by rw[<-Ta [bs,bs.reverse],ax];simp
 have cm:l.Perm (hy w h ps qs):=by
  simp only[SG,Tr,or_false]at rY;rcases rY with rfl|rfl
  ·exact pm
  ·exact(List.reverse_perm _).trans pm
 clear gu ax rY;obtain⟨ab,fX,bi,ne,gh,ad2⟩:=abZ lw lh w0 h0 c1 c2 c3 c4 r1 r2 ge nW iJ hs cm;obtain⟨b4,f9,bw,bF,qv,sz,bal,uG⟩:=abI ab fX bi aM aZ bE bG ne;have ii:bI (dy g l) (0,1)=T:=o9 b4 CZ (by rw[qv,gh,wt]);refine⟨_,rfl,_,rfl,rfl,g,l,rfl,aM,aZ,bE,bG,ab,fX,bi,λz=>absurd z ne,λ_=>?_⟩;dsimp only[bU]
 have lF:jQ [dR g,dR (bI (dy g l) (0,1)),dSh (dj (dy g l) (0,1))] none (some 2)=[dR g,dR (bI (dy g l) (0,1))]:=by
  rw[EV (by decide) (by show(2:Int)<=3;decide)];rfl
 have pcu:∀s∈dj (dy g l) (0,1),jf s:=λs aj=>(sz.1 s aj).pcu (by decide) (by decide) (by decide);refine⟨_,rfl,rfl,g,bI (dy g l) (0,1),dj (dy g l) (0,1),rfl,aM,b4,aR bE,aR bG,aR bw,aR bF,aZ,f9,aR sz.2,pcu,bal,_,rfl,gP ?_⟩;refine⟨_,rfl,_,rfl,_,rfl,λz=>absurd z.2 (by show ¬(HT.sIx 3 3 (some 2)=3);decide),?_⟩;rw[lF,ii];refine⟨_,rfl,_,rfl,cP,.T [.T [.I,.I],.T [.I,.I]],rfl,rfl,by decide,_,rfl,NB (λh=>absurd rfl h) (λ_=>?_)⟩
 have ib:∀s∈[((fo w h,false,(0,0,1)):aK)],jf s:=λs aj=>by
  rw[SM.mp aj];have z1:eA 1200 ((0,0,1):aa):=⟨⟨by decide,by decide⟩,⟨by decide,by decide,by decide⟩⟩;exact⟨by show 4<=18;decide,(jx.cvx ⟨lw,lh,w0,h0⟩),λp ae=>(abm lw lh c1 c2 c3 c4 p ae).mono (by decide),z1⟩
 refine⟨_,rfl,_,rfl,_,_,_,.inl rfl,rfl,rfl,rfl,[(fo w h,false,(0,0,1))],dj (dy g l) (0,1),rfl,by show 1<=10;decide,aR sz.2,ib,pcu,λb φ=>(uG φ b).trans (ad2 φ b),_,rfl,gP ?_⟩;exact iT _ ⟨_,_,rfl⟩
end adb
theorem all_mk{l:PySem.W.OpenLaw}{w:WP}{K:F6}{h:XB}{mg:Str->Option Tk}{g7:TI}(Y:Tab tabs K)(X:K.In h)(G:h.Ns WF mg)(ad3:mg "law"=some (.ref g7))
  : ∃fd:X3,(∀(s:Tl)(v:Tk),ZA s fd ⟨[v],[]⟩ [("_law_script",v)])/\∀base:XB,K.In base->base.Ns WF mg->jK l.prog w K mg base kA 16 g7 fd ["_law_script"] (vW K):=by
 obtain⟨⟨ad4,ad5,ad6,ad7,ad8,ad9,ad',aea,aeb,x_point,x_at,aec,aed,aee,aef,aeg,aeh,aei,aej,aek,ael,aem,aen,aeo,aep,aeq,aer,aes,aet,aeu,aev,aew,aex,aey,aez,aeA,aeB,aeC,aeD,aeE,aeF,aeG,aeH,aeI,aeJ,aeK,aeL,aeM,aeN,aeO,aeP,aeQ,aeR,aeS,aeT,aeU,_⟩,⟨aeV,aeW,aeX,aeY,aeZ,ae0,ae1,ae2,ae3,ae4,ae5,ae6,ae7,ae8,ae9,ae',afa,afb,afc,_⟩,⟨afd,_⟩,⟨_⟩⟩:=Y;have afe:=ad4.fnd (ps:=["one","other"]) X G (by walk_at "b2");have aff:=ad5.fnd (ps:=["one","other"]) X G (by walk_at "b2");have afg:=ad6.fnd (ps:=["one","other"]) X G (by walk_at "b2");have afh:=ad7.fnd (ps:=["one","other"]) X G (by walk_at "b2");have afi:=ad8.fnd (ps:=["one","other"]) X G (by walk_at "b2");have afj:=ad9.fnd (ps:=["one","other"]) X G (by walk_at "b2");have afk:=ad'.fnd (ps:=["one"]) X G (by walk_at "b1");have afl:=aea.fnd (ps:=["one"]) X G (by walk_at "b1");have afm:=aeb.fnd (ps:=["one"]) X G (by walk_at "b1");have afn:=x_point.fnd (ps:=["a","b","n"]) X G (by walk_at "b3");have afo:=x_at.fnd (ps:=["x","y"]) X G (by walk_at "b2");have afp:=aec.fnd (ps:=["p","step"]) X G (by walk_at "b2");have afq:=aed.fnd (ps:=["one","other"]) X G (by walk_at "b2");have afr:=aee.fnd (ps:=["line","p"]) X G (by walk_at "b2");have afs:=aef.fnd (ps:=["p","q","r","s"]) X G (by walk_at "b4");have aft:=aeg.fnd (ps:=["ring","p","q"]) X G (by walk_at "b3");have afu:=aeh.fnd (ps:=["sheet","p","q"]) X G (by walk_at "b3");have JO:=aei.fnd (ps:=["sheet","place"]) X G (by walk_at "b2");have JP:=aej.fnd (ps:=["sheet","height"]) X G (by walk_at "b2");have afv:=aek.fnd (ps:=["sheet","step"]) X G (by walk_at "b2");have afw:=ael.fnd (ps:=["sheet","cut","size","first","last"]) X G (by walk_at "b5");have afx:=aem.fnd (ps:=["sheet","wide","many"]) X G (by walk_at "b3");have afy:=aen.fnd (ps:=["sheet","high","many"]) X G (by walk_at "b3");have afz:=aeo.fnd (ps:=["boxes"]) X G (by walk_at "b1");have afA:=aep.fnd (ps:=["box","wide"]) X G (by walk_at "b2");have afB:=aeq.fnd (ps:=["box","wide"]) X G (by walk_at "b2");have afC:=aer.fnd (ps:=["box","wide"]) X G (by walk_at "b2");have afD:=aes.fnd (ps:=["box","wide"]) X G (by walk_at "b2");have afE:=aet.fnd (ps:=["boxes"]) X G (by walk_at "b1");have afF:=aeu.fnd (ps:=["boxes","wide"]) X G (by walk_at "b2");have afG:=aev.fnd (ps:=["_law_script","_law_k"]) X G (by walk_at "b2");have afH:=aew.fnd (ps:=["_law_cell_here"]) X G (by walk_at "b1");have afI:=aex.fnd (ps:=["_law_bag_here","_law_many"]) X G (by walk_at "b2");have afJ:=aey.fnd (ps:=["_law_one","_law_other"]) X G (by walk_at "b2");have afK:=aez.fnd (ps:=["_law_top","_law_bottom"]) X G (by walk_at "b2");have afL:=aeA.fnd (ps:=["_law_x","_law_y","_law_bottom"]) X G (by walk_at "b3");have afM:=aeB.fnd (ps:=["_law_found"]) X G (by walk_at "b1");have afN:=aeC.fnd (ps:=["_law_p","_law_q"]) X G (by walk_at "b2");have afO:=aeD.fnd (ps:=["_law_tally","_law_rings","_law_number"]) X G (by walk_at "b3");have afP:=aeE.fnd (ps:=["_law_rings","_law_others"]) X G (by walk_at "b2");have afQ:=aeF.fnd (ps:=["_law_p","_law_q","_law_r"]) X G (by walk_at "b3");have afR:=aeG.fnd (ps:=["_law_p"]) X G (by walk_at "b1");have afS:=aeH.fnd (ps:=["_law_ring"]) X G (by walk_at "b1");have afT:=aeI.fnd (ps:=["_law_piece"]) X G (by walk_at "b1");have afU:=aeJ.fnd (ps:=["_law_olds","_law_news"]) X G (by walk_at "b2");have afV:=aeK.fnd (ps:=["_law_sheet_here","_law_ring"]) X G (by walk_at "b2");have afW:=aeL.fnd (ps:=["_law_one","_law_other"]) X G (by walk_at "b2");have afX:=aeM.fnd (ps:=["_law_one","_law_other"]) X G (by walk_at "b2");have afY:=aeN.fnd (ps:=["_law_x","_law_y"]) X G (by walk_at "b2");have afZ:=aeO.fnd (ps:=["_law_wide","_law_high"]) X G (by walk_at "b2");have af0:=aeP.fnd (ps:=["_law_found"]) X G (by walk_at "b1");have af1:=aeQ.fnd (ps:=["_law_found"]) X G (by walk_at "b1");have af2:=aeR.fnd (ps:=["_law_bag_here"]) X G (by walk_at "b1");have af3:=aeS.fnd (ps:=["_law_bag_here","_law_size_here","_law_most"]) X G (by walk_at "b3");have af4:=aeT.fnd (ps:=["_law_bag_here","_law_wide","_law_high"]) X G (by walk_at "b3");obtain⟨e9,af5,dS,JQ⟩:=aeU;have e:=ad3.symm.trans (PySem.W.mg_of X G dS);cases e;have B:Je mg:=⟨Tc X G aeV,Tc X G aeW,Tc X G aeX,Tc X G aeY,Tc X G aeZ,Tc X G ae0,Tc X G ae1,Tc X G ae2,Tc X G ae3,Tc X G ae4,Tc X G ae5,Tc X G ae6,Tc X G ae7,Tc X G ae8,Tc X G ae9,Tc X G ae',Tc X G afa,Tc X G afb,Tc X G afc⟩;have G_NOTHING:=afd.gtup X G;obtain⟨a_cut_level,_,jg,_,_⟩:=id JP.ex;obtain⟨a_cut_upright,_,jh,_,_⟩:=id JO.ex;refine⟨af5,λs v=>?_,λbase _ _=>?_⟩
 ·obtain⟨_,_,_,_,_,_,_,_,_,rfl,_⟩:=JQ.ex;exact .of_eq rfl
 exact ad1 B ⟨afe,aff,afg,afh,afi,afj,afk,afl,afm,afn,afo,afp,afq,afr,afs,aft,afu,JO,JP,afv,afw,afx,afy,afz,afA,afB,afC,afD,afE,afF,afG,afH,afI,afJ,afK,afL,afM,afN,afO,afP,afQ,afR,afS,afT,afU,afV,afW,afX,afY,afZ,af0,af1,af2,af3,af4,G_NOTHING⟩ JQ
end Cut
open PySem PySem.W PyProof.Rows
set_option maxRecDepth 100000 in
set_option maxHeartbeats 0 in
theorem PySem.Challenge.cw_slidecut_k47_boxes_of_a_box_holds : PySem.Challenge.rw_slidecut_k47_boxes_of_a_box.Holds := by
 refine holds_law Cut.said fun said => holds_open (XP := XL PySem.Challenge.pw_slidecut_k47_boxes_of_a_box []) (YP := L3.saysH Cut.tabs) Cut.left (L3.ofH Cut.tabs) (L3.keepsH Cut.tabs) (fun s e => xl_of s (Xr.mp e).1) XL.keeps (by rfl) (by rfl) (by rfl) (fun s e => recFacts_of (Xr.mp e).2) (by rfl) said (by decide +kernel) ⟨rfl, rfl, rfl, rfl, rfl, by decide +kernel⟩ ?hw ?hc
 case hw => w_witness2
 case hc => exact L3.walkH (k := 16) rfl rfl ⟨rfl, by decide, by decide⟩ fun w K mg g7 h Y X G sv => Cut.all_mk Y X G sv
#print axioms PySem.Challenge.cw_slidecut_k47_boxes_of_a_box_holds