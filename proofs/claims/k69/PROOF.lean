import PyProof.Rows.All
import Open.Line
import KE.KIsAll
import KE.KItem
import KE.IntBitsLaws
import OpenK.KCls
import OpenK.KList
import OpenK.KWalk
import OpenK.KCall
import OpenK.KMake
import KE.KIntText
import KE.KxPart
import KE.KxText
import PyProof.StrLawsTight
import Wide.FinOn
import Lean
import PyProof.EqAt
import PyProof.EqKinds
import PyProof.TupleCall
import PyProof.AttrMissHeap
import PyProof.Cells
import PyProof.AutoListH
import PyProof.AutoSeq1
import PyProof.SeqI3
import PyProof.Rows.SortWalk
import PyProof.DictItemsLoops
import PyProof.Rows.Range3
import PyProof.DictRoadsH
import PyProof.DictKinds
import PyProof.DictIter
import PyProof.DictWalks
import PyProof.DictValues
import PyProof.FactsAll.dict_values
import PyProof.FactsAll.dict_valueiterator
import PyProof.NeKinds
import PyProof.ExcBaseAll.ValueError
import PyProof.ZipIter
import PyProof.ListCopy
import PyProof.CollectWalk
import PyProof.SliceStr2
import PyProof.Rows.StrFirst
import PyProof.StrLawsFirst
import PyProof.StrLawsIn
import PyProof.StrBlockI
import PyProof.Rows.StrNews
import PyProof.EnumMake
import PyProof.EnumFor
import PyProof.EnumStmt
import PyProof.Rows.SetFrom
import PyProof.MinMaxWalk
import PyProof.WalkInts
import PyProof.FactsAll.tuple_1
import PyProof.FactsAll.tuple_2
import PySem.Challenge.RW_slidecut_k69_cloths_written_and_read
open PySem renaming wpAny_bind→SB,Value→SL,Shared→SZ,wpAny_pure→TD,Addr→TE,sizeLine→TI,starEach→Uf,Program→UF,intBits_mul_le→UV,model→Wp,foldedSetIterable→WF,Expr→WP,mainGlobals→W1,wpAny_truthy_bool→XV,wpAny_holding→Yb,natAbs_fdiv_le→Yc,World→Yd,codeAny_builtin→Yg,behindInMarks→Yh,SetTable→Yi,Around→Yj,wpAny_Call_Name_kw→Yk,wpAny_updateSeq→Yl,Stmt→Ym,Heap→Yn,richCompare→Yo,plainId_quiet→Yp,compareOp→Yq,wpAny_seqItems→Ys,wpAny_newObj_type→Yt,swapsWith→Yu,setSearchFrom→Yw,wpAny_tryCatch→Yx,wpAny_passesOwn→Yy,wpAny_forIn_list→Yz,assignEach→YA,intBits_add_le→YB,IsTupleKey→YC,intBits_neg_le→YD,bootBuiltins→YE,sliceBounds→YF,wpAny_letGo→YG,wpAny_loadPart'→YH,wpAny_mono→YI,wpAny_setState_of→YJ,FuncData→YK,cLine→YL,importedModules→YM,intKind→YN,swapsWithSole→YO,swappedStores→YQ,wpAny_nextOf_list_item→YR,richCompare_meets_room→YS,wpAny_bindName→YT,eval→YU,pyNext→YV,assignInOrder→YW,wpAny_standAt→YX,bindName→YY,ZipApart→YZ,typeIs_str→Y0,call_meets→Y1,Scope→Y2,holding→Y3,wpAny_execs_nil→Y4,PassesOwn→Y5,letOwnedTupleGo→Y6,wpAny_field→Y7,updateSeq→Y8,seqItems?→Y9,wpAny_FormattedValue_plain→Y',wpAny_pyIter_tuple→Za,binaryOp→Zb,codeAny_mono→Zc,builtinsNs→Zd,wpAny_pyIter_list→Zf,wpAny_getItem_list_slice→Zg,sizeLine_eq→Zh,Comprehension→Zi,wpAny_callSpecial?_slot→Zj,wpAny_pyIter_zip→Zl,wpAny_pyNext_list_item→Zm,treeTable→Zo,backTo→Zp,wpAny_pyNext_list_end→Zr,IsPair→Zs,wpAny_nextOf_list_end→Zt,wpAny_pyNext_zip_item→Zu,builtinLookup_eq_fast→Zv,wpAny_specialOf→Zw,wpAny_formatField_str→Zx,wpAny_eqIsQuiet_tuple→Zy,compEnvC→Zz,intBits_le_of_natAbs→ZA,wpAny_pyNext_zip_end→ZB,intBits_sub_le→ZC,Arguments→ZD,Result→ZF,NameKind→ZG,evalPart_none→ZI,call_function_tree→ZK,sysModules→ZL,standAt→ZM,callerA→ZN,isTrue→ZO,assign→ZP,rawInt→ZQ,seqIndex_neg→ZR,compTurn→ZU,lastMarks→ZV,seqIndex_of→ZW,slicePick→ZX,JoinOk→ZY,CmpOp→ZZ,BindsTo→Z0,bindArgs→Z1,truthy→Z2
open PySem.Builtin.Int renaming intBits→T0
open PyProof.Rows renaming IntsAre→Yr,assignInOrder_cons→Yv,assignInOrder_nil→Ze,subscriptTail_builtinR→Zn,AllBare→Zq,envOfC→ZH,subscriptTail→ZJ
open MonadExcept renaming tryCatch→Zk
open PySem.W renaming openEnds→ZE,openSeen→ZS,openGood→ZT
abbrev Tk:=@decide_eq_false
abbrev Tl:=@decide_eq_true
abbrev TT:=@if_pos
abbrev TW:=@if_neg
abbrev Ye:=@congrArg
open List renaming length_map->Sw,range->SA,mem_cons_self->SD,mem_map->SF,mem_cons->SH,map_map->SI,mem_cons_of_mem->SJ,map_cons->SK,mem_singleton->SP,length_cons->SR,getElem?_eq_getElem->SS,length_append->SU,size_toArray->SX,replicate->SY,map_append->S0,getElem?_map->S1,mem_append->S3,mem_of_getElem?->S4,sum_cons->S5,Nodup->S6,mem_range->S7,length->S',forall_mem_nil->Tb,length_drop->Th,not_mem_nil->Ti,map_congr_left->Tj,nil_append->Tp,forall_mem_cons->Tr,length_take->Ts,getElem?_append_left->Tt,mem_append_right->Tx,getElem?_append_right->Tz,all_eq_true->TC,getElem?_eq_some_iff->TH,append_nil->TK,getElem?_eq_none->TM,nodup_cons->TQ,getElem?_of_mem->TX,getElem?_set_ne->TY,pairwise_iff_getElem->T1,mem_filterMap->T4,map_nil->T5,length_set->T6,length_reverse->T8,length_range->T9,drop_eq_getElem_cons->T',append_assoc->Ub,getElem_mem->Uc,pairwise_cons->Ud,map_take->Ue,pairwise_map->Uh,mem_reverse->Ui,length_replicate->Uk,take_of_length_le->Ul,map_drop->Up,map_eq_nil_iff->Ur,getElem?_set_self->Uu,ext_getElem?->Ux,getElem?_range->Uz,range_succ->UB,mem_iff_getElem->UE,take_append_drop->UG,pairwise_singleton->UK,getElem?_replicate->UM,drop_length->UP,length_zip->US,foldl_cons->UY,sum_append->U1,getElem_map->U3,filterMap_cons->U5,mem_append_left->U6,of_mem_zip->U8,length_singleton->U9,mem_of_mem_take->Vb,toList_toArray->Vf,pairwise_append->Vj,reverse_cons->Vs,set_set->Vw,any_eq_true->Vz,mem_of_mem_drop->VA,length_eq_zero_iff->VD,take_add_one->VE,zip_cons_cons->VO,map->VT,zipIdx_append->VU,length_zipIdx->VZ,getElem_zipIdx->V0,zip_map->V3,mem_filter->V7,getElem?_take_of_lt->V',take_sublist->Wa,eq_nil_of_length_eq_zero->Ws,filterMap_map->Wv,filterMap_cons_some->Ww,mem_erase_of_ne->WI,length_erase_of_mem->WJ,length_pos_of_mem->WK,find?_some->WM,zip_nil_left->WO,zip_nil_right->WQ,map_id->WR,take_length->WV,getElem_take->WY,getElem_drop->WZ,getElem?_cons_succ->W0,zipIdx_cons->W4,getElem_append_left->W6,getElem_append_right->W7,map_singleton->W9,sum_singleton->W',perm_append_comm->Xb,all_eq_false->Xd,map_reverse->Xe,getElem?_eq_none_iff->Xz,getElem?_zip_eq_some->XC,getElem?_toArray->XD,range_succ_eq_map->XJ,filter_cons_of_pos->XO,filter_cons_of_neg->XQ,find?_eq_none->XR,eq_of_mem_replicate->XW,flatMap_cons->XY,pairwise_lt_range->XZ,getElem?_drop->X2,perm_middle->X3,flatMap_append->X7,getElem_reverse->X8,map_inj_right->X9
open PySem.W renaming Frag->Sx,mg_none_of->Tg,kia_one->TU,fnOf->UN,keepIn->Vr,instObj->V5,methodObj->V6,lookIn->V8,kitOne->V9,codeIn->Wb,plainGet->Xh,findIn->Xi,kitx_list->Xj,kitx_dict->Xk,cellsFrom_some->Xl
open Int renaming gcd->Sy,ne_of_gt->Sz,mul_pos->SO,mul_comm->Td,dvd_trans->To,le_of_lt->Tq,eq_of_mul_eq_mul_right->TB,emod_nonneg->TF,emod_lt_of_pos->TG,mul_assoc->TL,dvd_mul_of_dvd_right->TR,mul_eq_zero->TS,eq_ofNat_of_zero_le->TV,emod_add_emod->T3,emod_eq_of_lt->Ug,gcd_comm->Um,sub_eq_add_neg->Uq,natAbs_mul->Uw,not_le->UC,mul_nonneg->UD,add_emod_right->UI,emod_self->UJ,mul_fdiv_cancel_left->UO,sub_emod->U2,gcd_dvd_right->U',pos_of_mul_pos_right->Va,lt_trichotomy->Ve,lt_or_le->Vg,sub_self->Vm,sub_add_cancel->Vn,gcd_pos_of_ne_zero_right->Vt,gcd_dvd_left->Vu,natAbs_dvd_natAbs->Vv,mul_zero->VL,mul_nonpos_of_nonneg_of_nonpos->VP,mul_nonpos_of_nonpos_of_nonneg->VQ,mul_nonneg_of_nonpos_of_nonpos->VR,le_total->VV,lt_or_eq_of_le->VW,not_lt->VX,le_refl->V1,neg_dvd->Wh,gcd_mul_left->Wi,ofNat_dvd_left->Wk,natAbs_neg->Wo,zero_add->Wr,dvd_coe_gcd->Wy,dvd_sub->Wz,add_comm->WA,mul_pos_of_neg_of_neg->WD,mul_neg_of_pos_of_neg->WG,eq_of_mul_eq_mul_left->WT,mul_neg_of_neg_of_pos->W3,mul_le_mul->W5,add_sub_cancel->Xa,toNat_natCast->XA,gcd_pos_of_ne_zero_left->XF
open Nat renaming le_trans->SE,le_refl->SG,ne_of_lt->SV,lt_of_lt_of_le->S9,lt_irrefl->Tc,zero_le->Tu,zero_add->Tv,lt_succ_of_lt->Tw,gcd->TA,ne_of_gt->TP,lt_succ_self->Un,not_lt_zero->Uo,le_add_right->UA,lt_trichotomy->UW,add_le_add_right->Vo,le_of_lt->Vp,mod_eq_of_lt->VG,toDigits->VJ,mod_lt->VK,succ_pos->VM,lt_of_not_le->VS,le_of_not_lt->We,le_of_eq->Wf,gcd_comm->Wg,eq_of_mul_eq_mul_left->Wj,mul_comm->Wm,lt_or_ge->Wt,lt_of_lt_of_eq->Wu,strongRecOn->WB,lt_trans->WC,le_succ->WE,le_of_lt_succ->WH,add_mul->Xc,eq_zero_or_pos->Xg,gcd_dvd_right->Xr,gcd_mul_right->Xu,le_of_ble_eq_true->Xw,add_mod_right->XG,mul_le_mul_right->XX,lt_succ_iff_lt_or_eq->X'
open Option.some renaming inj->SM,injEq->Vc
open Bool renaming false_ne_true->SN,true_and->SW,and_eq_true->Te,false_eq_true->Tn,false_and->TJ,eq_iff_iff->Ua,or_eq_true->UH,xor_false->UZ,xor_assoc->Vh,and_false->Vk,and_eq_true_iff->VI,not_true->VN,not_eq_true'->VY,or_false->Wc,xor_comm->WU,false_or->W8,beq_eq_decide_eq->Xq,eq_false_iff->X0
open Or renaming inl->SQ,inr->UL
open Ne renaming symm->S2
open Array renaming length_toList->S8,getD_eq_getD_getElem?->Ta,getElem?_eq_getElem->TN,getElem?_toList->T7,getElem?_eq_none->U4,getElem?_eq_none_iff->Vi,size_map->Vl,mem_toList_iff->Vq,forIn_toList->VC,toList_inj->Wx,mem_of_getElem?->WL,foldl_toList->WN,getElem?_setIfInBounds_self_of_lt->WW,getElem?_setIfInBounds_ne->WX,size_push->XB,getElem_toList->XS,replicate->XT,toList_replicate->XU,getElem?_eq_some_iff->X1
open Prod renaming ext->Tf,snd->U0
open Rat renaming intCast_mul->TO,intCast_add->WS
open False renaming elim->TZ
open List.cons renaming inj->T2,injEq->VF
open PyProof.Rows renaming callWith_type1->Uj,callWith_builtin1->Xn,envOfC->Xv
open Sum renaming inl->Us,inr->Ut
open PySem renaming mem_of_lookup->Uv,Env->Uy,boot_len->Vx,intText?->VH,sizeLine->V4,natAbs_fdiv_le->Wl,sliceRange->XI
open Classical renaming propDecidable->UQ,byContradiction->UX
open Option renaming map_some->UR,isNone_iff_eq_none->Wq,isSome_iff_exists->Xm,getD_none->Xo,map_eq_some_iff->XE
open Prod.mk renaming injEq->UT
open PySem.Builtin.Str renaming strSliceIndices->UU,strSub->XH,strKind->X5
open True renaming intro->U7
open PySem.F renaming plainAttrs_str->Vd,plainAttrs_list->Vy,slot_list_append->Xx,type_list_append->Xy,slot_str_join->XK,type_str_join->XM
open ForInStep renaming yield->VB
open List.Perm renaming of_eq->V2
open PySem.Builtin.Int renaming intBits->Wn
open PyProof.Rows.F renaming plain_set_update_loop->W2,entry_set_update_loop->X4
open PySem.Str renaming ofString->Xf,ofString_eq_toList->X6
open List.Pairwise renaming nil->Xp
open PySem.W.KIN renaming signs_num->XN
abbrev agd:=List (PySem.Addr×PySem.Obj)
abbrev agc:=List PySem.Stmt
abbrev agb:=List PySem.Expr
abbrev aga:=List PySem.Addr
abbrev af':=List PySem.Value
abbrev af9:=List PySem.Str
abbrev Z8:=List Nat
abbrev age:=List Z8
abbrev Z5:=List Int
abbrev agf:=List Z5
open PySem.Challenge renaming rw_slidecut_k69_cloths_written_and_read->Zrw,pw_slidecut_k69_cloths_written_and_read->Zpw
set_option Elab.async false
set_option linter.all false
local macro_rules | `(tactic| walk_at"v") => `(tactic| first | exact SQ rfl | exact UL (SQ rfl) | exact UL (UL rfl))
local macro_rules | `(tactic| walk_at"f") => `(tactic| first | exact .inl rfl | exact .inr rfl | assumption)
theorem hH:2<=V4:=by decide
theorem rF:1<=V4:=by decide
theorem afr:10000<=V4:=by decide
theorem ki{a b c:Nat}(h:a<=b)(g:b<=c:=by decide):a<=c:=SE h g
namespace L3
open PySem PySem.W
def mP(h:Yn)(name:Str):Option (Option SL):=match h.get? W1 with
 |some ⟨_,_,.dict aD _,_⟩=>(match aD.toList.find? (·.key.isStr name)with
   |some e=>some (some e.val)
   |none=>if aD.toList.any (·.refKey)then none else some none)
 |_=>none
def ux(h:Yn)(e3:SL)(q:Str):Bool:=match e3 with
 |.ref c=>(match h.get? c with
   |some ⟨_,_,.fields vs,_⟩=>(match vs.toList with|_::.str n _::_=>n==q|_=>false)
   |_=>false)
 |_=>false
def rG(h:Yn)(x:Str):Option (Str×Str×ZD×FuncBody×Y2×TE×List (Str×TE)×SL×TE×Bool):=match mP h x with
 |some (some (.ref f))=>(match h.get? f with
  |some ⟨_,_,.func fd,_⟩=>some (fd.name,fd.qualname,fd.params,fd.body,fd.scope,fd.globals,fd.closure,fd.defaults,fd.builtins,ux h fd.code x)
  |_=>none)
 |_=>none
def rH(x:Str)(st:Ym):Option (Str×Str×ZD×FuncBody×Y2×TE×List (Str×TE)×SL×TE×Bool):=match st with
 |.FunctionDef _ a b _ _ _ eM _ _ _=>some (x,x,a,.stmts b,eM,W1,[],.none,Zd,true)
 |_=>some (x,x,⟨[],[],none,[],[],none,[]⟩,.stmts [],{kind:=.function,names:=[],isGenerator:=false,isCoroutine:=false},W1,[],.none,Zd,true)
def rI(h:Yn)(x:Str):Option (Str×Int×Int):=match mP h x with
 |some (some (.ref p))=>(match h.get? p with
  |some ⟨.type "tuple",_,.seq its _,_⟩=>(match its.toList with|[.int i _,.int j _]=>some (x,i,j)|_=>none)
  |_=>none)
 |_=>none
def rJ(h:Yn)(x:Str):Option (Str×(Int ⊕ Str)):=match mP h x with
 |some (some (.int i _))=>some (x,.inl i)
 |some (some (.str s _))=>some (x,.inr s)
 |_=>none
abbrev cn(x:Str)(s:Ym):Str×Ym:=(x,s)
abbrev n7(x:Str)(c:Int ⊕ Str):Str×(Int ⊕ Str):=(x,c)
structure lX where
 fs:List (Str×Ym)
 bs:af9
 ts:List (Str×Int×Int)
 cs:List (Str×(Int ⊕ Str))
abbrev Seen:Type:=List (Option (Str×Str×ZD×FuncBody×Y2×TE×List (Str×TE)×SL×TE×Bool))×List (Option (Option SL))×List (Option (Str×Int×Int))×List (Option (Str×(Int ⊕ Str)))
def pv(t:lX)(s:SZ):Seen:=(t.fs.map λp=>rG s.heap p.1,t.bs.map λb=>mP s.heap b,t.ts.map λp=>rI s.heap p.1,t.cs.map λp=>rJ s.heap p.1)
def pw(t:lX)(_:Yd):Seen:=(t.fs.map λp=>rH p.1 p.2,t.bs.map λ_=>some none,t.ts.map λp=>some p,t.cs.map λp=>some p)
theorem map_two{α β γ:Type}{E:Option α}{F:α->β×γ}{a:β×γ}(aa:E.map (λs=>(F s).1)=some a.1)(ab:E.map (λs=>(F s).2)=some a.2):E.map F=some a:=by
 cases E with
 |none=>cases aa
 |some x=>
  have ah:=SM aa;have am:=SM ab;exact Ye some (Tf ah am)
theorem Hj{p q:UF}{loose:af9}{Xt:SZ->Bool}{α:Type}{Yf:SZ->α}{Ya:Yd->α}{N:Nat}(aa:∀w:Yd,(ZE Zo p w N).map (λs=>(ZS q loose (YM p.main.body) Xt true s).1)=some (ZT q loose).1)(ab:∀w:Yd,(ZE Zo p w N).map (λs=>(ZS q loose (YM p.main.body) Xt true s).2)=some (ZT q loose).2)(a':∀w:Yd,(ZE Zo p w N).map Yf=some (Ya w)):LeftO p q loose Xt Yf Ya N:=
 λw=>map_two (F:=λs=>(ZS q loose (YM p.main.body) Xt true s,Yf s)) (a:=(ZT q loose,Ya w)) (map_two (aa w) (ab w)) (a' w)
end L3
namespace Cut
open PySem L3
def top(i:Nat):Ym:=Zpw.main.body.getD i (.Pass ⟨0,0,0,0⟩)
abbrev uy:Ym:=top 6
abbrev uz:Ym:=top 7
abbrev uA:Ym:=top 8
abbrev uB:Ym:=top 9
abbrev uC:Ym:=top 11
abbrev uD:Ym:=top 12
abbrev uE:Ym:=top 13
abbrev uF:Ym:=top 14
abbrev uG:Ym:=top 15
abbrev uH:Ym:=top 16
abbrev uI:Ym:=top 17
abbrev uJ:Ym:=top 18
abbrev uK:Ym:=top 19
abbrev uL:Ym:=top 23
abbrev uM:Ym:=top 24
abbrev uN:Ym:=top 25
abbrev uO:Ym:=top 26
abbrev uP:Ym:=top 27
abbrev uQ:Ym:=top 28
abbrev uR:Ym:=top 29
abbrev uS:Ym:=top 30
abbrev uT:Ym:=top 31
abbrev uU:Ym:=top 32
abbrev uV:Ym:=top 33
abbrev uW:Ym:=top 34
abbrev uX:Ym:=top 41
abbrev uY:Ym:=top 42
abbrev uZ:Ym:=top 43
abbrev u0:Ym:=top 44
abbrev u3:Ym:=top 45
abbrev u4:Ym:=top 46
abbrev u5:Ym:=top 47
abbrev u6:Ym:=top 48
abbrev u7:Ym:=top 49
abbrev u8:Ym:=top 50
abbrev u9:Ym:=top 51
abbrev u':Ym:=top 53
abbrev va:Ym:=top 54
abbrev vb:Ym:=top 55
abbrev vc:Ym:=top 56
abbrev vd:Ym:=top 57
abbrev ve:Ym:=top 58
abbrev vf:Ym:=top 59
abbrev vg:Ym:=top 60
abbrev vh:Ym:=top 61
abbrev vi:Ym:=top 62
abbrev vj:Ym:=top 63
abbrev vk:Ym:=top 64
abbrev vl:Ym:=top 65
abbrev vm:Ym:=top 66
abbrev vn:Ym:=top 67
abbrev vo:Ym:=top 68
abbrev vp:Ym:=top 69
abbrev vr:Ym:=top 70
abbrev vt:Ym:=top 71
abbrev vu:Ym:=top 72
abbrev vv:Ym:=top 73
abbrev vw:Ym:=top 74
abbrev vx:Ym:=top 75
abbrev vy:Ym:=top 76
def tabs:lX:=⟨[cn "greatest_divisor" uy,cn "ratio" uz,cn "plus" uA,cn "times" uB,cn "x_of" uC,cn "y_of" uD,cn "at" uE,cn "slid" uF,cn "step_to" uG,cn "turned" uH,cn "crossed" uI,cn "hand_of" uJ,cn "side" uK,cn "sides_of" uL,cn "ring_area" uM,cn "lies_on" uN,cn "touch" uO,cn "runs_back" uP,cn "clash" uQ,cn "sides_are_apart" uR,cn "is_above" uS,cn "within" uT,cn "is_inside" uU,cn "rings_go_rightly" uV,cn "is_cloth" uW,cn "show_whole" uX,cn "show_ratio" uY,cn "show_point" uZ,cn "show_ring" u0,cn "show_cloth" u3,cn "is_whole" u4,cn "read_whole" u5,cn "read_ratio" u6,cn "read_point" u7,cn "read_ring" u8,cn "read_cloth" u9,cn "_law_cell" u',cn "_law_bag" va,cn "_law_draw" vb,cn "_law_gcd" vc,cn "_law_lowest" vd,cn "_law_whole" ve,cn "_law_same" vf,cn "_law_point" vg,cn "_law_cross" vh,cn "_law_twice" vi,cn "_law_touch" vj,cn "_law_back" vk,cn "_law_simple" vl,cn "_law_bottom" vm,cn "_law_chain" vn,cn "_law_strip" vo,cn "_law_shape" vp,cn "_law_slid" vr,cn "_law_cloth" vt,cn "_law_text" vu,cn "_law_written" vv,cn "_law_turned_about" vw,cn "_law_is_told" vx,cn "law" vy],["len","abs","int","bool","tuple","isinstance","range","all","sum","list","ValueError","zip","str","enumerate","set","max","min","sorted","dict"],[],[n7 "FIGURES" (.inr "0123456789"),n7 "GREAT" (.inl 10000000000000000000000000000000000000000000000000000000000000000),n7 "MOST_CORNERS" (.inl 24),n7 "MOST_FIGURES" (.inl 30),n7 "MOST_RINGS" (.inl 8),n7 "NO_RINGS" (.inr "none")]⟩
open PySem.W
set_option maxRecDepth 100000
set_option maxHeartbeats 0
theorem said:Zrw.wellSaid=true:=by kernel_rfl
theorem Hk:∀w:Yd,(ZE Zo Zrw.row.prog w 20000).map (λs=>(ZS Zpw ["GREAT"] (YM Zrw.row.prog.main.body) (λs=>xlAt Zpw [] s&&recOk (RowW.records (OpenRow.toRowW Zrw.row)) s) true s).1)=some (ZT Zpw ["GREAT"]).1:=λw=>by kernel_rfl
theorem Hl0:∀w:Yd,(ZE Zo Zrw.row.prog w 20000).map (λs=>(ZS Zpw ["GREAT"] (YM Zrw.row.prog.main.body) (λs=>xlAt Zpw [] s&&recOk (RowW.records (OpenRow.toRowW Zrw.row)) s) true s).2.1)=some (ZT Zpw ["GREAT"]).2.1:=λw=>by kernel_rfl
theorem Hl1:∀w:Yd,(ZE Zo Zrw.row.prog w 20000).map (λs=>(ZS Zpw ["GREAT"] (YM Zrw.row.prog.main.body) (λs=>xlAt Zpw [] s&&recOk (RowW.records (OpenRow.toRowW Zrw.row)) s) true s).2.2.1)=some (ZT Zpw ["GREAT"]).2.2.1:=λw=>by kernel_rfl
theorem Hl2:∀w:Yd,(ZE Zo Zrw.row.prog w 20000).map (λs=>(ZS Zpw ["GREAT"] (YM Zrw.row.prog.main.body) (λs=>xlAt Zpw [] s&&recOk (RowW.records (OpenRow.toRowW Zrw.row)) s) true s).2.2.2.1)=some (ZT Zpw ["GREAT"]).2.2.2.1:=λw=>by kernel_rfl
theorem Hl3:∀w:Yd,(ZE Zo Zrw.row.prog w 20000).map (λs=>(ZS Zpw ["GREAT"] (YM Zrw.row.prog.main.body) (λs=>xlAt Zpw [] s&&recOk (RowW.records (OpenRow.toRowW Zrw.row)) s) true s).2.2.2.2)=some (ZT Zpw ["GREAT"]).2.2.2.2:=λw=>by kernel_rfl
theorem Hl:∀w:Yd,(ZE Zo Zrw.row.prog w 20000).map (λs=>(ZS Zpw ["GREAT"] (YM Zrw.row.prog.main.body) (λs=>xlAt Zpw [] s&&recOk (RowW.records (OpenRow.toRowW Zrw.row)) s) true s).2)=some (ZT Zpw ["GREAT"]).2:=λw=>map_two (F:=λs=>(ZS Zpw ["GREAT"] (YM Zrw.row.prog.main.body) (λs=>xlAt Zpw [] s&&recOk (RowW.records (OpenRow.toRowW Zrw.row)) s) true s).2)(a:=(ZT Zpw ["GREAT"]).2) (Hl0 w) (map_two (F:=λs=>(ZS Zpw ["GREAT"] (YM Zrw.row.prog.main.body) (λs=>xlAt Zpw [] s&&recOk (RowW.records (OpenRow.toRowW Zrw.row)) s) true s).2.2)(a:=(ZT Zpw ["GREAT"]).2.2) (Hl1 w) (map_two (F:=λs=>(ZS Zpw ["GREAT"] (YM Zrw.row.prog.main.body) (λs=>xlAt Zpw [] s&&recOk (RowW.records (OpenRow.toRowW Zrw.row)) s) true s).2.2.2)(a:=(ZT Zpw ["GREAT"]).2.2.2) (Hl2 w) (Hl3 w)))
theorem Hm:∀w:Yd,(ZE Zo Zrw.row.prog w 20000).map (pv tabs)=some (pw tabs w):=λw=>by kernel_rfl
theorem left:LeftO Zrw.row.prog Zpw ["GREAT"] (λs=>xlAt Zpw [] s&&recOk (RowW.records (OpenRow.toRowW Zrw.row)) s) (pv tabs) (pw tabs) 20000:=Hj (p:=Zrw.row.prog) (q:=Zpw) (loose:=["GREAT"]) (Xt:=(λs=>xlAt Zpw [] s&&recOk (RowW.records (OpenRow.toRowW Zrw.row)) s)) (Yf:=pv tabs) (Ya:=pw tabs) (N:=20000) Hk Hl Hm
end Cut
set_option Elab.async false
set_option linter.all false
set_option maxRecDepth 100000
namespace L2
open PySem PySem.Spec PyProof.Rows
abbrev gy:=Sum Int Str
def zt:gy->SL->Bool
 |.inl k,v=>Value.isInt k v
 |.inr x,v=>Value.isStrOf x v
def Hn(w:Yd):gy->Int
 |.inl k=>hashInt k
 |.inr x=>hashStr w x
theorem kX:∀{k:gy}{v:SL},zt k v=true->(∃i t,k=Us i/\v=Value.int i t)\/(∃x t,k=Ut x/\v=Value.str x t)
 |.inl i,v,h=>by
  obtain⟨t,e⟩:=Value.isInt_shape (k:=i) (v:=v) h;exact .inl ⟨i,t,rfl,e⟩
 |.inr x,v,h=>by
  obtain⟨t,e⟩:=Value.isStrOf_shape (x:=x) (v:=v) h;exact .inr ⟨x,t,rfl,e⟩
theorem Ho(a b:Int):decide ((Us a:gy)=Us b)=(a==b):=by
 by_cases e:a=b
 ·subst e;simp
 have h:¬(Us a:gy)=Us b:=λq=>e (Sum.inl.inj q);rw[Tk h];exact(beq_eq_false_iff_ne.mpr e).symm
theorem Hp(a b:Str):decide ((Ut a:gy)=Ut b)=decide (a=b):=by
 by_cases e:a=b
 ·subst e;simp
 have h:¬(Ut a:gy)=Ut b:=λq=>e (Sum.inr.inj q);rw[Tk h,Tk e]
theorem Hq(a:Int)(b:Str):decide ((Us a:gy)=Ut b)=false:=Tk (λq=>nomatch q)
theorem Hr(a:Str)(b:Int):decide ((Ut a:gy)=Us b)=false:=Tk (λq=>nomatch q)
def vz(prog:UF)(w:Yd):PySem.KeyKind prog w gy where
 is:=zt
 hash:=Hn w
 inj:=λv a b aq ae=>by
  rcases kX aq with⟨i,t,rfl,rfl⟩|⟨x,t,rfl,rfl⟩
  ·rcases kX ae with⟨j,u,rfl,e⟩|⟨y,u,rfl,e⟩
   ·injection e with ah _;rw[ah]
   exact nomatch e
  rcases kX ae with⟨j,u,rfl,e⟩|⟨y,u,rfl,e⟩
  ·exact nomatch e
  injection e with ah _;rw[ah]
 byValue:=λk v h=>by
  rcases kX h with⟨i,t,rfl,rfl⟩|⟨x,t,rfl,rfl⟩<;>rfl
 pyHash:=λhv h=>by
  rcases kX hv with⟨i,t,rfl,rfl⟩|⟨x,t,rfl,rfl⟩
  ·exact wpAny_pyHash_int h
  exact wpAny_pyHash_str h
 eqBool:=λhu hv h=>by
  rcases kX hu with⟨i,t,rfl,rfl⟩|⟨x,t,rfl,rfl⟩
  ·rcases kX hv with⟨j,u,rfl,rfl⟩|⟨y,u,rfl,rfl⟩
   ·rw[Ho]at h;exact wpAny_eqBool_int h
   rw[Hq]at h;exact SeqAt.EqAt.int_str i t y u _ _ _ _ h
  rcases kX hv with⟨j,u,rfl,rfl⟩|⟨y,u,rfl,rfl⟩
  ·rw[Hr]at h;exact SeqAt.EqAt.str_int x t j u _ _ _ _ h
  rw[Hp]at h;exact wpAny_eqBool_str h
 «strs»:=λk x t v h=>by
  rcases kX h with⟨i,u,rfl,e⟩|⟨y,u,rfl,e⟩
  ·exact nomatch e
  injection e with ah _
  subst ah
  cases v<;>rfl
inductive V where
 |non|bl (b:Bool)|int (i:Int)|str (x:Str)|byt (b:Array UInt8)|flt (b:UInt64)|ref (a:TE)|ty (n:String)
 deriving DecidableEq
abbrev Z4:=List V
def RelV:V->SL->Prop
 |.non,u=>u=Value.none
 |.bl b,u=>u=Value.bool b
 |.int i,u=>∃t,u=Value.int i t
 |.str x,u=>∃t,u=Value.str x t
 |.byt b,u=>∃t,u=Value.bytes b t
 |.flt b,u=>∃t,u=Value.float b t
 |.ref a,u=>u=Value.ref a
 |.ty n,u=>u=Value.type n
abbrev bP:Z4->af'->Prop:=Paired RelV
theorem bP.length{xs:Z4}{aO:af'}(r:bP xs aO):xs.length=aO.length:=Paired.length r
theorem bP.get:∀{xs:Z4}{aO:af'}{i:Nat}{x:V},bP xs aO->xs[i]?=some x->∃u,aO[i]?=some u/\RelV x u
 |_,_,_,_,.nil,e=>by simp at e
 |_,_,0,_,.cons r _,e=>by simp at e;subst e;exact⟨_,rfl,r⟩
 |_,_,i+1,x,.cons _ t,e=>by
  obtain⟨u,aa,ab⟩:=bP.get (i:=i) (x:=x) t (by simpa using e);exact⟨u,by simpa using aa,ab⟩
theorem bP.set{x:V}{u:SL}(r:RelV x u):∀{xs:Z4}{aO:af'}(i:Nat),bP xs aO->bP (xs.set i x) (aO.set i u)
 |_,_,_,.nil=>.nil
 |_,_,0,.cons _ t=>.cons r t
 |_,_,i+1,.cons q t=>.cons q (bP.set r i t)
theorem bP.append:∀{xs ys:Z4}{aO ws:af'},bP xs aO->bP ys ws->bP (xs++ys) (aO++ws)
 |_,_,_,_,.nil,s=>s
 |_,_,_,_,.cons r t,s=>.cons r (bP.append t s)
theorem bP.take:∀{xs:Z4}{aO:af'}(n:Nat),bP xs aO->bP (xs.take n) (aO.take n)
 |_,_,0,_=>.nil
 |_,_,_+1,.nil=>.nil
 |_,_,n+1,.cons r t=>.cons r (bP.take n t)
theorem bP.drop:∀{xs:Z4}{aO:af'}(n:Nat),bP xs aO->bP (xs.drop n) (aO.drop n)
 |_,_,0,r=>r
 |_,_,_+1,.nil=>.nil
 |_,_,n+1,.cons _ t=>bP.drop n t
def vA:Option V->Option SL->Prop
 |some v,some u=>RelV v u
 |none,none=>True
 |_,_=>False
def vB{κ:Type}:List (κ×V)->List (κ×SL)->Prop:=Paired λ(p:κ×V)(q:κ×SL)=>p.1=q.1/\RelV p.2 q.2
def kV:gy->V
 |.inl i=>.int i
 |.inr x=>.str x
inductive dM where
 |lst(xs:Z4)
 |tup(xs:Z4)
 |dK(kvs:List (gy×V))|dT (kvs:List (List gy×V))
 |set(S:Int->Bool)(n:Nat)
 |ins(C e4:TE)(fs:List (Str×V))
 |own(x:TE)
 |xd(fs:List (Str×V))
 |met(f x:TE)
 |rng(lo ao:Int)
 |frz(o:Obj)(u:dM)
 |tbl(ps:Array SL)
 |ext(φ:Yn->Prop)
abbrev al:=TE->Option dM
def upd(H:al)(a:TE)(o:dM):al:=λb=>if b=a then some o else H b
theorem eo{H:al}{a:TE}{o:dM}:upd H a o a=some o:=by unfold upd;rw[TT rfl]
theorem cB{H:al}{a b:TE}{o:dM}(h:b≠a):upd H a o b=H b:=by unfold upd;rw[TW h]
theorem kY{H:al}{a b:TE}{o:dM}(h:H a=some o)(h':H b=none):a≠b:=by
 intro e;subst e;rw[h]at h';cases h'
def Hs(H:al)(h:Yn)(a:TE)(ps:Array SL):Prop:=∃a9:Array SL,h.get? a=some {cls:=.none,data:=.fields a9}/\TriplesOk a9.toList /\
 ∀pos px,codeAmong pos a9.toList=some px->∃c oc u vs q t t',px=.ref c/\H c=some (.frz oc u)/\oc.data=.fields vs/\vs[1]?=some (.str q t)/\ps[0]?=some (.str q t')
def tabsK(K:Sx):List (TE×Str):=K.filterMap λp=>match p with
 | (b,⟨.none,_,.fields vs,_⟩)=>(match vs.toList with|[.ref P,.str q _]=>if b=W1 then some (P,q)else none|_=>none)
 |_=>none
def lY(K:Sx)(H:al):Prop:=∀p∈tabsK K,∃ps t,H p.1=some (.tbl ps)/\ps[0]?=some (.str p.2 t)
section
variable(P:UF)(w:Yd)
def f2(H:al)(h:Yn)(a:TE):dM->Prop
 |.lst xs=>xs.length<=TI/\∃(its:af')(n:Nat),bP xs its/\h.get? a=some {cls:=.type "list",data:=.seq its.toArray n}
 |.tup xs=>xs.length<=TI/\∃its:af',bP xs its/\IsTup h a its.toArray
 |.dK kvs=>kvs.length<=TI/\(a==ZL)=false/\∃vs,vB kvs vs/\h.DictOf (vz P w) a vs
 |.dT kvs=>kvs.length<=TI/\(a==ZL)=false/\∃xs:List (List gy×TE×SL),
   Paired (λ(p:List gy×V)(q:List gy×TE×SL)=>p.1=q.1/\H q.2.1=some (.tup (p.1.map kV))/\RelV p.2 q.2.2) kvs xs /\
   ∃o aD bW,h.get? a=some o/\o.ExactDict/\o.data=.dict aD bW/\aD.toList=xs.map (entryOfKey (tupleKind (vz P w)))/\(xs.map (·.1)).Nodup
 |.set S n=>h.SetOf (YN P w) a S n
 |.ins C e4 fs=>H e4=some (.own a)/\fs.length<=1000/\e4≠a/\h.get? a=some (V5 C e4) /\
   ∃e5,h.Ns1 e4 e5/\(∀f,vA (fs.lookup f) (e5 f))/\PySem.Within e5 (fs.map (·.1))
 |.own _=>∃o,h.get? a=some o
 |.xd fs=>∃e5,h.Ns1 a e5/\∀f,vA (fs.lookup f) (e5 f)
 |.rng lo ao=>∃t u v,h.get? a=some {cls:=.type "range",data:=.fields #[.int lo t,.int ao u,.int 1 v]}
 |.frz o u=>h.get? a=some o/\f2 H h a u
 |.tbl ps=>Hs H h a ps
 |.met f x=>h.get? a=some (V6 (.ref f) (.ref x))
 |.ext φ=>φ h/\(∃o,h.get? a=some o)/\∀aa ab:Yn,φ aa->(∀o,aa.get? a=some o->ab.get? a=some o)->φ ab
def eN(H:al)(h:Yn):Prop:=∀a o,H a=some o->f2 P w H h a o
end
section
variable{P:UF}{w:Yd}{H aj:al}{h h':Yn}{a:TE}{o:dM}
theorem f2.lt(x:f2 P w H h a o):a<h.objs.size:=by
 cases o with
 |lst xs=>obtain⟨_,_,_,_,e⟩:=x;exact Heap.lt_size e
 |tup xs=>obtain⟨_,_,_,p⟩:=x;exact p.lt
 |dK kvs=>obtain⟨_,_,_,_,o,_,_,e,_⟩:=x;exact Heap.lt_size e
 |dT kvs=>obtain⟨_,_,_,_,o,_,_,e,_⟩:=x;exact Heap.lt_size e
 |set S n=>obtain⟨o,_,_,_,e,_⟩:=x;exact Heap.lt_size e
 |ins C e4 fs=>obtain⟨_,_,_,e,_⟩:=x;exact Heap.lt_size e
 |own y=>obtain⟨_,e⟩:=x;exact Heap.lt_size e
 |xd fs=>obtain⟨_,⟨_,_,_,e,_⟩,_⟩:=x;exact Heap.lt_size e
 |rng lo ao=>obtain⟨_,_,_,e⟩:=x;exact Heap.lt_size e
 |frz b9 u=>obtain⟨e,_⟩:=x;exact Heap.lt_size e
 |tbl ps=>obtain⟨_,e,_⟩:=x;exact Heap.lt_size e
 |met f y=>exact Heap.lt_size (show h.get? a=some _ from x)
 |ext φ=>obtain⟨_,⟨_,e⟩,_⟩:=x;exact Heap.lt_size e
theorem Paired.mapP{α β:Type}{F G:α->β->Prop}:∀{zu:List α}{zv:List β},Paired F zu zv->(∀a b,F a b->G a b)->Paired G zu zv
 |_,_,.nil,_=>.nil
 |_,_,.cons r t,f=>.cons (f _ _ r) (Paired.mapP t f)
theorem f2.stay(x:f2 P w H h a o)(k:∀b u,(b=a\/H b=some (.own a))->h.get? b=some u->h'.get? b=some u)(aM:∀b,H b=some (.own a)->aj b=some (.own a))(bw:∀b xs,H b=some (.tup xs)->aj b=some (.tup xs))(hf:∀b b9 u,H b=some (.frz b9 u)->aj b=some (.frz b9 u)):f2 P w aj h' a o:=by
 induction o with
 |lst xs=>obtain⟨z,its,n,r,e⟩:=x;exact⟨z,its,n,r,k _ _ (.inl rfl) e⟩
 |tup xs=>obtain⟨z,its,r,b9,e,c⟩:=x;exact⟨z,its,r,b9,k _ _ (.inl rfl) e,c⟩
 |dK kvs=>obtain⟨z,y,vs,r,b9,aD,bW,e,c⟩:=x;exact⟨z,y,vs,r,b9,aD,bW,k _ _ (.inl rfl) e,c⟩
 |dT kvs=>
  obtain⟨z,y,xs,r,b9,aD,bW,e,c⟩:=x;exact⟨z,y,xs,Paired.mapP r λp q z=>⟨z.1,bw _ _ z.2.1,z.2.2⟩,b9,aD,bW,k _ _ (.inl rfl) e,c⟩
 |set S n=>obtain⟨b9,aD,bW,t,e,c⟩:=x;exact⟨b9,aD,bW,t,k _ _ (.inl rfl) e,c⟩
 |ins C e4 fs=>
  obtain⟨d,z,ne,e,e5,⟨od,aD,bW,am,c⟩,r⟩:=x;exact⟨aM _ d,z,ne,k _ _ (.inl rfl) e,e5,⟨od,aD,bW,k _ _ (.inr d) am,c⟩,r⟩
 |own y=>obtain⟨b9,e⟩:=x;exact⟨b9,k _ _ (.inl rfl) e⟩
 |xd fs=>obtain⟨e5,⟨od,aD,bW,e,c⟩,r⟩:=x;exact⟨e5,⟨od,aD,bW,k _ _ (.inl rfl) e,c⟩,r⟩
 |rng lo ao=>obtain⟨t,u,v,e⟩:=x;exact⟨t,u,v,k _ _ (.inl rfl) e⟩
 |frz b9 u b2=>obtain⟨e,q⟩:=x;exact⟨k _ _ (.inl rfl) e,b2 q⟩
 |tbl ps=>
  obtain⟨a9,e,vC,g⟩:=x;refine⟨a9,k _ _ (.inl rfl) e,vC,λpos px hc=>?_⟩;obtain⟨c,oc,u,vs,q,t,t',ah,am,bz⟩:=g pos px hc;exact⟨c,oc,u,vs,q,t,t',ah,hf _ _ _ am,bz⟩
 |met f y=>
  have e:h.get? a=some (V6 (.ref f) (.ref y)):=x;show h'.get? a=some (V6 (.ref f) (.ref y))
  exact k a _ (.inl rfl) e
 |ext φ=>obtain⟨p,⟨o,e⟩,st⟩:=x;exact⟨st _ _ p λo q=>k _ _ (.inl rfl) q,⟨o,k _ _ (.inl rfl) e⟩,st⟩
theorem eN.lt(x:eN P w H h)(e:H a=some o):a<h.objs.size:=(x a o e).lt
theorem eN.fresh(x:eN P w H h)(e:h.objs.size<=a):H a=none:=by
 cases q:H a with
 |none=>rfl
 |some u=>exact absurd (S9 (x.lt q) e) (Tc _)
theorem eN.kept(x:eN P w H h)(k:∀b u,h.get? b=some u->h'.get? b=some u):eN P w H h':=λa o e=>
 (x a o e).stay (λb u _ q=>k b u q) (λ_ q=>q) (λ_ _ q=>q) λ_ _ _ q=>q
theorem eN.laid(x:eN P w H h)(k:∀b u,h.get? b=some u->h'.get? b=some u)(ak:h.objs.size<=a)(new:f2 P w (upd H a o) h' a o):eN P w (upd H a o) h':=λb u e=>by
 have aG:=x.fresh ak;by_cases ae:b=a
 ·subst ae;rw[eo]at e;cases e;exact new
 rw[cB ae]at e;exact(x b u e).stay (λc v _ q=>k c v q) (λc q=>by rw[cB (kY q aG)];exact q) (λc xs q=>by rw[cB (kY q aG)];exact q) λc b9 u q=>by rw[cB (kY q aG)];exact q
end
def rK(H:al)(a:TE)(u:dM):Prop:=H a=some u\/∃o,H a=some (.frz o u)
theorem rK.ok{P:UF}{w:Yd}{H:al}{h:Yn}{a:TE}{u:dM}(r:rK H a u)(x:eN P w H h):f2 P w H h a u:=by
 rcases r with r|⟨o,r⟩
 ·exact x a u r
 obtain⟨_,q⟩:=x a _ r;exact q
def rL:Option dM->Prop
 |some (.lst _)=>True
 |some (.dK _)=>True
 |some (.dT _)=>True
 |some (.set _ _)=>True
 |some (.ins _ _ _)=>True
 |some (.ext _)=>True
 |_=>False
section
variable{P:UF}{w:Yd}{H:al}{h h':Yn}{x e:TE}{d3:dM}
theorem eN.write(ok:eN P w H h)(ic:rL (H x))(aF:e=x\/H e=some (.own x))(k:∀b u,b≠e->h.get? b=some u->h'.get? b=some u)(n9:∃u,h'.get? e=some u)(new:f2 P w (upd H x d3) h' x d3):eN P w (upd H x d3) h':=λb u q=>by
 have rM:∀c y,H c=some (.own y)->c≠x:=λc y r z=>by subst z;rwa[r]at ic
 have Ht:∀c xs,H c=some (.tup xs)->c≠x:=λc xs r z=>by subst z;rwa[r]at ic
 have Hu:∀c b9 u,H c=some (.frz b9 u)->c≠x:=λc b9 u r z=>by subst z;rwa[r]at ic
 by_cases ae:b=x
 ·subst ae;rw[eo]at q;cases q;exact new
 rw[cB ae]at q;by_cases mQ:b=e
 ·have fP:H b=some (.own x):=by
   rcases aF with z|z
   ·exact absurd (mQ.trans z) ae
   rw[mQ];exact z
  rw[q]at fP;cases fP;obtain⟨v,hv⟩:=n9;exact⟨v,by rw[mQ];exact hv⟩
 refine(ok b u q).stay (λc v hc r=>k c v ?_ r) (λc r=>by rw[cB (rM c b r)];exact r) (λc xs r=>by rw[cB (Ht c xs r)];exact r) λc b9 u r=>by rw[cB (Hu c b9 u r)];exact r
 rcases hc with rfl|hc
 ·exact mQ
 rintro rfl;rcases aF with z|z
 ·exact rM c b hc z
 rw[hc]at z;cases z;exact ae rfl
end
structure eU(fs ex:aga)(H aj:al)(h h':Yn):Prop where
 keep:∀b o,h.get? b=some o->H b=none->b∉fs->b∉ex->h'.get? b=some o
 slot:∀b o,h.get? b=some o->H b=none->b∈fs->b∉ex->∃sl,h'.get? b=some {o with slots:=sl}
 free:∀b o,h.get? b=some o->H b=none->b∉ex->aj b=none
 there:∀b o,h.get? b=some o->b∉ex->∃d3,h'.get? b=some d3
 tups:∀b xs,H b=some (.tup xs)->aj b=some (.tup xs)
 frzs:∀b o u,H b=some (.frz o u)->aj b=some (.frz o u)
 tbls:∀b ps,H b=some (.tbl ps)->∃more,aj b=some (.tbl (ps++more))
section
variable{fs Hv ex afs:aga}{H ar a0:al}{h aa ab h':Yn}{a x e:TE}{o:dM}
theorem eU.any(u:eU fs ex H ar h aa){b:TE}{b9:Obj}(q:h.get? b=some b9)(n:H b=none)(hx:b∉ex):∃sl,aa.get? b=some {b9 with slots:=sl}:=by
 by_cases ae:b∈fs
 ·exact u.slot b b9 q n ae hx
 exact⟨b9.slots,u.keep b b9 q n ae hx⟩
theorem eU.kept(k:∀b u,h.get? b=some u->h'.get? b=some u):eU fs ex H H h h':=
 ⟨λb b9 q _ _ _=>k b b9 q,λb b9 q _ _ _=>⟨b9.slots,k b b9 q⟩,λ_ _ _ n _=>n,λb b9 q _=>⟨b9,k b b9 q⟩,λ_ _ q=>q,λ_ _ _ q=>q,λ_ ps q=>⟨#[],by rw[q];simp⟩⟩
theorem eU.refl:eU fs ex H H h h:=eU.kept λ_ _ q=>q
theorem eU.laid(k:∀b u,h.get? b=some u->h'.get? b=some u)(ak:h.objs.size<=a)(aG:H a=none):eU fs ex H (upd H a o) h h' where
 keep:=λb u q _ _ _=>k b u q
 slot:=λb u q _ _ _=>⟨u.slots,k b u q⟩
 free:=λb u q n _=>by rw[cB (SV (S9 (Heap.lt_size q) ak))];exact n
 there:=λb u q _=>⟨u,k b u q⟩
 tups:=λb xs q=>by rw[cB (kY q aG)];exact q
 frzs:=λb u xs q=>by rw[cB (kY q aG)];exact q
 tbls:=λb ps q=>⟨#[],by rw[cB (kY q aG),q];simp⟩
theorem eU.write(ic:rL (H x))(aF:e=x\/H e=some (.own x))(k:∀b u,b≠e->h.get? b=some u->h'.get? b=some u)(n9:∃u,h'.get? e=some u):eU fs ex H (upd H x o) h h':=by
 have hx:∀b,H b=none->b≠x:=λb n z=>by subst z;rwa[n]at ic
 have ae:∀b,H b=none->b≠e:=λb n z=>by
  subst z;rcases aF with r|r
  ·exact hx b n r
  rw[n]at r;cases r
 have az:∀b u,H b=some u->¬rL (some u)->b≠x:=λb u q hj z=>by subst z;rw[q]at ic;exact hj ic
 refine⟨λb u q n _ _=>k b u (ae b n) q,λb u q n _ _=>⟨u.slots,k b u (ae b n) q⟩,λb u q n _=>by rw[cB (hx b n)];exact n,λb u q _=>?_,
  λb xs q=>by rw[cB (az b _ q λz=>z)];exact q,λb u xs q=>by rw[cB (az b _ q λz=>z)];exact q,λb ps q=>⟨#[],by rw[cB (az b _ q λz=>z),q];simp⟩⟩
 by_cases mQ:b=e
 ·subst mQ;exact n9
 exact⟨u,k b u mQ q⟩
end
def rN(h:Yn)(H:al):List TE:=(SA h.objs.size).filter λa=>(H a).isSome
def kZ(h:Yn)(H:al):Yn:=PySem.W.hideAll h (rN h H)
theorem Hw(h:Yn)(H:al):(kZ h H).objs.size=h.objs.size:=PySem.W.hideAll_size _ _
theorem Hx{h:Yn}{H:al}{b:TE}{o:Obj}(e:h.get? b=some o)(n:H b=none):(kZ h H).get? b=some o:=
 PySem.W.hideAll_get _ e λaz=>by
  have q:(H b).isSome=true:=(V7.mp az).2;rw[n]at q;simp at q
theorem Hy{h:Yn}{H:al}{b:TE}{o:Obj}(e:(kZ h H).get? b=some o):h.get? b=some o/\H b=none:=by
 have a7:h.get? b=some o:=PySem.W.of_hideAll (rN h H) e;refine⟨a7,?_⟩;cases q:H b with
 |none=>rfl
 |some x=>
  have az:b∈rN h H:=V7.mpr ⟨S7.mpr (Heap.lt_size a7),by simp[q]⟩;have z:(kZ h H).get? b=none:=PySem.W.hideAll_none (rN h H) az;rw[z]at e;cases e
structure Mod(K:Sx)(mg:Str->Option SL)(base:Yn):Prop where
 kin:K.In base
 glob:base.Ns W1 mg
 blt:∃fQ,base.Ns Zd fQ/\∀x:Str,x≠"__name__"->fQ x=YE x
 nolimit:base.NoLimit
structure a1 where
 prog:UF
 w:Yd
 K:Sx
 mg:Str->Option SL
 base:Yn
 A:Yj
 N:af9
 s₀:SZ
 H₀:al
 env:Env
 outer:List Env
 stack:List Env
 ex:aga
 fn:Str->Bool
 calm:Bool
 pn:agd
 xe:SL->SZ->Prop
abbrev lZ(X:a1)(p:Pos)(aD:agb):Prop:=((Zp p (Uf aD X.env)).all (λx => !x.1)&&(backToKw p (keywordEach [] X.env)).all (λx=>x.1.isSome)&&decide (aD.length+([]:List Keyword).length+(if([]:List Keyword).isEmpty then 0 else 1)<30))=true
abbrev dE(X:a1)(e:WP)(aD:agb):Prop:=Uf (e::aD) X.env=(false,YU e X.env)::Uf aD X.env
abbrev eC(x:Str):Prop:=(x==("__debug__":Str))=false
abbrev iK(x:Str):Prop:=(x==("__classdict__":Str))=false
abbrev i'(X:a1)(x:Str):Prop:=X.fn x=true\/X.env.scope.names.lookup x=some .local
abbrev jv(X:a1)(o:WP)(x:Str):Prop:=attributeBase o x X.env (YU o X.env)=YU o X.env
abbrev hl(X:a1)(p:Pos)(aD:agb):Prop:=(Zp p (Uf aD X.env)).any (·.1)=false
abbrev jw(p q:Pos):Prop:=(p.endLine==q.line)=true
abbrev jx(X:a1)(i:Nat)(x:Str):Prop:=X.N[i]?=some x
def ja(l:List Env):List TE:=l.filterMap (·.frame)
abbrev a1.fs(X:a1):List TE:=ja X.outer
def ie(eM:Y2)(x:Str):Prop:=eM.names.lookup x=some .local\/eM.names.lookup x=some .cell\/eM.names.lookup x=some .free
def Loc(eM:Y2)(x:Str):Prop:=eM.names.lookup x=some .local\/eM.names.lookup x=some .cell
def Look(env:Env)(h:Yn)(m:Str->Option SL)(x:Str)(u:SL):Prop:=
 (env.kindOf x=some .local/\m x=some u)\/((env.kindOf x=some .cell\/env.kindOf x=some .free)/\∃c,env.cells.lookup x=some c/\h.IsCell c (some u))
structure a1.Ok(X:a1):Prop where
 mod:Mod X.K X.mg X.base
 kind:X.env.scope.kind=.function
 glob:X.env.globals=W1
 blt:X.env.builtins=Zd
 above:X.s₀.heap.objs.size<=X.env.locals
 inj:∀x y c,X.env.cells.lookup x=some c->X.env.cells.lookup y=some c->x=y
 has:∀x,(X.env.kindOf x=some .cell\/X.env.kindOf x=some .free)->∃c,X.env.cells.lookup x=some c
 cab:∀x c,X.fn x=true->X.env.cells.lookup x=some c->X.s₀.heap.objs.size<=c
 hd:X.calm=true->X.A.handled=none
 frames:X.A.frames=some X.stack
 stk:X.stack=X.outer\/(X.stack=X.env::X.outer/\X.env.frame=some X.env.locals)
 exf:∀b∈X.ex,b≠X.env.locals/\∀x c,X.env.cells.lookup x=some c->c≠b
 bs:∀b o,X.base.get? b=some o->X.s₀.heap.get? b=some o/\X.H₀ b=none
 bsz:X.base.objs.size<=X.s₀.heap.objs.size
 noex:∀b o,X.base.get? b=some o->b∉X.ex
 exfs:∀b∈X.ex,b∉X.fs
 funs:X.s₀.heap.FunFrames X.base X.outer
 frf:∀b∈X.fs,X.H₀ b=none
 tab:lY X.K X.H₀
structure Inv(X:a1)(af:agd)(σ:List (Option V))(H:al)(s:SZ):Prop where
 ok:X.Ok
 os:s.os=X.s₀.os
 bare:Zq s.gens
 base:eU X.fs X.ex X.H₀ H X.s₀.heap s.heap
 loc:∃m,s.heap.Ns X.env.locals m/\∀(i:Nat)(x:Str)(v:V),X.N[i]?=some x->σ[i]?=some (some v)->ie X.env.scope x->∃u,RelV v u/\Look X.env s.heap m x u
 cell:∀x c,X.env.cells.lookup x=some c->∃v,s.heap.IsCell c v
 free:H X.env.locals=none
 freeC:∀x c,X.env.cells.lookup x=some c->H c=none
 pin:∀p∈X.pn++af,s.heap.get? p.1=some p.2/\H p.1=none/\p.1≠X.env.locals/\p.1∉X.fs/\∀v,p.2.data≠.cell v
 hok:eN X.prog X.w H s.heap
 len:σ.length=X.N.length
section
variable{X:a1}{af:agd}{σ:List (Option V)}{H aj:al}{s:SZ}{h':Yn}
theorem a1.Ok.nofr(ok:X.Ok){b:TE}{o:Obj}(e:X.base.get? b=some o):b∉X.fs:=λae=>by
 have:=(ok.funs.mem ae).1;rw[e]at this;cases this
theorem Inv.bs(I:Inv X af σ H s):∀b o,X.base.get? b=some o->s.heap.get? b=some o/\H b=none:=λb o e=>
 ⟨I.base.keep b o (I.ok.bs b o e).1 (I.ok.bs b o e).2 (I.ok.nofr e) (I.ok.noex b o e),I.base.free b o (I.ok.bs b o e).1 (I.ok.bs b o e).2 (I.ok.noex b o e)⟩
theorem Inv.bk(I:Inv X af σ H s):∀b o,X.base.get? b=some o->s.heap.get? b=some o:=λb o e=>(I.bs b o e).1
theorem lY.grow{K:Sx}{H aj:al}(x:lY K H)(g:∀b ps,H b=some (.tbl ps)->∃more,aj b=some (.tbl (ps++more))):lY K aj:=λp ak=>by
 obtain⟨ps,t,e,q⟩:=x p ak;obtain⟨more,a7⟩:=g _ _ e;refine⟨_,t,a7,?_⟩
 have:0<ps.size:=by
  rcases Xg ps.size with z|z
  ·rw[U4 (by lia)]at q;cases q
  exact z
 rw[Array.getElem?_append_left this];exact q
theorem Inv.tabs(I:Inv X af σ H s):lY X.K H:=I.ok.tab.grow I.base.tbls
theorem Inv.mod(I:Inv X af σ H s):Mod X.K X.mg X.base:=I.ok.mod
theorem Inv.kIn(I:Inv X af σ H s):X.K.In s.heap:=I.ok.mod.kin.keeps I.bk
theorem Inv.lt(I:Inv X af σ H s):X.env.locals<s.heap.objs.size:=let⟨_,aG,_⟩:=I.loc;aG.lt
theorem Inv.sz(I:Inv X af σ H s):X.s₀.heap.objs.size<=s.heap.objs.size:=SE I.ok.above (Vp I.lt)
theorem Inv.nofs(I:Inv X af σ H s){a:TE}(h:s.heap.objs.size<=a):a∉X.fs:=λae=>by
 obtain⟨_,o,aM,_⟩:=I.ok.funs.mem ae;exact absurd (S9 (Heap.lt_size aM) (SE I.sz h)) (Tc _)
theorem Inv.cne(I:Inv X af σ H s):∀x c,X.env.cells.lookup x=some c->c≠X.env.locals:=λx c e z=>by
 obtain⟨v,o,aM,hd⟩:=I.cell x c e;obtain⟨m,⟨d3,aD,bW,hI,Hz,_⟩,_⟩:=I.loc;rw[z,hI]at aM;cases aM;rw[Hz]at hd;cases hd
theorem Inv.funs(I:Inv X af σ H s):s.heap.FunFrames X.base X.outer:=by
 have all:∀(l:List Env),(∀b∈ja l,b∈X.fs)->X.s₀.heap.FunFrames X.base l->s.heap.FunFrames X.base l:=by
  intro l;induction l with
  |nil=>intro _ _;trivial
  |cons env r b2=>
   intro av ax;obtain⟨hk,⟨L,o,hf,aG,aM,hd⟩,au⟩:=ax;have df:L∈X.fs:=av L (by unfold ja;rw[U5,hf];exact SD);obtain⟨sl,e⟩:=I.base.slot L o aM (I.ok.frf L df) df λz=>I.ok.exfs L z df;exact⟨hk,⟨L,_,hf,aG,e,hd⟩,b2 (λb ae=>av b (by unfold ja;rw[U5,hf];exact SJ _ ae)) au⟩
 exact all X.outer (λ_ ae=>ae) I.ok.funs
theorem Inv.stack(I:Inv X af σ H s):s.heap.FunFrames X.base X.stack:=by
 rcases I.ok.stk with e|⟨e,hf⟩
 ·rw[e];exact I.funs
 rw[e];obtain⟨m,aG,_⟩:=I.loc;refine .cons (by rw[I.ok.kind];decide) hf aG ?_ I.funs;exact Heap.get?_none_of_le (SE I.ok.bsz I.ok.above)
theorem Inv.stkSub(I:Inv X af σ H s):∀b∈ja X.stack,b∈X.env.locals::X.fs:=λb ae=>by
 rcases I.ok.stk with e|⟨e,hf⟩
 ·rw[e]at ae;exact SJ _ ae
 rw[e]at ae;unfold ja at ae;rwa[U5,hf]at ae
theorem Inv.stkFree(I:Inv X af σ H s):∀b∈ja X.stack,H b=none:=λb ae=>by
 rcases SH.mp (I.stkSub b ae)with e|ae
 ·rw[e];exact I.free
 obtain⟨_,o,aM,_⟩:=I.ok.funs.mem ae;exact I.base.free b o aM (I.ok.frf b ae) λz=>I.ok.exfs b z ae
theorem Inv.step{g':Array GenState}{t':Nat}{d':Drawn}{ch:aga}(I:Inv X af σ H s)(kj:∀b∈ch,(b∈X.ex\/X.s₀.heap.objs.size<=b)/\b≠X.env.locals/\(∀x c,X.env.cells.lookup x=some c->c≠b)/\∀p∈X.pn++af,p.1≠b)(keep:∀b o,b≠X.env.locals->b∉X.fs->b∉ch->s.heap.get? b=some o->H b=none->h'.get? b=some o)(slot:∀b o,b≠X.env.locals->b∈X.fs->b∉ch->s.heap.get? b=some o->H b=none->∃sl,h'.get? b=some {o with slots:=sl})(free:∀b o,b∉ch->s.heap.get? b=some o->H b=none->aj b=none)(there:∀b o,b∉ch->s.heap.get? b=some o->∃d3,h'.get? b=some d3)(tups:∀b xs,H b=some (.tup xs)->aj b=some (.tup xs))(frzs:∀b o u,H b=some (.frz o u)->aj b=some (.frz o u))(tbls:∀b ps,H b=some (.tbl ps)->∃more,aj b=some (.tbl (ps++more)))(ns:∀m,s.heap.Ns X.env.locals m->h'.Ns X.env.locals m)(hok:eN X.prog X.w aj h')(aJ:Zq g'):
  Inv X af σ aj {s with heap:=h',gens:=g',drawn:=d',toks:=t' }:=by
 have zw:∀b o,X.s₀.heap.get? b=some o->b≠X.env.locals:=λb o e=>SV (S9 (Heap.lt_size e) I.ok.above)
 have rO:∀b o,X.s₀.heap.get? b=some o->b∉X.ex->b∉ch:=λb o e hx ae=>by
  rcases(kj b ae).1 with z|z
  ·exact hx z
  exact absurd (S9 (Heap.lt_size e) z) (Tc _)
 have cellK:∀x c,X.env.cells.lookup x=some c->∀v,s.heap.IsCell c v->h'.IsCell c v:=λx c e v ⟨o,aM,hd⟩=>by
  have py:c∉ch:=λz=>(kj c z).2.2.1 x c e rfl;by_cases hc:c∈X.fs
  ·obtain⟨sl,q⟩:=slot c o (I.cne x c e) hc py aM (I.freeC x c e);exact⟨_,q,hd⟩
  exact⟨o,keep c o (I.cne x c e) hc py aM (I.freeC x c e),hd⟩
 refine⟨I.ok,I.os,aJ,⟨λb o e n ae hx=>?_,λb o e n ae hx=>?_,λb o e n hx=>?_,λb o e hx=>?_,λb xs e=>tups b xs (I.base.tups b xs e),λb o xs e=>frzs b o xs (I.base.frzs b o xs e),λb ps e=>?_⟩,?_,λx c e=>?_,?_,λx c e=>?_,λp ak=>?_,hok,I.len⟩
 ·exact keep b o (zw b o e) ae (rO b o e hx) (I.base.keep b o e n ae hx) (I.base.free b o e n hx)
 ·obtain⟨sl,ah⟩:=I.base.slot b o e n ae hx;obtain⟨HA,am⟩:=slot b _ (zw b o e) ae (rO b o e hx) ah (I.base.free b o e n hx);exact⟨HA,am⟩
 ·obtain⟨d3,ah⟩:=I.base.there b o e hx;exact free b d3 (rO b o e hx) ah (I.base.free b o e n hx)
 ·obtain⟨d3,ah⟩:=I.base.there b o e hx;exact there b d3 (rO b o e hx) ah
 ·obtain⟨m1,ah⟩:=I.base.tbls b ps e;obtain⟨m2,am⟩:=tbls b _ ah;exact⟨m1++m2,by rw[am,Array.append_assoc]⟩
 ·obtain⟨m,aG,ax⟩:=I.loc;refine⟨m,ns m aG,λi x v ah am bz=>?_⟩;obtain⟨u,r,l⟩:=ax i x v ah am bz;refine⟨u,r,?_⟩;rcases l with l|⟨k,c,e,z⟩
  ·exact .inl l
  exact .inr ⟨k,c,e,cellK x c e _ z⟩
 ·obtain⟨v,z⟩:=I.cell x c e;exact⟨v,cellK x c e v z⟩
 ·obtain⟨m,⟨o,_,_,aM,_⟩,_⟩:=I.loc;exact free _ o (λz=>(kj _ z).2.1 rfl) aM I.free
 ·obtain⟨v,o,aM,hd⟩:=I.cell x c e;exact free c o (λz=>(kj c z).2.2.1 x c e rfl) aM (I.freeC x c e)
 obtain⟨e,n,ne,n',d⟩:=I.pin p ak;have py:p.1∉ch:=λz=>(kj p.1 z).2.2.2 p ak rfl;exact⟨keep p.1 p.2 ne n' py e n,free p.1 p.2 py e n,ne,n',d⟩
theorem Inv.un{t':Nat}(I:Inv X af σ H s)(u:eU X.fs [] H aj s.heap h')(hok:eN X.prog X.w aj h'):Inv X af σ aj {s with heap:=h',toks:=t' }:=by
 obtain⟨m,⟨o,aD,bW,aM,r⟩,_⟩:=id I.loc;obtain⟨sl,df⟩:=u.any aM I.free (by simp)
 exact I.step (g':=s.gens) (d':=s.drawn) (ch:=[]) (λ_ z=>nomatch z) (λb o _ ae _ e n=>u.keep b o e n ae (by simp)) (λb o _ ae _ e n=>u.slot b o e n ae (by simp)) (λb o _ e n=>u.free b o e n (by simp)) (λb o _ e=>u.there b o e (by simp)) u.tups u.frzs u.tbls (λcU az=>by
  obtain⟨d3,k0,vD,hI,cG⟩:=az;rw[aM]at hI;cases hI
  exact⟨_,k0,vD,df,cG⟩) hok I.bare
theorem Inv.call{g':Array GenState}{t':Nat}{d':Drawn}{ch:aga}(I:Inv X af σ H s)(u:eU (ja X.stack) ch H aj s.heap h')(hok:eN X.prog X.w aj h')(aJ:Zq g')(kj:∀b∈ch,(b∈X.ex\/X.s₀.heap.objs.size<=b)/\b≠X.env.locals/\(∀x c,X.env.cells.lookup x=some c->c≠b)/\∀p∈X.pn++af,p.1≠b):
  Inv X af σ aj {s with heap:=h',gens:=g',drawn:=d',toks:=t' }:=by
 obtain⟨m,⟨o,aD,bW,aM,r⟩,_⟩:=id I.loc;obtain⟨sl,df⟩:=u.any aM I.free λz=>(kj _ z).2.1 rfl
 exact I.step (ch:=ch) kj (λb o df ae hc e n=>u.keep b o e n (λz=>(SH.mp (I.stkSub b z)).elim df ae) hc) (λb o _ _ hc e n=>u.any e n hc) (λb o hc e n=>u.free b o e n hc) (λb o hc e=>u.there b o e hc) u.tups u.frzs u.tbls (λcU az=>by
  obtain⟨d3,k0,vD,hI,cG⟩:=az;rw[aM]at hI;cases hI
  exact⟨_,k0,vD,df,cG⟩) hok aJ
theorem Inv.turned{t':Nat}{it:TE}(I:Inv X af σ H s)(k:∀b o,b≠it->s.heap.get? b=some o->h'.get? b=some o)(aG:H it=none)(df:it≠X.env.locals)(aa:it∈X.ex\/X.s₀.heap.objs.size<=it)(ab:∀x c,X.env.cells.lookup x=some c->c≠it)(a':∀p∈X.pn++af,p.1≠it):Inv X af σ H {s with heap:=h',toks:=t' }:=by
 have kk:∀b u,H b=some u->b≠it:=λb u e z=>by rw[z,aG]at e;cases e
 refine I.step (g':=s.gens) (d':=s.drawn) (ch:=[it]) (λb ae=>?_) (λb o _ _ hc e _=>k b o (λz=>hc (by simp[z])) e) (λb o _ _ hc e _=>⟨o.slots,k b o (λz=>hc (by simp[z])) e⟩) (λ_ _ _ _ n=>n)
  (λb o hc e=>⟨o,k b o (λz=>hc (by simp[z])) e⟩) (λ_ _ e=>e) (λ_ _ _ e=>e) (λb ps e=>⟨#[],by rw[e];simp⟩) (λm az=>?_) (λb u e=>?_) I.bare
 ·have e:b=it:=by simpa using ae
  subst e;exact⟨aa,df,ab,a'⟩
 ·obtain⟨o,aD,bW,aM,r⟩:=az;exact⟨o,aD,bW,k _ o (S2 df) aM,r⟩
 refine(I.hok b u e).stay (λc v hc q=>k c v ?_ q) (λ_ q=>q) (λ_ _ q=>q) λ_ _ _ q=>q;rcases hc with z|z
 ·rw[z];exact kk b u e
 exact kk c _ z
theorem Inv.tok(I:Inv X af σ H s)(t:Nat):Inv X af σ H {s with toks:=t}:=I.un (h':=s.heap) (t':=t) eU.refl I.hok
theorem Inv.kept{t':Nat}(I:Inv X af σ H s)(k:∀b u,s.heap.get? b=some u->h'.get? b=some u):Inv X af σ H {s with heap:=h',toks:=t' }:=I.un (eU.kept k) (I.hok.kept k)
theorem Inv.laid{a:TE}{o:dM}{t':Nat}(I:Inv X af σ H s)(k:∀b u,s.heap.get? b=some u->h'.get? b=some u)(ak:s.heap.objs.size<=a)(new:f2 X.prog X.w (upd H a o) h' a o):
  Inv X af σ (upd H a o) {s with heap:=h',toks:=t' }:=I.un (eU.laid k ak (I.hok.fresh ak)) (I.hok.laid k ak new)
theorem Inv.write{x e:TE}{o:dM}{t':Nat}(I:Inv X af σ H s)(ic:rL (H x))(aF:e=x\/H e=some (.own x))(k:∀b u,b≠e->s.heap.get? b=some u->h'.get? b=some u)(n9:∃u,h'.get? e=some u)(new:f2 X.prog X.w (upd H x o) h' x o):Inv X af σ (upd H x o) {s with heap:=h',toks:=t' }:=I.un (eU.write ic aF k n9) (I.hok.write ic aF k n9 new)
theorem Inv.pins_of{zx:agd}(I:Inv X af σ H s)(h:∀p∈zx,s.heap.get? p.1=some p.2/\H p.1=none/\p.1≠X.env.locals/\p.1∉X.fs/\∀v,p.2.data≠.cell v):Inv X zx σ H s:=
 ⟨I.ok,I.os,I.bare,I.base,I.loc,I.cell,I.free,I.freeC,λp ak=>(S3.mp ak).elim (λz=>I.pin p (U6 _ z)) (h p),I.hok,I.len⟩
theorem zy{N:af9}(bU:N.Nodup){i j:Nat}{x:Str}(a:N[i]?=some x)(b:N[j]?=some x):i=j:=by
 obtain⟨aa,ah⟩:=TH.mp a;obtain⟨ab,am⟩:=TH.mp b;exact(List.getElem_inj bU).mp (ah.trans am.symm)
theorem HB{M:Model}{A:Yj}{E:SL->SZ->Prop}{i:Nat}{x:Str}{v:V}{u:SL}{Q:Unit->SZ->Prop}(I:Inv X af σ H s)(bU:X.N.Nodup)(ao:X.N[i]?=some x)(hx:Loc X.env.scope x)(r:RelV v u)(h:∀s',Inv X af (σ.set i (some v)) H s'->(∃a,Heap.SameBut a s.heap s'.heap/\(a=X.env.locals\/X.env.cells.lookup x=some a))->Q () s')(hf:i' X x:=by walk_at"f"):wpAny M A (storeName X.env x u) Q E s:=by
 obtain⟨m,aG,ax⟩:=id I.loc;have HC:(X.env.scope.kind==.class||(X.env.scope.kind==.module&&X.env.locals != X.env.globals))=false:=by rw[I.ok.kind];rfl
 have zz:i<σ.length:=by rw[I.len];exact(TH.mp ao).1
 have cne:=I.cne
 have tracked:∀{a:TE}{h':Yn},(∃o,s.heap.get? a=some o/\H a=none)->Heap.SameBut a s.heap h'->eN X.prog X.w H h':=λ{a h'} aq av b b9 e=>by
  obtain⟨_,_,zA⟩:=aq;refine(I.hok b b9 e).stay (λc eV hc q=>(av.2 c ?_).trans q) (λ_ q=>q) (λ_ _ q=>q) λ_ _ _ q=>q;rintro rfl;rcases hc with rfl|hc
  ·rw[zA]at e;cases e
  rw[zA]at hc;cases hc
 rcases hx with hk|hk
 ·refine wpAny_storeName_local hk aG (λh' HD av=>?_) HC;obtain⟨HE,_,_,HF,_⟩:=id aG;refine h _ ⟨I.ok,I.os,I.bare,⟨λb o e n ae hx=>?_,λb o e n ae hx=>?_,I.base.free,λb o e hx=>?_,I.base.tups,I.base.frzs,I.base.tbls⟩,⟨_,HD,λj y oa ah am bz=>?_⟩,λy c e=>?_,I.free,I.freeC,λp ak=>?_,tracked ⟨HE,HF,I.free⟩ av,by simpa using I.len⟩ ⟨_,av,.inl rfl⟩
  ·exact(av.2 b (SV (S9 (Heap.lt_size e) I.ok.above))).trans (I.base.keep b o e n ae hx)
  ·obtain⟨sl,ah⟩:=I.base.slot b o e n ae hx;exact⟨sl,(av.2 b (SV (S9 (Heap.lt_size e) I.ok.above))).trans ah⟩
  ·obtain⟨d3,ah⟩:=I.base.there b o e hx;exact⟨d3,(av.2 b (SV (S9 (Heap.lt_size e) I.ok.above))).trans ah⟩
  ·by_cases aQ:j=i
   ·subst aQ;rw[ao]at ah;cases ah;rw[Uu zz]at am;cases am;exact⟨u,r,.inl ⟨hk,by simp⟩⟩
   rw[TY (S2 aQ)]at am;obtain⟨eW,cG,q⟩:=ax j y oa ah am bz;refine⟨eW,cG,?_⟩;rcases q with⟨k,e⟩|⟨k,c,e,z⟩
   ·refine .inl ⟨k,?_⟩;have:y≠x:=λe=>aQ (zy bU ah (e▸ao));simp[this,e]
   exact .inr ⟨k,c,e,z.sameBut av (cne y c e)⟩
  ·obtain⟨eV,z⟩:=I.cell y c e;exact⟨eV,z.sameBut av (cne y c e)⟩
  obtain⟨e,n,ne,n',d⟩:=I.pin p ak;exact⟨(av.2 p.1 ne).trans e,n,ne,n',d⟩
 have vE:X.fn x=true:=by
  rcases hf with z|z
  ·exact z
  rw[z]at hk;cases hk
 obtain⟨c,hc⟩:=I.ok.has x (.inl hk);obtain⟨eV,z⟩:=I.cell x c hc;refine wpAny_storeName_cell I.ok.kind hk hc z (λh' iL av=>?_);obtain⟨oc,zB,HG⟩:=id z;refine h {s with heap:=h' } ⟨I.ok,I.os,I.bare,⟨λb o e n ae hx=>?_,λb o e n ae hx=>?_,I.base.free,λb o e hx=>?_,I.base.tups,I.base.frzs,I.base.tbls⟩,⟨m,aG.sameBut av (S2 (cne x c hc)),λj y oa ah am bz=>?_⟩,λy dg e=>?_,I.free,I.freeC,λp ak=>?_,tracked ⟨oc,zB,I.freeC x c hc⟩ av,by simpa using I.len⟩ ⟨c,av,.inr hc⟩
 ·exact(av.2 b (SV (S9 (Heap.lt_size e) (I.ok.cab x c vE hc)))).trans (I.base.keep b o e n ae hx)
 ·obtain⟨sl,ah⟩:=I.base.slot b o e n ae hx;exact⟨sl,(av.2 b (SV (S9 (Heap.lt_size e) (I.ok.cab x c vE hc)))).trans ah⟩
 ·obtain⟨d3,ah⟩:=I.base.there b o e hx;exact⟨d3,(av.2 b (SV (S9 (Heap.lt_size e) (I.ok.cab x c vE hc)))).trans ah⟩
 ·by_cases aQ:j=i
  ·subst aQ;rw[ao]at ah;cases ah;rw[Uu zz]at am;cases am;exact⟨u,r,.inr ⟨.inl hk,c,hc,iL⟩⟩
  rw[TY (S2 aQ)]at am;obtain⟨eW,cG,q⟩:=ax j y oa ah am bz;refine⟨eW,cG,?_⟩;rcases q with q|⟨k,dg,e,dN⟩
  ·exact .inl q
  refine .inr ⟨k,dg,e,dN.sameBut av ?_⟩;rintro rfl;exact aQ (zy bU ah (I.ok.inj _ _ _ e hc▸ao))
 ·by_cases zC:dg=c
  ·subst zC;exact⟨_,iL⟩
  obtain⟨e6,aU⟩:=I.cell y dg e;exact⟨e6,aU.sameBut av zC⟩
 obtain⟨e,n,ne,n',d⟩:=I.pin p ak;refine⟨(av.2 p.1 ?_).trans e,n,ne,n',d⟩;intro q;rw[q,zB]at e;have fP:oc=p.2:=SM e;exact d eV (by rw[<-fP];exact HG)
theorem l0{M:Model}{A:Yj}{E:SL->SZ->Prop}{i:Nat}{x:Str}{v:V}{u:SL}{Q:Unit->SZ->Prop}(I:Inv X af σ H s)(bU:X.N.Nodup)(ao:X.N[i]?=some x)(hx:Loc X.env.scope x)(r:RelV v u)(h:∀s',Inv X af (σ.set i (some v)) H s'->Q () s')(hf:i' X x:=by walk_at"f"):wpAny M A (storeName X.env x u) Q E s:=
 HB I bU ao hx r (λs' kl _=>h s' kl) hf
theorem Inv.call'{s':SZ}{ch:aga}(I:Inv X af σ H s)(aM:s'.os=s.os)(u:eU (ja X.stack) ch H aj s.heap s'.heap)(hok:eN X.prog X.w aj s'.heap)(aJ:Zq s'.gens)(kj:∀b∈ch,(b∈X.ex\/X.s₀.heap.objs.size<=b)/\b≠X.env.locals/\(∀x c,X.env.cells.lookup x=some c->c≠b)/\∀p∈X.pn++af,p.1≠b):Inv X af σ aj s':=by
 obtain⟨h',g',d',t',d3⟩:=s';have e:d3=s.os:=aM;subst e;exact I.call (g':=g') (t':=t') (d':=d') u hok aJ kj
end
abbrev f3:=SL->Option TE->al->Prop
abbrev St:=List (Option V)
abbrev cf:=V->al->Prop
abbrev bA:=St->al->cf->Prop
abbrev dq:=St->al->(Bool->al->Prop)->Prop
abbrev dX:=St->al->(Z4->al->Prop)->Prop
structure k1 where
 nx:St->al->Prop
 rt:cf
 bk:St->al->Prop:=λ_ _=>False
 ct:St->al->Prop:=λ_ _=>False
abbrev fp:=k1->St->al->Prop
def fA(X:a1)(af:agd)(σ:St)(Q:cf)(u:SL)(s':SZ):Prop:=∃v aj,Inv X af σ aj s'/\RelV v u/\Q v aj
def rP(X:a1)(af:agd)(σ:St)(Q:Bool->al->Prop)(b:Bool)(s':SZ):Prop:=∃aj,Inv X af σ aj s'/\Q b aj
def HH(X:a1)(af:agd)(σ:St)(Q:Z4->al->Prop)(aO:af')(s':SZ):Prop:=∃vs aj,Inv X af σ aj s'/\bP vs aO/\Q vs aj
def pz(X:a1)(af:agd)(D:k1)(f:Flow)(s':SZ):Prop:=
 match f with
 |.next=>∃a4 aj,Inv X af a4 aj s'/\D.nx a4 aj
 |.brk=>∃a4 aj,Inv X af a4 aj s'/\D.bk a4 aj
 |.cont=>∃a4 aj,Inv X af a4 aj s'/\D.ct a4 aj
 |.ret u=>∃v a4 aj,Inv X af a4 aj s'/\RelV v u/\D.rt v aj
def bE(X:a1)(e:WP)(t:bA):Prop:=
 ∀(af:agd)(s:SZ)(σ:St)(H:al)(Q:cf),Inv X af σ H s->t σ H Q->wpAny (Wp X.prog X.w) X.A (YU e X.env) (fA X af σ Q) X.xe s
def hm(X:a1)(e:WP)(t:dq):Prop:=
 ∀(af:agd)(s:SZ)(σ:St)(H:al)(Q:Bool->al->Prop),Inv X af σ H s->t σ H Q->wpAny (Wp X.prog X.w) X.A (ZO e X.env (YU e X.env)) (rP X af σ Q) X.xe s
def k3(X:a1)(e:WP)(t:dq):Prop:=
 ∀(hn:Sem SL)(af:agd)(s:SZ)(σ:St)(H:al)(Q:Bool->al->Prop),Inv X af σ H s->t σ H Q->wpAny (Wp X.prog X.w) X.A (ZO e X.env hn) (rP X af σ Q) X.xe s
theorem k3.pt{X:a1}{e:WP}{t:dq}(h:k3 X e t):hm X e t:=h _
def f4(X:a1)(aD:agb)(t:dX):Prop:=
 ∀(pos:Pos)(af:agd)(s:SZ)(σ:St)(H:al)(Q:Z4->al->Prop),Inv X af σ H s->t σ H Q->wpAny (Wp X.prog X.w) X.A (spliced (Zp pos (Uf aD X.env))) (HH X af σ Q) X.xe s
def ho(X:a1)(st:Ym)(t:fp):Prop:=
 ∀(af:agd)(s:SZ)(σ:St)(H:al)(D:k1),Inv X af σ H s->t D σ H->wpAny (Wp X.prog X.w) X.A (exec st X.env) (pz X af D) X.xe s
def hp(X:a1)(st:agc)(t:fp):Prop:=
 ∀(af:agd)(s:SZ)(σ:St)(H:al)(D:k1),Inv X af σ H s->t D σ H->wpAny (Wp X.prog X.w) X.A (execs st X.env) (pz X af D) X.xe s
theorem bQ{α:Type}{t:Sem α}{Q k4:α->SZ->Prop}{M:Model}{A:Yj}{E:SL->SZ->Prop}{s:SZ}(h:wpAny M A t Q E s)(eD:∀a s,Q a s->k4 a s):wpAny M A t k4 E s:=YI h eD λ_ _ x=>x
section
variable{X:a1}
def vF(i:Nat):bA:=λσ H Q=>∃v,σ[i]?=some (some v)/\Q v H
def mR(v:V):bA:=λ_ H Q=>Q v H
theorem jb{i:Nat}{x:Str}{pos:Pos}(bU:X.N[i]?=some x)(hv:ie X.env.scope x)(hd:eC x:=by decide)(ee:iK x:=by decide):bE X (.Name x pos) (vF i):=by
 intro af s σ H Q I h;obtain⟨v,e,h⟩:=h;obtain⟨m,aG,ax⟩:=I.loc;obtain⟨u,r,l⟩:=ax i x v bU e hv;have fin:fA X af σ Q u s:=⟨v,H,I,r,h⟩;rcases l with⟨hk,az⟩|⟨hk,c,hc,zD⟩
 ·exact wpAny_Name (wpAny_loadName_local I.ok.kind hk aG az fin) hd
 rcases hk with hk|hk
 ·exact wpAny_Name (wpAny_loadName_cell I.ok.kind hk hc zD fin) hd
 exact wpAny_Name (wpAny_loadName_free I.ok.kind hk hc zD fin ee) hd
theorem eO{i j pos}:bE X (.Constant (.int i) j pos) (mR (.int i)):=λ_ _ _ H _ I h=>wpAny_Constant_int ⟨.int i,H,I.tok _,⟨_,rfl⟩,h⟩
theorem HI{b j pos}:bE X (.Constant (.bool b) j pos) (mR (.bl b)):=λ_ _ _ H _ I h=>Constant_bool ⟨.bl b,H,I,rfl,h⟩
theorem zE{x j pos}:bE X (.Constant (.str x) j pos) (mR (.str x)):=λ_ _ _ H _ I h=>Calls.Constant_str ⟨.str x,H,I.tok _,⟨_,rfl⟩,h⟩
def c2(X:a1)(x:Str):Prop:=X.env.kindOf x=some .globalImplicit
theorem zF{E:SL->SZ->Prop}{af:agd}{s:SZ}{σ:St}{H:al}{x:Str}{u:SL}{pos:Pos}{Q:SL->SZ->Prop}(I:Inv X af σ H s)(aJ:c2 X x)(az:X.mg x=some u)(h:Q u s)(hd:eC x:=by decide):wpAny (Wp X.prog X.w) X.A (YU (.Name x pos) X.env) Q E s:=
 Calls.Name_function_global I.ok.kind aJ (Calls.loadGlobal_global (by rw[I.ok.glob];exact I.mod.glob.keeps I.bk) az h) hd
theorem jy{E:SL->SZ->Prop}{af:agd}{s:SZ}{σ:St}{H:al}{x:Str}{u:SL}{pos:Pos}{Q:SL->SZ->Prop}(I:Inv X af σ H s)(aJ:c2 X x)(az:X.mg x=none)(hv:YE x=some u)(h:Q u s)(aG:x≠"__name__":=by decide)(hd:eC x:=by decide):wpAny (Wp X.prog X.w) X.A (YU (.Name x pos) X.env) Q E s:=by
 obtain⟨fQ,aa,ab⟩:=I.mod.blt;exact Calls.Name_function_global I.ok.kind aJ (Calls.loadGlobal_builtin (by rw[I.ok.glob];exact I.mod.glob.keeps I.bk) az (by rw[I.ok.blt];exact aa.keeps I.bk) ((ab x aG).trans hv) h) hd
theorem zG{x:Str}{v:V}{u:SL}{pos:Pos}(aJ:c2 X x)(az:X.mg x=some u)(r:RelV v u)(hd:eC x:=by decide):bE X (.Name x pos) (mR v):=
 λ_ _ _ H _ I h=>zF I aJ az ⟨v,H,I,r,h⟩ hd
theorem pA{x:Str}{v:V}{u:SL}{pos:Pos}(aJ:c2 X x)(az:X.mg x=none)(hv:YE x=some u)(r:RelV v u)(aG:x≠"__name__":=by decide)(hd:eC x:=by decide):bE X (.Name x pos) (mR v):=
 λ_ _ _ H _ I h=>jy I aJ az hv ⟨v,H,I,r,h⟩ aG hd
variable{a b:WP}{bq tb:bA}{pos:Pos}
def zH(t:bA):dq:=λσ H Q=>t σ H λx ar=>∃c,x=.bl c/\Q c ar
theorem HJ{e:WP}{t:bA}(h:bE X e t)(aF:∀hn,ZO e X.env hn=(do let v <-hn;ZM e.pos;Y3 [v] (Z2 v)):=by intro _;rfl):hm X e (zH t):=by
 intro af s σ H Q I hw;refine isTrue_plain (bQ (h af s σ H _ I hw) λv s1 ⟨x,ar,a6,ai,aB⟩=>?_) (aF _);obtain⟨d,rfl,q⟩:=aB;cases ai;exact XV ⟨ar,a6,q⟩
variable{jc rQ:dq}{rest:agb}
def zI(t u:dq):dq:=λσ H Q=>t σ H λc ar=>if c=true then u σ ar Q else Q false ar
def zJ(t u:dq):dq:=λσ H Q=>t σ H λc ar=>if c=true then Q true ar else u σ ar Q
def zK(t:dq):dq:=λσ H Q=>t σ H λc ar=>Q (!c) ar
theorem HK(aq:hm X a jc):k3 X (.BoolOp .And [a] pos) jc:=by
 intro wh af s σ H Q I h;refine isTrue_and (bQ (aq af s σ H Q I h) λc s1 e=>?_);cases c with
 |true=>exact isTrue_and_nil e
 |false=>exact e
theorem HL(aq:hm X a jc):k3 X (.BoolOp .Or [a] pos) jc:=by
 intro wh af s σ H Q I h;refine isTrue_or (bQ (aq af s σ H Q I h) λc s1 e=>?_);cases c with
 |false=>exact isTrue_or_nil e
 |true=>exact e
theorem HM(aq:hm X a jc)(ae:k3 X (.BoolOp .And (b::rest) pos) rQ):k3 X (.BoolOp .And (a::b::rest) pos) (zI jc rQ):=by
 intro wh af s σ H Q I h;refine isTrue_and (bQ (aq af s σ H _ I h) λc s1 ⟨ar,a6,aB⟩=>?_);cases c with
 |true=>exact ae wh af s1 σ ar Q a6 aB
 |false=>exact⟨ar,a6,aB⟩
theorem HN(aq:hm X a jc)(ae:k3 X (.BoolOp .Or (b::rest) pos) rQ):k3 X (.BoolOp .Or (a::b::rest) pos) (zJ jc rQ):=by
 intro wh af s σ H Q I h;refine isTrue_or (bQ (aq af s σ H _ I h) λc s1 ⟨ar,a6,aB⟩=>?_);cases c with
 |true=>exact⟨ar,a6,aB⟩
 |false=>exact ae wh af s1 σ ar Q a6 aB
theorem HO(aq:hm X a jc):hm X (.UnaryOp .Not a pos) (zK jc):=by
 intro af s σ H Q I h;exact isTrue_not (aq af s σ H (λc ar=>Q (!c) ar) I h)
def HP(bq tb:bA):bA:=λσ H Q=>bq σ H λx ar=>∃c,x=.bl c/\if c=true then tb σ ar Q else Q (.bl false) ar
def HQ(bq tb:bA):bA:=λσ H Q=>bq σ H λx ar=>∃c,x=.bl c/\if c=true then Q (.bl true) ar else tb σ ar Q
def HR(bq:bA):bA:=λσ H Q=>bq σ H λx ar=>∃c,x=.bl c/\Q (.bl (!c)) ar
theorem HS{op}{t:bA}(h:bE X a t):bE X (.BoolOp op [a] pos) t:=λaf s σ H Q I hw=>BoolOp_one (h af s σ H Q I hw)
theorem HU(aq:bE X a bq)(ae:bE X (.BoolOp .And (b::rest) pos) tb):bE X (.BoolOp .And (a::b::rest) pos) (HP bq tb):=by
 intro af s σ H Q I h;refine BoolOp_and (bQ (aq af s σ H _ I h) λv s1 ⟨x,ar,a6,ai,aB⟩=>?_);obtain⟨c,rfl,aB⟩:=aB;cases ai;refine XV ?_;cases c with
 |true=>exact ae af s1 σ ar Q a6 aB
 |false=>exact⟨.bl false,ar,a6,rfl,aB⟩
theorem HV(aq:bE X a bq)(ae:bE X (.BoolOp .Or (b::rest) pos) tb):bE X (.BoolOp .Or (a::b::rest) pos) (HQ bq tb):=by
 intro af s σ H Q I h;refine BoolOp_or (bQ (aq af s σ H _ I h) λv s1 ⟨x,ar,a6,ai,aB⟩=>?_);obtain⟨c,rfl,aB⟩:=aB;cases ai;refine XV ?_;cases c with
 |false=>exact ae af s1 σ ar Q a6 aB
 |true=>exact⟨.bl true,ar,a6,rfl,aB⟩
theorem HW(aq:bE X a bq):bE X (.UnaryOp .Not a pos) (HR bq):=by
 intro af s σ H Q I h;refine UnaryOp_ (bQ (aq af s σ H _ I h) λv s1 ⟨x,ar,a6,ai,aB⟩=>?_);obtain⟨c,rfl,aB⟩:=aB;cases ai;exact not_of (XV ⟨.bl (!c),ar,a6,rfl,aB⟩)
def HX(t:dq)(bq tb:bA):bA:=λσ H Q=>t σ H λc ar=>if c=true then bq σ ar Q else tb σ ar Q
theorem HY{c:WP}(hc:hm X c jc)(aq:bE X a bq)(ae:bE X b tb):bE X (.IfExp c a b pos) (HX jc bq tb):=by
 intro af s σ H Q I h;refine wpAny_IfExp (bQ (hc af s σ H _ I h) λd s1 ⟨ar,a6,aB⟩=>?_);cases d with
 |true=>exact aq af s1 σ ar Q a6 aB
 |false=>exact ae af s1 σ ar Q a6 aB
end
def b0(K:Sx)(H:al)(a:TE)(xs:Z4):Prop:=
 rK H a (.lst xs) \/
  ∃(o:Obj)(its:Array SL)(n:Nat),K.lookup a=some o/\o.cls=.type "list"/\o.dict=none/\o.data=.seq its n/\its.size<=TI/\bP xs its.toList
def dA(K:Sx)(H:al)(a:TE)(xs:Z4):Prop:=
 rK H a (.tup xs) \/
  ∃(o:Obj)(its:Array SL)(n:Nat),K.lookup a=some o/\o.cls=.type "tuple"/\o.data=.seq its n/\its.size<=TI/\bP xs its.toList
def HZ:SL->Option V
 |.none=>some .non
 |.bool b=>some (.bl b)
 |.int i _=>some (.int i)
 |.str x _=>some (.str x)
 |.bytes b _=>some (.byt b)
 |.float b _=>some (.flt b)
 |.ref a=>some (.ref a)
 |.type n=>some (.ty n)
 |_=>none
theorem RelV.abs{x:V}{u:SL}(r:RelV x u):HZ u=some x:=by
 cases x with
 |non=>cases r;rfl
 |bl _=>cases r;rfl
 |int _=>obtain⟨t,rfl⟩:=r;rfl
 |str _=>obtain⟨t,rfl⟩:=r;rfl
 |byt _=>obtain⟨t,rfl⟩:=r;rfl
 |flt _=>obtain⟨t,rfl⟩:=r;rfl
 |ref _=>cases r;rfl
 |ty _=>cases r;rfl
theorem RelV.inj{x y:V}{u:SL}(r:RelV x u)(q:RelV y u):x=y:=SM (r.abs.symm.trans q.abs)
theorem bP.inj:∀{xs ys:Z4}{aO:af'},bP xs aO->bP ys aO->xs=ys
 |_,_,_,.nil,.nil=>rfl
 |_,_,_,.cons r t,.cons cG t'=>by rw[r.inj cG,bP.inj t t']
section
variable{X:a1}{af:agd}{σ:St}{H:al}{s:SZ}{a:TE}{xs ys:Z4}
theorem b0.of{K:Sx}(h:H a=some (.lst xs)):b0 K H a xs:=.inl (.inl h)
theorem dA.of{K:Sx}(h:H a=some (.tup xs)):dA K H a xs:=.inl (.inl h)
theorem Inv.list(I:Inv X af σ H s)(h:b0 X.K H a xs):∃its:af',bP xs its/\PlainL s.heap a its.toArray/\xs.length<=TI:=by
 rcases h with h|⟨o,its,n,hk,hc,hd,av,hz,r⟩
 ·obtain⟨z,its,n,r,e⟩:=h.ok I.hok;exact⟨its,r,⟨_,n,e,rfl,rfl,rfl⟩,z⟩
 refine⟨its.toList,r,⟨o,n,I.kIn a o hk,hc,hd,by simpa using av⟩,?_⟩;have e:=r.length;simp only[S8]at e;lia
theorem Inv.tuple(I:Inv X af σ H s)(h:dA X.K H a xs):∃its:af',bP xs its/\IsTup s.heap a its.toArray/\xs.length<=TI:=by
 rcases h with h|⟨o,its,n,hk,hc,av,hz,r⟩
 ·obtain⟨z,its,r,p⟩:=h.ok I.hok;exact⟨its,r,p,z⟩
 refine⟨its.toList,r,⟨o,I.kIn a o hk,hc,n,by simpa using av⟩,?_⟩;have e:=r.length;simp only[S8]at e;lia
theorem Inv.list_inj(I:Inv X af σ H s)(h:b0 X.K H a xs)(h':b0 X.K H a ys):xs=ys:=by
 obtain⟨its,r,⟨o,n,e,_,_,d⟩,_⟩:=I.list h;obtain⟨its',cG,⟨d3,hq,a7,_,_,d'⟩,_⟩:=I.list h';rw[e]at a7;cases a7;rw[d]at d';injection d' with cQ _
 have:its=its':=by simpa using Ye Array.toList cQ
 subst this;exact r.inj cG
theorem Inv.tuple_inj(I:Inv X af σ H s)(h:dA X.K H a xs)(h':dA X.K H a ys):xs=ys:=by
 obtain⟨its,r,⟨o,e,_,n,d⟩,_⟩:=I.tuple h;obtain⟨its',cG,⟨d3,a7,_,hq,d'⟩,_⟩:=I.tuple h';rw[e]at a7;cases a7;rw[d]at d';injection d' with cQ _
 have:its=its':=by simpa using Ye Array.toList cQ
 subst this;exact r.inj cG
end
abbrev a1.wish(X:a1)(E:SL->SZ->Prop):a1:={X with xe:=E}
abbrev a1.nox(X:a1):a1:=X.wish λ_ _=>False
theorem a1.Ok.wish{X:a1}(ok:X.Ok)(E:SL->SZ->Prop):(X.wish E).Ok:=
 ⟨ok.mod,ok.kind,ok.glob,ok.blt,ok.above,ok.inj,ok.has,ok.cab,ok.hd,ok.frames,ok.stk,ok.exf,ok.bs,ok.bsz,ok.noex,ok.exfs,ok.funs,ok.frf,ok.tab⟩
theorem a1.Ok.unwish{X:a1}{E:SL->SZ->Prop}(ok:(X.wish E).Ok):X.Ok:=
 ⟨ok.mod,ok.kind,ok.glob,ok.blt,ok.above,ok.inj,ok.has,ok.cab,ok.hd,ok.frames,ok.stk,ok.exf,ok.bs,ok.bsz,ok.noex,ok.exfs,ok.funs,ok.frf,ok.tab⟩
section
variable{X:a1}{af:agd}{σ:St}{H:al}{s:SZ}{E:SL->SZ->Prop}
theorem Inv.wish(I:Inv X af σ H s)(E:SL->SZ->Prop):Inv (X.wish E) af σ H s:=⟨I.ok.wish E,I.os,I.bare,I.base,I.loc,I.cell,I.free,I.freeC,I.pin,I.hok,I.len⟩
theorem Inv.unwish(I:Inv (X.wish E) af σ H s):Inv X af σ H s:=⟨I.ok.unwish,I.os,I.bare,I.base,I.loc,I.cell,I.free,I.freeC,I.pin,I.hok,I.len⟩
theorem pz.unwish{D:k1}{f:Flow}{s':SZ}(h:pz (X.wish E) af D f s'):pz X af D f s':=by
 cases f with
 |next=>obtain⟨a4,aj,I,q⟩:=h;exact⟨a4,aj,I.unwish,q⟩
 |brk=>obtain⟨a4,aj,I,q⟩:=h;exact⟨a4,aj,I.unwish,q⟩
 |cont=>obtain⟨a4,aj,I,q⟩:=h;exact⟨a4,aj,I.unwish,q⟩
 |ret u=>obtain⟨v,a4,aj,I,r,q⟩:=h;exact⟨v,a4,aj,I.unwish,r,q⟩
theorem hp.nox{st:agc}{t:fp}(h:hp X.nox st t):hp X st t:=λaf s σ H D I hw=>
 YI (h af s σ H D (I.wish _) hw) (λ_ _ q=>q.unwish) λ_ _ z=>TZ z
end
section
variable{X:a1}{st:Ym}{rest:agc}{t u:fp}{e:WP}{b6:bA}{pos:Pos}
def H0:fp:=λD σ H=>D.nx σ H
def H1(t u:fp):fp:=λD σ H=>t {D with nx:=u D} σ H
theorem mS:hp X [] H0:=λ_ _ σ H _ I h=>Y4 ⟨σ,H,I,h⟩
theorem iM(aa:ho X st t)(ab:hp X rest u):hp X (st::rest) (H1 t u):=by
 intro af s σ H D I h;refine wpAny_execs_cons (bQ (aa af s σ H {D with nx:=u D} I h) λf s1 q=>?_);cases f with
 |next=>
  obtain⟨a4,aj,kl,q⟩:=q;exact ab af s1 a4 aj D kl q
 |ret v=>exact q
 |brk=>exact q
 |cont=>exact q
theorem km(aa:ho X st t):hp X [st] t:=by
 intro af s σ H D I h;refine wpAny_execs_cons (bQ (aa af s σ H D I h) λf s1 q=>?_);cases f with
 |next=>exact Y4 q
 |ret v=>exact q
 |brk=>exact q
 |cont=>exact q
theorem Inv.quiet{af:agd}{σ:St}{H:al}{s:SZ}(I:Inv X af σ H s):interactive X.env=false:=by simp[interactive,I.ok.kind]
def H2(b6:bA):fp:=λD σ H=>b6 σ H λ_ ar=>D.nx σ ar
theorem rR(aF:bE X e b6)(av:Yu e none pos.line X.env=pure false:=by rfl):ho X (.Expr e pos) (H2 b6):=by
 intro af s σ H D I h;exact wpAny_Expr_any (bQ (aF af s σ H _ I h) λv s1 ⟨x,ar,a6,ai,aB⟩=>⟨σ,ar,a6,aB⟩) I.quiet av
def H3(b6:bA):fp:=λD σ H=>b6 σ H D.rt
theorem jz(aF:bE X e b6):ho X (.Return (some e) pos) (H3 b6):=by
 intro af s σ H D I h;exact wpAny_Return_some (bQ (aF af s σ H _ I h) λv s1 ⟨x,ar,a6,ai,aB⟩=>⟨x,σ,ar,a6,ai,aB⟩)
def H4(c:dq)(t u:fp):fp:=λD σ H=>c σ H λb ar=>if b=true then t D σ ar else u D σ ar
theorem mT{c:WP}{a b:agc}{tc:dq}(hc:hm X c tc)(aq:hp X a t)(ae:hp X b u):ho X (.If c a b pos) (H4 tc t u):=by
 intro af s σ H D I h;refine wpAny_If (bQ (hc af s σ H _ I h) λd s1 ⟨ar,a6,aB⟩=>?_);cases d with
 |true=>exact aq af s1 σ ar D a6 aB
 |false=>exact ae af s1 σ ar D a6 aB
def zL:fp:=λ_ _ _=>False
theorem H5:ho X st zL:=λ_ _ _ _ _ _ h=>h.elim
end
abbrev e7:=V->St->al->(St->al->Prop)->Prop
abbrev l3:=Z4->St->al->(St->al->Prop)->Prop
def hJ(X:a1)(target:WP)(t:e7):Prop:=
 ∀(af:agd)(s:SZ)(σ:St)(H:al)(v:V)(u:SL)(Q:St->al->Prop),Inv X af σ H s->RelV v u->t v σ H Q->
  wpAny (Wp X.prog X.w) X.A (ZP target X.env u) (λ_ s'=>∃a4 aj,Inv X af a4 aj s'/\Q a4 aj) X.xe s
def pB(X:a1)(ts:agb)(t:l3):Prop:=
 ∀(af:agd)(s:SZ)(σ:St)(H:al)(vs:Z4)(aO:af')(Q:St->al->Prop),Inv X af σ H s->bP vs aO->t vs σ H Q->
  wpAny (Wp X.prog X.w) X.A (YW ((YA ts X.env).map (·.2)) aO) (λ_ s'=>∃a4 aj,Inv X af a4 aj s'/\Q a4 aj) X.xe s
abbrev vG:=V->V->V->al->(al->Prop)->Prop
def zM(X:a1)(t:vG):Prop:=
 ∀(af:agd)(s:SZ)(σ:St)(H:al)(o i v:V)(kn ig u:SL)(Q:al->Prop),Inv X af σ H s->RelV o kn->RelV i ig->RelV v u->t o i v H Q->
  wpAny (Wp X.prog X.w) X.A (setItem kn ig u) (λ_ s'=>∃aj,Inv X af σ aj s'/\Q aj) X.xe s
section
variable{X:a1}{pos:Pos}
def ob(i:Nat):e7:=λv σ H Q=>Q (σ.set i (some v)) H
theorem zN{i:Nat}{x:Str}(bU:X.N.Nodup)(ao:X.N[i]?=some x)(hx:Loc X.env.scope x)(hf:i' X x:=by walk_at"f"):hJ X (.Name x pos) (ob i):=by
 intro af s σ H v u Q I r h;exact wpAny_assign_Name (l0 I bU ao hx r (λs' kl=>⟨_,H,kl,h⟩) hf)
def H6:l3:=λvs σ H Q=>vs=[]/\Q σ H
def H7(t:e7)(u:l3):l3:=λvs σ H Q=>∃v r,vs=v::r/\t v σ H λa4 aj=>u r a4 aj Q
theorem H8:pB X [] H6:=by
 intro af s σ H vs aO Q I r h;obtain⟨e,h⟩:=h;subst e;cases r;exact Ze ⟨σ,H,I,h⟩
theorem H9{e:WP}{aD:agb}{t:e7}{u:l3}(aa:hJ X e t)(ab:pB X aD u)(av:(YA (e::aD) X.env).map (·.2)=ZP e X.env::(YA aD X.env).map (·.2):=by rfl):pB X (e::aD) (H7 t u):=by
 intro af s σ H vs aO Q I r h;obtain⟨v,vH,ah,h⟩:=h;subst ah;cases r with
 |cons r iN=>
  rw[av];refine Yv (bQ (aa af s σ H _ _ _ I r h) λ_ s1 ⟨fB,ar,a6,aB⟩=>?_);exact ab af s1 fB ar _ _ Q a6 iN aB
def H'(K:Sx)(n:Nat)(t:l3):e7:=λv σ H Q=>∃a xs,v=.ref a/\dA K H a xs/\xs.length=n/\t xs σ H Q
theorem Ia{aD:agb}{k:Nat}{t:l3}{n:Nat}(hc:X.calm=true)(h:pB X aD t)(aG:(YA aD X.env).length=n:=by rfl)(hK:(YA aD X.env).findIdx? (·.1)=none:=by rfl):hJ X (.Tuple aD k pos) (H' X.K n t):=by
 intro af s σ H v u Q I r hw;obtain⟨a,xs,ah,aA,ax,hw⟩:=hw;subst ah;cases r;obtain⟨its,bX,bw,hz⟩:=I.tuple aA;refine assign_Tuple_tuple (I.ok.hd hc) bw (by simp[aG,<-ax,bX.length]) hK λh' hx=>?_;have a6:Inv X af σ H {s with heap:=h' }:=I.kept (t':=s.toks) λb o e=>hx b o (SV (Heap.lt_size e)) e;exact h af _ σ H xs _ Q a6 (by simpa using bX) hw
def Ib(iO jA:bA)(t:vG):e7:=λv σ H Q=>iO σ H λo ar=>jA σ ar λi a0=>t o i v a0 λcg=>Q σ cg
theorem zO{o i:WP}{iO jA:bA}{t:vG}(aM:bE X o iO)(ao:bE X i jA)(av:zM X t)(aq:∀v,ZP (.Subscript o i pos) X.env v=(do
   let kn <-Y3 [v] (YU o X.env)
   let ig <-Y3 [v,kn] (YU i X.env)
   ZM pos
   Y3 [v,kn,ig] (setItem kn ig v)
   release [v,kn,ig] []):=by intro _;rfl):hJ X (.Subscript o i pos) (Ib iO jA t):=by
 intro af s σ H v u Q I r h;rw[aq];refine SB (Yb (bQ (aM af s σ H _ I h) λkn s1 ⟨x,ar,a6,ai,aB⟩=>?_));refine SB (Yb (bQ (ao af s1 σ ar _ a6 aB) λig aI ⟨y,a0,dt,aw,aL⟩=>?_));refine SB (YX (SB (Yb (bQ (av af aI σ a0 x y v kn ig u _ dt ai aw r aL) λ_ bI ⟨cg,cu,cv⟩=>?_))));exact wpAny_release ⟨σ,cg,cu,cv⟩
def pC(b6:bA)(g:e7):fp:=λD σ H=>b6 σ H λx ar=>g x σ ar D.nx
theorem vI{bd e:WP}{b6:bA}{g:e7}(aF:bE X e b6)(aJ:hJ X bd g)(av:YO [bd] e pos.line X.env=pure false:=by rfl)(hw:YQ [bd] e X.env=pure none:=by rfl)(aa:(YA [bd] X.env).map (·.2)=[ZP bd X.env]:=by rfl):ho X (.Assign [bd] e pos) (pC b6 g):=by
 intro af s σ H D I h;refine wpAny_Assign_stores (bQ (aF af s σ H _ I h) λv s1 ⟨x,ar,a6,ai,aB⟩=>?_) av hw;rw[aa];exact bQ (aJ af s1 σ ar x v _ a6 ai aB) λ_ aI q=>q
theorem pD{i:Nat}{x:Str}{e:WP}{b6:bA}{fR:Pos}(bU:X.N.Nodup)(ao:X.N[i]?=some x)(hx:Loc X.env.scope x)(aF:bE X e b6)(av:Yu e (some (.Name x fR)) pos.line X.env=pure false:=by rfl)(hf:i' X x:=by walk_at"f"):
  ho X (.Assign [.Name x fR] e pos) (pC b6 (ob i)):=by
 intro af s σ H D I h;refine wpAny_Assign_Name (bQ (aF af s σ H _ I h) λv s1 ⟨y,ar,a6,ai,aB⟩=>?_) av;exact l0 a6 bU ao hx ai (λaI dt=>⟨_,ar,dt,aB⟩) hf
def Ic(i j:Nat)(bq:dX):fp:=λD σ H=>bq σ H λvs ar=>∃v w,vs=[v,w]/\D.nx ((σ.set i (some v)).set j (some w)) ar
theorem Ie{i j:Nat}{x y:Str}{a b:WP}{bq:dX}{c3 d7 pt:Pos}{gz k2 hL}(hc:X.calm=true)(bU:X.N.Nodup)(ao:X.N[i]?=some x)(aQ:X.N[j]?=some y)(oe:i≠j)(hx:X.env.scope.names.lookup x=some .local)(hy:X.env.scope.names.lookup y=some .local)(aq:f4 X [a,b] bq)(hw:YQ [.Tuple [.Name x c3,.Name y d7] gz pt] (.Tuple [a,b] k2 hL) X.env=pure (some [x,y]))(av:YO [.Tuple [.Name x c3,.Name y d7] gz pt] (.Tuple [a,b] k2 hL) pos.line X.env=pure false:=by rfl):
  ho X (.Assign [.Tuple [.Name x c3,.Name y d7] gz pt] (.Tuple [a,b] k2 hL) pos) (Ic i j bq):=by
 intro af s σ H D I h;rw[exec_Assign_arm];refine SB (YX ?_);rw[av];refine SB (TD ?_);rw[TW (by decide)];refine SB (Tuple_ (bQ (aq _ af s σ H _ I h) λaO s1 ⟨vs,ar,a6,ai,aB⟩=>?_));obtain⟨v,w,ah,aB⟩:=aB;subst ah
 obtain⟨u1,u2,rfl,bX,jB⟩:∃u1 u2,aO=[u1,u2]/\RelV v u1/\RelV w u2:=by
  cases ai with
  |cons p q=>
   cases q with
   |cons l4 fP=>
    cases fP;exact⟨_,_,rfl,p,l4⟩
 refine Yt ?_ hH;have dt:Inv X af σ ar {s1 with heap:=s1.heap.push {cls:=.type "tuple",data:=.seq [u1,u2].toArray} }:=a6.kept (t':=s1.toks) λb o e=>Heap.get?_push_of_some _ e;rw[hw];refine SB (TD ?_);show wpAny (Wp X.prog X.w) X.A (do rule "assign.swapped-stores";let items <-unpackItems (.ref s1.heap.objs.size) 2 none;YW [λv=>YY X.env y v,λv=>YY X.env x v] items.reverse;pure Flow.next) _ _ _;refine SB (wpAny_rule (SB (unpackItems_tuple (items :=#[u1,u2]) (I.ok.hd hc) (IsTup.new s1.heap _) λh' l5=>?_)));have cu:=dt.kept (h':=h') (t':=s1.toks) λb o e=>l5 b o (SV (Heap.lt_size e)) e;show wpAny _ _ (YW [λv=>YY X.env y v,λv=>YY X.env x v] [u2,u1] >>= λ_=>pure Flow.next) _ _ _
 refine SB (Yv (YT (l0 cu bU aQ (.inl hy) jB (λaI gA=>?_) (.inr hy))));refine Yv (YT (l0 gA bU ao (.inl hx) bX (λbI jC=>Ze (TD ?_)) (.inr hx)));rw[List.set_comm _ _ (S2 oe)]at jC;exact⟨_,ar,jC,aB⟩
end
section
variable{X:a1}{pos:Pos}
def Ig(c:dq)(tb:fp):fp:=λD σ H=>∃W:Nat->St->al->Prop,(∃m,W m σ H)/\∀m σ H,W m σ H->
 c σ H λb ar=>if b=true then ∃N:St->al->Prop,(∀a4 aj,N a4 aj->∃cU,cU<m/\W cU a4 aj)/\tb {D with nx:=N,ct:=N,bk:=D.nx} σ ar else D.nx σ ar
theorem Ih{c:WP}{body:agc}{tc:dq}{tb:fp}(ak:Y5 (Wp X.prog X.w) X.A X.env X.xe)(hc:hm X c tc)(ae:hp X body tb):ho X (.While c body [] pos) (Ig tc tb):=by
 intro af s σ H D I h;obtain⟨W,⟨dY,d8⟩,turn⟩:=h;refine wpAny_While (codeAny_whileLoop (λn s'=>∃a4 aj,Inv X af a4 aj s'/\W n a4 aj) ?_ dY ⟨σ,H,I,d8⟩);rintro n s1 ⟨fB,ar,a6,c9⟩;refine Yy ak (bQ (hc af s1 fB ar _ a6 (turn n fB ar c9)) λb aI ⟨a0,dt,aL⟩=>?_);cases b with
 |true=>
  obtain⟨N,bU,aL⟩:=aL;rw[TT rfl];refine Yy ak (bQ (ae af aI fB a0 _ dt aL) λf bI cv=>?_);cases f with
  |next=>
   obtain⟨fq,cg,cu,ep⟩:=cv;obtain⟨cU,az,hM⟩:=bU fq cg ep;exact⟨cU,az,fq,cg,cu,hM⟩
  |cont=>
   obtain⟨fq,cg,cu,ep⟩:=cv;obtain⟨cU,az,hM⟩:=bU fq cg ep;exact⟨cU,az,fq,cg,cu,hM⟩
  |brk=>exact cv
  |ret v=>exact cv
 |false=>
  rw[TW SN];exact Y4 ⟨fB,a0,dt,aL⟩
end
structure f5 where
 go:Nat->al->Prop
 yld:Nat->al->V->al->Prop
 stop:Nat->al->Prop
def hr(X:a1)(af:agd)(H:al)(b:TE):Prop:=
 H b=none/\b≠X.env.locals/\b∉X.fs/\(b∈X.ex\/X.s₀.heap.objs.size<=b)/\(∀x c,X.env.cells.lookup x=some c->c≠b)/\∀p∈X.pn++af,p.1≠b
theorem Inv.fpOk{X:a1}{af:agd}{σ:St}{H aj:al}{s:SZ}{b:TE}(I:Inv X af σ H s)(ae:s.heap.objs.size<=b)(aG:aj b=none):hr X af aj b:=by
 refine⟨aG,TP (S9 I.lt ae),I.nofs ae,.inr (SE I.sz ae),λx c e z=>?_,λp ak z=>?_⟩
 ·obtain⟨v,q⟩:=I.cell x c e;exact absurd (S9 q.lt (by rw[z];exact ae)) (Tc _)
 exact absurd (S9 (Heap.lt_size (I.pin p ak).1) (by rw[z];exact ae)) (Tc _)
structure l6(P:UF)(w:Yd)(K:Sx)(bd:WP)(J:f5)(ci:aga)(it:TE)(fC:Nat->Yn->Prop):Prop where
 mem:it∈ci
 obj:∀i h,fC i h->∀b∈ci,∃o,h.get? b=some o/\∀v,o.data≠.cell v
 keep:∀i h h',fC i h->(∀b∈ci,∀o,h.get? b=some o->h'.get? b=some o)->fC i h'
 item:∀(X:a1),X.prog=P->X.w=w->X.K=K->X.calm=true->∀(i:Nat)(af:agd)(s:SZ)(σ:St)(H:al)(E:SL->SZ->Prop),Inv X af σ H s->(∀b∈ci,hr X af H b)->fC i s.heap->J.go i H->
  wpAny (Wp P w) X.A (YV (.ref it)) (λr s1=>∃u,r=some u /\
   wpAny (Wp P w) X.A (Y6 bd (.ref it) u) (λ_ aI=>∃x aj,Inv X af σ aj aI/\RelV x u/\J.yld i H x aj/\fC (i+1) aI.heap/\∀b∈ci,aj b=none) E s1) E s
 done:∀(X:a1),X.prog=P->X.w=w->X.K=K->X.calm=true->∀(i:Nat)(af:agd)(s:SZ)(σ:St)(H:al)(E:SL->SZ->Prop),Inv X af σ H s->(∀b∈ci,hr X af H b)->fC i s.heap->J.stop i H->
  wpAny (Wp P w) X.A (YV (.ref it)) (λr s1=>r=none/\Inv X af σ H s1) E s
 self:∀(A:Yj)(i:Nat)(s:SZ)(Q:SL->SZ->Prop)(E:SL->SZ->Prop),fC i s.heap->Q (.ref it) s->wpAny (Wp P w) A (pyIter (.ref it)) Q E s
abbrev bL:=St->al->(f5->al->Prop)->Prop
def zP(X:a1)(af:agd)(σ:St)(bd:WP)(R:f5->al->Prop)(vJ:SL)(aI:SZ):Prop:=
 ∃(it:TE)(ci:aga)(fC:Nat->Yn->Prop)(J:f5)(aj:al),vJ=.ref it/\Inv X af σ aj aI/\l6 X.prog X.w X.K bd J ci it fC/\fC 0 aI.heap/\(∀b∈ci,hr X af aj b)/\R J aj
def hN(X:a1)(bd iter:WP)(dF:bL):Prop:=
 ∀(af:agd)(s:SZ)(σ:St)(H:al)(R:f5->al->Prop),Inv X af σ H s->dF σ H R->
  wpAny (Wp X.prog X.w) X.A (YU iter X.env) (λv s1=>wpAny (Wp X.prog X.w) X.A (pyIter v) (zP X af σ bd R) X.xe s1) X.xe s
theorem rS{M:Model}{A:Yj}{E:SL->SZ->Prop}{s:SZ}{bd:WP}{it:TE}{u:SL}{o:Obj}{n:String}{vs:Array SL}{Q:Unit->SZ->Prop}(aM:s.heap.get? it=some o)(hc:o.cls=.type n)(hd:o.data=.fields vs)(aG:["enumerate","zip","dict_itemiterator","dict_reverseitemiterator","odict_iterator","itertools.zip_longest","itertools.pairwise"].contains n=false)(eD:Q () s): wpAny M A (Y6 bd (.ref it) u) Q E s:=by
  unfold Y6
  cases bd<;>first
    |exact TD eD
    | (cases u<;>first
        |exact TD eD
        | (refine SB (wpAny_load aM ?_)
           rw[hc,hd];show wpAny M A (if(["enumerate","zip","dict_itemiterator","dict_reverseitemiterator","odict_iterator","itertools.zip_longest","itertools.pairwise"].contains n&&vs[0]?==some (ZQ _))=true then _ else _) Q E s
           rw[TW (by intro h;rw[aG,TJ]at h;cases h)]
           exact TD eD))
def vK(K:Sx)(a:TE):f5:=
 ⟨λi H=>∃xs x,b0 K H a xs/\xs[i]?=some x,λi H x aj=>aj=H/\∀xs,b0 K H a xs->xs[i]?=some x,λi H=>∃xs,b0 K H a xs/\xs.length<=i⟩
def vL(K:Sx)(a:TE):f5:=
 ⟨λi H=>∃xs x,dA K H a xs/\xs[i]?=some x,λi H x aj=>aj=H/\∀xs,dA K H a xs->xs[i]?=some x,λi H=>∃xs,dA K H a xs/\xs.length<=i⟩
def og(lo:Int)(n:Nat):f5:=⟨λi _=>i<n,λi H x aj=>aj=H/\x=.int (lo+i),λi _=>n<=i⟩
theorem Ii{P:UF}{w:Yd}{K:Sx}{bd:WP}(a it:TE):l6 P w K bd (vK K a) [it] it (λi h=>h.IsListIter it a i) where
 mem:=by simp
 obj:=λi h st b ae=>by
  have e:b=it:=by simpa using ae
  subst e;obtain⟨o,e,c,d⟩:=st;exact⟨o,e,λv z=>by rw[d]at z;cases z⟩
 keep:=λi h h' st k=>st.at λo e=>k it (by simp) o e
 item:=by
  intro X hP hw dZ hc i af s σ H E I hf st aJ;subst hP hw dZ;obtain⟨xs,x,aA,hx⟩:=aJ;obtain⟨its,bX,p,hz⟩:=I.list aA;obtain⟨u,hu,fS⟩:=bX.get hx;obtain⟨eX,bv,bJ,bY,cR,dh⟩:=hf it (by simp);refine Zm st p.isList (x:=u) (by simpa using hu) λh' fT d0=>?_;have a6:Inv X af σ H {s with heap:=h' }:=I.turned (t':=s.toks) (λb o ae e=>(d0.2 b ae).trans e) eX bv bY cR dh;obtain⟨o,e,c,d⟩:=id fT;exact⟨u,rfl,rS (s:={s with heap:=h' }) e c d (by decide) ⟨x,H,a6,fS,⟨rfl,λys hy=>by rw[I.list_inj hy aA];exact hx⟩,fT,λb ae=>(hf b ae).1⟩⟩
 done:=by
  intro X hP hw dZ hc i af s σ H E I hf st aJ;subst hP hw dZ;obtain⟨xs,aA,hx⟩:=aJ;obtain⟨its,bX,p,hz⟩:=I.list aA;obtain⟨eX,bv,bJ,bY,cR,dh⟩:=hf it (by simp);have ax:=bX.length;exact Zr (I.ok.hd hc) st p.isList (by simp;lia) λh' eY=>⟨rfl,I.turned (t':=s.toks) (λb o ae e=>eY b o ae e) eX bv bY cR dh⟩
 self:=λ_ _ _ _ _ st h=>wpAny_pyIter_listiter st h
theorem Ij{P:UF}{w:Yd}{K:Sx}{bd:WP}(a it:TE):l6 P w K bd (vL K a) [it] it (λi h=>h.IsTupleIter it a i) where
 mem:=by simp
 obj:=λi h st b ae=>by
  have e:b=it:=by simpa using ae
  subst e;obtain⟨o,e,c,d⟩:=st;exact⟨o,e,λv z=>by rw[d]at z;cases z⟩
 keep:=λi h h' st k=>st.at λo e=>k it (by simp) o e
 item:=by
  intro X hP hw dZ hc i af s σ H E I hf st aJ;subst hP hw dZ;obtain⟨xs,x,aA,hx⟩:=aJ;obtain⟨its,bX,p,hz⟩:=I.tuple aA;obtain⟨u,hu,fS⟩:=bX.get hx;obtain⟨eX,bv,bJ,bY,cR,dh⟩:=hf it (by simp);refine wpAny_pyNext_tuple_item st (show s.heap.IsTuple a its.toArray from p) (x:=u) (by simpa using hu) λh' fT d0=>?_;have a6:Inv X af σ H {s with heap:=h' }:=I.turned (t':=s.toks) (λb o ae e=>(d0.2 b ae).trans e) eX bv bY cR dh;obtain⟨o,e,c,d⟩:=id fT;exact⟨u,rfl,rS (s:={s with heap:=h' }) e c d (by decide) ⟨x,H,a6,fS,⟨rfl,λys hy=>by rw[I.tuple_inj hy aA];exact hx⟩,fT,λb ae=>(hf b ae).1⟩⟩
 done:=by
  intro X hP hw dZ hc i af s σ H E I hf st aJ;subst hP hw dZ;obtain⟨xs,aA,hx⟩:=aJ;obtain⟨its,bX,p,hz⟩:=I.tuple aA;obtain⟨eX,bv,bJ,bY,cR,dh⟩:=hf it (by simp);have ax:=bX.length;exact wpAny_pyNext_tuple_end (I.ok.hd hc) st (show s.heap.IsTuple a its.toArray from p) (by simp;lia) λh' eY=>⟨rfl,I.turned (t':=s.toks) (λb o ae e=>eY b o ae e) eX bv bY cR dh⟩
 self:=λ_ _ _ _ _ st h=>wpAny_pyIter_tupleiter st h
theorem Ik{P:UF}{w:Yd}{K:Sx}{bd:WP}(it:TE)(lo:Int)(n:Nat):l6 P w K bd (og lo n) [it] it (λi h=>IsRangeIter h it (lo+(i:Nat)*1) ((n:Int)-(i:Nat)) 1) where
 mem:=by simp
 obj:=λi h st b ae=>by
  have e:b=it:=by simpa using ae
  subst e
  exact⟨_,st,λv z=>by
   have dN:Data.fields _=Data.cell v:=z
   cases dN⟩
 keep:=λi h h' st k=>k it (by simp) _ st
 item:=by
  intro X hP hw dZ hc i af s σ H E I hf st aJ;subst hP hw dZ;obtain⟨eX,bv,bJ,bY,cR,dh⟩:=hf it (by simp);have W:=Walks.range (prog:=X.prog) (w:=X.w) (I.ok.hd hc) it lo 1 n;refine W.item i s _ _ aJ st λv h' bm hv fT be=>?_;obtain⟨t,rfl⟩:=hv;have a6:Inv X af σ H {s with heap:=h',toks:=bm}:=I.turned (λb o ae e=>be b o (by simpa using ae) e) eX bv bY cR dh;refine⟨_,rfl,rS (s:={s with heap:=h',toks:=bm}) (n:="range_iterator") fT rfl rfl (by decide) ⟨.int (lo+i),H,a6,⟨t,?_⟩,⟨rfl,rfl⟩,fT,λb ae=>(hf b ae).1⟩⟩;rw[Int.mul_one]
 done:=by
  intro X hP hw dZ hc i af s σ H E I hf st aJ;subst hP hw dZ;obtain⟨eX,bv,bJ,bY,cR,dh⟩:=hf it (by simp);exact wpAny_pyNext_range_end (I.ok.hd hc) st (by have:n<=i:=aJ;lia) λh' eY=>⟨rfl,I.turned (t':=s.toks) (λb o ae e=>eY b o ae e) eX bv bY cR dh⟩
 self:=λ_ _ _ _ _ st h=>wpAny_pyIter_rangeiter st h
section
variable{X:a1}{bd:WP}
def Il(K:Sx)(dO:bA):bL:=λσ H R=>dO σ H λx ar=>∃a,x=.ref a/\(∃xs,b0 K ar a xs)/\R (vK K a) ar
def Im(K:Sx)(dO:bA):bL:=λσ H R=>dO σ H λx ar=>∃a,x=.ref a/\(∃xs,dA K ar a xs)/\R (vL K a) ar
theorem vM{l:WP}{dO:bA}(ax:bE X l dO):hN X bd l (Il X.K dO):=by
 intro af s σ H R I h;refine bQ (ax af s σ H _ I h) λv s1 ⟨x,ar,a6,ai,aB⟩=>?_;obtain⟨a,e,⟨xs,aA⟩,q⟩:=aB;subst e;cases ai;obtain⟨its,bX,p,hz⟩:=a6.list aA;refine Zf p.isList ?_;refine⟨s1.heap.objs.size,[s1.heap.objs.size],_,_,ar,rfl,a6.kept (t':=s1.toks) λb o e=>Heap.get?_push_of_some _ e,Ii a _,⟨_,Heap.get?_push_size _ rfl,rfl,rfl⟩,λb ae=>?_,q⟩;have e:b=s1.heap.objs.size:=by simpa using ae
 subst e;exact a6.fpOk (SG _) (a6.hok.fresh (SG _))
theorem Io{l:WP}{dO:bA}(ax:bE X l dO):hN X bd l (Im X.K dO):=by
 intro af s σ H R I h;refine bQ (ax af s σ H _ I h) λv s1 ⟨x,ar,a6,ai,aB⟩=>?_;obtain⟨a,e,⟨xs,aA⟩,q⟩:=aB;subst e;cases ai;obtain⟨its,bX,p,hz⟩:=a6.tuple aA;refine Za (show s1.heap.IsTuple a its.toArray from p) ?_;refine⟨s1.heap.objs.size,[s1.heap.objs.size],_,_,ar,rfl,a6.kept (t':=s1.toks) λb o e=>Heap.get?_push_of_some _ e,Ij a _,⟨_,Heap.get?_push_size _ rfl,rfl,rfl⟩,λb ae=>?_,q⟩;have e:b=s1.heap.objs.size:=by simpa using ae
 subst e;exact a6.fpOk (SG _) (a6.hok.fresh (SG _))
theorem zQ{af:agd}{σ:St}{H:al}{s:SZ}{R:f5->al->Prop}{E:SL->SZ->Prop}{lo ao:Int}{t u v:Tok}{bm:Nat}(I:Inv X af σ H s)(aa : -(2^62)<=lo)(ab:lo<2^62)(a' : -(2^62)<=ao)(bG:ao<2^62)(q:R (og lo (ao-lo).toNat) H):wpAny (Wp X.prog X.w) X.A (pyIter (.ref s.heap.objs.size)) (zP X af σ bd R) E {s with heap:=s.heap.push {cls:=.type "range",data:=.fields #[.int lo t,.int ao u,.int 1 v]},toks:=bm}:=by
 refine wpAny_pyIter_range (IsRange.new ..) (small_one aa ab a' bG) ?_;have a6:Inv X af σ H {s with heap:=s.heap.push {cls:=.type "range",data:=.fields #[.int lo t,.int ao u,.int 1 v]},toks:=bm}:=I.kept λb o e=>Heap.get?_push_of_some _ e
 refine⟨(s.heap.push {cls:=.type "range",data:=.fields #[.int lo t,.int ao u,.int 1 v]}).objs.size,[(s.heap.push {cls:=.type "range",data:=.fields #[.int lo t,.int ao u,.int 1 v]}).objs.size],_,_,H,rfl,
  a6.kept (t':=bm) λb o e=>Heap.get?_push_of_some _ e,Ik _ lo (ao-lo).toNat,?_,λb ae=>?_,q⟩
 ·have ah:lo+((0:Nat):Int)*1=lo:=by simp
  have am:(((ao-lo).toNat:Nat):Int)-((0:Nat):Int)=Builtin.Range.rangeSize lo ao 1:=by rw[rangeSize_one];split<;>lia
  show IsRangeIter _ _ (lo+((0:Nat):Int)*1) ((((ao-lo).toNat:Nat):Int)-((0:Nat):Int)) 1
  rw[ah,am];exact Heap.get?_push_size _ rfl
 have e:b=(s.heap.push {cls:=.type "range",data:=.fields #[.int lo t,.int ao u,.int 1 v]}).objs.size:=by simpa using ae
 subst e;exact a6.fpOk (SG _) (a6.hok.fresh (SG _))
def Ip(bq:dX):bL:=λσ H R=>bq σ H λvs ar=>∃j:Int,vs=[.int j] /\ -(2^62)<=j/\j<2^62/\R (og 0 j.toNat) ar
def Iq(bq:dX):bL:=λσ H R=>bq σ H λvs ar=>∃i j:Int,vs=[.int i,.int j]/\(-(2^62)<=i/\i<2^62 /\ -(2^62)<=j/\j<2^62)/\R (og i (j-i).toNat) ar
theorem Ir{a:WP}{bq:dX}{p pos:Pos}(aJ:c2 X "range")(az:X.mg "range"=none)(aq:f4 X [a] bq)(av:Uf [a] X.env=[(false,YU a X.env)]:=by rfl):hN X bd (.Call (.Name "range" p) [a] [] pos) (Ip bq):=by
 intro af s σ H R I h;refine Call_ (jy I aJ az boot_range (Uj (bQ (aq pos af s σ H _ I h) λaO s1 ⟨vs,ar,a6,ai,aB⟩=>?_) av rfl));obtain⟨j,e,aB,aL,q⟩:=aB;subst e;cases ai with
 |cons r iN=>
  cases iN;obtain⟨t,rfl⟩:=r;exact call_range_1 (zQ a6 (by lia) (by lia) aB aL (by simpa using q))
theorem Is{a b:WP}{bq:dX}{p pos:Pos}(aJ:c2 X "range")(az:X.mg "range"=none)(aq:f4 X [a,b] bq)(av:Uf [a,b] X.env=[(false,YU a X.env),(false,YU b X.env)]:=by rfl)(gp:Uf [b] X.env=[(false,YU b X.env)]:=by rfl):
  hN X bd (.Call (.Name "range" p) [a,b] [] pos) (Iq bq):=by
 intro af s σ H R I h;refine Call_ (jy I aJ az boot_range (Uj (bQ (aq pos af s σ H _ I h) λaO s1 ⟨vs,ar,a6,ai,aB⟩=>?_) (by rw[av,gp]) (by rw[gp];rfl)));obtain⟨i,j,e,⟨aB,aL,cv,fe⟩,q⟩:=aB;subst e;cases ai with
 |cons r iN=>
  cases iN with
  |cons cG iN=>
   cases iN;obtain⟨t,rfl⟩:=r;obtain⟨t',rfl⟩:=cG;exact call_range_2 (zQ a6 aB aL cv fe q)
def It(dF:bL)(g:e7)(tb:fp):fp:=λD σ H=>dF σ H λJ ar=>∃W:Nat->Nat->St->al->Prop,(∃m,W 0 m σ ar)/\∀i m σ H,W i m σ H->
 (J.stop i H/\D.nx σ H)\/(J.go i H/\∃N:St->al->Prop,(∀a4 aj,N a4 aj->∃cU,cU<m/\W (i+1) cU a4 aj)/\∀x aj,J.yld i H x aj->g x σ aj λko a0=>tb {D with nx:=N,ct:=N,bk:=D.nx} ko a0)
def pE(ci:aga)(h:Yn):List (TE×Obj):=ci.filterMap λb=>(h.get? b).map λo=>(b,o)
theorem rT{ci:aga}{h:Yn}{b:TE}{o:Obj}(ae:b∈ci)(e:h.get? b=some o):(b,o)∈pE ci h:=T4.mpr ⟨b,ae,by rw[e];rfl⟩
theorem Iu{ci:aga}{h:Yn}{p:TE×Obj}(ak:p∈pE ci h):p.1∈ci/\h.get? p.1=some p.2:=by
 obtain⟨b,ae,e⟩:=T4.mp ak;cases q:h.get? b with
 |none=>rw[q]at e;cases e
 |some o=>
  rw[q]at e;have a7:(b,o)=p:=SM e;subst a7;exact⟨ae,q⟩
theorem Inv.pinned{af:agd}{σ:St}{H:al}{s:SZ}{ci:aga}(I:Inv X af σ H s)(hf:∀b∈ci,hr X af H b)(aM:∀b∈ci,∃o,s.heap.get? b=some o/\∀v,o.data≠.cell v):Inv X (af++pE ci s.heap) σ H s:=
 I.pins_of λp ak=>(S3.mp ak).elim (λz=>I.pin p (Tx _ z)) λz=>by
  obtain⟨ae,e⟩:=Iu z;obtain⟨eX,bv,bJ,_⟩:=hf p.1 ae;obtain⟨o,a7,d⟩:=aM p.1 ae;rw[e]at a7;cases a7;exact⟨e,eX,bv,bJ,d⟩
theorem Inv.unpinned{af cI:agd}{σ:St}{H:al}{s:SZ}(I:Inv X (af++cI) σ H s):Inv X af σ H s:=I.pins_of λp ak=>I.pin p (Tx _ (U6 _ ak))
theorem pF{iter:WP}{body:agc}{dF:bL}{g:e7}{tb:fp}{pos:Pos}(ak:Y5 (Wp X.prog X.w) X.A X.env X.xe)(hc:X.calm=true)(ao:hN X bd iter dF)(aJ:hJ X bd g)(ae:hp X body tb)(av:∀x,WF iter X.env x=pure x:=by intro _;rfl):ho X (.For bd iter body [] pos) (It dF g tb):=by
 intro af s σ H D I h;refine wpAny_For (bQ (ao af s σ H _ I h) λv s1 aa=>bQ aa λvJ aI ab=>?_) av;obtain⟨it,ci,fC,J,a0,e,dt,T,k5,bJ,W,⟨dY,d8⟩,turn⟩:=ab;subst e;have k6:∀{aj:al},(∀b∈ci,aj b=none)->∀b∈ci,hr X af aj b:=λaG b ae=>⟨aG b ae,(bJ b ae).2⟩;refine codeAny_forLoop_any (λn s'=>∃i a4 aj,Inv X af a4 aj s'/\fC i s'.heap/\(∀b∈ci,aj b=none)/\W i n a4 aj) ?_ dY ⟨0,σ,a0,dt,k5,λb ae=>(bJ b ae).1,d8⟩;rintro n bI ⟨i,fq,cg,cu,rU,zR,hM⟩;rcases turn i n fq cg hM with⟨stop,zS⟩|⟨go,N,bU,step⟩
 ·refine Yy ak (bQ (T.done X rfl rfl rfl hc i af bI fq cg X.xe cu (k6 zR) rU stop) λr dG ⟨au,gA⟩=>?_);subst au;exact Y4 ⟨fq,cg,gA,zS⟩
 refine Yy ak (bQ (T.item X rfl rfl rfl hc i af bI fq cg X.xe cu (k6 zR) rU go) λr dG ⟨u,au,bG⟩=>?_);subst au;refine Yy ak (bQ bG λ_ ff ⟨x,er,jC,vN,Iv,oh,rV⟩=>?_);have Iw:=jC.pinned (k6 rV) (T.obj _ _ oh);refine Yy ak (bQ (aJ _ ff fq er x u _ Iw vN (step x er Iv)) λ_ s6 ⟨Ix,Iy,hs,rW⟩=>?_);refine Yy ak (bQ (ae _ s6 Ix Iy _ hs rW) λf k7 l7=>?_)
 have again:∀{jD:St}{ih:al},Inv X (af++pE ci ff.heap) jD ih k7->N jD ih->∃m,m<n/\∃i a4 aj,Inv X af a4 aj k7/\fC i k7.heap/\(∀b∈ci,aj b=none)/\W i m a4 aj:=λ{jD ih} ht pG=>by
  obtain⟨cU,az,Iz⟩:=bU jD ih pG;refine⟨cU,az,i+1,jD,ih,ht.unpinned,T.keep _ _ _ oh λb ae o e=>(ht.pin (b,o) (Tx _ (Tx _ (rT ae e)))).1,λb ae=>?_,Iz⟩;obtain⟨o,e,d⟩:=T.obj _ _ oh b ae;exact(ht.pin (b,o) (Tx _ (Tx _ (rT ae e)))).2.1
 cases f with
 |next=>obtain⟨jD,ih,ht,pG⟩:=l7;exact again ht pG
 |cont=>obtain⟨jD,ih,ht,pG⟩:=l7;exact again ht pG
 |brk=>obtain⟨jD,ih,ht,l7⟩:=l7;exact⟨jD,ih,ht.unpinned,l7⟩
 |ret v=>obtain⟨IA,jD,ih,ht,vO,l7⟩:=l7;exact⟨IA,jD,ih,ht.unpinned,vO,l7⟩
end
abbrev f6:=V->V->al->cf->Prop
def ef(X:a1)(f:SL->SL->Sem SL)(r:f6):Prop:=
 ∀(af:agd)(s:SZ)(σ:St)(H:al)(x y:V)(v u:SL)(Q:cf),Inv X af σ H s->RelV x v->RelV y u->r x y H Q->
  wpAny (Wp X.prog X.w) X.A (f v u) (fA X af σ Q) X.xe s
def vP(X:a1)(f:SL->Sem SL)(r:V->al->cf->Prop):Prop:=
 ∀(af:agd)(s:SZ)(σ:St)(H:al)(x:V)(v:SL)(Q:cf),Inv X af σ H s->RelV x v->r x H Q->
  wpAny (Wp X.prog X.w) X.A (f v) (fA X af σ Q) X.xe s
def iP(X:a1)(f:SL)(r:Z4->al->cf->Prop):Prop:=
 ∀(af:agd)(s:SZ)(σ:St)(H:al)(xs:Z4)(aO:af')(Q:cf),Inv X af σ H s->bP xs aO->r xs H Q->
  wpAny (Wp X.prog X.w) X.A (call f aO) (fA X af σ Q) X.xe s
def IB(X:a1)(r:V->al->(Bool->al->Prop)->Prop):Prop:=
 ∀(af:agd)(s:SZ)(σ:St)(H:al)(x:V)(v:SL)(Q:Bool->al->Prop),Inv X af σ H s->RelV x v->r x H Q->
  wpAny (Wp X.prog X.w) X.A (Z2 v) (rP X af σ Q) X.xe s
def kq(r:f6)(bq tb:bA):bA:=λσ H Q=>bq σ H λx ar=>tb σ ar λy a0=>r x y a0 Q
def vQ(r:V->al->cf->Prop)(bq:bA):bA:=λσ H Q=>bq σ H λx ar=>r x ar Q
def oi(C:Int->Int->Prop)(g:Int->Int->V):f6:=λx y H Q=>∃i j,x=.int i/\y=.int j/\C i j/\Q (g i j) H
def jd(g:Int->Int->V):f6:=λx y H Q=>∃i j,x=.int i/\y=.int j/\Q (g i j) H
def vR(g:Int->V):V->al->cf->Prop:=λx H Q=>∃i,x=.int i/\Q (g i) H
section
variable{X:a1}{a b c:WP}{bq tb tc:bA}{pos:Pos}
theorem vS(aq:bE X a bq)(ae:bE X b tb){af:agd}{s:SZ}{σ:St}{H:al}{R:V->V->al->Prop}(I:Inv X af σ H s)(h:bq σ H λx ar=>tb σ ar λy a0=>R x y a0){Q:SL->SZ->Prop}{f:SL->SL->Sem SL}(hf:∀v u aI x y a0,Inv X af σ a0 aI->RelV x v->RelV y u->R x y a0->wpAny (Wp X.prog X.w) X.A (f v u) Q X.xe aI):
  wpAny (Wp X.prog X.w) X.A (YU a X.env) (λv cw=>wpAny (Wp X.prog X.w) X.A (YU b X.env) (λu IC=>wpAny (Wp X.prog X.w) X.A (f v u) Q X.xe IC) X.xe cw) X.xe s:=by
 refine bQ (aq af s σ H _ I h) λv s1 ⟨x,ar,a6,ai,aB⟩=>?_;refine bQ (ae af s1 σ ar _ a6 aB) λu aI ⟨y,a0,dt,aw,aL⟩=>?_;exact hf v u aI x y a0 dt ai aw aL
theorem e8{op:Operator}{r:f6}(aM:ef X (Zb op) r)(aq:bE X a bq)(ae:bE X b tb):bE X (.BinOp a op b pos) (kq r bq tb):=by
 intro af s σ H Q I h;exact wpAny_BinOp (vS aq ae I h λv u aI x y a0 dt a8 b' q=>aM af aI σ a0 x y v u Q dt a8 b' q)
theorem ID{op:UnaryOp}{r:V->al->cf->Prop}(aM:vP X (unaryOp op) r)(aq:bE X a bq):bE X (.UnaryOp op a pos) (vQ r bq):=by
 intro af s σ H Q I h;exact UnaryOp_ (bQ (aq af s σ H _ I h) λv s1 ⟨x,ar,a6,ai,aB⟩=>aM af s1 σ ar x v Q a6 ai aB)
theorem rX{f:SL->SL->Sem SL}{C:Int->Int->Prop}{g:Int->Int->Int}(rule:∀(i j:Int)(t u:Tok)(s:SZ)(Q E:SL->SZ->Prop),C i j->Q (.int (g i j) s.toks) {s with toks:=s.toks+1}->wpAny (Wp X.prog X.w) X.A (f (.int i t) (.int j u)) Q E s):
  ef X f (oi C λi j=>.int (g i j)):=by
 intro af s σ H x y v u Q I a8 b' h;obtain⟨i,j,rfl,rfl,hc,q⟩:=h;obtain⟨t,rfl⟩:=a8;obtain⟨t',rfl⟩:=b';exact rule i j t t' s _ _ hc ⟨.int (g i j),H,I.tok _,⟨_,rfl⟩,q⟩
theorem zT{f:SL->SL->Sem SL}{g:Int->Int->Int}(rule:∀(i j:Int)(t u:Tok)(s:SZ)(Q E:SL->SZ->Prop),Q (.int (g i j) s.toks) {s with toks:=s.toks+1}->wpAny (Wp X.prog X.w) X.A (f (.int i t) (.int j u)) Q E s):
  ef X f (jd λi j=>.int (g i j)):=by
 intro af s σ H x y v u Q I a8 b' h;obtain⟨i,j,rfl,rfl,q⟩:=h;obtain⟨t,rfl⟩:=a8;obtain⟨t',rfl⟩:=b';exact rule i j t t' s _ _ ⟨.int (g i j),H,I.tok _,⟨_,rfl⟩,q⟩
theorem oj{f:SL->SL->Sem SL}{g:Int->Int->Bool}(rule:∀(i j:Int)(t u:Tok)(s:SZ)(Q E:SL->SZ->Prop),Q (.bool (g i j)) s->wpAny (Wp X.prog X.w) X.A (f (.int i t) (.int j u)) Q E s):
  ef X f (jd λi j=>.bl (g i j)):=by
 intro af s σ H x y v u Q I a8 b' h;obtain⟨i,j,rfl,rfl,q⟩:=h;obtain⟨t,rfl⟩:=a8;obtain⟨t',rfl⟩:=b';exact rule i j t t' s _ _ ⟨.bl (g i j),H,I,rfl,q⟩
def vT(i j:Int):Prop:=0<=j/\j<=1000000/\i.natAbs<2^64
theorem rY:ef X (Zb .Add) (jd λi j=>.int (i+j)):=zT λ_ _ _ _ _ _ _ q=>add_int q
theorem IE:ef X (Zb .Sub) (jd λi j=>.int (i-j)):=zT λ_ _ _ _ _ _ _ q=>sub_int q
theorem l8:ef X (Zb .Mod) (oi (λ_ j=>0<j) λi j=>.int (i%j)):=rX λi j _ _ _ _ _ hc q=>by
 have aa:(0:Int)<j:=hc;exact mod_int' (by lia) (by rw[Int.fmod_eq_emod_of_nonneg i (by lia)];exact q)
theorem zU:ef X (Zb .Pow) (oi vT λi j=>.int (i^j.toNat)):=rX λ_ _ _ _ _ _ _ hc q=>pow_int_small hc.1 hc.2.1 hc.2.2 q
theorem IF{f:SL->Sem SL}{g:Int->Int}(rule:∀(i:Int)(t:Tok)(s:SZ)(Q E:SL->SZ->Prop),Q (.int (g i) s.toks) {s with toks:=s.toks+1}->wpAny (Wp X.prog X.w) X.A (f (.int i t)) Q E s):
  vP X f (vR λi=>.int (g i)):=by
 intro af s σ H x v Q I a8 h;obtain⟨i,rfl,q⟩:=h;obtain⟨t,rfl⟩:=a8;exact rule i t s _ _ ⟨.int (g i),H,I.tok _,⟨_,rfl⟩,q⟩
theorem IG:vP X (unaryOp .USub) (vR λi=>.int (-i)):=IF λ_ _ _ _ _ q=>neg_int q
end
section
variable{X:a1}{a b c:WP}{bq tb tc:bA}{pos:Pos}
theorem IH{af:agd}{σ:St}{H:al}{s:SZ}{Q:cf}{k gB:Bool}(I:Inv X af σ H s)(q:Q (.bl k) H)(e:k=gB):fA X af σ Q (.bool gB) s:=by
 subst e;exact⟨.bl k,H,I,rfl,q⟩
theorem hA:ef X (Yq .Lt) (jd λi j=>.bl (decide (i<j))):=oj λ_ _ _ _ _ _ _ q=>lt_int q
theorem mU:ef X (Yq .LtE) (jd λi j=>.bl (decide (i<=j))):=oj λ_ _ _ _ _ _ _ q=>le_int q
theorem mV:ef X (Yq .Gt) (jd λi j=>.bl (decide (j<i))):=oj λ_ _ _ _ _ _ _ q=>gt_int q
theorem zV:ef X (Yq .GtE) (jd λi j=>.bl (decide (j<=i))):=oj λ_ _ _ _ _ _ _ q=>ge_int q
theorem II:ef X (Yq .NotIn) (λx y H Q=>∃i j,x=.str i/\y=.str j/\Q (.bl (!(!(Builtin.Str.occurrences j i 0 j.length 1).isEmpty))) H):=by
 intro af s σ H x y v u Q I a8 b' h;obtain⟨i,j,rfl,rfl,q⟩:=h;obtain⟨t,rfl⟩:=a8;obtain⟨t',rfl⟩:=b';exact notIn_str (IH I q rfl)
theorem ck(b:WP){op:ZZ}(h:op≠.In:=by decide)(ab:op≠.NotIn:=by decide):Yh op b=false:=by
 have ah:(op==CmpOp.In)=false:=by cases op<;>first|rfl|exact absurd rfl h
 have am:(op==CmpOp.NotIn)=false:=by cases op<;>first|rfl|exact absurd rfl ab
 cases b<;>simp[Yh,ah,am]
theorem pH{op:ZZ}{r:f6}(aM:ef X (Yq op) r)(aq:bE X a bq)(ae:bE X b tb)(az:Yh op b=false):bE X (.Compare a [op] [b] pos) (kq r bq tb):=by
 intro af s σ H Q I h;exact wpAny_Compare1 (vS aq ae I h λv u aI x y a0 dt a8 b' q=>aM af aI σ a0 x y v u Q dt a8 b' q) az
def zW(t:bA):dq:=λσ H Q=>t σ H λx aj=>∃k,x=.bl k/\Q k aj
theorem mW{op:ZZ}{r:f6}(aM:ef X (Yq op) r)(aq:bE X a bq)(ae:bE X b tb)(az:Yh op b=false):hm X (.Compare a [op] [b] pos) (zW (kq r bq tb)):=by
 intro af s σ H Q I h
 refine wpAny_isTrue_Compare1 (bQ (aq af s σ H _ I h) λv s1 ⟨x,ar,a6,ai,aB⟩=>bQ (ae af s1 σ ar _ a6 aB) λu aI ⟨y,a0,dt,aw,aL⟩=>
  bQ (aM af aI σ a0 x y v u _ dt ai aw aL) λc bI ⟨z,cg,cu,eg,k,e,cv⟩=>?_) az
 subst e;cases eg;exact XV ⟨cg,cu,cv⟩
def zX(r cG:f6)(bq tb tc:bA):bA:=λσ H Q=>bq σ H λx ar=>tb σ ar λy a0=>r x y a0 λz cg=>∃k,z=.bl k /\
 (if k=true then tc σ cg λeV fD=>cG y eV fD Q else Q (.bl false) cg)
theorem IJ{op hO:ZZ}{r cG:f6}(aM:ef X (Yq op) r)(hI:ef X (Yq hO) cG)(aq:bE X a bq)(ae:bE X b tb)(hc:bE X c tc)(az:ZV [op,hO] [b,c]=false:=by with_unfolding_all rfl):bE X (.Compare a [op,hO] [b,c] pos) (zX r cG bq tb tc):=by
 intro af s σ H Q I h
 refine Compare_chain (bQ (aq af s σ H _ I h) λv s1 ⟨x,ar,a6,ai,aB⟩=>chain_link (bQ (ae af s1 σ ar _ a6 aB) λu aI ⟨y,a0,dt,aw,aL⟩=>
  bQ (aM af aI σ a0 x y v u _ dt ai aw aL) λd bI ⟨z,cg,cu,eg,k,e,cv⟩=>?_)) az
 subst e;cases eg;refine XV ?_;cases k with
 |false=>exact ite_ff ⟨.bl false,cg,cu,rfl,cv⟩
 |true=>exact ite_tt (chain_last (bQ (hc af bI σ cg _ cu cv) λeV dG ⟨dN,fD,gA,mX,fe⟩=>hI af dG σ fD y dN u eV Q gA aw mX fe))
theorem IK{op hO:ZZ}{r cG:f6}(aM:ef X (Yq op) r)(hI:ef X (Yq hO) cG)(aq:bE X a bq)(ae:bE X b tb)(hc:bE X c tc)(az:ZV [op,hO] [b,c]=false:=by with_unfolding_all rfl):hm X (.Compare a [op,hO] [b,c] pos) (zW (zX r cG bq tb tc)):=by
 intro af s σ H Q I h
 refine isTrue_chain (bQ (aq af s σ H _ I h) λv s1 ⟨x,ar,a6,ai,aB⟩=>test_link (bQ (ae af s1 σ ar _ a6 aB) λu aI ⟨y,a0,dt,aw,aL⟩=>
  bQ (aM af aI σ a0 x y v u _ dt ai aw aL) λd bI ⟨z,cg,cu,eg,k,e,cv⟩=>?_)) az
 subst e;cases eg;refine XV ?_;cases k with
 |false=>
  obtain⟨gB,a7,fP⟩:=cv;cases a7;exact ite_ff ⟨cg,cu,fP⟩
 |true=>
  refine ite_tt (test_last (bQ (hc af bI σ cg _ cu cv) λeV dG ⟨dN,fD,gA,mX,fe⟩=>bQ (hI af dG σ fD y dN u eV _ gA aw mX fe) λd' ff ⟨aU,er,jC,vN,k2,am,kr⟩=>?_));subst am;cases vN;exact XV ⟨er,jC,kr⟩
def zY(K:Sx)(x:V)(H:al)(k:Bool):Prop:=
 match x with
 |.non=>k=false
 |.bl b=>k=b
 |.int i=>k=(i != 0)
 |.str y=>y.length<=TI/\k=((y.length:Int) != 0)
 |.byt y=>y.size<=TI/\k=((y.size:Int) != 0)
 |.ref p=>(∃xs,b0 K H p xs/\k = !xs.isEmpty)\/(∃xs,dA K H p xs/\k = !xs.isEmpty)\/∃kvs,H p=some (.dK kvs)/\k = !kvs.isEmpty
 |_=>False
theorem IL{κ:Type}{kvs:List (κ×V)}{vs:List (κ×SL)}(r:vB kvs vs):(!vs.isEmpty) = !kvs.isEmpty:=by
 cases r<;>rfl
theorem zZ{xs:Z4}{its:af'}(r:bP xs its):(!its.toArray.isEmpty) = !xs.isEmpty:=by
 cases r<;>simp
theorem mY:(TI:Nat)<2^63:=by rw[Zh];decide
theorem IM:IB X (λx H Q=>∃k,zY X.K x H k/\Q k H):=by
 intro af s σ H x v Q I a8 h;obtain⟨k,e,q⟩:=h;have ax:=mY;have av:TI=16777216:=Zh;cases x with
 |non=>
  cases a8;have a7:k=false:=e;subst a7;exact truthy_none ⟨H,I,q⟩
 |bl b=>
  cases a8;have a7:k=b:=e;subst a7;exact XV ⟨H,I,q⟩
 |int i=>
  obtain⟨t,rfl⟩:=a8;have a7:k=(i != 0):=e;subst a7;exact PySem.P.truthy_int ⟨H,I,q⟩
 |str y=>
  obtain⟨t,rfl⟩:=a8;obtain⟨hy,a7⟩:y.length<=TI/\k=((y.length:Int) != 0):=e;subst a7;exact PySem.P.truthy_str (by lia) ⟨H,I.tok _,q⟩
 |byt y=>
  obtain⟨t,rfl⟩:=a8;obtain⟨hy,a7⟩:y.size<=TI/\k=((y.size:Int) != 0):=e;subst a7;exact PySem.W.truthy_bytes (by lia) ⟨H,I.tok _,q⟩
 |ref p=>
  cases a8;have a7:(∃xs,b0 X.K H p xs/\k = !xs.isEmpty)\/(∃xs,dA X.K H p xs/\k = !xs.isEmpty)\/∃kvs,H p=some (.dK kvs)/\k = !kvs.isEmpty:=e;rcases a7 with⟨xs,hx,a7⟩|⟨xs,hx,a7⟩|⟨kvs,hx,a7⟩
  ·subst a7;obtain⟨its,r,cI,hz⟩:=I.list hx;have fE:=r.length;exact wpAny_truthy_list cI.isList (by simp only[SX];lia) ⟨H,I.tok _,by rw[zZ r];exact q⟩
  ·subst a7;obtain⟨its,r,cI,hz⟩:=I.tuple hx;have fE:=r.length;exact truthy_tuple cI (by simp only[SX];lia) ⟨H,I.tok _,by rw[zZ r];exact q⟩
  subst a7;obtain⟨hz,dH,vs,r,m⟩:kvs.length<=TI/\(p==ZL)=false/\∃vs,vB kvs vs/\s.heap.DictOf (vz X.prog X.w) p vs:=I.hok p _ hx;have fE:kvs.length=vs.length:=Paired.length r;exact wpAny_truthy_dict dH m (by lia) ⟨H,I.tok _,by rw[IL r];exact q⟩
 |_=>exact(show False from e).elim
theorem z0(aq:bE X a bq)(aF:∀hn,ZO a X.env hn=(do let v <-hn;ZM a.pos;Y3 [v] (Z2 v))):
  hm X a (λσ H Q=>bq σ H λx aj=>∃k,zY X.K x aj k/\Q k aj):=by
 intro af s σ H Q I h;exact isTrue_plain (bQ (aq af s σ H _ I h) λv s1 ⟨x,ar,a6,ai,aB⟩=>IM af s1 σ ar x v Q a6 ai aB) (aF _)
theorem IN:ef X (Zb .Add) (λx y H Q=>∃i j,x=.str i/\y=.str j/\i.length+j.length<=TI/\Q (.str (i++j)) H):=by
 intro af s σ H x y v u Q I a8 b' h;obtain⟨i,j,rfl,rfl,hz,q⟩:=h;obtain⟨t,rfl⟩:=a8;obtain⟨t',rfl⟩:=b';exact add_str (λt' bm=>⟨.str (i++j),H,I.tok _,⟨_,rfl⟩,q⟩) hz
theorem vals1{x:V}{aO:af'}(r:bP [x] aO):∃u,aO=[u]/\RelV x u:=by
 cases r with
 |cons ai aw=>cases aw;exact⟨_,rfl,ai⟩
theorem vals2{x y:V}{aO:af'}(r:bP [x,y] aO):∃u eV,aO=[u,eV]/\RelV x u/\RelV y eV:=by
 cases r with
 |cons ai aw=>
  cases aw with
  |cons eg mX=>cases mX;exact⟨_,_,rfl,ai,eg⟩
theorem IP:iP X (.builtin "abs") (λxs H Q=>∃i,xs=[.int i]/\Q (.int (if i<0 then -i else i)) H):=by
 intro af s σ H xs aO Q I r h;obtain⟨i,rfl,q⟩:=h;obtain⟨u,rfl,t,rfl⟩:=vals1 r;exact call_abs_int λu bm=>⟨.int (if i<0 then -i else i),H,I.tok _,⟨_,rfl⟩,q⟩
theorem IQ:iP X (.type "str") (λxs H Q=>∃i,xs=[.int i]/\i.natAbs.log2<1920/\Q (.str (toString i)) H):=by
 intro af s σ H xs aO Q I r h;obtain⟨i,rfl,hz,q⟩:=h;obtain⟨u,rfl,t,rfl⟩:=vals1 r;exact PySem.P.str_of_int hz ⟨.str _,H,I.tok _,⟨_,rfl⟩,q⟩
end
structure vU(h:Yn)(x e4 C:TE)(e5:Str->Option SL):Prop where
 obj:h.get? x=some (V5 C e4)
 ns:h.Ns1 e4 e5
 ne:e4≠x
theorem IR{h:Yn}{e4:TE}{e5:Str->Option SL}(n:h.Ns1 e4 e5):∃od,h.get? e4=some od/\∀name,V8 name od=some (e5 name):=by
 obtain⟨o,aD,bW,aM,hd,hk,_,az⟩:=n;refine⟨o,aM,λname=>?_⟩;have e:=az name;unfold nsFind findBy at e;rw[<-Array.find?_toList]at e;unfold V8;rw[hd];dsimp only;split
 ·rename_i y q
  rw[q]at e;exact Ye some e
 rename_i q
 rw[q]at e
 have a:aD.toList.any (·.refKey)=false:=by
  rw[List.any_eq_false];intro y hy;obtain⟨z,t,IS⟩:=hk y (Vq.mp hy);simp[DictEntry.refKey,IS]
 have rZ:¬aD.toList.any (·.refKey)=true:=by rw[a];exact SN
 rw[TW rZ];exact Ye some e
theorem vU.look{h:Yn}{x e4 C:TE}{e5:Str->Option SL}(I:vU h x e4 C e5):∃od,PySem.W.InstAt h x (V5 C e4) C (some od)/\∀name,V8 name od=some (e5 name):=
 let⟨od,aM,ax⟩:=IR I.ns
 ⟨od,⟨I.obj,rfl,rfl,aM⟩,ax⟩
section
variable{P:UF}{w:Yd}{H aj:al}{h h':Yn}{a C e4:TE}{fs Hv:List (Str×V)}
theorem IT(hok:eN P w H h)(e:H a=some (.ins C e4 fs)):∃e5,vU h a e4 C e5/\(∀f,vA (fs.lookup f) (e5 f))/\PySem.Within e5 (fs.map (·.1))/\fs.length<=1000/\H e4=some (.own a):=by
 obtain⟨d,z,ne,b9,e5,n,r,q⟩:=(show f2 P w H h a (.ins C e4 fs)from hok a _ e);exact⟨e5,⟨b9,n,ne⟩,r,q,z,d⟩
end
structure vV(K:Sx)(C:TE):Prop where
 pg:Xh K C Str.empty=true
 hd:PySem.W.hasDictIn K C=true
 po:PySem.W.plainOver K C=true
 sa:Xi K (.ref C) "__setattr__"=some (some (.builtin "object.__setattr__"))
theorem vV.get{K:Sx}{C:TE}(c:vV K C)(f:Str):Xh K C f=true:=c.pg
section
variable{X:a1}{af:agd}{σ:St}{H:al}{s:SZ}{A:Yj}{E Q:SL->SZ->Prop}{c:SL}{b:Bool}
inductive ii(K:Sx)(H:al):V->SL->Prop where
 |non:ii K H .non (.type "NoneType")
 |bl(x:Bool):ii K H (.bl x) (.type "bool")
 |int(i:Int):ii K H (.int i) (.type "int")
 |str(x:Str):ii K H (.str x) (.type "str")
 |flt(x:UInt64):ii K H (.flt x) (.type "float")
 |lst{a:TE}{xs:Z4}(e:H a=some (.lst xs)):ii K H (.ref a) (.type "list")
 |frz{a:TE}{o:Obj}{xs:Z4}(e:H a=some (.frz o (.lst xs))):ii K H (.ref a) (.type "list")
 |tup{a:TE}{xs:Z4}(e:H a=some (.tup xs)):ii K H (.ref a) (.type "tuple")
 |dK{a:TE}{kvs:List (gy×V)}(e:H a=some (.dK kvs)):ii K H (.ref a) (.type "dict")
 |dT{a:TE}{kvs:List (List gy×V)}(e:H a=some (.dT kvs)):ii K H (.ref a) (.type "dict")
 |ins{a C e4:TE}{fs:List (Str×V)}(e:H a=some (.ins C e4 fs))(cl:vV K C) (aq:Xi K (.ref C) "__class__"=some (some (.builtin "object.__class__")))
   (aG:PySem.W.specialIn K (.builtin "object.__class__") "__get__"=some (some (.builtin "getset_descriptor.__get__"))) (z1:PySem.W.takesIn K (.builtin "object.__class__")=some true)
   (az:PySem.W.mroIn K C (.type "object")=some true):ii K H (.ref a) (.ref C)
theorem IU{x:V}{u t:SL}(I:Inv X af σ H s)(a8:RelV x u)(ty:ii X.K H x t)(e:V9 X.K t c=some b)(h:∀bm,Q (.bool b) {s with toks:=bm}):
  wpAny (Wp X.prog X.w) A (call (.builtin "isinstance") [u,c]) Q E s:=by
 cases ty with
 |non=>cases(show u=Value.none from a8);exact TU PySem.W.kitx_none I.kIn U7 e (λz=>nomatch z) h
 |bl y=>cases(show u=Value.bool y from a8);exact TU PySem.W.kitx_bool I.kIn U7 e (λz=>nomatch z) h
 |int i=>obtain⟨t,q⟩:=(show ∃t,u=Value.int i t from a8);cases q;exact TU PySem.W.kitx_int I.kIn U7 e (λz=>nomatch z) h
 |str y=>obtain⟨t,q⟩:=(show ∃t,u=Value.str y t from a8);cases q;exact TU PySem.W.kitx_str I.kIn U7 e (λz=>nomatch z) h
 |flt y=>obtain⟨t,q⟩:=(show ∃t,u=Value.float y t from a8);cases q;exact TU PySem.W.kitx_float I.kIn U7 e (λz=>nomatch z) h
 | @lst a xs ft=>
  cases(show u=Value.ref a from a8);obtain⟨_,_,n,_,aa⟩:=(show f2 X.prog X.w H s.heap a (.lst xs)from I.hok a _ ft);exact TU Xj I.kIn ⟨_,aa,rfl⟩ e (λz=>nomatch z) h
 | @frz a b9 xs ft=>
  cases(show u=Value.ref a from a8);obtain⟨_,_,_,n,_,aa⟩:=(show f2 X.prog X.w H s.heap a (.frz b9 (.lst xs))from I.hok a _ ft);exact TU Xj I.kIn ⟨_,aa,rfl⟩ e (λz=>nomatch z) h
 | @tup a xs ft=>
  cases(show u=Value.ref a from a8);obtain⟨_,_,_,p⟩:=(show f2 X.prog X.w H s.heap a (.tup xs)from I.hok a _ ft);obtain⟨o,aa,ab,_⟩:=p;exact TU PySem.W.kitx_tuple I.kIn ⟨o,aa,ab⟩ e (λz=>nomatch z) h
 | @dK a kvs ft=>
  cases(show u=Value.ref a from a8);obtain⟨_,_,vs,_,p⟩:=(show f2 X.prog X.w H s.heap a (.dK kvs)from I.hok a _ ft);obtain⟨o,aD,bW,aa,ab,_⟩:=p;exact TU Xk I.kIn ⟨o,aa,ab.1⟩ e (λz=>nomatch z) h
 | @dT a kvs ft=>
  cases(show u=Value.ref a from a8);obtain⟨_,_,xs,_,o,aD,bW,aa,ab,_⟩:=(show f2 X.prog X.w H s.heap a (.dT kvs)from I.hok a _ ft);exact TU Xk I.kIn ⟨o,aa,ab.1⟩ e (λz=>nomatch z) h
 | @ins a C e4 fs ft cl aq aG z1 az=>
  cases(show u=Value.ref a from a8);obtain⟨e5,O,_⟩:=IT I.hok ft;obtain⟨od,J,_⟩:=O.look;exact TU (PySem.W.kitx_own (cl.get _) cl.hd aq aG z1 az) I.kIn J e (λz=>nomatch z) h
end
structure eZ(k:Nat)(A:Yj):Prop where
 hd:A.handled=none
 dp:A.depth+3*k+5<recursionLimit
 un:A.units+16*k+200<YL
theorem eZ.mono{j k:Nat}{A:Yj}(r:eZ k A)(h:j<=k):eZ j A:=⟨r.hd,by have:=r.dp;lia,by have:=r.un;lia⟩
theorem eZ.deeper{k:Nat}{A:Yj}(r:eZ (k+1) A)(env:Env):eZ k (A.deeper env):=
 ⟨r.hd,by have:=r.dp;show A.depth+1+3*k+5<_;lia,by have:=r.un;show A.units+3+16*k+200<_;lia⟩
theorem eZ.depth{k:Nat}{A:Yj}(r:eZ k A):A.depth<recursionLimit:=by have:=r.dp;lia
theorem eZ.units{k:Nat}{A:Yj}(r:eZ k A):A.units+64<YL:=by have:=r.un;lia
def r0:dX:=λ_ H Q=>Q [] H
def pI(bq:bA)(vC:dX):dX:=λσ H Q=>bq σ H λx ar=>vC σ ar λxs a0=>Q (x::xs) a0
section
variable{X:a1}{e:WP}{aD:agb}{b6:bA}{t:dX}{pos:Pos}
theorem d9:f4 X [] r0:=λ_ _ _ _ H Q I h=>Calls.spliced_nil ⟨[],H,I,.nil,h⟩
theorem di(aq:bE X e b6)(au:f4 X aD t)(av:dE X e aD:=by rfl):f4 X (e::aD) (pI b6 t):=by
 intro pos af s σ H Q I h;rw[av];show wpAny _ _ (spliced ((false,YU e X.env)::Zp pos (Uf aD X.env))) _ _ s
 refine Calls.spliced_cons (bQ (aq af s σ H _ I h) λu s1 ⟨x,ar,a6,ai,aB⟩=>?_);exact bQ (au pos af s1 σ ar _ a6 aB) λaO aI ⟨xs,a0,dt,aw,aL⟩=>⟨x::xs,a0,dt,.cons ai aw,aL⟩
def IV(t:dX):bA:=λσ H Q=>t σ H λxs ar=>xs.length<=TI/\∀p,ar p=none->Q (.ref p) (upd ar p (.tup xs))
def IW(t:dX):bA:=λσ H Q=>t σ H λxs ar=>xs.length<=TI/\∀p,ar p=none->Q (.ref p) (upd ar p (.lst xs))
theorem IX{fF}(h:f4 X aD t):bE X (.Tuple aD fF pos) (IV t):=by
 intro af s σ H Q I aA;refine wpAny_Tuple_spliced (bQ (h pos af s σ H _ I aA) λaO s1 ⟨xs,ar,a6,r,z,q⟩=>⟨by rw[<-r.length];exact z,?_⟩);have hf:ar s1.heap.objs.size=none:=a6.hok.fresh (SG _);refine⟨.ref s1.heap.objs.size,upd ar s1.heap.objs.size (.tup xs),a6.laid (t':=s1.toks) (λb u e=>Heap.get?_push_of_some _ e) (SG _) ?_,rfl,q _ hf⟩;exact⟨z,aO,r,⟨_,Heap.get?_push_size _ rfl,rfl,_,rfl⟩⟩
theorem r1(h:f4 X aD t):bE X (.List aD pos) (IW t):=by
 intro af s σ H Q I aA;refine wpAny_List_spliced (bQ (h pos af s σ H _ I aA) λaO s1 ⟨xs,ar,a6,r,z,q⟩=>⟨by rw[<-r.length];exact z,?_⟩);have hf:ar s1.heap.objs.size=none:=a6.hok.fresh (SG _);refine⟨.ref s1.heap.objs.size,upd ar s1.heap.objs.size (.lst xs),a6.laid (t':=s1.toks) (λb u e=>Heap.get?_push_of_some _ e) (SG _) ?_,rfl,q _ hf⟩;exact⟨z,aO,0,r,Heap.get?_push_size _ rfl⟩
end
abbrev hB:=Z4->al->cf->f3->Prop
abbrev kt:=List Env->al->SZ->f3->SL->SZ->Prop
structure r2(P:UF)(w:Yd)(K:Sx)(mg:Str->Option SL)(base:Yn)(A:Yj)(outer:List Env)(s:SZ)(H:al):Prop where
 frames:A.frames=some outer
 mod:Mod K mg base
 bs:∀b o,base.get? b=some o->s.heap.get? b=some o/\H b=none
 bsz:base.objs.size<=s.heap.objs.size
 funs:s.heap.FunFrames base outer
 frf:∀b∈ja outer,H b=none
 hok:eN P w H s.heap
 bare:Zq s.gens
 tab:lY K H
def vW(outer:List Env)(P:UF)(w:Yd)(H:al)(s:SZ)(Q:cf)(u:SL)(s':SZ):Prop:=
 ∃v aj,s'.os=s.os/\Zq s'.gens/\eU (ja outer) [] H aj s.heap s'.heap/\eN P w aj s'.heap/\RelV v u/\Q v aj
def IY(eP:kt)(outer:List Env)(P:UF)(w:Yd)(H:al)(s:SZ)(Q:cf)(E:f3)(r:ZF)(s':SZ):Prop:=
 match r with
 |.ok (.ret u)=>vW outer P w H s Q u s'
 |.ok _=>False
 |.error e=>eP outer H s E e s'
structure ij(P:UF)(w:Yd)(K:Sx)(mg:Str->Option SL)(base:Yn)(eP:kt)(k:Nat)(f:TE)(fd:YK)(ps:af9)(sp:hB):Prop where
 len:∀vs H Q E,sp vs H Q E->vs.length=ps.length
 run:∀(A:Yj)(outer:List Env)(s:SZ)(H:al)(args:Args)(aO:af')(vs:Z4)(Q:cf)(E:f3),eZ k A->r2 P w K mg base A outer s H->Z0 s fd args (ps.zip aO)->bP vs aO->sp vs H Q E->
  codeAny (Wp P w) A (.call (.ref f) args) (IY eP outer P w H s Q E) s
theorem ij.imp{P:UF}{w:Yd}{K:Sx}{mg:Str->Option SL}{base:Yn}{eP:kt}{k:Nat}{f:TE}{fd:YK}{ps:af9}{sp pJ:hB}(F:ij P w K mg base eP k f fd ps sp)(h:∀vs H Q E,pJ vs H Q E->sp vs H Q E):ij P w K mg base eP k f fd ps pJ:=
 ⟨λvs H Q E q=>F.len vs H Q E (h _ _ _ _ q),λA outer s H args aO vs Q E au aF ae hv av=>F.run A outer s H args aO vs Q E au aF ae hv (h _ _ _ _ av)⟩
section
variable{X:a1}{af:agd}{σ:St}{H:al}{s s':SZ}
theorem Inv.env0(I:Inv X af σ H s):r2 X.prog X.w X.K X.mg X.base X.A X.stack s H:=
 ⟨I.ok.frames,I.ok.mod,I.bs,SE I.ok.bsz I.sz,I.stack,I.stkFree,I.hok,I.bare,I.tabs⟩
theorem Inv.after{Q:cf}{u:SL}(I:Inv X af σ H s)(h:vW X.stack X.prog X.w H s Q u s'):fA X af σ Q u s':=by
 obtain⟨v,aj,os,bare,un,hok,r,q⟩:=h;obtain⟨dP,g,d,t,IZ⟩:=s';obtain rfl:IZ=s.os:=os;exact⟨v,aj,I.call (h':=dP) (g':=g) (d':=d) (t':=t) (ch:=[]) un hok bare (λb z=>absurd z (by simp)),r,q⟩
end
def z2(sp:hB)(l9:Z4)(E:f3)(t:dX):bA:=λσ H Q=>t σ H λvs ar=>sp (vs++l9) ar Q E
def Binds(K:Sx)(fd:YK)(ps:af9)(ds:af'):Prop:=
 ∀(s:SZ)(aO:af'),K.In s.heap->(aO++ds).length=ps.length->Z0 s fd ⟨aO,[]⟩ (ps.zip (aO++ds))
theorem Binds.all{K:Sx}{fd:YK}{ps:af9}(h:∀aO:af',aO.length=ps.length->Z1 fd ⟨aO,[]⟩=pure (ps.zip aO)):Binds K fd ps []:=λs aO _ ax=>by
 rw[TK]at ax⊢;exact .of_eq (h aO ax)
def vX(eP:kt)(X:a1)(E:f3):Prop:=∀(af:agd)(σ:St)(H:al)(s:SZ)(e:SL)(s':SZ),Inv X af σ H s->eP X.stack H s E e s'->X.xe e s'
section
variable{X:a1}{eP:kt}{k:Nat}{f C:TE}{fd:YK}{ps:af9}{sp:hB}{l9:Z4}{ds:af'}{E:f3}{x m:Str}{p pos eh:Pos}{e o:WP}{aD:agb}{bq:bA}{t:dX}
theorem I0{af:agd}{σ:St}{H:al}{s:SZ}{Q:cf}{aO:af'}{vs:Z4}(F:ij X.prog X.w X.K X.mg X.base eP k f fd ps sp)(au:eZ k X.A)(ae:Binds X.K fd ps ds)(hd:bP l9 ds)(hx:vX eP X E)(I:Inv X af σ H s)(r:bP vs aO)(h:sp (vs++l9) H Q E):wpAny (Wp X.prog X.w) X.A (call (.ref f) aO) (fA X af σ Q) X.xe s:=by
 have aw:bP (vs++l9) (aO++ds):=r.append hd;have ax:(aO++ds).length=ps.length:=by rw[<-aw.length];exact F.len _ _ _ _ h
 refine wpAny_call (Zc (F.run X.A X.stack s H ⟨aO,[]⟩ (aO++ds) (vs++l9) Q E au I.env0 (ae s aO I.kIn ax) aw h) λr s' aA=>?_);cases r with
 |error e=>exact hx af σ H s e s' I aA
 |ok fl=>
  cases fl with
  |ret u=>exact I.after aA
  |next=>exact TZ aA
  |brk=>exact TZ aA
  |cont=>exact TZ aA
theorem I1(F:ij X.prog X.w X.K X.mg X.base eP k f fd ps sp)(au:eZ k X.A)(aJ:c2 X x)(az:X.mg x=some (.ref f))(hk:Vr X.K (.ref f)=true)(ae:Binds X.K fd ps ds)(hd:bP l9 ds)(hx:vX eP X E)(aq:f4 X (e::aD) t)(gR:eC x:=by decide)(aF:dE X e aD:=by rfl)(eE:hl X pos aD:=by rfl):
  bE X (.Call (.Name x p) (e::aD) [] pos) (z2 sp l9 E t):=by
 intro af s σ H Q I h;refine Yk (zF I aJ az ?_ gR);refine PySem.W.callWith_K (h₀:=X.base) I.ok.mod.kin hk (bQ (aq pos af s σ H _ I h) λaO s1 ⟨vs,ar,a6,r,q⟩=>⟨a6.kIn,?_⟩) aF eE;exact I0 F au ae hd hx a6 r q
end
structure cb(N P:af9)(eM:Y2):Prop where
 kind:eM.kind=.function
 co:eM.isCoroutine=false
 gen:eM.isGenerator=false
 nd:N.Nodup
 pre:N.take P.length=P
 par:∀x∈P,eM.names.lookup x=some .local\/eM.names.lookup x=some .cell
 nofree:∀y∈eM.names,y.2≠.free
theorem z3{kindOf:Str->Option ZG}{x:Str}:∀{binds:List (Str×SL)}{m:Str->Option SL},(∀v,(x,v)∉binds)->bindL kindOf binds m x=m x
 |[],_,_=>rfl
 | (n,v)::r,m,h=>by
  unfold bindL;rw[z3 λw hw=>h w (SJ _ hw)];split
  ·have:x≠n:=by rintro rfl;exact h v SD
   simp[this]
  rfl
theorem z4{kindOf:Str->Option ZG}{x:Str}:∀{binds:List (Str×SL)}{m:Str->Option SL},(∀v,(x,v)∉binds)->bindC kindOf binds m x=m x
 |[],_,_=>rfl
 | (n,v)::r,m,h=>by
  unfold bindC;rw[z4 λw hw=>h w (SJ _ hw)];split
  ·rfl
  have:x≠n:=by rintro rfl;exact h v SD
  simp[this]
theorem z5{kindOf:Str->Option ZG}{x:Str}{v:SL}:∀{P:af9}{vs:af'}{i:Nat}{m:Str->Option SL},P.Nodup->P[i]?=some x->vs[i]?=some v->kindOf x=some .local->
  bindL kindOf (P.zip vs) m x=some v
 |[],_,_,_,_,h,_,_=>by simp at h
 |_::_,[],_,_,_,_,h,_=>by simp at h
 |p::P,w::vs,0,m,nd,aa,ab,hk=>by
  simp at aa ab;subst aa;subst ab;show bindL kindOf ((p,w)::P.zip vs) m p=_
  unfold bindL;rw[z3 λv hv=>(TQ.mp nd).1 (U8 hv).1,TT hk];simp
 |p::P,w::vs,i+1,m,nd,aa,ab,hk=>by
  show bindL kindOf ((p,w)::P.zip vs) m x=_
  unfold bindL;exact z5 (i:=i) (TQ.mp nd).2 (by simpa using aa) (by simpa using ab) hk
theorem z6{kindOf:Str->Option ZG}{x:Str}{v:SL}:∀{P:af9}{vs:af'}{i:Nat}{m:Str->Option SL},P.Nodup->P[i]?=some x->vs[i]?=some v->kindOf x≠some .local->
  bindC kindOf (P.zip vs) m x=some v
 |[],_,_,_,_,h,_,_=>by simp at h
 |_::_,[],_,_,_,_,h,_=>by simp at h
 |p::P,w::vs,0,m,nd,aa,ab,hk=>by
  simp at aa ab;subst aa;subst ab;show bindC kindOf ((p,w)::P.zip vs) m p=_
  unfold bindC;rw[z4 λv hv=>(TQ.mp nd).1 (U8 hv).1,TW hk];simp
 |p::P,w::vs,i+1,m,nd,aa,ab,hk=>by
  show bindC kindOf ((p,w)::P.zip vs) m x=_
  unfold bindC;exact z6 (i:=i) (TQ.mp nd).2 (by simpa using aa) (by simpa using ab) hk
def start(N:af9)(vs:Z4):St:=vs.map some++SY (N.length-vs.length) none
def k8(eP:kt)(P:UF)(w:Yd)(K:Sx)(mg:Str->Option SL)(base:Yn)(N:af9)(du:Str)(scope:Y2)(f:TE)(e3:SL)(A:Yj)(outer:List Env)(s:SZ)(H:al)(E:f3):a1 where
 prog:=P
 w:=w
 K:=K
 mg:=mg
 base:=base
 A:=A.deeper (ZH du scope s.heap.objs.size f e3)
 N:=N
 s₀:=s
 H₀:=H
 env:=ZH du scope s.heap.objs.size f e3
 outer:=outer
 stack:=ZH du scope s.heap.objs.size f e3::outer
 ex:=[]
 calm:=true
 fn:=λ_=>true
 pn:=[]
 xe:=λe s'=>wpAny (Wp P w) (A.deeper (ZH du scope s.heap.objs.size f e3)) (leaving (ZH du scope s.heap.objs.size f e3) e) (λ_ vY=>eP outer H s E e vY) (λa7 vY=>eP outer H s E a7 vY) s'
theorem z7{eM:Y2}{n:Nat}{x:Str}(h:eM.names.lookup x=some .cell):∃c,(cellsFrom n eM.names []).lookup x=some c:=by
 have q:=Xl eM.names n [] (.inl h);exact Xm.mp q
theorem I2{eP:kt}{P:UF}{w:Yd}{K:Sx}{mg:Str->Option SL}{base:Yn}{N ps:af9}{du:Str}{scope:Y2}{f:TE}{e3:SL}{A:Yj}{outer:List Env}{s s1:SZ}{H:al}{E:f3}{aO:af'}{vs:Z4}(S:cb N ps scope)(hd:A.handled=none)(d4:r2 P w K mg base A outer s H)(ax:vs.length=ps.length)(r:bP vs aO)(x:InCallC s s.heap.objs.size (bindL (ZH du scope s.heap.objs.size f e3).kindOf (ps.zip aO) λ_=>none) (cellsFrom (s.heap.objs.size+1) scope.names []) (bindC (ZH du scope s.heap.objs.size f e3).kindOf (ps.zip aO) λ_=>none) s1):
  Inv (k8 eP P w K mg base N du scope f e3 A outer s H E) [] (start N vs) H s1:=by
 have eE:ps.length<=N.length:=by have:=Ye S' S.pre;rw[Ts]at this;lia
 obtain⟨aa,bm,rfl,hk⟩:=x.done;have pK:∀b:TE,b∉(k8 eP P w K mg base N du scope f e3 A outer s H E).ex:=λb z=>absurd (show b∈([]:aga)from z) (by simp)
 refine⟨⟨d4.mod,S.kind,rfl,rfl,SG _,λy z c aa ab=>?_,λy hy=>?_,λy c _ h=>?_,λ_=>hd,Around.frames_deeper d4.frames,.inr ⟨rfl,rfl⟩,λb z=>absurd z (pK b),d4.bs,d4.bsz,λb _ _=>pK b,λb z=>absurd z (pK b),d4.funs,d4.frf,d4.tab⟩,
  rfl,d4.bare,eU.kept hk,⟨_,x.toInCall.ns,λi y v aa ab a'=>?_⟩,λy c h=>⟨_,x.cell y c h⟩,d4.hok.fresh (SG _),λy c h=>?_,λp ak=>absurd (show p∈([]:agd)from ak) (by simp),d4.hok.kept hk,?_⟩
 ·exact name_of_addr x.apart (Uv aa) (Uv ab)
 ·have hy:scope.names.lookup y=some .cell\/scope.names.lookup y=some .free:=hy;rcases hy with hy|hy
  ·exact z7 hy
  exact absurd rfl (S.nofree _ (Uv hy))
 ·exact Vp (x.above y c (Uv h))
 ·have ao:i<vs.length:=by
   unfold start at ab;by_cases ao:i<vs.length
   ·exact ao
   rw[Tz (by simpa using ao)]at ab;rw[UM]at ab;split at ab<;>cases ab
  have aq:vs[i]?=some v:=by
   unfold start at ab;rw[Tt (by simpa using ao),S1]at ab;cases e:vs[i]? with
   |none=>rw[e]at ab;cases ab
   |some a=>rw[e]at ab;cases ab;rfl
  obtain⟨u,hu,bX⟩:=r.get aq
  have ak:ps[i]?=some y:=by
   rw[<-S.pre,V' (by lia)];exact aa
  have z8:ps.Nodup:=by rw[<-S.pre];exact S.nd.sublist (Wa _ _)
  refine⟨u,bX,?_⟩;rcases S.par y (S4 ak)with k|k
  ·exact .inl ⟨k,z5 z8 ak hu k⟩
  obtain⟨c,e⟩:=z7 (n:=s.heap.objs.size+1) k;refine .inr ⟨.inl k,c,e,?_⟩;have q:=x.cell y c e;rwa[z6 z8 ak hu (by show scope.names.lookup y≠_;rw[k];decide)]at q
 ·exact d4.hok.fresh (Vp (x.above y c (Uv h)))
 unfold start;show _=N.length
 rw[SU,Sw,Uk];lia
theorem I3{eP:kt}{P:UF}{w:Yd}{K:Sx}{mg:Str->Option SL}{base:Yn}{k:Nat}{f:TE}{name du:Str}{params:ZD}{body:agc}{scope:Y2}{r3 kV doc pm cdv ct oc:SL}{an od:Option TE}{osl:Array (Option SL)}{N ps:af9}{sp:hB}(lk:K.lookup f=some ⟨oc,od,.func (UN name du params body scope r3 kV doc pm an cdv ct),osl⟩)(ee:Wb K cdv du=true)(S:cb N ps scope)(len:∀vs H Q E,sp vs H Q E->vs.length=ps.length)(k9:∀(A:Yj)(outer:List Env)(s:SZ)(H:al)(vs:Z4)(Q:cf)(E:f3),eZ k (A.deeper (ZH du scope s.heap.objs.size f cdv))->sp vs H Q E->∃t,hp (k8 eP P w K mg base N du scope f cdv A outer s H E) body t/\t {nx:=λ_ aj=>Q .non aj,rt:=Q} (start N vs) H):
  ij P w K mg base eP (k+1) f (UN name du params body scope r3 kV doc pm an cdv ct) ps sp:=by
 refine⟨len,λA outer s H args aO vs Q E au d4 ae r ol=>?_⟩;have ax:=len _ _ _ _ ol;have l':K.In s.heap:=d4.mod.kin.keeps λb o e=>(d4.bs b o e).1;have lim:s.heap.NoLimit:=d4.mod.nolimit.keeps λb o e=>(d4.bs b o e).1
 have I4:∀y∈ps.zip aO,scope.names.lookup y.1=some .local\/(scope.names.lookup y.1=some .cell/\((cellsFrom (s.heap.objs.size+1) scope.names []).lookup y.1).isSome=true):=λ⟨n,v⟩ hy=>by
  rcases S.par n (U8 hy).1 with q|q
  ·exact .inl q
  exact .inr ⟨q,Xl _ _ _ (.inl q)⟩
 refine codeAny_call_function au.depth (l' _ _ lk) rfl S.co S.gen rfl (PySem.W.codeRec_of l' ee) (ae _ _ _ _ ?_);refine wpAny_newFunctionEnv_cells S.kind I4 λenv aF s1 x=>?_;subst aF;refine⟨lim.keeps x.toInCall.keep,codeAny_func ?_⟩;obtain⟨t,bw,aA⟩:=k9 A outer s H vs Q E (au.deeper _) ol;have I:Inv (k8 eP P w K mg base N du scope f cdv A outer s H E) [] (start N vs) H s1:=I2 S au.hd d4 ax r x;refine YI (bw [] s1 (start N vs) H _ I aA) (λfl s' av=>?_) λe s' av=>av
 have fin:∀{a4:St}{aj:al}{v:V}{u:SL},Inv (k8 eP P w K mg base N du scope f cdv A outer s H E) [] a4 aj s'->RelV v u->Q v aj->vW outer P w H s Q u s':=
  λ{a4 aj v u} J bX q=>⟨v,aj,J.os,J.bare,J.base,J.hok,bX,q⟩
 cases fl with
 |ret u=>
  obtain⟨v,a4,aj,J,bX,q⟩:=av;exact fin J bX q
 |next=>
  obtain⟨a4,aj,J,q⟩:=av;exact fin (v:=V.non) (u:=Value.none) J rfl q
 |brk=>
  obtain⟨_,_,_,q⟩:=av;exact TZ q
 |cont=>
  obtain⟨_,_,_,q⟩:=av;exact TZ q
section
variable{X:a1}{x:Str}{p pos:Pos}{e:WP}{aD:agb}{t:dX}{id T:String}{r:Z4->al->cf->Prop}
def r4(r:Z4->al->cf->Prop)(t:dX):bA:=λσ H Q=>t σ H λvs ar=>r vs ar Q
theorem ku(hc:iP X (.builtin id) r)(aJ:c2 X x)(az:X.mg x=none)(hv:YE x=some (.builtin id))(aq:f4 X (e::aD) t)(aG:x≠"__name__":=by decide)(gR:eC x:=by decide)(aF:dE X e aD:=by rfl)(eE:hl X pos aD:=by rfl):bE X (.Call (.Name x p) (e::aD) [] pos) (r4 r t):=by
 intro af s σ H Q I h;refine Yk (jy I aJ az hv ?_ aG gR);exact Xn (bQ (aq pos af s σ H _ I h) λaO s1 ⟨vs,ar,a6,ai,aB⟩=>hc af s1 σ ar vs aO Q a6 ai aB) aF eE
theorem vZ(hc:iP X (.type T) r)(aJ:c2 X x)(az:X.mg x=none)(hv:YE x=some (.type T))(aq:f4 X (e::aD) t)(aG:x≠"__name__":=by decide)(gR:eC x:=by decide)(aF:dE X e aD:=by rfl)(eE:hl X pos aD:=by rfl):bE X (.Call (.Name x p) (e::aD) [] pos) (r4 r t):=by
 intro af s σ H Q I h;refine Yk (jy I aJ az hv ?_ aG gR);exact Uj (bQ (aq pos af s σ H _ I h) λaO s1 ⟨vs,ar,a6,ai,aB⟩=>hc af s1 σ ar vs aO Q a6 ai aB) aF eE
end
end L2
namespace HT
open PySem PyProof.Rows
theorem v0(A:Yj)(s:SZ)(a:Int)(t:Tok)(c:Int)(u:Tok):∃e,SeqAt.EqAt A s (.int a t) (.int c u) e/\(e=true↔a=c):=
 ⟨(a==c),SeqAt.EqAt.int_int a t c u,by simp⟩
section
variable{prog:UF}{w:Yd}{A:Yj}{E:SL->SZ->Prop}{s:SZ}
def sIx(n d:Nat):Option Int->Nat
 |none=>d
 |some v=>if v<0 then(v+(n:Int)).toNat else min v.toNat n
end
end HT
namespace L2
open PySem PySem.Spec PyProof.Rows
abbrev bZ:=St->al->(Option Int->al->Prop)->Prop
def pL(X:a1)(e:Option WP)(t:bZ):Prop:=
 ∀(af:agd)(s:SZ)(σ:St)(H:al)(Q:Option Int->al->Prop),Inv X af σ H s->t σ H Q->
  wpAny (Wp X.prog X.w) X.A (evalPart e X.env) (λu s'=>∃o aj,Inv X af σ aj s'/\IsPart u o/\Q o aj) X.xe s
def I5:bZ:=λ_ H Q=>Q none H
def I6(t:bA):bZ:=λσ H Q=>t σ H λx ar=>∃i,x=.int i/\Q (some i) ar
theorem intsAre_of{ns:Z5}:∀{aO:af'},bP (ns.map V.int) aO->Yr aO ns:=by
 induction ns with
 |nil=>intro aO r;rw[T5]at r;cases r;exact .nil
 |cons n ns b2=>
  intro aO r;rw[SK]at r;cases r with
  |cons ai aw=>
   obtain⟨t,e⟩:=ai;subst e;exact .cons n t (b2 aw)
section
variable{X:a1}{e:WP}{b6:bA}{lo ao:Option WP}{dO r5:bZ}{pos aW:Pos}
theorem z9:pL X none I5:=by
 intro af s σ H Q I h;rw[ZI];exact TD ⟨none,H,I,.none,h⟩
theorem z'(h:bE X e b6):pL X (some e) (I6 b6):=by
 intro af s σ H Q I hw;rw[evalPart_some];refine bQ (h af s σ H _ I hw) λu s1 ⟨x,ar,a6,ai,aB⟩=>?_;obtain⟨i,rfl,q⟩:=aB;obtain⟨t,rfl⟩:=ai;exact⟨some i,ar,a6,.int i t,q⟩
def v3(X:a1)(r:V->Option Int->Option Int->al->cf->Prop):Prop:=
 ∀(af:agd)(s:SZ)(σ:St)(H:al)(x:V)(v k' la:SL)(lo ao:Option Int)(sl:TE)(Q:cf),Inv X af σ H s->RelV x v->s.heap.IsSliceOf sl k' la .none->IsPart k' lo->IsPart la ao->r x lo ao H Q->
  ∃T id,typeLookup (.type T) "__getitem__"=pure (some (.builtin id))/\s.TypeIs v T/\wpAny (Wp X.prog X.w) X.A (getItem v (.ref sl)) (fA X af σ Q) X.xe s
def I7(r:V->Option Int->Option Int->al->cf->Prop)(b6:bA)(dO r5:bZ):bA:=λσ H Q=>b6 σ H λx ar=>dO σ ar λl a0=>r5 σ a0 λu cg=>r x l u cg Q
theorem Aa{r:V->Option Int->Option Int->al->cf->Prop}(au:v3 X r)(aF:bE X e b6)(ax:pL X lo dO)(hu:pL X ao r5):bE X (.Subscript e (.Slice lo ao none aW) pos) (I7 r b6 dO r5):=by
 intro af s σ H Q I h;refine Subscript_ (bQ (aF af s σ H _ I h) λv s1 ⟨x,ar,a6,ai,aB⟩=>?_);refine wpAny_Slice (bQ (ax af s1 σ ar _ a6 aB) λk' aI ⟨l,a0,dt,cI,aL⟩=>bQ (hu af aI σ a0 _ dt aL) λla bI ⟨u,cg,cu,hQ,cv⟩=>?_);rw[ZI];refine TD ?_;have gA:Inv X af σ cg {bI with heap:=bI.heap.push {cls:=.type "slice",data:=.fields #[k',la,.none]} }:=cu.kept (t':=bI.toks) λb b9 q=>Heap.get?_push_of_some _ q;obtain⟨T,id,cM,bw,aJ⟩:=au af {bI with heap:=bI.heap.push {cls:=.type "slice",data:=.fields #[k',la,.none]} } σ cg x v k' la l u bI.heap.objs.size Q gA ai (Heap.IsSliceOf.new ..) cI hQ cv;show wpAny (Wp X.prog X.w) X.A (ZJ e (.Slice lo ao none aW) v (.ref bI.heap.objs.size)) (fA X af σ Q) X.xe {bI with heap:=bI.heap.push {cls:=.type "slice",data:=.fields #[k',la,.none]} }
 exact tail_any (ops:=[.ref bI.heap.objs.size,v]) bw cM aJ (by with_unfolding_all rfl)
def r6(xs:Z4)(lo ao:Option Int):List V:=(xs.drop (HT.sIx xs.length 0 lo)).take (HT.sIx xs.length xs.length ao-HT.sIx xs.length 0 lo)
theorem I8(xs:Z4)(lo ao:Option Int):(r6 xs lo ao).length<=xs.length:=by
 unfold r6;rw[Ts,Th];lia
end
def ixN(n:Nat)(i:Int):Option Nat:=if 0<=i then(if i<n then some i.toNat else none)else if -(n:Int)<=i then some (i+n).toNat else none
def ea{α:Type}(xs:List α)(i:Int):Option α:=(ixN xs.length i).bind λj=>xs[j]?
theorem Ab{n:Nat}{i:Int}{j:Nat}(h:ixN n i=some j):seqIndex? i n=some j/\j<n /\ -(n:Int)<=i/\i<n:=by
 unfold ixN at h;by_cases bi:0<=i
 ·rw[TT bi]at h;by_cases aa:i<n
  ·rw[TT aa]at h;have e:i.toNat=j:=SM h;exact⟨by rw[ZW bi aa,e],by lia,by lia,aa⟩
  rw[TW aa]at h;cases h
 rw[TW bi]at h;by_cases aa : -(n:Int)<=i
 ·rw[TT aa]at h;have e:(i+n).toNat=j:=SM h;exact⟨by rw[ZR (by lia) aa,e],by lia,aa,by lia⟩
 rw[TW aa]at h;cases h
theorem v4{α:Type}{xs:List α}{i:Int}{v:α}(h:ea xs i=some v):∃j,seqIndex? i xs.length=some j/\xs[j]?=some v/\j<xs.length /\ -(xs.length:Int)<=i/\i<xs.length:=by
 unfold ea at h;cases e:ixN xs.length i with
 |none=>rw[e]at h;cases h
 |some j=>
  rw[e]at h;obtain⟨aa,ab,a',bG⟩:=Ab e;exact⟨j,aa,h,ab,a',bG⟩
def v5(b:WP):Prop:=∀o i,subscripted b false o i=operate [o,i] (getItem o i)
def pM(X:a1)(r:f6):Prop:=
 ∀(value slice:WP)(af:agd)(s:SZ)(σ:St)(H:al)(x y:V)(v u:SL)(Q:cf),Inv X af σ H s->RelV x v->RelV y u->r x y H Q->
  subscripted slice false v u=operate [v,u] (getItem v u)->wpAny (Wp X.prog X.w) X.A (ZJ value slice v u) (fA X af σ Q) X.xe s
def Ac(X:a1)(id:String)(r:V->Z4->al->cf->Prop):Prop:=
 ∀(af:agd)(s:SZ)(σ:St)(H:al)(x:V)(xs:Z4)(v:SL)(aO:af')(Q:cf),Inv X af σ H s->RelV x v->bP xs aO->r x xs H Q->
  wpAny (Wp X.prog X.w) X.A (call (.builtin id) (v::aO)) (fA X af σ Q) X.xe s
section
variable{X:a1}{a b:WP}{bq tb:bA}{pos:Pos}
theorem lb{r:f6}(au:pM X r)(aq:bE X a bq)(ae:bE X b tb)(av:v5 b):bE X (.Subscript a b pos) (kq r bq tb):=by
 intro af s σ H Q I h;exact Subscript_ (vS aq ae I h λv u aI x y a0 dt a8 b' q=>au a b af aI σ a0 x y v u Q dt a8 b' q (av _ _))
def I9(K:Sx):f6:=λx y H Q=>∃p xs i v,x=.ref p/\y=.int i/\b0 K H p xs/\ea xs i=some v/\Q v H
def I'(K:Sx):f6:=λx y H Q=>∃p xs i v,x=.ref p/\y=.int i/\dA K H p xs/\ea xs i=some v/\Q v H
def Ja:f6:=λx y H Q=>∃z i c,x=.str z/\y=.int i/\z.length<=TI/\ea z.cps.toList i=some c/\Q (.str ⟨#[c]⟩) H
theorem Ad:pM X (I9 X.K):=by
 intro value slice af s σ H x y v u Q I a8 b' h av;obtain⟨p,xs,i,z,rfl,rfl,aA,aF,q⟩:=h;cases a8;obtain⟨t,rfl⟩:=b';obtain⟨its,r,cI,hz⟩:=I.list aA;obtain⟨j,aa,ab,a',bG,eb⟩:=v4 aF;obtain⟨w,jE,jB⟩:=r.get ab;have ax:=r.length;have aG:=mY;have fin:fA X af σ Q w s:=⟨z,H,I,jB,q⟩;by_cases bi:0<=i
 ·have aQ:i.toNat=j:=by
   rw[ZW bi eb]at aa;exact SM aa
  exact item_listR cI.isList bi (by lia) (by rw[aQ];simpa using jE) fin av
 have aQ:(i+(its.toArray.size:Int)).toNat=j:=by
  rw[ZR (by lia) bG]at aa;rw[SX,<-ax];exact SM aa
 exact Zn (x:=w) cI.isList.typeIs slot_list_getitem.lookup
  (wpAny_getItem_list_neg (Q:=λr s'=>r=w/\fA X af σ Q r s') cI.isList (by lia) (by rw[SX]<;>lia) (by lia) (by rw[aQ];simpa using jE) ⟨rfl,fin⟩) av
theorem Jb:pM X (I' X.K):=by
 intro value slice af s σ H x y v u Q I a8 b' h av;obtain⟨p,xs,i,z,rfl,rfl,aA,aF,q⟩:=h;cases a8;obtain⟨t,rfl⟩:=b';obtain⟨its,r,cI,hz⟩:=I.tuple aA;obtain⟨j,aa,ab,a',bG,eb⟩:=v4 aF;obtain⟨w,jE,jB⟩:=r.get ab;have ax:=r.length;have aG:=mY;have fin:fA X af σ Q w s:=⟨z,H,I,jB,q⟩
 exact Zn (x:=w) cI.typeIs slot_tuple_getitem.lookup
  (getItem_tuple (j:=j) (Q:=λr s'=>r=w/\fA X af σ Q r s') cI (by lia) (by lia) (by rw[SX,<-ax];exact aa) (by simpa using jE) ⟨rfl,fin⟩) av
theorem Jc:pM X Ja:=by
 intro value slice af s σ H x y v u Q I a8 b' h av;obtain⟨z,i,c,rfl,rfl,hz,aF,q⟩:=h;obtain⟨t,rfl⟩:=a8;obtain⟨t',rfl⟩:=b';obtain⟨j,aa,ab,a',bG,eb⟩:=v4 aF;have ax:z.cps.toList.length=z.length:=by simp[Str.length]
 rw[ax]at aa bG eb;have aG:=mY
 exact tail_any (Y0 s z t) slot_str_getitem.lookup (getItem_str (c:=c) (by
  have ah:decide (i < -(2^63:Int))=false:=Tk (by lia);have am:decide (i>=2^63)=false:=Tk (by lia)
  rw[ah,am,Wc]) (by rw[aa];simpa using ab) ⟨.str ⟨#[c]⟩,H,I.tok _,⟨_,rfl⟩,q⟩) av
theorem Jd(its:af')(n j:Nat)(u:SL):Obj.mapSeq (·.setIfInBounds j u) {cls:=.type "list",data:=.seq its.toArray n}={cls:=.type "list",data:=.seq (its.set j u).toArray n}:=by
 simp[Obj.mapSeq]
theorem Inv.lst{af:agd}{σ:St}{H:al}{s:SZ}{p:TE}{xs:Z4}(I:Inv X af σ H s)(h:H p=some (.lst xs)):
  ∃(its:af')(n:Nat),bP xs its/\s.heap.get? p=some {cls:=.type "list",data:=.seq its.toArray n}/\xs.length<=TI:=by
 obtain⟨z,its,n,r,e⟩:=I.hok p _ h;exact⟨its,n,r,e,z⟩
theorem Inv.lstUpd{af:agd}{σ:St}{H:al}{s:SZ}{p:TE}{xs ys:Z4}{its its':af'}{n hq:Nat}{f:Obj->Obj}(I:Inv X af σ H s)(h:H p=some (.lst xs))(aM:s.heap.get? p=some {cls:=.type "list",data:=.seq its.toArray n})(hf:f {cls:=.type "list",data:=.seq its.toArray n}={cls:=.type "list",data:=.seq its'.toArray hq})(r:bP ys its')(hz:ys.length<=TI)(t:Nat):
  Inv X af σ (upd H p (.lst ys)) {s with heap:=s.heap.update p f,toks:=t}:=by
 have e:(s.heap.update p f).get? p=some {cls:=.type "list",data:=.seq its'.toArray hq}:=by
  rw[Heap.get?_update_self f aM (by rw[hf]<;>rfl),hf]
 refine I.write (x:=p) (e:=p) (by rw[h];trivial) (.inl rfl) (λb u ae q=>(Heap.get?_update_other _ _ (S2 ae)).trans q) ⟨_,e⟩ ?_;exact⟨hz,its',hq,r,e⟩
def Je:V->V->V->al->(al->Prop)->Prop:=λo i v H Q=>∃p xs k j,o=.ref p/\i=.int k/\H p=some (.lst xs)/\ixN xs.length k=some j/\Q (upd H p (.lst (xs.set j v)))
theorem Ae:zM X Je:=by
 intro af s σ H o i v kn ig u Q I Jf v6 bX h;obtain⟨p,xs,k,j,rfl,rfl,ak,aQ,q⟩:=h;cases Jf;obtain⟨t,rfl⟩:=v6;obtain⟨its,n,r,aM,hz⟩:=I.lst ak;obtain⟨aa,ab,a',bG⟩:=Ab aQ;have ax:=r.length;have aG:=mY
 have kl:Inv X af σ (upd H p (.lst (xs.set j v))) {s with heap:=s.heap.update p (Obj.mapSeq (·.setIfInBounds j u))}:=
  I.lstUpd ak aM (Jd its n j u) (r.set bX j) (by rw[T6];exact hz) s.toks
 by_cases bi:0<=k
 ·have hk:k.toNat=j:=by
   rw[ZW bi bG]at aa;exact SM aa
  exact PySem.W.ki_setAt aM bi (by lia) (by rw[SX,<-ax];exact bG) (by rw[hk];exact⟨_,kl,q⟩)
 have hk:(k+(its.toArray.size:Int)).toNat=j:=by
  rw[ZR (by lia) a']at aa;rw[SX,<-ax];exact SM aa
 exact PySem.W.ki_setBack aM (by lia) (by rw[SX,<-ax];exact a') (by lia) (by rw[hk];exact⟨_,kl,q⟩)
theorem Jg(lo ao:Option Int)(n:Nat):(YF lo ao none n).1=((HT.sIx n 0 lo:Nat):Int)/\(YF lo ao none n).2.1=((HT.sIx n n ao:Nat):Int)/\(YF lo ao none n).2.2=1:=by
 refine⟨?_,?_,rfl⟩
 ·cases lo with
  |none=>simp[YF,HT.sIx]
  |some i=>
   simp only[YF,HT.sIx,Xo,show(1:Int)>0 by decide,if_true];by_cases h:i<0
   ·simp only[h,if_true]<;>lia
   simp only[h,if_false]<;>lia
 cases ao with
 |none=>simp[YF,HT.sIx]
 |some i=>
  simp only[YF,HT.sIx,Xo,show(1:Int)>0 by decide,if_true];by_cases h:i<0
  ·simp only[h,if_true]<;>lia
  simp only[h,if_false]<;>lia
theorem Jh(its:af')(lo ao:Option Int):ZX its.toArray lo ao none=((its.drop (HT.sIx its.length 0 lo)).take (HT.sIx its.length its.length ao-HT.sIx its.length 0 lo)).toArray:=by
 obtain⟨aa,ab,a'⟩:=Jg lo ao its.toArray.size;unfold ZX;rw[aa,ab,a'];simp only[sliceRange_one,pick_run,SX]<;>rfl
def Ji(K:Sx):V->Option Int->Option Int->al->cf->Prop:=λx lo ao H Q=>∃a xs,x=.ref a/\b0 K H a xs/\∀p,H p=none->Q (.ref p) (upd H p (.lst (r6 xs lo ao)))
theorem Jj:v3 X (Ji X.K):=by
 intro af s σ H x v k' la lo ao sl Q I a8 av cI hQ h;obtain⟨a,xs,rfl,hx,q⟩:=h;cases a8;obtain⟨its,r,bw,hz⟩:=I.list hx;have fE:=r.length;refine⟨"list",_,slot_list_getitem.lookup,bw.isList.typeIs,?_⟩;refine Zg bw.isList av cI hQ .none (by simp) ?_ (by rw[SX]<;>lia);rw[Jh,<-fE];refine⟨.ref s.heap.objs.size,_,I.laid (t':=s.toks) (o:=.lst (r6 xs lo ao)) (λb b9 q=>Heap.get?_push_of_some _ q) (SG _) ?_,rfl,q _ (I.hok.fresh (SG _))⟩;exact⟨SE (I8 xs lo ao) hz,_,0,(r.drop (HT.sIx xs.length 0 lo)).take (HT.sIx xs.length xs.length ao-HT.sIx xs.length 0 lo),Heap.get?_push_size _ rfl⟩
theorem v7:iP X (.builtin "len") (λxs H Q=>∃p ys,xs=[.ref p]/\(b0 X.K H p ys\/dA X.K H p ys)/\Q (.int ys.length) H):=by
 intro af s σ H xs aO Q I r h;obtain⟨p,ys,rfl,aA,q⟩:=h;obtain⟨u,rfl,a8⟩:=vals1 r;cases a8;have aG:=mY;rcases aA with aA|aA
 ·obtain⟨its,cG,cI,hz⟩:=I.list aA;have fE:=cG.length;exact Calls.call_len_list cI.isList (by simp only[SX]<;>lia) ⟨.int ys.length,H,I.tok _,⟨s.toks+1,by rw[SX,fE]⟩,q⟩
 obtain⟨its,cG,cI,hz⟩:=I.tuple aA;have fE:=cG.length;exact len_tuple cI (by simp only[SX]<;>lia) ⟨.int ys.length,H,I.tok _,⟨s.toks+1,by rw[SX,fE]⟩,q⟩
theorem Jk:iP X (.builtin "len") (λxs H Q=>∃z,xs=[.str z]/\z.length<=TI/\Q (.int z.length) H):=by
 intro af s σ H xs aO Q I r h;obtain⟨z,rfl,hz,q⟩:=h;obtain⟨u,rfl,t,rfl⟩:=vals1 r;have aG:=mY;exact len_str (by lia) ⟨.int z.length,H,I.tok _,⟨_,rfl⟩,q⟩
theorem Jl:iP X (.type "list") (λxs H Q=>∃p ys,xs=[.ref p]/\(b0 X.K H p ys\/dA X.K H p ys)/\∀l,H l=none->Q (.ref l) (upd H l (.lst ys))):=by
 intro af s σ H xs aO Q I r h;obtain⟨p,ys,rfl,aA,q⟩:=h;obtain⟨u,rfl,a8⟩:=vals1 r;cases a8
 have fin:∀(its:af'),bP ys its->ys.length<=TI->∀(h':Yn)(dg:Nat),(∀b d3,s.heap.get? b=some d3->h'.get? b=some d3)->
   h'.get? s.heap.objs.size=some {cls:=.type "list",dict:=none,data:=.seq its.toArray dg,slots :=#[]}->fA X af σ Q (.ref s.heap.objs.size) {s with heap:=h' }:=λits cG hz h' dg kp e=>
  ⟨.ref s.heap.objs.size,_,I.laid (t':=s.toks) kp (SG _) (show f2 X.prog X.w _ h' _ (.lst ys)from⟨hz,its,dg,cG,e⟩),rfl,q _ (I.hok.fresh (SG _))⟩
 rcases aA with aA|aA
 ·obtain⟨its,cG,cI,hz⟩:=I.list aA;have fE:=cG.length;obtain⟨o,aM,hc,n,hd⟩:=cI.isList;exact call_list_seq p (.inl rfl) aM hc hd (λh' dg kp e=>fin its cG hz h' dg kp e) (by simp only[SX]<;>lia)
 obtain⟨its,cG,cI,hz⟩:=I.tuple aA;have fE:=cG.length;obtain⟨o,aM,hc,n,hd⟩:=cI;exact call_list_seq p (.inr rfl) aM hc hd (λh' dg kp e=>fin its cG hz h' dg kp e) (by simp only[SX]<;>lia)
def v8(K:Sx)(T:String)(x:V)(H:al):Prop:=match x with
 |.str _=>T="str"
 |.int _=>T="int"
 |.ref p=>(T="list"/\∃xs,b0 K H p xs)\/(T="tuple"/\∃o,K.lookup p=some o/\o.cls=.type "tuple"/\o.dict=none) \/
   (T="dict"/\((∃kvs,H p=some (.dK kvs))\/∃kvs,H p=some (.dT kvs)))\/(T="set"/\∃S n,H p=some (.set S n))
 |_=>False
theorem Af{af:agd}{σ:St}{H:al}{s:SZ}{T:String}{x:V}{v:SL}(I:Inv X af σ H s)(r:RelV x v)(ty:v8 X.K T x H):
  s.TypeIs v T/\∀a,v=.ref a->∃b9,s.heap.get? a=some b9/\b9.dict=none:=by
 cases x with
 |str z=>
  obtain⟨t,rfl⟩:=r;cases(show T="str" from ty);exact⟨Y0 s z t,λ_ e=>nomatch e⟩
 |int i=>
  obtain⟨t,rfl⟩:=r;cases(show T="int" from ty);exact⟨typeIs_int s i t,λ_ e=>nomatch e⟩
 |ref p=>
  cases r;rcases ty with⟨rfl,xs,aA⟩|⟨rfl,o,hk,hc,hd⟩|⟨rfl,hk⟩|⟨rfl,S,n,hk⟩
  ·obtain⟨its,_,cI,_⟩:=I.list aA;refine⟨cI.isList.typeIs,λa e=>?_⟩;cases e;obtain⟨o,n,e,c,hd,_⟩:=cI;exact⟨o,e,hd⟩
  ·refine⟨⟨o,I.kIn p o hk,hc⟩,λa e=>?_⟩;cases e;exact⟨o,I.kIn _ o hk,hd⟩
  ·have z:∃o,s.heap.get? p=some o/\o.ExactDict:=by
    rcases hk with⟨kvs,hk⟩|⟨kvs,hk⟩
    ·obtain⟨_,_,_,_,o,_,_,e,ex,_⟩:=I.hok p _ hk;exact⟨o,e,ex⟩
    obtain⟨_,_,_,_,o,_,_,e,ex,_⟩:=I.hok p _ hk;exact⟨o,e,ex⟩
   obtain⟨o,e,ex⟩:=z;refine⟨⟨o,e,ex.1⟩,λa am=>?_⟩;cases am;exact⟨o,e,ex.2.1⟩
  obtain⟨o,_,_,_,e,ex,_⟩:=I.hok p _ hk;refine⟨⟨o,e,ex.1⟩,λa am=>?_⟩;cases am;exact⟨o,e,ex.2.1⟩
 |_=>exact TZ ty
def Jm(K:Sx)(T:String)(r:V->Z4->al->cf->Prop)(iO:bA):bA:=λσ H Q=>iO σ H λx ar=>v8 K T x ar/\r x [] ar Q
def Jn(K:Sx)(T:String)(r:V->Z4->al->cf->Prop)(iO:bA)(t:dX):bA:=λσ H Q=>iO σ H λx ar=>v8 K T x ar/\t σ ar λxs a0=>r x xs a0 Q
variable{o e:WP}{aD:agb}{iO:bA}{t:dX}{name:Str}{eh cX:Pos}{T id:String}{r:V->Z4->al->cf->Prop}
theorem Ag(kv:PlainAttrs T)(slot:Slot T name id)(v9:typeOf (.builtin id)=pure (.type "method_descriptor"))(az:Ac X id r)(aM:bE X o iO)(hR:jv X o name:=by rfl)(hS:jw eh cX:=by rfl):bE X (.Call (.Attribute o name eh) [] [] cX) (Jm X.K T r iO):=by
 intro af s σ H Q I h;refine wpAny_Call_method0_late hR hS (bQ (aM af s σ H _ I h) λv s1 ⟨x,ar,a6,ai,ty,aB⟩=>?_);obtain⟨aa,ab⟩:=Af a6 ai ty;exact⟨T,id,kv,slot,v9,aa,ab,Calls.callWith_builtin rfl (PySem.evalArgs_none (az af s1 σ ar x [] v [] Q a6 ai .nil aB))⟩
theorem mZ(kv:PlainAttrs T)(slot:Slot T name id)(v9:typeOf (.builtin id)=pure (.type "method_descriptor"))(az:Ac X id r)(aM:bE X o iO)(aq:f4 X (e::aD) t)(hR:jv X o name:=by rfl)(iQ:lZ X cX (e::aD):=by rfl)(hS:jw eh cX:=by rfl)(av:dE X e aD:=by rfl)(iR:hl X cX aD:=by rfl):
  bE X (.Call (.Attribute o name eh) (e::aD) [] cX) (Jn X.K T r iO t):=by
 intro af s σ H Q I h;refine wpAny_Call_method_late hR iQ hS rfl (bQ (aM af s σ H _ I h) λv s1 ⟨x,ar,a6,ai,ty,aB⟩=>?_);obtain⟨aa,ab⟩:=Af a6 ai ty;refine⟨T,id,kv,slot,v9,aa,ab,?_⟩;have fg:=aq cX af s1 σ ar _ a6 aB;rw[av]at fg⊢;refine Calls.callWith_builtin (by show(false||(Zp cX (Uf aD X.env)).any (·.1))=false;rw[iR]<;>rfl) (Calls.evalArgs_plain ?_);exact bQ fg λaO aI ⟨vs,a0,dt,aw,aL⟩=>az af aI σ a0 x vs v aO Q dt ai aw aL
end
def m0(X:a1)(id:String)(r:V->Z4->al->cf->Prop):Prop:=
 ∀(af:agd)(s:SZ)(σ:St)(H:al)(x:V)(xs:Z4)(v:SL)(aO:af')(Q:cf),Inv X af σ H s->RelV x v->bP xs aO->r x xs H Q->
  wpAny (Wp X.prog X.w) X.A (call (.builtin id) (v::aO)) (fA X af σ Q) X.xe s
theorem bP.one:∀{x:V}{aO:af'},bP [x] aO->∃u,aO=[u]/\RelV x u
 |_,_,.cons r .nil=>⟨_,rfl,r⟩
theorem bP.zero:∀{aO:af'},bP [] aO->aO=[]
 |_,.nil=>rfl
theorem bP.dropLast{xs:Z4}{aO:af'}(h:bP xs aO):bP xs.dropLast aO.dropLast:=by
 induction h with
 |nil=>exact .nil
 |cons r t b2=>
  cases t with
  |nil=>exact .nil
  |cons q t'=>exact .cons r b2
theorem bP.reverse{xs:Z4}{aO:af'}(h:bP xs aO):bP xs.reverse aO.reverse:=by
 induction h with
 |nil=>exact .nil
 |cons r t b2=>rw[Vs,Vs];exact bP.append b2 (.cons r .nil)
theorem Jo{α:Type}(l:List α):l.eraseIdx (l.length-1)=l.dropLast:=by
 induction l with
 |nil=>rfl
 |cons a r b2=>
  cases r with
  |nil=>rfl
  |cons b r=>
   have e:(a::b::r).length-1=((b::r).length-1)+1:=by
    have aa:(a::b::r).length=r.length+2:=rfl;have ab:(b::r).length=r.length+1:=rfl;lia
   rw[e,List.eraseIdx_cons_succ,b2]
   all_goals rfl
section
variable{X:a1}{af:agd}{σ:St}{H:al}{s:SZ}{l b:TE}{xs ys zs:Z4}
theorem Inv.lset{its its':af'}{n:Nat}{f:Array SL->Array SL}{t':Nat}(I:Inv X af σ H s)(eQ:H l=some (.lst xs))(e:s.heap.get? l=some {cls:=.type "list",data:=.seq its.toArray n})(hf:f its.toArray=its'.toArray)(hv:bP ys its')(hz:ys.length<=TI):
  Inv X af σ (upd H l (.lst ys)) {s with heap:=s.heap.update l (Obj.mapSeq f),toks:=t' }:=by
 have q:=PySem.IsL.update e f;rw[hf]at q;refine I.write (x:=l) (e:=l) (by rw[eQ];exact trivial) (.inl rfl) (λaft u ae hu=>(Heap.get?_update_other s.heap (Obj.mapSeq f) (S2 ae)).trans hu) ⟨_,q⟩ ?_;exact⟨hz,its',_,hv,q⟩
theorem Inv.lnew{its:af'}{t':Nat}(I:Inv X af σ H s)(hv:bP ys its)(hz:ys.length<=TI):
  Inv X af σ (upd H s.heap.objs.size (.lst ys)) {s with heap:=s.heap.push {cls:=.type "list",data:=.seq its.toArray},toks:=t' }:=
 I.laid (λ_ _ q=>Heap.get?_push_of_some _ q) (SG _) ⟨hz,its,0,hv,Heap.get?_push_size _ rfl⟩
theorem Inv.fresh(I:Inv X af σ H s):H s.heap.objs.size=none:=I.hok.fresh (SG _)
theorem Inv.lstM(I:Inv X af σ H s)(eQ:H l=some (.lst xs)):xs.length<=TI/\∃(its:af')(n:Nat),bP xs its/\xs.length=its.length/\s.heap.get? l=some {cls:=.type "list",data:=.seq its.toArray n}:=by
 obtain⟨z,its,n,r,e⟩:=I.hok l _ eQ;exact⟨z,its,n,r,r.length,e⟩
end
section
variable{X:a1}
def Jp:V->Z4->al->cf->Prop:=λx vs H Q=>∃l xs y,x=.ref l/\vs=[y]/\H l=some (.lst xs)/\xs.length<TI/\Q .non (upd H l (.lst (xs++[y])))
theorem v':m0 X "list.append" Jp:=by
 intro af s σ H x vs v aO Q I a8 bX h;obtain⟨l,xs,y,rfl,rfl,eQ,hz,q⟩:=h;cases a8;obtain⟨u,rfl,fS⟩:=bX.one;obtain⟨z,its,n,r,ax,e⟩:=I.lstM eQ;refine Y1 F.slot_list_append ⟨_,e,rfl⟩ F.entry_list_append (F.args_list_append_2 _ _) (PySem.list_append l its.toArray n u (by rw[SX];lia)) ⟨e,?_⟩;refine⟨.non,_,I.lset (its':=its++[u]) eQ e (by simp) (r.append (.cons fS .nil)) ?_,rfl,q⟩;rw[SU,U9];lia
def Jq:V->Z4->al->cf->Prop:=λx vs H Q=>∃l xs y,x=.ref l/\vs=[]/\H l=some (.lst xs)/\xs[xs.length-1]?=some y/\Q y (upd H l (.lst xs.dropLast))
theorem Jr:m0 X "list.pop" Jq:=by
 intro af s σ H x vs v aO Q I a8 bX h;obtain⟨l,xs,y,rfl,rfl,eQ,hy,q⟩:=h;cases a8;have wa:=bX.zero;subst wa;obtain⟨z,its,n,r,ax,e⟩:=I.lstM eQ;obtain⟨u,hu,fS⟩:=r.get hy
 have Js:its.toArray[its.toArray.size-1]?=some u:=by
  show its.toArray[its.length-1]?=some u
  rw[<-T7,<-ax];exact hu
 refine Y1 F.slot_list_pop ⟨_,e,rfl⟩ F.entry_list_pop (F.args_list_pop_1 _) (MeetsSeq.list_pop_last l its.toArray n u Js (by rw[SX];lia)) ⟨e,?_⟩;refine⟨y,_,I.lset (its':=its.dropLast) eQ e ?_ r.dropLast ?_,fS,q⟩
 ·show its.toArray.eraseIdxIfInBounds (its.toArray.size-1)=its.dropLast.toArray
  rw[SX,List.eraseIdxIfInBounds_toArray,Jo]
 rw[List.length_dropLast];lia
def Jt:V->Z4->al->cf->Prop:=λx vs H Q=>∃l xs,x=.ref l/\vs=[]/\H l=some (.lst xs)/\Q .non (upd H l (.lst xs.reverse))
theorem Ju:m0 X "list.reverse" Jt:=by
 intro af s σ H x vs v aO Q I a8 bX h;obtain⟨l,xs,rfl,rfl,eQ,q⟩:=h;cases a8;have wa:=bX.zero;subst wa;obtain⟨z,its,n,r,ax,e⟩:=I.lstM eQ;refine Y1 F.slot_list_reverse ⟨_,e,rfl⟩ F.entry_list_reverse (F.args_list_reverse_1 _) (AutoSeq1.list_reverse_list_0 l its.toArray n (by rw[SX];lia)) ⟨e,?_⟩;refine⟨.non,_,I.lset (its':=its.reverse) eQ e (by simp) r.reverse ?_,rfl,q⟩;rw[T8];lia
def Jv:f6:=λx y H Q=>∃l b xs zs,x=.ref l/\y=.ref b/\H l=some (.lst xs)/\H b=some (.lst zs)/\xs.length+zs.length<=TI/\∀p,H p=none->Q (.ref p) (upd H p (.lst (xs++zs)))
theorem Jw:ef X (Zb .Add) Jv:=by
 intro af s σ H x y v u Q I a8 b' h;obtain⟨l,b,xs,zs,rfl,rfl,eQ,fG,hz,q⟩:=h;cases a8;cases b';obtain⟨z,its,n,r,ax,e⟩:=I.lstM eQ;obtain⟨aU,f7,n2,aw,ma,am⟩:=I.lstM fG;refine PySem.P.add_list e am ?_ (by rw[SX,SX];lia);have ft:its.toArray++f7.toArray=(its++f7).toArray:=by simp
 rw[ft];exact⟨.ref _,_,I.lnew (t':=s.toks) (r.append aw) (by rw[SU];lia),rfl,q _ I.fresh⟩
end
section
variable{prog:UF}{w:Yd}{A:Yj}{E:SL->SZ->Prop}{s:SZ}
set_option maxRecDepth 100000 in
end
end L2
namespace Att
open PySem PySem.W PySem.Calls PyProof.Rows
theorem Jx{P:Params}{h:Yn}:∀(ns:Z5)(vs:af'),WellAll P h vs (ns.map WData.int)->Yr vs ns:=by
 intro ns;induction ns with
 |nil=>
  intro vs w;rw[T5]at w;cases w;exact .nil
 |cons n ns b2=>
  intro vs w;rw[SK]at w;cases w with
  |cons a b=>
   cases a;exact .cons _ _ (b2 _ b)
theorem Jy{l:OpenLaw}{n:Nat}(aG:l.most=some n){P:Params}{h:Yn}{args:List WData}{vals:af'}(r7:l.row.toRowW.claim.pre args=true)(wc:WellAll P h vals args):
  ∃a vs ns,vals=[Value.ref a]/\args=[WData.list (ns.map WData.int)]/\h.get? a=some {cls:=.type "list",data:=.seq vs.toArray}/\Yr vs ns/\ns.length<=n:=by
 have Jz:WShape.hasAll [] args [.list .int]=true:=(pre_splitW r7).1;have hc:l.pre.holds [] {args:=args}=true:=(pre_splitW r7).2;obtain⟨d,r,rfl,aa,ab⟩:=hasAllW_cons Jz;obtain rfl:=hasAllW_nil ab;obtain⟨xs,rfl,a'⟩:=hasW_list aa;obtain⟨ns,rfl⟩:=items_int a'
 have fE:ns.length<=n:=by
  unfold OpenLaw.pre at hc
  have bG:(WTm.not (.lt (.lit (.int (n:Int))) (.len (.arg 0)))).holds [] {args:=[.list (ns.map .int)]}=true:=by
   have bG:=(holds_andW hc).1;rwa[aG]at bG
  have eb:=condW_of bG (w_not (w_lt w_lit (w_len_list (w_arg rfl))));rw[Sw]at eb;refine We λq=>?_;have fP:(n:Int)<((ns.length:Nat):Int):=by lia
  first
   | (rw[Tl fP]at eb;exact absurd eb (by decide))
   | (simp at eb;lia)
 cases wc with
 |cons c9 e6=>
  cases e6;cases c9 with
  |list aM r8=>exact⟨_,_,ns,rfl,rfl,aM,Jx ns _ r8,fE⟩
theorem JA(l:OpenLaw)(args:List WData):l.row.toRowW.claim.post args (.bool true) args=true:=
 postW_of (r:=l.row.toRowW) (X:=(true==true))
  (show WShape.has [] (.bool true) .bool=true by first|rfl|decide|simp[WShape.has,WShape.arms,WShape.armsAll])
  (show(WTm.eq .res (.lit (.bool true))).value [] {args:=args,res:=some (.bool true),after:=args}=some (.bool (true==true))from w_eq_bool (w_res rfl) w_lit) rfl
theorem attach_call{l:OpenLaw}{n:Nat}{q:UF}{loose:af9}{XP:(Str->Option SL)->Yn->Prop}{YP:Yd->Yn->Prop}{d:DefRec}(aG:l.most=some n)(we:d.params.defaults=[])(call:∀(w:Yd)(s₀ cw:SZ)(mg fQ:Str->Option SL)(gC:TE)(o:Obj)(pm e3 doc:SL)(a:TE)(vs:af')(ns:Z5),Ground q loose [] XP w s₀ mg fQ cw.heap->YP w cw.heap->cw.heap.get? gC=some o->o.data=.func (docDef d.name d.params d.body d.scope pm e3 doc)->cw.heap.CodeRec e3 d.name->mg d.name=some (.ref gC)->cw.heap.get? a=some {cls:=.type "list",data:=.seq vs.toArray}->Yr vs ns->ns.length<=n->cw.gens = #[]->codeAny (Wp l.prog w) ZN (.call (.ref gC) ⟨[.ref a],[]⟩) (λr s'=>r=.ok (.ret (.bool true))/\OldK cw.heap s'.heap/\s'.os=cw.os/\Zq s'.gens) cw):
  WalkO q loose XP YP l.row.toRowW d [] (λf vs=>PySem.call f vs):=by
 intro w s₀ cw mg fQ G Y gC o pm e3 doc r3 kV aM hd ee f8 pN aJ args vals as r7 afu afv wc om;obtain rfl:r3=.none:=Dflts.none f8 we;obtain rfl:kV=.none:=Dflts.noKw f8;obtain⟨a,vs,ns,rfl,rfl,wf,hints,fE⟩:=Jy aG r7 wc;refine enter_call (Zc (call w s₀ cw mg fQ gC o pm e3 doc a vs ns G Y aM (fd_plain hd) ee pN wf hints fE aJ) λr s' aA=>?_);obtain⟨rfl,ab,a',bG⟩:=aA;exact⟨.inl ⟨.bool true,.bool true,[],rfl,λ_=>rfl,.bool true,JA l _,λ_=>⟨Xp,λ_ az=>(nomatch az)⟩⟩,ab,a',bG⟩
end Att
namespace L2
open PySem PySem.Spec PyProof.Rows
theorem Ah:∀{vs:af'}{ns:Z5},Yr vs ns->bP (ns.map V.int) vs
 |_,_,.nil=>.nil
 |_,_,.cons n t h=>.cons ⟨t,rfl⟩ (Ah h)
def Ai(H:al):Prop:=∀b,H b=none\/(∃o xs,H b=some (.frz o (.lst xs)))\/∃ps,H b=some (.tbl ps)
theorem JB{P:UF}{w:Yd}{K:Sx}{mg fQ:Str->Option SL}{eP:kt}{k:Nat}{gC a:TE}{fd:YK}{x:Str}{sp:hB}{cw:SZ}{vs:af'}{ns:Z5}(l':K.In cw.heap)(r9:cw.heap.Ns W1 mg)(ae:cw.heap.Ns Zd fQ)(JC:∀x:Str,x≠"__name__"->fQ x=YE x)(JD:cw.heap.NoLimit)(aJ:cw.gens = #[])(aq:cw.heap.get? a=some {cls:=.type "list",data:=.seq vs.toArray})(ao:Yr vs ns)(ax:ns.length<=TI)(au:eZ k ZN)(F:∀base:Yn,K.In base->base.Ns W1 mg->ij P w K mg base eP k gC fd [x] sp)(JE:∀(s:SZ)(u:SL),Z0 s fd ⟨[u],[]⟩ [(x,u)])(ik:al)(cM:∀b u,ik b=some u->(∃ps,u=dM.tbl ps)/\cw.heap.get? b=some {cls:=.none,data:=.fields #[]}/\K.lookup b=none/\isCodeTable cw.heap b)(tb:lY K ik)(ol:∀H:al,Ai H->b0 K H a (ns.map V.int)->sp [.ref a] H (λv _=>v=.bl true) λ_ _ _=>False)(JF:∀H e s',eP [] H cw (λ_ _ _=>False) e s'->False):
  codeAny (Wp P w) ZN (.call (.ref gC) ⟨[.ref a],[]⟩) (λr s'=>r=.ok (.ret (.bool true))/\OldK cw.heap s'.heap/\s'.os=cw.os/\Zq s'.gens) cw:=by
 have bX:=Ah ao;have JG:=ao.length
 have core:∀H:al,Ai H->b0 K H a (ns.map V.int)->eN P w H cw.heap->(∀b u,H b=some u->(b=a/\∃o xs,u=.frz o (.lst xs))\/ik b=some u)->(∀b u,H b=some u->K.lookup b=none)->lY K H->
   codeAny (Wp P w) ZN (.call (.ref gC) ⟨[.ref a],[]⟩) (λr s'=>r=.ok (.ret (.bool true))/\OldK cw.heap s'.heap/\s'.os=cw.os/\Zq s'.gens) cw:=by
  intro H Aj dH hok fg dZ fG;have Ak:∀{b:TE}{o:Obj},cw.heap.get? b=some o->H b=none->(kZ cw.heap H).get? b=some o:=λe n=>Hx e n
  have pK:∀{b:TE}{o:Obj}{aD:Array DictEntry}{bW:Nat},cw.heap.get? b=some o->o.data=.dict aD bW->H b=none:=λ{b o aD bW} e d=>by
   cases q:H b with
   |none=>rfl
   |some u=>
    rcases fg b u q with⟨a7,_⟩|a7
    ·subst a7;rw[aq]at e;cases e;cases d
    rw[(cM b u a7).2.1]at e;cases e;cases d
  have r':∀{b:TE}{m:Str->Option SL},cw.heap.Ns b m->(kZ cw.heap H).Ns b m:=λ{b m} ⟨o,aD,bW,e,d,r⟩=>⟨o,aD,bW,Ak e (pK e d),d,r⟩
  have Al:K.In (kZ cw.heap H):=λb o e=>Ak (l' b o e) (by
   cases q:H b with
   |none=>rfl
   |some u=>rw[dZ b u q]at e;cases e)
  have on:Mod K mg (kZ cw.heap H):=⟨Al,r' r9,⟨fQ,r' ae,JC⟩,let⟨m3,aa,ab⟩:=JD;⟨m3,r' aa,ab⟩⟩;have d4:r2 P w K mg (kZ cw.heap H) ZN [] cw H:=⟨rfl,on,λb o e=>Hy e,Wf (Hw _ _),trivial,λb ae=>absurd (show b∈([]:aga)from ae) (by simp),hok,.of_eq aJ,fG⟩;refine Zc ((F _ Al (r' r9)).run ZN [] cw H ⟨[.ref a],[]⟩ [.ref a] [.ref a] _ _ au d4 (JE cw (.ref a)) (.cons rfl .nil) (ol H Aj dH)) λr s' h=>?_;cases r with
  |error e=>exact(JF H e s' h).elim
  |ok fl=>
   cases fl with
   |next=>exact TZ h
   |brk=>exact TZ h
   |cont=>exact TZ h
   |ret u=>
    obtain⟨v,aj,os,bare,un,Am,cG,q⟩:=h;have fP:v=.bl true:=q;subst fP;obtain rfl:u=Value.bool true:=cG
    have An:∀b u,H b=some u->ik b=some u->∃a9,s'.heap.get? b=some {cls:=.none,data:=.fields a9}:=λb u q z=>by
     obtain⟨⟨ps,rfl⟩,_⟩:=cM b u z;obtain⟨more,aU⟩:=un.tbls b ps q;obtain⟨a9,am,_⟩:=Am b _ aU;exact⟨a9,am⟩
    have Ao:∀b o b9 xs,cw.heap.get? b=some o->H b=some (.frz b9 (.lst xs))->s'.heap.get? b=some o:=λb o b9 xs e z=>by
     have aU:=un.frzs b b9 _ z;obtain⟨ah,_⟩:=hok b _ z;obtain⟨am,_⟩:=Am b _ aU;rw[e]at ah;cases ah;exact am
    have Ap:∀b o,cw.heap.get? b=some o->H b=none->s'.heap.get? b=some o:=λb o e q=>un.keep b o e q (by intro z;exact absurd (show b∈([]:aga)from z) (by simp)) (by simp);refine⟨rfl,⟨λb o e=>?_,λb o e=>?_⟩,os,bare⟩
    ·cases q:H b with
     |none=>exact .inl (Ap b o e q)
     |some u=>
      rcases fg b u q with⟨_,b9,xs,rfl⟩|z
      ·exact .inl (Ao b o b9 xs e q)
      obtain⟨a9,am⟩:=An b u q z;obtain⟨_,ah,_,ct⟩:=cM b u z;rw[e]at ah;cases ah;exact .inr (.inl ⟨ct,rfl,#[],a9,rfl,by rw[am];simp⟩)
    cases q:H b with
    |none=>exact⟨o,Ap b o e q⟩
    |some u=>
     rcases fg b u q with⟨_,b9,xs,rfl⟩|z
     ·exact⟨o,Ao b o b9 xs e q⟩
     obtain⟨a9,am⟩:=An b u q z;exact⟨_,am⟩
 have tok:∀(H:al) b u,ik b=some u->f2 P w H cw.heap b u:=λH b u z=>by
  obtain⟨⟨ps,rfl⟩,e,_⟩:=cM b u z;exact⟨#[],e,trivial,λpos px hc=>by cases hc⟩
 have JH:ik a=none:=by
  cases z:ik a with
  |none=>rfl
  |some u=>have:=(cM a u z).2.1;rw[aq]at this;cases this
 cases hk:K.lookup a with
 |some o=>
  have e:=l' a o hk;rw[aq]at e;cases e;refine core ik (λb=>?_) (.inr ⟨_,vs.toArray,_,hk,rfl,rfl,rfl,by rw[SX,JG];exact ax,by simpa using bX⟩) (λb u z=>tok ik b u z) (λb u z=>.inr z) (λb u z=>(cM b u z).2.2.1) tb;cases z:ik b with
  |none=>exact .inl rfl
  |some u=>obtain⟨⟨ps,rfl⟩,_⟩:=cM b u z;exact .inr (.inr ⟨ps,rfl⟩)
 |none=>
  have at0:∀b,b≠a->(if b=a then some (dM.frz {cls:=.type "list",data:=.seq vs.toArray} (.lst (ns.map V.int)))else ik b)=ik b:=λb ae=>TW ae;refine core (λb=>if b=a then some (.frz {cls:=.type "list",data:=.seq vs.toArray} (.lst (ns.map V.int)))else ik b) (λb=>?_) (.inl (.inr ⟨{cls:=.type "list",data:=.seq vs.toArray},TT rfl⟩)) (λb u z=>?_) (λb u z=>?_) (λb u z=>?_) (λp ak=>?_)
  ·by_cases ae:b=a
   ·exact .inr (.inl ⟨_,_,TT ae⟩)
   dsimp only;rw[at0 b ae];cases z:ik b with
   |none=>exact .inl rfl
   |some u=>obtain⟨⟨ps,rfl⟩,_⟩:=cM b u z;exact .inr (.inr ⟨ps,rfl⟩)
  ·by_cases ae:b=a
   ·have dN:=(TT ae).symm.trans z;cases dN;subst ae;exact⟨aq,by rw[Sw];exact ax,vs,_,bX,aq⟩
   exact tok _ b u ((at0 b ae).symm.trans z)
  ·by_cases ae:b=a
   ·have dN:=(TT ae).symm.trans z;cases dN;exact .inl ⟨ae,_,_,rfl⟩
   exact .inr ((at0 b ae).symm.trans z)
  ·by_cases ae:b=a
   ·rw[ae];exact hk
   exact(cM b u ((at0 b ae).symm.trans z)).2.2.1
  obtain⟨ps,t,ah,am⟩:=tb p ak;have ae:p.1≠a:=λz=>by rw[z,JH]at ah;cases ah
  exact⟨ps,t,(at0 _ ae).trans ah,am⟩
def m4(s:Ym):ZD:=match s with
 |.FunctionDef _ a _ _ _ _ _ _ _ _=>a
 |_=>{posonlyargs:=[],args:=[],vararg:=none,kwonlyargs:=[],kw_defaults:=[],kwarg:=none,defaults:=[]}
def jF(s:Ym):List Ym:=match s with
 |.FunctionDef _ _ b _ _ _ _ _ _ _=>b
 |_=>[]
def bR(s:Ym):Y2:=match s with
 |.FunctionDef _ _ _ _ _ _ eM _ _ _=>eM
 |_=>{kind:=.function,names:=[],isGenerator:=false,isCoroutine:=false}
abbrev jG:kt:=λ_ _ _ _ _ _=>False
abbrev Aq:f3:=λ_ _ _=>False
theorem JI{X:a1}:vX jG X Aq:=λ_ _ _ _ _ _ _ h=>h.elim
structure kw(K:Sx)(x du:Str)(st:Ym)(f:TE)(fd:YK):Prop where
 ex:∃(oc:SL)(od:Option TE)(kV doc pm:SL)(an:Option TE)(cdv ct:SL)(osl:Array (Option SL)),
  fd=UN x du (m4 st) (jF st) (bR st) .none kV doc pm an cdv ct/\K.lookup f=some ⟨oc,od,.func fd,osl⟩/\Wb K cdv du=true
 kp:Vr K (.ref f)=true
section
variable{P:UF}{w:Yd}{K:Sx}{mg:Str->Option SL}{base:Yn}
theorem kw.ok{x du:Str}{st:Ym}{f:TE}{fd:YK}{N ps:af9}{k:Nat}{sp:hB}(F:kw K x du st f fd)(S:cb N ps (bR st))(len:∀vs H Q E,sp vs H Q E->vs.length=ps.length)(k9:∀(cdv:SL)(A:Yj)(outer:List Env)(s:SZ)(H:al)(vs:Z4)(Q:cf)(E:f3),eZ k (A.deeper (ZH du (bR st) s.heap.objs.size f cdv))->sp vs H Q E->∃t,hp (k8 jG P w K mg base N du (bR st) f cdv A outer s H E).nox (jF st) t/\t {nx:=λ_ aj=>Q .non aj,rt:=Q} (start N vs) H):ij P w K mg base jG (k+1) f fd ps sp:=by
 obtain⟨oc,od,kV,doc,pm,an,cdv,ct,osl,rfl,lk,ee⟩:=F.ex;refine I3 lk ee S len λA outer s H vs Q E au ol=>?_;obtain⟨t,h,q⟩:=k9 cdv A outer s H vs Q E au ol;exact⟨t,h.nox,q⟩
theorem kw.binds{x du:Str}{st:Ym}{f:TE}{fd:YK}{ps:af9}(F:kw K x du st f fd)(h:∀(kV doc pm:SL)(an:Option TE)(cdv ct:SL)(aO:af'),aO.length=ps.length->Z1 (UN x du (m4 st) (jF st) (bR st) .none kV doc pm an cdv ct) ⟨aO,[]⟩=pure (ps.zip aO)):Binds K fd ps []:=by
 obtain⟨oc,od,kV,doc,pm,an,cdv,ct,osl,rfl,lk,ee⟩:=F.ex;exact .all (h kV doc pm an cdv ct)
theorem JJ{x du:Str}{st:Ym}{f:TE}{oc:SL}{od an:Option TE}{osl:Array (Option SL)}{kV doc pm cdv ct:SL}(l:K.lookup f=some ⟨oc,od,.func (UN x du (m4 st) (jF st) (bR st) .none kV doc pm an cdv ct),osl⟩)(c:Wb K cdv du=true)(k:Vr K (.ref f)=true):kw K x du st f (UN x du (m4 st) (jF st) (bR st) .none kV doc pm an cdv ct):=⟨⟨oc,od,kV,doc,pm,an,cdv,ct,osl,rfl,l,c⟩,k⟩
end
section
variable{X:a1}
theorem cD(i:Nat){x:Str}{pos:Pos}(bU:jx X i x:=by rfl)(hv:ie X.env.scope x:=by walk_at"v")(hd:eC x:=by decide)(ee:iK x:=by decide):bE X (.Name x pos) (vF i):=jb bU hv hd ee
end
theorem JK{A B:Prop}(h:B):if false=true then A else B:=by
 rw[TW SN];exact h
theorem Ar{A B:Prop}(h:A):if true=true then A else B:=by
 rw[TT rfl];exact h
def ca(H aj:al):Prop:=∀b o,H b=some o->aj b=some o
theorem ca.refl(H:al):ca H H:=λ_ _ h=>h
theorem ca.trans{H ar a0:al}(a:ca H ar)(b:ca ar a0):ca H a0:=λc o h=>b c o (a c o h)
theorem ca.free{H aj:al}(e:ca H aj){l:TE}(h:aj l=Option.none):H l=Option.none:=by
 cases q:H l with
 |none=>rfl
 |some o=>
  rw[e l o q]at h;cases h
theorem ca.seq{K:Sx}{H aj:al}{a:TE}{xs:Z4}(e:ca H aj)(h:b0 K H a xs):b0 K aj a xs:=by
 rcases h with(h|⟨o,h⟩)|h
 ·exact .inl (.inl (e _ _ h))
 ·exact .inl (.inr ⟨o,e _ _ h⟩)
 exact .inr h
end L2
set_option maxHeartbeats 4000000
namespace L2
open PySem PySem.Spec PyProof.Rows
open PySem.Builtin.Int (intBits)
def pO(i j:Int):Prop:=T0 i<=9000/\T0 j<=9000
def wg(_ j:Int):Prop:=j≠0/\T0 j<=9000
theorem JL{x y:Int}(h:T0 y<=9000):Builtin.divisionGoesByPylong x y=false:=by
 by_cases bi:y=0
 ·subst bi;exact PyProof.noPylong_small (by decide)
 refine PyProof.noPylong_of_log2 ?_;have q:=intBits_le_iff.mp h;have aG:y.natAbs≠0:=by lia
 exact(Nat.log2_lt aG).mpr q
section
variable{X:a1}{a b:WP}{bq tb:bA}{pos:Pos}
theorem sb:ef X (Zb .Mult) (oi pO λi j=>.int (i*j)):=rX λ_ _ _ _ _ _ _ hc q=>mul_int q (IntMulOk.of_le hc.1 hc.2 (by decide))
theorem sc:ef X (Zb .FloorDiv) (oi wg λi j=>.int (i.fdiv j)):=rX λ_ _ _ _ _ _ _ hc q=>floordiv_int hc.1 q (.inl (JL hc.2))
theorem gS:ef X (Yq .Eq) (jd λi j=>.bl (decide (i=j))):=oj λ_ _ _ _ _ _ _ q=>eq_int (by rw[Xq];exact q)
theorem pP:ef X (Yq .NotEq) (jd λi j=>.bl (!decide (i=j))):=oj λ_ _ _ _ _ _ _ q=>ne_int (by rw[bne,Xq];exact q)
def JM(H:al)(p:TE)(xs:Z4):Prop:=H p=some (.tup xs)\/H p=some (.lst xs)
def JN:f6:=λx y H Q=>∃p xs i v,x=.ref p/\y=.int i/\JM H p xs/\ea xs i=some v/\Q v H
theorem m5:pM X JN:=by
 intro value slice af s σ H x y v u Q I a8 b' h av;obtain⟨p,xs,i,z,ah,am,aA,aF,q⟩:=h;rcases aA with aA|aA
 ·exact Jb value slice af s σ H x y v u Q I a8 b' ⟨p,xs,i,z,ah,am,dA.of aA,aF,q⟩ av
 exact Ad value slice af s σ H x y v u Q I a8 b' ⟨p,xs,i,z,ah,am,b0.of aA,aF,q⟩ av
theorem JO:iP X (.builtin "isinstance") (λxs H Q=>∃x t n b,xs=[x,.ty n]/\ii X.K H x t/\V9 X.K t (.type n)=some b/\Q (.bl b) H):=by
 intro af s σ H xs aO Q I r h;obtain⟨x,t,n,b,rfl,ty,e,q⟩:=h;obtain⟨u,eV,rfl,ai,aw⟩:=vals2 r;cases aw;exact IU I ai ty e λbm=>⟨.bl b,H,I.tok _,rfl,q⟩
structure aX(P:UF)(w:Yd)(K:Sx)(mg:Str->Option SL)(base:Yn)(x:Str)(ps:af9)(k:Nat)(sp:hB):Prop where
 ex:∃f fd,mg x=some (.ref f)/\Vr K (.ref f)=true/\Binds K fd ps []/\ij P w K mg base jG k f fd ps sp
structure cd(K:Sx)(mg:Str->Option SL)(x:Str)(st:Ym)(ps:af9):Prop where
 ex:∃f fd,mg x=some (.ref f)/\kw K x x st f fd/\Binds K fd ps []
theorem aX.imp{P:UF}{w:Yd}{K:Sx}{mg:Str->Option SL}{base:Yn}{x:Str}{ps:af9}{k:Nat}{sp pJ:hB}(c:aX P w K mg base x ps k sp)(h:∀vs H Q E,pJ vs H Q E->sp vs H Q E):aX P w K mg base x ps k pJ:=by
 obtain⟨f,fd,m,kp,b,F⟩:=c.ex;exact⟨f,fd,m,kp,b,F.imp h⟩
theorem se{x:Str}{ps:af9}{j k:Nat}{sp:hB}{p:Pos}{e:WP}{aD:agb}{t:dX}(c:aX X.prog X.w X.K X.mg X.base x ps j sp)(au:eZ k X.A)(aJ:c2 X x)(aq:f4 X (e::aD) t)(jH:j<=k:=by decide)(gR:eC x:=by decide)(aF:dE X e aD:=by rfl)(eE:hl X pos aD:=by rfl):
  bE X (.Call (.Name x p) (e::aD) [] pos) (z2 sp [] Aq t):=by
 obtain⟨f,fd,m,kp,b,F⟩:=c.ex;exact I1 F (au.mono jH) aJ m kp b .nil JI aq gR aF eE
theorem cd.ok{P:UF}{w:Yd}{K:Sx}{mg:Str->Option SL}{base:Yn}{x:Str}{st:Ym}{N ps:af9}{k:Nat}{sp:hB}(F:cd K mg x st ps)(S:cb N ps (bR st))(len:∀vs H Q E,sp vs H Q E->vs.length=ps.length)(k9:∀(f:TE)(cdv:SL)(A:Yj)(outer:List Env)(s:SZ)(H:al)(vs:Z4)(Q:cf)(E:f3),eZ k (A.deeper (ZH x (bR st) s.heap.objs.size f cdv))->sp vs H Q E->∃t,hp (k8 jG P w K mg base N x (bR st) f cdv A outer s H E).nox (jF st) t/\t {nx:=λ_ aj=>Q .non aj,rt:=Q} (start N vs) H):aX P w K mg base x ps (k+1) sp:=by
 obtain⟨f,fd,m,As,b⟩:=F.ex;exact⟨f,fd,m,As.kp,b,As.ok S len (k9 f)⟩
end
theorem dr{p:Prop}[Decidable p]{A B:Prop}(aa:p->A)(ab:¬p->B):if decide p=true then A else B:=by
 by_cases h:p
 ·rw[Tl h];exact aa h
 rw[Tk h];exact ab h
theorem pQ{p:Prop}[Decidable p]{A B:Prop}(aa:¬p->A)(ab:p->B):if(!decide p)=true then A else B:=by
 by_cases h:p
 ·rw[Tl h];exact ab h
 rw[Tk h];exact aa h
def pR(b:TE)(H aj:al):Prop:=∀a o,a≠b->H a=some o->aj a=some o
theorem pR.upd(b:TE)(H:al)(o:dM):pR b H (L2.upd H b o):=λa u n h=>by rw[cB n];exact h
theorem sf{H:al}{p:TE}(h:H p=none)(o:dM):ca H (L2.upd H p o):=λb u q=>by rw[cB (kY q h)];exact q
end L2
namespace L2
open PySem PySem.Spec PyProof.Rows
theorem eN.but{P:UF}{w:Yd}{H:al}{h h':Yn}{C:TE}(x:eN P w H h)(n:H C=none)(k:∀b u,b≠C->h.get? b=some u->h'.get? b=some u):eN P w H h':=λa o e=>
 (x a o e).stay (λb u ae q=>k b u (by rcases ae with rfl|ae;exact kY e n;exact kY ae n) q) (λ_ q=>q) (λ_ _ q=>q) λ_ _ _ q=>q
theorem eU.but{fs ex:aga}{H aj:al}{h aa ab:Yn}{C:TE}(u:eU fs ex H aj h aa)(wi:h.get? C=none)(k:∀b u,b≠C->aa.get? b=some u->ab.get? b=some u):eU fs ex H aj h ab where
 keep:=λb o q n f e=>k b o (by rintro rfl;rw[wi]at q;cases q) (u.keep b o q n f e)
 slot:=λb o q n f e=>by
  obtain⟨sl,z⟩:=u.slot b o q n f e;exact⟨sl,k b _ (by rintro rfl;rw[wi]at q;cases q) z⟩
 free:=u.free
 there:=λb o q e=>by
  obtain⟨d3,z⟩:=u.there b o q e;exact⟨d3,k b _ (by rintro rfl;rw[wi]at q;cases q) z⟩
 tups:=u.tups
 frzs:=u.frzs
 tbls:=u.tbls
def cY(X:a1)(N:af9)(scope:Y2)(cl:List (Str×TE))(C:TE)(s:SZ)(H:al)(ex:aga):a1:=
 {X with N:=N,s₀:=s,H₀:=H,env:=Zz scope cl C X.env,outer:=X.stack,ex:=ex,fn:=λ_=>false,pn:=[],xe:=λ_ _=>False}
def gq(σ:St)(js:Z8):St:=js.map λj=>(σ[j]?).join
theorem bP.getR:∀{xs:Z4}{aO:af'}{i:Nat}{u:SL},bP xs aO->aO[i]?=some u->∃x,xs[i]?=some x/\RelV x u
 |_,_,_,_,.nil,e=>by simp at e
 |_,_,0,_,.cons r _,e=>by simp at e;subst e;exact⟨_,rfl,r⟩
 |_,_,i+1,u,.cons _ t,e=>by
  obtain⟨x,aa,ab⟩:=bP.getR (i:=i) (u:=u) t (by simpa using e);exact⟨x,by simpa using aa,ab⟩
section
variable{X:a1}
theorem JP(hc:X.calm=true):iP X (.builtin "all") (λxs H Q=>∃l ys,xs=[.ref l]/\H l=some (.lst ys)/\(∀y∈ys,y=.bl true)/\Q (.bl true) H):=by
 intro af s σ H xs aO Q I r h;obtain⟨l,ys,rfl,ax,bw,q⟩:=h;obtain⟨u,rfl,ai⟩:=vals1 r;cases ai;obtain⟨its,bX,cI,hz⟩:=I.list (b0.of ax);have wj:=cI.isList
 have ce:l<s.heap.objs.size:=by
  obtain⟨_,e,_⟩:=wj;exact Heap.lt_size e
 refine call_all_walk (Zf wj ⟨s.heap.objs.size,[s.heap.objs.size,l],[s.heap.objs.size],its.toArray.size,_,_,λ_=>true,rfl,Walks.list (A:=X.A.in1) (I.ok.hd hc) _ l (SV ce) its.toArray,?_,?_,?_⟩)
 ·exact⟨⟨_,Heap.get?_push_size _ rfl,rfl,rfl⟩,wj.push _⟩
 ·intro i v s' k4 oo hP eD;obtain⟨y,iS,b'⟩:=bX.getR (i:=i) (u:=v) (by simpa using hP);have e:=bw y (S4 iS);subst e;cases b';exact XV eD
 intro h' bm hk;have e:((SA its.toArray.size).all λ_=>true)=true:=by simp
 rw[e];refine⟨.bl true,H,I.kept (h':=h') (t':=bm) λb o eY=>?_,rfl,q⟩;refine hk b o (λaz=>?_) (Heap.get?_push_of_some _ eY);rw[SP.mp az]at eY;exact Tc _ (Heap.lt_size eY)
theorem JQ(hc:X.calm=true):iP X (.builtin "sum") (λxs H Q=>∃(l:TE)(ns:Z5),xs=[.ref l]/\H l=some (.lst (ns.map V.int))/\Q (.int ns.sum) H):=by
 intro af s σ H xs aO Q I r h;obtain⟨l,ns,rfl,ax,q⟩:=h;obtain⟨u,rfl,ai⟩:=vals1 r;cases ai;obtain⟨its,bX,cI,hz⟩:=I.list (b0.of ax);have ao:=intsAre_of bX;obtain⟨ws,hx⟩:=ao.allInts.items;have JR:s.heap.IsList l (intItems ws):=hx▸cI.isList;refine sum_intListG (I.ok.hd hc) JR λh' bm t' hk=>?_
 have ah:ns=ws.toList.map (·.1):=by
  rw[<-nums_intItems,<-hx];exact(show numsOf its.toArray.toList=ns from ao.numsOf).symm
 have am:preSum (numAt ws) ws.size=ns.sum:=by
  rw[preSum_eq,Ul (by simp),ah]
 rw[am];exact⟨.int ns.sum,H,I.kept hk,⟨_,rfl⟩,q⟩
end
end L2
namespace Cut
open PySem
open PySem.Builtin.Int (intBits)
theorem lc{x:Int}(aa : -(2^64)<x)(ab:x<2^64):T0 x<=64:=intBits_le_64 aa ab
theorem f9{x t:Int}{n:Nat}(h:x.natAbs<=t.natAbs)(bw:T0 t<=n):T0 x<=n:=ZA h bw
def eF(x y:Int):Prop:=0<y/\Sy x y=1
theorem Au{x y:Int}(hx:0<=x)(hy:0<y):Sy y (x%y)=Sy x y:=by
 obtain⟨m,rfl⟩:=TV hx;obtain⟨n,rfl⟩:=TV (Tq hy);have e:((m:Int)%(n:Int))=((m%n:Nat):Int):=rfl;rw[e];show TA n (m%n)=TA m n
 rw[Wg m n,Nat.gcd_rec n m,Wg]
theorem Av(a b:Int):Sy (if a<0 then -a else a) (if b<0 then -b else b)=Sy a b:=by
 have e:∀z:Int,(if z<0 then -z else z).natAbs=z.natAbs:=λz=>by split<;>lia
 unfold Sy;rw[e,e]
theorem Aw{x:Int}(h:0<=x):((Sy x 0:Nat):Int)=x:=by
 rw[Int.gcd_zero_right];lia
theorem mb{t b:Int}(ae:b≠0):0<((Sy t b:Nat):Int):=by
 have:0<Sy t b:=Vt t ae;lia
theorem Ax{t b g s:Int}(ae:b≠0)(aJ:g=(Sy t b:Nat))(av:s=g/\0<b\/s = -g/\b<0):
  eF (t.fdiv s) (b.fdiv s)/\t.fdiv s*b=t*b.fdiv s/\(t.fdiv s).natAbs<=t.natAbs/\(b.fdiv s).natAbs<=b.natAbs:=by
 have fh:0<g:=by rw[aJ];exact mb ae
 have cQ:g∣t:=by rw[aJ];exact Vu t b
 have c4:g∣b:=by rw[aJ];exact U' t b
 have s1:s∣t:=by rcases av with⟨h,_⟩|⟨h,_⟩<;>rw[h];exact cQ;exact Wh.mpr cQ
 have aI:s∣b:=by rcases av with⟨h,_⟩|⟨h,_⟩<;>rw[h];exact c4;exact Wh.mpr c4
 have e0:s≠0:=by rcases av with⟨h,_⟩|⟨h,_⟩<;>lia
 obtain⟨x,hx⟩:=s1;obtain⟨y,hy⟩:=aI;have ex:t.fdiv s=x:=by rw[hx];exact UO x e0
 have iS:b.fdiv s=y:=by rw[hy];exact UO y e0
 have ah:(t.fdiv s).natAbs<=t.natAbs:=Yc t s;have am:(b.fdiv s).natAbs<=b.natAbs:=Yc b s;refine⟨⟨?_,?_⟩,?_,ah,am⟩
 ·rw[iS];rcases av with⟨h,ak⟩|⟨h,ak⟩
  ·rw[hy,h]at ak;exact Va ak fh
  rw[hy,h]at ak;have:0<g*y:=by rw[Int.neg_mul]at ak;lia
  exact Va this fh
 ·rw[ex,iS]
  have q:Sy t b=s.natAbs*Sy x y:=by
   rw[hx,hy,Wi]
  have le:s.natAbs=g.toNat:=by rcases av with⟨h,_⟩|⟨h,_⟩<;>lia
  have Ay:g.toNat=Sy t b:=by lia
  rw[le,Ay]at q;have pos:0<Sy t b:=Vt t ae;have:Sy t b*Sy x y=Sy t b*1:=by lia
  exact Wj pos this
 rw[ex,iS];have:x*b=x*(s*y):=by rw[<-hy]
 have ab:t*y=s*x*y:=by rw[<-hx]
 rw[this,ab,<-TL,Td x s]
theorem lf{k n m:Int}(h:k∣n*m)(g:Sy k n=1):k∣m:=by
 have q:=Int.dvd_gcd_mul_iff_dvd_mul.mpr h;rw[g]at q;simpa using q
theorem wk{x y x' y':Int}(h:eF x y)(h':eF x' y')(e:x*y'=x'*y):x=x'/\y=y':=by
 obtain⟨p,g⟩:=h;obtain⟨l4,g'⟩:=h'
 have cQ:y∣y':=by
  have:y∣x*y':=⟨x',by rw[e,Td]⟩;exact lf this (by rw[Um];exact g)
 have c4:y'∣y:=by
  have:y'∣x'*y:=⟨x,by rw[<-e,Td]⟩;exact lf this (by rw[Um];exact g')
 have iS:y=y':=Int.dvd_antisymm (Tq p) (Tq l4) cQ c4;refine⟨?_,iS⟩;rw[iS]at e;exact TB (by lia) e
end Cut
namespace Cut
def kx(x y z:Int):Prop:=0<z/\Sy (Sy x y:Nat) z=1
theorem wl(a b n:Int):Sy (Sy a n:Nat) b=TA (TA a.natAbs b.natAbs) n.natAbs:=by
 show TA (TA a.natAbs n.natAbs) b.natAbs=_
 rw[Nat.gcd_assoc,Wg n.natAbs,<-Nat.gcd_assoc]
theorem wm(a b n:Int):Sy (Sy a b:Nat) n=TA (TA a.natAbs b.natAbs) n.natAbs:=rfl
theorem Az{a b n:Int}(aG:n≠0):0<((Sy (Sy a n:Nat) b:Nat):Int):=by
 rw[wl];have:0<TA (TA a.natAbs b.natAbs) n.natAbs:=Nat.gcd_pos_of_pos_right _ (by lia);lia
theorem AA(a b n:Int):((Sy (Sy a n:Nat) b:Nat):Int)∣a/\((Sy (Sy a n:Nat) b:Nat):Int)∣b/\((Sy (Sy a n:Nat) b:Nat):Int)∣n:=by
 rw[wl];have aa:=Nat.gcd_dvd_left (TA a.natAbs b.natAbs) n.natAbs;have ab:=Xr (TA a.natAbs b.natAbs) n.natAbs;refine⟨?_,?_,?_⟩
 ·exact Wk.mpr (Nat.dvd_trans aa (Nat.gcd_dvd_left _ _))
 ·exact Wk.mpr (Nat.dvd_trans aa (Xr _ _))
 exact Wk.mpr ab
theorem AB{a b n g s:Int}(aG:n≠0)(aJ:g=(Sy (Sy a n:Nat) b:Nat))(av:s=g/\0<n\/s = -g/\n<0):
  kx (a.fdiv s) (b.fdiv s) (n.fdiv s)/\a.fdiv s*n=a*n.fdiv s/\b.fdiv s*n=b*n.fdiv s/\(a.fdiv s).natAbs<=a.natAbs/\(b.fdiv s).natAbs<=b.natAbs/\(n.fdiv s).natAbs<=n.natAbs:=by
 have fh:0<g:=by rw[aJ];exact Az aG
 obtain⟨cQ,c4,m6⟩:=AA a b n;rw[<-aJ]at cQ c4 m6;have e0:s≠0:=by rcases av with⟨h,_⟩|⟨h,_⟩<;>lia
 have wn:∀z:Int,g∣z->s∣z:=λz hz=>by
  rcases av with⟨h,_⟩|⟨h,_⟩<;>rw[h]
  ·exact hz
  exact Wh.mpr hz
 obtain⟨x,hx⟩:=wn a cQ;obtain⟨y,hy⟩:=wn b c4;obtain⟨z,hz⟩:=wn n m6;have ex:a.fdiv s=x:=by rw[hx];exact UO x e0
 have iS:b.fdiv s=y:=by rw[hy];exact UO y e0
 have dj:n.fdiv s=z:=by rw[hz];exact UO z e0
 refine⟨⟨?_,?_⟩,?_,?_,Wl a s,Wl b s,Wl n s⟩
 ·rw[dj];rcases av with⟨h,ak⟩|⟨h,ak⟩
  ·rw[hz,h]at ak;exact Va ak fh
  rw[hz,h]at ak;have:0<g*z:=by rw[Int.neg_mul]at ak;lia
  exact Va this fh
 ·rw[ex,iS,dj,wm];rw[wl,hx,hy,hz,Uw,Uw,Uw,Nat.gcd_mul_left,Nat.gcd_mul_left]at aJ;have le:s.natAbs=g.toNat:=by rcases av with⟨h,_⟩|⟨h,_⟩<;>lia
  have pos:0<s.natAbs:=by lia
  have q:s.natAbs*TA (TA x.natAbs y.natAbs) z.natAbs=s.natAbs*1:=by lia
  exact Wj pos q
 ·rw[ex,dj];have aa:x*n=x*(s*z):=by rw[<-hz]
  have ab:a*z=s*x*z:=by rw[<-hx]
  rw[aa,ab,<-TL,Td x s]
 rw[iS,dj];have aa:y*n=y*(s*z):=by rw[<-hz]
 have ab:b*z=s*y*z:=by rw[<-hy]
 rw[aa,ab,<-TL,Td y s]
theorem AC{x y z x' y' dN:Int}(g:Sy (Sy x y:Nat) z=1)(ah:x*dN=x'*z)(am:y*dN=y'*z):z∣dN:=by
 have cQ:z.natAbs∣x.natAbs*dN.natAbs:=⟨x'.natAbs,by rw[<-Uw,ah,Uw,Wm]⟩;have c4:z.natAbs∣y.natAbs*dN.natAbs:=⟨y'.natAbs,by rw[<-Uw,am,Uw,Wm]⟩;have m6:z.natAbs∣z.natAbs*dN.natAbs:=⟨dN.natAbs,rfl⟩;have q:=Nat.dvd_gcd (Nat.dvd_gcd cQ c4) m6;rw[Xu,Xu]at q;rw[wm]at g;rw[g,Nat.one_mul]at q;exact Vv.mp q
theorem JS{x y z x' y' dN:Int}(h:kx x y z)(h':kx x' y' dN)(ah:x*dN=x'*z)(am:y*dN=y'*z):x=x'/\y=y'/\z=dN:=by
 have cQ:=AC h.2 ah am;have c4:=AC h'.2 ah.symm am.symm;have dj:z=dN:=Int.dvd_antisymm (Tq h.1) (Tq h'.1) cQ c4;subst dj;have pS:z≠0:=Sz h.1;exact⟨TB pS ah,TB pS am,rfl⟩
theorem JT{a b n:Int}{k:Nat}(aG:n≠0)(h:Wn n<=k):Wn ((Sy (Sy a n:Nat) b:Nat):Int)<=k:=by
 refine PySem.intBits_le_of_natAbs ?_ h;exact Nat.le_of_dvd (by lia) (Vv.mpr (AA a b n).2.2)
theorem wo{u v:Int}(hu:0<u)(hv:0<v):u*v≠0:=Sz (SO hu hv)
theorem AD{x y z:Int}(h:kx x y z):kx (-x) (-y) z:=by
 refine⟨h.1,?_⟩;have g:=h.2;rw[wm]at g⊢;rw[Wo,Wo];exact g
end Cut
namespace L3
open PySem L2
open PySem.Builtin.Int (intBits)
inductive D where
 |non|bl (b:Bool)|int (i:Int)|str (x:Str)|ty (n:String)|tup (xs:List D)|lst (xs:List D)|scr (ns:Z5)|ktup (xs:List D)|kfn (f:TE)|dct (b:Bool) (ks:List agf) (ds:List D)
abbrev Z7:=List D
inductive jI where
 |l(ds:Z7)|d (b:Bool) (t:Option TE) (ks:List agf) (ds:Z7)
instance:Coe Z7 jI:=⟨jI.l⟩
inductive gT where
 |ll(a:TE)(as:aga)(dss:List Z7)|dl (b:Bool) (a:TE) (ks:List agf) (as:aga) (dss:List Z7)|nl (a:TE) (ds:Z7)
def gT.adr:gT->TE
 |.ll a _ _=>a
 |.dl _ a _ _ _=>a
 |.nl a _=>a
def gT.ins:gT->aga
 |.ll _ as _=>as
 |.dl _ _ _ as _=>as
 |.nl _ _=>[]
def gT.dss:gT->List Z7
 |.ll _ _ x=>x
 |.dl _ _ _ _ x=>x
 |.nl _ _=>[]
inductive aN where
 |no|val (d:D)|own (c:jI)|bag|new (d:D)|pin (v:V) (d:D)|deep (c:gT)
abbrev Z3:=List aN
def JU(b:Bool)(k:agf):Int:=
 if b then reduceHash (Builtin.Tuple.tupleHashOf (k.map λks=>reduceHash (Builtin.Tuple.tupleHashOf (ks.map hashInt))))else reduceHash (Builtin.Tuple.tupleHashOf ((k.headD []).map hashInt))
def wq(b:Bool)(k:agf):D:=if b then .tup (k.map λks=>.tup (ks.map D.int))else .tup ((k.headD []).map D.int)
def AE(b:Bool):List agf->aga->af'->List DictEntry
 |k::ks,a::as,u::aO=>⟨JU b k,.ref a,u⟩::AE b ks as aO
 |_,_,_=>[]
def wt(b:Bool)(a:TE)(bW:Nat)(ks:List agf)(as:aga)(vs:Z4):dM:=.ext λh=>ks.length<=TI/\as.length=ks.length/\vs.length=ks.length/\(a==ZL)=false /\
 ∃aO:af',bP vs aO/\∃o aD,h.get? a=some o/\o.ExactDict/\o.data=.dict aD bW/\aD.toList=AE b ks as aO/\ks.Nodup
mutual
inductive bH(K:Sx)(B:al):V->D->Prop where
 |non:bH K B .non .non
 |bl(b:Bool):bH K B (.bl b) (.bl b)
 |int(i:Int):bH K B (.int i) (.int i)
 |str(x:Str):bH K B (.str x) (.str x)
 |ty(n:String):bH K B (.ty n) (.ty n)
 |tup{a:TE}{vs:Z4}{ds:Z7}(h:B a=some (.tup vs))(r:Reps K B vs ds):bH K B (.ref a) (.tup ds)
 |lst{a:TE}{vs:Z4}{ds:Z7}(h:B a=some (.lst vs))(r:Reps K B vs ds):bH K B (.ref a) (.lst ds)
 |scr{a:TE}{ns:Z5}(h:b0 K B a (ns.map V.int)):bH K B (.ref a) (.scr ns)
 |ktup{a:TE}{vs:Z4}{ds:Z7}(h:dA K B a vs)(r:Reps K B vs ds):bH K B (.ref a) (.ktup ds)
 |kfn(f:TE):bH K B (.ref f) (.kfn f)
 |dct{a:TE}{b:Bool}{bW:Nat}{ks:List agf}{as:aga}{vs:Z4}{ds:Z7}(h:B a=some (wt b a bW ks as vs))(hk:Reps K B (as.map V.ref) (ks.map (wq b)))(ae:b=false->∀k∈ks,∃l,k=[l])(r:Reps K B vs ds):bH K B (.ref a) (.dct b ks ds)
inductive Reps(K:Sx)(B:al):Z4->Z7->Prop where
 |nil:Reps K B [] []
 |cons{v:V}{d:D}{vs:Z4}{ds:Z7}(h:bH K B v d)(r:Reps K B vs ds):Reps K B (v::vs) (d::ds)
end
theorem JV{K:Sx}{H aj:al}{a:TE}{xs:Z4}(e:ca H aj)(h:dA K H a xs):dA K aj a xs:=by
 rcases h with(h|⟨o,h⟩)|h
 ·exact .inl (.inl (e _ _ h))
 ·exact .inl (.inr ⟨o,e _ _ h⟩)
 exact .inr h
section
variable{K:Sx}{B aC:al}
mutual
theorem bH.mono(s:ca B aC):∀{v:V}{d:D},bH K B v d->bH K aC v d
 |_,_,.non=>.non
 |_,_,.bl b=>.bl b
 |_,_,.int i=>.int i
 |_,_,.str x=>.str x
 |_,_,.ty n=>.ty n
 |_,_,.tup h r=>.tup (s _ _ h) (Reps.mono s r)
 |_,_,.lst h r=>.lst (s _ _ h) (Reps.mono s r)
 |_,_,.scr h=>.scr (s.seq h)
 |_,_,.ktup h r=>.ktup (JV s h) (Reps.mono s r)
 |_,_,.kfn f=>.kfn f
 |_,_,.dct h hk ae r=>.dct (s _ _ h) (Reps.mono s hk) ae (Reps.mono s r)
theorem Reps.mono(s:ca B aC):∀{vs:Z4}{ds:Z7},Reps K B vs ds->Reps K aC vs ds
 |_,_,.nil=>.nil
 |_,_,.cons h r=>.cons (bH.mono s h) (Reps.mono s r)
end
theorem Reps.length:∀{vs:Z4}{ds:Z7},Reps K B vs ds->vs.length=ds.length
 |_,_,.nil=>rfl
 |_,_,.cons _ r=>by rw[SR,SR,r.length]
theorem Reps.get:∀{vs:Z4}{ds:Z7}{i:Nat}{d:D},Reps K B vs ds->ds[i]?=some d->∃v,vs[i]?=some v/\bH K B v d
 |_,_,_,_,.nil,e=>by simp at e
 |_,_,0,_,.cons h _,e=>by simp at e;subst e;exact⟨_,rfl,h⟩
 |_,_,i+1,d,.cons _ r,e=>by
  obtain⟨v,aa,ab⟩:=Reps.get (i:=i) (d:=d) r (by simpa using e);exact⟨v,by simpa using aa,ab⟩
theorem Reps.getV:∀{vs:Z4}{ds:Z7}{i:Nat}{v:V},Reps K B vs ds->vs[i]?=some v->∃d,ds[i]?=some d/\bH K B v d
 |_,_,_,_,.nil,e=>by simp at e
 |_,_,0,_,.cons h _,e=>by simp at e;subst e;exact⟨_,rfl,h⟩
 |_,_,i+1,v,.cons _ r,e=>by
  obtain⟨d,aa,ab⟩:=Reps.getV (i:=i) (v:=v) r (by simpa using e);exact⟨d,by simpa using aa,ab⟩
theorem Reps.append:∀{vs ws:Z4}{ds aD:Z7},Reps K B vs ds->Reps K B ws aD->Reps K B (vs++ws) (ds++aD)
 |_,_,_,_,.nil,s=>s
 |_,_,_,_,.cons h r,s=>.cons h (Reps.append r s)
theorem Reps.take:∀{vs:Z4}{ds:Z7}(n:Nat),Reps K B vs ds->Reps K B (vs.take n) (ds.take n)
 |_,_,0,_=>.nil
 |_,_,_+1,.nil=>.nil
 |_,_,n+1,.cons h r=>.cons h (Reps.take n r)
theorem Reps.drop:∀{vs:Z4}{ds:Z7}(n:Nat),Reps K B vs ds->Reps K B (vs.drop n) (ds.drop n)
 |_,_,0,r=>r
 |_,_,_+1,.nil=>.nil
 |_,_,n+1,.cons _ r=>Reps.drop n r
theorem Reps.ints:∀(ns:Z5),Reps K B (ns.map V.int) (ns.map D.int)
 |[]=>.nil
 |n::r=>.cons (.int n) (Reps.ints r)
end
def fU(H:al)(b:TE):Prop:=∃x y:Int,H b=some (.lst [.int x,.int y])/\0<=x/\0<=y/\y<2147483647
def cE(σ:St)(ρ:Z3)(i:Nat)(a:TE):Prop:=(σ[i]?=some (some (.ref a))/\(ρ[i]?=some .bag\/∃ds,ρ[i]?=some (.own ds)))\/∃c,ρ[i]?=some (.deep c)/\a∈c.adr::c.ins
structure Wd(R:al)(W:TE->Prop)(B H:al):Prop where
 fr:∀a o,R a=some o->¬W a->H a=some o
 bh:ca B H
 wb:∀a,W a->B a=none
 wh:∀a,W a->fU H a
 wr:∀a,W a->R a≠none
open Classical in
noncomputable def il(R:al)(W:TE->Prop)(B:al):al:=λa=>match R a with
 |some (.lst vs)=>if W a then B a else some (.lst vs)
 |_=>B a
theorem sg{R:al}{W:TE->Prop}{B aC:al}(s:ca B aC):ca (il R W B) (il R W aC):=λa o h=>by
 unfold il at h⊢;split at h
 ·split at h
  ·rename_i z;rw[TT z];exact s a o h
  rename_i z;rw[TW z];exact h
 exact s a o h
def lg(K:Sx)(B H:al)(a:TE):jI->Prop
 |.l ds=>∃vs,H a=some (.lst vs)/\Reps K B vs ds
 |.d b t ks ds=>∃bW as vs,(∀c,t=some c->c=a)/\H a=some (wt b a bW ks as vs)/\Reps K B (as.map V.ref) (ks.map (wq b))/\(b=false->∀k∈ks,∃l,k=[l])/\Reps K B vs ds
theorem lg.mono{K:Sx}{B aC H aj:al}{a:TE}{c:jI}(h:lg K B H a c)(s:ca B aC)(e:aj a=H a):lg K aC aj a c:=by
 cases c with
 |l ds=>obtain⟨vs,aa,ab⟩:=h;exact⟨vs,by rw[e];exact aa,ab.mono s⟩
 |d b t ks ds=>obtain⟨bW,as,vs,bi,aa,ab,a',bG⟩:=h;exact⟨bW,as,vs,bi,by rw[e];exact aa,ab.mono s,a',bG.mono s⟩
theorem lg.ne{K:Sx}{B H:al}{a:TE}{c:jI}(h:lg K B H a c):H a≠none:=by
 cases c with
 |l ds=>obtain⟨vs,aa,ab⟩:=h;rw[aa];simp
 |d b t ks ds=>obtain⟨bW,as,vs,_,aa,_⟩:=h;rw[aa];simp
structure mc(K:Sx)(B H:al)(as:aga)(dss:List Z7):Prop where
 len:as.length=dss.length
 at_:∀(i:Nat)(a:TE)(ds:Z7),as[i]?=some a->dss[i]?=some ds->∃vs,H a=some (.lst vs)/\Reps K B vs ds
theorem mc.mono{K:Sx}{B aC H aj:al}{as:aga}{dss:List Z7}(h:mc K B H as dss)(s:ca B aC)(e:∀a∈as,aj a=H a):mc K aC aj as dss:=
 ⟨h.len,λi a ds aa ab=>by
  obtain⟨vs,aB,aL⟩:=h.at_ i a ds aa ab
  exact⟨vs,by rw[e a (S4 aa)];exact aB,aL.mono s⟩⟩
theorem mc.ne{K:Sx}{B H:al}{as:aga}{dss:List Z7}(h:mc K B H as dss){a:TE}(m:a∈as):H a≠none:=by
 obtain⟨i,ao⟩:=TX m
 have lt:i<as.length:=by
  by_cases z:i<as.length
  ·exact z
  rw[TM (by lia)]at ao;cases ao
 obtain⟨vs,aB,_⟩:=h.at_ i a _ ao (SS (by rw[<-h.len];exact lt));rw[aB];simp
def d5(R B:al):al:=λa=>match B a with
 |some (.lst vs)=>if(R a).isNone then some (.lst vs)else none
 |o=>o
theorem ky{R B:al}:ca (d5 R B) B:=λa o h=>by
 unfold d5 at h;split at h
 ·rename_i vs e
  split at h
  ·rw[e];exact h
  cases h
 exact h
theorem oq{R B aC:al}(s:ca B aC):ca (d5 R B) (d5 R aC):=λa o h=>by
 have fG:=s a o (ky a o h);unfold d5 at h⊢;rw[fG];split at h
 ·rename_i vs e
  split at h
  ·rename_i z
   have:=SM h;subst this;dsimp only;rw[TT z]
  cases h
 rename_i ne
 cases o with
 |lst vs=>exact absurd h (ne vs)
 |_=>rfl
def wu(R B:al):gT->al
 |.nl _ _=>d5 R B
 |_=>B
theorem JW{R B aC:al}(s:ca B aC)(c:gT):ca (wu R B c) (wu R aC c):=by
 cases c with
 |nl a ds=>exact oq s
 |_=>exact s
def or(K:Sx)(B H:al):gT->Prop
 |.ll a as dss=>H a=some (.lst (as.map V.ref))/\mc K B H as dss
 |.dl b a ks as dss=>∃bW pT,H a=some (wt b a bW ks pT (as.map V.ref))/\Reps K B (pT.map V.ref) (ks.map (wq b))/\(b=false->∀k∈ks,∃l,k=[l])/\mc K B H as dss
 |.nl a ds=>∃vs,H a=some (.lst vs)/\Reps K B vs ds
structure AF(K:Sx)(R B H:al)(c:gT):Prop where
 fr:∀a∈c.adr::c.ins,R a=none/\B a=none
 nd:(c.adr::c.ins).Nodup
 ok:or K (wu R B c) H c
theorem or.mono{K:Sx}{B aC H aj:al}{c:gT}(h:or K B H c)(s:ca B aC)(e:∀a∈c.adr::c.ins,aj a=H a):or K aC aj c:=by
 cases c with
 |ll a as dss=>exact⟨by rw[e a SD];exact h.1,h.2.mono s λx m=>e x (SJ _ m)⟩
 |dl b a ks as dss=>
  obtain⟨bW,pT,aa,ab,a',bG⟩:=h;exact⟨bW,pT,by rw[e a SD];exact aa,ab.mono s,a',bG.mono s λx m=>e x (SJ _ m)⟩
 |nl a ds=>obtain⟨vs,aa,ab⟩:=h;exact⟨vs,by rw[e a SD];exact aa,ab.mono s⟩
theorem or.ne{K:Sx}{B H:al}{c:gT}(h:or K B H c){a:TE}(m:a∈c.adr::c.ins):H a≠none:=by
 cases c with
 |ll b as dss=>
  rcases SH.mp m with e|m
  ·rw[show a=b from e,h.1];simp
  exact h.2.ne m
 |dl b p ks as dss=>
  obtain⟨bW,pT,aa,ab,a',bG⟩:=h;rcases SH.mp m with e|m
  ·rw[show a=p from e,aa];simp
  exact bG.ne m
 |nl b ds=>
  obtain⟨vs,aa,ab⟩:=h;rcases SH.mp m with e|m
  ·rw[show a=b from e,aa];simp
  simp[gT.ins]at m
def AG(K:Sx)(R:al)(W:TE->Prop)(B H:al)(o:Option V):aN->Prop
 |.no=>True
 |.val d=>∃v,o=some v/\bH K B v d
 |.own c=>∃a,o=some (.ref a)/\R a=none/\B a=none/\lg K B H a c
 |.bag=>∃b,o=some (.ref b)/\(W b\/R b=none)/\B b=none/\fU H b
 |.new d=>∃v,o=some v/\bH K (il R W B) v d
 |.pin v d=>o=some v/\bH K (il R W B) v d
 |.deep c=>o=some (.ref c.adr)/\AF K R B H c
structure a3(K:Sx)(R:al)(W:TE->Prop)(B H:al)(σ:St)(ρ:Z3):Prop extends Wd R W B H where
 len:σ.length=ρ.length
 ok:∀(i:Nat)(k:aN),ρ[i]?=some k->AG K R W B H (σ[i]?).join k
 sep:∀(i j:Nat)(a:TE),cE σ ρ i a->cE σ ρ j a->i=j
structure bC(R B aC:al):Prop where
 s:ca B aC
 n:∀a o,aC a=some o->B a=some o\/R a=none
theorem bC.refl(R B:al):bC R B B:=⟨ca.refl _,λ_ _ h=>.inl h⟩
theorem bC.trans{R B aC AH:al}(g:bC R B aC)(h:bC R aC AH):bC R B AH:=⟨g.s.trans h.s,λa o e=>(h.n a o e).elim (g.n a o) .inr⟩
theorem Wd.fresh{R:al}{W:TE->Prop}{B H:al}(w:Wd R W B H){p:TE}(h:H p=none):R p=none/\¬W p/\B p=none:=by
 have ec:¬W p:=λz=>by
  obtain⟨x,y,e,_⟩:=w.wh p z;rw[h]at e;cases e
 refine⟨?_,ec,w.bh.free h⟩;cases q:R p with
 |none=>rfl
 |some o=>rw[w.fr p o q ec]at h;cases h
theorem f'{α:Type}{o:Option (Option α)}{v:α}(h:o.join=some v):o=some (some v):=by
 cases o with
 |none=>cases h
 |some x=>exact Ye some h
section
variable{K:Sx}{R:al}{W:TE->Prop}{B aC H aj:al}{σ:St}{ρ:Z3}
theorem a3.val(e:a3 K R W B H σ ρ){i:Nat}{d:D}(h:ρ[i]?=some (.val d)):∃v,σ[i]?=some (some v)/\bH K B v d:=by
 obtain⟨v,aa,ab⟩:=e.ok i _ h;exact⟨v,f' aa,ab⟩
theorem a3.ownAt(e:a3 K R W B H σ ρ){i:Nat}{ds:Z7}(h:ρ[i]?=some (.own ds)):∃a vs,σ[i]?=some (some (.ref a))/\R a=none/\B a=none/\H a=some (.lst vs)/\Reps K B vs ds:=by
 obtain⟨a,aa,ab,a',vs,bG,eb⟩:=e.ok i _ h;exact⟨a,vs,f' aa,ab,a',bG,eb⟩
theorem a3.ownC(e:a3 K R W B H σ ρ){i:Nat}{c:jI}(h:ρ[i]?=some (.own c)):∃a,σ[i]?=some (some (.ref a))/\R a=none/\B a=none/\lg K B H a c:=by
 obtain⟨a,aa,ab⟩:=e.ok i _ h;exact⟨a,f' aa,ab⟩
theorem a3.bagAt(e:a3 K R W B H σ ρ){i:Nat}(h:ρ[i]?=some .bag):∃b,σ[i]?=some (some (.ref b))/\(W b\/R b=none)/\B b=none/\fU H b:=by
 obtain⟨a,aa,ab⟩:=e.ok i _ h;exact⟨a,f' aa,ab⟩
theorem a3.deepAt(e:a3 K R W B H σ ρ){i:Nat}{c:gT}(h:ρ[i]?=some (.deep c)):σ[i]?=some (some (.ref c.adr))/\AF K R B H c:=by
 obtain⟨aa,ab⟩:=e.ok i _ h;exact⟨f' aa,ab⟩
theorem a3.mutOk(e:a3 K R W B H σ ρ){i:Nat}{a:TE}(m:cE σ ρ i a):B a=none/\H a≠none:=by
 rcases m with⟨aa,ab|⟨ds,ab⟩⟩|⟨c,aa,ab⟩
 ·obtain⟨b,ah,_,bz,x,y,cF,_⟩:=e.bagAt ab;rw[aa]at ah;cases ah;exact⟨bz,by rw[cF];simp⟩
 ·obtain⟨b,ah,_,bz,cF⟩:=e.ownC ab;rw[aa]at ah;cases ah;exact⟨bz,cF.ne⟩
 have q:=(e.deepAt aa).2;exact⟨(q.fr a ab).2,q.ok.ne ab⟩
theorem AI{i:Nat}{a:TE}(m:cE σ ρ i a)(n:∀c,ρ[i]?≠some (.deep c)):σ[i]?=some (some (.ref a))/\(ρ[i]?=some .bag\/∃ds,ρ[i]?=some (.own ds)):=by
 rcases m with m|⟨c,h,_⟩
 ·exact m
 exact absurd h (n c)
theorem pU{i:Nat}{a:TE}(m:cE σ ρ i a)(h:ρ[i]?=some .bag):σ[i]?=some (some (.ref a)):=(AI m λc z=>by rw[h]at z;cases z).1
theorem JX{i:Nat}{a:TE}{c:jI}(m:cE σ ρ i a)(h:ρ[i]?=some (.own c)):σ[i]?=some (some (.ref a)):=(AI m λc z=>by rw[h]at z;cases z).1
theorem a3.move(e:a3 K R W B H σ ρ)(w:Wd R W aC aj)(s:ca B aC)(m:∀i a,cE σ ρ i a->aC a=none/\(ρ[i]?=some .bag->fU aj a)/\(ρ[i]?≠some .bag->aj a=H a)):a3 K R W aC aj σ ρ:=by
 refine⟨w,e.len,λi k h=>?_,e.sep⟩;cases k with
 |no=>trivial
 |new d=>
  obtain⟨v,aa,ab⟩:=e.ok i _ h;exact⟨v,aa,ab.mono (sg s)⟩
 |pin v d=>
  obtain⟨aa,ab⟩:=e.ok i _ h;exact⟨aa,ab.mono (sg s)⟩
 |val d=>
  obtain⟨v,aa,ab⟩:=e.ok i _ h;exact⟨v,aa,ab.mono s⟩
 |own ds=>
  obtain⟨a,aa,ab,a',bG⟩:=e.ok i _ h;obtain⟨m1,m2,im⟩:=m i a (.inl ⟨f' aa,.inr ⟨ds,h⟩⟩);exact⟨a,aa,ab,m1,bG.mono s (im (by rw[h];simp))⟩
 |deep c=>
  obtain⟨aa,ab⟩:=e.ok i _ h
  have hT:∀a∈c.adr::c.ins,aC a=none/\aj a=H a:=λa iT=>by
   obtain⟨m1,m2,im⟩:=m i a (.inr ⟨c,h,iT⟩);exact⟨m1,im (by rw[h];simp)⟩
  exact⟨aa,λa iT=>⟨(ab.fr a iT).1,(hT a iT).1⟩,ab.nd,ab.ok.mono (JW s c) λa iT=>(hT a iT).2⟩
 |bag=>
  obtain⟨b,aa,ab,a',bG⟩:=e.ok i _ h;obtain⟨m1,m2,im⟩:=m i b (.inl ⟨f' aa,.inl h⟩);exact⟨b,aa,ab,m1,m2 h⟩
theorem fU.upd{H:al}{b p:TE}{o:dM}(h:fU H b)(n:b≠p):fU (L2.upd H p o) b:=by
 obtain⟨x,y,e,q⟩:=h;exact⟨x,y,by rw[cB n];exact e,q⟩
theorem Wd.alloc(w:Wd R W B H){p:TE}(h:H p=none)(o:dM):Wd R W (upd B p o) (upd H p o):=by
 obtain⟨bv,bJ,bY⟩:=w.fresh h;refine⟨λa u q ec=>?_,λa u q=>?_,λa z=>?_,λa z=>?_,w.wr⟩
 ·rw[cB (by rintro rfl;rw[bv]at q;cases q)];exact w.fr a u q ec
 ·unfold L2.upd at q⊢;split
  ·rename_i z;rwa[TT z]at q
  rename_i z;rw[TW z]at q;exact w.bh a u q
 ·rw[cB (by rintro rfl;exact bJ z)];exact w.wb a z
 exact(w.wh a z).upd (by rintro rfl;exact bJ z)
theorem Wd.allocH(w:Wd R W B H){p:TE}(h:H p=none)(o:dM):Wd R W B (upd H p o):=by
 obtain⟨bv,bJ,bY⟩:=w.fresh h;refine⟨λa u q ec=>?_,λa u q=>?_,w.wb,λa z=>?_,w.wr⟩
 ·rw[cB (by rintro rfl;rw[bv]at q;cases q)];exact w.fr a u q ec
 ·rw[cB (by rintro rfl;rw[bY]at q;cases q)];exact w.bh a u q
 exact(w.wh a z).upd (by rintro rfl;exact bJ z)
theorem a3.notNew(e:a3 K R W B H σ ρ){p:TE}(h:H p=none){i:Nat}{a:TE}(m:cE σ ρ i a):a≠p:=by
 rintro rfl;exact(e.mutOk m).2 h
theorem a3.alloc(e:a3 K R W B H σ ρ){p:TE}(h:H p=none)(o:dM):a3 K R W (upd B p o) (upd H p o) σ ρ:=by
 obtain⟨bv,bJ,bY⟩:=e.toWd.fresh h;refine e.move (e.toWd.alloc h o) (sf bY o) λi a m=>?_;have n:=e.notNew h m;refine⟨by rw[cB n];exact(e.mutOk m).1,λz=>?_,λ_=>cB n⟩;obtain⟨b,ah,_,_,cF⟩:=e.bagAt z;rw[pU m z]at ah;cases ah;exact cF.upd n
theorem a3.allocH(e:a3 K R W B H σ ρ){p:TE}(h:H p=none)(o:dM):a3 K R W B (upd H p o) σ ρ:=by
 refine e.move (e.toWd.allocH h o) (ca.refl _) λi a m=>?_;have n:=e.notNew h m;refine⟨(e.mutOk m).1,λz=>?_,λ_=>cB n⟩;obtain⟨b,ah,_,_,cF⟩:=e.bagAt z;rw[pU m z]at ah;cases ah;exact cF.upd n
theorem a3.grow(e:a3 K R W B H σ ρ){p:TE}(h:H p=none)(o:dM):bC R B (upd B p o):=by
 obtain⟨bv,bJ,bY⟩:=e.toWd.fresh h;refine⟨sf bY o,λa u q=>?_⟩;by_cases z:a=p
 ·subst z;exact .inr bv
 rw[cB z]at q;exact .inl q
theorem a3.freezeO(e:a3 K R W B H σ ρ){a:TE}{o:dM}(h:H a=some o)(au:R a=none)(ae:B a=none)(az:∀i,¬cE σ ρ i a):a3 K R W (upd B a o) H σ ρ/\bC R B (upd B a o):=by
 have ec:¬W a:=λz=>e.wr a z au;refine⟨e.move ⟨e.fr,λb u q=>?_,λb z=>?_,e.wh,e.wr⟩ (sf ae _) (λi b m=>?_),⟨sf ae _,λb u q=>?_⟩⟩
 ·by_cases z:b=a
  ·subst z;rw[eo]at q;cases q;exact h
  rw[cB z]at q;exact e.bh b u q
 ·rw[cB (by rintro rfl;exact ec z)];exact e.wb b z
 ·have n:b≠a:=by rintro rfl;exact az i m
  refine⟨by rw[cB n];exact(e.mutOk m).1,λz=>?_,λ_=>rfl⟩;obtain⟨c,ah,_,_,cF⟩:=e.bagAt z;rw[pU m z]at ah;cases ah;exact cF
 by_cases z:b=a
 ·subst z;exact .inr au
 rw[cB z]at q;exact .inl q
theorem a3.freeze(e:a3 K R W B H σ ρ){a:TE}{vs:Z4}(h:H a=some (.lst vs))(au:R a=none)(ae:B a=none)(az:∀i,¬cE σ ρ i a):a3 K R W (upd B a (.lst vs)) H σ ρ/\bC R B (upd B a (.lst vs)):=e.freezeO h au ae az
theorem jJ{α:Type}{l:List α}{i j:Nat}{x y:α}(h:(l.set i x)[j]?=some y):(j=i/\y=x)\/(j≠i/\l[j]?=some y):=by
 by_cases e:i=j
 ·subst e;rw[List.getElem?_set_self']at h;cases q:l[i]? with
  |none=>rw[q]at h;cases h
  |some z=>rw[q]at h;exact .inl ⟨rfl,(SM h).symm⟩
 rw[TY e]at h;exact .inr ⟨λz=>e z.symm,h⟩
def aN.adrs:aN->aga
 |.deep c=>c.adr::c.ins
 |_=>[]
theorem sh{i j:Nat}{v:V}{k:aN}{a:TE}(m:cE (σ.set i (some v)) (ρ.set i k) j a):(j=i/\((v=.ref a/\(k=.bag\/∃ds,k=.own ds))\/a∈k.adrs))\/(j≠i/\cE σ ρ j a):=by
 rcases m with⟨aa,ab⟩|⟨c,aa,ab⟩
 ·rcases jJ aa with⟨e,aa⟩|⟨e,aa⟩
  ·refine .inl ⟨e,.inl ⟨(SM aa).symm,?_⟩⟩;rcases ab with ab|⟨ds,ab⟩
   ·rcases jJ ab with⟨_,ab⟩|⟨n,_⟩
    ·exact .inl ab.symm
    exact absurd e n
   rcases jJ ab with⟨_,ab⟩|⟨n,_⟩
   ·exact .inr ⟨ds,ab.symm⟩
   exact absurd e n
  refine .inr ⟨e,.inl ⟨aa,?_⟩⟩;rcases ab with ab|⟨ds,ab⟩
  ·rcases jJ ab with⟨n,_⟩|⟨_,ab⟩
   ·exact absurd n e
   exact .inl ab
  rcases jJ ab with⟨n,_⟩|⟨_,ab⟩
  ·exact absurd n e
  exact .inr ⟨ds,ab⟩
 rcases jJ aa with⟨e,aa⟩|⟨e,aa⟩
 ·exact .inl ⟨e,.inr (by rw[<-aa];exact ab)⟩
 exact .inr ⟨e,.inr ⟨c,aa,ab⟩⟩
theorem AJ{i j:Nat}{v:V}{k:aN}{a:TE}(m:cE (σ.set i (some v)) (ρ.set i k) j a)(bx:k≠.bag)(n2:∀c,k≠.own c)(ep:k.adrs=[]):j≠i/\cE σ ρ j a:=by
 rcases sh m with⟨_,⟨_,z|⟨c,z⟩⟩|z⟩|m
 ·exact absurd z bx
 ·exact absurd z (n2 c)
 ·rw[ep]at z;cases z
 exact m
theorem a3.set(e:a3 K R W B H σ ρ)(i:Nat){v:V}{k:aN}(hk:AG K R W B H (some v) k)(az:∀a,v=.ref a->(k=.bag\/∃ds,k=.own ds)->∀j,j≠i->¬cE σ ρ j a)(hd:∀a∈k.adrs,∀j,j≠i->¬cE σ ρ j a:=by intro _ z;cases z):a3 K R W B H (σ.set i (some v)) (ρ.set i k):=by
 refine⟨e.toWd,by rw[T6,T6];exact e.len,λj gB h=>?_,λx y a hx hy=>?_⟩
 ·rcases jJ h with⟨rfl,rfl⟩|⟨n,h⟩
  ·have lt:j<σ.length:=by
    rw[e.len];by_cases z:j<ρ.length
    ·exact z
    rw[TM (by rw[T6];lia)]at h;cases h
   have q:((σ.set j (some v))[j]?).join=some v:=by rw[Uu lt];rfl
   rw[q];exact hk
  rw[TY (λz=>n z.symm)];exact e.ok j gB h
 rcases sh hx with⟨ah,aE⟩|⟨bx,m1⟩
 ·rcases sh hy with⟨am,_⟩|⟨n2,m2⟩
  ·rw[ah,am]
  rcases aE with⟨v1,cy⟩|aE
  ·exact absurd m2 (az a v1 cy y n2)
  exact absurd m2 (hd a aE y n2)
 rcases sh hy with⟨am,aU⟩|⟨n2,m2⟩
 ·rcases aU with⟨v2,k2⟩|aU
  ·exact absurd m1 (az a v2 k2 x bx)
  exact absurd m1 (hd a aU x bx)
 exact e.sep x y a m1 m2
theorem a3.setV(e:a3 K R W B H σ ρ)(i:Nat){v:V}{d:D}(r:bH K B v d):a3 K R W B H (σ.set i (some v)) (ρ.set i (.val d)):=
 e.set i ⟨v,rfl,r⟩ λ_ _ z=>by rcases z with z|⟨_,z⟩<;>cases z
theorem a3.setO(e:a3 K R W B H σ ρ)(i:Nat){a:TE}{vs:Z4}{ds:Z7}(au:R a=none)(ae:B a=none)(dP:H a=some (.lst vs))(r:Reps K B vs ds)(az:∀j,j≠i->¬cE σ ρ j a):a3 K R W B H (σ.set i (some (.ref a))) (ρ.set i (.own ds)):=
 e.set i ⟨a,rfl,au,ae,vs,dP,r⟩ λb z _=>by cases z;exact az
theorem a3.writeC(e:a3 K R W B H σ ρ){i:Nat}{a:TE}{c dg:jI}{o:dM}(h:σ[i]?=some (some (.ref a)))(aM:ρ[i]?=some (.own c))(r:lg K B (upd H a o) a dg):a3 K R W B (upd H a o) σ (ρ.set i (.own dg)):=by
 obtain⟨rZ,ah,am,bz,cF⟩:=e.ownC aM;rw[h]at ah;cases ah;have ec:¬W a:=λz=>e.wr a z am;have gU:cE σ ρ i a:=.inl ⟨h,.inr ⟨c,aM⟩⟩;refine⟨⟨λb u q z=>?_,λb u q=>?_,e.wb,λb z=>?_,e.wr⟩,by rw[T6];exact e.len,λj k q=>?_,λx y b hx hy=>?_⟩
 ·rw[cB (by rintro rfl;rw[am]at q;cases q)];exact e.fr b u q z
 ·rw[cB (by rintro rfl;rw[bz]at q;cases q)];exact e.bh b u q
 ·exact(e.wh b z).upd (by rintro rfl;exact ec z)
 ·rcases jJ q with⟨rfl,rfl⟩|⟨n,q⟩
  ·exact⟨a,by rw[h];rfl,am,bz,r⟩
  have z:=e.ok j k q;cases k with
  |no=>trivial
  |new d=>exact z
  |pin v d=>exact z
  |val d=>exact z
  |own aD=>
   obtain⟨b,aE,aU,fV,fH⟩:=z;exact⟨b,aE,aU,fV,fH.mono (ca.refl _) (cB (by rintro rfl;exact n (e.sep j i b (.inl ⟨f' aE,.inr ⟨aD,q⟩⟩) gU)))⟩
  |deep d=>
   exact⟨z.1,z.2.fr,z.2.nd,z.2.ok.mono (ca.refl _) λb fQ=>cB (by rintro rfl;exact n (e.sep j i b (.inr ⟨d,q,fQ⟩) gU))⟩
  |bag=>
   obtain⟨b,aE,aU,fV,fH⟩:=z;exact⟨b,aE,aU,fV,fH.upd (by rintro rfl;exact n (e.sep j i b (.inl ⟨f' aE,.inl q⟩) gU))⟩
 have back:∀x,cE σ (ρ.set i (.own dg)) x b->cE σ ρ x b:=λx m=>by
  rcases m with⟨m1,m2⟩|⟨d,m1,m2⟩
  ·by_cases z:x=i
   ·subst z;exact .inl ⟨m1,.inr ⟨c,aM⟩⟩
   refine .inl ⟨m1,?_⟩;rwa[TY (λw=>z w.symm)]at m2
  rcases jJ m1 with⟨_,z⟩|⟨_,m1⟩
  ·cases z
  exact .inr ⟨d,m1,m2⟩
 exact e.sep x y b (back x hx) (back y hy)
theorem a3.write(e:a3 K R W B H σ ρ){i:Nat}{a:TE}{ds ot:Z7}{vs:Z4}(h:σ[i]?=some (some (.ref a)))(aM:ρ[i]?=some (.own ds))(r:Reps K B vs ot):a3 K R W B (upd H a (.lst vs)) σ (ρ.set i (.own ot)):=
 e.writeC h aM ⟨vs,eo,r⟩
theorem a3.fz(e:a3 K R W B H σ ρ){i:Nat}{ds:Z7}(aM:ρ[i]?=some (.own ds)):∃aC,a3 K R W aC H σ (ρ.set i (.val (.lst ds)))/\bC R B aC:=by
 obtain⟨a,vs,ah,am,bz,cF,ej⟩:=e.ownAt aM;have gU:cE σ ρ i a:=.inl ⟨ah,.inr ⟨ds,aM⟩⟩;have f:=(e.setV (d:=.non) i (v:=.non) .non)
 have bJ:=f.freeze cF am bz (λj m=>by
  obtain⟨n,m⟩:=AJ m (by simp) (by simp) rfl
  exact n (e.sep j i a m gU))
 refine⟨_,?_,bJ.2⟩;have g:=bJ.1.setV i (v:=.ref a) (d:=.lst ds) (.lst eo (ej.mono bJ.2.s));rw[Vw,Vw]at g
 have q:σ.set i (some (.ref a))=σ:=by
  apply Ux;intro j;by_cases z:i=j
  ·subst z
   have lt:i<σ.length:=by
    by_cases z:i<σ.length
    ·exact z
    rw[TM (by lia)]at ah;cases ah
   rw[Uu lt,ah]
  rw[TY z]
 rwa[q]at g
end
end L3
namespace L3
open PySem L2
open PySem.Builtin.Int (intBits)
abbrev a2:=Z3->(D->Prop)->Prop
abbrev cN:=Z3->(Z7->Prop)->Prop
abbrev cK:=Z3->(Bool->Prop)->Prop
inductive Arg where
 |val(d:D)|bag (i:Nat)
abbrev Z':=List Arg
abbrev hU:=Z3->(Z'->Prop)->Prop
structure fu where
 nx:Z3->Prop
 rt:aN->Prop
 bk:Z3->Prop:=λ_=>False
 ct:Z3->Prop:=λ_=>False
abbrev cx:=fu->Z3->Prop
abbrev e1:=D->Z3->(Z3->Prop)->Prop
abbrev md:=Z7->Z3->(Z3->Prop)->Prop
section
variable(K:Sx)
def dv(t:bA)(u:a2):Prop:=∀(ρ:Z3)(k:D->Prop),u ρ k->∀(R:al)(W:TE->Prop)(B H:al)(σ:St)(Q:cf),a3 K R W B H σ ρ->
 (∀d v aC aj,k d->a3 K R W aC aj σ ρ->bC R B aC->bH K aC v d->Q v aj)->t σ H Q
def si(t:bA)(u:cN):Prop:=∀(ρ:Z3)(k:Z7->Prop),u ρ k->∀(R:al)(W:TE->Prop)(B H:al)(σ:St)(Q:cf),a3 K R W B H σ ρ->
 (∀ds a vs aC aj,k ds->a3 K R W aC aj σ ρ->bC R B aC->R a=none->aC a=none->aj a=some (.lst vs)->Reps K aC vs ds->(∀i,¬cE σ ρ i a)->Q (.ref a) aj)->t σ H Q
def gV(t:dq)(u:cK):Prop:=∀(ρ:Z3)(k:Bool->Prop),u ρ k->∀(R:al)(W:TE->Prop)(B H:al)(σ:St)(Q:Bool->al->Prop),a3 K R W B H σ ρ->
 (∀b aC aj,k b->a3 K R W aC aj σ ρ->bC R B aC->Q b aj)->t σ H Q
def sj(t:dX)(u:cN):Prop:=∀(ρ:Z3)(k:Z7->Prop),u ρ k->∀(R:al)(W:TE->Prop)(B H:al)(σ:St)(Q:Z4->al->Prop),a3 K R W B H σ ρ->
 (∀ds vs aC aj,k ds->a3 K R W aC aj σ ρ->bC R B aC->Reps K aC vs ds->Q vs aj)->t σ H Q
inductive iU(B:al)(σ:St)(ρ:Z3):Z4->Z'->Prop where
 |nil:iU B σ ρ [] []
 |val{v:V}{d:D}{vs:Z4}{as:Z'}(h:bH K B v d)(r:iU B σ ρ vs as):iU B σ ρ (v::vs) (.val d::as)
 |bag{v:V}{i:Nat}{vs:Z4}{as:Z'}(h:σ[i]?=some (some v))(ae:ρ[i]?=some .bag)(r:iU B σ ρ vs as):iU B σ ρ (v::vs) (.bag i::as)
def JY(t:dX)(u:hU):Prop:=∀(ρ:Z3)(k:Z'->Prop),u ρ k->∀(R:al)(W:TE->Prop)(B H:al)(σ:St)(Q:Z4->al->Prop),a3 K R W B H σ ρ->
 (∀as vs aC aj,k as->a3 K R W aC aj σ ρ->bC R B aC->iU K aC σ ρ vs as->Q vs aj)->t σ H Q
def JZ(R B:al):gT->al
 |.dl _ _ _ _ _=>d5 R B
 |_=>B
def wv(R B H:al)(v:V):aN->Prop
 |.no=>False
 |.val d=>bH K B v d
 |.own c=>∃a,v=.ref a/\R a=none/\B a=none/\lg K B H a c
 |.bag=>∃b,v=.ref b/\R b=none/\B b=none/\fU H b
 |.new d=>bH K (d5 R B) v d
 |.pin _ _=>False
 |.deep c=>v=.ref c.adr/\H c.adr=some (.tup (c.ins.map V.ref))/\mc K (JZ R B c) H c.ins c.dss/\(∀a∈c.ins,R a=none/\B a=none)/\c.ins.Nodup
structure pV(R:al)(W:TE->Prop)(B:al)(U:fu)(D:k1):Prop where
 nx:∀ρ σ aC aj,U.nx ρ->a3 K R W aC aj σ ρ->bC R B aC->D.nx σ aj
 bk:∀ρ σ aC aj,U.bk ρ->a3 K R W aC aj σ ρ->bC R B aC->D.bk σ aj
 ct:∀ρ σ aC aj,U.ct ρ->a3 K R W aC aj σ ρ->bC R B aC->D.ct σ aj
 rt:∀r v aC aj,U.rt r->Wd R W aC aj->bC R B aC->wv K R aC aj v r->D.rt v aj
def AK(t:fp)(u:cx):Prop:=∀(U:fu)(ρ:Z3),u U ρ->∀(R:al)(W:TE->Prop)(B H:al)(σ:St)(D:k1),a3 K R W B H σ ρ->pV K R W B U D->t D σ H
def ou(g:e7)(u:e1):Prop:=∀(d:D)(ρ:Z3)(k:Z3->Prop),u d ρ k->∀(R:al)(W:TE->Prop)(B H:al)(σ:St)(v:V)(Q:St->al->Prop),a3 K R W B H σ ρ->bH K B v d->
 (∀bt a4,k bt->a3 K R W B H a4 bt->(∀j a,cE a4 bt j a->cE σ ρ j a)->Q a4 H)->g v σ H Q
def J0(g:l3)(u:md):Prop:=∀(ds:Z7)(ρ:Z3)(k:Z3->Prop),u ds ρ k->∀(R:al)(W:TE->Prop)(B H:al)(σ:St)(vs:Z4)(Q:St->al->Prop),a3 K R W B H σ ρ->Reps K B vs ds->
 (∀bt a4,k bt->a3 K R W B H a4 bt->(∀j a,cE a4 bt j a->cE σ ρ j a)->Q a4 H)->g vs σ H Q
def iV(B:al)(J:f5)(ds:Z7):Prop:=∀(H:al),ca B H->∀i,(i<ds.length->J.go i H)/\(ds.length<=i->J.stop i H)/\∀x aj,i<ds.length->J.yld i H x aj->aj=H/\∃d,ds[i]?=some d/\bH K B x d
def ww(t:bL)(u:cN):Prop:=∀(ρ:Z3)(k:Z7->Prop),u ρ k->∀(R:al)(W:TE->Prop)(B H:al)(σ:St)(Q:f5->al->Prop),a3 K R W B H σ ρ->
 (∀ds J aC aj,k ds->a3 K R W aC aj σ ρ->bC R B aC->iV K aC J ds->Q J aj)->t σ H Q
end
theorem wx{R AL B:al}(w:∀a,AL a=none->R a=none):ca (d5 AL B) (d5 R B):=λa o h=>by
 have fG:=ky a o h;unfold d5 at h⊢;rw[fG]at h⊢;cases o with
 |lst vs=>
  dsimp only at h⊢;split at h
  ·rename_i z
   rw[TT (by rw[Wq]at z⊢;exact w a z)]
  cases h
 |_=>rfl
theorem AM{R B:al}{a:TE}{vs:Z4}(h:B a=some (.lst vs))(n:R a=none):d5 R B a=some (.lst vs):=by
 unfold d5;rw[h];dsimp only;rw[TT (by rw[n];rfl)]
theorem AN{R B:al}{a:TE}{vs:Z4}(h:d5 R B a=some (.lst vs)):B a=some (.lst vs)/\R a=none:=by
 have fG:=ky a _ h;refine⟨fG,?_⟩;unfold d5 at h;rw[fG]at h;dsimp only at h;split at h
 ·rename_i z;rwa[Wq]at z
 cases h
theorem pV.grow{K:Sx}{R:al}{W:TE->Prop}{B aC:al}{U:fu}{D:k1}(s:pV K R W B U D)(g:bC R B aC):pV K R W aC U D:=
 ⟨λρ σ C H h e q=>s.nx ρ σ C H h e (g.trans q),λρ σ C H h e q=>s.bk ρ σ C H h e (g.trans q),λρ σ C H h e q=>s.ct ρ σ C H h e (g.trans q),λr v C H h e q z=>s.rt r v C H h e (g.trans q) z⟩
section
variable(X:a1)
def aV(e:WP)(u:a2):Prop:=∃t,bE X e t/\dv X.K t u
def hV(e:WP)(u:cN):Prop:=∃t,bE X e t/\si X.K t u
def fi(e:WP)(u:cK):Prop:=∃t,hm X e t/\gV X.K t u
def m7(e:WP)(u:cK):Prop:=∃t,k3 X e t/\gV X.K t u
def m8(aD:agb)(u:cN):Prop:=∃t,f4 X aD t/\sj X.K t u
def kz(aD:agb)(u:hU):Prop:=∃t,f4 X aD t/\JY X.K t u
def e9(s:Ym)(u:cx):Prop:=∃t,ho X s t/\AK X.K t u
def fW(s:agc)(u:cx):Prop:=∃t,hp X s t/\AK X.K t u
def io(e:WP)(u:e1):Prop:=∃t,hJ X e t/\ou X.K t u
def sk(e:agb)(u:md):Prop:=∃t,pB X e t/\J0 X.K t u
def lh(bd e:WP)(u:cN):Prop:=∃t,hN X bd e t/\ww X.K t u
end
def iW(i:Nat):a2:=λρ k=>∃d,ρ[i]?=some (.val d)/\k d
def kA(d:D):a2:=λ_ k=>k d
def pW(C:Int->Int->Prop)(g:Int->Int->D)(aS bf:a2):a2:=λρ k=>aS ρ λx=>bf ρ λy=>∃i j,x=.int i/\y=.int j/\C i j/\k (g i j)
def pX(g:Int->Int->D)(aS bf:a2):a2:=λρ k=>aS ρ λx=>bf ρ λy=>∃i j,x=.int i/\y=.int j/\k (g i j)
def AO(aS:a2):a2:=λρ k=>aS ρ λx=>∃i,x=.int i/\k (.int (-i))
section
variable{K:Sx}{X:a1}
theorem J1(i:Nat):dv K (vF i) (iW i):=by
 intro ρ k h R W B H σ Q e q;obtain⟨d,h,z⟩:=h;obtain⟨v,ah,r⟩:=e.val h;exact⟨v,ah,q d v B H z e (bC.refl _ _) r⟩
theorem pY{v:V}{d:D}(h:∀B,bH K B v d):dv K (mR v) (kA d):=λρ k z R W B H σ Q e q=>q d v B H z e (bC.refl _ _) (h B)
theorem li{bq tb:bA}{aS bf:a2}{r:f6}{f:D->D->(D->Prop)->Prop}(aq:dv K bq aS)(ae:dv K tb bf)(au:∀(x y:D)(k:D->Prop),f x y k->∀(R:al)(W:TE->Prop)(B H:al)(σ:St)(ρ:Z3)(v w:V)(Q:cf),a3 K R W B H σ ρ->bH K B v x->bH K B w y->(∀d v aC aj,k d->a3 K R W aC aj σ ρ->bC R B aC->bH K aC v d->Q v aj)->r v w H Q):
  dv K (kq r bq tb) (λρ k=>aS ρ λx=>bf ρ λy=>f x y k):=by
 intro ρ k h R W B H σ Q e q;refine aq ρ _ h R W B H σ _ e λx v a5 ar aa ah aK ai=>?_;refine ae ρ _ aa R W a5 ar σ _ ah λy w bu a0 ab am aP aw=>?_;exact au x y k ab R W bu a0 σ ρ v w Q am (ai.mono aP.s) aw λd u je cg a' bz g3 eg=>q d u je cg a' bz ((aK.trans aP).trans g3) eg
theorem J2{bq:bA}{aS:a2}{r:V->al->cf->Prop}{f:D->(D->Prop)->Prop}(aq:dv K bq aS)(au:∀(x:D)(k:D->Prop),f x k->∀(R:al)(W:TE->Prop)(B H:al)(σ:St)(ρ:Z3)(v:V)(Q:cf),a3 K R W B H σ ρ->bH K B v x->(∀d v aC aj,k d->a3 K R W aC aj σ ρ->bC R B aC->bH K aC v d->Q v aj)->r v H Q):
  dv K (vQ r bq) (λρ k=>aS ρ λx=>f x k):=by
 intro ρ k h R W B H σ Q e q;refine aq ρ _ h R W B H σ _ e λx v a5 ar aa ah aK ai=>?_;exact au x k aa R W a5 ar σ ρ v Q ah ai λd u je cg a' bz g3 eg=>q d u je cg a' bz (aK.trans g3) eg
theorem bH.intV{B:al}{v:V}{i:Int}(r:bH K B v (.int i)):v=.int i:=by cases r;rfl
theorem bH.blV{B:al}{v:V}{b:Bool}(r:bH K B v (.bl b)):v=.bl b:=by cases r;rfl
theorem bH.nonV{B:al}{v:V}(r:bH K B v .non):v=.non:=by cases r;rfl
theorem bH.tupV{B:al}{v:V}{ds:Z7}(r:bH K B v (.tup ds)):∃a vs,v=.ref a/\B a=some (.tup vs)/\Reps K B vs ds:=by
 cases r with|tup h r=>exact⟨_,_,rfl,h,r⟩
theorem bH.lstV{B:al}{v:V}{ds:Z7}(r:bH K B v (.lst ds)):∃a vs,v=.ref a/\B a=some (.lst vs)/\Reps K B vs ds:=by
 cases r with|lst h r=>exact⟨_,_,rfl,h,r⟩
theorem bH.scrV{B:al}{v:V}{ns:Z5}(r:bH K B v (.scr ns)):∃a,v=.ref a/\b0 K B a (ns.map V.int):=by
 cases r with|scr h=>exact⟨_,rfl,h⟩
theorem sn{C:Int->Int->Prop}{f:Int->Int->V}{g:Int->Int->D}{bq tb:bA}{aS bf:a2}(aJ:∀B i j,bH K B (f i j) (g i j))(aq:dv K bq aS)(ae:dv K tb bf):dv K (kq (oi C f) bq tb) (pW C g aS bf):=
 li aq ae λx y k h R W B H σ ρ v w Q e a8 b' q=>by
  obtain⟨i,j,rfl,rfl,hc,hk⟩:=h;exact⟨i,j,a8.intV,b'.intV,hc,q _ _ B H hk e (bC.refl _ _) (aJ B i j)⟩
theorem so{f:Int->Int->V}{g:Int->Int->D}{bq tb:bA}{aS bf:a2}(aJ:∀B i j,bH K B (f i j) (g i j))(aq:dv K bq aS)(ae:dv K tb bf):dv K (kq (jd f) bq tb) (pX g aS bf):=
 li aq ae λx y k h R W B H σ ρ v w Q e a8 b' q=>by
  obtain⟨i,j,rfl,rfl,hk⟩:=h;exact⟨i,j,a8.intV,b'.intV,q _ _ B H hk e (bC.refl _ _) (aJ B i j)⟩
theorem J3{bq:bA}{aS:a2}(aq:dv K bq aS):dv K (vQ (vR λi=>.int (-i)) bq) (AO aS):=
 J2 (f:=λx k=>∃i,x=.int i/\k (.int (-i))) aq λx k h R W B H σ ρ v Q e a8 q=>by
  obtain⟨i,rfl,hk⟩:=h;exact⟨i,a8.intV,q _ _ B H hk e (bC.refl _ _) (.int _)⟩
variable{a b:WP}{aS bf:a2}{pos:Pos}
theorem ag(i:Nat){x:Str}{pos:Pos}(bU:jx X i x:=by rfl)(hv:ie X.env.scope x:=by walk_at"v")(hd:eC x:=by decide)(ee:iK x:=by decide):aV X (.Name x pos) (iW i):=⟨_,jb bU hv hd ee,J1 i⟩
theorem aZ{i j pos}:aV X (.Constant (.int i) j pos) (kA (.int i)):=⟨_,eO,pY λ_=>.int _⟩
theorem fj{b j pos}:aV X (.Constant (.bool b) j pos) (kA (.bl b)):=⟨_,HI,pY λ_=>.bl _⟩
theorem gW{x j pos}:aV X (.Constant (.str x) j pos) (kA (.str x)):=⟨_,zE,pY λ_=>.str _⟩
theorem hC(aq:aV X a aS)(ae:aV X b bf):aV X (.BinOp a .Add b pos) (pX (λi j=>.int (i+j)) aS bf):=by
 obtain⟨_,aa,ai⟩:=aq;obtain⟨_,ab,aw⟩:=ae;exact⟨_,e8 rY aa ab,so (λ_ _ _=>.int _) ai aw⟩
theorem dQ(aq:aV X a aS)(ae:aV X b bf):aV X (.BinOp a .Sub b pos) (pX (λi j=>.int (i-j)) aS bf):=by
 obtain⟨_,aa,ai⟩:=aq;obtain⟨_,ab,aw⟩:=ae;exact⟨_,e8 IE aa ab,so (λ_ _ _=>.int _) ai aw⟩
theorem c5(aq:aV X a aS)(ae:aV X b bf):aV X (.BinOp a .Mult b pos) (pW pO (λi j=>.int (i*j)) aS bf):=by
 obtain⟨_,aa,ai⟩:=aq;obtain⟨_,ab,aw⟩:=ae;exact⟨_,e8 sb aa ab,sn (λ_ _ _=>.int _) ai aw⟩
theorem eG(aq:aV X a aS)(ae:aV X b bf):aV X (.BinOp a .FloorDiv b pos) (pW wg (λi j=>.int (i.fdiv j)) aS bf):=by
 obtain⟨_,aa,ai⟩:=aq;obtain⟨_,ab,aw⟩:=ae;exact⟨_,e8 sc aa ab,sn (λ_ _ _=>.int _) ai aw⟩
theorem sq(aq:aV X a aS)(ae:aV X b bf):aV X (.BinOp a .Mod b pos) (pW (λ_ j=>0<j) (λi j=>.int (i%j)) aS bf):=by
 obtain⟨_,aa,ai⟩:=aq;obtain⟨_,ab,aw⟩:=ae;exact⟨_,e8 l8 aa ab,sn (λ_ _ _=>.int _) ai aw⟩
theorem J4(aq:aV X a aS)(ae:aV X b bf):aV X (.BinOp a .Pow b pos) (pW vT (λi j=>.int (i^j.toNat)) aS bf):=by
 obtain⟨_,aa,ai⟩:=aq;obtain⟨_,ab,aw⟩:=ae;exact⟨_,e8 zU aa ab,sn (λ_ _ _=>.int _) ai aw⟩
theorem e'(aq:aV X a aS):aV X (.UnaryOp .USub a pos) (AO aS):=by
 obtain⟨_,aa,ai⟩:=aq;exact⟨_,ID IG aa,J3 ai⟩
def ov(op:ZZ)(f:Int->Int->Bool)(X:a1):Prop:=ef X (Yq op) (jd λi j=>.bl (f i j))
theorem kB{op:ZZ}{f:Int->Int->Bool}(aM:ov op f X)(aq:aV X a aS)(ae:aV X b bf)(az:Yh op b=false):aV X (.Compare a [op] [b] pos) (pX (λi j=>.bl (f i j)) aS bf):=by
 obtain⟨_,aa,ai⟩:=aq;obtain⟨_,ab,aw⟩:=ae;exact⟨_,pH aM aa ab az,so (λ_ _ _=>.bl _) ai aw⟩
def ow(aS:a2):cK:=λρ k=>aS ρ λx=>∃c,x=.bl c/\k c
def AP(u:cK):cK:=λρ k=>u ρ λc=>k (!c)
def AQ(u w:cK):cK:=λρ k=>u ρ λc=>if c=true then w ρ k else k false
def AR(u w:cK):cK:=λρ k=>u ρ λc=>if c=true then k true else w ρ k
theorem pZ{bq:bA}{aS:a2}(aq:dv K bq aS):gV K (zH bq) (ow aS):=by
 intro ρ k h R W B H σ Q e q;refine aq ρ _ h R W B H σ _ e λx v a5 ar aa ah aK ai=>?_;obtain⟨c,rfl,hk⟩:=aa;exact⟨c,ai.blV,q c a5 ar hk ah aK⟩
theorem fI{e:WP}{u:a2}(h:aV X e u)(aF:∀hn,ZO e X.env hn=(do let v <-hn;ZM e.pos;Y3 [v] (Z2 v)):=by intro _;rfl):fi X e (ow u):=by
 obtain⟨_,aa,ai⟩:=h;exact⟨_,HJ aa aF,pZ ai⟩
theorem dI{op:ZZ}{f:Int->Int->Bool}(aM:ov op f X)(aq:aV X a aS)(ae:aV X b bf)(az:Yh op b=false):fi X (.Compare a [op] [b] pos) (ow (pX (λi j=>.bl (f i j)) aS bf)):=by
 obtain⟨_,aa,ai⟩:=aq;obtain⟨_,ab,aw⟩:=ae;exact⟨_,mW aM aa ab az,pZ (so (λ_ _ _=>.bl _) ai aw)⟩
theorem J5{t:dq}{u:cK}(h:gV K t u):gV K (zK t) (AP u):=λρ k z R W B H σ Q e q=>h ρ _ z R W B H σ _ e λb aC aj aa ah aK=>q (!b) aC aj aa ah aK
theorem J6{t t':dq}{u eW:cK}(h:gV K t u)(h':gV K t' eW):gV K (zI t t') (AQ u eW):=by
 intro ρ k z R W B H σ Q e q;refine h ρ _ z R W B H σ _ e λb a5 ar aa ah aK=>?_;cases b with
 |true=>
  rw[TT rfl]at aa⊢;exact h' ρ _ aa R W a5 ar σ _ ah λc bu a0 ab am aP=>q c bu a0 ab am (aK.trans aP)
 |false=>
  rw[TW SN]at aa⊢;exact q false a5 ar aa ah aK
theorem J7{t t':dq}{u eW:cK}(h:gV K t u)(h':gV K t' eW):gV K (zJ t t') (AR u eW):=by
 intro ρ k z R W B H σ Q e q;refine h ρ _ z R W B H σ _ e λb a5 ar aa ah aK=>?_;cases b with
 |false=>
  rw[TW SN]at aa⊢;exact h' ρ _ aa R W a5 ar σ _ ah λc bu a0 ab am aP=>q c bu a0 ab am (aK.trans aP)
 |true=>
  rw[TT rfl]at aa⊢;exact q true a5 ar aa ah aK
theorem jf{u:cK}(h:fi X a u):fi X (.UnaryOp .Not a pos) (AP u):=by
 obtain⟨_,aa,ai⟩:=h;exact⟨_,HO aa,J5 ai⟩
theorem sr{u:cK}(h:fi X a u):m7 X (.BoolOp .And [a] pos) u:=by
 obtain⟨_,aa,ai⟩:=h;exact⟨_,HK aa,ai⟩
theorem lj{u:cK}(h:fi X a u):m7 X (.BoolOp .Or [a] pos) u:=by
 obtain⟨_,aa,ai⟩:=h;exact⟨_,HL aa,ai⟩
theorem w_and{rest:agb}{u eW:cK}(h:fi X a u)(h':m7 X (.BoolOp .And (b::rest) pos) eW):m7 X (.BoolOp .And (a::b::rest) pos) (AQ u eW):=by
 obtain⟨_,aa,ai⟩:=h;obtain⟨_,ab,aw⟩:=h';exact⟨_,HM aa ab,J6 ai aw⟩
theorem w_or{rest:agb}{u eW:cK}(h:fi X a u)(h':m7 X (.BoolOp .Or (b::rest) pos) eW):m7 X (.BoolOp .Or (a::b::rest) pos) (AR u eW):=by
 obtain⟨_,aa,ai⟩:=h;obtain⟨_,ab,aw⟩:=h';exact⟨_,HN aa ab,J7 ai aw⟩
theorem iX{u:cK}(h:m7 X a u):fi X a u:=by
 obtain⟨_,aa,ai⟩:=h;exact⟨_,aa.pt,ai⟩
def AS(u w:a2):a2:=λρ k=>u ρ λx=>∃c,x=.bl c/\if c=true then w ρ k else k (.bl false)
def J8(u w:a2):a2:=λρ k=>u ρ λx=>∃c,x=.bl c/\if c=true then k (.bl true)else w ρ k
def J9(u:a2):a2:=λρ k=>u ρ λx=>∃c,x=.bl c/\k (.bl (!c))
theorem lm{op:BoolOp}(h:aV X a aS):aV X (.BoolOp op [a] pos) aS:=by
 obtain⟨_,aa,ai⟩:=h;exact⟨_,HS aa,ai⟩
theorem m9{rest:agb}(h:aV X a aS)(h':aV X (.BoolOp .And (b::rest) pos) bf):aV X (.BoolOp .And (a::b::rest) pos) (AS aS bf):=by
 obtain⟨_,aa,ai⟩:=h;obtain⟨_,ab,aw⟩:=h';refine⟨_,HU aa ab,λρ k z R W B H σ Q e q=>?_⟩;refine ai ρ _ z R W B H σ _ e λx v a5 ar aE ah aK s1=>?_;obtain⟨c,rfl,aE⟩:=aE;refine⟨c,s1.blV,?_⟩;cases c with
 |true=>
  rw[TT rfl]at aE⊢;exact aw ρ _ aE R W a5 ar σ _ ah λd w bu a0 ab am aP aI=>q d w bu a0 ab am (aK.trans aP) aI
 |false=>
  rw[TW SN]at aE⊢;exact q _ _ a5 ar aE ah aK (.bl _)
theorem AT{rest:agb}(h:aV X a aS)(h':aV X (.BoolOp .Or (b::rest) pos) bf):aV X (.BoolOp .Or (a::b::rest) pos) (J8 aS bf):=by
 obtain⟨_,aa,ai⟩:=h;obtain⟨_,ab,aw⟩:=h';refine⟨_,HV aa ab,λρ k z R W B H σ Q e q=>?_⟩;refine ai ρ _ z R W B H σ _ e λx v a5 ar aE ah aK s1=>?_;obtain⟨c,rfl,aE⟩:=aE;refine⟨c,s1.blV,?_⟩;cases c with
 |false=>
  rw[TW SN]at aE⊢;exact aw ρ _ aE R W a5 ar σ _ ah λd w bu a0 ab am aP aI=>q d w bu a0 ab am (aK.trans aP) aI
 |true=>
  rw[TT rfl]at aE⊢;exact q _ _ a5 ar aE ah aK (.bl _)
theorem AU(h:aV X a aS):aV X (.UnaryOp .Not a pos) (J9 aS):=by
 obtain⟨_,aa,ai⟩:=h;refine⟨_,HW aa,λρ k z R W B H σ Q e q=>?_⟩;refine ai ρ _ z R W B H σ _ e λx v a5 ar aE ah aK s1=>?_;obtain⟨c,rfl,aE⟩:=aE;exact⟨c,s1.blV,q _ _ a5 ar aE ah aK (.bl _)⟩
def J'(c:cK)(u w:a2):a2:=λρ k=>c ρ λb=>if b=true then u ρ k else w ρ k
theorem ss{c:WP}{dw:cK}(hc:fi X c dw)(aq:aV X a aS)(ae:aV X b bf):aV X (.IfExp c a b pos) (J' dw aS bf):=by
 obtain⟨_,bi,ek⟩:=hc;obtain⟨_,aa,ai⟩:=aq;obtain⟨_,ab,aw⟩:=ae;refine⟨_,HY bi aa ab,λρ k z R W B H σ Q e q=>?_⟩;refine ek ρ _ z R W B H σ _ e λc a5 ar aE ah aK=>?_;cases c with
 |true=>
  rw[TT rfl]at aE⊢;exact ai ρ _ aE R W a5 ar σ _ ah λd w bu a0 ab am aP aI=>q d w bu a0 ab am (aK.trans aP) aI
 |false=>
  rw[TW SN]at aE⊢;exact aw ρ _ aE R W a5 ar σ _ ah λd w bu a0 ab am aP aI=>q d w bu a0 ab am (aK.trans aP) aI
def AV:cN:=λ_ k=>k []
def AW(u:a2)(w:cN):cN:=λρ k=>u ρ λd=>w ρ λds=>k (d::ds)
variable{e:WP}{aD:agb}{u:a2}{w:cN}
theorem Ka:sj K r0 AV:=λρ k h R W B H σ Q e q=>q [] [] B H h e (bC.refl _ _) .nil
theorem Kb{b6:bA}{t:dX}(aa:dv K b6 u)(ab:sj K t w):sj K (pI b6 t) (AW u w):=by
 intro ρ k h R W B H σ Q e q;refine aa ρ _ h R W B H σ _ e λd v a5 ar aE ah aK ai=>?_;refine ab ρ _ aE R W a5 ar σ _ ah λds vs bu a0 aU am aP aw=>?_;exact q _ _ bu a0 aU am (aK.trans aP) (.cons (ai.mono aP.s) aw)
theorem cc:m8 X [] AV:=⟨_,d9,Ka⟩
theorem ba(aq:aV X e u)(au:m8 X aD w)(av:dE X e aD:=by rfl):m8 X (e::aD) (AW u w):=by
 obtain⟨_,aa,ai⟩:=aq;obtain⟨_,ab,aw⟩:=au;exact⟨_,di aa ab av,Kb ai aw⟩
def Kc(w:cN):a2:=λρ k=>w ρ λds=>ds.length<=TI/\k (.tup ds)
theorem da{fF}(h:m8 X aD w):aV X (.Tuple aD fF pos) (Kc w):=by
 obtain⟨_,aa,ai⟩:=h;refine⟨_,IX aa,λρ k z R W B H σ Q e q=>?_⟩;refine ai ρ _ z R W B H σ _ e λds vs a5 ar aE ah aK s1=>?_;refine⟨by rw[s1.length];exact aE.1,λp ak=>?_⟩;have aP:=ah.grow ak (.tup vs);exact q _ _ _ _ aE.2 (ah.alloc ak _) (aK.trans aP) (.tup eo (s1.mono aP.s))
def Kd(w:cN):cN:=λρ k=>w ρ λds=>ds.length<=TI/\k ds
theorem fJ(h:m8 X aD w):hV X (.List aD pos) (Kd w):=by
 obtain⟨_,aa,ai⟩:=h;refine⟨_,r1 aa,λρ k z R W B H σ Q e q=>?_⟩;refine ai ρ _ z R W B H σ _ e λds vs a5 ar aE ah aK s1=>?_;refine⟨by rw[s1.length];exact aE.1,λp ak=>?_⟩;obtain⟨bv,bJ,bY⟩:=ah.toWd.fresh ak;exact q ds p vs a5 _ aE.2 (ah.allocH ak _) aK bv bY eo s1 λi m=>ah.notNew ak m rfl
def AX(w:cN):a2:=λρ k=>w ρ λds=>k (.lst ds)
theorem Ke{t:bA}(h:si K t w):dv K t (AX w):=by
 intro ρ k z R W B H σ Q e q;refine h ρ _ z R W B H σ _ e λds a vs a5 ar aE ah aK au ae dP p0 az=>?_;obtain⟨am,aP⟩:=ah.freeze dP au ae az;exact q _ _ _ _ aE am (aK.trans aP) (.lst eo (p0.mono aP.s))
theorem c'(h:hV X e w):aV X e (AX w):=by
 obtain⟨_,aa,ai⟩:=h;exact⟨_,aa,Ke ai⟩
def AY(aS bf:a2):a2:=λρ k=>aS ρ λx=>bf ρ λy=>∃ds i d,(x=.tup ds\/x=.lst ds)/\y=.int i/\ea ds i=some d/\k d
theorem AZ{B:al}{vs:Z4}{ds:Z7}{i:Int}{d:D}(r:Reps K B vs ds)(h:ea ds i=some d):∃v,ea vs i=some v/\bH K B v d:=by
 unfold ea at h⊢;rw[r.length];cases q:ixN ds.length i with
 |none=>rw[q]at h;cases h
 |some j=>
  rw[q]at h;exact r.get h
theorem gr(aq:aV X a aS)(ae:aV X b bf)(av:v5 b):aV X (.Subscript a b pos) (AY aS bf):=by
 obtain⟨_,aa,ai⟩:=aq;obtain⟨_,ab,aw⟩:=ae;refine⟨_,lb m5 aa ab av,li ai aw λx y k h R W B H σ ρ v eV Q e a8 b' q=>?_⟩;obtain⟨ds,i,d,hx,rfl,aq,hk⟩:=h;rcases hx with rfl|rfl
 ·obtain⟨p,vs,rfl,ak,p0⟩:=a8.tupV;obtain⟨z,hz,m'⟩:=AZ p0 aq;exact⟨p,vs,i,z,rfl,b'.intV,.inl (e.bh _ _ ak),hz,q d z B H hk e (bC.refl _ _) m'⟩
 obtain⟨p,vs,rfl,ak,p0⟩:=a8.lstV;obtain⟨z,hz,m'⟩:=AZ p0 aq;exact⟨p,vs,i,z,rfl,b'.intV,.inr (e.bh _ _ ak),hz,q d z B H hk e (bC.refl _ _) m'⟩
end
abbrev b4:=Z3->(aN->Prop)->Prop
def kC:Z3->Nat
 |[]=>0
 |.bag::r=>kC r+1
 |_::r=>kC r
inductive jg(K:Sx)(W:TE->Prop)(B:al):Z4->Z3->Prop where
 |nil:jg K W B [] []
 |val{v:V}{d:D}{vs:Z4}{as:Z3}(h:bH K B v d)(r:jg K W B vs as):jg K W B (v::vs) (.val d::as)
 |bag{b:TE}{vs:Z4}{as:Z3}(h:W b)(r:jg K W B vs as):jg K W B (.ref b::vs) (.bag::as)
structure Kf(K:Sx)(W:TE->Prop)(B H:al)(v:V)(r:aN)(aC aj:al):Prop where
 wd:Wd H W aC aj
 g:bC H B aC
 res:wv K H aC aj v r
def aY(K:Sx)(n:Nat)(F:b4):hB:=λvs H Q _=>∃(W:TE->Prop)(B:al)(as:Z3)(k:aN->Prop),F as k/\as.length=n/\Nat.ble (kC as) 1=true/\ca B H/\(∀a,W a->B a=none/\fU H a)/\jg K W B vs as /\
 ∀r v aC aj,k r->Kf K W B H v r aC aj->Q v aj
section
variable{K:Sx}{R:al}{W:TE->Prop}{B aC H aj:al}{σ:St}{ρ:Z3}
theorem jg.length:∀{vs:Z4}{as:Z3},jg K W B vs as->vs.length=as.length
 |_,_,.nil=>rfl
 |_,_,.val _ r=>by rw[SR,SR,r.length]
 |_,_,.bag _ r=>by rw[SR,SR,r.length]
theorem jg.get:∀{vs:Z4}{as:Z3},jg K W B vs as->∀(i:Nat)(k:aN),as[i]?=some k->(∃v d,vs[i]?=some v/\k=.val d/\bH K B v d)\/(∃b,vs[i]?=some (.ref b)/\k=.bag/\W b)
 |_,_,.nil,i,k,e=>by simp at e
 |_,_,.val h r,0,k,e=>by simp at e;subst e;exact .inl ⟨_,_,rfl,rfl,h⟩
 |_,_,.val h r,i+1,k,e=>by simpa using r.get i k (by simpa using e)
 |_,_,.bag h r,0,k,e=>by simp at e;subst e;exact .inr ⟨_,rfl,rfl,h⟩
 |_,_,.bag h r,i+1,k,e=>by simpa using r.get i k (by simpa using e)
theorem me:∀{as:Z3}{i:Nat},kC as=0->as[i]?≠some .bag
 |[],i,_=>by simp
 |.bag::r,i,h=>by simp[kC]at h
 |.no::r,0,h=>by simp
 |.no::r,i+1,h=>by simpa using me (as:=r) (i:=i) h
 |.val d::r,0,h=>by simp
 |.val d::r,i+1,h=>by simpa using me (as:=r) (i:=i) h
 |.new d::r,0,h=>by simp
 |.new d::r,i+1,h=>by simpa using me (as:=r) (i:=i) h
 |.pin v d::r,0,h=>by simp
 |.pin v d::r,i+1,h=>by simpa using me (as:=r) (i:=i) h
 |.own d::r,0,h=>by simp
 |.own d::r,i+1,h=>by simpa using me (as:=r) (i:=i) h
 |.deep d::r,0,h=>by simp
 |.deep d::r,i+1,h=>by simpa using me (as:=r) (i:=i) h
theorem na:∀{as:Z3}{i j:Nat},kC as<=1->as[i]?=some .bag->as[j]?=some .bag->i=j
 |[],i,j,_,e,_=>by simp at e
 |.bag::r,0,0,_,_,_=>rfl
 |.bag::r,0,j+1,h,_,e=>absurd (by simpa using e) (me (as:=r) (i:=j) (by simp[kC]at h;exact h))
 |.bag::r,i+1,_,h,e,_=>absurd (by simpa using e) (me (as:=r) (i:=i) (by simp[kC]at h;exact h))
 |.no::r,0,_,_,e,_=>by simp at e
 |.no::r,i+1,0,_,_,e=>by simp at e
 |.no::r,i+1,j+1,h,e,a7=>by rw[na (as:=r) (i:=i) (j:=j) h (by simpa using e) (by simpa using a7)]
 |.val d::r,0,_,_,e,_=>by simp at e
 |.val d::r,i+1,0,_,_,e=>by simp at e
 |.val d::r,i+1,j+1,h,e,a7=>by rw[na (as:=r) (i:=i) (j:=j) h (by simpa using e) (by simpa using a7)]
 |.new d::r,0,_,_,e,_=>by simp at e
 |.new d::r,i+1,0,_,_,e=>by simp at e
 |.new d::r,i+1,j+1,h,e,a7=>by rw[na (as:=r) (i:=i) (j:=j) h (by simpa using e) (by simpa using a7)]
 |.pin v d::r,0,_,_,e,_=>by simp at e
 |.pin v d::r,i+1,0,_,_,e=>by simp at e
 |.pin v d::r,i+1,j+1,h,e,a7=>by rw[na (as:=r) (i:=i) (j:=j) h (by simpa using e) (by simpa using a7)]
 |.own d::r,0,_,_,e,_=>by simp at e
 |.own d::r,i+1,0,_,_,e=>by simp at e
 |.own d::r,i+1,j+1,h,e,a7=>by rw[na (as:=r) (i:=i) (j:=j) h (by simpa using e) (by simpa using a7)]
 |.deep d::r,0,_,_,e,_=>by simp at e
 |.deep d::r,i+1,0,_,_,e=>by simp at e
 |.deep d::r,i+1,j+1,h,e,a7=>by rw[na (as:=r) (i:=i) (j:=j) h (by simpa using e) (by simpa using a7)]
theorem a3.after{ln:TE->Prop}(e:a3 K R W B H σ ρ)(gD:∀a,ln a->∃i:Nat,σ[i]?=some (some (.ref a))/\ρ[i]?=some .bag)(wd:Wd H ln aC aj)(g:bC H B aC):a3 K R W aC aj σ ρ/\bC R B aC:=by
 have lp:∀a,B a=none->H a≠none->aC a=none:=λa aa ab=>by
  cases q:aC a with
  |none=>rfl
  |some o=>
   rcases g.n a o q with z|z
   ·rw[aa]at z;cases z
   exact absurd z ab
 have st:∀a,¬ln a->H a≠none->aj a=H a:=λa aa ab=>by
  cases q:H a with
  |none=>exact absurd q ab
  |some o=>exact wd.fr a o q aa
 have A0:∀a,fU H a->fU aj a:=λa h=>by
  by_cases z:ln a
  ·exact wd.wh a z
  obtain⟨x,y,ah,q⟩:=h;exact⟨x,y,by rw[st a z (by rw[ah];simp)];exact ah,q⟩
 have Kg:∀a,fU H a->H a≠none:=λa ⟨x,y,ah,_⟩=>by rw[ah];simp
 refine⟨e.move ⟨λa o h ec=>?_,wd.bh,λa h=>lp a (e.wb a h) (Kg a (e.wh a h)),λa h=>A0 a (e.wh a h),e.wr⟩ g.s (λi a m=>⟨lp a (e.mutOk m).1 (e.mutOk m).2,λz=>?_,λz=>?_⟩),⟨g.s,λa o h=>?_⟩⟩
 ·have aa:=e.fr a o h ec;refine wd.fr a o aa λz=>?_;obtain⟨i,aE,aU⟩:=gD a z;obtain⟨b,cP,d1,_⟩:=e.bagAt aU;rw[aE]at cP;cases cP;rcases d1 with d1|d1
  ·exact ec d1
  rw[d1]at h;cases h
 ·obtain⟨b,cP,_,_,A1⟩:=e.bagAt z;rw[pU m z]at cP;cases cP;exact A0 _ A1
 ·refine st a (λq=>?_) (e.mutOk m).2;obtain⟨j,aE,aU⟩:=gD a q;have:=e.sep i j a m (.inl ⟨aE,.inl aU⟩);subst this;exact z aU
 rcases g.n a o h with z|z
 ·exact .inl z
 exact .inr (e.toWd.fresh z).1
theorem a3.start{N:af9}{vs:Z4}{as:Z3}(ae:kC as<=1)(dx:ca B H)(hw:∀a,W a->B a=none/\fU H a)(eH:jg K W B vs as):a3 K H W B H (L2.start N vs) (as++SY (N.length-as.length) .no):=by
 have ax:=eH.length;have wd:Wd H W B H:=⟨λ_ _ h _=>h,dx,λa h=>(hw a h).1,λa h=>(hw a h).2,λa h=>by obtain⟨x,y,q,_⟩:=(hw a h).2;rw[q];simp⟩
 have lo:∀i k,as[i]?=some k->(L2.start N vs)[i]?=(vs[i]?).map some:=λi k h=>by
  have lt:i<as.length:=by
   by_cases z:i<as.length
   ·exact z
   rw[TM (by lia)]at h;cases h
  unfold L2.start;rw[Tt (by rw[Sw];lia),S1]
 have cs:∀(i:Nat)(k:aN),(as++SY (N.length-as.length) aN.no)[i]?=some k->as[i]?=some k\/k=aN.no:=λi k h=>by
  by_cases z:i<as.length
  ·rw[Tt z]at h;exact .inl h
  rw[Tz (by lia)]at h;rw[UM]at h;split at h
  ·exact .inr (SM h).symm
  cases h
 have jK:∀i:Nat,(as++SY (N.length-as.length) aN.no)[i]?=some aN.bag->as[i]?=some aN.bag:=λi h=>by
  rcases cs i _ h with h|h
  ·exact h
  cases h
 refine⟨wd,by unfold L2.start;simp[ax],λi k h=>?_,λi j a m1 m2=>?_⟩
 ·rcases cs i k h with h|rfl
  ·rw[lo i k h];rcases eH.get i k h with⟨v,d,aa,rfl,r⟩|⟨b,aa,rfl,r⟩
   ·rw[aa];exact⟨v,rfl,r⟩
   rw[aa];exact⟨b,rfl,.inl r,(hw b r).1,(hw b r).2⟩
  trivial
 have one:∀i,cE (L2.start N vs) (as++SY (N.length-as.length) aN.no) i a->as[i]?=some .bag:=λi m=>by
  rcases m with⟨_,z|⟨ds,z⟩⟩|⟨c,z,_⟩
  ·exact jK i z
  ·rcases cs i _ z with z|z
   ·rcases eH.get i _ z with⟨v,d,_,q,_⟩|⟨b,_,q,_⟩<;>cases q
   cases z
  rcases cs i _ z with z|z
  ·rcases eH.get i _ z with⟨v,d,_,q,_⟩|⟨b,_,q,_⟩<;>cases q
  cases z
 exact na ae (one i m1) (one j m2)
theorem cz{P:UF}{w:Yd}{mg:Str->Option SL}{base:Yn}{x:Str}{st:Ym}{N ps:af9}{lv n:Nat}{F:b4}(wy:cd K mg x st ps)(S:cb N ps (bR st))(aG:ps.length=n)(k9:∀(f:TE)(cdv:SL)(A:Yj)(outer:List Uy)(s:SZ)(H:al)(E:f3),eZ lv (A.deeper (Xv x (bR st) s.heap.objs.size f cdv))->∃u,fW (k8 jG P w K mg base N x (bR st) f cdv A outer s H E).nox (jF st) u/\∀as k,as.length=n->F as k->u {nx:=λ_=>k (.val .non),rt:=k} (as++SY (N.length-n) .no)):aX P w K mg base x ps (lv+1) (aY K n F):=by
 refine wy.ok S (λvs H Q E h=>?_) (λf cdv A outer s H vs Q E au h=>?_)
 ·obtain⟨W,B,as,k,_,ax,_,_,_,eH,_⟩:=h;rw[eH.length,ax,aG]
 obtain⟨W,B,as,k,nb,ax,ae,dx,hw,eH,q⟩:=h;obtain⟨u,⟨t,bw,rt⟩,hu⟩:=k9 f cdv A outer s H E au;have iY:=a3.start (N:=N) (Xw ae) dx hw eH;rw[ax]at iY;refine⟨t,bw,rt _ _ (hu as k ax nb) H W B H (L2.start N vs) _ iY ⟨λρ σ aC aj h e g=>?_,λ_ _ _ _ h=>h.elim,λ_ _ _ _ h=>h.elim,λr v aC aj h e g z=>q r v aC aj h ⟨e,g,z⟩⟩⟩;exact q _ _ aC aj h ⟨e.toWd,g,.non⟩
end
def Arg.sl:Arg->aN
 |.val d=>.val d
 |.bag _=>.bag
@[reducible] def eI:aN->(D->Prop)->Prop
 |.val d,k=>k d
 |.own (.l ds),k=>k (.lst ds)
 |.new d,k=>k d
 |_,_=>False
def Kh:hU:=λ_ k=>k []
def Ki(u:a2)(w:hU):hU:=λρ k=>u ρ λd=>w ρ λas=>k (.val d::as)
def Kj(i:Nat)(w:hU):hU:=λρ k=>ρ[i]?=some .bag/\w ρ λas=>k (.bag i::as)
def bS(as:Z')(n:Nat):Bool:=Nat.beq as.length n&&Nat.ble (kC (as.map Arg.sl)) 1
def A2(n:Nat)(F:b4)(w:hU):a2:=λρ k=>w ρ λas=>bS as n=true/\F (as.map Arg.sl) λr=>eI r k
def Kk(n:Nat)(F:b4)(w:hU):cN:=λρ k=>w ρ λas=>bS as n=true/\F (as.map Arg.sl) λr=>∃ds:Z7,r=.own ds/\k ds
section
variable{K:Sx}{X:a1}{e:WP}{aD:agb}{u:a2}{w:hU}{pos p:Pos}{n:Nat}{F:b4}
theorem bg:kz X [] Kh:=⟨_,d9,λρ k h R W B H σ Q e q=>q [] [] B H h e (bC.refl _ _) .nil⟩
theorem aH(aq:aV X e u)(au:kz X aD w)(av:dE X e aD:=by rfl):kz X (e::aD) (Ki u w):=by
 obtain⟨_,aa,ai⟩:=aq;obtain⟨_,ab,aw⟩:=au;refine⟨_,di aa ab av,λρ k h R W B H σ Q e q=>?_⟩;refine ai ρ _ h R W B H σ _ e λd v a5 ar aE ah aK s1=>?_;refine aw ρ _ aE R W a5 ar σ _ ah λas vs bu a0 aU am aP aI=>?_;exact q _ _ bu a0 aU am (aK.trans aP) (.val (s1.mono aP.s) aI)
theorem el(i:Nat){x:Str}{c3:Pos}(au:kz X aD w)(bU:jx X i x:=by rfl)(hv:ie X.env.scope x:=by walk_at"v")(hd:eC x:=by decide)(ee:iK x:=by decide)(av:Uf (.Name x c3::aD) X.env=(false,YU (.Name x c3) X.env)::Uf aD X.env:=by rfl):kz X (.Name x c3::aD) (Kj i w):=by
 obtain⟨_,ab,aw⟩:=au;refine⟨_,di (jb bU hv hd ee) ab av,λρ k h R W B H σ Q e q=>?_⟩;obtain⟨ae,h⟩:=h;obtain⟨b,b7,cr⟩:=e.bagAt ae;refine⟨_,b7,?_⟩;refine aw ρ _ h R W B H σ _ e λas vs bu a0 aU am aP aI=>?_;exact q _ _ bu a0 aU am aP (.bag b7 ae aI)
theorem iU.toIn{B:al}{σ:St}{ρ:Z3}{W:TE->Prop}{R H:al}{Kl:TE->Prop}(e:a3 K R Kl B H σ ρ):∀{vs:Z4}{as:Z'},iU K B σ ρ vs as->(∀i b,Arg.bag i∈as->σ[i]?=some (some (.ref b))->W b)->jg K W B vs (as.map Arg.sl)
 |_,_,.nil,_=>.nil
 |_,_,.val h r,hw=>.val h (iU.toIn e r λi b m=>hw i b (SJ _ m))
 |_,_,.bag h ae r,hw=>by
  obtain⟨b,b7,_⟩:=e.bagAt ae;rw[h]at b7;cases b7;exact .bag (hw _ b SD h) (iU.toIn e r λi c m=>hw i c (SJ _ m))
theorem iU.bagIn{B:al}{σ:St}{ρ:Z3}:∀{vs:Z4}{as:Z'}{i:Nat},iU K B σ ρ vs as->Arg.bag i∈as->ρ[i]?=some .bag
 |_,_,_,.nil,m=>by simp at m
 |_,_,_,.val h r,m=>by
  rcases SH.mp m with m|m
  ·cases m
  exact r.bagIn m
 |_,_,_,.bag h ae r,m=>by
  rcases SH.mp m with m|m
  ·cases m;exact ae
  exact r.bagIn m
theorem su{R:al}{W:TE->Prop}{B H:al}{σ:St}{ρ:Z3}{vs:Z4}{as:Z'}{k:aN->Prop}{Q:cf}{E:f3}(e:a3 K R W B H σ ρ)(ok:iU K B σ ρ vs as)(av:bS as n=true)(nb:F (as.map Arg.sl) k)(q:∀r v aC aj,k r->a3 K R W aC aj σ ρ->bC R B aC->wv K H aC aj v r->Q v aj):aY K n F vs H Q E:=by
 rw[bS,Te]at av;have aa:as.length=n:=Nat.eq_of_beq_eq_true av.1;have gD:∀a,(∃i:Nat,Arg.bag i∈as/\σ[i]?=some (some (.ref a)))->∃i:Nat,σ[i]?=some (some (.ref a))/\ρ[i]?=some .bag:=λa ⟨i,m,z⟩=>⟨i,z,ok.bagIn m⟩;refine⟨λa=>∃i:Nat,Arg.bag i∈as/\σ[i]?=some (some (.ref a)),B,as.map Arg.sl,k,nb,by rw[Sw];exact aa,av.2,e.bh,λa h=>?_,ok.toIn e λi b m z=>⟨i,m,z⟩,λr v aC aj hk ex=>?_⟩
 ·obtain⟨i,aE,aU⟩:=gD a h;obtain⟨b,b7,_,ox,A3⟩:=e.bagAt aU;rw[aE]at b7;cases b7;exact⟨ox,A3⟩
 obtain⟨am,aP⟩:=e.after gD ex.wd ex.g;exact q r v aC aj hk am aP ex.res
theorem Km{x:Str}{ps:af9}{j lv:Nat}(c:aX X.prog X.w X.K X.mg X.base x ps j (aY X.K n F))(au:eZ lv X.A)(aJ:c2 X x)(aq:kz X (e::aD) w)(jH:j<=lv:=by decide)(gR:eC x:=by decide)(aF:dE X e aD:=by rfl)(eE:hl X pos aD:=by rfl):
  aV X (.Call (.Name x p) (e::aD) [] pos) (A2 n F w):=by
 obtain⟨_,aa,ai⟩:=aq;refine⟨_,se c au aJ aa jH gR aF eE,λρ k h R W B H σ Q e q=>?_⟩;refine ai ρ _ h R W B H σ _ e λas vs a5 ar aE ah aK s1=>?_;rw[TK];refine su ah s1 aE.1 aE.2 λr v bu a0 hk am aP res=>?_;cases r with
 |no=>exact hk.elim
 |bag=>exact hk.elim
 |pin v d=>exact hk.elim
 |deep c=>exact hk.elim
 |val d=>exact q d v bu a0 hk am (aK.trans aP) res
 |new d=>exact q d v bu a0 hk am (aK.trans aP) (bH.mono ky res)
 |own c=>
  cases c with
  |d _ _ _ _=>exact hk.elim
  |l ds=>
  obtain⟨a,rfl,bv,bJ,aO,bY,cR⟩:=res
  obtain⟨bz,g3⟩:=am.freeze bY (ah.toWd.fresh bv).1 bJ λi m=>absurd bv (by
   have m1:cE σ ρ i a:=m
   exact(ah.mutOk m1).2)
  exact q _ _ _ _ hk bz ((aK.trans aP).trans g3) (.lst eo (cR.mono g3.s))
theorem Kn{x:Str}{ps:af9}{j lv:Nat}(c:aX X.prog X.w X.K X.mg X.base x ps j (aY X.K n F))(au:eZ lv X.A)(aJ:c2 X x)(aq:kz X (e::aD) w)(jH:j<=lv:=by decide)(gR:eC x:=by decide)(aF:dE X e aD:=by rfl)(eE:hl X pos aD:=by rfl):
  hV X (.Call (.Name x p) (e::aD) [] pos) (Kk n F w):=by
 obtain⟨_,aa,ai⟩:=aq;refine⟨_,se c au aJ aa jH gR aF eE,λρ k h R W B H σ Q e q=>?_⟩;refine ai ρ _ h R W B H σ _ e λas vs a5 ar aE ah aK s1=>?_;rw[TK];refine su ah s1 aE.1 aE.2 λr v bu a0 hk am aP res=>?_;obtain⟨ds,rfl,hk⟩:=hk;obtain⟨a,rfl,bv,bJ,aO,bY,cR⟩:=res;exact q ds a aO bu a0 hk am (aK.trans aP) (ah.toWd.fresh bv).1 bJ bY cR λi m=>(ah.mutOk m).2 bv
end
def A4:D->Option Nat
 |.tup ds=>some ds.length
 |.lst ds=>some ds.length
 |.scr ns=>some ns.length
 |_=>none
def Ko(u:a2):a2:=λρ k=>u ρ λx=>∃n,A4 x=some n/\k (.int n)
def Kp(i:Nat):a2:=λρ k=>∃ds:Z7,ρ[i]?=some (.own ds)/\k (.int ds.length)
def Kq(u:a2):a2:=λρ k=>u ρ λx=>∃i,x=.int i/\k (.int (if i<0 then -i else i))
def A5:D->Option String
 |.int _=>some "int"
 |.bl _=>some "bool"
 |.tup _=>some "tuple"
 |.lst _=>some "list"
 |.non=>some "NoneType"
 |.str _=>some "str"
 |_=>none
def Kr(u:a2)(n:String):a2:=λρ k=>u ρ λx=>∃t b,A5 x=some t/\(∀K,V9 K (.type t) (.type n)=some b)/\k (.bl b)
section
variable{K:Sx}{X:a1}{e:WP}{aD:agb}{u:a2}{pos p:Pos}{n:Nat}
theorem nc{b6:bA}{r:Z4->al->cf->Prop}{f:D->(D->Prop)->Prop}(aq:dv K b6 u)(au:∀(x:D)(k:D->Prop),f x k->∀(R:al)(W:TE->Prop)(B H:al)(σ:St)(ρ:Z3)(v:V)(Q:cf),a3 K R W B H σ ρ->bH K B v x->(∀d v aC aj,k d->a3 K R W aC aj σ ρ->bC R B aC->bH K aC v d->Q v aj)->r [v] H Q):
  dv K (r4 r (pI b6 r0)) (λρ k=>u ρ λx=>f x k):=by
 intro ρ k h R W B H σ Q e q;refine aq ρ _ h R W B H σ _ e λx v a5 ar aa ah aK ai=>?_;exact au x k aa R W a5 ar σ ρ v Q ah ai λd u je cg a' bz g3 eg=>q d u je cg a' bz (aK.trans g3) eg
theorem ip(aq:aV X e u)(aJ:c2 X "len")(az:X.mg "len"=none)(av:dE X e []:=by rfl):aV X (.Call (.Name "len" p) [e] [] pos) (Ko u):=by
 obtain⟨_,aa,ai⟩:=aq;refine⟨_,ku v7 aJ az Vx (di aa d9 av) (by decide) (by decide) av,nc (f:=λx k=>∃n,A4 x=some n/\k (.int n)) ai λx k h R W B H σ ρ v Q e a8 q=>?_⟩;obtain⟨n,aG,hk⟩:=h;cases x<;>first|(cases aG;done)|skip
 ·obtain⟨a,vs,rfl,aq,r⟩:=a8.tupV;cases aG;rw[<-r.length]at hk;exact⟨a,vs,rfl,.inr (dA.of (e.bh _ _ aq)),q _ _ B H hk e (bC.refl _ _) (.int _)⟩
 ·obtain⟨a,vs,rfl,aq,r⟩:=a8.lstV;cases aG;rw[<-r.length]at hk;exact⟨a,vs,rfl,.inl (b0.of (e.bh _ _ aq)),q _ _ B H hk e (bC.refl _ _) (.int _)⟩
 obtain⟨a,rfl,aq⟩:=a8.scrV;cases aG;refine⟨a,_,rfl,.inl (e.bh.seq aq),?_⟩;rw[Sw];exact q _ _ B H hk e (bC.refl _ _) (.int _)
theorem Ks(i:Nat){x:Str}{c3:Pos}(aJ:c2 X "len")(az:X.mg "len"=none)(bU:jx X i x:=by rfl)(hv:ie X.env.scope x:=by walk_at"v")(hd:eC x:=by decide)(ee:iK x:=by decide)(av:Uf [.Name x c3] X.env=(false,YU (.Name x c3) X.env)::Uf [] X.env:=by rfl):aV X (.Call (.Name "len" p) [.Name x c3] [] pos) (Kp i):=by
 refine⟨_,ku v7 aJ az Vx (di (jb bU hv hd ee) d9 av) (by decide) (by decide) av,λρ k h R W B H σ Q e q=>?_⟩;obtain⟨ds,aM,hk⟩:=h;obtain⟨a,vs,ah,am,bz,cF,ej⟩:=e.ownAt aM;rw[<-ej.length]at hk;exact⟨_,ah,a,vs,rfl,.inl (b0.of cF),q _ _ B H hk e (bC.refl _ _) (.int _)⟩
theorem p1(aq:aV X e u)(aJ:c2 X "abs")(az:X.mg "abs"=none)(av:dE X e []:=by rfl):aV X (.Call (.Name "abs" p) [e] [] pos) (Kq u):=by
 obtain⟨_,aa,ai⟩:=aq;refine⟨_,ku IP aJ az (by decide +kernel) (di aa d9 av) (by decide) (by decide) av,nc (f:=λx k=>∃i,x=.int i/\k (.int (if i<0 then -i else i))) ai λx k h R W B H σ ρ v Q e a8 q=>?_⟩;obtain⟨i,rfl,hk⟩:=h;exact⟨i,by rw[a8.intV],q _ _ B H hk e (bC.refl _ _) (.int _)⟩
theorem Kt{B H:al}{v:V}{x:D}{t:String}(s:ca B H)(r:bH K B v x)(h:A5 x=some t):ii K H v (.type t):=by
 cases r<;>cases h
 ·exact .non
 ·exact .bl _
 ·exact .int _
 ·exact .str _
 ·exact .tup (s _ _ (by assumption))
 exact .lst (s _ _ (by assumption))
theorem p2{T:String}{y:Str}{nf:Pos}(aq:aV X e u)(aJ:c2 X "isinstance")(az:X.mg "isinstance"=none)(cM:bE X (.Name y nf) (mR (.ty T)))(av:Uf [e,.Name y nf] X.env=(false,YU e X.env)::Uf [.Name y nf] X.env)(gp:Uf [.Name y nf] X.env=(false,YU (.Name y nf) X.env)::Uf [] X.env)(eE:(Zp pos (Uf [.Name y nf] X.env)).any (·.1)=false):aV X (.Call (.Name "isinstance" p) [e,.Name y nf] [] pos) (Kr u T):=by
 obtain⟨_,aa,ai⟩:=aq;refine⟨_,ku JO aJ az (by decide +kernel) (di aa (di cM d9 gp) av) (by decide) (by decide) av eE,λρ k h R W B H σ Q e q=>?_⟩;refine ai ρ _ h R W B H σ _ e λx v a5 ar aa ah aK s1=>?_;obtain⟨t,b,bw,hk,z⟩:=aa;exact⟨v,_,T,b,rfl,Kt ah.bh s1 bw,hk _,q _ _ a5 ar z ah aK (.bl _)⟩
end
section
variable{K:Sx}{X:a1}{e:WP}{aD:agb}{u:a2}{w:cN}{pos p:Pos}
def Ku:cx:=λU ρ=>U.nx ρ
def wz(s t:cx):cx:=λU ρ=>s {U with nx:=t U} ρ
def Kv(u:a2):cx:=λU ρ=>u ρ λd=>U.rt (.val d)
def Kw(w:cN):cx:=λU ρ=>w ρ λds=>U.rt (.own ds)
def Kx(i:Nat):cx:=λU ρ=>∃ds,ρ[i]?=some (.own ds)/\U.rt (.own ds)
def A6(i:Nat)(u:a2):cx:=λU ρ=>u ρ λd=>U.nx (ρ.set i (.val d))
def A7(i:Nat)(w:cN):cx:=λU ρ=>w ρ λds=>U.nx (ρ.set i (.own ds))
def Ky(c:cK)(s t:cx):cx:=λU ρ=>c ρ λb=>if b=true then s U ρ else t U ρ
def Kz(i:Nat)(s:cx):cx:=λU ρ=>∃ds:Z7,ρ[i]?=some (.own ds)/\s U (ρ.set i (.val (.lst ds)))
theorem c6:fW X [] Ku:=⟨_,mS,λU ρ h R W B H σ D e s=>s.nx ρ σ B H h e (bC.refl _ _)⟩
theorem bn{st:Ym}{s:cx}(h:e9 X st s):fW X [st] s:=by
 obtain⟨_,aa,ai⟩:=h;exact⟨_,km aa,ai⟩
theorem bb{st:Ym}{rest:agc}{s t:cx}(h:e9 X st s)(h':fW X rest t):fW X (st::rest) (wz s t):=by
 obtain⟨_,aa,ai⟩:=h;obtain⟨_,ab,aw⟩:=h';refine⟨_,iM aa ab,λU ρ h R W B H σ D e sm=>?_⟩;exact ai _ ρ h R W B H σ _ e ⟨λbt a4 aC aj z a7 g=>aw U bt z R W aC aj a4 D a7 (sm.grow g),sm.bk,sm.ct,sm.rt⟩
theorem sv{st:agc}{s:cx}(i:Nat)(h:fW X st s):fW X st (Kz i s):=by
 obtain⟨_,aa,ai⟩:=h;refine⟨_,aa,λU ρ h R W B H σ D e sm=>?_⟩;obtain⟨ds,aM,z⟩:=h;obtain⟨aC,a7,g⟩:=e.fz aM;exact ai U _ z R W aC H σ D a7 (sm.grow g)
theorem p3{st:Ym}:e9 X st (λ_ _=>False):=⟨_,H5,λU ρ h=>h.elim⟩
theorem A8{st:agc}:fW X st (λ_ _=>False):=⟨zL,λ_ _ _ _ _ _ h=>h.elim,λU ρ h=>h.elim⟩
theorem bO(h:aV X e u):e9 X (.Return (some e) pos) (Kv u):=by
 obtain⟨_,aa,ai⟩:=h;refine⟨_,jz aa,λU ρ h R W B H σ D e s=>?_⟩;exact ai ρ _ h R W B H σ _ e λd v a5 ar aE ah aK s1=>s.rt _ v a5 ar aE ah.toWd aK s1
theorem oy(h:hV X e w):e9 X (.Return (some e) pos) (Kw w):=by
 obtain⟨_,aa,ai⟩:=h;refine⟨_,jz aa,λU ρ h R W B H σ D e s=>?_⟩;exact ai ρ _ h R W B H σ _ e λds a vs a5 ar aE ah aK bv bJ bY cR dh=>s.rt (.own ds) _ a5 ar aE ah.toWd aK ⟨a,rfl,bv,bJ,vs,bY,cR⟩
theorem KA(i:Nat){x:Str}{c3:Pos}(bU:jx X i x:=by rfl)(hv:ie X.env.scope x:=by walk_at"v")(hd:eC x:=by decide)(ee:iK x:=by decide):e9 X (.Return (some (.Name x c3)) pos) (Kx i):=by
 refine⟨_,jz (jb bU hv hd ee),λU ρ h R W B H σ D e s=>?_⟩;obtain⟨ds,aM,z⟩:=h;obtain⟨a,ah,am,bz,cF⟩:=e.ownC aM;exact⟨_,ah,s.rt (.own ds) _ B H z e.toWd (bC.refl _ _) ⟨a,rfl,am,bz,cF⟩⟩
theorem sw{i:Nat}{x:Str}{fR:Pos}(bU:X.N.Nodup)(ao:X.N[i]?=some x)(hx:Loc X.env.scope x)(aF:aV X e u)(av:Yu e (some (.Name x fR)) pos.line X.env=pure false:=by rfl)(hf:i' X x:=by walk_at"f"):
  e9 X (.Assign [.Name x fR] e pos) (A6 i u):=by
 obtain⟨_,aa,ai⟩:=aF;refine⟨_,pD bU ao hx aa av hf,λU ρ h R W B H σ D e s=>?_⟩;exact ai ρ _ h R W B H σ _ e λd v a5 ar aE ah aK s1=>s.nx _ _ a5 ar aE (ah.setV i s1) aK
theorem oz{i:Nat}{x:Str}{fR:Pos}(bU:X.N.Nodup)(ao:X.N[i]?=some x)(hx:Loc X.env.scope x)(aF:hV X e w)(av:Yu e (some (.Name x fR)) pos.line X.env=pure false:=by rfl)(hf:i' X x:=by walk_at"f"):
  e9 X (.Assign [.Name x fR] e pos) (A7 i w):=by
 obtain⟨_,aa,ai⟩:=aF;refine⟨_,pD bU ao hx aa av hf,λU ρ h R W B H σ D e s=>?_⟩;exact ai ρ _ h R W B H σ _ e λds a vs a5 ar aE ah aK bv bJ bY cR dh=>s.nx _ _ a5 ar aE (ah.setO i bv bJ bY cR λj _=>dh j) aK
theorem c7{c:WP}{a b:agc}{dw:cK}{s t:cx}(hc:fi X c dw)(aq:fW X a s)(ae:fW X b t):e9 X (.If c a b pos) (Ky dw s t):=by
 obtain⟨_,bi,ek⟩:=hc;obtain⟨_,aa,ai⟩:=aq;obtain⟨_,ab,aw⟩:=ae;refine⟨_,mT bi aa ab,λU ρ h R W B H σ D e sm=>?_⟩;refine ek ρ _ h R W B H σ _ e λc a5 ar aE ah aK=>?_;cases c with
 |true=>
  rw[TT rfl]at aE⊢;exact ai U ρ aE R W a5 ar σ D ah (sm.grow aK)
 |false=>
  rw[TW SN]at aE⊢;exact aw U ρ aE R W a5 ar σ D ah (sm.grow aK)
def en(i:Nat):e1:=λd ρ k=>k (ρ.set i (.val d))
def ng:md:=λds ρ k=>ds=[]/\k ρ
def iZ(g:e1)(i0:md):md:=λds ρ k=>∃d r,ds=d::r/\g d ρ λbt=>i0 r bt k
def nh(n:Nat)(i0:md):e1:=λd ρ k=>∃ds,d=.tup ds/\ds.length=n/\i0 ds ρ k
def KB(u:a2)(g:e1):cx:=λU ρ=>u ρ λd=>g d ρ U.nx
theorem fX{i:Nat}{x:Str}(bU:X.N.Nodup)(ao:X.N[i]?=some x)(hx:Loc X.env.scope x)(hf:i' X x:=by walk_at"f"):io X (.Name x pos) (en i):=
 ⟨_,zN bU ao hx hf,λd ρ k h R W B H σ v Q e r q=>q _ _ h (e.setV i r) λj a m=>by
  exact(AJ m (by simp) (by simp) rfl).2⟩
theorem gE:sk X [] ng:=⟨_,H8,λds ρ k h R W B H σ vs Q e r q=>by
 obtain⟨rfl,h⟩:=h;cases r
 exact⟨rfl,q _ _ h e λ_ _ m=>m⟩⟩
theorem c8{g:e1}{i0:md}(aa:io X e g)(ab:sk X aD i0)(av:(YA (e::aD) X.env).map (·.2)=ZP e X.env::(YA aD X.env).map (·.2):=by rfl):sk X (e::aD) (iZ g i0):=by
 obtain⟨_,aa,ai⟩:=aa;obtain⟨_,ab,aw⟩:=ab;refine⟨_,H9 aa ab av,λds ρ k h R W B H σ vs Q e r q=>?_⟩;obtain⟨d,iN,rfl,h⟩:=h;cases r with
 |cons bX rs=>
  refine⟨_,_,rfl,ai d ρ _ h R W B H σ _ _ e bX λbt a4 z a7 hT=>?_⟩;exact aw iN bt k z R W B H a4 _ _ a7 rs λp4 sx aU am m2=>q p4 sx aU am λj a m=>hT j a (m2 j a m)
theorem gF{mf:Nat}{i0:md}{n:Nat}(hc:X.calm=true)(h:sk X aD i0)(aG:(YA aD X.env).length=n:=by rfl)(hK:(YA aD X.env).findIdx? (·.1)=none:=by rfl):io X (.Tuple aD mf pos) (nh n i0):=by
 obtain⟨_,aa,ai⟩:=h;refine⟨_,Ia hc aa aG hK,λd ρ k h R W B H σ v Q e r q=>?_⟩;obtain⟨ds,rfl,ax,h⟩:=h;obtain⟨a,vs,rfl,aq,rs⟩:=r.tupV;exact⟨a,vs,rfl,dA.of (e.bh _ _ aq),by rw[rs.length];exact ax,ai ds ρ k h R W B H σ vs Q e rs q⟩
theorem jL{bd:WP}{g:e1}(aF:aV X e u)(aJ:io X bd g)(av:YO [bd] e pos.line X.env=pure false:=by rfl)(hw:YQ [bd] e X.env=pure none:=by rfl)(aa:(YA [bd] X.env).map (·.2)=[ZP bd X.env]:=by rfl):e9 X (.Assign [bd] e pos) (KB u g):=by
 obtain⟨_,aq,ai⟩:=aF;obtain⟨_,ae,aw⟩:=aJ;refine⟨_,vI aq ae av hw aa,λU ρ h R W B H σ D e s=>?_⟩;refine ai ρ _ h R W B H σ _ e λd v a5 ar aE ah aK s1=>?_;exact aw d ρ _ aE R W a5 ar σ v _ ah s1 λbt a4 aU am _=>s.nx _ _ a5 ar aU am aK
def KC(i j:Nat)(w:cN):cx:=λU ρ=>w ρ λds=>∃x y,ds=[x,y]/\U.nx ((ρ.set i (.val x)).set j (.val y))
theorem KD{i j:Nat}{x y:Str}{a b:WP}{c3 d7 pt:Pos}{gz k2 hL}(hc:X.calm=true)(bU:X.N.Nodup)(ao:X.N[i]?=some x)(aQ:X.N[j]?=some y)(oe:i≠j)(hx:X.env.scope.names.lookup x=some .local)(hy:X.env.scope.names.lookup y=some .local)(aq:m8 X [a,b] w)(hw:YQ [.Tuple [.Name x c3,.Name y d7] gz pt] (.Tuple [a,b] k2 hL) X.env=pure (some [x,y]))(av:YO [.Tuple [.Name x c3,.Name y d7] gz pt] (.Tuple [a,b] k2 hL) pos.line X.env=pure false:=by rfl):
  e9 X (.Assign [.Tuple [.Name x c3,.Name y d7] gz pt] (.Tuple [a,b] k2 hL) pos) (KC i j w):=by
 obtain⟨_,aa,ai⟩:=aq;refine⟨_,Ie hc bU ao aQ oe hx hy aa hw av,λU ρ h R W B H σ D e s=>?_⟩;refine ai ρ _ h R W B H σ _ e λds vs a5 ar aE ah aK s1=>?_;obtain⟨x,y,rfl,aE⟩:=aE;cases s1 with
 |cons iq gG=>cases gG with
  |cons gG rc=>
   cases rc;exact⟨_,_,rfl,s.nx _ _ a5 ar aE ((ah.setV i iq).setV j gG) aK⟩
def KF(c:cK)(s:cx):cx:=λU ρ=>∃M:Nat->Z3->Prop,(∃m,M m ρ)/\∀m ρ,M m ρ->c ρ λb=>if b=true then s {U with nx:=λbt=>∃cU,cU<m/\M cU bt,ct:=λbt=>∃cU,cU<m/\M cU bt,bk:=U.nx} ρ else U.nx ρ
theorem wA{c:WP}{body:agc}{dw:cK}{s:cx}(ak:Y5 (Wp X.prog X.w) X.A X.env X.xe)(hc:fi X c dw)(ae:fW X body s):e9 X (.While c body [] pos) (KF dw s):=by
 obtain⟨_,bi,ek⟩:=hc;obtain⟨_,aa,ai⟩:=ae;refine⟨_,Ih ak bi aa,λU ρ h R W B H σ D e sm=>?_⟩;obtain⟨M,⟨dY,az⟩,turn⟩:=h;refine⟨λm a4 aj=>∃bt aC,M m bt/\a3 X.K R W aC aj a4 bt/\bC R B aC,⟨dY,ρ,B,az,e,bC.refl _ _⟩,?_⟩;rintro m fB ar ⟨gH,a5,p5,ah,aK⟩;refine ek gH _ (turn m gH p5) R W a5 ar fB _ ah λb bu a0 aU am aP=>?_;cases b with
 |true=>
  rw[TT rfl]at aU⊢;refine⟨λa4 aj=>∃bt aC,(∃cU,cU<m/\M cU bt)/\a3 X.K R W aC aj a4 bt/\bC R B aC,?_,?_⟩
  ·rintro a4 aj ⟨bt,aC,⟨cU,l,q⟩,a7,g'⟩;exact⟨cU,l,bt,aC,q,a7,g'⟩
  have sy:=aK.trans aP;exact ai _ gH aU R W bu a0 fB _ am ⟨λbt a4 aC aj z a7 g=>⟨bt,aC,z,a7,sy.trans g⟩,λbt a4 aC aj z a7 g=>sm.nx bt a4 aC aj z a7 (sy.trans g),λbt a4 aC aj z a7 g=>⟨bt,aC,z,a7,sy.trans g⟩,λr v aC aj z a7 g q=>sm.rt r v aC aj z a7 (sy.trans g) q⟩
 |false=>
  rw[TW SN]at aU⊢;exact sm.nx gH fB bu a0 aU am (aK.trans aP)
theorem iV.list{B:al}{a:TE}{vs:Z4}{ds:Z7}(h:B a=some (.lst vs))(r:Reps K B vs ds):iV K B (vK K a) ds:=by
 intro H s i;have eQ:=s _ _ h;have q:b0 K H a vs:=b0.of eQ;refine⟨λao=>?_,λao=>⟨vs,q,by rw[r.length];exact ao⟩,λx aj ao ⟨ah,am⟩=>⟨ah,?_⟩⟩
 ·obtain⟨v,e,_⟩:=r.get (SS ao);exact⟨vs,v,q,e⟩
 exact r.getV (am vs q)
theorem iV.tup{B:al}{a:TE}{vs:Z4}{ds:Z7}(h:B a=some (.tup vs))(r:Reps K B vs ds):iV K B (vL K a) ds:=by
 intro H s i;have eQ:=s _ _ h;have q:dA K H a vs:=dA.of eQ;refine⟨λao=>?_,λao=>⟨vs,q,by rw[r.length];exact ao⟩,λx aj ao ⟨ah,am⟩=>⟨ah,?_⟩⟩
 ·obtain⟨v,e,_⟩:=r.get (SS ao);exact⟨vs,v,q,e⟩
 exact r.getV (am vs q)
theorem iV.rng{B:al}(n:Nat):iV K B (og 0 n) ((SA n).map λi:Nat=>D.int i):=by
 intro H s i;rw[Sw,T9];refine⟨λao=>ao,λao=>ao,λx aj ao ⟨ah,am⟩=>⟨ah,?_⟩⟩;refine⟨.int i,?_,?_⟩
 ·rw[S1,Uz ao];rfl
 rw[am,Wr];exact .int _
def KG(u:a2):cN:=λρ k=>u ρ λd=>∃ds,d=.lst ds/\k ds
def KH(u:a2):cN:=λρ k=>u ρ λd=>∃ds,d=.tup ds/\k ds
def KI(u:a2):cN:=λρ k=>u ρ λd=>∃j,d=.int j /\ -(2^62)<=j/\j<2^62/\k ((SA j.toNat).map λi:Nat=>D.int i)
variable{bd:WP}
theorem fY{l:WP}(ax:aV X l u):lh X bd l (KG u):=by
 obtain⟨_,aa,ai⟩:=ax;refine⟨_,vM aa,λρ k h R W B H σ Q e q=>?_⟩;refine ai ρ _ h R W B H σ _ e λd v a5 ar aE ah aK s1=>?_;obtain⟨ds,rfl,z⟩:=aE;obtain⟨a,vs,rfl,aq,rs⟩:=s1.lstV;exact⟨a,rfl,⟨vs,b0.of (ah.bh _ _ aq)⟩,q ds _ a5 ar z ah aK (iV.list aq rs)⟩
theorem KJ{l:WP}(ax:aV X l u):lh X bd l (KH u):=by
 obtain⟨_,aa,ai⟩:=ax;refine⟨_,Io aa,λρ k h R W B H σ Q e q=>?_⟩;refine ai ρ _ h R W B H σ _ e λd v a5 ar aE ah aK s1=>?_;obtain⟨ds,rfl,z⟩:=aE;obtain⟨a,vs,rfl,aq,rs⟩:=s1.tupV;exact⟨a,rfl,⟨vs,dA.of (ah.bh _ _ aq)⟩,q ds _ a5 ar z ah aK (iV.tup aq rs)⟩
theorem p6{a:WP}(aq:aV X a u)(aJ:c2 X "range")(az:X.mg "range"=none)(av:Uf [a] X.env=[(false,YU a X.env)]:=by rfl):lh X bd (.Call (.Name "range" p) [a] [] pos) (KI u):=by
 obtain⟨_,aa,ai⟩:=aq;refine⟨_,Ir aJ az (di aa d9 (by exact av)) av,λρ k h R W B H σ Q e q=>?_⟩;refine ai ρ _ h R W B H σ _ e λd v a5 ar aE ah aK s1=>?_;obtain⟨j,rfl,wB,j1,z⟩:=aE;exact⟨j,by rw[s1.intV],wB,j1,q _ _ a5 ar z ah aK (iV.rng _)⟩
def gI(g:e1)(s:cx)(U:fu):Z7->Z3->Prop
 |[],ρ=>U.nx ρ
 |d::ds,ρ=>g d ρ λbt=>s {U with nx:=gI g s U ds,ct:=gI g s U ds,bk:=U.nx} bt
def A9(w:cN)(g:e1)(s:cx):cx:=λU ρ=>w ρ λds=>gI g s U ds ρ
theorem jM{iter:WP}{body:agc}{g:e1}{s:cx}(ak:Y5 (Wp X.prog X.w) X.A X.env X.xe)(hc:X.calm=true)(ao:lh X bd iter w)(aJ:io X bd g)(ae:fW X body s)(av:∀x,WF iter X.env x=pure x:=by intro _;rfl):e9 X (.For bd iter body [] pos) (A9 w g s):=by
 obtain⟨_,bi,ek⟩:=ao;obtain⟨_,aa,ai⟩:=aJ;obtain⟨_,ab,aw⟩:=ae;refine⟨_,pF ak hc bi aa ab av,λU ρ h R W B H σ D e sm=>?_⟩;refine ek ρ _ h R W B H σ _ e λds J a5 ar aE ah aK it=>?_;refine⟨λi m a4 aj=>∃bt aC,m=ds.length-i/\i<=ds.length/\gI g s U (ds.drop i) bt/\a3 X.K R W aC aj a4 bt/\bC R B aC/\ca a5 aC,⟨ds.length,ρ,a5,by simp,Tu _,aE,ah,aK,ca.refl _⟩,?_⟩;rintro i m fB a0 ⟨gH,bu,rfl,ao,aU,am,aP,aI⟩;obtain⟨cS,cH,gX⟩:=it a0 (aI.trans am.bh) i;by_cases ce:i<ds.length
 ·refine .inr ⟨cS ce,λa4 aj=>∃bt aC,gI g s U (ds.drop (i+1)) bt/\a3 X.K R W aC aj a4 bt/\bC R B aC/\ca a5 aC,?_,?_⟩
  ·rintro a4 aj ⟨bt,aC,z,a7,g',s'⟩;exact⟨ds.length-(i+1),by lia,bt,aC,rfl,ce,z,a7,g',s'⟩
  intro x aj y;obtain⟨rfl,d,hd,a8⟩:=gX x aj ce y
  have ga:ds.drop i=d::ds.drop (i+1):=by
   rw[T' ce];rw[SS ce]at hd;rw[SM hd]
  rw[ga]at aU;refine ai d gH _ aU R W bu _ fB x _ am (a8.mono aI) λbt a4 dN a7 _=>?_;exact aw _ bt dN R W bu _ a4 _ a7 ⟨λbt a4 aC aj z a7 g=>⟨bt,aC,z,a7,aP.trans g,aI.trans g.s⟩,λbt a4 aC aj z a7 g=>sm.nx bt a4 aC aj z a7 (aP.trans g),λbt a4 aC aj z a7 g=>⟨bt,aC,z,a7,aP.trans g,aI.trans g.s⟩,λr v aC aj z a7 g q=>sm.rt r v aC aj z a7 (aP.trans g) q⟩
 have ei:i=ds.length:=by lia
 subst ei;rw[UP]at aU;exact .inl ⟨cH (SG _),sm.nx gH fB bu a0 aU am aP⟩
end
section
variable{K:Sx}{X:a1}{e:WP}{aD:agb}{u:a2}{w:cN}{pos p:Pos}
theorem a3.newO{R:al}{W:TE->Prop}{B H:al}{σ:St}{ρ:Z3}(e:a3 K R W B H σ ρ){q:TE}(aA:H q=none){vs:Z4}{ds:Z7}(r:Reps K B vs ds):
  a3 K R W B (upd H q (.lst vs)) σ ρ/\R q=none/\B q=none/\(upd H q (.lst vs)) q=some (.lst vs)/\∀i,¬cE σ ρ i q:=by
 obtain⟨bv,bJ,bY⟩:=e.toWd.fresh aA;exact⟨e.allocH aA _,bv,bY,eo,λi m=>e.notNew aA m rfl⟩
def gY{α:Type}(xs:List α)(lo ao:Option Int):List α:=(xs.drop (HT.sIx xs.length 0 lo)).take (HT.sIx xs.length xs.length ao-HT.sIx xs.length 0 lo)
theorem Reps.cut{B:al}{vs:Z4}{ds:Z7}(r:Reps K B vs ds)(lo ao:Option Int):Reps K B (gY vs lo ao) (gY ds lo ao):=by
 unfold gY;rw[r.length];exact(r.drop _).take _
abbrev oA:=Z3->(Option Int->Prop)->Prop
def KL(K:Sx)(t:bZ)(u:oA):Prop:=∀(ρ:Z3)(k:Option Int->Prop),u ρ k->∀(R:al)(W:TE->Prop)(B H:al)(σ:St)(Q:Option Int->al->Prop),a3 K R W B H σ ρ->
 (∀o aC aj,k o->a3 K R W aC aj σ ρ->bC R B aC->Q o aj)->t σ H Q
def sA(X:a1)(e:Option WP)(u:oA):Prop:=∃t,pL X e t/\KL X.K t u
def KM:oA:=λ_ k=>k none
def KN(u:a2):oA:=λρ k=>u ρ λd=>∃i,d=.int i/\k (some i)
theorem lq:sA X none KM:=⟨_,z9,λρ k h R W B H σ Q e q=>q none B H h e (bC.refl _ _)⟩
theorem jN(h:aV X e u):sA X (some e) (KN u):=by
 obtain⟨_,aa,ai⟩:=h;refine⟨_,z' aa,λρ k h R W B H σ Q e q=>?_⟩;refine ai ρ _ h R W B H σ _ e λd v a5 ar aE ah aK s1=>?_;obtain⟨i,rfl,z⟩:=aE;exact⟨i,s1.intV,q _ a5 ar z ah aK⟩
def wC:D->Option Z7
 |.lst ds=>some ds
 |.scr ns=>some (ns.map .int)
 |_=>none
theorem A'{B H:al}{v:V}{x:D}{ds:Z7}(s:ca B H)(r:bH K B v x)(h:wC x=some ds):∃a vs,v=.ref a/\b0 K H a vs/\Reps K B vs ds:=by
 cases x<;>first|(cases h;done)|skip
 ·obtain⟨a,vs,rfl,aq,rs⟩:=r.lstV;cases h;exact⟨a,vs,rfl,b0.of (s _ _ aq),rs⟩
 obtain⟨a,rfl,aq⟩:=r.scrV;cases h;exact⟨a,_,rfl,s.seq aq,Reps.ints _⟩
def KO(u:a2)(l h:oA):cN:=λρ k=>u ρ λx=>l ρ λlo=>h ρ λao=>∃ds,wC x=some ds/\k (gY ds lo ao)
theorem kD{lo ao:Option WP}{oB Ba:oA}{aW:Pos}(aF:aV X e u)(ax:sA X lo oB)(dP:sA X ao Ba):hV X (.Subscript e (.Slice lo ao none aW) pos) (KO u oB Ba):=by
 obtain⟨_,aa,ai⟩:=aF;obtain⟨_,ab,aw⟩:=ax;obtain⟨_,a',eg⟩:=dP;refine⟨_,Aa Jj aa ab a',λρ k h R W B H σ Q e q=>?_⟩;refine ai ρ _ h R W B H σ _ e λd v a5 ar aE ah aK s1=>?_;refine aw ρ _ aE R W a5 ar σ _ ah λlo bu a0 aU am aP=>?_;refine eg ρ _ aU R W bu a0 σ _ am λao je cg fV bz g3=>?_;obtain⟨ds,hd,z⟩:=fV;obtain⟨a,vs,rfl,aq,rs⟩:=A' bz.bh (s1.mono (aP.trans g3).s) hd;refine⟨a,vs,rfl,aq,λp ak=>?_⟩;obtain⟨bv,bJ,bY,cR,dh⟩:=bz.newO ak (rs.cut lo ao);exact q _ p _ je _ z bv ((aK.trans aP).trans g3) bJ bY cR (rs.cut lo ao) dh
def KP(u v:a2):cN:=λρ k=>u ρ λx=>v ρ λy=>∃ds aD,x=.lst ds/\y=.lst aD/\ds.length+aD.length<=TI/\k (ds++aD)
theorem mh{a b:WP}{aS bf:a2}(aq:aV X a aS)(ae:aV X b bf):hV X (.BinOp a .Add b pos) (KP aS bf):=by
 obtain⟨_,aa,ai⟩:=aq;obtain⟨_,ab,aw⟩:=ae;refine⟨_,e8 Jw aa ab,λρ k h R W B H σ Q e q=>?_⟩;refine ai ρ _ h R W B H σ _ e λd v a5 ar aE ah aK s1=>?_;refine aw ρ _ aE R W a5 ar σ _ ah λd' oa bu a0 aU am aP aI=>?_;obtain⟨ds,aD,rfl,rfl,ax,z⟩:=aU;obtain⟨a,vs,rfl,aq,rs⟩:=(s1.mono aP.s).lstV;obtain⟨b,ws,rfl,ae,rt⟩:=aI.lstV;refine⟨a,b,vs,ws,rfl,rfl,am.bh _ _ aq,am.bh _ _ ae,by rw[rs.length,rt.length];exact ax,λp ak=>?_⟩;obtain⟨bv,bJ,bY,cR,dh⟩:=am.newO ak (rs.append rt);exact q _ p _ bu _ z bv (aK.trans aP) bJ bY cR (rs.append rt) dh
def KQ(u:a2):cN:=λρ k=>u ρ λx=>∃ds,(x=.lst ds\/x=.tup ds)/\k ds
theorem KR(aq:aV X e u)(aJ:c2 X "list")(az:X.mg "list"=none)(av:dE X e []:=by rfl):hV X (.Call (.Name "list" p) [e] [] pos) (KQ u):=by
 obtain⟨_,aa,ai⟩:=aq;refine⟨_,vZ Jl aJ az (by decide +kernel) (di aa d9 av) (by decide) (by decide) av,λρ k h R W B H σ Q e q=>?_⟩;refine ai ρ _ h R W B H σ _ e λd v a5 ar aE ah aK s1=>?_;obtain⟨ds,hd,z⟩:=aE;rcases hd with rfl|rfl
 ·obtain⟨a,vs,rfl,aq,rs⟩:=s1.lstV;refine⟨a,vs,rfl,.inl (b0.of (ah.bh _ _ aq)),λp ak=>?_⟩;obtain⟨bv,bJ,bY,cR,dh⟩:=ah.newO ak rs;exact q _ p _ a5 _ z bv aK bJ bY cR rs dh
 obtain⟨a,vs,rfl,aq,rs⟩:=s1.tupV;refine⟨a,vs,rfl,.inr (dA.of (ah.bh _ _ aq)),λp ak=>?_⟩;obtain⟨bv,bJ,bY,cR,dh⟩:=ah.newO ak rs;exact q _ p _ a5 _ z bv aK bJ bY cR rs dh
def KS(u:a2):a2:=λρ k=>u ρ λx=>∃ns:Z5,x=.lst (ns.map .int)/\k (.int ns.sum)
theorem Bb{B:al}:∀{ns:Z5}{vs:Z4},Reps K B vs (ns.map D.int)->vs=ns.map V.int
 |[],_,.nil=>rfl
 |n::r,_,.cons h t=>by rw[h.intV,Bb t];rfl
theorem Bc(aq:aV X e u)(hc:X.calm=true)(aJ:c2 X "sum")(az:X.mg "sum"=none)(av:dE X e []:=by rfl):aV X (.Call (.Name "sum" p) [e] [] pos) (KS u):=by
 obtain⟨_,aa,ai⟩:=aq;refine⟨_,ku (JQ hc) aJ az (by decide +kernel) (di aa d9 av) (by decide) (by decide) av,nc (f:=λx k=>∃ns:Z5,x=.lst (ns.map .int)/\k (.int ns.sum)) ai λx k h R W B H σ ρ v Q e a8 q=>?_⟩;obtain⟨ns,rfl,hk⟩:=h;obtain⟨a,vs,rfl,aq,rs⟩:=a8.lstV;cases Bb rs;exact⟨a,ns,rfl,e.bh _ _ aq,q _ _ B H hk e (bC.refl _ _) (.int _)⟩
def KU(i:Nat)(u:a2):cx:=λU ρ=>∃ds:Z7,ρ[i]?=some (.own ds)/\u ρ λd=>ds.length<TI/\U.nx (ρ.set i (.own (ds++[d])))
theorem p7(i:Nat){x:Str}{c3 eh cX:Pos}(aF:aV X e u)(bU:jx X i x:=by rfl)(hv:ie X.env.scope x:=by walk_at"v")(hd:eC x:=by decide)(ee:iK x:=by decide)(hR:jv X (.Name x c3) "append":=by rfl)(iQ:lZ X cX [e]:=by rfl)(hS:jw eh cX:=by rfl)(av:dE X e []:=by rfl)(iR:hl X cX []:=by rfl)(jO:Yu (.Call (.Attribute (.Name x c3) "append" eh) [e] [] cX) none pos.line X.env=pure false:=by rfl):e9 X (.Expr (.Call (.Attribute (.Name x c3) "append" eh) [e] [] cX) pos) (KU i u):=by
 obtain⟨_,aa,ai⟩:=aF;refine⟨_,rR (mZ Vy Xx Xy v' (jb bU hv hd ee) (di aa d9 av) hR iQ hS av iR) jO,λU ρ h R W B H σ D e s=>?_⟩;obtain⟨ds,aM,h⟩:=h;obtain⟨a,vs,ah,am,bz,cF,ej⟩:=e.ownAt aM;refine⟨_,ah,.inl ⟨rfl,vs,b0.of cF⟩,?_⟩;refine ai ρ _ h R W B H σ _ e λd v a5 ar aE bv aK s1=>?_;obtain⟨rZ,ni,cy,k2,mi,mj,Bd⟩:=bv.ownAt aM;rw[ah]at cy;cases cy;exact⟨a,ni,v,rfl,rfl,mj,by rw[Bd.length];exact aE.1,s.nx _ _ a5 _ aE.2 (bv.write ah aM (Bd.append (.cons s1 .nil))) aK⟩
def gZ(ρ:Z3)(j:Nat):aN:=match ρ[j]? with
 |some (.val d)=>.val d
 |some .bag=>.bag
 |_=>.no
theorem a3.scribble{R:al}{W:TE->Prop}{B H:al}{σ:St}{ρ:Z3}(e:a3 K R W B H σ ρ){a:TE}(au:R a=none)(ae:B a=none)(az:∀i,¬cE σ ρ i a)(o:dM):a3 K R W B (upd H a o) σ ρ:=by
 have ec:¬W a:=λz=>e.wr a z au;refine e.move ⟨λb q h z=>?_,λb q h=>?_,e.wb,λb z=>(e.wh b z).upd (by rintro rfl;exact ec z),e.wr⟩ (ca.refl _) λi b m=>?_
 ·rw[cB (by rintro rfl;rw[au]at h;cases h)];exact e.fr b q h z
 ·rw[cB (by rintro rfl;rw[ae]at h;cases h)];exact e.bh b q h
 have n:b≠a:=by rintro rfl;exact az i m
 refine⟨(e.mutOk m).1,λz=>?_,λ_=>cB n⟩;obtain⟨c,br,_,_,eR⟩:=e.bagAt z;rw[pU m z]at br;cases br;exact eR.upd n
theorem KV{σ:St}{js:Z8}{i:Nat}{o:Option V}(h:(gq σ js)[i]?=some o):∃j,js[i]?=some j/\o=(σ[j]?).join:=by
 unfold gq at h;rw[S1]at h;cases q:js[i]? with
 |none=>rw[q]at h;cases h
 |some j=>rw[q]at h;exact⟨j,rfl,(SM h).symm⟩
def KW(K:Sx)(t:bA)(u:Z3->Prop->Prop):Prop:=∀(ρ:Z3)(k:Prop),u ρ k->∀(R:al)(W:TE->Prop)(B H:al)(σ:St)(Q:cf),a3 K R W B H σ ρ->
 (∀a aC aj,k->a3 K R W aC aj σ ρ->bC R B aC->R a=none->aC a=none->fU aj a->(∀i,¬cE σ ρ i a)->Q (.ref a) aj)->t σ H Q
def Be(X:a1)(e:WP)(u:Z3->Prop->Prop):Prop:=∃t,bE X e t/\KW X.K t u
def KX(n:Nat)(F:b4)(w:hU):Z3->Prop->Prop:=λρ k=>w ρ λas=>bS as n=true/\F (as.map Arg.sl) λr=>r=.bag/\k
theorem KY{n:Nat}{F:b4}{w:hU}{x:Str}{ps:af9}{j lv:Nat}(c:aX X.prog X.w X.K X.mg X.base x ps j (aY X.K n F))(au:eZ lv X.A)(aJ:c2 X x)(aq:kz X (e::aD) w)(jH:j<=lv:=by decide)(gR:eC x:=by decide)(aF:dE X e aD:=by rfl)(eE:hl X pos aD:=by rfl):
  Be X (.Call (.Name x p) (e::aD) [] pos) (KX n F w):=by
 obtain⟨_,aa,ai⟩:=aq;refine⟨_,se c au aJ aa jH gR aF eE,λρ k h R W B H σ Q e q=>?_⟩;refine ai ρ _ h R W B H σ _ e λas vs a5 ar aE ah aK s1=>?_;rw[TK];refine su ah s1 aE.1 aE.2 λr v bu a0 hk am aP res=>?_;obtain⟨rfl,hk⟩:=hk;obtain⟨a,rfl,bv,bJ,bY⟩:=res;exact q a bu a0 hk am (aK.trans aP) (ah.toWd.fresh bv).1 bJ bY λi m=>(ah.mutOk m).2 bv
def KZ(i:Nat)(u:Z3->Prop->Prop):cx:=λU ρ=>u ρ (U.nx (ρ.set i .bag))
theorem K0{i:Nat}{x:Str}{fR:Pos}{u:Z3->Prop->Prop}(bU:X.N.Nodup)(ao:X.N[i]?=some x)(hx:Loc X.env.scope x)(aF:Be X e u)(av:Yu e (some (.Name x fR)) pos.line X.env=pure false:=by rfl)(hf:i' X x:=by walk_at"f"):
  e9 X (.Assign [.Name x fR] e pos) (KZ i u):=by
 obtain⟨_,aa,ai⟩:=aF;refine⟨_,pD bU ao hx aa av hf,λU ρ h R W B H σ D e s=>?_⟩;refine ai ρ _ h R W B H σ _ e λa a5 ar aE ah aK bv bJ bY cR=>s.nx _ _ a5 ar aE (ah.set i ⟨a,rfl,.inr bv,bJ,bY⟩ λb z _ j _=>?_) aK;cases z;exact cR j
end
end L3
namespace L3
open PySem L2
inductive gb where
 |I|B|N|S|T (cJ:List gb)|L (s:gb)
mutual
def has:gb->D->Bool
 |.I,.int _=>true
 |.B,.bl _=>true
 |.N,.non=>true
 |.S,.str _=>true
 |.T cJ,.tup xs=>hass cJ xs
 |.L s,.lst xs=>xs.all λx=>has s x
 |_,_=>false
def hass:List gb->Z7->Bool
 |[],[]=>true
 |s::cJ,x::xs=>has s x&&hass cJ xs
 |_,_=>false
end
mutual
def gJ:gb->Nat
 |.T cJ=>deps cJ+1
 |.L s=>gJ s+1
 |_=>0
def deps:List gb->Nat
 |[]=>0
 |s::cJ=>max (gJ s) (deps cJ)
end
noncomputable def eqD(x y:D):Bool :=@decide (x=y) (UQ _)
theorem jP{x y:D}:eqD x y=true↔x=y:=by unfold eqD;exact @decide_eq_true_iff _ (UQ _)
theorem oC(x:D):eqD x x=true:=jP.mpr rfl
theorem nj{x y:D}{b:Bool}(h:b=true↔x=y):eqD x y=b:=by
 rw[Ua,jP,h]
section
variable{K:Sx}{B:al}
theorem has_int{x:D}(h:has .I x=true):∃i,x=.int i:=by cases x<;>first|exact⟨_,rfl⟩|(simp[has]at h)
theorem sB{x:D}(h:has .B x=true):∃i,x=.bl i:=by cases x<;>first|exact⟨_,rfl⟩|(simp[has]at h)
theorem sC{x:D}(h:has .N x=true):x=.non:=by cases x<;>first|rfl|(simp[has]at h)
theorem has_str{x:D}(h:has .S x=true):∃i,x=.str i:=by cases x<;>first|exact⟨_,rfl⟩|(simp[has]at h)
theorem sD{x:D}{cJ:List gb}(h:has (.T cJ) x=true):∃xs,x=.tup xs/\hass cJ xs=true:=by
 cases x<;>first|exact⟨_,rfl,by simpa[has]using h⟩|(simp[has]at h)
theorem sE{x:D}{s:gb}(h:has (.L s) x=true):∃xs,x=.lst xs/\∀y∈xs,has s y=true:=by
 cases x<;>first|exact⟨_,rfl,by simpa[has]using h⟩|(simp[has]at h)
theorem p8:∀{cJ:List gb}{xs:Z7},hass cJ xs=true->xs.length=cJ.length
 |[],[],_=>rfl
 |[],_::_,h=>by simp[hass]at h
 |_::_,[],h=>by simp[hass]at h
 |s::cJ,x::xs,h=>by
  simp[hass]at h;simp[p8 h.2]
mutual
theorem nk:∀(bS:gb){x y:D}{v:V},has bS x=true->has bS y=true->bH K B v x->bH K B v y->x=y
 |.I,x,y,v,aa,ab,ai,aw=>by
  obtain⟨i,rfl⟩:=has_int aa;obtain⟨j,rfl⟩:=has_int ab
  have e:=ai.intV.symm.trans aw.intV
  cases e;rfl
 |.B,x,y,v,aa,ab,ai,aw=>by
  obtain⟨i,rfl⟩:=sB aa;obtain⟨j,rfl⟩:=sB ab
  have e:=ai.blV.symm.trans aw.blV
  cases e;rfl
 |.N,x,y,v,aa,ab,ai,aw=>by rw[sC aa,sC ab]
 |.S,x,y,v,aa,ab,ai,aw=>by
  obtain⟨i,rfl⟩:=has_str aa;obtain⟨j,rfl⟩:=has_str ab
  cases ai;cases aw;rfl
 |.T cJ,x,y,v,aa,ab,ai,aw=>by
  obtain⟨xs,rfl,aB⟩:=sD aa;obtain⟨ys,rfl,aL⟩:=sD ab
  obtain⟨a,vs,rfl,aq,iq⟩:=ai.tupV
  obtain⟨b,ws,e,ae,gG⟩:=aw.tupV
  cases e
  rw[aq]at ae;cases ae
  rw[reps_fn cJ aB aL iq gG]
 |.L s,x,y,v,aa,ab,ai,aw=>by
  obtain⟨xs,rfl,aB⟩:=sE aa;obtain⟨ys,rfl,aL⟩:=sE ab
  obtain⟨a,vs,rfl,aq,iq⟩:=ai.lstV
  obtain⟨b,ws,e,ae,gG⟩:=aw.lstV
  cases e
  rw[aq]at ae;cases ae
  have:xs=ys:=by
   apply Ux
   intro i
   cases wD:xs[i]? with
   |none=>
    have:ys[i]?=none:=by
     have aa:=iq.length
     have ab:=gG.length
     have a':=Xz.mp wD
     exact Xz.mpr (by lia)
    rw[this]
   |some d=>
    obtain⟨v,iY,bX⟩:=iq.get wD
    obtain⟨d',ga,lr⟩:=gG.getV iY
    rw[ga,nk s (aB d (S4 wD)) (aL d' (S4 ga)) bX lr]
  rw[this]
theorem reps_fn:∀(cJ:List gb){xs ys:Z7}{vs:Z4},hass cJ xs=true->hass cJ ys=true->Reps K B vs xs->Reps K B vs ys->xs=ys
 |[],xs,ys,vs,aa,ab,ai,aw=>by
  have ah:=p8 aa;have am:=p8 ab
  rw[List.length_nil]at ah am
  rw[Ws ah,Ws am]
 |s::cJ,[],ys,vs,aa,ab,ai,aw=>by simp[hass]at aa
 |s::cJ,x::xs,[],vs,aa,ab,ai,aw=>by simp[hass]at ab
 |s::cJ,x::xs,y::ys,vs,aa,ab,ai,aw=>by
  simp[hass]at aa ab
  cases ai with
  |cons dy b7=>cases aw with
   |cons dJ cr=>rw[nk s aa.1 ab.1 dy dJ,reps_fn cJ aa.2 ab.2 b7 cr]
end
end
section
variable{X:a1}{af:agd}{σ:St}{H B:al}{s:SZ}
theorem Bf{xs ys:Z7}{n:Nat}{e:Nat->Bool}(aG:n=xs.length)(ax:xs.length=ys.length)(aF:∀j,j<n->(e j=true↔xs[j]?=ys[j]?)):((SA n).all e)=true↔xs=ys:=by
 rw[TC];constructor
 ·intro h;apply Ux;intro i;by_cases ao:i<n
  ·exact(aF i ao).mp (h i (S7.mpr ao))
  rw[TM (by lia),TM (by lia)]
 rintro rfl j aQ;exact(aF j (S7.mp aQ)).mpr rfl
noncomputable def jQ(xs ys:Z7)(j:Nat):Bool :=@decide (xs[j]?=ys[j]?) (UQ _)
theorem p9{xs ys:Z7}{j:Nat}:jQ xs ys j=true↔xs[j]?=ys[j]?:=by unfold jQ;exact @decide_eq_true_iff _ (UQ _)
theorem Bg{xs ys:Z7}{j:Nat}{x y:D}(aa:xs[j]?=some x)(ab:ys[j]?=some y):jQ xs ys j=eqD x y:=by
 rw[Ua,p9,jP,aa,ab];constructor
 ·intro h;exact SM h
 intro h;rw[h]
structure K1(A:Yj)(s:SZ)(u w:SL)(x y:D):Prop where
 rc:SeqAt.RcAt A s u w (eqD x y)
 ne:SeqAt.RcNeAt A s u w (!eqD x y)
 eq:SeqAt.EqAt A s u w (eqD x y)
mutual
theorem p'(I:Inv X af σ H s)(dx:ca B H):∀(bS:gb){A:Yj}{x y:D}{v w:V}{u eW:SL},has bS x=true->has bS y=true->bH X.K B v x->bH X.K B w y->RelV v u->RelV w eW->A.units+gJ bS<YL->K1 A s u eW x y
 |.I,A,x,y,v,w,u,eW,aa,ab,ai,aw,l1,l2,hu=>by
  obtain⟨i,rfl⟩:=has_int aa;obtain⟨j,rfl⟩:=has_int ab
  cases ai.intV;cases aw.intV
  obtain⟨t,rfl⟩:=l1;obtain⟨t',rfl⟩:=l2
  have e:eqD (.int i) (.int j)=(i==j):=nj (by simp)
  refine⟨?_,?_,?_⟩<;>rw[e]
  ·exact SeqAt.RcAt.int_int i t j t'
  ·exact SeqAt.RcNeAt.int_int i t j t'
  exact SeqAt.EqAt.int_int i t j t'
 |.B,A,x,y,v,w,u,eW,aa,ab,ai,aw,l1,l2,hu=>by
  obtain⟨i,rfl⟩:=sB aa;obtain⟨j,rfl⟩:=sB ab
  cases ai.blV;cases aw.blV
  cases l1;cases l2
  have e:eqD (.bl i) (.bl j)=(i==j):=nj (by simp)
  refine⟨?_,?_,?_⟩<;>rw[e]
  ·exact SeqAt.RcAt.bool_bool i j
  ·exact SeqAt.RcNeAt.bool_bool i j
  exact SeqAt.EqAt.bool_bool i j
 |.N,A,x,y,v,w,u,eW,aa,ab,ai,aw,l1,l2,hu=>by
  cases sC aa;cases sC ab
  cases ai.nonV;cases aw.nonV
  cases l1;cases l2
  have e:eqD .non .non=true:=oC _
  refine⟨?_,?_,?_⟩<;>rw[e]
  ·exact SeqAt.RcAt.none_none
  ·exact SeqAt.RcNeAt.none_none
  exact SeqAt.EqAt.same _
 |.S,A,x,y,v,w,u,eW,aa,ab,ai,aw,l1,l2,hu=>by
  obtain⟨i,rfl⟩:=has_str aa;obtain⟨j,rfl⟩:=has_str ab
  cases ai;cases aw
  obtain⟨t,rfl⟩:=l1;obtain⟨t',rfl⟩:=l2
  have e:eqD (.str i) (.str j)=(i==j):=nj (by simp)
  refine⟨?_,?_,?_⟩<;>rw[e]
  ·exact SeqAt.RcAt.str_str i t j t'
  ·exact SeqAt.RcNeAt.str_str i t j t'
  exact SeqAt.EqAt.str_str i t j t'
 |.T cJ,A,x,y,v,w,u,eW,aa,ab,ai,aw,l1,l2,hu=>by
  have sF:=ai
  have sG:=aw
  obtain⟨xs,rfl,aB⟩:=sD aa;obtain⟨ys,rfl,aL⟩:=sD ab
  obtain⟨a,vs,rfl,aq,iq⟩:=ai.tupV
  obtain⟨b,ws,rfl,ae,gG⟩:=aw.tupV
  cases l1;cases l2
  obtain⟨its,cy,cS,_⟩:=I.tuple (dA.of (dx _ _ aq))
  obtain⟨f7,k2,cH,_⟩:=I.tuple (dA.of (dx _ _ ae))
  have cQ:gJ (.T cJ)=deps cJ+1:=by simp[gJ]
  have nm:=p8 aB
  have K2:=p8 aL
  have aE:=iq.length;have aU:=gG.length;have fV:=cy.length;have fH:=k2.length
  have lu:=eqs_sh I dx cJ (A:=A.in1) aB aL iq gG cy k2 (by show A.units+1+deps cJ<YL;lia)
  have aF:∀j (aa:j<its.toArray.size) (ab:j<f7.toArray.size),SeqAt.EqAt A.in1 s its.toArray[j] f7.toArray[j] (jQ xs ys j):=λj aK aP=>by
   have:=lu j (by simpa using aK) (by simpa using aP)
   simpa using this
  have e:eqD (.tup xs) (.tup ys)=((SA (min its.toArray.size f7.toArray.size)).all (jQ xs ys)&&its.toArray.size==f7.toArray.size):=by
   refine nj ?_
   have s1:its.toArray.size=xs.length:=by simp;lia
   have aI:f7.toArray.size=xs.length:=by simp;lia
   rw[s1,aI,Nat.min_self,Te]
   have:=Bf (xs:=xs) (ys:=ys) (n:=xs.length) (e:=jQ xs ys) rfl (by lia) (λj _=>p9)
   constructor
   ·intro h;rw[this.mp h.1]
   intro h;cases h;exact⟨this.mpr rfl,by simp⟩
  have rc:SeqAt.RcAt A s (.ref a) (.ref b) (eqD (.tup xs) (.tup ys)):=by rw[e];exact SeqAt.RcAt.tuples cS cH (by lia) aF
  refine⟨rc,by rw[e];exact SeqAt.RcNeAt.tuples cS cH (by lia) aF,?_⟩
  by_cases nn:a=b
  ·subst nn
   have:=nk (.T cJ) aa ab sF sG
   rw[this,oC]
   exact SeqAt.EqAt.same _
  exact SeqAt.EqAt.of_refs nn rc
 |.L bS,A,x,y,v,w,u,eW,aa,ab,ai,aw,l1,l2,hu=>by
  have sF:=ai
  have sG:=aw
  obtain⟨xs,rfl,aB⟩:=sE aa;obtain⟨ys,rfl,aL⟩:=sE ab
  obtain⟨a,vs,rfl,aq,iq⟩:=ai.lstV
  obtain⟨b,ws,rfl,ae,gG⟩:=aw.lstV
  cases l1;cases l2
  obtain⟨its,cy,bc,_⟩:=I.list (b0.of (dx _ _ aq))
  obtain⟨f7,k2,aW,_⟩:=I.list (b0.of (dx _ _ ae))
  have cS:=bc.isList
  have cH:=aW.isList
  have cQ:gJ (.L bS)=gJ bS+1:=by simp[gJ]
  have aE:=iq.length;have aU:=gG.length;have fV:=cy.length;have fH:=k2.length
  have aF:∀j (aa:j<its.toArray.size) (ab:j<f7.toArray.size),SeqAt.EqAt A.in1 s its.toArray[j] f7.toArray[j] (jQ xs ys j):=λj aK aP=>by
   have K3:j<its.length:=by simpa using aK
   have K4:j<f7.length:=by simpa using aP
   obtain⟨v1,ah,K5⟩:=cy.getR (SS K3)
   obtain⟨v2,am,qa⟩:=k2.getR (SS K4)
   obtain⟨br,bv,wE⟩:=iq.getV ah
   obtain⟨bF,bJ,wF⟩:=gG.getV am
   rw[Bg bv bJ]
   have:=(p' I dx bS (A:=A.in1) (aB br (S4 bv)) (aL bF (S4 bJ)) wE wF K5 qa (by show A.units+1+gJ bS<YL;lia)).eq
   simpa using this
  by_cases hsz:its.toArray.size=f7.toArray.size
  ·have s1:its.toArray.size=xs.length:=by simp;lia
   have aI:xs.length=ys.length:=by simp at hsz;lia
   have e:eqD (.lst xs) (.lst ys)=(SA its.toArray.size).all (jQ xs ys):=by
    refine nj ?_
    rw[Bf (xs:=xs) (ys:=ys) s1 aI (λj _=>p9)]
    constructor
    ·intro h;rw[h]
    intro h;cases h;rfl
   have rc:SeqAt.RcAt A s (.ref a) (.ref b) (eqD (.lst xs) (.lst ys)):=by rw[e];exact SeqAt.RcAt.lists cS cH hsz (by lia) aF
   refine⟨rc,by rw[e];exact SeqAt.RcNeAt.lists cS cH hsz (by lia) aF,?_⟩
   by_cases nn:a=b
   ·subst nn
    have:=nk (.L bS) aa ab sF sG
    rw[this,oC]
    exact SeqAt.EqAt.same _
   exact SeqAt.EqAt.of_refs nn rc
  have e:eqD (.lst xs) (.lst ys)=false:=nj (by
   constructor
   ·intro h;cases h
   intro h;cases h;simp at hsz;lia)
  have qb:(its.toArray.size != f7.toArray.size)=true:=by simpa using hsz
  have rc:SeqAt.RcAt A s (.ref a) (.ref b) (eqD (.lst xs) (.lst ys)):=by rw[e];exact SeqAt.RcAt.lists_lengths cS cH qb (by lia)
  refine⟨rc,by rw[e];exact SeqAt.RcNeAt.lists_lengths cS cH qb (by lia),?_⟩
  refine SeqAt.EqAt.of_refs (λnn=>?_) rc
  subst nn
  have:=nk (.L bS) aa ab sF sG
  cases this
  simp at hsz;lia
theorem eqs_sh(I:Inv X af σ H s)(dx:ca B H):∀(cJ:List gb){A:Yj}{xs ys:Z7}{vs ws:Z4}{aO np:af'},hass cJ xs=true->hass cJ ys=true->Reps X.K B vs xs->Reps X.K B ws ys->bP vs aO->bP ws np->A.units+deps cJ<YL->
  ∀j (aa:j<aO.length) (ab:j<np.length),SeqAt.EqAt A s aO[j] np[j] (jQ xs ys j)
 |[],A,[],ys,_,_,_,_,aa,ab,.nil,aw,.nil,l2,hu,j,aK,aP=>absurd aK (by simp)
 |[],A,x::xs,ys,_,_,_,_,aa,ab,ai,aw,l1,l2,hu,j,aK,aP=>by simp[hass]at aa
 |s::cJ,A,[],ys,vs,ws,aO,np,aa,ab,ai,aw,l1,l2,hu,j,aK,aP=>by simp[hass]at aa
 |s::cJ,A,x::xs,[],vs,ws,aO,np,aa,ab,ai,aw,l1,l2,hu,j,aK,aP=>by simp[hass]at ab
 |s::cJ,A,x::xs,y::ys,v::vs,w::ws,u::aO,eW::np,aa,ab,.cons dy b7,.cons dJ cr,.cons br cQ,.cons bF c4,hu,0,aK,aP=>by
  have oD:has s x=true:=by simp[hass]at aa;exact aa.1
  have sH:has s y=true:=by simp[hass]at ab;exact ab.1
  have jh:deps (s::cJ)=max (gJ s) (deps cJ):=by simp[deps]
  have:=(p' I dx s (A:=A) oD sH dy dJ br bF (by lia)).eq
  rw[Bg (xs:=x::xs) (ys:=y::ys) (j:=0) rfl rfl]
  exact this
 |s::cJ,A,x::xs,y::ys,v::vs,w::ws,u::aO,eW::np,aa,ab,.cons dy b7,.cons dJ cr,.cons br cQ,.cons bF c4,hu,j+1,aK,aP=>by
  have oD:hass cJ xs=true:=by simp[hass]at aa;exact aa.2
  have sH:hass cJ ys=true:=by simp[hass]at ab;exact ab.2
  have jh:deps (s::cJ)=max (gJ s) (deps cJ):=by simp[deps]
  have:=eqs_sh I dx cJ (A:=A) oD sH b7 cr cQ c4 (by lia) j (by simpa using aK) (by simpa using aP)
  have e:jQ (x::xs) (y::ys) (j+1)=jQ xs ys j:=by
   rw[Ua,p9,p9];simp
  rw[e]
  exact this
end
def wG(K:Sx)(hW:Bool):f6:=λx y H Q=>∃B d e bS,bH K B x d/\bH K B y e/\ca B H/\has bS d=true/\has bS e=true/\gJ bS<=50/\Q (.bl (if hW then !eqD d e else eqD d e)) H
theorem Bh(hu:X.A.units+64<YL):ef X (Yq .Eq) (wG X.K false):=by
 intro af s σ H x y v u Q I a8 b' h;obtain⟨B,d,e,bS,ai,aw,dx,aa,ab,hd,q⟩:=h;exact(p' I dx bS (A:=X.A) aa ab ai aw a8 b' (by lia)).rc _ _ _ _ ⟨.bl _,H,I,rfl,q⟩
theorem Bi(hu:X.A.units+64<YL):ef X (Yq .NotEq) (wG X.K true):=by
 intro af s σ H x y v u Q I a8 b' h;obtain⟨B,d,e,bS,ai,aw,dx,aa,ab,hd,q⟩:=h;exact(p' I dx bS (A:=X.A) aa ab ai aw a8 b' (by lia)).ne _ _ _ _ ⟨.bl _,H,I,rfl,q⟩
def Bj(K:Sx)(hW:Bool):f6:=λx y H Q=>∃B d aD bS,bH K B x d/\(bH K B y (.lst aD)\/bH K B y (.tup aD))/\ca B H/\has bS d=true/\(∀e∈aD,has bS e=true)/\gJ bS<=50/\∀b:Bool,(b=true↔d∈aD)->Q (.bl (if hW then !b else b)) H
noncomputable def lw(K:Sx)(B:al)(bS:gb)(d:D)(u:SL):Bool :=@decide (∃v,RelV v u/\bH K B v d) (UQ _)
theorem wH{K:Sx}{bS:gb}{d:D}{u:SL}:lw K B bS d u=true↔∃v,RelV v u/\bH K B v d:=by unfold lw;exact @decide_eq_true_iff _ (UQ _)
theorem Bk{v w:V}{u:SL}(aa:RelV v u)(ab:RelV w u):v=w:=by
 cases v<;>cases w<;>simp only[RelV]at aa ab<;>first
  |rfl
  | (obtain⟨t,rfl⟩:=aa;obtain⟨t',e⟩:=ab;cases e;rfl)
  | (obtain⟨t,rfl⟩:=aa;obtain⟨t',e⟩:=ab;cases e;done)
  | (obtain⟨t,rfl⟩:=aa;cases ab;done)
  | (obtain⟨t,rfl⟩:=ab;cases aa;done)
  | (subst aa;cases ab;rfl)
  | (subst aa;cases ab;done)
theorem Bl{K:Sx}{bS:gb}{d:D}{vs:Z4}{aD:Z7}{its:af'}(aa:has bS d=true)(ab:∀e∈aD,has bS e=true)(r:Reps K B vs aD)(l:bP vs its):its.toArray.any (lw K B bS d)=true↔d∈aD:=by
 rw[show its.toArray.any (lw K B bS d)=its.any (lw K B bS d) by simp,Vz];constructor
 ·rintro⟨u,hu,z⟩;obtain⟨v,lv,bX⟩:=wH.mp z;obtain⟨j,aQ⟩:=TX hu;obtain⟨w,jE,qc⟩:=l.getR aQ;cases Bk lv qc;obtain⟨e,gK,i1⟩:=r.getV jE;have gU:=S4 gK;rw[nk bS aa (ab e gU) bX i1];exact gU
 intro m;obtain⟨j,aQ⟩:=TX m;obtain⟨v,iY,bX⟩:=r.get aQ;obtain⟨u,nq,K6⟩:=l.get iY;exact⟨u,S4 nq,wH.mpr ⟨v,K6,bX⟩⟩
theorem Bm(I:Inv X af σ H s)(dx:ca B H){A:Yj}{bS:gb}{d:D}{vs:Z4}{aD:Z7}{its:af'}{x:V}{v:SL}(aa:has bS d=true)(ab:∀e∈aD,has bS e=true)(a8:bH X.K B x d)(nm:RelV x v)(r:Reps X.K B vs aD)(l:bP vs its)(hu:A.units+gJ bS<YL):∀y,y∈its.toArray->SeqAt.EqAt A s y v (lw X.K B bS d y):=λy hy=>by
 obtain⟨j,aQ⟩:=TX (show y∈its by simpa using hy);obtain⟨w,jE,qc⟩:=l.getR aQ;obtain⟨e,gK,i1⟩:=r.getV jE;have aF:=ab e (S4 gK);have q:=(p' I dx bS (A:=A) aF aa i1 a8 qc nm hu).eq
 have z:eqD e d=lw X.K B bS d y:=nj (by
  rw[wH];constructor
  ·rintro⟨oa,ml,cG⟩;cases Bk ml qc;exact nk bS aF aa i1 cG
  rintro rfl
  exact⟨w,qc,i1⟩)
 rw[<-z];exact q
theorem K7(hu:X.A.units+64<YL):ef X (Yq .In) (Bj X.K false):=by
 intro af s σ H x y v u Q I a8 b' h;obtain⟨B,d,aD,bS,ai,aw,dx,aa,ab,hd,q⟩:=h;rcases aw with aw|aw
 ·obtain⟨a,vs,rfl,aq,rs⟩:=aw.lstV;cases b';obtain⟨its,cy,bc,_⟩:=I.list (b0.of (dx _ _ aq));exact SeqAt.in_listAt (lw X.K B bS d) bc.isList (Bm I dx (A:=X.A.in1) aa ab ai a8 rs cy (by show X.A.units+1+_<YL;lia)) ⟨.bl _,H,I,rfl,q _ (Bl aa ab rs cy)⟩
 obtain⟨a,vs,rfl,aq,rs⟩:=aw.tupV;cases b';obtain⟨its,cy,bc,_⟩:=I.tuple (dA.of (dx _ _ aq));exact SeqAt.in_tupleAt (lw X.K B bS d) bc (Bm I dx (A:=X.A.in1) aa ab ai a8 rs cy (by show X.A.units+1+_<YL;lia)) ⟨.bl _,H,I,rfl,q _ (Bl aa ab rs cy)⟩
end
section
variable{K:Sx}{X:a1}{a b:WP}{aS bf:a2}{pos:Pos}
def qd(hW:Bool)(aS bf:a2):a2:=λρ k=>aS ρ λx=>bf ρ λy=>∃bS,has bS x=true/\has bS y=true/\gJ bS<=50/\k (.bl (if hW then !eqD x y else eqD x y))
def Bn(hW:Bool)(aS bf:a2):a2:=λρ k=>aS ρ λx=>bf ρ λy=>∃bS aD,(y=.lst aD\/y=.tup aD)/\has bS x=true/\(∀e∈aD,has bS e=true)/\gJ bS<=50/\∀b:Bool,(b=true↔x∈aD)->k (.bl (if hW then !b else b))
theorem sI{bq tb:bA}{hW:Bool}(aq:dv K bq aS)(ae:dv K tb bf):dv K (kq (wG K hW) bq tb) (qd hW aS bf):=
 li aq ae λx y k h R W B H σ ρ v w Q e a8 b' q=>by
  obtain⟨bS,aa,ab,hd,hk⟩:=h;exact⟨B,x,y,bS,a8,b',e.bh,aa,ab,hd,q _ _ B H hk e (bC.refl _ _) (.bl _)⟩
theorem K8{bq tb:bA}{hW:Bool}(aq:dv K bq aS)(ae:dv K tb bf):dv K (kq (Bj K hW) bq tb) (Bn hW aS bf):=
 li aq ae λx y k h R W B H σ ρ v w Q e a8 b' q=>by
  obtain⟨bS,aD,hy,aa,ab,hd,hk⟩:=h;refine⟨B,x,aD,bS,a8,?_,e.bh,aa,ab,hd,λb ae=>q _ _ B H (hk b ae) e (bC.refl _ _) (.bl _)⟩;rcases hy with rfl|rfl
  ·exact .inl b'
  exact .inr b'
theorem Bo(hu:X.A.units+64<YL)(aq:aV X a aS)(ae:aV X b bf)(az:Yh .Eq b=false):aV X (.Compare a [.Eq] [b] pos) (qd false aS bf):=by
 obtain⟨_,aa,ai⟩:=aq;obtain⟨_,ab,aw⟩:=ae;exact⟨_,pH (Bh hu) aa ab az,sI ai aw⟩
theorem K9(hu:X.A.units+64<YL)(aq:aV X a aS)(ae:aV X b bf)(az:Yh .NotEq b=false):aV X (.Compare a [.NotEq] [b] pos) (qd true aS bf):=by
 obtain⟨_,aa,ai⟩:=aq;obtain⟨_,ab,aw⟩:=ae;exact⟨_,pH (Bi hu) aa ab az,sI ai aw⟩
theorem sJ(hu:X.A.units+64<YL)(aq:aV X a aS)(ae:aV X b bf)(az:Yh .Eq b=false):fi X (.Compare a [.Eq] [b] pos) (ow (qd false aS bf)):=by
 obtain⟨_,aa,ai⟩:=aq;obtain⟨_,ab,aw⟩:=ae;exact⟨_,mW (Bh hu) aa ab az,pZ (sI ai aw)⟩
theorem qe(hu:X.A.units+64<YL)(aq:aV X a aS)(ae:aV X b bf)(az:Yh .NotEq b=false):fi X (.Compare a [.NotEq] [b] pos) (ow (qd true aS bf)):=by
 obtain⟨_,aa,ai⟩:=aq;obtain⟨_,ab,aw⟩:=ae;exact⟨_,mW (Bi hu) aa ab az,pZ (sI ai aw)⟩
theorem K'(hu:X.A.units+64<YL)(aq:aV X a aS)(ae:aV X b bf)(az:Yh .In b=false):aV X (.Compare a [.In] [b] pos) (Bn false aS bf):=by
 obtain⟨_,aa,ai⟩:=aq;obtain⟨_,ab,aw⟩:=ae;exact⟨_,pH (K7 hu) aa ab az,K8 ai aw⟩
end
end L3
namespace L3
open PySem L2
open PySem.Builtin.Int (intBits)
theorem La{K:Sx}{P:UF}{w:Yd}{mg:Str->Option SL}{base:Yn}{x du:Str}{st:Ym}{f:TE}{fd:YK}{N ps:af9}{lv n:Nat}{F:b4}(wy:kw K x du st f fd)(S:cb N ps (bR st))(aG:ps.length=n)(k9:∀(cdv:SL)(A:Yj)(outer:List Uy)(s:SZ)(H:al)(E:f3),eZ lv (A.deeper (Xv du (bR st) s.heap.objs.size f cdv))->∃u,fW (k8 jG P w K mg base N du (bR st) f cdv A outer s H E).nox (jF st) u/\∀as k,as.length=n->F as k->u {nx:=λ_=>k (.val .non),rt:=k} (as++SY (N.length-n) .no)):ij P w K mg base jG (lv+1) f fd ps (aY K n F):=by
 refine wy.ok S (λvs H Q E h=>?_) (λcdv A outer s H vs Q E au h=>?_)
 ·obtain⟨W,B,as,k,_,ax,_,_,_,eH,_⟩:=h;rw[eH.length,ax,aG]
 obtain⟨W,B,as,k,nb,ax,ae,dx,hw,eH,q⟩:=h;obtain⟨u,⟨t,bw,rt⟩,hu⟩:=k9 cdv A outer s H E au;have iY:=a3.start (N:=N) (Xw ae) dx hw eH;rw[ax]at iY;refine⟨t,bw,rt _ _ (hu as k ax nb) H W B H (L2.start N vs) _ iY ⟨λρ σ aC aj h e g=>?_,λ_ _ _ _ h=>h.elim,λ_ _ _ _ h=>h.elim,λr v aC aj h e g z=>q r v aC aj h ⟨e,g,z⟩⟩⟩;exact q _ _ aC aj h ⟨e.toWd,g,.non⟩
def sK(K:Sx):hB:=λvs H Q _=>∃(a:TE)(ns:Z5),vs=[.ref a]/\b0 K H a (ns.map V.int)/\ns.length<=63/\∀aj,Q (.bl true) aj
def Bp:b4:=λas k=>∃ns:Z5,as=[.val (.scr ns)]/\ns.length<=63/\k (.val (.bl true))
theorem Lb{K:Sx}{vs:Z4}{H:al}{Q:cf}{E:f3}(h:sK K vs H Q E):aY K 1 Bp vs H Q E:=by
 obtain⟨a,ns,rfl,dH,ax,q⟩:=h;refine⟨λ_=>False,H,[.val (.scr ns)],λr=>r=.val (.bl true),⟨ns,rfl,ax,rfl⟩,rfl,rfl,ca.refl _,λ_ z=>z.elim,.val (.scr dH) .nil,λr v aC aj au ex=>?_⟩;subst au;have:=ex.res;rw[bH.blV this];exact q aj
def Bq(K:Sx):hB:=λvs H Q _=>∃(a:TE)(k:Int)(ns:Z5),vs=[.ref a,.int k]/\b0 K H a (ns.map V.int)/\0<=k/\∀z,Q (.int z) H
def wI:b4:=λas k=>∃(ns:Z5)(i:Int),as=[.val (.scr ns),.val (.int i)]/\0<=i/\∀z:Int,k (.val (.int z))
theorem Wd.entry{H B:al}{W:TE->Prop}(dx:ca B H)(hw:∀a,W a->B a=none/\fU H a):Wd H W B H:=
 ⟨λ_ _ h _=>h,dx,λa h=>(hw a h).1,λa h=>(hw a h).2,λa h=>by obtain⟨x,y,q,_⟩:=(hw a h).2;rw[q];simp⟩
theorem Lc{K:Sx}{vs:Z4}{H:al}{Q:cf}{E:f3}(h:aY K 2 wI vs H Q E):Bq K vs H Q E:=by
 obtain⟨W,B,as,k,⟨ns,i,rfl,ao,hk⟩,ax,ae,dx,hw,eH,q⟩:=h;cases eH with
 |val ai eH=>cases eH with
  |val aw eH=>
   cases eH;obtain⟨a,rfl,aq⟩:=ai.scrV;cases aw.intV;exact⟨a,i,ns,rfl,dx.seq aq,ao,λz=>q _ _ B H (hk z) ⟨Wd.entry dx hw,bC.refl _ _,.int z⟩⟩
def Br:hB:=λvs H Q _=>∃c:Int,vs=[.int c]/\∀(b:TE)(x y:Int),H b=none->0<=x->0<=y->y<2147483647->Q (.ref b) (upd H b (.lst [.int x,.int y]))
def wJ:b4:=λas k=>∃c:Int,as=[.val (.int c)]/\k .bag
theorem Ld{K:Sx}{vs:Z4}{H:al}{Q:cf}{E:f3}(h:aY K 1 wJ vs H Q E):Br vs H Q E:=by
 obtain⟨W,B,as,k,⟨c,rfl,hk⟩,ax,ae,dx,hw,eH,q⟩:=h;cases eH with
 |val ai eH=>
  cases eH;cases ai.intV;refine⟨c,rfl,λb x y aG x0 c0 cP=>?_⟩;have wd:=Wd.entry dx hw;exact q .bag _ B _ hk ⟨wd.allocH aG _,bC.refl _ _,b,rfl,aG,(wd.fresh aG).2.2,x,y,eo,x0,c0,cP⟩
def Bs(lim:Nat):hB:=λvs H Q _=>∃(b:TE)(m:Int),vs=[.ref b,.int m]/\fU H b/\0<m/\T0 m<=lim/\∀(r:Int)(aj:al),pR b H aj->fU aj b->0<=r->r<m->Q (.int r) aj
def lx(lim:Nat):b4:=λas k=>∃m:Int,as=[.bag,.val (.int m)]/\0<m/\T0 m<=lim/\∀r:Int,0<=r->r<m->k (.val (.int r))
theorem Le{K:Sx}{lim:Nat}{vs:Z4}{H:al}{Q:cf}{E:f3}(h:aY K 2 (lx lim) vs H Q E):Bs lim vs H Q E:=by
 obtain⟨W,B,as,k,⟨m,rfl,dY,fQ,hk⟩,ax,ae,dx,hw,eH,q⟩:=h;cases eH with
 |bag gD eH=>cases eH with
  |val aw eH=>
   cases eH;cases aw.intV
   rename_i b
   refine⟨b,m,rfl,(hw b gD).2,dY,fQ,λr aj ex jK ek ai=>?_⟩;have wd:=Wd.entry dx hw;refine q _ _ B aj (hk r ek ai) ⟨⟨λa o aa ab=>ex a o (by rintro rfl;exact ab gD) aa,λa o aa=>ex a o (by rintro rfl;rw[(hw _ gD).1]at aa;cases aa) (dx a o aa),wd.wb,λa z=>?_,wd.wr⟩,bC.refl _ _,.int r⟩;by_cases e:a=b
   ·subst e;exact jK
   obtain⟨x,y,aa,ab⟩:=(hw a z).2;exact⟨x,y,ex a _ e aa,ab⟩
theorem qf{c:Bool}{A B:Prop}(h:c=true)(a:A):if c=true then A else B:=by rw[TT h];exact a
theorem mm{c:Bool}{A B:Prop}(h:c=false)(b:B):if c=true then A else B:=by rw[h,TW SN];exact b
theorem Lf{x y:D}{A B:Prop}(aa:x=y->A)(ab:x≠y->B):if eqD x y=true then A else B:=by
 by_cases h:x=y
 ·rw[TT (jP.mpr h)];exact aa h
 rw[TW (λz=>h (jP.mp z))];exact ab h
theorem qg{x y:D}{A B:Prop}(aa:x≠y->A)(ab:x=y->B):if(!eqD x y)=true then A else B:=by
 by_cases h:x=y
 ·rw[jP.mpr h];exact ab h
 have:eqD x y=false:=by
  cases q:eqD x y with
  |false=>rfl
  |true=>exact absurd (jP.mp q) h
 rw[this];exact aa h
theorem Lg{x y:D}(h:x≠y):eqD x y=false:=by
 cases q:eqD x y with
 |false=>rfl
 |true=>exact absurd (jP.mp q) h
theorem cj{u:cx}{U:fu}{ρ r:Z3}(e:ρ=r)(h:u U r):u U ρ:=by rw[e];exact h
theorem sL{s t:cx}{U:fu}{ρ:Z3}(first:∀N:Z3->Prop,N ρ->s {U with nx:=N} ρ)(rest:t U ρ):wz s t U ρ:=first (t U) rest
theorem eJ{s t:cx}{U:fu}{ρ:Z3}(I:Z3->Prop)(rest:∀bt,I bt->t U bt)(first:∀N:Z3->Prop,(∀bt,I bt->N bt)->s {U with nx:=N} ρ):wz s t U ρ:=first _ rest
theorem Bt{g:e1}{s:cx}{U:fu}(I:Nat->Z3->Prop):∀{ds:Z7}{n:Nat}{ρ:Z3},I n ρ->
  (∀i d ρ,ds[i]?=some d->I (n+i) ρ->g d ρ λbt=>∀N:Z3->Prop,(∀p4,I (n+i+1) p4->N p4)->s {U with nx:=N,ct:=N,bk:=U.nx} bt)->
  (∀ρ,I (n+ds.length) ρ->U.nx ρ)->(∀d ρ (k gB:Z3->Prop),(∀r,k r->gB r)->g d ρ k->g d ρ gB)->gI g s U ds ρ
 |[],n,ρ,bi,_,ab,_=>ab ρ bi
 |d::ds,n,ρ,bi,aa,ab,aJ=>by
  refine aJ d ρ _ _ (λbt z=>z _ λp4 q=>?_) (aa 0 d ρ rfl bi)
  exact Bt I (n:=n+1) q (λi e ρ aF ao=>by
   have:=aa (i+1) e ρ (by simpa using aF) (by rw[show n+(i+1)=n+1+i by lia];exact ao);rw[show n+(i+1)+1=n+1+i+1 by lia]at this
   exact this) (λρ h=>ab ρ (by rw[SR,show n+(ds.length+1)=n+1+ds.length by lia];exact h)) aJ
theorem Bu{s:cx}{U:fu}{n:Nat}(I:Z3->Prop):∀{ds:Z7}{ρ:Z3},I ρ->(∀d∈ds,∃c:Int,d=.int c)->
  (∀(c:Int) ρ,I ρ->∀N:Z3->Prop,(∀r,I r->N r)->s {U with nx:=N,ct:=N,bk:=U.nx} (ρ.set n (.val (.int c))))->(∀ρ,I ρ->U.nx ρ)->gI (en n) s U ds ρ
 |[],ρ,bi,_,_,ab=>ab ρ bi
 |d::ds,ρ,bi,hd,aa,ab=>by
  obtain⟨c,rfl⟩:=hd d SD;exact aa c ρ bi _ λr au=>Bu I au (λe aF=>hd e (SJ _ aF)) aa ab
theorem Lh{α:Type}(xs:List α)(lo ao:Option Int):(gY xs lo ao).length<=xs.length:=by
 unfold gY;rw[Ts,Th];lia
theorem Li{α:Type}{xs:List α}{lo ao:Option Int}{x:α}(h:x∈gY xs lo ao):x∈xs:=VA (Vb h)
theorem Lj{z:Int}{ns:Z5}{lo ao:Option Int}:∀d∈[D.int z]++gY (ns.map D.int) lo ao,∃c:Int,d=.int c:=λd hd=>by
 rcases S3.mp hd with h|h
 ·exact⟨z,by simpa using h⟩
 obtain⟨i,_,e⟩:=SF.mp (Li h);exact⟨i,e.symm⟩
theorem Lk{z:Int}{ns:Z5}{lo ao:Option Int}(h:ns.length<=63):[D.int z].length+(gY (ns.map D.int) lo ao).length<=TI:=by
 have aa:=Lh (ns.map D.int) lo ao;rw[Sw]at aa;have:64<=TI:=by decide
 simp only[U9];lia
end L3
namespace L3
open PySem L2
section
variable{X:a1}
theorem gc{cl cs:List (Str×TE)}(h:∀p∈cl,cs.lookup p.1=some p.2):∀y c,cl.lookup y=some c->cs.lookup y=some c:=λy c e=>h (y,c) (Uv e)
theorem gs{names:List (Str×ZG)}{cl:List (Str×TE)}(h:(names.all λp => !(p.2==.cell||p.2==.free)||(cl.lookup p.1).isSome)=true):∀y,(names.lookup y=some .cell\/names.lookup y=some .free)->∃c,cl.lookup y=some c:=λy e=>by
 have key:∀k:ZG,(k==.cell||k==.free)=true->names.lookup y=some k->∃c,cl.lookup y=some c:=λk hk e=>by
  have q:=TC.mp h (y,k) (Uv e);have q:(!(k==.cell||k==.free)||(cl.lookup y).isSome)=true:=q;rw[hk]at q;exact Xm.mp (by simpa using q)
 rcases e with e|e
 ·exact key _ rfl e
 exact key _ rfl e
end
end L3
namespace L2
open PySem PySem.Spec PyProof.Rows
def jR(X:a1)(cA:agb)(tt:dq):Prop:=∀(af:agd)(s:SZ)(σ:St)(H:al)(Q:Bool->al->Prop),Inv X af σ H s->tt σ H Q->
 wpAny (Wp X.prog X.w) X.A (forIn cA true λt r=>if r=true then do let z <-ZO t X.env (YU t X.env);pure (VB z)else pure (VB r)) (rP X af σ Q) X.xe s
def Ll:dq:=λ_ H Q=>Q true H
theorem Lm{X:a1}:jR X [] Ll:=λ_ _ _ H _ I h=>wpAny_tests_nil ⟨H,I,h⟩
theorem Ln{X:a1}{c:WP}{tt:dq}(h:hm X c tt):jR X [c] tt:=λaf s σ H Q I q=>wpAny_tests_one (h af s σ H Q I q)
def Lo(J:f5)(g:e7)(tt:dq)(b6:bA)(wK:St)(D:TE)(ar:al)(Q:cf):Prop:=∃W:Nat->Nat->St->al->Prop,(∃m,W 0 m wK (upd ar D (.lst [])))/\∀i m σ H,W i m σ H->
 (J.stop i H/\Q (.ref D) H)\/(J.go i H/\∀x aj,J.yld i H x aj->g x σ aj λko a0=>tt ko a0 λb cg=>if b=true then b6 ko cg λy fD=>∃ys,fD D=some (.lst ys)/\ys.length<TI/\∃cU,cU<m/\W (i+1) cU ko (upd fD D (.lst (ys++[y])))else ∃cU,cU<m/\W (i+1) cU ko cg)
def qh(dF:bL)(g:e7)(tt:dq)(b6:bA)(c1:Nat)(js:Z8):bA:=λσ H Q=>dF σ H λJ ar=>∀D,ar D=none->Lo J g tt b6 (SY c1 none++gq σ js) D ar Q
abbrev ly:=St->al->(St->al->Prop)->Prop
def qi(Y:a1)(hX:Sem Fin->Sem Fin)(em:ly):Prop:=∀(af:agd)(s:SZ)(σ:St)(H:al)(Q:St->al->Prop)(k:Sem Fin)(R:Fin->SZ->Prop)(E:SL->SZ->Prop),Inv Y af σ H s->em σ H Q->
 (∀s' a4 aj,Inv Y af a4 aj s'->Q a4 aj->wpAny (Wp Y.prog Y.w) Y.A k R E s')->wpAny (Wp Y.prog Y.w) Y.A (hX k) R E s
def qj(e:WP)(d:Nat)(bd src:WP)(cA:agb)(hX:Sem Fin->Sem Fin)(it acc:SL)(env:Uy):Sem Fin:=
 ZM src.pos >>= λ_=>YV it >>= λr=>match r with
  |none=>pure (Fin.done .next)
  |some v=>Y6 bd it v >>= λ_=>ZP bd env v >>= λ_=>
   (forIn cA true λt r=>if r=true then do let z <-ZO t env (YU t env);pure (VB z)else pure (VB r)) >>= λok=>
    if ok=true then hX (again (.compLoop e d it acc env))else again (.compLoop e d it acc env)
def Bv(cp:WP)(acc:SL)(env:Uy)(k:Sem Fin):Sem Fin:=(YU cp env >>= λx=>call (.builtin "list.append") [acc,x] >>= λ_=>pure ()) >>= λ_=>k
section
variable{Y:a1}{cp bd src:WP}{gens:List Zi}{cA:agb}{eM:Y2}{ps:Pos}{d:Nat}{acc:SL}{dF:bL}{g:e7}{tt:dq}{b6:bA}{em:ly}{hX:Sem Fin->Sem Fin}
def wL(b6:bA)(D:TE):ly:=λσ H Q=>b6 σ H λy fD=>∃ys,fD D=some (.lst ys)/\ys.length<TI/\Q σ (upd fD D (.lst (ys++[y])))
def Bw(J:f5)(g:e7)(tt:dq)(em:ly)(W:Nat->Nat->St->al->Prop)(QS:St->al->Prop):Prop:=∀i m σ H,W i m σ H->
 (J.stop i H/\QS σ H)\/(J.go i H/\∀x aj,J.yld i H x aj->g x σ aj λko a0=>tt ko a0 λb cg=>if b=true then em ko cg λLp fD=>∃cU,cU<m/\W (i+1) cU Lp fD else ∃cU,cU<m/\W (i+1) cU ko cg)
theorem Lq{it:TE}{J:f5}{ci:aga}{fC:Nat->Yn->Prop}(bw:ZU (.ListComp cp gens eM ps) d (.ref it) acc Y.env=qj (.ListComp cp gens eM ps) d bd src cA hX (.ref it) acc Y.env)(T:l6 Y.prog Y.w Y.K bd J ci it fC)(hx:∀e s,¬Y.xe e s)(hc:Y.calm=true)(aJ:hJ Y bd g)(gt:jR Y cA tt)(nr:qi Y hX em){af:agd}{W:Nat->Nat->St->al->Prop}{QS:St->al->Prop}{dY:Nat}{s:SZ}{σ:St}{H:al}(I:Inv Y af σ H s)(st:fC 0 s.heap)(fr:∀b∈ci,hr Y af H b)(d8:W 0 dY σ H)(turn:Bw J g tt em W QS){R:ZF->SZ->Prop}(eS:∀s' a4 aj,Inv Y af a4 aj s'->QS a4 aj->R (.ok .next) s'):
  codeAny (Wp Y.prog Y.w) Y.A (.compLoop (.ListComp cp gens eM ps) d (.ref it) acc Y.env) R s:=by
 have k6:∀{aj:al},(∀b∈ci,aj b=none)->∀b∈ci,hr Y af aj b:=λaG b ae=>⟨aG b ae,(fr b ae).2⟩;refine codeAny_loop rfl (λn s'=>∃i a4 aj,Inv Y af a4 aj s'/\fC i s'.heap/\(∀b∈ci,aj b=none)/\W i n a4 aj) (λn ff hv=>?_) dY ⟨0,σ,H,I,st,λb ae=>(fr b ae).1,d8⟩;show wpAny _ Y.A (Sem.onRaise (ZU (.ListComp cp gens eM ps) d (.ref it) acc Y.env) _) _ _ ff
 rw[bw];unfold qj;refine wpAny_noted (SB (YX (SB ?_)));obtain⟨i,qk,er,jC,oh,rV,Lr⟩:=hv;rcases turn i n qk er Lr with⟨stop,q⟩|⟨go,step⟩
 ·refine YI (T.done Y rfl rfl rfl hc i af ff qk er (λ_ _=>False) jC (k6 rV) oh stop) (λr s6 ⟨au,hs⟩=>?_) (λ_ _ z=>z.elim);subst au;exact TD (eS _ _ _ hs q)
 refine YI (T.item Y rfl rfl rfl hc i af ff qk er (λ_ _=>False) jC (k6 rV) oh go) (λr s6 ⟨u,au,ir⟩=>?_) (λ_ _ z=>z.elim);subst au;refine SB (YI ir (λ_ k7 ⟨v,ih,ht,vO,Ls,wM,Lu⟩=>?_) (λ_ _ z=>z.elim));have Lv:=ht.pinned (k6 Lu) (T.obj _ _ wM)
 have back:∀{oE:SZ}{sM:St}{oF:al}{hq:Nat},Inv Y (af++pE ci k7.heap) sM oF oE->W (i+1) hq sM oF->∃i a4 aj,Inv Y af a4 aj oE/\fC i oE.heap/\(∀b∈ci,aj b=none)/\W i hq a4 aj:=λ{oE sM oF hq} oG ql=>by
  refine⟨i+1,sM,oF,oG.unpinned,T.keep _ _ _ wM λb ae mn gK=>(oG.pin (b,mn) (Tx _ (Tx _ (rT ae gK)))).1,λb ae=>?_,ql⟩;obtain⟨mn,gK,_⟩:=T.obj _ _ wM b ae;exact(oG.pin (b,mn) (Tx _ (Tx _ (rT ae gK)))).2.1
 refine SB (YI (aJ _ k7 qk ih v u _ Lv vO (step v ih Ls)) (λ_ Lw ⟨Bx,Lx,Ly,Lz⟩=>?_) (λ_ _ z=>(hx _ _ z).elim));refine SB (YI (gt _ Lw Bx Lx _ Ly Lz) (λb oE ⟨oF,oG,sN⟩=>?_) (λ_ _ z=>(hx _ _ z).elim));cases b with
 |false=>
  rw[TW SN]at sN⊢;obtain⟨cU,wN,ql⟩:=sN;exact TD ⟨rfl,cU,wN,back oG ql⟩
 |true=>
  rw[TT rfl]at sN⊢;refine nr _ oE Bx oF _ _ _ _ oG sN λs' a4 aj kl fP=>?_;obtain⟨cU,wN,ql⟩:=fP;exact TD ⟨rfl,cU,wN,back kl ql⟩
theorem By{D:TE}(aF:bE Y cp b6)(hx:∀e s,¬Y.xe e s):qi Y (Bv cp (.ref D) Y.env) (wL b6 D):=by
 intro af s σ H Q k R E I h hk;unfold Bv;refine SB (SB (YI (aF af s σ H _ I h) (λLA LB ⟨y,Bz,LC,LD,ys,LF,jS,LG⟩=>?_) (λ_ _ z=>(hx _ _ z).elim)));have mt:=v' (X:=Y) af LB σ Bz (.ref D) [y] (.ref D) [LA] (λ_ aj=>aj=upd Bz D (.lst (ys++[y]))) LC rfl (.cons LD .nil) ⟨D,ys,y,rfl,rfl,LF,jS,rfl⟩;refine SB (YI mt (λ_ afw ⟨_,afx,LH,_,LI⟩=>?_) (λ_ _ z=>(hx _ _ z).elim));subst LI;exact TD (hk _ _ _ LH LG)
end
section
variable{X:a1}
structure lA(X:a1)(scope:Y2)(cl:List (Str×TE))(fr:af9)(js:Z8):Prop where
 clos:closureFor scope X.env=pure cl
 cell:∀y∈scope.names,y.2≠.cell
 kind:scope.kind=.function
 names:∀y∈scope.names,y.2=.local->scope.names.lookup y.1=some .local
 sub:∀y c,cl.lookup y=some c->X.env.cells.lookup y=some c
 has:∀y,((relabel scope X.env).names.lookup y=some .cell\/(relabel scope X.env).names.lookup y=some .free)->∃c,cl.lookup y=some c
 frn:∀(i:Nat)(y:Str),fr[i]?=some y->∃j:Nat,js[i]?=some j/\X.N[j]?=some y/\X.env.kindOf y=some .cell/\((relabel scope X.env).names.lookup y=some .cell\/(relabel scope X.env).names.lookup y=some .free)/\∃c,cl.lookup y=some c
 len:js.length=fr.length
end
def LJ(J:f5)(g:e7)(tt:dq)(em:TE->ly)(wK:St)(D:TE)(ar:al)(Q:cf):Prop:=∃W:Nat->Nat->St->al->Prop,(∃m,W 0 m wK (upd ar D (.lst [])))/\Bw J g tt (em D) W λ_ H=>Q (.ref D) H
def wO(dF:bL)(g:e7)(tt:dq)(em:TE->ly)(c1:Nat)(js:Z8):bA:=λσ H Q=>dF σ H λJ ar=>∀D,ar D=none->LJ J g tt em (SY c1 none++gq σ js) D ar Q
section
variable{X:a1}
theorem BA{cp iter bd:WP}{rest:List Zi}{cA:agb}{pos:Pos}{scope:Y2}{cl:List (Str×TE)}{ts fr:af9}{js:Z8}{dF:bL}{g:e7}{tt:dq}{em:TE->ly}{hX:SL->Uy->Sem Fin->Sem Fin}{use:Option (SL->Sem Unit)}{RQ:SL->SZ->Prop}{QE:cf}(ao:hN X bd iter dF)(aJ:∀C s H ex,hJ (cY X (ts++fr) scope cl C s H ex) bd g)(gt:∀C s H ex,jR (cY X (ts++fr) scope cl C s H ex) cA tt)(nr:∀D C s H ex,qi (cY X (ts++fr) scope cl C s H ex) (hX (.ref D) (Zz scope cl C X.env)) (em D))(qm:∀it acc env,ZU (.ListComp cp (⟨bd,iter,cA,0⟩::rest) scope pos) 0 it acc env=qj (.ListComp cp (⟨bd,iter,cA,0⟩::rest) scope pos) 0 bd iter cA (hX acc env) it acc env)(F:lA X scope cl fr js)(hc:X.calm=true)(av:∀v,WF iter X.env v=pure v){af:agd}{s:SZ}{σ:St}{H:al}(I:Inv X af σ H s)(h:wO dF g tt em ts.length js σ H QE)(BB:Sem SL)(LK:BB=newList [])(fk:Pos)(eS:∀(D C:TE)(er:al)(s6:SZ)(m:Str->Option SL),s6.heap.Ns C m->er C=none->C≠X.env.locals->X.s₀.heap.objs.size<=C->(∀x c,X.env.cells.lookup x=some c->c≠C)->(∀p∈X.pn++af,p.1≠C)->C∉X.fs->(∀h':Yn,(∀b u,b≠C->s6.heap.get? b=some u->h'.get? b=some u)->Inv X af σ er {s6 with heap:=h' })->QE (.ref D) er->compPost (Wp X.prog X.w) X.A X.xe use RQ (.ref D) C (.ok .next) s6):
  wpAny (Wp X.prog X.w) X.A (comprehension (.ListComp cp (⟨bd,iter,cA,0⟩::rest) scope pos) scope X.env fk BB false (YU iter X.env) use) RQ X.xe s:=by
 refine wpAny_comprehension_free (use:=use) rfl av F.clos F.kind F.names (bQ (ao af s σ H _ I h) λafy s1 aa=>bQ aa λvJ aI ab=>?_);obtain⟨it,ci,fC,J,a0,rfl,dt,T,k5,bJ,ab⟩:=ab;have f8:a0 aI.heap.objs.size=none:=dt.fresh;obtain⟨W,⟨dY,d8⟩,turn⟩:=ab _ f8;rw[LK];refine Yt ?_;have cu:Inv X af σ (upd a0 aI.heap.objs.size (.lst [])) {aI with heap:=aI.heap.push {cls:=.type "list",data:=.seq ([]:af').toArray} }:=dt.lnew (t':=aI.toks) (its:=[]) .nil (by show 0<=TI;decide);generalize LL:({aI with heap:=aI.heap.push {cls:=.type "list",data:=.seq ([]:af').toArray} }:SZ)=bI at cu;have bz:bI.heap=aI.heap.push {cls:=.type "list",data:=.seq ([]:af').toArray}:=by rw[<-LL]
 generalize BC:upd a0 aI.heap.objs.size (.lst [])=cg at cu d8;generalize LM:aI.heap.objs.size=D at f8 BC d8 turn;have mi:∀b o,aI.heap.get? b=some o->bI.heap.get? b=some o:=λb o e=>by rw[bz];exact Heap.get?_push_of_some _ e
 have bY:∀b∈ci,hr X af cg b:=λb ae=>by
  obtain⟨o,aM,_⟩:=T.obj _ _ k5 b ae;have lt:=Heap.lt_size aM;refine⟨?_,(bJ b ae).2⟩;rw[<-BC,cB (by rw[<-LM];exact SV lt)];exact(bJ b ae).1
 refine wpAny_newFunctionEnv F.cell (by intro y hy;simp at hy) (λaa r9 LN=>?_) F.kind;have LO:bI.heap.get? bI.heap.objs.size=none:=Heap.get?_none_of_le (SG _);have mj:∀b o,bI.heap.get? b=some o->aa.get? b=some o:=λb o e=>LN.extBut b o (SV (Heap.lt_size e)) (Heap.get?_push_of_some _ e);show codeAny (Wp X.prog X.w) X.A (.compStart (.ListComp cp (⟨bd,iter,cA,0⟩::rest) scope pos) 0 (.ref it) (.ref D) (Zz scope cl bI.heap.objs.size X.env)) (compPost (Wp X.prog X.w) X.A X.xe use RQ (.ref D) bI.heap.objs.size) _
 have ok:(cY X (ts++fr) scope cl bI.heap.objs.size bI cg ci).Ok:=by
  refine⟨cu.ok.mod,F.kind,cu.ok.glob,cu.ok.blt,SG _,λy z c ah am=>cu.ok.inj y z c (F.sub _ _ ah) (F.sub _ _ am),λy hy=>F.has y hy,λy c z=>absurd z SN,cu.ok.hd,cu.ok.frames,.inl rfl,λb ae=>?_,cu.bs,SE cu.ok.bsz cu.sz,
   λb o e ae=>?_,λb ae hf=>?_,cu.stack,cu.stkFree,cu.tabs⟩
  ·obtain⟨o,aM,_⟩:=T.obj _ _ k5 b ae;exact⟨SV (Heap.lt_size (mi b o aM)),λy c e=>(bY b ae).2.2.2.2.1 y c (F.sub _ _ e)⟩
  ·obtain⟨_,_,_,z,_⟩:=bY b ae;rcases z with z|z
   ·exact cu.ok.noex b o e z
   exact absurd (S9 (Heap.lt_size (cu.ok.bs b o e).1) z) (Tc _)
  rcases SH.mp (cu.stkSub b hf)with z|z
  ·exact(bY b ae).2.1 z
  exact(bY b ae).2.2.1 z
 have LP:∀(dP:Yn),(∀b u,bI.heap.get? b=some u->dP.get? b=some u)->∀(i:Nat)(y:Str)(v:V),fr[i]?=some y->(gq σ js)[i]?=some (some v)->∃u,RelV v u/\∀m,Look (Zz scope cl bI.heap.objs.size X.env) dP m y u:=λdP be i y v ah am=>by
  obtain⟨j,lB,LQ,hk,LR,c,sO⟩:=F.frn i y ah
  have wP:σ[j]?=some (some v):=by
   unfold gq at am;rw[S1,lB,UR]at am;have am:=SM am;cases q:σ[j]? with
   |none=>rw[q]at am;simp at am
   |some z=>rw[q]at am;simpa using am
  obtain⟨m,aG,ax⟩:=cu.loc;obtain⟨u,r,l⟩:=ax j y v LQ wP (.inr (.inl hk));refine⟨u,r,λcU=>.inr ⟨LR,c,sO,?_⟩⟩;rcases l with⟨z,_⟩|⟨_,dg,iL,LS⟩
  ·rw[hk]at z;cases z
  have e:=F.sub _ _ sO;rw[iL]at e;cases e;obtain⟨mn,aB,aL⟩:=LS;exact⟨mn,be _ _ aB,aL⟩
 have gA:Inv (cY X (ts++fr) scope cl bI.heap.objs.size bI cg ci) [] (SY ts.length none++gq σ js) cg {bI with heap:=aa,toks:=bI.toks+([]:List (Str×SL)).length}:=by
  refine⟨ok,rfl,cu.bare,eU.kept mj,⟨_,r9,λi y v ah am bz=>?_⟩,λy c e=>?_,cu.fresh,λy c e=>cu.freeC y c (F.sub _ _ e),λp ak=>absurd (show p∈([]:agd)from ak) (by simp),cu.hok.kept mj,?_⟩
  ·by_cases ce:i<ts.length
   ·rw[Tt (by simpa using ce),UM,TT ce]at am;cases am
   have ah:(ts++fr)[i]?=some y:=ah;rw[Tz (by lia)]at ah;rw[Tz (by simp;lia),Uk]at am;obtain⟨u,r,l⟩:=LP aa mj _ y v ah am;exact⟨u,r,l _⟩
  ·obtain⟨v,mn,aB,aL⟩:=cu.cell y c (F.sub _ _ e);exact⟨v,mn,mj _ _ aB,aL⟩
  show _=(ts++fr).length
  rw[SU,SU,Uk];unfold gq;rw[Sw,F.len]
 have k6:∀{aj:al},(∀b∈ci,aj b=none)->∀b∈ci,hr (cY X (ts++fr) scope cl bI.heap.objs.size bI cg ci) [] aj b:=λaG b ae=>by
  obtain⟨o,aM,_⟩:=T.obj _ _ k5 b ae;exact⟨aG b ae,(ok.exf b ae).1,ok.exfs b ae,.inl ae,(ok.exf b ae).2,λp ak=>absurd (show p∈([]:agd)from ak) (by simp)⟩
 have loop:∀dG:SZ,dG={bI with heap:=aa,toks:=bI.toks+([]:List (Str×SL)).length}->
   codeAny (Wp X.prog X.w) X.A (.compLoop (.ListComp cp (⟨bd,iter,cA,0⟩::rest) scope pos) 0 (.ref it) (.ref D) (Zz scope cl bI.heap.objs.size X.env)) (compPost (Wp X.prog X.w) X.A X.xe use RQ (.ref D) bI.heap.objs.size) dG:=by
  intro dG cF;rw[<-cF]at gA;have LU:fC 0 dG.heap:=T.keep _ _ _ k5 λb _ o e=>by rw[cF];exact mj b o (mi b o e)
  refine Lq (Y:=cY X (ts++fr) scope cl bI.heap.objs.size bI cg ci) (QS:=λ_ er=>QE (.ref D) er) (qm _ _ _) T (λ_ _ z=>z) hc (aJ _ _ _ _) (gt _ _ _ _) (nr D _ _ _ _) gA LU (k6 λb ae=>(bY b ae).1) d8 turn λs6 qk er hs q=>?_;obtain⟨m,aG,_⟩:=id hs.loc;refine eS D bI.heap.objs.size er s6 m aG hs.free (TP cu.lt) cu.sz (λy c e z=>?_) (λp ak z=>?_) (cu.nofs (SG _)) (λh' nt=>?_) q
  ·obtain⟨v,mn,aB,aL⟩:=cu.cell y c e;exact absurd (Heap.lt_size aB) (by rw[z];exact Tc _)
  ·exact absurd (Heap.lt_size (cu.pin p ak).1) (by rw[z];exact Tc _)
  refine cu.call' (s':={s6 with heap:=h' }) (ch:=ci) hs.os ((show eU (ja X.stack) ci cg er bI.heap s6.heap from hs.base).but LO nt) (hs.hok.but hs.free nt) hs.bare (λb ae=>?_);obtain⟨_,aE,_,fV,fH,nu⟩:=bY b ae;exact⟨fV,aE,fH,nu⟩
 exact codeAny_compStart_list (loop _ rfl) (T.self _ 0 _ _ _ (T.keep _ _ _ k5 λb _ o e=>mj b o (mi b o e)) (loop _ rfl))
theorem LV{cp iter bd:WP}{rest:List Zi}{cA:agb}{pos:Pos}{scope:Y2}{cl:List (Str×TE)}{ts fr:af9}{js:Z8}{dF:bL}{g:e7}{tt:dq}{em:TE->ly}{hX:SL->Uy->Sem Fin->Sem Fin}(ao:hN X bd iter dF)(aJ:∀C s H ex,hJ (cY X (ts++fr) scope cl C s H ex) bd g)(gt:∀C s H ex,jR (cY X (ts++fr) scope cl C s H ex) cA tt)(nr:∀D C s H ex,qi (cY X (ts++fr) scope cl C s H ex) (hX (.ref D) (Zz scope cl C X.env)) (em D))(qm:∀it acc env,ZU (.ListComp cp (⟨bd,iter,cA,0⟩::rest) scope pos) 0 it acc env=qj (.ListComp cp (⟨bd,iter,cA,0⟩::rest) scope pos) 0 bd iter cA (hX acc env) it acc env)(F:lA X scope cl fr js)(hc:X.calm=true)(av:∀v,WF iter X.env v=pure v):bE X (.ListComp cp (⟨bd,iter,cA,0⟩::rest) scope pos) (wO dF g tt em ts.length js):=by
 intro af s σ H Q I h;rw[eval_ListComp];refine BA ao aJ gt nr qm F hc av I h _ rfl _ λD C er s6 m aG _ _ _ _ _ _ ig q=>⟨m,aG,λh' qn=>⟨.ref D,er,ig h' λb u ae e=>qn.extBut b u ae e,rfl,q⟩⟩
end
section
variable{X:a1}
theorem LW{cp iter bd:WP}{rest:List Zi}{cA:agb}{pos:Pos}{scope:Y2}{cl:List (Str×TE)}{ts fr:af9}{js:Z8}{dF:bL}{g:e7}{tt:dq}{em:TE->ly}{hX:SL->Uy->Sem Fin->Sem Fin}{i:Nat}{y:Str}{d7 jT:Pos}(bU:X.N.Nodup)(nv:X.N[i]?=some y)(hy:X.env.scope.names.lookup y=some .local)(ao:hN X bd iter dF)(aJ:∀C s H ex,hJ (cY X (ts++fr) scope cl C s H ex) bd g)(gt:∀C s H ex,jR (cY X (ts++fr) scope cl C s H ex) cA tt)(nr:∀D C s H ex,qi (cY X (ts++fr) scope cl C s H ex) (hX (.ref D) (Zz scope cl C X.env)) (em D))(qm:∀it acc env,ZU (.ListComp cp (⟨bd,iter,cA,0⟩::rest) scope pos) 0 it acc env=qj (.ListComp cp (⟨bd,iter,cA,0⟩::rest) scope pos) 0 bd iter cA (hX acc env) it acc env)(F:lA X scope cl fr js)(hc:X.calm=true)(av:∀v,WF iter X.env v=pure v)(jO:Yu (.ListComp cp (⟨bd,iter,cA,0⟩::rest) scope pos) (some (.Name y d7)) jT.line X.env=pure true):
  ho X (.Assign [.Name y d7] (.ListComp cp (⟨bd,iter,cA,0⟩::rest) scope pos) jT) (pC (wO dF g tt em ts.length js) (ob i)):=by
 intro af s σ H D I h;rw[exec_Assign_Name_used _ _ _ _ jO];refine SB (YX (SB ?_));show wpAny _ X.A (do let _ <-comprehension (.ListComp cp (⟨bd,iter,cA,0⟩::rest) scope pos) scope X.env _ (newList []) false (YU iter X.env) (some (ZP (.Name y d7) X.env))) _ _ s
 refine SB (bQ (BA (RQ:=λ_ s'=>∃a4 aj,Inv X af a4 aj s'/\D.nx a4 aj) (QE:=λv ar=>ob i v σ ar D.nx) ao aJ gt nr qm F hc av I h _ rfl _ ?_) λ_ s' q=>TD (TD q));intro L C er s6 m aG hf df hsz sO LX LY ig q;obtain⟨o,aD,bW,aM,hd,r⟩:=id aG;have hs:Inv X af σ er s6:=ig s6.heap λb u _ e=>e
 have LZ:Inv X (af++[(C,o)]) σ er s6:=hs.pins_of λp ak=>by
  rcases S3.mp ak with z|z
  ·exact hs.pin p (Tx _ z)
  have z:p=(C,o):=by simpa using z
  subst z;exact⟨aM,hf,df,LY,λv z=>by rw[hd]at z;cases z⟩
 show wpAny _ X.A (ZP (.Name y d7) X.env (.ref L)) _ _ _
 refine wpAny_assign_Name (l0 LZ bU nv (.inl hy) (v:=.ref L) rfl (λk7 ht=>?_) (.inr hy));have wQ:k7.heap.get? C=some o:=(ht.pin (C,o) (Tx _ (Tx _ (SP.mpr rfl)))).1;refine⟨m,⟨o,aD,bW,wQ,hd,r⟩,λh' qn=>⟨_,er,?_,q⟩⟩;exact ht.unpinned.turned (t':=k7.toks) (λb u ae e=>qn.extBut b u ae e) hf df (.inr hsz) sO LX
end
section
variable{X:a1}
theorem BD{cp iter bd:WP}{cA:agb}{pos:Pos}{scope:Y2}{cl:List (Str×TE)}{ts fr:af9}{js:Z8}{dF:bL}{g:e7}{tt:dq}{b6:bA}(ao:hN X bd iter dF)(aJ:∀C s H ex,hJ (cY X (ts++fr) scope cl C s H ex) bd g)(gt:∀C s H ex,jR (cY X (ts++fr) scope cl C s H ex) cA tt)(jU:∀C s H ex,bE (cY X (ts++fr) scope cl C s H ex) cp b6)(F:lA X scope cl fr js)(hc:X.calm=true)(av:∀v,WF iter X.env v=pure v):bE X (.ListComp cp [⟨bd,iter,cA,0⟩] scope pos) (qh dF g tt b6 ts.length js):=
 LV (rest:=[]) (em:=wL b6) ao aJ gt (λD C s H ex=>By (Y:=cY X (ts++fr) scope cl C s H ex) (jU C s H ex) λ_ _ z=>z) (λ_ _ _=>rfl) F hc av
theorem BE{cp iter bd:WP}{cA:agb}{pos:Pos}{scope:Y2}{cl:List (Str×TE)}{ts fr:af9}{js:Z8}{dF:bL}{g:e7}{tt:dq}{b6:bA}{i:Nat}{y:Str}{d7 jT:Pos}(bU:X.N.Nodup)(nv:X.N[i]?=some y)(hy:X.env.scope.names.lookup y=some .local)(ao:hN X bd iter dF)(aJ:∀C s H ex,hJ (cY X (ts++fr) scope cl C s H ex) bd g)(gt:∀C s H ex,jR (cY X (ts++fr) scope cl C s H ex) cA tt)(jU:∀C s H ex,bE (cY X (ts++fr) scope cl C s H ex) cp b6)(F:lA X scope cl fr js)(hc:X.calm=true)(av:∀v,WF iter X.env v=pure v)(jO:Yu (.ListComp cp [⟨bd,iter,cA,0⟩] scope pos) (some (.Name y d7)) jT.line X.env=pure true):
  ho X (.Assign [.Name y d7] (.ListComp cp [⟨bd,iter,cA,0⟩] scope pos) jT) (pC (qh dF g tt b6 ts.length js) (ob i)):=
 LW (rest:=[]) (em:=wL b6) bU nv hy ao aJ gt (λD C s H ex=>By (Y:=cY X (ts++fr) scope cl C s H ex) (jU C s H ex) λ_ _ z=>z) (λ_ _ _=>rfl) F hc av jO
end
end L2
namespace L3
open PySem L2
def fv(g:e1)(cV:cK)(u:a2):Z7->Z3->(Z7->Prop)->Prop
 |[],_,k=>k []
 |d::ds,ρ,k=>g d ρ λgH=>cV gH λb=>if b=true then u gH λy=>fv g cV u ds gH λys=>k (y::ys)else fv g cV u ds gH k
def i2:cK:=λ_ k=>k true
def nw(w:cN)(g:e1)(cV:cK)(u:a2)(c1:Nat)(js:Z8):cN:=λρ k=>w ρ λds=>ds.length<=TI/\fv g cV u ds (SY c1 .no++js.map (gZ ρ)) k
section
variable{K:Sx}{X:a1}{e:WP}{aD:agb}{u:a2}{w:cN}{pos p:Pos}
theorem wR{ρ:Z3}(j:Nat):gZ ρ j=.no\/(∃d,gZ ρ j=.val d/\ρ[j]?=some (.val d))\/(gZ ρ j=.bag/\ρ[j]?=some .bag):=by
 unfold gZ;split
 ·rename_i d aQ;exact .inr (.inl ⟨d,rfl,aQ⟩)
 ·rename_i aQ;exact .inr (.inr ⟨rfl,aQ⟩)
 exact .inl rfl
theorem a3.within{R:al}{W:TE->Prop}{B H:al}{σ:St}{ρ:Z3}(e:a3 K R W B H σ ρ)(c1:Nat){js:Z8}(lC:js.Nodup):
  a3 K H (λa=>∃j,j∈js/\σ[j]?=some (some (.ref a))/\ρ[j]?=some .bag) B H (SY c1 none++gq σ js) (SY c1 .no++js.map (gZ ρ)):=by
 have jK:∀(a:TE)(j:Nat),σ[j]?=some (some (V.ref a))->ρ[j]?=some aN.bag->B a=none/\fU H a:=λa j aE aU=>by
  obtain⟨c,br,_,es,eR⟩:=e.bagAt aU;rw[aE]at br;cases br;exact⟨es,eR⟩
 refine⟨⟨λ_ _ z _=>z,e.bh,λa ⟨j,_,aE,aU⟩=>(jK a j aE aU).1,λa ⟨j,_,aE,aU⟩=>(jK a j aE aU).2,λa ⟨j,_,aE,aU⟩=>?_⟩,?_,λn be hk=>?_,λn m a m1 m2=>?_⟩
 ·obtain⟨x,y,q,_⟩:=(jK a j aE aU).2;rw[q];simp
 ·unfold gq;simp
 ·by_cases ce:n<c1
  ·rw[Tt (by simpa using ce),UM,TT ce]at hk;cases hk;trivial
  rw[Tz (by simp;lia),Uk,S1]at hk;cases iu:js[n-c1]? with
  |none=>rw[iu]at hk;cases hk
  |some j=>
   rw[iu]at hk;have hk:=SM hk
   have qo:((SY c1 none++gq σ js)[n]?).join=(σ[j]?).join:=by
    rw[Tz (by simp;lia),Uk];unfold gq;rw[S1,iu];rfl
   rw[qo,<-hk];rcases wR (ρ:=ρ) j with z|⟨jh,z,aQ⟩|⟨z,aQ⟩<;>rw[z]
   ·trivial
   ·obtain⟨v,v1,v2⟩:=e.ok j _ aQ;exact⟨v,v1,v2⟩
   obtain⟨c,br,_,es,eR⟩:=e.ok j _ aQ;exact⟨c,br,.inl ⟨j,S4 iu,f' br,aQ⟩,es,eR⟩
 have back:∀n,cE (SY c1 none++gq σ js) (SY c1 .no++js.map (gZ ρ)) n a->∃j,c1<=n/\js[n-c1]?=some j/\cE σ ρ j a:=λn hT=>by
  rcases hT with⟨m1,m2⟩|⟨c,m1,_⟩
  rotate_left
  ·by_cases ce:n<c1
   ·rw[Tt (by simpa using ce),UM,TT ce]at m1;cases m1
   rw[Tz (by simp;lia),Uk,S1]at m1;cases iu:js[n-c1]? with
   |none=>rw[iu]at m1;cases m1
   |some j=>
    rw[iu,UR]at m1;rcases wR (ρ:=ρ) j with z|⟨jh,z,aQ⟩|⟨z,aQ⟩<;>rw[z]at m1<;>cases m1
  by_cases ce:n<c1
  ·rw[Tt (by simpa using ce),UM,TT ce]at m1;cases m1
  rw[Tz (by simp;lia),Uk]at m1;obtain⟨j,iu,L0⟩:=KV m1;rw[Tz (by simp;lia),Uk,S1,iu]at m2;refine⟨j,by lia,iu,.inl ⟨f' L0.symm,.inl ?_⟩⟩;rcases wR (ρ:=ρ) j with z|⟨jh,z,aQ⟩|⟨z,aQ⟩
  ·rw[UR,z]at m2;rcases m2 with q|⟨_,q⟩<;>cases q
  ·rw[UR,z]at m2;rcases m2 with q|⟨_,q⟩<;>cases q
  exact aQ
 obtain⟨j,l1,iu,wS⟩:=back n m1;obtain⟨oH,l2,L1,L4⟩:=back m m2;have:=e.sep j oH a wS L4;subst this
 have gd:n-c1<js.length:=by
  by_cases z:n-c1<js.length
  ·exact z
  rw[TM (by lia)]at iu;cases iu
 have:=(List.getElem?_inj gd lC).mp (iu.trans L1.symm);lia
theorem BF{R:al}{W:TE->Prop}{B:al}{a:TE}{vs:Z4}(h:R a=some (.lst vs))(ec:¬W a):il R W B a=some (.lst vs):=by
 unfold il;rw[h];dsimp only;rw[TW ec]
theorem L5{R:al}{W:TE->Prop}{B:al}{a:TE}(h:∀vs,R a≠some (.lst vs)):il R W B a=B a:=by
 unfold il;split
 ·rename_i vs e;exact absurd e (h vs)
 rfl
theorem BG{R:al}{W:TE->Prop}{B:al}{a:TE}{o:dM}(h:il R W B a=some o):B a=some o\/(¬W a/\R a=some o/\∃vs,o=.lst vs):=by
 unfold il at h;split at h
 ·rename_i vs e
  split at h
  ·exact .inl h
  rename_i z;cases h;exact .inr ⟨z,e,vs,rfl⟩
 exact .inl h
theorem L6{R:al}{W:TE->Prop}{B H:al}(w:Wd R W B H):ca (il R W B) H:=λa o h=>by
 rcases BG h with h|⟨aa,ab,_⟩
 ·exact w.bh a o h
 exact w.fr a o ab aa
theorem sP{R:al}{W ln:TE->Prop}{B aC H:al}(w:Wd R W B H)(s:ca B aC)(dx:ca aC H)(hw:∀a,ln a->R a≠none->W a)(ae:∀a,ln a->aC a=none):ca (il R W B) (il H ln aC):=λa o h=>by
 have eQ:=L6 w a o h;rcases BG h with h|⟨aa,ab,vs,rfl⟩
 ·have h':=s a o h;by_cases z:ln a
  ·rw[ae a z]at h';cases h'
  by_cases q:∃vs,H a=some (.lst vs)
  ·obtain⟨vs,q⟩:=q;rw[eQ]at q;cases q;exact BF eQ z
  rw[L5 λvs e=>q ⟨vs,e⟩];exact h'
 exact BF eQ λz=>aa (hw a z (by rw[ab];simp))
theorem a3.rebase{R:al}{W:TE->Prop}{B H:al}{σ:St}{ρ:Z3}(e:a3 K R W B H σ ρ)(az:∀j a,cE σ ρ j a->W a):a3 K H W B H σ ρ:=by
 refine⟨⟨λ_ _ z _=>z,e.bh,e.wb,e.wh,λa z=>by obtain⟨x',y',fP,_⟩:=e.wh a z;rw[fP];simp⟩,e.len,λj be aQ=>?_,e.sep⟩;have:=e.ok j be aQ;cases be with
 |no=>trivial
 |new d=>
  obtain⟨v,aa,ab⟩:=this;exact⟨v,aa,ab.mono (sP e.toWd (ca.refl _) e.bh (λ_ z _=>z) e.wb)⟩
 |pin v d=>exact⟨this.1,this.2.mono (sP e.toWd (ca.refl _) e.bh (λ_ z _=>z) e.wb)⟩
 |val d=>exact this
 |own ds=>
  obtain⟨a,aB,aL,_⟩:=this;exact absurd aL (e.wr a (az j a (.inl ⟨f' aB,.inr ⟨ds,aQ⟩⟩)))
 |deep c=>exact absurd (this.2.fr _ SD).1 (e.wr _ (az j _ (.inr ⟨c,aQ,SD⟩)))
 |bag=>
  obtain⟨c,br,bF,es,eR⟩:=this;exact⟨c,br,.inl (az j c (.inl ⟨f' br,.inl aQ⟩)),es,eR⟩
theorem a3.unbase{R:al}{W:TE->Prop}{B H aC aj:al}{σ:St}{ρ:Z3}(e:a3 K R W B H σ ρ)(az:∀j a,cE σ ρ j a->W a)(a7:a3 K H W aC aj σ ρ)(g:bC H B aC):a3 K R W aC aj σ ρ/\bC R B aC:=by
 refine⟨⟨⟨λa o z ec=>a7.fr a o (e.fr a o z ec) ec,a7.bh,a7.wb,a7.wh,e.wr⟩,a7.len,λj be aQ=>?_,a7.sep⟩,⟨g.s,λa o z=>?_⟩⟩
 ·have:=a7.ok j be aQ;cases be with
  |no=>trivial
  |new d=>
   obtain⟨v,aa,ab⟩:=e.ok j _ aQ;exact⟨v,aa,ab.mono (sg g.s)⟩
  |pin v d=>
   obtain⟨aa,ab⟩:=e.ok j _ aQ;exact⟨aa,ab.mono (sg g.s)⟩
  |val d=>exact this
  |own ds=>
   obtain⟨a,aB,aL,_⟩:=e.ok j _ aQ;exact absurd aL (e.wr a (az j a (.inl ⟨f' aB,.inr ⟨ds,aQ⟩⟩)))
  |deep c=>exact absurd ((e.deepAt aQ).2.fr _ SD).1 (e.wr _ (az j _ (.inr ⟨c,aQ,SD⟩)))
  |bag=>
   obtain⟨c,br,bF,es,eR⟩:=this;exact⟨c,br,.inl (az j c (.inl ⟨f' br,.inl aQ⟩)),es,eR⟩
 rcases g.n a o z with q|q
 ·exact .inl q
 exact .inr (e.toWd.fresh q).1
theorem BH{dF:bL}{g:e7}{tt:dq}{b6:bA}{eK:e1}{cV:cK}{c1:Nat}{js:Z8}(bi:ww K dF w)(aJ:ou K g eK)(bw:gV K tt cV)(aa:dv K b6 u)(lC:js.Nodup):si K (qh dF g tt b6 c1 js) (nw w eK cV u c1 js):=by
 intro ρ k h R W B H σ Q e q;refine bi ρ _ h R W B H σ _ e λds J a5 ar aE ah aK it=>?_;obtain⟨ax,aE⟩:=aE;intro D f8;obtain⟨bv,bJ,bY⟩:=ah.toWd.fresh f8;have mo:∀i,¬cE σ ρ i D:=λi m=>ah.notNew f8 m rfl;have ei:=ah.within c1 lC
 have jV:∀j a,cE (SY c1 none++gq σ js) (SY c1 .no++js.map (gZ ρ)) j a->∃j,j∈js/\σ[j]?=some (some (V.ref a))/\ρ[j]?=some aN.bag:=λj a m=>by
  have aL:=(ei.mutOk m).2;rcases m with⟨m1,z|⟨aD,z⟩⟩|⟨c,z,m3⟩
  ·obtain⟨c,br,bF,_⟩:=ei.bagAt z;rw[m1]at br;cases br;rcases bF with bF|bF
   ·exact bF
   exact absurd bF aL
  ·obtain⟨c,br,bF,_⟩:=ei.ownC z;rw[m1]at br;cases br;exact absurd bF aL
  exact absurd ((ei.deepAt z).2.fr a m3).1 aL
 generalize mq:(λa=>∃j,j∈js/\σ[j]?=some (some (V.ref a))/\ρ[j]?=some aN.bag)=et at ei;have jV:∀j a,cE (SY c1 none++gq σ js) (SY c1 .no++js.map (gZ ρ)) j a->et a:=λj a m=>by rw[<-mq];exact jV j a m
 have gD:∀a,et a->∃i:Nat,σ[i]?=some (some (.ref a))/\ρ[i]?=some .bag:=λa z=>by
  rw[<-mq]at z;obtain⟨j,_,z⟩:=z;exact⟨j,z⟩
 have jW:¬et D:=λz=>by
  obtain⟨fm,cP,d1⟩:=gD D z;exact mo fm (.inl ⟨cP,.inl d1⟩)
 refine⟨λi m iv aj=>∃aC ys aD g0,m=ds.length-i/\i<=ds.length/\a3 K ar et aC aj iv g0/\bC ar a5 aC/\aj D=some (.lst ys)/\aC D=none/\(∀j a,cE iv g0 j a->et a)/\ys.length<=i/\Reps K aC ys aD/\fv eK cV u (ds.drop i) g0 λr=>k (aD++r),
  ⟨ds.length,a5,[],[],_,by simp,Tu _,ei.allocH f8 _,bC.refl _ _,eo,bY,jV,SG _,.nil,by simpa using aE⟩,?_⟩
 rintro i m iv a0 ⟨bu,ys,aD,g0,rfl,ao,am,aP,hy,ae,qp,BI,b',aU⟩;obtain⟨cS,cH,gX⟩:=it a0 (aP.s.trans am.bh) i;by_cases ce:i<ds.length
 ·refine .inr ⟨cS ce,λx aj y=>?_⟩;obtain⟨rfl,d,hd,a8⟩:=gX x aj ce y
  have ga:ds.drop i=d::ds.drop (i+1):=by
   rw[T' ce];rw[SS ce]at hd;rw[SM hd]
  rw[ga]at aU;refine aJ d g0 _ aU ar et bu aj iv x _ am (a8.mono aP.s) λg1 fq fV bz hT=>?_;have ge:∀j a,cE fq g1 j a->et a:=λj a m=>qp j a (hT j a m)
  have jX:∀{fw:al},bC aj bu fw->fw D=none:=λ{fw} db=>by
   cases qq:fw D with
   |none=>rfl
   |some o=>
    rcases db.n D o qq with z|z
    ·rw[ae]at z;cases z
    rw[hy]at z;cases z
  refine bw g1 _ fV aj et bu aj fq _ (bz.rebase ge) λb fw fD fH cF db=>?_;have qr:fD D=some (.lst ys):=cF.fr D _ hy jW;cases b with
  |false=>
   rw[TW SN]at fH⊢;obtain⟨ej,g2⟩:=bz.unbase ge cF db;exact⟨ds.length-(i+1),by lia,fw,ys,aD,g1,rfl,ce,ej,aP.trans g2,qr,jX db,ge,by lia,b'.mono db.s,fH⟩
  |true=>
   rw[TT rfl]at fH⊢;refine aa g1 _ fH aj et fw fD fq _ cF λy' v qs er nu ej g2 ff=>?_;have iw:=db.trans g2;have qt:er D=some (.lst ys):=ej.fr D _ hy jW;obtain⟨jY,qu⟩:=bz.unbase ge ej iw;refine⟨ys,qt,by lia,ds.length-(i+1),by lia,qs,ys++[v],aD++[y'],g1,rfl,ce,jY.scribble f8 (jX iw) (λj m=>jW (ge j D m)) _,aP.trans qu,eo,jX iw,ge,by rw[SU,U9];lia,(b'.mono iw.s).append (.cons ff .nil),?_⟩;simpa[Ub]using nu
 have eq:i=ds.length:=by lia
 subst eq;rw[UP]at aU;obtain⟨cF,db⟩:=ah.after gD am.toWd aP;refine .inl ⟨cH (SG _),q _ D ys bu a0 (by simpa[fv]using aU) cF (aK.trans db) bv ae hy b' mo⟩
def ny(X:a1)(cA:agb)(cV:cK):Prop:=∃t,jR X cA t/\gV X.K t cV
theorem g4:ny X [] i2:=⟨_,Lm,λρ k h R W B H σ Q e q=>q true B H h e (bC.refl _ _)⟩
theorem BJ{c:WP}{cV:cK}(h:fi X c cV):ny X [c] cV:=by
 obtain⟨_,aa,ai⟩:=h;exact⟨_,Ln aa,ai⟩
theorem wT{cp:WP}{α:Type}{Xs:α->a1}(dZ:∀a,(Xs a).K=K)(h:∀a,aV (Xs a) cp u):∃t,(∀a,bE (Xs a) cp t)/\dv K t u:=by
 refine⟨λσ H Q=>∀a,∃t,bE (Xs a) cp t/\dv K t u/\t σ H Q,λa af s σ H Q I q=>?_,λρ k q R W B H σ Q e z a=>?_⟩
 ·obtain⟨t,bw,_,aA⟩:=q a;exact bw af s σ H Q I aA
 obtain⟨t,bw,au⟩:=h a;rw[dZ a]at au;exact⟨t,bw,au,au ρ k q R W B H σ Q e z⟩
theorem sQ{cA:agb}{cV:cK}{α:Type}{Xs:α->a1}(dZ:∀a,(Xs a).K=K)(h:∀a,ny (Xs a) cA cV):∃t,(∀a,jR (Xs a) cA t)/\gV K t cV:=by
 refine⟨λσ H Q=>∀a,∃t,jR (Xs a) cA t/\gV K t cV/\t σ H Q,λa af s σ H Q I q=>?_,λρ k q R W B H σ Q e z a=>?_⟩
 ·obtain⟨t,bw,_,aA⟩:=q a;exact bw af s σ H Q I aA
 obtain⟨t,bw,au⟩:=h a;rw[dZ a]at au;exact⟨t,bw,au,au ρ k q R W B H σ Q e z⟩
theorem sR{bd:WP}{eK:e1}{α:Type}{Xs:α->a1}(dZ:∀a,(Xs a).K=K)(h:∀a,io (Xs a) bd eK):∃t,(∀a,hJ (Xs a) bd t)/\ou K t eK:=by
 refine⟨λv σ H Q=>∀a,∃t,hJ (Xs a) bd t/\ou K t eK/\t v σ H Q,λa af s σ H v x Q I r q=>?_,λd ρ k q R W B H σ v Q e r z a=>?_⟩
 ·obtain⟨t,bw,_,aA⟩:=q a;exact bw af s σ H v x Q I r aA
 obtain⟨t,bw,au⟩:=h a;rw[dZ a]at au;exact⟨t,bw,au,au d ρ k q R W B H σ v Q e r z⟩
variable{cp iter bd:WP}{cA:agb}{scope:Y2}{cl:List (Str×TE)}{ts fr:af9}{js:Z8}{eK:e1}{cV:cK}
theorem jZ(ao:lh X bd iter w)(aJ:∀C s H ex,io (cY X (ts++fr) scope cl C s H ex) bd eK)(gt:∀C s H ex,ny (cY X (ts++fr) scope cl C s H ex) cA cV)(jU:∀C s H ex,aV (cY X (ts++fr) scope cl C s H ex) cp u)(F:lA X scope cl fr js)(nz:js.Nodup:=by decide)(hc:X.calm=true:=by rfl)(av:∀v,WF iter X.env v=pure v:=by intro _;rfl):hV X (.ListComp cp [⟨bd,iter,cA,0⟩] scope pos) (nw w eK cV u ts.length js):=by
 obtain⟨_,bi,ek⟩:=ao;obtain⟨wU,nA,nB⟩:=sR (K:=X.K) (Xs:=λa:TE×SZ×al×aga=>cY X (ts++fr) scope cl a.1 a.2.1 a.2.2.1 a.2.2.2) (λ_=>rfl) λa=>aJ a.1 a.2.1 a.2.2.1 a.2.2.2;obtain⟨tt,nC,rt⟩:=sQ (K:=X.K) (Xs:=λa:TE×SZ×al×aga=>cY X (ts++fr) scope cl a.1 a.2.1 a.2.2.1 a.2.2.2) (λ_=>rfl) λa=>gt a.1 a.2.1 a.2.2.1 a.2.2.2;obtain⟨b6,j0,i1⟩:=wT (K:=X.K) (Xs:=λa:TE×SZ×al×aga=>cY X (ts++fr) scope cl a.1 a.2.1 a.2.2.1 a.2.2.2) (λ_=>rfl) λa=>jU a.1 a.2.1 a.2.2.1 a.2.2.2;exact⟨_,BD bi (λC s H ex=>nA (C,s,H,ex)) (λC s H ex=>nC (C,s,H,ex)) (λC s H ex=>j0 (C,s,H,ex)) F hc av,BH ek nB rt i1 nz⟩
theorem oI{i:Nat}{y:Str}{d7 jT:Pos}(bU:X.N.Nodup)(nv:X.N[i]?=some y)(hy:X.env.scope.names.lookup y=some .local)(ao:lh X bd iter w)(aJ:∀C s H ex,io (cY X (ts++fr) scope cl C s H ex) bd eK)(gt:∀C s H ex,ny (cY X (ts++fr) scope cl C s H ex) cA cV)(jU:∀C s H ex,aV (cY X (ts++fr) scope cl C s H ex) cp u)(F:lA X scope cl fr js)(nz:js.Nodup:=by decide)(hc:X.calm=true:=by rfl)(av:∀v,WF iter X.env v=pure v:=by intro _;rfl)(jO:Yu (.ListComp cp [⟨bd,iter,cA,0⟩] scope pos) (some (.Name y d7)) jT.line X.env=pure true:=by rfl):
  e9 X (.Assign [.Name y d7] (.ListComp cp [⟨bd,iter,cA,0⟩] scope pos) jT) (A7 i (nw w eK cV u ts.length js)):=by
 obtain⟨_,bi,ek⟩:=ao;obtain⟨wU,nA,nB⟩:=sR (K:=X.K) (Xs:=λa:TE×SZ×al×aga=>cY X (ts++fr) scope cl a.1 a.2.1 a.2.2.1 a.2.2.2) (λ_=>rfl) λa=>aJ a.1 a.2.1 a.2.2.1 a.2.2.2;obtain⟨tt,nC,rt⟩:=sQ (K:=X.K) (Xs:=λa:TE×SZ×al×aga=>cY X (ts++fr) scope cl a.1 a.2.1 a.2.2.1 a.2.2.2) (λ_=>rfl) λa=>gt a.1 a.2.1 a.2.2.1 a.2.2.2;obtain⟨b6,j0,i1⟩:=wT (K:=X.K) (Xs:=λa:TE×SZ×al×aga=>cY X (ts++fr) scope cl a.1 a.2.1 a.2.2.1 a.2.2.2) (λ_=>rfl) λa=>jU a.1 a.2.1 a.2.2.1 a.2.2.2;refine⟨_,BE bU nv hy bi (λC s H ex=>nA (C,s,H,ex)) (λC s H ex=>nC (C,s,H,ex)) (λC s H ex=>j0 (C,s,H,ex)) F hc av jO,λU ρ h R W B H σ D e s=>?_⟩;exact BH ek nB rt i1 nz ρ _ h R W B H σ _ e λds a vs a5 ar aE ah aK bv bJ bY cR dh=>s.nx _ _ a5 ar aE (ah.setO i bv bJ bY cR λj _=>dh j) aK
theorem qv{st:Ym}{s:cx}(i:Nat)(h:e9 X st s):e9 X st (λU ρ=>s {U with nx:=λbt=>∃ds:Z7,bt[i]?=some (.own ds)/\U.nx (bt.set i (.val (.lst ds)))} ρ):=by
 obtain⟨_,aa,ai⟩:=h;refine⟨_,aa,λU ρ h R W B H σ D e sm=>?_⟩;refine ai _ ρ h R W B H σ D e ⟨λbt a4 aC aj z a7 g=>?_,sm.bk,sm.ct,sm.rt⟩;obtain⟨ds,aM,z⟩:=z;obtain⟨bu,am,aP⟩:=a7.fz aM;exact sm.nx _ a4 bu aj z am (g.trans aP)
end
theorem oJ{α:Type}{f:α->D}{s:cx}{U:fu}{m:Nat}(I:List α->Z3->Prop):∀{rs done:List α}{ρ:Z3},I done ρ->
  (∀(pre:List α)(r:α)(rest:List α) ρ,done++rs=pre++r::rest->I pre ρ->∀N:Z3->Prop,(∀cG,I (pre++[r]) cG->N cG)->s {U with nx:=N,ct:=N,bk:=U.nx} (ρ.set m (.val (f r))))->(∀ρ,I (done++rs) ρ->U.nx ρ)->gI (en m) s U (rs.map f) ρ
 |[],done,ρ,bi,_,ab=>ab ρ (by rw[TK];exact bi)
 |r::rs,done,ρ,bi,aa,ab=>by
  refine aa done r rs ρ rfl bi _ λcG au=>?_;have e:done++r::rs=(done++[r])++rs:=by simp
  rw[e]at aa ab;exact oJ I au aa ab
theorem BK{s:cx}{U:fu}{m:Nat}(I:Nat->Z3->Prop):∀{n i:Nat}{ρ:Z3},I i ρ->(∀(j:Nat) ρ,i<=j->j<i+n->I j ρ->∀N:Z3->Prop,(∀r,I (j+1) r->N r)->s {U with nx:=N,ct:=N,bk:=U.nx} (ρ.set m (.val (.int j))))->
  (∀ρ,I (i+n) ρ->U.nx ρ)->gI (en m) s U ((List.range' i n).map λj:Nat=>D.int j) ρ
 |0,i,ρ,bi,_,ab=>ab ρ bi
 |n+1,i,ρ,bi,aa,ab=>by
  show gI (en m) s U (D.int i::(List.range' (i+1) n).map λj:Nat=>D.int j) ρ
  refine aa i ρ (SG _) (by lia) bi _ λr au=>?_;exact BK I au (λj ρ aQ afz=>aa j ρ (by lia) (by lia)) λρ h=>ab ρ (by rw[show i+(n+1)=i+1+n by lia];exact h)
theorem wV{s:cx}{U:fu}{m n:Nat}{ρ:Z3}(I:Nat->Z3->Prop)(bi:I 0 ρ)(aa:∀(j:Nat) ρ,j<n->I j ρ->∀N:Z3->Prop,(∀r,I (j+1) r->N r)->s {U with nx:=N,ct:=N,bk:=U.nx} (ρ.set m (.val (.int j))))(ab:∀ρ,I n ρ->U.nx ρ):gI (en m) s U ((SA n).map λj:Nat=>D.int j) ρ:=by
 rw[List.range_eq_range'];exact BK I bi (λj ρ _ aQ=>aa j ρ (by lia)) λρ h=>ab ρ (by rwa[Tv]at h)
theorem ix{α:Type}{f h:α->D}{u:a2}{fs:Z3}:∀{rs:List α}{dc:aN}{k:Z7->Prop},(∀r∈rs,∀k:D->Prop,k (h r)->u (.val (f r)::fs) k)->k (rs.map h)->fv (en 0) i2 u (rs.map f) (dc::fs) k
 |[],dc,k,_,hk=>hk
 |r::rs,dc,k,hu,hk=>by
  show(if true=true then u (.val (f r)::fs) λy=>fv (en 0) i2 u (rs.map f) (.val (f r)::fs) λys=>k (y::ys)else fv (en 0) i2 u (rs.map f) (.val (f r)::fs) k)
  rw[TT rfl];exact hu r SD _ (ix (λq aA=>hu q (SJ _ aA)) hk)
theorem nD{α β:Type}{f:α->β}{rs:List α}{i:Int}{r:α}(h:ea rs i=some r):ea (rs.map f) i=some (f r):=by
 unfold ea at h⊢;rw[Sw];cases q:ixN rs.length i with
 |none=>rw[q]at h;cases h
 |some j=>
  rw[q]at h;show(rs.map f)[j]?=_
  rw[S1,show rs[j]?=some r from h];rfl
theorem L7{α:Type}{rs:List α}{i:Nat}(h:i<rs.length):ea rs (i:Int)=some rs[i]:=by
 unfold ea ixN;rw[TT (by lia),TT (by lia)];show rs[((i:Int)).toNat]?=_
 rw[show((i:Int)).toNat=i by lia,SS h]
theorem sS{α:Type}{xs:List α}{i:Int}(bi:0<=i)(aa:i<=xs.length):gY xs (some i) none=xs.drop i.toNat:=by
 unfold gY
 have ah:HT.sIx xs.length 0 (some i)=i.toNat:=by
  unfold HT.sIx
  first|lia|(simp only[];split<;>lia)|(split<;>lia)|(dsimp only;split<;>(try split)<;>lia)
 have am:HT.sIx xs.length xs.length none=xs.length:=rfl;rw[ah,am];exact Ul (by rw[Th];lia)
theorem sT{α:Type}{xs:List α}{i:Int}(bi:0<=i)(aa:i<=xs.length):gY xs none (some i)=xs.take i.toNat:=by
 unfold gY
 have ah:HT.sIx xs.length xs.length (some i)=i.toNat:=by
  unfold HT.sIx
  first|lia|(simp only[];split<;>lia)|(split<;>lia)|(dsimp only;split<;>(try split)<;>lia)
 have am:HT.sIx xs.length 0 none=0:=rfl;rw[ah,am];rfl
section
variable{X:a1}{e:WP}{u:a2}{pos p:Pos}
def L8(u:a2):a2:=λρ k=>u ρ λx=>∃ds,x=.lst ds/\(∀d∈ds,d=.bl true)/\k (.bl true)
theorem BL(aq:aV X e u)(hc:X.calm=true)(aJ:c2 X "all")(az:X.mg "all"=none)(av:dE X e []:=by rfl):aV X (.Call (.Name "all" p) [e] [] pos) (L8 u):=by
 obtain⟨_,aa,ai⟩:=aq;refine⟨_,ku (JP hc) aJ az (by decide +kernel) (di aa d9 av) (by decide) (by decide) av,nc (f:=λx k=>∃ds,x=.lst ds/\(∀d∈ds,d=.bl true)/\k (.bl true)) ai λx k h R W B H σ ρ v Q e a8 q=>?_⟩;obtain⟨ds,rfl,hd,hk⟩:=h;obtain⟨a,vs,rfl,aq,rs⟩:=a8.lstV;refine⟨a,vs,rfl,e.bh _ _ aq,λy hy=>?_,q _ _ B H hk e (bC.refl _ _) (.bl _)⟩;obtain⟨j,aQ⟩:=TX hy;obtain⟨d,ga,lr⟩:=rs.getV aQ;have:=hd d (S4 ga);subst this;exact lr.blV
end
theorem BM:∀(xs:Z5),hass (xs.map λ_=>gb.I) (xs.map D.int)=true
 |[]=>rfl
 |x::xs=>by simp only[SK,hass,has,SW];exact BM xs
theorem BN:∀{xs ys:Z5},xs.length=ys.length->hass (xs.map λ_=>gb.I) (ys.map D.int)=true
 |[],[],_=>rfl
 |[],_::_,h=>by simp at h
 |_::_,[],h=>by simp at h
 |x::xs,y::ys,h=>by simp only[SK,hass,has,SW];exact BN (by simpa using h)
theorem BO:∀(xs:Z5),deps (xs.map λ_=>gb.I)=0
 |[]=>by simp[deps]
 |x::xs=>by simp only[SK,deps,BO xs,gJ];rfl
end L3
namespace Cut
open PySem L2 L3
open PySem.Builtin.Int (intBits)
def bT(r:Int×Int):D:=.tup [.int r.1,.int r.2]
def bo(p:Int×Int×Int):D:=.tup [.int p.1,.int p.2.1,.int p.2.2]
def ji(t b:Int):Int:=if b<0 then -((Sy t b:Nat):Int)else((Sy t b:Nat):Int)
def bM(t b:Int):Int×Int:=(t.fdiv (ji t b),b.fdiv (ji t b))
theorem jj{t b:Int}(ae:b≠0):eF (bM t b).1 (bM t b).2/\(bM t b).1*b=t*(bM t b).2/\(bM t b).1.natAbs<=t.natAbs/\(bM t b).2.natAbs<=b.natAbs:=by
 unfold bM ji;split
 ·exact Ax ae rfl (.inr ⟨rfl,by assumption⟩)
 exact Ax ae rfl (.inl ⟨rfl,by lia⟩)
def g3(a b n:Int):Int:=((Sy (Sy a n:Nat) b:Nat):Int)
def j3(a b n:Int):Int:=if n<0 then -g3 a b n else g3 a b n
def dd(a b n:Int):Int×Int×Int:=(a.fdiv (j3 a b n),b.fdiv (j3 a b n),n.fdiv (j3 a b n))
theorem gL{a b n:Int}(aG:n≠0):kx (dd a b n).1 (dd a b n).2.1 (dd a b n).2.2/\(dd a b n).1*n=a*(dd a b n).2.2/\(dd a b n).2.1*n=b*(dd a b n).2.2/\(dd a b n).1.natAbs<=a.natAbs/\(dd a b n).2.1.natAbs<=b.natAbs/\(dd a b n).2.2.natAbs<=n.natAbs:=by
 unfold dd j3;split
 ·exact AB aG rfl (.inr ⟨rfl,by assumption⟩)
 exact AB aG rfl (.inl ⟨rfl,by lia⟩)
theorem L9(a b n:Int):((Sy (Sy a n:Nat) b:Nat):Int)=g3 a b n:=rfl
theorem L'{a b n:Int}(aG:n≠0):0<g3 a b n:=Az aG
theorem Ma{a b n:Int}{k:Nat}(aG:n≠0)(h:T0 n<=k):T0 (g3 a b n)<=k:=JT aG h
theorem kE{a b:Int}{k:Nat}(ae:b≠0)(h:T0 b<=k):T0 ((Sy a b:Nat):Int)<=k:=by
 refine ZA ?_ h;exact Nat.le_of_dvd (by lia) (by simpa using Vv.mpr (U' a b))
theorem lD{x:Int}(bi : -(10^30)<x)(aa:x<10^30):T0 x<=100:=by
 refine intBits_le_iff.mpr ?_;have Mb:(10:Int)^30=1000000000000000000000000000000:=rfl;have Mc:(2:Nat)^100=1267650600228229401496703205376:=rfl;rw[Mb]at bi aa;rw[Mc];lia
theorem g5{a s x:Int}(h:a=s*x)(e0:s≠0):a.fdiv s=x:=by rw[h];exact UO x e0
theorem Md{a b s x y:Int}(aa:a=s*x)(ab:b=s*y):Sy a b=s.natAbs*Sy x y:=by rw[aa,ab,Wi]
theorem qw{p q:Int×Int×Int}(h:bo p=bo q):p=q:=by
 obtain⟨a,b,c⟩:=p;obtain⟨d,e,f⟩:=q;unfold bo at h;cases h;rfl
theorem BP{p q:Int×Int}(h:bT p=bT q):p=q:=by
 obtain⟨a,b⟩:=p;obtain⟨d,e⟩:=q;unfold bT at h;cases h;rfl
theorem Me{x y x' y' n:Int}(aG:n≠0)(h:bo (dd x y n)=bo (dd x' y' n)):x=x'/\y=y':=by
 have h:=qw h;obtain⟨p,ah,am,_⟩:=gL (a:=x) (b:=y) aG;obtain⟨_,bv,bJ,_⟩:=gL (a:=x') (b:=y') aG;rw[<-h]at bv bJ;have z:(dd x y n).2.2≠0:=Sz p.1;exact⟨TB z (ah.symm.trans bv),TB z (am.symm.trans bJ)⟩
theorem Mf{a b c d:Int}(ae:b≠0)(hd:d≠0)(h:a*d=c*b):bM a b=bM c d:=by
 obtain⟨l1,ah,_⟩:=jj (t:=a) ae;obtain⟨l2,am,_⟩:=jj (t:=c) hd
 have e:(bM a b).1*(bM c d).2=(bM c d).1*(bM a b).2:=by
  refine TB (Int.mul_ne_zero ae hd) ?_;grind
 obtain⟨x,y⟩:=wk l1 l2 e;exact Tf x y
theorem Mg{x y:Int}(h:eF x y):bM x y=(x,y):=by
 obtain⟨l,e,_⟩:=jj (t:=x) (Sz h.1);obtain⟨a,b⟩:=wk l h e;exact Tf a b
abbrev aT:=Int×Int×Int
abbrev Z9:=List aT
def crs(p q:aT):aT:=(p.2.1*q.2.2-p.2.2*q.2.1,p.2.2*q.1-p.1*q.2.2,p.1*q.2.1-p.2.1*q.1)
def nP(p:aT):aT:=dd p.1 p.2.1 p.2.2
abbrev iy(p:aT):Prop:=kx p.1 p.2.1 p.2.2
theorem BQ{p:aT}(aG:p.2.2≠0):iy (nP p):=(gL aG).1
structure dz(m:Nat)(p:aT):Prop where
 a:T0 p.1<=m
 b:T0 p.2.1<=m
 c:T0 p.2.2<=m
theorem dz.mono{m n:Nat}{p:aT}(h:dz m p)(l:m<=n):dz n p:=⟨SE h.a l,SE h.b l,SE h.c l⟩
theorem dz.nP{m:Nat}{p:aT}(h:dz m p)(aG:p.2.2≠0):dz m (Cut.nP p):=by
 obtain⟨_,_,_,br,bF,es⟩:=gL (a:=p.1) (b:=p.2.1) aG;exact⟨f9 br h.a,f9 bF h.b,f9 es h.c⟩
theorem dz.crs{m n:Nat}{p q:aT}(ak:dz m p)(aA:dz n q):dz (m+n+1) (Cut.crs p q):=by
 have e:∀{x y u v:Int},T0 x<=m->T0 y<=n->T0 u<=m->T0 v<=n->T0 (x*y-u*v)<=m+n+1:=λa b c d=>SE (ZC (UV a b) (UV c d)) (by lia);exact⟨e ak.b aA.c ak.c aA.b,e ak.c aA.a ak.a aA.c,e ak.a aA.b ak.b aA.a⟩
end Cut
namespace PySem
open Sem (wp)
abbrev j4(h:Yn)(z bL bZ:TE)(eX bv:SL):Prop:=
 h.get? z=some {cls:=.type "zip",dict:=none,data:=.fields #[eX,bv,.bool false,.ref bL,.ref bZ],slots :=#[]}
section
variable{prog:UF}{w:Yd}{A:Yj}{E:SL->SZ->Prop}{s:SZ}
theorem Mh{a:TE}{Q:Option Obj->SZ->Prop}(h:Q (s.heap.get? a) s):wpAny (Wp prog w) A (loadIfAlive a) Q E s:=λ_ _ _=>h
theorem BR{z bL bZ T:TE}{b:Bool}{jk:Obj}{Q:Bool->SZ->Prop}(hz:j4 s.heap z bL bZ (ZQ T) (.bool b))(cM:s.heap.get? T=some jk)(eD:∀h',j4 h' z bL bZ (ZQ T) (.bool true)->Heap.SameBut z s.heap h'->Q false {s with heap:=h' }):wpAny (Wp prog w) A (Builtin.SmallTypes.ownedTupleIsFree (.ref z)) Q E s:=by
 unfold Builtin.SmallTypes.ownedTupleIsFree;refine SB (Y7 hz rfl (x:=ZQ T) rfl ?_);show wpAny _ _ (loadIfAlive ((T:Int).toNat) >>= _) _ _ _
 rw[XA];refine SB (Mh ?_);rw[cM];show wpAny _ _ (field (.ref z) 1 >>= _) _ _ _
 refine SB (Y7 hz rfl (x:=.bool b) rfl ?_);cases b with
 |true=>
  show wpAny _ _ (pure false) _ _ _
  exact TD (eD s.heap hz ⟨rfl,λ_ _=>rfl⟩)
 |false=>
  show wpAny _ _ (setField (.ref z) 1 (.bool true) >>= λ_=>pure false) _ _ _
  exact SB (wpAny_setField_rec hz (by simp) λh' Mi qn=>TD (eD h' Mi qn))
theorem Mj{z bL bZ bD bN l1 l2 T:TE}{bv:Bool}{jk:Obj}{cy k2:Nat}{xs ys:Array SL}{x y:SL}{Q:SL->SZ->Prop}(D:YZ z bL bZ bD bN l1 l2)(hz:j4 s.heap z bL bZ (ZQ T) (.bool bv))(cM:s.heap.get? T=some jk)(oK:Zs s.heap bL (.ref bD) (.ref bN))(aa:s.heap.IsListIter bD l1 cy)(ab:s.heap.IsListIter bN l2 k2)(gM:s.heap.IsList l1 xs)(ma:s.heap.IsList l2 ys)(hx:xs[cy]?=some x)(hy:ys[k2]?=some y)(eD:∀h',j4 h' z bL bZ (ZQ T) (.bool true)->h'.IsListIter bD l1 (cy+1)->h'.IsListIter bN l2 (k2+1)->Zs h' s.heap.objs.size x y->h'.objs.size=s.heap.objs.size+1->(∀c o,c≠z->c≠bD->c≠bN->s.heap.get? c=some o->h'.get? c=some o)->Q (.ref s.heap.objs.size) {s with heap:=h' }):
  wpAny (Wp prog w) A (Builtin.«zip.__next__» ⟨[.ref z],[]⟩) (λfin s'=>∃v,fin=.done (.ret v)/\Q v s') E s:=by
 show wpAny _ _ (field (.ref z) 2 >>= _) _ _ _
 refine SB (Y7 hz rfl (x:=.bool false) rfl ?_);show wpAny _ _ (field (.ref z) 3 >>= _) _ _ _
 refine SB (Y7 hz rfl (x:=.ref bL) rfl ?_);refine SB (Ys oK rfl ?_);show wpAny _ _ (Builtin.SmallTypes.ownedTupleIsFree (.ref z) >>= _) _ _ _
 refine SB (BR hz cM λwW BS hY=>?_);simp only[Tn,if_false];refine SB ?_;simp only[<-VC,List.forIn_cons,List.forIn_nil];refine SB (SB (Yb ?_));show wpAny _ _ (Builtin.SmallTypes.nextOf (.ref bD) >>= _) _ _ _
 refine SB (YR (aa.extBut hY.extBut D.i1z) (gM.extBut hY.extBut D.l1z) hx λwX BU j5=>TD ?_);refine TD ?_;refine SB (SB (Yb ?_));show wpAny _ _ (Builtin.SmallTypes.nextOf (.ref bN) >>= _) _ _ _
 refine SB (YR ((ab.extBut hY.extBut D.i2z).extBut j5.extBut D.i12.symm) ((ma.extBut hY.extBut D.l2z).extBut j5.extBut D.l2i1) hy λoL Mk sU=>TD ?_);refine TD (TD ?_);refine SB (wpAny_newTuple (hsz:=hH) ?_);have hsz:oL.objs.size=s.heap.objs.size:=by rw[sU.1,j5.1,hY.1]
 have Ml:j4 oL z bL bZ (ZQ T) (.bool true):=sU.extBut _ _ D.i2z.symm (j5.extBut _ _ D.i1z.symm BS);have Mm:∀c o,c≠z->c≠bD->c≠bN->s.heap.get? c=some o->oL.get? c=some o:=λc o br es eR e=>sU.extBut _ _ eR (j5.extBut _ _ es (hY.extBut _ _ br e));have Mn:oL.IsListIter bD l1 (cy+1):=BU.extBut sU.extBut D.i12;refine TD ⟨_,rfl,?_⟩;show Q (.ref oL.objs.size) _
 rw[hsz];refine eD _ (Heap.get?_push_of_some _ Ml) (Mn.at λo e=>Heap.get?_push_of_some _ e) (Mk.at λo e=>Heap.get?_push_of_some _ e) ?_ (by rw[Heap.size_push,hsz]) λc o br bF es e=>Heap.get?_push_of_some _ (Mm c o br bF es e);have:=Heap.get?_push_size oL (o:={cls:=.type "tuple",data:=.seq #[x,y]}) rfl;rwa[hsz]at this
theorem Mo{z bL bZ bD bN l1 l2 T:TE}{bv:Bool}{jk:Obj}{cy k2:Nat}{xs ys:Array SL}{Q:Fin->SZ->Prop}(dP:A.handled=none)(D:YZ z bL bZ bD bN l1 l2)(hz:j4 s.heap z bL bZ (ZQ T) (.bool bv))(cM:s.heap.get? T=some jk)(oK:Zs s.heap bL (.ref bD) (.ref bN))(aa:s.heap.IsListIter bD l1 cy)(ab:s.heap.IsListIter bN l2 k2)(gM:s.heap.IsList l1 xs)(ma:s.heap.IsList l2 ys)(sV:xs[cy]?=none\/ys[k2]?=none)(oM:∀h' e,(∀c o,c≠z->c≠bD->c≠bN->s.heap.get? c=some o->h'.get? c=some o)->(∃o,h'.get? e=some o/\o.cls=.type "StopIteration")->E (.ref e) {s with heap:=h' }):
  wpAny (Wp prog w) A (Builtin.«zip.__next__» ⟨[.ref z],[]⟩) Q E s:=by
 show wpAny _ _ (field (.ref z) 2 >>= _) _ _ _
 refine SB (Y7 hz rfl (x:=.bool false) rfl ?_);show wpAny _ _ (field (.ref z) 3 >>= _) _ _ _
 refine SB (Y7 hz rfl (x:=.ref bL) rfl ?_);refine SB (Ys oK rfl ?_);show wpAny _ _ (Builtin.SmallTypes.ownedTupleIsFree (.ref z) >>= _) _ _ _
 refine SB (BR hz cM λwW BS hY=>?_);simp only[Tn,if_false];refine SB ?_;simp only[<-VC,List.forIn_cons,List.forIn_nil];refine SB (SB (Yb ?_));show wpAny _ _ (Builtin.SmallTypes.nextOf (.ref bD) >>= _) _ _ _
 cases hx:xs[cy]? with
 |none=>
  exact SB (Zt dP (aa.extBut hY.extBut D.i1z) (gM.extBut hY.extBut D.l1z) hx λwX e j5 aF=>oM wX e (λc o br es _ x=>j5 _ _ es (hY.extBut _ _ br x)) aF)
 |some x=>
  have hy:ys[k2]?=none:=by rcases sV with h|h;rw[hx]at h;cases h;exact h
  refine SB (YR (aa.extBut hY.extBut D.i1z) (gM.extBut hY.extBut D.l1z) hx λwX BU j5=>TD ?_);refine TD ?_;refine SB (SB (Yb ?_));show wpAny _ _ (Builtin.SmallTypes.nextOf (.ref bN) >>= _) _ _ _
  exact SB (Zt dP ((ab.extBut hY.extBut D.i2z).extBut j5.extBut D.i12.symm) ((ma.extBut hY.extBut D.l2z).extBut j5.extBut D.l2i1) hy λMp e Mq aF=>oM Mp e (λc o br es eR x=>Mq _ _ eR (j5.extBut _ _ es (hY.extBut _ _ br x))) aF)
structure mr(S z bL bZ bD bN l1 l2:TE)(xs ys:Array SL)(i:Nat)(h:Yn):Prop where
 fl:(j4 h z bL bZ .none (.bool false)/\∃a b,Zs h bZ a b)\/∃(T:TE)(b:Bool)(jk:Obj),j4 h z bL bZ (ZQ T) (.bool b)/\h.get? T=some jk/\T≠z/\T≠bD/\T≠bN/\T≠S
 tp:Zs h bL (.ref bD) (.ref bN)
 it1:h.IsListIter bD l1 i
 it2:h.IsListIter bN l2 i
 ls1:h.IsList l1 xs
 ls2:h.IsList l2 ys
theorem mr.frame{S z bL bZ bD bN l1 l2:TE}{xs ys:Array SL}{i:Nat}{h h':Yn}(Z:mr S z bL bZ bD bN l1 l2 xs ys i h)(dk:S∉[z,bL,bZ,bD,bN,l1,l2])(k:∀c o,c≠S->h.get? c=some o->h'.get? c=some o):mr S z bL bZ bD bN l1 l2 xs ys i h':=by
 have ne:∀c,c∈[z,bL,bZ,bD,bN,l1,l2]->c≠S:=λc hc e=>dk (e▸hc);refine⟨?_,k _ _ (ne _ (by simp)) Z.tp,Z.it1.at λo e=>k _ o (ne _ (by simp)) e,Z.it2.at λo e=>k _ o (ne _ (by simp)) e,Z.ls1.at λo e=>k _ o (ne _ (by simp)) e,Z.ls2.at λo e=>k _ o (ne _ (by simp)) e⟩;rcases Z.fl with⟨aa,a,b,ab⟩|⟨T,b,jk,aa,ab,a',bG,eb,ir⟩
 ·exact .inl ⟨k _ _ (ne _ (by simp)) aa,a,b,k _ _ (ne _ (by simp)) ab⟩
 exact .inr ⟨T,b,jk,k _ _ (ne _ (by simp)) aa,k _ _ ir ab,a',bG,eb,ir⟩
theorem Mr{S z bL bZ bD bN l1 l2:TE}{xs ys:Array SL}{i:Nat}{x y:SL}{Q:Option SL->SZ->Prop}(D:YZ z bL bZ bD bN l1 l2)(Z:mr S z bL bZ bD bN l1 l2 xs ys i s.heap)(dH:S<s.heap.objs.size)(hx:xs[i]?=some x)(hy:ys[i]?=some y)(eD:∀h',mr S z bL bZ bD bN l1 l2 xs ys (i+1) h'->Zs h' s.heap.objs.size x y->h'.objs.size=s.heap.objs.size+1->(∀c o,c≠z->c≠bZ->c≠bD->c≠bN->s.heap.get? c=some o->h'.get? c=some o)->Q (some (.ref s.heap.objs.size)) {s with heap:=h' }):
  wpAny (Wp prog w) A (YV (.ref z)) Q E s:=by
 have Ms:bD<s.heap.objs.size:=by obtain⟨_,e,_⟩:=Z.it1;exact Heap.lt_size e
 have Mt:bN<s.heap.objs.size:=by obtain⟨_,e,_⟩:=Z.it2;exact Heap.lt_size e
 rcases Z.fl with⟨hz,a,b,ms⟩|⟨T,b,jk,hz,cM,cS,cH,gX,qx⟩
 ·have Mu:z<s.heap.objs.size:=Heap.lt_size hz;refine Zu D hz Z.tp ms Z.it1 Z.it2 Z.ls1 Z.ls2 hx hy λh' dy dJ gN mu mv oN hk=>?_;exact eD h' ⟨.inr ⟨_,false,_,dy,mv,TP Mu,TP Ms,TP Mt,TP dH⟩,hk _ _ D.TIz D.TITO D.TIi1 D.TIi2 Z.tp,gN,mu,Z.ls1.at λo e=>hk _ o D.l1z D.l1TO D.l1i1 D.l1i2 e,Z.ls2.at λo e=>hk _ o D.l2z D.l2TO D.l2i1 D.l2i2 e⟩ mv oN hk
 have qy:s.TypeIs (.ref z) "zip":=⟨_,hz,rfl⟩;unfold YV
 refine SB (wpAny_attempt (Zj (name:=Str.ofString "__next__") qy F.slot_zip_next
  (wpAny_call_entry F.slot_zip_next qy F.entry_zip_next
   (Mj D hz cM Z.tp Z.it1 Z.it2 Z.ls1 Z.ls2 hx hy λh' dy gN mu mv oN hk=>TD ?_) (F.args_zip_next_1 _))))
 exact eD h' ⟨.inr ⟨T,true,jk,dy,hk _ _ cS cH gX cM,cS,cH,gX,qx⟩,hk _ _ D.TIz D.TIi1 D.TIi2 Z.tp,gN,mu,Z.ls1.at λo e=>hk _ o D.l1z D.l1i1 D.l1i2 e,Z.ls2.at λo e=>hk _ o D.l2z D.l2i1 D.l2i2 e⟩ mv oN λc o br _ es eR e=>hk c o br es eR e
theorem Mv{S z bL bZ bD bN l1 l2:TE}{xs ys:Array SL}{i:Nat}{Q:Option SL->SZ->Prop}(dP:A.handled=none)(D:YZ z bL bZ bD bN l1 l2)(Z:mr S z bL bZ bD bN l1 l2 xs ys i s.heap)(sV:xs[i]?=none\/ys[i]?=none)(eD:∀h',(∀c o,c≠z->c≠bZ->c≠bD->c≠bN->s.heap.get? c=some o->h'.get? c=some o)->Q none {s with heap:=h' }):
  wpAny (Wp prog w) A (YV (.ref z)) Q E s:=by
 rcases Z.fl with⟨hz,a,b,ms⟩|⟨T,b,jk,hz,cM,cS,cH,gX,qx⟩
 ·exact ZB dP D hz Z.tp ms Z.it1 Z.it2 Z.ls1 Z.ls2 sV eD
 have qy:s.TypeIs (.ref z) "zip":=⟨_,hz,rfl⟩;unfold YV
 refine SB (wpAny_attempt (Zj (name:=Str.ofString "__next__") qy F.slot_zip_next
  (wpAny_call_entry F.slot_zip_next qy F.entry_zip_next (Mo dP D hz cM Z.tp Z.it1 Z.it2 Z.ls1 Z.ls2 sV λh' e hk aF=>?_) (F.args_zip_next_1 _))))
 obtain⟨o,aM,hc⟩:=aF;refine SB (wpAny_isInstance (T:="StopIteration") (b:=true) ⟨o,aM,hc⟩ isSubtype_stop ?_);exact TD (eD _ λc o br _ es eR e=>hk c o br es eR e)
end
structure Got(lo:Nat)(qz:aga)(xs ys:Array SL)(h:Yn)(ts:aga):Prop where
 nd:ts.Nodup
 new:∀t∈ts,lo<=t/\t∉qz
 pair:∀(j:Nat)(t:TE),ts[j]?=some t->∃x y,xs[j]?=some x/\ys[j]?=some y/\Zs h t x y
theorem Got.frame{lo:Nat}{qz:aga}{xs ys:Array SL}{h h':Yn}{ts:aga}(g:Got lo qz xs ys h ts)(k:∀c o,c∉qz->h.get? c=some o->h'.get? c=some o):Got lo qz xs ys h' ts:=
 ⟨g.nd,g.new,λj t e=>let⟨x,y,aa,ab,a'⟩:=g.pair j t e;⟨x,y,aa,ab,k t _ (g.new t (S4 e)).2 a'⟩⟩
section
variable{prog:UF}{w:Yd}{A:Yj}{R:ZF->SZ->Prop}
theorem Mw{S z bL bZ bD bN l1 l2:TE}{xs ys:Array SL}{lo n:Nat}(dP:A.in1.handled=none)(D:YZ z bL bZ bD bN l1 l2)(dk:S∉[z,bL,bZ,bD,bN,l1,l2])(aG:n<=TI)(lE:n=min xs.size ys.size)(wY:∀a∈[z,bZ,bD,bN,S],a<lo)(res:SL):
  ∀(k i:Nat)(s:SZ)(ts:aga)(c:Nat),n-i=k->i<=n->lo<=s.heap.objs.size->mr S z bL bZ bD bN l1 l2 xs ys i s.heap->s.heap.get? S=some {cls:=.type "list",dict:=none,data:=.seq (ts.map Value.ref).toArray c,slots :=#[]}->ts.length=i->Got lo [z,bZ,bD,bN,S] xs ys s.heap ts->
  (∀h' qA dg,h'.get? S=some {cls:=.type "list",dict:=none,data:=.seq (qA.map Value.ref).toArray dg,slots :=#[]}->qA.length=n->Got lo [z,bZ,bD,bN,S] xs ys h' qA->(∀c o,c∉[z,bZ,bD,bN,S]->s.heap.get? c=some o->h'.get? c=some o)->R (.ok (.ret res)) {s with heap:=h' })->
  codeAny (Wp prog w) A (.builtin "list.extend.loop" ⟨[.ref S,.ref z,res],[]⟩) R s:=by
 intro k;induction k with
 |zero=>
  intro i s ts c hk ao om hK dH ax aJ eS;have Mx:i=n:=by lia
  subst Mx;refine Yg F.entry_extend_loop ?_;rw[Around.under_plainId F.plain_extend_loop _];show wpAny _ A.in1 (YV (.ref z) >>= _) _ _ s
  refine SB (Mv dP D hK ?_ λh' lF=>?_)
  ·rcases Nat.le_total xs.size ys.size with h|h
   ·exact .inl (U4 (by lia))
   exact .inr (U4 (by lia))
  have k2:∀c o,c∉[z,bZ,bD,bN,S]->s.heap.get? c=some o->h'.get? c=some o:=λc o hc e=>lF c o (λh=>hc (by simp[h])) (λh=>hc (by simp[h])) (λh=>hc (by simp[h])) (λh=>hc (by simp[h])) e;exact TD (eS h' ts c (lF S _ (λh=>dk (by simp[h])) (λh=>dk (by simp[h])) (λh=>dk (by simp[h])) (λh=>dk (by simp[h])) dH) ax (aJ.frame k2) k2)
 |succ k b2=>
  intro i s ts c hk ao om hK dH ax aJ eS;have ce:i<n:=by lia
  refine Yg F.entry_extend_loop ?_;rw[Around.under_plainId F.plain_extend_loop _];show wpAny _ A.in1 (YV (.ref z) >>= _) _ _ s
  have hx:xs[i]?=some xs[i]:=TN (by lia);have hy:ys[i]?=some ys[i]:=TN (by lia);refine SB (Mr D hK (Heap.lt_size dH) hx hy λh' My Mz sz lF=>?_);have BV:h'.get? S=_:=lF S _ (λh=>dk (by simp[h])) (λh=>dk (by simp[h])) (λh=>dk (by simp[h])) (λh=>dk (by simp[h])) dH;have k2:∀c o,c∉[z,bZ,bD,bN,S]->s.heap.get? c=some o->h'.get? c=some o:=λc o hc e=>lF c o (λh=>hc (by simp[h])) (λh=>hc (by simp[h])) (λh=>hc (by simp[h])) (λh=>hc (by simp[h])) e;have afA:S<s.heap.objs.size:=Heap.lt_size dH
  have MA:s.heap.objs.size∉[z,bZ,bD,bN,S]:=λaz=>by
   exact absurd (wY _ az) (Nat.not_lt.mpr om)
  show wpAny _ A.in1 (Y8 S (·.push (.ref s.heap.objs.size)) >>= _) _ _ _
  refine SB ?_;have BW:(ts.map Value.ref).toArray.size=i:=by simp[ax]
  have d0:Heap.SameBut S h' (h'.update S (Obj.mapSeq (·.push (Value.ref s.heap.objs.size)))):=Heap.SameBut.update ..;have ah:(ts.map Value.ref).toArray.push (.ref s.heap.objs.size)=((ts++[s.heap.objs.size]).map Value.ref).toArray:=by simp
  have nE:=Heap.get?_update_self (Obj.mapSeq (·.push (Value.ref s.heap.objs.size))) BV rfl;replace nE:(h'.update S (Obj.mapSeq (·.push (Value.ref s.heap.objs.size)))).get? S=some {cls:=.type "list",dict:=none,data:=.seq ((ts.map Value.ref).toArray.push (.ref s.heap.objs.size)) _,slots :=#[]}:=nE;rw[ah]at nE
  refine Yl BV rfl (TD ⟨Yp F.plain_extend_loop _,b2 (i+1) _ (ts++[s.heap.objs.size]) _ (by lia) ce ?_ (My.frame dk λc o hc e=>?_) nE (by simp[ax]) ?_ λMB qA dg aB aL cv fe=>?_⟩)
   (by rw[BW];lia) (by show(Array.push _ _).size<=TI+1;rw[XB,BW];lia)
  ·show lo<=(h'.update S (Obj.mapSeq (·.push (Value.ref s.heap.objs.size)))).objs.size
   rw[d0.1,sz];lia
  ·exact d0.extBut _ _ hc e
  ·refine Got.frame (h:=h') ⟨?_,λt bw=>?_,λj t aQ=>?_⟩ λc o hc e=>d0.extBut _ _ (λh=>hc (by simp[h])) e
   ·refine List.nodup_append.mpr ⟨aJ.nd,by simp,λa aq b ae e=>?_⟩;have ae:b=s.heap.objs.size:=by simpa using ae
    subst ae e;obtain⟨j,aQ⟩:=TX aq;obtain⟨_,_,_,_,q⟩:=aJ.pair j _ aQ;exact Tc _ (Heap.lt_size q)
   ·rcases S3.mp bw with bw|bw
    ·exact aJ.new t bw
    have:t=s.heap.objs.size:=by simpa using bw
    subst this;exact⟨om,MA⟩
   rcases Wt j ts.length with qB|qB
   ·rw[Tt qB]at aQ;obtain⟨x,y,aB,aL,cv⟩:=aJ.pair j t aQ;exact⟨x,y,aB,aL,k2 _ _ (aJ.new t (S4 aQ)).2 cv⟩
   rw[Tz qB]at aQ
   have j6:j-ts.length=0:=by
    rcases Xg (j-ts.length)with z|z
    ·exact z
    rw[TM (by show 1<=_;lia)]at aQ;cases aQ
   rw[j6]at aQ;have lB:j=i:=by lia
   subst lB;cases aQ;exact⟨_,_,hx,hy,Mz⟩
  exact eS MB qA dg aB aL cv λc o hc e=>fe c o hc (d0.extBut _ _ (λh=>hc (by simp[h])) (k2 c o hc e))
theorem MC:typeLookup (.type "zip") "__len__"=pure none:=by rw[typeLookup_type,Zv];kernel_rfl
theorem MD:typeLookup (.type "zip") "__length_hint__"=pure none:=by rw[typeLookup_type,Zv];kernel_rfl
theorem ME{s:SZ}{S z bL bZ bD bN l1 l2:TE}{xs ys:Array SL}{lo n:Nat}(dP:A.in1.handled=none)(D:YZ z bL bZ bD bN l1 l2)(dk:S∉[z,bL,bZ,bD,bN,l1,l2])(aG:n<=TI)(lE:n=min xs.size ys.size)(wY:∀a∈[z,bZ,bD,bN,S],a<lo)(om:lo<=s.heap.objs.size)(Z:mr S z bL bZ bD bN l1 l2 xs ys 0 s.heap)(MF:j4 s.heap z bL bZ .none (.bool false))(dH:s.heap.get? S=some {cls:=.type "list",data:=.seq #[]})(eS:∀h' ts dg,h'.get? S=some {cls:=.type "list",dict:=none,data:=.seq (ts.map Value.ref).toArray dg,slots :=#[]}->ts.length=n->Got lo [z,bZ,bD,bN,S] xs ys h' ts->(∀c o,c∉[z,bZ,bD,bN,S]->s.heap.get? c=some o->h'.get? c=some o)->R (.ok (.ret .none)) {s with heap:=h' }):
  wpAny (Wp prog w) A.in1 (Builtin.«list.__init__» ⟨[.ref S,.ref z],[]⟩)
   (λfin s'=>match fin with|.done f=>R (.ok f) s'|.again dg=>dg.quiet=true/\codeAny (Wp prog w) A dg R s') (λe s'=>R (.error e) s') s:=by
 have BX:z≠S:=λh=>dk (by simp[h]);show wpAny _ A.in1 (do let old <-Builtin.List.listItems (.ref S);Builtin.List.listUpdate (.ref S) (λ_ => #[]);letGo old.toList.reverse;Builtin.List.listExtendWith (.ref S) (.ref z) .none) _ _ s;refine SB ?_;unfold Builtin.List.listItems;refine SB (Ys dH rfl (TD ?_));show wpAny _ A.in1 (Y8 S (λ_ => #[]) >>= λ_=>letGo (#[]:Array SL).toList.reverse >>= λ_=>Builtin.List.listExtendWith (.ref S) (.ref z) .none) _ _ s
 refine SB (Yl dH rfl ?_);have nF:Heap.SameBut S s.heap (s.heap.update S (Obj.mapSeq (λ_=>(#[]:Array SL)))):=Heap.SameBut.update ..;have nE:=Heap.get?_update_self (Obj.mapSeq (λ_=>(#[]:Array SL))) dH rfl;refine SB (YG ?_);have BY:j4 (s.heap.update S (Obj.mapSeq (λ_=>(#[]:Array SL)))) z bL bZ .none (.bool false):=nF.extBut _ _ BX MF;have cM:Shared.TypeIs {s with heap:=s.heap.update S (Obj.mapSeq (λ_=>(#[]:Array SL)))} (.ref z) "zip":=⟨_,BY,rfl⟩;unfold Builtin.List.listExtendWith;refine SB (wpAny_typeOf cM ?_);have aa:Builtin.List.listSameRef (.ref S) (.ref z)=false:=by simp[Builtin.List.listSameRef,BX.symm]
 have ab:(Value.type "zip"==Value.type "list")=false:=by decide
 have a':(Value.type "zip"==Value.type "tuple")=false:=by decide
 simp only[aa,ab,a',Wc,Tn,if_false];refine SB (Zl BY ?_);refine SB (Yb ?_);unfold Builtin.List.listLengthHint;refine SB (Zw cM MC ?_);show wpAny _ A.in1 (specialOf (Value.ref z) (Str.ofString "__length_hint__") >>= _) _ _ _
 refine SB (Zw cM MD ?_);refine TD ?_
 show wpAny _ A.in1 (rule "list.extend.makes-room" >>= λ_=>Builtin.List.listTouch (.ref S) >>= λ_=>
  again (.builtin "list.extend.loop" ⟨[.ref S,.ref z,.none],[]⟩)) _ _ _
 refine SB (wpAny_rule ?_);refine SB ?_;show wpAny _ A.in1 (Y8 S (·.push .none) >>= λ_=>Y8 S (·.pop)) _ _ _
 refine SB (Yl nE rfl ?_);have BZ:=Heap.get?_update_self (Obj.mapSeq (·.push Value.none)) nE rfl;refine Yl (hz:=by seq_fits) BZ rfl ?_;have MG:=Heap.get?_update_self (Obj.mapSeq (·.pop)) BZ rfl;have qC:Heap.SameBut S (s.heap.update S (Obj.mapSeq (λ_=>(#[]:Array SL)))) ((s.heap.update S (Obj.mapSeq (λ_=>(#[]:Array SL)))).update S (Obj.mapSeq (·.push Value.none))):=Heap.SameBut.update ..;have B0:Heap.SameBut S ((s.heap.update S (Obj.mapSeq (λ_=>(#[]:Array SL)))).update S (Obj.mapSeq (·.push Value.none))) (((s.heap.update S (Obj.mapSeq (λ_=>(#[]:Array SL)))).update S (Obj.mapSeq (·.push Value.none))).update S (Obj.mapSeq (·.pop))):=Heap.SameBut.update ..
 have B1:∀b o,b≠S->s.heap.get? b=some o->(((s.heap.update S (Obj.mapSeq (λ_=>(#[]:Array SL)))).update S (Obj.mapSeq (·.push Value.none))).update S (Obj.mapSeq (·.pop))).get? b=some o:=
  λb o ae e=>B0.extBut _ _ ae (qC.extBut _ _ ae (nF.extBut _ _ ae e))
 refine TD ⟨Yp F.plain_extend_loop _,Mw (lo:=lo) (n:=n) dP D dk aG lE wY .none n 0 _ [] _ rfl (Tu _) ?_ (Z.frame dk λc o hc e=>B1 c o hc e) MG rfl ⟨by simp,by simp,by simp⟩ λh' ts dg aB aL cv fe=>?_⟩
 ·show lo<=(((s.heap.update S (Obj.mapSeq (λ_=>(#[]:Array SL)))).update S (Obj.mapSeq (·.push Value.none))).update S (Obj.mapSeq (·.pop))).objs.size
  rw[B0.1,qC.1,nF.1];exact om
 exact eS h' ts dg aB aL cv λc o hc e=>fe c o hc (B1 c o (λh=>hc (by simp[h])) e)
end
section
variable{prog:UF}{w:Yd}{A:Yj}{E:SL->SZ->Prop}{s:SZ}
theorem MH{Q:SL->SZ->Prop}{z bL bZ bD bN l1 l2:TE}{xs ys:Array SL}{n:Nat}(dP:A.handled=none)(D:YZ z bL bZ bD bN l1 l2)(aG:n<=TI)(lE:n=min xs.size ys.size)(hz:j4 s.heap z bL bZ .none (.bool false))(ms:∃a b,Zs s.heap bZ a b)(oK:Zs s.heap bL (.ref bD) (.ref bN))(aa:s.heap.IsListIter bD l1 0)(ab:s.heap.IsListIter bN l2 0)(gM:s.heap.IsList l1 xs)(ma:s.heap.IsList l2 ys)(eD:∀h' ts dg,h'.get? s.heap.objs.size=some {cls:=.type "list",dict:=none,data:=.seq (ts.map Value.ref).toArray dg,slots :=#[]}->ts.length=n->Got (s.heap.objs.size+1) [] xs ys h' ts->(∀c o,c∉[z,bZ,bD,bN]->s.heap.get? c=some o->h'.get? c=some o)->Q (.ref s.heap.objs.size) {s with heap:=h' }):
  wpAny (Wp prog w) A (call (.type "list") [.ref z]) Q E s:=by
 refine callType_codes (Q₁:=λobj cw=>obj=.ref s.heap.objs.size/\cw={s with heap:=s.heap.push {cls:=.type "list",data:=.seq #[]} }) F.called_list (F.typeCall_list_1 _) F.entry_list_init
  (code_list_new _ ⟨rfl,rfl⟩) λobj cw wW=>?_
 obtain⟨rfl,rfl⟩:=wW;have dH:(s.heap.push {cls:=.type "list",data:=.seq #[]}).get? s.heap.objs.size=some {cls:=.type "list",data:=.seq #[]}:=Heap.get?_push_size _ rfl;have up:∀{b o},s.heap.get? b=some o->(s.heap.push {cls:=.type "list",data:=.seq #[]}).get? b=some o:=λe=>Heap.get?_push_of_some _ e;obtain⟨a,b,ms⟩:=ms;have lz:z<s.heap.objs.size:=Heap.lt_size hz;have MI:bL<s.heap.objs.size:=Heap.lt_size oK;have B2:bZ<s.heap.objs.size:=Heap.lt_size ms;have B3:bD<s.heap.objs.size:=by obtain⟨_,e,_⟩:=aa;exact Heap.lt_size e
 have B4:bN<s.heap.objs.size:=by obtain⟨_,e,_⟩:=ab;exact Heap.lt_size e
 have MJ:l1<s.heap.objs.size:=by obtain⟨_,e,_⟩:=gM;exact Heap.lt_size e
 have MK:l2<s.heap.objs.size:=by obtain⟨_,e,_⟩:=ma;exact Heap.lt_size e
 have dk:s.heap.objs.size∉[z,bL,bZ,bD,bN,l1,l2]:=λaz=>by
  simp only[SH,Ti,or_false]at az;have ne:∀{b:TE},b<s.heap.objs.size->s.heap.objs.size≠b:=λl e=>Tc _ (Wu l e);rcases az with h|h|h|h|h|h|h<;>first|exact ne lz h|exact ne MI h|exact ne B2 h|exact ne B3 h|exact ne B4 h|exact ne MJ h|exact ne MK h
 refine⟨⟨_,dH,rfl⟩,F.args_list_init_2 _ _,ME (lo:=s.heap.objs.size+1) (n:=n) dP D dk aG lE ?_ (by rw[Heap.size_push];exact SG _) ⟨.inl ⟨up hz,a,b,up ms⟩,up oK,aa.at λo e=>up e,ab.at λo e=>up e,gM.at λo e=>up e,ma.at λo e=>up e⟩ (up hz) dH λh' ts dg aB aL cv fe=>⟨rfl,?_⟩⟩
 ·intro a aq;simp only[SH,Ti,or_false]at aq;rcases aq with rfl|rfl|rfl|rfl|rfl
  ·exact Tw lz
  ·exact Tw B2
  ·exact Tw B3
  ·exact Tw B4
  exact Un _
 refine eD h' ts dg aB aL ⟨cv.nd,λt bw=>⟨(cv.new t bw).1,by simp⟩,cv.pair⟩ λc o hc e=>fe c o ?_ (up e);have:=Heap.lt_size e;intro az;simp only[SH,Ti,or_false]at az hc;rcases az with h|h|h|h|h
 ·exact hc (.inl h)
 ·exact hc (.inr (.inl h))
 ·exact hc (.inr (.inr (.inl h)))
 ·exact hc (.inr (.inr (.inr h)))
 exact Tc _ (Wu this h.symm)
end
end PySem
namespace L2
open PySem PySem.Spec PyProof.Rows PySem.W
def lays(H:al):aga->List (V×V)->al
 |t::ts,p::ps=>lays (upd H t (.tup [p.1,p.2])) ts ps
 |_,_=>H
theorem sW:∀{ts:aga}{ps:List (V×V)}{H:al}{b:TE},b∉ts->lays H ts ps b=H b
 |[],_,_,_,_=>rfl
 |_::_,[],_,_,_=>rfl
 |t::ts,p::ps,H,b,h=>by
  show lays (upd H t _) ts ps b=H b
  rw[sW (λz=>h (SJ _ z)),cB (λz:b=t=>h (by rw[z];exact SD))]
theorem B5:∀{ts:aga}{ps:List (V×V)}{H:al}{b:TE}{o:dM},lays H ts ps b=some o->(∃(j:Nat)(p:V×V),ts[j]?=some b/\ps[j]?=some p/\o=.tup [p.1,p.2])\/H b=some o
 |[],_,_,_,_,h=>.inr h
 |_::_,[],_,_,_,h=>.inr h
 |t::ts,p::ps,H,b,o,h=>by
  rcases B5 (ts:=ts) (ps:=ps) h with⟨j,q,aa,ab,a'⟩|h
  ·exact .inl ⟨j+1,q,by simpa using aa,by simpa using ab,a'⟩
  by_cases ae:b=t
  ·subst ae;rw[eo]at h;cases h;exact .inl ⟨0,p,rfl,rfl,rfl⟩
  rw[cB ae]at h;exact .inr h
theorem B6:∀(ts:aga),bP (ts.map V.ref) (ts.map Value.ref)
 |[]=>.nil
 |t::ts=>.cons rfl (B6 ts)
theorem neN{x y:Nat}(h:x<y\/y<x):x≠y:=by lia
theorem B7{n a b:Nat}(aq:a<n)(ae:b<n):YZ (n+4) (n+2) (n+3) n (n+1) a b:=
 ⟨neN (by lia),neN (by lia),neN (by lia),neN (by lia),neN (by lia),neN (by lia),neN (by lia),neN (by lia),neN (by lia),neN (by lia),neN (by lia),neN (by lia),neN (by lia),neN (by lia),neN (by lia),neN (by lia),neN (by lia),neN (by lia)⟩
theorem ML{n c:Nat}(h:c<n)(az:c∈[n+4,n+3,n,n+1]):False:=by
 simp only[SH,Ti,or_false]at az;lia
section
variable{X:a1}
def MM(t:dX):bA:=λσ H Q=>t σ H λvs ar=>∃a b xs ys,vs=[.ref a,.ref b]/\ar a=some (.lst xs)/\ar b=some (.lst ys) /\
 ∀(ts:aga)(S:TE),ts.length=(xs.zip ys).length->ts.Nodup->S∉ts->(∀t∈ts,ar t=none)->ar S=none->Q (.ref S) (upd (lays ar ts (xs.zip ys)) S (.lst (ts.map V.ref)))
theorem MN{ah am:WP}{t:dX}{bc aW wZ fZ:Pos}(aq:f4 X [ah,am] t)(hc:X.calm=true)(w0:c2 X "list")(w1:X.mg "list"=none)(w2:c2 X "zip")(w3:X.mg "zip"=none)(sX:Uf [.Call (.Name "zip" aW) [ah,am] [] fZ] X.env=(false,YU (.Call (.Name "zip" aW) [ah,am] [] fZ) X.env)::Uf [] X.env:=by rfl)(g6:Uf [ah,am] X.env=(false,YU ah X.env)::Uf [am] X.env:=by rfl)(eE:(Zp fZ (Uf [am] X.env)).any (·.1)=false:=by rfl):
  bE X (.Call (.Name "list" bc) [.Call (.Name "zip" aW) [ah,am] [] fZ] [] wZ) (MM t):=by
 intro af s σ H Q I h;refine Yk (jy (u:=.type "list") I w0 w1 (by decide +kernel) ?_);refine Uj ?_ sX rfl;rw[sX];refine Calls.spliced_cons ?_;refine Yk (jy (u:=.type "zip") I w2 w3 (by decide +kernel) ?_);refine Uj (bQ (aq fZ af s σ H _ I h) λaO s1 ⟨vs,ar,a6,ai,aB⟩=>?_) g6 eE;obtain⟨a,b,xs,ys,rfl,fg,fG,q⟩:=aB;obtain⟨u,v,rfl,fS,bX⟩:=vals2 ai;cases fS;cases bX;obtain⟨aE,B8,bx,v1,afB,j7⟩:=a6.lstM fg;obtain⟨aU,f7,n2,v2,afC,lG⟩:=a6.lstM fG;have B9:s1.heap.IsList a B8.toArray:=⟨_,j7,rfl,bx,rfl⟩;have L2:s1.heap.IsList b f7.toArray:=⟨_,lG,rfl,n2,rfl⟩;have sY:a<s1.heap.objs.size:=Heap.lt_size j7;have sZ:b<s1.heap.objs.size:=Heap.lt_size lG;refine call_zip_2 B9 L2 λaa dy dJ gN mu mv oN cy=>?_;refine Calls.spliced_nil ?_;have D:YZ (s1.heap.objs.size+4) (s1.heap.objs.size+2) (s1.heap.objs.size+3) s1.heap.objs.size (s1.heap.objs.size+1) a b:=B7 sY sZ;refine MH (n:=min B8.length f7.length) (a6.ok.hd hc) D (by lia) (by simp) dy ⟨_,_,gN⟩ dJ mu mv (B9.at λo e=>cy _ _ e) (L2.at λo e=>cy _ _ e) λab ts dg aK aP g3 db=>?_;have keep:∀c o,s1.heap.get? c=some o->ab.get? c=some o:=λc o e=>db c o (λaz=>ML (Heap.lt_size e) az) (cy c o e);have B':aa.objs.size=s1.heap.objs.size+5:=oN
 have gf:∀t∈ts,s1.heap.objs.size<=t/\t≠aa.objs.size:=λt bw=>
  have q:aa.objs.size+1<=t:=(g3.new t bw).1
  ⟨SE (by rw[B'];exact UA _ 6) q,λz=>Tc _ (Wu q z)⟩
 have dk:aa.objs.size∉ts:=λaz=>(gf _ az).2 rfl;have fr:∀{t:TE},s1.heap.objs.size<=t->ar t=none:=λh=>a6.hok.fresh h;have w4:s1.heap.objs.size<=aa.objs.size:=by rw[B'];exact UA _ 5
 have gZ:ar aa.objs.size=none:=fr w4;have dO:ts.length=(xs.zip ys).length:=by rw[US,aP];lia
 have old:∀{b:TE}{o:dM},ar b=some o->upd (lays ar ts (xs.zip ys)) aa.objs.size (.lst (ts.map V.ref)) b=some o:=λ{b o} e=>by
  have ae:b<s1.heap.objs.size:=a6.hok.lt e;rw[cB (SV (S9 ae w4)),sW (λaz=>Tc _ (S9 ae (gf b az).1))];exact e
 have MO:∀{b:TE}{o:Obj},s1.heap.get? b=some o->ar b=none->upd (lays ar ts (xs.zip ys)) aa.objs.size (.lst (ts.map V.ref)) b=none:=λ{b o} e n=>by
  have ae:=Heap.lt_size e;rw[cB (SV (S9 ae w4)),sW (λaz=>Tc _ (S9 ae (gf b az).1))];exact n
 refine⟨.ref aa.objs.size,upd (lays ar ts (xs.zip ys)) aa.objs.size (.lst (ts.map V.ref)),a6.un (t':=s1.toks) ⟨λb o e _ _ _=>keep b o e,λb o e _ _ _=>⟨o.slots,keep b o e⟩,λb o e n _=>MO e n,λb o e _=>⟨o,keep b o e⟩,λb xs e=>old e,λb o u e=>old e,λb ps e=>⟨#[],by rw[old e];simp⟩⟩ ?_,rfl,q ts _ dO g3.nd dk (λt bw=>fr (gf t bw).1) gZ⟩;intro b o e;by_cases ae:b=aa.objs.size
 ·subst ae;rw[eo]at e;cases e;exact⟨by rw[Sw,aP];lia,_,dg,B6 ts,aK⟩
 rw[cB ae]at e;rcases B5 e with⟨j,p,ah,am,rfl⟩|e
 ·obtain⟨x,y,aB,aL,cv⟩:=g3.pair j b ah;rw[XC]at am;obtain⟨c9,e6⟩:=am;obtain⟨u1,m1,m2⟩:=v1.get c9;obtain⟨u2,im,Ca⟩:=v2.get e6;rw[XD]at aB aL;rw[m1]at aB;rw[im]at aL;cases aB;cases aL;exact⟨hH,[_,_],.cons m2 (.cons Ca .nil),⟨_,cv,rfl,_,rfl⟩⟩
 exact(a6.hok b o e).stay (λc u _ g=>keep c u g) (λc g=>old g) (λc xs g=>old g) λc b9 u g=>old g
end
end L2
namespace L3
open PySem L2
section
variable{K:Sx}{R:al}{W:TE->Prop}{σ:St}{ρ:Z3}
theorem a3.lays:∀{ts:aga}{vs ws:Z4}{ds aD:Z7}{B H:al},a3 K R W B H σ ρ->Reps K B vs ds->Reps K B ws aD->ts.length=(vs.zip ws).length->ts.Nodup->(∀t∈ts,H t=none)->
  a3 K R W (L2.lays B ts (vs.zip ws)) (L2.lays H ts (vs.zip ws)) σ ρ/\bC R B (L2.lays B ts (vs.zip ws))/\Reps K (L2.lays B ts (vs.zip ws)) (ts.map V.ref) ((ds.zip aD).map λp=>D.tup [p.1,p.2])
 |[],vs,ws,ds,aD,B,H,e,ai,aw,ax,_,_=>by
  have q:(ds.zip aD).length=0:=by
   rw[US,<-ai.length,<-aw.length,<-US];exact ax.symm
  rw[VD.mp q];exact⟨e,bC.refl _ _,.nil⟩
 |t::ts,vs,ws,ds,aD,B,H,e,ai,aw,ax,nd,fr=>by
  cases ai with
  |nil=>simp at ax
  |cons dy ai=>
   cases aw with
   |nil=>simp at ax
   |cons dJ aw=>
    rename_i v d vs ds w c4 ws aD
    have bw:=fr t SD;have g:=e.grow bw (.tup [v,w]);have Cb:=TQ.mp nd
    obtain⟨aa,ab,a'⟩:=a3.lays (ts:=ts) (e.alloc bw (.tup [v,w])) (ai.mono g.s) (aw.mono g.s) (by simpa using ax) Cb.2 (λx hx=>by
     rw[cB (λz:x=t=>Cb.1 (by rw[<-z];exact hx))]
     exact fr x (SJ _ hx))
    refine⟨aa,g.trans ab,.cons (.tup (vs:=[v,w]) (ab.s _ _ eo) (.cons ((dy.mono g.s).mono ab.s) (.cons ((dJ.mono g.s).mono ab.s) .nil))) a'⟩
end
section
variable{X:a1}{ah am:WP}{aS bf:a2}
def Cc(aS bf:a2):cN:=λρ k=>aS ρ λx=>bf ρ λy=>∃ds aD,x=.lst ds/\y=.lst aD/\k ((ds.zip aD).map λp=>.tup [p.1,p.2])
theorem MP{bc aW wZ fZ:Pos}(aq:aV X ah aS)(ae:aV X am bf)(hc:X.calm=true)(w0:c2 X "list")(w1:X.mg "list"=none)(w2:c2 X "zip")(w3:X.mg "zip"=none)(sX:Uf [.Call (.Name "zip" aW) [ah,am] [] fZ] X.env=(false,YU (.Call (.Name "zip" aW) [ah,am] [] fZ) X.env)::Uf [] X.env:=by rfl)(g6:Uf [ah,am] X.env=(false,YU ah X.env)::Uf [am] X.env:=by rfl)(w5:dE X am []:=by rfl)(eE:(Zp fZ (Uf [am] X.env)).any (·.1)=false:=by rfl):
  hV X (.Call (.Name "list" bc) [.Call (.Name "zip" aW) [ah,am] [] fZ] [] wZ) (Cc aS bf):=by
 obtain⟨_,aa,ai⟩:=aq;obtain⟨_,ab,aw⟩:=ae;refine⟨_,MN (di aa (di ab d9 w5) g6) hc w0 w1 w2 w3 sX g6 eE,λρ k h R W B H σ Q e q=>?_⟩;refine ai ρ _ h R W B H σ _ e λd v a5 ar aE ah aK s1=>?_;refine aw ρ _ aE R W a5 ar σ _ ah λd' oa bu a0 aU am aP aI=>?_;obtain⟨ds,aD,rfl,rfl,z⟩:=aU;obtain⟨a,vs,rfl,aq,rs⟩:=(s1.mono aP.s).lstV;obtain⟨b,ws,rfl,ae,rt⟩:=aI.lstV;refine⟨a,b,vs,ws,rfl,am.bh _ _ aq,am.bh _ _ ae,λts S ax nd dk fr gZ=>?_⟩;obtain⟨bz,g3,eg⟩:=am.lays rs rt ax nd fr;obtain⟨bv,bJ,bY,cR,dh⟩:=bz.newO (by rw[sW dk];exact gZ) eg;exact q _ S _ _ _ z bv ((aK.trans aP).trans g3) bJ bY cR eg dh
end
end L3
namespace L2
open PySem PySem.Spec PyProof.Rows PySem.W
theorem Cd(its:af'):∀m,m<=its.length->(SA m).filterMap (λk=>its[its.length-1-k]?)=its.reverse.take m
 |0,_=>rfl
 |m+1,h=>by
  rw[UB,List.filterMap_append,Cd its m (by lia),VE,List.getElem?_reverse (by lia)];congr 1
theorem MQ(its:af'):ZX its.toArray none none (some (-1))=its.reverse.toArray:=by
 have ae:YF none none (some (-1)) its.toArray.size=((its.length:Int)-1,-1,-1):=by simp[YF]
 unfold ZX;rw[ae]
 have au:sliceRange ((its.length:Int)-1) (-1) (-1)=(SA its.length).map λk=>its.length-1-k:=by
  unfold sliceRange
  have c:(if(-1:Int)>0 then(if(its.length:Int)-1 < -1 then(-1-((its.length:Int)-1) + -1-1) / -1 else 0)else(if(its.length:Int)-1 > -1 then((its.length:Int)-1 - -1 - -1-1)/(- -1)else 0))=(its.length:Int):=by
   rw[TW (by decide)];split
   ·rw[show(- -1:Int)=1 by decide,Int.ediv_one];lia
   lia
  simp only[c,XA];refine Tj λk hk=>?_;lia
 simp only[au,Wv];have:=Cd its its.length (SG _);rw[Ul (by simp)]at this;rw[<-this]
 have e:((λx=>its.toArray[x]?)∘λk=>its.length-1-k)=λk=>its[its.length-1-k]?:=by
  funext k;simp
 rw[e]
section
variable{X:a1}{e st:WP}{b6 ts:bA}{aW pos:Pos}
def MR(b6 ts:bA)(K:Sx):bA:=λσ H Q=>b6 σ H λx ar=>ts σ ar λi a0=>i=.int (-1)/\∃a xs,x=.ref a/\b0 K a0 a xs/\∀p,a0 p=none->Q (.ref p) (upd a0 p (.lst xs.reverse))
theorem MS(aF:bE X e b6)(av:bE X st ts):bE X (.Subscript e (.Slice none none (some st) aW) pos) (MR b6 ts X.K):=by
 intro af s σ H Q I h;refine Subscript_ (bQ (aF af s σ H _ I h) λv s1 ⟨x,ar,a6,ai,aB⟩=>?_);refine wpAny_Slice ?_;rw[ZI];refine TD ?_;refine TD ?_;rw[evalPart_some];refine bQ (av af s1 σ ar _ a6 aB) λu bI ⟨i,cg,cu,v6,cv⟩=>?_;obtain⟨rfl,a,xs,rfl,hx,q⟩:=cv;obtain⟨bm,rfl⟩:=v6;cases ai;have gA:Inv X af σ cg {bI with heap:=bI.heap.push {cls:=.type "slice",data:=.fields #[.none,.none,.int (-1) bm]} }:=cu.kept (t':=bI.toks) λb b9 q=>Heap.get?_push_of_some _ q;obtain⟨its,r,bw,hz⟩:=gA.list hx;have fE:=r.length;show wpAny (Wp X.prog X.w) X.A (ZJ e (.Slice none none (some st) aW) (.ref a) (.ref bI.heap.objs.size)) (fA X af σ Q) X.xe {bI with heap:=bI.heap.push {cls:=.type "slice",data:=.fields #[.none,.none,.int (-1) bm]} }
 refine tail_any (ops:=[.ref a,.ref bI.heap.objs.size]) bw.isList.typeIs slot_list_getitem.lookup ?_ (by with_unfolding_all rfl);refine Zg (st:=some (-1)) bw.isList (Heap.IsSliceOf.new ..) .none .none (.int _ _) (by simp) ?_ (by rw[SX]<;>lia);rw[MQ];refine⟨.ref _,_,gA.laid (t':=bI.toks) (o:=.lst xs.reverse) (λb b9 q=>Heap.get?_push_of_some _ q) (SG _) ?_,rfl,q _ (gA.hok.fresh (SG _))⟩;exact⟨by rw[T8];exact hz,_,0,r.reverse,Heap.get?_push_size _ rfl⟩
end
end L2
namespace L3
open PySem L2
section
variable{X:a1}{e st:WP}{u aO:a2}{aW pos:Pos}
theorem Reps.reverse{K:Sx}{B:al}:∀{vs:Z4}{ds:Z7},Reps K B vs ds->Reps K B vs.reverse ds.reverse
 |_,_,.nil=>.nil
 |_,_,.cons h r=>by
  rw[Vs,Vs];exact(Reps.reverse r).append (.cons h .nil)
def MT(u aO:a2):cN:=λρ k=>u ρ λx=>aO ρ λi=>i=.int (-1)/\∃ds,wC x=some ds/\k ds.reverse
theorem w6(aF:aV X e u)(av:aV X st aO):hV X (.Subscript e (.Slice none none (some st) aW) pos) (MT u aO):=by
 obtain⟨_,aa,ai⟩:=aF;obtain⟨_,ab,aw⟩:=av;refine⟨_,MS aa ab,λρ k h R W B H σ Q e q=>?_⟩;refine ai ρ _ h R W B H σ _ e λd v a5 ar aE ah aK s1=>?_;refine aw ρ _ aE R W a5 ar σ _ ah λi ig bu a0 aU am aP aI=>?_;obtain⟨rfl,ds,hd,z⟩:=aU;obtain⟨a,vs,rfl,aq,rs⟩:=A' am.bh (s1.mono aP.s) hd;refine⟨aI.intV,a,vs,rfl,aq,λp ak=>?_⟩;obtain⟨bv,bJ,bY,cR,dh⟩:=am.newO ak rs.reverse;exact q _ p _ bu _ z bv (aK.trans aP) bJ bY cR rs.reverse dh
end
end L3
namespace Cut
open PySem L2 L3
open PySem.Builtin.Int (intBits)
abbrev ay:=Int×Int
abbrev Z6:=List ay
def fK(x y:ay):ay:=(x.1*y.2+y.1*x.2,x.2*y.2)
def dR:Z6->ay
 |[]=>(0,1)
 |x::l=>fK x (dR l)
theorem Ce(x y:ay):fK x y=fK y x:=by unfold fK;refine Tf ?_ ?_<;>simp only<;>grind
theorem MU(x y z:ay):fK (fK x y) z=fK x (fK y z):=by unfold fK;refine Tf ?_ ?_<;>simp only<;>grind
theorem Cf(x:ay):fK (0,1) x=x:=by unfold fK;refine Tf ?_ ?_<;>simp only<;>grind
theorem qD:∀(a b:Z6),dR (a++b)=fK (dR a) (dR b)
 |[],b=>(Cf _).symm
 |x::a,b=>by
  show fK x (dR (a++b))=fK (fK x (dR a)) (dR b)
  rw[qD a b,MU]
theorem MV(a b:Z6):dR (a++b)=dR (b++a):=by rw[qD,qD,Ce]
theorem MW(x:ay):dR [x]=x:=by
 show fK x (0,1)=x
 rw[Ce,Cf]
theorem MX(a:Z6)(x:ay):dR (a++[x])=fK (dR a) x:=by rw[qD,MW]
def fL(p q:aT):ay:=(p.1*q.2.1-p.2.1*q.1,p.2.2*q.2.2)
def gu(x:aT):Z9->Z6
 |[]=>[]
 |a::l=>fL x a::gu a l
def oO(x:aT):Z9->aT
 |[]=>x
 |a::l=>oO a l
theorem Cg:∀(x:aT)(l m:Z9),gu x (l++m)=gu x l++gu (oO x l) m
 |_,[],_=>rfl
 |x,a::l,m=>by
  show fL x a::gu a (l++m)=fL x a::(gu a l++gu (oO a l) m)
  rw[Cg a l m]
def f0:Z9->Z6
 |[]=>[]
 |x::l=>gu x (l++[x])
theorem MY(x:aT)(l:Z9):dR (gu (oO x l) (x::l))=dR (f0 (x::l)):=by
 show dR ([fL (oO x l) x]++gu x l)=dR (gu x (l++[x]))
 rw[Cg,MV];rfl
theorem Ch:∀(x:aT)(l m:Z9),m.length=l.length+1->True->∀(h:∃y,m=l++[y]),((x::l).zip m).map (λs=>fL s.1 s.2)=gu x m
 |x,[],_,_,_,⟨y,rfl⟩=>rfl
 |x,a::l,_,_,_,⟨y,rfl⟩=>by
  show fL x a::((a::l).zip (l++[y])).map (λs=>fL s.1 s.2)=fL x a::gu a (l++[y])
  rw[Ch a l (l++[y]) (by simp) trivial ⟨y,rfl⟩]
theorem MZ:∀(l:Z9),(l.zip (l.drop 1++l.take 1)).map (λs=>fL s.1 s.2)=f0 l
 |[]=>rfl
 |x::l=>Ch x l (l++[x]) (by simp) trivial ⟨x,rfl⟩
def eu(r s:ay):Prop:=eF r.1 r.2/\0<s.2/\r.1*s.2=s.1*r.2
theorem eu.uniq{r t s:ay}(h:eu r s)(g:eu t s):r=t:=by
 have e0:=Sz h.2.1;have:=wk h.1 g.1 (TB e0 (by have:=h.2.2;have:=g.2.2;grind));exact Tf this.1 this.2
theorem eu.zero:eu (0,1) (dR []):=⟨⟨by decide,by decide⟩,by decide,rfl⟩
theorem eu.low{c d:Int}(hd:0<d):eu (bM c d) (c,d):=by
 obtain⟨l,e,_⟩:=jj (t:=c) (b:=d) (Sz hd);exact⟨l,hd,e⟩
theorem eu.add{r t s u:ay}(h:eu r s)(g:eu t u):eu (bM (r.1*t.2+t.1*r.2) (r.2*t.2)) (fK s u):=by
 have bc:=h.1.1;have aW:=g.1.1;obtain⟨l,e,_⟩:=jj (t:=r.1*t.2+t.1*r.2) (b:=r.2*t.2) (wo bc aW);refine⟨l,SO h.2.1 g.2.1,?_⟩;generalize bM (r.1*t.2+t.1*r.2) (r.2*t.2)=w at *;have ah:=h.2.2;have am:=g.2.2;refine TB (wo bc aW) ?_;unfold fK;simp only;grind
theorem eu.bounds{r s:ay}(h:eu r s):r.1.natAbs<=s.1.natAbs/\r.2.natAbs<=s.2.natAbs:=by
 have e:r=bM s.1 s.2:=h.uniq (eu.low h.2.1);obtain⟨_,_,br,bF⟩:=jj (t:=s.1) (b:=s.2) (Sz h.2.1);rw[e];exact⟨br,bF⟩
theorem Ci{m:Nat}:∀{l:Z6},(∀x∈l,T0 x.1<=m/\T0 x.2<=m)->T0 (dR l).1<=l.length*(m+1)+1/\T0 (dR l).2<=l.length*(m+1)+1
 |[],_=>⟨SE (show T0 0<=1 by decide +kernel) (Nat.le_add_left _ _),SE (show T0 1<=1 by decide +kernel) (Nat.le_add_left _ _)⟩
 |x::l,h=>by
  obtain⟨a,b⟩:=h x SD;obtain⟨c,d⟩:=Ci (l:=l) λy hy=>h y (SJ _ hy)
  have e:(x::l).length*(m+1)+1=m+(l.length*(m+1)+1)+1:=by
   rw[SR,Nat.succ_mul];lia
  rw[e];have aB:=UV a d;have aL:=UV c b;have cv:=UV b d;constructor
  ·show T0 (x.1*(dR l).2+(dR l).1*x.2)<=_
   exact SE (YB aB aL) (by lia)
  exact SE cv (by lia)
theorem Cj{m:Nat}{p q:aT}(ak:dz m p)(aA:dz m q):T0 (fL p q).1<=2*m+1/\T0 (fL p q).2<=2*m+1:=by
 constructor
 ·exact SE (ZC (UV ak.a aA.b) (UV ak.b aA.a)) (by lia)
 exact SE (UV ak.c aA.c) (by lia)
theorem Ck:∀(z:aT)(l:Z9),(gu z l).length=l.length
 |_,[]=>rfl
 |_,a::l=>by rw[gu,SR,SR,Ck a l]
theorem M0(l:Z9):(f0 l).length=l.length:=by
 cases l with
 |nil=>rfl
 |cons x l=>show(gu x (l++[x])).length=_;rw[Ck,SU];rfl
theorem Cm{P:ay->Prop}{G:aT->Prop}(h:∀p q,G p->G q->P (fL p q)):∀{z:aT}{l:Z9},G z->(∀p∈l,G p)->∀x∈gu z l,P x
 |_,[],_,_,_,hx=>by cases hx
 |z,a::l,M1,g7,x,hx=>by
  rcases SH.mp hx with rfl|hx
  ·exact h _ _ M1 (g7 a SD)
  exact Cm h (g7 a SD) (λp ak=>g7 p (SJ _ ak)) x hx
theorem M2{P:ay->Prop}{G:aT->Prop}(h:∀p q,G p->G q->P (fL p q)){l:Z9}(g7:∀p∈l,G p):∀x∈f0 l,P x:=by
 cases l with
 |nil=>intro x hx;cases hx
 |cons a l=>
  refine Cm h (g7 a SD) λp ak=>?_;rcases S3.mp ak with ak|ak
  ·exact g7 p (SJ _ ak)
  have:p=a:=by simpa using ak
  rw[this];exact g7 a SD
theorem M3(ps:Z9):has (.L (.T [.I,.I,.I])) (.lst (ps.map bo))=true:=by
 show((ps.map bo).all λx=>has (.T [.I,.I,.I]) x)=true
 rw[TC];intro x hx;obtain⟨p,_,rfl⟩:=SF.mp hx;rfl
end Cut
namespace L2
open PySem PySem.Spec PyProof.Rows
section
variable{X:a1}{pos:Pos}
def M4(i j k:Nat)(bq:dX):fp:=λD σ H=>bq σ H λvs ar=>∃v w z,vs=[v,w,z]/\D.nx (((σ.set k (some z)).set j (some w)).set i (some v)) ar
theorem M5{i j k:Nat}{x y n:Str}{a b c:WP}{bq:dX}{c3 d7 pn pt:Pos}{gz k2 hL}(hc:X.calm=true)(bU:X.N.Nodup)(ao:X.N[i]?=some x)(aQ:X.N[j]?=some y)(hk:X.N[k]?=some n)(hx:X.env.scope.names.lookup x=some .local)(hy:X.env.scope.names.lookup y=some .local)(aG:X.env.scope.names.lookup n=some .local)(aq:f4 X [a,b,c] bq)(hw:YQ [.Tuple [.Name x c3,.Name y d7,.Name n pn] gz pt] (.Tuple [a,b,c] k2 hL) X.env=pure (some [x,y,n]))(av:YO [.Tuple [.Name x c3,.Name y d7,.Name n pn] gz pt] (.Tuple [a,b,c] k2 hL) pos.line X.env=pure false:=by rfl):
  ho X (.Assign [.Tuple [.Name x c3,.Name y d7,.Name n pn] gz pt] (.Tuple [a,b,c] k2 hL) pos) (M4 i j k bq):=by
 intro af s σ H D I h;rw[exec_Assign_arm];refine SB (YX ?_);rw[av];refine SB (TD ?_);rw[TW (by decide)];refine SB (Tuple_ (bQ (aq _ af s σ H _ I h) λaO s1 ⟨vs,ar,a6,ai,aB⟩=>?_));obtain⟨v,w,z,ah,aB⟩:=aB;subst ah
 obtain⟨u1,u2,j8,rfl,bX,jB,m'⟩:∃u1 u2 j8,aO=[u1,u2,j8]/\RelV v u1/\RelV w u2/\RelV z j8:=by
  cases ai with
  |cons p q=>
   cases q with
   |cons l4 fP=>
    cases fP with
    |cons M6 M7=>
     cases M7;exact⟨_,_,_,rfl,p,l4,M6⟩
 refine Yt ?_ (by show 3<=TI;decide);have dt:Inv X af σ ar {s1 with heap:=s1.heap.push {cls:=.type "tuple",data:=.seq [u1,u2,j8].toArray} }:=a6.kept (t':=s1.toks) λb o e=>Heap.get?_push_of_some _ e;rw[hw];refine SB (TD ?_);show wpAny (Wp X.prog X.w) X.A (do rule "assign.swapped-stores";let items <-unpackItems (.ref s1.heap.objs.size) 3 none;YW [λv=>YY X.env n v,λv=>YY X.env y v,λv=>YY X.env x v] items.reverse;pure Flow.next) _ _ _;refine SB (wpAny_rule (SB (unpackItems_tuple (items :=#[u1,u2,j8]) (I.ok.hd hc) (IsTup.new s1.heap _) λh' l5=>?_)));have cu:=dt.kept (h':=h') (t':=s1.toks) λb o e=>l5 b o (SV (Heap.lt_size e)) e;show wpAny _ _ (YW [λv=>YY X.env n v,λv=>YY X.env y v,λv=>YY X.env x v] [j8,u2,u1] >>= λ_=>pure Flow.next) _ _ _
 refine SB (Yv (YT (l0 cu bU hk (.inl aG) m' (λaI gA=>?_) (.inr aG))));refine Yv (YT (l0 gA bU aQ (.inl hy) jB (λbI jC=>?_) (.inr hy)));exact Yv (YT (l0 jC bU ao (.inl hx) bX (λdG hs=>Ze (TD ⟨_,ar,hs,aB⟩)) (.inr hx)))
end
end L2
namespace L3
open PySem L2
section
variable{X:a1}{w:cN}{pos:Pos}
def M8(i j k:Nat)(w:cN):cx:=λU ρ=>w ρ λds=>∃x y z,ds=[x,y,z]/\U.nx (((ρ.set k (.val z)).set j (.val y)).set i (.val x))
theorem M9{i j k:Nat}{x y n:Str}{a b c:WP}{c3 d7 pn pt:Pos}{gz k2 hL}(hc:X.calm=true)(bU:X.N.Nodup)(ao:X.N[i]?=some x)(aQ:X.N[j]?=some y)(hk:X.N[k]?=some n)(hx:X.env.scope.names.lookup x=some .local)(hy:X.env.scope.names.lookup y=some .local)(aG:X.env.scope.names.lookup n=some .local)(aq:m8 X [a,b,c] w)(hw:YQ [.Tuple [.Name x c3,.Name y d7,.Name n pn] gz pt] (.Tuple [a,b,c] k2 hL) X.env=pure (some [x,y,n]))(av:YO [.Tuple [.Name x c3,.Name y d7,.Name n pn] gz pt] (.Tuple [a,b,c] k2 hL) pos.line X.env=pure false:=by rfl):
  e9 X (.Assign [.Tuple [.Name x c3,.Name y d7,.Name n pn] gz pt] (.Tuple [a,b,c] k2 hL) pos) (M8 i j k w):=by
 obtain⟨_,aa,ai⟩:=aq;refine⟨_,M5 hc bU ao aQ hk hx hy aG aa hw av,λU ρ h R W B H σ D e s=>?_⟩;refine ai ρ _ h R W B H σ _ e λds vs a5 ar aE ah aK s1=>?_;obtain⟨x,y,z,rfl,aE⟩:=aE;cases s1 with
 |cons iq gG=>cases gG with
  |cons gG rc=>cases rc with
   |cons rc lr=>
    cases lr;exact⟨_,_,_,rfl,s.nx _ _ a5 ar aE (((ah.setV k rc).setV j gG).setV i iq) aK⟩
end
section
variable{K:Sx}{R:al}{W:TE->Prop}{B aC H aj:al}{σ:St}{ρ:Z3}
def kF:aN->aN
 |.own (.l ds)=>.val (.lst ds)
 |.own (.d b _ ks ds)=>.val (.dct b ks ds)
 |.deep _=>.no
 |s=>s
def gv(W:TE->Prop)(σ:St)(ρ:Z3)(a:TE):Prop:=W a\/∃i:Nat,σ[i]?=some (some (.ref a))/\ρ[i]?=some .bag
def kG(σ:St)(ρ:Z3)(a:TE):Prop:=∃(i:Nat)(ds:jI),σ[i]?=some (some (.ref a))/\ρ[i]?=some (.own ds)
open Classical in
noncomputable def kH(B H:al)(σ:St)(ρ:Z3):al:=λa=>if kG σ ρ a then H a else B a
theorem qE{a:TE}(h:kG σ ρ a):kH B H σ ρ a=H a:=by unfold kH;rw[TT h]
theorem qF{a:TE}(h:¬kG σ ρ a):kH B H σ ρ a=B a:=by unfold kH;rw[TW h]
theorem a3.frW_B(e:a3 K R W B H σ ρ){a:TE}(h:gv W σ ρ a):B a=none/\fU H a:=by
 rcases h with h|⟨i,aa,ab⟩
 ·exact⟨e.wb a h,e.wh a h⟩
 obtain⟨b,br,_,es,eR⟩:=e.bagAt ab;rw[aa]at br;cases br;exact⟨es,eR⟩
theorem a3.own_out(e:a3 K R W B H σ ρ){a:TE}(h:kG σ ρ a):R a=none/\B a=none/\H a≠none/\¬gv W σ ρ a:=by
 obtain⟨i,ds,aa,ab⟩:=h;obtain⟨b,br,bF,es,eR⟩:=e.ownC ab;rw[aa]at br;cases br;refine⟨bF,es,eR.ne,λz=>?_⟩;rcases z with z|⟨j,aE,aU⟩
 ·exact e.wr a z bF
 have:=e.sep i j a (.inl ⟨aa,.inr ⟨ds,ab⟩⟩) (.inl ⟨aE,.inl aU⟩);subst this;rw[ab]at aU;cases aU
theorem a3.deep_out(e:a3 K R W B H σ ρ){i:Nat}{c:gT}(h:ρ[i]?=some (.deep c)){a:TE}(m:a∈c.adr::c.ins):¬gv W σ ρ a:=λz=>by
 rcases z with z|⟨j,aE,aU⟩
 ·exact e.wr a z ((e.deepAt h).2.fr a m).1
 have:=e.sep i j a (.inr ⟨c,h,m⟩) (.inl ⟨aE,.inl aU⟩);subst this;rw[h]at aU;cases aU
theorem a3.frB_same(e:a3 K R W B H σ ρ):ca B (kH B H σ ρ):=λa o h=>by
 by_cases z:kG σ ρ a
 ·rw[(e.own_out z).2.1]at h;cases h
 rw[qF z];exact h
theorem a3.frame(e:a3 K R W B H σ ρ):a3 K H (gv W σ ρ) (kH B H σ ρ) H σ (ρ.map kF):=by
 have lp:∀a,gv W σ ρ a->kH B H σ ρ a=none:=λa h=>by
  by_cases z:kG σ ρ a
  ·exact absurd h (e.own_out z).2.2.2
  rw[qF z];exact(e.frW_B h).1
 refine⟨⟨λ_ _ z _=>z,λa o h=>?_,lp,λa h=>(e.frW_B h).2,λa h=>?_⟩,by rw[Sw];exact e.len,λi k h=>?_,λi j a m1 m2=>?_⟩
 ·by_cases z:kG σ ρ a
  ·rwa[qE z]at h
  rw[qF z]at h;exact e.bh a o h
 ·obtain⟨x,y,q,_⟩:=(e.frW_B h).2;rw[q];simp
 ·rw[S1]at h;cases q:ρ[i]? with
  |none=>rw[q]at h;cases h
  |some mf=>
   rw[q]at h;have h:=SM h;subst h;have z:=e.ok i _ q;cases mf with
   |no=>trivial
   |new d=>
    obtain⟨v,aa,ab⟩:=z;refine⟨v,aa,ab.mono (sP e.toWd e.frB_same (λa o h=>?_) (λa z au=>?_) lp)⟩
    ·by_cases z:kG σ ρ a
     ·rwa[qE z]at h
     rw[qF z]at h;exact e.bh a o h
    rcases z with z|⟨i,aE,aU⟩
    ·exact z
    obtain⟨b,br,bF,_⟩:=e.bagAt aU;rw[aE]at br;cases br;exact bF.resolve_right au
   |deep c=>trivial
   |pin v d=>
    obtain⟨aa,ab⟩:=z;refine⟨aa,ab.mono (sP e.toWd e.frB_same (λa o h=>?_) (λa z au=>?_) lp)⟩
    ·by_cases z:kG σ ρ a
     ·rwa[qE z]at h
     rw[qF z]at h;exact e.bh a o h
    rcases z with z|⟨i,aE,aU⟩
    ·exact z
    obtain⟨b,br,bF,_⟩:=e.bagAt aU;rw[aE]at br;cases br;exact bF.resolve_right au
   |val d=>
    obtain⟨v,aa,ab⟩:=z;exact⟨v,aa,ab.mono e.frB_same⟩
   |own ds=>
    obtain⟨a,aa,ab,a',z⟩:=z;cases ds with
    |l ds=>
     obtain⟨vs,bG,eb⟩:=z;exact⟨.ref a,aa,.lst (by rw[qE ⟨i,_,f' aa,q⟩];exact bG) (eb.mono e.frB_same)⟩
    |d b t ks ds=>
     obtain⟨bW,as,vs,_,bG,eb,ir,wQ⟩:=z;exact⟨.ref a,aa,.dct (by rw[qE ⟨i,_,f' aa,q⟩];exact bG) (eb.mono e.frB_same) ir (wQ.mono e.frB_same)⟩
   |bag=>
    obtain⟨b,aa,ab,a',bG⟩:=z;have w:gv W σ ρ b:=.inr ⟨i,f' aa,q⟩;exact⟨b,aa,.inl w,lp b w,bG⟩
 have back:∀i,cE σ (ρ.map kF) i a->cE σ ρ i a:=λi m=>by
  rcases m with⟨aa,ab⟩|⟨c,aa,_⟩
  rotate_left
  ·rw[S1]at aa;cases q:ρ[i]? with
   |none=>rw[q]at aa;cases aa
   |some mf=>
    rw[q]at aa;cases mf with
    |own ds=>cases ds<;>cases aa
    |_=>cases aa
  refine .inl ⟨aa,?_⟩;rw[S1]at ab;cases q:ρ[i]? with
  |none=>rw[q]at ab;rcases ab with ab|⟨_,ab⟩<;>cases ab
  |some mf=>
   rw[q]at ab;cases mf with
   |bag=>exact .inl rfl
   |no=>rcases ab with ab|⟨_,ab⟩<;>cases ab
   |new d=>rcases ab with ab|⟨_,ab⟩<;>cases ab
   |pin v d=>rcases ab with ab|⟨_,ab⟩<;>cases ab
   |deep d=>rcases ab with ab|⟨_,ab⟩<;>cases ab
   |val d=>rcases ab with ab|⟨_,ab⟩<;>cases ab
   |own ds=>cases ds<;>rcases ab with ab|⟨_,ab⟩<;>cases ab
 exact e.sep i j a (back i m1) (back j m2)
theorem a3.unframe(e:a3 K R W B H σ ρ)(fr:∀a o,H a=some o->¬gv W σ ρ a->aj a=some o)(wh:∀a,gv W σ ρ a->fU aj a):a3 K R W B aj σ ρ:=by
 have hD:∀a,R a≠none->¬W a->¬gv W σ ρ a:=λa aa ab z=>by
  rcases z with z|⟨i,aE,aU⟩
  ·exact ab z
  obtain⟨b,br,bF,_⟩:=e.bagAt aU;rw[aE]at br;cases br;rcases bF with bF|bF
  ·exact ab bF
  exact aa bF
 refine⟨⟨λa o h ec=>fr a o (e.fr a o h ec) (hD a (by rw[h];simp) ec),λa o h=>fr a o (e.bh a o h) λz=>?_,e.wb,λa h=>wh a (.inl h),e.wr⟩,e.len,λi k h=>?_,e.sep⟩
 ·rw[(e.frW_B z).1]at h;cases h
 have z:=e.ok i k h;cases k with
 |no=>trivial
 |new d=>exact z
 |pin v d=>exact z
 |val d=>exact z
 |own ds=>
  obtain⟨a,aa,ab,a',bG⟩:=z;refine⟨a,aa,ab,a',bG.mono (ca.refl _) ?_⟩;cases q:H a with
  |none=>exact absurd q bG.ne
  |some o=>exact fr a _ q (e.own_out ⟨i,ds,f' aa,h⟩).2.2.2
 |deep c=>
  refine⟨z.1,z.2.fr,z.2.nd,z.2.ok.mono (ca.refl _) λa iT=>?_⟩;cases q:H a with
  |none=>exact absurd q (z.2.ok.ne iT)
  |some o=>exact fr a _ q (e.deep_out h iT)
 |bag=>
  obtain⟨b,aa,ab,a',bG⟩:=z;exact⟨b,aa,ab,a',wh b (.inr ⟨i,f' aa,h⟩)⟩
theorem a3.forget(e:a3 K R W B H σ ρ){a4:St}{bt:Z3}(ax:a4.length=bt.length)(h:∀(i:Nat)(k:aN),bt[i]?=some k->k=.no\/(ρ[i]?=some k/\a4[i]?=σ[i]?)):a3 K R W B H a4 bt:=by
 have back:∀i a,cE a4 bt i a->cE σ ρ i a:=λi a m=>by
  rcases m with⟨aa,ab|⟨ds,ab⟩⟩|⟨c,aa,ab⟩
  ·rcases h i _ ab with z|⟨aE,aU⟩
   ·cases z
   exact .inl ⟨by rw[<-aU];exact aa,.inl aE⟩
  ·rcases h i _ ab with z|⟨aE,aU⟩
   ·cases z
   exact .inl ⟨by rw[<-aU];exact aa,.inr ⟨ds,aE⟩⟩
  rcases h i _ aa with z|⟨aE,aU⟩
  ·cases z
  exact .inr ⟨c,aE,ab⟩
 refine⟨e.toWd,ax,λi k q=>?_,λi j a m1 m2=>e.sep i j a (back i a m1) (back j a m2)⟩;rcases h i k q with rfl|⟨aE,aU⟩
 ·trivial
 rw[aU];exact e.ok i k aE
end
section
variable{K:Sx}{X:a1}{e:WP}{aD:agb}{u:a2}{w:cN}{pos p:Pos}
theorem Cn{c:WP}{dw:cK}(h:fi X c dw):fi X c (λρ k=>dw (ρ.map kF) k):=by
 obtain⟨_,aa,ai⟩:=h;refine⟨_,aa,λρ k h R W B H σ Q e q=>?_⟩;exact ai _ _ h _ _ _ _ _ _ e.frame λb aC aj z a7 g=>q b B aj z (e.unframe a7.fr a7.wh) (bC.refl _ _)
mutual
def flat:D->Bool
 |.tup xs=>flats xs
 |.lst _=>false
 |.scr _=>false
 |.ktup _=>false
 |.kfn _=>false
 |.dct _ _ _=>false
 |.non=>true
 |.bl _=>true
 |.int _=>true
 |.str _=>true
 |.ty _=>true
def flats:Z7->Bool
 |[]=>true
 |x::r=>flat x&&flats r
end
theorem M'{R B:al}{a:TE}{vs:Z4}(h:B a=some (.tup vs)):d5 R B a=some (.tup vs):=by
 unfold d5;rw[h]
mutual
theorem bH.flat{R B:al}:∀{v:V}{d:D},bH K B v d->flat d=true->bH K (d5 R B) v d
 |_,_,.non,_=>.non
 |_,_,.bl b,_=>.bl b
 |_,_,.int i,_=>.int i
 |_,_,.str x,_=>.str x
 |_,_,.ty n,_=>.ty n
 |_,_,.tup h r,f=>.tup (M' h) (Reps.flat r f)
 |_,_,.lst h r,f=>by simp[L3.flat]at f
 |_,_,.scr h,f=>by simp[L3.flat]at f
 |_,_,.ktup h _,f=>by simp[L3.flat]at f
 |_,_,.kfn _,f=>by simp[L3.flat]at f
 |_,_,.dct _ _ _ _,f=>by simp[L3.flat]at f
theorem Reps.flat{R B:al}:∀{vs:Z4}{ds:Z7},Reps K B vs ds->flats ds=true->Reps K (d5 R B) vs ds
 |_,_,.nil,_=>.nil
 |_,_,.cons h r,f=>by
  rw[flats,Te]at f
  exact .cons (bH.flat h f.1) (Reps.flat r f.2)
end
def oP(K:Sx)(t:bA)(u:a2):Prop:=∀(ρ:Z3)(k:D->Prop),u ρ k->∀(R:al)(W:TE->Prop)(B H:al)(σ:St)(Q:cf),a3 K R W B H σ ρ->
 (∀d v aC aj,k d->a3 K R W aC aj σ ρ->bC R B aC->bH K (d5 R aC) v d->Q v aj)->t σ H Q
def oQ(X:a1)(e:WP)(u:a2):Prop:=∃t,bE X e t/\oP X.K t u
def Na(w:cN):a2:=λρ k=>w ρ λds=>flats ds=true/\k (.lst ds)
theorem Co(h:hV X e w):oQ X e (Na w):=by
 obtain⟨_,aa,ai⟩:=h;refine⟨_,aa,λρ k h R W B H σ Q e q=>?_⟩;refine ai ρ _ h R W B H σ _ e λds a vs a5 ar aE ah aK bv bJ bY cR dh=>?_;obtain⟨am,aP⟩:=ah.freeze bY bv bJ dh;exact q _ _ _ _ aE.2 am (aK.trans aP) (.lst (AM eo bv) ((cR.mono aP.s).flat aE.1))
def Nb(n:Nat)(F:b4)(w:hU):a2:=λρ k=>w ρ λas=>bS as n=true/\F (as.map Arg.sl) λr=>∃d,r=.new d/\k d
theorem Cp{n:Nat}{F:b4}{w:hU}{x:Str}{ps:af9}{j lv:Nat}(c:aX X.prog X.w X.K X.mg X.base x ps j (aY X.K n F))(au:eZ lv X.A)(aJ:c2 X x)(aq:kz X (e::aD) w)(jH:j<=lv:=by decide)(gR:eC x:=by decide)(aF:dE X e aD:=by rfl)(eE:hl X pos aD:=by rfl):
  oQ X (.Call (.Name x p) (e::aD) [] pos) (Nb n F w):=by
 obtain⟨_,aa,ai⟩:=aq;refine⟨_,se c au aJ aa jH gR aF eE,λρ k h R W B H σ Q e q=>?_⟩;refine ai ρ _ h R W B H σ _ e λas vs a5 ar aE ah aK s1=>?_;rw[TK];refine su ah s1 aE.1 aE.2 λr v bu a0 hk am aP res=>?_;obtain⟨d,rfl,hk⟩:=hk;have res:bH X.K (d5 ar bu) v d:=res;exact q d v bu a0 hk am (aK.trans aP) (res.mono (wx λa z=>(ah.toWd.fresh z).1))
def Nc(u:a2):cx:=λU ρ=>u ρ λd=>U.rt (.new d)
theorem Cq(h:oQ X e u):e9 X (.Return (some e) pos) (Nc u):=by
 obtain⟨_,aa,ai⟩:=h;refine⟨_,jz aa,λU ρ h R W B H σ D e s=>?_⟩;exact ai ρ _ h R W B H σ _ e λd v a5 ar aE ah aK s1=>s.rt (.new d) v a5 ar aE ah.toWd aK s1
theorem Nd{dF:bL}{g:e7}{tt:dq}{b6:bA}{eK:e1}{cV:cK}{c1:Nat}{js:Z8}(bi:ww K dF w)(aJ:ou K g eK)(bw:gV K tt cV)(aa:oP K b6 u)(lC:js.Nodup):oP K (qh dF g tt b6 c1 js) (λρ k=>nw w eK cV u c1 js ρ λds=>k (.lst ds)):=by
 intro ρ k h R W B H σ Q e q;refine bi ρ _ h R W B H σ _ e λds J a5 ar aE ah aK it=>?_;obtain⟨ax,aE⟩:=aE;intro D f8;obtain⟨bv,bJ,bY⟩:=ah.toWd.fresh f8;have mo:∀i,¬cE σ ρ i D:=λi m=>ah.notNew f8 m rfl;have ei:=ah.within c1 lC
 have jV:∀j a,cE (SY c1 none++gq σ js) (SY c1 .no++js.map (gZ ρ)) j a->∃j,j∈js/\σ[j]?=some (some (V.ref a))/\ρ[j]?=some aN.bag:=λj a m=>by
  have aL:=(ei.mutOk m).2;rcases m with⟨m1,z|⟨aD,z⟩⟩|⟨c,z,m3⟩
  ·obtain⟨c,br,bF,_⟩:=ei.bagAt z;rw[m1]at br;cases br;rcases bF with bF|bF
   ·exact bF
   exact absurd bF aL
  ·obtain⟨c,br,bF,_⟩:=ei.ownC z;rw[m1]at br;cases br;exact absurd bF aL
  exact absurd ((ei.deepAt z).2.fr a m3).1 aL
 generalize mq:(λa=>∃j,j∈js/\σ[j]?=some (some (V.ref a))/\ρ[j]?=some aN.bag)=et at ei;have jV:∀j a,cE (SY c1 none++gq σ js) (SY c1 .no++js.map (gZ ρ)) j a->et a:=λj a m=>by rw[<-mq];exact jV j a m
 have gD:∀a,et a->∃i:Nat,σ[i]?=some (some (.ref a))/\ρ[i]?=some .bag:=λa z=>by
  rw[<-mq]at z;obtain⟨j,_,z⟩:=z;exact⟨j,z⟩
 have jW:¬et D:=λz=>by
  obtain⟨fm,cP,d1⟩:=gD D z;exact mo fm (.inl ⟨cP,.inl d1⟩)
 refine⟨λi m iv aj=>∃aC ys aD g0,m=ds.length-i/\i<=ds.length/\a3 K ar et aC aj iv g0/\bC ar a5 aC/\aj D=some (.lst ys)/\aC D=none/\(∀j a,cE iv g0 j a->et a)/\ys.length<=i/\Reps K (d5 ar aC) ys aD/\fv eK cV u (ds.drop i) g0 λr=>k (.lst (aD++r)),
  ⟨ds.length,a5,[],[],_,by simp,Tu _,ei.allocH f8 _,bC.refl _ _,eo,bY,jV,SG _,.nil,by simpa using aE⟩,?_⟩
 rintro i m iv a0 ⟨bu,ys,aD,g0,rfl,ao,am,aP,hy,ae,qp,BI,b',aU⟩;obtain⟨cS,cH,gX⟩:=it a0 (aP.s.trans am.bh) i;by_cases ce:i<ds.length
 ·refine .inr ⟨cS ce,λx aj y=>?_⟩;obtain⟨rfl,d,hd,a8⟩:=gX x aj ce y
  have ga:ds.drop i=d::ds.drop (i+1):=by
   rw[T' ce];rw[SS ce]at hd;rw[SM hd]
  rw[ga]at aU;refine aJ d g0 _ aU ar et bu aj iv x _ am (a8.mono aP.s) λg1 fq fV bz hT=>?_;have ge:∀j a,cE fq g1 j a->et a:=λj a m=>qp j a (hT j a m)
  have jX:∀{fw:al},bC aj bu fw->fw D=none:=λ{fw} db=>by
   cases qq:fw D with
   |none=>rfl
   |some o=>
    rcases db.n D o qq with z|z
    ·rw[ae]at z;cases z
    rw[hy]at z;cases z
  refine bw g1 _ fV aj et bu aj fq _ (bz.rebase ge) λb fw fD fH cF db=>?_;have qr:fD D=some (.lst ys):=cF.fr D _ hy jW;cases b with
  |false=>
   rw[TW SN]at fH⊢;obtain⟨ej,g2⟩:=bz.unbase ge cF db;exact⟨ds.length-(i+1),by lia,fw,ys,aD,g1,rfl,ce,ej,aP.trans g2,qr,jX db,ge,by lia,b'.mono (oq db.s),fH⟩
  |true=>
   rw[TT rfl]at fH⊢;refine aa g1 _ fH aj et fw fD fq _ cF λy' v qs er nu ej g2 ff=>?_;have iw:=db.trans g2;have qt:er D=some (.lst ys):=ej.fr D _ hy jW;obtain⟨jY,qu⟩:=bz.unbase ge ej iw;have ff:=ff.mono (wx (R:=ar) λa z=>(am.toWd.fresh z).1);refine⟨ys,qt,by lia,ds.length-(i+1),by lia,qs,ys++[v],aD++[y'],g1,rfl,ce,jY.scribble f8 (jX iw) (λj m=>jW (ge j D m)) _,aP.trans qu,eo,jX iw,ge,by rw[SU,U9];lia,(b'.mono (oq iw.s)).append (.cons ff .nil),?_⟩;simpa[Ub]using nu
 have eq:i=ds.length:=by lia
 subst eq;rw[UP]at aU;obtain⟨cF,db⟩:=ah.after gD am.toWd aP;obtain⟨ej,g2⟩:=cF.freeze hy bv ae mo;refine .inl ⟨cH (SG _),q _ (.ref D) _ a0 (by simpa[fv]using aU) ej ((aK.trans db).trans g2) (.lst (AM eo bv) ?_)⟩;exact(b'.mono (wx λa z=>(ah.toWd.fresh z).1)).mono (oq g2.s)
theorem Nf{cp:WP}{α:Type}{Xs:α->a1}(dZ:∀a,(Xs a).K=K)(h:∀a,oQ (Xs a) cp u):∃t,(∀a,bE (Xs a) cp t)/\oP K t u:=by
 refine⟨λσ H Q=>∀a,∃t,bE (Xs a) cp t/\oP K t u/\t σ H Q,λa af s σ H Q I q=>?_,λρ k q R W B H σ Q e z a=>?_⟩
 ·obtain⟨t,bw,_,aA⟩:=q a;exact bw af s σ H Q I aA
 obtain⟨t,bw,au⟩:=h a;rw[dZ a]at au;exact⟨t,bw,au,au ρ k q R W B H σ Q e z⟩
variable{cp iter bd:WP}{cA:agb}{scope:Y2}{cl:List (Str×TE)}{ts fr:af9}{js:Z8}{eK:e1}{cV:cK}
def Ng(w:cN):a2:=λρ k=>w ρ λds=>k (.lst ds)
end
section
variable{K:Sx}{X:a1}{e:WP}{aD:agb}{u:a2}{w:cN}{pos p:Pos}{I:Z8}{i:Nat}{rest:agc}{jl:fu->Z3->D->Z3->Prop}
theorem bH.lst_of{B:al}{v:V}{ds:Z7}(r:bH K B v (.lst ds)):∃a vs,v=.ref a/\B a=some (.lst vs)/\Reps K B vs ds:=by
 cases r with|lst h r=>exact⟨_,_,rfl,h,r⟩
theorem bH.tup_of{B:al}{v:V}{ds:Z7}(r:bH K B v (.tup ds)):∃a vs,v=.ref a/\B a=some (.tup vs)/\Reps K B vs ds:=by
 cases r with|tup h r=>exact⟨_,_,rfl,h,r⟩
theorem Cr{α:Type}{x:α}{r:List α}:ea (x::r) 0=some x:=by simp[ea,ixN]
def Nh(K:Sx)(I:Z8)(i:Nat)(t:fp)(jl:fu->Z3->D->Z3->Prop):Prop:=
 ∀(U:fu)(ρ:Z3)(d:D)(j9:Z3),jl U ρ d j9->∀(R:al)(W:TE->Prop)(B H:al)(σ:St)(E:k1),a3 K R W B H σ ρ->pV K R W B U E->
  ∀(i3 mw:al)(hZ:St)(v:V),a3 K H (gv W σ ρ) i3 mw hZ j9->hZ[i]?=some (some v)->bH K (d5 H i3) v d->(∀j,j∉I->hZ[j]?=σ[j]?)->hZ.length=σ.length->t E hZ mw
def s0(X:a1)(I:Z8)(i:Nat)(st:agc)(jl:fu->Z3->D->Z3->Prop):Prop:=∃t,hp X st t/\Nh X.K I i t jl
def Ni(dw:cK)(jl:fu->Z3->D->Z3->Prop):fu->Z3->D->Z3->Prop:=λU ρ d j9=>dw j9 λb=>b=false/\jl U ρ d j9
theorem Nj{c:WP}{a:agc}{dw:cK}{s:cx}(hc:fi X c dw)(aq:fW X a s)(au:s0 X I i rest jl):s0 X I i (.If c a [] pos::rest) (Ni dw jl):=by
 obtain⟨_,bi,ek⟩:=hc;obtain⟨_,aa,_⟩:=aq;obtain⟨_,ab,aw⟩:=au;refine⟨_,iM (mT bi aa mS) ab,λU ρ d j9 h R W B H σ E e sm i3 mw hZ v dj hv au aQ ax=>?_⟩;refine ek j9 _ h _ _ i3 mw hZ _ dj λb a5 ar aE ah aK=>?_;obtain⟨rfl,z⟩:=aE;rw[TW SN];exact aw U ρ d j9 z R W B H σ E e sm a5 ar hZ v ah hv (au.mono (oq aK.s)) aQ ax
def Nk(i:Nat)(u:a2)(jl:fu->Z3->D->Z3->Prop):cx:=λU ρ=>i<ρ.length/\u (ρ.map kF) λd=>jl U ρ d ((ρ.map kF).set i (.val d))
theorem Nl{x:Str}{fR:Pos}(w7:i∈I)(bU:X.N.Nodup)(ao:X.N[i]?=some x)(hx:Loc X.env.scope x)(aF:oQ X e u)(au:s0 X I i rest jl)(av:Yu e (some (.Name x fR)) pos.line X.env=pure false:=by rfl)(hf:i' X x:=by walk_at"f"):
  fW X (.Assign [.Name x fR] e pos::rest) (Nk i u jl):=by
 obtain⟨_,aa,ai⟩:=aF;obtain⟨_,ab,aw⟩:=au;refine⟨_,iM (pD bU ao hx aa av hf) ab,λU ρ h R W B H σ E e sm=>?_⟩;obtain⟨ax,h⟩:=h;refine ai (ρ.map kF) _ h H (gv W σ ρ) _ H σ _ e.frame λd v a5 ar aE ah aK s1=>?_;refine aw U ρ d _ aE R W B H σ E e sm a5 ar (σ.set i (some v)) v (ah.setV i (s1.mono ky)) ?_ s1 (λj aQ=>?_) (by rw[T6])
 ·rw[Uu (by rw[e.len];exact ax)]
 exact TY (λ(z:i=j)=>aQ (by rw[<-z];exact w7))
theorem Nm{B:al}{b:TE}{d:D}{l:Z4}(r:bH K B (.ref b) d)(f:flat d=true)(h:B b=some (.lst l)):False:=by
 cases r with
 |tup ab _=>rw[h]at ab;cases ab
 |lst _ _=>simp[flat]at f
 |scr _=>simp[flat]at f
 |ktup _ _=>simp[flat]at f
 |kfn _=>simp[flat]at f
 |dct _ _ _ _=>simp[flat]at f
theorem Cs:∀{ds:Z7}{n:Nat}{d:D},flats ds=true->ds[n]?=some d->flat d=true
 |[],n,d,_,h=>by simp at h
 |x::r,0,d,f,h=>by rw[flats,Te]at f;simp at h;subst h;exact f.1
 |x::r,n+1,d,f,h=>by rw[flats,Te]at f;exact Cs (n:=n) f.2 (by simpa using h)
structure lH(K:Sx)(W:TE->Prop)(σ:St)(ρ:Z3)(H N aj:al):Prop where
 fr:∀a o,H a=some o->¬gv W σ ρ a->aj a=some o
 wh:∀a,gv W σ ρ a->fU aj a
 tp:∀a vs,N a=some (.tup vs)->aj a=some (.tup vs)
 ls:∀a vs,N a=some (.lst vs)->∃ws,aj a=some (.lst ws)
theorem lH.start{R:al}{W:TE->Prop}{B H i3 mw:al}{σ hZ:St}{ρ j9:Z3}(e:a3 K R W B H σ ρ)(dj:a3 K H (gv W σ ρ) i3 mw hZ j9):lH K W σ ρ H (d5 H i3) mw/\∀a,gv W σ ρ a->H a≠none:=
 ⟨⟨dj.fr,dj.wh,λa vs h=>dj.bh a _ (ky a _ h),λa vs h=>⟨vs,dj.bh a _ (ky a _ h)⟩⟩,dj.wr⟩
end
end L3
namespace L3
open PySem PySem.W L2
def hE(h:Yn):Frag:=(SA h.objs.size).filterMap λa=>(h.get? a).map λo=>(a,o)
theorem Ct(g:Nat->Option Obj)(a:Nat):∀l:Z8,(l.filterMap λb=>(g b).map λo=>(b,o)).lookup a=if a∈l then g a else none
 |[]=>rfl
 |b::l=>by
  have b2:=Ct g a l;cases q:g b with
  |none=>
   rw[List.filterMap_cons_none (by rw[q];rfl),b2];by_cases e:a=b
   ·subst e;rw[q];simp
   simp[e]
  |some o=>
   rw[Ww (b:=(b,o)) (by rw[q];rfl),List.lookup_cons];by_cases e:a=b
   ·subst e;simp[q]
   have:(a==b)=false:=by simpa using e
   simp only[this,b2,SH,e,false_or]
theorem oR(h:Yn)(a:TE):(hE h).lookup a=h.get? a:=by
 refine(Ct h.get? a _).trans ?_;by_cases e:a<h.objs.size
 ·rw[TT (S7.mpr e)]
 rw[TW (λz=>e (S7.mp z))];exact(Heap.get?_none_of_le (We e)).symm
theorem Nn(h:Yn):Frag.In (hE h) h:=λa o e=>by rwa[oR]at e
theorem qG(h:Yn)(name:Str):nsIn (hE h) W1 name=mP h name:=by unfold nsIn mP;rw[oR];rfl
theorem No(h:Yn)(e3:SL)(q:Str):codeIn (hE h) e3 q=ux h e3 q:=by
 unfold codeIn ux;cases e3<;>first|rfl|(simp only[oR];rfl)
def s2(K:Frag)(x:Str)(st:Ym):Prop:=∃f fd,nsIn K W1 x=some (some (.ref f))/\kw K x x st f fd
theorem w8(x:Str)(st:Ym):rH x st=some (x,x,m4 st,.stmts (jF st),bR st,W1,[],.none,Zd,true):=by cases st<;>rfl
theorem Np{h:Yn}{x:Str}{st:Ym}(e:rG h x=rH x st):s2 (hE h) x st:=by
 unfold rG at e;split at e
 ·rename_i f hf
  split at e
  ·rename_i oc od fd osl aM
   obtain⟨hj,zS,ps,s3,eM,g7,cl,afD,Nq,doc,pm,an,cdv,ct,qH⟩:=fd;rw[w8]at e;simp only[Vc,UT]at e;obtain⟨rfl,rfl,rfl,rfl,rfl,rfl,rfl,rfl,rfl,e⟩:=e;refine⟨f,_,by rw[qG];exact hf,JJ (oc:=oc) (od:=od) (osl:=osl) (kV:=Nq) (doc:=doc) (pm:=pm) (an:=an) (cdv:=cdv) (ct:=ct) (by rw[oR];exact aM) (by rw[No];exact e) ?_⟩;unfold keepIn;simp only[oR,aM]
  rw[w8]at e;cases e
 rw[w8]at e;cases e
def w9(K:Frag):List (Str×Ym)->Prop
 |[]=>True
 |p::l=>s2 K p.1 p.2/\w9 K l
def AllB(K:Frag):af9->Prop
 |[]=>True
 |b::l=>nsIn K W1 b=some none/\AllB K l
def Cu(K:Frag)(x:Str)(i j:Int):Prop:=∃p od sl n jA s4,nsIn K W1 x=some (some (.ref p))/\K.lookup p=some ⟨.type "tuple",od,.seq #[.int i jA,.int j s4] n,sl⟩
def w'(K:Frag):List (Str×Int×Int)->Prop
 |[]=>True
 |p::l=>Cu K p.1 p.2.1 p.2.2/\w' K l
def oS(K:Frag)(x:Str)(c:Int ⊕ Str):Prop:=match c with
 |.inl i=>∃t,nsIn K W1 x=some (some (.int i t))
 |.inr s=>∃t,nsIn K W1 x=some (some (.str s t))
def xa(K:Frag):List (Str×(Int ⊕ Str))->Prop
 |[]=>True
 |p::l=>oS K p.1 p.2/\xa K l
structure Tab(t:lX)(K:Frag):Prop where
 tf:w9 K t.fs
 tb:AllB K t.bs
 tt:w' K t.ts
 tc:xa K t.cs
def saysH(t:lX)(_:Yd)(h:Yn):Prop:=∃aa:Yn,(∀b o,aa.get? b=some o->h.get? b=some o)/\Tab t (hE aa)
theorem Nr{h:Yn}{a:TE}{o:Obj}(m:(a,o)∈hE h):h.get? a=some o:=by
 obtain⟨i,_,q⟩:=T4.mp m;obtain⟨d3,fe,kr⟩:=XE.mp q;cases kr;exact fe
theorem Nt{h aa:Yn}{mg:Str->Option SL}(k:∀b o,aa.get? b=some o->h.get? b=some o)(G:h.Ns W1 mg):L2.tabsK (hE aa)=[]:=by
 refine List.filterMap_eq_nil_iff.mpr λp ak=>?_;obtain⟨b,c,d,afE,sl⟩:=p;have e:=k _ _ (Nr ak);split
 ·rename_i q
  split
  ·split
   ·rename_i z
    cases q;obtain⟨o,aD,bW,ah,am,_⟩:=G;rw[z]at e;rw[ah]at e;cases e;cases am
   rfl
  rfl
 rfl
theorem Cv{h:Yn}:∀{l:List (Str×Ym)},(l.map λp=>rG h p.1)=(l.map λp=>rH p.1 p.2)->w9 (hE h) l
 |[],_=>trivial
 |p::l,e=>by
  simp only[SK,VF]at e;exact⟨Np e.1,Cv e.2⟩
theorem allB_of{h:Yn}:∀{l:af9},(l.map λb=>mP h b)=(l.map λ_=>some none)->AllB (hE h) l
 |[],_=>trivial
 |p::l,e=>by
  simp only[SK,VF]at e;exact⟨by rw[qG];exact e.1,allB_of e.2⟩
theorem Nu{h:Yn}{x:Str}{i j:Int}(e:rI h x=some (x,i,j)):Cu (hE h) x i j:=by
 unfold rI at e;split at e
 ·rename_i p ak
  split at e
  ·rename_i od its n sl aM
   split at e
   ·rename_i fm jA oH s4 ao
    simp only[Vc,UT]at e;obtain⟨_,rfl,rfl⟩:=e;have ft:its = #[.int fm jA,.int oH s4]:=Wx.mp ao;subst ft;exact⟨p,od,sl,n,jA,s4,by rw[qG];exact ak,by rw[oR];exact aM⟩
   cases e
  cases e
 cases e
theorem Cw{h:Yn}:∀{l:List (Str×Int×Int)},(l.map λp=>rI h p.1)=(l.map λp=>some p)->w' (hE h) l
 |[],_=>trivial
 |p::l,e=>by
  simp only[SK,VF]at e;exact⟨Nu e.1,Cw e.2⟩
theorem Nv{h:Yn}{x:Str}{c:Int ⊕ Str}(e:rJ h x=some (x,c)):oS (hE h) x c:=by
 unfold rJ at e;split at e
 ·rename_i i t ak
  simp only[Vc,UT]at e;obtain⟨_,rfl⟩:=e;exact⟨t,by rw[qG];exact ak⟩
 ·rename_i i t ak
  simp only[Vc,UT]at e;obtain⟨_,rfl⟩:=e;exact⟨t,by rw[qG];exact ak⟩
 cases e
theorem Cx{h:Yn}:∀{l:List (Str×(Int ⊕ Str))},(l.map λp=>rJ h p.1)=(l.map λp=>some p)->xa (hE h) l
 |[],_=>trivial
 |p::l,e=>by
  simp only[SK,VF]at e;exact⟨Nv e.1,Cx e.2⟩
theorem ofH(t:lX)(w:Yd)(s:SZ)(e:pv t s=pw t w):saysH t w s.heap:=by
 simp only[pv,pw,UT]at e;exact⟨s.heap,λ_ _ e=>e,Cv e.1,allB_of e.2.1,Cw e.2.2.1,Cx e.2.2.2⟩
theorem keepsH(t:lX)(w:Yd)(h h':Yn)(y:saysH t w h)(k:∀b o,h.get? b=some o->h'.get? b=some o):saysH t w h':=by
 obtain⟨aa,x,r⟩:=y;exact⟨aa,λb o e=>k _ _ (x _ _ e),r⟩
theorem s2.fnd{K:Frag}{h:Yn}{mg:Str->Option SL}{x:Str}{st:Ym}{ps:af9}(X:K.In h)(G:h.Ns W1 mg)(F:s2 K x st)(b:∀f fd,kw K x x st f fd->Binds K fd ps []):cd K mg x st ps:=by
 obtain⟨f,fd,m,F⟩:=F;exact⟨f,fd,mg_of X G m,F,b f fd F⟩
abbrev s5(x:Str)(st:Ym)(aO:af')(r:List (Str×SL)):Prop:=∀(kV doc pm:SL)(an:Option TE)(cdv ct:SL),Z1 (fnOf x x (m4 st) (jF st) (bR st) .none kV doc pm an cdv ct) ⟨aO,[]⟩=pure r
abbrev s7(x:Str)(st:Ym)(ps:af9):Prop:=∀(kV doc pm:SL)(an:Option TE)(cdv ct:SL)(aO:af'),aO.length=ps.length->Z1 (fnOf x x (m4 st) (jF st) (bR st) .none kV doc pm an cdv ct) ⟨aO,[]⟩=pure (ps.zip aO)
section
variable{x:Str}{st:Ym}
theorem fa{p:Str}(gK:∀a,s5 x st [a] [(p,a)]):s7 x st [p]:=λ_ _ _ _ _ _ aO ax=>match aO,ax with|[a],_=>gK a _ _ _ _ _ _
theorem fM{p q:Str}(gK:∀a b,s5 x st [a,b] [(p,a),(q,b)]):s7 x st [p,q]:=λ_ _ _ _ _ _ aO ax=>match aO,ax with|[a,b],_=>gK a b _ _ _ _ _ _
theorem kI{p q r:Str}(gK:∀a b c,s5 x st [a,b,c] [(p,a),(q,b),(r,c)]):s7 x st [p,q,r]:=λ_ _ _ _ _ _ aO ax=>match aO,ax with|[a,b,c],_=>gK a b c _ _ _ _ _ _
theorem Cy{p q r s:Str}(gK:∀a b c d,s5 x st [a,b,c,d] [(p,a),(q,b),(r,c),(s,d)]):s7 x st [p,q,r,s]:=λ_ _ _ _ _ _ aO ax=>match aO,ax with|[a,b,c,d],_=>gK a b c d _ _ _ _ _ _
end
theorem oS.int{K:Frag}{h:Yn}{mg:Str->Option SL}{x:Str}{i:Int}(X:K.In h)(G:h.Ns W1 mg)(F:oS K x (.inl i)):∃t,mg x=some (.int i t):=by
 obtain⟨t,m⟩:=F;exact⟨t,mg_of X G m⟩
theorem oS.str{K:Frag}{h:Yn}{mg:Str->Option SL}{x s:Str}(X:K.In h)(G:h.Ns W1 mg)(F:oS K x (.inr s)):∃t,mg x=some (.str s t):=by
 obtain⟨t,m⟩:=F;exact⟨t,mg_of X G m⟩
theorem walkH{l:OpenLaw}{k:Nat}{q:UF}{loose:af9}{XP:(Str->Option SL)->Yn->Prop}{t:lX}{d:DefRec}(aG:l.most=some 63)(we:d.params.defaults=[])(au:eZ k ZN)(F:∀(w:Yd)(K:Frag)(mg:Str->Option SL)(gC:TE)(h:Yn),Tab t K->K.In h->h.Ns W1 mg->mg d.name=some (.ref gC)->∃fd:YK,(∀(s:SZ)(u:SL),Z0 s fd ⟨[u],[]⟩ [("_law_script",u)])/\∀base:Yn,K.In base->base.Ns W1 mg->ij l.prog w K mg base jG k gC fd ["_law_script"] (sK K)):
  WalkO q loose XP (saysH t) l.row.toRowW d [] (λf vs=>PySem.call f vs):=by
 refine Att.attach_call aG we λw s₀ cw mg fQ gC o pm e3 doc a vs ns G Y aM hd ee pN wf hints fE aJ=>?_;obtain⟨aa,Cz,T⟩:=Y;have l':(hE aa).In cw.heap:=(Nn aa).keeps Cz;have fC:=Nt Cz G.T.g;obtain⟨fd,ae,nb⟩:=F w (hE aa) mg gC _ T l' G.T.g pN;exact JB l' G.T.g G.T.b G.T.builtins G.T.nolimit aJ wf hints (ki fE) au nb ae (λ_=>none) (λb u z=>by cases z) (λp ak=>by rw[fC]at ak;cases ak) (λH Aj dH=>⟨a,ns,rfl,dH,fE,λ_=>rfl⟩) λH e s' z=>z
end L3
namespace Cut
open PySem L2 L3
open PySem.Builtin.Int (intBits)
def sld(g p:aT):aT:=(p.1*g.2.2+g.1*p.2.2,p.2.1*g.2.2+g.2.1*p.2.2,p.2.2*g.2.2)
def fo(p:aT):aT:=(-p.1,-p.2.1,p.2.2)
def xb(p q r:aT):Int:=(crs p q).1*r.1+(crs p q).2.1*r.2.1+(crs p q).2.2*r.2.2
def bV(x:Int):Int:=if 0<x then 1 else if x<0 then -1 else 0
theorem h0{a b:Int}(h:∀k:Int,k∣a->k∣b->k∣1):Sy a b=1:=by
 have q:=Vv.mpr (h _ (Vu a b) (U' a b));simpa using q
theorem iz{a b k:Int}(g:Sy a b=1)(aa:k∣a)(ab:k∣b):k∣1:=by
 have:=Wy aa ab;rwa[g]at this
theorem mx{k n m:Int}(h:k∣n*m)(g:Sy k m=1):k∣n:=lf (by rw[Td];exact h) g
theorem qI{a b k:Int}(g:Sy a b=1)(h:k∣a):Sy k b=1:=h0 λj aa ab=>iz g (To aa h) ab
theorem qJ{x y t b:Int}(l:eF x y)(ae:b≠0)(e:x*b=t*y):bM t b=(x,y):=by
 rw[<-Mg l];exact Mf ae (Sz l.1) e.symm
theorem xc{x y z a b n:Int}(p:kx x y z)(aG:n≠0)(ah:x*n=a*z)(am:y*n=b*z):dd a b n=(x,y,z):=by
 obtain⟨q,bv,bJ,_⟩:=gL (a:=a) (b:=b) aG;obtain⟨aa,ab,a'⟩:=JS q p (TB aG (by grind)) (TB aG (by grind));exact Tf aa (Tf ab a')
theorem my{a b:Int}(h:a≠0\/b≠0):∃x y:Int,a=((Sy a b:Nat):Int)*x/\b=((Sy a b:Nat):Int)*y/\Sy x y=1:=by
 obtain⟨x,hx⟩:=Vu a b;obtain⟨y,hy⟩:=U' a b;refine⟨x,y,hx,hy,?_⟩
 have pos:0<Sy a b:=by
  rcases h with h|h
  ·exact XF b h
  exact Vt a h
 have q:Sy a b=(((Sy a b:Nat):Int)).natAbs*Sy x y:=Md hx hy;rw[Int.natAbs_natCast]at q;exact Wj pos (by lia)
theorem CA{a b:Int}(h:a≠0\/b≠0):((Sy a b:Nat):Int)≠0:=by
 have pos:0<Sy a b:=by
  rcases h with h|h
  ·exact XF b h
  exact Vt a h
 lia
theorem kJ{a b:Int}(h:a≠0\/b≠0):0<((Sy a b:Nat):Int):=by
 have:=CA h;lia
theorem lI{s y:Int}(e0:0<s)(h:0<s*y):0<y:=Va h e0
theorem CB{x y u k Y V:Int}(g:Sy x y=1)(hy:Y∣y)(Nw:Sy Y V=1)(aa:k∣x*V+u*Y)(ab:k∣Y):k∣1:=by
 have a':k∣x*V:=by
  have:=Wz aa (TR ab (b:=u));simpa using this
 exact iz g (mx a' (qI Nw ab)) (To ab hy)
theorem Nx{x y u v:Int}(l1:eF x y)(l2:eF u v){s top d:Int}(av:s=(Sy y v:Nat))(bw:top=x*v.fdiv s+u*y.fdiv s)(hd:d=(Sy s top:Nat)):
  (top.fdiv d,y.fdiv s*v.fdiv d)=bM (x*v+u*y) (y*v):=by
 obtain⟨c0,aK⟩:=l1;obtain⟨dc,aP⟩:=l2;obtain⟨Y,V,kK,kL,qK⟩:=my (a:=y) (b:=v) (.inl (Sz c0));have e0:0<s:=by rw[av];exact kJ (.inl (Sz c0))
 rw[<-av]at kK kL;have s1:=Sz e0;rw[g5 kL s1,g5 kK s1]at bw;obtain⟨S,T,dH,cM,Ny⟩:=my (a:=s) (b:=top) (.inl s1);have g8:0<d:=by rw[hd];exact kJ (.inl s1)
 rw[<-hd]at dH cM;have cQ:=Sz g8;have Nz:v=d*(S*V):=by rw[kL,dH,TL]
 rw[g5 cM cQ,g5 kK s1,g5 Nz cQ];have qL:0<Y:=lI e0 (by lia);have xf:0<V:=lI e0 (by lia);have xg:0<S:=lI g8 (by lia);refine(qJ ⟨SO qL (SO xg xf),?_⟩ (Sz (SO c0 dc)) ?_).symm
 ·refine h0 λk aa ab=>?_;have gz:k∣top:=by rw[cM];exact TR aa
  have br:Sy k Y=1:=h0 λj j1 j2=>CB aK ⟨s,by rw[kK,Td]⟩ qK (by rw[<-bw];exact To j1 gz) j2;have bF:Sy k V=1:=h0 λj j1 j2=>CB (x:=u) (u:=x) (Y:=V) (V:=Y) aP ⟨s,by rw[kL,Td]⟩ (by rw[Um];exact qK) (by rw[WA,<-bw];exact To j1 gz) j2;exact iz Ny (mx (lf ab br) bF) aa
 grind
theorem NA{x y u v:Int}(l1:eF x y)(l2:eF u v):
  (x.fdiv ((Sy x v:Nat):Int)*u.fdiv ((Sy u y:Nat):Int),y.fdiv ((Sy u y:Nat):Int)*v.fdiv ((Sy x v:Nat):Int))=bM (x*u) (y*v):=by
 obtain⟨c0,aK⟩:=l1;obtain⟨dc,aP⟩:=l2;obtain⟨X,V,oT,kL,NB⟩:=my (a:=x) (b:=v) (.inr (Sz dc));obtain⟨U,Y,CC,kK,NC⟩:=my (a:=u) (b:=y) (.inr (Sz c0));have eX:=kJ (a:=x) (b:=v) (.inr (Sz dc));have bi:=kJ (a:=u) (b:=y) (.inr (Sz c0));generalize((Sy x v:Nat):Int)=f at *;generalize((Sy u y:Nat):Int)=h at *;rw[g5 oT (Sz eX),g5 kL (Sz eX),g5 CC (Sz bi),g5 kK (Sz bi)];have qL:0<Y:=lI bi (by lia);have xf:0<V:=lI eX (by lia);refine(qJ ⟨SO qL xf,?_⟩ (Sz (SO c0 dc)) ?_).symm
 ·refine h0 λk cy k2=>?_;have ND:Sy X Y=1:=h0 λj j1 j2=>iz aK (by rw[oT];exact TR j1) (by rw[kK];exact TR j2);have NE:Sy U V=1:=h0 λj j1 j2=>iz aP (by rw[CC];exact TR j1) (by rw[kL];exact TR j2)
  have br:Sy k Y=1:=h0 λj j1 j2=>by
   have a':j∣X*U:=To j1 cy;have bG:j∣U:=lf a' (h0 λi bD bN=>iz ND bN (To bD j2));exact iz NC bG j2
  have eb:k∣V:=lf k2 br;have ir:k∣U:=lf cy (h0 λi bD bN=>iz NB bN (To bD eb));exact iz NE ir eb
 grind
theorem CD{x y z:Int}(h:∀k:Int,k∣x->k∣y->k∣z->k∣1):Sy (Sy x y:Nat) z=1:=
 h0 λk aa ab=>h k (To aa (Vu x y)) (To aa (U' x y)) ab
theorem NF{x y z k:Int}(g:Sy (Sy x y:Nat) z=1)(aa:k∣x)(ab:k∣y)(a':k∣z):k∣1:=iz g (Wy aa ab) a'
theorem NG{x y u v:Int}(l1:eF x y)(l2:eF u v):
  (x*v.fdiv ((Sy y v:Nat):Int),u*y.fdiv ((Sy y v:Nat):Int),y.fdiv ((Sy y v:Nat):Int)*v)=dd (x*v) (u*y) (y*v):=by
 obtain⟨c0,aK⟩:=l1;obtain⟨dc,aP⟩:=l2;obtain⟨Y,V,kK,kL,qK⟩:=my (a:=y) (b:=v) (.inl (Sz c0));have e0:=kJ (a:=y) (b:=v) (.inl (Sz c0));generalize((Sy y v:Nat):Int)=s at *;rw[g5 kL (Sz e0),g5 kK (Sz e0)];have qL:0<Y:=lI e0 (by lia);refine(xc ⟨SO qL dc,?_⟩ (Sz (SO c0 dc)) ?_ ?_).symm
 ·refine CD λk aa ab a'=>?_;have br:Sy k Y=1:=h0 λj j1 j2=>iz aK (mx (To j1 aa) (qI qK j2)) (by rw[kK];exact TR j2);have bF:Sy k V=1:=h0 λj j1 j2=>iz aP (mx (To j1 ab) (qI (by rw[Um];exact qK) j2)) (by rw[kL];exact TR j2);have bG:k∣u:=mx ab br;have eb:k∣v:=lf a' br;exact iz aP bG eb
 ·grind
 grind
theorem CE{a b n r w k N M:Int}(g:Sy (Sy a b:Nat) n=1)(aG:N∣n)(CF:Sy N M=1)(aa:k∣a*M+r*N)(ab:k∣b*M+w*N)(a':k∣N):k∣1:=by
 have aB:k∣a*M:=by
  have:=Wz aa (TR a' (b:=r));simpa using this
 have aL:k∣b*M:=by
  have:=Wz ab (TR a' (b:=w));simpa using this
 exact NF g (mx aB (qI CF a')) (mx aL (qI CF a')) (To a' aG)
theorem NH{a b n r w m:Int}(bc:kx a b n)(aW:kx r w m){s X Y d:Int}(av:s=(Sy n m:Nat))(oT:X=a*m.fdiv s+r*n.fdiv s)(xh:Y=b*m.fdiv s+w*n.fdiv s)(hd:d=(Sy ((Sy s X:Nat):Int) Y:Nat)):
  (X.fdiv d,Y.fdiv d,n.fdiv s*m.fdiv d)=dd (a*m+r*n) (b*m+w*n) (n*m):=by
 obtain⟨bK,aK⟩:=bc;obtain⟨dY,aP⟩:=aW;obtain⟨N,M,bU,on,CG⟩:=my (a:=n) (b:=m) (.inl (Sz bK));have e0:0<s:=by rw[av];exact kJ (.inl (Sz bK))
 rw[<-av]at bU on;have s1:=Sz e0;rw[g5 bU s1,g5 on s1]at oT xh;obtain⟨s8,NI,NJ,NK,NL⟩:=my (a:=s) (b:=X) (.inl s1);have ah:=CA (a:=s) (b:=X) (.inl s1);obtain⟨E,afF,oM,xi,NM⟩:=my (a:=((Sy s X:Nat):Int)) (b:=Y) (.inl ah);have g8:0<d:=by rw[hd];exact kJ (.inl ah)
 rw[<-hd]at oM xi;have cQ:=Sz g8
 have dH:s=d*(E*s8):=by
  rw[NJ]
  conv=>lhs;rw[oM]
  rw[TL]
 have CH:X=d*(E*NI):=by
  rw[NK]
  conv=>lhs;rw[oM]
  rw[TL]
 have kM:m=d*(E*s8*M):=by rw[on,dH,TL]
 rw[g5 CH cQ,g5 xi cQ,g5 bU s1,g5 kM cQ];have NN:0<N:=lI e0 (by lia);have NO:0<M:=lI e0 (by lia);have xg:0<E*s8:=lI g8 (by lia);refine(xc ⟨SO NN (SO xg NO),?_⟩ (Sz (SO bK dY)) ?_ ?_).symm
 ·refine CD λk aa ab a'=>?_;have CI:k∣X:=by rw[CH];exact TR aa
  have CJ:k∣Y:=by rw[xi];exact TR ab
  have br:Sy k N=1:=h0 λj j1 j2=>CE aK ⟨s,by rw[bU,Td]⟩ CG (by rw[<-oT];exact To j1 CI) (by rw[<-xh];exact To j1 CJ) j2;have bF:Sy k M=1:=h0 λj j1 j2=>CE (a:=r) (b:=w) (n:=m) (r:=a) (w:=b) (N:=M) (M:=N) aP ⟨s,by rw[on,Td]⟩ (by rw[Um];exact CG) (by rw[WA,<-oT];exact To j1 CI) (by rw[WA,<-xh];exact To j1 CJ) j2;have bG:k∣E*s8:=mx (lf a' br) bF
  have eb:k∣E:=by
   have z:=Wy bG aa;rw[Wi,NL,Nat.mul_one]at z;exact To z (Int.natAbs_dvd.mpr (Int.dvd_refl E))
  exact iz NM eb ab
 ·grind
 grind
theorem dz.sld{m n:Nat}{g p:aT}(aJ:dz m g)(ak:dz n p):dz (n+m+1) (Cut.sld g p):=by
 refine⟨?_,?_,?_⟩
 ·exact SE (YB (UV ak.a aJ.c) (UV aJ.a ak.c)) (by lia)
 ·exact SE (YB (UV ak.b aJ.c) (UV aJ.b ak.c)) (by lia)
 exact SE (UV ak.c aJ.c) (by lia)
theorem CK{g p:aT}(aJ:iy g)(ak:iy p):(sld g p).2.2≠0:=wo ak.1 aJ.1
theorem iy.sld{g p:aT}(aJ:iy g)(ak:iy p):iy (nP (Cut.sld g p)):=BQ (CK aJ ak)
theorem dz.sldN{m n:Nat}{g p:aT}(aJ:dz m g)(ak:dz n p)(NP:iy g)(NQ:iy p):dz (n+m+1) (Cut.nP (Cut.sld g p)):=(aJ.sld ak).nP (CK NP NQ)
def hF(ps:Z9)(n:Nat):aT:=(ps[n]?).getD (0,0,1)
theorem CL{ps:Z9}{n:Nat}(h:n<ps.length):hF ps n=ps[n]:=by unfold hF;rw[SS h];rfl
theorem CM{ps:Z9}{n:Nat}(h:n<ps.length):ea (ps.map bo) (n:Int)=some (bo (hF ps n)):=by rw[CL h];exact nD (L7 h)
structure nG(m:Nat)(p:aT):Prop where
 pt:iy p
 bp:dz m p
theorem nG.sl{m n:Nat}{g p:aT}(aJ:nG m g)(h:nG n p):nG (n+m+1) (nP (sld g p)):=⟨aJ.pt.sld h.pt,aJ.bp.sldN h.bp aJ.pt h.pt⟩
theorem CN(x:Int):bV x=1\/bV x = -1\/bV x=0:=by
 unfold bV;split
 ·exact .inl rfl
 split
 ·exact .inr (.inl rfl)
 exact .inr (.inr rfl)
theorem CO(f:aT->aT):∀ps:Z9,flats (ps.map λp=>bo (f p))=true
 |[]=>rfl
 |p::r=>by
  rw[SK,flats,CO f r];rfl
theorem CP{x:Int}(h:0<x):bV x=1:=by unfold bV;rw[TT h]
theorem NR{ps:Z9}{k:Nat}(h:k<ps.length):ea (ps.map bo) ((k:Int)-1)=some (bo (hF ps ((k+ps.length-1)%ps.length))):=by
 cases k with
 |zero=>
  have e:((0:Nat)+ps.length-1)%ps.length=ps.length-1:=by rw[Tv];exact VG (by lia)
  rw[e,CL (by lia)];unfold ea ixN;rw[TW (by lia),TT (by rw[Sw];lia)];show(ps.map bo)[_]?=_
  rw[S1,Sw,show(((0:Nat):Int)-1+(ps.length:Int)).toNat=ps.length-1 by lia,SS (by lia)];rfl
 |succ k=>
  have e:(k+1+ps.length-1)%ps.length=k:=by
   rw[show k+1+ps.length-1=k+ps.length by lia,XG];exact VG (by lia)
  rw[e,show(((k+1:Nat):Int)-1)=(k:Int) by lia];exact CM (by lia)
end Cut
namespace L2
open PySem PySem.Spec PyProof.Rows PySem.W
section
variable{X:a1}
theorem NS:iP X (.type "int") (λxs H Q=>∃x n,xs=[.str x]/\VH x=some n/\x.length<=640/\Q (.int n) H):=by
 intro af s σ H xs aO Q I r h;obtain⟨x,n,rfl,aG,ax,q⟩:=h;obtain⟨u,rfl,t,rfl⟩:=vals1 r;exact KIN.call_text aG ax ⟨.int n,H,I.tok _,⟨_,rfl⟩,q⟩
theorem NT:m0 X "str.startswith" (λx vs H Q=>∃a b,x=.str a/\vs=[.str b]/\Q (.bl (Txt.startswith a b)) H):=by
 intro af s σ H x vs v aO Q I a8 bX h;obtain⟨a,b,rfl,rfl,q⟩:=h;obtain⟨t,rfl⟩:=a8;obtain⟨u,rfl,t',rfl⟩:=vals1 bX;exact PySem.SC.startswith ⟨.bl _,H,I,rfl,q⟩
theorem NU:m0 X "str.partition" (λx vs H Q=>∃a b,x=.str a/\vs=[.str b]/\(b.length==0)=false/\a.length<=TI/\∀p,H p=none->Q (.ref p) (upd H p (.tup [.str (Txt.partition a b).1,.str (Txt.partition a b).2.1,.str (Txt.partition a b).2.2]))):=by
 intro af s σ H x vs v aO Q I a8 bX h;obtain⟨a,b,rfl,rfl,ae,aq,q⟩:=h;obtain⟨t,rfl⟩:=a8;obtain⟨u,rfl,t',rfl⟩:=vals1 bX;refine Y1 F.slot_str_partition (Y0 _ _ _) F.entry_str_partition (F.args_str_partition_2 _ _) (meets_str_partition a b t t' ae aq) ?_;have q:=q _ I.fresh;unfold Txt.partition at q;revert q;cases PySem.Builtin.Str.occurrences a b 0 a.length 1 with
 |nil=>
  intro q;exact⟨.ref _,_,I.laid (t':=s.toks+1) (o:=.tup [.str a,.str Str.empty,.str Str.empty]) (λ_ _ e=>Heap.get?_push_of_some _ e) (SG _) ⟨by show 3<=TI;decide,_,.cons ⟨_,rfl⟩ (.cons ⟨_,rfl⟩ (.cons ⟨_,rfl⟩ .nil)),⟨_,Heap.get?_push_size _ rfl,rfl,_,rfl⟩⟩,rfl,q⟩
 |cons i r=>
  intro q;exact⟨.ref _,_,I.laid (t':=s.toks+1+1) (o:=.tup [.str (XH a 0 i),.str b,.str (XH a (i+b.length) a.length)]) (λ_ _ e=>Heap.get?_push_of_some _ e) (SG _) ⟨by show 3<=TI;decide,_,.cons ⟨_,rfl⟩ (.cons ⟨_,rfl⟩ (.cons ⟨_,rfl⟩ .nil)),⟨_,Heap.get?_push_size _ rfl,rfl,_,rfl⟩⟩,rfl,q⟩
theorem CQ:∀{xs:af9}{its:af'},bP (xs.map V.str) its->∃l:List (Str×Tok),its=strValues l/\l.map (·.1)=xs
 |[],_,.nil=>⟨[],rfl,rfl⟩
 |x::xs,_,.cons r iN=>by
  obtain⟨t,rfl⟩:=r;obtain⟨l,rfl,e⟩:=CQ iN;exact⟨(x,t)::l,rfl,by rw[SK,e]⟩
theorem CR:m0 X "str.join" (λx vs H Q=>∃sep l xs,x=.str sep/\vs=[.ref l]/\H l=some (.lst (xs.map V.str))/\ZY sep xs=true/\Q (.str (Txt.join sep xs)) H):=by
 intro af s σ H x vs v aO Q I a8 bX h;obtain⟨sep,l,xs,rfl,rfl,eQ,hok,q⟩:=h;obtain⟨t,rfl⟩:=a8;cases bX with
 |cons ai iN=>
  cases iN;cases ai;obtain⟨its,NV,bw,hz⟩:=I.list (b0.of (K:=X.K) eQ);obtain⟨ls,rfl,e⟩:=CQ NV;exact PySem.SC.join bw.isList e hok λt' k=>⟨.str _,H,I.tok _,⟨_,rfl⟩,q⟩
end
section
variable{X:a1}
def NW(cS cH:bA)(c:Str):bA:=λσ H Q=>cS σ H λx ar=>∃a,x=.str a/\a.length<=TI/\(a++c).length<=TI/\cH σ ar λy a0=>∃b,y=.str b/\b.length<=TI/\(a++c++b).length<=TI/\Q (.str (a++c++b)) a0
theorem CS(d:Str):Str.empty++d=d:=by
 cases d;show Str.mk (#[]++_)=_
 simp
theorem NX{ah am:WP}{cS cH:bA}{c:Str}{k:Nat}{bc aW fN pos:Pos}(aa:bE X ah cS)(ab:bE X am cH)(aF:evalEach [.FormattedValue ah (-1) none bc,.Constant (.str c) k aW,.FormattedValue am (-1) none fN] X.env=[YU (.FormattedValue ah (-1) none bc) X.env,YU (.Constant (.str c) k aW) X.env,YU (.FormattedValue am (-1) none fN) X.env]:=by rfl):
  bE X (.JoinedStr [.FormattedValue ah (-1) none bc,.Constant (.str c) k aW,.FormattedValue am (-1) none fN] pos) (NW cS cH c):=by
 intro af s σ H Q I h;refine wpAny_JoinedStr ?_;rw[aF];refine Y' (bQ (aa af s σ H _ I h) λv s1 ⟨x,ar,a6,ai,aB⟩=>?_);obtain⟨a,rfl,aq,kN,aB⟩:=aB;obtain⟨t,rfl⟩:=ai
 have go:∀(t':Tok)(s9:SZ),Inv X af σ ar s9->∃y u,Value.str a t'=.str y u/\(Str.empty++y).length<=TI/\Joins (Wp X.prog X.w) X.A X.xe [YU (.Constant (.str c) k aW) X.env,YU (.FormattedValue am (-1) none fN) X.env] (Str.empty++y) (λout cw=>out.length<=TI/\fA X af σ Q (.str out cw.toks) {cw with toks:=cw.toks+1}) s9:=λt' s9 NY=>by
  refine⟨a,t',rfl,by rw[CS];exact aq,?_⟩;rw[CS];refine bQ (zE (x:=c) (j:=k) (pos:=aW) af s9 σ ar (λv aj=>v=.str c/\aj=ar) NY ⟨rfl,rfl⟩) λv2 aI ⟨oU,a0,dt,aw,wP,NZ⟩=>?_;subst wP NZ;obtain⟨N0,rfl⟩:=aw;refine⟨c,N0,rfl,kN,?_⟩;refine Y' (bQ (ab af aI σ _ _ dt aB) λag bI ⟨qM,cg,cu,eg,cv⟩=>?_);obtain⟨b,rfl,ae,r8,cv⟩:=cv;obtain⟨gX,rfl⟩:=eg
  have go2:∀(xj:Tok)(xl:SZ),Inv X af σ cg xl->∃y u,Value.str b xj=.str y u/\(a++c++y).length<=TI/\Joins (Wp X.prog X.w) X.A X.xe [] (a++c++y) (λout cw=>out.length<=TI/\fA X af σ Q (.str out cw.toks) {cw with toks:=cw.toks+1}) xl:=λxj xl N1=>
   ⟨b,xj,rfl,r8,r8,.str _,cg,N1.tok _,⟨_,rfl⟩,cv⟩
  exact Zx (go2 _ _ cu) (go2 _ _ (cu.tok _)) ae
 exact Zx (go _ _ a6) (go _ _ (a6.tok _)) aq
def CT(x:Str):f5:=⟨λi _=>i<x.length,λi H v aj=>aj=H/\∃c,x.cps[i]?=some c/\v=.str ⟨#[c]⟩,λi _=>x.length<=i⟩
theorem N2{P:UF}{w:Yd}{K:Sx}{bd:WP}(x:Str)(t:Tok)(it:TE):l6 P w K bd (CT x) [it] it (λi h=>h.IsStrIter it "str_ascii_iterator" x t i) where
 mem:=by simp
 obj:=λi h st b ae=>by
  have e:b=it:=by simpa using ae
  subst e;obtain⟨o,e,c,d⟩:=st;exact⟨o,e,λv z=>by rw[d]at z;cases z⟩
 keep:=λi h h' st k=>let⟨o,aM,r⟩:=st;⟨o,k it (by simp) o aM,r⟩
 item:=by
  intro X hP hw dZ hc i af s σ H E I hf st aJ;subst hP hw dZ;obtain⟨c,nH⟩:∃c,x.cps[i]?=some c:=⟨x.cps[i]'(aJ),TN aJ⟩;obtain⟨eX,bv,bJ,bY,cR,dh⟩:=hf it (by simp);refine wpAny_pyNext_ascii_item st nH λh' fT d0=>?_;have a6:Inv X af σ H {s with heap:=h',toks:=s.toks+1}:=I.turned (t':=s.toks+1) (λb o ae e=>(d0.2 b ae).trans e) eX bv bY cR dh;obtain⟨o,e,dg,d⟩:=id fT;exact⟨_,rfl,rS (s:={s with heap:=h',toks:=s.toks+1}) e dg d (by decide) ⟨.str ⟨#[c]⟩,H,a6,⟨_,rfl⟩,⟨rfl,c,nH,rfl⟩,fT,λb ae=>(hf b ae).1⟩⟩
 done:=by
  intro X hP hw dZ hc i af s σ H E I hf st aJ;subst hP hw dZ;obtain⟨eX,bv,bJ,bY,cR,dh⟩:=hf it (by simp);exact wpAny_pyNext_ascii_end (I.ok.hd hc) st (U4 aJ) λh' eY=>⟨rfl,I.turned (t':=s.toks) (λb o ae e=>eY b o ae e) eX bv bY cR dh⟩
 self:=λ_ _ _ _ _ st h=>wpAny_pyIter_striter_ascii st h
def N3(dO:bA):bL:=λσ H R=>dO σ H λx ar=>∃a,x=.str a/\a.cps.all (· < 128)=true/\R (CT a) ar
theorem N4{bd l:WP}{dO:bA}(ax:bE X l dO):hN X bd l (N3 dO):=by
 intro af s σ H R I h;refine bQ (ax af s σ H _ I h) λv s1 ⟨x,ar,a6,ai,aB⟩=>?_;obtain⟨a,rfl,aq,q⟩:=aB;obtain⟨t,rfl⟩:=ai;refine wpAny_pyIter_ascii aq ?_;refine⟨s1.heap.objs.size,[s1.heap.objs.size],_,_,ar,rfl,a6.kept (t':=s1.toks) λb o e=>Heap.get?_push_of_some _ e,N2 a t _,⟨_,Heap.get?_push_size _ rfl,rfl,rfl⟩,λb ae=>?_,q⟩;have e:b=s1.heap.objs.size:=by simpa using ae
 subst e;exact a6.fpOk (SG _) (a6.hok.fresh (SG _))
theorem N5(n:Nat):UU (some 1) none 1 (n+1)=(SA n).map (· + 1):=by
 have e:UU (some 1) none 1 (n+1)=XI (max 0 (min 1 ((n:Int)+1))) ((n:Int)+1) 1:=rfl;rw[e,show max (0:Int) (min 1 ((n:Int)+1))=1 by lia];unfold XI
 have c:(if(1:Int)>0 then(if(1:Int)<(n:Int)+1 then((n:Int)+1-1+1-1)/1 else 0)else(if(1:Int)>(n:Int)+1 then((1:Int)-((n:Int)+1)-1-1)/(-1)else 0)).toNat=n:=by
  rw[TT (by decide)];split<;>lia
 show(SA (if(1:Int)>0 then(if(1:Int)<(n:Int)+1 then((n:Int)+1-1+1-1)/1 else 0)else(if(1:Int)>(n:Int)+1 then((1:Int)-((n:Int)+1)-1-1)/(-1)else 0)).toNat).map _=_
 rw[c];refine Tj λk _=>?_;show((1:Int)+1*(k:Int)).toNat=k+1
 lia
def mz(x:Str):Str:=if(UU (some 1) none 1 x.length).length==x.length then x else⟨((UU (some 1) none 1 x.length).filterMap (x.cps[·]?)).toArray⟩
theorem N6(c:Nat)(r:Z8):mz ⟨(c::r).toArray⟩=⟨r.toArray⟩:=by
 have ax:(⟨(c::r).toArray⟩:Str).length=r.length+1:=rfl;unfold mz;rw[ax,N5,Sw,T9,TW (by simp)];congr 2;rw[Wv];refine Ux λi=>?_
 have:((λj:Nat=>(⟨(c::r).toArray⟩:Str).cps[j]?)∘λx=>x+1)=λj=>r[j]?:=by
  funext j;show(c::r).toArray[j+1]?=r[j]?
  simp
 rw[this]
 have key:∀(l:Z8),(SA l.length).filterMap (λj=>l[j]?)=l:=by
  intro l;induction l with
  |nil=>rfl
  |cons a l b2=>
   rw[SR,XJ,U5];show a::List.filterMap (λj=>(a::l)[j]?) ((SA l.length).map Nat.succ)=a::l
   rw[Wv];congr 1
 rw[key]
def N7:V->Option Int->Option Int->al->cf->Prop:=λx lo ao H Q=>∃z,x=.str z/\lo=some 1/\ao=none/\(mz z).length<=TI/\Q (.str (mz z)) H
theorem N8:v3 X N7:=by
 intro af s σ H x v k' la lo ao sl Q I a8 av cI hQ h;obtain⟨z,rfl,rfl,rfl,hz,q⟩:=h;obtain⟨t,rfl⟩:=a8;cases cI with
 |int _ dO=>
 cases hQ;refine⟨"str",_,F.slot_str_getitem.lookup,Y0 _ _ _,?_⟩;refine wpAny_getItem_str_slice (l:=some (1,dO)) (u:=none) (st:=none) av rfl ?_;unfold sliceMade;have e:slicePicked z (some (1,dO)) none none=UU (some 1) none 1 z.length:=rfl;have br:(Option.map (λx:Int×Tok=>x.1) none).getD 1=1:=rfl;rw[e];unfold mz at q hz;by_cases aA:((UU (some 1) none 1 z.length).length==z.length)=true
 ·rw[TT aA]at q;rw[TT (by show((1:Int)==1&&_)=true;rw[aA];rfl)];exact⟨.str z,H,I,⟨_,rfl⟩,q⟩
 rw[TW aA]at q hz;rw[TW (by show ¬((1:Int)==1&&_)=true;intro w;exact aA (VI.mp w).2)];exact⟨hz,.str _,H,I.tok _,⟨_,rfl⟩,q⟩
end
end L2
namespace L3
open PySem L2
section
variable{X:a1}{a b c e:WP}{aS bf dw u:a2}{pos p bc aW fN:Pos}
theorem bH.strV{K:Sx}{B:al}{v:V}{x:Str}(r:bH K B v (.str x)):v=.str x:=by cases r;rfl
def N9(u:a2):a2:=λρ k=>u ρ λx=>∃i,x=.int i/\i.natAbs.log2<1920/\k (.str (toString i))
theorem ta(aq:aV X e u)(aJ:c2 X "str")(az:X.mg "str"=none)(av:dE X e []:=by rfl):aV X (.Call (.Name "str" p) [e] [] pos) (N9 u):=by
 obtain⟨_,aa,ai⟩:=aq;refine⟨_,vZ IQ aJ az (by decide +kernel) (di aa d9 av) (by decide) (by decide) av,nc (f:=λx k=>∃i,x=.int i/\i.natAbs.log2<1920/\k (.str (toString i))) ai λx k h R W B H σ ρ v Q e a8 q=>?_⟩;obtain⟨i,rfl,ax,hk⟩:=h;exact⟨i,by rw[a8.intV],ax,q _ _ B H hk e (bC.refl _ _) (.str _)⟩
def N'(u:a2):a2:=λρ k=>u ρ λx=>∃t n,x=.str t/\VH t=some n/\t.length<=640/\k (.int n)
theorem Oa(aq:aV X e u)(aJ:c2 X "int")(az:X.mg "int"=none)(av:dE X e []:=by rfl):aV X (.Call (.Name "int" p) [e] [] pos) (N' u):=by
 obtain⟨_,aa,ai⟩:=aq;refine⟨_,vZ NS aJ az (by decide +kernel) (di aa d9 av) (by decide) (by decide) av,nc (f:=λx k=>∃t n,x=.str t/\VH t=some n/\t.length<=640/\k (.int n)) ai λx k h R W B H σ ρ v Q e a8 q=>?_⟩;obtain⟨t,n,rfl,aa,ab,hk⟩:=h;exact⟨t,n,by rw[a8.strV],aa,ab,q _ _ B H hk e (bC.refl _ _) (.int _)⟩
def Ob(u:a2):a2:=λρ k=>u ρ λx=>∃t:Str,x=.str t/\t.length<=TI/\k (.int t.length)
theorem Oc(aq:aV X e u)(aJ:c2 X "len")(az:X.mg "len"=none)(av:dE X e []:=by rfl):aV X (.Call (.Name "len" p) [e] [] pos) (Ob u):=by
 obtain⟨_,aa,ai⟩:=aq;refine⟨_,ku Jk aJ az Vx (di aa d9 av) (by decide) (by decide) av,nc (f:=λx k=>∃t:Str,x=.str t/\t.length<=TI/\k (.int t.length)) ai λx k h R W B H σ ρ v Q e a8 q=>?_⟩;obtain⟨t,rfl,aa,hk⟩:=h;exact⟨t,by rw[a8.strV],aa,q _ _ B H hk e (bC.refl _ _) (.int _)⟩
def Od(aS bf:a2):a2:=λρ k=>aS ρ λx=>bf ρ λy=>∃i j:Str,x=.str i/\y=.str j/\i.length+j.length<=TI/\k (.str (i++j))
theorem qN(aq:aV X a aS)(ae:aV X b bf):aV X (.BinOp a .Add b pos) (Od aS bf):=by
 obtain⟨_,aa,ai⟩:=aq;obtain⟨_,ab,aw⟩:=ae;refine⟨_,e8 IN aa ab,li ai aw λx y k h R W B H σ ρ v eV Q e a8 b' q=>?_⟩;obtain⟨i,j,rfl,rfl,ax,hk⟩:=h;exact⟨i,j,a8.strV,b'.strV,ax,q _ _ B H hk e (bC.refl _ _) (.str _)⟩
def Oe(aS bf:a2):a2:=λρ k=>aS ρ λx=>bf ρ λy=>∃(z:Str)(i:Int)(c:Nat),x=.str z/\y=.int i/\z.length<=TI/\ea z.cps.toList i=some c/\k (.str ⟨#[c]⟩)
theorem Of(aq:aV X a aS)(ae:aV X b bf)(av:v5 b):aV X (.Subscript a b pos) (Oe aS bf):=by
 obtain⟨_,aa,ai⟩:=aq;obtain⟨_,ab,aw⟩:=ae;refine⟨_,lb Jc aa ab av,li ai aw λx y k h R W B H σ ρ v eV Q e a8 b' q=>?_⟩;obtain⟨z,i,c,rfl,rfl,ax,hc,hk⟩:=h;exact⟨z,i,c,a8.strV,b'.intV,ax,hc,q _ _ B H hk e (bC.refl _ _) (.str _)⟩
def Og(aS bf:a2):a2:=λρ k=>aS ρ λx=>bf ρ λy=>∃i j:Str,x=.str i/\y=.str j/\k (.bl (!(!(Builtin.Str.occurrences j i 0 j.length 1).isEmpty)))
theorem Oh(aq:aV X a aS)(ae:aV X b bf)(az:Yh .NotIn b=false):fi X (.Compare a [.NotIn] [b] pos) (ow (Og aS bf)):=by
 obtain⟨_,aa,ai⟩:=aq;obtain⟨_,ab,aw⟩:=ae;refine⟨_,mW II aa ab az,pZ (li ai aw λx y k h R W B H σ ρ v eV Q e a8 b' q=>?_)⟩;obtain⟨i,j,rfl,rfl,hk⟩:=h;exact⟨i,j,a8.strV,b'.strV,q _ _ B H hk e (bC.refl _ _) (.bl _)⟩
def Oi(c:Str)(aS bf:a2):a2:=λρ k=>aS ρ λx=>∃i:Str,x=.str i/\i.length+c.length<=TI/\bf ρ λy=>∃j:Str,y=.str j/\i.length+c.length+j.length<=TI/\k (.str (i++c++j))
theorem xo(x y:Str):(x++y).length=x.length+y.length:=by
 show(x.cps++y.cps).size=x.cps.size+y.cps.size
 exact Array.size_append
def Oj(u:a2):cK:=λρ k=>u ρ λx=>∃t:Str,x=.str t/\t.length<=TI/\k ((t.length:Int) != 0)
theorem Ol(aq:aV X a aS)(aF:∀hn,ZO a X.env hn=(do let v <-hn;ZM a.pos;Y3 [v] (Z2 v)):=by intro _;rfl):fi X a (Oj aS):=by
 obtain⟨_,aa,ai⟩:=aq;refine⟨_,z0 aa aF,λρ k h R W B H σ Q e q=>?_⟩;refine ai ρ _ h R W B H σ _ e λx v a5 ar aE ah aK s1=>?_;obtain⟨t,rfl,ax,hk⟩:=aE;rw[s1.strV];exact⟨_,⟨ax,rfl⟩,q _ a5 ar hk ah aK⟩
def Om(f g:Int->Int->Bool)(aS bf dw:a2):cK:=λρ k=>aS ρ λx=>bf ρ λy=>∃i j,x=.int i/\y=.int j/\if f i j=true then dw ρ λz=>∃l,z=.int l/\k (g j l)else k false
theorem On{op hO:ZZ}{f g:Int->Int->Bool}(aM:ov op f X)(hI:ov hO g X)(aq:aV X a aS)(ae:aV X b bf)(hc:aV X c dw)(az:ZV [op,hO] [b,c]=false:=by with_unfolding_all rfl):
  fi X (.Compare a [op,hO] [b,c] pos) (Om f g aS bf dw):=by
 obtain⟨_,aa,ai⟩:=aq;obtain⟨_,ab,aw⟩:=ae;obtain⟨_,a',eg⟩:=hc;refine⟨_,IK aM hI aa ab a' az,λρ k h R W B H σ Q e q=>?_⟩;refine ai ρ _ h R W B H σ _ e λx v a5 ar aE ah aK s1=>?_;refine aw ρ _ aE R W a5 ar σ _ ah λy eV bu a0 aU am aP aI=>?_;obtain⟨i,j,rfl,rfl,z⟩:=aU;refine⟨i,j,s1.intV,aI.intV,_,rfl,?_⟩;by_cases hf:f i j=true
 ·rw[TT hf]at z⊢;refine eg ρ _ z R W bu a0 σ _ am λy' hM je cg fV bz g3 bI=>?_;obtain⟨l,rfl,hk⟩:=fV;exact⟨j,l,aI.intV,bI.intV,_,rfl,q _ je cg hk bz ((aK.trans aP).trans g3)⟩
 rw[TW hf]at z⊢;exact⟨_,rfl,q _ bu a0 z am (aK.trans aP)⟩
theorem td{x:Str}{i:Int}{t:Tok}(az:X.mg x=some (.int i t))(aJ:c2 X x)(hd:eC x:=by decide):aV X (.Name x pos) (kA (.int i)):=
 ⟨_,zG (v:=.int i) aJ az ⟨_,rfl⟩ hd,pY λ_=>.int _⟩
theorem xp{x y:Str}{t:Tok}(az:X.mg x=some (.str y t))(aJ:c2 X x)(hd:eC x:=by decide):aV X (.Name x pos) (kA (.str y)):=
 ⟨_,zG (v:=.str y) aJ az ⟨_,rfl⟩ hd,pY λ_=>.str _⟩
def Oo(u:a2):a2:=λρ k=>u ρ λx=>∃t:Str,x=.str t/\(mz t).length<=TI/\k (.str (mz t))
theorem Op{cy lJ}(aq:aV X a aS):aV X (.Subscript a (.Slice (some (.Constant (.int 1) cy lJ)) none none aW) pos) (Oo aS):=by
 obtain⟨_,aa,ai⟩:=aq;refine⟨_,Aa N8 aa (z' eO) z9,λρ k h R W B H σ Q e q=>?_⟩;refine ai ρ _ h R W B H σ _ e λx v a5 ar aE ah aK s1=>?_;obtain⟨t,rfl,ax,hk⟩:=aE;exact⟨1,rfl,t,s1.strV,rfl,rfl,ax,q _ _ a5 ar hk ah aK (.str _)⟩
theorem CU{c:Str}{k:Nat}(aq:aV X a aS)(ae:aV X b bf)(aF:evalEach [.FormattedValue a (-1) none bc,.Constant (.str c) k aW,.FormattedValue b (-1) none fN] X.env=[YU (.FormattedValue a (-1) none bc) X.env,YU (.Constant (.str c) k aW) X.env,YU (.FormattedValue b (-1) none fN) X.env]:=by rfl):
  aV X (.JoinedStr [.FormattedValue a (-1) none bc,.Constant (.str c) k aW,.FormattedValue b (-1) none fN] pos) (Oi c aS bf):=by
 obtain⟨_,aa,ai⟩:=aq;obtain⟨_,ab,aw⟩:=ae;refine⟨_,NX aa ab aF,λρ k h R W B H σ Q e q=>?_⟩;refine ai ρ _ h R W B H σ _ e λx v a5 ar aE ah aK s1=>?_;obtain⟨i,rfl,l1,aE⟩:=aE;refine⟨i,s1.strV,by lia,by rw[xo];exact l1,?_⟩;refine aw ρ _ aE R W a5 ar σ _ ah λy eV bu a0 aU am aP aI=>?_;obtain⟨j,rfl,l2,aU⟩:=aU;exact⟨j,aI.strV,by lia,by rw[xo,xo];exact l2,q _ _ bu a0 aU am (aK.trans aP) (.str _)⟩
def Oq(aS bf:a2):a2:=λρ k=>aS ρ λx=>∃i:Str,x=.str i/\bf ρ λy=>∃j:Str,y=.str j/\k (.bl (Txt.startswith i j))
def Os(aS bf:a2):a2:=λρ k=>aS ρ λx=>∃i:Str,x=.str i/\bf ρ λy=>∃j:Str,y=.str j/\(j.length==0)=false/\i.length<=TI/\k (.tup [.str (Txt.partition i j).1,.str (Txt.partition i j).2.1,.str (Txt.partition i j).2.2])
def Ot(aS:a2)(bf:cN):a2:=λρ k=>aS ρ λx=>∃i:Str,x=.str i/\bf ρ λds=>∃xs:af9,ds=xs.map D.str/\ZY i xs=true/\k (.str (Txt.join i xs))
theorem Reps.strs{K:Sx}{B:al}:∀{xs:af9}{vs:Z4},Reps K B vs (xs.map D.str)->vs=xs.map V.str
 |[],_,.nil=>rfl
 |x::xs,_,.cons h r=>by rw[h.strV,Reps.strs r];rfl
section
variable{o:WP}{g9:a2}{oB:cN}{eh cX:Pos}
theorem Ou(aM:aV X o g9)(aq:aV X a aS)(hR:jv X o "startswith":=by rfl)(iQ:lZ X cX [a]:=by rfl)(hS:jw eh cX:=by rfl)(av:dE X a []:=by rfl)(iR:hl X cX []:=by rfl):
  aV X (.Call (.Attribute o "startswith" eh) [a] [] cX) (Oq g9 aS):=by
 obtain⟨_,aa,ai⟩:=aM;obtain⟨_,ab,aw⟩:=aq;refine⟨_,mZ Vd PySem.F.slot_str_startswith PySem.F.type_str_startswith NT aa (di ab d9 av) hR iQ hS av iR,λρ k h R W B H σ Q e q=>?_⟩;refine ai ρ _ h R W B H σ _ e λx v a5 ar aE ah aK s1=>?_;obtain⟨i,rfl,aE⟩:=aE;rw[s1.strV];refine⟨rfl,?_⟩;refine aw ρ _ aE R W a5 ar σ _ ah λy eV bu a0 aU am aP aI=>?_;obtain⟨j,rfl,aU⟩:=aU;exact⟨i,j,rfl,by rw[aI.strV],q _ _ bu a0 aU am (aK.trans aP) (.bl _)⟩
theorem CV(aM:aV X o g9)(aq:aV X a aS)(hR:jv X o "partition":=by rfl)(iQ:lZ X cX [a]:=by rfl)(hS:jw eh cX:=by rfl)(av:dE X a []:=by rfl)(iR:hl X cX []:=by rfl):
  aV X (.Call (.Attribute o "partition" eh) [a] [] cX) (Os g9 aS):=by
 obtain⟨_,aa,ai⟩:=aM;obtain⟨_,ab,aw⟩:=aq;refine⟨_,mZ Vd PySem.F.slot_str_partition PySem.F.type_str_partition NU aa (di ab d9 av) hR iQ hS av iR,λρ k h R W B H σ Q e q=>?_⟩;refine ai ρ _ h R W B H σ _ e λx v a5 ar aE ah aK s1=>?_;obtain⟨i,rfl,aE⟩:=aE;rw[s1.strV];refine⟨rfl,?_⟩;refine aw ρ _ aE R W a5 ar σ _ ah λy eV bu a0 aU am aP aI=>?_;obtain⟨j,rfl,aQ,ao,aU⟩:=aU;refine⟨i,j,rfl,by rw[aI.strV],aQ,ao,λp ak=>?_⟩;have bY:=(am.toWd.fresh ak).2.2;exact q _ _ _ _ aU (am.alloc ak _) ((aK.trans aP).trans (am.grow ak _)) (.tup (eo ..) (.cons (.str _) (.cons (.str _) (.cons (.str _) .nil))))
theorem te(aM:aV X o g9)(aq:hV X a oB)(hR:jv X o "join":=by rfl)(iQ:lZ X cX [a]:=by rfl)(hS:jw eh cX:=by rfl)(av:dE X a []:=by rfl)(iR:hl X cX []:=by rfl):
  aV X (.Call (.Attribute o "join" eh) [a] [] cX) (Ot g9 oB):=by
 obtain⟨_,aa,ai⟩:=aM;obtain⟨_,ab,aw⟩:=aq;refine⟨_,mZ Vd XK XM CR aa (di ab d9 av) hR iQ hS av iR,λρ k h R W B H σ Q e q=>?_⟩;refine ai ρ _ h R W B H σ _ e λx v a5 ar aE ah aK s1=>?_;obtain⟨i,rfl,aE⟩:=aE;rw[s1.strV];refine⟨rfl,?_⟩;refine aw ρ _ aE R W a5 ar σ _ ah λds l vs bu a0 aU am aP bv bJ bY cR dh=>?_;obtain⟨xs,rfl,aQ,aU⟩:=aU;exact⟨i,l,xs,rfl,rfl,by rw[bY,cR.strs],aQ,q _ _ bu a0 aU am (aK.trans aP) (.str _)⟩
end
def Ov(u:a2):cN:=λρ k=>u ρ λd=>∃t:Str,d=.str t/\t.cps.all (· < 128)=true/\k (t.cps.toList.map λc=>D.str ⟨#[c]⟩)
theorem Ow{bd l:WP}(ax:aV X l u):lh X bd l (Ov u):=by
 obtain⟨_,aa,ai⟩:=ax;refine⟨_,N4 aa,λρ k h R W B H σ Q e q=>?_⟩;refine ai ρ _ h R W B H σ _ e λd v a5 ar aE ah aK s1=>?_;obtain⟨t,rfl,bw,z⟩:=aE;refine⟨t,s1.strV,bw,q _ _ a5 ar z ah aK λaj s i=>?_⟩;have ax:(t.cps.toList.map λc=>D.str ⟨#[c]⟩).length=t.length:=by rw[Sw];rfl
 rw[ax];refine⟨λao=>ao,λao=>ao,λx tg ao ⟨cP,c,d1,th⟩=>⟨cP,.str ⟨#[c]⟩,?_,?_⟩⟩
 ·rw[S1,T7,d1];rfl
 rw[th];exact .str _
end
end L3
namespace L3
open PySem L2 PyProof.Rows
def S(l:Z8):Str:=⟨l.toArray⟩
theorem eL(l:Z8):(S l).length=l.length:=rfl
theorem qO(l:Z8):(S l).cps.toList=l:=rfl
theorem h1(a b:Z8):S a++S b=S (a++b):=by
 have e:(S a++S b).cps=(S (a++b)).cps:=by
  rw[PySem.Str.cps_append];show a.toArray++b.toArray=(a++b).toArray
  simp
 cases aa:S a++S b;cases ab:S (a++b);rw[aa,ab]at e;exact Ye Str.mk e
theorem ti{x:Str}{l:Z8}(h:x.cps.toList=l):x=S l:=by
 cases x with
 |mk a=>subst h;rfl
theorem tj{a b:Z8}(h:S a=S b):a=b:=by
 have:=Ye (λx:Str=>x.cps.toList) h;exact this
def cT(m:Nat):List Nat:=(VJ 10 m).map Char.toNat
def dL(n:Int):List Nat:=if n<0 then 45::cT n.natAbs else cT n.natAbs
def cL(x y:Int):List Nat:=if y=1 then dL x else dL x++47::dL y
theorem CW(n:Int)(h:0<=n):Str.ofString (toString n)=S (cT n.natAbs):=by
 obtain⟨m,rfl⟩:=TV h;exact ti (XN m)
theorem xq{m:Nat}(h:m<10):cT m=[48+m]:=by
 unfold cT;rw[Nat.toDigits_of_lt_base h];rcases m with _|_|_|_|_|_|_|_|_|_|m<;>first|rfl|lia
theorem CX{m:Nat}(h:10<=m):cT m=cT (m/10)++[48+m%10]:=by
 have az:m%10<10:=VK m (by decide);have t:VJ 10 (m/10)++VJ 10 (m%10)=VJ 10 (10*(m/10)+m%10):=Nat.toDigits_append_toDigits (by decide) (by lia) az;rw[Nat.div_add_mod]at t;have e:=xq az;unfold cT at e⊢;rw[<-t,S0,e]
theorem nI:∀(m c:Nat),c∈cT m->48<=c/\c<=57:=by
 intro m;induction m using WB with
 |_ m b2=>
  intro c hc;by_cases h:m<10
  ·rw[xq h]at hc;rcases SP.mp hc with rfl
   lia
  rw[CX (by lia)]at hc;rcases S3.mp hc with aa|aa
  ·exact b2 _ (by lia) c aa
  rcases SP.mp aa with rfl
  lia
theorem qP(m:Nat):1<=(cT m).length:=by
 unfold cT;rw[Sw];exact toDigits_len_ge 10 m
theorem qQ{m:Nat}(h:m<1000000000000000000000000000000):(cT m).length<=30:=by
 unfold cT;rw[Sw];exact toDigits_len_pow (by decide) (by decide) (show m<10^30 from h)
theorem Ox:∀m:Nat,m≠0->(cT m)[0]?≠some 48:=by
 intro m;induction m using WB with
 |_ m b2=>
  intro bi;by_cases h:m<10
  ·rw[xq h];intro e;have:48+m=48:=by simpa using e
   lia
  rw[CX (by lia),Tt (qP _)];exact b2 _ (by lia) (by lia)
theorem Oy{m:Nat}(h:m<1000000000000000000000000000000):VH (S (cT m))=some (m:Int):=by
 have e:=intText_digits (x:=S (cT m)) (λc hc=>nI m c hc) (λe=>by have:=qP m;rw[qO]at e;rw[e]at this;simp at this) (SE (qQ h) (by decide));rw[qO]at e;unfold cT at e;rwa[PySem.W.KIN.val_back]at e
theorem Oz{l:Z8}{c:Nat}(h:c∉l):Txt.partition (S l) (S [c])=(S l,S [],S []):=by
 unfold Txt.partition;rcases StrLaws.occ_head (S l) (S [c]) 1 (SG 1)with⟨bi,aG⟩|⟨i,r,bi,ao,aG⟩
 ·rw[bi];rfl
 exact absurd (S4 ((StrLaws.subAt_one (S l) c i).mp ao)) h
theorem CY{l r:Z8}{c:Nat}(h:c∉l):Txt.partition (S (l++c::r)) (S [c])=(S l,S [c],S r):=by
 unfold Txt.partition;have tk:(l++c::r)[l.length]?=some c:=by rw[Tz (SG _)];simp
 rcases StrLaws.occ_head (S (l++c::r)) (S [c]) 1 (SG 1)with⟨bi,aG⟩|⟨i,q,bi,ao,aG⟩
 ·exact absurd ((StrLaws.subAt_one (S (l++c::r)) c l.length).mpr tk) (aG _)
 rw[bi];have az:(l++c::r)[i]?=some c:=(StrLaws.subAt_one (S (l++c::r)) c i).mp ao
 have e:i=l.length:=by
  rcases UW i l.length with aB|aB|aB
  ·rw[Tt aB]at az;exact absurd (S4 az) h
  ·exact aB
  exact absurd ((StrLaws.subAt_one (S (l++c::r)) c l.length).mpr tk) (aG _ aB)
 subst e;have ah:Builtin.Str.strSub (S (l++c::r)) 0 l.length=S l:=ti (by rw[StrLaws.strSub_toList,qO];simp)
 have am:Builtin.Str.strSub (S (l++c::r)) (l.length+(S [c]).length) (S (l++c::r)).length=S r:=ti (by
  rw[StrLaws.strSub_toList,qO,eL,eL]
  have:(l++c::r).drop (l.length+[c].length)=r:=by
   rw[show l++c::r=(l++[c])++r by simp,show l.length+[c].length=(l++[c]).length by simp,List.drop_left]
  rw[this,Ul];simp only[SU,SR,List.length_nil]
  lia)
 show(Builtin.Str.strSub _ 0 l.length,S [c],Builtin.Str.strSub _ (l.length+(S [c]).length) _)=_
 rw[ah,am]
theorem OA(r:Z8)(c:Nat):Txt.startswith (S (c::r)) (S [c])=true:=by
 have:=PySem.W.KT.starts_app (S [c]) (S r);rwa[h1]at this
theorem OB{l:Z8}{c:Nat}(h:l[0]?≠some c):Txt.startswith (S l) (S [c])=false:=by
 cases q:Txt.startswith (S l) (S [c])with
 |false=>rfl
 |true=>
  exfalso
  apply h;unfold Txt.startswith at q;rw[Te]at q;exact(StrLaws.subAt_one (S l) c 0).mp ⟨of_decide_eq_true q.1,q.2⟩
theorem xr(n:Int)(c:Nat)(h:c∈dL n):c=45\/(48<=c/\c<=57):=by
 unfold dL at h;split at h
 ·rcases SH.mp h with h|h
  ·exact .inl h
  exact .inr (nI _ c h)
 exact .inr (nI _ c h)
theorem xt(x y:Int)(c:Nat)(h:c∈cL x y):c=45\/c=47\/(48<=c/\c<=57):=by
 unfold cL at h;split at h
 ·rcases xr _ c h with h|h<;>simp[h]
 rcases S3.mp h with h|h
 ·rcases xr _ c h with h|h<;>simp[h]
 rcases SH.mp h with h|h
 ·simp[h]
 rcases xr _ c h with h|h<;>simp[h]
theorem oV{n:Int}(h:n.natAbs<1000000000000000000000000000000):(dL n).length<=31:=by
 unfold dL;have:=qQ h;split
 ·rw[SR];lia
 lia
theorem j'{x y:Int}(hx:x.natAbs<1000000000000000000000000000000)(hy:y.natAbs<1000000000000000000000000000000):(cL x y).length<=63:=by
 unfold cL;have:=oV hx;have:=oV hy;split
 ·lia
 rw[SU,SR];lia
theorem OC:Str.ofString "-"=S [45]:=rfl
theorem tl:Str.ofString ""=S []:=rfl
theorem xu:Str.ofString "/"=S [47]:=rfl
theorem tm:Str.ofString ","=S [44]:=rfl
theorem join_one(x:Str):Txt.join (S []) [x]=x:=by
 unfold Txt.join;simp[Builtin.Str.glued]
theorem CZ(x:Str)(h:x.length<=1000):ZY (S []) [x]=true:=by
 have e:ZY (S []) [x] = !Builtin.Str.tooLong (0+x.length+0):=rfl;rw[e];unfold Builtin.Str.tooLong;have t:(1000:Nat)<=TI:=by decide
 have u:¬(0+x.length+0>TI):=by lia
 rw[Tk u];rfl
theorem log2_lt{n:Int}(h:n.natAbs<1000000000000000000000000000000):n.natAbs.log2<1920:=by
 by_cases z:n.natAbs=0
 ·rw[z];decide
 rw[Nat.log2_lt z];exact WC h (S9 (show 1000000000000000000000000000000<2^200 by decide) (Nat.pow_le_pow_right (by decide) (by decide)))
theorem C0{n:Int}:(if n<0 then S [45]else S [])++S (cT n.natAbs)=S (dL n):=by
 unfold dL;split
 ·rw[h1];rfl
 rw[h1];rfl
theorem OD{c:Nat}(h:48<=c/\c<=57):c∈(Str.ofString "0123456789").cps.toList:=by
 have q:c=48\/c=49\/c=50\/c=51\/c=52\/c=53\/c=54\/c=55\/c=56\/c=57:=by lia
 have e:(Str.ofString "0123456789").cps.toList=[48,49,50,51,52,53,54,55,56,57]:=rfl;rw[e];simp only[SH,Ti,or_false];exact q
theorem OE(n:Int):(dL n)[0]?=some 45↔n<0:=by
 unfold dL;split
 ·rename_i h;simp[h]
 rename_i h
 refine⟨λe=>?_,λe=>absurd e h⟩;have:=nI _ _ (S4 e);lia
theorem C1{x y:Int}(h:x<0):cL x y=45::cL (-x) y:=by
 have e:dL x=45::dL (-x):=by
  unfold dL;rw[TT h,TW (by lia),Wo]
 unfold cL;rw[e];split<;>rfl
theorem OF{x y:Int}(h:0<=x):(cL x y)[0]?≠some 45:=by
 have e:(cL x y)[0]?=(dL x)[0]?:=by
  unfold cL;split
  ·rfl
  rw[Tt];unfold dL;rw[TW (by lia)];exact qP _
 rw[e];intro q;exact absurd ((OE x).mp q) (by lia)
theorem C2{n:Int}(h:0<=n):dL n=cT n.natAbs:=by unfold dL;rw[TW (by lia)]
theorem C3{m c:Nat}(h:c<48):c∉cT m:=λq=>by have:=nI m c q;lia
theorem OG(x y:Int):44∉cL x y:=λq=>by
 rcases xt x y 44 q with h|h|h<;>lia
theorem OH{l:Z8}(h:1<=l.length):ea l 0=some (l.headD 0):=by
 cases l with
 |nil=>exact absurd h (by decide)
 |cons c r=>
  have e:L2.ixN (r.length+1) 0=some 0:=by unfold L2.ixN;rw[TT (by lia)];simp
  show(L2.ixN (r.length+1) 0).bind _=_
  rw[e];rfl
theorem OI{m:Nat}(h:D.str (S (cT m))≠D.str (Str.ofString "0")):D.str ⟨#[(cT m).headD 0]⟩≠D.str (Str.ofString "0"):=by
 intro e
 have dY:m≠0:=by
  rintro rfl;exact h rfl
 have ah:S [(cT m).headD 0]=S [48]:=D.str.inj e;have am:(cT m).headD 0=48:=by have:=tj ah;simpa using this
 apply Ox m dY;have l1:=qP m;cases q:cT m with
 |nil=>rw[q]at l1;exact absurd l1 (by decide)
 |cons c r=>rw[q]at am;simpa using am
end L3
namespace L2
open PySem PySem.Spec PyProof.Rows PySem.W
section
variable{X:a1}
theorem bP.strs:∀(l:List (Str×Tok)),bP ((l.map (·.1)).map V.str) (strValues l)
 |[]=>.nil
 |p::r=>.cons ⟨_,rfl⟩ (bP.strs r)
theorem OJ:m0 X "str.split" (λx vs H Q=>∃a b,x=.str a/\vs=[.str b]/\(b.length==0)=false/\a.length+2<=TI/\∀p,H p=none->Q (.ref p) (upd H p (.lst ((Txt.split a b).map V.str)))):=by
 intro af s σ H x vs v aO Q I a8 bX h;obtain⟨a,b,rfl,rfl,ae,aq,q⟩:=h;obtain⟨t,rfl⟩:=a8;obtain⟨u,rfl,t',rfl⟩:=vals1 bX;have q:=q _ I.fresh
 have aG:(Builtin.Str.partsBetween a (Builtin.Str.occurrences a b 0 a.length (a.length+1)) b.length).length<=TI:=by
  have ah:=StrLaws.occ_length_le a b 0 a.length (a.length+1);rw[length_partsBetween];lia
 have fin:∀(l:List (Str×Tok))(k:Nat),l.map (·.1)=Txt.split a b->l.length<=TI->fA X af σ Q (.ref s.heap.objs.size) {s with heap:=s.heap.push {cls:=.type "list",data:=.seq (strValues l).toArray},toks:=k}:=λl k e ax=>by
  rw[<-e]at q;exact⟨.ref _,_,I.lnew (t':=k) (bP.strs l) (by rw[Sw,Sw];exact ax),rfl,q⟩
 cases aa:(decide (a.length<b.length)||decide (Builtin.Str.strKind a<Builtin.Str.strKind b))
 ·cases hf:(Builtin.Str.occurrences a b 0 a.length (a.length+1)).isEmpty
  ·refine Y1 F.slot_str_split (Y0 _ _ _) F.entry_str_split (F.args_str_split_2 _ _) (meets_str_split_sep a b t t' aa ae hf (by lia) aG) ?_;show wants _ _ _ {s with toks:=_,heap:=s.heap.push {cls:=.type "list",data:=.seq (strsFrom s.toks (Builtin.Str.partsBetween a (Builtin.Str.occurrences a b 0 a.length (a.length+1)) b.length)).toArray} }
   rw[strsFrom_eq];have e:(numbered s.toks (Builtin.Str.partsBetween a (Builtin.Str.occurrences a b 0 a.length (a.length+1)) b.length)).map (·.1)=Txt.split a b:=((numbered_texts s.toks (Builtin.Str.partsBetween a (Builtin.Str.occurrences a b 0 a.length (a.length+1)) b.length)).trans ((TW (ne_true_of_eq_false aa)).trans (TW (ne_true_of_eq_false hf))).symm);refine fin (numbered s.toks _) _ e ?_;have:=Ye S' (numbered_texts s.toks (Builtin.Str.partsBetween a (Builtin.Str.occurrences a b 0 a.length (a.length+1)) b.length));rw[Sw]at this;rw[this];exact aG
  exact Y1 F.slot_str_split (Y0 _ _ _) F.entry_str_split (F.args_str_split_2 _ _) (meets_str_split_not_found a b t t' aa ae hf)
   (fin [(a,t)] s.toks ((TW (ne_true_of_eq_false aa)).trans (TT hf)).symm rF)
 exact Y1 F.slot_str_split (Y0 _ _ _) F.entry_str_split (F.args_str_split_2 _ _) (meets_str_split_cannot_occur a b t t' aa)
  (fin [(a,t)] s.toks (TT aa).symm rF)
end
end L2
namespace L3
open PySem L2
section
variable{X:a1}{a b c e:WP}{aS bf dw u:a2}{pos p bc aW fN:Pos}
section
variable{o:WP}{g9:a2}{oB:cN}{eh cX:Pos}
theorem Reps.ofStrs{K:Sx}{B:al}:∀(xs:af9),Reps K B (xs.map V.str) (xs.map D.str)
 |[]=>.nil
 |x::xs=>.cons (.str x) (Reps.ofStrs xs)
def OK(aS bf:a2):cN:=λρ k=>aS ρ λx=>∃i:Str,x=.str i/\bf ρ λy=>∃j:Str,y=.str j/\(j.length==0)=false/\i.length+2<=TI/\k ((Txt.split i j).map D.str)
theorem C4(aM:aV X o g9)(aq:aV X a aS)(hR:jv X o "split":=by rfl)(iQ:lZ X cX [a]:=by rfl)(hS:jw eh cX:=by rfl)(av:dE X a []:=by rfl)(iR:hl X cX []:=by rfl):
  hV X (.Call (.Attribute o "split" eh) [a] [] cX) (OK g9 aS):=by
 obtain⟨_,aa,ai⟩:=aM;obtain⟨_,ab,aw⟩:=aq;refine⟨_,mZ Vd PySem.F.slot_str_split PySem.F.type_str_split OJ aa (di ab d9 av) hR iQ hS av iR,λρ k h R W B H σ Q e q=>?_⟩;refine ai ρ _ h R W B H σ _ e λx v a5 ar aE ah aK s1=>?_;obtain⟨i,rfl,aE⟩:=aE;rw[s1.strV];refine⟨rfl,?_⟩;refine aw ρ _ aE R W a5 ar σ _ ah λy eV bu a0 aU am aP aI=>?_;obtain⟨j,rfl,aQ,ao,aU⟩:=aU;refine⟨i,j,rfl,by rw[aI.strV],aQ,ao,λp ak=>?_⟩;obtain⟨bv,bJ,bY,cR,dh⟩:=am.newO ak (Reps.ofStrs (K:=X.K) (B:=bu) (Txt.split i j));exact q _ p _ bu _ aU bv (aK.trans aP) bJ bY cR (Reps.ofStrs _) dh
end
end
end L3
namespace Cut
open PySem L2 L3
open PySem.Builtin.Int (intBits)
theorem C5(a:aT)(r:Z9)(i:Nat):hF (a::r) (i+1)=hF r i:=rfl
theorem OL(a:aT)(r:Z9):hF (a::r) 0=a:=rfl
end Cut
namespace Cut
open PySem L2 L3
theorem C6{x y:Int}(h:x*y<0):(0<x/\y<0)\/(x<0/\0<y):=by
 rcases Ve x 0 with z|z|z
 ·rcases Ve y 0 with w|w|w
  ·have:=WD z w;lia
  ·rw[w,VL]at h;lia
  exact .inr ⟨z,w⟩
 ·rw[z,Int.zero_mul]at h;lia
 rcases Ve y 0 with w|w|w
 ·exact .inl ⟨z,w⟩
 ·rw[w,VL]at h;lia
 have:=SO z w;lia
end Cut
namespace L2
open PySem PySem.Spec PyProof.Rows PySem.W
section
variable{X:a1}{af:agd}{σ:St}{H:al}{s:SZ}{h':Yn}
theorem Inv.turned2{t':Nat}{it e:TE}(I:Inv X af σ H s)(k:∀b o,b≠it->b≠e->s.heap.get? b=some o->h'.get? b=some o)(nJ:hr X af H it)(tn:hr X af H e):Inv X af σ H {s with heap:=h',toks:=t' }:=by
 obtain⟨jm,bD,bN,qR,to,xv⟩:=nJ;obtain⟨d4,ah,am,bz,cF,ej⟩:=tn;have kk:∀b u,H b=some u->b≠it/\b≠e:=λb u q=>⟨(λz=>by rw[z,jm]at q;cases q),(λz=>by rw[z,d4]at q;cases q)⟩;have be:∀b o,b∉[it,e]->s.heap.get? b=some o->h'.get? b=some o:=λb o hc q=>k b o (λz=>hc (by simp[z])) (λz=>hc (by simp[z])) q
 refine I.step (g':=s.gens) (d':=s.drawn) (ch:=[it,e]) (λb ae=>?_) (λb o _ _ hc q _=>be b o hc q) (λb o _ _ hc q _=>⟨o.slots,be b o hc q⟩) (λ_ _ _ _ n=>n)
  (λb o hc q=>⟨o,be b o hc q⟩) (λ_ _ e=>e) (λ_ _ _ e=>e) (λb ps q=>⟨#[],by rw[q];simp⟩) (λm az=>?_) (λb u q=>?_) I.bare
 ·rcases SH.mp ae with rfl|ae
  ·exact⟨qR,bD,to,xv⟩
  rw[SP.mp ae];exact⟨bz,ah,cF,ej⟩
 ·obtain⟨o,aD,bW,aM,r⟩:=az;exact⟨o,aD,bW,k _ o (S2 bD) (S2 ah) aM,r⟩
 refine(I.hok b u q).stay (λc v hc y=>k c v ?_ ?_ y) (λ_ q=>q) (λ_ _ q=>q) λ_ _ _ q=>q
 ·rcases hc with z|z
  ·rw[z];exact(kk b u q).1
  exact(kk c _ z).1
 rcases hc with z|z
 ·rw[z];exact(kk b u q).2
 exact(kk c _ z).2
end
def C7(K:Sx)(a:TE):f5:=
 ⟨λi H=>∃xs x,b0 K H a xs/\xs[i]?=some x,λi H x aj=>∃p y,H p=none/\x=.ref p/\aj=upd H p (.tup [.int i,y])/\∀xs,b0 K H a xs->xs[i]?=some y,λi H=>∃xs,b0 K H a xs/\xs.length<=i⟩
theorem OM{P:UF}{w:Yd}{K:Sx}{jn:agb}{k:Nat}{pos:Pos}(a it e:TE)(qb:e≠it):l6 P w K (.Tuple jn k pos) (C7 K a) [e,it] e (λi h=>(∃old,IsEnum h e it (i:Nat) old)/\h.IsListIter it a i) where
 mem:=by simp
 obj:=λi h st b ae=>by
  obtain⟨⟨old,aF⟩,o,aM,c,d⟩:=st;rcases SH.mp ae with rfl|ae
  ·exact⟨_,aF,λv z=>by cases z⟩
  rw[SP.mp ae];exact⟨o,aM,λv z=>by rw[d]at z;cases z⟩
 keep:=λi h h' st kp=>by
  obtain⟨⟨old,aF⟩,ao⟩:=st;exact⟨⟨old,kp e (by simp) _ aF⟩,ao.at λo q=>kp it (by simp) o q⟩
 item:=by
  intro X hP hw dZ hc i af s σ H E I hf st aJ;subst hP hw dZ;obtain⟨xs,x,aA,hx⟩:=aJ;obtain⟨⟨old,aF⟩,ao⟩:=st;obtain⟨its,bX,p,hz⟩:=I.list aA;obtain⟨u,hu,fS⟩:=bX.get hx;have tn:=hf e (by simp);have nJ:=hf it (by simp);have cp:e<s.heap.objs.size:=Heap.lt_size aF;have ON:it<s.heap.objs.size:=by obtain⟨o,aM,_⟩:=id ao;exact Heap.lt_size aM
  refine wpAny_pyNext_enum_item aF ao p.isList (x:=u) (by simpa using hu) qb λaa out OO bw afG kp=>⟨_,rfl,wpAny_letOwnedTupleGo_enum out λab g6 d0=>?_⟩;have C8:s.heap.objs.size≠e:=TP cp;have C9:s.heap.objs.size≠it:=TP ON
  have xw:Inv X af σ (upd H s.heap.objs.size (.tup [.int i,x])) {s with heap:=s.heap.push {cls:=.type "tuple",data:=.seq #[.int i s.toks,u]},toks:=s.toks+1}:=
   I.laid (t':=s.toks+1) (λ_ _ q=>Heap.get?_push_of_some _ q) (SG _) ⟨hH,[.int i s.toks,u],.cons ⟨_,rfl⟩ (.cons fS .nil),⟨_,Heap.get?_push_size _ rfl,rfl,_,rfl⟩⟩
  have up:∀b,hr X af H b->b≠s.heap.objs.size->hr X af (upd H s.heap.objs.size (.tup [.int i,x])) b:=λb f n=>⟨by rw[cB n];exact f.1,f.2⟩
  have a6:=xw.turned2 (h':=ab) (t':=s.toks+1) (it:=it) (e:=e) (λb o bx n2 q=>by
   rw[d0.2 b n2];by_cases z:b=s.heap.objs.size
   ·subst z;rw[Heap.get?_push_size _ rfl]at q;rw[<-q];exact bw
   refine kp b o n2 bx ?_;rw[<-q]
   exact(Heap.get?_push_ne s.heap b _ z).symm) (up it nJ (S2 C9)) (up e tn (S2 C8))
  refine⟨.ref s.heap.objs.size,_,a6,rfl,⟨s.heap.objs.size,x,I.fresh,rfl,rfl,λys hy=>by rw[I.list_inj hy aA];exact hx⟩,⟨⟨_,g6⟩,OO.at λo q=>(d0.2 it (S2 qb)).trans q⟩,λb ae=>?_⟩;rcases SH.mp ae with rfl|ae
  ·exact(up _ tn (S2 C8)).1
  rw[SP.mp ae];exact(up it nJ (S2 C9)).1
 done:=by
  intro X hP hw dZ hc i af s σ H E I hf st aJ;subst hP hw dZ;obtain⟨xs,aA,hx⟩:=aJ;obtain⟨⟨old,aF⟩,ao⟩:=st;obtain⟨its,bX,p,hz⟩:=I.list aA;obtain⟨eX,bv,bJ,bY,cR,dh⟩:=hf it (by simp);have ax:=bX.length;exact wpAny_pyNext_enum_end (I.ok.hd hc) aF ao p.isList (by simp;lia) λh' eY=>⟨rfl,I.turned (t':=s.toks) (λb o ae q=>eY b o ae q) eX bv bY cR dh⟩
 self:=λ_ _ _ _ _ st h=>by
  obtain⟨⟨old,aF⟩,_⟩:=st;exact wpAny_pyIter_enum aF h
def OP(K:Sx)(bq:dX):bL:=λσ H R=>bq σ H λvs ar=>∃a,vs=[.ref a]/\(∃xs,b0 K ar a xs)/\R (C7 K a) ar
theorem OQ{X:a1}{jn:agb}{k:Nat}{tp:Pos}{a:WP}{bq:dX}{p pos:Pos}(aJ:c2 X "enumerate")(az:X.mg "enumerate"=none)(aq:f4 X [a] bq)(av:Uf [a] X.env=[(false,YU a X.env)]:=by rfl):hN X (.Tuple jn k tp) (.Call (.Name "enumerate" p) [a] [] pos) (OP X.K bq):=by
 intro af s σ H R I h;refine Call_ (jy I aJ az (by decide +kernel:YE "enumerate"=some (.type "enumerate")) (Uj (bQ (aq pos af s σ H _ I h) λaO s1 ⟨vs,ar,a6,ai,aB⟩=>?_) av rfl));obtain⟨l,e,⟨xs,aA⟩,q⟩:=aB;subst e;obtain⟨u,rfl,r⟩:=vals1 ai;cases r;obtain⟨its,bX,cI,hz⟩:=a6.list aA;refine call_enumerate_list cI.isList λh' lE nK sz kp=>wpAny_pyIter_enum lE ?_;refine⟨s1.heap.objs.size+1,[s1.heap.objs.size+1,s1.heap.objs.size],_,_,ar,rfl,a6.kept (t':=s1.toks) kp,OM l s1.heap.objs.size (s1.heap.objs.size+1) (Nat.succ_ne_self _),⟨⟨_,lE⟩,nK⟩,λb ae=>?_,q⟩;rcases SH.mp ae with rfl|ae
 ·exact a6.fpOk (WE _) (a6.hok.fresh (WE _))
 rw[SP.mp ae];exact a6.fpOk (SG _) (a6.hok.fresh (SG _))
end L2
namespace L3
open PySem L2
def qS:Nat->Z7->Z7
 |_,[]=>[]
 |n,d::r=>.tup [.int (n:Nat),d]::qS (n+1) r
def OR(u:a2)(g:e1)(s:cx):cx:=λU ρ=>u ρ λd=>∃ds,d=.lst ds/\gI g s U (qS 0 ds) ρ
section
variable{X:a1}{a:WP}{u:a2}{pos p:Pos}
theorem C'{jn:agb}{k:Nat}{tp:Pos}{body:agc}{g:e1}{s:cx}(ak:Y5 (Wp X.prog X.w) X.A X.env X.xe)(hc:X.calm=true)(aq:aV X a u)(OS:c2 X "enumerate")(az:X.mg "enumerate"=none)(aJ:io X (.Tuple jn k tp) g)(ae:fW X body s)(tq:Uf [a] X.env=[(false,YU a X.env)]:=by rfl)(av:∀x,WF (.Call (.Name "enumerate" p) [a] [] pos) X.env x=pure x:=by intro _;rfl){fR:Pos}:
  e9 X (.For (.Tuple jn k tp) (.Call (.Name "enumerate" p) [a] [] pos) body [] fR) (OR u g s):=by
 obtain⟨_,bi,ek⟩:=aq;obtain⟨_,aa,ai⟩:=aJ;obtain⟨_,ab,aw⟩:=ae;refine⟨_,pF ak hc (OQ OS az (di bi d9 (by rw[dE,tq];rfl)) tq) aa ab av,λU ρ h R W B H σ D e sm=>?_⟩;refine ek ρ _ h R W B H σ _ e λd v a5 ar aE ah aK bX=>?_;obtain⟨ds,rfl,aE⟩:=aE;obtain⟨l,vs,rfl,ax,rs⟩:=bX.lstV;refine⟨l,rfl,⟨vs,b0.of (ah.bh _ _ ax)⟩,?_⟩;refine⟨λi m a4 aj=>∃bt aC,m=ds.length-i/\i<=ds.length/\gI g s U (qS i (ds.drop i)) bt/\a3 X.K R W aC aj a4 bt/\bC R B aC/\ca a5 aC,⟨ds.length,ρ,a5,by simp,Tu _,aE,ah,aK,ca.refl _⟩,?_⟩;rintro i m fB a0 ⟨gH,bu,rfl,ao,aU,am,aP,aI⟩;have aA:b0 X.K a0 l vs:=b0.of (am.bh _ _ (aI _ _ ax));by_cases ce:i<ds.length
 ·have xx:i<vs.length:=by rw[rs.length];exact ce
  refine .inr ⟨⟨vs,vs[i],aA,SS xx⟩,λa4 aj=>∃bt aC,gI g s U (qS (i+1) (ds.drop (i+1))) bt/\a3 X.K R W aC aj a4 bt/\bC R B aC/\ca a5 aC,?_,?_⟩
  ·rintro a4 aj ⟨bt,aC,z,a7,g',s'⟩;exact⟨ds.length-(i+1),by lia,bt,aC,rfl,ce,z,a7,g',s'⟩
  rintro x aj ⟨q,y,lK,rfl,rfl,hy⟩;obtain⟨d,hd,a8⟩:=rs.getV (hy vs aA)
  have ga:ds.drop i=d::ds.drop (i+1):=by
   rw[T' ce];rw[SS ce]at hd;rw[SM hd]
  rw[ga]at aU;have g3:=am.grow lK (.tup [.int i,y]);have bz:=am.alloc lK (.tup [.int i,y]);refine ai _ gH _ aU R W _ _ fB (.ref q) _ bz (.tup eo (.cons (.int _) (.cons (a8.mono (aI.trans g3.s)) .nil))) λbt a4 dN a7 _=>?_;have db:=aP.trans g3;have dG:=aI.trans g3.s;exact aw _ bt dN R W _ _ a4 _ a7 ⟨λbt a4 aC aj z a7 g=>⟨bt,aC,z,a7,db.trans g,dG.trans g.s⟩,λbt a4 aC aj z a7 g=>sm.nx bt a4 aC aj z a7 (db.trans g),λbt a4 aC aj z a7 g=>⟨bt,aC,z,a7,db.trans g,dG.trans g.s⟩,λr v aC aj z a7 g q=>sm.rt r v aC aj z a7 (db.trans g) q⟩
 have ei:i=ds.length:=by lia
 subst ei;rw[UP]at aU;exact .inl ⟨⟨vs,aA,by rw[rs.length];exact SG _⟩,sm.nx gH fB bu a0 aU am aP⟩
end
theorem xy{α:Type}{f:α->D}{s:cx}{U:fu}{i j:Nat}(I:List α->Z3->Prop):∀{rs done:List α}{ρ:Z3},I done ρ->
  (∀(pre:List α)(r:α)(rest:List α) ρ,done++rs=pre++r::rest->I pre ρ->∀N:Z3->Prop,(∀cG,I (pre++[r]) cG->N cG)->s {U with nx:=N,ct:=N,bk:=U.nx} ((ρ.set i (.val (.int pre.length))).set j (.val (f r))))->(∀ρ,I (done++rs) ρ->U.nx ρ)->
  gI (nh 2 (iZ (en i) (iZ (en j) ng))) s U (qS done.length (rs.map f)) ρ
 |[],done,ρ,bi,_,ab=>ab ρ (by rw[TK];exact bi)
 |r::rs,done,ρ,bi,aa,ab=>by
  refine⟨_,rfl,rfl,_,_,rfl,_,_,rfl,rfl,aa done r rs ρ rfl bi _ λcG au=>?_⟩;have e:done++r::rs=(done++[r])++rs:=by simp
  rw[e]at aa ab;have:=xy I au aa ab;rwa[SU]at this
end L3
namespace Cut
open PySem L2 L3
theorem OT{x y:Int}:bV x*bV y<0↔x*y<0:=by
 constructor
 ·intro h;rcases C6 h with⟨a,b⟩|⟨a,b⟩
  ·have aa:0<x:=by unfold bV at a;split at a<;>first|assumption|(split at a<;>lia)
   have ab:y<0:=by unfold bV at b;split at b<;>first|lia|(split at b<;>first|assumption|lia)
   exact WG aa ab
  have aa:x<0:=by unfold bV at a;split at a<;>first|lia|(split at a<;>first|assumption|lia)
  have ab:0<y:=by unfold bV at b;split at b<;>first|assumption|(split at b<;>lia)
  rw[Td];exact WG ab aa
 intro h;rcases C6 h with⟨a,b⟩|⟨a,b⟩
 ·have ah:bV x=1:=CP a;have am:bV y = -1:=by unfold bV;rw[TW (by lia),TT b]
  rw[ah,am];decide
 have ah:bV x = -1:=by unfold bV;rw[TW (by lia),TT a]
 have am:bV y=1:=CP b;rw[ah,am];decide
theorem OU{α:Type}{xs:List α}{i:Nat}{x:α}(h:xs[i]?=some x):ea xs (i:Int)=some x:=by
 have lt:i<xs.length:=(TH.mp h).1;unfold ea
 have e:L2.ixN xs.length (i:Int)=some i:=by
  unfold L2.ixN;rw[TT (by lia)];simp[lt]
 rw[e];exact h
end Cut
namespace L3
open PySem L2
section
variable{K:Sx}{X:a1}{e:WP}{aD:agb}{u:a2}{w:cN}{pos p:Pos}
variable{bd:WP}
def OV(u:a2):cK:=λρ k=>u ρ λx=>∃ds,x=.lst ds/\k (!ds.isEmpty)
theorem OW{a:WP}{aS:a2}(aq:aV X a aS)(aF:∀hn,ZO a X.env hn=(do let v <-hn;ZM a.pos;Y3 [v] (Z2 v)):=by intro _;rfl):fi X a (OV aS):=by
 obtain⟨_,aa,ai⟩:=aq;refine⟨_,z0 aa aF,λρ k h R W B H σ Q e q=>?_⟩;refine ai ρ _ h R W B H σ _ e λx v a5 ar aE ah aK s1=>?_;obtain⟨ds,rfl,hk⟩:=aE;obtain⟨a,vs,rfl,aq,rs⟩:=s1.lstV;refine⟨!vs.isEmpty,.inl ⟨vs,b0.of (ah.bh _ _ aq),rfl⟩,q _ a5 ar ?_ ah aK⟩
 have:vs.isEmpty=ds.isEmpty:=by
  have ax:=rs.length;cases vs with
  |nil=>cases ds with
   |nil=>rfl
   |cons d ds=>simp at ax
  |cons v vs=>cases ds with
   |nil=>simp at ax
   |cons d ds=>rfl
 rw[this];exact hk
variable{cp iter:WP}{cA:agb}{scope:Y2}{cl:List (Str×TE)}{ts fr:af9}{js:Z8}{eK:e1}{cV:cK}
end
end L3
namespace Cut
open PySem L2 L3
def gg:aT->Z9->List (aT×aT)
 |_,[]=>[]
 |z,p::r=>(z,p)::gg p r
def lz:aT->Z9->aT
 |z,[]=>z
 |_,p::r=>lz p r
def dB(ps:Z9):List (aT×aT):=gg (lz (0,0,1) ps) ps
theorem Da:∀{z:aT}{L:Z9},L≠[]->lz z L∈L
 |_,[],h=>absurd rfl h
 |z,[p],_=>SD
 |z,p::q::r,_=>SJ _ (Da (z:=p) (L:=q::r) (by simp))
theorem Db:∀{z:aT}{L:Z9}{e:aT×aT},e∈gg z L->(e.1=z\/e.1∈L)/\e.2∈L
 |_,[],_,h=>by cases h
 |z,p::r,e,h=>by
  rcases SH.mp h with rfl|h
  ·exact⟨.inl rfl,SD⟩
  obtain⟨aa,ab⟩:=Db h;refine⟨.inr ?_,SJ _ ab⟩;rcases aa with aa|aa
  ·rw[aa];exact SD
  exact SJ _ aa
theorem Dc{L:Z9}{e:aT×aT}(h:e∈dB L):e.1∈L/\e.2∈L:=by
 have n:L≠[]:=by rintro rfl;cases h
 obtain⟨aa,ab⟩:=Db h;refine⟨?_,ab⟩;rcases aa with aa|aa
 ·rw[aa];exact Da n
 exact aa
end Cut
namespace Cut
open PySem L2 L3
open PySem.Builtin.Int (intBits)
def Dd(T:aT->aT->Rat)(aD:List (aT×aT)):Rat:=(aD.map λe=>T e.1 e.2).sum
def nL(p:aT):Rat:=(p.1:Rat)/(p.2.2:Rat)
def nM(p:aT):Rat:=(p.2.1:Rat)/(p.2.2:Rat)
def oW(p q:aT):Rat:=nL p*nM q-nM p*nL q
theorem h2{x:Int}(h:0<x):(x:Rat)≠0:=λz=>by
 have:=Rat.intCast_eq_zero_iff.mp z;lia
def mA(ps:Z9):Rat:=Dd oW (dB ps)
def vq(a:Int×Int):Rat:=(a.1:Rat)/(a.2:Rat)
theorem De:∀(z:aT)(L:Z9)(k:Nat),k<L.length->(gg z L)[k]?=some (hF (z::L) k,hF L k)
 |_,[],_,h=>absurd h (by simp)
 |z,p::L,0,_=>rfl
 |z,p::L,k+1,h=>by
  have:=De p L k (by simpa using h);simpa[gg,C5]using this
theorem xz:∀(z:aT)(L:Z9),(gg z L).length=L.length
 |_,[]=>rfl
 |z,p::L=>by simp[gg,xz p L]
theorem Df:∀(z:aT)(L:Z9),L≠[]->lz z L=hF L (L.length-1)
 |_,[],h=>absurd rfl h
 |z,[p],_=>rfl
 |z,p::q::L,_=>by
  have:=Df p (q::L) (by simp);show lz p (q::L)=_
  rw[this];rfl
theorem OX(ps:Z9):dB ps=(SA ps.length).map λk=>(hF ps ((k+ps.length-1)%ps.length),hF ps k):=by
 apply Ux;intro k;by_cases h:k<ps.length
 ·have aG:ps≠[]:=by rintro rfl;simp at h
  rw[S1,Uz h];unfold dB;rw[De _ _ _ h];simp only[UR];congr 2;cases k with
  |zero=>
   rw[OL,Df _ _ aG,Tv,VG (by lia)]
  |succ k=>
   rw[C5,show k+1+ps.length-1=k+ps.length by lia,XG,VG (by lia)]
 rw[TM (by unfold dB;rw[xz];lia),TM (by simp;lia)]
end Cut
namespace L3
open PySem L2
theorem xA{α:Type}{f h:α->D}{P:α->Bool}{cV:cK}{u:a2}{fs:Z3}:∀{rs:List α}{dc:aN}{k:Z7->Prop},(∀r∈rs,∀k:Bool->Prop,k (P r)->cV (.val (f r)::fs) k)->(∀r∈rs,∀k:D->Prop,k (h r)->u (.val (f r)::fs) k)->k ((rs.filter P).map h)->fv (en 0) cV u (rs.map f) (dc::fs) k
 |[],_,_,_,_,hk=>hk
 |r::rs,dc,k,aa,ab,hk=>by
  refine aa r SD _ ?_;cases c:P r with
  |true=>
   rw[TT rfl];refine ab r SD _ ?_;refine xA (P:=P) (λx hx=>aa x (SJ _ hx)) (λx hx=>ab x (SJ _ hx)) ?_;rwa[XO c]at hk
  |false=>
   rw[TW SN];refine xA (P:=P) (λx hx=>aa x (SJ _ hx)) (λx hx=>ab x (SJ _ hx)) ?_;rwa[XQ (by rw[c];decide)]at hk
end L3
namespace Cut
open PySem L2 L3
open PySem.Builtin.Int (intBits)
theorem OY{ps:Z9}{i:Nat}(h:i<ps.length):(dB ps).take (i+1)=(dB ps).take i++[(hF ps ((i+ps.length-1)%ps.length),hF ps i)]:=by
 rw[List.take_succ,OX,S1,Uz h];rfl
theorem OZ(ps:Z9):(dB ps).take ps.length=dB ps:=Ul (by unfold dB;rw[xz];exact SG _)
theorem Dg(x:Int):bV x=0↔x=0:=by unfold bV;split<;>first|lia|(split<;>lia)
end Cut
namespace Tab
open PySem PySem.SetTable
def gh(m:Nat):Prop:=m=7\/m=15\/m=31\/m=63\/m=127\/m=255
def qT(m i:Nat):Nat:=(i*5+1)%(m+1)
def ha(m:Nat):Nat->Nat->Nat
 |0,i=>i
 |k+1,i=>ha m k (qT m i)
theorem tr(m:Nat):∀(a b i:Nat),ha m (a+b) i=ha m b (ha m a i)
 |0,b,i=>by rw[Tv];rfl
 |a+1,b,i=>by
  rw[show a+1+b=(a+b)+1 by lia];exact tr m a b _
def iA(m:Nat):List Nat:=if m=7 then[0,1,6,7,4,5,2,3]else if m=15 then[0,1,6,15,12,13,2,11,8,9,14,7,4,5,10,3]else if m=31 then[0,1,6,15,28,13,2,27,24,25,30,7,20,5,26,19,16,17,22,31,12,29,18,11,8,9,14,23,4,21,10,3]else if m=63 then[0,1,6,47,28,45,2,59,56,25,62,7,20,5,58,19,48,49,54,31,12,29,50,43,40,9,46,55,4,53,42,3,32,33,38,15,60,13,34,27,24,57,30,39,52,37,26,51,16,17,22,63,44,61,18,11,8,41,14,23,36,21,10,35]else if m=127 then[0,1,70,111,28,109,2,123,120,25,126,71,20,5,58,83,112,49,54,31,12,29,114,43,104,73,110,119,4,53,42,3,96,97,38,79,124,77,98,91,88,121,94,39,116,101,26,51,80,17,22,127,108,125,82,11,72,41,78,87,100,21,10,99,64,65,6,47,92,45,66,59,56,89,62,7,84,69,122,19,48,113,118,95,76,93,50,107,40,9,46,55,68,117,106,67,32,33,102,15,60,13,34,27,24,57,30,103,52,37,90,115,16,81,86,63,44,61,18,75,8,105,14,23,36,85,74,35]else[0,1,70,239,156,109,2,123,120,25,254,71,148,5,58,83,240,49,182,159,140,157,114,43,104,73,110,247,132,53,170,3,224,97,38,79,124,205,226,219,88,121,222,167,116,101,26,179,208,145,150,255,108,253,82,139,72,169,78,87,100,149,138,99,192,193,6,175,92,45,194,59,56,217,190,7,84,197,250,19,176,241,118,95,76,93,50,235,40,9,46,183,68,245,106,195,160,33,230,15,60,141,162,155,24,57,158,103,52,37,218,115,144,81,86,191,44,189,18,75,8,105,14,23,36,85,74,35,128,129,198,111,28,237,130,251,248,153,126,199,20,133,186,211,112,177,54,31,12,29,242,171,232,201,238,119,4,181,42,131,96,225,166,207,252,77,98,91,216,249,94,39,244,229,154,51,80,17,22,127,236,125,210,11,200,41,206,215,228,21,10,227,64,65,134,47,220,173,66,187,184,89,62,135,212,69,122,147,48,113,246,223,204,221,178,107,168,137,174,55,196,117,234,67,32,161,102,143,188,13,34,27,152,185,30,231,180,165,90,243,16,209,214,63,172,61,146,203,136,233,142,151,164,213,202,163]
theorem O0:(SA 8).all (λe=>ha 7 ((iA 7).getD e 0) 0==e&&decide ((iA 7).getD e 0<=7))=true:=by decide +kernel
theorem O1:(SA 16).all (λe=>ha 15 ((iA 15).getD e 0) 0==e&&decide ((iA 15).getD e 0<=15))=true:=by decide +kernel
theorem O2:(SA 32).all (λe=>ha 31 ((iA 31).getD e 0) 0==e&&decide ((iA 31).getD e 0<=31))=true:=by decide +kernel
theorem O3:(SA 64).all (λe=>ha 63 ((iA 63).getD e 0) 0==e&&decide ((iA 63).getD e 0<=63))=true:=by decide +kernel
theorem O4:(SA 128).all (λe=>ha 127 ((iA 127).getD e 0) 0==e&&decide ((iA 127).getD e 0<=127))=true:=by decide +kernel
theorem O5:(SA 256).all (λe=>ha 255 ((iA 255).getD e 0) 0==e&&decide ((iA 255).getD e 0<=255))=true:=by decide +kernel
theorem Dh{m e:Nat}(az:gh m)(aF:e<=m):∃k,k<=m/\ha m k 0=e:=by
 have go:∀{m:Nat},(SA (m+1)).all (λe=>ha m ((iA m).getD e 0) 0==e&&decide ((iA m).getD e 0<=m))=true->e<=m->∃k,k<=m/\ha m k 0=e:=λh aF=>by
  have:=TC.mp h e (S7.mpr (by lia));rw[Te]at this;exact⟨_,of_decide_eq_true this.2,eq_of_beq this.1⟩
 rcases az with rfl|rfl|rfl|rfl|rfl|rfl
 ·exact go O0 aF
 ·exact go O1 aF
 ·exact go O2 aF
 ·exact go O3 aF
 ·exact go O4 aF
 exact go O5 aF
theorem O6{m:Nat}(az:gh m):ha m (m+1) 0=0:=by
 rcases az with rfl|rfl|rfl|rfl|rfl|rfl<;>decide +kernel
theorem O7{m i e:Nat}(az:gh m)(ao:i<=m)(aF:e<=m):∃k,k<=m/\ha m (k+1) i=e:=by
 obtain⟨a,dy,dJ⟩:=Dh az ao;obtain⟨b,b7,cr⟩:=Dh az aF;by_cases c:a<b
 ·refine⟨b-a-1,by lia,?_⟩;rw[<-dJ,<-tr,show a+(b-a-1+1)=b by lia];exact cr
 refine⟨m-a+b,by lia,?_⟩;rw[<-dJ,<-tr,show a+(m-a+b+1)=(m+1)+b by lia,tr,O6 az];exact cr
def hb(m:Nat):Nat->Nat->Nat->Nat×Nat
 |0,i,q=>(i,q)
 |k+1,i,q=>hb m k (leap m i q).1 (leap m i q).2
theorem Di(m:Nat):∀(a b i q:Nat),hb m (a+b) i q=hb m b (hb m a i q).1 (hb m a i q).2
 |0,b,i,q=>by rw[Tv];rfl
 |a+1,b,i,q=>by
  rw[show a+1+b=(a+b)+1 by lia];exact Di m a b _ _
theorem Dj(m:Nat):∀(k i q:Nat),(hb m k i q).2=q/32^k
 |0,i,q=>by simp[hb]
 |k+1,i,q=>by
  show(hb m k (leap m i q).1 (leap m i q).2).2=_
  rw[Dj m k];show q/32/32^k=_
  rw[Nat.div_div_eq_div_mul,Nat.pow_succ,Wm]
theorem Dk(m:Nat):∀(k i q:Nat),0<k->(hb m k i q).1<=m
 |0,_,_,h=>absurd h (by lia)
 |k+1,i,q,_=>by
  show(hb m k (leap m i q).1 (leap m i q).2).1<=m
  cases k with
  |zero=>
   show(i*5+1+q/32)%(m+1)<=m
   exact WH (VK _ (VM _))
  |succ k=>exact Dk m (k+1) _ _ (by lia)
theorem Dl(m:Nat):∀(k i:Nat),(hb m k i 0).1=ha m k i/\(hb m k i 0).2=0
 |0,i=>⟨rfl,rfl⟩
 |k+1,i=>by
  have e:leap m i 0=(qT m i,0):=by simp[leap,qT]
  show(hb m k (leap m i 0).1 (leap m i 0).2).1=ha m k (qT m i)/\_
  rw[e];exact Dl m k (qT m i)
theorem Dm{m i q e:Nat}(az:gh m)(aA:q<2^64)(aF:e<=m):∃k,1<=k/\k<=m+14/\(hb m k i q).1=e:=by
 have z:(hb m 13 i q).2=0:=by
  rw[Dj];exact Nat.div_eq_of_lt (S9 aA (by decide))
 obtain⟨k,aa,ab⟩:=O7 az (Dk m 13 i q (by decide)) aF;refine⟨13+(k+1),by lia,by lia,?_⟩;rw[Di,z,(Dl m (k+1) _).1];exact ab
variable{t:Yi}{hashAt:Nat->Int}{h:Int}
theorem oX(hd:t.dummies = #[])(j:Nat):t.slot j≠.dummy:=by
 unfold SetTable.slot;dsimp only;split
 ·exact λz=>by cases z
 rw[TW]
 ·exact λz=>by cases z
 rw[hd];simp[SetTable.has]
theorem xB(m i:Nat):runEnd m i-i<=9:=by unfold runEnd;split<;>lia
theorem O8(hd:t.dummies = #[]):∀(k fuel:Nat)(p:Probe),1<=k->t.slot (hb t.mask k p.i p.perturb).1=.empty->p.more+10*k<=fuel->p.more<=9->∃met,SetTable.probe.go t hashAt h (fuel+1) p=some met:=by
 intro k;induction k with
 |zero=>intro _ _ h;lia
 |succ k O9=>
  intro fuel;induction fuel with
  |zero=>intro p _ _ hf;lia
  |succ fuel b2=>
   intro p hk av hf az;unfold SetTable.probe.go;cases q:t.slot p.j with
   |empty=>exact⟨_,rfl⟩
   |dummy=>exact absurd q (oX hd _)
   |live i=>
    dsimp only;split
    ·exact⟨_,rfl⟩
    unfold SetTable.advance;by_cases c:p.more>0
    ·rw[TT c];exact b2 {p with j:=p.j+1,more:=p.more-1} hk av (by dsimp only;lia) (by dsimp only;lia)
    rw[TW c];dsimp only;have au:=xB t.mask (leap t.mask p.i p.perturb).1;cases k with
    |zero=>
     have av:t.slot (leap t.mask p.i p.perturb).1=.empty:=av;unfold SetTable.probe.go;dsimp only;rw[av];exact⟨_,rfl⟩
    |succ k=>exact O9 fuel {p with j:=(leap t.mask p.i p.perturb).1,more:=runEnd t.mask (leap t.mask p.i p.perturb).1-(leap t.mask p.i p.perturb).1,i:=(leap t.mask p.i p.perturb).1,perturb:=(leap t.mask p.i p.perturb).2} (by lia) av (by dsimp only;lia) (by dsimp only;lia)
theorem sub_len:∀{l m:Z8},l.Nodup->(∀x∈l,x∈m)->l.length<=m.length
 |[],_,_,_=>Tu _
 |a::l,m,aG,h=>by
  have aq:=h a SD;have b2:=sub_len (l:=l) (m:=m.erase a) (TQ.mp aG).2 λx hx=>(WI (λe=>(TQ.mp aG).1 (by rw[<-e];exact hx))).mpr (h x (SJ _ hx));have e:=WJ aq;have p:=WK aq;rw[SR];lia
theorem tu{j i:Nat}(e:t.slot j=.live i):t.place[i]?=some j:=by
 unfold SetTable.slot at e;dsimp only at e;split at e
 ·rename_i z
  injection e with e
  subst e;exact eq_of_beq z
 split at e<;>cases e
theorem O'(hd:t.dummies = #[])(hf:t.place.size<=t.mask):∃j,j<=t.mask/\t.slot j=.empty:=by
 apply UX;intro n
 have all:∀j∈SA (t.mask+1),j∈t.place.toList:=λj aQ=>by
  cases q:t.slot j with
  |empty=>exact absurd ⟨j,by have:=S7.mp aQ;lia,q⟩ n
  |dummy=>exact absurd q (oX hd _)
  |live i=>
   have:=tu q;exact Vq.mpr (WL this)
 have:=sub_len (List.nodup_range (n:=t.mask+1)) all;rw[T9,S8]at this;lia
structure kO(t:Yi)(p:Probe):Prop where
 more:p.more<=9
 pert:p.perturb<2^64
theorem Dn(h:Int):bits h<2^64:=by
 unfold bits;have aa:=TF h (show(2^64:Int)≠0 by decide);have ab:=TG h (show(0:Int)<2^64 by decide);lia
theorem Do(t:Yi)(h:Int):kO t (t.probeStart h):=⟨xB _ _,Dn h⟩
theorem kO.next{p:Probe}(s:kO t p):kO t (t.advance p):=by
 unfold SetTable.advance;split
 ·exact⟨by dsimp only;have:=s.more;lia,s.pert⟩
 refine⟨xB _ _,?_⟩;show p.perturb/32<2^64
 exact Nat.lt_of_le_of_lt (Nat.div_le_self _ _) s.pert
theorem Dp(az:gh t.mask)(hd:t.dummies = #[])(hf:t.place.size<=t.mask){p:Probe}(s:kO t p):∃met,t.probe hashAt h p=some met:=by
 obtain⟨e,aF,av⟩:=O' hd hf;obtain⟨k,cy,k2,mi⟩:=Dm (i:=p.i) az s.pert aF;have Pa:10*turns t.mask=(10*turns t.mask-1)+1:=by unfold turns;lia
 unfold SetTable.probe;rw[Pa];exact O8 hd k _ p cy (by rw[mi];exact av) (by unfold turns;have:=s.more;lia) s.more
end Tab
namespace Tab
open PySem PySem.SetTable
theorem Dq{m:Nat}{owner:Array (Option Nat)}:∀(k fuel i q:Nat),(owner.getD (hb m k i q).1 (some 0)).isNone=true->k<fuel->∃j,SetTable.layClean.free m owner fuel i q=some j/\(owner.getD j (some 0)).isNone=true
 |_,0,_,_,_,h=>absurd h (by lia)
 |k,fuel+1,i,q,av,hk=>by
  unfold SetTable.layClean.free;cases c:(SA (runEnd m i+1-i)).find? λk=>(owner.getD (i+k) (some 0)).isNone with
  |some a=>exact⟨i+a,rfl,WM (p:=λk=>(owner.getD (i+k) (some 0)).isNone) c⟩
  |none=>
   cases k with
   |zero=>
    have n:=XR.mp c 0 (S7.mpr (by unfold runEnd;split<;>lia));exact absurd av n
   |succ k=>exact Dq k fuel (leap m i q).1 (leap m i q).2 av (by lia)
def cnt(owner:Array (Option Nat)):Nat:=owner.toList.countP Option.isSome
structure mB(m:Nat)(owner:Array (Option Nat))(k:Nat):Prop where
 sz:owner.size=m+1
 ct:cnt owner=k
 lt:∀x∈owner.toList,∀v,x=some v->v<k
theorem mB.empty{m k:Nat}{owner:Array (Option Nat)}(o:mB m owner k)(hk:k<=m):∃e,e<=m/\(owner.getD e (some 0)).isNone=true:=by
 apply UX;intro n
 have all:∀x∈owner.toList,Option.isSome x=true:=λx hx=>by
  obtain⟨i,ao,e⟩:=List.getElem_of_mem hx;rw[S8]at ao;cases x with
  |some v=>rfl
  |none=>
   refine absurd ⟨i,by have:=o.sz;lia,?_⟩ n;rw[Ta,TN ao];have:owner[i]=none:=by rw[<-e,XS]
   rw[this];rfl
 have e:=List.countP_eq_length.mpr all;have:=o.ct;unfold cnt at this;rw[S8,o.sz]at e;lia
theorem mB.put{m k j:Nat}{owner:Array (Option Nat)}(o:mB m owner k)(aQ:(owner.getD j (some 0)).isNone=true):mB m (owner.setIfInBounds j (some k)) (k+1):=by
 have lt:j<owner.size:=by
  by_cases c:j<owner.size
  ·exact c
  rw[Ta,U4 (by lia)]at aQ;cases aQ
 have xC:owner[j]=none:=by
  rw[Ta,TN lt]at aQ;exact Wq.mp aQ
 have lu:(owner.setIfInBounds j (some k)).toList=owner.toList.set j (some k):=Array.toList_setIfInBounds;have lt':j<owner.toList.length:=by rw[S8];exact lt
 have Pb:owner.toList[j]=none:=by rw[XS];exact xC
 refine⟨by rw[Array.size_setIfInBounds];exact o.sz,?_,λx hx v e=>?_⟩
 ·unfold cnt;rw[lu,List.countP_set lt',Pb];have:=o.ct;unfold cnt at this;rw[this];rfl
 rw[lu]at hx;rcases List.mem_or_eq_of_mem_set hx with h|h
 ·exact Tw (o.lt x h v e)
 rw[e]at h;have:=SM h;lia
theorem tv{m:Nat}(az:gh m):∀(av:Z5)(owner:Array (Option Nat))(k:Nat),mB m owner k->k+av.length<=m->
  ∃jo,av.foldl (init:=some (owner,k)) (λacc h=>do
   let(owner,k) <-acc
   let j <-SetTable.layClean.free m owner (turns m) (bits h%(m+1)) (bits h)
   pure (owner.setIfInBounds j (some k),k+1))=some (jo,k+av.length)/\mB m jo (k+av.length)
 |[],owner,k,o,_=>⟨owner,rfl,o⟩
 |h::av,owner,k,o,ax=>by
  rw[SR]at ax;obtain⟨e,aF,z⟩:=o.empty (by lia);obtain⟨a,_,dJ,gN⟩:=Dm (i:=bits h%(m+1)) az (Dn h) aF;obtain⟨j,j1,j2⟩:=Dq (m:=m) (owner:=owner) a (turns m) (bits h%(m+1)) (bits h) (by rw[gN];exact z) (by unfold turns;lia);obtain⟨d3,ah,am⟩:=tv az av _ (k+1) (o.put j2) (by lia);refine⟨d3,?_,by rw[SR,show k+(av.length+1)=k+1+av.length by lia];exact am⟩;rw[UY,SR,show k+(av.length+1)=k+1+av.length by lia,<-ah];congr 1;show(do let j <-SetTable.layClean.free m owner (turns m) (bits h%(m+1)) (bits h);pure (owner.setIfInBounds j (some k),k+1))=some (owner.setIfInBounds j (some k),k+1);rw[j1];rfl
theorem xD(m:Nat):mB m (XT (m+1) none) 0:=by
 refine⟨Array.size_replicate,?_,λx hx v e=>?_⟩
 ·unfold cnt;rw[XU];refine List.countP_eq_zero.mpr λx hx=>?_;rw[XW hx];decide
 rw[XU]at hx;have:=XW hx;rw[e]at this;cases this
theorem Dr(owner:Array (Option Nat)):owner.toList=(SA owner.size).map λj=>owner.getD j none:=by
 apply Ux;intro i;by_cases h:i<owner.size
 ·rw[S1,Uz h,T7,TN h];simp[Ta,TN h]
 rw[TM (by rw[S8];lia),TM (by simp;lia)]
theorem Pc{m finger moves:Nat}{led plain:Bool}{hashes:Array Int}(az:gh m)(aG:hashes.size<=m):
  ∃t order,SetTable.laid m finger moves led plain hashes=some (t,order)/\t.mask=m/\t.dummies = #[]/\t.place.size=hashes.size/\order.size=hashes.size/\(∀x∈order.toList,x<hashes.size)/\t.led=led/\t.plain=plain:=by
 obtain⟨o,e,w⟩:=tv az hashes.toList _ 0 (xD m) (by rw[S8];lia);rw[Tv,S8]at e w
 have mC:SetTable.layClean m hashes=some o:=by
  unfold SetTable.layClean;rw[<-WN,e];rfl
 have len:((SA (m+1)).filterMap λj=>(o.getD j none).map (j,·)).length=hashes.size:=by
  rw[List.length_filterMap_eq_countP];have c:=w.ct;unfold cnt at c;rw[Dr,List.countP_map,w.sz]at c;rw[<-c];congr 1;funext j;simp
 refine⟨_,_,by unfold SetTable.laid;rw[mC];rfl,rfl,rfl,?_,?_,λx hx=>?_,rfl,rfl⟩
 ·show((((SA (m+1)).filterMap λj=>(o.getD j none).map (j,·)).map (·.1)).toArray).size=_
  rw[SX,Sw,len]
 ·show((((SA (m+1)).filterMap λj=>(o.getD j none).map (j,·)).map (·.2)).toArray).size=_
  rw[SX,Sw,len]
 have hx:x∈(((SA (m+1)).filterMap λj=>(o.getD j none).map (j,·)).map (·.2)).toArray.toList:=hx;rw[Vf]at hx;obtain⟨p,ak,rfl⟩:=SF.mp hx;obtain⟨j,aQ,am⟩:=T4.mp ak;have j6:=S7.mp aQ;cases q:o.getD j none with
 |none=>rw[q]at am;cases am
 |some v=>
  rw[q]at am;have am:=SM am;rw[<-am];refine w.lt (some v) ?_ v rfl;rw[Dr];exact SF.mpr ⟨j,by rw[w.sz];exact aQ,q⟩
def h3(t:Yi):Nat->Probe->Probe
 |0,p=>p
 |n+1,p=>h3 t n (t.advance p)
section
variable{t:Yi}{hashAt:Nat->Int}{h:Int}
theorem xE(p:Probe):(t.advance p).dummy=p.dummy:=by
 unfold SetTable.advance;split<;>rfl
theorem Ds(hd:t.dummies = #[]):∀(fuel:Nat)(p:Probe)(met:Met),SetTable.probe.go t hashAt h fuel p=some met->
  (∃j n,met=.empty j p.dummy/\n<fuel/\t.slot (h3 t n p).j=.empty)\/(∃j i n,met=.candidate j i (h3 t (n+1) p)/\t.slot j=.live i/\∀m,m<=n->t.slot (h3 t m p).j≠.empty)
 |0,p,met,e=>by cases e
 |fuel+1,p,met,e=>by
  unfold SetTable.probe.go at e;cases q:t.slot p.j with
  |empty=>
   rw[q]at e;cases e;exact .inl ⟨_,0,rfl,VM _,q⟩
  |dummy=>exact absurd q (oX hd _)
  |live i=>
   rw[q]at e;dsimp only at e;split at e
   ·cases e;refine .inr ⟨p.j,i,0,rfl,q,λm az=>?_⟩;have:m=0:=by lia
    subst this;show t.slot p.j≠.empty
    rw[q];exact λz=>by cases z
   rcases Ds hd fuel (t.advance p) met e with⟨j,n,a,b,c⟩|⟨j,fm,n,a,b,c⟩
   ·exact .inl ⟨j,n+1,by rw[a,xE],by lia,c⟩
   refine .inr ⟨j,fm,n+1,a,b,λm az=>?_⟩;cases m with
   |zero=>show t.slot p.j≠.empty;rw[q];exact λz=>by cases z
   |succ m=>exact c m (by lia)
theorem Pd(az:gh t.mask)(hd:t.dummies = #[])(hf:t.place.size<=t.mask){p:Probe}(s:kO t p):∃n,n<10*turns t.mask/\t.slot (h3 t n p).j=.empty:=by
 obtain⟨met,e⟩:=Dp (hashAt:=λ_=>1) (h:=0) az hd hf s;have a7:=e;unfold SetTable.probe at e;rcases Ds hd _ p met e with⟨j,n,_,b,c⟩|⟨j,i,n,a,b,c⟩
 exact⟨n,b,c⟩
 
 exfalso
 have no:∀(fuel:Nat)(p:Probe)(j i:Nat)(nx:Probe),SetTable.probe.go t (λ_=>1) 0 fuel p≠some (.candidate j i nx):=λfuel=>by
  induction fuel with
  |zero=>intro p j i nx z;cases z
  |succ fuel b2=>
   intro p j i nx z;unfold SetTable.probe.go at z;cases q:t.slot p.j with
   |empty=>rw[q]at z;cases z
   |dummy=>exact absurd q (oX hd _)
   |live fm=>
    rw[q]at z;exact b2 _ _ _ _ z
 rw[a]at e;exact no _ _ _ _ _ e
theorem Dt{p:Probe}:∀(n:Nat){p:Probe},kO t p->kO t (h3 t n p)
 |0,_,s=>s
 |n+1,_,s=>Dt (p:=p) n s.next
theorem Du:∀(n:Nat)(p:Probe),(h3 t n p).dummy=p.dummy
 |0,_=>rfl
 |n+1,p=>by
  show(h3 t n (t.advance p)).dummy=_
  rw[Du n,xE]
theorem Dv:∀(a b:Nat)(p:Probe),h3 t (a+b) p=h3 t b (h3 t a p)
 |0,b,p=>by rw[Tv];rfl
 |a+1,b,p=>by
  rw[show a+1+b=(a+b)+1 by lia];exact Dv a b _
end
section
variable{prog:UF}{w:Yd}{A:Yj}{E:SL->SZ->Prop}{s:SZ}
abbrev gO(prog:UF)(w:Yd)(h:Yn)(b:TE):Prop:=∃ks,YC (YN prog w) h ks b
theorem ints_of{ks:Z5}{vs:af'}(h:ItemsAre (YN prog w) ks vs):∀v∈vs,∃i bm,v=.int i bm:=by
 induction h with
 |nil=>intro v hv;cases hv
 | @cons k v ks vs aa _ b2=>
  intro u hu;rcases SH.mp hu with rfl|hu
  ·cases u with
   |int i bm=>exact⟨i,bm,rfl⟩
   |_=>cases aa
  exact b2 u hu
theorem gO.at{b:TE}(k:gO prog w s.heap b):∃o items n,s.heap.get? b=some o/\o.cls=.type "tuple"/\o.data=.seq items n/\∀v∈items.toList,∃i bm,v=.int i bm:=by
 obtain⟨ks,o,items,n,aa,ab,a',bG⟩:=k;exact⟨o,items,n,aa,ab,a',ints_of bG⟩
theorem Dw{b:TE}{o:Obj}{items:Array SL}{n:Nat}{Q:Option (Array SL)->SZ->Prop}(aM:s.heap.get? b=some o)(hd:o.data=.seq items n)(h:Q (some items) s):wpAny (Wp prog w) A (Y9 (.ref b)) Q E s:=by
 unfold Y9;refine SB (wpAny_load aM ?_);rw[hd];exact TD h
theorem Dx{b:TE}{Q:Bool->SZ->Prop}(k:gO prog w s.heap b)(h:Q false s):wpAny (Wp prog w) A (ofAClassStatement 8 (.ref b)) Q E s:=by
 obtain⟨o,items,n,aM,hc,hd,ao⟩:=k.at;unfold ofAClassStatement;refine SB (wpAny_typeOf ⟨o,aM,hc⟩ ?_);refine SB (TD ?_);simp only[VN,Tn,if_false];refine SB (Dw aM hd ?_);dsimp only;refine SB ?_;rw[<-VC];refine Yz _ (λrest r s'=>r.1=none/\s'=s/\∀v∈rest,∃i bm,v=.int i bm) _ ?_ ?_ _ _ ⟨rfl,rfl,ao⟩
 ·rintro v rest r s' ⟨au,rfl,hv⟩;obtain⟨i,bm,rfl⟩:=hv v SD;refine SB (TD ?_);exact TD ⟨rfl,rfl,λu hu=>hv u (SJ _ hu)⟩
 rintro⟨ai,aw⟩ s' ⟨au,rfl,_⟩;simp only at au;subst au;exact TD h
theorem Pe{x:TE}{Q:Bool->SZ->Prop}(hx:gO prog w s.heap x)(ys:af')(hy:∀y∈ys,∃b,y=.ref b/\gO prog w s.heap b)(h:Q false s):wpAny (Wp prog w) A (searchCouldBeSeen (.ref x) ys) Q E s:=by
 unfold searchCouldBeSeen;refine SB ?_;refine Yz _ (λrest r s'=>r.1=none/\s'=s/\∀y∈rest,∃b,y=.ref b/\gO prog w s.heap b) _ ?_ ?_ _ _ ⟨rfl,rfl,hy⟩
 ·rintro v rest r s' ⟨au,rfl,hv⟩;obtain⟨b,rfl,ae⟩:=hv v SD;have dO:∀y∈rest,∃b,y=.ref b/\gO prog w s'.heap b:=λu hu=>hv u (SJ _ hu);dsimp only;split
  ·exact TD ⟨rfl,rfl,dO⟩
  obtain⟨b8,Pf⟩:=id hx;obtain⟨nt,xF⟩:=id ae;refine SB (Zy Pf ?_);simp only[VN,Tn,if_false];refine SB (Zy xF ?_);simp only[VN,Tn,if_false];refine SB (Dx hx ?_);simp only[Tn,if_false];refine SB (Dx ae ?_);simp only[Tn,if_false];exact TD ⟨rfl,rfl,dO⟩
 rintro⟨ai,aw⟩ s' ⟨au,rfl,_⟩;simp only at au;subst au;exact TD h
theorem Pg{x:TE}{Q:Bool->SZ->Prop}(hx:gO prog w s.heap x)(h:∀b,Q b s):wpAny (Wp prog w) A (hashByValue 8 (.ref x)) Q E s:=by
 obtain⟨o,items,n,aM,hc,hd,ao⟩:=hx.at;unfold hashByValue;refine SB (Zw ⟨o,aM,hc⟩ F.slot_tuple_hash.lookup ?_);dsimp only;refine SB (Dw aM hd ?_);refine SB ?_;show wpAny _ _ (forIn items _ _) _ _ s
 rw[<-VC];refine Yz _ (λrest r s'=>s'=s/\∀v∈rest,∃i bm,v=.int i bm) _ ?_ ?_ _ _ ⟨rfl,ao⟩
 ·rintro v rest r s' ⟨rfl,hv⟩;obtain⟨i,bm,rfl⟩:=hv v SD;refine SB (TD ?_);exact TD ⟨rfl,λu hu=>hv u (SJ _ hu)⟩
 rintro⟨ai,aw⟩ s' ⟨rfl,_⟩;cases ai with
 |none=>exact TD (h _)
 |some b=>exact TD (h _)
end
section
variable{prog:UF}{w:Yd}{A:Yj}{E:SL->SZ->Prop}{s:SZ}
def Dy(prog:UF)(w:Yd)(h:Yn)(aD:Array (Int×SL)):Prop:=∀e∈aD.toList,∃b,e.2=.ref b/\gO prog w h b
structure oY(t:Yi)(n:Nat):Prop where
 msk:gh t.mask
 dum:t.dummies = #[]
 sz:t.place.size=n
 lo:n*5<t.mask*3
theorem gh.odd{m:Nat}(h:gh m):(m%2==0)=false:=by rcases h with rfl|rfl|rfl|rfl|rfl|rfl<;>rfl
theorem oY.fits{t:Yi}{n:Nat}(o:oY t n):t.fits n=true:=by
 have:=o.lo;unfold SetTable.fits SetTable.fill;rw[o.sz,o.dum];simp only[beq_self_eq_true,SW,decide_eq_true_eq];show n+0<=_
 lia
def Dz(prog:UF)(w:Yd)(h:Yn)(a:TE)(n:Nat):Prop:=
 ∃o aD bW t,h.get? a=some o/\o.ExactSet/\o.data=.set aD bW t/\aD.size=n/\oY t n/\Dy prog w h aD
theorem Ph{t:Yi}{n:Nat}(az:gh t.mask)(hd:t.dummies = #[])(hz:t.place.size=n)(j:Nat):(t.put j).1.mask=t.mask/\(t.put j).1.dummies = #[]/\(t.put j).1.place.size=n+1/\(t.put j).1.led=t.led:=by
 unfold SetTable.put;refine⟨rfl,?_,?_,rfl⟩
 ·dsimp only;rw[hd];rfl
 show(SetTable.insertAt t.place _ j).size=_
 rw[<-S8,(SetTable.insertAt_perm _ _ _).length_eq,S8,XB,hz]
theorem Pi{n m:Nat}(az:gh m)(lo:n*5<m*3)(ao:¬(n+1)*5<m*3)(aG:n+1<=76):gh (SetTable.sizeAbove (SetTable.grown (n+1))-1)/\(n+1)*5<(SetTable.sizeAbove (SetTable.grown (n+1))-1)*3/\SetTable.sizeAbove (SetTable.grown (n+1))<=256:=by
 rcases az with rfl|rfl|rfl|rfl|rfl|rfl
 ·have:n=4:=by lia
  subst this;refine⟨.inr (.inr (.inl rfl)),by decide,by decide⟩
 ·have:n=8:=by lia
  subst this;refine⟨.inr (.inr (.inr (.inl rfl))),by decide,by decide⟩
 ·have:n=18:=by lia
  subst this;refine⟨.inr (.inr (.inr (.inr (.inl rfl)))),by decide,by decide⟩
 ·have:n=37:=by lia
  subst this;refine⟨.inr (.inr (.inr (.inr (.inr rfl)))),by decide,by decide⟩
 ·lia
 lia
theorem stored{h:Yn}{a:TE}{o:Obj}{aD:Array (Int×SL)}{bW:Nat}{t:Yi}(aM:h.get? a=some o)(hd:o.data=.set aD bW t)(k0:Array (Int×SL))(t':Yi):
  (h.update a (Obj.putSet k0 t')).get? a=some {o with data:=.set k0 (bW+1) t' }:=by
 have:=Heap.get?_update_self (Obj.putSet k0 t') aM (by rw[putSet_of k0 t' hd];rfl);rwa[putSet_of k0 t' hd]at this
end
section
variable{prog:UF}{w:Yd}{A:Yj}{E:SL->SZ->Prop}{s:SZ}
theorem gO.iter{h:Yn}{b I l:TE}{i:Nat}(x:gO prog w h b)(ao:h.IsListIter I l i):b≠I:=λe=>by
 obtain⟨q,b9,its,m,aa,ab,_⟩:=x;obtain⟨o,a',bG,_⟩:=ao;subst e;rw[aa]at a';have:=SM a';subst this;rw[ab]at bG;exact absurd bG (by decide)
theorem gO.set{h:Yn}{b S:TE}{n:Nat}(x:gO prog w h b)(ao:Dz prog w h S n):b≠S:=λe=>by
 obtain⟨q,b9,its,m,aa,ab,_⟩:=x;obtain⟨o,_,_,_,a',bG,_⟩:=ao;subst e;rw[aa]at a';have:=SM a';subst this;have eb:=bG.1;rw[ab]at eb;exact absurd eb (by decide)
abbrev fresh(led:Bool):Obj:={cls:=.type "set",dict:=none,data:=.set #[] 0 (.fresh 0 0 led)}
end
end Tab
namespace L2
open PySem PySem.Spec PyProof.Rows PySem.W
theorem Pj{prog:UF}{w:Yd}{ns:Z5}:∀{aO:af'},bP (ns.map V.int) aO->ItemsAre (YN prog w) ns aO:=by
 induction ns with
 |nil=>intro aO r;cases r;exact .nil
 |cons n ns b2=>
  intro aO r;cases r with
  |cons ai aw=>
   obtain⟨t,rfl⟩:=ai;exact .cons (intKind_is _ _ _ _) (b2 aw)
end L2
namespace L3
open PySem L2
theorem allInts{K:Sx}{B:al}:∀{ns:Z5}{vs:Z4},Reps K B vs (ns.map D.int)->vs=ns.map V.int
 |[],_,r=>by cases r;rfl
 |n::ns,_,r=>by
  cases r with
  |cons ai aw=>rw[ai.intV,allInts aw];rfl
end L3
namespace Tab
open PySem
section
variable{prog:UF}{w:Yd}{A:Yj}{E:SL->SZ->Prop}{s:SZ}
abbrev tx(v:SL)(c:Nat):Obj:={cls:=.type "list",dict:=none,data:=.seq #[v,v] c,slots :=#[]}
theorem DA{I S:TE}{v:SL}{c n:Nat}{ci wr:aga}{P:Nat->SL->Prop}{St:Nat->Yn->Prop}{R:ZF->SZ->Prop}(W:Walks prog w A.in1 I ci wr n P St)(dk:S∉wr)(st:St n s.heap)(g:s.heap.get? S=some (tx v c))(eS:∀h' bm,(∀b o,b∉wr->b≠S->s.heap.get? b=some o->h'.get? b=some o)->R (.ok (.ret v)) {s with heap:=h',toks:=bm}):
  codeAny (Wp prog w) A (.builtin "max.loop" ⟨[.ref I,.none,.ref S],[]⟩) R s:=by
 refine Yg F.entry_max_loop ?_;simp only[Around.under_plainId F.plain_max_loop];show wpAny _ A.in1 (Y9 (.ref S) >>= _) _ _ _
 refine SB (Ys g rfl (show wpAny _ A.in1 (Zk (YV (.ref I)) _ >>= _) _ _ _ from SB (Yx (W.done s _ _ st λh' bm kp=>?_))));have g':=kp S _ dk g;show wpAny _ A.in1 (Y8 S (λ_ => #[]) >>= _) _ _ _
 refine SB (Yl g' rfl (SB (YG (TD ?_))));exact eS _ bm λb o b7 cr e=>(Heap.get?_update_other _ _ (S2 cr)).trans (kp b o b7 e)
theorem DB{I S:TE}{v:SL}{c n:Nat}{ci wr:aga}{P:Nat->SL->Prop}{St:Nat->Yn->Prop}{R:ZF->SZ->Prop}(W:Walks prog w A.in1 I ci wr n P St)(dk:S∉wr)(st:St n s.heap)(g:s.heap.get? S=some (tx v c))(eS:∀h' bm,(∀b o,b∉wr->b≠S->s.heap.get? b=some o->h'.get? b=some o)->R (.ok (.ret v)) {s with heap:=h',toks:=bm}):
  codeAny (Wp prog w) A (.builtin "min.loop" ⟨[.ref I,.none,.ref S],[]⟩) R s:=by
 refine Yg F.entry_min_loop ?_;simp only[Around.under_plainId F.plain_min_loop];show wpAny _ A.in1 (Y9 (.ref S) >>= _) _ _ _
 refine SB (Ys g rfl (show wpAny _ A.in1 (Zk (YV (.ref I)) _ >>= _) _ _ _ from SB (Yx (W.done s _ _ st λh' bm kp=>?_))));have g':=kp S _ dk g;show wpAny _ A.in1 (Y8 S (λ_ => #[]) >>= _) _ _ _
 refine SB (Yl g' rfl (SB (YG (TD ?_))));exact eS _ bm λb o b7 cr e=>(Heap.get?_update_other _ _ (S2 cr)).trans (kp b o b7 e)
end
end Tab
namespace L3
open PySem L2
def DC(g:Z5->Z5->(D->Prop)->Prop)(aS bf:a2):a2:=λρ k=>aS ρ λx=>bf ρ λy=>∃ns bB:Z5,x=.tup (ns.map D.int)/\y=.tup (bB.map D.int)/\g ns bB k
variable{X:a1}{a b:WP}{aS bf:a2}{p pos:Pos}
end L3
namespace HT
open PySem PySem.Spec PyProof.Rows
open PySem.SeqAt
open PySem.AutoSeq1 (wpAny_loadPart')
open PySem.MeetsSeq PySem.MeetsSeq2 PySem.MeetsSeq3
def lexQ(f:Int->Int->Bool)(e:Bool):Z5->Z5->Bool
 |a::r,c::q=>if a=c then lexQ f e r q else f a c
 |_,_=>e
theorem oZ{vs:af'}{ns:Z5}(h:Yr vs ns):vs.length=ns.length:=by
 induction h with
 |nil=>rfl
 |cons _ _ _ b2=>rw[SR,SR,b2]
theorem Pk(l b:TE)(items ev:Array SL)(n n2:Nat)(jh qU:Option TE)(sl qV:Array (Option SL))(ns bB:Z5)(ao:Yr items.toList ns)(aQ:Yr ev.toList bB)(ax:ns.length=bB.length):
  Meets (Builtin.«tuple.__gt__» ⟨[.ref l,.ref b],[]⟩)
   (λ_ R s=>s.heap.get? l=some ⟨.type "tuple",jh,.seq items n,sl⟩/\s.heap.get? b=some ⟨.type "tuple",qU,.seq ev n2,qV⟩/\R (.ok (.ret (.bool (lexQ (λa c=>decide (c<a)) false ns bB)))) s):=
 .of_wp λprog w A R s h=>by
  obtain⟨ak,g,d,bm,os⟩:=s;obtain⟨gM,ae,h⟩:=h;have qW:=oZ ao;have qX:=oZ aQ;have bJ:=AutoSeq1.sub_tuple_tuple
  wp_walk using YH gM,YH ae,Yz _ (λrest b s'=>b.1=none/\s'=⟨ak,g,d,bm,os⟩/\∃(vs ws:af')(he hg:Z5),rest=vs.zip ws/\Yr vs he/\Yr ws hg/\he.length=hg.length/\lexQ (λa c=>decide (c<a)) false ns bB=lexQ (λa c=>decide (c<a)) false he hg) _
  case turn=>
   rintro⟨y,x⟩ rest b s' ⟨ka,rfl,vs,ws,he,hg,hz,hv,hw,aG,aA⟩;cases hv with
   |nil=>rw[WO]at hz;cases hz
   |cons a t hv=>
    cases hw with
    |nil=>rw[WQ]at hz;cases hz
    |cons c u hw=>
     rw[VO]at hz;injection hz with aa ab
     injection aa with a' bG
     subst a' bG;obtain⟨e,aF,kN⟩:=v0 A.in1 ⟨ak,g,d,bm,os⟩ a t c u;refine SB (aF prog w _ _ ?_);cases e with
     |true=>
      wp_walk
      exact⟨rfl,rfl,_,_,_,_,ab,hv,hw,by simpa using aG,by rw[aA,lexQ,TT (kN.mp rfl)]⟩
     |false=>
      have qY:∀(E:SL->SZ->Prop)(Q:SL->SZ->Prop),Q (.bool (decide (c<a))) ⟨ak,g,d,bm,os⟩->wpAny (Wp prog w) A.in1 (Yo .Gt (.int a t) (.int c u)) Q E ⟨ak,g,d,bm,os⟩:=λE Q q=>PyProof.Rows.gt_int q
      wp_walk using qY
      rw[lexQ,TW (λz=>SN (kN.mpr z))]at aA;exact⟨_,rfl,by rw[<-aA];exact h⟩
  case fin=>
   rintro⟨b7,cr⟩ s' ⟨ka,rfl,vs,ws,he,hg,hz,hv,hw,aG,aA⟩;simp only at ka;subst ka;have same:items.size=ev.size:=by rw[<-S8,<-S8,qW,qX];exact ax
   have fin:lexQ (λa c=>decide (c<a)) false ns bB=false:=by
    rw[aA];cases hv with
    |nil=>rfl
    |cons a t hv=>
     cases hw with
     |nil=>cases aG
     |cons c u hw=>cases hz
   have cs:Builtin.Tuple.tupleCompareSizes CmpOp.Gt items.size ev.size=.bool false:=by rw[same];simp[Builtin.Tuple.tupleCompareSizes]
   wp_walk
   exact⟨_,rfl,by rw[cs,<-fin];exact h⟩
  case h=>
   exact⟨rfl,rfl,items.toList,ev.toList,ns,bB,rfl,ao,aQ,ax,rfl⟩
theorem gt_tupIs{prog:UF}{w:Yd}{A:Yj}{E:SL->SZ->Prop}{s:SZ}{l b:TE}{items ev:Array SL}{ns bB:Z5}{Q:SL->SZ->Prop}(ax:IsTup s.heap l items)(ae:IsTup s.heap b ev)(ao:Yr items.toList ns)(aQ:Yr ev.toList bB)(qZ:ns.length=bB.length)(hu:A.units<YL)(h:Q (.bool (lexQ (λa c=>decide (c<a)) false ns bB)) s):wpAny (Wp prog w) A (Yo .Gt (.ref l) (.ref b)) Q E s:=by
 obtain⟨⟨br,cQ,cS,s1⟩,aK,cy,n,ah⟩:=id ax;obtain⟨⟨bF,c4,cH,aI⟩,aP,k2,n2,am⟩:=id ae;simp only at cy ah k2 am;subst cy ah k2 am
 exact YS (op:=.Gt) ⟨_,aK,rfl⟩ ⟨_,aP,rfl⟩ PySem.F.slot_tuple_gt PySem.F.entry_tuple_gt (PySem.F.args_tuple_gt_2 _ _) (Pk l b items ev n n2 cQ c4 s1 aI ns bB ao aQ qZ)
  ⟨aK,aP,show Value.bool _≠Value.notImplemented/\Q (.bool _) s from⟨(λx=>nomatch x),h⟩⟩ hu
theorem Pl(l b:TE)(items ev:Array SL)(n n2:Nat)(jh qU:Option TE)(sl qV:Array (Option SL))(ns bB:Z5)(ao:Yr items.toList ns)(aQ:Yr ev.toList bB)(ax:ns.length=bB.length):
  Meets (Builtin.«tuple.__le__» ⟨[.ref l,.ref b],[]⟩)
   (λ_ R s=>s.heap.get? l=some ⟨.type "tuple",jh,.seq items n,sl⟩/\s.heap.get? b=some ⟨.type "tuple",qU,.seq ev n2,qV⟩/\R (.ok (.ret (.bool (lexQ (λa c=>decide (a<=c)) true ns bB)))) s):=
 .of_wp λprog w A R s h=>by
  obtain⟨ak,g,d,bm,os⟩:=s;obtain⟨gM,ae,h⟩:=h;have qW:=oZ ao;have qX:=oZ aQ;have bJ:=AutoSeq1.sub_tuple_tuple
  wp_walk using YH gM,YH ae,Yz _ (λrest b s'=>b.1=none/\s'=⟨ak,g,d,bm,os⟩/\∃(vs ws:af')(he hg:Z5),rest=vs.zip ws/\Yr vs he/\Yr ws hg/\he.length=hg.length/\lexQ (λa c=>decide (a<=c)) true ns bB=lexQ (λa c=>decide (a<=c)) true he hg) _
  case turn=>
   rintro⟨y,x⟩ rest b s' ⟨ka,rfl,vs,ws,he,hg,hz,hv,hw,aG,aA⟩;cases hv with
   |nil=>rw[WO]at hz;cases hz
   |cons a t hv=>
    cases hw with
    |nil=>rw[WQ]at hz;cases hz
    |cons c u hw=>
     rw[VO]at hz;injection hz with aa ab
     injection aa with a' bG
     subst a' bG;obtain⟨e,aF,kN⟩:=v0 A.in1 ⟨ak,g,d,bm,os⟩ a t c u;refine SB (aF prog w _ _ ?_);cases e with
     |true=>
      wp_walk
      exact⟨rfl,rfl,_,_,_,_,ab,hv,hw,by simpa using aG,by rw[aA,lexQ,TT (kN.mp rfl)]⟩
     |false=>
      have qY:∀(E:SL->SZ->Prop)(Q:SL->SZ->Prop),Q (.bool (decide (a<=c))) ⟨ak,g,d,bm,os⟩->wpAny (Wp prog w) A.in1 (Yo .LtE (.int a t) (.int c u)) Q E ⟨ak,g,d,bm,os⟩:=λE Q q=>PyProof.Rows.le_int q
      wp_walk using qY
      rw[lexQ,TW (λz=>SN (kN.mpr z))]at aA;exact⟨_,rfl,by rw[<-aA];exact h⟩
  case fin=>
   rintro⟨b7,cr⟩ s' ⟨ka,rfl,vs,ws,he,hg,hz,hv,hw,aG,aA⟩;simp only at ka;subst ka;have same:items.size=ev.size:=by rw[<-S8,<-S8,qW,qX];exact ax
   have fin:lexQ (λa c=>decide (a<=c)) true ns bB=true:=by
    rw[aA];cases hv with
    |nil=>rfl
    |cons a t hv=>
     cases hw with
     |nil=>cases aG
     |cons c u hw=>cases hz
   have cs:Builtin.Tuple.tupleCompareSizes CmpOp.LtE items.size ev.size=.bool true:=by rw[same];simp[Builtin.Tuple.tupleCompareSizes]
   wp_walk
   exact⟨_,rfl,by rw[cs,<-fin];exact h⟩
  case h=>
   exact⟨rfl,rfl,items.toList,ev.toList,ns,bB,rfl,ao,aQ,ax,rfl⟩
theorem le_tupIs{prog:UF}{w:Yd}{A:Yj}{E:SL->SZ->Prop}{s:SZ}{l b:TE}{items ev:Array SL}{ns bB:Z5}{Q:SL->SZ->Prop}(ax:IsTup s.heap l items)(ae:IsTup s.heap b ev)(ao:Yr items.toList ns)(aQ:Yr ev.toList bB)(qZ:ns.length=bB.length)(hu:A.units<YL)(h:Q (.bool (lexQ (λa c=>decide (a<=c)) true ns bB)) s):wpAny (Wp prog w) A (Yo .LtE (.ref l) (.ref b)) Q E s:=by
 obtain⟨⟨br,cQ,cS,s1⟩,aK,cy,n,ah⟩:=id ax;obtain⟨⟨bF,c4,cH,aI⟩,aP,k2,n2,am⟩:=id ae;simp only at cy ah k2 am;subst cy ah k2 am
 exact YS (op:=.LtE) ⟨_,aK,rfl⟩ ⟨_,aP,rfl⟩ PySem.F.slot_tuple_le PySem.F.entry_tuple_le (PySem.F.args_tuple_le_2 _ _) (Pl l b items ev n n2 cQ c4 s1 aI ns bB ao aQ qZ)
  ⟨aK,aP,show Value.bool _≠Value.notImplemented/\Q (.bool _) s from⟨(λx=>nomatch x),h⟩⟩ hu
theorem Pm(l b:TE)(items ev:Array SL)(n n2:Nat)(jh qU:Option TE)(sl qV:Array (Option SL))(ns bB:Z5)(ao:Yr items.toList ns)(aQ:Yr ev.toList bB)(ax:ns.length=bB.length):
  Meets (Builtin.«tuple.__lt__» ⟨[.ref l,.ref b],[]⟩)
   (λ_ R s=>s.heap.get? l=some ⟨.type "tuple",jh,.seq items n,sl⟩/\s.heap.get? b=some ⟨.type "tuple",qU,.seq ev n2,qV⟩/\R (.ok (.ret (.bool (lexQ (λa c=>decide (a<c)) false ns bB)))) s):=
 .of_wp λprog w A R s h=>by
  obtain⟨ak,g,d,bm,os⟩:=s;obtain⟨gM,ae,h⟩:=h;have qW:=oZ ao;have qX:=oZ aQ;have bJ:=AutoSeq1.sub_tuple_tuple
  wp_walk using YH gM,YH ae,Yz _ (λrest b s'=>b.1=none/\s'=⟨ak,g,d,bm,os⟩/\∃(vs ws:af')(he hg:Z5),rest=vs.zip ws/\Yr vs he/\Yr ws hg/\he.length=hg.length/\lexQ (λa c=>decide (a<c)) false ns bB=lexQ (λa c=>decide (a<c)) false he hg) _
  case turn=>
   rintro⟨y,x⟩ rest b s' ⟨ka,rfl,vs,ws,he,hg,hz,hv,hw,aG,aA⟩;cases hv with
   |nil=>rw[WO]at hz;cases hz
   |cons a t hv=>
    cases hw with
    |nil=>rw[WQ]at hz;cases hz
    |cons c u hw=>
     rw[VO]at hz;injection hz with aa ab
     injection aa with a' bG
     subst a' bG;obtain⟨e,aF,kN⟩:=v0 A.in1 ⟨ak,g,d,bm,os⟩ a t c u;refine SB (aF prog w _ _ ?_);cases e with
     |true=>
      wp_walk
      exact⟨rfl,rfl,_,_,_,_,ab,hv,hw,by simpa using aG,by rw[aA,lexQ,TT (kN.mp rfl)]⟩
     |false=>
      have qY:∀(E:SL->SZ->Prop)(Q:SL->SZ->Prop),Q (.bool (decide (a<c))) ⟨ak,g,d,bm,os⟩->wpAny (Wp prog w) A.in1 (Yo .Lt (.int a t) (.int c u)) Q E ⟨ak,g,d,bm,os⟩:=λE Q q=>PyProof.Rows.lt_int q
      wp_walk using qY
      rw[lexQ,TW (λz=>SN (kN.mpr z))]at aA;exact⟨_,rfl,by rw[<-aA];exact h⟩
  case fin=>
   rintro⟨b7,cr⟩ s' ⟨ka,rfl,vs,ws,he,hg,hz,hv,hw,aG,aA⟩;simp only at ka;subst ka;have same:items.size=ev.size:=by rw[<-S8,<-S8,qW,qX];exact ax
   have fin:lexQ (λa c=>decide (a<c)) false ns bB=false:=by
    rw[aA];cases hv with
    |nil=>rfl
    |cons a t hv=>
     cases hw with
     |nil=>cases aG
     |cons c u hw=>cases hz
   have cs:Builtin.Tuple.tupleCompareSizes CmpOp.Lt items.size ev.size=.bool false:=by rw[same];simp[Builtin.Tuple.tupleCompareSizes]
   wp_walk
   exact⟨_,rfl,by rw[cs,<-fin];exact h⟩
  case h=>
   exact⟨rfl,rfl,items.toList,ev.toList,ns,bB,rfl,ao,aQ,ax,rfl⟩
theorem lt_tupIs{prog:UF}{w:Yd}{A:Yj}{E:SL->SZ->Prop}{s:SZ}{l b:TE}{items ev:Array SL}{ns bB:Z5}{Q:SL->SZ->Prop}(ax:IsTup s.heap l items)(ae:IsTup s.heap b ev)(ao:Yr items.toList ns)(aQ:Yr ev.toList bB)(qZ:ns.length=bB.length)(hu:A.units<YL)(h:Q (.bool (lexQ (λa c=>decide (a<c)) false ns bB)) s):wpAny (Wp prog w) A (Yo .Lt (.ref l) (.ref b)) Q E s:=by
 obtain⟨⟨br,cQ,cS,s1⟩,aK,cy,n,ah⟩:=id ax;obtain⟨⟨bF,c4,cH,aI⟩,aP,k2,n2,am⟩:=id ae;simp only at cy ah k2 am;subst cy ah k2 am
 exact YS (op:=.Lt) ⟨_,aK,rfl⟩ ⟨_,aP,rfl⟩ PySem.F.slot_tuple_lt PySem.F.entry_tuple_lt (PySem.F.args_tuple_lt_2 _ _) (Pm l b items ev n n2 cQ c4 s1 aI ns bB ao aQ qZ)
  ⟨aK,aP,show Value.bool _≠Value.notImplemented/\Q (.bool _) s from⟨(λx=>nomatch x),h⟩⟩ hu
end HT
namespace Tab
open PySem
section
variable{prog:UF}{w:Yd}{A:Yj}{E:SL->SZ->Prop}{s:SZ}
theorem Pn(dS:Bool){I S:TE}{u:SL}{c n i:Nat}{ci wr:aga}{P:Nat->SL->Prop}{St:Nat->Yn->Prop}{R:ZF->SZ->Prop}(W:Walks prog w A.in1 I ci wr n P St)(dk:S∉ci)(ao:i<n)(aG:i+1=n)(st:St i s.heap)(g:s.heap.get? S=some (tx u c))(kb:∀v h' bm (Q:SL->SZ->Prop) (E:SL->SZ->Prop),P i v->(∀b o,b∉wr->s.heap.get? b=some o->h'.get? b=some o)->Q (.bool dS) {s with heap:=h',toks:=bm}->wpAny (Wp prog w) A.in1 (Yo .Gt v u) Q E {s with heap:=h',toks:=bm})(eS:∀v h' bm,(if dS=true then P i v else v=u)->(∀b o,b∉wr->b≠S->s.heap.get? b=some o->h'.get? b=some o)->R (.ok (.ret v)) {s with heap:=h',toks:=bm}):
  codeAny (Wp prog w) A (.builtin "max.loop" ⟨[.ref I,.none,.ref S],[]⟩) R s:=by
 have hj:(toString "max"++toString ".loop":String)="max.loop":=by decide
 have hD:S∉wr:=λz=>dk (W.sub _ z);refine Yg F.entry_max_loop ?_;simp only[Around.under_plainId F.plain_max_loop];show wpAny _ A.in1 (Y9 (.ref S) >>= _) _ _ _
 refine SB (Ys g rfl (show wpAny _ A.in1 (Zk (YV (.ref I)) _ >>= _) _ _ _ from SB (Yx (W.item i s _ _ ao st λv h' bm cD fT kp=>?_))));have g':=kp S _ hD g;show wpAny _ A.in1 (Zk (Y3 [v,v] (Yo .Gt v u >>= _)) _ >>= _) _ _ _
 refine SB (Yx (Yb (SB (kb v h' bm _ _ cD kp ?_))));refine SB (Yb (XV (SB (YG (TD ?_)))));cases dS with
 |true=>
  simp only[if_true];refine SB (Yl g' rfl (SB (YG ?_)));rw[hj];refine TD ⟨Yp F.plain_max_loop _,DA W hD (by rw[<-aG];exact W.frame _ _ _ fT λb ae o e=>(Heap.get?_update_other _ _ (λz:S=b=>dk (by rw[z];exact ae))).trans e) (Heap.get?_update_self _ g' rfl) λab h4 h5=>?_⟩;exact eS v ab h4 (by rw[TT rfl];exact cD) λb o b7 cr e=>h5 b o b7 cr ((Heap.get?_update_other _ _ (S2 cr)).trans (kp b o b7 e))
 |false=>
  simp only[Tn,if_false];refine SB (YG ?_);rw[hj];refine TD ⟨Yp F.plain_max_loop _,DA W hD (by rw[<-aG];exact fT) g' λab h4 h5=>?_⟩;exact eS u ab h4 (by rw[TW SN]) λb o b7 cr e=>h5 b o b7 cr (kp b o b7 e)
theorem Po(dS:Bool){I S:TE}{c:Nat}{ci wr:aga}{P:Nat->SL->Prop}{St:Nat->Yn->Prop}{R:ZF->SZ->Prop}(W:Walks prog w A.in1 I ci wr 2 P St)(dk:S∉ci)(st:St 0 s.heap)(g:s.heap.get? S=some {cls:=.type "list",dict:=none,data:=.seq #[] c,slots :=#[]})(kb:∀u v h' bm (Q:SL->SZ->Prop) (E:SL->SZ->Prop),P 0 u->P 1 v->(∀b o,b∉wr->b≠S->s.heap.get? b=some o->h'.get? b=some o)->Q (.bool dS) {s with heap:=h',toks:=bm}->wpAny (Wp prog w) A.in1 (Yo .Gt v u) Q E {s with heap:=h',toks:=bm})(eS:∀v h' bm,(if dS=true then P 1 v else P 0 v)->(∀b o,b∉wr->b≠S->s.heap.get? b=some o->h'.get? b=some o)->R (.ok (.ret v)) {s with heap:=h',toks:=bm}):
  codeAny (Wp prog w) A (.builtin "max.loop" ⟨[.ref I,.none,.ref S],[]⟩) R s:=by
 have hj:(toString "max"++toString ".loop":String)="max.loop":=by decide
 have hD:S∉wr:=λz=>dk (W.sub _ z);refine Yg F.entry_max_loop ?_;simp only[Around.under_plainId F.plain_max_loop];show wpAny _ A.in1 (Y9 (.ref S) >>= _) _ _ _
 refine SB (Ys g rfl (show wpAny _ A.in1 (Zk (YV (.ref I)) _ >>= _) _ _ _ from SB (Yx (W.item 0 s _ _ (by decide) st λu h' bm hQ fT kp=>?_))));have g':=kp S _ hD g;show wpAny _ A.in1 (Y8 S (λ_ => #[u,u]) >>= _) _ _ _
 refine SB (Yl g' rfl ?_);rw[hj];refine TD ⟨Yp F.plain_max_loop _,Pn dS W dk (by decide) rfl (W.frame _ _ _ fT λb ae o e=>(Heap.get?_update_other _ _ (λz:S=b=>dk (by rw[z];exact ae))).trans e) (Heap.get?_update_self _ g' rfl) (λv ab h4 Q E cD h5 eD=>?_) λv ab h4 cD h5=>?_⟩
 ·exact kb u v ab h4 Q E hQ cD (λb o b7 cr e=>h5 b o b7 ((Heap.get?_update_other _ _ (S2 cr)).trans (kp b o b7 e))) eD
 refine eS v ab h4 ?_ λb o b7 cr e=>h5 b o b7 cr ((Heap.get?_update_other _ _ (S2 cr)).trans (kp b o b7 e));cases dS with
 |false=>
  rw[TW SN]at cD⊢;rw[cD];exact hQ
 |true=>
  rw[TT rfl]at cD⊢;exact cD
theorem max_pairX(dS:Bool){a b:SL}{Q:SL->SZ->Prop}(dP:A.handled=none)(kb:∀h' bm (Q:SL->SZ->Prop) (E:SL->SZ->Prop),(∀c o,s.heap.get? c=some o->h'.get? c=some o)->Q (.bool dS) {s with heap:=h',toks:=bm}->wpAny (Wp prog w) A.in1 (Yo .Gt b a) Q E {s with heap:=h',toks:=bm})(h:∀v h' bm,v=(if dS=true then b else a)->(∀c o,s.heap.get? c=some o->h'.get? c=some o)->Q v {s with heap:=h',toks:=bm}):wpAny (Wp prog w) A (call (.builtin "max") [a,b]) Q E s:=by
 have hj:(toString "max"++toString ".loop":String)="max.loop":=by decide
 have q0:(s.heap.push {cls:=.type "tuple",data:=.seq #[a,b]}).IsTuple s.heap.objs.size #[a,b]:=⟨_,Heap.get?_push_size _ rfl,rfl,0,rfl⟩;have aE:(s.heap.push {cls:=.type "tuple",data:=.seq #[a,b]}).objs.size=s.heap.objs.size+1:=Heap.size_push ..;refine ZK F.kind_max F.plain_max F.entry_max (F.args_max2 _ _) ?_;show wpAny _ A.in1 (Builtin.Builtins.bindParams "max" ["key","default"] 0 ⟨[],[]⟩ >>= _) _ _ _
 refine SB (wpAny_of_eq (a:=[none,none]) rfl ?_);show wpAny _ A.in1 (newTuple [a,b] >>= _) _ _ _
 refine SB (Yt (SB (Za q0 (SB (Yt ?_)))));rw[hj];have aU:((s.heap.push {cls:=.type "tuple",data:=.seq #[a,b]}).push {cls:=.type "tuple_iterator",data:=.fields #[.ref s.heap.objs.size,.int 0 0]}).objs.size=s.heap.objs.size+1+1:=by rw[Heap.size_push,aE]
 have bx:s.heap.objs.size≠(s.heap.push {cls:=.type "tuple",data:=.seq #[a,b]}).objs.size:=by rw[aE];exact SV (Un _)
 have W:=Walks.tuple (prog:=prog) (w:=w) (A:=A.in1) dP (s.heap.push {cls:=.type "tuple",data:=.seq #[a,b]}).objs.size s.heap.objs.size bx #[a,b]
 have lL:∀c o,s.heap.get? c=some o->c≠s.heap.objs.size/\c≠(s.heap.push {cls:=.type "tuple",data:=.seq #[a,b]}).objs.size/\c≠((s.heap.push {cls:=.type "tuple",data:=.seq #[a,b]}).push {cls:=.type "tuple_iterator",data:=.fields #[.ref s.heap.objs.size,.int 0 0]}).objs.size:=λc o e=>by
  have:=Heap.lt_size e;rw[aE,aU];exact⟨SV this,SV (Tw this),SV (Tw (Tw this))⟩
 refine TD ⟨Yp F.plain_max_loop _,Po dS W (λaz=>?_) ⟨⟨_,Heap.get?_push_of_some _ (Heap.get?_push_size _ rfl),rfl,rfl⟩,(q0.push _).push _⟩ (Heap.get?_push_size _ rfl) (λu v h' bm k4 oo hQ cD kp eD=>?_) λv h' bm cD kp=>?_⟩
 ·dsimp only at az;rw[aE,aU]at az;rcases SH.mp az with e|az
  ·exact absurd e (TP (Un _))
  exact absurd (SP.mp az) (TP (Tw (Un _)))
 ·have nq:a=u:=by simpa using hQ
  have iY:b=v:=by simpa using cD
  subst nq iY;exact kb h' bm k4 oo (λc o e=>kp c o (λz=>(lL c o e).2.1 (SP.mp z)) (lL c o e).2.2 (Heap.get?_push_of_some _ (Heap.get?_push_of_some _ (Heap.get?_push_of_some _ e)))) eD
 refine h v h' bm ?_ λc o e=>kp c o (λz=>(lL c o e).2.1 (SP.mp z)) (lL c o e).2.2 (Heap.get?_push_of_some _ (Heap.get?_push_of_some _ (Heap.get?_push_of_some _ e)));cases dS with
 |false=>
  rw[TW SN]at cD⊢;simpa using cD.symm
 |true=>
  rw[TT rfl]at cD⊢;simpa using cD.symm
theorem Pq(dS:Bool){I S:TE}{u:SL}{c n i:Nat}{ci wr:aga}{P:Nat->SL->Prop}{St:Nat->Yn->Prop}{R:ZF->SZ->Prop}(W:Walks prog w A.in1 I ci wr n P St)(dk:S∉ci)(ao:i<n)(aG:i+1=n)(st:St i s.heap)(g:s.heap.get? S=some (tx u c))(kb:∀v h' bm (Q:SL->SZ->Prop) (E:SL->SZ->Prop),P i v->(∀b o,b∉wr->s.heap.get? b=some o->h'.get? b=some o)->Q (.bool dS) {s with heap:=h',toks:=bm}->wpAny (Wp prog w) A.in1 (Yo .Lt v u) Q E {s with heap:=h',toks:=bm})(eS:∀v h' bm,(if dS=true then P i v else v=u)->(∀b o,b∉wr->b≠S->s.heap.get? b=some o->h'.get? b=some o)->R (.ok (.ret v)) {s with heap:=h',toks:=bm}):
  codeAny (Wp prog w) A (.builtin "min.loop" ⟨[.ref I,.none,.ref S],[]⟩) R s:=by
 have hj:(toString "min"++toString ".loop":String)="min.loop":=by decide
 have hD:S∉wr:=λz=>dk (W.sub _ z);refine Yg F.entry_min_loop ?_;simp only[Around.under_plainId F.plain_min_loop];show wpAny _ A.in1 (Y9 (.ref S) >>= _) _ _ _
 refine SB (Ys g rfl (show wpAny _ A.in1 (Zk (YV (.ref I)) _ >>= _) _ _ _ from SB (Yx (W.item i s _ _ ao st λv h' bm cD fT kp=>?_))));have g':=kp S _ hD g;show wpAny _ A.in1 (Zk (Y3 [v,v] (Yo .Lt v u >>= _)) _ >>= _) _ _ _
 refine SB (Yx (Yb (SB (kb v h' bm _ _ cD kp ?_))));refine SB (Yb (XV (SB (YG (TD ?_)))));cases dS with
 |true=>
  simp only[if_true];refine SB (Yl g' rfl (SB (YG ?_)));rw[hj];refine TD ⟨Yp F.plain_min_loop _,DB W hD (by rw[<-aG];exact W.frame _ _ _ fT λb ae o e=>(Heap.get?_update_other _ _ (λz:S=b=>dk (by rw[z];exact ae))).trans e) (Heap.get?_update_self _ g' rfl) λab h4 h5=>?_⟩;exact eS v ab h4 (by rw[TT rfl];exact cD) λb o b7 cr e=>h5 b o b7 cr ((Heap.get?_update_other _ _ (S2 cr)).trans (kp b o b7 e))
 |false=>
  simp only[Tn,if_false];refine SB (YG ?_);rw[hj];refine TD ⟨Yp F.plain_min_loop _,DB W hD (by rw[<-aG];exact fT) g' λab h4 h5=>?_⟩;exact eS u ab h4 (by rw[TW SN]) λb o b7 cr e=>h5 b o b7 cr (kp b o b7 e)
theorem Pr(dS:Bool){I S:TE}{c:Nat}{ci wr:aga}{P:Nat->SL->Prop}{St:Nat->Yn->Prop}{R:ZF->SZ->Prop}(W:Walks prog w A.in1 I ci wr 2 P St)(dk:S∉ci)(st:St 0 s.heap)(g:s.heap.get? S=some {cls:=.type "list",dict:=none,data:=.seq #[] c,slots :=#[]})(kb:∀u v h' bm (Q:SL->SZ->Prop) (E:SL->SZ->Prop),P 0 u->P 1 v->(∀b o,b∉wr->b≠S->s.heap.get? b=some o->h'.get? b=some o)->Q (.bool dS) {s with heap:=h',toks:=bm}->wpAny (Wp prog w) A.in1 (Yo .Lt v u) Q E {s with heap:=h',toks:=bm})(eS:∀v h' bm,(if dS=true then P 1 v else P 0 v)->(∀b o,b∉wr->b≠S->s.heap.get? b=some o->h'.get? b=some o)->R (.ok (.ret v)) {s with heap:=h',toks:=bm}):
  codeAny (Wp prog w) A (.builtin "min.loop" ⟨[.ref I,.none,.ref S],[]⟩) R s:=by
 have hj:(toString "min"++toString ".loop":String)="min.loop":=by decide
 have hD:S∉wr:=λz=>dk (W.sub _ z);refine Yg F.entry_min_loop ?_;simp only[Around.under_plainId F.plain_min_loop];show wpAny _ A.in1 (Y9 (.ref S) >>= _) _ _ _
 refine SB (Ys g rfl (show wpAny _ A.in1 (Zk (YV (.ref I)) _ >>= _) _ _ _ from SB (Yx (W.item 0 s _ _ (by decide) st λu h' bm hQ fT kp=>?_))));have g':=kp S _ hD g;show wpAny _ A.in1 (Y8 S (λ_ => #[u,u]) >>= _) _ _ _
 refine SB (Yl g' rfl ?_);rw[hj];refine TD ⟨Yp F.plain_min_loop _,Pq dS W dk (by decide) rfl (W.frame _ _ _ fT λb ae o e=>(Heap.get?_update_other _ _ (λz:S=b=>dk (by rw[z];exact ae))).trans e) (Heap.get?_update_self _ g' rfl) (λv ab h4 Q E cD h5 eD=>?_) λv ab h4 cD h5=>?_⟩
 ·exact kb u v ab h4 Q E hQ cD (λb o b7 cr e=>h5 b o b7 ((Heap.get?_update_other _ _ (S2 cr)).trans (kp b o b7 e))) eD
 refine eS v ab h4 ?_ λb o b7 cr e=>h5 b o b7 cr ((Heap.get?_update_other _ _ (S2 cr)).trans (kp b o b7 e));cases dS with
 |false=>
  rw[TW SN]at cD⊢;rw[cD];exact hQ
 |true=>
  rw[TT rfl]at cD⊢;exact cD
theorem min_pairX(dS:Bool){a b:SL}{Q:SL->SZ->Prop}(dP:A.handled=none)(kb:∀h' bm (Q:SL->SZ->Prop) (E:SL->SZ->Prop),(∀c o,s.heap.get? c=some o->h'.get? c=some o)->Q (.bool dS) {s with heap:=h',toks:=bm}->wpAny (Wp prog w) A.in1 (Yo .Lt b a) Q E {s with heap:=h',toks:=bm})(h:∀v h' bm,v=(if dS=true then b else a)->(∀c o,s.heap.get? c=some o->h'.get? c=some o)->Q v {s with heap:=h',toks:=bm}):wpAny (Wp prog w) A (call (.builtin "min") [a,b]) Q E s:=by
 have hj:(toString "min"++toString ".loop":String)="min.loop":=by decide
 have q0:(s.heap.push {cls:=.type "tuple",data:=.seq #[a,b]}).IsTuple s.heap.objs.size #[a,b]:=⟨_,Heap.get?_push_size _ rfl,rfl,0,rfl⟩;have aE:(s.heap.push {cls:=.type "tuple",data:=.seq #[a,b]}).objs.size=s.heap.objs.size+1:=Heap.size_push ..;refine ZK F.kind_min F.plain_min F.entry_min (F.args_min2 _ _) ?_;show wpAny _ A.in1 (Builtin.Builtins.bindParams "min" ["key","default"] 0 ⟨[],[]⟩ >>= _) _ _ _
 refine SB (wpAny_of_eq (a:=[none,none]) rfl ?_);show wpAny _ A.in1 (newTuple [a,b] >>= _) _ _ _
 refine SB (Yt (SB (Za q0 (SB (Yt ?_)))));rw[hj];have aU:((s.heap.push {cls:=.type "tuple",data:=.seq #[a,b]}).push {cls:=.type "tuple_iterator",data:=.fields #[.ref s.heap.objs.size,.int 0 0]}).objs.size=s.heap.objs.size+1+1:=by rw[Heap.size_push,aE]
 have bx:s.heap.objs.size≠(s.heap.push {cls:=.type "tuple",data:=.seq #[a,b]}).objs.size:=by rw[aE];exact SV (Un _)
 have W:=Walks.tuple (prog:=prog) (w:=w) (A:=A.in1) dP (s.heap.push {cls:=.type "tuple",data:=.seq #[a,b]}).objs.size s.heap.objs.size bx #[a,b]
 have lL:∀c o,s.heap.get? c=some o->c≠s.heap.objs.size/\c≠(s.heap.push {cls:=.type "tuple",data:=.seq #[a,b]}).objs.size/\c≠((s.heap.push {cls:=.type "tuple",data:=.seq #[a,b]}).push {cls:=.type "tuple_iterator",data:=.fields #[.ref s.heap.objs.size,.int 0 0]}).objs.size:=λc o e=>by
  have:=Heap.lt_size e;rw[aE,aU];exact⟨SV this,SV (Tw this),SV (Tw (Tw this))⟩
 refine TD ⟨Yp F.plain_min_loop _,Pr dS W (λaz=>?_) ⟨⟨_,Heap.get?_push_of_some _ (Heap.get?_push_size _ rfl),rfl,rfl⟩,(q0.push _).push _⟩ (Heap.get?_push_size _ rfl) (λu v h' bm k4 oo hQ cD kp eD=>?_) λv h' bm cD kp=>?_⟩
 ·dsimp only at az;rw[aE,aU]at az;rcases SH.mp az with e|az
  ·exact absurd e (TP (Un _))
  exact absurd (SP.mp az) (TP (Tw (Un _)))
 ·have nq:a=u:=by simpa using hQ
  have iY:b=v:=by simpa using cD
  subst nq iY;exact kb h' bm k4 oo (λc o e=>kp c o (λz=>(lL c o e).2.1 (SP.mp z)) (lL c o e).2.2 (Heap.get?_push_of_some _ (Heap.get?_push_of_some _ (Heap.get?_push_of_some _ e)))) eD
 refine h v h' bm ?_ λc o e=>kp c o (λz=>(lL c o e).2.1 (SP.mp z)) (lL c o e).2.2 (Heap.get?_push_of_some _ (Heap.get?_push_of_some _ (Heap.get?_push_of_some _ e)));cases dS with
 |false=>
  rw[TW SN]at cD⊢;simpa using cD.symm
 |true=>
  rw[TT rfl]at cD⊢;simpa using cD.symm
end
end Tab
namespace L2
open PySem PySem.Spec PyProof.Rows PySem.W
abbrev ew:=HT.lexQ (λa c=>decide (c<a)) false
abbrev mD:=HT.lexQ (λa c=>decide (a<=c)) true
abbrev ey:=HT.lexQ (λa c=>decide (a<c)) false
def xG(K:Sx)(g:TE->TE->Z5->Z5->cf->al->Prop):V->V->al->cf->Prop:=λx y H Q=>∃(a b:TE)(ns bB:Z5),x=.ref a/\y=.ref b/\dA K H a (ns.map V.int)/\dA K H b (bB.map V.int)/\ns.length=bB.length/\g a b ns bB Q H
variable{X:a1}
theorem Ps(hu:X.A.units<YL):ef X (Yq .LtE) (xG X.K λ_ _ ns bB Q H=>Q (.bl (mD ns bB)) H):=by
 intro af s σ H x y v u Q I a8 b' h;obtain⟨a,b,ns,bB,rfl,rfl,aq,ae,ax,q⟩:=h;cases a8;cases b';obtain⟨bD,ai,bc,_⟩:=I.tuple aq;obtain⟨bN,aw,aW,_⟩:=I.tuple ae;exact HT.le_tupIs bc aW (intsAre_of ai) (intsAre_of aw) ax hu ⟨.bl _,H,I,rfl,q⟩
def xH(K:Sx)(f:Z5->Z5->Bool):Z4->al->cf->Prop:=λxs H Q=>∃x y,xs=[x,y]/\xG K (λa b ns bB Q H=>Q (.ref (if f bB ns=true then b else a)) H) x y H Q
theorem Pt(hc:X.calm=true)(hu:X.A.units+64<YL):iP X (.builtin "max") (xH X.K ew):=by
 intro af s σ H xs aO Q I r h;obtain⟨x,y,rfl,a,b,ns,bB,rfl,rfl,aq,ae,ax,q⟩:=h;obtain⟨u,eV,rfl,fS,jB⟩:=vals2 r;cases fS;cases jB;obtain⟨bD,ai,bc,_⟩:=I.tuple aq;obtain⟨bN,aw,aW,_⟩:=I.tuple ae;refine Tab.max_pairX (ew bB ns) (I.ok.hd hc) (λh' bm k4 oo kp aA=>?_) λv h' bm hv kp=>?_
 ·obtain⟨j7,aK,aE⟩:=bc;obtain⟨lG,aP,aU⟩:=aW;exact HT.gt_tupIs ⟨lG,kp _ _ aP,aU⟩ ⟨j7,kp _ _ aK,aE⟩ (intsAre_of aw) (intsAre_of ai) ax.symm (by show X.A.units+1<_;lia) aA
 subst hv;refine⟨_,H,I.kept kp,?_,q⟩;cases ew bB ns<;>rfl
theorem Pu(hc:X.calm=true)(hu:X.A.units+64<YL):iP X (.builtin "min") (xH X.K ey):=by
 intro af s σ H xs aO Q I r h;obtain⟨x,y,rfl,a,b,ns,bB,rfl,rfl,aq,ae,ax,q⟩:=h;obtain⟨u,eV,rfl,fS,jB⟩:=vals2 r;cases fS;cases jB;obtain⟨bD,ai,bc,_⟩:=I.tuple aq;obtain⟨bN,aw,aW,_⟩:=I.tuple ae;refine Tab.min_pairX (ey bB ns) (I.ok.hd hc) (λh' bm k4 oo kp aA=>?_) λv h' bm hv kp=>?_
 ·obtain⟨j7,aK,aE⟩:=bc;obtain⟨lG,aP,aU⟩:=aW;exact HT.lt_tupIs ⟨lG,kp _ _ aP,aU⟩ ⟨j7,kp _ _ aK,aE⟩ (intsAre_of aw) (intsAre_of ai) ax.symm (by show X.A.units+1<_;lia) aA
 subst hv;refine⟨_,H,I.kept kp,?_,q⟩;cases ey bB ns<;>rfl
end L2
namespace L3
open PySem L2
abbrev xI:=DC λns bB k=>ns.length=bB.length/\k (.bl (mD ns bB))
abbrev nN(f:Z5->Z5->Bool):=DC λns bB k=>ns.length=bB.length/\k (.tup ((if f bB ns=true then bB else ns).map D.int))
variable{X:a1}{a b:WP}{aS bf:a2}{p pos:Pos}
theorem Pv{K:Sx}{bq tb:bA}(aq:dv K bq aS)(ae:dv K tb bf):dv K (kq (xG K λ_ _ ns bB Q H=>Q (.bl (mD ns bB)) H) bq tb) (xI aS bf):=by
 refine li aq ae λx y k h R W B H σ ρ v u Q e a8 b' q=>?_;obtain⟨ns,bB,rfl,rfl,ax,hk⟩:=h;obtain⟨bc,vs,rfl,aa,c9⟩:=a8.tupV;obtain⟨aW,ws,rfl,ab,e6⟩:=b'.tupV;exact⟨bc,aW,ns,bB,rfl,rfl,by rw[<-allInts c9];exact dA.of (e.bh _ _ aa),by rw[<-allInts e6];exact dA.of (e.bh _ _ ab),ax,q _ _ B H hk e (bC.refl _ _) (.bl _)⟩
theorem Pw(hu:X.A.units+64<YL)(aq:aV X a aS)(ae:aV X b bf)(az:Yh .LtE b=false):aV X (.Compare a [.LtE] [b] pos) (xI aS bf):=by
 obtain⟨_,aa,ai⟩:=aq;obtain⟨_,ab,aw⟩:=ae;exact⟨_,pH (Ps (by lia)) aa ab az,Pv ai aw⟩
theorem DD{K:Sx}{f:Z5->Z5->Bool}{bq tb:bA}(aq:dv K bq aS)(ae:dv K tb bf):dv K (r4 (xH K f) (pI bq (pI tb r0))) (nN f aS bf):=by
 intro ρ k h R W B H σ Q e q;refine aq ρ _ h R W B H σ _ e λx v a5 ar aa ah aK ai=>?_;refine ae ρ _ aa R W a5 ar σ _ ah λy u bu a0 ab am aP aw=>?_;obtain⟨ns,bB,rfl,rfl,ax,hk⟩:=ab;have ai:=ai.mono aP.s;obtain⟨bc,vs,rfl,aa,c9⟩:=id ai.tupV;obtain⟨aW,ws,rfl,ab,e6⟩:=id aw.tupV;refine⟨_,_,rfl,bc,aW,ns,bB,rfl,rfl,by rw[<-allInts c9];exact dA.of (am.bh _ _ aa),by rw[<-allInts e6];exact dA.of (am.bh _ _ ab),ax,?_⟩;cases c:f bB ns with
 |true=>
  rw[c,TT rfl]at hk;rw[c,TT rfl];exact q _ _ bu a0 hk am (aK.trans aP) aw
 |false=>
  rw[c,TW SN]at hk;rw[c,TW SN];exact q _ _ bu a0 hk am (aK.trans aP) ai
theorem xJ(hc:X.calm=true)(hu:X.A.units+64<YL)(aq:aV X a aS)(ae:aV X b bf)(aJ:c2 X "max")(az:X.mg "max"=none)(av:Uf [a,b] X.env=(false,YU a X.env)::Uf [b] X.env:=by rfl)(gp:dE X b []:=by rfl):aV X (.Call (.Name "max" p) [a,b] [] pos) (nN ew aS bf):=by
 obtain⟨_,aa,ai⟩:=aq;obtain⟨_,ab,aw⟩:=ae;exact⟨_,ku (Pt hc hu) aJ az (by decide +kernel) (di aa (di ab d9 gp) av) (by decide) (by decide) av (by unfold hl;rw[gp];rfl),DD ai aw⟩
theorem xK(hc:X.calm=true)(hu:X.A.units+64<YL)(aq:aV X a aS)(ae:aV X b bf)(aJ:c2 X "min")(az:X.mg "min"=none)(av:Uf [a,b] X.env=(false,YU a X.env)::Uf [b] X.env:=by rfl)(gp:dE X b []:=by rfl):aV X (.Call (.Name "min" p) [a,b] [] pos) (nN ey aS bf):=by
 obtain⟨_,aa,ai⟩:=aq;obtain⟨_,ab,aw⟩:=ae;exact⟨_,ku (Pu hc hu) aJ az (by decide +kernel) (di aa (di ab d9 gp) av) (by decide) (by decide) av (by unfold hl;rw[gp];rfl),DD ai aw⟩
end L3
namespace L3
open PySem L2
section
variable{K:Sx}{X:a1}{pos p:Pos}{bd:WP}
theorem iV.rng2{B:al}(jm:Int)(n:Nat):iV K B (og jm n) ((SA n).map λi:Nat=>D.int (jm+i)):=by
 intro H s i;rw[Sw,T9];refine⟨λao=>ao,λao=>ao,λx aj ao ⟨ah,am⟩=>⟨ah,?_⟩⟩;refine⟨.int (jm+i),?_,?_⟩
 ·rw[S1,Uz ao];rfl
 rw[am];exact .int _
def Px(u u2:a2):cN:=λρ k=>u ρ λd=>u2 ρ λc4=>∃i j,d=.int i/\c4=.int j/\(-(2^62)<=i/\i<2^62 /\ -(2^62)<=j/\j<2^62)/\k ((SA (j-i).toNat).map λt:Nat=>D.int (i+t))
theorem Py{a b:WP}{u u2:a2}(aq:aV X a u)(ae:aV X b u2)(aJ:c2 X "range")(az:X.mg "range"=none)(av:Uf [a,b] X.env=[(false,YU a X.env),(false,YU b X.env)]:=by rfl)(gp:Uf [b] X.env=[(false,YU b X.env)]:=by rfl):lh X bd (.Call (.Name "range" p) [a,b] [] pos) (Px u u2):=by
 obtain⟨_,aa,ai⟩:=aq;obtain⟨_,ab,aw⟩:=ae;refine⟨_,Is aJ az (di aa (di ab d9 (by rw[dE,gp];rfl)) (by rw[dE,av,gp])) av gp,λρ k h R W B H σ Q e q=>?_⟩;refine ai ρ _ h R W B H σ _ e λd v a5 ar aE ah aK s1=>?_;refine aw ρ _ aE R W a5 ar σ _ ah λc4 v2 bu a0 aU am aP aI=>?_;obtain⟨i,j,rfl,rfl,Pz,z⟩:=aU;exact⟨i,j,by rw[s1.intV,aI.intV],Pz,q _ _ bu a0 z am (aK.trans aP) (iV.rng2 _ _)⟩
def PA(i:Nat):cx:=λU ρ=>∃ds:Z7,ρ[i]?=some (.own ds)/\U.nx (ρ.set i (.own ds.reverse))
theorem PB(i:Nat){x:Str}{c3 eh cX:Pos}(bU:jx X i x:=by rfl)(hv:ie X.env.scope x:=by walk_at"v")(hd:eC x:=by decide)(ee:iK x:=by decide)(ae:jv X (.Name x c3) "reverse":=by rfl)(ax:jw eh cX:=by rfl)(jO:Yu (.Call (.Attribute (.Name x c3) "reverse" eh) [] [] cX) none pos.line X.env=pure false:=by rfl):e9 X (.Expr (.Call (.Attribute (.Name x c3) "reverse" eh) [] [] cX) pos) (PA i):=by
 refine⟨_,rR (Ag Vy PySem.F.slot_list_reverse PySem.F.type_list_reverse Ju (jb bU hv hd ee) ae ax) jO,λU ρ h R W B H σ D e s=>?_⟩;obtain⟨ds,aM,h⟩:=h;obtain⟨a,vs,ah,am,bz,cF,ej⟩:=e.ownAt aM;refine⟨_,ah,.inl ⟨rfl,vs,b0.of cF⟩,a,vs,rfl,rfl,cF,?_⟩;exact s.nx _ _ B _ h (e.write ah aM ej.reverse) (bC.refl _ _)
def tz(f g:Int->Int->Bool)(aS bf dw:a2):a2:=λρ k=>aS ρ λx=>bf ρ λy=>∃i j,x=.int i/\y=.int j/\if f i j=true then dw ρ λz=>∃l,z=.int l/\k (.bl (g j l))else k (.bl false)
theorem DE{a b c:WP}{aS bf dw:a2}{op hO:ZZ}{f g:Int->Int->Bool}(aM:ov op f X)(hI:ov hO g X)(aq:aV X a aS)(ae:aV X b bf)(hc:aV X c dw)(az:ZV [op,hO] [b,c]=false:=by with_unfolding_all rfl):
  aV X (.Compare a [op,hO] [b,c] pos) (tz f g aS bf dw):=by
 obtain⟨_,aa,ai⟩:=aq;obtain⟨_,ab,aw⟩:=ae;obtain⟨_,a',eg⟩:=hc;refine⟨_,IJ aM hI aa ab a' az,λρ k h R W B H σ Q e q=>?_⟩;refine ai ρ _ h R W B H σ _ e λx v a5 ar aE ah aK s1=>?_;refine aw ρ _ aE R W a5 ar σ _ ah λy eV bu a0 aU am aP aI=>?_;obtain⟨i,j,rfl,rfl,z⟩:=aU;refine⟨i,j,s1.intV,aI.intV,_,rfl,?_⟩;by_cases hf:f i j=true
 ·rw[TT hf]at z⊢;refine eg ρ _ z R W bu a0 σ _ am λy' hM je cg fV bz g3 bI=>?_;obtain⟨l,rfl,hk⟩:=fV;exact⟨j,l,aI.intV,bI.intV,q _ _ je cg hk bz ((aK.trans aP).trans g3) (.bl _)⟩
 rw[TW hf]at z⊢;exact q _ _ bu a0 z am (aK.trans aP) (.bl _)
end
end L3
namespace Cut
open PySem L2 L3
@[reducible] def jp(p:Int×Int):Prop :=-200<=p.1/\p.1<=200 /\ -200<=p.2/\p.2<=200
def q1(p:Int×Int):Prop:=0<=p.1/\p.1<=11/\0<=p.2/\p.2<=11
theorem q1.sm{p:Int×Int}(h:q1 p):jp p:=by
 obtain⟨a,b,c,d⟩:=h;exact⟨by lia,by lia,by lia,by lia⟩
abbrev dC:=List Z6
abbrev ez(ps:Z6):D:=.lst (ps.map bT)
abbrev cq(ps:Z9):D:=.lst (ps.map bo)
theorem DF:∀{rs:dC},(∀a9∈rs,a9.length=3)->(rs.map S').sum=3*rs.length
 |[],_=>rfl
 |q::rs,h=>by
  rw[SK,S5,h q SD,DF λx hx=>h x (SJ _ hx),SR];lia
theorem DG{α β:Type}{f:α->β}{L:List α}{i:Int}(aa : -(L.length:Int)<=i)(ab:i<L.length):∃x∈L,ea (L.map f) i=some (f x):=by
 have e:∃j,L2.ixN (L.map f).length i=some j/\j<L.length:=by
  unfold L2.ixN;rw[Sw];by_cases bi:0<=i
  ·rw[TT bi,TT ab];exact⟨_,rfl,by lia⟩
  rw[TW bi,TT aa];exact⟨_,rfl,by lia⟩
 obtain⟨j,e,aQ⟩:=e;refine⟨L[j],Uc _,?_⟩;unfold ea;rw[e];simp[aQ]
theorem PC{α:Type}{L:List α}{i:Int}(h:0<=i):gY L none (some i)=L.take (min i.toNat L.length):=by
 unfold gY;show(L.drop 0).take ((if i<0 then(i+(L.length:Int)).toNat else min i.toNat L.length)-0)=_
 rw[TW (by lia),List.drop_zero,Nat.sub_zero]
theorem DH{α:Type}{f:α->D}{u:a2}{fs:Z3}{Pp:α->Prop}:∀{ds:Z7}{dc:aN}{k:Z7->Prop},(∀d∈ds,∀k:D->Prop,(∀p,Pp p->k (f p))->u (.val d::fs) k)->(∀ps:List α,ps.length=ds.length->(∀p∈ps,Pp p)->k (ps.map f))->fv (en 0) i2 u ds (dc::fs) k
 |[],_,_,_,hk=>hk [] rfl (λ_ h=>by simp at h)
 |d::ds,dc,k,h,hk=>by
  show(if true=true then u (.val d::fs) λy=>fv (en 0) i2 u ds (.val d::fs) λys=>k (y::ys)else fv (en 0) i2 u ds (.val d::fs) k)
  rw[TT rfl];refine h d SD _ λp ak=>DH (λd' hd=>h d' (SJ _ hd)) λps ax i4=>?_
  exact hk (p::ps) (by simp[ax]) λq aA=>by
   rcases SH.mp aA with rfl|aA
   ·exact ak
   exact i4 q aA
abbrev up(p:Int×Int):aT:=(p.1,p.2,1)
abbrev q2(e:aT×aT):Int:=e.1.1*e.2.2.1-e.2.1*e.1.2.1
def tw(ps:List (Int×Int)):Int:=((dB (ps.map up)).map q2).sum
theorem PD{ps:List (Int×Int)}{i:Nat}(h:i<ps.length):∃p q,p∈ps/\q∈ps/\ea (ps.map bT) ((i:Int)-1)=some (bT p)/\ea (ps.map bT) (i:Int)=some (bT q)/\(dB (ps.map up)).take (i+1)=(dB (ps.map up)).take i++[(up p,up q)]:=by
 obtain⟨p,mp,ak⟩:=DG (f:=id) (L:=ps) (i:=(i:Int)-1) (by lia) (by lia);obtain⟨q,jq,aA⟩:=DG (f:=id) (L:=ps) (i:=(i:Int)) (by lia) (by lia);rw[WR]at ak aA;have hu:i<(ps.map up).length:=by rw[Sw];exact h
 have ah:hF (ps.map up) ((i+(ps.map up).length-1)%(ps.map up).length)=up p:=qw (SM ((NR hu).symm.trans (nD (nD ak))));have am:hF (ps.map up) i=up q:=qw (SM ((CM hu).symm.trans (nD (nD aA))));refine⟨p,q,mp,jq,nD ak,nD aA,?_⟩;rw[OY hu,ah,am]
end Cut
namespace Cut
open PySem L2 L3
open PySem.Builtin.Int (intBits)
theorem DI{N m n:Nat}{l:Z6}{T:ay}(h:∀x∈l,T0 x.1<=2*m+1/\T0 x.2<=2*m+1)(ax:l.length<=n)(az:n*(2*m+2)+1<=N)(i:Nat)(cM:eu T (dR (l.take i))):T0 T.1<=N/\T0 T.2<=N:=by
 obtain⟨b7,cr⟩:=Ci (m:=2*m+1) (l:=l.take i) λx hx=>h x (Vb hx)
 have q:(l.take i).length*(2*m+1+1)+1<=N:=by
  refine SE (Nat.succ_le_succ (XX _ ?_)) az;rw[Ts];lia
 obtain⟨br,bF⟩:=cM.bounds;exact⟨SE (f9 br b7) q,SE (f9 bF cr) q⟩
theorem DJ{x y:ay}(hx:0<x.2)(hy:0<y.2):vq (fK x y)=vq x+vq y:=by
 have a:=h2 hx;have b:=h2 hy;unfold vq fK;simp only[WS,TO];generalize(x.1:Rat)=fF at *;generalize(x.2:Rat)=oU at *;generalize(y.1:Rat)=cP at *;generalize(y.2:Rat)=d1 at *;grind
theorem DK:∀{l:Z6},(∀x∈l,0<x.2)->0<(dR l).2/\vq (dR l)=(l.map vq).sum
 |[],_=>⟨by decide,by show vq (0,1)=0;unfold vq;rw[show(((0:Int),(1:Int)).1:Rat)=0 from rfl];grind⟩
 |x::l,h=>by
  obtain⟨a,b⟩:=DK (l:=l) λy hy=>h y (SJ _ hy);have hx:=h x SD;refine⟨SO hx a,?_⟩;show vq (fK x (dR l))=_
  rw[DJ hx a,b,SK,S5]
theorem PE{p q:aT}(ak:0<p.2.2)(aA:0<q.2.2):vq (fL p q)=oW p q:=by
 have a:=h2 ak;have b:=h2 aA;unfold vq fL oW nL nM;simp only[Rat.intCast_sub,TO];generalize(p.1:Rat)=fF at *;generalize(p.2.1:Rat)=oU at *;generalize(p.2.2:Rat)=qM at *;generalize(q.1:Rat)=cP at *;generalize(q.2.1:Rat)=d1 at *;generalize(q.2.2:Rat)=th at *;grind
theorem DL:∀(z:aT)(ps:Z9),gu z ps=(gg z ps).map λe=>fL e.1 e.2
 |_,[]=>rfl
 |z,p::r=>by
  show fL z p::gu p r=fL z p::_
  rw[DL p r]
theorem DM:∀(z:aT)(ps:Z9),lz z ps=oO z ps
 |_,[]=>rfl
 |_,p::r=>DM p r
theorem PF:∀{ps:Z9},(∀p∈ps,0<p.2.2)->0<(dR (f0 ps)).2/\vq (dR (f0 ps))=mA ps
 |[],_=>⟨by decide,by show vq (0,1)=0;unfold vq;rw[show(((0:Int),(1:Int)).1:Rat)=0 from rfl];grind⟩
 |x::l,h=>by
  rw[<-MY,DL,<-DM];have e:gg (lz x l) (x::l)=dB (x::l):=rfl;rw[e];have ak:∀e∈dB (x::l),0<e.1.2.2/\0<e.2.2.2:=λe aF=>⟨h _ (Dc aF).1,h _ (Dc aF).2⟩
  obtain⟨a,b⟩:=DK (l:=(dB (x::l)).map λe=>fL e.1 e.2) λy hy=>by
   obtain⟨e,aF,rfl⟩:=SF.mp hy;exact SO (ak e aF).1 (ak e aF).2
  refine⟨a,?_⟩;rw[b,SI];show _=((dB (x::l)).map λe=>oW e.1 e.2).sum
  congr 1;refine Tj λe aF=>PE (ak e aF).1 (ak e aF).2
theorem PG{r t:ay}(au:eF r.1 r.2)(bw:eF t.1 t.2)(h:vq r=vq t):r=t:=by
 have a:=h2 au.1;have b:=h2 bw.1
 have e:(r.1:Rat)*t.2=t.1*r.2:=by
  unfold vq at h;generalize(r.1:Rat)=x at *;generalize(r.2:Rat)=y at *;generalize(t.1:Rat)=z at *;generalize(t.2:Rat)=w at *;grind
 rw[<-TO,<-TO]at e;exact eu.uniq (s:=t) ⟨au,bw.1,Rat.intCast_inj.mp e⟩ ⟨bw,bw.1,rfl⟩
theorem eu.vq{r s:ay}(h:eu r s):vq r=vq s:=by
 have a:=h2 h.1.1;have b:=h2 h.2.1;have e:(r.1:Rat)*s.2=s.1*r.2:=by rw[<-TO,<-TO,h.2.2]
 unfold Cut.vq;generalize(r.1:Rat)=x at *;generalize(r.2:Rat)=y at *;generalize(s.1:Rat)=z at *;generalize(s.2:Rat)=w at *;grind
def hf(x:ay):ay:=(x.1,2*x.2)
theorem PH{x:ay}(hx:0<x.2):vq (hf x)=vq x/2:=by
 have a:=h2 hx;unfold vq hf;simp only[TO];rw[show((2:Int):Rat)=2 from rfl];generalize(x.1:Rat)=fF at *;generalize(x.2:Rat)=oU at *;grind
theorem PI{T x:ay}(h:eu T x):eu (bM (T.1*1) (T.2*2)) (hf x):=by
 have d:0<T.2*2:=SO h.1.1 (by decide);have l:=eu.low (c:=T.1*1) d;refine⟨l.1,SO (by decide) h.2.1,?_⟩;have ah:=l.2.2;have am:=h.2.2;have p:=h.1.1;show _*(2*x.2)=x.1*_
 simp only at ah;generalize(bM (T.1*1) (T.2*2)).1=u at *;generalize(bM (T.1*1) (T.2*2)).2=v at *;have:T.2*(u*(2*x.2))=T.2*(x.1*v):=by grind
 exact WT (Sz p) this
end Cut
namespace Cut
open PySem L2 L3
theorem DN(h:aT->aT):∀(z:aT)(ps:Z9),gg (h z) (ps.map h)=(gg z ps).map λe=>(h e.1,h e.2)
 |_,[]=>rfl
 |z,p::r=>by
  show(h z,h p)::gg (h p) (r.map h)=(h z,h p)::_
  rw[DN h p r]
theorem DO(h:aT->aT):∀(z:aT)(ps:Z9),lz (h z) (ps.map h)=h (lz z ps)
 |_,[]=>rfl
 |_,p::r=>DO h p r
theorem PJ(h:aT->aT):∀(ps:Z9),dB (ps.map h)=(dB ps).map λe=>(h e.1,h e.2)
 |[]=>rfl
 |p::r=>by
  show gg (lz (h p) (r.map h)) ((p::r).map h)=(gg (lz p r) (p::r)).map _
  rw[DO,DN]
theorem PK{h:aT->aT}{ps:Z9}(S:aT×aT->Rat)(av:∀e∈dB ps,oW (h e.1) (h e.2)=S e):mA (ps.map h)=((dB ps).map S).sum:=by
 unfold mA Dd;rw[PJ,SI];congr 1;exact Tj av
theorem DP{p:aT}(h:0<p.2.2):nL (nP p)=nL p:=by
 obtain⟨pt,e,_⟩:=gL (a:=p.1) (b:=p.2.1) (Sz h);have a:=h2 h;have b:=h2 pt.1;have e:((nP p).1:Rat)*p.2.2=p.1*(nP p).2.2:=by rw[<-TO,<-TO];exact Ye _ e
 have b:((nP p).2.2:Rat)≠0:=b;unfold nL;generalize((nP p).1:Rat)=x at *;generalize((nP p).2.2:Rat)=y at *;generalize(p.1:Rat)=z at *;generalize(p.2.2:Rat)=w at *;grind
theorem DQ{p:aT}(h:0<p.2.2):nM (nP p)=nM p:=by
 obtain⟨pt,_,e,_⟩:=gL (a:=p.1) (b:=p.2.1) (Sz h);have a:=h2 h;have b:=h2 pt.1;have e:((nP p).2.1:Rat)*p.2.2=p.2.1*(nP p).2.2:=by rw[<-TO,<-TO];exact Ye _ e
 have b:((nP p).2.2:Rat)≠0:=b;unfold nM;generalize((nP p).2.1:Rat)=x at *;generalize((nP p).2.2:Rat)=y at *;generalize(p.2.1:Rat)=z at *;generalize(p.2.2:Rat)=w at *;grind
theorem PL{n:Int}(aG:0<n)(ps:Z6):mA (ps.map λp=>dd p.1 p.2 n)=(tw ps:Rat)/((n:Rat)*n):=by
 have e:(ps.map λp=>dd p.1 p.2 n)=(ps.map up).map λq=>nP (q.1,q.2.1,n):=by rw[SI];rfl
 have bK:=h2 aG;rw[e,PK (λe=>(q2 e:Rat)/((n:Rat)*n)) λe aF=>?_]
 ·unfold tw;generalize dB (ps.map up)=aD;induction aD with
  |nil=>show(0:Rat)=((0:Int):Rat)/_;rw[show((0:Int):Rat)=0 from rfl];grind
  |cons e aD b2=>
   rw[SK,S5,b2,SK,S5,WS];grind
 unfold oW;rw[DP (p:=(e.1.1,e.1.2.1,n)) aG,DQ (p:=(e.1.1,e.1.2.1,n)) aG,DP (p:=(e.2.1,e.2.2.1,n)) aG,DQ (p:=(e.2.1,e.2.2.1,n)) aG];unfold nL nM;simp only[q2,Rat.intCast_sub,TO];grind
theorem DR:∀{cs:List Z9},(∀ps∈cs,∀p∈ps,0<p.2.2)->0<(dR (cs.flatMap f0)).2/\vq (dR (cs.flatMap f0))=(cs.map mA).sum
 |[],_=>⟨by decide,by show vq (0,1)=0;unfold vq;rw[show(((0:Int),(1:Int)).1:Rat)=0 from rfl];grind⟩
 |ps::cs,h=>by
  obtain⟨a,b⟩:=DR (cs:=cs) λa9 aA=>h a9 (SJ _ aA);obtain⟨c,d⟩:=PF (h ps SD);rw[XY,qD];exact⟨SO c a,by rw[DJ c a,b,d,SK,S5]⟩
theorem DS{n:Int}{f:Z6->Z9}:∀{rs:dC},(∀ps∈rs,mA (f ps)=(tw ps:Rat)/((n:Rat)*n))->((rs.map f).map mA).sum=(((rs.map tw).sum:Int):Rat)/((n:Rat)*n)
 |[],_=>by show(0:Rat)=((0:Int):Rat)/_;rw[show((0:Int):Rat)=0 from rfl];grind
 |ps::rs,h=>by
  rw[SK,SK,S5,h ps SD,DS λa9 aA=>h a9 (SJ _ aA),SK,S5,WS];grind
theorem PM{n:Int}{f:Z6->Z9}{rs:dC}{T:ay}(aG:0<n)(ak:∀ps∈rs,∀p∈f ps,0<p.2.2)(aq:∀ps∈rs,mA (f ps)=(tw ps:Rat)/((n:Rat)*n))(h:eu T (hf (dR ((rs.map f).flatMap f0)))):
  T=bM (rs.map tw).sum (2*n*n):=by
 obtain⟨a,b⟩:=DR (cs:=rs.map f) λa9 aA=>by
  obtain⟨ps,az,rfl⟩:=SF.mp aA;exact ak ps az
 have d:0<2*n*n:=SO (SO (by decide) aG) aG;have l:=eu.low (c:=(rs.map tw).sum) d;refine PG h.1 l.1 ?_;rw[h.vq,PH a,b,DS aq,l.vq];have bK:=h2 aG;unfold vq;simp only[TO];rw[show((2:Int):Rat)=2 from rfl];generalize(((rs.map tw).sum:Int):Rat)=x;generalize(n:Rat)=y at *;grind
end Cut
namespace Cut
open PySem L2 L3
open PySem.Builtin.Int (intBits)
abbrev PN:=List Z9
end Cut
namespace Cut
theorem q3{x:Nat}:∀{l:Z8},x∈l->x<=l.sum
 |y::l,h=>by
  rw[S5];rcases SH.mp h with rfl|h
  ·lia
  have:=q3 h;lia
end Cut
namespace Cut
open PySem L2 L3
open PySem.Builtin.Int (intBits)
theorem PO(cs:PN):has (.L (.L (.T [.I,.I,.I]))) (.lst (cs.map cq))=true:=by
 show((cs.map cq).all λx=>has (.L (.T [.I,.I,.I])) x)=true
 rw[TC];intro x hx;obtain⟨ps,_,rfl⟩:=SF.mp hx;exact M3 ps
end Cut
namespace Cut
def tA(a b c d:Int):Bool:=(decide (a<=0) != decide (c<=0))&&((decide (a*d-b*c<0)&&decide (a<c))||(decide (0<a*d-b*c)&&decide (c<a)))
def q4(a b c d:Int):Bool:=(decide (0<b) != decide (0<d))&&(if 0<d then decide (0<a*d-b*c)else decide (a*d-b*c<0))
def o0(a b:Int):Bool:=decide (0<a)&&decide (0<b)
theorem tB(x y:Int):(0<x->0<y->0<x*y)/\(0<x->y<=0->x*y<=0)/\(x<=0->0<y->x*y<=0)/\(x<=0->y<=0->0<=x*y):=
 ⟨λh g=>SO h g,λh g=>VP (Tq h) g,λh g=>VQ h (Tq g),λh g=>VR h g⟩
theorem PP{a b c d:Int}(h:a*d-b*c=0->0<a*c+b*d):(tA a b c d ^^ q4 a b c d)=(o0 a b ^^ o0 c d):=by
 obtain⟨s1,aI,bI,dG⟩:=tB a d;obtain⟨cS,cH,gX,qx⟩:=tB b c;obtain⟨u1,u2,j8,afH⟩:=tB a c;obtain⟨c9,e6,hM,afI⟩:=tB b d;unfold tA q4 o0;generalize a*d=ad at *;generalize b*c=tC at *;generalize a*c=ac at *;generalize b*d=s3 at *;rcases Vg 0 a with aq|aq<;>rcases Vg 0 b with ae|ae<;>rcases Vg 0 c with hc|hc<;>rcases Vg 0 d with hd|hd<;>grind
def b3:List Bool->Bool
 |[]=>false
 |b::l=>b ^^ b3 l
theorem tD:∀(a b:List Bool),b3 (a++b)=(b3 a ^^ b3 b)
 |[],b=>by show b3 b=(false ^^ b3 b);rw[Bool.false_xor]
 |x::a,b=>by
  show(x ^^ b3 (a++b))=((x ^^ b3 a) ^^ b3 b)
  rw[tD a b,Vh]
theorem DT(f:aT->Bool):∀(z:aT)(ps:Z9),b3 ((gg z ps).map λe=>f e.1 ^^ f e.2)=(f z ^^ f (lz z ps))
 |z,[]=>by show false=(f z ^^ f z);rw[Bool.xor_self]
 |z,p::r=>by
  show((f z ^^ f p) ^^ b3 ((gg p r).map λe=>f e.1 ^^ f e.2))=(f z ^^ f (lz p r))
  rw[DT f p r];cases f z<;>cases f p<;>cases f (lz p r)<;>rfl
theorem PQ(f:aT->Bool):∀(ps:Z9),b3 ((dB ps).map λe=>f e.1 ^^ f e.2)=false
 |[]=>rfl
 |p::r=>by
  show b3 ((gg (lz p r) (p::r)).map λe=>f e.1 ^^ f e.2)=false
  rw[DT];show(f (lz p r) ^^ f (lz p r))=false
  exact Bool.xor_self _
theorem DU{α:Type}(f g:α->Bool):∀(l:List α),b3 (l.map λx=>f x ^^ g x)=(b3 (l.map f) ^^ b3 (l.map g))
 |[]=>rfl
 |x::l=>by
  show((f x ^^ g x) ^^ b3 (l.map λx=>f x ^^ g x))=((f x ^^ b3 (l.map f)) ^^ (g x ^^ b3 (l.map g)))
  rw[DU f g l];cases f x<;>cases g x<;>cases b3 (l.map f)<;>cases b3 (l.map g)<;>rfl
abbrev q5(p:ay)(e:aT×aT):Bool:=tA (e.1.1-p.1) (e.1.2.1-p.2) (e.2.1-p.1) (e.2.2.1-p.2)
abbrev q6(p:ay)(e:aT×aT):Bool:=q4 (e.1.1-p.1) (e.1.2.1-p.2) (e.2.1-p.1) (e.2.2.1-p.2)
def q7(p:ay)(e:aT×aT):Prop:=(e.1.1-p.1)*(e.2.2.1-p.2)-(e.1.2.1-p.2)*(e.2.1-p.1)=0/\(e.1.1-p.1)*(e.2.1-p.1)+(e.1.2.1-p.2)*(e.2.2.1-p.2)<=0
theorem PR{p:ay}{ps:Z9}(h:∀e∈dB ps,¬q7 p e):b3 ((dB ps).map (q5 p))=b3 ((dB ps).map (q6 p)):=by
 have ah:(dB ps).map (λe=>q5 p e ^^ q6 p e)=(dB ps).map λe=>o0 (e.1.1-p.1) (e.1.2.1-p.2) ^^ o0 (e.2.1-p.1) (e.2.2.1-p.2):=
  Tj λe aF=>PP λz=>UC.mp λw=>h e aF ⟨z,w⟩
 have am:=PQ (λv=>o0 (v.1-p.1) (v.2.1-p.2)) ps;rw[<-ah,DU]at am;cases aB:b3 ((dB ps).map (q5 p))<;>cases aL:b3 ((dB ps).map (q6 p))<;>rw[aB,aL]at am<;>first|rfl|cases am
end Cut
namespace Cut
open PySem L2 L3
abbrev hP(n:Int)(p:ay):aT:=dd p.1 p.2 n
def aR(p q r:ay):Int:=(q.1-p.1)*(r.2-p.2)-(q.2-p.2)*(r.1-p.1)
theorem xL{w x y n:Int}(aG:0<n)(hw:0<w)(e:n*x=w*y):bV x=bV y:=by
 rcases Ve x 0 with h|h|h
 ·have:y<0:=UC.mp λg=>by
   have a:=UD (Tq hw) g;have b:=WG aG h;lia
  unfold bV;rw[TW (by lia),TT h,TW (by lia),TT this]
 ·subst h;rw[VL]at e
  have:y=0:=by
   rcases TS.mp e.symm with z|z
   ·lia
   exact z
  rw[this]
 have:0<y:=UC.mp λg=>by
  have a:=VP (Tq hw) g;have b:=SO aG h;lia
 unfold bV;rw[TT h,TT this]
theorem o1{n:Int}(aG:0<n)(p q r:ay):bV (xb (hP n p) (hP n q) (hP n r))=bV (aR p q r):=by
 obtain⟨a,dy,dJ,_⟩:=gL (a:=p.1) (b:=p.2) (Sz aG);obtain⟨b,b7,cr,_⟩:=gL (a:=q.1) (b:=q.2) (Sz aG);obtain⟨c,br,bF,_⟩:=gL (a:=r.1) (b:=r.2) (Sz aG);have w:0<(hP n p).2.2*(hP n q).2.2*(hP n r).2.2:=SO (SO a.1 b.1) c.1;refine xL (SO aG aG) w ?_;unfold xb crs aR hP;simp only;generalize(dd p.1 p.2 n).1=fF at *;generalize(dd p.1 p.2 n).2.1=cP at *;generalize(dd p.1 p.2 n).2.2=c9 at *;generalize(dd q.1 q.2 n).1=oU at *;generalize(dd q.1 q.2 n).2.1=d1 at *;generalize(dd q.1 q.2 n).2.2=e6 at *;generalize(dd r.1 r.2 n).1=qM at *;generalize(dd r.1 r.2 n).2.1=th at *;generalize(dd r.1 r.2 n).2.2=hM at *;grind
theorem DV{n fF qM c9 hM dy gN U V:Int}(aa:fF*n=dy*c9)(a':qM*n=gN*hM)(h:U*(c9*hM)=(fF*hM + -qM*c9)*V):c9*hM*(U*n)=c9*hM*((dy-gN)*V):=by grind
theorem DW{n:Int}(aG:0<n)(p r:ay):0<(nP (sld (fo (hP n r)) (hP n p))).2.2/\(nP (sld (fo (hP n r)) (hP n p))).1*n=(p.1-r.1)*(nP (sld (fo (hP n r)) (hP n p))).2.2/\(nP (sld (fo (hP n r)) (hP n p))).2.1*n=(p.2-r.2)*(nP (sld (fo (hP n r)) (hP n p))).2.2:=by
 obtain⟨a,dy,dJ,_⟩:=gL (a:=p.1) (b:=p.2) (Sz aG);obtain⟨c,br,bF,_⟩:=gL (a:=r.1) (b:=r.2) (Sz aG);have w:0<(sld (fo (hP n r)) (hP n p)).2.2:=SO a.1 c.1;obtain⟨s,s1,aI,_⟩:=gL (a:=(sld (fo (hP n r)) (hP n p)).1) (b:=(sld (fo (hP n r)) (hP n p)).2.1) (Sz w);refine⟨s.1,?_,?_⟩
 ·exact WT (Sz w) (DV dy br s1)
 exact WT (Sz w) (DV dJ bF aI)
theorem PS{n:Int}(aG:0<n)(p q r:ay):bV ((nP (sld (fo (hP n r)) (hP n p))).1*(nP (sld (fo (hP n r)) (hP n q))).1+(nP (sld (fo (hP n r)) (hP n p))).2.1*(nP (sld (fo (hP n r)) (hP n q))).2.1)=bV ((p.1-r.1)*(q.1-r.1)+(p.2-r.2)*(q.2-r.2)):=by
 obtain⟨a,dy,dJ⟩:=DW aG p r;obtain⟨b,b7,cr⟩:=DW aG q r;generalize nP (sld (fo (hP n r)) (hP n p))=u at *;generalize nP (sld (fo (hP n r)) (hP n q))=v at *;refine xL (SO aG aG) (SO a b) ?_;grind
theorem PT{n:Int}(aG:0<n)(p q:ay):((hP n q).2.1*(hP n p).2.2<(hP n p).2.1*(hP n q).2.2)↔q.2<p.2:=by
 obtain⟨a,_,dJ,_⟩:=gL (a:=p.1) (b:=p.2) (Sz aG);obtain⟨c,_,bF,_⟩:=gL (a:=q.1) (b:=q.2) (Sz aG);have w:0<(hP n p).2.2*(hP n q).2.2:=SO a.1 c.1
 have e:bV ((hP n p).2.1*(hP n q).2.2-(hP n q).2.1*(hP n p).2.2)=bV (p.2-q.2):=by
  refine xL aG w ?_;unfold hP;generalize dd p.1 p.2 n=u at *;generalize dd q.1 q.2 n=v at *;grind
 unfold bV at e;constructor
 ·intro h;rw[TT (by lia)]at e;split at e
  ·lia
  split at e<;>lia
 intro h;rw[TT (show 0<p.2-q.2 by lia)]at e;split at e
 ·lia
 split at e<;>lia
end Cut
namespace Cut
open PySem L2 L3
open PySem.Builtin.Int (intBits)
@[reducible] def dm(p:ay):Prop :=-3000<=p.1/\p.1<=3000 /\ -3000<=p.2/\p.2<=3000
theorem xM{x:Int}(bi : -100000000000000<=x)(aa:x<=100000000000000):T0 x<=50:=by
 refine intBits_le_iff.mpr ?_;have e:(2:Nat)^50=1125899906842624:=rfl;rw[e];lia
theorem kc{n:Int}(bK:0<n)(bx:n<=100000000000000){p:ay}(h:dm p):nG 50 (hP n p):=by
 obtain⟨a,b,c,d⟩:=h;exact⟨BQ (p:=(p.1,p.2,n)) (by show n≠0;lia),dz.nP (p:=(p.1,p.2,n)) ⟨xM (x:=p.1) (by lia) (by lia),xM (x:=p.2) (by lia) (by lia),xM (x:=n) (by lia) (by lia)⟩ (by show n≠0;lia)⟩
theorem DX{m:Nat}{p:aT}(h:nG m p):nG m (fo p):=⟨AD h.pt,⟨YD h.bp.a,YD h.bp.b,h.bp.c⟩⟩
def cW(p q r:ay):Bool:=decide (aR p q r=0)&&decide ((p.1-r.1)*(q.1-r.1)+(p.2-r.2)*(q.2-r.2)<=0)
theorem PU{x y:Int}(h:bV x=bV y):x<=0↔y<=0:=by
 unfold bV at h;by_cases a:0<x
 ·rw[TT a]at h;by_cases b:0<y
  ·lia
  rw[TW b]at h;split at h<;>lia
 rw[TW a]at h;by_cases b:0<y
 ·rw[TT b]at h;split at h<;>lia
 lia
def b5(ps:Z6):List (ay×ay):=ps.zip (ps.drop 1++ps.take 1)
def d6(p:ay)(e:ay×ay):Bool:=q4 (e.1.1-p.1) (e.1.2-p.2) (e.2.1-p.1) (e.2.2-p.2)
theorem xN{α:Type}{f g:α->D}{s:cx}{U:fu}{i j:Nat}(I:List α->Z3->Prop):∀{rs done:List α}{ρ:Z3},I done ρ->
  (∀(pre:List α)(e:α)(rest:List α) ρ,done++rs=pre++e::rest->I pre ρ->∀N:Z3->Prop,(∀cG,I (pre++[e]) cG->N cG)->s {U with nx:=N,ct:=N,bk:=U.nx} ((ρ.set i (.val (f e))).set j (.val (g e))))->(∀ρ,I (done++rs) ρ->U.nx ρ)->
  gI (nh 2 (iZ (en i) (iZ (en j) ng))) s U (rs.map λe=>.tup [f e,g e]) ρ
 |[],done,ρ,bi,_,ab=>ab ρ (by rw[TK];exact bi)
 |e::rs,done,ρ,bi,aa,ab=>by
  refine⟨_,rfl,rfl,_,_,rfl,_,_,rfl,rfl,aa done e rs ρ rfl bi _ λcG au=>?_⟩;have eq:done++e::rs=(done++[e])++rs:=by simp
  exact xN I au (λpre a7 rest ρ h=>aa pre a7 rest ρ (by rw[eq];exact h)) λρ h=>ab ρ (by rw[eq];exact h)
theorem kd{ps:Z6}{e:ay×ay}(h:e∈b5 ps):e.1∈ps/\e.2∈ps:=by
 obtain⟨aa,ab⟩:=U8 (show(e.1,e.2)∈ps.zip (ps.drop 1++ps.take 1)from h);refine⟨aa,?_⟩;rcases S3.mp ab with h|h
 ·exact VA h
 exact Vb h
theorem tE(p:ay)(e:ay×ay):d6 p e=((decide (p.2<e.1.2) != decide (p.2<e.2.2))&&(if p.2<e.2.2 then decide (0<aR e.1 e.2 p)else decide (aR e.1 e.2 p<0))):=by
 unfold d6 q4 aR;have ah:(e.1.1-p.1)*(e.2.2-p.2)-(e.1.2-p.2)*(e.2.1-p.1)=(e.2.1-e.1.1)*(p.2-e.1.2)-(e.2.2-e.1.2)*(p.1-e.1.1):=by grind
 rw[ah];have am:decide (0<e.1.2-p.2)=decide (p.2<e.1.2):=decide_eq_decide.mpr ⟨λh=>by lia,λh=>by lia⟩;have bz:decide (0<e.2.2-p.2)=decide (p.2<e.2.2):=decide_eq_decide.mpr ⟨λh=>by lia,λh=>by lia⟩;rw[am,bz];by_cases c:p.2<e.2.2
 ·rw[TT c,TT (show 0<e.2.2-p.2 by lia)]
 rw[TW c,TW (show ¬0<e.2.2-p.2 by lia)]
theorem PV(l:List Bool)(b:Bool):b3 (l++[b])=(b3 l ^^ b):=by
 rw[tD];show(b3 l ^^ (b ^^ false))=_
 rw[UZ]
theorem DY{n:Int}(aG:0<n)(p q:ay):decide ((hP n q).2.1*(hP n p).2.2<(hP n p).2.1*(hP n q).2.2)=decide (q.2<p.2):=decide_eq_decide.mpr (PT aG p q)
theorem DZ{x:Int}:bV x=1↔0<x:=by
 unfold bV;by_cases a:0<x
 ·rw[TT a];exact⟨λ_=>a,λ_=>rfl⟩
 rw[TW a];split
 ·exact⟨λh=>by lia,λh=>absurd h a⟩
 exact⟨λh=>by lia,λh=>absurd h a⟩
theorem D0{x:Int}:bV x = -1↔x<0:=by
 unfold bV;by_cases a:0<x
 ·rw[TT a];exact⟨λh=>by lia,λh=>by lia⟩
 rw[TW a];by_cases b:x<0
 ·rw[TT b];exact⟨λ_=>b,λ_=>rfl⟩
 rw[TW b];exact⟨λh=>by lia,λh=>absurd h b⟩
theorem D1{α:Type}{P:α->Bool}:∀(l:List α),decide ((((l.filter P).length:Nat):Int)%2=1)=b3 (l.map P)
 |[]=>rfl
 |x::l=>by
  have b2:=D1 (P:=P) l;show _=(P x ^^ b3 (l.map P))
  rw[<-b2];cases c:P x with
  |true=>
   rw[XO c,SR,Bool.true_xor];by_cases h:(((l.filter P).length:Nat):Int)%2=1
   ·rw[Tl h,Tk (by lia)];rfl
   rw[Tk h,Tl (by lia)];rfl
  |false=>rw[XQ (by rw[c];exact SN),Bool.false_xor]
theorem PW(p q r:ay):q5 p (up q,up r)=((decide (q.1<=p.1) != decide (r.1<=p.1))&&((decide (aR q r p<0)&&decide (q.1<r.1))||(decide (0<aR q r p)&&decide (r.1<q.1)))):=by
 unfold q5 tA aR;show((decide (q.1-p.1<=0) != decide (r.1-p.1<=0))&&((decide ((q.1-p.1)*(r.2-p.2)-(q.2-p.2)*(r.1-p.1)<0)&&decide (q.1-p.1<r.1-p.1))||(decide (0<(q.1-p.1)*(r.2-p.2)-(q.2-p.2)*(r.1-p.1))&&decide (r.1-p.1<q.1-p.1))))=_
 have ah:(q.1-p.1)*(r.2-p.2)-(q.2-p.2)*(r.1-p.1)=(r.1-q.1)*(p.2-q.2)-(r.2-q.2)*(p.1-q.1):=by grind
 rw[ah];have cQ:decide (q.1-p.1<=0)=decide (q.1<=p.1):=decide_eq_decide.mpr ⟨λh=>by lia,λh=>by lia⟩;have c4:decide (r.1-p.1<=0)=decide (r.1<=p.1):=decide_eq_decide.mpr ⟨λh=>by lia,λh=>by lia⟩;have m6:decide (q.1-p.1<r.1-p.1)=decide (q.1<r.1):=decide_eq_decide.mpr ⟨λh=>by lia,λh=>by lia⟩;have xO:decide (r.1-p.1<q.1-p.1)=decide (r.1<q.1):=decide_eq_decide.mpr ⟨λh=>by lia,λh=>by lia⟩;rw[cQ,c4,m6,xO]
end Cut
namespace Cut
open PySem
abbrev nO(e:ay×ay):aT×aT:=(up e.1,up e.2)
theorem D2:∀(x y:ay)(l:Z6),((x::l).zip (l++[y])).map nO=gg (up x) (l.map up)++[(lz (up x) (l.map up),up y)]
 |x,y,[]=>rfl
 |x,y,a::l=>by
  show(up x,up a)::((a::l).zip (l++[y])).map nO=(up x,up a)::(gg (up a) (l.map up)++[(lz (up a) (l.map up),up y)])
  rw[D2 a y l]
theorem xP:∀(ps:Z6),∃a b,(b5 ps).map nO=a++b/\dB (ps.map up)=b++a
 |[]=>⟨[],[],rfl,rfl⟩
 |x::l=>⟨gg (up x) (l.map up),[(lz (up x) (l.map up),up x)],D2 x x l,rfl⟩
theorem PX(p:ay)(ps:Z6):b3 ((b5 ps).map (d6 p))=b3 ((dB (ps.map up)).map (q6 p)):=by
 obtain⟨a,b,aa,ab⟩:=xP ps;have e:(b5 ps).map (d6 p)=((b5 ps).map nO).map (q6 p):=by rw[SI];rfl
 rw[e,aa,ab,S0,S0,tD,tD,WU]
theorem D3(p:ay)(e:ay×ay):cW e.1 e.2 p=true↔q7 p (nO e):=by
 unfold cW q7 aR;rw[Te,decide_eq_true_eq,decide_eq_true_eq];have ah:(e.2.1-e.1.1)*(p.2-e.1.2)-(e.2.2-e.1.2)*(p.1-e.1.1)=(e.1.1-p.1)*(e.2.2-p.2)-(e.1.2-p.2)*(e.2.1-p.1):=by grind
 rw[ah]
theorem PY(p:ay)(ps:Z6):((b5 ps).any λe=>cW e.1 e.2 p)=true↔∃e∈dB (ps.map up),q7 p e:=by
 obtain⟨a,b,aa,ab⟩:=xP ps;have mem:∀e,e∈dB (ps.map up)↔e∈(b5 ps).map nO:=λe=>by rw[aa,ab,S3,S3,or_comm]
 rw[Vz];constructor
 ·rintro⟨e,aF,h⟩;exact⟨nO e,(mem _).mpr (SF.mpr ⟨e,aF,rfl⟩),(D3 p e).mp h⟩
 rintro⟨e,aF,h⟩;obtain⟨a7,j0,rfl⟩:=SF.mp ((mem _).mp aF);exact⟨a7,j0,(D3 p a7).mpr h⟩
end Cut
namespace Cut
open PySem L2 L3
open PySem.Builtin.Int (intBits)
theorem jp.wd{p:ay}(h:jp p):dm p:=by
 obtain⟨a,b,c,d⟩:=h;exact⟨by lia,by lia,by lia,by lia⟩
end Cut
namespace L3
open PySem L2
section
variable{K:Sx}{u:a2}{w:cN}
def PZ(K:Sx)(B:al)(J:f5)(ds:Z7):Prop:=∀(H:al),ca B H->∀i,(i<ds.length->J.go i H)/\(ds.length<=i->J.stop i H)/\∀x aj,i<ds.length->J.yld i H x aj->∃q vs aD,H q=none/\x=.ref q/\aj=upd H q (.tup vs)/\ds[i]?=some (.tup aD)/\Reps K B vs aD
def D4(K:Sx)(t:bL)(u:cN):Prop:=∀(ρ:Z3)(k:Z7->Prop),u ρ k->∀(R:al)(W:TE->Prop)(B H:al)(σ:St)(Q:f5->al->Prop),a3 K R W B H σ ρ->
 (∀ds J aC aj,k ds->a3 K R W aC aj σ ρ->bC R B aC->PZ K aC J ds->Q J aj)->t σ H Q
theorem P0{dF:bL}{g:e7}{tt:dq}{b6:bA}{eK:e1}{cV:cK}{c1:Nat}{js:Z8}(bi:D4 K dF w)(aJ:ou K g eK)(bw:gV K tt cV)(aa:dv K b6 u)(lC:js.Nodup):si K (qh dF g tt b6 c1 js) (nw w eK cV u c1 js):=by
 intro ρ k h R W B H σ Q e q;refine bi ρ _ h R W B H σ _ e λds J a5 ar aE ah aK it=>?_;obtain⟨ax,aE⟩:=aE;intro D f8;obtain⟨bv,bJ,bY⟩:=ah.toWd.fresh f8;have mo:∀i,¬cE σ ρ i D:=λi m=>ah.notNew f8 m rfl;have ei:=ah.within c1 lC
 have jV:∀j a,cE (SY c1 none++gq σ js) (SY c1 .no++js.map (gZ ρ)) j a->∃j,j∈js/\σ[j]?=some (some (V.ref a))/\ρ[j]?=some aN.bag:=λj a m=>by
  have aL:=(ei.mutOk m).2;rcases m with⟨m1,z|⟨aD,z⟩⟩|⟨c,z,m3⟩
  ·obtain⟨c,br,bF,_⟩:=ei.bagAt z;rw[m1]at br;cases br;rcases bF with bF|bF
   ·exact bF
   exact absurd bF aL
  ·obtain⟨c,br,bF,_⟩:=ei.ownC z;rw[m1]at br;cases br;exact absurd bF aL
  exact absurd ((ei.deepAt z).2.fr a m3).1 aL
 generalize mq:(λa=>∃j,j∈js/\σ[j]?=some (some (V.ref a))/\ρ[j]?=some aN.bag)=et at ei;have jV:∀j a,cE (SY c1 none++gq σ js) (SY c1 .no++js.map (gZ ρ)) j a->et a:=λj a m=>by rw[<-mq];exact jV j a m
 have gD:∀a,et a->∃i:Nat,σ[i]?=some (some (.ref a))/\ρ[i]?=some .bag:=λa z=>by
  rw[<-mq]at z;obtain⟨j,_,z⟩:=z;exact⟨j,z⟩
 have jW:¬et D:=λz=>by
  obtain⟨fm,cP,d1⟩:=gD D z;exact mo fm (.inl ⟨cP,.inl d1⟩)
 refine⟨λi m iv aj=>∃aC ys aD g0,m=ds.length-i/\i<=ds.length/\a3 K ar et aC aj iv g0/\bC ar a5 aC/\aj D=some (.lst ys)/\aC D=none/\(∀j a,cE iv g0 j a->et a)/\ys.length<=i/\Reps K aC ys aD/\fv eK cV u (ds.drop i) g0 λr=>k (aD++r),
  ⟨ds.length,a5,[],[],_,by simp,Tu _,ei.allocH f8 _,bC.refl _ _,eo,bY,jV,SG _,.nil,by simpa using aE⟩,?_⟩
 rintro i m iv a0 ⟨bu,ys,aD,g0,rfl,ao,am,aP,hy,ae,qp,BI,b',aU⟩;obtain⟨cS,cH,gX⟩:=it a0 (aP.s.trans am.bh) i;by_cases ce:i<ds.length
 ·refine .inr ⟨cS ce,λx aj y=>?_⟩;obtain⟨iB,nQ,D5,lK,rfl,rfl,hd,a8⟩:=gX x aj ce y
  have ga:ds.drop i=.tup D5::ds.drop (i+1):=by
   rw[T' ce];rw[SS ce]at hd;rw[SM hd]
  rw[ga]at aU;have D6:D≠iB:=λz=>by rw[z,lK]at hy;cases hy
  have D7:=am.grow lK (.tup nQ);have xQ:=am.alloc lK (.tup nQ);have o2:upd a0 iB (.tup nQ) D=some (.lst ys):=by rw[cB D6];exact hy
  have D8:upd bu iB (.tup nQ) D=none:=by rw[cB D6];exact ae
  have xR:=b'.mono D7.s;have tF:=aP.trans D7;have D9:bH K (upd bu iB (.tup nQ)) (.ref iB) (.tup D5):=.tup eo (a8.mono tF.s);generalize upd a0 iB (.tup nQ)=aj at xQ o2;generalize upd bu iB (.tup nQ)=xS at xQ D8 xR tF D9;refine aJ _ g0 _ aU ar et xS aj iv _ _ xQ D9 λg1 fq fV bz hT=>?_;have ge:∀j a,cE fq g1 j a->et a:=λj a m=>qp j a (hT j a m)
  have jX:∀{fw:al},bC aj xS fw->fw D=none:=λ{fw} db=>by
   cases qq:fw D with
   |none=>rfl
   |some o=>
    rcases db.n D o qq with z|z
    ·rw[D8]at z;cases z
    rw[o2]at z;cases z
  refine bw g1 _ fV aj et xS aj fq _ (bz.rebase ge) λb fw fD fH cF db=>?_;have qr:fD D=some (.lst ys):=cF.fr D _ o2 jW;cases b with
  |false=>
   rw[TW SN]at fH⊢;obtain⟨ej,g2⟩:=bz.unbase ge cF db;exact⟨ds.length-(i+1),by lia,fw,ys,aD,g1,rfl,ce,ej,tF.trans g2,qr,jX db,ge,by lia,xR.mono db.s,fH⟩
  |true=>
   rw[TT rfl]at fH⊢;refine aa g1 _ fH aj et fw fD fq _ cF λy' v qs er nu ej g2 ff=>?_;have iw:=db.trans g2;have qt:er D=some (.lst ys):=ej.fr D _ o2 jW;obtain⟨jY,qu⟩:=bz.unbase ge ej iw;refine⟨ys,qt,by lia,ds.length-(i+1),by lia,qs,ys++[v],aD++[y'],g1,rfl,ce,jY.scribble f8 (jX iw) (λj m=>jW (ge j D m)) _,tF.trans qu,eo,jX iw,ge,by rw[SU,U9];lia,(xR.mono iw.s).append (.cons ff .nil),?_⟩;simpa[Ub]using nu
 have eq:i=ds.length:=by lia
 subst eq;rw[UP]at aU;obtain⟨cF,db⟩:=ah.after gD am.toWd aP;refine .inl ⟨cH (SG _),q _ D ys bu a0 (by simpa[fv]using aU) cF (aK.trans db) bv ae hy b' mo⟩
def xT(X:a1)(bd e:WP)(u:cN):Prop:=∃t,hN X bd e t/\D4 X.K t u
variable{X:a1}{cp iter bd:WP}{cA:agb}{scope:Y2}{cl:List (Str×TE)}{ts fr:af9}{js:Z8}{eK:e1}{cV:cK}{pos:Pos}
theorem P1(ao:xT X bd iter w)(aJ:∀C s H ex,io (cY X (ts++fr) scope cl C s H ex) bd eK)(gt:∀C s H ex,ny (cY X (ts++fr) scope cl C s H ex) cA cV)(jU:∀C s H ex,aV (cY X (ts++fr) scope cl C s H ex) cp u)(F:lA X scope cl fr js)(nz:js.Nodup:=by decide)(hc:X.calm=true:=by rfl)(av:∀v,WF iter X.env v=pure v:=by intro _;rfl):hV X (.ListComp cp [⟨bd,iter,cA,0⟩] scope pos) (nw w eK cV u ts.length js):=by
 obtain⟨_,bi,ek⟩:=ao;obtain⟨wU,nA,nB⟩:=sR (K:=X.K) (Xs:=λa:TE×SZ×al×aga=>cY X (ts++fr) scope cl a.1 a.2.1 a.2.2.1 a.2.2.2) (λ_=>rfl) λa=>aJ a.1 a.2.1 a.2.2.1 a.2.2.2;obtain⟨tt,nC,rt⟩:=sQ (K:=X.K) (Xs:=λa:TE×SZ×al×aga=>cY X (ts++fr) scope cl a.1 a.2.1 a.2.2.1 a.2.2.2) (λ_=>rfl) λa=>gt a.1 a.2.1 a.2.2.1 a.2.2.2;obtain⟨b6,j0,i1⟩:=wT (K:=X.K) (Xs:=λa:TE×SZ×al×aga=>cY X (ts++fr) scope cl a.1 a.2.1 a.2.2.1 a.2.2.2) (λ_=>rfl) λa=>jU a.1 a.2.1 a.2.2.1 a.2.2.2;exact⟨_,BD bi (λC s H ex=>nA (C,s,H,ex)) (λC s H ex=>nC (C,s,H,ex)) (λC s H ex=>j0 (C,s,H,ex)) F hc av,P0 ek nB rt i1 nz⟩
end
def P2(n j1 j2:Nat)(dw:cK)(s:cx):cx:=λU ρ=>∃ls:List (D×Bool),ρ[n]?=some (.own (.l (ls.map Prod.fst))) /\
 (∀d∈ls,∃cQ c4,d.1=.tup [cQ,c4]/\dw (((ρ.set j1 (.val cQ)).set j2 (.val c4)).map kF) (λb=>b=d.2)/\(d.2=true->s {nx:=λ_=>False,rt:=U.rt} ((ρ.set j1 (.val cQ)).set j2 (.val c4)))) /\
 (ls.any U0=false->∀s1 aI,U.nx ((ρ.set j1 s1).set j2 aI))
theorem D'{ρ:Z3}(j:Nat):ρ.set j ((ρ[j]?).getD .no)=ρ:=by
 apply Ux;intro t;rw[List.getElem?_set];split
 ·rename_i q;subst q
  split
  ·rename_i lt;rw[SS lt];rfl
  rename_i lt;rw[TM (by lia)]
 rfl
theorem P3{ρ:Z3}{j1 j2:Nat}(h:j1≠j2)(a b c d:aN):(((ρ.set j1 a).set j2 b).set j1 c).set j2 d=(ρ.set j1 c).set j2 d:=by
 rw[List.set_comm _ _ (S2 h),Vw,Vw]
section
variable{X:a1}
theorem P4{n j1 j2:Nat}{x:Str}{c3 pos fR:Pos}{bd c:WP}{dw:cK}{s3:agc}{s:cx}(aa:n≠j1)(ab:n≠j2)(a':j1≠j2)(ak:Y5 (Wp X.prog X.w) X.A X.env X.xe)(hc:X.calm=true)(aJ:io X bd (nh 2 (iZ (en j1) (iZ (en j2) ng))))(bw:fi X c dw)(ae:fW X s3 s)(bU:jx X n x:=by rfl)(hv:ie X.env.scope x:=by walk_at"v")(hd:eC x:=by decide)(ee:iK x:=by decide)(av:∀v,WF (.Name x c3) X.env v=pure v:=by intro _;rfl):e9 X (.For bd (.Name x c3) [.If c s3 [] fR] [] pos) (P2 n j1 j2 dw s):=by
 obtain⟨_,aB,ai⟩:=aJ;obtain⟨_,aL,aw⟩:=bw;obtain⟨_,cv,eg⟩:=ae;refine⟨_,pF ak hc (vM (jb bU hv hd ee)) aB (km (mT aL cv mS)) av,λU ρ h R W B H σ D e sm=>?_⟩;obtain⟨ls,aM,hu,hx⟩:=h;have q8:∃ds,ds=ls.map Prod.fst:=⟨_,rfl⟩;obtain⟨ds,q8⟩:=q8;have P5:ds.length=ls.length:=by rw[q8,Sw]
 rw[<-q8]at aM;obtain⟨a,vs,oD,sH,afJ,P6,afK⟩:=e.ownAt aM;have own:∀s1 aI,((ρ.set j1 s1).set j2 aI)[n]?=some (.own (.l ds)):=λs1 aI=>by rw[TY (S2 ab),TY (S2 aa)];exact aM
 refine⟨.ref a,oD,a,rfl,⟨vs,b0.of P6⟩,?_⟩;refine⟨λi m a4 aj=>∃s1 aI aC,m=ds.length-i/\i<=ds.length/\(ls.take i).any U0=false/\a3 X.K R W aC aj a4 ((ρ.set j1 s1).set j2 aI)/\a4[n]?=some (some (.ref a))/\bC R B aC,⟨ds.length,(ρ[j1]?).getD .no,(ρ[j2]?).getD .no,B,by simp,Tu _,rfl,?_,oD,bC.refl _ _⟩,?_⟩
 ·rw[D',D'];exact e
 rintro i m fB a0 ⟨s1,aI,bu,rfl,ao,hf,am,aq,aP⟩;obtain⟨rZ,ni,aB,aL,cv,fe,kr⟩:=am.ownAt (own s1 aI);rw[aq]at aB;cases aB;have ax:=kr.length;by_cases ce:i<ds.length
 ·have xx:i<ni.length:=by lia
  refine .inr ⟨⟨ni,ni[i],b0.of fe,SS xx⟩,λa4 aj=>∃s1 aI aC,(ls.take (i+1)).any U0=false/\a3 X.K R W aC aj a4 ((ρ.set j1 s1).set j2 aI)/\a4[n]?=some (some (.ref a))/\bC R B aC,?_,?_⟩
  ·rintro a4 aj ⟨s1,aI,aC,nR,a7,z,g⟩;exact⟨ds.length-(i+1),by lia,s1,aI,aC,rfl,ce,nR,a7,z,g⟩
  rintro x aj ⟨rfl,hy⟩;obtain⟨d,hd,a8⟩:=kr.getV (hy ni (b0.of fe));rw[q8,S1]at hd;obtain⟨p,xU,rfl⟩:=XE.mp hd;obtain⟨cQ,c4,ga,u1,u2⟩:=hu p (S4 xU);refine ai p.1 _ (λbt=>bt=(ρ.set j1 (.val cQ)).set j2 (.val c4)) ⟨_,ga,rfl,_,_,rfl,_,_,rfl,rfl,P3 a' ..⟩ R W bu aj fB _ _ am a8 λbt a4 dN a7 hT=>?_;subst dN;obtain⟨dJ,_,cP,_⟩:=a7.ownAt (own (.val cQ) (.val c4));have m2:=hT n dJ (.inl ⟨cP,.inr ⟨_,own (.val cQ) (.val c4)⟩⟩);have ft:=JX m2 (own s1 aI);rw[aq]at ft;cases ft;refine aw _ _ u1 _ _ _ _ _ _ a7.frame λb je cg fV bz g3=>?_;subst fV;have cF:=a7.unframe bz.fr bz.wh
  have bm:ls.take (i+1)=ls.take i++[p]:=by
   rw[VE,xU];rfl
  cases Ea:p.2 with
  |false=>
   rw[TW SN];exact⟨.val cQ,.val c4,bu,by rw[bm,List.any_append,hf];simp[Ea],cF,cP,aP⟩
  |true=>
   rw[TT rfl];exact eg _ _ (u2 Ea) R W bu _ a4 _ cF ⟨λbt a4 aC aj z a7 g=>z.elim,λbt a4 aC aj z a7 g=>z.elim,λbt a4 aC aj z a7 g=>z.elim,λr v aC aj z a7 g q=>sm.rt r v aC aj z a7 (aP.trans g) q⟩
 have ei:i=ds.length:=by lia
 subst ei;rw[P5,WV]at hf;exact .inl ⟨⟨ni,b0.of fe,by lia⟩,sm.nx _ fB bu a0 (hx hf s1 aI) am aP⟩
end
section
variable{X:a1}{bd:WP}{w:cN}{pos:Pos}
theorem P7{iter:WP}{body:agc}{g:e1}{s:cx}(ak:Y5 (Wp X.prog X.w) X.A X.env X.xe)(hc:X.calm=true)(ao:xT X bd iter w)(aJ:io X bd g)(ae:fW X body s)(av:∀x,WF iter X.env x=pure x:=by intro _;rfl):e9 X (.For bd iter body [] pos) (A9 w g s):=by
 obtain⟨_,bi,ek⟩:=ao;obtain⟨_,aa,ai⟩:=aJ;obtain⟨_,ab,aw⟩:=ae;refine⟨_,pF ak hc bi aa ab av,λU ρ h R W B H σ D e sm=>?_⟩;refine ek ρ _ h R W B H σ _ e λds J a5 ar aE ah aK it=>?_;refine⟨λi m a4 aj=>∃bt aC,m=ds.length-i/\i<=ds.length/\gI g s U (ds.drop i) bt/\a3 X.K R W aC aj a4 bt/\bC R B aC/\ca a5 aC,⟨ds.length,ρ,a5,by simp,Tu _,aE,ah,aK,ca.refl _⟩,?_⟩;rintro i m fB a0 ⟨gH,bu,rfl,ao,aU,am,aP,aI⟩;obtain⟨cS,cH,gX⟩:=it a0 (aI.trans am.bh) i;by_cases ce:i<ds.length
 ·refine .inr ⟨cS ce,λa4 aj=>∃bt aC,gI g s U (ds.drop (i+1)) bt/\a3 X.K R W aC aj a4 bt/\bC R B aC/\ca a5 aC,?_,?_⟩
  ·rintro a4 aj ⟨bt,aC,z,a7,g',s'⟩;exact⟨ds.length-(i+1),by lia,bt,aC,rfl,ce,z,a7,g',s'⟩
  rintro x aj hy;obtain⟨q,vs,aD,lK,rfl,rfl,hd,a8⟩:=gX x aj ce hy
  have ga:ds.drop i=.tup aD::ds.drop (i+1):=by
   rw[T' ce];rw[SS ce]at hd;rw[SM hd]
  rw[ga]at aU;have g3:=am.grow lK (.tup vs);have bz:=am.alloc lK (.tup vs);refine ai _ gH _ aU R W _ _ fB (.ref q) _ bz (.tup eo (a8.mono (aI.trans g3.s))) λbt a4 dN a7 _=>?_;have db:=aP.trans g3;have dG:=aI.trans g3.s;exact aw _ bt dN R W _ _ a4 _ a7 ⟨λbt a4 aC aj z a7 g=>⟨bt,aC,z,a7,db.trans g,dG.trans g.s⟩,λbt a4 aC aj z a7 g=>sm.nx bt a4 aC aj z a7 (db.trans g),λbt a4 aC aj z a7 g=>⟨bt,aC,z,a7,db.trans g,dG.trans g.s⟩,λr v aC aj z a7 g q=>sm.rt r v aC aj z a7 (db.trans g) q⟩
 have ei:i=ds.length:=by lia
 subst ei;rw[UP]at aU;exact .inl ⟨cH (SG _),sm.nx gH fB bu a0 aU am aP⟩
end
theorem Eb{α:Type}{f g h:α->D}{u:a2}{fs:Z3}:∀{rs:List α}{dc v1:aN}{k:Z7->Prop},(∀r∈rs,∀k:D->Prop,k (h r)->u (.val (f r)::.val (g r)::fs) k)->k (rs.map h)->fv (nh 2 (iZ (en 0) (iZ (en 1) ng))) i2 u (rs.map λr=>.tup [f r,g r]) (dc::v1::fs) k
 |[],_,_,_,_,hk=>hk
 |r::rs,dc,v1,k,hu,hk=>by
  refine⟨_,rfl,rfl,_,_,rfl,_,_,rfl,rfl,?_⟩;show(if true=true then u (.val (f r)::.val (g r)::fs) λy=>fv (nh 2 (iZ (en 0) (iZ (en 1) ng))) i2 u (rs.map λr=>.tup [f r,g r]) (.val (f r)::.val (g r)::fs) λys=>k (y::ys)else fv (nh 2 (iZ (en 0) (iZ (en 1) ng))) i2 u (rs.map λr=>.tup [f r,g r]) (.val (f r)::.val (g r)::fs) k)
  rw[TT rfl];exact hu r SD _ (Eb (λq aA=>hu q (SJ _ aA)) hk)
end L3
namespace Tab
open PySem PySem.SetTable
def q9(owner:Array (Option Nat))(k:Nat):Prop:=∀v,v<k->∃j,owner.getD j none=some v
theorem q9.put{owner:Array (Option Nat)}{j k:Nat}(h:q9 owner k)(aQ:(owner.getD j (some 0)).isNone=true):q9 (owner.setIfInBounds j (some k)) (k+1):=by
 have j6:j<owner.size:=VS λz=>by
  rw[Ta,Vi.mpr z]at aQ;cases aQ
 have P8:owner[j]?=some none:=by
  rw[Ta,TN j6]at aQ;rw[TN j6];cases q:owner[j]with
  |none=>rfl
  |some x=>rw[q]at aQ;cases aQ
 intro v hv;by_cases e:v=k
 ·refine⟨j,?_⟩;rw[Ta,WW j6,e];rfl
 obtain⟨i,ao⟩:=h v (by lia);refine⟨i,?_⟩
 have ne:j≠i:=λz=>by
  subst z;rw[Ta,P8]at ao;cases ao
 rw[Ta,WX ne,<-Ta];exact ao
theorem fold_all{m:Nat}:∀(av:Z5)(owner jo:Array (Option Nat))(k gB:Nat),q9 owner k->(∀i q fuel j o,SetTable.layClean.free m o fuel i q=some j->(o.getD j (some 0)).isNone=true)->
  av.foldl (init:=some (owner,k)) (λacc h=>do
   let(owner,k) <-acc
   let j <-SetTable.layClean.free m owner (turns m) (bits h%(m+1)) (bits h)
   pure (owner.setIfInBounds j (some k),k+1))=some (jo,gB)->q9 jo gB
 |[],owner,jo,k,gB,o,_,e=>by
  have e:=SM e;cases e;exact o
 |h::av,owner,jo,k,gB,o,fr,e=>by
  rw[UY]at e;cases q:SetTable.layClean.free m owner (turns m) (bits h%(m+1)) (bits h)with
  |none=>
   exfalso
   have z:∀l:Z5,l.foldl (init:=(none:Option (Array (Option Nat)×Nat))) (λacc h=>do
    let(owner,k) <-acc
    let j <-SetTable.layClean.free m owner (turns m) (bits h%(m+1)) (bits h)
    pure (owner.setIfInBounds j (some k),k+1))=none:=λl=>by
    induction l with
    |nil=>rfl
    |cons x l b2=>rw[UY];exact b2
   have am:(do
    let(owner,k) <-some (owner,k)
    let j <-SetTable.layClean.free m owner (turns m) (bits h%(m+1)) (bits h)
    pure (owner.setIfInBounds j (some k),k+1))=none:=by
    show(do let j <-SetTable.layClean.free m owner (turns m) (bits h%(m+1)) (bits h);pure (owner.setIfInBounds j (some k),k+1))=none;rw[q];rfl
   rw[am,z av]at e;cases e
  |some j=>
   have am:(do
    let(owner,k) <-some (owner,k)
    let j <-SetTable.layClean.free m owner (turns m) (bits h%(m+1)) (bits h)
    pure (owner.setIfInBounds j (some k),k+1))=some (owner.setIfInBounds j (some k),k+1):=by
    show(do let j <-SetTable.layClean.free m owner (turns m) (bits h%(m+1)) (bits h);pure (owner.setIfInBounds j (some k),k+1))=_;rw[q];rfl
   rw[am]at e;exact fold_all av _ _ _ _ (o.put (fr _ _ _ _ _ q)) fr e
theorem Ec{m:Nat}{o:Array (Option Nat)}:∀(fuel i q j:Nat),SetTable.layClean.free m o fuel i q=some j->(o.getD j (some 0)).isNone=true
 |0,i,q,j,h=>by unfold SetTable.layClean.free at h;cases h
 |fuel+1,i,q,j,h=>by
  unfold SetTable.layClean.free at h;cases c:(SA (runEnd m i+1-i)).find? λk=>(o.getD (i+k) (some 0)).isNone with
  |some a=>
   rw[c]at h;have h:=SM h;subst h;exact WM (p:=λk=>(o.getD (i+k) (some 0)).isNone) c
  |none=>
   rw[c]at h;exact Ec fuel _ _ _ h
theorem P9{m finger moves:Nat}{led plain:Bool}{hashes:Array Int}{t:Yi}{order:Array Nat}(az:gh m)(aG:hashes.size<=m)(h:SetTable.laid m finger moves led plain hashes=some (t,order)):∀x,x<hashes.size->x∈order.toList:=by
 obtain⟨o,e,w⟩:=tv az hashes.toList _ 0 (xD m) (by rw[S8];lia);have iC:=fold_all (m:=m) hashes.toList _ _ _ _ (λv hv=>absurd hv (by lia)) (λi q fuel j o h=>Ec fuel i q j h) e;rw[Tv,S8]at e w iC
 have mC:SetTable.layClean m hashes=some o:=by
  unfold SetTable.layClean;rw[<-WN,e];rfl
 unfold SetTable.laid at h;rw[mC]at h;have h:=SM h;have qo:order=(((SA (m+1)).filterMap λj=>(o.getD j none).map (j,·)).map (·.2)).toArray:=(Ye U0 h).symm;intro x hx;obtain⟨j,aQ⟩:=iC x hx
 have j6:j<m+1:=VS λz=>by
  rw[Ta,Vi.mpr (by rw[w.sz];exact z)]at aQ;cases aQ
 rw[qo,Vf];exact SF.mpr ⟨(j,x),T4.mpr ⟨j,S7.mpr j6,by rw[aQ];rfl⟩,rfl⟩
section
variable{prog:UF}{w:Yd}{A:Yj}{E:SL->SZ->Prop}{s:SZ}
theorem Ed{h h':Yn}{l:Z5}{a b:TE}{o:Obj}(k:YC (YN prog w) h l b)(av:Heap.SameBut a h h')(aM:h.get? a=some o)(hc:o.cls=.type "set"):YC (YN prog w) h' l b:=by
 obtain⟨b9,items,n,aa,ab,a',bG⟩:=k;refine⟨b9,items,n,?_,ab,a',bG⟩;rw[av.2 b (λe=>?_)]
 ·exact aa
 subst e;rw[aM]at aa;have:=SM aa;subst this;rw[hc]at ab;exact absurd ab (by decide)
end
def hh(xs:Array Nat):Prop:=∀i j,i<j->j<xs.size->xs.getD i 0<xs.getD j 0
theorem kP{xs:Array Nat}{i:Nat}(h:i<xs.size)(d:Nat):xs.getD i d=xs[i]:=by simp[Array.getD,h]
theorem xV{xs:Array Nat}{j:Nat}(r:hh xs):∀(fuel lo ao:Nat),ao-lo<=fuel->lo<=ao->ao<=xs.size->(∀i,i<lo->xs.getD i 0<j)->(∀i,ao<=i->i<xs.size->j<=xs.getD i 0)->
  ∃p,SetTable.below.go xs j fuel lo ao=p/\p<=xs.size/\(∀i,i<p->xs.getD i 0<j)/\∀i,p<=i->i<xs.size->j<=xs.getD i 0
 |0,lo,ao,h,l1,l2,a,b=>by
  have e:lo=ao:=by lia
  subst e;exact⟨lo,rfl,l2,a,b⟩
 |fuel+1,lo,ao,h,l1,l2,a,b=>by
  unfold SetTable.below.go;by_cases z:lo<ao
  ·rw[TT z];dsimp only;have bB:(lo+ao)/2<xs.size:=by lia
   have g:xs.getD ((lo+ao)/2) j=xs.getD ((lo+ao)/2) 0:=by rw[kP bB,kP bB]
   rw[g];by_cases c:xs.getD ((lo+ao)/2) 0<j
   ·rw[TT c];refine xV r fuel _ ao (by lia) (by lia) l2 (λi nS=>?_) b;by_cases q:i=(lo+ao)/2
    ·rw[q];exact c
    exact WC (r i ((lo+ao)/2) (by lia) bB) c
   rw[TW c];refine xV r fuel lo _ (by lia) (by lia) (by lia) a λi aa ab=>?_;by_cases q:i=(lo+ao)/2
   ·rw[q];lia
   exact SE (We c) (Vp (r ((lo+ao)/2) i (by lia) ab))
  rw[TW z];have e:lo=ao:=by lia
  subst e;exact⟨lo,rfl,l2,a,b⟩
theorem tG{xs:Array Nat}(r:hh xs)(j:Nat):SetTable.below xs j<=xs.size/\(∀i,i<SetTable.below xs j->xs.getD i 0<j)/\∀i,SetTable.below xs j<=i->i<xs.size->j<=xs.getD i 0:=by
 obtain⟨p,e,h⟩:=xV (j:=j) r xs.size 0 xs.size (by lia) (Tu _) (SG _) (λi h=>absurd h (Uo _)) (λi aa ab=>absurd ab (by lia));have:SetTable.below xs j=p:=e;rw[this];exact h
theorem xW{xs:Array Nat}:hh xs↔xs.toList.Pairwise (· < ·):=by
 rw[T1];constructor
 ·intro r i k ao hk xX;have h:=r i k xX (by simpa using hk);rw[kP (by simpa using ao),kP (by simpa using hk)]at h;simpa using h
 intro r i k xX hk;have h:=r i k (by simp;lia) (by simpa using hk) xX;rw[kP (by lia),kP hk];simpa using h
theorem P'{xs:Array Nat}{j:Nat}(r:hh xs)(n:xs[SetTable.below xs j]?≠some j):hh (SetTable.insertAt xs (SetTable.below xs j) j):=by
 obtain⟨a,b,c⟩:=tG r j;generalize ak:SetTable.below xs j=p at a b c n
 have e:(SetTable.insertAt xs p j).toList=xs.toList.take p++j::xs.toList.drop p:=by
  unfold SetTable.insertAt;simp;exact Ul (by simp)
 rw[xW,e];have iD:=xW.mp r
 have Ee:∀x∈xs.toList.take p,x<j:=λx hx=>by
  obtain⟨i,ao,q⟩:=UE.mp hx;have nS:i<p:=by simp at ao;lia
  have:=b i nS;rw[kP (by lia)]at this;rw[<-q,WY];simpa using this
 have Ef:∀x∈xs.toList.drop p,j<x:=λx hx=>by
  obtain⟨i,ao,q⟩:=UE.mp hx;have nS:p+i<xs.size:=by simp at ao;lia
  have aa:=c (p+i) (by lia) nS;rw[kP nS]at aa;have ab:x=xs[p+i]:=by rw[<-q,WZ];simp
  rw[ab];rcases Wt j xs[p+i]with z|z
  ·exact z
  exfalso
  have ah:xs[p+i]=j:=by lia
  by_cases jm:i=0
  ·subst jm;exact n (by rw[TN (by lia)];exact Ye some ah)
  have a':=c p (by lia) (by lia);have bG:=r p (p+i) (by lia) nS;rw[kP nS,ah]at bG;lia
 refine Vj.mpr ⟨iD.sublist (Wa _ _),Ud.mpr ⟨Ef,iD.sublist (List.drop_sublist _ _)⟩,λx hx y hy=>?_⟩;rcases SH.mp hy with rfl|hy
 ·exact Ee x hx
 exact WC (Ee x hx) (Ef y hy)
theorem Qa{t:Yi}{j:Nat}(h:t.slot j=.empty):t.place[SetTable.below t.place j]?≠some j:=λe=>by
 unfold SetTable.slot at h;dsimp only at h;rw[e]at h;simp at h
theorem Qb{t:Yi}{j:Nat}(r:hh t.place)(h:t.slot j=.empty):hh (t.put j).1.place:=P' r (Qa h)
theorem Qc{m finger moves:Nat}{led plain:Bool}{hashes:Array Int}{t:Yi}{order:Array Nat}(h:SetTable.laid m finger moves led plain hashes=some (t,order)):hh t.place:=by
 unfold SetTable.laid at h;simp only[Option.bind_eq_bind,Option.bind_eq_some_iff,Option.pure_def,Vc,UT]at h;obtain⟨owner,_,h,_⟩:=h;rw[<-h,xW];show(VT (·.1) ((SA (m+1)).filterMap λj=>(owner.getD j none).map (j,·))).Pairwise (· < ·)
 have key:∀l:Z8,l.Pairwise (· < ·)->(VT (·.1) (l.filterMap λj=>(owner.getD j none).map (j,·))).Pairwise (· < ·)/\∀x∈VT (·.1) (l.filterMap λj=>(owner.getD j none).map (j,·)),x∈l:=λl=>by
  induction l with
  |nil=>intro _;exact⟨.nil,λx h=>by simp at h⟩
  |cons a l b2=>
   intro ak;obtain⟨aa,ab⟩:=Ud.mp ak;obtain⟨bD,bN⟩:=b2 ab;rw[U5];cases q:owner.getD a none with
   |none=>
    simp only[Option.map_none];exact⟨bD,λx hx=>SJ _ (bN x hx)⟩
   |some v=>
    simp only[UR,SK];refine⟨Ud.mpr ⟨λx hx=>aa x (bN x hx),bD⟩,λx hx=>?_⟩;rcases SH.mp hx with rfl|hx
    ·exact SD
    exact SJ _ (bN x hx)
 exact(key _ XZ).1
def ke(m:Nat)(p:Probe):Probe:=
 if p.more>0 then{j:=p.j+1,more:=p.more-1,i:=p.i,perturb:=p.perturb,dummy:=p.dummy}
 else{j:=(leap m p.i p.perturb).1,more:=runEnd m (leap m p.i p.perturb).1-(leap m p.i p.perturb).1,i:=(leap m p.i p.perturb).1,perturb:=(leap m p.i p.perturb).2,dummy:=p.dummy}
def pt(m:Nat):Nat->Probe->Probe
 |0,p=>p
 |n+1,p=>pt m n (ke m p)
def at0(m i q:Nat):Probe:={j:=i,more:=runEnd m i-i,i:=i,perturb:=q,dummy:=none}
def h6(m:Nat)(h:Int):Probe:=at0 m (bits h%(m+1)) (bits h)
theorem q'(t:Yi)(p:Probe):t.advance p=ke t.mask p:=by unfold SetTable.advance ke;split<;>rfl
theorem ra(t:Yi):∀(n:Nat)(p:Probe),h3 t n p=pt t.mask n p
 |0,_=>rfl
 |n+1,p=>by
  show h3 t n (t.advance p)=pt t.mask n (ke t.mask p)
  rw[q',ra t n]
theorem mE(m:Nat):∀(a b:Nat)(p:Probe),pt m (a+b) p=pt m b (pt m a p)
 |0,b,p=>by rw[Tv];rfl
 |a+1,b,p=>by
  rw[show a+1+b=(a+b)+1 by lia];exact mE m a b _
def lM(m:Nat)(p:Probe):Prop:=p.j+p.more<=m
theorem Eg{m i q:Nat}(h:i<=m):lM m (at0 m i q):=by
 unfold lM at0 runEnd;dsimp only;split<;>lia
theorem Qd{m:Nat}{p:Probe}(h:lM m p):lM m (ke m p):=by
 unfold ke;split
 ·unfold lM at h⊢;dsimp only;lia
 have:(leap m p.i p.perturb).1<=m:=WH (VK _ (VM _));exact Eg (q:=(leap m p.i p.perturb).2) this
theorem Eh{m:Nat}:∀(n:Nat){p:Probe},lM m p->lM m (pt m n p)
 |0,_,h=>h
 |n+1,_,h=>Eh n (Qd h)
theorem Qe(m:Nat)(h:Int):lM m (h6 m h):=Eg (WH (VK _ (VM _)))
theorem Qf(m n:Nat)(h:Int):(pt m n (h6 m h)).j<=m:=by have:=Eh n (Qe m h);unfold lM at this;lia
theorem rb{m:Nat}:∀(k:Nat)(p:Probe),k<=p.more->pt m k p={p with j:=p.j+k,more:=p.more-k}
 |0,p,_=>rfl
 |k+1,p,h=>by
  have e:ke m p={p with j:=p.j+1,more:=p.more-1}:=by unfold ke;rw[TT (by lia)]
  show pt m k (ke m p)=_
  rw[e,rb k _ (by dsimp only;lia)];simp only[Probe.mk.injEq,and_true,true_and];lia
theorem Ei{m i q:Nat}:pt m (runEnd m i-i+1) (at0 m i q)=at0 m (leap m i q).1 (leap m i q).2:=by
 rw[mE,rb _ (at0 m i q) (show runEnd m i-i<=runEnd m i-i from SG _)];show ke m _=_
 unfold ke at0;rw[TW (by dsimp only;lia)]
def kf(m:Nat)(occ:Nat->Prop)(p:Probe)(j:Nat):Prop:=∃n,(pt m n p).j=j/\∀k,k<n->occ (pt m k p).j
theorem kf.mono{m:Nat}{occ Ej:Nat->Prop}{p:Probe}{j:Nat}(h:kf m occ p j)(f:∀n,occ (pt m n p).j->Ej (pt m n p).j):kf m Ej p j:=by
 obtain⟨n,e,a⟩:=h;exact⟨n,e,λk hk=>f k (a k hk)⟩
def occ(o:Array (Option Nat))(x:Nat):Prop:=(o.getD x (some 0)).isNone=false
theorem Qg(m i:Nat):i<=runEnd m i:=by unfold runEnd;split<;>lia
theorem Ek{m:Nat}{o:Array (Option Nat)}:∀(fuel i q j:Nat),SetTable.layClean.free m o fuel i q=some j->kf m (occ o) (at0 m i q) j/\(o.getD j (some 0)).isNone=true
 |0,i,q,j,h=>by unfold SetTable.layClean.free at h;cases h
 |fuel+1,i,q,j,h=>by
  unfold SetTable.layClean.free at h;have xY:=Qg m i;cases c:(SA (runEnd m i+1-i)).find? λk=>(o.getD (i+k) (some 0)).isNone with
  |some a=>
   rw[c]at h;have h:=SM h;subst h;have aq:=WM (p:=λk=>(o.getD (i+k) (some 0)).isNone) c;have au:=S7.mp (List.mem_of_find?_eq_some c);refine⟨⟨a,?_,λk hk=>?_⟩,aq⟩
   ·rw[rb a _ (by show a<=runEnd m i-i;lia)];rfl
   rw[rb k _ (by show k<=runEnd m i-i;lia)];show(o.getD (i+k) (some 0)).isNone=false
   obtain⟨_,as,bs,e,xC⟩:=List.find?_eq_some_iff_append.mp c
   have ah:a=as.length:=by
    have:=Ye (λl:Z8=>l[as.length]?) e;rw[Tz (SG _),Uz]at this
    ·have this:as.length=a:=by simpa using this
     exact this.symm
    have:=Ye S' e;simp at this;lia
   have mk:k∈as:=by
    have:(SA (runEnd m i+1-i))[k]?=(as++a::bs)[k]?:=by rw[e]
    rw[Tt (by lia),Uz (by lia)]at this;exact S4 this.symm
   have:=xC k mk;simpa using this
  |none=>
   rw[c]at h;obtain⟨⟨n,e,a⟩,fr⟩:=Ek fuel _ _ _ h;refine⟨⟨runEnd m i-i+1+n,?_,λk hk=>?_⟩,fr⟩
   ·rw[mE,Ei];exact e
   by_cases z:k<=runEnd m i-i
   ·rw[rb k _ z];have:=XR.mp c k (S7.mpr (by lia));show(o.getD (i+k) (some 0)).isNone=false
    exact X0.mpr this
   have:=a (k-(runEnd m i-i+1)) (by lia);rwa[show at0 m ((i*5+1+q/32)%(m+1)) (q/32)=pt m (runEnd m i-i+1) (at0 m i q)from Ei.symm,<-mE,show runEnd m i-i+1+(k-(runEnd m i-i+1))=k by lia]at this
def o3(m:Nat)(o:Array (Option Nat))(done:Z5):Prop:=∀j v,o.getD j none=some v->∃hv,done[v]?=some hv/\kf m (occ o) (h6 m hv) j
theorem El{o:Array (Option Nat)}{j k x:Nat}(h:occ o x):occ (o.setIfInBounds j (some k)) x:=by
 unfold occ at h⊢;by_cases e:j=x
 ·subst e;rw[Ta];by_cases l:j<o.size
  ·rw[WW l];rfl
  rw[Vi.mpr (by simpa using l)];rfl
 rw[Ta,WX e,<-Ta];exact h
theorem o3.put{m:Nat}{o:Array (Option Nat)}{done:Z5}{h:Int}{j:Nat}(w:o3 m o done)(aQ:kf m (occ o) (h6 m h) j):o3 m (o.setIfInBounds j (some done.length)) (done++[h]):=λx v e=>by
 by_cases z:j=x
 ·subst z
  have l:j<o.size:=VS λq=>by
   rw[Ta,Vi.mpr (by simpa using q)]at e;cases e
  rw[Ta,WW l]at e;have e:done.length=v:=by simpa using e
  subst e;exact⟨h,by simp,aQ.mono λn q=>El q⟩
 rw[Ta,WX z,<-Ta]at e;obtain⟨hv,ah,am⟩:=w x v e;have lt:v<done.length:=(TH.mp ah).1;exact⟨hv,by rw[Tt lt];exact ah,am.mono λn q=>El q⟩
theorem Em{m:Nat}:∀(av done:Z5)(owner jo:Array (Option Nat))(gB:Nat),o3 m owner done->
  av.foldl (init:=some (owner,done.length)) (λacc h=>do
   let(owner,k) <-acc
   let j <-SetTable.layClean.free m owner (turns m) (bits h%(m+1)) (bits h)
   pure (owner.setIfInBounds j (some k),k+1))=some (jo,gB)->o3 m jo (done++av)
 |[],done,owner,jo,gB,o,e=>by
  have e:=SM e;cases e;rw[TK];exact o
 |h::av,done,owner,jo,gB,o,e=>by
  rw[UY]at e;cases q:SetTable.layClean.free m owner (turns m) (bits h%(m+1)) (bits h)with
  |none=>
   exfalso
   have z:∀l:Z5,l.foldl (init:=(none:Option (Array (Option Nat)×Nat))) (λacc h=>do
    let(owner,k) <-acc
    let j <-SetTable.layClean.free m owner (turns m) (bits h%(m+1)) (bits h)
    pure (owner.setIfInBounds j (some k),k+1))=none:=λl=>by
    induction l with
    |nil=>rfl
    |cons x l b2=>rw[UY];exact b2
   have am:(do
    let(owner,k) <-some (owner,done.length)
    let j <-SetTable.layClean.free m owner (turns m) (bits h%(m+1)) (bits h)
    pure (owner.setIfInBounds j (some k),k+1))=none:=by
    show(do let j <-SetTable.layClean.free m owner (turns m) (bits h%(m+1)) (bits h);pure (owner.setIfInBounds j (some done.length),done.length+1))=none;rw[q];rfl
   rw[am,z av]at e;cases e
  |some j=>
   have am:(do
    let(owner,k) <-some (owner,done.length)
    let j <-SetTable.layClean.free m owner (turns m) (bits h%(m+1)) (bits h)
    pure (owner.setIfInBounds j (some k),k+1))=some (owner.setIfInBounds j (some done.length),(done++[h]).length):=by
    show(do let j <-SetTable.layClean.free m owner (turns m) (bits h%(m+1)) (bits h);pure (owner.setIfInBounds j (some done.length),done.length+1))=_;rw[q,SU];rfl
   rw[am]at e;have:=Em av (done++[h]) _ _ _ (o.put (Ek _ _ _ _ q).1) e
   rwa [Ub]at this
theorem Qh{m finger moves:Nat}{led plain:Bool}{hashes:Array Int}{t:Yi}{order:Array Nat}(az:gh m)(aG:hashes.size<=m)(h:SetTable.laid m finger moves led plain hashes=some (t,order)):
  ∀(i v j:Nat),order[i]?=some v->t.place[i]?=some j->∃hv,hashes[v]?=some hv/\kf m (λx=>x∈t.place.toList) (h6 m hv) j:=by
 obtain⟨o,e,w⟩:=tv az hashes.toList _ 0 (xD m) (by rw[S8];lia)
 have d8:o3 m (XT (m+1) none) []:=λj v z=>by
  rw[Ta]at z;simp only[Array.getElem?_replicate]at z;split at z<;>simp at z
 have iC:=Em (m:=m) hashes.toList [] _ _ _ d8 e;rw[Tp]at iC;rw[Tv,S8]at e w
 have mC:SetTable.layClean m hashes=some o:=by
  unfold SetTable.layClean;rw[<-WN,e];rfl
 unfold SetTable.laid at h;rw[mC]at h;have h:=SM h;have qo:order=(((SA (m+1)).filterMap λj=>(o.getD j none).map (j,·)).map (·.2)).toArray:=(Ye U0 h).symm;have bW:t.place=(((SA (m+1)).filterMap λj=>(o.getD j none).map (j,·)).map (·.1)).toArray:=(Ye (λq:Yi×Array Nat=>q.1.place) h).symm;intro i v j ao aQ;rw[qo]at ao;rw[bW]at aQ;have ao:((((SA (m+1)).filterMap λj=>(o.getD j none).map (j,·)).map (·.2)))[i]?=some v:=by simpa using ao
 have aQ:((((SA (m+1)).filterMap λj=>(o.getD j none).map (j,·)).map (·.1)))[i]?=some j:=by simpa using aQ
 rw[S1]at ao aQ;cases q:((SA (m+1)).filterMap λj=>(o.getD j none).map (j,·))[i]? with
 |none=>rw[q]at ao;cases ao
 |some p=>
  rw[q]at ao aQ;have ah:p.2=v:=SM ao;have am:p.1=j:=SM aQ;obtain⟨x,hx,bz⟩:=T4.mp (S4 q);cases aL:o.getD x none with
  |none=>rw[aL]at bz;cases bz
  |some y=>
   rw[aL]at bz;have bz:=SM bz;subst bz;have ah:y=v:=ah;have am:x=j:=am;subst ah;subst am;obtain⟨hv,aK,aP⟩:=iC x y aL;refine⟨hv,by rw[<-T7];exact aK,aP.mono λn oc=>?_⟩;have h7:=Qf m n hv;generalize(pt m n (h6 m hv)).j=z at oc h7;unfold occ at oc;have lt:z<o.size:=by rw[w.sz];lia
   rw[Ta,TN lt]at oc;rw[bW,Vf];cases cv:o[z]with
   |none=>rw[cv]at oc;cases oc
   |some u=>
    refine SF.mpr ⟨(z,u),T4.mpr ⟨z,S7.mpr (by lia),?_⟩,rfl⟩;rw[Ta,TN lt,cv];rfl
section
variable{t:Yi}
theorem En(r:hh t.place){i j:Nat}(h:t.place[i]?=some j):t.slot j=.live i:=by
 obtain⟨nK,ei⟩:=X1.mp h;obtain⟨a,b,c⟩:=tG r j;have afL:t.place.getD i 0=j:=by rw[kP nK];exact ei
 have e:SetTable.below t.place j=i:=by
  generalize SetTable.below t.place j=p at a b c;rcases UW p i with z|z|z
  ·have aa:=c p (SG _) (by lia);have ab:=r p i z nK;lia
  ·exact z
  have:=b i z;lia
 unfold SetTable.slot;dsimp only;rw[e,h];simp
theorem Qi(hd:t.dummies = #[])(r:hh t.place){j:Nat}:t.slot j=.empty↔j∉t.place.toList:=by
 constructor
 ·intro h m;obtain⟨i,ao⟩:=TX m;rw[En r (by rw[<-T7];exact ao)]at h;cases h
 intro h;cases q:t.slot j with
 |empty=>rfl
 |dummy=>exact absurd q (oX hd _)
 |live i=>exact absurd (Vq.mpr (WL (tu q))) h
theorem Eo(hd:t.dummies = #[]){hashAt:Nat->Int}{h:Int}:∀(fuel:Nat)(p:Probe)(met:Met),SetTable.probe.go t hashAt h fuel p=some met->
  (∃n,met=.empty (pt t.mask n p).j p.dummy/\t.slot (pt t.mask n p).j=.empty/\∀k,k<n->∃i,t.slot (pt t.mask k p).j=.live i/\hashAt i≠h) \/
  (∃i n,met=.candidate (pt t.mask n p).j i (pt t.mask (n+1) p)/\t.slot (pt t.mask n p).j=.live i/\∀k,k<n->∃i,t.slot (pt t.mask k p).j=.live i/\hashAt i≠h)
 |0,p,met,e=>by cases e
 |fuel+1,p,met,e=>by
  unfold SetTable.probe.go at e;cases q:t.slot p.j with
  |empty=>
   rw[q]at e;cases e;exact .inl ⟨0,rfl,q,λk hk=>absurd hk (Uo _)⟩
  |dummy=>exact absurd q (oX hd _)
  |live i=>
   rw[q]at e;dsimp only at e;split at e
   ·cases e;refine .inr ⟨i,0,?_,q,λk hk=>absurd hk (Uo _)⟩;rw[q'];rfl
   rename_i ne
   have ne:hashAt i≠h:=λz=>ne (by rw[z];simp)
   have rest:∀n,(∀k,k<n->∃i,t.slot (pt t.mask k (t.advance p)).j=.live i/\hashAt i≠h)->∀k,k<n+1->∃i,t.slot (pt t.mask k p).j=.live i/\hashAt i≠h:=λn a k hk=>by
    cases k with
    |zero=>exact⟨i,q,ne⟩
    |succ k=>
     have:=a k (by lia);rwa[q']at this
   rcases Eo hd fuel (t.advance p) met e with⟨n,a,b,c⟩|⟨fm,n,a,b,c⟩
   ·rw[xE]at a;have dg:=rest n c;rw[q']at a b;exact .inl ⟨n+1,a,b,dg⟩
   have dg:=rest n c;rw[q']at a b;exact .inr ⟨fm,n+1,a,b,dg⟩
end
section
variable{prog:UF}{w:Yd}{A:Yj}{E:SL->SZ->Prop}{s:SZ}
abbrev hk(prog:UF)(w:Yd)(k:Z5):Int:=tupleKeyHash (YN prog w) k
abbrev Ep(prog:UF)(w:Yd)(p:Z5×TE):Int×SL:=(hk prog w p.1,.ref p.2)
abbrev ents(prog:UF)(w:Yd)(ps:List (Z5×TE)):Array (Int×SL):=(ps.map (Ep prog w)).toArray
def nT(prog:UF)(w:Yd)(t:Yi)(ps:List (Z5×TE)):Prop:=∀(i:Nat)(p:Z5×TE)(j:Nat),ps[i]?=some p->t.place[i]?=some j->kf t.mask (λx=>x∈t.place.toList) (h6 t.mask (hk prog w p.1)) j
abbrev kQ(prog:UF)(w:Yd)(h:Yn)(ps:List (Z5×TE)):Prop:=∀p∈ps,YC (YN prog w) h p.1 p.2
theorem xZ{ps:List (Z5×TE)}{i:Nat}(h:i<ps.length):(ents prog w ps)[i]?=some (hk prog w ps[i].1,.ref ps[i].2):=by
 unfold ents;rw[XD,S1,SS h];rfl
theorem kQ.tks{h:Yn}{ps:List (Z5×TE)}(k:kQ prog w h ps):Dy prog w h (ents prog w ps):=λe aF=>by
 have aF:e∈ps.map (Ep prog w):=by simpa[ents]using aF
 obtain⟨p,ak,rfl⟩:=SF.mp aF;exact⟨p.2,rfl,p.1,k p ak⟩
def Passed(t:Yi)(ps:List (Z5×TE))(b8:Z5)(d:Nat)(q:Probe):Prop:=∀k,k<d->∃i p,t.slot (pt t.mask k q).j=.live i/\ps[i]?=some p/\p.1≠b8
theorem Qj{t:Yi}{ps:List (Z5×TE)}{b8:Z5}{n:Nat}(hd:t.dummies = #[])(rs:hh t.place)(hz:t.place.size=ps.length)(h8:nT prog w t ps)(kv:Passed t ps b8 n (h6 t.mask (hk prog w b8)))(aF:t.slot (pt t.mask n (h6 t.mask (hk prog w b8))).j=.empty):b8∉ps.map (·.1):=λm=>by
 obtain⟨p,ak,e⟩:=SF.mp m;obtain⟨i,ao⟩:=TX ak;have lt:i<t.place.size:=by rw[hz];exact(TH.mp ao).1
 have aQ:t.place[i]?=some t.place[i]:=TN lt;obtain⟨hq,ah,am⟩:=h8 i p _ ao aQ;rw[e]at ah am;have live:=En rs aQ;rcases UW hq n with z|z|z
 ·obtain⟨bN,aW,aB,aL,cv⟩:=kv hq z;rw[ah,live]at aB;cases aB;rw[ao]at aL;cases aL;exact cv e
 ·rw[<-z,ah,live]at aF;cases aF
 exact(Qi hd rs).mp aF (am n z)
theorem Qk{b8:Z5}{a x:TE}{o:Obj}{ps:List (Z5×TE)}{bW:Nat}{t:Yi}{Q:SetFound->SZ->Prop}(hu:A.units<YL)(aM:s.heap.get? a=some o)(hd:o.data=.set (ents prog w ps) bW t)(ok:oY t ps.length)(rs:hh t.place)(ks:kQ prog w s.heap ps)(h8:nT prog w t ps)(l5:YC (YN prog w) s.heap b8 x)(aa:b8∈ps.map (·.1)->Q (.there none) s)(ab:∀j,b8∉ps.map (·.1)->t.slot j=.empty->kf t.mask (λx=>x∈t.place.toList) (h6 t.mask (hk prog w b8)) j->Q (.free j false) s):
  ∀(n:Nat)(fuel d:Nat)(st:Option Probe),n<fuel->st.getD (t.probeStart (hk prog w b8))=pt t.mask d (h6 t.mask (hk prog w b8))->Passed t ps b8 d (h6 t.mask (hk prog w b8))->kO t (st.getD (t.probeStart (hk prog w b8)))->(st.getD (t.probeStart (hk prog w b8))).dummy=none->t.slot (h3 t n (st.getD (t.probeStart (hk prog w b8)))).j=.empty->
   wpAny (Wp prog w) A (Yw a (.ref x) (hk prog w b8) true fuel st) Q E s:=by
 have hx:gO prog w s.heap x:=⟨b8,l5⟩;have iE:(ents prog w ps).size=ps.length:=by simp[ents]
 intro n;induction n using WB with
 |ind n b2=>
  intro fuel d st hf tH Ql hK Er o4;obtain⟨fuel,rfl⟩:∃f,fuel=f+1:=⟨fuel-1,by lia⟩;unfold Yw;refine SB (YJ aM hd (by rw[iE];exact ok.fits) ?_);dsimp only;rw[show t.gaveWay=false from gh.odd ok.msk];simp only[Tn,if_false];have lo:=ok.lo
  have key:∀f:Nat->Int,t.probe f (hk prog w b8) (st.getD (t.probeStart (hk prog w b8)))≠none:=λf z=>by
   obtain⟨met,em⟩:=Dp (hashAt:=f) (h:=hk prog w b8) ok.msk ok.dum (by rw[ok.sz];lia) hK;rw[z]at em;cases em
  split
  case h_2 q=>
   exfalso
   cases z:t.probe _ (hk prog w b8) (st.getD (t.probeStart (hk prog w b8)))with
   |none=>exact key _ z
   |some met=>exact q met z
  case h_1 met q=>
  have q:t.probe (λi=>(((ents prog w ps)[i]?).map (·.1)).getD 0) (hk prog w b8) (st.getD (t.probeStart (hk prog w b8)))=some met:=q;unfold SetTable.probe at q;have tk:∀i (h:i<ps.length),((((ents prog w ps)[i]?).map (·.1)).getD 0)=hk prog w ps[i].1:=λi h=>by rw[xZ h];rfl
  have Es:∀{i j:Nat},t.slot j=.live i->i<ps.length:=λh=>by
   have:=tu h;rw[<-ok.sz];exact(X1.mp this).1
  have ahead:∀hq,(∀k,k<hq->∃i,t.slot (pt t.mask k (st.getD (t.probeStart (hk prog w b8)))).j=.live i/\(((ents prog w ps)[i]?).map (·.1)).getD 0≠hk prog w b8)->Passed t ps b8 (d+hq) (h6 t.mask (hk prog w b8)):=λhq c k lF=>by
   by_cases z:k<d
   ·exact Ql k z
   obtain⟨i,ah,am⟩:=c (k-d) (by lia);rw[tH,<-mE,show d+(k-d)=k by lia]at ah;have nK:=Es ah;refine⟨i,ps[i],ah,SS nK,λz=>am ?_⟩;rw[tk i nK,z]
  rcases Eo ok.dum _ _ _ q with⟨m,rfl,rd,tI⟩|⟨i,m,rfl,ax,tI⟩
  ·dsimp only;rw[Er];have kv:=ahead m tI;rw[tH,<-mE]at rd⊢;refine TD (ab _ (Qj ok.dum rs ok.sz h8 kv rd) rd ⟨_,rfl,λk lF=>?_⟩);obtain⟨i,p,ah,_⟩:=kv k lF;exact Vq.mpr (WL (tu ah))
  dsimp only;have kv:=ahead m tI;have ao:=Es ax
  have ce:m<n:=VS λhle=>by
   rw[ra]at o4;rcases Wt n m with z|z
   ·obtain⟨fm,ah,_⟩:=tI n z;rw[ah]at o4;cases o4
   have:n=m:=by lia
   rw[this,ax]at o4;cases o4
  have xF:=ks ps[i] (Uc ao);have x1:=xZ (prog:=prog) (w:=w) ao;have sm:t.sameMemory t.moves t.mask=some true:=by unfold SetTable.sameMemory;rw[TT (by rw[beq_self_eq_true])]
  have go2:ps[i].1≠b8->wpAny (Wp prog w) A (Yw a (Value.ref x) (hk prog w b8) true fuel (some (pt t.mask (m+1) (st.getD (t.probeStart (hk prog w b8)))))) Q E s:=λne=>by
   refine b2 (n-(m+1)) (by lia) fuel (d+(m+1)) (some _) (by lia) ?_ (λk lF=>?_) ?_ ?_ ?_
   ·show pt t.mask (m+1) _=_
    rw[tH,<-mE]
   ·by_cases z:k<d+m
    ·exact kv k z
    have e:k=d+m:=by lia
    subst e;rw[tH,<-mE]at ax;exact⟨i,ps[i],ax,SS ao,ne⟩
   ·show kO t (pt t.mask (m+1) _)
    rw[<-ra];exact Dt (p:=t.probeStart (hk prog w b8)) _ hK
   ·show(pt t.mask (m+1) _).dummy=none
    rw[<-ra];exact(Du _ _).trans Er
   show t.slot (h3 t (n-(m+1)) (pt t.mask (m+1) _)).j=_
   rw[<-ra,<-Dv,show m+1+(n-(m+1))=n by lia];exact o4
  have here:wpAny (Wp prog w) A (do
    let equal <-Y3 [Value.ref ps[i].2] (eqBool (Value.ref ps[i].2) (Value.ref x))
    let __x <-setState a
    if(true&&equal)=true then pure (SetFound.there none)
    else
     match __x.2.snd.sameMemory t.moves t.mask with
     |some same=>
      match if same=true then __x.2.snd.slot (pt t.mask m (st.getD (t.probeStart (hk prog w b8)))).j else Slot.empty with
      |Slot.live fm=>
       match __x.fst[fm]? with
       |some (_,y')=>do
        let re <-pure (if(<-isSame y' (Value.ref ps[i].2))=true then some fm else none)
        match re with
        |none=>do
         rule "set.search.anew"
         Yw a (Value.ref x) (hk prog w b8) true fuel none
        |some fm=>
         if equal=true then pure (SetFound.there (some fm))
         else Yw a (Value.ref x) (hk prog w b8) true fuel (some (pt t.mask (m+1) (st.getD (t.probeStart (hk prog w b8)))))
       |none=>do
        let re <-pure none
        match (re:Option Nat)with
        |none=>do
         rule "set.search.anew"
         Yw a (Value.ref x) (hk prog w b8) true fuel none
        |some fm=>
         if equal=true then pure (SetFound.there (some fm))
         else Yw a (Value.ref x) (hk prog w b8) true fuel (some (pt t.mask (m+1) (st.getD (t.probeStart (hk prog w b8)))))
      |_=>do
       let re <-pure none
       match (re:Option Nat)with
       |none=>do
        rule "set.search.anew"
        Yw a (Value.ref x) (hk prog w b8) true fuel none
       |some fm=>
        if equal=true then pure (SetFound.there (some fm))
        else Yw a (Value.ref x) (hk prog w b8) true fuel (some (pt t.mask (m+1) (st.getD (t.probeStart (hk prog w b8)))))
     |_=>unsupported "set.changed-during-lookup:is-the-new-block-at-the-old-address") Q E s:=by
   refine SB (Yb (wpAny_eqBool_tuple hu xF l5 ?_));refine SB (YJ aM hd (by rw[iE];exact ok.fits) ?_);dsimp only;by_cases aF:ps[i].1=b8
   ·simp only[aF,decide_true,Bool.and_self,if_true];exact TD (aa (aF▸SF.mpr ⟨ps[i],Uc ao,rfl⟩))
   simp only[aF,decide_false,Vk,Tn,if_false];rw[sm];simp only[if_true];rw[ax];dsimp only;rw[x1];dsimp only;refine SB (wpAny_isSame_ref_self ?_);simp only[if_true];refine SB (TD ?_);exact go2 aF
  cases afM:t.led
  ·simp only[Bool.not_false,if_true];refine SB (Pe hx _ (λy hy=>?_) ?_)
   ·obtain⟨e,aF,rfl⟩:=SF.mp hy
    exact ks.tks e (by
     rw[Array.toList_filter]at aF
     exact(V7.mp aF).1)
   simp only[Tn,if_false];rw[x1];exact here
  simp only[VN,Tn,if_false];rw[x1];exact here
end
theorem Et{α:Type}{l:List α}{x:α}{p:Nat}(ak:p<=l.length)(i:Nat):(l.take p++x::l.drop p)[i]?=if i<p then l[i]? else if i=p then some x else l[i-1]?:=by
 have dO:(l.take p).length=p:=by rw[Ts];lia
 by_cases h:i<p
 ·rw[TT h,Tt (by lia),V' h]
 rw[TW h,Tz (by lia),dO];by_cases e:i=p
 ·rw[TT e,e,Nat.sub_self];rfl
 rw[TW e,show i-p=(i-p-1)+1 by lia,W0,X2];congr 1;lia
theorem Eu{α:Type}(xs:Array α)(p:Nat)(x:α):(SetTable.insertAt xs p x).toList=xs.toList.take p++x::xs.toList.drop p:=by
 unfold SetTable.insertAt;simp;exact Ul (by simp)
theorem x2{α:Type}[DecidableEq α]:∀{l m:List α},l.Nodup->(∀x∈l,x∈m)->m.length<=l.length->m.Perm l
 |[],m,_,_,h=>by
  have:m=[]:=Ws (by simpa using h);rw[this]
 |a::l,m,aG,h,ax=>by
  have aq:=h a SD;have e:=WJ aq;have p:=WK aq;have b2:=x2 (l:=l) (m:=m.erase a) (TQ.mp aG).2 (λx hx=>(WI (λe=>(TQ.mp aG).1 (by rw[<-e];exact hx))).mpr (h x (SJ _ hx))) (by rw[e];simp at ax;lia);exact(List.perm_cons_erase aq).trans (b2.cons a)
theorem Ev{α:Type}{ps:List α}:∀{order:Z8},(∀x∈order,x<ps.length)->∀i:Nat,(order.filterMap λv:Nat=>ps[v]?)[i]?=(order[i]?).bind (λv:Nat=>ps[v]?)
 |[],_,i=>by simp
 |x::r,h,i=>by
  have hx:=h x SD;rw[Ww (SS hx)];cases i with
  |zero=>simp[SS hx]
  |succ i=>
   rw[W0,W0];exact Ev (λy hy=>h y (SJ _ hy)) i
section
variable{prog:UF}{w:Yd}{A:Yj}{E:SL->SZ->Prop}{s:SZ}
theorem Qm{b8:Z5}{a x:TE}{o:Obj}{ps:List (Z5×TE)}{bW:Nat}{t:Yi}{Q:SetFound->SZ->Prop}(hu:A.units<YL)(aM:s.heap.get? a=some o)(hd:o.data=.set (ents prog w ps) bW t)(ok:oY t ps.length)(rs:hh t.place)(ks:kQ prog w s.heap ps)(h8:nT prog w t ps)(l5:YC (YN prog w) s.heap b8 x)(aa:b8∈ps.map (·.1)->Q (.there none) s)(ab:∀j,b8∉ps.map (·.1)->t.slot j=.empty->kf t.mask (λx=>x∈t.place.toList) (h6 t.mask (hk prog w b8)) j->Q (.free j false) s):wpAny (Wp prog w) A (setSearch a (.ref x) (hk prog w b8) true) Q E s:=by
 have lo:=ok.lo;obtain⟨n,aG,e⟩:=Pd ok.msk ok.dum (by rw[ok.sz];lia) (Do t (hk prog w b8));refine Qk hu aM hd ok rs ks h8 l5 aa ab n 100000 0 none ?_ rfl (λk h=>absurd h (Uo _)) (Do t _) rfl e;have:=ok.msk;unfold turns at aG;rcases this with q|q|q|q|q|q<;>rw[q]at aG<;>lia
def iF(prog:UF)(w:Yd)(h:Yn)(a:TE)(ps:List (Z5×TE)):Prop:=
 ∃o bW t,h.get? a=some o/\o.ExactSet/\o.data=.set (ents prog w ps) bW t/\oY t ps.length/\hh t.place/\nT prog w t ps/\kQ prog w h ps/\(ps.map (·.1)).Nodup
theorem kQ.same{h h':Yn}{a:TE}{o:Obj}{ps:List (Z5×TE)}(k:kQ prog w h ps)(av:Heap.SameBut a h h')(aM:h.get? a=some o)(hc:o.cls=.type "set"):kQ prog w h' ps:=λp ak=>Ed (k p ak) av aM hc
theorem Qn{t:Yi}{ps:List (Z5×TE)}{b8:Z5}{x:TE}{j:Nat}(rs:hh t.place)(hz:t.place.size=ps.length)(h8:nT prog w t ps)(aQ:kf t.mask (λx=>x∈t.place.toList) (h6 t.mask (hk prog w b8)) j):
  nT prog w (t.put j).1 (ps.take (SetTable.below t.place j)++(b8,x)::ps.drop (SetTable.below t.place j))/\ents prog w (ps.take (SetTable.below t.place j)++(b8,x)::ps.drop (SetTable.below t.place j))=SetTable.insertAt (ents prog w ps) (SetTable.below t.place j) (hk prog w b8,.ref x):=by
 obtain⟨b7,cr,ox⟩:=tG rs j;have bW:(t.put j).1.place.toList=t.place.toList.take (SetTable.below t.place j)++j::t.place.toList.drop (SetTable.below t.place j):=Eu _ _ _;have em:(t.put j).1.mask=t.mask:=rfl;generalize SetTable.below t.place j=p at b7 cr ox bW⊢
 have up:∀x,x∈t.place.toList->x∈(t.put j).1.place.toList:=λx hx=>by
  rw[bW];have:x∈t.place.toList.take p++t.place.toList.drop p:=by rw[UG];exact hx
  rcases S3.mp this with z|z
  ·exact U6 _ z
  exact Tx _ (SJ _ z)
 have rf:p<=t.place.toList.length:=by rw[S8];exact b7
 have x3:p<=ps.length:=by rw[<-hz];exact b7
 refine⟨λi q oH ao mF=>?_,?_⟩
 ·rw[em];rw[<-T7,bW,Et rf]at mF;rw[Et x3]at ao;by_cases aa:i<p
  ·rw[TT aa]at ao mF;exact(h8 i q oH ao (by rw[<-T7];exact mF)).mono λn=>up _
  rw[TW aa]at ao mF;by_cases ab:i=p
  ·rw[TT ab]at ao mF;cases ao;cases mF;exact aQ.mono λn=>up _
  rw[TW ab]at ao mF;exact(h8 (i-1) q oH ao (by rw[<-T7];exact mF)).mono λn=>up _
 refine Wx.mp ?_;rw[Eu];unfold ents;simp only[Vf,S0,SK,Ue,Up]
theorem Qo{a:TE}{o:Obj}{ps:List (Z5×TE)}{bW wanted:Nat}{t:Yi}{Q:Unit->SZ->Prop}(aM:s.heap.get? a=some o)(hex:o.ExactSet)(hd:o.data=.set (ents prog w ps) bW t)(hf:t.fits ps.length=true)(ks:kQ prog w s.heap ps)(nd:(ps.map (·.1)).Nodup)(az:gh (SetTable.sizeAbove wanted-1))(lo:ps.length*5<(SetTable.sizeAbove wanted-1)*3)(av:SetTable.sizeAbove wanted<=256)(h:∀h' fx,Heap.SameBut a s.heap h'->iF prog w h' a fx->(fx.map (·.1)).Perm (ps.map (·.1))->Q () {s with heap:=h' }):wpAny (Wp prog w) A (setRelay a wanted) Q E s:=by
 have iE:(ents prog w ps).size=ps.length:=by simp[ents]
 unfold setRelay;refine SB (YJ aM hd (by rw[iE];exact hf) ?_);dsimp only;rw[TW (by rw[Zh];lia)];obtain⟨t',order,ah,am,bz,cF,ej,jY,afN,afO⟩:=Pc (finger:=t.finger) (moves:=t.movedTo (SetTable.sizeAbove wanted-1)) (led:=t.led) (plain:=t.plain) (hashes:=(ents prog w ps).map (·.1)) az (by rw[Vl,iE];lia);rw[Vl,iE]at cF ej jY;have d4:=ah;have iG:=Qh az (by rw[Vl,iE];lia) d4;have iC:=P9 az (by rw[Vl,iE];lia) d4;have ah:t.relaid ((ents prog w ps).map (·.1)) wanted=some (t',order):=ah;rw[ah]
 have gK:order.filterMap ((ents prog w ps)[·]?)=ents prog w (order.toList.filterMap (ps[·]?)):=by
  refine Wx.mp ?_;rw[Array.toList_filterMap];unfold ents;rw[Vf,List.map_filterMap];congr 1;funext v;simp
 have len:(order.toList.filterMap (ps[·]?)).length=ps.length:=by
  have:∀l:Z8,(∀x∈l,x<ps.length)->(l.filterMap (ps[·]?)).length=l.length:=λl=>by
   induction l with
   |nil=>intro _;rfl
   |cons x r b2=>
    intro h;rw[Ww (SS (h x SD)),SR,SR,b2 λy hy=>h y (SJ _ hy)]
  rw[this _ jY,S8,ej]
 have sz:(order.filterMap ((ents prog w ps)[·]?)).size=(ents prog w ps).size:=by
  rw[gK];simp[ents,len]
 refine SB ?_;change wpAny _ _ (if((order.filterMap ((ents prog w ps)[·]?)).size != (ents prog w ps).size)=true then(unsupported "internal:set-table-lost-an-element" >>= λ_=>pure (order.filterMap ((ents prog w ps)[·]?),t'))else pure (order.filterMap ((ents prog w ps)[·]?),t')) _ _ _;rw[sz,bne_self_eq_false];simp only[Tn,if_false];refine TD ?_;dsimp only;refine wpAny_storeSet_of aM hd ?_ (by rw[sz,iE,Zh];lia);rw[gK];have d0:=Heap.SameBut.update s.heap a (Obj.putSet (ents prog w (order.toList.filterMap (ps[·]?))) t')
 have mem:∀p,p∈order.toList.filterMap (ps[·]?)↔p∈ps:=λp=>by
  constructor
  ·intro ak;obtain⟨v,_,q⟩:=T4.mp ak;exact S4 q
  intro ak;obtain⟨v,q⟩:=TX ak;exact T4.mpr ⟨v,iC v (by rw[Vl,iE];exact(TH.mp q).1),q⟩
 have pm:((order.toList.filterMap (ps[·]?)).map (·.1)).Perm (ps.map (·.1)):=x2 nd (λl ax=>by
  obtain⟨p,ak,rfl⟩:=SF.mp ax
  exact SF.mpr ⟨p,(mem p).mpr ak,rfl⟩) (by rw[Sw,Sw,len];exact SG _)
 refine h _ _ d0 ⟨_,_,_,stored aM hd _ _,hex,rfl,⟨by rw[am];exact az,bz,by rw[cF,len],by rw[am,len];exact lo⟩,Qc d4,λi p j ao aQ=>?_,λp ak=>(ks.same d0 aM hex.1) p ((mem p).mp ak),pm.nodup_iff.mpr nd⟩ pm;rw[Ev jY]at ao;cases q:order.toList[i]? with
 |none=>rw[q]at ao;cases ao
 |some v=>
  rw[q]at ao;have ao:ps[v]?=some p:=ao;obtain⟨hv,aK,aP⟩:=iG i v j (by rw[<-T7];exact q) aQ;have lv:=(TH.mp ao).1;rw[Array.getElem?_map,xZ lv]at aK;have aK:hk prog w ps[v].1=hv:=SM aK;have:ps[v]=p:=(TH.mp ao).2;rw[this]at aK;rw[am,aK];exact aP
theorem Qp{b8:Z5}{a x:TE}{ps:List (Z5×TE)}{Q:Bool->SZ->Prop}(hu:A.units<YL)(st:iF prog w s.heap a ps)(hx:YC (YN prog w) s.heap b8 x)(aG:ps.length+1<=76)(h:∀b h' fx,Heap.SameBut a s.heap h'->iF prog w h' a fx->(∀l,l∈fx.map (·.1)↔l∈ps.map (·.1)\/l=b8)->fx.length<=ps.length+1->Q b {s with heap:=h' }):wpAny (Wp prog w) A (setAddHashed a (.ref x) (hk prog w b8)) Q E s:=by
 obtain⟨o,bW,t,aM,hex,hd,ok,rs,h8,ks,nd⟩:=st;have iE:(ents prog w ps).size=ps.length:=by simp[ents]
 unfold setAddHashed;refine Yb ?_;unfold setAddHashedIn;refine SB (YJ aM hd (by rw[iE];exact ok.fits) ?_);dsimp only;rw[show byScan (.ref x) (ents prog w ps)=false from rfl];simp only[Tn,if_false];refine SB (Qm hu aM hd ok rs ks h8 hx (λaz=>?_) λj x4 rd tJ=>?_)
 ·exact TD (h _ _ ps (Heap.SameBut.refl _ _) ⟨o,bW,t,aM,hex,hd,ok,rs,h8,ks,nd⟩ (λl=>⟨.inl,λz=>z.elim id λz=>z▸az⟩) (WE _))
 dsimp only;refine SB (YJ aM hd (by rw[iE];exact ok.fits) ?_);dsimp only;obtain⟨bc,aW,fN,lJ⟩:=Ph ok.msk ok.dum ok.sz j;obtain⟨c9,e6⟩:=Qn (x:=x) rs ok.sz h8 tJ;have tK:hh (t.put j).1.place:=Qb rs rd;have x3:SetTable.below t.place j<=ps.length:=by rw[<-ok.sz];exact(tG rs j).1
 have x5:(t.put j).2=SetTable.below t.place j:=rfl;generalize ak:t.put j=tp at bc aW fN lJ tK c9 x5;obtain⟨cS,p⟩:=tp;dsimp only at bc aW fN lJ tK c9 x5;subst x5;generalize xU:SetTable.below t.place j=p at c9 e6 x3;generalize i4:ps.take p++(b8,x)::ps.drop p=fx at c9 e6;have len:fx.length=ps.length+1:=by rw[<-i4];simp;lia
 have mem:∀q,q∈fx↔q∈ps\/q=(b8,x):=λq=>by
  have:q∈ps↔q∈ps.take p\/q∈ps.drop p:=by rw[<-S3,UG]
  rw[<-i4,S3,SH,this];constructor
  ·rintro(z|z|z)
   ·exact .inl (.inl z)
   ·exact .inr z
   exact .inl (.inr z)
  rintro((z|z)|z)
  ·exact .inl z
  ·exact .inr (.inr z)
  exact .inr (.inl z)
 have Ew:(fx.map (·.1)).Nodup:=by
  have Qq:(fx.map (·.1)).Perm (b8::ps.map (·.1)):=by
   rw[<-i4,S0,SK];refine X3.trans ?_;rw[<-S0,UG]
  exact Qq.nodup_iff.mpr (TQ.mpr ⟨x4,nd⟩)
 have Ex:∀l,l∈fx.map (·.1)↔l∈ps.map (·.1)\/l=b8:=λl=>by
  constructor
  ·intro ax;obtain⟨q,aA,rfl⟩:=SF.mp ax;rcases(mem q).mp aA with z|rfl
   ·exact .inl (SF.mpr ⟨q,z,rfl⟩)
   exact .inr rfl
  rintro(z|rfl)
  ·obtain⟨q,aA,rfl⟩:=SF.mp z;exact SF.mpr ⟨q,(mem q).mpr (.inl aA),rfl⟩
  exact SF.mpr ⟨_,(mem _).mpr (.inr rfl),rfl⟩
 rw[<-e6]
 have rest:∀b:Bool,wpAny (Wp prog w) A (do
   storeSet a (ents prog w fx) (if b=true then cS else{cS with plain:=false})
   if(!false&&(if b=true then cS else{cS with plain:=false}).tooFull)=true then do
    setRelay a (SetTable.grown ((ents prog w ps).size+1))
    pure true
   else pure true) Q E s:=λb=>by
  have cH:∃cH,(if b=true then cS else{cS with plain:=false})=cH/\cH.mask=t.mask/\cH.dummies = #[]/\cH.place.size=ps.length+1/\hh cH.place/\nT prog w cH fx:=by
   cases b
   ·exact⟨_,rfl,bc,aW,fN,tK,c9⟩
   exact⟨_,rfl,bc,aW,fN,tK,c9⟩
  obtain⟨cH,q,aB,aL,cv,kr,rW⟩:=cH;rw[q];have d0:=Heap.SameBut.update s.heap a (Obj.putSet (ents prog w fx) cH);have Ey:=stored aM hd (ents prog w fx) cH
  have Ez:kQ prog w (s.heap.update a (Obj.putSet (ents prog w fx) cH)) fx:=λq aA=>by
   rcases(mem q).mp aA with z|rfl
   ·exact(ks.same d0 aM hex.1) q z
   exact Ed hx d0 aM hex.1
  have Qr:(ents prog w fx).size=ps.length+1:=by simp[ents,len]
  have lo:=ok.lo;refine SB (wpAny_storeSet_of aM hd ?_ (by rw[Qr,Zh];lia))
  have tf:cH.tooFull=decide ((ps.length+1)*5>=t.mask*3):=by
   unfold SetTable.tooFull SetTable.fill;rw[aB,aL,cv];rfl
  rw[tf,iE];by_cases c:(ps.length+1)*5>=t.mask*3
  ·simp only[c,decide_true,Bool.not_false,Bool.and_self,if_true];obtain⟨aK,aP,g3⟩:=Pi ok.msk lo (Nat.not_lt.mpr c) aG;refine SB (Qo Ey hex rfl ?_ Ez Ew aK (by rw[len];exact aP) g3 λh' Qs Qt lN pm=>?_)
   ·rw[len];unfold SetTable.fits SetTable.fill;rw[aB,aL,cv];simp only[beq_self_eq_true,SW,decide_eq_true_eq];show ps.length+1+0<=_
    have:=ok.msk;rcases this with z|z|z|z|z|z<;>rw[z]at lo⊢ <;> lia
   refine TD (h _ _ Qs (d0.trans Qt) lN (λl=>by rw[pm.mem_iff];exact Ex l) ?_);have:=pm.length_eq;rw[Sw,Sw,len]at this;lia
  simp only[c,decide_false,Vk,Tn,if_false];exact TD (h _ _ fx d0 ⟨_,_,_,Ey,hex,rfl,⟨by rw[aB];exact ok.msk,aL,by rw[cv,len],by rw[aB,len];lia⟩,kr,rW,Ez,Ew⟩ Ex (by lia))
 dsimp only;split
 all_goals first|exact SB (Pg ⟨b8,hx⟩ λb=>rest b)|exact SB (TD (rest true))
end
section
variable{prog:UF}{w:Yd}{A:Yj}{E:SL->SZ->Prop}{s:SZ}
def EA(prog:UF)(w:Yd)(h:Yn)(ks:agf)(items:Array SL):Prop:=∀(i:Nat)(v:SL),items.toList[i]?=some v->∃(b:TE)(l:Z5),v=.ref b/\ks[i]?=some l/\YC (YN prog w) h l b
theorem tL{h h':Yn}{l:Z5}{b:TE}(x:YC (YN prog w) h l b)(k:∀o,h.get? b=some o->h'.get? b=some o):YC (YN prog w) h' l b:=by
 obtain⟨b9,its,m,aa,ab,a',bG⟩:=x;exact⟨b9,its,m,k b9 aa,ab,a',bG⟩
theorem iF.asW{h:Yn}{S:TE}{ps:List (Z5×TE)}(st:iF prog w h S ps):Dz prog w h S ps.length:=by
 obtain⟨o,bW,t,aM,hex,hd,ok,rs,h8,ks,nd⟩:=st;exact⟨o,_,bW,t,aM,hex,hd,by simp[ents],ok,ks.tks⟩
theorem iF.keep{h h':Yn}{S:TE}{ps:List (Z5×TE)}(st:iF prog w h S ps)(I:TE)(dH:S≠I)(w7:∀b,gO prog w h b->b≠I)(k:∀b o,b≠I->h.get? b=some o->h'.get? b=some o):iF prog w h' S ps:=by
 obtain⟨o,bW,t,aM,hex,hd,ok,rs,h8,ks,nd⟩:=st;exact⟨o,bW,t,k _ _ dH aM,hex,hd,ok,rs,h8,λp ak=>tL (ks p ak) λd3 e=>k _ d3 (w7 _ ⟨_,ks p ak⟩) e,nd⟩
theorem Qu{S I l:TE}{items:Array SL}{ks:agf}{R:ZF->SZ->Prop}(bx:l≠S)(n2:l≠I)(ep:S≠I)(dP:A.handled=none)(hu:A.units+1<YL)(room:items.size<=75)(hks:ks.length=items.size):
  ∀(k i:Nat)(ps:List (Z5×TE))(s:SZ),items.size-i=k->i<=items.size->s.heap.IsListIter I l i->s.heap.IsList l items->iF prog w s.heap S ps->ps.length<=i->(∀l,l∈ps.map (·.1)↔l∈ks.take i)->EA prog w s.heap ks items->
   (∀h' bm fx,s.toks<=bm->(∀b o,b≠S->b≠I->s.heap.get? b=some o->h'.get? b=some o)->iF prog w h' S fx->(∀l,l∈fx.map (·.1)↔l∈ks)->R (.ok (.ret .none)) {s with heap:=h',toks:=bm})->
   codeAny (Wp prog w) A (.builtin "set.update.loop" ⟨[.ref S,.ref I],[]⟩) R s:=by
 intro k;induction k with
 |zero=>
  intro i ps s hk ao hit ax st aG az hv eS;refine Yg X4 ?_;simp only[Around.under_plainId W2];show wpAny _ A.in1 (YV (.ref I) >>= _) _ _ _
  refine SB (Zr dP hit ax (Vi.mpr (by lia)) λh' aF=>?_);show wpAny _ A.in1 (ret Value.none) _ _ _
  have az:∀l,l∈ps.map (·.1)↔l∈ks:=λl=>by rw[az l,Ul (by lia)]
  exact TD (eS h' s.toks ps (SG _) (λb o _ cr e=>aF b o cr e) (st.keep I ep (λb x=>x.iter hit) λb o ae e=>aF b o ae e) az)
 |succ k b2=>
  intro i ps s hk ao hit ax st aG az hv eS;have lt:i<items.size:=by lia
  obtain⟨b,b8,eY,nU,nt⟩:=hv i items[i] (by simp[lt]);refine Yg X4 ?_;simp only[Around.under_plainId W2];show wpAny _ A.in1 (YV (.ref I) >>= _) _ _ _
  refine SB (Zm hit ax (x:=items[i]) (by simp[lt]) λaa Qv nF=>?_);have Qw:iF prog w aa S ps:=st.keep I ep (λb x=>x.iter hit) λb o ae e=>nF.extBut b o ae e;have kb1:YC (YN prog w) aa b8 b:=tL nt λo e=>nF.extBut b o (gO.iter ⟨_,nt⟩ hit) e;rw[eY];show wpAny _ A.in1 (Y3 [Value.ref b] (setAdd S (.ref b)) >>= _) _ _ _
  refine SB (Yb ?_);unfold setAdd;refine Yb ?_;refine SB (wpAny_pyHash_tuple (A:=A.in1) hu kb1 ?_);refine Qp (A:=A.in1) hu Qw kb1 (by lia) λo5 ab Qx qC k5 kM ma=>?_;have up:∀c o,c≠S->c≠I->s.heap.get? c=some o->ab.get? c=some o:=λc o br bF e=>(qC.2 c br).trans (nF.extBut c o bF e);refine TD ⟨Yp W2 _,b2 (i+1) Qx _ (by lia) lt (Qv.at λo e=>(qC.2 I (S2 ep)).trans e) (ax.at λo e=>up l o bx n2 e) k5 (by lia) (λl=>?_) (λfm v Qy=>?_) λa' bm cU bw x6 rU Qz=>?_⟩
  ·rw[kM l,az l,VE,nU];simp
  ·obtain⟨c,ml,o6,am,x7⟩:=hv fm v Qy;exact⟨c,ml,o6,am,tL x7 λo e=>up c o (gO.set ⟨_,x7⟩ st.asW) (gO.iter ⟨_,x7⟩ hit) e⟩
  exact eS a' bm cU (SE (UA _ _) bw) (λc o br bF e=>x6 c o br bF (up c o br bF e)) rU Qz
theorem QA{h:Yn}{a:TE}{led:Bool}(e:h.get? a=some (fresh led)):iF prog w h a []:=
 ⟨_,0,_,e,⟨rfl,rfl,rfl⟩,rfl,⟨.inl rfl,rfl,rfl,show 0*5<7*3 by decide⟩,(λi j _ h=>absurd h (Uo _)),(λi p j h=>by simp at h),(λp ak=>by simp at ak),List.nodup_nil⟩
theorem call_setX{ks:agf}{l:TE}{items:Array SL}{Q:SL->SZ->Prop}(dP:A.handled=none)(hu:A.units+8<YL)(ax:s.heap.IsList l items)(hv:EA prog w s.heap ks items)(room:items.size<=75)(hks:ks.length=items.size)(h:∀(h':Yn)(bm:Nat)(ps:List (Z5×TE)),s.toks<=bm->iF prog w h' s.heap.objs.size ps->(∀l,l∈ps.map (·.1)↔l∈ks)->(∀b o,s.heap.get? b=some o->h'.get? b=some o)->Q (.ref s.heap.objs.size) {s with heap:=h',toks:=bm}):
  wpAny (Wp prog w) A (call (.type "set") [.ref l]) Q E s:=by
 obtain⟨c,dO,x8⟩:=F.called_set.mro;have lO:=F.called_set.made;have d0:=F.called_set.sub;have br:=F.called_set.notType;have bF:=F.called_set.canCreate;have es:=F.typeCall_set_1 (.ref l);refine wpAny_call (codeAny_of_tree (show wpAny _ _ (callAny (.type "set") _) _ _ _ from TD ⟨Code.quiet_builtin _ (by decide +kernel),Yg F.entry_type_call ?_⟩));rw[Around.under_plain (weight_type_call_type "set" [.ref l] []) rfl]
 repeat (any_goals (first|assumption|wp_step))
 refine Zc (code_set_new_1 (.ref l) (E:=E) (Q₁:=λv z=>∃led,v=.ref s.heap.objs.size/\z={s with heap:=s.heap.push (fresh led)}) λled=>⟨led,rfl,rfl⟩) λr z au=>?_;cases r with
 |error e=>exact au
 |ok fl=>
  cases fl with
  |ret v=>
   obtain⟨led,rfl,rfl⟩:=au;have EB:(s.heap.push (fresh led)).get? s.heap.objs.size=some (fresh led):=Heap.get?_push_size _ rfl;have QB:Shared.TypeIs {s with heap:=s.heap.push (fresh led)} (.ref s.heap.objs.size) "set":=⟨_,EB,rfl⟩;have cQ:=F.called_set.init.lookup;have c4:=F.called_set.init.bind (.ref s.heap.objs.size)
   repeat (any_goals (first|assumption|wp_step))
   refine Zc (codeAny_call_builtin (R:=wants (λv z=>v=.none/\∃h' bm m,s.toks<=bm/\z={s with heap:=h',toks:=bm}/\iF prog w h' s.heap.objs.size m/\(∀l,l∈m.map (·.1)↔l∈ks)/\∀b o,s.heap.get? b=some o->h'.get? b=some o) E) F.called_set.init.plain F.entry_set_init (check_set_init_1 QB ?_)) λaw aU x9=>?_
   ·obtain⟨ya,g7,mC,nl,ld⟩:=id ax;obtain⟨oc,od,afP,osl⟩:=ya;simp only at mC ld;subst mC ld;have EC:=Heap.lt_size g7;have QC:(s.heap.push (fresh led)).get? l=some ⟨.type "list",od,.seq items nl,osl⟩:=Heap.get?_push_of_some _ g7;have bv:=F.sub_list_set;have bJ:=F.sub_list_frozenset;have bY:(Value.type "list"==Value.type "dict")=false:=by decide
    have gM:(s.heap.push (fresh led)).IsList l items:=⟨_,QC,rfl,nl,rfl⟩;have sz:(s.heap.push (fresh led)).objs.size=s.heap.objs.size+1:=Heap.size_push _ _;unfold Builtin.«set.__init__» noKeywords Builtin.Frozenset.updateFrom;generalize g:pyIter=it
    wp_walk
    subst g;refine Zf gM (SB (wpAny_runValue ?_));have kp:∀b o,s.heap.get? b=some o->((s.heap.push (fresh led)).push {cls:=.type "list_iterator",data:=.fields #[.ref l,.int 0 0]}).get? b=some o:=λb o e=>Heap.get?_push_of_some _ (Heap.get?_push_of_some _ e);refine Qu (ks:=ks) (hks:=hks) (S:=s.heap.objs.size) (I:=(s.heap.push (fresh led)).objs.size) (l:=l) (items:=items) (SV EC) (by rw[sz];exact SV (Tw EC)) (by rw[sz];exact SV (Un _)) (by simp[dP]) (by show A.units+1+1+1<_;lia) room (items.size-0) 0 [] _ rfl (Tu _) ⟨_,Heap.get?_push_size _ rfl,rfl,rfl⟩ (gM.push _) (QA (led:=led) (Heap.get?_push_of_some _ EB)) (SG _) (λl=>by simp) (λi v q=>?_) λh' bm m bw up lN az=>?_
    ·obtain⟨b,l,e,am,k⟩:=hv i v q;exact⟨b,l,e,am,tL k λo q=>kp b o q⟩
    refine TD (show wpAny _ _ (ret Value.none) _ _ _ from TD ⟨rfl,h',bm,m,bw,rfl,lN,az,λb o e=>?_⟩);have bl:=Heap.lt_size e;exact up b o (SV bl) (by rw[sz];exact SV (Tw bl)) (kp b o e)
   cases aw with
   |error e=>exact x9
   |ok QD=>
    cases QD with
    |ret r=>
     obtain⟨rfl,h',bm,m,bw,rfl,lN,az,kp⟩:=x9
     repeat (any_goals (first|assumption|wp_step))
     exact h _ _ _ bw lN az kp
    |_=>exact x9.elim
  |_=>exact au.elim
theorem sub_len2{α:Type}[DecidableEq α]:∀{l m:List α},l.Nodup->(∀x∈l,x∈m)->l.length<=m.length
 |[],m,_,_=>Tu _
 |a::l,m,aG,h=>by
  have aq:=h a SD;have b2:=sub_len2 (l:=l) (m:=m.erase a) (TQ.mp aG).2 λx hx=>(WI (λe=>(TQ.mp aG).1 (by rw[<-e];exact hx))).mpr (h x (SJ _ hx));have e:=WJ aq;have p:=WK aq;rw[SR];lia
theorem len_nodup{α:Type}[DecidableEq α]{bB ks:List α}(nd:bB.Nodup)(h:∀l,l∈bB↔l∈ks):bB.length<=ks.length/\(bB.length=ks.length↔ks.Nodup):=by
 have h7:=sub_len2 nd λx hx=>(h x).mp hx;refine⟨h7,λe=>?_,λk=>?_⟩
 ·exact(x2 nd (λx hx=>(h x).mp hx) (by lia)).nodup_iff.mpr nd
 have:=sub_len2 k λx hx=>(h x).mpr hx;lia
end
end Tab
namespace L2
open PySem PySem.Spec PyProof.Rows PySem.W
def QF(K:Sx)(bq:dX):bA:=λσ H Q=>bq σ H λvs ar=>∃l xs ks,vs=[.ref l]/\b0 K ar l xs/\xs.length<=75/\S' (α:=Z5) ks=xs.length/\(∀(i:Nat)(x:V),xs[i]?=some x->∃(b:TE)(ns:Z5),x=.ref b/\ks[i]?=some ns/\dA K ar b (ns.map V.int))/\∀bB:agf,bB.Nodup->(∀l,l∈bB↔l∈ks)->Q (.int bB.length) ar
theorem QG{X:a1}{a:WP}{bq:dX}{p aW pos fZ:Pos}(hc:X.calm=true)(hu:X.A.units+64<YL)(yb:c2 X "len")(p5:X.mg "len"=none)(yc:c2 X "set")(kM:X.mg "set"=none)(aq:f4 X [a] bq)(av:Uf [a] X.env=[(false,YU a X.env)]:=by rfl)(gp:Uf [.Call (.Name "set" aW) [a] [] fZ] X.env=[(false,YU (.Call (.Name "set" aW) [a] [] fZ) X.env)]:=by rfl):
  bE X (.Call (.Name "len" p) [.Call (.Name "set" aW) [a] [] fZ] [] pos) (QF X.K bq):=by
 intro af s σ H Q I h;refine Yk (jy I yb p5 Vx (Xn ?_ gp rfl));rw[gp];show wpAny _ _ (spliced ((false,YU (.Call (.Name "set" aW) [a] [] fZ) X.env)::Zp pos [])) _ _ s
 refine Calls.spliced_cons ?_;refine Yk (jy I yc kM (by decide +kernel:YE "set"=some (.type "set")) (Uj (bQ (aq fZ af s σ H _ I h) λaO s1 ⟨vs,ar,a6,ai,aB⟩=>?_) av rfl));obtain⟨l,xs,ks,rfl,aA,hz,QH,hx,q⟩:=aB;obtain⟨u,rfl,r⟩:=vals1 ai;cases r;obtain⟨its,bX,cI,_⟩:=a6.list aA;refine Tab.call_setX (ks:=ks) (a6.ok.hd hc) (by lia) cI.isList (λi v hv=>?_) (by rw[SX,<-bX.length];exact hz) (by rw[SX,<-bX.length];exact QH) λh' bm ps bw lN az kp=>?_
 ·obtain⟨x,QI,a8⟩:=bX.getR (show its[i]?=some v by simpa using hv);obtain⟨b,ns,rfl,hk,ae⟩:=hx i x QI;cases a8;obtain⟨aO,fS,⟨o,go,co,n,jh⟩,_⟩:=a6.tuple ae;exact⟨b,ns,rfl,hk,o,aO.toArray,n,go,co,jh,by simpa using Pj fS⟩
 obtain⟨o,bW,t,aM,hex,hd,ok,_,_,_,nd⟩:=lN;have aF:(Tab.ents X.prog X.w ps).size=ps.length:=by simp[Tab.ents]
 have rf:ps.length<=ks.length:=by
  have:=Tab.sub_len2 nd λl ax=>(az l).mp ax
  rwa [Sw]at this
 refine Calls.spliced_nil ?_;refine call_len_set aM hex hd (by rw[aF];exact ok.fits) (by rw[aF];lia) ?_;rw[aF];have kR:=q (ps.map (·.1)) nd az;rw[Sw]at kR;exact⟨.int ps.length,ar,a6.kept (t':=bm+1+1) kp,⟨_,rfl⟩,kR⟩
end L2
namespace L3
open PySem L2
def QJ(u:a2):a2:=λρ k=>u ρ λd=>∃ks:agf,d=.lst (ks.map λns=>.tup (ns.map D.int))/\ks.length<=75/\∀bB:agf,bB.Nodup->(∀l,l∈bB↔l∈ks)->k (.int bB.length)
theorem ED{X:a1}{a:WP}{u:a2}{p aW pos fZ:Pos}(hc:X.calm=true)(hu:X.A.units+64<YL)(aq:aV X a u)(yb:c2 X "len")(p5:X.mg "len"=none)(yc:c2 X "set")(kM:X.mg "set"=none)(av:Uf [a] X.env=[(false,YU a X.env)]:=by rfl)(gp:Uf [.Call (.Name "set" aW) [a] [] fZ] X.env=[(false,YU (.Call (.Name "set" aW) [a] [] fZ) X.env)]:=by rfl):
  aV X (.Call (.Name "len" p) [.Call (.Name "set" aW) [a] [] fZ] [] pos) (QJ u):=by
 obtain⟨_,aa,ai⟩:=aq;refine⟨_,QG hc hu yb p5 yc kM (di aa d9 (by rw[dE,av];rfl)) av gp,λρ k h R W B H σ Q e q=>?_⟩;refine ai ρ _ h R W B H σ _ e λd v a5 ar aa ah aK bX=>?_;obtain⟨ks,rfl,hz,hk⟩:=aa;obtain⟨l,vs,rfl,ax,rs⟩:=bX.lstV;have lv:vs.length=ks.length:=by rw[rs.length,Sw]
 refine⟨l,vs,ks,rfl,b0.of (ah.bh _ _ ax),by rw[lv];exact hz,lv.symm,λi x ao=>?_,λbB nd az=>q _ _ a5 ar (hk bB nd az) ah aK (.int _)⟩;obtain⟨d,hd,lr⟩:=rs.getV ao;rw[S1]at hd;cases aL:ks[i]? with
 |none=>rw[aL]at hd;cases hd
 |some ns=>
  rw[aL]at hd;have hd:D.tup (ns.map D.int)=d:=SM hd;subst hd;obtain⟨b,ws,rfl,ae,QK⟩:=lr.tupV;exact⟨b,ns,rfl,rfl,by rw[<-allInts QK];exact dA.of (ah.bh _ _ ae)⟩
end L3
namespace Tab
open PySem PySem.SetTable
instance(m:Nat):Decidable (gh m):=by unfold gh;infer_instance
end Tab
namespace Cut
open PySem L2 L3
open PySem.Builtin.Int (intBits)
theorem yd{α β:Type}{f:α->D}{g:β->D}{R:α->β->Prop}{u:a2}{fs:Z3}:∀{rs:List α}{dc:aN}{k:Z7->Prop},(∀r∈rs,∀k:D->Prop,(∀b,R r b->k (g b))->u (.val (f r)::fs) k)->(∀zs:List (α×β),zs.map (·.1)=rs->(∀z∈zs,R z.1 z.2)->k ((zs.map (·.2)).map g))->fv (en 0) i2 u (rs.map f) (dc::fs) k
 |[],_,_,_,hk=>hk [] rfl (λ_ h=>by simp at h)
 |r::rs,dc,k,h,hk=>by
  show(if true=true then u (.val (f r)::fs) λy=>fv (en 0) i2 u (rs.map f) (.val (f r)::fs) λys=>k (y::ys)else fv (en 0) i2 u (rs.map f) (.val (f r)::fs) k)
  rw[TT rfl];refine h r SD _ λb ae=>yd (λcG au=>h cG (SJ _ au)) λzs e hz=>?_
  exact hk ((r,b)::zs) (by simp[e]) λq aA=>by
   rcases SH.mp aA with rfl|aA
   ·exact ae
   exact hz q aA
end Cut
namespace L2
open PySem PySem.Spec PyProof.Rows PySem.W L3
section
variable{X:a1}{af:agd}{σ:St}{H:al}{s:SZ}{h':Yn}
theorem Inv.turnedL{t':Nat}{fs:aga}(I:Inv X af σ H s)(k:∀b o,b∉fs->s.heap.get? b=some o->h'.get? b=some o)(f:∀b∈fs,hr X af H b):Inv X af σ H {s with heap:=h',toks:=t' }:=by
 have kk:∀b u,H b=some u->b∉fs:=λb u q m=>by rw[(f b m).1]at q;cases q
 refine I.step (g':=s.gens) (d':=s.drawn) (ch:=fs) (λb ae=>?_) (λb o _ _ hc q _=>k b o hc q) (λb o _ _ hc q _=>⟨o.slots,k b o hc q⟩) (λ_ _ _ _ n=>n)
  (λb o hc q=>⟨o,k b o hc q⟩) (λ_ _ e=>e) (λ_ _ _ e=>e) (λb ps q=>⟨#[],by rw[q];simp⟩) (λm az=>?_) (λb u q=>?_) I.bare
 ·obtain⟨jm,bD,bN,qR,to,xv⟩:=f b ae;exact⟨qR,bD,to,xv⟩
 ·obtain⟨o,aD,bW,aM,r⟩:=az;refine⟨o,aD,bW,k _ o (λm=>?_) aM,r⟩;obtain⟨_,bD,_⟩:=f _ m;exact bD rfl
 refine(I.hok b u q).stay (λc v hc y=>k c v ?_ y) (λ_ q=>q) (λ_ _ q=>q) λ_ _ _ q=>q;rcases hc with z|z
 ·rw[z];exact kk b u q
 exact kk c _ z
end
def EE(K:Sx)(a b:TE):f5:=
 ⟨λi H=>∃xs ys x y,b0 K H a xs/\b0 K H b ys/\xs[i]?=some x/\ys[i]?=some y,λi H v aj=>∃p x y,H p=none/\v=.ref p/\aj=upd H p (.tup [x,y])/\(∀xs,b0 K H a xs->xs[i]?=some x)/\∀ys,b0 K H b ys->ys[i]?=some y,λi H=>∃xs ys,b0 K H a xs/\b0 K H b ys/\(xs.length<=i\/ys.length<=i)⟩
theorem QL{P:UF}{w:Yd}{K:Sx}{jn:agb}{k:Nat}{pos:Pos}{a b z bL bZ bD bN:TE}(D:YZ z bL bZ bD bN a b):l6 P w K (.Tuple jn k pos) (EE K a b) [z,bL,bZ,bD,bN] z (λi h=>IsZip h z bL bZ .none/\Zs h bL (.ref bD) (.ref bN)/\(∃x y,Zs h bZ x y)/\h.IsListIter bD a i/\h.IsListIter bN b i) where
 mem:=by simp
 obj:=λi h st c hc=>by
  obtain⟨s1,aI,⟨x,y,bI⟩,⟨ye,dG,_,xO⟩,⟨EF,ff,_,QM⟩⟩:=st;simp only[SH,Ti,or_false]at hc;rcases hc with rfl|rfl|rfl|rfl|rfl
  ·exact⟨_,s1,λv q=>by cases q⟩
  ·exact⟨_,aI,λv q=>by cases q⟩
  ·exact⟨_,bI,λv q=>by cases q⟩
  ·exact⟨ye,dG,λv q=>by rw[xO]at q;cases q⟩
  exact⟨EF,ff,λv q=>by rw[QM]at q;cases q⟩
 keep:=λi h h' st kp=>by
  obtain⟨s1,aI,⟨x,y,bI⟩,dG,ff⟩:=st;exact⟨kp z (by simp) _ s1,kp bL (by simp) _ aI,⟨x,y,kp bZ (by simp) _ bI⟩,dG.at λo q=>kp bD (by simp) o q,ff.at λo q=>kp bN (by simp) o q⟩
 item:=by
  intro X hP hw dZ hc i af s σ H E I hf st aJ;subst hP hw dZ;obtain⟨xs,ys,x,y,tM,tN,hx,hy⟩:=aJ;obtain⟨s1,aI,⟨x0,c0,bI⟩,dG,ff⟩:=st;obtain⟨its,bX,p,_⟩:=I.list tM;obtain⟨f7,qa,aW,_⟩:=I.list tN;obtain⟨u,hu,fS⟩:=bX.get hx;obtain⟨u2,QN,QO⟩:=qa.get hy;refine Zu D s1 aI bI dG ff p.isList aW.isList (x:=u) (y:=u2) (by simpa using hu) (by simpa using QN) λaa aB aL cv fe kr rW kp=>⟨_,rfl,wpAny_letOwnedTupleGo_zip aB λab g6 d0=>?_⟩
  have lt:∀c∈[z,bL,bZ,bD,bN],c≠s.heap.objs.size:=λc iL e=>by
   subst e;simp only[SH,Ti,or_false]at iL;obtain⟨ye,db,_⟩:=id dG;obtain⟨EF,g2,_⟩:=id ff;rcases iL with e|e|e|e|e
   ·exact absurd (Heap.lt_size s1) (by rw[<-e];exact Tc _)
   ·exact absurd (Heap.lt_size aI) (by rw[<-e];exact Tc _)
   ·exact absurd (Heap.lt_size bI) (by rw[<-e];exact Tc _)
   ·exact absurd (Heap.lt_size db) (by rw[<-e];exact Tc _)
   exact absurd (Heap.lt_size g2) (by rw[<-e];exact Tc _)
  have xw:Inv X af σ (upd H s.heap.objs.size (.tup [x,y])) {s with heap:=s.heap.push {cls:=.type "tuple",data:=.seq #[u,u2]} }:=
   I.laid (t':=s.toks) (λ_ _ q=>Heap.get?_push_of_some _ q) (SG _) ⟨hH,[u,u2],.cons fS (.cons QO .nil),⟨_,Heap.get?_push_size _ rfl,rfl,_,rfl⟩⟩
  have up:∀c∈[z,bL,bZ,bD,bN],hr X af (upd H s.heap.objs.size (.tup [x,y])) c:=λc iL=>⟨by rw[cB (lt c iL)];exact(hf c iL).1,(hf c iL).2⟩
  have a6:=xw.turnedL (h':=ab) (t':=s.toks) (fs:=[z,bL,bZ,bD,bN]) (λc o n q=>by
   simp only[SH,Ti,or_false,not_or]at n;obtain⟨bx,n2,ep,yf,yg⟩:=n;rw[d0.2 c bx];by_cases e:c=s.heap.objs.size
   ·subst e;rw[Heap.get?_push_size _ rfl]at q;rw[<-q];exact kr
   refine kp c o bx ep yf yg ?_;rw[<-q]
   exact(Heap.get?_push_ne s.heap c _ e).symm) up
  have jA:Zs ab bL (.ref bD) (.ref bN):=(d0.2 bL D.TIz).trans (kp bL _ D.TIz D.TITO D.TIi1 D.TIi2 aI);refine⟨.ref s.heap.objs.size,_,a6,rfl,⟨s.heap.objs.size,x,y,I.fresh,rfl,rfl,λzs hz=>by rw[I.list_inj hz tM];exact hx,λzs hz=>by rw[I.list_inj hz tN];exact hy⟩,⟨g6,jA,⟨_,_,(d0.2 bZ D.TOz).trans aL⟩,cv.at λo q=>(d0.2 bD D.i1z).trans q,fe.at λo q=>(d0.2 bN D.i2z).trans q⟩,λc iL=>(up c iL).1⟩
 done:=by
  intro X hP hw dZ hc i af s σ H E I hf st aJ;subst hP hw dZ;obtain⟨xs,ys,tM,tN,ax⟩:=aJ;obtain⟨s1,aI,⟨x0,c0,bI⟩,dG,ff⟩:=st;obtain⟨its,bX,p,_⟩:=I.list tM;obtain⟨f7,qa,aW,_⟩:=I.list tN;have l1:=bX.length;have l2:=qa.length;refine ZB (I.ok.hd hc) D s1 aI bI dG ff p.isList aW.isList (ax.imp (λq=>by simp;lia) (λq=>by simp;lia)) λh' kp=>⟨rfl,I.turnedL (t':=s.toks) (fs:=[z,bL,bZ,bD,bN]) (λc o n q=>?_) hf⟩;simp only[SH,Ti,or_false,not_or]at n;obtain⟨bx,n2,ep,yf,yg⟩:=n;exact kp c o bx ep yf yg q
 self:=λ_ _ _ _ _ st h=>Zl st.1 h
def QP(K:Sx)(bq:dX):bL:=λσ H R=>bq σ H λvs ar=>∃a b,vs=[.ref a,.ref b]/\(∃xs,b0 K ar a xs)/\(∃ys,b0 K ar b ys)/\R (EE K a b) ar
theorem QQ{X:a1}{jn:agb}{k:Nat}{tp:Pos}{ah am:WP}{bq:dX}{p pos:Pos}(aJ:c2 X "zip")(az:X.mg "zip"=none)(aq:f4 X [ah,am] bq)(g6:Uf [ah,am] X.env=(false,YU ah X.env)::Uf [am] X.env:=by rfl)(eE:(Zp pos (Uf [am] X.env)).any (·.1)=false:=by rfl):hN X (.Tuple jn k tp) (.Call (.Name "zip" p) [ah,am] [] pos) (QP X.K bq):=by
 intro af s σ H R I h;refine Yk (jy (u:=.type "zip") I aJ az (by decide +kernel) ?_);refine Uj (bQ (aq pos af s σ H _ I h) λaO s1 ⟨vs,ar,a6,ai,aB⟩=>?_) g6 eE;obtain⟨a,b,rfl,⟨xs,fg⟩,⟨ys,fG⟩,q⟩:=aB;obtain⟨u,v,rfl,fS,bX⟩:=vals2 ai;cases fS;cases bX;obtain⟨its,_,bc,_⟩:=a6.list fg;obtain⟨f7,_,aW,_⟩:=a6.list fG;have sY:a<s1.heap.objs.size:=by obtain⟨o,aM,_⟩:=bc.isList;exact Heap.lt_size aM
 have sZ:b<s1.heap.objs.size:=by obtain⟨o,aM,_⟩:=aW.isList;exact Heap.lt_size aM
 refine call_zip_2 bc.isList aW.isList λaa dy dJ gN mu mv oN cy=>Zl dy ?_;refine⟨s1.heap.objs.size+4,[s1.heap.objs.size+4,s1.heap.objs.size+2,s1.heap.objs.size+3,s1.heap.objs.size,s1.heap.objs.size+1],_,_,ar,rfl,a6.kept (t':=s1.toks) cy,QL (B7 sY sZ),⟨dy,dJ,⟨_,_,gN⟩,mu,mv⟩,λc hc=>?_,q⟩
 have h7:s1.heap.objs.size<=c:=by
  simp only[SH,Ti,or_false]at hc;rcases hc with rfl|rfl|rfl|rfl|rfl
  ·exact UA _ _
  ·exact UA _ _
  ·exact UA _ _
  ·exact SG _
  exact UA _ _
 exact a6.fpOk h7 (a6.hok.fresh h7)
end L2
namespace L3
open PySem L2
section
variable{X:a1}{aS bf:a2}{p pos:Pos}
theorem EG{tp:Pos}{jn:agb}{be:Nat}{ah am:WP}(aq:aV X ah aS)(ae:aV X am bf)(aJ:c2 X "zip")(az:X.mg "zip"=none)(g6:Uf [ah,am] X.env=(false,YU ah X.env)::Uf [am] X.env:=by rfl)(w5:dE X am []:=by rfl)(eE:(Zp pos (Uf [am] X.env)).any (·.1)=false:=by rfl):xT X (.Tuple jn be tp) (.Call (.Name "zip" p) [ah,am] [] pos) (Cc aS bf):=by
 obtain⟨_,aa,ai⟩:=aq;obtain⟨_,ab,aw⟩:=ae;refine⟨_,QQ aJ az (di aa (di ab d9 w5) g6) g6 eE,λρ k h R W B H σ Q e q=>?_⟩;refine ai ρ _ h R W B H σ _ e λd v a5 ar aE ah aK s1=>?_;refine aw ρ _ aE R W a5 ar σ _ ah λc4 v2 bu a0 aU am aP aI=>?_;obtain⟨ds,aD,rfl,rfl,z⟩:=aU;obtain⟨a,vs,rfl,fg,EH⟩:=(s1.mono aP.s).lstV;obtain⟨b,ws,rfl,fG,EI⟩:=aI.lstV;refine⟨a,b,rfl,⟨vs,b0.of (am.bh _ _ fg)⟩,⟨ws,b0.of (am.bh _ _ fG)⟩,q _ _ bu a0 z am (aK.trans aP) λaj EJ i=>?_⟩;have yi:=b0.of (K:=X.K) (EJ _ _ fg);have yj:=b0.of (K:=X.K) (EJ _ _ fG);have sY:=EH.length;have sZ:=EI.length;rw[Sw,US];refine⟨λao=>?_,λao=>⟨vs,ws,yi,yj,by lia⟩,λx cg ao y=>?_⟩
 ·exact⟨vs,ws,vs[i],ws[i],yi,yj,SS (by lia),SS (by lia)⟩
 obtain⟨yk,fF,cP,ak,rfl,rfl,hx,hy⟩:=y;obtain⟨d,hd,lr⟩:=EH.getV (hx vs yi);obtain⟨c4,hd2,wF⟩:=EI.getV (hy ws yj);refine⟨yk,_,[d,c4],ak,rfl,rfl,?_,.cons lr (.cons wF .nil)⟩;rw[S1,XC (z:=(d,c4)) |>.mpr ⟨hd,hd2⟩];rfl
end
section
variable{K:Sx}{X:a1}{e:WP}{u:a2}{pos:Pos}{i:Nat}{rest:agc}
mutual
theorem QR{B:al}:∀{v:V}{d d':D},bH K B v d->bH K B v d'->flat d=true->flat d'=true->d=d'
 |_,.non,d',h,h',_,fy=>by cases h;cases h';rfl
 |_,.bl _,d',h,h',_,fy=>by cases h;cases h';rfl
 |_,.int _,d',h,h',_,fy=>by cases h;cases h';rfl
 |_,.str _,d',h,h',_,fy=>by cases h;cases h';rfl
 |_,.ty _,d',h,h',_,fy=>by cases h;cases h';rfl
 |_,.tup ds,d',h,h',f,fy=>by
  obtain⟨a,vs,rfl,aq,r⟩:=h.tup_of
  cases h' with
  |tup ab aw=>
   rw[aq]at ab
   cases ab
   rw[flat]at f fy
   rw[reps_det r aw f fy]
  |lst _ _=>simp[flat]at fy
  |scr _=>simp[flat]at fy
  |ktup _ _=>simp[flat]at fy
  |kfn _=>simp[flat]at fy
  |dct _ _ _ _=>simp[flat]at fy
 |_,.lst _,_,_,_,f,_=>by simp[flat]at f
 |_,.scr _,_,_,_,f,_=>by simp[flat]at f
 |_,.ktup _,_,_,_,f,_=>by simp[flat]at f
 |_,.kfn _,_,_,_,f,_=>by simp[flat]at f
 |_,.dct _ _ _,_,_,_,f,_=>by simp[flat]at f
theorem reps_det{B:al}:∀{vs:Z4}{ds ot:Z7},Reps K B vs ds->Reps K B vs ot->flats ds=true->flats ot=true->ds=ot
 |_,[],_,h,h',_,_=>by cases h;cases h';rfl
 |_,d::ds,_,h,h',f,fy=>by
  cases h with
  |cons aa ai=>
   cases h' with
   |cons ab aw=>
    rw[flats,Te]at f fy
    rw[QR aa ab f.1 fy.1,reps_det ai aw f.2 fy.2]
end
def EK(i:Nat)(u:a2)(dw:cK):cx:=λU ρ=>i<ρ.length/\(∀(n:Nat)(c:jI),ρ[n]?≠some (.own c))/\u (ρ.map kF) λd=>dw ((ρ.map kF).set i (.val d)) λb=>b=false/\U.rt (.new d)
def EL(X:a1)(i:Nat)(st:Ym)(u:a2):Prop:=∃b6,ho X st (pC b6 (ob i))/\oP X.K b6 u
theorem QT{cp iter bd:WP}{cA:agb}{scope:Y2}{cl:List (Str×TE)}{ts fr:af9}{js:Z8}{w:cN}{eK:e1}{cV:cK}{y:Str}{d7 jT:Pos}(bU:X.N.Nodup)(nv:X.N[i]?=some y)(hy:X.env.scope.names.lookup y=some .local)(ao:lh X bd iter w)(aJ:∀C s H ex,io (cY X (ts++fr) scope cl C s H ex) bd eK)(gt:∀C s H ex,ny (cY X (ts++fr) scope cl C s H ex) cA cV)(jU:∀C s H ex,oQ (cY X (ts++fr) scope cl C s H ex) cp u)(F:lA X scope cl fr js)(nz:js.Nodup:=by decide)(hc:X.calm=true:=by rfl)(av:∀v,WF iter X.env v=pure v:=by intro _;rfl)(jO:Yu (.ListComp cp [⟨bd,iter,cA,0⟩] scope pos) (some (.Name y d7)) jT.line X.env=pure true:=by rfl):
  EL X i (.Assign [.Name y d7] (.ListComp cp [⟨bd,iter,cA,0⟩] scope pos) jT) (Ng (nw w eK cV u ts.length js)):=by
 obtain⟨_,bi,ek⟩:=ao;obtain⟨wU,nA,nB⟩:=sR (K:=X.K) (Xs:=λa:TE×SZ×al×aga=>cY X (ts++fr) scope cl a.1 a.2.1 a.2.2.1 a.2.2.2) (λ_=>rfl) λa=>aJ a.1 a.2.1 a.2.2.1 a.2.2.2;obtain⟨tt,nC,rt⟩:=sQ (K:=X.K) (Xs:=λa:TE×SZ×al×aga=>cY X (ts++fr) scope cl a.1 a.2.1 a.2.2.1 a.2.2.2) (λ_=>rfl) λa=>gt a.1 a.2.1 a.2.2.1 a.2.2.2;obtain⟨b6,j0,i1⟩:=Nf (K:=X.K) (Xs:=λa:TE×SZ×al×aga=>cY X (ts++fr) scope cl a.1 a.2.1 a.2.2.1 a.2.2.2) (λ_=>rfl) λa=>jU a.1 a.2.1 a.2.2.1 a.2.2.2;exact⟨_,BE bU nv hy bi (λC s H ex=>nA (C,s,H,ex)) (λC s H ex=>nC (C,s,H,ex)) (λC s H ex=>j0 (C,s,H,ex)) F hc av jO,Nd ek nB rt i1 nz⟩
open Classical in
theorem QU{x:Str}{c:WP}{a:agc}{dw:cK}{s:cx}{st:Ym}{QV QW c3:Pos}(ao:X.N[i]?=some x)(hv:ie X.env.scope x)(aF:EL X i st u)(hc:fi X c dw)(aq:fW X a s)(tO:eC x:=by decide)(nH:iK x:=by decide):
  fW X [st,.If c a [] QV,.Return (some (.Name x c3)) QW] (EK i u dw):=by
 obtain⟨_,aa,ai⟩:=aF;obtain⟨_,ab,aw⟩:=hc;obtain⟨_,a',_⟩:=aq;refine⟨_,iM aa (iM (mT ab a' mS) (km (jz (jb ao hv tO nH)))),λU ρ h R W B H σ E e sm=>?_⟩;obtain⟨ax,x4,h⟩:=h;refine ai (ρ.map kF) _ h H (gv W σ ρ) _ H σ _ e.frame λd v a5 ar aE ah aK s1=>?_;have dj:=ah.setV i (s1.mono ky);refine aw _ _ aE H (gv W σ ρ) _ ar _ _ dj λb bu a0 aU am aP=>?_;obtain⟨rfl,z⟩:=aU;rw[TW SN];refine⟨v,by rw[Uu (by rw[e.len];exact ax)],?_⟩;have g:=aK.trans aP;have rM:∀a,¬kG σ ρ a:=λa ⟨n,ds,_,h⟩=>x4 n ds h;have ym:∀a,kH B H σ ρ a=B a:=λa=>by unfold kH;rw[TW (rM a)]
 have hD:∀a,W a->H a≠none:=λa w=>by
  obtain⟨x,y,z,_⟩:=e.wh a w;rw[z];exact λq=>by cases q
 have EM:∀a,R a≠none->H a≠none:=λa q=>by
  by_cases w:W a
  ·exact hD a w
  obtain⟨o,aM⟩:=Option.ne_none_iff_exists'.mp q;rw[e.fr a o aM w];exact λq=>by cases q
 have QX:∀a,B a≠none->¬gv W σ ρ a:=λa q w=>q (by
  have:=e.frame.wb a w
  rwa [ym]at this)
 let aC:al:=λa=>if H a=none then bu a else B a
 have QY:ca aC a0:=λa o q=>by
  by_cases z:H a=none
  ·have q:(if H a=none then bu a else B a)=some o:=q;rw[TT z]at q;exact am.bh a o q
  have q:(if H a=none then bu a else B a)=some o:=q;rw[TW z]at q;exact am.fr a o (e.bh a o q) (QX a (by rw[q];exact λz=>by cases z))
 refine sm.rt (.new d) v aC a0 z ⟨λa o q ec=>?_,QY,λa w=>?_,λa w=>?_,e.wr⟩ ⟨λa o q=>?_,λa o q=>?_⟩ ?_
 ·refine am.fr a o (e.fr a o q ec) λw=>?_;rcases w with w|⟨n,c9,e6⟩
  ·exact ec w
  obtain⟨b,aB,aL,_⟩:=e.bagAt e6;rw[c9]at aB;cases aB;rcases aL with aL|aL
  ·exact ec aL
  rw[q]at aL;cases aL
 ·show(if H a=none then bu a else B a)=none
  rw[TW (hD a w)];exact e.wb a w
 ·exact am.wh a (.inl w)
 ·show(if H a=none then bu a else B a)=some o
  rw[TW (by rw[e.bh a o q];exact λz=>by cases z)];exact q
 ·have q:(if H a=none then bu a else B a)=some o:=q;by_cases z:H a=none
  ·refine .inr (UX λr=>EM a r z)
  rw[TW z]at q;exact .inl q
 have mono:ca (d5 H bu) (d5 R aC):=λa o q=>by
  have aL:=ky a o q;unfold d5 at q⊢;by_cases z:H a=none
  ·have m':R a=none:=UX λr=>EM a r z;show(match (if H a=none then bu a else B a)with|some (.lst vs)=>if(R a).isNone then some (.lst vs)else none|o=>o)=some o
   rw[TT z,m'];rwa[z]at q
  have lo:kH B H σ ρ a=some o:=(g.n a o aL).elim id λw=>absurd w z;rw[ym]at lo;show(match (if H a=none then bu a else B a)with|some (.lst vs)=>if(R a).isNone then some (.lst vs)else none|o=>o)=some o
  rw[TW z,lo];rw[aL]at q;cases o with
  |lst vs=>
   have q:(if(H a).isNone then some (dM.lst vs)else none)=some (.lst vs):=q;rw[TW (by simpa using z)]at q;cases q
  |_=>rfl
 exact(s1.mono (oq aP.s)).mono mono
theorem EN{W:TE->Prop}{σ:St}{ρ:Z3}{H N aj:al}(m:lH K W σ ρ H N aj)(ae:∀a,gv W σ ρ a->H a≠none){b:TE}{vs ws:Z4}(bU:N b=some (.lst vs))(eQ:H b=none):lH K W σ ρ H N (upd aj b (.lst ws)):=by
 refine⟨λa o h ec=>?_,λa h=>?_,λa ws h=>?_,λa ws h=>?_⟩
 ·rw[cB (by rintro rfl;rw[eQ]at h;cases h)];exact m.fr a o h ec
 ·exact(m.wh a h).upd (by rintro rfl;exact ae _ h eQ)
 ·rw[cB (by rintro rfl;rw[bU]at h;cases h)];exact m.tp a ws h
 by_cases z:a=b
 ·subst z;exact⟨_,eo⟩
 rw[cB z];exact m.ls a ws h
theorem QZ{W:TE->Prop}{σ:St}{ρ:Z3}{H N aj a0:al}(m:lH K W σ ρ H N aj)(s:ca aj a0):lH K W σ ρ H N a0:=
 ⟨λa o h ec=>s _ _ (m.fr a o h ec),λa h=>by obtain⟨x,y,z,r⟩:=m.wh a h;exact⟨x,y,s _ _ z,r⟩,λa vs h=>s _ _ (m.tp a vs h),λa vs h=>by obtain⟨ws,z⟩:=m.ls a vs h;exact⟨ws,s _ _ z⟩⟩
theorem Q0{H:al}{p:TE}{o:dM}(h:H p=none):ca H (upd H p o):=λa x z=>by
 rw[cB (by rintro rfl;rw[h]at z;cases z)];exact z
def Q1(i j:Nat)(tP:cx):fu->Z3->D->Z3->Prop:=λU ρ d _=>(j<ρ.length/\∃ps:Z7,d=.lst ps/\ps.Nodup/\ps.length<TI/\∀q∈ps,∃r,q=.lst r/\r≠[]/\flats r=true)/\tP U ((ρ.set i .no).set j .no)
theorem Q2{j:Nat}{x y:Str}{c3 d7 yn eh cX EO tQ yo yp rg EP rh:Pos}{tP:cx}(oe:i≠j)(bU:X.N.Nodup)(ao:X.N[i]?=some x)(aQ:X.N[j]?=some y)(hx:ie X.env.scope x)(hy:Loc X.env.scope y)(Q3:ie X.env.scope y)(ak:Y5 (Wp X.prog X.w) X.A X.env X.xe)(hc:X.calm=true)(au:fW X rest tP)(Q4:i' X y:=by walk_at"f")(tO:eC x:=by decide)(nH:iK x:=by decide)(Q5:eC y:=by decide)(Q6:iK y:=by decide)(av:∀v,WF (.Name x c3) X.env v=pure v:=by intro _;rfl)(Q7:jv X (.Name y yn) "pop":=by rfl)(gM:jw eh cX:=by rfl)(Q8:Yu (.Call (.Attribute (.Name y yn) "pop" eh) [] [] cX) none EO.line X.env=pure false:=by rfl)(Q9:jv X (.Name x yo) "append":=by rfl)(Q':lZ X rg [.List [] rh]:=by rfl)(Ra:jw yp rg:=by rfl)(EQ:Uf [.List [] rh] X.env=(false,YU (.List [] rh) X.env)::Uf [] X.env:=by rfl)(Rb:(Zp rg (Uf [] X.env)).any (·.1)=false:=by rfl)(Rc:Yu (.Call (.Attribute (.Name x yo) "append" yp) [.List [] rh] [] rg) none EP.line X.env=pure false:=by rfl):
  s0 X [i,j] i (.For (.Name y d7) (.Name x c3) [.Expr (.Call (.Attribute (.Name y yn) "pop" eh) [] [] cX) EO] [] tQ::.Expr (.Call (.Attribute (.Name x yo) "append" yp) [.List [] rh] [] rg) EP::rest) (Q1 i j tP):=by
 obtain⟨_,a',eg⟩:=au
 refine⟨_,iM (pF ak hc (vM (jb ao hx tO nH)) (zN bU aQ hy Q4) (km (rR (Ag Vy PySem.F.slot_list_pop PySem.F.type_list_pop Jr (jb aQ Q3 Q5 Q6) Q7 gM) Q8)) av)
  (iM (rR (mZ Vy Xx Xy v' (jb ao hx tO nH) (di (r1 d9) d9 EQ) Q9 Q' Ra EQ Rb) Rc) a'),λU ρ d j9 h R W B H σ E e sm i3 mw hZ v dj hv Rd Re ax=>?_⟩
 obtain⟨⟨qB,ps,rfl,lC,hsz,i4⟩,h⟩:=h;obtain⟨a,vs,rfl,aq,rs⟩:=Rd.lst_of;obtain⟨dY,ER⟩:=lH.start e dj;obtain⟨Rf,Rg⟩:=AN aq;have ES:=dj.bh a _ Rf
 have lu:∀k,k<ps.length->∃b bs,vs[k]?=some (.ref b)/\d5 H i3 b=some (.lst bs)/\bs≠[]/\a≠b/\∀k2,k2<ps.length->k2≠k->vs[k2]?≠some (.ref b):=λk hk=>by
  obtain⟨x0,kg,a8⟩:=rs.get (SS hk);obtain⟨r,mG,Rh,ET⟩:=i4 _ (Uc hk);rw[mG]at a8;obtain⟨b,bs,rfl,ae,yq⟩:=a8.lst_of;refine⟨b,bs,kg,ae,?_,?_,λk2 ri n tR=>?_⟩
  ·rintro rfl;cases yq;exact Rh rfl
  ·rintro rfl;rw[aq]at ae;cases ae;obtain⟨cQ,Ri,wE⟩:=yq.getV kg;exact Nm wE (Cs ET Ri) aq
  obtain⟨c4,hd2,EU⟩:=rs.getV tR;obtain⟨aw,o7,_,Rj⟩:=i4 c4 (S4 hd2);rw[o7]at EU;obtain⟨cr,EV,am,o8,Rk⟩:=EU.lst_of;cases am;rw[ae]at o8;cases o8;have:=reps_det yq Rk ET Rj;rw[SS ri]at hd2;have bz:ps[k2]=ps[k]:=by rw[SM hd2,o7,mG,this]
  have iD:=T1.mp lC;rcases Nat.lt_or_gt_of_ne n with z|z
  ·exact iD k2 k ri hk z bz
  exact iD k k2 hk ri z bz.symm
 refine⟨_,hv,a,rfl,⟨vs,b0.of ES⟩,?_⟩
 refine⟨λn m a4 aj=>m=ps.length-n/\n<=ps.length/\(∀q,q≠j->a4[q]?=hZ[q]?)/\a4.length=hZ.length/\aj a=some (.lst vs)/\lH X.K W σ ρ H (d5 H i3) aj/\∀k b bs,n<=k->k<ps.length->vs[k]?=some (.ref b)->d5 H i3 b=some (.lst bs)->aj b=some (.lst bs),
  ⟨ps.length,rfl,Tu _,λ_ _=>rfl,rfl,ES,dY,λk b bs _ _ _ q=>dj.bh b _ (ky b _ q)⟩,?_⟩
 rintro n m a4 aj ⟨rfl,aG,yr,fE,fg,az,hK⟩;by_cases ce:n<ps.length
 ·refine .inr ⟨?_,λsx tg=>∃cU,cU<ps.length-n/\(cU=ps.length-(n+1)/\n+1<=ps.length/\(∀q,q≠j->sx[q]?=hZ[q]?)/\sx.length=hZ.length/\tg a=some (.lst vs)/\lH X.K W σ ρ H (d5 H i3) tg/\∀k b bs,n+1<=k->k<ps.length->vs[k]?=some (.ref b)->d5 H i3 b=some (.lst bs)->tg b=some (.lst bs)),λ_ _ z=>z,?_⟩
  ·obtain⟨x0,kg,_⟩:=rs.get (SS ce);exact⟨vs,x0,b0.of fg,kg⟩
  rintro x0 ar ⟨rfl,kg⟩;have kg:=kg vs (b0.of fg);obtain⟨b,bs,EW,ae,i5,Rl,Rm⟩:=lu n ce;rw[EW]at kg;cases kg;obtain⟨afQ,Rn⟩:=AN ae;have hw:=hK n b bs (SG _) ce EW ae;have j6:j<a4.length:=by rw[fE,ax,e.len];exact qB
  refine⟨.ref b,by rw[Uu j6],?_⟩;refine⟨.inl ⟨rfl,bs,b0.of hw⟩,b,bs,_,rfl,rfl,hw,SS (by have:=List.length_pos_iff.mpr i5;lia),?_⟩;refine⟨_,by lia,rfl,ce,λq aA=>?_,by rw[T6];exact fE,by rw[cB Rl];exact fg,EN az ER ae Rn,λk cr EV cy k2 tR o8=>?_⟩
  ·rw[TY (λz=>aA z.symm)];exact yr q aA
  rw[cB (by rintro rfl;exact Rm k k2 (by lia) tR)];exact hK k cr EV (by lia) k2 tR o8
 have lE:n=ps.length:=by lia
 subst lE;refine .inl ⟨⟨vs,b0.of fg,by rw[rs.length];exact SG _⟩,?_⟩;refine⟨.ref a,by rw[yr i oe];exact hv,.inl ⟨rfl,vs,b0.of fg⟩,?_⟩;refine⟨Tu _,λp ak=>?_⟩;have aI:=Q0 (o:=.lst []) ak;have Ro:=aI _ _ fg;refine⟨a,vs,.ref p,rfl,rfl,Ro,by rw[rs.length];exact hsz,?_⟩;have kM:=EN (QZ az aI) ER aq Rg (ws:=vs++[.ref p]);refine eg U _ h R W B _ a4 E ((e.unframe kM.fr kM.wh).forget ?_ λn k q=>?_) sm
 ·rw[T6,T6,fE,ax];exact e.len
 rcases jJ q with⟨_,z⟩|⟨EX,q⟩
 ·exact .inl z
 rcases jJ q with⟨_,z⟩|⟨Rp,q⟩
 ·exact .inl z
 exact .inr ⟨q,by rw[yr n EX];exact Re n (by simp[Rp,EX])⟩
end
end L3
namespace L3
open PySem L2 PyProof.Rows
open PySem.StrLaws PySem.Builtin PySem.Builtin.Str
def gi(c:Nat):age->Z8
 |[]=>[]
 |[a]=>a
 |a::b::r=>a++c::gi c (b::r)
theorem yt{c:Nat}:∀{a b r s:Z8},c∉a->c∉b->a++c::r=b++c::s->a=b/\r=s
 |[],[],r,s,_,_,e=>⟨rfl,(T2 e).2⟩
 |[],y::b,r,s,_,ae,e=>absurd (by rw[(T2 e).1];exact SD) ae
 |x::a,[],r,s,aq,_,e=>absurd (by rw[<-(T2 e).1];exact SD) aq
 |x::a,y::b,r,s,aq,ae,e=>by
  obtain⟨ah,am⟩:=T2 e;obtain⟨aa,ab⟩:=yt (λz=>aq (SJ _ z)) (λz=>ae (SJ _ z)) am;exact⟨by rw[ah,aa],ab⟩
theorem EY{c:Nat}:∀{ps a9:age},ps≠[]->a9≠[]->(∀p∈ps,c∉p)->(∀q∈a9,c∉q)->gi c ps=gi c a9->ps=a9
 |[],_,h,_,_,_,_=>absurd rfl h
 |_,[],_,h,_,_,_=>absurd rfl h
 |[a],[b],_,_,_,_,e=>by rw[show a=b from e]
 |[a],b::d::s,_,_,aq,_,e=>by
  have e:a=b++c::gi c (d::s):=e;exact absurd (by rw[e];simp) (aq a SD)
 |a::d::r,[b],_,_,_,ae,e=>by
  have e:a++c::gi c (d::r)=b:=e;exact absurd (by rw[<-e];simp) (ae b SD)
 |a::x::r,b::y::s,_,_,aq,ae,e=>by
  have e:a++c::gi c (x::r)=b++c::gi c (y::s):=e;obtain⟨aa,ab⟩:=yt (aq a SD) (ae b SD) e;rw[aa,EY (by simp) (by simp) (λp m=>aq p (SJ _ m)) (λp m=>ae p (SJ _ m)) ab]
theorem Rq(x:Str):S x.cps.toList=x:=by cases x;rfl
theorem tS(xs:af9):(xs.map λx=>x.cps.toList).map S=xs:=by
 rw[SI];have:(S∘λx:Str=>x.cps.toList)=_root_.id:=funext λx=>Rq x;rw[this,WR]
theorem EZ(x y:Str):Txt.split x y≠[]:=by
 unfold Txt.split;split
 ·simp
 split
 ·simp
 unfold Builtin.Str.partsBetween;intro h;have h:=Ye S' h;simp at h
theorem yu(c:Nat):∀ps:age,(S [c]).join (ps.map S)=S (gi c ps)
 |[]=>rfl
 |[a]=>rfl
 |a::b::r=>by
  show S a++S [c]++(S [c]).join ((b::r).map S)=S (a++c::gi c (b::r))
  rw[yu c (b::r),h1,h1];simp
theorem Rr(l:Z8)(c:Nat):∃ps:age,Txt.split (S l) (S [c])=ps.map S/\ps≠[]/\(∀p∈ps,c∉p)/\l=gi c ps:=by
 refine⟨(Txt.split (S l) (S [c])).map λx=>x.cps.toList,(tS _).symm,by simpa using EZ _ _,λp ak=>?_,?_⟩
 ·obtain⟨x,hx,rfl⟩:=SF.mp ak;exact StrLaws.split_free (S l) c x hx
 have h:=StrLaws.join_split (S l) (S [c]);rw[<-tS (Txt.split (S l) (S [c])),yu]at h;exact(tj h).symm
theorem Rs{l:Z8}{c:Nat}{ps:age}(h:ps≠[])(hf:∀p∈ps,c∉p)(e:l=gi c ps):Txt.split (S l) (S [c])=ps.map S:=by
 obtain⟨a9,aa,ab,a',bG⟩:=Rr l c;rw[aa,EY ab h a' hf (bG.symm.trans e)]
theorem yv(x y:Str)(c a b:Nat)(ae:b<=x.length)(hc:∀k,x.cps.toList[k]?=some c->At x y x.length k)(aG:∀k,a<=k->k<b->¬At x y x.length k):c∉(strSub x a b).cps.toList:=by
 intro az;rw[strSub_toList]at az;obtain⟨j,aQ⟩:=TX az
 have ce:j<b-a:=by
  have aa:j<((x.cps.toList.drop a).take (b-a)).length:=(TH.mp aQ).1;simp at aa;lia
 rw[V' ce,X2]at aQ;exact aG (a+j) (by lia) (by lia) (hc _ aQ)
theorem E0(x y:Str)(c:Nat)(hc:∀k,x.cps.toList[k]?=some c->At x y x.length k):∀(E1:Z8)(a f:Nat),ChainG x y x.length a E1 f->(∀k,f<=k->¬At x y x.length k)->∀p∈partsFrom x y.length a E1,c∉p.cps.toList
 |[],a,f,h,aG,p,ak=>by
  have e:f=a:=h;subst e;rw[SP.mp ak];exact yv x y c f x.length (SG _) hc λk aa _=>aG k aa
 |d::r,a,f,h,aG,p,ak=>by
  rcases SH.mp ak with rfl|mH
  ·exact yv x y c a d (by have:=h.2.1.1;lia) hc h.2.2.1
  exact E0 x y c hc r _ f h.2.2.2 aG p mH
theorem Rt(x y:Str)(c:Nat)(hy:1<=y.length)(hk:X5 y=1)(hc:∀k,x.cps.toList[k]?=some c->At x y x.length k):∀p∈Txt.split x y,c∉p.cps.toList:=by
 obtain⟨f,yw,aG⟩:=occ_tight x y hy;unfold Txt.split;split
 ·rename_i bi
  intro p ak;rw[SP.mp ak];intro az;obtain⟨j,aQ⟩:=TX az;have fg:=hc j aQ;rw[UH,decide_eq_true_eq,decide_eq_true_eq,hk]at bi;rcases bi with h|h
  ·have:=fg.1;lia
  unfold X5 at h;split at h
  ·lia
  split at h<;>lia
 split
 ·rename_i aF
  intro p ak;rw[SP.mp ak];have d4:occurrences x y 0 x.length (x.length+1)=[]:=List.isEmpty_iff.mp aF;rw[d4]at yw;have Ru:f=0:=yw;subst Ru;rw[<-sub_whole x];exact yv x y c 0 x.length (SG _) hc λk aa _=>aG k aa
 rw[partsBetween_eq];exact E0 x y c hc _ 0 f yw aG
def fb(c d:Nat):age->Z8
 |[]=>[]
 |[a]=>a
 |a::b::r=>a++c::d::fb c d (b::r)
theorem yx(c d:Nat):∀ps:age,(S [c,d]).join (ps.map S)=S (fb c d ps)
 |[]=>rfl
 |[a]=>rfl
 |a::b::r=>by
  show S a++S [c,d]++(S [c,d]).join ((b::r).map S)=S (a++c::d::fb c d (b::r))
  rw[yx c d (b::r),h1,h1];simp
theorem E2{c d:Nat}:∀{ps a9:age},ps≠[]->a9≠[]->(∀p∈ps,c∉p)->(∀q∈a9,c∉q)->fb c d ps=fb c d a9->ps=a9
 |[],_,h,_,_,_,_=>absurd rfl h
 |_,[],_,h,_,_,_=>absurd rfl h
 |[a],[b],_,_,_,_,e=>by rw[show a=b from e]
 |[a],b::x::s,_,_,aq,_,e=>by
  have e:a=b++c::d::fb c d (x::s):=e;exact absurd (by rw[e];simp) (aq a SD)
 |a::x::r,[b],_,_,_,ae,e=>by
  have e:a++c::d::fb c d (x::r)=b:=e;exact absurd (by rw[<-e];simp) (ae b SD)
 |a::x::r,b::y::s,_,_,aq,ae,e=>by
  have e:a++c::d::fb c d (x::r)=b++c::d::fb c d (y::s):=e;obtain⟨aa,ab⟩:=yt (aq a SD) (ae b SD) e;rw[aa,E2 (by simp) (by simp) (λp m=>aq p (SJ _ m)) (λp m=>ae p (SJ _ m)) (T2 ab).2]
theorem E3{c d:Nat}(e3:c≠d):∀{ps:age},(∀p∈ps,c∉p)->∀k,(fb c d ps)[k]?=some c->(fb c d ps)[k+1]?=some d
 |[],_,k,h=>by simp[fb]at h
 |[a],aq,k,h=>absurd (S4 h) (aq a SD)
 |a::b::r,aq,k,h=>by
  have h:(a++c::d::fb c d (b::r))[k]?=some c:=h;show(a++c::d::fb c d (b::r))[k+1]?=some d
  by_cases x:k<a.length
  ·rw[Tt x]at h;exact absurd (S4 h) (aq a SD)
  rw[Tz (by lia)]at h⊢;rw[show k+1-a.length=(k-a.length)+1 by lia];generalize k-a.length=j at *
  match j with
  |0=>rfl
  |1=>
   have h:some d=some c:=h;exact absurd (SM h).symm e3
  |j+2=>
   have h:(fb c d (b::r))[j]?=some c:=h;show(fb c d (b::r))[j+1]?=some d
   exact E3 e3 (λp m=>aq p (SJ _ m)) j h
theorem Rv{l:Z8}{ps:age}(h:ps≠[])(hf:∀p∈ps,59∉p)(e:l=fb 59 32 ps):Txt.split (S l) (S [59,32])=ps.map S:=by
 have nx:=E3 (c:=59) (d:=32) (by decide) hf;rw[<-e]at nx
 have hc:∀k,(S l).cps.toList[k]?=some 59->At (S l) (S [59,32]) (S l).length k:=λk hk=>by
  have hk:l[k]?=some 59:=hk;have ab:=nx k hk;have b7:k+1<l.length:=(TH.mp ab).1;refine⟨by show k+2<=l.length;lia,?_⟩;rw[subAt_eq];show((l.drop k).take 2==[59,32])=true
  rw[T' (by lia),T' b7,(TH.mp hk).2,(TH.mp ab).2];rfl
 have fr:=Rt (S l) (S [59,32]) 59 (by decide) (by decide +kernel) hc;have j:=join_split (S l) (S [59,32]);rw[<-tS (Txt.split (S l) (S [59,32])),yx]at j;have j:=tj j
 have q:=E2 (c:=59) (d:=32) (ps:=(Txt.split (S l) (S [59,32])).map λx=>x.cps.toList) (by simpa using EZ _ _) h (λp ak=>by
  obtain⟨x,hx,rfl⟩:=SF.mp ak
  exact fr x hx) hf (j.trans e)
 rw[<-q,tS]
theorem yy(n:Int):Str.ofString (toString n)=S (dL n):=by
 rcases Vg n 0 with h|h
 ·obtain⟨m,rfl⟩:∃m:Nat,n=Int.negSucc m:=by
   cases n with
   |ofNat k=>exact absurd h (by simp)
   |negSucc m=>exact⟨m,rfl⟩
  have e:toString (Int.negSucc m)="-"++toString ((m+1:Nat):Int):=rfl;refine ti ?_;unfold dL;rw[TT h,e,X6];have z:=XN (m+1);rw[X6]at z;show VT Char.toNat ("-"++toString ((m+1:Nat):Int)).toList=45::cT (m+1)
  rw[String.toList_append,S0];exact Ye (λr=>45::r) z
 rw[CW n h];unfold dL;rw[TW (by lia)]
def Rw(aS bf:a2):a2:=λρ k=>aS ρ λx=>∃i:Str,x=.str i/\bf ρ λy=>∃xs:af9,y=.lst (xs.map D.str)/\ZY i xs=true/\k (.str (Txt.join i xs))
section
variable{X:a1}{o a:WP}{g9 aS:a2}{eh cX:Pos}
theorem Rx(aM:aV X o g9)(aq:aV X a aS)(hR:jv X o "join":=by rfl)(iQ:lZ X cX [a]:=by rfl)(hS:jw eh cX:=by rfl)(av:dE X a []:=by rfl)(iR:hl X cX []:=by rfl):
  aV X (.Call (.Attribute o "join" eh) [a] [] cX) (Rw g9 aS):=by
 obtain⟨_,aa,ai⟩:=aM;obtain⟨_,ab,aw⟩:=aq;refine⟨_,mZ Vd XK XM CR aa (di ab d9 av) hR iQ hS av iR,λρ k h R W B H σ Q e q=>?_⟩;refine ai ρ _ h R W B H σ _ e λx v a5 ar aE ah aK s1=>?_;obtain⟨i,rfl,aE⟩:=aE;rw[s1.strV];refine⟨rfl,?_⟩;refine aw ρ _ aE R W a5 ar σ _ ah λd v2 bu a0 aU am aP aI=>?_;obtain⟨xs,rfl,aQ,aU⟩:=aU;obtain⟨b,vs,rfl,ae,bX⟩:=aI.lstV;exact⟨i,b,xs,rfl,rfl,by rw[am.bh _ _ ae,bX.strs],aQ,q _ _ bu a0 aU am (aK.trans aP) (.str _)⟩
end
end L3
namespace Cut
open L2 L3
def dU(p q r s:ay):Bool:=(cW p q r||(cW p q s||(cW r s p||cW r s q)))||(decide (bV (aR p q r)*bV (aR p q s)<0)&&decide (bV (aR r s p)*bV (aR r s q)<0))
def fc(p q r:ay):Bool:=cW p q r||cW q r p
def gw(e f:ay×ay)(t:Bool):Bool:=if t&&decide (e.2=f.1)then fc e.1 e.2 f.2 else if t&&decide (f.2=e.1)then fc f.1 f.2 e.2 else dU e.1 e.2 f.1 f.2
theorem yz{n:Int}(h:0<n){p q:ay}(e:hP n p=hP n q):p=q:=by
 obtain⟨a,b⟩:=Me (x:=p.1) (y:=p.2) (x':=q.1) (y':=q.2) (Sz h) (Ye bo e);exact Tf a b
theorem Ry{n:Int}(h:0<n){p q:ay}:(bo (hP n p)=bo (hP n q))↔p=q:=⟨λe=>yz h (qw e),λe=>by rw[e]⟩
theorem E4{n:Int}(h:0<n)(p q:ay):eqD (bo (hP n p)) (bo (hP n q))=decide (p=q):=by
 rw[Ua,jP,decide_eq_true_iff,Ry h]
theorem E5(x y:Int):pO (bV x) (bV y):=by
 have b:∀z:Int,Wn (bV z)<=9000:=λz=>by
  rcases CN z with e|e|e<;>rw[e]<;>decide
 exact⟨b x,b y⟩
def ed(rs:dC):List (Nat×(ay×ay)):=(rs.zipIdx).flatMap λx=>(b5 x.1).map λe=>(x.2,e)
def gj(l:List (Nat×(ay×ay))):Bool:=decide (l.Pairwise λa b=>gw a.2 b.2 (decide (a.1=b.1))=false)
theorem E6(rs:dC)(ps:Z6):ed (rs++[ps])=ed rs++(b5 ps).map λe=>(rs.length,e):=by
 unfold ed;rw[VU,X7];simp
theorem Rz{a b:List (Nat×(ay×ay))}(h:gj a=false):gj (a++b)=false:=by
 unfold gj at *;rw[decide_eq_false_iff_not]at *;exact λz=>h (Vj.mp z).1
theorem RA{a:List (Nat×(ay×ay))}{x:Nat×(ay×ay)}:gj (a++[x])=(gj a && !(a.any λy=>gw y.2 x.2 (decide (y.1=x.1)))):=by
 unfold gj;rw[Ua,decide_eq_true_iff,Vj];simp
theorem RB{rs:dC}{x:Nat×(ay×ay)}(h:x∈ed rs):∃ps∈rs,x.2∈b5 ps:=by
 unfold ed at h;obtain⟨y,hy,h⟩:=List.mem_flatMap.mp h;obtain⟨e,aF,rfl⟩:=SF.mp h;refine⟨y.1,?_,aF⟩;obtain⟨_,_,q⟩:=List.mem_zipIdx (x:=y.1) (i:=y.2) hy;rw[q];exact Uc _
theorem RC{n:Int}(h:0<n){ps:Z6}{T:ay}(cM:eu T (dR (f0 (ps.map (hP n))))):(bM (T.1*1) (T.2*2)).1<0↔tw ps<0:=by
 have e:=PM (f:=λps=>ps.map (hP n)) (rs:=[ps]) (T:=bM (T.1*1) (T.2*2)) h (λa9 aA p ak=>by
  obtain⟨q,_,rfl⟩:=SF.mp ak
  exact(gL (Sz h)).1.1) (λa9 aA=>PL h a9) (by
   rw[show([ps].map λps=>ps.map (hP n)).flatMap f0=f0 (ps.map (hP n)) by simp]
   exact PI cM)
 rw[show([ps].map tw).sum=tw ps by simp]at e;rw[e];have d:0<2*n*n:=SO (SO (by decide) h) h;obtain⟨l,ah,_⟩:=jj (t:=tw ps) (b:=2*n*n) (Sz d);have rf:=l.1;generalize(bM (tw ps) (2*n*n)).1=u at *;generalize(bM (tw ps) (2*n*n)).2=v at *;generalize 2*n*n=w at *;generalize tw ps=t at *;constructor
 ·intro hu;have a:=W3 hu d;rw[ah]at a;exact UC.mp λz=>absurd (UD z (Tq rf)) (UC.mpr a)
 intro bw;have a:=W3 bw rf;rw[<-ah]at a;exact UC.mp λz=>absurd (UD z (Tq d)) (UC.mpr a)
def f1(rs:dC)(p:ay):Bool:=b3 (rs.map λps=>b3 ((b5 ps).map (d6 p)))
def o9(rs:dC):Bool:=rs.zipIdx.all λx=>decide (tw x.1<0)==f1 (rs.take x.2++rs.drop (x.2+1)) (x.1.headD (0,0))
def lP(rs:dC):Bool:=decide (rs.length<=8)&&decide ((rs.map S').sum<=24)&&(rs.all λps=>decide (3<=ps.length)&&decide ps.Nodup)&&gj (ed rs)&&o9 rs
theorem yA:∀(rs:dC),(rs.map λps=>((ps.length:Nat):Int)).sum=(((rs.map S').sum:Nat):Int)
 |[]=>rfl
 |ps::rs=>by rw[SK,S5,yA rs,SK,S5];lia
theorem RD:∀(rs:dC),(ed rs).length=(rs.map S').sum:=by
 intro rs
 have:∀(rs:dC)(j:Nat),((rs.zipIdx j).flatMap λx=>(b5 x.1).map λe=>(x.2,e)).length=(rs.map S').sum:=by
  intro rs;induction rs with
  |nil=>intro j;rfl
  |cons ps rs b2=>
   intro j;rw[W4,XY,SU,b2,SK,S5,Sw];dsimp only;unfold b5;rw[US,SU,Th,Ts];lia
 exact this rs 0
end Cut
namespace Cut
open PySem L2 L3
abbrev eA(p:ay):List Int:=[p.1,p.2]
def b1(f:Z5->Z5->Bool)(p q:ay):ay:=if f (eA q) (eA p)=true then q else p
theorem yB{f:Z5->Z5->Bool}{aS bf:a2}{ρ:Z3}{k:D->Prop}{p q:ay}(aq:∀k:D->Prop,k (bT p)->aS ρ k)(ae:∀k:D->Prop,k (bT q)->bf ρ k)(h:k (bT (b1 f p q))):nN f aS bf ρ k:=by
 refine aq _ (ae _ ⟨eA p,eA q,rfl,rfl,rfl,?_⟩);unfold b1 at h;cases c:f (eA q) (eA p)with
 |true=>rw[c,TT rfl]at h;rw[TT rfl];exact h
 |false=>rw[c,TW SN]at h;rw[TW SN];exact h
theorem E7{f g:Int->Int->Bool}{ρ:Z3}{i m:Nat}{x z:Int}{k:D->Prop}(ao:ρ[i]?=some (.val (.int x)))(az:ρ[m]?=some (.val (.int z)))(h:k (.bl (f 0 x&&g x z))):tz f g (kA (.int 0)) (iW i) (iW m) ρ k:=by
 refine⟨_,ao,0,x,rfl,rfl,?_⟩;cases c:f 0 x with
 |true=>rw[c,SW]at h;exact⟨_,az,z,rfl,h⟩
 |false=>rwa[c,TJ]at h
theorem E8{f g fy g':Int->Int->Bool}{ρ:Z3}{i j m:Nat}{x y z:Int}{k:D->Prop}(ao:ρ[i]?=some (.val (.int x)))(aQ:ρ[j]?=some (.val (.int y)))(az:ρ[m]?=some (.val (.int z)))(h:k (.bl ((f 0 x&&g x z)&&(fy 0 y&&g' y z)))):
  AS (tz f g (kA (.int 0)) (iW i) (iW m)) (tz fy g' (kA (.int 0)) (iW j) (iW m)) ρ k:=by
 refine E7 ao az ⟨_,rfl,?_⟩;cases c:(f 0 x&&g x z)with
 |true=>rw[c,SW]at h;exact E7 aQ az h
 |false=>rwa[c,TJ]at h
def rj(x w:Int):Bool:=decide (0<=x)&&decide (x<=w)
def ltB(p q r s:ay):Bool:=
 let w:=(q.1-p.1)*(s.2-r.2)-(q.2-p.2)*(s.1-r.1)
 let f:=(r.1-p.1)*(s.2-r.2)-(r.2-p.2)*(s.1-r.1)
 let g:=(r.1-p.1)*(q.2-p.2)-(r.2-p.2)*(q.1-p.1)
 if w=0 then decide (aR p q r=0)&&mD (eA (b1 ew (b1 ey p q) (b1 ey r s))) (eA (b1 ey (b1 ew p q) (b1 ew r s)))
 else if w<0 then rj (-f) (-w)&&rj (-g) (-w)else rj f w&&rj g w
def lbB(p q r:ay):Bool:=decide (aR p q r=0)&&decide (0<(p.1-q.1)*(r.1-q.1)+(p.2-q.2)*(r.2-q.2))
def rng(ps:Z6)(i:Int):ay:=(ps[(i%(ps.length:Int)).toNat]?).getD (0,0)
def jr(n k j:Nat):Bool:=decide (((k:Int)-j)%n=1)||decide (((k:Int)-j)%n=n-1)
def ltK(ps:Z6)(k j:Nat):Bool:=ltB (rng ps (k-1)) (rng ps k) (rng ps (j-1)) (rng ps j)
def mI(ps:Z6):Bool:=decide (3<=ps.length)&&(decide ps.Nodup&&(SA ps.length).all λk => !lbB (rng ps (k-2)) (rng ps (k-1)) (rng ps k)&&(SA k).all λj=>jr ps.length k j || !ltK ps k j)
theorem lQ{ps:Z6}{i:Int}(aa : -(ps.length:Int)<=i)(ab:i<ps.length):ea (ps.map bT) i=some (bT (rng ps i))/\rng ps i∈ps:=by
 have e:∃j:Nat,ixN ps.length i=some j/\j<ps.length/\(i%(ps.length:Int)).toNat=j:=by
  unfold ixN;by_cases bi:0<=i
  ·rw[TT bi,TT ab];exact⟨_,rfl,by lia,by rw[Ug bi ab]⟩
  rw[TW bi,TT aa];refine⟨_,rfl,by lia,?_⟩;rw[<-UI,Ug (by lia) (by lia)]
  try rfl
  try lia
 obtain⟨j,e,aQ,lB⟩:=e;unfold rng ea;rw[Sw,e,lB,SS aQ];refine⟨?_,Uc _⟩;simp[aQ]
end Cut
namespace Cut
open L2 L3
theorem nV{x y:Int}(h:¬(x=0/\y=0)):0<x*x+y*y:=by
 have hx:0<=x*x:=(VV 0 x).elim (λa=>UD a a) (λa=>VR a a);have hy:0<=y*y:=(VV 0 y).elim (λa=>UD a a) (λa=>VR a a);rcases VW hx with a|a
 ·lia
 rcases VW hy with b|b
 ·lia
 exact absurd ⟨by rcases TS.mp a.symm with z|z<;>exact z,by rcases TS.mp b.symm with z|z<;>exact z⟩ h
theorem E9{x y g w:Int}(aJ:0<g)(hw:0<w)(h:x*g=y*w):x<=0↔y<=0:=by
 constructor
 ·intro a;refine VX.mp λb=>?_;have aa:=SO b hw;have ab:=VQ a (Tq aJ);lia
 intro a;refine VX.mp λb=>?_;have aa:=SO b aJ;have ab:=VQ a (Tq hw);lia
theorem E'{p q r:ay}(aa:p≠q)(ab:q≠r):fc p q r=lbB p q r:=by
 obtain⟨bc,aW⟩:=p;obtain⟨aB,aL⟩:=q;obtain⟨ai,aw⟩:=r;have hu:0<(bc-aB)*(bc-aB)+(aW-aL)*(aW-aL):=nV λz=>aa (by rw[show bc=aB by lia,show aW=aL by lia]);have hv:0<(ai-aB)*(ai-aB)+(aw-aL)*(aw-aL):=nV λz=>ab (by rw[show aB=ai by lia,show aL=aw by lia]);unfold fc lbB cW aR;dsimp only;have ah:(aB-bc)*(aw-aW)-(aL-aW)*(ai-bc)=(ai-aB)*(aW-aL)-(aw-aL)*(bc-aB):=by grind
 have am:(bc-ai)*(aB-ai)+(aW-aw)*(aL-aw)=((ai-aB)*(ai-aB)+(aw-aL)*(aw-aL))-((bc-aB)*(ai-aB)+(aW-aL)*(aw-aL)):=by grind
 have bz:(aB-bc)*(ai-bc)+(aL-aW)*(aw-aW)=((bc-aB)*(bc-aB)+(aW-aL)*(aW-aL))-((bc-aB)*(ai-aB)+(aW-aL)*(aw-aL)):=by grind
 have afR:((bc-aB)*(ai-aB)+(aW-aL)*(aw-aL))*((bc-aB)*(ai-aB)+(aW-aL)*(aw-aL))+((ai-aB)*(aW-aL)-(aw-aL)*(bc-aB))*((ai-aB)*(aW-aL)-(aw-aL)*(bc-aB))=((bc-aB)*(bc-aB)+(aW-aL)*(aW-aL))*((ai-aB)*(ai-aB)+(aw-aL)*(aw-aL)):=by grind
 rw[ah,am,bz];generalize(ai-aB)*(aW-aL)-(aw-aL)*(bc-aB)=c at *;generalize(bc-aB)*(ai-aB)+(aW-aL)*(aw-aL)=d at *;generalize(bc-aB)*(bc-aB)+(aW-aL)*(aW-aL)=u at *;generalize(ai-aB)*(ai-aB)+(aw-aL)*(aw-aL)=v at *;by_cases kS:c=0
 ·subst kS;rw[Ua];simp only[decide_true,SW,UH,decide_eq_true_iff];constructor
  ·intro h;lia
  intro h;refine UX λn=>?_;have dy:d+1<=u:=by lia
  have dJ:d+1<=v:=by lia
  have:=W5 dy dJ (by lia) (by lia);grind
 simp[kS]
theorem tT{u1 u2 v1 v2 m1 m2:Int}(z:u1*v2-u2*v1=0)(d8:(v1-u1)*m2-(v2-u2)*m1≠0):u1*v1+u2*v2<=0↔(m1*u2-m2*u1)*(m1*v2-m2*v1)<=0:=by
 have aJ:0<(v1-u1)*(v1-u1)+(v2-u2)*(v2-u2):=nV λz=>d8 (by rw[z.1,z.2];simp)
 have hw:0<((v1-u1)*m2-(v2-u2)*m1)*((v1-u1)*m2-(v2-u2)*m1):=by
  have:=nV (x:=(v1-u1)*m2-(v2-u2)*m1) (y:=0) λz=>d8 z.1
  rwa [VL,Int.add_zero]at this
 refine(E9 aJ hw ?_).symm;grind
theorem RE{x y:Int}:bV x*bV y<0↔x*y<0:=OT
theorem Fa{x y:Int}:x*y<=0↔x*y<0\/x=0\/y=0:=by
 constructor
 ·intro h;rcases VW h with h|h
  ·exact .inl h
  exact .inr (TS.mp h)
 rintro(h|rfl|rfl)
 ·lia
 ·simp
 simp
theorem RF{p q r s:ay}(d8:(q.1-p.1)*(s.2-r.2)-(q.2-p.2)*(s.1-r.1)≠0):dU p q r s=true↔(aR p q r*aR p q s<=0/\aR r s p*aR r s q<=0):=by
 obtain⟨bc,aW⟩:=p;obtain⟨aB,aL⟩:=q;obtain⟨ai,aw⟩:=r;obtain⟨s1,aI⟩:=s;dsimp only at d8
 have aq:aR (bc,aW) (aB,aL) (ai,aw)=0->((bc-ai)*(aB-ai)+(aW-aw)*(aL-aw)<=0↔aR (ai,aw) (s1,aI) (bc,aW)*aR (ai,aw) (s1,aI) (aB,aL)<=0):=λz=>by
  have h:=tT (u1:=bc-ai) (u2:=aW-aw) (v1:=aB-ai) (v2:=aL-aw) (m1:=s1-ai) (m2:=aI-aw) (by unfold aR at z;dsimp only at z;grind) (by grind);exact h
 have ae:aR (bc,aW) (aB,aL) (s1,aI)=0->((bc-s1)*(aB-s1)+(aW-aI)*(aL-aI)<=0↔aR (ai,aw) (s1,aI) (bc,aW)*aR (ai,aw) (s1,aI) (aB,aL)<=0):=λz=>by
  have h:=tT (u1:=bc-s1) (u2:=aW-aI) (v1:=aB-s1) (v2:=aL-aI) (m1:=s1-ai) (m2:=aI-aw) (by unfold aR at z;dsimp only at z;grind) (by grind);rw[h];unfold aR;dsimp only;rw[show(s1-ai)*(aW-aI)-(aI-aw)*(bc-s1)=(s1-ai)*(aW-aw)-(aI-aw)*(bc-ai) by grind,show(s1-ai)*(aL-aI)-(aI-aw)*(aB-s1)=(s1-ai)*(aL-aw)-(aI-aw)*(aB-ai) by grind]
 have hc:aR (ai,aw) (s1,aI) (bc,aW)=0->((ai-bc)*(s1-bc)+(aw-aW)*(aI-aW)<=0↔aR (bc,aW) (aB,aL) (ai,aw)*aR (bc,aW) (aB,aL) (s1,aI)<=0):=λz=>by
  have h:=tT (u1:=ai-bc) (u2:=aw-aW) (v1:=s1-bc) (v2:=aI-aW) (m1:=aB-bc) (m2:=aL-aW) (by unfold aR at z;dsimp only at z;grind) (by grind);exact h
 have hd:aR (ai,aw) (s1,aI) (aB,aL)=0->((ai-aB)*(s1-aB)+(aw-aL)*(aI-aL)<=0↔aR (bc,aW) (aB,aL) (ai,aw)*aR (bc,aW) (aB,aL) (s1,aI)<=0):=λz=>by
  have h:=tT (u1:=ai-aB) (u2:=aw-aL) (v1:=s1-aB) (v2:=aI-aL) (m1:=aB-bc) (m2:=aL-aW) (by unfold aR at z;dsimp only at z;grind) (by grind);rw[h];unfold aR;dsimp only;rw[show(aB-bc)*(aw-aL)-(aL-aW)*(ai-aB)=(aB-bc)*(aw-aW)-(aL-aW)*(ai-bc) by grind,show(aB-bc)*(aI-aL)-(aL-aW)*(s1-aB)=(aB-bc)*(aI-aW)-(aL-aW)*(s1-bc) by grind]
 unfold dU cW;simp only[UH,Te,decide_eq_true_iff,RE];generalize aR (bc,aW) (aB,aL) (ai,aw)=a at *;generalize aR (bc,aW) (aB,aL) (s1,aI)=b at *;generalize aR (ai,aw) (s1,aI) (bc,aW)=c at *;generalize aR (ai,aw) (s1,aI) (aB,aL)=d at *;have tU:=Fa (x:=a) (y:=b);have tV:=Fa (x:=c) (y:=d);constructor
 ·rintro((⟨z,h⟩|⟨z,h⟩|⟨z,h⟩|⟨z,h⟩)|⟨h,h'⟩)
  ·exact⟨tU.mpr (.inr (.inl z)),(aq z).mp h⟩
  ·exact⟨tU.mpr (.inr (.inr z)),(ae z).mp h⟩
  ·exact⟨(hc z).mp h,tV.mpr (.inr (.inl z))⟩
  ·exact⟨(hd z).mp h,tV.mpr (.inr (.inr z))⟩
  exact⟨tU.mpr (.inl h),tV.mpr (.inl h')⟩
 rintro⟨h,h'⟩;rcases tU.mp h with x|x|x
 ·rcases tV.mp h' with y|y|y
  ·exact .inr ⟨x,y⟩
  ·exact .inl (.inr (.inr (.inl ⟨y,(hc y).mpr h⟩)))
  exact .inl (.inr (.inr (.inr ⟨y,(hd y).mpr h⟩)))
 ·exact .inl (.inl ⟨x,(aq x).mpr h'⟩)
 exact .inl (.inr (.inl ⟨x,(ae x).mpr h'⟩))
theorem tW{x w:Int}(h:0<w):x*(x-w)<=0↔0<=x/\x<=w:=by
 constructor
 ·intro n;refine⟨VX.mp λa=>?_,VX.mp λa=>?_⟩
  ·have:=WD a (show x-w<0 by lia);lia
  have:=SO (show 0<x by lia) (show 0<x-w by lia);lia
 rintro⟨a,b⟩;exact VP a (by lia)
theorem RG{p q r s:ay}(d8:(q.1-p.1)*(s.2-r.2)-(q.2-p.2)*(s.1-r.1)≠0):dU p q r s=ltB p q r s:=by
 rw[Ua,RF d8];obtain⟨bc,aW⟩:=p;obtain⟨aB,aL⟩:=q;obtain⟨ai,aw⟩:=r;obtain⟨s1,aI⟩:=s;unfold ltB;dsimp only at d8⊢;rw[TW d8];have ft:aR (bc,aW) (aB,aL) (ai,aw) = -((ai-bc)*(aL-aW)-(aw-aW)*(aB-bc)):=by unfold aR;dsimp only;grind
 have eY:aR (bc,aW) (aB,aL) (s1,aI)=((aB-bc)*(aI-aw)-(aL-aW)*(s1-ai))-((ai-bc)*(aL-aW)-(aw-aW)*(aB-bc)):=by unfold aR;dsimp only;grind
 have o6:aR (ai,aw) (s1,aI) (bc,aW)=(ai-bc)*(aI-aw)-(aw-aW)*(s1-ai):=by unfold aR;dsimp only;grind
 have ga:aR (ai,aw) (s1,aI) (aB,aL)=((ai-bc)*(aI-aw)-(aw-aW)*(s1-ai))-((aB-bc)*(aI-aw)-(aL-aW)*(s1-ai)):=by unfold aR;dsimp only;grind
 rw[ft,eY,o6,ga];generalize(aB-bc)*(aI-aw)-(aL-aW)*(s1-ai)=w at *;generalize(ai-bc)*(aI-aw)-(aw-aW)*(s1-ai)=f at *;generalize(ai-bc)*(aL-aW)-(aw-aW)*(aB-bc)=g at *;unfold rj;by_cases c9:w<0
 ·rw[TT c9];simp only[Te,decide_eq_true_iff];have aa:=tW (x :=-g) (w :=-w) (by lia);have ab:=tW (x :=-f) (w :=-w) (by lia);rw[show -g*(w-g) = -g*(-g - -w) by grind,aa,show f*(f-w) = -f*(-f - -w) by grind,ab];exact And.comm
 rw[TW c9];simp only[Te,decide_eq_true_iff];have aa:=tW (x:=g) (w:=w) (by lia);have ab:=tW (x:=f) (w:=w) (by lia);rw[show -g*(w-g)=g*(g-w) by grind,aa,ab];exact And.comm
theorem RH(p q:ay):ey (eA p) (eA q)=true↔p.1<q.1\/(p.1=q.1/\p.2<q.2):=by
 simp only[ey,HT.lexQ,eA];by_cases h:p.1=q.1
 ·rw[TT h];by_cases ab:p.2=q.2
  ·rw[TT ab];exact⟨λe=>absurd e SN,λ_=>by lia⟩
  rw[TW ab,decide_eq_true_iff];lia
 rw[TW h,decide_eq_true_iff];lia
theorem RI(p q:ay):ew (eA p) (eA q)=true↔q.1<p.1\/(p.1=q.1/\q.2<p.2):=by
 simp only[ew,HT.lexQ,eA];by_cases h:p.1=q.1
 ·rw[TT h];by_cases ab:p.2=q.2
  ·rw[TT ab];exact⟨λe=>absurd e SN,λ_=>by lia⟩
  rw[TW ab,decide_eq_true_iff];lia
 rw[TW h,decide_eq_true_iff];lia
theorem yC(p q:ay):(b1 ey p q=p\/b1 ey p q=q)/\(b1 ey p q).1<=p.1/\(b1 ey p q).1<=q.1/\(p.1=q.1->(b1 ey p q).2<=p.2/\(b1 ey p q).2<=q.2):=by
 have e:=RH q p;by_cases h:ey (eA q) (eA p)=true
 ·rw[b1,TT h];have e:=e.mp h;exact⟨.inr rfl,by lia,by lia,λ_=>⟨by lia,by lia⟩⟩
 rw[b1,TW h];have e:=mt e.mpr h;exact⟨.inl rfl,by lia,by lia,λ_=>⟨by lia,by lia⟩⟩
theorem yD(p q:ay):(b1 ew p q=p\/b1 ew p q=q)/\p.1<=(b1 ew p q).1/\q.1<=(b1 ew p q).1/\(p.1=q.1->p.2<=(b1 ew p q).2/\q.2<=(b1 ew p q).2):=by
 have e:=RI q p;by_cases h:ew (eA q) (eA p)=true
 ·rw[b1,TT h];have e:=e.mp h;exact⟨.inr rfl,by lia,by lia,λ_=>⟨by lia,by lia⟩⟩
 rw[b1,TW h];have e:=mt e.mpr h;exact⟨.inl rfl,by lia,by lia,λ_=>⟨by lia,by lia⟩⟩
theorem RJ(p q:ay):mD (eA p) (eA q)=true↔p.1<q.1\/(p.1=q.1/\p.2<=q.2):=by
 simp only[mD,HT.lexQ,eA];by_cases h:p.1=q.1
 ·rw[TT h];by_cases ab:p.2=q.2
  ·rw[TT ab];exact⟨λ_=>.inr ⟨h,by lia⟩,λ_=>rfl⟩
  rw[TW ab,decide_eq_true_iff];lia
 rw[TW h,decide_eq_true_iff];lia
theorem Fb{x y:Int}:x*y<=0↔(x<=0/\0<=y)\/(0<=x/\y<=0):=by
 constructor
 ·intro n;refine UX λh=>?_;rcases Ve x 0 with a|a|a
  ·have:=WD a (show y<0 by lia);lia
  ·lia
  have:=SO a (show 0<y by lia);lia
 rintro(⟨a,b⟩|⟨a,b⟩)
 ·exact VQ a b
 exact VP a b
theorem RK{u1 u2 v1 v2:Int}(z:u1*v2-u2*v1=0)(n:u1≠v1):u1*v1+u2*v2<=0↔(u1<=0/\0<=v1)\/(0<=u1/\v1<=0):=by
 rw[<-Fb];have aJ:0<(v1-u1)*(v1-u1)+0*0:=nV λz=>n (by lia);have hw:0<(v1-u1)*(v1-u1)+(v2-u2)*(v2-u2):=nV λz=>n (by lia);refine E9 aJ hw ?_;grind
theorem RL{p q r s:ay}(aa:p≠q)(ab:r≠s)(d8:(q.1-p.1)*(s.2-r.2)-(q.2-p.2)*(s.1-r.1)=0):dU p q r s=ltB p q r s:=by
 have eY:aR p q s=aR p q r:=by unfold aR;grind
 have st:decide (bV (aR p q r)*bV (aR p q s)<0)=false:=by
  rw[eY];refine Tk λz=>?_;rcases CN (aR p q r)with e|e|e<;>rw[e]at z<;>lia
 have cp:ltB p q r s=(decide (aR p q r=0)&&mD (eA (b1 ew (b1 ey p q) (b1 ey r s))) (eA (b1 ey (b1 ew p q) (b1 ew r s)))):=by
  unfold ltB;dsimp only;rw[TT d8]
 unfold dU;rw[st,TJ,Wc,cp];by_cases gP:aR p q r=0
 ·rw[Tl gP,SW,Ua,RJ];have kT:aR p q s=0:=eY.trans gP;obtain⟨gk,m1,m2,im⟩:=yC p q;obtain⟨no,bx,n2,ep⟩:=yC r s;obtain⟨g9,u1,u2,j8⟩:=yD p q;obtain⟨tX,v1,v2,ag⟩:=yD r s;obtain⟨lo,l1,l2,gd⟩:=yD (b1 ey p q) (b1 ey r s);obtain⟨aM,cy,k2,mi⟩:=yC (b1 ew p q) (b1 ew r s);generalize b1 ew (b1 ey p q) (b1 ey r s)=l at *;generalize b1 ey (b1 ew p q) (b1 ew r s)=h at *;generalize b1 ey p q=m at *;generalize b1 ey r s=n at *;generalize b1 ew p q=u at *;generalize b1 ew r s=v at *;by_cases lR:p.1=q.1
  ·
   have aP:q.2-p.2≠0:=λz=>aa (Tf lR (by lia))
   have a8:r.1=p.1:=by
    unfold aR at gP;have:(q.2-p.2)*(r.1-p.1)=0:=by rw[<-lR]at gP;grind
    rcases TS.mp this with z|z
    ·exact absurd z aP
    lia
   have Fc:s.1=p.1:=by
    unfold aR at kT;have:(q.2-p.2)*(s.1-p.1)=0:=by rw[<-lR]at kT;grind
    rcases TS.mp this with z|z
    ·exact absurd z aP
    lia
   have kS:aR r s p=0:=by unfold aR;rw[a8,Fc];grind
   have g8:aR r s q=0:=by unfold aR;rw[a8,Fc,<-lR];grind
   have iG:∀a b c:ay,a.1=c.1->((a.1-c.1)*(b.1-c.1)+(a.2-c.2)*(b.2-c.2)<=0↔(a.2<=c.2/\c.2<=b.2)\/(c.2<=a.2/\b.2<=c.2)):=λa b c e=>by
    rw[e,Vm,Int.zero_mul,Wr,Fb];lia
   unfold cW;rw[Tl gP,Tl kT,Tl kS,Tl g8];simp only[SW,UH,decide_eq_true_iff];rw[iG p q r (by lia),iG p q s (by lia),iG r s p (by lia),iG r s q (by lia)];have im:=im lR;have ep:=ep (by lia);have j8:=j8 lR;have ag:=ag (by lia);rcases gk with rfl|rfl<;>rcases no with rfl|rfl<;>rcases g9 with rfl|rfl<;>rcases tX with rfl|rfl<;>rcases lo with rfl|rfl<;>rcases aM with rfl|rfl<;>omega(config:={})
  have tY:q.1-p.1≠0:=by lia
  have at0:∀a b:ay,aR p q a=0->aR p q b=0->a.1=b.1->a.2=b.2:=λa b aq ae e=>by
   unfold aR at aq ae;have:(q.1-p.1)*(a.2-b.2)=0:=by rw[e]at aq;grind
   rcases TS.mp this with z|z
   ·exact absurd z tY
   lia
  have fk:aR p q p=0:=by unfold aR;grind
  have RM:aR p q q=0:=by unfold aR;grind
  have mJ:r.1≠s.1:=λe=>ab (Tf e (at0 r s gP kT e))
  have kS:aR r s p=0:=by
   unfold aR at *;have:(q.1-p.1)*((s.1-r.1)*(p.2-r.2)-(s.2-r.2)*(p.1-r.1))=0:=by grind
   rcases TS.mp this with z|z
   ·exact absurd z tY
   exact z
  have g8:aR r s q=0:=by
   unfold aR at *;have:(q.1-p.1)*((s.1-r.1)*(q.2-r.2)-(s.2-r.2)*(q.1-r.1))=0:=by grind
   rcases TS.mp this with z|z
   ·exact absurd z tY
   exact z
  have iG:∀a b c:ay,aR a b c=0->a.1≠b.1->((a.1-c.1)*(b.1-c.1)+(a.2-c.2)*(b.2-c.2)<=0↔(a.1-c.1<=0/\0<=b.1-c.1)\/(0<=a.1-c.1/\b.1-c.1<=0)):=λa b c e n=>RK (by unfold aR at e;grind) (by lia)
  have Fd:aR p q l=0:=by
   rcases lo with e|e<;>rw[e]
   ·rcases gk with e|e<;>rw[e]<;>assumption
   rcases no with e|e<;>rw[e]<;>assumption
  have tJ:aR p q h=0:=by
   rcases aM with e|e<;>rw[e]
   ·rcases g9 with e|e<;>rw[e]<;>assumption
   rcases tX with e|e<;>rw[e]<;>assumption
  have same:=at0 l h Fd tJ;unfold cW;rw[Tl gP,Tl kT,Tl kS,Tl g8];simp only[SW,UH,decide_eq_true_iff];rw[iG p q r gP lR,iG p q s kT lR,iG r s p kS mJ,iG r s q g8 mJ];clear at0 iG Fd tJ gP kT kS g8 fk RM tY st cp eY d8 aa ab im ep j8 ag gd mi;have lo:l.1=m.1\/l.1=n.1:=lo.imp (λe=>by rw[e]) (λe=>by rw[e]);have aM:h.1=u.1\/h.1=v.1:=aM.imp (λe=>by rw[e]) (λe=>by rw[e]);have gk:m.1=p.1\/m.1=q.1:=gk.imp (λe=>by rw[e]) (λe=>by rw[e]);have no:n.1=r.1\/n.1=s.1:=no.imp (λe=>by rw[e]) (λe=>by rw[e]);have g9:u.1=p.1\/u.1=q.1:=g9.imp (λe=>by rw[e]) (λe=>by rw[e]);have tX:v.1=r.1\/v.1=s.1:=tX.imp (λe=>by rw[e]) (λe=>by rw[e]);constructor
  ·intro dP;have:l.1<=h.1:=by omega(config:={})
   rcases VW this with z|z
   ·exact .inl z
   exact .inr ⟨z,Int.le_of_eq (same z)⟩
  intro dP;have:l.1<=h.1:=by rcases dP with z|z<;>lia
  omega(config:={})
 rw[Tk gP,TJ];have lp:¬aR p q s=0:=by rw[eY];exact gP
 have way:∀c d:Int,(s.1-r.1)*(c-r.2)-(s.2-r.2)*(d-r.1)=0->(c=p.2/\d=p.1\/c=q.2/\d=q.1)->False:=λc d z ee=>by
  have RN:¬(s.1-r.1=0/\s.2-r.2=0):=λz=>ab (Tf (by lia) (by lia));have Ay:¬(q.1-p.1=0/\q.2-p.2=0):=λz=>aa (Tf (by lia) (by lia));unfold aR at gP;have fF:(s.1-r.1)*((q.1-p.1)*(r.2-p.2)-(q.2-p.2)*(r.1-p.1))=0:=by rcases ee with⟨rfl,rfl⟩|⟨rfl,rfl⟩<;>grind
  have oU:(s.2-r.2)*((q.1-p.1)*(r.2-p.2)-(q.2-p.2)*(r.1-p.1))=0:=by rcases ee with⟨rfl,rfl⟩|⟨rfl,rfl⟩<;>grind
  rcases TS.mp fF with aE|aE
  ·rcases TS.mp oU with aU|aU
   ·exact RN ⟨aE,aU⟩
   exact gP aU
  exact gP aE
 have RO:¬aR r s p=0:=λz=>way p.2 p.1 z (.inl ⟨rfl,rfl⟩);have RP:¬aR r s q=0:=λz=>way q.2 q.1 z (.inr ⟨rfl,rfl⟩);unfold cW;rw[Tk gP,Tk lp,Tk RO,Tk RP];rfl
theorem RR{p q r s:ay}(aa:p≠q)(ab:r≠s):dU p q r s=ltB p q r s:=by
 by_cases d8:(q.1-p.1)*(s.2-r.2)-(q.2-p.2)*(s.1-r.1)=0
 ·exact RL aa ab d8
 exact RG d8
theorem gx(ps:Z6)(i:Int):rng ps (i%(ps.length:Int))=rng ps i:=by
 unfold rng;rw[Int.emod_emod]
theorem hG{ps:Z6}{i:Nat}(h:i<ps.length):rng ps i=ps[i]:=by
 unfold rng;rw[Ug (by lia) (by lia),show((i:Nat):Int).toNat=i by lia,SS h];rfl
theorem RS{ps:Z6}(nd:ps.Nodup){i j:Nat}(ao:i<ps.length)(aQ:j<ps.length)(e:ps[i]=ps[j]):i=j:=by
 have h:=T1.mp nd;rcases UW i j with a|a|a
 ·exact absurd e (h i j ao aQ a)
 ·exact a
 exact absurd e.symm (h j i aQ ao a)
theorem tZ{ps:Z6}(nd:ps.Nodup)(bi:0<ps.length){i j:Int}:rng ps i=rng ps j↔i%(ps.length:Int)=j%(ps.length:Int):=by
 constructor
 ·intro e;rw[<-gx ps i,<-gx ps j]at e;have dy:=TF i (show(ps.length:Int)≠0 by lia);have dJ:=TG i (show 0<(ps.length:Int) by lia);have b7:=TF j (show(ps.length:Int)≠0 by lia);have cr:=TG j (show 0<(ps.length:Int) by lia);generalize i%(ps.length:Int)=x at *;generalize j%(ps.length:Int)=y at *;obtain⟨x,rfl⟩:=TV dy;obtain⟨y,rfl⟩:=TV b7;rw[hG (by lia),hG (by lia)]at e;exact Ye _ (RS nd (by lia) (by lia) e)
 intro e;rw[<-gx ps i,<-gx ps j,e]
theorem o'(ps:Z6):(b5 ps).length=ps.length:=by
 unfold b5;rw[US,SU,Th,Ts];lia
theorem pa{ps:Z6}{i:Nat}(h:i<ps.length):(b5 ps)[i]'(by rw[o'];exact h)=(rng ps i,rng ps (i+1)):=by
 unfold b5;rw[List.getElem_zip,hG h];refine Tf rfl ?_;show(ps.drop 1++ps.take 1)[i]'_=rng ps (i+1)
 by_cases c:i+1<ps.length
 ·rw[show((i:Nat):Int)+1=((i+1:Nat):Int) by lia,hG c,W6 (by rw[Th];lia),WZ];congr 1;lia
 have e:i+1=ps.length:=by lia
 rw[<-gx,show(((i:Nat):Int)+1)=(ps.length:Int) by lia,UJ,W7 (by rw[Th];lia),WY];have z:=hG (ps:=ps) (i:=0) (by lia);rw[show(0:Int)=((0:Nat):Int)from rfl,z];congr 1;rw[Th];lia
theorem pb(p q r s:ay):dU p q r s=dU r s p q:=by
 unfold dU;cases cW p q r<;>cases cW p q s<;>cases cW r s p<;>cases cW r s q<;>simp[Bool.and_comm]
def kU(ps:Z6):Prop:=(∀i:Int,fc (rng ps i) (rng ps (i+1)) (rng ps (i+2))=false) /\
 ∀i j:Int,i%(ps.length:Int)≠j%(ps.length:Int)->(i+1)%(ps.length:Int)≠j%(ps.length:Int)->(j+1)%(ps.length:Int)≠i%(ps.length:Int)->dU (rng ps i) (rng ps (i+1)) (rng ps j) (rng ps (j+1))=false
theorem yE(ps:Z6):gj (ed [ps])=true↔∀i j:Nat,i<j->j<ps.length->gw (rng ps i,rng ps (i+1)) (rng ps j,rng ps (j+1)) true=false:=by
 have e:ed [ps]=(b5 ps).map λe=>(0,e):=by unfold ed;simp
 unfold gj;rw[decide_eq_true_iff,e,Uh,T1];constructor
 ·intro h i j a b;have:=h i j (by rw[o'];lia) (by rw[o'];lia) a;rw[pa (by lia),pa b]at this;simpa using this
 intro h i j ao aQ a;rw[o']at ao aQ;rw[pa ao,pa aQ];simpa using h i j a aQ
theorem yF{ps:Z6}(gd:3<=ps.length)(nd:ps.Nodup):gj (ed [ps])=true↔kU ps:=by
 rw[yE];have inj:=λi j:Int=>tZ nd (show 0<ps.length by lia) (i:=i) (j:=j);have lO:∀i:Int,0<=i%(ps.length:Int)/\i%(ps.length:Int)<ps.length:=λi=>⟨TF i (by lia),TG i (by lia)⟩;have dV:∀x:Int,0<=x->x<ps.length->x%(ps.length:Int)=x:=λx a b=>Ug a b;have nW:(ps.length:Int)%(ps.length:Int)=0:=UJ
 have shift:∀i k:Int,rng ps (i%(ps.length:Int)+k)=rng ps (i+k):=λi k=>by
  rw[<-gx ps (i%(ps.length:Int)+k),<-gx ps (i+k),T3]
 constructor
 ·intro h
  have bk:∀i:Nat,i<ps.length->fc (rng ps i) (rng ps (i+1)) (rng ps (i+2))=false:=λi ao=>by
   by_cases c:i+1<ps.length
   ·have:=h i (i+1) (by lia) c;unfold gw at this;rw[TT (by simp)]at this;have e:((i+1:Nat):Int)+1=(i:Int)+2:=by lia
    rwa[e]at this
   have:=h 0 i (by lia) ao;have e:(i:Int)+1=ps.length:=by lia
   unfold gw at this;rw[TW (by rw[SW,decide_eq_true_iff];show ¬rng ps (0+1)=rng ps i;rw[inj,dV _ (by lia) (by lia),dV _ (by lia) (by lia)];lia),TT (by rw[SW,decide_eq_true_iff];show rng ps (i+1)=rng ps 0;rw[inj,e,nW,dV _ (by lia) (by lia)])]at this
   have am:rng ps ((i:Int)+2)=rng ps (0+1):=by
    rw[inj,show(i:Int)+2=1+ps.length by lia,UI];rfl
   rw[am];exact this
  have tc:∀i j:Nat,i<j->j<ps.length->i+1≠j->¬(i=0/\j+1=ps.length)->dU (rng ps i) (rng ps (i+1)) (rng ps j) (rng ps (j+1))=false:=λi j a b c d=>by
   have:=h i j a b;unfold gw at this
   rwa [TW (by
    rw[SW,decide_eq_true_iff];show ¬rng ps (i+1)=rng ps j
    rw[inj,dV _ (by lia) (by lia),dV _ (by lia) (by lia)];lia),TW (by
    rw[SW,decide_eq_true_iff];show ¬rng ps (j+1)=rng ps i
    rw[inj];by_cases z:j+1=ps.length
    ·rw[show(j:Int)+1=ps.length by lia,nW,dV _ (by lia) (by lia)];lia
    rw[dV _ (by lia) (by lia),dV _ (by lia) (by lia)]
    lia)]at this
  refine⟨λi=>?_,λi j bx n2 ep=>?_⟩
  ·obtain⟨a,b⟩:=lO i;have:=bk (i%(ps.length:Int)).toNat (by lia);rwa[show(((i%(ps.length:Int)).toNat:Nat):Int)=i%(ps.length:Int) by lia,shift,shift,gx]at this
  obtain⟨a,b⟩:=lO i;obtain⟨c,d⟩:=lO j;have ei:=shift i 1;have lB:=shift j 1;rw[<-gx ps i,<-gx ps j,<-ei,<-lB];rw[<-T3]at n2 ep;generalize i%(ps.length:Int)=x at *;generalize j%(ps.length:Int)=y at *;obtain⟨x,rfl⟩:=TV a;obtain⟨y,rfl⟩:=TV c;rcases UW x y with z|z|z
  ·refine tc x y z (by lia) (λe=>n2 ?_) (λe=>ep ?_)
   ·rw[show(x:Int)+1=y by lia];exact dV _ c d
   rw[show(y:Int)+1=ps.length by lia,nW];lia
  ·exact absurd (by rw[z]) bx
  rw[pb];refine tc y x z (by lia) (λe=>ep ?_) (λe=>n2 ?_)
  ·rw[show(y:Int)+1=x by lia];exact dV _ a b
  rw[show(x:Int)+1=ps.length by lia,nW];lia
 rintro⟨bk,tc⟩ i j oe aQ;unfold gw;by_cases c:i+1=j
 ·rw[TT (by
   rw[SW,decide_eq_true_iff];show rng ps (i+1)=rng ps j
   rw[show(i:Int)+1=(j:Int) by lia])]
  have:=bk i;show fc (rng ps i) (rng ps (i+1)) (rng ps (j+1))=false
  rw[show(j:Int)+1=i+2 by lia];exact this
 rw[TW (by
  rw[SW,decide_eq_true_iff];show ¬rng ps (i+1)=rng ps j
  rw[inj,dV _ (by lia) (by lia),dV _ (by lia) (by lia)]
  lia)]
 by_cases d:i=0/\j+1=ps.length
 ·obtain⟨rfl,d⟩:=d
  rw[TT (by
   rw[SW,decide_eq_true_iff];show rng ps (j+1)=rng ps (0:Nat)
   rw[inj,show(j:Int)+1=ps.length by lia,nW,dV _ (by lia) (by lia)]
   rfl)]
  have:=bk j;show fc (rng ps j) (rng ps (j+1)) (rng ps ((0:Nat)+1))=false
  rw[show rng ps (((0:Nat):Int)+1)=rng ps ((j:Int)+2) by
   rw[inj,show(j:Int)+2=1+ps.length by lia,UI]
   rfl]
  exact this
 rw[TW (by
  rw[SW,decide_eq_true_iff];show ¬rng ps (j+1)=rng ps i
  rw[inj];by_cases z:j+1=ps.length
  ·rw[show(j:Int)+1=ps.length by lia,nW,dV _ (by lia) (by lia)];lia
  rw[dV _ (by lia) (by lia),dV _ (by lia) (by lia)]
  lia)]
 refine tc i j ?_ ?_ ?_
 ·rw[dV _ (by lia) (by lia),dV _ (by lia) (by lia)];lia
 ·rw[dV _ (by lia) (by lia),dV _ (by lia) (by lia)];lia
 by_cases z:j+1=ps.length
 ·rw[show(j:Int)+1=ps.length by lia,nW,dV _ (by lia) (by lia)];lia
 rw[dV _ (by lia) (by lia),dV _ (by lia) (by lia)];lia
theorem RT(ps:Z6):mI ps=true↔3<=ps.length/\ps.Nodup/\kU ps:=by
 unfold mI;rw[Te,Te,decide_eq_true_iff,decide_eq_true_iff];refine and_congr_right λgd=>and_congr_right λnd=>?_;have inj:=λi j:Int=>tZ nd (show 0<ps.length by lia) (i:=i) (j:=j);have lO:∀i:Int,0<=i%(ps.length:Int)/\i%(ps.length:Int)<ps.length:=λi=>⟨TF i (by lia),TG i (by lia)⟩;have dV:∀x:Int,0<=x->x<ps.length->x%(ps.length:Int)=x:=λx a b=>Ug a b
 have m1:(-1:Int)%(ps.length:Int)=ps.length-1:=by
  rw[<-UI,dV _ (by lia) (by lia)];lia
 have shift:∀i k:Int,rng ps (i%(ps.length:Int)+k)=rng ps (i+k):=λi k=>by
  rw[<-gx ps (i%(ps.length:Int)+k),<-gx ps (i+k),T3]
 have ne:∀i:Int,rng ps i≠rng ps (i+1):=λi e=>by
  rw[inj,<-T3]at e;obtain⟨a,b⟩:=lO i;generalize i%(ps.length:Int)=x at *;by_cases c:x+1=ps.length
  ·rw[c,UJ]at e;lia
  rw[dV _ (by lia) (by lia)]at e;lia
 have near:∀k j:Nat,j<k->k<ps.length->(jr ps.length k j=true↔k=j+1\/k-j+1=ps.length):=λk j a b=>by
  unfold jr;rw[UH,decide_eq_true_iff,decide_eq_true_iff,dV _ (by lia) (by lia)];lia
 have Fe:∀k j:Nat,ltK ps k j=dU (rng ps ((k:Int)-1)) (rng ps k) (rng ps ((j:Int)-1)) (rng ps j):=λk j=>by
  unfold ltK;refine(RR ?_ ?_).symm
  ·have:=ne ((k:Int)-1)
   rwa [Vn]at this
  have:=ne ((j:Int)-1)
  rwa [Vn]at this
 constructor
 ·intro h
  have aa:∀k:Nat,k<ps.length->lbB (rng ps ((k:Int)-2)) (rng ps ((k:Int)-1)) (rng ps k)=false/\∀j:Nat,j<k->jr ps.length k j=false->ltK ps k j=false:=λk hk=>by
   have:=TC.mp h k (S7.mpr hk);rw[Te,VY]at this;refine⟨this.1,λj aQ lS=>?_⟩;have:=TC.mp this.2 j (S7.mpr aQ)
   rwa [lS,W8,VY]at this
  have tc:∀k j:Nat,j<k->k<ps.length->k≠j+1->k-j+1≠ps.length->dU (rng ps ((k:Int)-1)) (rng ps k) (rng ps ((j:Int)-1)) (rng ps j)=false:=λk j a b c d=>by
   rw[<-Fe];refine(aa k b).2 j a ?_;rw[X0];intro z;rcases(near k j a b).mp z with z|z
   ·exact c z
   exact d z
  refine⟨λi=>?_,λi j bx n2 ep=>?_⟩
  ·rw[E' (ne i) (by have:=ne (i+1);rwa [Int.add_assoc]at this)];obtain⟨a,b⟩:=lO (i+2);have:=(aa ((i+2)%(ps.length:Int)).toNat (by lia)).1;rwa[show((((i+2)%(ps.length:Int)).toNat:Nat):Int)=(i+2)%(ps.length:Int) by lia,Uq,Uq,shift,shift,gx,show i+2 + -2=i by lia,show i+2 + -1=i+1 by lia]at this
  obtain⟨a,b⟩:=lO (i+1);obtain⟨c,d⟩:=lO (j+1);have ei:rng ps ((i+1)%(ps.length:Int) + -1)=rng ps i:=by rw[shift];congr 1;lia
  have lB:rng ps ((j+1)%(ps.length:Int) + -1)=rng ps j:=by rw[shift];congr 1;lia
  have nJ:((i+1)%(ps.length:Int) + -1)%(ps.length:Int)=i%(ps.length:Int):=by rw[T3];congr 1;lia
  have Ff:((j+1)%(ps.length:Int) + -1)%(ps.length:Int)=j%(ps.length:Int):=by rw[T3];congr 1;lia
  rw[<-ei,<-lB,<-gx ps (i+1),<-gx ps (j+1)];rw[<-nJ,<-Ff]at bx;rw[<-Ff]at n2;rw[<-nJ]at ep;generalize(i+1)%(ps.length:Int)=x at *;generalize(j+1)%(ps.length:Int)=y at *;obtain⟨x,rfl⟩:=TV a;obtain⟨y,rfl⟩:=TV c;rcases UW x y with z|z|z
  ·rw[pb];refine tc y x z (by lia) (λe=>n2 ?_) (λe=>ep ?_)
   ·rw[dV _ (by lia) (by lia)];lia
   rw[show x=0 by lia,show((0:Nat):Int) + -1 = -1 from rfl,m1];lia
  ·exact absurd (by rw[z]) bx
  refine tc x y z (by lia) (λe=>ep ?_) (λe=>n2 ?_)
  ·rw[dV _ (by lia) (by lia)];lia
  rw[show y=0 by lia,show((0:Nat):Int) + -1 = -1 from rfl,m1];lia
 rintro⟨bk,tc⟩;refine TC.mpr λk hk=>?_;have hk:=S7.mp hk;rw[Te,VY];constructor
 ·have:=bk ((k:Int)-2);have ah:(k:Int)-2+1=k-1:=by lia
  have am:(k:Int)-2+2=k:=by lia
  rw[ah,am]at this
  rwa [<-E' (by have:=ne ((k:Int)-2);rwa [ah]at this) (by have:=ne ((k:Int)-1);rwa [Vn]at this)]
 refine TC.mpr λj aQ=>?_;have aQ:=S7.mp aQ;have lS:=near k j aQ hk;cases c:jr ps.length k j with
 |true=>rfl
 |false=>
  rw[W8,VY,Fe];rw[c]at lS;have lS:¬(k=j+1\/k-j+1=ps.length):=λz=>SN (lS.mpr z);have:=tc ((k:Int)-1) ((j:Int)-1);rw[Vn,Vn]at this;have nU:((k:Int)-1)%(ps.length:Int)=k-1:=dV _ (by lia) (by lia);have mk:(k:Int)%(ps.length:Int)=k:=dV _ (by lia) (by lia);have wS:(j:Int)%(ps.length:Int)=j:=dV _ (by lia) (by lia);rw[nU,mk,wS]at this;by_cases wB:j=0
  ·subst wB;rw[show((0:Nat):Int)-1 = -1 from rfl,m1]at this;exact this (by lia) (by lia) (by lia)
  rw[dV ((j:Int)-1) (by lia) (by lia)]at this;exact this (by lia) (by lia) (by lia)
theorem yG{ps:Z6}{i j:Int}(k:Int)(h:i%(ps.length:Int)=j%(ps.length:Int)):rng ps (i+k)=rng ps (j+k):=by
 rw[<-gx ps (i+k),<-gx ps (j+k),<-T3,h,T3]
def e2(p q:ay):Int:=p.1*q.2-p.2*q.1
theorem mK(ps:Z6):tw ps=((SA ps.length).map λi:Nat=>e2 (rng ps ((i:Int)-1)) (rng ps i)).sum:=by
 have go:∀m,m<=ps.length->(((dB (ps.map up)).take m).map q2).sum=((SA m).map λi:Nat=>e2 (rng ps ((i:Int)-1)) (rng ps i)).sum:=by
  intro m;induction m with
  |zero=>intro _;rfl
  |succ m b2=>
   intro h;obtain⟨p,q,mp,jq,fh,iH,RU⟩:=PD (ps:=ps) (i:=m) (by lia);have ah:=lQ (ps:=ps) (i:=(m:Int)-1) (by lia) (by lia);have am:=lQ (ps:=ps) (i:=(m:Int)) (by lia) (by lia);rw[ah.1]at fh;rw[am.1]at iH;have aE:=BP (SM fh);have aU:=BP (SM iH);rw[RU,S0,U1,b2 (by lia),UB,S0,U1,<-aE,<-aU];simp[e2,q2,up,Td]
 have iC:=OZ (ps.map up);rw[Sw]at iC;have:=go ps.length (SG _);rwa[iC]at this
theorem rk(f:Int->Int):∀n:Nat,((SA n).map λj:Nat=>f ((j:Int)+1)-f j).sum=f n-f 0
 |0=>by simp
 |n+1=>by
  rw[UB,S0,U1,rk f n];simp;lia
theorem Fg{α:Type}(f g:α->Int):∀l:List α,(l.map λx=>f x+g x).sum=(l.map f).sum+(l.map g).sum
 |[]=>by simp
 |x::l=>by rw[SK,S5,Fg f g l,SK,S5,SK,S5];lia
theorem rl{α:Type}(f g:α->Int):∀l:List α,(l.map λx=>f x-g x).sum=(l.map f).sum-(l.map g).sum
 |[]=>by simp
 |x::l=>by rw[SK,S5,rl f g l,SK,S5,SK,S5];lia
end Cut
namespace Cut
open PySem L2 L3
@[reducible] def jt(p:ay):Prop :=-100<=p.1/\p.1<=100 /\ -100<=p.2/\p.2<=100
theorem q1.s1{p:ay}(h:q1 p):jt p:=by
 obtain⟨a,b,c,d⟩:=h;exact⟨by lia,by lia,by lia,by lia⟩
def lT(ps a9:Z6):Prop:=∀e∈b5 ps,∀f∈b5 a9,dU e.1 e.2 f.1 f.2=false
theorem RV{ps:Z6}{e:ay×ay}:e∈b5 ps↔∃i:Nat,i<ps.length/\e=(rng ps i,rng ps (i+1)):=by
 rw[UE];constructor
 ·rintro⟨i,h,rfl⟩;rw[o']at h;exact⟨i,h,pa h⟩
 rintro⟨i,h,rfl⟩;exact⟨i,by rw[o'];exact h,pa h⟩
theorem RW{rs:dC}(h:∀ps∈rs,3<=ps.length/\ps.Nodup):gj (ed rs)=true↔(∀ps∈rs,kU ps)/\rs.Pairwise lT:=by
 unfold gj ed;rw[decide_eq_true_iff,List.pairwise_flatMap]
 have one:∀ps∈rs,∀n:Nat,((b5 ps).map λe=>(n,e)).Pairwise (λa b=>gw a.2 b.2 (decide (a.1=b.1))=false)↔kU ps:=λps ak n=>by
  rw[<-yF (h ps ak).1 (h ps ak).2];unfold gj ed;rw[decide_eq_true_iff];simp[Uh]
 have Fh:∀x∈rs.zipIdx,x.1∈rs:=λx hx=>by
  have:=List.fst_mem_of_mem_zipIdx hx;exact this
 refine and_congr ?_ ?_
 ·constructor
  ·intro g ps ak;obtain⟨k,hk,rfl⟩:=UE.mp ak;exact(one _ ak k).mp (g (rs[k],k) (List.mem_zipIdx_iff_getElem?.mpr (by rw[SS hk])))
  intro g x hx;exact(one _ (Fh x hx) x.2).mpr (g _ (Fh x hx))
 rw[T1,T1];have Fi:∀e f:ay×ay,gw e f false=dU e.1 e.2 f.1 f.2:=λe f=>by unfold gw;simp
 constructor
 ·intro g i j ao aQ lt e aF f hf;have:=g i j (by rw[VZ];exact ao) (by rw[VZ];exact aQ) lt (i,e) (by rw[V0];exact SF.mpr ⟨e,aF,by simp⟩) (j,f) (by rw[V0];exact SF.mpr ⟨f,hf,by simp⟩);rwa[show decide (((i,e):Nat×(ay×ay)).1=((j,f):Nat×(ay×ay)).1)=false from Tk (show ¬i=j by lia),Fi]at this
 intro g i j ao aQ lt x hx y hy;rw[VZ]at ao aQ;rw[V0]at hx hy;obtain⟨e,aF,rfl⟩:=SF.mp hx;obtain⟨f,hf,rfl⟩:=SF.mp hy;dsimp only;rw[Tk (by lia),Fi];exact g i j ao aQ lt e aF f hf
def cZ(a b:Int)(p:ay):Int:=a*p.1+b*p.2
theorem rm(a b:Int){p q r:ay}(aa:cZ a b p<cZ a b r)(ab:cZ a b q<cZ a b r):cW p q r=false:=by
 cases c:cW p q r with
 |false=>rfl
 |true=>
  unfold cW at c;rw[Te,decide_eq_true_eq,decide_eq_true_eq]at c;obtain⟨z,d⟩:=c;obtain⟨bc,aW⟩:=p;obtain⟨aB,aL⟩:=q;obtain⟨ai,aw⟩:=r;unfold aR at z;unfold cZ at aa ab;dsimp only at z d aa ab;have hu:a*(bc-ai)+b*(aW-aw)<0:=by grind
  have hw:a*(aB-ai)+b*(aL-aw)<0:=by grind
  have dN:(bc-ai)*(aL-aw)=(aW-aw)*(aB-ai):=by grind
  generalize bc-ai=u1 at *;generalize aW-aw=u2 at *;generalize aB-ai=c9 at *;generalize aL-aw=e6 at *;have e:(u1*c9+u2*e6)*(a*u1+b*u2)=(a*c9+b*e6)*(u1*u1+u2*u2):=by grind
  have l:0<=(u1*c9+u2*e6)*(a*u1+b*u2):=VR d (Tq hu);have RX:0<u1*u1+u2*u2:=nV (λz=>by rw[z.1,z.2]at hu;lia);have:=W3 hw RX;lia
theorem t0(a b:Int)(p:ay):cZ (-a) (-b) p = -cZ a b p:=by unfold cZ;grind
theorem t1(a b:Int){p q r:ay}(aa:cZ a b r<cZ a b p)(ab:cZ a b r<cZ a b q):cW p q r=false:=
 rm (-a) (-b) (by rw[t0,t0];lia) (by rw[t0,t0];lia)
theorem Fj{x y:Int}(h:bV x*bV y<0):(0<x/\y<0)\/(x<0/\0<y):=by
 unfold bV at h;by_cases a:0<x
 ·by_cases b:0<y
  ·rw[TT a,TT b]at h;lia
  by_cases c:y<0
  ·exact .inl ⟨a,c⟩
  rw[TT a,TW b,TW c]at h;lia
 by_cases dJ:x<0
 ·by_cases b:0<y
  ·exact .inr ⟨dJ,b⟩
  by_cases c:y<0
  ·rw[TW a,TT dJ,TW b,TT c]at h;lia
  rw[TW a,TT dJ,TW b,TW c]at h;lia
 rw[TW a,TW dJ]at h;lia
theorem t2(a b:Int){p q r s:ay}(aa:cZ a b p<cZ a b r)(ab:cZ a b p<cZ a b s)(a':cZ a b q<cZ a b r)(bG:cZ a b q<cZ a b s):dU p q r s=false:=by
 unfold dU;rw[rm a b aa a',rm a b ab bG,t1 a b aa ab,t1 a b a' bG];cases c:(decide (bV (aR p q r)*bV (aR p q s)<0)&&decide (bV (aR r s p)*bV (aR r s q)<0))with
 |false=>rfl
 |true=>
  rw[Te,decide_eq_true_eq,decide_eq_true_eq]at c;obtain⟨br,bF⟩:=c;have cy:=Fj br;have k2:=Fj bF;have e:aR p q r*cZ a b s-aR p q s*cZ a b r = -(aR r s p*cZ a b q-aR r s q*cZ a b p):=by unfold aR cZ;grind
  have d:aR p q r-aR p q s = -(aR r s p-aR r s q):=by unfold aR;grind
  generalize aR p q r=A at *;generalize aR p q s=B at *;generalize aR r s p=C at *;generalize aR r s q=E at *;generalize cZ a b p=P at *;generalize cZ a b q=Q at *;generalize cZ a b r=R at *;generalize cZ a b s=T at *;clear br bF
  exfalso
  have fin:∀A B C E P Q R T M:Int,A*T-B*R = -(C*Q-E*P)->A-B = -(C-E)->0<A->B<0->C<0->0<E->M<T->M<R->P<=M->Q<=M->False:=λA B C E P Q R T M e d x y z w cS cH gX qx=>by
   have m1:=SO x (show 0<T-M by lia);have m2:=SO (show 0 < -B by lia) (show 0<R-M by lia);have im:=UD (show 0 <= -C by lia) (show 0<=M-Q by lia);have Ca:=UD (show 0<=E by lia) (show 0<=M-P by lia);have d':(A-B)*M = -(C-E)*M:=by rw[d]
   clear x y z w cS cH gX qx d;grind
  rcases cy with⟨x,y⟩|⟨x,y⟩<;>rcases k2 with⟨z,w⟩|⟨z,w⟩
  ·lia
  ·rcases VV P Q with g|g
   ·exact fin A B C E P Q R T Q e d x y z w bG a' g (V1 _)
   exact fin A B C E P Q R T P e d x y z w ab aa (V1 _) g
  ·rcases VV P Q with g|g
   ·exact fin (-A) (-B) (-C) (-E) P Q R T Q (by grind) (by lia) (by lia) (by lia) (by lia) (by lia) bG a' g (V1 _)
   exact fin (-A) (-B) (-C) (-E) P Q R T P (by grind) (by lia) (by lia) (by lia) (by lia) (by lia) ab aa (V1 _) g
  lia
theorem t3{p q r:ay}(h:aR p q r≠0):fc p q r=false:=by
 unfold fc cW;have e:aR q r p=aR p q r:=by unfold aR;grind
 rw[e,Tk h,TJ,TJ];rfl
theorem Fk(a b:Int){p q r:ay}(aa:cZ a b p<cZ a b q)(ab:cZ a b q<cZ a b r):fc p q r=false:=by
 unfold fc;rw[rm a b (by lia) ab,t1 a b aa (by lia)];rfl
theorem RY(p q r s:ay):dU p q r s=dU q p s r:=by
 have o:∀p q r:ay,cW p q r=cW q p r:=λp q r=>by
  unfold cW;have e:aR p q r=0↔aR q p r=0:=by unfold aR;constructor<;>intro h<;>grind
  rw[decide_eq_decide.mpr e,Td (p.1-r.1),Td (p.2-r.2)]
 have ah:∀p q r s:ay,bV (aR p q r)*bV (aR p q s)=bV (aR q p s)*bV (aR q p r):=λp q r s=>by
  have n:∀x:ay,aR q p x = -aR p q x:=λx=>by unfold aR;grind
  have le:∀x:Int,bV (-x) = -bV x:=λx=>by
   unfold bV;by_cases a:0<x
   ·rw[TT a,TW (by lia),TT (by lia)]
   by_cases c:x<0
   ·rw[TW a,TT c,TT (by lia)];rfl
   rw[TW a,TW c,TW (by lia),TW (by lia)];rfl
  rw[n,n,le,le];grind
 unfold dU;rw[o p q r,o p q s,o r s p,o r s q,ah p q r s,ah r s p q];cases cW q p r<;>cases cW q p s<;>cases cW s r p<;>cases cW s r q<;>rfl
theorem Fl(p q r:ay):fc p q r=fc r q p:=by
 have o:∀p q r:ay,cW p q r=cW q p r:=λp q r=>by
  unfold cW;have e:aR p q r=0↔aR q p r=0:=by unfold aR;constructor<;>intro h<;>grind
  rw[decide_eq_decide.mpr e,Td (p.1-r.1),Td (p.2-r.2)]
 unfold fc;rw[o p q r,o q r p,Bool.or_comm]
def gl(ps:Z6):Prop:=3<=ps.length/\ps.Nodup/\kU ps
theorem yH{ps a9:Z6}(h:lT ps a9):lT a9 ps:=λe aF f hf=>by rw[pb];exact h f hf e aF
theorem RZ{a b:dC}(h:a.Perm b)(p:ay):f1 a p=f1 b p:=by
 unfold f1
 have go:∀{a b:List Bool},a.Perm b->b3 a=b3 b:=λ{a b} h=>by
  induction h with
  |nil=>rfl
  |cons x _ b2=>show(x ^^ b3 _)=(x ^^ b3 _);rw[b2]
  |swap x y l=>
   show(y ^^ (x ^^ b3 l))=(x ^^ (y ^^ b3 l))
   rw[<-Vh,<-Vh,WU y x]
  |trans _ _ aa ab=>exact aa.trans ab
 exact go (h.map _)
structure fO(rs:dC):Prop where
 n8:rs.length<=8
 n24:(rs.map S').sum<=24
 ring:∀ps∈rs,gl ps
 apart:rs.Pairwise lT
 hole:∀ps os,rs.Perm (ps::os)->∀p∈ps,decide (tw ps<0)=f1 os p
theorem Fm{rs:dC}{k:Nat}(h:k<rs.length):rs.Perm (rs[k]::(rs.take k++rs.drop (k+1))):=by
 have e:rs=rs.take k++rs[k]::rs.drop (k+1):=by rw[<-T' h,UG]
 exact List.Perm.trans (V2 e) X3
theorem fO.cl{rs:dC}(h:fO rs):lP rs=true:=by
 unfold lP;rw[Tl h.n8,Tl h.n24,SW,SW,(RW λps ak=>⟨(h.ring ps ak).1,(h.ring ps ak).2.1⟩).mpr ⟨λps ak=>(h.ring ps ak).2.2,h.apart⟩,Bool.and_true];refine VI.mpr ⟨TC.mpr λps ak=>?_,?_⟩
 ·rw[Tl (h.ring ps ak).1,Tl (h.ring ps ak).2.1];rfl
 unfold o9;refine TC.mpr λx hx=>?_;obtain⟨k,hk,rfl⟩:=UE.mp hx;rw[VZ]at hk;rw[V0,Tv];have gd:=(h.ring _ (Uc hk)).1
 have ak:rs[k].headD (0,0)∈rs[k]:=by
  cases e:rs[k]with
  |nil=>rw[e]at gd;exact absurd gd (by decide)
  |cons x r=>exact SD
 exact beq_iff_eq.mpr (h.hole _ _ (Fm hk) _ ak)
theorem R0{a b:dC}(h:a.Perm b)(p:a.Pairwise lT):b.Pairwise lT:=h.pairwise p λh=>yH h
theorem fO.perm{rs a9:dC}(h:fO rs)(p:rs.Perm a9):fO a9 where
 n8:=by rw[<-p.length_eq];exact h.n8
 n24:=by rw[<-(p.map S').sum_nat];exact h.n24
 ring:=λps ak=>h.ring ps (p.mem_iff.mpr ak)
 apart:=R0 p h.apart
 hole:=λps os q=>h.hole ps os (p.trans q)
theorem R1{α β:Type}{g:α->β}{m n:List β}(p:m.Perm n):∀{l:List α},n=l.map g->∃ml:List α,ml.Perm l/\ml.map g=m:=by
 induction p with
 |nil=>intro l e;exact⟨[],by rw[Ur.mp e.symm],rfl⟩
 |cons x _ b2=>
  intro l e;cases l with
  |nil=>cases e
  |cons y r=>
   obtain⟨ah,am⟩:=T2 e;obtain⟨ml,aa,ab⟩:=b2 am;exact⟨y::ml,aa.cons y,by rw[SK,ab,ah]⟩
 |swap x y l=>
  intro r e;cases r with
  |nil=>cases e
  |cons a r=>
   cases r with
   |nil=>cases(T2 e).2
   |cons b r=>
    obtain⟨ah,am⟩:=T2 e;obtain⟨bz,cF⟩:=T2 am;exact⟨b::a::r,List.Perm.swap a b r,by rw[SK,SK,<-ah,<-bz,<-cF]⟩
 |trans _ _ aa ab=>
  intro l e;obtain⟨l1,bc,aB⟩:=ab e;obtain⟨l2,aW,aL⟩:=aa aB.symm;exact⟨l2,aW.trans bc,aL⟩
structure t4(g:ay->ay)(x:Z6×Z6):Prop where
 len:x.2.length=x.1.length
 ok:gl x.1->gl x.2
 tw:tw x.2=tw x.1
 mem:∀p∈x.2,∃q∈x.1,p=g q
 sd:∀e∈b5 x.2,∃f∈b5 x.1,e=(g f.1,g f.2)
 inn:∀p,b3 ((b5 x.2).map (d6 (g p)))=b3 ((b5 x.1).map (d6 p))
theorem fO.alk{g:ay->ay}(aJ:∀p q r s,dU (g p) (g q) (g r) (g s)=dU p q r s){zs:List (Z6×Z6)}(h:fO (zs.map (·.1)))(aq:∀z∈zs,t4 g z):fO (zs.map (·.2)) where
 n8:=by have:=h.n8;rwa [Sw]at this⊢
 n24:=by
  have:=h.n24;rw[SI]at this⊢;rw[Tj λz hz=>show(S'∘λx:Z6×Z6=>x.2) z=(S'∘λx:Z6×Z6=>x.1) z from(aq z hz).len];exact this
 ring:=λps ak=>by
  obtain⟨z,hz,rfl⟩:=SF.mp ak;exact(aq z hz).ok (h.ring _ (SF.mpr ⟨z,hz,rfl⟩))
 apart:=by
  refine Uh.mpr ((Uh.mp h.apart).imp_of_mem λ{a b} iT fQ ap=>?_);intro e aF f hf;obtain⟨a7,j0,rfl⟩:=(aq a iT).sd e aF;obtain⟨fy,R2,rfl⟩:=(aq b fQ).sd f hf;show dU (g a7.1) (g a7.2) (g fy.1) (g fy.2)=false
  rw[aJ];exact ap a7 j0 fy R2
 hole:=λps os q p ak=>by
  obtain⟨R3,mL,dj⟩:=R1 q.symm (l:=zs) rfl;cases R3 with
  |nil=>cases dj
  |cons z Fn=>
   rw[SK]at dj;obtain⟨ah,am⟩:=T2 dj;have Fo:z∈zs:=mL.mem_iff.mp SD;have mt:∀y∈Fn,y∈zs:=λy hy=>mL.mem_iff.mp (SJ _ hy);rw[<-ah]at ak⊢;obtain⟨l4,mH,rfl⟩:=(aq z Fo).mem p ak;rw[(aq z Fo).tw,<-am];have:=h.hole z.1 (Fn.map (·.1)) ((mL.map (·.1)).symm) l4 mH;rw[this];unfold f1;rw[SI,SI];congr 1;refine Tj λy hy=>?_;exact((aq y (mt y hy)).inn l4).symm
theorem t5{n:Nat}{f:Int->Int}(hf:∀i j:Int,i%(n:Int)=j%(n:Int)->f i=f j):∀k:Nat,((SA n).map λi:Nat=>f ((i:Int)+k)).sum=((SA n).map λi:Nat=>f i).sum
 |0=>by simp
 |k+1=>by
  rw[<-t5 hf k];have t:=rk (λj=>f (j+k)) n;have z:f ((n:Int)+k)=f (0+k):=hf _ _ (by rw[Int.add_emod_left,Wr]);rw[z,Vm,rl (λj:Nat=>f ((j:Int)+1+k)) (λj:Nat=>f ((j:Int)+k))]at t;have e:((SA n).map λi:Nat=>f ((i:Int)+((k+1:Nat):Int)))=(SA n).map λj:Nat=>f ((j:Int)+1+k):=Tj λj _=>by rw[show(j:Int)+((k+1:Nat):Int)=(j:Int)+1+k by lia]
  rw[e];lia
theorem Fp(f:Int->Int):∀(n:Nat)(c:Int),((SA n).map λi:Nat=>f ((i:Int)+c)).sum=((SA n).map λi:Nat=>f ((n:Int)-1-i+c)).sum
 |0,_=>rfl
 |n+1,c=>by
  rw[UB,S0,U1,Fp f n c,W9,W',<-UB,XJ,SK,S5,SI]
  have e:(SA n).map ((λi:Nat=>f (((n+1:Nat):Int)-1-i+c))∘Nat.succ)=(SA n).map λi:Nat=>f ((n:Int)-1-i+c):=Tj λj _=>by
   show f (((n+1:Nat):Int)-1-((j+1:Nat):Int)+c)=_
   rw[show((n+1:Nat):Int)-1-((j+1:Nat):Int)+c=(n:Int)-1-j+c by lia]
  rw[e,show((n+1:Nat):Int)-1-((0:Nat):Int)+c=(n:Int)+c by lia];lia
theorem Fq{n:Nat}(h:0<n)(i:Int):∃k:Nat,k<n/\i%(n:Int)=(k:Int)%(n:Int)/\((i%(n:Int))=(k:Int)):=by
 have a:=TF i (show(n:Int)≠0 by lia);have b:=TG i (show 0<(n:Int) by lia);refine⟨(i%(n:Int)).toNat,by lia,?_,by lia⟩;rw[Int.toNat_of_nonneg a,Int.emod_emod_of_dvd _ (Int.dvd_refl _)]
theorem iI{ps:Z6}{i j:Int}(h:i%(ps.length:Int)=j%(ps.length:Int)):rng ps i=rng ps j:=by rw[<-gx,h,gx]
theorem Fs{ps a9:Z6}{f:Int->Int}(bi:0<ps.length)(ax:a9.length=ps.length)(hf:∀i j:Int,i%(ps.length:Int)=j%(ps.length:Int)->f i%(ps.length:Int)=f j%(ps.length:Int))(h:∀i:Nat,i<ps.length->rng a9 i=rng ps (f i))(i:Int):rng a9 i=rng ps (f i):=by
 obtain⟨k,hk,e,_⟩:=Fq bi i;rw[iI (ps:=a9) (j:=k) (by rw[ax];exact e),h k hk];exact iI (hf _ _ e.symm)
theorem yI{ps:Z6}{k:Nat}(bi:0<ps.length)(hk:k<=ps.length)(i:Int):rng (ps.drop k++ps.take k) i=rng ps (i+k):=by
 have ax:(ps.drop k++ps.take k).length=ps.length:=by rw[SU,Th,Ts];lia
 refine Fs (f:=λi=>i+k) bi ax (λi j e=>by show(i+k)%_=(j+k)%_;rw[<-T3,e,T3]) (λi ao=>?_) i;rw[hG (by lia)];by_cases c:i+k<ps.length
 ·rw[show((i:Int)+k)=((i+k:Nat):Int) by lia,hG c,W6 (by rw[Th];lia),WZ];congr 1;lia
 rw[iI (i:=(i:Int)+k) (j:=((i+k-ps.length:Nat):Int)) (by rw[show((i:Int)+k)=((i+k-ps.length:Nat):Int)+ps.length by lia,UI]),hG (by lia),W7 (by rw[Th];lia),WY];congr 1;rw[Th];lia
theorem kU.of{ps a9:Z6}(k:Int)(ax:a9.length=ps.length)(h:∀i,rng a9 i=rng ps (i+k))(s:kU ps):kU a9:=by
 have bS:∀x y:Int,x%(ps.length:Int)≠y%(ps.length:Int)->(x+k)%(ps.length:Int)≠(y+k)%(ps.length:Int):=λx y n e=>n (by
  have:(x+k-k)%(ps.length:Int)=(y+k-k)%(ps.length:Int):=by rw[U2,e,<-U2]
  rwa [Xa,Xa]at this)
 refine⟨λi=>?_,λi j a b c=>?_⟩
 ·rw[h,h,h,show i+1+k=i+k+1 by lia,show i+2+k=i+k+2 by lia];exact s.1 _
 rw[ax]at a b c;rw[h,h,h,h,show i+1+k=i+k+1 by lia,show j+1+k=j+k+1 by lia];refine s.2 _ _ (bS _ _ a) ?_ ?_
 ·rw[show i+k+1=i+1+k by lia];exact bS _ _ b
 rw[show j+k+1=j+1+k by lia];exact bS _ _ c
theorem R4:∀(A B:Z6),(b5 (A++B)).Perm (b5 (B++A))
 |[],B=>by rw[Tp,TK]
 |a::A,[]=>by rw[Tp,TK]
 |a::A,b::B=>by
  have go:∀(a b:ay)(A B:Z6),b5 ((a::A)++(b::B))=(a::A).zip (A++[b])++(b::B).zip (B++[a]):=λa b A B=>by
   unfold b5;rw[<-List.zip_append (by simp)];simp
  rw[go,go];exact Xb
theorem R5{ps:Z6}{k:Nat}(hk:k<=ps.length):t4 id (ps,ps.drop k++ps.take k):=by
 have ax:(ps.drop k++ps.take k).length=ps.length:=by rw[SU,Th,Ts];lia
 have pm:(ps.drop k++ps.take k).Perm ps:=Xb.trans (V2 (UG k ps));have mL:(b5 (ps.drop k++ps.take k)).Perm (b5 ps):=(R4 _ _).trans (V2 (by rw[UG]));refine⟨ax,λh=>⟨by show 3<=(ps.drop k++ps.take k).length;rw[ax];exact h.1,pm.nodup_iff.mpr h.2.1,kU.of k ax (yI (by have:=h.1;dsimp only at this;lia) hk) h.2.2⟩,?_,λp ak=>⟨p,pm.mem_iff.mp ak,rfl⟩,λe aF=>⟨e,mL.mem_iff.mp aF,rfl⟩,λp=>?_⟩
 ·show tw (ps.drop k++ps.take k)=tw ps
  by_cases bi:ps.length=0
  ·rw[VD.mp bi];simp
  rw[mK,mK,ax]
  have bS:=t5 (n:=ps.length) (f:=λi=>e2 (rng ps (i-1)) (rng ps i)) (λi j e=>by
   show e2 (rng ps (i-1)) (rng ps i)=e2 (rng ps (j-1)) (rng ps j)
   rw[iI e,Uq,Uq,yG (-1) e]) k
  rw[<-bS];congr 1;refine Tj λi _=>?_;rw[yI (by lia) hk,yI (by lia) hk,show(i:Int)-1+k=(i:Int)+k-1 by lia]
 have go:∀{a b:List Bool},a.Perm b->b3 a=b3 b:=λ{a b} h=>by
  induction h with
  |nil=>rfl
  |cons x _ b2=>show(x ^^ b3 _)=(x ^^ b3 _);rw[b2]
  |swap x y l=>
   show(y ^^ (x ^^ b3 l))=(x ^^ (y ^^ b3 l))
   rw[<-Vh,<-Vh,WU y x]
  |trans _ _ aa ab=>exact aa.trans ab
 exact go (mL.map _)
def de(a b:Int)(p:ay):ay:=(p.1+a,p.2+b)
theorem rn(a b:Int)(p q r:ay):aR (de a b p) (de a b q) (de a b r)=aR p q r:=by unfold aR de;grind
theorem pc(a b:Int)(p q r:ay):cW (de a b p) (de a b q) (de a b r)=cW p q r:=by
 unfold cW;rw[rn];unfold de;dsimp only;rw[show p.1+a-(r.1+a)=p.1-r.1 by lia,show p.2+b-(r.2+b)=p.2-r.2 by lia,show q.1+a-(r.1+a)=q.1-r.1 by lia,show q.2+b-(r.2+b)=q.2-r.2 by lia]
theorem Ft(a b:Int)(p q r s:ay):dU (de a b p) (de a b q) (de a b r) (de a b s)=dU p q r s:=by
 unfold dU;rw[pc,pc,pc,pc,rn,rn,rn,rn]
theorem Fu(g:ay->ay)(ps:Z6):b5 (ps.map g)=(b5 ps).map λe=>(g e.1,g e.2):=by
 unfold b5;rw[<-Up,<-Ue,<-S0,V3];rfl
theorem lU{ps:Z6}(g:ay->ay)(bi:0<ps.length)(i:Int):rng (ps.map g) i=g (rng ps i):=by
 obtain⟨k,hk,e,_⟩:=Fq bi i;rw[iI e,iI (ps:=ps.map g) (j:=k) (by rw[Sw];exact e),hG hk,hG (by rw[Sw];exact hk),U3]
theorem yJ(a b:Int)(ps:Z6):tw (ps.map (de a b))=tw ps:=by
 by_cases bi:ps.length=0
 ·rw[VD.mp bi];rfl
 rw[mK,mK,Sw];have cS:=rk (λi=>a*(rng ps (i-1)).2-b*(rng ps (i-1)).1) ps.length;have ah:rng ps ((ps.length:Int)-1)=rng ps (0-1):=iI (by rw[show(ps.length:Int)-1=0-1+ps.length by lia,UI]);rw[ah,Vm]at cS
 have e:((SA ps.length).map λi:Nat=>e2 (rng (ps.map (de a b)) ((i:Int)-1)) (rng (ps.map (de a b)) i))=(SA ps.length).map λi:Nat=>e2 (rng ps ((i:Int)-1)) (rng ps i)+((a*(rng ps ((i:Int)+1-1)).2-b*(rng ps ((i:Int)+1-1)).1)-(a*(rng ps ((i:Int)-1)).2-b*(rng ps ((i:Int)-1)).1)):=Tj λi _=>by
  rw[lU _ (by lia),lU _ (by lia),Xa];unfold e2 de;grind
 rw[e,Fg,cS,Int.add_zero]
theorem yK(a b:Int)(ps:Z6):t4 (de a b) (ps,ps.map (de a b)):=by
 have inj:∀p q,de a b p=de a b q->p=q:=λp q e=>by
  unfold de at e;obtain⟨ah,am⟩:=Prod.mk.inj e;exact Tf (by lia) (by lia)
 refine⟨Sw ..,λh=>⟨by show 3<=(ps.map (de a b)).length;rw[Sw];exact h.1,?_,?_⟩,yJ a b ps,λp ak=>?_,λe aF=>?_,λp=>?_⟩
 ·show(ps.map (de a b)).Nodup
  unfold S6;exact Uh.mpr (h.2.1.imp λn e=>n (inj _ _ e))
 ·have bi:0<ps.length:=by have:=h.1;dsimp only at this;lia
  refine⟨λi=>?_,λi j x y z=>?_⟩
  ·show fc (rng (ps.map (de a b)) i) _ _=false
   rw[lU _ bi,lU _ bi,lU _ bi];unfold fc;rw[pc,pc];exact h.2.2.1 i
  show dU (rng (ps.map (de a b)) i) _ _ _=false
  rw[lU _ bi,lU _ bi,lU _ bi,lU _ bi,Ft];dsimp only at x y z;rw[Sw]at x y z;exact h.2.2.2 i j x y z
 ·obtain⟨q,aA,rfl⟩:=SF.mp ak;exact⟨q,aA,rfl⟩
 ·dsimp only at aF⊢;rw[Fu]at aF;obtain⟨f,hf,rfl⟩:=SF.mp aF;exact⟨f,hf,rfl⟩
 dsimp only;rw[Fu,SI];congr 1;refine Tj λe _=>?_;show d6 (de a b p) (de a b e.1,de a b e.2)=d6 p e
 unfold d6 de;dsimp only;rw[show e.1.1+a-(p.1+a)=e.1.1-p.1 by lia,show e.1.2+b-(p.2+b)=e.1.2-p.2 by lia,show e.2.1+a-(p.1+a)=e.2.1-p.1 by lia,show e.2.2+b-(p.2+b)=e.2.2-p.2 by lia]
theorem yL{ps:Z6}(bi:0<ps.length)(i:Int):rng ps.reverse i=rng ps (-1-i):=by
 refine Fs (f:=λi => -1-i) bi (T8 ..) (λi j e=>by show(-1-i)%_=(-1-j)%_;rw[U2,e,<-U2]) (λi ao=>?_) i;rw[hG (by rw[T8];exact ao),X8,iI (i :=-1-(i:Int)) (j:=((ps.length-1-i:Nat):Int)) (by rw[show((ps.length-1-i:Nat):Int) = -1-(i:Int)+ps.length by lia,UI]),hG (by lia)]
theorem Fv{ps:Z6}(h:gl ps):gl ps.reverse:=by
 have bi:0<ps.length:=by have:=h.1;lia
 have r:=yL bi;refine⟨by rw[T8];exact h.1,(List.reverse_perm ps).nodup_iff.mpr h.2.1,λi=>?_,λi j a b c=>?_⟩
 ·rw[r,r,r,Fl,show -1-i = -1-(i+2)+2 by lia,show -1-(i+1) = -1-(i+2)+1 by lia];exact h.2.2.1 _
 rw[T8]at a b c;rw[r,r,r,r,RY,show -1-i = -1-(i+1)+1 by lia,show -1-j = -1-(j+1)+1 by lia]
 have bS:∀(x y m:Int),x%(ps.length:Int)≠y%(ps.length:Int)->(m-x)%(ps.length:Int)≠(m-y)%(ps.length:Int):=λx y m n e=>n (by
  have:(m-(m-x))%(ps.length:Int)=(m-(m-y))%(ps.length:Int):=by rw[U2,e,<-U2]
  rwa [show m-(m-x)=x by lia,show m-(m-y)=y by lia]at this)
 refine h.2.2.2 _ _ ?_ ?_ ?_
 ·have:=bS _ _ (-2) a
  rwa [show -2-i = -1-(i+1) by lia,show -2-j = -1-(j+1) by lia]at this
 ·have:=bS _ _ (-1) (λe=>c e.symm)
  rwa [show -1-i = -1-(i+1)+1 by lia]at this
 have:=bS _ _ (-1) (λe=>b e.symm)
 rwa [show -1-j = -1-(j+1)+1 by lia]at this
theorem Fw(ps:Z6):tw ps.reverse = -tw ps:=by
 by_cases bi:ps.length=0
 ·rw[VD.mp bi];rfl
 rw[mK,mK,T8]
 have tQ:∀i j:Int,i%(ps.length:Int)=j%(ps.length:Int)->e2 (rng ps (i-1)) (rng ps i)=e2 (rng ps (j-1)) (rng ps j):=λi j e=>by
  rw[iI e,Uq,Uq,yG (-1) e]
 have e:((SA ps.length).map λi:Nat=>e2 (rng ps.reverse ((i:Int)-1)) (rng ps.reverse i))=(SA ps.length).map λi:Nat=>0-e2 (rng ps (-((i:Int)+0)-1)) (rng ps (-((i:Int)+0))):=Tj λi _=>by
  rw[yL (by lia),yL (by lia),show -1-((i:Int)-1) = -((i:Int)+0) by lia,show -1-(i:Int) = -((i:Int)+0)-1 by lia];unfold e2;grind
 have z:((SA ps.length).map λ_:Nat=>(0:Int)).sum=0:=by
  induction SA ps.length with
  |nil=>rfl
  |cons x l b2=>rw[SK,S5,b2];rfl
 rw[e,rl,z,Fp (λi=>e2 (rng ps (-i-1)) (rng ps (-i))) ps.length 0];have bS:=t5 (n:=ps.length) (f:=λi=>e2 (rng ps (i-1)) (rng ps i)) tQ 1;rw[<-bS]
 have am:((SA ps.length).map λi:Nat=>e2 (rng ps (-((ps.length:Int)-1-i+0)-1)) (rng ps (-((ps.length:Int)-1-i+0))))=(SA ps.length).map λi:Nat=>e2 (rng ps ((i:Int)+((1:Nat):Int)-1)) (rng ps ((i:Int)+((1:Nat):Int))):=Tj λi _=>by
  refine tQ _ _ ?_;rw[show -((ps.length:Int)-1-i+0)=(i:Int)+((1:Nat):Int)-ps.length by lia,Int.sub_emod_right]
 rw[am,Int.zero_sub]
theorem t6{e f:ay×ay}(aa:e.2=f.1->fc e.1 e.2 f.2=false)(ab:f.2=e.1->fc f.1 f.2 e.2=false)(a':e.2≠f.1->f.2≠e.1->dU e.1 e.2 f.1 f.2=false):gw e f true=false:=by
 unfold gw;by_cases a:e.2=f.1
 ·rw[TT (by rw[Tl a];rfl)];exact aa a
 rw[TW (by rw[Tk a];decide)];by_cases b:f.2=e.1
 ·rw[TT (by rw[Tl b];rfl)];exact ab b
 rw[TW (by rw[Tk b];decide)];exact a' a b
theorem yM{p q r:ay}(h:r.1=q.1)(aa:p.1≠q.1)(ab:q.2≠r.2):fc p q r=false:=t3 (λe=>by
 unfold aR at e;have:(q.1-p.1)*(r.2-q.2)=0:=by rw[h]at e;grind
 rcases TS.mp this with z|z
 ·exact aa (by lia)
 exact ab (by lia))
theorem Fx{p q r:ay}(h:p.1=q.1)(aa:r.1≠q.1)(ab:q.2≠p.2):fc p q r=false:=by
 rw[Fl];exact yM h aa ab
theorem gm(p:ay):cZ 1 0 p=p.1:=by unfold cZ;lia
theorem mM(p:ay):cZ 0 1 p=p.2:=by unfold cZ;lia
theorem pd{p q r s:ay}(aa:p.1<r.1)(ab:p.1<s.1)(a':q.1<r.1)(bG:q.1<s.1):dU p q r s=false:=
 t2 1 0 (by rw[gm,gm];exact aa) (by rw[gm,gm];exact ab) (by rw[gm,gm];exact a') (by rw[gm,gm];exact bG)
theorem R6{p q r s:ay}(aa:p.2<r.2)(ab:p.2<s.2)(a':q.2<r.2)(bG:q.2<s.2):dU p q r s=false:=
 t2 0 1 (by rw[mM,mM];exact aa) (by rw[mM,mM];exact ab) (by rw[mM,mM];exact a') (by rw[mM,mM];exact bG)
structure kW(ps:Z6)(m:Nat)(w:Int):Prop where
 m2:2<=m
 k2:m+2<=ps.length
 inc:∀i j:Nat,i<j->j<m->(rng ps i).1<(rng ps j).1
 dec:∀i j:Nat,m<=i->i<j->j<ps.length->(rng ps j).1<(rng ps i).1
 x0:(rng ps (0:Nat)).1=0
 xm:(rng ps ((m-1:Nat):Int)).1=w
 xk:(rng ps m).1=w
 xn:(rng ps ((ps.length-1:Nat):Int)).1=0
 yl:∀i:Nat,i<m->(rng ps i).2<=3
 yh:∀i:Nat,m<=i->i<ps.length->4<=(rng ps i).2
theorem kW.nd{ps:Z6}{m:Nat}{w:Int}(h:kW ps m w):ps.Nodup:=by
 refine T1.mpr λi j ao aQ lt e=>?_;rw[<-hG ao,<-hG aQ]at e;by_cases a:j<m
 ·have:=h.inc i j lt a;rw[e]at this;lia
 by_cases b:m<=i
 ·have:=h.dec i j b lt aQ;rw[e]at this;lia
 have:=h.yl i (by lia);have:=h.yh j (by lia) aQ;rw[e]at *;lia
theorem kW.simp{ps:Z6}{m:Nat}{w:Int}(h:kW ps m w):kU ps:=by
 have m2:=h.m2;have k2:=h.k2;have ep:3<=ps.length:=by lia
 have inj:=λi j:Int=>tZ h.nd (show 0<ps.length by lia) (i:=i) (j:=j);have up:rng ps (ps.length:Int)=rng ps (0:Nat):=iI (by rw[UJ];rfl)
 have d8:0<w:=by
  have:=h.inc 0 (m-1) (by lia) (by lia);rwa[h.x0,h.xm]at this
 have t7:∀i:Nat,1<=i->i+1<ps.length->0<(rng ps i).1:=λi a b=>by
  by_cases c:i<m
  ·have:=h.inc 0 i (by lia) c;rwa[h.x0]at this
  have:=h.dec i (ps.length-1) (by lia) (by lia) (by lia);rwa[h.xn]at this
 have pe:∀i:Nat,i<ps.length->i≠m-1->i≠m->(rng ps i).1<w:=λi a b c=>by
  by_cases d:i<m
  ·have:=h.inc i (m-1) (by lia) (by lia);rwa[h.xm]at this
  have:=h.dec m i (SG _) (by lia) a;rwa[h.xk]at this
 have x0:=h.x0;have xm:=h.xm;have xk:=h.xk;have xn:=h.xn;refine(yF ep h.nd).mp ((yE ps).mpr λi j R7 yN=>t6 (λe=>?_) (λe=>?_) (λbx n2=>?_))
 ·have e:i+1=j:=by
   have:=(inj (i+1) j).mp e;rw[Ug (by lia) (by lia),Ug (by lia) (by lia)]at this;lia
  subst e;show fc (rng ps i) (rng ps (i+1)) (rng ps (((i+1:Nat):Int)+1))=false
  have br:rng ps ((i:Int)+1)=rng ps ((i+1:Nat):Int):=by congr 1
  by_cases l:i+2=ps.length
  ·rw[br,show((i+1:Nat):Int)+1=ps.length by lia,up];have p:=t7 i (by lia) (by lia);have cP:=h.yl 0 (by lia);have d1:=h.yh (i+1) (by lia) (by lia);rw[show i+1=ps.length-1 by lia]at d1⊢;exact yM (by rw[x0,xn]) (by rw[xn];lia) (by lia)
  have bF:((i+1:Nat):Int)+1=((i+2:Nat):Int):=by lia
  rw[br,bF];by_cases a:i+2<m
  ·exact Fk 1 0 (by rw[gm,gm];exact h.inc _ _ (by lia) (by lia)) (by rw[gm,gm];exact h.inc _ _ (by lia) a)
  by_cases b:i+2=m
  ·have l1:=pe i (by lia) (by lia) (by lia);have cP:=h.yl (i+1) (by lia);have d1:=h.yh (i+2) (by lia) (by lia);rw[show i+1=m-1 by lia]at cP⊢;rw[b]at d1⊢;exact yM (by rw[xm,xk]) (by rw[xm];lia) (by lia)
  by_cases c:i+1=m
  ·have l1:=pe (i+2) (by lia) (by lia) (by lia);have cP:=h.yl i (by lia);have d1:=h.yh (i+1) (by lia) (by lia);rw[c]at d1⊢;rw[show i=m-1 by lia]at cP l1⊢;exact Fx (by rw[xm,xk]) (by rw[xk];lia) (by lia)
  exact Fk (-1) 0 (by have:=h.dec i (i+1) (by lia) (by lia) (by lia);unfold cZ;lia) (by have:=h.dec (i+1) (i+2) (by lia) (by lia) (by lia);unfold cZ;lia)
 ·have e:j+1=ps.length/\i=0:=by
   have:=(inj (j+1) i).mp e;rw[Ug (a:=(i:Int)) (by lia) (by lia)]at this;by_cases c:j+1=ps.length
   ·rw[show(j:Int)+1=ps.length by lia,UJ]at this;exact⟨c,by lia⟩
   rw[Ug (by lia) (by lia)]at this;lia
  obtain⟨ah,rfl⟩:=e;show fc (rng ps j) (rng ps (j+1)) (rng ps (((0:Nat):Int)+1))=false
  rw[show(j:Int)+1=ps.length by lia,up,show((0:Nat):Int)+1=((1:Nat):Int) by lia];have p:=t7 1 (by lia) (by lia);have cP:=h.yl 0 (by lia);have d1:=h.yh j (by lia) (by lia);rw[show j=ps.length-1 by lia]at d1⊢;exact Fx (by rw[xn,x0]) (by rw[x0];lia) (by lia)
 dsimp only at bx n2⊢;have bD:i+1≠j:=λe=>bx (by rw[<-e];congr 1);have bN:¬(i=0/\j+1=ps.length):=λe=>n2 (by rw[show(j:Int)+1=ps.length by lia,up,e.1]);rw[show(i:Int)+1=((i+1:Nat):Int) by lia];by_cases j6:j+1=ps.length
 ·rw[show(j:Int)+1=ps.length by lia,up,pb];have bc:=t7 i (by lia) (by lia);have aW:=t7 (i+1) (by lia) (by lia);rw[show j=ps.length-1 by lia];exact pd (by rw[xn];exact bc) (by rw[xn];exact aW) (by rw[x0];exact bc) (by rw[x0];exact aW)
 rw[show(j:Int)+1=((j+1:Nat):Int) by lia];by_cases a:i+1<m
 ·have afS:=h.inc i (i+1) (by lia) a;by_cases b:j<m
  ·have qR:=h.inc (i+1) j (by lia) b;by_cases c:j+1<m
   ·have to:=h.inc j (j+1) (by lia) c;exact pd (by lia) (by lia) qR (by lia)
   have l1:=pe i (by lia) (by lia) (by lia);have l2:=pe (i+1) (by lia) (by lia) (by lia);rw[show j+1=m by lia,show j=m-1 by lia];exact pd (by rw[xm];exact l1) (by rw[xk];exact l1) (by rw[xm];exact l2) (by rw[xk];exact l2)
  have cP:=h.yl i (by lia);have d1:=h.yl (i+1) a;have th:=h.yh j (by lia) (by lia);have A1:=h.yh (j+1) (by lia) (by lia);exact R6 (by lia) (by lia) (by lia) (by lia)
 by_cases b:i+1=m
 ·have l1:=pe j (by lia) (by lia) (by lia);have l2:=pe (j+1) (by lia) (by lia) (by lia);rw[pb,b,show i=m-1 by lia];exact pd (by rw[xm];exact l1) (by rw[xk];exact l1) (by rw[xm];exact l2) (by rw[xk];exact l2)
 have cQ:=h.dec i (i+1) (by lia) (by lia) (by lia);have c4:=h.dec (i+1) j (by lia) (by lia) (by lia);have m6:=h.dec j (j+1) (by lia) (by lia) (by lia);rw[pb];exact pd (by lia) (by lia) (by lia) (by lia)
theorem Fy{f:Nat->Int}:∀{n:Nat},(∀t,t<n->0<=f t)->0<=((SA n).map f).sum
 |0,_=>by simp
 |n+1,h=>by
  rw[UB,S0,U1,W9,W'];have:=Fy (n:=n) λt dO=>h t (by lia);have:=h n (by lia);lia
theorem Fz{f:Nat->Int}:∀{n:Nat},(∀t,t<n->0<=f t)->(∃t,t<n/\0<f t)->0<((SA n).map f).sum
 |0,_,⟨t,h,_⟩=>absurd h (Uo t)
 |n+1,h,⟨t,dO,tp⟩=>by
  rw[UB,S0,U1,W9,W'];by_cases c:t=n
  ·have:=Fy (n:=n) λt dO=>h t (by lia);rw[c]at tp;lia
  have:=Fz (n:=n) (λt dO=>h t (by lia)) ⟨t,by lia,tp⟩;have:=h n (by lia);lia
theorem FA(ps:Z6):tw ps = -((SA ps.length).map λi:Nat=>((rng ps ((i:Int)+1)).1-(rng ps i).1)*((rng ps i).2+(rng ps ((i:Int)+1)).2)).sum:=by
 have bS:=t5 (n:=ps.length) (f:=λi=>e2 (rng ps (i-1)) (rng ps i)) (λi j e=>by
  show e2 (rng ps (i-1)) (rng ps i)=e2 (rng ps (j-1)) (rng ps j)
  rw[iI e,Uq,Uq,yG (-1) e]) 1
 rw[mK,<-bS];have t:=rk (λi=>(rng ps i).1*(rng ps i).2) ps.length;have up:rng ps (ps.length:Int)=rng ps 0:=iI (by rw[UJ];rfl);rw[up,Vm]at t
 have e:((SA ps.length).map λi:Nat=>e2 (rng ps ((i:Int)+((1:Nat):Int)-1)) (rng ps ((i:Int)+((1:Nat):Int))))=(SA ps.length).map λi:Nat=>((rng ps ((i:Int)+1)).1*(rng ps ((i:Int)+1)).2-(rng ps i).1*(rng ps i).2)-((rng ps ((i:Int)+1)).1-(rng ps i).1)*((rng ps i).2+(rng ps ((i:Int)+1)).2):=Tj λi _=>by
  rw[show(i:Int)+((1:Nat):Int)-1=i by lia,show(i:Int)+((1:Nat):Int)=(i:Int)+1 by lia];unfold e2;grind
 rw[e,rl,t,Int.zero_sub]
theorem kW.tw{ps:Z6}{m:Nat}{w:Int}(h:kW ps m w):0<tw ps:=by
 have m2:=h.m2;have k2:=h.k2;have up:rng ps (ps.length:Int)=rng ps 0:=iI (by rw[UJ];rfl);have x6:rng ps (ps.length:Int)=rng ps (0:Nat):=up;have t:=rk (λi=>7*(rng ps i).1) ps.length;rw[up,Vm]at t;have x0:=h.x0;have xm:=h.xm;have xk:=h.xk;have xn:=h.xn
 have low:∀i:Nat,i+1<m->0<7*(rng ps ((i:Int)+1)).1-7*(rng ps i).1-((rng ps ((i:Int)+1)).1-(rng ps i).1)*((rng ps i).2+(rng ps ((i:Int)+1)).2):=λi a=>by
  have d:=h.inc i (i+1) (by lia) a;have cP:=h.yl i (by lia);have d1:=h.yl (i+1) a;rw[show(i:Int)+1=((i+1:Nat):Int) by lia];have:=SO (show 0<(rng ps ((i+1:Nat):Int)).1-(rng ps i).1 by lia) (show 0<7-((rng ps i).2+(rng ps ((i+1:Nat):Int)).2) by lia);grind
 have all:∀i:Nat,i<ps.length->0<=7*(rng ps ((i:Int)+1)).1-7*(rng ps i).1-((rng ps ((i:Int)+1)).1-(rng ps i).1)*((rng ps i).2+(rng ps ((i:Int)+1)).2):=λi ao=>by
  by_cases a:i+1<m
  ·exact Tq (low i a)
  by_cases b:i+1=m
  ·rw[show(i:Int)+1=(m:Int) by lia,show i=m-1 by lia,xm,xk];lia
  by_cases c:i+1=ps.length
  ·rw[show(i:Int)+1=ps.length by lia,x6,show i=ps.length-1 by lia,xn,x0];lia
  have d:=h.dec i (i+1) (by lia) (by lia) (by lia);have cP:=h.yh i (by lia) (by lia);have d1:=h.yh (i+1) (by lia) (by lia);rw[show(i:Int)+1=((i+1:Nat):Int) by lia];have:=SO (show 0<(rng ps i).1-(rng ps ((i+1:Nat):Int)).1 by lia) (show 0<(rng ps i).2+(rng ps ((i+1:Nat):Int)).2-7 by lia);grind
 have key:=Fz (n:=ps.length) (f:=λi:Nat=>7*(rng ps ((i:Int)+1)).1-7*(rng ps i).1-((rng ps ((i:Int)+1)).1-(rng ps i).1)*((rng ps i).2+(rng ps ((i:Int)+1)).2)) (λi ao=>by exact all i ao) ⟨0,by lia,low 0 (by lia)⟩;rw[rl (λi:Nat=>7*(rng ps ((i:Int)+1)).1-7*(rng ps i).1),t]at key;rw[FA];lia
structure pf(w:Int)(xs:Z5):Prop where
 n2:2<=xs.length
 inc:xs.Pairwise (· < ·)
 fst:∀h:0<xs.length,xs[0]=0
 lst:∀h:xs.length-1<xs.length,xs[xs.length-1]=w
theorem R8{w:Int}{xs zs:Z5}{low high:Z6}(hx:pf w xs)(hz:pf w zs)(ex:low.map (·.1)=xs)(dj:high.map (·.1)=zs)(yl:∀p∈low,p.2<=3)(yh:∀p∈high,4<=p.2):kW (low++high.reverse) low.length w:=by
 subst ex;subst dj;have bx:=hx.n2;have n2:=hz.n2;rw[Sw]at bx n2;have len:(low++high.reverse).length=low.length+high.length:=by rw[SU,T8]
 have g7:∀i:Nat,(h:i<low.length)->rng (low++high.reverse) i=low[i]:=λi h=>by
  rw[hG (by lia),W6 h]
 have ro:∀i:Nat,(aa:low.length<=i)->(ab:i<low.length+high.length)->rng (low++high.reverse) i=high[high.length-1-(i-low.length)]:=λi aa ab=>by
  rw[hG (by lia),W7 aa,X8]
 have c3:∀i j (ao:i<low.length) (aQ:j<low.length),i<j->low[i].1<low[j].1:=λi j ao aQ lt=>by
  have:=T1.mp hx.inc i j (by rw[Sw];exact ao) (by rw[Sw];exact aQ) lt
  rwa [U3,U3]at this
 have mL:∀i j (ao:i<high.length) (aQ:j<high.length),i<j->high[i].1<high[j].1:=λi j ao aQ lt=>by
  have:=T1.mp hz.inc i j (by rw[Sw];exact ao) (by rw[Sw];exact aQ) lt
  rwa [U3,U3]at this
 have FB:=hx.fst (by rw[Sw];lia);have nm:=hx.lst (by rw[Sw];lia);have FC:=hz.fst (by rw[Sw];lia);have lz:=hz.lst (by rw[Sw];lia);rw[U3]at FB nm FC lz;simp only[Sw]at nm lz;refine⟨bx,by lia,λi j a b=>?_,λi j a b c=>?_,?_,?_,?_,?_,λi a=>?_,λi a b=>?_⟩
 ·rw[g7 i (by lia),g7 j b];exact c3 i j _ _ a
 ·rw[len]at c;rw[ro i a (by lia),ro j (by lia) c];exact mL _ _ _ _ (by lia)
 ·rw[g7 0 (by lia)];exact FB
 ·rw[g7 _ (by lia)];exact nm
 ·rw[ro _ (SG _) (by lia)];simp only[Nat.sub_self,Nat.sub_zero];exact lz
 ·rw[len,ro _ (by lia) (by lia)];have e:high.length-1-(low.length+high.length-1-low.length)=0:=by lia
  simp only[e];exact FC
 ·rw[g7 i a];exact yl _ (Uc _)
 rw[len]at b;rw[ro i a b];exact yh _ (Uc _)
theorem kW.ok{ps:Z6}{m:Nat}{w:Int}(h:kW ps m w):gl ps:=⟨by have:=h.m2;have:=h.k2;lia,h.nd,h.simp⟩
theorem FD(p q r:ay):rng [p,q,r] (((2:Nat):Int)+1)=p:=(iI (ps:=[p,q,r]) (j:=0) (show(3:Int)%3=0%3 by decide)).trans rfl
theorem FE{p q r:ay}(h:aR p q r≠0):gl [p,q,r]:=by
 have br:aR q r p≠0:=by rw[show aR q r p=aR p q r by unfold aR;grind];exact h
 have bF:aR r p q≠0:=by rw[show aR r p q=aR p q r by unfold aR;grind];exact h
 have z:∀a b:ay,aR a a b=0/\aR a b b=0/\aR a b a=0:=λa b=>by unfold aR;refine⟨?_,?_,?_⟩<;>grind
 have nd:[p,q,r].Nodup:=by
  have bx:p≠q:=λe=>h (by rw[e];exact(z q r).1);have n2:p≠r:=λe=>h (by rw[e];exact(z r q).2.2);have ep:q≠r:=λe=>h (by rw[e];exact(z p r).2.1);simp[bx,n2,ep]
 refine⟨by simp,nd,(yF (by simp) nd).mp ((yE _).mpr λi j R7 yN=>?_)⟩;have yN:j<3:=yN;have inj:=λi j:Int=>tZ nd (show 0<[p,q,r].length by simp) (i:=i) (j:=j);have lR:rng [p,q,r] (0:Nat)=p:=rfl;have aK:rng [p,q,r] (1:Nat)=q:=rfl;have aP:rng [p,q,r] (2:Nat)=r:=rfl;have g3:rng [p,q,r] (((2:Nat):Int)+1)=p:=FD p q r;have cs:(i=0/\j=1)\/(i=0/\j=2)\/(i=1/\j=2):=by lia
 have R9:p≠q:=λe=>h (by rw[e];exact(z q r).1);have R':q≠r:=λe=>h (by rw[e];exact(z p r).2.1);have lS:r≠p:=λe=>h (by rw[e];exact(z p q).2.2);rcases cs with⟨rfl,rfl⟩|⟨rfl,rfl⟩|⟨rfl,rfl⟩
 ·show gw (p,q) (q,r) true=false
  exact t6 (λ_=>t3 h) (λe=>absurd e lS) (λa _=>absurd rfl a)
 ·rw[g3];show gw (p,q) (r,p) true=false
  exact t6 (λe=>absurd e R') (λ_=>t3 bF) (λ_ a=>absurd rfl a)
 rw[g3];show gw (q,r) (r,p) true=false
 exact t6 (λ_=>t3 br) (λe=>absurd e R9) (λa _=>absurd rfl a)
theorem FF(p q r:ay):tw [p,q,r]=aR p q r:=by
 rw[FA,show SA [p,q,r].length=[0,1,2]from rfl,SK,SK,SK,T5,S5,S5,S5,List.sum_nil,FD];show -(((q.1-p.1)*(p.2+q.2))+(((r.1-q.1)*(q.2+r.2))+(((p.1-r.1)*(r.2+p.2))+0)))=_
 unfold aR;grind
def ph(ps a9:Z6):Prop:=∀p∈ps,∀q∈a9,p.1<q.1
theorem ph.ap{ps a9:Z6}(h:ph ps a9):lT ps a9:=λe aF f hf=>by
 obtain⟨ah,am⟩:=kd aF;obtain⟨bv,bJ⟩:=kd hf;exact pd (h _ ah _ bv) (h _ ah _ bJ) (h _ am _ bv) (h _ am _ bJ)
theorem rp{ps:Z6}{p:ay}(h:(∀q∈ps,q.1<p.1)\/(∀q∈ps,p.1<q.1)):b3 ((b5 ps).map (d6 p))=false:=by
 have no:∀e∈dB (ps.map up),¬q7 p e:=λe aF iG=>by
  obtain⟨f,hf,b9⟩:=Vz.mp ((PY p ps).mpr ⟨e,aF,iG⟩);obtain⟨bv,bJ⟩:=kd hf;rcases h with h|h
  ·rw[rm 1 0 (by rw[gm,gm];exact h _ bv) (by rw[gm,gm];exact h _ bJ)]at b9;exact SN b9
  rw[t1 1 0 (by rw[gm,gm];exact h _ bv) (by rw[gm,gm];exact h _ bJ)]at b9;exact SN b9
 rw[PX,<-PR no]
 have iC:∀l:List Bool,(∀b∈l,b=false)->b3 l=false:=λl=>by
  induction l with
  |nil=>intro _;rfl
  |cons b l b2=>
   intro g;show(b ^^ b3 l)=false
   rw[g b SD,b2 λc hc=>g c (SJ _ hc)];rfl
 refine iC _ λb ae=>?_;obtain⟨e,aF,rfl⟩:=SF.mp ae
 have gU:∃q r,q∈ps/\r∈ps/\e=(up q,up r):=by
  obtain⟨a,b,aa,ab⟩:=xP ps;rw[ab,S3,or_comm,<-S3,<-aa]at aF;obtain⟨f,hf,rfl⟩:=SF.mp aF;exact⟨f.1,f.2,(kd hf).1,(kd hf).2,rfl⟩
 obtain⟨q,r,jq,x8,rfl⟩:=gU;rw[PW];rcases h with h|h
 ·have:=h q jq;have:=h r x8;rw[Tl (show q.1<=p.1 by lia),Tl (show r.1<=p.1 by lia)];rfl
 have:=h q jq;have:=h r x8;rw[Tk (show ¬q.1<=p.1 by lia),Tk (show ¬r.1<=p.1 by lia)];rfl
theorem t8{rs:dC}(n8:rs.length<=8)(n24:(rs.map S').sum<=24)(ok:∀ps∈rs,gl ps/\0<tw ps)(iD:rs.Pairwise ph):fO rs where
 n8:=n8
 n24:=n24
 ring:=λps ak=>(ok ps ak).1
 apart:=iD.imp λh=>h.ap
 hole:=λps os pm p ak=>by
  have t:=(ok ps (pm.mem_iff.mpr SD)).2;have FG:(ps::os).Pairwise λa b=>ph a b\/ph b a:=pm.pairwise (iD.imp λh=>.inl h) λh=>h.symm;rw[Tk (show ¬tw ps<0 by lia)]
  have e:os.map (λps=>b3 ((b5 ps).map (d6 p)))=os.map λ_=>false:=Tj λa9 aA=>by
   rcases(Ud.mp FG).1 a9 aA with h|h
   ·exact rp (.inr λq az=>h p ak q az)
   exact rp (.inl λq az=>h q az p ak)
  unfold f1;rw[e];clear e FG pm;induction os with
  |nil=>rfl
  |cons a l b2=>
   show false=(false ^^ b3 _)
   rw[<-b2];rfl
theorem FH{rs:dC}(h:∀k (hk:k<rs.length),∀p∈rs[k],decide (tw rs[k]<0)=f1 (rs.take k++rs.drop (k+1)) p):∀ps os,rs.Perm (ps::os)->∀p∈ps,decide (tw ps<0)=f1 os p:=λps os pm p ak=>by
 obtain⟨k,hk,e⟩:=UE.mp (pm.mem_iff.mpr (SD (a:=ps)));have:=h k hk p (by rw[e];exact ak);have q:=(Fm hk).symm.trans pm;rw[e]at q this;rw[this];exact RZ q.cons_inv p
def h9(p:ay):Prop:=0<=p.1/\p.1<=6/\0<=p.2/\p.2<=6
theorem h9.s6{p:ay}(h:h9 p):q1 p:=⟨h.1,by have:=h.2.1;lia,h.2.2.1,by have:=h.2.2.2;lia⟩
def i6:List ay:=[(-2,-2),(9,-1),(10,9),(-1,8)]
def hi:List ay:=[(-1,8),(8,9),(9,-1),(-2,-2)]
def ia:List ay:=[(-4,-3),(11,-4),(12,11),(-3,10)]
theorem yO{ps a9:Z6}(h:∀f∈b5 a9,∀p∈ps,aR f.1 f.2 p>0):lT ps a9:=λe aF f hf=>by
 obtain⟨ah,am⟩:=kd aF;have aa:=h f hf _ ah;have ab:=h f hf _ am;have fn:∀p,cZ (f.2.2-f.1.2) (-(f.2.1-f.1.1)) p=cZ (f.2.2-f.1.2) (-(f.2.1-f.1.1)) f.1-aR f.1 f.2 p:=λp=>by unfold cZ aR;grind
 have d4:aR f.1 f.2 f.1=0:=by unfold aR;grind
 have bz:aR f.1 f.2 f.2=0:=by unfold aR;grind
 refine t2 (f.2.2-f.1.2) (-(f.2.1-f.1.1)) ?_ ?_ ?_ ?_
 ·rw[fn e.1];lia
 ·rw[fn e.1,fn f.2,bz];lia
 ·rw[fn e.2];lia
 rw[fn e.2,fn f.2,bz];lia
theorem FI{p:ay}(h:h9 p):∀f∈b5 i6,aR f.1 f.2 p>0:=by
 obtain⟨a,b,c,d⟩:=h;intro f hf;have:b5 i6=[((-2,-2),(9,-1)),((9,-1),(10,9)),((10,9),(-1,8)),((-1,8),(-2,-2))]:=rfl;rw[this]at hf;simp only[SH,Ti,or_false]at hf;unfold aR;rcases hf with rfl|rfl|rfl|rfl<;>dsimp only<;>lia
theorem Sa{ps a9:Z6}(h:∀f∈b5 a9,∀p∈ps,aR f.1 f.2 p<0):lT ps a9:=λe aF f hf=>by
 obtain⟨ah,am⟩:=kd aF;have aa:=h f hf _ ah;have ab:=h f hf _ am;have fn:∀p,cZ (-(f.2.2-f.1.2)) (f.2.1-f.1.1) p=cZ (-(f.2.2-f.1.2)) (f.2.1-f.1.1) f.1+aR f.1 f.2 p:=λp=>by unfold cZ aR;grind
 have bz:aR f.1 f.2 f.2=0:=by unfold aR;grind
 refine t2 (-(f.2.2-f.1.2)) (f.2.1-f.1.1) ?_ ?_ ?_ ?_
 ·rw[fn e.1];lia
 ·rw[fn e.1,fn f.2,bz];lia
 ·rw[fn e.2];lia
 rw[fn e.2,fn f.2,bz];lia
theorem FJ:b5 hi=[((-1,8),(8,9)),((8,9),(9,-1)),((9,-1),(-2,-2)),((-2,-2),(-1,8))]:=rfl
theorem FK{p:ay}(h:h9 p):∀f∈b5 hi,aR f.1 f.2 p<0:=by
 obtain⟨a,b,c,d⟩:=h;intro f hf;rw[FJ]at hf;simp only[SH,Ti,or_false]at hf;unfold aR;rcases hf with rfl|rfl|rfl|rfl<;>dsimp only<;>lia
theorem Sb{p:ay}(h:h9 p):b3 ((b5 hi).map (d6 p))=true:=by
 have c:=FK h;obtain⟨a,b,d,e⟩:=h;rw[FJ]at c⊢;have bF:=c ((8,9),(9,-1)) (by simp);have eR:=c ((-2,-2),(-1,8)) (by simp);dsimp only at bF eR;simp only[SK,T5,tE];rw[Tk (show ¬p.2 < -2 by lia),Tk (show ¬p.2 < -1 by lia),Tl (show p.2<9 by lia),Tl (show p.2<8 by lia),TT (show p.2<8 by lia),TW (show ¬p.2 < -1 by lia),Tl (show aR (8,9) (9,-1) p<0 by lia),Tk (show ¬0<aR (-2,-2) (-1,8) p by lia)];rfl
theorem yP{p:ay}(h : -2<=p.1/\p.1<=10 /\ -2<=p.2/\p.2<=9):∀f∈b5 ia,aR f.1 f.2 p>0:=by
 obtain⟨a,b,c,d⟩:=h;intro f hf;have:b5 ia=[((-4,-3),(11,-4)),((11,-4),(12,11)),((12,11),(-3,10)),((-3,10),(-4,-3))]:=rfl;rw[this]at hf;simp only[SH,Ti,or_false]at hf;unfold aR;rcases hf with rfl|rfl|rfl|rfl<;>dsimp only<;>lia
theorem Sc{p:ay}(h:h9 p):b3 ((b5 i6).map (d6 p))=true:=by
 have c:=FI h;obtain⟨a,b,d,e⟩:=h;have z:b5 i6=[((-2,-2),(9,-1)),((9,-1),(10,9)),((10,9),(-1,8)),((-1,8),(-2,-2))]:=rfl;rw[z]at c⊢;have bF:=c ((9,-1),(10,9)) (by simp);have eR:=c ((-1,8),(-2,-2)) (by simp);dsimp only at bF eR;simp only[SK,T5,tE];rw[Tk (show ¬p.2 < -2 by lia),Tk (show ¬p.2 < -1 by lia),Tl (show p.2<9 by lia),Tl (show p.2<8 by lia),TT (show p.2<9 by lia),TW (show ¬p.2 < -2 by lia),Tl (show 0<aR (9,-1) (10,9) p by lia),Tk (show ¬aR (-1,8) (-2,-2) p<0 by lia)];rfl
theorem FL{p:ay}(h : -2<=p.1/\p.1<=10 /\ -2<=p.2/\p.2<=9):b3 ((b5 ia).map (d6 p))=true:=by
 have c:=yP h;obtain⟨a,b,d,e⟩:=h;have z:b5 ia=[((-4,-3),(11,-4)),((11,-4),(12,11)),((12,11),(-3,10)),((-3,10),(-4,-3))]:=rfl;rw[z]at c⊢;have bF:=c ((11,-4),(12,11)) (by simp);have eR:=c ((-3,10),(-4,-3)) (by simp);dsimp only at bF eR;simp only[SK,T5,tE];rw[Tk (show ¬p.2 < -3 by lia),Tk (show ¬p.2 < -4 by lia),Tl (show p.2<11 by lia),Tl (show p.2<10 by lia),TT (show p.2<11 by lia),TW (show ¬p.2 < -3 by lia),Tl (show 0<aR (11,-4) (12,11) p by lia),Tk (show ¬aR (-3,10) (-4,-3) p<0 by lia)];rfl
theorem t9{ps:Z6}(h:mI ps=true):gl ps:=(RT ps).mp h
theorem Sd:gl i6:=t9 (by decide +kernel)
theorem Se:gl ia:=t9 (by decide +kernel)
theorem Sf:gl hi:=t9 (by decide +kernel)
theorem FM(ps:Z6)(p:ay):f1 [ps] p=b3 ((b5 ps).map (d6 p)):=UZ _
theorem yQ(ps a9:Z6)(p:ay):f1 [ps,a9] p=(b3 ((b5 ps).map (d6 p)) ^^ b3 ((b5 a9).map (d6 p))):=by
 show(_ ^^ (_ ^^ false))=_
 rw[UZ]
theorem Sg{ps:Z6}(ok:gl ps)(t:0<tw ps)(l:ps.length<=10)(dD:∀p∈ps,h9 p):fO [ps.reverse,i6] where
 n8:=by show 2<=8;decide
 n24:=by show ps.reverse.length+(4+0)<=24;rw[T8];lia
 ring:=λa9 aA=>by
  rcases SH.mp aA with rfl|aA
  ·exact Fv ok
  rw[SP.mp aA];exact Sd
 apart:=Ud.mpr ⟨λa9 aA=>by
  rw[SP.mp aA]
  exact yO λf hf p ak=>FI (dD p (Ui.mp ak)) f hf,UK _ _⟩
 hole:=FH λk hk p ak=>by
  have hk:k<2:=hk;rcases(show k=0\/k=1 by lia)with rfl|rfl
  ·show decide (tw ps.reverse<0)=f1 [i6] p
   rw[FM,Sc (dD p (Ui.mp ak)),Fw,Tl (show -tw ps<0 by lia)]
  show decide (tw i6<0)=f1 [ps.reverse] p
  have ak:p∈i6:=ak;rw[FM,show decide (tw i6<0)=false by decide +kernel];refine(rp ?_).symm;unfold i6 at ak;simp only[SH,Ti,or_false]at ak;rcases ak with rfl|rfl|rfl|rfl
  ·exact .inr λq aA=>by have:=(dD q (Ui.mp aA)).1;show(-2:Int)<q.1;lia
  ·exact .inl λq aA=>by have:=(dD q (Ui.mp aA)).2.1;show q.1<(9:Int);lia
  ·exact .inl λq aA=>by have:=(dD q (Ui.mp aA)).2.1;show q.1<(10:Int);lia
  exact .inr λq aA=>by have:=(dD q (Ui.mp aA)).1;show(-1:Int)<q.1;lia
theorem Sh{ps:Z6}(ok:gl ps)(t:0<tw ps)(l:ps.length<=10)(dD:∀p∈ps,h9 p):fO [ia,ps,hi] where
 n8:=by show 3<=8;decide
 n24:=by show 4+(ps.length+(4+0))<=24;lia
 ring:=λa9 aA=>by
  rcases SH.mp aA with rfl|aA
  ·exact Se
  rcases SH.mp aA with rfl|aA
  ·exact ok
  rw[SP.mp aA];exact Sf
 apart:=by
  have yR:∀p∈hi,-2<=p.1/\p.1<=10 /\ -2<=p.2/\p.2<=9:=by decide
  refine Ud.mpr ⟨λa9 aA=>?_,Ud.mpr ⟨λa9 aA=>?_,UK _ _⟩⟩
  ·rcases SH.mp aA with rfl|aA
   ·exact yH (yO λf hf p ak=>yP (by obtain⟨a,b,c,d⟩:=dD p ak;exact⟨by lia,by lia,by lia,by lia⟩) f hf)
   rw[SP.mp aA];exact yH (yO λf hf p ak=>yP (yR p ak) f hf)
  rw[SP.mp aA];exact Sa λf hf p ak=>FK (dD p ak) f hf
 hole:=FH λk hk p ak=>by
  have hk:k<3:=hk;rcases(show k=0\/k=1\/k=2 by lia)with rfl|rfl|rfl
  ·show decide (tw ia<0)=f1 [ps,hi] p
   have ak:p∈ia:=ak;rw[yQ,show decide (tw ia<0)=false by decide +kernel]
   have j7:b3 ((b5 ps).map (d6 p))=false:=by
    refine rp ?_;unfold ia at ak;simp only[SH,Ti,or_false]at ak;rcases ak with rfl|rfl|rfl|rfl
    ·exact .inr λq aA=>by have:=(dD q aA).1;show(-4:Int)<q.1;lia
    ·exact .inl λq aA=>by have:=(dD q aA).2.1;show q.1<(11:Int);lia
    ·exact .inl λq aA=>by have:=(dD q aA).2.1;show q.1<(12:Int);lia
    exact .inr λq aA=>by have:=(dD q aA).1;show(-3:Int)<q.1;lia
   have lG:b3 ((b5 hi).map (d6 p))=false:=by
    have iC:∀p∈ia,b3 ((b5 hi).map (d6 p))=false:=by decide +kernel
    exact iC p ak
   rw[j7,lG];rfl
  ·show decide (tw ps<0)=f1 [ia,hi] p
   have s:=dD p ak;rw[yQ,FL (by obtain⟨a,b,c,d⟩:=s;exact⟨by lia,by lia,by lia,by lia⟩),Sb s,Tk (show ¬tw ps<0 by lia)];rfl
  show decide (tw hi<0)=f1 [ia,ps] p
  have mH:p∈hi:=ak
  have j7:b3 ((b5 ps).map (d6 p))=false:=by
   refine rp ?_;unfold hi at mH;simp only[SH,Ti,or_false]at mH;rcases mH with rfl|rfl|rfl|rfl
   ·exact .inr λq aA=>by have:=(dD q aA).1;show(-1:Int)<q.1;lia
   ·exact .inl λq aA=>by have:=(dD q aA).2.1;show q.1<(8:Int);lia
   ·exact .inl λq aA=>by have:=(dD q aA).2.1;show q.1<(9:Int);lia
   exact .inr λq aA=>by have:=(dD q aA).1;show(-2:Int)<q.1;lia
  have yR:∀p∈hi,-2<=p.1/\p.1<=10 /\ -2<=p.2/\p.2<=9:=by decide
  rw[yQ,FL (yR p mH),j7,show decide (tw hi<0)=true by decide +kernel];rfl
theorem yS{α:Type}{f:α->D}{cV:cK}{u:a2}{fs:Z3}:∀{xs:List α}{dc:aN}{k:Z7->Prop},(∀x∈xs,∀k:Bool->Prop,(∀b,k b)->cV (.val (f x)::fs) k)->(∀x∈xs,∀k:D->Prop,k (f x)->u (.val (f x)::fs) k)->
  (∀ys:List α,ys.Sublist xs->k (ys.map f))->fv (en 0) cV u (xs.map f) (dc::fs) k
 |[],_,_,_,_,hk=>hk [] (List.Sublist.refl _)
 |x::xs,dc,k,aa,ab,hk=>by
  have cS:∀y∈xs,∀k:Bool->Prop,(∀b,k b)->cV (.val (f y)::fs) k:=λy hy=>aa y (SJ _ hy);have cH:∀y∈xs,∀k:D->Prop,k (f y)->u (.val (f y)::fs) k:=λy hy=>ab y (SJ _ hy);refine aa x SD _ λb=>?_;cases b with
  |true=>
   rw[TT rfl];exact ab x SD _ (yS cS cH λys hy=>hk (x::ys) (hy.cons_cons x))
  |false=>
   rw[TW SN];exact yS cS cH λys hy=>hk ys (hy.cons x)
theorem Si{aS bf:a2}{ρ:Z3}{k:D->Prop}(h:aS ρ λx=>bf ρ λy=>∃ns bB:Z5,x=.tup (ns.map D.int)/\y=.tup (bB.map D.int)/\ns.length=bB.length/\k (.bl (mD ns bB))):xI aS bf ρ k:=h
theorem Sj{w:Int}(bi:1<=w){ys:Z8}(h:ys.Sublist (SA (w-1).toNat))(n:Nat):pf w (0::(ys.take n).map (λt:Nat=>1+(t:Int))++[w]):=by
 have s:(ys.take n).Sublist (SA (w-1).toNat):=(Wa n ys).trans h;have iD:(ys.take n).Pairwise (· < ·):=XZ.sublist s
 have fQ:∀t∈ys.take n,(t:Int)<w-1:=λt bw=>by
  have:=S7.mp (s.mem bw);lia
 generalize ys.take n=zs at *;refine⟨by simp,?_,λ_=>rfl,λ_=>by simp⟩;rw[List.cons_append];refine Ud.mpr ⟨λx hx=>?_,Vj.mpr ⟨Uh.mpr (iD.imp λlt=>by lia),UK _ _,λx hx y hy=>?_⟩⟩
 ·rcases S3.mp hx with hx|hx
  ·obtain⟨t,_,rfl⟩:=SF.mp hx;show(0:Int)<1+(t:Int)
   lia
  rw[SP.mp hx];lia
 obtain⟨t,bw,rfl⟩:=SF.mp hx;have:=fQ t bw;rw[SP.mp hy];show 1+(t:Int)<w
 lia
theorem pf.mem{w:Int}{xs:Z5}(h:pf w xs):∀x∈xs,0<=x/\x<=w:=λx hx=>by
 obtain⟨i,ao,rfl⟩:=UE.mp hx;have p:=T1.mp h.inc;have n2:=h.n2;have a:=h.fst (by lia);have b:=h.lst (by lia);constructor
 ·by_cases c:i=0
  ·subst c;lia
  have:=p 0 i (by lia) ao (by lia);lia
 by_cases c:i=xs.length-1
 ·subst c;lia
 have:=p i (xs.length-1) ao (by lia) (by lia);lia
theorem FN{f g:Z5->Z5->Bool}{ρ:Z3}{i j l m:Nat}{a b c d:ay}{k:D->Prop}(ao:ρ[i]?=some (.val (bT a)))(aQ:ρ[j]?=some (.val (bT b)))(ax:ρ[l]?=some (.val (bT c)))(az:ρ[m]?=some (.val (bT d)))(h:k (bT (b1 f (b1 g a b) (b1 g c d)))):
  nN f (nN g (iW i) (iW j)) (nN g (iW l) (iW m)) ρ k:=by
 refine yB (p:=b1 g a b) (q:=b1 g c d) (λ_ cy=>?_) (λ_ cy=>?_) h
 ·exact yB (p:=a) (q:=b) (λ_ k=>⟨_,ao,k⟩) (λ_ k=>⟨_,aQ,k⟩) cy
 exact yB (p:=c) (q:=d) (λ_ k=>⟨_,ax,k⟩) (λ_ k=>⟨_,az,k⟩) cy
end Cut
namespace Cut
open PySem L2 L3
open PySem.Builtin.Int (intBits)
def gn(n:Int)(p:ay):List Nat:=cL (bM p.1 n).1 (bM p.1 n).2++44::cL (bM p.2 n).1 (bM p.2 n).2
def eB(n:Int)(ps:Z6):List Nat:=gi 32 (ps.map (gn n))
def ju(n:Int)(rs:dC):List Nat:=if rs=[]then[110,111,110,101]else fb 59 32 (rs.map (eB n))
theorem FO{n:Int}(h:0<n)(p:ay):dd ((bM p.1 n).1*(bM p.2 n).2) ((bM p.2 n).1*(bM p.1 n).2) ((bM p.1 n).2*(bM p.2 n).2)=hP n p:=by
 obtain⟨l1,ah,_,_⟩:=jj (t:=p.1) (b:=n) (Sz h);obtain⟨l2,am,_,_⟩:=jj (t:=p.2) (b:=n) (Sz h);obtain⟨q,bv,bJ,_⟩:=gL (a:=p.1) (b:=p.2) (n:=n) (Sz h);have c0:=l1.1;have dc:=l2.1;show _=dd p.1 p.2 n
 generalize(bM p.1 n).1=x at *;generalize(bM p.1 n).2=y at *;generalize(bM p.2 n).1=u at *;generalize(bM p.2 n).2=v at *;generalize dd p.1 p.2 n=r at *;refine(xc q (Sz (SO c0 dc)) ?_ ?_).trans rfl
 ·refine TB (Sz h) ?_;have:r.1*(y*v)*n=(r.1*n)*(y*v):=by grind
  rw[this,bv];have:x*v*r.2.2*n=(x*n)*(v*r.2.2):=by grind
  rw[this,ah];grind
 refine TB (Sz h) ?_;have:r.2.1*(y*v)*n=(r.2.1*n)*(y*v):=by grind
 rw[this,bJ];have:u*y*r.2.2*n=(u*n)*(y*r.2.2):=by grind
 rw[this,am];grind
structure FP(n:Int)(p:ay):Prop where
 l1:eF (bM p.1 n).1 (bM p.1 n).2
 l2:eF (bM p.2 n).1 (bM p.2 n).2
 hx:(bM p.1 n).1.natAbs<1000000000000000000000000000000
 hy:(bM p.1 n).2.natAbs<1000000000000000000000000000000
 hu:(bM p.2 n).1.natAbs<1000000000000000000000000000000
 hv:(bM p.2 n).2.natAbs<1000000000000000000000000000000
theorem pi{n:Int}(h:0<n)(ab:n<=1000000000039){p:ay}(s:dm p):FP n p:=by
 obtain⟨l1,_,dy,b7⟩:=jj (t:=p.1) (b:=n) (Sz h);obtain⟨l2,_,dJ,cr⟩:=jj (t:=p.2) (b:=n) (Sz h);obtain⟨s1,aI,bI,dG⟩:=s;exact⟨l1,l2,by lia,by lia,by lia,by lia⟩
theorem FQ{n:Int}{p:ay}{c:Nat}(h:c∈gn n p):c=44\/c=45\/c=47\/(48<=c/\c<=57):=by
 unfold gn at h;rcases S3.mp h with h|h
 ·rcases xt _ _ _ h with z|z|z
  ·exact .inr (.inl z)
  ·exact .inr (.inr (.inl z))
  exact .inr (.inr (.inr z))
 rcases SH.mp h with h|h
 ·exact .inl h
 rcases xt _ _ _ h with z|z|z
 ·exact .inr (.inl z)
 ·exact .inr (.inr (.inl z))
 exact .inr (.inr (.inr z))
theorem yT{n:Int}{p:ay}(b:FP n p):(gn n p).length<=127:=by
 unfold gn;have aa:=j' b.hx b.hy;have ab:=j' b.hu b.hv;rw[SU,SR];lia
theorem FR{c x:Nat}:∀{ps:age},x∈gi c ps->x=c\/∃p∈ps,x∈p
 |[],h=>by simp[gi]at h
 |[a],h=>.inr ⟨a,SD,h⟩
 |a::b::r,h=>by
  rcases S3.mp (show x∈a++c::gi c (b::r)from h)with h|h
  ·exact .inr ⟨a,SD,h⟩
  rcases SH.mp h with h|h
  ·exact .inl h
  rcases FR h with h|⟨p,ak,h⟩
  ·exact .inl h
  exact .inr ⟨p,SJ _ ak,h⟩
theorem FS{c m:Nat}:∀{ps:age},(∀p∈ps,p.length<=m)->(gi c ps).length<=ps.length*(m+1)
 |[],_=>by simp[gi]
 |[a],h=>by
  have:=h a SD;show a.length<=1*(m+1)
  lia
 |a::b::r,h=>by
  have aa:=h a SD;have ab:=FS (c:=c) (ps:=b::r) λp ak=>h p (SJ _ ak);show(a++c::gi c (b::r)).length<=_
  rw[SU,SR,SR,Xc];lia
theorem FT{c d m:Nat}:∀{ps:age},(∀p∈ps,p.length<=m)->(fb c d ps).length<=ps.length*(m+2)
 |[],_=>by simp[fb]
 |[a],h=>by
  have:=h a SD;show a.length<=1*(m+2)
  lia
 |a::b::r,h=>by
  have aa:=h a SD;have ab:=FT (c:=c) (d:=d) (ps:=b::r) λp ak=>h p (SJ _ ak);show(a++c::d::fb c d (b::r)).length<=_
  rw[SU,SR,SR,SR,Xc];lia
theorem Sk{n:Int}{ps:Z6}:59∉eB n ps:=λh=>by
 rcases FR h with h|⟨q,aA,h⟩
 ·cases h
 obtain⟨p,_,rfl⟩:=SF.mp aA;rcases FQ h with z|z|z|z<;>lia
theorem Sl{n:Int}{p:ay}:32∉gn n p:=λh=>by
 rcases FQ h with z|z|z|z<;>lia
theorem Sm{n:Int}{ps:Z6}(h:ps≠[]):44∈eB n ps:=by
 cases ps with
 |nil=>exact absurd rfl h
 |cons p r=>
  have c:44∈gn n p:=by unfold gn;simp
  cases r with
  |nil=>exact c
  |cons q r=>exact U6 _ c
theorem Sn{n:Int}{rs:dC}(h:rs≠[])(ab:∀ps∈rs,ps≠[]):ju n rs≠[110,111,110,101]:=λe=>by
 unfold ju at e;rw[TW h]at e;cases rs with
 |nil=>exact h rfl
 |cons ps r=>
  have c:=Sm (n:=n) (ab ps SD)
  have:44∈fb 59 32 ((ps::r).map (eB n)):=by
   cases r with
   |nil=>exact c
   |cons q r=>exact U6 _ c
  rw[e]at this;exact absurd this (by decide)
theorem ua{sep:Str}{xs:af9}(h:(xs.map λx=>x.length+sep.length).sum<=100000):ZY sep xs=true:=by
 have go:∀(l:af9)(a:Nat),l.foldl (λa x=>a+x.length+sep.length) a=a+(l.map λx=>x.length+sep.length).sum:=by
  intro l;induction l with
  |nil=>intro a;simp
  |cons x l b2=>intro a;rw[UY,b2,SK,S5];lia
 unfold ZY;rw[List.foldl_toArray,go];have gf:100000<=TI:=by decide
 unfold Builtin.Str.tooLong;simp;lia
theorem rq{α:Type}{f:α->Nat}{m:Nat}:∀{l:List α},(∀x∈l,f x<=m)->(l.map f).sum<=l.length*m
 |[],_=>by simp
 |x::l,h=>by
  have aa:=h x SD;have ab:=rq (l:=l) λy hy=>h y (SJ _ hy);rw[SK,S5,SR,Xc];lia
theorem ub{n:Int}(bK:0<n)(bx:n<=1000000000039){ps:Z6}(h:ps.length<=24)(s:∀p∈ps,dm p):(eB n ps).length<=3072:=by
 have:=FS (c:=32) (m:=127) (ps:=ps.map (gn n)) λq aA=>by
  obtain⟨p,ak,rfl⟩:=SF.mp aA;exact yT (pi bK bx (s p ak))
 rw[Sw]at this;unfold eB;lia
theorem FU{n:Int}:∀ps:Z6,flats (ps.map λp=>bo (hP n p))=true
 |[]=>rfl
 |p::r=>by
  rw[SK,flats,FU r];rfl
theorem FV(c:Nat)(ps:age):Txt.join (S [c]) (ps.map S)=S (gi c ps):=(StrLaws.glued_eq_join _ _).trans (yu c ps)
theorem FW(c d:Nat)(ps:age):Txt.join (S [c,d]) (ps.map S)=S (fb c d ps):=(StrLaws.glued_eq_join _ _).trans (yx c d ps)
theorem FX:∀xs:af9,has (.L .S) (.lst (xs.map D.str))=true
 |[]=>rfl
 |x::r=>by
  have:=FX r;simp[has]at this⊢
  try exact this
theorem yU{α:Type}(f:α->D):∀l:List α,((l.map f).zip (l.map f)).map (λp=>D.tup [p.1,p.2])=l.map λe=>D.tup [f e,f e]
 |[]=>rfl
 |x::l=>by
  rw[SK,VO,SK,yU f l];rfl
theorem So{n:Int}(h:0<n){rs:dC}(c:fO rs):((rs.map λps=>ps.map (hP n)).map cq).Nodup:=by
 rw[SI];unfold S6;refine Uh.mpr (c.apart.imp_of_mem λ{a b} iT fQ ap e=>?_)
 have inj:∀{x y:Z6},x.map (hP n)=y.map (hP n)->x=y:=λ{x y} e=>by
  refine X9 (f:=hP n) (λp q e=>yz h e) |>.mp e
 have Sp:∀{x y:Z9},cq x=cq y->x=y:=λ{x y} e=>X9 (f:=bo) (λp q e=>qw e) |>.mp (D.lst.inj e)
 have am:a=b:=inj (Sp e);subst am;have gd:=(c.ring a iT).1;have gU:(rng a (0:Nat),rng a (((0:Nat):Int)+1))∈b5 a:=RV.mpr ⟨0,by lia,rfl⟩;have t:=ap _ gU _ gU;dsimp only at t
 have o:cW (rng a (0:Nat)) (rng a (((0:Nat):Int)+1)) (rng a (0:Nat))=true:=by
  unfold cW aR;rw[Te,decide_eq_true_eq,decide_eq_true_eq];constructor<;>grind
 unfold dU at t;rw[o]at t;simp at t
theorem Sq{rs:dC}(c:fO rs)(a b:Int):fO (rs.map λps=>ps.map (de a b)):=by
 have:=fO.alk (g:=de a b) (Ft a b) (zs:=rs.map λps=>(ps,ps.map (de a b))) (by rw[SI];exact(WR rs).symm▸c) λz hz=>by
  obtain⟨ps,_,rfl⟩:=SF.mp hz;exact yK a b ps
 rwa[SI]at this
theorem Sr{rs:dC}(c:fO rs)(s:∀ps∈rs,∀p∈ps,dm p):∀ps∈rs,(3<=ps.length/\ps.length<=24)/\∀p∈ps,dm p:=λps ak=>
 ⟨⟨(c.ring ps ak).1,SE (q3 (SF.mpr ⟨ps,ak,rfl⟩)) c.n24⟩,s ps ak⟩
end Cut
namespace L3
open PySem L2
section
variable{X:a1}
theorem ei(i:Nat){x:Str}{n:Int}{j:Nat}{bc aW fN:Pos}(bU:jx X i x:=by rfl)(hv:ie X.env.scope x:=by walk_at"v")(hd:eC x:=by decide)(ee:iK x:=by decide):aV X (.Subscript (.Name x bc) (.Constant (.int n) j aW) fN) (AY (iW i) (kA (.int n))):=gr (ag i bU hv hd ee) aZ (λ_ _=>rfl)
theorem cC(i:Nat){x:Str}{e:WP}{u:a2}{pos fR:Pos}(bU:X.N.Nodup)(aF:aV X e u)(ao:jx X i x:=by rfl)(hx:Loc X.env.scope x:=by exact SQ rfl)(av:Yu e (some (.Name x fR)) pos.line X.env=pure false:=by rfl)(hf:i' X x:=by walk_at"f"):e9 X (.Assign [.Name x fR] e pos) (A6 i u):=sw bU ao hx aF av hf
theorem cO(i:Nat){x:Str}{pos:Pos}(bU:X.N.Nodup)(ao:jx X i x:=by rfl)(hx:Loc X.env.scope x:=by exact SQ rfl)(hf:i' X x:=by walk_at"f"):io X (.Name x pos) (en i):=fX bU ao hx hf
theorem bj{n:Nat}{F:b4}{w:hU}{e:WP}{aD:agb}{p pos:Pos}{x:Str}{ps:af9}{j lv:Nat}(c:aX X.prog X.w X.K X.mg X.base x ps j (aY X.K n F))(au:eZ lv X.A)(aq:kz X (e::aD) w)(aJ:c2 X x:=by rfl)(jH:j<=lv:=by decide)(gR:eC x:=by decide)(aF:dE X e aD:=by rfl)(eE:hl X pos aD:=by rfl):aV X (.Call (.Name x p) (e::aD) [] pos) (A2 n F w):=Km c au aJ aq jH gR aF eE
end
end L3
namespace Cut
open PySem L2 L3
open PySem.Builtin.Int (intBits)
structure cm(mg:Str->Option SL):Prop where
 len_:mg "len"=none
 abs_:mg "abs"=none
 int_:mg "int"=none
 bool_:mg "bool"=none
 tuple_:mg "tuple"=none
 isinstance_:mg "isinstance"=none
 range_:mg "range"=none
 all_:mg "all"=none
 sum_:mg "sum"=none
 list_:mg "list"=none
 ValueError_:mg "ValueError"=none
 zip_:mg "zip"=none
 str_:mg "str"=none
 enumerate_:mg "enumerate"=none
 set_:mg "set"=none
 max_:mg "max"=none
 min_:mg "min"=none
 sorted_:mg "sorted"=none
 dict_:mg "dict"=none
local macro_rules | `(tactic| walk_at"bu") => `(tactic| first | assumption | exact ZC (by walk_at"bu") (by walk_at"bu") | exact YB (by walk_at"bu") (by walk_at"bu") | exact UV (by walk_at"bu") (by walk_at"bu") | exact YD (by walk_at"bu") | exact intBits_fdiv_le (by walk_at"bu") | exact lc (by omega) (by omega) | fail)
local macro_rules | `(tactic| walk_at"bits") => `(tactic| ((with_reducible show T0 _ ≤ _); first | assumption | exact SE (lc (by omega) (by omega)) (by decide) | decide +kernel | exact SE (by walk_at"bu") (by first | omega | decide) | fail))
local macro_rules | `(tactic| walk_at"sd") => `(tactic| first | ((with_reducible show T0 _ ≤ _); walk_at"bits") | ((with_reducible show pO _ _); exact ⟨by walk_at"bits", by walk_at"bits"⟩) | ((with_reducible show wg _ _); exact ⟨by omega, by walk_at"bits"⟩) | ((with_reducible show (_ : Int) < _); first | omega | decide +kernel) | ((with_reducible show (_ : Int) ≤ _); first | omega | decide +kernel) | ((with_reducible show vT _ _); exact ⟨by decide, by decide, by decide⟩) | ((with_reducible show S' _ ≤ TI); first | (show 2 ≤ TI; decide) | (show 3 ≤ TI; decide) | (show 1 ≤ TI; decide) | (show 0 ≤ TI; decide) | (show 4 ≤ TI; decide)) | fail)
local macro_rules | `(tactic| walk_at"w1") => `(tactic| first | refine ⟨_, rfl, ?_⟩ | refine ⟨_, _, rfl, rfl, ?_⟩ | refine ⟨_, _, rfl, rfl, by walk_at"sd", ?_⟩ | refine ⟨_, _, _, .inl rfl, rfl, rfl, ?_⟩ | refine ⟨_, _, _, .inr rfl, rfl, rfl, ?_⟩ | refine ⟨_, _, rfl, fun _ => rfl, ?_⟩ | refine ⟨by walk_at"sd", ?_⟩ | refine ⟨rfl, ?_⟩)
local macro_rules | `(tactic| walk_at"w") => `(tactic| repeat walk_at"w1")
local macro_rules | `(tactic| walk_at"wd") => `(tactic| (walk_at"w"; try dsimp only [eI]))
local macro_rules | `(tactic| walk_at"it") => `(tactic| first | exact .inl (by assumption) | exact .inr (by assumption))
local macro_rules | `(tactic| walk_at"r0") => `(tactic| repeat (first | refine ⟨_, rfl, ?_⟩ | refine ⟨_, _, rfl, rfl, ?_⟩ | refine ⟨_, _, _, _, rfl, rfl, by walk_at"it", rfl, ?_⟩ | refine ⟨by walk_at"sd", ?_⟩))
local macro_rules | `(tactic| walk_at"rd") => `(tactic| (walk_at"r0"; try dsimp only))
local macro_rules | `(tactic| walk_at"fall") => `(tactic| first | exact Tr.mpr ⟨rfl, by walk_at"fall"⟩ | exact Tb _)
local macro_rules | `(tactic| walk_at"fal2") => `(tactic| first | exact Tb _ | exact Tr.mpr ⟨fun h => absurd h (by decide), by walk_at"fal2"⟩ | exact Tr.mpr ⟨fun _ => ⟨_, rfl⟩, by walk_at"fal2"⟩)
local macro_rules | `(tactic| walk_at"fsub") => `(tactic| exact gc (by walk_at"fall"))
local macro_rules | `(tactic| walk_at"fhas") => `(tactic| exact afT (by walk_at"fal2"))
local macro_rules | `(tactic| walk_at"ffr") => `(tactic| (intro i y e; rcases i with _ | _ | _ | _ | _ | i <;> first | (cases e; done) | (cases e; exact ⟨_, rfl, rfl, rfl, SQ rfl, _, rfl⟩)))
local macro_rules | `(tactic| walk_at"sc") => `(tactic| exact ⟨rfl, rfl, rfl, by decide +kernel, rfl, by decide +kernel, by decide +kernel⟩)
local macro_rules | `(tactic| walk_at"b1") => `(tactic| exact fun _ _ F => F.binds (fa fun _ _ _ _ _ _ _ => rfl))
local macro_rules | `(tactic| walk_at"b2") => `(tactic| exact fun _ _ F => F.binds (fM fun _ _ _ _ _ _ _ _ => rfl))
local macro_rules | `(tactic| walk_at"b3") => `(tactic| exact fun _ _ F => F.binds (kI fun _ _ _ _ _ _ _ _ _ => rfl))
local macro_rules | `(tactic| walk_at"b4") => `(tactic| exact fun _ _ F => F.binds (Cy fun _ _ _ _ _ _ _ _ _ _ => rfl))
variable{P:UF}{w:Yd}{K:Sx}{mg:Str->Option SL}{base:Yn}
abbrev FnT(N:List Str)(k:Nat)(s:Scope):=cb N (N.take k) s
theorem Ss:FnT ["_law_script","_law_k"] 2 (bR u'):=by walk_at"sc"
theorem Su(B:cm mg)(F:cd K mg "_law_cell" u' ["_law_script","_law_k"]):
  aX P w K mg base "_law_cell" ["_law_script","_law_k"] 1 (aY K 2 wI):=by
 refine aX.imp (sp:=Bq K) ?_ (λvs H Q E h=>Lc h);refine F.ok (k:=0) Ss (λvs H Q E h=>?_) (λf cdv A outer s H vs Q E au h=>?_)
 ·obtain⟨a,k,ns,rfl,dH,bi,q⟩:=h;rfl
 obtain⟨a,k,ns,rfl,dH,bi,q⟩:=h;refine⟨_,(iM (mT (mW hA (cD 1) (ku v7 (by rfl) B.len_ (by decide +kernel) (di (cD 0) d9)) (ck _)) (km (jz (lb Ad (cD 0) (cD 1) (λ_ _=>rfl)))) mS) (km (jz eO))),?_⟩;refine⟨_,rfl,_,rfl,a,_,rfl,.inl dH,_,_,rfl,rfl,_,rfl,?_⟩;refine dr (λc=>?_) (λc=>?_)
 ·rw[Sw]at c;have hk:k.toNat<ns.length:=by lia
  have nU:k=((k.toNat:Nat):Int):=by lia
  have z:ea (ns.map V.int) ((k.toNat:Nat):Int)=some (.int ns[k.toNat]):=OU (by rw[S1,SS hk]<;>rfl);rw[<-nU]at z;exact⟨_,rfl,_,rfl,a,_,_,_,rfl,rfl,dH,z,q _⟩
 exact q _
theorem Sv:FnT ["_law_cell_here"] 1 (bR va):=by walk_at"sc"
theorem aaa(B:cm mg)(F:cd K mg "_law_bag" va ["_law_cell_here"]):
  aX P w K mg base "_law_bag" ["_law_cell_here"] 1 (aY K 1 wJ):=by
 refine aX.imp (sp:=Br) ?_ (λvs H Q E h=>Ld h);refine F.ok (k:=0) Sv (λvs H Q E h=>?_) (λf cdv A outer s H vs Q E au h=>?_)
 ·obtain⟨c,rfl,q⟩:=h;rfl
 obtain⟨c,rfl,q⟩:=h;refine⟨_,(iM (mT (mW zV (cD 0) (e8 zU eO eO) (ck _)) (km (jz (r1 (di (cD 0) (di (e8 l8 (cD 0) eO) d9))))) mS) (km (jz (r1 (di eO (di (e8 l8 (e8 rY (e8 sb (e8 l8 (cD 0) eO) eO) eO) eO) d9)))))),?_⟩;walk_at"rd";have aab:(10:Int)^((18:Int).toNat)=1000000000000000000:=rfl;refine dr (λg=>?_) (λg=>?_)
 ·rw[aab]at g;walk_at"rd";refine(λp ak=>q p _ _ ak (by lia) ?_ ?_)
  ·exact TF _ (by decide)
  exact TG _ (by decide)
 have dY:=TF c (show(2147483647:Int)≠0 by decide);have m1:=TG c (show(0:Int)<2147483647 by decide);walk_at"rd";refine(λp ak=>q p _ _ ak (by decide) ?_ ?_)
 ·exact TF _ (by decide)
 exact TG _ (by decide)
theorem FY:FnT ["_law_bag_here","_law_many","_law_found"] 2 (bR vb):=by walk_at"sc"
theorem aac(B:cm mg)(F:cd K mg "_law_draw" vb ["_law_bag_here","_law_many"]):
  aX P w K mg base "_law_draw" ["_law_bag_here","_law_many"] 1 (aY K 2 (lx 400)):=by
 refine aX.imp (sp:=Bs 400) ?_ (λvs H Q E h=>Le h);refine F.ok (k:=0) FY (λvs H Q E h=>?_) (λf cdv A outer s H vs Q E au h=>?_)
 ·obtain⟨b,m,rfl,⟨x,y,ae,x0,c0,cP⟩,dY,m1,q⟩:=h;rfl
 obtain⟨b,m,rfl,⟨x,y,ae,x0,c0,cP⟩,dY,m1,q⟩:=h;refine⟨_,(iM (mT (mW mV (lb m5 (cD 0) eO (λ_ _=>rfl)) eO (ck _)) (iM (pD (i:=2) FY.nd rfl (SQ rfl) (e8 l8 (lb m5 (cD 0) eO (λ_ _=>rfl)) (cD 1))) (iM (vI (e8 sc (lb m5 (cD 0) eO (λ_ _=>rfl)) (cD 1)) (zO (cD 0) eO Ae)) (km (jz (cD 2))))) mS) (iM (vI (e8 l8 (e8 rY (e8 sb (lb m5 (cD 0) eO (λ_ _=>rfl)) eO) eO) eO) (zO (cD 0) eO Ae)) (km (jz (e8 l8 (e8 sc (e8 l8 (e8 sb (lb m5 (cD 0) eO (λ_ _=>rfl)) (e8 rY (e8 sc (lb m5 (cD 0) eO (λ_ _=>rfl)) eO) eO)) eO) eO) (cD 1)))))),?_⟩;walk_at"rd";refine dr (λg=>?_) (λg=>?_)
 ·walk_at"rd";refine⟨b,_,_,_,rfl,rfl,ae,rfl,?_⟩;refine⟨_,rfl,?_⟩;refine q _ _ (pR.upd b H _) ⟨_,_,eo,?_,c0,cP⟩ (TF _ (by lia)) (TG _ dY);exact Int.fdiv_nonneg x0 (Tq dY)
 have m2:=TF (y*48271+4099) (show(2147483647:Int)≠0 by decide);have im:=TG (y*48271+4099) (show(0:Int)<2147483647 by decide);walk_at"rd";refine⟨b,_,_,_,rfl,rfl,ae,rfl,?_⟩;generalize(y*48271+4099)%2147483647=z at m2 im⊢;have o8:(upd H b (.lst ([V.int x,V.int y].set 1 (V.int z)))) b=some (.lst [.int x,.int z]):=eo;have mf:=Int.ediv_nonneg m2 (show(0:Int)<=65536 by decide);have cy:z/65536<=z:=Int.ediv_le_self _ m2;have nU:Int.fdiv z 65536=z/65536:=Int.fdiv_eq_ediv_of_nonneg z (by decide);have nt:T0 (Int.fdiv z 65536+7)<=64:=by rw[nU];exact lc (by lia) (by lia)
 walk_at"rd";refine q _ _ (pR.upd b H _) ⟨_,_,o8,x0,m2,im⟩ (TF _ (by lia)) (TG _ dY)
theorem pj:FnT ["_law_one","_law_two","_law_rest"] 2 (bR vc):=by walk_at"sc"
def yV  : b4:=λas k=>∃(a b:Int),as=[.val (.int a),.val (.int b)]/\k (.val (.int (Sy a b:Nat)))
theorem aad(B:cm mg)(F:cd K mg "_law_gcd" vc ["_law_one","_law_two"])  :
  aX P w K mg base "_law_gcd" ["_law_one","_law_two"] 2 (aY K 2 yV):=by
 refine cz F pj rfl (λ_ _ _ _ _ _ _ au=>⟨_,(bb (cC 0 pj.nd (p1 (ag 0) (by rfl) B.abs_)) (bb (cC 1 pj.nd (p1 (ag 1) (by rfl) B.abs_)) (bb (wA PassesOwn.never (dI (f:=λi j=>decide (j<i)) mV (ag 1) aZ (ck _)) (bb (cC 2 pj.nd (sq (ag 0) (ag 1))) (bb (cC 0 pj.nd (ag 1)) (bn (cC 1 pj.nd (ag 2)))))) (bn (bO (ag 0)))))),?_⟩);rintro as k ax ⟨a,b,rfl,hk⟩;refine cj rfl ?_;walk_at"wd";refine⟨λm ρ=>∃(x y:Int)(v:aN),ρ=[.val (.int x),.val (.int y),v]/\0<=x/\0<=y/\Sy x y=Sy a b/\m=y.toNat,⟨_,_,_,_,rfl,?_,?_,Av a b,rfl⟩,?_⟩
 ·split<;>lia
 ·split<;>lia
 rintro m ρ ⟨x,y,v,rfl,x0,c0,aJ,rfl⟩;walk_at"wd";refine dr (λg=>?_) (λg=>?_)
 ·walk_at"wd";have dY:=TF x (show y≠0 by lia);have m1:=TG x g;exact⟨_,by lia,_,_,_,rfl,c0,dY,by rw[Au x0 g];exact aJ,rfl⟩
 have e:y=0:=by lia
 subst e;refine⟨_,rfl,?_⟩;rw[<-Aw x0,aJ];exact hk
theorem FZ:FnT ["_law_top","_law_bottom_here","_law_both"] 2 (bR vd):=by walk_at"sc"
def F0  : b4:=λas k=>∃(t b:Int),as=[.val (.int t),.val (.int b)]/\(0<b)/\(T0 b<=9000)/\k (.val (bT (bM t b)))
theorem aae(B:cm mg)(F:cd K mg "_law_lowest" vd ["_law_top","_law_bottom_here"])(uc:aX P w K mg base "_law_gcd" ["_law_one","_law_two"] 2 (aY K 2 yV)):
  aX P w K mg base "_law_lowest" ["_law_top","_law_bottom_here"] 3 (aY K 2 F0):=by
 refine cz F FZ rfl (λ_ _ _ _ _ _ _ au=>⟨_,(bb (c7 (dI (f:=λi j=>decide (i<j)) hA (ag 1) aZ (ck _)) A8 c6) (bb (cC 2 FZ.nd (bj uc au (aH (ag 0) (aH (ag 1) bg)))) (bn (bO (da (ba (eG (ag 0) (ag 2)) (ba (eG (ag 1) (ag 2)) cc))))))),?_⟩);rintro as k ax ⟨t,b,rfl,ae,o5,hk⟩;refine cj rfl ?_;have fh:=mb (t:=t) (b:=b) (by lia);have gQ:=kE (a:=t) (b:=b) (by lia) o5;have e:ji t b=((Sy t b:Nat):Int):=by unfold ji;rw[TW (by lia)]
 have hk:k (.val (.tup [.int (t.fdiv ((Sy t b:Nat):Int)),.int (b.fdiv ((Sy t b:Nat):Int))])):=by
  have h:=hk;unfold bT bM at h;rwa[e]at h
 walk_at"wd";refine dr (λg=>absurd g (by lia)) (λ_=>?_);walk_at"w";refine⟨_,_,rfl,?_⟩;walk_at"w";exact hk
theorem aaf:FnT ["_law_found"] 1 (bR ve):=by walk_at"sc"
def F1  : b4:=λas k=>∃(i:Int),as=[.val (.int i)]/\k (.val (.bl true))
theorem aag(B:cm mg)(F:cd K mg "_law_whole" ve ["_law_found"])  :
  aX P w K mg base "_law_whole" ["_law_found"] 2 (aY K 1 F1):=by
 refine cz F aaf rfl (λ_ _ _ _ _ _ _ au=>⟨_,(bn (bO (m9 (p2 (T:="int") (ag 0) (by rfl) B.isinstance_ (pA (v:=.ty "int") (u:=.type "int") (by rfl) B.int_ (by decide +kernel) rfl) rfl rfl rfl) (lm (AU (p2 (T:="bool") (ag 0) (by rfl) B.isinstance_ (pA (v:=.ty "bool") (u:=.type "bool") (by rfl) B.bool_ (by decide +kernel) rfl) rfl rfl rfl)))))),?_⟩);rintro as k ax ⟨i,rfl,hk⟩;refine cj rfl ?_;refine⟨_,rfl,_,_,rfl,λ_=>rfl,_,rfl,Ar ?_⟩;exact⟨_,rfl,_,_,rfl,λ_=>rfl,_,rfl,hk⟩
theorem aah:FnT ["_law_found","_law_due"] 2 (bR vf):=by walk_at"sc"
def F2  : b4:=λas k=>∃(xs ys:Z5),as=[.val (.tup (xs.map .int)),.val (.tup (ys.map .int))]/\(xs.length=ys.length)/\(xs.length<=3)/\k (.val (.bl (eqD (.tup (xs.map .int)) (.tup (ys.map .int)))))
theorem aai(B:cm mg)(F:cd K mg "_law_same" vf ["_law_found","_law_due"])(aaj:aX P w K mg base "_law_whole" ["_law_found"] 2 (aY K 1 F1)):
  aX P w K mg base "_law_same" ["_law_found","_law_due"] 3 (aY K 2 F2):=by
 refine cz F aah rfl (λ_ _ _ _ _ _ _ au=>⟨_,(bb (c7 (iX (w_or (jf (fI (p2 (T:="tuple") (ag 0) (by rfl) B.isinstance_ (pA (v:=.ty "tuple") (u:=.type "tuple") (by rfl) B.tuple_ (by decide +kernel) rfl) rfl rfl rfl))) (lj (dI (f:=λi j => !decide (i=j)) pP (ip (ag 0) (by rfl) B.len_) (ip (ag 1) (by rfl) B.len_) (ck _))))) (bn (bO fj)) c6) (bn (bO (m9 (BL (c' (jZ (ts:=["_law_number"]) (fr:=[]) (js:=[]) (KJ (ag 0)) (λ_ _ _ _=>(fX (i:=0) (show S6 (["_law_number"]:af9) by decide +kernel) rfl (SQ rfl))) (λ_ _ _ _=>g4) (λ_ _ _ _=>(bj aaj au (aH (ag 0) bg))) ⟨rfl,by decide +kernel,rfl,by decide +kernel,gc (Tb _),gs rfl,by walk_at"ffr",rfl⟩)) rfl (by rfl) B.all_) (lm (Bo (au.units) (ag 0) (ag 1) (ck _))))))),?_⟩);rintro as k ax ⟨xs,ys,rfl,lu,gd,hk⟩;refine cj rfl ?_;refine sL (λN be=>?_) ?_
 ·refine⟨_,rfl,_,_,rfl,λ_=>rfl,_,rfl,JK ?_⟩;refine⟨_,rfl,_,rfl,_,rfl,_,rfl,_,_,rfl,rfl,_,rfl,?_⟩;exact pQ (λn=>absurd (by rw[Sw,Sw,lu]) n) (λ_=>be)
 refine⟨_,rfl,_,rfl,by rw[Sw];exact ki gd,?_⟩;refine ix (f:=D.int) (h:=λ_=>.bl true) (fs:=[]) (λr au i7 ri=>⟨_,rfl,rfl,r,rfl,ri⟩) ?_;refine⟨_,rfl,λd hd=>?_,_,rfl,Ar ?_⟩
 ·obtain⟨_,_,rfl⟩:=SF.mp hd;rfl
 refine⟨_,rfl,_,rfl,.T (xs.map λ_=>.I),?_,?_,?_,hk⟩
 ·simp only[has];exact BM xs
 ·simp only[has];exact BN lu
 simp only[gJ,BO];decide
theorem yW:FnT ["_law_a","_law_b","_law_n","_law_both"] 3 (bR vg):=by walk_at"sc"
def F3  : b4:=λas k=>∃(a b n:Int),as=[.val (.int a),.val (.int b),.val (.int n)]/\(n≠0)/\(T0 n<=9000)/\k (.val (bo (dd a b n)))
theorem aak(B:cm mg)(F:cd K mg "_law_point" vg ["_law_a","_law_b","_law_n"])(uc:aX P w K mg base "_law_gcd" ["_law_one","_law_two"] 2 (aY K 2 yV)):
  aX P w K mg base "_law_point" ["_law_a","_law_b","_law_n"] 3 (aY K 3 F3):=by
 refine cz F yW rfl (λ_ _ _ _ _ _ _ au=>⟨_,(bb (cC 3 yW.nd (bj uc au (aH (bj uc au (aH (ag 0) (aH (ag 2) bg))) (aH (ag 1) bg)))) (bb (c7 (dI (f:=λi j=>decide (i<j)) hA (ag 2) aZ (ck _)) (bn (cC 3 yW.nd (e' (ag 3)))) c6) (bn (bO (da (ba (eG (ag 0) (ag 3)) (ba (eG (ag 1) (ag 3)) (ba (eG (ag 2) (ag 3)) cc)))))))),?_⟩);rintro as k ax ⟨a,b,n,rfl,aG,i5,hk⟩;refine cj rfl ?_;walk_at"w";refine⟨_,_,rfl,?_⟩;walk_at"w";refine⟨_,_,rfl,?_⟩;dsimp only[eI];have fh:=L' (a:=a) (b:=b) aG;have gQ:=Ma (a:=a) (b:=b) aG i5;rw[L9 a b n];refine eJ (λρ=>ρ=[.val (.int a),.val (.int b),.val (.int n),.val (.int (j3 a b n))]) ?_ (λN be=>?_)
 ·rintro ρ rfl;have g8:j3 a b n≠0:=by unfold j3;split<;>lia
  have yX:T0 (j3 a b n)<=9000:=by
   unfold j3;split
   ·exact YD gQ
   exact gQ
  walk_at"w";exact hk
 walk_at"wd";refine dr (λg=>?_) (λg=>?_)
 ·walk_at"w";refine be _ ?_;unfold j3;rw[TT g];rfl
 refine be _ ?_;unfold j3;rw[TW g];rfl
theorem aal:FnT ["_law_o","_law_p","_law_q"] 3 (bR vh):=by walk_at"sc"
def yY  : b4:=λas k=>∃(o p q:Int×Int),as=[.val (bT o),.val (bT p),.val (bT q)]/\(dm o)/\(dm p)/\(dm q)/\k (.val (.int ((p.1-o.1)*(q.2-o.2)-(p.2-o.2)*(q.1-o.1))))
theorem aam(B:cm mg)(F:cd K mg "_law_cross" vh ["_law_o","_law_p","_law_q"])  :
  aX P w K mg base "_law_cross" ["_law_o","_law_p","_law_q"] 2 (aY K 3 yY):=by
 refine cz F aal rfl (λ_ _ _ _ _ _ _ au=>⟨_,(bn (bO (dQ (c5 (dQ (ei 1) (ei 0)) (dQ (ei 2) (ei 0))) (c5 (dQ (ei 1) (ei 0)) (dQ (ei 2) (ei 0)))))),?_⟩);rintro as k ax ⟨o,p,q,rfl,aan,sp,dD,hk⟩;refine cj rfl ?_;obtain⟨j7,lG,afU,ye⟩:=aan;obtain⟨bc,aW,fN,lJ⟩:=sp;obtain⟨aB,aL,cv,fe⟩:=dD;walk_at"w";exact hk
theorem aao:FnT ["_law_ring"] 1 (bR vi):=by walk_at"sc"
def F4  : b4:=λas k=>∃(ps:List (Int×Int)),as=[.val (.lst (ps.map bT))]/\(ps.length<=75)/\(∀p∈ps,jp p)/\k (.val (.int (tw ps)))
theorem aap(B:cm mg)(F:cd K mg "_law_twice" vi ["_law_ring"])  :
  aX P w K mg base "_law_twice" ["_law_ring"] 2 (aY K 1 F4):=by
 refine cz F aao rfl (λ_ _ _ _ _ _ _ au=>⟨_,(bn (bO (Bc (c' (jZ (ts:=["_law_k"]) (fr:=["_law_ring"]) (js:=[0]) (p6 (ip (ag 0) (by rfl) B.len_) (by rfl) B.range_) (λ_ _ _ _=>(fX (i:=0) (show S6 (["_law_k","_law_ring"]:af9) by decide +kernel) rfl (SQ rfl))) (λ_ _ _ _=>g4) (λ_ _ _ _=>(dQ (c5 (gr (gr (ag 1) (dQ (ag 0) aZ) (λ_ _=>rfl)) aZ (λ_ _=>rfl)) (gr (gr (ag 1) (ag 0) (λ_ _=>rfl)) aZ (λ_ _=>rfl))) (c5 (gr (gr (ag 1) (ag 0) (λ_ _=>rfl)) aZ (λ_ _=>rfl)) (gr (gr (ag 1) (dQ (ag 0) aZ) (λ_ _=>rfl)) aZ (λ_ _=>rfl))))) ⟨rfl,by decide +kernel,rfl,by decide +kernel,gc (Tr.mpr ⟨rfl,(Tb _)⟩),gs rfl,by walk_at"ffr",rfl⟩)) rfl (by rfl) B.sum_))),?_⟩);rintro as k ax ⟨ps,rfl,ax,av,hk⟩;refine cj rfl ?_;have len:(ps.map bT).length=ps.length:=Sw ..;refine⟨_,rfl,_,rfl,_,rfl,by lia,by rw[len];lia,by rw[Sw,T9,len];exact SE (show((ps.length:Nat):Int).toNat<=75 by lia) (by decide),?_⟩;rw[len,show((ps.length:Nat):Int).toNat=ps.length by lia];refine ix (f:=λi:Nat=>D.int i) (h:=λi:Nat=>D.int (e2 (rng ps ((i:Int)-1)) (rng ps i))) (rs:=SA ps.length) ?_ ?_
 ·intro i ao k hk;have ao:=S7.mp ao;have pk:=lQ (ps:=ps) (i:=(i:Int)-1) (by lia) (by lia);have gQ:=lQ (ps:=ps) (i:=(i:Int)) (by lia) (by lia);obtain⟨bc,aW,fN,lJ⟩:=av _ pk.2;obtain⟨aB,aL,cv,fe⟩:=av _ gQ.2;refine⟨_,rfl,_,rfl,_,_,rfl,rfl,_,_,_,.inr rfl,rfl,pk.1,_,_,_,.inl rfl,rfl,rfl,?_⟩;refine⟨_,rfl,_,rfl,_,_,_,.inr rfl,rfl,gQ.1,_,_,_,.inl rfl,rfl,rfl,?_⟩;have F5:∀a b:Int,-200<=a->a<=200 -> -200<=b->b<=200->pO a b:=λa b aa ab a' bG=>⟨SE (lc (by lia) (by lia)) (by decide),SE (lc (by lia) (by lia)) (by decide)⟩;refine⟨_,_,rfl,rfl,F5 _ _ bc aW cv fe,?_⟩;refine⟨_,rfl,_,rfl,_,_,_,.inr rfl,rfl,gQ.1,_,_,_,.inl rfl,rfl,rfl,?_⟩;refine⟨_,rfl,_,rfl,_,_,rfl,rfl,_,_,_,.inr rfl,rfl,pk.1,_,_,_,.inl rfl,rfl,rfl,?_⟩;refine⟨_,_,rfl,rfl,F5 _ _ aB aL fN lJ,_,_,rfl,rfl,?_⟩;show k (D.int ((rng ps ((i:Int)-1)).1*(rng ps i).2-(rng ps i).1*(rng ps ((i:Int)-1)).2))
  rw[show(rng ps ((i:Int)-1)).1*(rng ps i).2-(rng ps i).1*(rng ps ((i:Int)-1)).2=e2 (rng ps ((i:Int)-1)) (rng ps i) by unfold e2;rw[Td (rng ps i).1]];exact hk
 refine⟨_,by rw[SI];rfl,?_⟩;rw[<-mK];exact hk
theorem mN:FnT ["_law_p","_law_q","_law_r","_law_s","_law_go","_law_way","_law_gap","_law_whole_here","_law_first","_law_second"] 4 (bR vj):=by walk_at"sc"
def F6  : b4:=λas k=>∃(p q r s:Int×Int),as=[.val (bT p),.val (bT q),.val (bT r),.val (bT s)]/\(jp p)/\(jp q)/\(jp r)/\(jp s)/\k (.val (.bl (ltB p q r s)))
theorem aaq(B:cm mg)(F:cd K mg "_law_touch" vj ["_law_p","_law_q","_law_r","_law_s"])(yZ:aX P w K mg base "_law_cross" ["_law_o","_law_p","_law_q"] 2 (aY K 3 yY)):
  aX P w K mg base "_law_touch" ["_law_p","_law_q","_law_r","_law_s"] 3 (aY K 4 F6):=by
 refine cz F mN rfl (λ_ _ _ _ _ _ _ au=>⟨_,(bb (cC 4 mN.nd (da (ba (dQ (ei 1) (ei 0)) (ba (dQ (ei 1) (ei 0)) cc)))) (bb (cC 5 mN.nd (da (ba (dQ (ei 3) (ei 2)) (ba (dQ (ei 3) (ei 2)) cc)))) (bb (cC 6 mN.nd (da (ba (dQ (ei 2) (ei 0)) (ba (dQ (ei 2) (ei 0)) cc)))) (bb (cC 7 mN.nd (dQ (c5 (ei 4) (ei 5)) (c5 (ei 4) (ei 5)))) (bb (c7 (dI (f:=λi j=>decide (i=j)) gS (ag 7) aZ (ck _)) (bn (bO (m9 (kB (f:=λi j=>decide (i=j)) gS (bj yZ au (aH (ag 0) (aH (ag 1) (aH (ag 2) bg)))) aZ (ck _)) (lm (Pw (au.units) (xJ rfl (au.units) (xK rfl (au.units) (ag 0) (ag 1) (by rfl) B.min_) (xK rfl (au.units) (ag 2) (ag 3) (by rfl) B.min_) (by rfl) B.max_) (xK rfl (au.units) (xJ rfl (au.units) (ag 0) (ag 1) (by rfl) B.max_) (xJ rfl (au.units) (ag 2) (ag 3) (by rfl) B.max_) (by rfl) B.min_) (ck _)))))) c6) (bb (cC 8 mN.nd (dQ (c5 (ei 6) (ei 5)) (c5 (ei 6) (ei 5)))) (bb (cC 9 mN.nd (dQ (c5 (ei 6) (ei 4)) (c5 (ei 6) (ei 4)))) (bb (c7 (dI (f:=λi j=>decide (i<j)) hA (ag 7) aZ (ck _)) (bn (M9 (i:=7) (j:=8) (k:=9) rfl mN.nd rfl rfl rfl rfl rfl rfl (ba (e' (ag 7)) (ba (e' (ag 8)) (ba (e' (ag 9)) cc))) rfl)) c6) (bn (bO (m9 (DE (f:=λi j=>decide (i<=j)) (g:=λi j=>decide (i<=j)) mU mU aZ (ag 8) (ag 7)) (lm (DE (f:=λi j=>decide (i<=j)) (g:=λi j=>decide (i<=j)) mU mU aZ (ag 9) (ag 7)))))))))))))),?_⟩);rintro as k ax ⟨p,q,r,s,rfl,sp,dD,ib,cJ,hk⟩;refine cj rfl ?_;obtain⟨bc,aW,fN,lJ⟩:=id sp;obtain⟨aB,aL,cv,fe⟩:=id dD;obtain⟨ai,aw,eg,mX⟩:=id ib;obtain⟨s1,aI,bI,dG⟩:=id cJ;unfold ltB at hk;dsimp only at hk;walk_at"wd";refine dr (λd8=>?_) (λd8=>?_)
 ·rw[TT d8]at hk;refine⟨_,rfl,_,rfl,_,rfl,rfl,p,q,r,rfl,sp.wd,dD.wd,ib.wd,?_⟩;refine⟨_,_,rfl,rfl,_,rfl,dr (λz=>?_) (λz=>?_)⟩
  ·have z:aR p q r=0:=z;rw[Tl z,SW]at hk;refine Si ?_;refine FN (a:=p) (b:=q) (c:=r) (d:=s) rfl rfl rfl rfl ?_;refine FN (a:=p) (b:=q) (c:=r) (d:=s) rfl rfl rfl rfl ?_;exact⟨eA (b1 ew (b1 ey p q) (b1 ey r s)),eA (b1 ey (b1 ew p q) (b1 ew r s)),rfl,rfl,rfl,hk⟩
  have z:¬aR p q r=0:=z;rwa[Tk z,TJ]at hk
 rw[TW d8]at hk;refine sL (λN be=>?_) ?_
 ·exact be
 walk_at"wd";refine dr (λc9=>?_) (λc9=>?_)
 ·rw[TT c9]at hk;refine⟨_,rfl,_,rfl,_,rfl,_,rfl,_,rfl,_,rfl,_,_,_,rfl,?_⟩;exact E8 rfl rfl rfl hk
 rw[TW c9]at hk;exact E8 rfl rfl rfl hk
theorem F7:FnT ["_law_p","_law_q","_law_r","_law_same_way"] 3 (bR vk):=by walk_at"sc"
def F8  : b4:=λas k=>∃(p q r:Int×Int),as=[.val (bT p),.val (bT q),.val (bT r)]/\(jp p)/\(jp q)/\(jp r)/\k (.val (.bl (lbB p q r)))
theorem aar(B:cm mg)(F:cd K mg "_law_back" vk ["_law_p","_law_q","_law_r"])(yZ:aX P w K mg base "_law_cross" ["_law_o","_law_p","_law_q"] 2 (aY K 3 yY)):
  aX P w K mg base "_law_back" ["_law_p","_law_q","_law_r"] 3 (aY K 3 F8):=by
 refine cz F F7 rfl (λ_ _ _ _ _ _ _ au=>⟨_,(bb (cC 3 F7.nd (kB (f:=λi j=>decide (j<i)) mV (hC (c5 (dQ (ei 0) (ei 1)) (dQ (ei 2) (ei 1))) (c5 (dQ (ei 0) (ei 1)) (dQ (ei 2) (ei 1)))) aZ (ck _))) (bn (bO (m9 (kB (f:=λi j=>decide (i=j)) gS (bj yZ au (aH (ag 0) (aH (ag 1) (aH (ag 2) bg)))) aZ (ck _)) (lm (ag 3)))))),?_⟩);rintro as k ax ⟨p,q,r,rfl,sp,dD,ib,hk⟩;refine cj rfl ?_;obtain⟨bc,aW,fN,lJ⟩:=id sp;obtain⟨aB,aL,cv,fe⟩:=id dD;obtain⟨ai,aw,eg,mX⟩:=id ib;walk_at"w";refine⟨p,q,r,rfl,sp.wd,dD.wd,ib.wd,?_⟩;refine⟨_,_,rfl,rfl,_,rfl,dr (λz=>?_) (λz=>?_)⟩
 ·have z:aR p q r=0:=z;unfold lbB at hk;rw[Tl z,SW]at hk;exact⟨_,rfl,hk⟩
 have z:¬aR p q r=0:=z;unfold lbB at hk;rwa[Tk z,TJ]at hk
theorem nX:FnT ["_law_ring","_law_many","_law_k","_law_j","_law_near","_law_one","_law_two"] 1 (bR vl):=by walk_at"sc"
def F9  : b4:=λas k=>∃(ps:List (Int×Int)),as=[.val (.lst (ps.map bT))]/\(ps.length<=75)/\(∀p∈ps,jp p)/\k (.val (.bl (mI ps)))
theorem aas(B:cm mg)(F:cd K mg "_law_simple" vl ["_law_ring"])(aat:aX P w K mg base "_law_back" ["_law_p","_law_q","_law_r"] 3 (aY K 3 F8))(aau:aX P w K mg base "_law_touch" ["_law_p","_law_q","_law_r","_law_s"] 3 (aY K 4 F6)):
  aX P w K mg base "_law_simple" ["_law_ring"] 4 (aY K 1 F9):=by
 refine cz F nX rfl (λ_ _ _ _ _ _ _ au=>⟨_,(bb (cC 1 nX.nd (ip (ag 0) (by rfl) B.len_)) (bb (c7 (iX (w_or (dI (f:=λi j=>decide (i<j)) hA (ag 1) aZ (ck _)) (lj (dI (f:=λi j=>decide (i<j)) hA (ED rfl (au.units) (ag 0) (by rfl) B.len_ (by rfl) B.set_) (ag 1) (ck _))))) (bn (bO fj)) c6) (bb (jM PassesOwn.never rfl (p6 (ag 1) (by rfl) B.range_) (cO 2 nX.nd) (bb (c7 (fI (bj aat au (aH (gr (ag 0) (dQ (ag 2) aZ) (λ_ _=>rfl)) (aH (gr (ag 0) (dQ (ag 2) aZ) (λ_ _=>rfl)) (aH (gr (ag 0) (ag 2) (λ_ _=>rfl)) bg))))) (bn (bO fj)) c6) (bn (jM PassesOwn.never rfl (p6 (ag 2) (by rfl) B.range_) (cO 3 nX.nd) (bb (cC 4 nX.nd (K' (au.units) (sq (dQ (ag 2) (ag 3)) (ag 1)) (c' (fJ (ba aZ (ba (dQ (ag 1) aZ) cc)))) (by rfl))) (bb (cC 5 nX.nd (da (ba (gr (ag 0) (dQ (ag 2) aZ) (λ_ _=>rfl)) (ba (gr (ag 0) (ag 2) (λ_ _=>rfl)) cc)))) (bb (cC 6 nX.nd (da (ba (gr (ag 0) (dQ (ag 3) aZ) (λ_ _=>rfl)) (ba (gr (ag 0) (ag 3) (λ_ _=>rfl)) cc)))) (bn (c7 (iX (w_and (jf (fI (ag 4))) (sr (fI (bj aau au (aH (ei 5) (aH (ei 5) (aH (ei 6) (aH (ei 6) bg))))))))) (bn (bO fj)) c6))))))))) (bn (bO fj))))),?_⟩);rintro as k ax ⟨ps,rfl,ax,av,hk⟩;refine cj rfl ?_;have gf:75<=TI:=by decide
 have len:(ps.map bT).length=ps.length:=Sw ..;let ok:Nat->Bool:=λk => !lbB (rng ps ((k:Int)-2)) (rng ps ((k:Int)-1)) (rng ps k)&&(SA k).all λj=>jr ps.length k j || !ltK ps k j
 have aD:mI ps=(decide (3<=ps.length)&&(decide ps.Nodup&&(SA ps.length).all ok)):=rfl;have no:mI ps=false->k (.val (.bl false)):=λh=>by rwa[h]at hk
 refine eJ (λρ=>ρ=[.val (.lst (ps.map bT)),.val (.int ps.length),.no,.no,.no,.no,.no]) ?_ (λN be=>⟨_,rfl,_,rfl,be _ (by rw[Sw];rfl)⟩);rintro ρ rfl;refine eJ (λρ=>ρ=[.val (.lst (ps.map bT)),.val (.int ps.length),.no,.no,.no,.no,.no]/\3<=ps.length/\ps.Nodup) ?_ (λN be=>?_);rotate_left
 ·refine⟨_,rfl,_,_,rfl,rfl,_,rfl,dr (λg=>no (by rw[aD,Tk (show ¬3<=ps.length by lia),TJ])) (λg=>?_)⟩;refine⟨_,rfl,ps.map eA,by rw[SI];rfl,by rw[Sw];exact ax,λbB nd az=>?_⟩;obtain⟨h7,nY⟩:=Tab.len_nodup nd az
  have y0:∀p q:ay,eA p=eA q->p=q:=λp q e=>by
   injection e with ah e
   injection e with am e
   exact Tf ah am
  have knd:(ps.map eA).Nodup↔ps.Nodup:=by
   unfold S6;rw[Uh];exact⟨λh=>h.imp λa e=>a (by rw[e]),λh=>h.imp λa e=>a (y0 _ _ e)⟩
  rw[knd,Sw]at nY;rw[Sw]at h7;refine⟨_,rfl,_,_,rfl,rfl,_,rfl,dr (λaP=>no ?_) (λaP=>be _ ⟨rfl,by lia,nY.mp (by lia)⟩)⟩;rw[aD,Tk (show ¬ps.Nodup from λz=>by have:=nY.mpr z;lia),TJ,Vk]
 rintro ρ ⟨rfl,gd,nd⟩;rw[Tl gd,Tl nd,SW,SW]at aD
 have F':∀k,k<ps.length->ok k=false->mI ps=false:=λk hk h=>by
  rw[aD];exact Xd.mpr ⟨k,S7.mpr hk,by rw[h];exact SN⟩
 refine eJ (λρ=>(∃v2 ag dn dW d2,ρ=[.val (.lst (ps.map bT)),.val (.int ps.length),v2,ag,dn,dW,d2])/\∀k,k<ps.length->ok k=true) (λρ ⟨⟨v2,ag,dn,dW,d2,e⟩,h⟩=>?_) (λN be=>?_)
 ·subst e;rwa[aD,TC.mpr λk hk=>h k (S7.mp hk)]at hk
 refine⟨_,rfl,_,rfl,by lia,by lia,?_⟩;rw[show((ps.length:Nat):Int).toNat=ps.length by lia];refine wV (λi ρ=>(∃v2 ag dn dW d2,ρ=[.val (.lst (ps.map bT)),.val (.int ps.length),v2,ag,dn,dW,d2])/\∀k,k<i->ok k=true) ⟨⟨_,_,_,_,_,rfl⟩,λk h=>absurd h (Uo k)⟩ ?_ (λρ h=>be _ h);clear be;rintro i ρ ao ⟨⟨v2,ag,dn,dW,d2,rfl⟩,hok⟩ N be;have pk:=lQ (ps:=ps) (i:=(i:Int)-2) (by lia) (by lia);have gQ:=lQ (ps:=ps) (i:=(i:Int)-1) (by lia) (by lia);have ud:=lQ (ps:=ps) (i:=(i:Int)) (by lia) (by lia);refine eJ (λρ=>(∃ag dn dW d2,ρ=[.val (.lst (ps.map bT)),.val (.int ps.length),.val (.int i),ag,dn,dW,d2])/\lbB (rng ps ((i:Int)-2)) (rng ps ((i:Int)-1)) (rng ps i)=false) ?_ (λN be=>?_);rotate_left
 ·refine⟨_,rfl,_,rfl,_,_,rfl,rfl,_,_,_,.inr rfl,rfl,pk.1,?_⟩;refine⟨_,rfl,_,rfl,_,_,rfl,rfl,_,_,_,.inr rfl,rfl,gQ.1,?_⟩;refine⟨_,rfl,_,rfl,_,_,_,.inr rfl,rfl,ud.1,?_⟩;refine⟨rfl,rng ps ((i:Int)-2),rng ps ((i:Int)-1),rng ps i,rfl,av _ pk.2,av _ gQ.2,av _ ud.2,_,rfl,?_⟩;cases c:lbB (rng ps ((i:Int)-2)) (rng ps ((i:Int)-1)) (rng ps i)with
  |false=>exact be _ ⟨⟨ag,dn,dW,d2,rfl⟩,c⟩
  |true=>exact no (F' i ao (by show(!lbB _ _ _&&_)=false;rw[c];rfl))
 rintro ρ ⟨⟨ag,dn,dW,d2,rfl⟩,bk⟩;refine⟨_,rfl,_,rfl,by lia,by lia,?_⟩;rw[show((i:Nat):Int).toNat=i by lia];refine wV (λj ρ=>(∃ag dn dW d2,ρ=[.val (.lst (ps.map bT)),.val (.int ps.length),.val (.int i),ag,dn,dW,d2])/\∀m,m<j->(jr ps.length i m || !ltK ps i m)=true) ⟨⟨_,_,_,_,rfl⟩,λk h=>absurd h (Uo k)⟩ ?_ (λρ h=>?_);rotate_left
 ·obtain⟨⟨ag,dn,dW,d2,rfl⟩,h⟩:=h;refine be _ ⟨⟨_,_,_,_,_,rfl⟩,λk hk=>?_⟩;rcases X'.mp hk with aa|rfl
  ·exact hok k aa
  show(!lbB _ _ _&&_)=true
  rw[bk,TC.mpr λm az=>h m (S7.mp az)];rfl
 clear be;rintro j ρ aQ ⟨⟨ag,dn,dW,d2,rfl⟩,aav⟩ N be;have Ga:=lQ (ps:=ps) (i:=(j:Int)-1) (by lia) (by lia);have xY:=lQ (ps:=ps) (i:=(j:Int)) (by lia) (by lia)
 have be:(jr ps.length i j || !ltK ps i j)=true->∀r,(∃ag dn dW d2,r=[.val (.lst (ps.map bT)),.val (.int ps.length),.val (.int i),ag,dn,dW,d2])->N r:=λh r au=>be r ⟨au,λm az=>by
  rcases X'.mp az with aa|rfl
  ·exact aav m aa
  exact h⟩
 have bad:(jr ps.length i j || !ltK ps i j)=false->k (.val (.bl false)):=λh=>no (F' i ao (by
  show(!lbB _ _ _&&_)=false
  rw[Xd.mpr ⟨j,S7.mpr aQ,by rw[h];exact SN⟩,Vk]))
 walk_at"w";refine⟨.I,_,.inl rfl,rfl,λx hx=>?_,by decide,λt bw=>?_⟩
 ·rcases SH.mp hx with rfl|hx
  ·rfl
  rw[SP.mp hx];rfl
 have bw:t=jr ps.length i j:=by
  rw[Ua,bw];unfold jr;rw[UH,decide_eq_true_iff,decide_eq_true_iff,SH,SP];exact⟨λh=>h.imp D.int.inj D.int.inj,λh=>h.imp (λe=>Ye D.int e) (λe=>Ye D.int e)⟩
 subst bw;refine⟨_,rfl,_,rfl,_,_,rfl,rfl,_,_,_,.inr rfl,rfl,gQ.1,_,rfl,_,rfl,_,_,_,.inr rfl,rfl,ud.1,hH,?_⟩;refine⟨_,rfl,_,rfl,_,_,rfl,rfl,_,_,_,.inr rfl,rfl,Ga.1,_,rfl,_,rfl,_,_,_,.inr rfl,rfl,xY.1,hH,?_⟩;refine⟨_,rfl,_,rfl,?_⟩;cases c:jr ps.length i j with
 |true=>exact be (by rw[c];rfl) _ ⟨_,_,_,_,rfl⟩
 |false=>
  rw[c,W8]at be bad;refine⟨_,rfl,_,_,_,.inl rfl,rfl,rfl,_,rfl,_,_,_,.inl rfl,rfl,rfl,_,rfl,_,_,_,.inl rfl,rfl,rfl,_,rfl,_,_,_,.inl rfl,rfl,rfl,?_⟩;refine⟨rfl,rng ps ((i:Int)-1),rng ps i,rng ps ((j:Int)-1),rng ps j,rfl,av _ gQ.2,av _ ud.2,av _ Ga.2,av _ xY.2,_,rfl,?_⟩;cases bF:ltB (rng ps ((i:Int)-1)) (rng ps i) (rng ps ((j:Int)-1)) (rng ps j)with
  |false=>exact be (by show(!ltB _ _ _ _)=true;rw[bF];rfl) _ ⟨_,_,_,_,rfl⟩
  |true=>exact bad (by show(!ltB _ _ _ _)=false;rw[bF];rfl)
theorem aaw:FnT ["_law_bag_here"] 1 (bR vm):=by walk_at"sc"
def Gb  : b4:=λas k =>  as=[.bag]/\∀n:Int,0<n->n<=1000000000039->k (.val (.int n))
theorem aax(B:cm mg)(F:cd K mg "_law_bottom" vm ["_law_bag_here"])(eT:aX P w K mg base "_law_draw" ["_law_bag_here","_law_many"] 1 (aY K 2 (lx 400))):
  aX P w K mg base "_law_bottom" ["_law_bag_here"] 2 (aY K 1 Gb):=by
 refine cz F aaw rfl (λ_ _ _ _ _ _ _ au=>⟨_,(bn (bO (gr (c' (fJ (ba aZ (ba aZ (ba aZ (ba aZ (ba aZ (ba aZ (ba (hC (J4 aZ aZ) aZ) (ba aZ cc)))))))))) (bj eT au (el 0 (aH aZ bg))) (λ_ _=>rfl)))),?_⟩);rintro as k ax ⟨rfl,hk⟩;refine cj rfl ?_;walk_at"w";refine⟨by show 8<=TI;decide,?_⟩;walk_at"w";intro r ek ai;have afV:(10:Int)^Int.toNat 12+39=1000000000039:=by decide
 obtain rfl|rfl|rfl|rfl|rfl|rfl|rfl|rfl:r=0\/r=1\/r=2\/r=3\/r=4\/r=5\/r=6\/r=7:=by lia
 ·exact⟨_,_,_,.inr rfl,rfl,rfl,hk _ (by decide) (by decide)⟩
 ·exact⟨_,_,_,.inr rfl,rfl,rfl,hk _ (by decide) (by decide)⟩
 ·exact⟨_,_,_,.inr rfl,rfl,rfl,hk _ (by decide) (by decide)⟩
 ·exact⟨_,_,_,.inr rfl,rfl,rfl,hk _ (by decide) (by decide)⟩
 ·exact⟨_,_,_,.inr rfl,rfl,rfl,hk _ (by decide) (by decide)⟩
 ·exact⟨_,_,_,.inr rfl,rfl,rfl,hk _ (by decide) (by decide)⟩
 ·exact⟨_,_,_,.inr rfl,rfl,rfl,hk _ (by decide) (by decide)⟩
 exact⟨_,_,_,.inr rfl,rfl,rfl,hk _ (by decide) (by decide)⟩
theorem Gc:FnT ["_law_bag_here","_law_wide","_law_most","_law_inner"] 3 (bR vn):=by walk_at"sc"
def Gd  : b4:=λas k=>∃(wd gk:Int),as=[.bag,.val (.int wd),.val (.int gk)]/\(1<=wd)/\(wd<=11)/\(2<=gk)/\(gk<=12)/\∀xs:Z5,pf wd xs->(xs.length:Int)<=gk->k (.own (xs.map D.int))
theorem aay(B:cm mg)(F:cd K mg "_law_chain" vn ["_law_bag_here","_law_wide","_law_most"])(eT:aX P w K mg base "_law_draw" ["_law_bag_here","_law_many"] 1 (aY K 2 (lx 400))):
  aX P w K mg base "_law_chain" ["_law_bag_here","_law_wide","_law_most"] 2 (aY K 3 Gd):=by
 refine cz F Gc rfl (λ_ _ _ _ _ _ _ au=>⟨_,(bb (cC 3 Gc.nd (c' (kD (c' (jZ (ts:=["_law_x"]) (fr:=["_law_bag_here"]) (js:=[0]) (Py aZ (ag 1) (by rfl) B.range_) (λ_ _ _ _=>(fX (i:=0) (show S6 (["_law_x","_law_bag_here"]:af9) by decide +kernel) rfl (SQ rfl))) (λ_ _ _ _=>(BJ (dI (f:=λi j=>decide (i=j)) gS (bj eT au (el 1 (aH aZ bg))) aZ (ck _)))) (λ_ _ _ _=>(ag 0)) ⟨rfl,by decide +kernel,rfl,by decide +kernel,gc (Tr.mpr ⟨rfl,(Tb _)⟩),gs rfl,by walk_at"ffr",rfl⟩)) lq (jN (dQ (ag 2) aZ))))) (bn (oy (mh (c' (mh (c' (fJ (ba aZ cc))) (ag 3))) (c' (fJ (ba (ag 1) cc))))))),?_⟩);rintro as k ax ⟨wd,gk,rfl,c9,e6,m1,m2,hk⟩;refine cj rfl ?_;have gf:75<=TI:=by decide
 walk_at"w";refine⟨⟨by decide,by decide,by lia,by lia⟩,by rw[Sw,T9];lia,?_⟩;refine yS (f:=λt:Nat=>D.int (1+t)) (xs:=SA (wd-1).toNat) (λx hx k hk=>?_) (λx hx k hk=>⟨_,rfl,hk⟩) λys hy=>?_
 ·walk_at"w";intro r ek ai;exact⟨_,_,rfl,rfl,_,rfl,hk _⟩
 have ax:=hy.length_le;rw[T9]at ax;refine⟨_,rfl,_,_,rfl,rfl,_,rfl,_,rfl,?_⟩;rw[PC (by lia),<-Ue];generalize aG:min (gk-2).toNat (ys.map λt:Nat=>D.int (1+t)).length=n;have afW:n<=(gk-2).toNat:=by rw[<-aG];exact Nat.min_le_left ..
 have e:(ys.take n).map (λt:Nat=>D.int (1+t))=((ys.take n).map λt:Nat=>1+(t:Int)).map D.int:=by rw[SI];rfl
 have ue:((ys.take n).map λt:Nat=>1+(t:Int)).length<=n:=by rw[Sw,Ts];exact Nat.min_le_left ..
 have ch:=Sj c9 hy n;rw[e];generalize(ys.take n).map (λt:Nat=>1+(t:Int))=zs at ch ue;have hk:=hk (0::zs++[wd]) ch (by simp;lia);rw[S0,SK]at hk;walk_at"w";refine⟨by rw[Sw];show 1+_<=_;lia,?_⟩;walk_at"w";exact⟨by rw[SU,Sw];show 1+_+1<=_;lia,hk⟩
theorem y1:FnT ["_law_bag_here","_law_wide","_law_most","_law_low","_law_high"] 3 (bR vo):=by walk_at"sc"
def y2  : b4:=λas k=>∃(wd gk:Int),as=[.bag,.val (.int wd),.val (.int gk)]/\(1<=wd)/\(wd<=11)/\(2<=gk)/\(gk<=12)/\∀(ps:Z6)(m:Nat),kW ps m wd->(ps.length:Int)<=2*gk->(∀p∈ps,(0<=p.1/\p.1<=wd)/\0<=p.2/\p.2<=6)->k (.own (ps.map bT))
theorem aaz(B:cm mg)(F:cd K mg "_law_strip" vo ["_law_bag_here","_law_wide","_law_most"])(Ge:aX P w K mg base "_law_chain" ["_law_bag_here","_law_wide","_law_most"] 2 (aY K 3 Gd))(eT:aX P w K mg base "_law_draw" ["_law_bag_here","_law_many"] 1 (aY K 2 (lx 400))):
  aX P w K mg base "_law_strip" ["_law_bag_here","_law_wide","_law_most"] 3 (aY K 3 y2):=by
 refine cz F y1 rfl (λ_ _ _ _ _ _ _ au=>⟨_,(bb (qv 3 (oI (i:=3) y1.nd rfl rfl (ts:=["_law_x"]) (fr:=["_law_bag_here"]) (js:=[0]) (fY (bj Ge au (el 0 (aH (ag 1) (aH (ag 2) bg))))) (λ_ _ _ _=>(fX (i:=0) (show S6 (["_law_x","_law_bag_here"]:af9) by decide +kernel) rfl (SQ rfl))) (λ_ _ _ _=>g4) (λ_ _ _ _=>(da (ba (ag 0) (ba (bj eT au (el 1 (aH aZ bg))) cc)))) ⟨rfl,by decide +kernel,rfl,by decide +kernel,gc (Tr.mpr ⟨rfl,(Tb _)⟩),gs rfl,by walk_at"ffr",rfl⟩)) (bb (qv 4 (oI (i:=4) y1.nd rfl rfl (ts:=["_law_x"]) (fr:=["_law_bag_here"]) (js:=[0]) (fY (bj Ge au (el 0 (aH (ag 1) (aH (ag 2) bg))))) (λ_ _ _ _=>(fX (i:=0) (show S6 (["_law_x","_law_bag_here"]:af9) by decide +kernel) rfl (SQ rfl))) (λ_ _ _ _=>g4) (λ_ _ _ _=>(da (ba (ag 0) (ba (hC aZ (bj eT au (el 1 (aH aZ bg)))) cc)))) ⟨rfl,by decide +kernel,rfl,by decide +kernel,gc (Tr.mpr ⟨rfl,(Tb _)⟩),gs rfl,by walk_at"ffr",rfl⟩)) (bn (oy (mh (ag 3) (c' (w6 (ag 4) (e' aZ)))))))),?_⟩);rintro as k ax ⟨wd,gk,rfl,c9,e6,m1,m2,hk⟩;refine cj rfl ?_;have gf:75<=TI:=by decide
 walk_at"w";refine⟨wd,gk,rfl,c9,e6,m1,m2,λxs rr xm=>?_⟩;refine⟨_,rfl,by rw[Sw];lia,?_⟩;refine yd (f:=D.int) (g:=bT) (R:=λ(x:Int)(p:ay)=>p.1=x/\0<=p.2/\p.2<=3) (λx hx k hk=>?_) λzs dj hz=>?_
 ·walk_at"w";intro r ek ai;exact⟨hH,hk (x,r) ⟨rfl,ek,by show r<=3;lia⟩⟩
 refine⟨_,rfl,?_⟩;walk_at"w";refine⟨wd,gk,rfl,c9,e6,m1,m2,λys Gf afX=>?_⟩;refine⟨_,rfl,by rw[Sw];lia,?_⟩;refine yd (f:=D.int) (g:=bT) (R:=λ(x:Int)(p:ay)=>p.1=x/\4<=p.2/\p.2<=6) (λx hx k hk=>?_) λaO nq hu=>?_
 ·walk_at"w";intro r ek ai;walk_at"w";exact hk (x,4+r) ⟨rfl,by show 4<=4+r;lia,by show 4+r<=6;lia⟩
 refine⟨_,rfl,?_⟩
 have bv:(zs.map (·.2)).map (·.1)=xs:=by
  rw[<-dj,SI];exact Tj λz h=>(hz z h).1
 have bJ:(aO.map (·.2)).map (·.1)=ys:=by
  rw[<-nq,SI];exact Tj λz h=>(hu z h).1
 have cP:∀p∈zs.map (·.2),0<=p.2/\p.2<=3:=λp ak=>by
  obtain⟨z,h,rfl⟩:=SF.mp ak;exact(hz z h).2
 have d1:∀p∈aO.map (·.2),4<=p.2/\p.2<=6:=λp ak=>by
  obtain⟨z,h,rfl⟩:=SF.mp ak;exact(hu z h).2
 generalize zs.map (·.2)=ps at *;generalize aO.map (·.2)=a9 at *;have cI:ps.length=xs.length:=by rw[<-bv,Sw]
 have afY:a9.length=ys.length:=by rw[<-bJ,Sw]
 have st:=R8 rr Gf bv bJ (λp ak=>(cP p ak).2) (λp ak=>(d1 p ak).1)
 have hk:=hk (ps++a9.reverse) ps.length st (by simp;lia) (λp ak=>by
  rcases S3.mp ak with h|h
  ·exact⟨rr.mem _ (by rw[<-bv];exact SF.mpr ⟨p,h,rfl⟩),(cP p h).1,by have:=(cP p h).2;lia⟩
  have h:=Ui.mp h
  exact⟨Gf.mem _ (by rw[<-bJ];exact SF.mpr ⟨p,h,rfl⟩),by have:=(d1 p h).1;lia,(d1 p h).2⟩)
 rw[S0,Xe]at hk;walk_at"w";exact⟨by simp;lia,hk⟩
theorem uf:FnT ["_law_bag_here","_law_most","_law_way","_law_made"] 2 (bR vp):=by walk_at"sc"
def Gg  : b4:=λas k =>  as=[.bag,.val (.int 10)]/\∀ps:List (Int×Int),gl ps->0<tw ps->ps.length<=10->(∀p∈ps,h9 p)->k (.own (ps.map bT))
theorem aaA(B:cm mg)(F:cd K mg "_law_shape" vp ["_law_bag_here","_law_most"])(eT:aX P w K mg base "_law_draw" ["_law_bag_here","_law_many"] 1 (aY K 2 (lx 400)))(y3:aX P w K mg base "_law_strip" ["_law_bag_here","_law_wide","_law_most"] 3 (aY K 3 y2))(aaB:aX P w K mg base "_law_simple" ["_law_ring"] 4 (aY K 1 F9))(Gh:aX P w K mg base "_law_twice" ["_law_ring"] 2 (aY K 1 F4)):
  aX P w K mg base "_law_shape" ["_law_bag_here","_law_most"] 5 (aY K 2 Gg):=by
 refine cz F uf rfl (λ_ _ _ _ _ _ _ au=>⟨_,(bb (cC 2 uf.nd (bj eT au (el 0 (aH aZ bg)))) (bb (c7 (dI (f:=λi j=>decide (i=j)) gS (ag 2) aZ (ck _)) (bn (oy (Kn y3 au (by rfl) (el 0 (aH aZ (aH (eG (ag 1) aZ) bg)))))) c6) (bb (oI (i:=3) uf.nd rfl rfl (ts:=["_law_k"]) (fr:=["_law_bag_here"]) (js:=[0]) (p6 (hC aZ (ag 2)) (by rfl) B.range_) (λ_ _ _ _=>(fX (i:=0) (show S6 (["_law_k","_law_bag_here"]:af9) by decide +kernel) rfl (SQ rfl))) (λ_ _ _ _=>g4) (λ_ _ _ _=>(da (ba (bj eT au (el 1 (aH aZ bg))) (ba (bj eT au (el 1 (aH aZ bg))) cc)))) ⟨rfl,by decide +kernel,rfl,by decide +kernel,gc (Tr.mpr ⟨rfl,(Tb _)⟩),gs rfl,by walk_at"ffr",rfl⟩) (bb (c7 (Cn (iX (w_or (jf (fI (bj aaB au (aH (ag 3) bg)))) (lj (dI (f:=λi j=>decide (i=j)) gS (bj Gh au (aH (ag 3) bg)) aZ (ck _)))))) (bn (oz (i:=3) uf.nd rfl (SQ rfl) (fJ (ba (da (ba aZ (ba aZ cc))) (ba (da (ba aZ (ba (bj eT au (el 0 (aH aZ bg))) cc))) (ba (da (ba (bj eT au (el 0 (aH aZ bg))) (ba (hC aZ (bj eT au (el 0 (aH aZ bg)))) cc))) cc)))))) c6) (bb (c7 (Cn (dI (f:=λi j=>decide (i<j)) hA (bj Gh au (aH (ag 3) bg)) aZ (ck _))) (bn (PB 3)) c6) (bn (KA 3))))))),?_⟩);rintro as k ax ⟨rfl,hk⟩;refine cj rfl ?_;have gf:75<=TI:=by decide
 walk_at"w";intro r ek ai;walk_at"wd";refine dr (λg=>?_) (λg=>?_)
 ·walk_at"w";exact⟨6,5,rfl,by decide,by decide,by decide,by decide,λps m st ab a'=>⟨_,rfl,hk ps st.ok st.tw (by lia) λp ak=>⟨(a' p ak).1.1,(a' p ak).1.2,(a' p ak).2.1,(a' p ak).2.2⟩⟩⟩
 refine sL (λN be=>be) ?_;refine eJ (λρ=>∃ps:Z6,ρ=[.bag,.val (.int 10),.val (.int r),.own (ps.map bT)]/\ps.length<=10/\∀p∈ps,h9 p) ?_ (λN be=>?_);rotate_left
 ·refine⟨_,rfl,_,_,rfl,rfl,_,rfl,by lia,by lia,by rw[Sw,T9];lia,?_⟩;refine DH (f:=bT) (Pp:=h9) (λd hd k hk=>?_) λps cI fk=>?_
  ·walk_at"w";intro x x0 fF;walk_at"w";intro y c0 cP;exact⟨hH,hk (x,y) ⟨x0,by show x<=6;lia,c0,by show y<=6;lia⟩⟩
  rw[Sw,T9]at cI;exact be _ ⟨ps,rfl,by lia,fk⟩
 rintro ρ ⟨ps,rfl,jS,fk⟩;refine eJ (λρ=>∃ps:Z6,ρ=[.bag,.val (.int 10),.val (.int r),.own (ps.map bT)]/\gl ps/\tw ps≠0/\ps.length<=10/\∀p∈ps,h9 p) ?_ (λN be=>?_);rotate_left
 ·have anew:∀N:Z3->Prop,(∀ρ:Z3,(∃ps:Z6,ρ=[.bag,.val (.int 10),.val (.int r),.own (ps.map bT)]/\gl ps/\tw ps≠0/\ps.length<=10/\∀p∈ps,h9 p)->N ρ)->∀x y z:Int,0<=x->x<4->0<=y->y<6->0<=z->z<3->N [.bag,.val (.int 10),.val (.int r),.own [bT (0,0),bT (6,x),bT (y,4+z)]]:=λN be x y z x0 fF c0 cP nR aE=>by
   have m:=W5 (show x<=3 by lia) (show y<=5 by lia) c0 (by decide)
   have c:0<aR (0,0) (6,x) (y,4+z):=by
    show 0<(6-0)*(4+z-0)-(x-0)*(y-0)
    simp only[Int.sub_zero];lia
   exact be _ ⟨[(0,0),(6,x),(y,4+z)],rfl,FE (Sz c),by rw[FF];exact Sz c,(show 3<=10 by decide),λp ak=>by
    simp only[SH,Ti,or_false]at ak;rcases ak with rfl|rfl|rfl
    ·exact⟨by decide,by decide,by decide,by decide⟩
    ·exact⟨(show(0:Int)<=6 by decide),(show(6:Int)<=6 by decide),x0,by show x<=6;lia⟩
    exact⟨c0,by show y<=6;lia,by show 0<=4+z;lia,by show 4+z<=6;lia⟩⟩
  have anew:=anew N be;refine⟨_,rfl,rfl,ps,rfl,by lia,λp ak=>(fk p ak).s6.sm,_,rfl,?_⟩;cases sm:mI ps
  ·walk_at"w";intro x x0 fF;walk_at"w";intro y c0 cP;walk_at"w";intro z nR aE;walk_at"w";exact anew x y z x0 fF c0 cP nR aE
  refine⟨_,rfl,rfl,ps,rfl,by lia,λp ak=>(fk p ak).s6.sm,_,_,rfl,rfl,_,rfl,dr (λ_=>?_) (λpS=>be _ ⟨ps,rfl,t9 sm,pS,jS,fk⟩)⟩;walk_at"w";intro x x0 fF;walk_at"w";intro y c0 cP;walk_at"w";intro z nR aE;walk_at"w";exact anew x y z x0 fF c0 cP nR aE
 clear fk jS ps;rintro ρ ⟨ps,rfl,ok,pS,jS,fk⟩;refine eJ (λρ=>∃ps:Z6,ρ=[.bag,.val (.int 10),.val (.int r),.own (ps.map bT)]/\gl ps/\0<tw ps/\ps.length<=10/\∀p∈ps,h9 p) (λρ ⟨ps,e,ok,dS,jS,fk⟩=>by subst e;exact⟨_,rfl,hk ps ok dS jS fk⟩) (λN be=>?_);refine⟨_,rfl,rfl,ps,rfl,by lia,λp ak=>(fk p ak).s6.sm,_,_,rfl,rfl,_,rfl,dr (λhW=>?_) (λhW=>be _ ⟨ps,rfl,ok,by lia,jS,fk⟩)⟩;refine⟨_,rfl,be _ ⟨ps.reverse,?_,Fv ok,by rw[Fw];lia,by simp;lia,λp ak=>fk p (Ui.mp ak)⟩⟩;rw[Xe];rfl
theorem aaC:FnT ["_law_ring","_law_right","_law_up"] 3 (bR vr):=by walk_at"sc"
def y4  : b4:=λas k=>∃(ps:Z6)(a b:Int),as=[.val (.lst (ps.map bT)),.val (.int a),.val (.int b)]/\(ps.length<=75)/\k (.own ((ps.map λp=>(p.1+a,p.2+b)).map bT))
theorem aaD(B:cm mg)(F:cd K mg "_law_slid" vr ["_law_ring","_law_right","_law_up"])  :
  aX P w K mg base "_law_slid" ["_law_ring","_law_right","_law_up"] 2 (aY K 3 y4):=by
 refine cz F aaC rfl (λ_ _ _ _ _ _ _ au=>⟨_,(bn (oy (jZ (ts:=["_law_p"]) (fr:=["_law_right","_law_up"]) (js:=[1,2]) (fY (ag 0)) (λ_ _ _ _=>(fX (i:=0) (show S6 (["_law_p","_law_right","_law_up"]:af9) by decide +kernel) rfl (SQ rfl))) (λ_ _ _ _=>g4) (λ_ _ _ _=>(da (ba (hC (ei 0) (ag 1)) (ba (hC (ei 0) (ag 2)) cc)))) ⟨rfl,by decide +kernel,rfl,by decide +kernel,gc (Tr.mpr ⟨rfl,(Tr.mpr ⟨rfl,(Tb _)⟩)⟩),gs rfl,by walk_at"ffr",rfl⟩))),?_⟩);rintro as k ax ⟨ps,a,b,rfl,ax,hk⟩;refine cj rfl ?_;have gf:75<=TI:=by decide
 walk_at"w";refine⟨by rw[Sw];lia,?_⟩;refine ix (f:=bT) (h:=λp=>bT (p.1+a,p.2+b)) (λp ak k hk=>by walk_at"w";exact hk) ?_;rwa[SI]at hk
theorem ru:FnT ["_law_bag_here","_law_way","_law_one","_law_made","_law_k"] 1 (bR vt):=by walk_at"sc"
def Gi  : b4:=λas k =>  as=[.bag]/\∀rs:List Z6,fO rs->(∀ps∈rs,∀p∈ps,jt p)->k (.val (.lst (rs.map ez)))
theorem aaE(B:cm mg)(F:cd K mg "_law_cloth" vt ["_law_bag_here"])(eT:aX P w K mg base "_law_draw" ["_law_bag_here","_law_many"] 1 (aY K 2 (lx 400)))(Gj:aX P w K mg base "_law_shape" ["_law_bag_here","_law_most"] 5 (aY K 2 Gg))(ug:aX P w K mg base "_law_slid" ["_law_ring","_law_right","_law_up"] 2 (aY K 3 y4))(y3:aX P w K mg base "_law_strip" ["_law_bag_here","_law_wide","_law_most"] 3 (aY K 3 y2)):
  aX P w K mg base "_law_cloth" ["_law_bag_here"] 6 (aY K 1 Gi):=by
 refine cz F ru rfl (λ_ _ _ _ _ _ _ au=>⟨_,(bb (cC 1 ru.nd (bj eT au (el 0 (aH aZ bg)))) (bb (cC 2 ru.nd (bj Gj au (el 0 (aH aZ bg)))) (bb (c7 (dI (f:=λi j=>decide (i<j)) hA (ag 1) aZ (ck _)) (bn (bO (c' (fJ (ba (ag 2) cc))))) c6) (bb (c7 (dI (f:=λi j=>decide (i=j)) gS (ag 1) aZ (ck _)) (bn (bO (c' (fJ (ba (ag 2) (ba (bj ug au (aH (bj Gj au (el 0 (aH aZ bg))) (aH (hC aZ (bj eT au (el 0 (aH aZ bg)))) (aH (dQ (bj eT au (el 0 (aH aZ bg))) aZ) bg)))) cc)))))) c6) (bb (c7 (dI (f:=λi j=>decide (i=j)) gS (ag 1) aZ (ck _)) (bn (bO (c' (fJ (ba (c' (w6 (ag 2) (e' aZ))) (ba (c' (fJ (ba (da (ba (e' aZ) (ba (e' aZ) cc))) (ba (da (ba aZ (ba (e' aZ) cc))) (ba (da (ba aZ (ba aZ cc))) (ba (da (ba (e' aZ) (ba aZ cc))) cc)))))) cc)))))) c6) (bb (c7 (dI (f:=λi j=>decide (i=j)) gS (ag 1) aZ (ck _)) (bn (bO (c' (fJ (ba (c' (fJ (ba (da (ba (e' aZ) (ba (e' aZ) cc))) (ba (da (ba aZ (ba (e' aZ) cc))) (ba (da (ba aZ (ba aZ cc))) (ba (da (ba (e' aZ) (ba aZ cc))) cc)))))) (ba (ag 2) (ba (c' (fJ (ba (da (ba (e' aZ) (ba aZ cc))) (ba (da (ba aZ (ba aZ cc))) (ba (da (ba aZ (ba (e' aZ) cc))) (ba (da (ba (e' aZ) (ba (e' aZ) cc))) cc)))))) cc))))))) c6) (bb (c7 (dI (f:=λi j=>decide (i=j)) gS (ag 1) aZ (ck _)) (bb (oz (i:=3) ru.nd rfl (SQ rfl) (fJ cc)) (bb (jM PassesOwn.never rfl (p6 (bj eT au (el 0 (aH aZ bg))) (by rfl) B.range_) (cO 4 ru.nd) (bn (p7 3 (bj ug au (aH (c' (fJ (ba (da (ba aZ (ba aZ cc))) (ba (da (ba aZ (ba (bj eT au (el 0 (aH aZ bg))) cc))) (ba (da (ba (bj eT au (el 0 (aH aZ bg))) (ba aZ cc))) cc))))) (aH (c5 aZ (ag 4)) (aH (bj eT au (el 0 (aH aZ bg))) bg))))))) (sv 3 (bn (bO (ag 3)))))) c6) (bn (bO (c' (fJ (ba (bj y3 au (el 0 (aH aZ (aH aZ bg)))) cc)))))))))))),?_⟩);rintro as k ax ⟨rfl,hk⟩;refine cj rfl ?_;have gf:75<=TI:=by decide
 walk_at"w";intro r ek ai;walk_at"w";intro ps ok dS jS fk;dsimp only[eI];have gd:3<=ps.length:=ok.1;have sp:∀p∈ps,jt p:=λp ak=>(fk p ak).s6.s1
 have pn:∀{a9:Z6}{a b:Int},(∀q∈a9,h9 q) -> -60<=a->a<=60 -> -60<=b->b<=60->∀q∈a9.map (de a b),jt q:=λ{a9 a b} h gP dy kT b7 q aA=>by
  obtain⟨p,ak,rfl⟩:=SF.mp aA;obtain⟨x0,fF,c0,cP⟩:=h p ak;exact⟨by show _<=p.1+a;lia,by show p.1+a<=_;lia,by show _<=p.2+b;lia,by show p.2+b<=_;lia⟩
 refine eJ (λρ=>ρ=[.bag,.val (.int r),.val (ez ps),.no,.no]/\¬r<3) ?_ (λN be=>⟨_,rfl,_,_,rfl,rfl,_,rfl,dr (λ_=>?_) (λg=>be _ ⟨rfl,g⟩)⟩);rotate_left
 ·refine⟨_,rfl,rF,hk [ps] (t8 (by show 1<=8;decide) (by simp;lia) (λa9 aA=>?_) (UK _ _)) (λa9 aA=>?_)⟩
  ·rw[SP.mp aA];exact⟨ok,dS⟩
  rw[SP.mp aA];exact sp
 rintro ρ ⟨rfl,aK⟩;refine eJ (λρ=>ρ=[.bag,.val (.int r),.val (ez ps),.no,.no]/\¬r=3) ?_ (λN be=>⟨_,rfl,_,_,rfl,rfl,_,rfl,dr (λ_=>?_) (λg=>be _ ⟨rfl,g⟩)⟩);rotate_left
 ·walk_at"w";intro a9 aaF cH afZ kR;walk_at"w";intro a gP dy;walk_at"w";intro b kT b7;walk_at"w";refine⟨a9,8+a,b-4,rfl,by lia,hH,?_⟩;refine hk [ps,a9.map (de (8+a) (b-4))] (t8 (by simp) (by simp;lia) (λq aA=>?_) (Ud.mpr ⟨λq aA=>?_,UK _ _⟩)) (λq aA=>?_)
  ·rcases SH.mp aA with rfl|aA
   ·exact⟨ok,dS⟩
   rw[SP.mp aA];exact⟨(yK _ _ a9).ok aaF,by rw[yJ];exact cH⟩
  ·rw[SP.mp aA];intro p ak q aA;obtain⟨fP,y5,rfl⟩:=SF.mp aA;have:=(fk p ak).2.1;have:=(kR fP y5).1;show p.1<fP.1+(8+a)
   lia
  rcases SH.mp aA with rfl|aA
  ·exact sp
  rw[SP.mp aA];exact pn kR (by lia) (by lia) (by lia) (by lia)
 rintro ρ ⟨rfl,aP⟩;refine eJ (λρ=>ρ=[.bag,.val (.int r),.val (ez ps),.no,.no]/\¬r=4) ?_ (λN be=>⟨_,rfl,_,_,rfl,rfl,_,rfl,dr (λ_=>?_) (λg=>be _ ⟨rfl,g⟩)⟩);rotate_left
 ·have e:=hk [ps.reverse,i6] (Sg ok dS jS fk) (λq aA=>by
   rcases SH.mp aA with rfl|aA
   ·exact λp ak=>sp p (Ui.mp ak)
   rw[SP.mp aA]
   exact(by decide:∀p∈i6,jt p))
  rw[SK,show ez ps.reverse=.lst ((ps.map bT).reverse) by rw[<-Xe]]at e;walk_at"w";exact e
 rintro ρ ⟨rfl,g3⟩;refine eJ (λρ=>ρ=[.bag,.val (.int r),.val (ez ps),.no,.no]/\¬r=5) ?_ (λN be=>⟨_,rfl,_,_,rfl,rfl,_,rfl,dr (λ_=>?_) (λg=>be _ ⟨rfl,g⟩)⟩);rotate_left
 ·have e:=hk [ia,ps,hi] (Sh ok dS jS fk) (λq aA=>by
   rcases SH.mp aA with rfl|aA
   ·exact(by decide:∀p∈ia,jt p)
   rcases SH.mp aA with rfl|aA
   ·exact sp
   rw[SP.mp aA]
   exact(by decide:∀p∈hi,jt p))
  walk_at"w";exact e
 rintro ρ ⟨rfl,db⟩;refine eJ (λρ=>ρ=[.bag,.val (.int r),.val (ez ps),.no,.no]/\¬r=6) ?_ (λN be=>⟨_,rfl,_,_,rfl,rfl,_,rfl,dr (λ_=>?_) (λg=>be _ ⟨rfl,g⟩)⟩);rotate_left
 ·walk_at"w";intro m dY m1;walk_at"w";refine wV (λi ρ=>∃(rs:dC)(dn:aN),ρ=[.bag,.val (.int r),.val (ez ps),.own (rs.map ez),dn]/\rs.length=i/\(∀a9∈rs,(gl a9/\0<tw a9)/\a9.length=3/\(∀p∈a9,p.1<7*(i:Int))/\∀p∈a9,jt p)/\rs.Pairwise ph) ⟨[],_,rfl,rfl,by simp,Xp⟩ ?_ ?_;rotate_left
  ·rintro ρ ⟨rs,dn,rfl,ax,aA,iD⟩;exact⟨_,rfl,_,rfl,hk rs (t8 (by lia) (by rw[DF λa9 h=>(aA a9 h).2.1];lia) (λa9 h=>(aA a9 h).1) iD) λa9 h=>(aA a9 h).2.2.2⟩
  rintro i ρ ao ⟨rs,dn,rfl,ax,aA,iD⟩ N be;walk_at"w";intro x x0 fF;walk_at"w";intro y c0 cP;walk_at"w";intro z nR aE;walk_at"w";refine⟨[(0,0),(5,x),(y,6)],7*i,z,rfl,(show 3<=75 by decide),?_⟩;have dV:=W5 (show x<=4 by lia) (show y<=4 by lia) c0 (by decide)
  have c:0<aR (0,0) (5,x) (y,6):=by
   show 0<(5-0)*(6-0)-(x-0)*(y-0)
   simp only[Int.sub_zero];lia
  have aaG:gl [(0,0),(5,x),(y,6)]:=FE (Sz c)
  have fresh:∀p∈[(0,0),(5,x),(y,6)].map (de (7*i) z),7*(i:Int)<=p.1/\p.1<7*((i+1:Nat):Int)/\jt p:=λp ak=>by
   simp only[SK,T5,SH,Ti,or_false]at ak;rcases ak with rfl|rfl|rfl
   ·exact⟨by show _<=0+7*(i:Int);lia,by show 0+7*(i:Int)<_;lia,by show -100<=0+7*(i:Int);lia,by show 0+7*(i:Int)<=100;lia,by show -100<=0+z;lia,by show 0+z<=100;lia⟩
   ·exact⟨by show _<=5+7*(i:Int);lia,by show 5+7*(i:Int)<_;lia,by show -100<=5+7*(i:Int);lia,by show 5+7*(i:Int)<=100;lia,by show -100<=x+z;lia,by show x+z<=100;lia⟩
   exact⟨by show _<=y+7*(i:Int);lia,by show y+7*(i:Int)<_;lia,by show -100<=y+7*(i:Int);lia,by show y+7*(i:Int)<=100;lia,by show -100<=6+z;lia,by show 6+z<=100;lia⟩
  refine⟨by rw[Sw];lia,be _ ⟨rs++[[(0,0),(5,x),(y,6)].map (de (7*i) z)],.val (.int i),by rw[S0];rfl,by rw[SU,ax];rfl,λa9 h=>?_,Vj.mpr ⟨iD,UK _ _,λa aq b ae=>?_⟩⟩⟩
  ·rcases S3.mp h with h|h
   ·obtain⟨aa,ab,a',bG⟩:=aA a9 h;exact⟨aa,ab,λp ak=>by have:=a' p ak;lia,bG⟩
   rw[SP.mp h];exact⟨⟨(yK _ _ _).ok aaG,by rw[yJ,FF];exact c⟩,rfl,λp ak=>(fresh p ak).2.1,λp ak=>(fresh p ak).2.2⟩
  rw[SP.mp ae];intro p ak q y5;have:=(aA a aq).2.2.1 p ak;have:=(fresh q y5).1;lia
 rintro ρ ⟨rfl,g2⟩;walk_at"w";refine⟨11,12,rfl,by decide,by decide,by decide,by decide,λa9 m st af0 kR=>?_⟩;refine⟨rF,hk [a9] (t8 (by show 1<=8;decide) (by simp;lia) (λq aA=>?_) (UK _ _)) (λq aA=>?_)⟩
 ·rw[SP.mp aA];exact⟨st.ok,st.tw⟩
 rw[SP.mp aA];exact λp ak=>⟨by have:=(kR p ak).1.1;lia,by have:=(kR p ak).1.2;lia,by have:=(kR p ak).2.1;lia,by have:=(kR p ak).2.2;lia⟩
theorem uh:FnT ["one","other"] 2 (bR uy):=by walk_at"sc"
def pl  : b4:=λas k=>∃(a b:Int),as=[.val (.int a),.val (.int b)]/\k (.val (.int (Sy a b:Nat)))
theorem aaH(B:cm mg)(F:cd K mg "greatest_divisor" uy ["one","other"])  :
  aX P w K mg base "greatest_divisor" ["one","other"] 2 (aY K 2 pl):=by
 refine cz F uh rfl (λ_ _ _ _ _ _ _ au=>⟨_,(bb (cC 0 uh.nd (p1 (ag 0) (by rfl) B.abs_)) (bb (cC 1 uh.nd (p1 (ag 1) (by rfl) B.abs_)) (bb (wA PassesOwn.never (dI (f:=λi j => !decide (i=j)) pP (ag 1) aZ (ck _)) (bn (KD (i:=0) (j:=1) rfl uh.nd rfl rfl (by decide) rfl rfl (ba (ag 1) (ba (sq (ag 0) (ag 1)) cc)) rfl))) (bn (bO (ag 0)))))),?_⟩);rintro as k ax ⟨a,b,rfl,hk⟩;refine cj rfl ?_;walk_at"wd";refine⟨λm ρ=>∃(x y:Int),ρ=[.val (.int x),.val (.int y)]/\0<=x/\0<=y/\Sy x y=Sy a b/\m=y.toNat,⟨_,_,_,rfl,?_,?_,Av a b,rfl⟩,?_⟩
 ·split<;>lia
 ·split<;>lia
 rintro m ρ ⟨x,y,rfl,x0,c0,aJ,rfl⟩;walk_at"wd";refine pQ (λg=>?_) (λg=>?_)
 ·have g:0<y:=by lia
  walk_at"wd";have dY:=TF x (show y≠0 by lia);have m1:=TG x g;exact⟨_,_,rfl,_,by lia,_,_,rfl,c0,dY,by rw[Au x0 g];exact aJ,rfl⟩
 subst g;refine⟨_,rfl,?_⟩;rw[<-Aw x0,aJ];exact hk
theorem y6:FnT ["top","bottom","divisor"] 2 (bR uz):=by walk_at"sc"
def rv  : b4:=λas k=>∃(t b:Int),as=[.val (.int t),.val (.int b)]/\(b≠0)/\(T0 b<=9000)/\k (.val (bT (bM t b)))
theorem aaI(B:cm mg)(F:cd K mg "ratio" uz ["top","bottom"])(i8:aX P w K mg base "greatest_divisor" ["one","other"] 2 (aY K 2 pl)):
  aX P w K mg base "ratio" ["top","bottom"] 3 (aY K 2 rv):=by
 refine cz F y6 rfl (λ_ _ _ _ _ _ _ au=>⟨_,(bb (c7 (dI (f:=λi j=>decide (i=j)) gS (ag 1) aZ (ck _)) (bn p3) c6) (bb (cC 2 y6.nd (bj i8 au (aH (ag 0) (aH (ag 1) bg)))) (bb (c7 (dI (f:=λi j=>decide (i<j)) hA (ag 1) aZ (ck _)) (bn (cC 2 y6.nd (e' (ag 2)))) c6) (bn (bO (da (ba (eG (ag 0) (ag 2)) (ba (eG (ag 1) (ag 2)) cc)))))))),?_⟩);rintro as k ax ⟨t,b,rfl,ae,o5,hk⟩;refine cj rfl ?_;walk_at"wd";refine dr (λg=>absurd g ae) (λ_=>?_);walk_at"w";refine⟨_,_,rfl,?_⟩;dsimp only[eI];have fh:=mb (t:=t) ae;have gQ:=kE (a:=t) ae o5;refine eJ (λρ=>ρ=[.val (.int t),.val (.int b),.val (.int (ji t b))]) ?_ (λN be=>?_)
 ·rintro ρ rfl;have g8:ji t b≠0:=by unfold ji;split<;>lia
  have yX:T0 (ji t b)<=9000:=by
   unfold ji;split
   ·exact YD gQ
   exact gQ
  walk_at"w";exact hk
 walk_at"wd";refine dr (λg=>?_) (λg=>?_)
 ·walk_at"w";refine be _ ?_;unfold ji;rw[TT g];rfl
 refine be _ ?_;unfold ji;rw[TW g];rfl
theorem ui:FnT ["one","other","shared","top","divisor"] 2 (bR uA):=by walk_at"sc"
def Gk  : b4:=λas k=>∃(x y u v:Int),as=[.val (bT (x,y)),.val (bT (u,v))]/\(eF x y)/\(eF u v)/\(T0 x<=4000)/\(T0 y<=4000)/\(T0 u<=4000)/\(T0 v<=4000)/\k (.val (bT (bM (x*v+u*y) (y*v))))
theorem aaJ(B:cm mg)(F:cd K mg "plus" uA ["one","other"])(i8:aX P w K mg base "greatest_divisor" ["one","other"] 2 (aY K 2 pl)):
  aX P w K mg base "plus" ["one","other"] 3 (aY K 2 Gk):=by
 refine cz F ui rfl (λ_ _ _ _ _ _ _ au=>⟨_,(bb (cC 2 ui.nd (bj i8 au (aH (ei 0) (aH (ei 1) bg)))) (bb (cC 3 ui.nd (hC (c5 (ei 0) (eG (ei 1) (ag 2))) (c5 (ei 1) (eG (ei 0) (ag 2))))) (bb (cC 4 ui.nd (bj i8 au (aH (ag 2) (aH (ag 3) bg)))) (bn (bO (da (ba (eG (ag 3) (ag 4)) (ba (c5 (eG (ei 0) (ag 2)) (eG (ei 1) (ag 4))) cc)))))))),?_⟩);rintro as k ax ⟨x,y,u,v,rfl,l1,l2,uj,pp,qH,lV,hk⟩;refine cj rfl ?_;have dc:v≠0:=Sz l2.1;have sp:=mb (t:=y) (b:=v) dc;have d0:=kE (a:=y) (b:=v) dc lV;have cI:=λtop d=>Nx l1 l2 (s:=((Sy y v:Nat):Int)) (top:=top) (d:=d) rfl;walk_at"w";refine⟨_,_,rfl,?_⟩;dsimp only[eI];generalize((Sy y v:Nat):Int)=s at *;have b7:T0 (v.fdiv s)<=4000:=f9 (Yc _ _) lV;have cr:T0 (y.fdiv s)<=4000:=f9 (Yc _ _) pp;have tb:T0 (x*v.fdiv s+u*y.fdiv s)<=8001:=YB (UV uj b7) (UV qH cr);have cI:=λd=>cI _ d rfl;walk_at"w";refine⟨_,_,rfl,?_⟩;dsimp only[eI];generalize x*v.fdiv s+u*y.fdiv s=top at *;have cI:=cI _ rfl;have dp:=kJ (a:=s) (b:=top) (.inl (Sz sp))
 have yX:T0 ((Sy s top:Nat):Int)<=4000:=by
  rw[Um];exact kE (Sz sp) d0
 generalize((Sy s top:Nat):Int)=d at *;have ox:T0 (v.fdiv d)<=4000:=f9 (Yc _ _) lV;rw[<-cI]at hk;walk_at"w";exact hk
theorem y7:FnT ["one","other","first","second"] 2 (bR uB):=by walk_at"sc"
def Gl  : b4:=λas k=>∃(x y u v:Int),as=[.val (bT (x,y)),.val (bT (u,v))]/\(eF x y)/\(eF u v)/\(T0 x<=4000)/\(T0 y<=4000)/\(T0 u<=4000)/\(T0 v<=4000)/\k (.val (bT (bM (x*u) (y*v))))
theorem aaK(B:cm mg)(F:cd K mg "times" uB ["one","other"])(i8:aX P w K mg base "greatest_divisor" ["one","other"] 2 (aY K 2 pl)):
  aX P w K mg base "times" ["one","other"] 3 (aY K 2 Gl):=by
 refine cz F y7 rfl (λ_ _ _ _ _ _ _ au=>⟨_,(bb (cC 2 y7.nd (bj i8 au (aH (ei 0) (aH (ei 1) bg)))) (bb (cC 3 y7.nd (bj i8 au (aH (ei 1) (aH (ei 0) bg)))) (bn (bO (da (ba (c5 (eG (ei 0) (ag 2)) (eG (ei 1) (ag 3))) (ba (c5 (eG (ei 0) (ag 3)) (eG (ei 1) (ag 2))) cc))))))),?_⟩);rintro as k ax ⟨x,y,u,v,rfl,l1,l2,uj,pp,qH,lV,hk⟩;refine cj rfl ?_;have dc:v≠0:=Sz l2.1;have c0:y≠0:=Sz l1.1;have ci:=mb (t:=x) (b:=v) dc;have ym:=kE (a:=x) (b:=v) dc lV;have ak:=mb (t:=u) (b:=y) c0;have ae:=kE (a:=u) (b:=y) c0 pp;rw[<-NA l1 l2]at hk;walk_at"w";refine⟨_,_,rfl,?_⟩;walk_at"w";refine⟨_,_,rfl,?_⟩;dsimp only[eI];generalize((Sy x v:Nat):Int)=f at *;generalize((Sy u y:Nat):Int)=g at *;have b7:T0 (x.fdiv f)<=4000:=f9 (Yc _ _) uj;have cr:T0 (u.fdiv g)<=4000:=f9 (Yc _ _) qH;have ox:T0 (y.fdiv g)<=4000:=f9 (Yc _ _) pp;have A3:T0 (v.fdiv f)<=4000:=f9 (Yc _ _) lV;walk_at"w";exact hk
theorem aaL:FnT ["p"] 1 (bR uC):=by walk_at"sc"
def Gm  : b4:=λas k=>∃(a b n:Int),as=[.val (bo (a,b,n))]/\(n≠0)/\(T0 n<=9000)/\k (.val (bT (bM a n)))
theorem aaM(B:cm mg)(F:cd K mg "x_of" uC ["p"])(nZ:aX P w K mg base "ratio" ["top","bottom"] 3 (aY K 2 rv)):
  aX P w K mg base "x_of" ["p"] 4 (aY K 1 Gm):=by
 refine cz F aaL rfl (λ_ _ _ _ _ _ _ au=>⟨_,(bn (bO (bj nZ au (aH (ei 0) (aH (ei 0) bg))))),?_⟩);rintro as k ax ⟨a,b,n,rfl,aG,i5,hk⟩;refine cj rfl ?_;walk_at"w";exact⟨_,_,rfl,aG,i5,hk⟩
theorem aaN:FnT ["p"] 1 (bR uD):=by walk_at"sc"
def Gn  : b4:=λas k=>∃(a b n:Int),as=[.val (bo (a,b,n))]/\(n≠0)/\(T0 n<=9000)/\k (.val (bT (bM b n)))
theorem aaO(B:cm mg)(F:cd K mg "y_of" uD ["p"])(nZ:aX P w K mg base "ratio" ["top","bottom"] 3 (aY K 2 rv)):
  aX P w K mg base "y_of" ["p"] 4 (aY K 1 Gn):=by
 refine cz F aaN rfl (λ_ _ _ _ _ _ _ au=>⟨_,(bn (bO (bj nZ au (aH (ei 0) (aH (ei 0) bg))))),?_⟩);rintro as k ax ⟨a,b,n,rfl,aG,i5,hk⟩;refine cj rfl ?_;walk_at"w";exact⟨_,_,rfl,aG,i5,hk⟩
theorem Go:FnT ["x","y","shared"] 2 (bR uE):=by walk_at"sc"
def Gp  : b4:=λas k=>∃(x y u v:Int),as=[.val (bT (x,y)),.val (bT (u,v))]/\(eF x y)/\(eF u v)/\(T0 x<=4000)/\(T0 y<=4000)/\(T0 u<=4000)/\(T0 v<=4000)/\k (.val (bo (dd (x*v) (u*y) (y*v))))
theorem aaP(B:cm mg)(F:cd K mg "at" uE ["x","y"])(i8:aX P w K mg base "greatest_divisor" ["one","other"] 2 (aY K 2 pl)):
  aX P w K mg base "at" ["x","y"] 3 (aY K 2 Gp):=by
 refine cz F Go rfl (λ_ _ _ _ _ _ _ au=>⟨_,(bb (cC 2 Go.nd (bj i8 au (aH (ei 0) (aH (ei 1) bg)))) (bn (bO (da (ba (c5 (ei 0) (eG (ei 1) (ag 2))) (ba (c5 (ei 1) (eG (ei 0) (ag 2))) (ba (c5 (eG (ei 0) (ag 2)) (ei 1)) cc))))))),?_⟩);rintro as k ax ⟨x,y,u,v,rfl,l1,l2,uj,pp,qH,lV,hk⟩;refine cj rfl ?_;have dc:v≠0:=Sz l2.1;have sp:=mb (t:=y) (b:=v) dc;have d0:=kE (a:=y) (b:=v) dc lV;rw[<-NG l1 l2]at hk;walk_at"w";refine⟨_,_,rfl,?_⟩;dsimp only[eI];generalize((Sy y v:Nat):Int)=s at *;have b7:T0 (v.fdiv s)<=4000:=f9 (Yc _ _) lV;have cr:T0 (y.fdiv s)<=4000:=f9 (Yc _ _) pp;walk_at"w";exact hk
theorem n0:FnT ["one","other","a","b","n","c","d","m"] 2 (bR uI):=by walk_at"sc"
def y8  : b4:=λas k=>∃(p q:aT),as=[.val (bo p),.val (bo q)]/\(dz 2000 p)/\(dz 2000 q)/\k (.val (bo (crs p q)))
theorem aaQ(B:cm mg)(F:cd K mg "crossed" uI ["one","other"])  :
  aX P w K mg base "crossed" ["one","other"] 2 (aY K 2 y8):=by
 refine cz F n0 rfl (λ_ _ _ _ _ _ _ au=>⟨_,(bb (jL (ag 0) (gF (n:=3) rfl (c8 (cO 2 n0.nd) (c8 (cO 3 n0.nd) (c8 (cO 4 n0.nd) gE))))) (bb (jL (ag 1) (gF (n:=3) rfl (c8 (cO 5 n0.nd) (c8 (cO 6 n0.nd) (c8 (cO 7 n0.nd) gE))))) (bn (bO (da (ba (dQ (c5 (ag 3) (ag 7)) (c5 (ag 4) (ag 6))) (ba (dQ (c5 (ag 4) (ag 5)) (c5 (ag 2) (ag 7))) (ba (dQ (c5 (ag 2) (ag 6)) (c5 (ag 3) (ag 5))) cc)))))))),?_⟩);rintro as k ax ⟨p,q,rfl,bp,b1,hk⟩;refine cj rfl ?_;have aa:=bp.a;have ab:=bp.b;have a':=bp.c;have bG:=b1.a;have eb:=b1.b;have ir:=b1.c;walk_at"w";refine⟨_,_,rfl,_,_,rfl,_,_,rfl,rfl,?_⟩;walk_at"w";refine⟨_,_,rfl,_,_,rfl,_,_,rfl,rfl,?_⟩;walk_at"w";exact hk
theorem Gq:FnT ["line","p","turn"] 2 (bR uJ):=by walk_at"sc"
def Gr  : b4:=λas k=>∃(c r:aT),as=[.val (bo c),.val (bo r)]/\(dz 2000 c)/\(dz 2000 r)/\k (.val (.int (bV (c.1*r.1+c.2.1*r.2.1+c.2.2*r.2.2))))
theorem aaR(B:cm mg)(F:cd K mg "hand_of" uJ ["line","p"])  :
  aX P w K mg base "hand_of" ["line","p"] 2 (aY K 2 Gr):=by
 refine cz F Gq rfl (λ_ _ _ _ _ _ _ au=>⟨_,(bb (cC 2 Gq.nd (hC (hC (c5 (ei 0) (ei 1)) (c5 (ei 0) (ei 1))) (c5 (ei 0) (ei 1)))) (bb (c7 (dI (f:=λi j=>decide (j<i)) mV (ag 2) aZ (ck _)) (bn (bO aZ)) c6) (bb (c7 (dI (f:=λi j=>decide (i<j)) hA (ag 2) aZ (ck _)) (bn (bO (e' aZ))) c6) (bn (bO aZ))))),?_⟩);rintro as k ax ⟨c,r,rfl,tC,rx,hk⟩;refine cj rfl ?_;have aa:=tC.a;have ab:=tC.b;have a':=tC.c;have bG:=rx.a;have eb:=rx.b;have ir:=rx.c;walk_at"wd";unfold bV at hk;refine dr (λg=>?_) (λg=>?_)
 ·rwa[TT g]at hk
 rw[TW g]at hk;walk_at"wd";refine dr (λaP=>?_) (λaP=>?_)
 ·rw[TT aP]at hk;walk_at"w";exact hk
 rwa[TW aP]at hk
theorem aaS:FnT ["p","q","r"] 3 (bR uK):=by walk_at"sc"
def uk  : b4:=λas k=>∃(p q r:aT),as=[.val (bo p),.val (bo q),.val (bo r)]/\(dz 700 p)/\(dz 700 q)/\(dz 700 r)/\k (.val (.int (bV (xb p q r))))
theorem aaT(B:cm mg)(F:cd K mg "side" uK ["p","q","r"])(aaU:aX P w K mg base "hand_of" ["line","p"] 2 (aY K 2 Gr))(y9:aX P w K mg base "crossed" ["one","other"] 2 (aY K 2 y8)):
  aX P w K mg base "side" ["p","q","r"] 3 (aY K 3 uk):=by
 refine cz F aaS rfl (λ_ _ _ _ _ _ _ au=>⟨_,(bn (bO (bj aaU au (aH (bj y9 au (aH (ag 0) (aH (ag 1) bg))) (aH (ag 2) bg))))),?_⟩);rintro as k ax ⟨p,q,r,rfl,bp,b1,rx,hk⟩;refine cj rfl ?_;refine⟨_,rfl,_,rfl,rfl,p,q,rfl,bp.mono (by decide),b1.mono (by decide),?_⟩;exact⟨_,rfl,rfl,_,_,rfl,(bp.crs b1).mono (by decide),rx.mono (by decide),hk⟩
theorem ul:FnT ["p","a","b","n"] 1 (bR uH):=by walk_at"sc"
def Gs  : b4:=λas k=>∃(p:aT),as=[.val (bo p)]/\k (.val (bo (fo p)))
theorem aaV(B:cm mg)(F:cd K mg "turned" uH ["p"])  :
  aX P w K mg base "turned" ["p"] 2 (aY K 1 Gs):=by
 refine cz F ul rfl (λ_ _ _ _ _ _ _ au=>⟨_,(bb (jL (ag 0) (gF (n:=3) rfl (c8 (cO 1 ul.nd) (c8 (cO 2 ul.nd) (c8 (cO 3 ul.nd) gE))))) (bn (bO (da (ba (e' (ag 1)) (ba (e' (ag 2)) (ba (ag 3) cc))))))),?_⟩);rintro as k ax ⟨p,rfl,hk⟩;refine cj rfl ?_;walk_at"w";refine⟨_,_,rfl,_,_,rfl,_,_,rfl,rfl,?_⟩;walk_at"w";exact hk
theorem kh:FnT ["p","step","a","b","n","right","up","parts","shared","x","y","divisor"] 2 (bR uF):=by walk_at"sc"
def Gu  : b4:=λas k=>∃(p g:aT),as=[.val (bo p),.val (bo g)]/\(iy p)/\(dz 1000 p)/\(iy g)/\(dz 1000 g)/\k (.val (bo (nP (sld g p))))
theorem aaW(B:cm mg)(F:cd K mg "slid" uF ["p","step"])(i8:aX P w K mg base "greatest_divisor" ["one","other"] 2 (aY K 2 pl)):
  aX P w K mg base "slid" ["p","step"] 3 (aY K 2 Gu):=by
 refine cz F kh rfl (λ_ _ _ _ _ _ _ au=>⟨_,(bb (jL (ag 0) (gF (n:=3) rfl (c8 (cO 2 kh.nd) (c8 (cO 3 kh.nd) (c8 (cO 4 kh.nd) gE))))) (bb (jL (ag 1) (gF (n:=3) rfl (c8 (cO 5 kh.nd) (c8 (cO 6 kh.nd) (c8 (cO 7 kh.nd) gE))))) (bb (cC 8 kh.nd (bj i8 au (aH (ag 4) (aH (ag 7) bg)))) (bb (cC 9 kh.nd (hC (c5 (ag 2) (eG (ag 7) (ag 8))) (c5 (ag 5) (eG (ag 4) (ag 8))))) (bb (cC 10 kh.nd (hC (c5 (ag 3) (eG (ag 7) (ag 8))) (c5 (ag 6) (eG (ag 4) (ag 8))))) (bb (cC 11 kh.nd (bj i8 au (aH (bj i8 au (aH (ag 8) (aH (ag 9) bg))) (aH (ag 10) bg)))) (bn (bO (da (ba (eG (ag 9) (ag 11)) (ba (eG (ag 10) (ag 11)) (ba (c5 (eG (ag 4) (ag 8)) (eG (ag 7) (ag 11))) cc)))))))))))),?_⟩);rintro as k ax ⟨p,g,rfl,um,bp,Gv,jK,hk⟩;refine cj rfl ?_;obtain⟨a,b,n⟩:=p;obtain⟨r,w,m⟩:=g;have aa:T0 a<=1000:=bp.a;have ab:T0 b<=1000:=bp.b;have a':T0 n<=1000:=bp.c;have bG:T0 r<=1000:=jK.a;have eb:T0 w<=1000:=jK.b;have ir:T0 m<=1000:=jK.c;have bK:n≠0:=Sz um.1;have dY:m≠0:=Sz Gv.1;have sp:=mb (t:=n) (b:=m) dY;have d0:=kE (a:=n) (b:=m) dY ir;have cI:=λX Y d=>NH (a:=a) (b:=b) (n:=n) (r:=r) (w:=w) (m:=m) um Gv (s:=((Sy n m:Nat):Int)) (X:=X) (Y:=Y) (d:=d) rfl;have hk:k (.val (bo (dd (a*m+r*n) (b*m+w*n) (n*m)))):=hk;refine⟨_,rfl,_,rfl,rfl,_,_,rfl,_,_,rfl,_,_,rfl,rfl,?_⟩;refine⟨_,rfl,_,rfl,rfl,_,_,rfl,_,_,rfl,_,_,rfl,rfl,?_⟩;walk_at"w";refine⟨_,_,rfl,?_⟩;dsimp only[eI];generalize((Sy n m:Nat):Int)=s at *;have b7:T0 (m.fdiv s)<=1000:=f9 (Yc _ _) ir;have cr:T0 (n.fdiv s)<=1000:=f9 (Yc _ _) a';have tb:T0 (a*m.fdiv s+r*n.fdiv s)<=2001:=YB (UV aa b7) (UV bG cr);have bf:T0 (b*m.fdiv s+w*n.fdiv s)<=2001:=YB (UV ab b7) (UV eb cr);have cI:=λd=>cI _ _ d rfl rfl;walk_at"w";refine⟨_,_,rfl,?_⟩;dsimp only[eI];walk_at"w";refine⟨_,_,rfl,?_⟩;dsimp only[eI];generalize a*m.fdiv s+r*n.fdiv s=X at *;generalize b*m.fdiv s+w*n.fdiv s=Y at *;have cI:=cI _ rfl;have bW:=kJ (a:=s) (b:=X) (.inl (Sz sp))
 have eY:T0 ((Sy s X:Nat):Int)<=1000:=by
  rw[Um];exact kE (Sz sp) d0
 generalize((Sy s X:Nat):Int)=e at *;have dp:=kJ (a:=e) (b:=Y) (.inl (Sz bW))
 have yX:T0 ((Sy e Y:Nat):Int)<=1000:=by
  rw[Um];exact kE (Sz bW) eY
 generalize((Sy e Y:Nat):Int)=d at *;have ox:T0 (m.fdiv d)<=1000:=f9 (Yc _ _) ir;rw[<-cI]at hk;walk_at"w";exact hk
theorem aaX:FnT ["p","q"] 2 (bR uG):=by walk_at"sc"
def Gw  : b4:=λas k=>∃(p q:aT),as=[.val (bo p),.val (bo q)]/\(iy p)/\(dz 1000 p)/\(iy q)/\(dz 1000 q)/\k (.val (bo (nP (sld (fo p) q))))
theorem aaY(B:cm mg)(F:cd K mg "step_to" uG ["p","q"])(aaZ:aX P w K mg base "slid" ["p","step"] 3 (aY K 2 Gu))(aa0:aX P w K mg base "turned" ["p"] 2 (aY K 1 Gs)):
  aX P w K mg base "step_to" ["p","q"] 4 (aY K 2 Gw):=by
 refine cz F aaX rfl (λ_ _ _ _ _ _ _ au=>⟨_,(bn (bO (bj aaZ au (aH (ag 1) (aH (bj aa0 au (aH (ag 0) bg)) bg))))),?_⟩);rintro as k ax ⟨p,q,rfl,um,bp,aa1,b1,hk⟩;refine cj rfl ?_;refine⟨_,rfl,_,rfl,rfl,p,rfl,?_⟩;exact⟨rfl,q,fo p,rfl,aa1,b1,AD um,⟨YD bp.a,YD bp.b,bp.c⟩,hk⟩
theorem aa2:FnT ["p","q"] 2 (bR uS):=by walk_at"sc"
def Gx  : b4:=λas k=>∃(p q:aT),as=[.val (bo p),.val (bo q)]/\(dz 1000 p)/\(dz 1000 q)/\k (.val (.bl (decide (q.2.1*p.2.2<p.2.1*q.2.2))))
theorem aa3(B:cm mg)(F:cd K mg "is_above" uS ["p","q"])  :
  aX P w K mg base "is_above" ["p","q"] 2 (aY K 2 Gx):=by
 refine cz F aa2 rfl (λ_ _ _ _ _ _ _ au=>⟨_,(bn (bO (kB (f:=λi j=>decide (j<i)) mV (c5 (ei 0) (ei 1)) (c5 (ei 1) (ei 0)) (ck _)))),?_⟩);rintro as k ax ⟨p,q,rfl,bp,b1,hk⟩;refine cj rfl ?_;have aa:=bp.b;have ab:=bp.c;have a':=b1.b;have bG:=b1.c;walk_at"w";exact hk
theorem za:FnT ["p","q","r","back","onward"] 3 (bR uN):=by walk_at"sc"
def zb  : b4:=λas k=>∃(p q r:ay)(n:Int),as=[.val (bo (hP n p)),.val (bo (hP n q)),.val (bo (hP n r))]/\(dm p)/\(dm q)/\(dm r)/\(0<n)/\(n<=100000000000000)/\k (.val (.bl (cW p q r)))
theorem aa4(B:cm mg)(F:cd K mg "lies_on" uN ["p","q","r"])(mO:aX P w K mg base "side" ["p","q","r"] 3 (aY K 3 uk))(Gy:aX P w K mg base "step_to" ["p","q"] 4 (aY K 2 Gw)):
  aX P w K mg base "lies_on" ["p","q","r"] 5 (aY K 3 zb):=by
 refine cz F za rfl (λ_ _ _ _ _ _ _ au=>⟨_,(bb (c7 (dI (f:=λi j => !decide (i=j)) pP (bj mO au (aH (ag 0) (aH (ag 1) (aH (ag 2) bg)))) aZ (ck _)) (bn (bO fj)) c6) (bb (cC 3 za.nd (bj Gy au (aH (ag 2) (aH (ag 0) bg)))) (bb (cC 4 za.nd (bj Gy au (aH (ag 2) (aH (ag 1) bg)))) (bn (bO (kB (f:=λi j=>decide (i<=j)) mU (hC (c5 (ei 3) (ei 4)) (c5 (ei 3) (ei 4))) aZ (ck _))))))),?_⟩);rintro as k ax ⟨p,q,r,n,rfl,sp,dD,ib,bK,bx,hk⟩;refine cj rfl ?_;have fh:=kc bK bx sp;have iH:=kc bK bx dD;have iJ:=kc bK bx ib;refine eJ (λρ=>ρ=[.val (bo (hP n p)),.val (bo (hP n q)),.val (bo (hP n r)),.no,.no]/\aR p q r=0) ?_ (λN be=>?_);rotate_left
 ·refine⟨_,rfl,_,rfl,_,rfl,rfl,hP n p,hP n q,hP n r,rfl,fh.bp.mono (by decide),iH.bp.mono (by decide),iJ.bp.mono (by decide),?_⟩;rw[o1 bK];refine⟨_,_,rfl,rfl,_,rfl,pQ (λne=>?_) (λe=>be _ ⟨rfl,(Dg _).mp e⟩)⟩;have z:¬aR p q r=0:=λz=>ne ((Dg _).mpr z);unfold cW at hk;rwa[Tk z]at hk
 rintro ρ ⟨rfl,z⟩;have aK:=((DX iJ).sl fh).bp;have aP:=((DX iJ).sl iH).bp;have h7:=PU (PS bK p q r);refine⟨_,rfl,_,rfl,rfl,hP n r,hP n p,rfl,iJ.pt,iJ.bp.mono (by decide),fh.pt,fh.bp.mono (by decide),?_⟩;dsimp only[eI];refine⟨_,rfl,_,rfl,rfl,hP n r,hP n q,rfl,iJ.pt,iJ.bp.mono (by decide),iH.pt,iH.bp.mono (by decide),?_⟩;dsimp only[eI];unfold cW at hk;rw[Tl z,SW]at hk;generalize ae:decide ((p.1-r.1)*(q.1-r.1)+(p.2-r.2)*(q.2-r.2)<=0)=b at hk;have ae:b=decide ((nP (sld (fo (hP n r)) (hP n p))).1*(nP (sld (fo (hP n r)) (hP n q))).1+(nP (sld (fo (hP n r)) (hP n p))).2.1*(nP (sld (fo (hP n r)) (hP n q))).2.1<=0):=by rw[<-ae];exact(decide_eq_decide.mpr h7).symm
 clear h7;generalize nP (sld (fo (hP n r)) (hP n p))=u at *;generalize nP (sld (fo (hP n r)) (hP n q))=v at *;subst ae;have dy:=aK.a;have dJ:=aK.b;have gN:=aP.a;have mu:=aP.b;walk_at"w";exact hk
theorem aa5:FnT ["p","q","r","s"] 4 (bR uO):=by walk_at"sc"
def Gz  : b4:=λas k=>∃(p q r s:ay)(n:Int),as=[.val (bo (hP n p)),.val (bo (hP n q)),.val (bo (hP n r)),.val (bo (hP n s))]/\(dm p)/\(dm q)/\(dm r)/\(dm s)/\(0<n)/\(n<=100000000000000)/\k (.val (.bl (dU p q r s)))
theorem aa6(B:cm mg)(F:cd K mg "touch" uO ["p","q","r","s"])(n1:aX P w K mg base "lies_on" ["p","q","r"] 5 (aY K 3 zb))(mO:aX P w K mg base "side" ["p","q","r"] 3 (aY K 3 uk)):
  aX P w K mg base "touch" ["p","q","r","s"] 6 (aY K 4 Gz):=by
 refine cz F aa5 rfl (λ_ _ _ _ _ _ _ au=>⟨_,(bb (c7 (iX (w_or (fI (bj n1 au (aH (ag 0) (aH (ag 1) (aH (ag 2) bg))))) (w_or (fI (bj n1 au (aH (ag 0) (aH (ag 1) (aH (ag 3) bg))))) (w_or (fI (bj n1 au (aH (ag 2) (aH (ag 3) (aH (ag 0) bg))))) (lj (fI (bj n1 au (aH (ag 2) (aH (ag 3) (aH (ag 1) bg)))))))))) (bn (bO fj)) c6) (bn (bO (m9 (kB (f:=λi j=>decide (i<j)) hA (c5 (bj mO au (aH (ag 0) (aH (ag 1) (aH (ag 2) bg)))) (bj mO au (aH (ag 0) (aH (ag 1) (aH (ag 3) bg))))) aZ (ck _)) (lm (kB (f:=λi j=>decide (i<j)) hA (c5 (bj mO au (aH (ag 2) (aH (ag 3) (aH (ag 0) bg)))) (bj mO au (aH (ag 2) (aH (ag 3) (aH (ag 1) bg))))) aZ (ck _))))))),?_⟩);rintro as k ax ⟨p,q,r,s,n,rfl,sp,dD,ib,cJ,bK,bx,hk⟩;refine cj rfl ?_;have fh:=kc bK bx sp;have iH:=kc bK bx dD;have iJ:=kc bK bx ib;have i0:=kc bK bx cJ;unfold dU at hk;refine⟨_,rfl,_,rfl,_,rfl,rfl,p,q,r,n,rfl,sp,dD,ib,bK,bx,_,rfl,?_⟩;cases a:cW p q r<;>rw[a]at hk;rotate_left
 ·exact hk
 refine⟨_,rfl,_,rfl,_,rfl,rfl,p,q,s,n,rfl,sp,dD,cJ,bK,bx,_,rfl,?_⟩;cases a:cW p q s<;>rw[a]at hk;rotate_left
 ·exact hk
 refine⟨_,rfl,_,rfl,_,rfl,rfl,r,s,p,n,rfl,ib,cJ,sp,bK,bx,_,rfl,?_⟩;cases a:cW r s p<;>rw[a]at hk;rotate_left
 ·exact hk
 refine⟨_,rfl,_,rfl,_,rfl,rfl,r,s,q,n,rfl,ib,cJ,dD,bK,bx,_,rfl,?_⟩;cases a:cW r s q<;>rw[a]at hk;rotate_left
 ·exact hk
 refine⟨_,rfl,_,rfl,_,rfl,rfl,hP n p,hP n q,hP n r,rfl,fh.bp.mono (by decide),iH.bp.mono (by decide),iJ.bp.mono (by decide),?_⟩;rw[o1 bK];dsimp only[eI];refine⟨_,rfl,_,rfl,_,rfl,rfl,hP n p,hP n q,hP n s,rfl,fh.bp.mono (by decide),iH.bp.mono (by decide),i0.bp.mono (by decide),?_⟩;rw[o1 bK];dsimp only[eI];refine⟨_,_,rfl,rfl,E5 _ _,?_⟩;refine⟨_,_,rfl,rfl,_,rfl,?_⟩;cases a:decide (bV (aR p q r)*bV (aR p q s)<0)<;>rw[a]at hk
 ·exact hk
 refine⟨_,rfl,_,rfl,_,rfl,rfl,hP n r,hP n s,hP n p,rfl,iJ.bp.mono (by decide),i0.bp.mono (by decide),fh.bp.mono (by decide),?_⟩;rw[o1 bK];dsimp only[eI];refine⟨_,rfl,_,rfl,_,rfl,rfl,hP n r,hP n s,hP n q,rfl,iJ.bp.mono (by decide),i0.bp.mono (by decide),iH.bp.mono (by decide),?_⟩;rw[o1 bK];dsimp only[eI];refine⟨_,_,rfl,rfl,E5 _ _,?_⟩;exact⟨_,_,rfl,rfl,hk⟩
theorem aa7:FnT ["p","q","r"] 3 (bR uP):=by walk_at"sc"
def GA  : b4:=λas k=>∃(p q r:ay)(n:Int),as=[.val (bo (hP n p)),.val (bo (hP n q)),.val (bo (hP n r))]/\(dm p)/\(dm q)/\(dm r)/\(0<n)/\(n<=100000000000000)/\k (.val (.bl (fc p q r)))
theorem aa8(B:cm mg)(F:cd K mg "runs_back" uP ["p","q","r"])(n1:aX P w K mg base "lies_on" ["p","q","r"] 5 (aY K 3 zb)):
  aX P w K mg base "runs_back" ["p","q","r"] 6 (aY K 3 GA):=by
 refine cz F aa7 rfl (λ_ _ _ _ _ _ _ au=>⟨_,(bn (bO (AT (bj n1 au (aH (ag 0) (aH (ag 1) (aH (ag 2) bg)))) (lm (bj n1 au (aH (ag 1) (aH (ag 2) (aH (ag 0) bg)))))))),?_⟩);rintro as k ax ⟨p,q,r,n,rfl,sp,dD,ib,bK,bx,hk⟩;refine cj rfl ?_;unfold fc at hk;refine⟨_,rfl,_,rfl,_,rfl,rfl,p,q,r,n,rfl,sp,dD,ib,bK,bx,_,rfl,?_⟩;cases a:cW p q r<;>rw[a]at hk;rotate_left
 ·exact hk
 exact⟨_,rfl,_,rfl,_,rfl,rfl,q,r,p,n,rfl,dD,ib,sp,bK,bx,hk⟩
theorem ry:FnT ["one","other","together","p","q","r","s"] 3 (bR uQ):=by walk_at"sc"
def GB  : b4:=λas k=>∃(e f:ay×ay)(t:Bool)(n:Int),as=[.val (.tup [bo (hP n e.1),bo (hP n e.2)]),.val (.tup [bo (hP n f.1),bo (hP n f.2)]),.val (.bl t)]/\(dm e.1)/\(dm e.2)/\(dm f.1)/\(dm f.2)/\(0<n)/\(n<=100000000000000)/\k (.val (.bl (gw e f t)))
theorem aa9(B:cm mg)(F:cd K mg "clash" uQ ["one","other","together"])(GC:aX P w K mg base "runs_back" ["p","q","r"] 6 (aY K 3 GA))(aa':aX P w K mg base "touch" ["p","q","r","s"] 6 (aY K 4 Gz)):
  aX P w K mg base "clash" ["one","other","together"] 7 (aY K 3 GB):=by
 refine cz F ry rfl (λ_ _ _ _ _ _ _ au=>⟨_,(bb (jL (ag 0) (gF (n:=2) rfl (c8 (cO 3 ry.nd) (c8 (cO 4 ry.nd) gE)))) (bb (jL (ag 1) (gF (n:=2) rfl (c8 (cO 5 ry.nd) (c8 (cO 6 ry.nd) gE)))) (bb (c7 (iX (w_and (fI (ag 2)) (sr (sJ (au.units) (ag 4) (ag 5) (ck _))))) (bn (bO (bj GC au (aH (ag 3) (aH (ag 4) (aH (ag 6) bg)))))) c6) (bb (c7 (iX (w_and (fI (ag 2)) (sr (sJ (au.units) (ag 6) (ag 3) (ck _))))) (bn (bO (bj GC au (aH (ag 5) (aH (ag 6) (aH (ag 4) bg)))))) c6) (bn (bO (bj aa' au (aH (ag 3) (aH (ag 4) (aH (ag 5) (aH (ag 6) bg))))))))))),?_⟩);rintro as k ax ⟨e,f,t,n,rfl,s1,aI,bI,dG,bK,bx,hk⟩;refine cj rfl ?_;obtain⟨p,q⟩:=e;obtain⟨r,s⟩:=f;unfold gw at hk;dsimp only at s1 aI bI dG hk;have ah:eqD (bo (hP n q)) (bo (hP n r))=decide (q=r):=E4 bK q r;have am:eqD (bo (hP n s)) (bo (hP n p))=decide (s=p):=E4 bK s p;walk_at"w";refine⟨_,_,rfl,_,_,rfl,rfl,?_⟩;walk_at"w";refine⟨_,_,rfl,_,_,rfl,rfl,?_⟩;refine⟨_,rfl,_,rfl,?_⟩;cases t with
 |false=>exact⟨_,rfl,_,rfl,_,rfl,_,rfl,_,rfl,_,rfl,rfl,p,q,r,s,n,rfl,s1,aI,bI,dG,bK,bx,hk⟩
 |true=>
  rw[SW,SW]at hk;refine⟨_,rfl,_,rfl,.T [.I,.I,.I],rfl,rfl,by decide,_,rfl,?_⟩;show if(eqD (bo (hP n q)) (bo (hP n r)))=true then _ else _
  rw[ah];refine dr (λa=>?_) (λa=>?_)
  ·rw[Tl a,TT rfl]at hk;exact⟨_,rfl,_,rfl,_,rfl,rfl,p,q,s,n,rfl,s1,aI,dG,bK,bx,hk⟩
  rw[Tk a,TW SN]at hk;refine⟨_,rfl,_,rfl,_,rfl,_,rfl,.T [.I,.I,.I],rfl,rfl,by decide,_,rfl,?_⟩;show if(eqD (bo (hP n s)) (bo (hP n p)))=true then _ else _
  rw[am];refine dr (λa=>?_) (λa=>?_)
  ·rw[Tl a,TT rfl]at hk;exact⟨_,rfl,_,rfl,_,rfl,rfl,r,s,q,n,rfl,bI,dG,aI,bK,bx,hk⟩
  rw[Tk a,TW SN]at hk;exact⟨_,rfl,_,rfl,_,rfl,_,rfl,rfl,p,q,r,s,n,rfl,s1,aI,bI,dG,bK,bx,hk⟩
theorem aba:FnT ["ring"] 1 (bR uL):=by walk_at"sc"
def uo  : b4:=λas k=>∃(ps:Z9),as=[.val (.lst (ps.map bo))]/\(1<=ps.length)/\(ps.length<=1000)/\k (.own ((ps.zip (ps.drop 1++ps.take 1)).map λs=>D.tup [bo s.1,bo s.2]))
theorem abb(B:cm mg)(F:cd K mg "sides_of" uL ["ring"])  :
  aX P w K mg base "sides_of" ["ring"] 2 (aY K 1 uo):=by
 refine cz F aba rfl (λ_ _ _ _ _ _ _ au=>⟨_,(bn (oy (MP (ag 0) (c' (mh (c' (kD (ag 0) (jN aZ) lq)) (c' (kD (ag 0) lq (jN aZ))))) rfl (by rfl) B.list_ (by rfl) B.zip_))),?_⟩);rintro as k ax ⟨ps,rfl,bx,n2,hk⟩;refine cj rfl ?_;have gf:1000<=TI:=by decide
 have ah:gY (ps.map bo) (some 1) none=(ps.drop 1).map bo:=by
  rw[sS (by decide) (by rw[Sw];lia),<-Up];rfl
 have am:gY (ps.map bo) none (some 1)=(ps.take 1).map bo:=by
  rw[sT (by decide) (by rw[Sw];lia),<-Ue];rfl
 refine⟨_,rfl,_,rfl,_,rfl,_,rfl,_,rfl,_,rfl,_,rfl,_,_,rfl,rfl,?_,_,_,rfl,rfl,?_⟩
 ·rw[ah,am];simp only[Sw,Th,Ts];lia
 rw[ah,am,<-S0,V3,SI];exact hk
theorem n3:FnT ["rings","seen","place","ring","one","elder_place","elder"] 1 (bR uR):=by walk_at"sc"
def GD  : b4:=λas k=>∃(rs:dC)(n:Int),as=[.val (.lst ((rs.map λps=>ps.map (hP n)).map cq))]/\(∀ps∈rs,1<=ps.length/\ps.length<=75/\∀q∈ps,dm q)/\(rs.length<=75)/\((ed rs).length<=75)/\(0<n)/\(n<=100000000000000)/\k (.val (.bl (gj (ed rs))))
theorem abc(B:cm mg)(F:cd K mg "sides_are_apart" uR ["rings"])(rz:aX P w K mg base "sides_of" ["ring"] 2 (aY K 1 uo))(abd:aX P w K mg base "clash" ["one","other","together"] 7 (aY K 3 GB)):
  aX P w K mg base "sides_are_apart" ["rings"] 8 (aY K 1 GD):=by
 refine cz F n3 rfl (λ_ _ _ _ _ _ _ au=>⟨_,(bb (oz (i:=1) n3.nd rfl (SQ rfl) (fJ cc)) (bb (C' PassesOwn.never rfl (ag 0) (by rfl) B.enumerate_ (gF (n:=2) rfl (c8 (cO 2 n3.nd) (c8 (cO 3 n3.nd) gE))) (bn (jM PassesOwn.never rfl (fY (bj rz au (aH (ag 3) bg))) (cO 4 n3.nd) (bb (P4 (n:=1) (j1:=5) (j2:=6) (by decide) (by decide) (by decide) PassesOwn.never rfl (gF (n:=2) rfl (c8 (cO 5 n3.nd) (c8 (cO 6 n3.nd) gE))) (fI (bj abd au (aH (ag 6) (aH (ag 4) (aH (kB (f:=λi j=>decide (i=j)) gS (ag 5) (ag 2) (ck _)) bg))))) (bn (bO fj))) (bn (p7 1 (da (ba (ag 2) (ba (ag 4) cc))))))))) (bn (bO fj)))),?_⟩);rintro as k ax ⟨rs,n,rfl,l1,l2,gd,bK,bx,hk⟩;refine cj rfl ?_;have gf:75<=TI:=by decide
 generalize df:D.lst ((rs.map λps=>ps.map (hP n)).map cq)=L;rw[SI]at df;let rA:Nat×(ay×ay)->D:=λx=>.tup [.int x.1,.tup [bo (hP n x.2.1),bo (hP n x.2.2)]]
 have no:∀a b,ed rs=a++b->gj a=false->k (.val (.bl false)):=λa b e h=>by rwa[e,Rz h]at hk
 refine eJ (λρ=>ρ=[.val L,.own (.l []),.no,.no,.no,.no,.no]) ?_ (λN be=>⟨by show 0<=_;lia,be _ rfl⟩);rintro ρ rfl;refine⟨_,rfl,_,df.symm,?_⟩;refine xy (f:=cq∘λps=>ps.map (hP n)) (rs:=rs) (done:=[]) (λpre ρ=>(∃v2 ag dn dW d2:aN,ρ=[.val L,.own (.l ((ed pre).map rA)),v2,ag,dn,dW,d2])/\gj (ed pre)=true) ⟨⟨_,_,_,_,_,rfl⟩,rfl⟩ ?_ (λρ h=>?_);rotate_left
 ·obtain⟨⟨v2,ag,dn,dW,d2,rfl⟩,h⟩:=h;rw[Tp]at h;rwa[h]at hk
 rintro pre ps rest ρ aF ⟨⟨v2,ag,dn,dW,d2,rfl⟩,ak⟩ N be;rw[Tp]at aF;have mem:ps∈rs:=by rw[aF];simp
 obtain⟨dy,dJ,gN⟩:=l1 ps mem
 have mG:∃t,ed rs=ed pre++(b5 ps).map (λe=>(pre.length,e))++t:=⟨_,by
  rw[<-E6,aF,List.append_cons];unfold ed
  rw[VU,X7]⟩
 obtain⟨t,mG⟩:=mG
 have dj:(((ps.map (hP n)).zip ((ps.map (hP n)).drop 1++(ps.map (hP n)).take 1)).map λs=>D.tup [bo s.1,bo s.2])=(b5 ps).map λe=>D.tup [bo (hP n e.1),bo (hP n e.2)]:=by
  unfold b5;rw[<-Up,<-Ue,<-S0,V3,SI];rfl
 rw[E6]at be;refine⟨_,rfl,rfl,ps.map (hP n),rfl,by rw[Sw];lia,by rw[Sw];lia,_,rfl,?_⟩;rw[dj];generalize aN.val ((cq∘λps=>ps.map (hP n)) ps)=vH;refine oJ (m:=4) (rs:=b5 ps) (done:=[]) (f:=λe:ay×ay=>D.tup [bo (hP n e.1),bo (hP n e.2)]) (λn4 ρ=>(∃dn dW d2:aN,ρ=[.val L,.own (.l ((ed pre++n4.map λe=>(pre.length,e)).map rA)),.val (.int pre.length),vH,dn,dW,d2])/\gj (ed pre++n4.map λe=>(pre.length,e))=true) ⟨⟨_,_,_,by rw[T5,TK];rfl⟩,by rw[T5,TK];exact ak⟩ ?_ (λρ h=>?_);rotate_left
 ·obtain⟨⟨dn,dW,d2,rfl⟩,h⟩:=h;rw[Tp]at h⊢;exact be _ ⟨⟨_,_,_,_,_,rfl⟩,h⟩
 rintro n4 e abe ρ g6 ⟨⟨dn,dW,d2,rfl⟩,ab⟩ rB i7;rw[Tp]at g6;have gU:e∈b5 ps:=by rw[g6];simp
 obtain⟨m1,m2⟩:=kd gU;have av:=gN;have bz:ed pre++(n4++[e]).map (λe=>(pre.length,e))=(ed pre++n4.map (λe=>(pre.length,e)))++[(pre.length,e)]:=by rw[S0,<-Ub];rfl
 rw[bz]at i7
 have o7:ed rs=((ed pre++n4.map (λe=>(pre.length,e)))++[(pre.length,e)])++(abe.map (λe=>(pre.length,e))++t):=by
  rw[mG,g6,S0,SK];simp
 clear bz;generalize ed pre++n4.map (λe=>(pre.length,e))=S at *
 have dH:∀x∈S,dm x.2.1/\dm x.2.2:=λx hx=>by
  obtain⟨a9,jq,GE⟩:=RB (x:=x) (rs:=rs) (by rw[o7];simp[hx]);exact⟨(l1 a9 jq).2.2 _ (kd GE).1,(l1 a9 jq).2.2 _ (kd GE).2⟩
 have af1:S.length<75:=by rw[o7]at gd;simp at gd;lia
 have le:=RA (a:=S) (x:=(pre.length,e));rw[ab,SW]at le;refine eJ (λρ=>(∃dW d2:aN,ρ=[.val L,.own (.l (S.map rA)),.val (.int pre.length),vH,.val (D.tup [bo (hP n e.1),bo (hP n e.2)]),dW,d2])/\gj (S++[(pre.length,e)])=true) ?_ (λN be=>?_)
 ·rintro ρ ⟨⟨dW,d2,rfl⟩,a'⟩;refine⟨_,rfl,_,rfl,_,rfl,hH,by rw[Sw];lia,?_⟩;exact i7 _ ⟨⟨_,_,_,by rw[S0];rfl⟩,a'⟩
 refine⟨S.map λy=>(rA y,gw y.2 e (decide (y.1=pre.length))),by rw[SI];rfl,λd hd=>?_,λh s1 aI=>?_⟩
 ·obtain⟨y,hy,rfl⟩:=SF.mp hd;obtain⟨cP,d1⟩:=dH y hy;refine⟨_,_,rfl,?_,λc=>?_⟩
  ·refine⟨_,rfl,_,rfl,_,rfl,_,rfl,_,_,rfl,rfl,rfl,y.2,e,decide (y.1=pre.length),n,?_,cP,d1,av _ m1,av _ m2,bK,bx,_,rfl,rfl⟩;rw[show decide (y.1=pre.length)=decide (((y.1:Nat):Int)=((pre.length:Nat):Int))from(decide_eq_decide.mpr Int.ofNat_inj).symm];rfl
  refine no _ _ o7 ?_;rw[le,Vz.mpr ⟨y,hy,c⟩];rfl
 refine be _ ⟨⟨s1,aI,rfl⟩,?_⟩;rw[le];rw[List.any_map]at h;show(!S.any (U0∘λy=>(rA y,gw y.2 e (decide (y.1=pre.length)))))=true
 rw[h];rfl
theorem pq:FnT ["ring","p","inside","q","r","upward"] 2 (bR uT):=by walk_at"sc"
def GF  : b4:=λas k=>∃(ps:Z6)(p:ay)(n:Int),as=[.val (cq (ps.map (hP n))),.val (bo (hP n p))]/\(1<=ps.length)/\(ps.length<=75)/\(∀q∈ps,dm q)/\(dm p)/\(0<n)/\(n<=100000000000000)/\k (.val (.bl (b3 ((b5 ps).map (d6 p)))))
theorem abf(B:cm mg)(F:cd K mg "within" uT ["ring","p"])(rz:aX P w K mg base "sides_of" ["ring"] 2 (aY K 1 uo))(GG:aX P w K mg base "is_above" ["p","q"] 2 (aY K 2 Gx))(mO:aX P w K mg base "side" ["p","q","r"] 3 (aY K 3 uk)):
  aX P w K mg base "within" ["ring","p"] 4 (aY K 2 GF):=by
 refine cz F pq rfl (λ_ _ _ _ _ _ _ au=>⟨_,(bb (cC 2 pq.nd fj) (bb (jM PassesOwn.never rfl (fY (bj rz au (aH (ag 0) bg))) (gF (n:=2) rfl (c8 (cO 3 pq.nd) (c8 (cO 4 pq.nd) gE))) (bb (cC 5 pq.nd (bj GG au (aH (ag 4) (aH (ag 1) bg)))) (bn (c7 (iX (w_and (qe (au.units) (bj GG au (aH (ag 3) (aH (ag 1) bg))) (ag 5) (ck _)) (sr (dI (f:=λi j=>decide (i=j)) gS (bj mO au (aH (ag 3) (aH (ag 4) (aH (ag 1) bg)))) (ss (fI (ag 5)) aZ (e' aZ)) (ck _))))) (bn (cC 2 pq.nd (AU (ag 2)))) c6)))) (bn (bO (ag 2))))),?_⟩);rintro as k ax ⟨ps,p,n,rfl,l1,l2,av,sp,bK,bx,hk⟩;refine cj rfl ?_;have fh:=kc bK bx sp
 have dj:(((ps.map (hP n)).zip ((ps.map (hP n)).drop 1++(ps.map (hP n)).take 1)).map λs=>D.tup [bo s.1,bo s.2])=(b5 ps).map λe=>D.tup [bo (hP n e.1),bo (hP n e.2)]:=by
  unfold b5;rw[<-Up,<-Ue,<-S0,V3,SI];rfl
 walk_at"wd";refine⟨by rw[Sw];lia,by rw[Sw];lia,?_⟩;rw[dj];refine⟨_,rfl,?_⟩;refine xN (f:=λe:ay×ay=>bo (hP n e.1)) (g:=λe=>bo (hP n e.2)) (done:=[]) (λpre ρ=>∃ag dn dW:aN,ρ=[.val (cq (ps.map (hP n))),.val (bo (hP n p)),.val (.bl (b3 (pre.map (d6 p)))),ag,dn,dW]) ⟨_,_,_,rfl⟩ ?_ (λρ ⟨ag,dn,dW,e⟩=>by subst e;exact⟨_,rfl,hk⟩);rintro pre e rest ρ aF ⟨ag,dn,dW,rfl⟩ N be;have gU:e∈b5 ps:=by rw[<-Tp (b5 ps),aF];simp
 obtain⟨m1,m2⟩:=kd gU;have iH:=kc bK bx (av _ m1);have iJ:=kc bK bx (av _ m2);have be:∀b:Bool,b=(b3 (pre.map (d6 p)) ^^ d6 p e)->N [.val (cq (ps.map (hP n))),.val (bo (hP n p)),.val (.bl b),.val (bo (hP n e.1)),.val (bo (hP n e.2)),.val (.bl (decide (p.2<e.2.2)))]:=λb ae=>be _ ⟨.val (bo (hP n e.1)),.val (bo (hP n e.2)),.val (.bl (decide (p.2<e.2.2))),by subst ae;rw[S0,show[e].map (d6 p)=[d6 p e]from rfl,PV]⟩;rw[tE]at be;refine⟨_,rfl,_,rfl,rfl,hP n e.2,hP n p,rfl,iJ.bp.mono (by decide),fh.bp.mono (by decide),?_⟩;rw[DY bK e.2 p];dsimp only[eI];refine⟨_,rfl,_,rfl,rfl,hP n e.1,hP n p,rfl,iH.bp.mono (by decide),fh.bp.mono (by decide),?_⟩;rw[DY bK e.1 p];dsimp only[eI];refine⟨_,rfl,.B,rfl,rfl,by decide,_,rfl,qg (λne=>?_) (λeq=>?_)⟩;rotate_left
 ·have eq:=D.bl.inj eq;exact be _ (by rw[eq,bne_self_eq_false,TJ,UZ])
 have ne:decide (p.2<e.1.2)≠decide (p.2<e.2.2):=λz=>ne (by rw[z]);rw[show(decide (p.2<e.1.2) != decide (p.2<e.2.2))=true from bne_iff_ne.mpr ne,SW]at be;refine⟨_,rfl,_,rfl,_,rfl,rfl,hP n e.1,hP n e.2,hP n p,rfl,iH.bp.mono (by decide),iJ.bp.mono (by decide),fh.bp.mono (by decide),?_⟩;rw[o1 bK];dsimp only[eI];refine⟨_,rfl,_,rfl,?_⟩;by_cases fG:p.2<e.2.2
 ·rw[TT fG]at be;rw[Tl fG]at be⊢;rw[TT rfl];refine⟨_,_,rfl,rfl,_,rfl,dr (λg=>?_) (λg=>?_)⟩
  ·exact⟨_,rfl,_,rfl,be _ (by rw[Tl (DZ.mp g),Bool.xor_true])⟩
  exact be _ (by rw[Tk (λz=>g (DZ.mpr z)),UZ])
 rw[TW fG]at be;rw[Tk fG]at be⊢;rw[TW SN];refine⟨_,rfl,_,_,rfl,rfl,_,rfl,dr (λg=>?_) (λg=>?_)⟩
 ·exact⟨_,rfl,_,rfl,be _ (by rw[Tl (D0.mp g),Bool.xor_true])⟩
 exact be _ (by rw[Tk (λz=>g (D0.mpr z)),UZ])
theorem abg:FnT ["rings","p"] 2 (bR uU):=by walk_at"sc"
def GH  : b4:=λas k=>∃(rs:dC)(p:ay)(n:Int),as=[.val (.lst ((rs.map λps=>ps.map (hP n)).map cq)),.val (bo (hP n p))]/\(∀ps∈rs,1<=ps.length/\ps.length<=75/\∀q∈ps,dm q)/\(rs.length<=75)/\(dm p)/\(0<n)/\(n<=100000000000000)/\k (.val (.bl (b3 (rs.map λps=>b3 ((b5 ps).map (d6 p))))))
theorem abh(B:cm mg)(F:cd K mg "is_inside" uU ["rings","p"])(abi:aX P w K mg base "within" ["ring","p"] 4 (aY K 2 GF)):
  aX P w K mg base "is_inside" ["rings","p"] 5 (aY K 2 GH):=by
 refine cz F abg rfl (λ_ _ _ _ _ _ _ au=>⟨_,(bn (bO (kB (f:=λi j=>decide (i=j)) gS (sq (ip (c' (jZ (ts:=["ring"]) (fr:=["p"]) (js:=[1]) (fY (ag 0)) (λ_ _ _ _=>(fX (i:=0) (show S6 (["ring","p"]:af9) by decide +kernel) rfl (SQ rfl))) (λ_ _ _ _=>(BJ (fI (bj abi au (aH (ag 0) (aH (ag 1) bg)))))) (λ_ _ _ _=>(ag 0)) ⟨rfl,by decide +kernel,rfl,by decide +kernel,gc (Tr.mpr ⟨rfl,(Tb _)⟩),gs rfl,by walk_at"ffr",rfl⟩)) (by rfl) B.len_) aZ) aZ (ck _)))),?_⟩);rintro as k ax ⟨rs,p,n,rfl,l1,l2,sp,bK,bx,hk⟩;refine cj rfl ?_;have gf:75<=TI:=by decide
 walk_at"wd";rw[SI];refine⟨by rw[Sw];lia,?_⟩;refine xA (f:=cq∘λps=>ps.map (hP n)) (h:=cq∘λps=>ps.map (hP n)) (P:=λps=>b3 ((b5 ps).map (d6 p))) (λps ak k hk=>?_) (λps ak k hk=>?_) ?_
 ·exact⟨_,rfl,_,rfl,rfl,ps,p,n,rfl,(l1 ps ak).1,(l1 ps ak).2.1,(l1 ps ak).2.2,sp,bK,bx,_,rfl,hk⟩
 ·exact⟨_,rfl,hk⟩
 refine⟨_,rfl,_,_,rfl,rfl,by decide,_,_,rfl,rfl,?_⟩;rw[Sw,D1];exact hk
theorem rC:FnT ["ring","twice","p","q"] 1 (bR uM):=by walk_at"sc"
def GI  : b4:=λas k=>∃(ps:Z9)(m:Nat),as=[.val (.lst (ps.map bo))]/\(1<=ps.length)/\(ps.length<=1000)/\(∀p∈ps,0<p.2.2/\dz m p)/\(ps.length*(2*m+2)+1<=3000)/\∀T:ay,eu T (dR (f0 ps))->k (.val (bT (bM (T.1*1) (T.2*2))))
theorem abj(B:cm mg)(F:cd K mg "ring_area" uM ["ring"])(rz:aX P w K mg base "sides_of" ["ring"] 2 (aY K 1 uo))(abk:aX P w K mg base "plus" ["one","other"] 3 (aY K 2 Gk))(nZ:aX P w K mg base "ratio" ["top","bottom"] 3 (aY K 2 rv))(y9:aX P w K mg base "crossed" ["one","other"] 2 (aY K 2 y8))(abl:aX P w K mg base "times" ["one","other"] 3 (aY K 2 Gl)):
  aX P w K mg base "ring_area" ["ring"] 4 (aY K 1 GI):=by
 refine cz F rC rfl (λ_ _ _ _ _ _ _ au=>⟨_,(bb (cC 1 rC.nd (da (ba aZ (ba aZ cc)))) (bb (jM PassesOwn.never rfl (fY (bj rz au (aH (ag 0) bg))) (gF (n:=2) rfl (c8 (cO 2 rC.nd) (c8 (cO 3 rC.nd) gE))) (bn (cC 1 rC.nd (bj abk au (aH (ag 1) (aH (bj nZ au (aH (gr (bj y9 au (aH (ag 2) (aH (ag 3) bg))) aZ (λ_ _=>rfl)) (aH (c5 (ei 2) (ei 3)) bg))) bg)))))) (bn (bO (bj abl au (aH (ag 1) (aH (da (ba aZ (ba aZ cc))) bg))))))),?_⟩);rintro as k ax ⟨ps,m,rfl,bx,n2,i4,az,hk⟩;refine cj rfl ?_
 have hT:m<=1499:=by
  have:=XX (2*m+2) bx;lia
 have sl:((ps.zip (ps.drop 1++ps.take 1)).map λs=>fL s.1 s.2)=f0 ps:=MZ ps;have cl:=M0 ps;have GJ:∀x∈f0 ps,T0 x.1<=2*m+1/\T0 x.2<=2*m+1:=M2 (G:=λp=>p∈ps) (λp q ak aA=>Cj (i4 p ak).2 (i4 q aA).2) (λp ak=>ak)
 have abm:∀s∈ps.zip (ps.drop 1++ps.take 1),s.1∈ps/\s.2∈ps:=λs av=>by
  obtain⟨aa,ab⟩:=U8 av;refine⟨aa,?_⟩;rcases S3.mp ab with h|h
  ·exact VA h
  exact Vb h
 have ue:(ps.zip (ps.drop 1++ps.take 1)).length=ps.length:=by rw[<-cl,<-sl,Sw]
 refine⟨hH,?_⟩;dsimp only;refine cj rfl ?_;refine eJ (λρ=>∃(T:ay)(v2 ag:aN),ρ=[.val (.lst (ps.map bo)),.val (bT T),v2,ag]/\eu T (dR (f0 ps))) ?_ (λN be=>?_);rotate_left
 ·refine⟨_,rfl,rfl,ps,rfl,bx,n2,?_⟩;refine⟨_,rfl,?_⟩;refine Bt (n:=0) (λi ρ=>∃(T:ay)(v2 ag:aN),ρ=[.val (.lst (ps.map bo)),.val (bT T),v2,ag]/\eu T (dR ((f0 ps).take i))) ⟨_,_,_,rfl,eu.zero⟩ ?_ ?_ (λd ρ k gB h ⟨ds,ah,am,a,b,bz,c,d',cF,ej,jY⟩=>⟨ds,ah,am,a,b,bz,c,d',cF,ej,h _ jY⟩)
  ·rintro i d ρ ao ⟨T,v2,ag,rfl,cM⟩;rw[S1]at ao;cases av:(ps.zip (ps.drop 1++ps.take 1))[i]? with
   |none=>rw[av]at ao;cases ao
   |some s=>
    rw[av]at ao;cases ao;obtain⟨p,q⟩:=s;obtain⟨abn,abo⟩:=abm _ (S4 av);obtain⟨yk,bp⟩:=i4 p abn;obtain⟨iB,b1⟩:=i4 q abo;have hc:(f0 ps)[i]?=some (fL p q):=by rw[<-sl,S1,av];rfl
    rw[Tv]at cM;obtain⟨cS,cH⟩:=DI GJ (Wf cl) az i cM;have g8:0<p.2.2*q.2.2:=SO yk iB;have aG:=cM.add (eu.low (c:=(crs p q).2.2) g8);obtain⟨abp,_,ai,aw⟩:=jj (t:=(crs p q).2.2) (b:=p.2.2*q.2.2) (Sz g8);obtain⟨s1,aI⟩:=Cj bp b1;have u1:T0 (bM (crs p q).2.2 (p.2.2*q.2.2)).1<=3000:=SE (f9 ai s1) (by lia);have u2:T0 (bM (crs p q).2.2 (p.2.2*q.2.2)).2<=3000:=SE (f9 aw aI) (by lia);have br:=bp.c;have bF:=b1.c;refine⟨_,rfl,rfl,_,_,rfl,_,_,rfl,rfl,λN be=>?_⟩;refine⟨_,rfl,_,rfl,_,rfl,rfl,p,q,rfl,bp.mono (by lia),b1.mono (by lia),?_⟩;refine⟨_,_,_,.inl rfl,rfl,rfl,_,rfl,_,_,_,.inl rfl,rfl,rfl,_,rfl,_,_,_,.inl rfl,rfl,rfl,?_⟩;refine⟨_,_,rfl,rfl,⟨SE br (by lia),SE bF (by lia)⟩,rfl,_,_,rfl,Sz g8,SE (UV br bF) (by lia),?_⟩;refine⟨rfl,T.1,T.2,_,_,rfl,cM.1,abp,by walk_at"bits",by walk_at"bits",by walk_at"bits",by walk_at"bits",?_⟩;refine be _ ⟨_,_,_,rfl,?_⟩;have e:(f0 ps).take (0+i+1)=(f0 ps).take i++[fL p q]:=by rw[Tv,VE,hc];rfl
    rw[e,MX];exact aG
  rintro ρ ⟨T,v2,ag,rfl,cM⟩;refine be _ ⟨T,v2,ag,rfl,?_⟩;rwa[Sw,ue,Tv,<-cl,WV]at cM
 rintro ρ ⟨T,v2,ag,rfl,cM⟩;obtain⟨cS,cH⟩:=DI GJ (Wf cl) az (f0 ps).length (by rw[WV];exact cM);refine⟨_,rfl,hH,rfl,T.1,T.2,1,2,rfl,cM.1,⟨by decide,by decide⟩,by walk_at"bits",by walk_at"bits",by walk_at"bits",by walk_at"bits",hk T cM⟩
theorem uq:FnT ["rings","place","ring","is_hole"] 1 (bR uV):=by walk_at"sc"
def GK  : b4:=λas k=>∃(rs:dC)(n:Int),as=[.val (.lst ((rs.map λps=>ps.map (hP n)).map cq))]/\(∀ps∈rs,1<=ps.length/\ps.length<=24/\∀q∈ps,dm q)/\(rs.length<=75)/\(0<n)/\(n<=100000000000000)/\k (.val (.bl (o9 rs)))
theorem abq(B:cm mg)(F:cd K mg "rings_go_rightly" uV ["rings"])(abr:aX P w K mg base "is_inside" ["rings","p"] 5 (aY K 2 GH))(abt:aX P w K mg base "ring_area" ["ring"] 4 (aY K 1 GI)):
  aX P w K mg base "rings_go_rightly" ["rings"] 6 (aY K 1 GK):=by
 refine cz F uq rfl (λ_ _ _ _ _ _ _ au=>⟨_,(bb (C' PassesOwn.never rfl (ag 0) (by rfl) B.enumerate_ (gF (n:=2) rfl (c8 (cO 1 uq.nd) (c8 (cO 2 uq.nd) gE))) (bb (cC 3 uq.nd (bj abr au (aH (c' (mh (c' (kD (ag 0) lq (jN (ag 1)))) (c' (kD (ag 0) (jN (hC (ag 1) aZ)) lq)))) (aH (ei 2) bg)))) (bn (c7 (qe (au.units) (kB (f:=λi j=>decide (i<j)) hA (gr (bj abt au (aH (ag 2) bg)) aZ (λ_ _=>rfl)) aZ (ck _)) (ag 3) (ck _)) (bn (bO fj)) c6)))) (bn (bO fj))),?_⟩);rintro as k ax ⟨rs,n,rfl,l1,l2,bK,bx,hk⟩;refine cj rfl ?_;have gf:75<=TI:=by decide
 generalize df:D.lst ((rs.map λps=>ps.map (hP n)).map cq)=L;rw[SI]at df;let go:Z6×Nat->Bool:=λx=>decide (tw x.1<0)==f1 (rs.take x.2++rs.drop (x.2+1)) (x.1.headD (0,0))
 refine⟨_,rfl,_,df.symm,?_⟩;refine xy (f:=cq∘λps=>ps.map (hP n)) (rs:=rs) (done:=[]) (λpre ρ=>(∃v1 v2 ag:aN,ρ=[.val L,v1,v2,ag])/\pre.zipIdx.all go=true) ⟨⟨_,_,_,rfl⟩,rfl⟩ ?_ (λρ h=>?_);rotate_left
 ·obtain⟨⟨v1,v2,ag,rfl⟩,h⟩:=h;rw[Tp]at h;unfold o9 at hk;rwa[show(rs.zipIdx.all λx=>decide (tw x.1<0)==f1 (rs.take x.2++rs.drop (x.2+1)) (x.1.headD (0,0)))=true from h]at hk
 rintro pre ps rest ρ aF ⟨⟨v1,v2,ag,rfl⟩,ak⟩ N be;rw[Tp]at aF;have mem:ps∈rs:=by rw[aF];simp
 obtain⟨dy,dJ,gN⟩:=l1 ps mem;have len:rs.length=pre.length+(rest.length+1):=by rw[aF,SU,SR]
 rw[<-df];walk_at"w";rw[sT (by lia) (by rw[Sw];lia),sS (by lia) (by rw[Sw];lia),show((pre.length:Nat):Int).toNat=pre.length by lia,show(((pre.length:Nat):Int)+1).toNat=pre.length+1 by lia,<-Ue,<-Up];refine⟨by rw[Sw,Sw,Ts,Th];lia,?_⟩;rw[<-S0];have gQ:go (ps,pre.length)=(decide (tw ps<0)==f1 (rs.take pre.length++rs.drop (pre.length+1)) (ps.headD (0,0))):=rfl
 have zs:rs.zipIdx.all go=(pre.zipIdx.all go&&(go (ps,pre.length)&&(rest.zipIdx (pre.length+1)).all go)):=by
  rw[aF,VU,List.all_append,W4,List.all_cons];simp
 have be:go (ps,pre.length)=true->∀r,(∃v1 v2 ag:aN,r=[.val L,v1,v2,ag])->N r:=λg r au=>be r ⟨au,by
  rw[VU,List.all_append,ak,SW,W4,List.zipIdx_nil,List.all_cons,List.all_nil,Bool.and_true,Tv];exact g⟩
 have no:go (ps,pre.length)=false->k (.val (.bl false)):=λg=>by
  unfold o9 at hk;rwa[show(rs.zipIdx.all λx=>decide (tw x.1<0)==f1 (rs.take x.2++rs.drop (x.2+1)) (x.1.headD (0,0)))=false from by rw[show _=_ from zs,g,TJ,Vk]]at hk
 rw[gQ]at be no;clear zs gQ ak
 have others:∀a9∈rs.take pre.length++rs.drop (pre.length+1),a9∈rs:=λa9 h=>by
  rcases S3.mp h with h|h
  ·exact Vb h
  exact VA h
 have ya:(rs.take pre.length++rs.drop (pre.length+1)).length<=75:=by rw[SU,Ts,Th];lia
 generalize rs.take pre.length++rs.drop (pre.length+1)=os at *
 obtain⟨p,a9,rfl⟩:∃p a9,ps=p::a9:=by
  cases ps with
  |nil=>exact absurd dy (by decide)
  |cons p a9=>exact⟨p,a9,rfl⟩
 have sp:dm p:=gN p SD;refine⟨_,rfl,_,_,_,.inr rfl,rfl,Cr,rfl,os,p,n,by rw[SI];rfl,λa9 h=>⟨(l1 a9 (others a9 h)).1,by have:=(l1 a9 (others a9 h)).2.1;lia,(l1 a9 (others a9 h)).2.2⟩,ya,sp,bK,bx,?_⟩;rw[show f1 os ((p::a9).headD (0,0))=b3 (os.map λps=>b3 ((b5 ps).map (d6 p)))from rfl]at be no;generalize b3 (os.map λps=>b3 ((b5 ps).map (d6 p)))=b2 at *
 have ae:∀r∈((p::a9).map (hP n)),0<r.2.2/\dz 50 r:=λr au=>by
  obtain⟨q,aA,rfl⟩:=SF.mp au;have g:=kc bK bx (gN q aA);exact⟨g.pt.1,g.bp⟩
 refine⟨_,rfl,rfl,(p::a9).map (hP n),50,rfl,by rw[Sw];exact dy,by rw[Sw];lia,ae,by rw[Sw];lia,λT cM=>?_⟩;have sgn:=RC bK cM;have sd:decide ((bM (T.1*1) (T.2*2)).1<0)=decide (tw (p::a9)<0):=decide_eq_decide.mpr sgn;rw[<-sd]at be no;refine⟨_,_,_,.inl rfl,rfl,Cr,?_⟩;refine⟨_,_,rfl,rfl,_,rfl,.B,rfl,rfl,by decide,_,rfl,qg (λne=>?_) (λeq=>?_)⟩
 ·exact no (beq_eq_false_iff_ne.mpr λz=>ne (Ye D.bl z))
 refine be ?_ _ ⟨.val (.int pre.length),.val (cq ((p::a9).map (hP n))),.val (.bl b2),by rw[df];rfl⟩;exact beq_iff_eq.mpr (D.bl.inj eq)
theorem GL:FnT ["rings","ring"] 1 (bR uW):=by walk_at"sc"
def GM  : b4:=λas k=>∃(rs:dC)(n:Int),as=[.val (.lst ((rs.map λps=>ps.map (hP n)).map cq))]/\(∀ps∈rs,ps.length<=75/\∀q∈ps,dm q)/\(rs.length<=75)/\(0<n)/\(n<=100000000000000)/\k (.val (.bl (lP rs)))
theorem abu(B:cm mg){abv:Tok}(zc:mg "MOST_CORNERS"=some (.int 24 abv)){abw:Tok}(zd:mg "MOST_RINGS"=some (.int 8 abw))(F:cd K mg "is_cloth" uW ["rings"])(abx:aX P w K mg base "sides_are_apart" ["rings"] 8 (aY K 1 GD))(aby:aX P w K mg base "rings_go_rightly" ["rings"] 6 (aY K 1 GK)):
  aX P w K mg base "is_cloth" ["rings"] 9 (aY K 1 GM):=by
 refine cz F GL rfl (λ_ _ _ _ _ _ _ au=>⟨_,(bb (c7 (iX (w_or (dI (f:=λi j=>decide (j<i)) mV (ip (ag 0) (by rfl) B.len_) (td zd (by rfl)) (ck _)) (lj (dI (f:=λi j=>decide (j<i)) mV (Bc (c' (jZ (ts:=["ring"]) (fr:=[]) (js:=[]) (fY (ag 0)) (λ_ _ _ _=>(fX (i:=0) (show S6 (["ring"]:af9) by decide +kernel) rfl (SQ rfl))) (λ_ _ _ _=>g4) (λ_ _ _ _=>(ip (ag 0) (by rfl) B.len_)) ⟨rfl,by decide +kernel,rfl,by decide +kernel,gc (Tb _),gs rfl,by walk_at"ffr",rfl⟩)) rfl (by rfl) B.sum_) (td zc (by rfl)) (ck _))))) (bn (bO fj)) c6) (bb (jM PassesOwn.never rfl (fY (ag 0)) (cO 1 GL.nd) (bn (c7 (iX (w_or (dI (f:=λi j=>decide (i<j)) hA (ip (ag 1) (by rfl) B.len_) aZ (ck _)) (lj (dI (f:=λi j=>decide (i<j)) hA (ED rfl (au.units) (ag 1) (by rfl) B.len_ (by rfl) B.set_) (ip (ag 1) (by rfl) B.len_) (ck _))))) (bn (bO fj)) c6))) (bn (bO (m9 (bj abx au (aH (ag 0) bg)) (lm (bj aby au (aH (ag 0) bg)))))))),?_⟩);rintro as k ax ⟨rs,n,rfl,l1,l2,bK,bx,hk⟩;refine cj rfl ?_;have gf:75<=TI:=by decide
 have no:lP rs=false->k (.val (.bl false)):=λh=>by rwa[h]at hk
 refine eJ (λρ=>ρ=[.val (.lst ((rs.map λps=>ps.map (hP n)).map cq)),.no]/\rs.length<=8/\(rs.map S').sum<=24) ?_ (λN be=>?_);rotate_left
 ·refine⟨_,rfl,_,rfl,_,_,rfl,rfl,_,rfl,dr (λg=>?_) (λg=>?_)⟩
  ·refine no ?_;rw[Sw,Sw]at g;unfold lP;rw[Tk (show ¬rs.length<=8 by lia)];simp
  rw[Sw,Sw]at g;refine⟨_,rfl,_,rfl,by rw[Sw,Sw];lia,?_⟩;rw[SI];refine ix (f:=cq∘λps=>ps.map (hP n)) (h:=λps=>D.int (ps.length:Nat)) (rs:=rs) ?_ ?_
  ·intro ps ak k hk;refine⟨_,rfl,_,rfl,?_⟩;rw[Sw,Sw];exact hk
  refine⟨rs.map λps=>((ps.length:Nat):Int),by rw[SI];rfl,_,_,rfl,rfl,_,rfl,dr (λaP=>?_) (λaP=>?_)⟩
  ·refine no ?_;rw[yA]at aP;unfold lP;rw[Tk (show ¬(rs.map S').sum<=24 by lia)];simp
  rw[yA]at aP;exact be _ ⟨by rw[SI]<;>rfl,by lia,by lia⟩
 rintro ρ ⟨rfl,b7,cr⟩;generalize df:D.lst ((rs.map λps=>ps.map (hP n)).map cq)=L;refine eJ (λρ=>∃v1:aN,ρ=[.val L,v1]/\∀ps∈rs,3<=ps.length/\ps.Nodup) ?_ (λN be=>?_)
 ·rintro ρ ⟨v1,rfl,h⟩
  have eY:lP rs=(gj (ed rs)&&o9 rs):=by
   unfold lP;rw[Tl b7,Tl cr,show(rs.all λps=>decide (3<=ps.length)&&decide ps.Nodup)=true from TC.mpr λps ak=>by rw[Tl (h ps ak).1,Tl (h ps ak).2];rfl];rfl
  rw[eY]at hk;have h7:∀ps∈rs,ps.length<=24:=λps ak=>SE (q3 (SF.mpr ⟨ps,ak,rfl⟩)) cr;refine⟨_,rfl,rfl,rs,n,by rw[<-df];rfl,λps ak=>⟨by have:=(h ps ak).1;lia,(l1 ps ak).1,(l1 ps ak).2⟩,l2,by rw[RD];lia,bK,bx,?_⟩;cases a:gj (ed rs)with
  |false=>rw[a]at hk;exact⟨_,rfl,hk⟩
  |true=>
   rw[a]at hk;exact⟨_,rfl,_,rfl,rfl,rs,n,by rw[<-df];rfl,λps ak=>⟨by have:=(h ps ak).1;lia,h7 ps ak,(l1 ps ak).2⟩,l2,bK,bx,hk⟩
 rw[SI]at df;refine⟨_,rfl,_,df.symm,?_⟩;refine oJ (f:=cq∘λps=>ps.map (hP n)) (rs:=rs) (done:=[]) (λpre ρ=>∃v1:aN,ρ=[.val L,v1]/\∀ps∈pre,3<=ps.length/\ps.Nodup) ⟨_,rfl,λ_ h=>by cases h⟩ ?_ (λρ h=>?_);rotate_left
 ·rw[Tp]at h;exact be _ h
 rintro pre ps rest ρ aF ⟨v1,rfl,ak⟩ rB i7;rw[Tp]at aF;have mem:ps∈rs:=by rw[aF];simp
 have bad:¬(3<=ps.length/\ps.Nodup)->k (.val (.bl false)):=λh=>no (by
  unfold lP;rw[show(rs.all λps=>decide (3<=ps.length)&&decide ps.Nodup)=false from Xd.mpr ⟨ps,mem,by rw[Te,decide_eq_true_iff,decide_eq_true_iff];exact h⟩]
  simp)
 refine⟨_,rfl,_,rfl,_,_,rfl,rfl,_,rfl,dr (λg=>?_) (λg=>?_)⟩
 ·rw[Sw,Sw]at g;exact bad λz=>by lia
 rw[Sw,Sw]at g;let ur:ay->List Int:=λp=>[(hP n p).1,(hP n p).2.1,(hP n p).2.2]
 have y0:∀p q,ur p=ur q->p=q:=λp q e=>by
  injection e with ah e
  injection e with am e
  injection e with bz e
  exact yz bK (Tf ah (Tf am bz))
 have knd:(ps.map ur).Nodup↔ps.Nodup:=by
  unfold S6;rw[Uh];exact⟨λh=>h.imp λa e=>a (by rw[e]),λh=>h.imp λa e=>a (y0 _ _ e)⟩
 refine⟨_,rfl,ps.map ur,by rw[SI];show D.lst ((ps.map (hP n)).map bo)=_;rw[SI];rfl,by rw[Sw];exact(l1 ps mem).1,λbB nd az=>?_⟩;obtain⟨h7,nY⟩:=Tab.len_nodup nd az;rw[knd,Sw]at nY;rw[Sw]at h7;refine⟨_,rfl,_,rfl,_,_,rfl,rfl,_,rfl,dr (λaP=>?_) (λaP=>?_)⟩
 ·rw[Sw,Sw]at aP;exact bad λz=>by have:=nY.mpr z.2;lia
 rw[Sw,Sw]at aP;refine i7 _ ⟨_,rfl,λa9 aA=>?_⟩;rcases S3.mp aA with aA|aA
 ·exact ak a9 aA
 rw[SP.mp aA];exact⟨by lia,nY.mp (by lia)⟩
theorem ze:FnT ["number","parts","rest","part"] 1 (bR uX):=by walk_at"sc"
def GN  : b4:=λas k=>∃(n:Int),as=[.val (.int n)]/\(n.natAbs<1000000000000000000000000000000)/\k (.val (.str (S (dL n))))
theorem abz(B:cm mg){abA:Tok}(zf:mg "GREAT"=some (.int 10000000000000000000000000000000000000000000000000000000000000000 abA))(F:cd K mg "show_whole" uX ["number"])  :
  aX P w K mg base "show_whole" ["number"] 2 (aY K 1 GN):=by
 refine cz F ze rfl (λ_ _ _ _ _ _ _ au=>⟨_,(bb (oz (i:=1) ze.nd rfl (SQ rfl) (fJ cc)) (bb (cC 2 ze.nd (p1 (ag 0) (by rfl) B.abs_)) (bb (wA PassesOwn.never (dI (f:=λi j=>decide (j<=i)) zV (ag 2) (td zf (by rfl)) (ck _)) A8) (bb (p7 1 (ta (ag 2) (by rfl) B.str_)) (sv 1 (bn (bO (qN (ss (dI (f:=λi j=>decide (i<j)) hA (ag 0) aZ (ck _)) gW gW) (te gW (w6 (ag 1) (e' aZ))))))))))),?_⟩);rintro as k ax ⟨n,rfl,aG,hk⟩;refine cj rfl ?_;walk_at"wd";refine⟨λm ρ=>ρ=[.val (.int n),.own (.l []),.val (.int (if n<0 then -n else n)),.no],⟨0,rfl⟩,?_⟩;rintro m ρ rfl;walk_at"wd";refine dr (λg=>?_) (λg=>?_)
 ·exfalso
  split at g<;>lia
 have ft:(if n<0 then -n else n).natAbs=n.natAbs:=by split<;>lia
 have d4:0<=(if n<0 then -n else n):=by split<;>lia
 have aD:=CW _ d4;rw[ft]at aD;have df:=qQ aG;refine⟨_,rfl,_,rfl,_,rfl,log2_lt (by rw[ft];exact aG),by decide,?_⟩;refine⟨_,rfl,?_⟩;rw[aD];refine⟨_,rfl,_,_,rfl,rfl,_,rfl,dr (λg=>?_) (λg=>?_)⟩
 ·have e:Str.ofString "-"++Txt.join (Str.ofString "") [S (cT n.natAbs)]=S (dL n):=by rw[tl,OC,join_one,<-C0,TT g]
  refine⟨_,rfl,_,rfl,_,rfl,rfl,_,rfl,[S (cT n.natAbs)],rfl,CZ _ (by rw[eL];lia),_,_,rfl,rfl,?_,?_⟩
  ·rw[tl,join_one,eL];exact SE (show 1+(cT n.natAbs).length<=1000 by lia) (by decide)
  rw[e];exact hk
 have e:Str.ofString ""++Txt.join (Str.ofString "") [S (cT n.natAbs)]=S (dL n):=by rw[tl,join_one,<-C0,TW g]
 refine⟨_,rfl,_,rfl,_,rfl,rfl,_,rfl,[S (cT n.natAbs)],rfl,CZ _ (by rw[eL];lia),_,_,rfl,rfl,?_,?_⟩
 ·rw[tl,join_one,eL];exact SE (show 0+(cT n.natAbs).length<=1000 by lia) (by decide)
 rw[e];exact hk
theorem zg:FnT ["one","top","bottom"] 1 (bR uY):=by walk_at"sc"
def zh  : b4:=λas k=>∃(x y:Int),as=[.val (bT (x,y))]/\(x.natAbs<1000000000000000000000000000000)/\(y.natAbs<1000000000000000000000000000000)/\k (.val (.str (S (cL x y))))
theorem abB(B:cm mg)(F:cd K mg "show_ratio" uY ["one"])(zi:aX P w K mg base "show_whole" ["number"] 2 (aY K 1 GN)):
  aX P w K mg base "show_ratio" ["one"] 3 (aY K 1 zh):=by
 refine cz F zg rfl (λ_ _ _ _ _ _ _ au=>⟨_,(bb (jL (ag 0) (gF (n:=2) rfl (c8 (cO 1 zg.nd) (c8 (cO 2 zg.nd) gE)))) (bb (c7 (dI (f:=λi j=>decide (i=j)) gS (ag 2) aZ (ck _)) (bn (bO (bj zi au (aH (ag 1) bg)))) c6) (bn (bO (CU (bj zi au (aH (ag 1) bg)) (bj zi au (aH (ag 2) bg))))))),?_⟩);rintro as k ax ⟨x,y,rfl,hx,hy,hk⟩;refine cj rfl ?_;walk_at"wd";refine⟨_,_,rfl,_,_,rfl,rfl,?_⟩;have s1:=oV hx;have aI:=oV hy;refine⟨_,rfl,_,_,rfl,rfl,_,rfl,dr (λg=>?_) (λg=>?_)⟩
 ·refine⟨_,rfl,rfl,x,rfl,hx,?_⟩;have e:cL x y=dL x:=by unfold cL;rw[TT g]
  rwa[e]at hk
 refine⟨_,rfl,rfl,x,rfl,hx,_,rfl,?_,_,rfl,rfl,y,rfl,hy,_,rfl,?_,?_⟩
 ·exact SE (show(dL x).length+1<=1000 by lia) (by decide)
 ·exact SE (show(dL x).length+1+(dL y).length<=1000 by lia) (by decide)
 have e:S (dL x)++Str.ofString "/"++S (dL y)=S (cL x y):=by
  rw[xu,h1,h1];unfold cL;rw[TW g,Ub];rfl
 rw[e];exact hk
theorem abC:FnT ["p"] 1 (bR uZ):=by walk_at"sc"
def GO  : b4:=λas k=>∃(x y u v:Int),as=[.val (bo (dd (x*v) (u*y) (y*v)))]/\(eF x y)/\(eF u v)/\(x.natAbs<1000000000000000000000000000000)/\(y.natAbs<1000000000000000000000000000000)/\(u.natAbs<1000000000000000000000000000000)/\(v.natAbs<1000000000000000000000000000000)/\k (.val (.str (S (cL x y++44::cL u v))))
theorem abD(B:cm mg)(F:cd K mg "show_point" uZ ["p"])(us:aX P w K mg base "show_ratio" ["one"] 3 (aY K 1 zh))(abE:aX P w K mg base "x_of" ["p"] 4 (aY K 1 Gm))(abF:aX P w K mg base "y_of" ["p"] 4 (aY K 1 Gn)):
  aX P w K mg base "show_point" ["p"] 5 (aY K 1 GO):=by
 refine cz F abC rfl (λ_ _ _ _ _ _ _ au=>⟨_,(bn (bO (CU (bj us au (aH (bj abE au (aH (ag 0) bg)) bg)) (bj us au (aH (bj abF au (aH (ag 0) bg)) bg))))),?_⟩);rintro as k ax ⟨x,y,u,v,rfl,l1,l2,hx,hy,hu,hv,hk⟩;refine cj rfl ?_;have c0:0<y:=l1.1;have dc:0<v:=l2.1;have GP:(10:Int)^30=1000000000000000000000000000000:=rfl;have s1:=j' hx hy;have aI:=j' hu hv;have bK:y*v≠0:=Sz (SO c0 dc);obtain⟨fk,ah,am,_,_,es⟩:=gL (a:=x*v) (b:=u*y) (n:=y*v) bK;have i5:T0 (y*v)<=200:=UV (lD (x:=y) (by lia) (by lia)) (lD (x:=v) (by lia) (by lia));generalize dd (x*v) (u*y) (y*v)=p at *;obtain⟨a,b,n⟩:=p;dsimp only at fk ah am es;have iB:n≠0:=Sz fk.1;have b1:T0 n<=9000:=SE (f9 es i5) (by decide)
 have ai:bM a n=(x,y):=qJ l1 iB (by
  have h:(a*y)*v=(x*n)*v:=by rw[TL,ah,TL,Td v n,<-TL]
  exact(TB (Sz dc) h).symm)
 have aw:bM b n=(u,v):=qJ l2 iB (by
  have h:(b*v)*y=(u*n)*y:=by rw[TL,Td v y,am,TL,Td y n,<-TL]
  exact(TB (Sz c0) h).symm)
 refine⟨_,rfl,rfl,_,_,_,rfl,iB,b1,?_⟩;dsimp only[eI];rw[ai];refine⟨rfl,x,y,rfl,hx,hy,_,rfl,?_,?_⟩
 ·exact SE (show(cL x y).length+1<=1000 by lia) (by decide)
 refine⟨_,rfl,rfl,_,_,_,rfl,iB,b1,?_⟩;dsimp only[eI];rw[aw];refine⟨rfl,u,v,rfl,hu,hv,_,rfl,?_,?_⟩
 ·exact SE (show(cL x y).length+1+(cL u v).length<=1000 by lia) (by decide)
 have e:S (cL x y)++Str.ofString ","++S (cL u v)=S (cL x y++44::cL u v):=by
  rw[tm,h1,h1,Ub];rfl
 rw[e];exact hk
theorem GQ:FnT ["text","sign"] 1 (bR u4):=by walk_at"sc"
def GR  : b4:=λas k=>∃(m:Nat),as=[.val (.str (S (cT m)))]/\(m<1000000000000000000000000000000)/\k (.val (.bl true))
theorem abG(B:cm mg){abH:Tok}(zj:mg "FIGURES"=some (.str (Xf "0123456789") abH)){abI:Tok}(zk:mg "MOST_FIGURES"=some (.int 30 abI))(F:cd K mg "is_whole" u4 ["text"])  :
  aX P w K mg base "is_whole" ["text"] 2 (aY K 1 GR):=by
 refine cz F GQ rfl (λ_ _ _ _ _ _ _ au=>⟨_,(bb (c7 (jf (On (f:=λi j=>decide (i<=j)) (g:=λi j=>decide (i<=j)) mU mU aZ (Oc (ag 0) (by rfl) B.len_) (td zk (by rfl)))) (bn (bO fj)) c6) (bb (jM PassesOwn.never rfl (Ow (ag 0)) (cO 1 GQ.nd) (bn (c7 (Oh (ag 1) (xp zj (by rfl)) (by rfl)) (bn (bO fj)) c6))) (bn (bO (AT (Bo (au.units) (ag 0) gW (ck _)) (lm (K9 (au.units) (Of (ag 0) aZ (λ_ _=>rfl)) gW (ck _)))))))),?_⟩);rintro as k ax ⟨m,rfl,az,hk⟩;refine cj rfl ?_;walk_at"wd";have l1:=qP m;have l2:=qQ az;refine⟨by rw[eL];exact ki l2,_,_,rfl,rfl,?_⟩;rw[eL];refine dr (λ_=>?_) (λg=>absurd (by lia) g);refine⟨_,rfl,pQ (λg=>absurd (by lia) g) (λ_=>?_)⟩;refine⟨_,rfl,_,rfl,?_,?_⟩
 ·rw[Array.all_eq_true'];intro c hc;have:=nI m c (by simpa[S]using hc);exact Tl (by lia)
 rw[qO];refine oJ (f:=λc=>D.str ⟨#[c]⟩) (done:=[]) (λ_ ρ=>∃v,ρ=[.val (.str (S (cT m))),v]) ⟨_,rfl⟩ ?_ ?_
 ·rintro pre c rest ρ eq ⟨v,rfl⟩ N be
  have hc:c∈cT m:=by
   have:c∈pre++c::rest:=by simp
   rw[<-eq]at this;simpa using this
  refine⟨_,rfl,_,_,rfl,rfl,_,rfl,?_⟩;rw[PySem.StrLaws.found_one];exact pQ (λg=>absurd (OD (nI m c hc)) g) (λ_=>be _ ⟨_,rfl⟩)
 rintro ρ ⟨v,rfl⟩;refine⟨_,rfl,.S,rfl,rfl,by decide,_,rfl,?_⟩;refine Lf (λ_=>hk) (λg=>?_);refine⟨_,rfl,_,0,(cT m).headD 0,rfl,rfl,by rw[eL];exact ki l2,?_,.S,rfl,rfl,by decide,?_⟩
 ·exact OH l1
 show k (.val (.bl (!eqD (D.str ⟨#[(cT m).headD 0]⟩) (D.str (Str.ofString "0")))))
 rw[Lg (OI g)];exact hk
theorem abJ:FnT ["text"] 1 (bR u5):=by walk_at"sc"
def GS  : b4:=λas k=>∃(m:Nat),as=[.val (.str (S (cT m)))]/\(m<1000000000000000000000000000000)/\k (.val (.int m))
theorem abK(B:cm mg)(F:cd K mg "read_whole" u5 ["text"])(abL:aX P w K mg base "is_whole" ["text"] 2 (aY K 1 GR)):
  aX P w K mg base "read_whole" ["text"] 3 (aY K 1 GS):=by
 refine cz F abJ rfl (λ_ _ _ _ _ _ _ au=>⟨_,(bb (c7 (jf (fI (bj abL au (aH (ag 0) bg)))) (bn p3) c6) (bn (bO (Oa (ag 0) (by rfl) B.int_)))),?_⟩);rintro as k ax ⟨m,rfl,az,hk⟩;refine cj rfl ?_;walk_at"wd";refine⟨az,_,rfl,mm rfl ?_⟩;exact⟨_,rfl,_,_,rfl,Oy az,SE (qQ az) (by decide),hk⟩
theorem lW:FnT ["text","sign","bare","above","stroke","below","top","bottom","told"] 1 (bR u6):=by walk_at"sc"
def GT  : b4:=λas k=>∃(x y:Int),as=[.val (.str (S (cL x y)))]/\(eF x y)/\(x.natAbs<1000000000000000000000000000000)/\(y.natAbs<1000000000000000000000000000000)/\k (.val (bT (x,y)))
theorem abM(B:cm mg)(F:cd K mg "read_ratio" u6 ["text"])(GU:aX P w K mg base "read_whole" ["text"] 3 (aY K 1 GS))(nZ:aX P w K mg base "ratio" ["top","bottom"] 3 (aY K 2 rv))(us:aX P w K mg base "show_ratio" ["one"] 3 (aY K 1 zh)):
  aX P w K mg base "read_ratio" ["text"] 4 (aY K 1 GT):=by
 refine cz F lW rfl (λ_ _ _ _ _ _ _ au=>⟨_,(bb (jL (ss (fI (Ou (ag 0) gW)) (da (ba (e' aZ) (ba (Op (ag 0)) cc))) (da (ba aZ (ba (ag 0) cc)))) (gF (n:=2) rfl (c8 (cO 1 lW.nd) (c8 (cO 2 lW.nd) gE)))) (bb (jL (CV (ag 2) gW) (gF (n:=3) rfl (c8 (cO 3 lW.nd) (c8 (cO 4 lW.nd) (c8 (cO 5 lW.nd) gE))))) (bb (cC 6 lW.nd (bj GU au (aH (ag 3) bg))) (bb (cC 7 lW.nd (ss (Ol (ag 4)) (bj GU au (aH (ag 5) bg)) aZ)) (bb (c7 (dI (f:=λi j=>decide (i=j)) gS (ag 7) aZ (ck _)) (bn p3) c6) (bb (cC 8 lW.nd (bj nZ au (aH (c5 (ag 1) (ag 6)) (aH (ag 7) bg)))) (bb (c7 (qe (au.units) (bj us au (aH (ag 8) bg)) (ag 0) (ck _)) (bn p3) c6) (bn (bO (ag 8)))))))))),?_⟩);rintro as k ax ⟨x,y,rfl,l,hx,hy,hk⟩;refine cj rfl ?_;have c0:0<y:=l.1;have GP:(10:Int)^30=1000000000000000000000000000000:=rfl;have af2:=j' hx hy;refine eJ (λρ=>∃(bV:Int)(a:Nat),ρ=[.val (.str (S (cL x y))),.val (.int bV),.val (.str (S (cL (a:Int) y))),.no,.no,.no,.no,.no,.no]/\(bV=1\/bV = -1)/\bV*a=x/\a=x.natAbs) ?_ (λN be=>?_);rotate_left
 ·refine⟨_,rfl,_,rfl,_,rfl,_,rfl,?_⟩;by_cases h:x<0
  ·have o6:mz (S (cL x y))=S (cL (-x) y):=by rw[C1 h];exact N6 _ _
   have am : -x=((x.natAbs:Nat):Int):=by lia
   refine qf (by rw[C1 h];exact OA _ _) ?_;refine⟨_,rfl,_,rfl,_,rfl,?_,?_⟩
   ·rw[o6,am];exact SE (j' (x:=((x.natAbs:Nat):Int)) (by lia) hy) (by decide)
   rw[o6,am];exact⟨hH,_,rfl,rfl,_,_,rfl,_,_,rfl,rfl,be _ ⟨-1,x.natAbs,rfl,.inr rfl,by lia,rfl⟩⟩
  have am:((x.natAbs:Nat):Int)=x:=by lia
  refine mm (OB (OF (by lia))) ?_;exact⟨_,rfl,hH,_,rfl,rfl,_,_,rfl,_,_,rfl,rfl,be _ ⟨1,x.natAbs,by rw[am];rfl,.inl rfl,by lia,rfl⟩⟩
 rintro ρ ⟨bV,a,rfl,av,tq,aq⟩;have fg:a<1000000000000000000000000000000:=by lia
 have abN:((a:Nat):Int).natAbs<1000000000000000000000000000000:=by lia
 have jE:dL (a:Int)=cT a:=C2 (by lia);have iS:dL y=cT y.natAbs:=C2 (by lia);have df:=j' abN hy;refine eJ (λρ=>∃st ut:Str,ρ=[.val (.str (S (cL x y))),.val (.int bV),.val (.str (S (cL (a:Int) y))),.val (.str (S (cT a))),.val (.str st),.val (.str ut),.no,.no,.no]/\((y=1/\st=S [])\/(st=S [47]/\ut=S (cT y.natAbs)))) ?_ (λN be=>?_);rotate_left
 ·refine⟨_,rfl,_,rfl,_,rfl,rfl,ki df,?_⟩;rw[xu];by_cases h:y=1
  ·have e:cL (a:Int) y=cT a:=by unfold cL;rw[TT h,jE]
   rw[e,Oz (C3 (by decide))];refine⟨_,rfl,rfl,_,_,rfl,_,_,rfl,_,_,rfl,rfl,be _ ⟨S [],S [],?_,.inl ⟨h,rfl⟩⟩⟩;rw[e];rfl
  have e:cL (a:Int) y=cT a++47::cT y.natAbs:=by unfold cL;rw[TW h,jE,iS]
  rw[e,CY (C3 (by decide))];refine⟨_,rfl,rfl,_,_,rfl,_,_,rfl,_,_,rfl,rfl,be _ ⟨S [47],S (cT y.natAbs),?_,.inr ⟨rfl,rfl⟩⟩⟩;rw[e];rfl
 rintro ρ ⟨st,ut,rfl,hK⟩;refine⟨_,rfl,rfl,a,rfl,fg,?_⟩;dsimp only[eI];refine eJ (λρ=>ρ=[.val (.str (S (cL x y))),.val (.int bV),.val (.str (S (cL (a:Int) y))),.val (.str (S (cT a))),.val (.str st),.val (.str ut),.val (.int a),.val (.int y),.no]) ?_ (λN be=>?_);rotate_left
 ·rcases hK with⟨aa,rfl⟩|⟨rfl,rfl⟩
  ·refine⟨_,rfl,_,rfl,by decide,mm rfl ?_⟩;refine be _ ?_;rw[aa];rfl
  refine⟨_,rfl,_,rfl,by decide,qf rfl ?_⟩;refine⟨_,rfl,rfl,y.natAbs,rfl,hy,be _ ?_⟩;have e:((y.natAbs:Nat):Int)=y:=by lia
  rw[e];rfl
 rintro ρ rfl;refine⟨_,rfl,_,_,rfl,rfl,_,rfl,dr (λg=>absurd g (by lia)) (λ_=>?_)⟩;have af3:T0 (a:Int)<=100:=lD (by lia) (by lia);have bs:T0 bV<=100:=lD (by lia) (by lia);have af4:T0 y<=100:=lD (by lia) (by lia);refine⟨_,rfl,_,rfl,_,_,rfl,rfl,⟨by lia,by lia⟩,_,rfl,rfl,_,_,rfl,by lia,by lia,?_⟩;dsimp only;rw[tq,qJ l (by lia) rfl];refine⟨_,rfl,rfl,x,y,rfl,hx,hy,_,rfl,.S,rfl,rfl,by decide,_,rfl,qg (λh=>absurd rfl h) (λ_=>?_)⟩;exact⟨_,rfl,hk⟩
theorem uu:FnT ["text","right","comma","up"] 1 (bR u7):=by walk_at"sc"
def GV  : b4:=λas k=>∃(x y u v:Int),as=[.val (.str (S (cL x y++44::cL u v)))]/\(eF x y)/\(eF u v)/\(x.natAbs<1000000000000000000000000000000)/\(y.natAbs<1000000000000000000000000000000)/\(u.natAbs<1000000000000000000000000000000)/\(v.natAbs<1000000000000000000000000000000)/\k (.val (bo (dd (x*v) (u*y) (y*v))))
theorem abO(B:cm mg)(F:cd K mg "read_point" u7 ["text"])(abP:aX P w K mg base "at" ["x","y"] 3 (aY K 2 Gp))(GW:aX P w K mg base "read_ratio" ["text"] 4 (aY K 1 GT)):
  aX P w K mg base "read_point" ["text"] 5 (aY K 1 GV):=by
 refine cz F uu rfl (λ_ _ _ _ _ _ _ au=>⟨_,(bb (jL (CV (ag 0) gW) (gF (n:=3) rfl (c8 (cO 1 uu.nd) (c8 (cO 2 uu.nd) (c8 (cO 3 uu.nd) gE))))) (bn (bO (bj abP au (aH (bj GW au (aH (ag 1) bg)) (aH (bj GW au (aH (ag 3) bg)) bg)))))),?_⟩);rintro as k ax ⟨x,y,u,v,rfl,l1,l2,hx,hy,hu,hv,hk⟩;refine cj rfl ?_;walk_at"wd";have GP:(10:Int)^30=1000000000000000000000000000000:=rfl;have s1:=j' hx hy;have aI:=j' hu hv;refine⟨by rw[eL,SU,SR];exact SE (show(cL x y).length+((cL u v).length+1)<=1000 by lia) (by decide),?_⟩;rw[tm,CY (OG x y)];refine⟨_,rfl,rfl,_,_,rfl,_,_,rfl,_,_,rfl,rfl,?_⟩;refine⟨_,rfl,rfl,x,y,rfl,l1,hx,hy,_,rfl,rfl,u,v,rfl,l2,hu,hv,rfl,x,y,u,v,rfl,l1,l2,?_,?_,?_,?_,hk⟩
 ·exact SE (lD (by lia) (by lia)) (by decide)
 ·exact SE (lD (by lia) (by lia)) (by decide)
 ·exact SE (lD (by lia) (by lia)) (by decide)
 exact SE (lD (by lia) (by lia)) (by decide)
theorem GX:FnT ["_law_top","_law_bottom_here","_law_one"] 2 (bR vu):=by walk_at"sc"
def GY  : b4:=λas k=>∃(t b:Int),as=[.val (.int t),.val (.int b)]/\(0<b)/\(T0 b<=9000)/\((bM t b).1.natAbs<1000000000000000000000000000000)/\((bM t b).2.natAbs<1000000000000000000000000000000)/\k (.val (.str (S (cL (bM t b).1 (bM t b).2))))
theorem abQ(B:cm mg)(F:cd K mg "_law_text" vu ["_law_top","_law_bottom_here"])(abR:aX P w K mg base "_law_lowest" ["_law_top","_law_bottom_here"] 3 (aY K 2 F0)):
  aX P w K mg base "_law_text" ["_law_top","_law_bottom_here"] 4 (aY K 2 GY):=by
 refine cz F GX rfl (λ_ _ _ _ _ _ _ au=>⟨_,(bb (cC 2 GX.nd (bj abR au (aH (ag 0) (aH (ag 1) bg)))) (bb (c7 (dI (f:=λi j=>decide (i=j)) gS (ei 2) aZ (ck _)) (bn (bO (ta (ei 2) (by rfl) B.str_))) c6) (bn (bO (qN (qN (ta (ei 2) (by rfl) B.str_) gW) (ta (ei 2) (by rfl) B.str_)))))),?_⟩);rintro as k ax ⟨t,b,rfl,ae,o5,hx,hy,hk⟩;refine cj rfl ?_;walk_at"wd";refine⟨t,b,rfl,ae,o5,?_⟩;dsimp only;generalize kg:(bM t b).1=x at *;generalize o2:(bM t b).2=y at *;have d4:bT (bM t b)=bT (x,y):=by rw[<-kg,<-o2]
 rw[d4];unfold cL at hk;refine⟨_,rfl,_,_,_,.inl rfl,rfl,rfl,_,_,rfl,rfl,_,rfl,dr (λg=>?_) (λg=>?_)⟩
 ·rw[TT g]at hk;refine⟨_,rfl,_,_,_,.inl rfl,rfl,rfl,_,rfl,log2_lt hx,?_⟩;rw[yy];exact hk
 rw[TW g]at hk;refine⟨_,rfl,_,_,_,.inl rfl,rfl,rfl,_,rfl,log2_lt hx,?_⟩;rw[yy,xu];have nm:=oV hx;have K2:=oV hy;refine⟨_,_,rfl,rfl,by rw[eL,eL];exact SE (show(dL x).length+1<=100 by lia) (by decide),?_⟩;rw[h1];refine⟨_,rfl,_,_,_,.inl rfl,rfl,rfl,_,rfl,log2_lt hy,?_⟩;rw[yy];refine⟨_,_,rfl,rfl,by rw[eL,eL,SU];exact SE (show(dL x).length+1+(dL y).length<=100 by lia) (by decide),?_⟩;rw[h1,Ub];exact hk
theorem zl:FnT ["_law_rings","_law_n","_law_texts","_law_ring"] 2 (bR vv):=by walk_at"sc"
def GZ  : b4:=λas k=>∃(rs:dC)(n:Int),as=[.val (.lst (rs.map ez)),.val (.int n)]/\(rs.length<=8)/\(∀ps∈rs,(3<=ps.length/\ps.length<=24)/\∀p∈ps,dm p)/\(0<n)/\(n<=1000000000039)/\k (.val (.str (S (ju n rs))))
theorem abS(B:cm mg)(F:cd K mg "_law_written" vv ["_law_rings","_law_n"])(G0:aX P w K mg base "_law_text" ["_law_top","_law_bottom_here"] 4 (aY K 2 GY)):
  aX P w K mg base "_law_written" ["_law_rings","_law_n"] 5 (aY K 2 GZ):=by
 refine cz F zl rfl (λ_ _ _ _ _ _ _ au=>⟨_,(bb (oz (i:=2) zl.nd rfl (SQ rfl) (fJ cc)) (bb (jM PassesOwn.never rfl (fY (ag 0)) (cO 3 zl.nd) (bn (p7 2 (te gW (jZ (ts:=["_law_p"]) (fr:=["_law_n"]) (js:=[1]) (fY (ag 3)) (λ_ _ _ _=>(fX (i:=0) (show S6 (["_law_p","_law_n"]:af9) by decide +kernel) rfl (SQ rfl))) (λ_ _ _ _=>g4) (λ_ _ _ _=>(qN (qN (bj G0 au (aH (ei 0) (aH (ag 1) bg))) gW) (bj G0 au (aH (ei 0) (aH (ag 1) bg))))) ⟨rfl,by decide +kernel,rfl,by decide +kernel,gc (Tr.mpr ⟨rfl,(Tb _)⟩),gs rfl,by walk_at"ffr",rfl⟩))))) (sv 2 (bb (c7 (sJ (au.units) (ag 2) (c' (fJ cc)) (ck _)) (bn (bO gW)) c6) (bn (bO (Rx gW (ag 2)))))))),?_⟩);rintro as k ax ⟨rs,n,rfl,ax,av,bK,bx,hk⟩;refine cj rfl ?_;have gf:75<=TI:=by decide
 have i5:T0 n<=9000:=SE (lc (by lia) (by lia)) (by decide:64<=9000);have s1:Str.ofString " "=S [32]:=by decide
 have aI:Str.ofString "; "=S [59,32]:=by decide
 have bI:Str.ofString "none"=S [110,111,110,101]:=by decide
 walk_at"w";refine oJ (f:=ez) (rs:=rs) (done:=[]) (λpre ρ=>∃ag,ρ=[.val (.lst (rs.map ez)),.val (.int n),.own ((pre.map λps=>S (eB n ps)).map D.str),ag]) ⟨_,rfl⟩ ?_ (λρ h=>?_)
 ·rintro pre ps rest ρ aF ⟨ag,rfl⟩ N be;rw[Tp]at aF;have mem:ps∈rs:=by rw[aF];simp
  obtain⟨⟨fN,af5⟩,G1⟩:=av ps mem;walk_at"w";rw[s1];refine⟨by rw[Sw];lia,?_⟩;refine ix (f:=bT) (h:=λp=>D.str (S (gn n p))) (rs:=ps) (λp ak k hk=>?_) ?_
  ·have b:=pi bK bx (G1 p ak);have dy:=j' b.hx b.hy;have dJ:=j' b.hu b.hv;refine⟨_,rfl,_,_,_,.inl rfl,rfl,rfl,_,rfl,rfl,p.1,n,rfl,bK,i5,b.hx,b.hy,?_⟩;refine⟨_,_,rfl,rfl,by rw[tm,eL,eL];exact SE (show(cL (bM p.1 n).1 (bM p.1 n).2).length+1<=1000 by lia) (by decide),?_⟩;rw[tm,h1];refine⟨_,rfl,_,_,_,.inl rfl,rfl,rfl,_,rfl,rfl,p.2,n,rfl,bK,i5,b.hu,b.hv,?_⟩;refine⟨_,_,rfl,rfl,by rw[eL,eL,SU];exact SE (show(cL (bM p.1 n).1 (bM p.1 n).2).length+1+(cL (bM p.2 n).1 (bM p.2 n).2).length<=1000 by lia) (by decide),?_⟩;rw[h1,Ub];exact hk
  refine⟨(ps.map (gn n)).map S,by rw[SI,SI];rfl,ua ?_,?_⟩
  ·rw[SI,SI]
   have:=rq (l:=ps) (f:=((λx:Str=>x.length+(S [32]).length)∘S)∘gn n) (m:=128) λp ak=>by
    have:=yT (pi bK bx (G1 p ak));show(S (gn n p)).length+(S [32]).length<=128
    rw[eL,eL];exact Vo this 1
   lia
  rw[FV];refine⟨by rw[Sw,Sw];have:=Ye S' aF;rw[SU,SR]at this;lia,be _ ⟨.val (ez ps),?_⟩⟩;have e:((pre++[ps]).map λps=>S (eB n ps)).map D.str=(pre.map λps=>S (eB n ps)).map D.str++[D.str (S (gi 32 (ps.map (gn n))))]:=by simp[eB]
  rw[e];rfl
 obtain⟨ag,rfl⟩:=h;rw[Tp];refine⟨_,rfl,?_⟩;unfold ju at hk;have b6:((rs.map λps=>S (eB n ps)).map D.str)=[]↔rs=[]:=by rw[Ur,Ur]
 refine⟨_,rfl,Tu _,.L .S,FX _,rfl,by decide,_,rfl,?_⟩;by_cases e:rs=[]
 ·subst e;rw[TT rfl]at hk;refine qf (oC _) ?_;rwa[<-bI]at hk
 rw[TW e]at hk
 refine mm (by
  show eqD _ _=false
  cases c:eqD (D.lst ((rs.map λps=>S (eB n ps)).map D.str)) (D.lst [])with
  |false=>rfl
  |true=>exact absurd (Ur.mp (Ur.mp (D.lst.inj (jP.mp c)))) e) ?_
 refine⟨_,rfl,_,rfl,rs.map λps=>S (eB n ps),rfl,?_,?_⟩
 ·rw[aI];refine ua ?_;rw[SI]
  have:=rq (l:=rs) (f:=(λx:Str=>x.length+(S [59,32]).length)∘λps=>S (eB n ps)) (m:=4000) λps ak=>by
   have:=ub bK bx (av ps ak).1.2 (av ps ak).2;show(S (eB n ps)).length+(S [59,32]).length<=4000
   rw[eL,eL];exact SE (Vo this 2) (by decide)
  lia
 have am:(rs.map λps=>S (eB n ps))=(rs.map (eB n)).map S:=by rw[SI];rfl
 rw[aI,am,FW];exact hk
theorem rD:FnT ["_law_bag_here","_law_rings","_law_made","_law_ring","_law_spot"] 2 (bR vw):=by walk_at"sc"
def G2  : b4:=λas k=>∃(rs:dC),as=[.bag,.val (.lst (rs.map ez))]/\(fO rs)/\(∀ps∈rs,∀p∈ps,jt p)/\∀a9:dC,fO a9->(∀ps∈a9,∀p∈ps,jt p)->k (.own (a9.map ez))
theorem abT(B:cm mg)(F:cd K mg "_law_turned_about" vw ["_law_bag_here","_law_rings"])(eT:aX P w K mg base "_law_draw" ["_law_bag_here","_law_many"] 1 (aY K 2 (lx 400))):
  aX P w K mg base "_law_turned_about" ["_law_bag_here","_law_rings"] 2 (aY K 2 G2):=by
 refine cz F rD rfl (λ_ _ _ _ _ _ _ au=>⟨_,(bb (oz (i:=2) rD.nd rfl (SQ rfl) (fJ cc)) (bb (jM PassesOwn.never rfl (fY (ag 1)) (cO 3 rD.nd) (bb (cC 4 rD.nd (bj eT au (el 0 (aH (ip (ag 3) (by rfl) B.len_) bg)))) (bn (p7 2 (c' (mh (c' (kD (ag 3) (jN (ag 4)) lq)) (c' (kD (ag 3) lq (jN (ag 4)))))))))) (bb (cC 4 rD.nd (bj eT au (el 0 (aH (hC (Ks 2 (by rfl) B.len_) aZ) bg)))) (sv 2 (bn (oy (mh (c' (kD (ag 2) (jN (ag 4)) lq)) (c' (kD (ag 2) lq (jN (ag 4))))))))))),?_⟩);rintro as k ax ⟨rs,rfl,cl,av,hk⟩;refine cj rfl ?_;have gf:75<=TI:=by decide
 have abU:∀ps∈rs,ps.length<=24:=λps ak=>SE (q3 (SF.mpr ⟨ps,ak,rfl⟩)) cl.n24;have af6:=cl.n8;walk_at"w";refine oJ (f:=ez) (rs:=rs) (done:=[]) (λpre ρ=>∃ag dn zs,ρ=[.bag,.val (.lst (rs.map ez)),.own ((zs.map (·.2)).map ez),ag,dn]/\zs.map (·.1)=pre/\∀z∈zs,t4 id z) ⟨_,_,[],rfl,rfl,λ_ h=>by cases h⟩ ?_ (λρ h=>?_)
 ·rintro pre ps rest ρ aF ⟨ag,dn,zs,rfl,dj,hz⟩ N be;rw[Tp]at aF;have mem:ps∈rs:=by rw[aF];simp
  have gd:=(cl.ring ps mem).1;have pr:=abU ps mem;walk_at"w";rw[Sw];refine⟨by lia,SE (lc (by lia) (by lia)) (by decide),λi jm bD=>?_⟩;obtain⟨i,rfl⟩:=TV jm;walk_at"w";rw[sT (by lia) (by rw[Sw];lia),sS (by lia) (by rw[Sw];lia),show((i:Nat):Int).toNat=i by lia,<-Ue,<-Up];refine⟨by rw[Sw,Sw,Ts,Th];lia,?_⟩;rw[<-S0]
  have ue:zs.length<=8:=by
   have ah:=Ye S' dj;have am:=Ye S' aF;rw[Sw]at ah;rw[SU,SR]at am;lia
  refine⟨by rw[Sw,Sw];lia,be _ ⟨.val (ez ps),.val (.int i),zs++[(ps,ps.drop i++ps.take i)],?_,by rw[S0,dj];rfl,λz h=>?_⟩⟩
  ·have e:((zs++[(ps,ps.drop i++ps.take i)]).map (·.2)).map ez=(zs.map (·.2)).map ez++[D.lst ((ps.drop i++ps.take i).map bT)]:=by simp
   rw[e];rfl
  rcases S3.mp h with h|h
  ·exact hz z h
  rw[SP.mp h];exact R5 (by lia)
 obtain⟨ag,dn,zs,rfl,dj,hz⟩:=h;rw[Tp]at dj;have G3:fO (zs.map (·.2)):=fO.alk (g:=id) (λ_ _ _ _=>rfl) (by rw[dj];exact cl) hz
 have sz:∀ps∈zs.map (·.2),∀p∈ps,jt p:=λps ak p aA=>by
  obtain⟨z,az,rfl⟩:=SF.mp ak;obtain⟨q,jq,e⟩:=(hz z az).mem p aA;rw[e];exact av z.1 (by rw[<-dj];exact SF.mpr ⟨z,az,rfl⟩) q jq
 generalize zs.map (·.2)=aO at *;have af7:=G3.n8;refine⟨rfl,_,rfl,_,_,rfl,rfl,rfl,?_⟩;rw[Sw];refine⟨_,rfl,by lia,SE (lc (by lia) (by lia)) (by decide),λi jm bD=>?_⟩;obtain⟨i,rfl⟩:=TV jm;refine⟨_,rfl,?_⟩;walk_at"w";rw[sT (by lia) (by rw[Sw];lia),sS (by lia) (by rw[Sw];lia),show((i:Nat):Int).toNat=i by lia,<-Ue,<-Up];refine⟨by rw[Sw,Sw,Ts,Th];lia,?_⟩;rw[<-S0];have pm:aO.Perm (aO.drop i++aO.take i):=(V2 (UG i aO).symm).trans Xb;exact hk _ (G3.perm pm) λps ak=>sz ps (pm.mem_iff.mpr ak)
theorem zm:FnT ["_law_found","_law_due","_law_one","_law_two"] 2 (bR vx):=by walk_at"sc"
def G4  : b4:=λas k=>∃(rs:List Z9),as=[.val (.lst (rs.map cq)),.val (.lst (rs.map cq))]/\(rs.length<=8)/\(∀ps∈rs,ps.length<=24)/\k (.val (.bl true))
theorem abV(B:cm mg)(F:cd K mg "_law_is_told" vx ["_law_found","_law_due"])(abW:aX P w K mg base "_law_same" ["_law_found","_law_due"] 3 (aY K 2 F2)):
  aX P w K mg base "_law_is_told" ["_law_found","_law_due"] 4 (aY K 2 G4):=by
 refine cz F zm rfl (λ_ _ _ _ _ _ _ au=>⟨_,(bb (c7 (iX (w_or (jf (fI (p2 (T:="list") (ag 0) (by rfl) B.isinstance_ (pA (v:=.ty "list") (u:=.type "list") (by rfl) B.list_ (by decide +kernel) rfl) rfl rfl rfl))) (lj (dI (f:=λi j => !decide (i=j)) pP (ip (ag 0) (by rfl) B.len_) (ip (ag 1) (by rfl) B.len_) (ck _))))) (bn (bO fj)) c6) (bb (P7 PassesOwn.never rfl (EG (ag 0) (ag 1) (by rfl) B.zip_) (gF (n:=2) rfl (c8 (cO 2 zm.nd) (c8 (cO 3 zm.nd) gE))) (bb (c7 (iX (w_or (jf (fI (p2 (T:="list") (ag 2) (by rfl) B.isinstance_ (pA (v:=.ty "list") (u:=.type "list") (by rfl) B.list_ (by decide +kernel) rfl) rfl rfl rfl))) (lj (dI (f:=λi j => !decide (i=j)) pP (ip (ag 2) (by rfl) B.len_) (ip (ag 3) (by rfl) B.len_) (ck _))))) (bn (bO fj)) c6) (bn (c7 (jf (fI (BL (c' (P1 (ts:=["_law_p","_law_q"]) (fr:=[]) (js:=[]) (EG (ag 2) (ag 3) (by rfl) B.zip_) (λ_ _ _ _=>(gF (n:=2) rfl (c8 (fX (i:=0) (show S6 (["_law_p","_law_q"]:af9) by decide +kernel) rfl (SQ rfl)) (c8 (fX (i:=1) (show S6 (["_law_p","_law_q"]:af9) by decide +kernel) rfl (SQ rfl)) gE)))) (λ_ _ _ _=>g4) (λ_ _ _ _=>(bj abW au (aH (ag 0) (aH (ag 1) bg)))) ⟨rfl,by decide +kernel,rfl,by decide +kernel,gc (Tb _),gs rfl,by walk_at"ffr",rfl⟩)) rfl (by rfl) B.all_))) (bn (bO fj)) c6)))) (bn (bO fj)))),?_⟩);rintro as k ax ⟨rs,rfl,ax,au,hk⟩;refine cj rfl ?_;have gf:75<=TI:=by decide
 walk_at"w";rw[show(!decide (((rs.map cq).length:Int)=((rs.map cq).length:Int)))=false by rw[Tl rfl];rfl];refine mm rfl ?_;refine sL (λN be=>be) ?_;refine eJ (λρ=>∃v2 ag,ρ=[.val (.lst (rs.map cq)),.val (.lst (rs.map cq)),v2,ag]) (λρ ⟨v2,ag,e⟩=>by subst e;exact hk) (λN be=>?_);refine⟨_,rfl,_,rfl,_,_,rfl,rfl,?_⟩;rw[yU];refine xN (f:=cq) (g:=cq) (rs:=rs) (done:=[]) (λpre ρ=>∃v2 ag,ρ=[.val (.lst (rs.map cq)),.val (.lst (rs.map cq)),v2,ag]) ⟨_,_,rfl⟩ ?_ (λρ h=>be _ h);rintro pre ps rest ρ aF ⟨v2,ag,rfl⟩ rB i7;rw[Tp]at aF;have mem:ps∈rs:=by rw[aF];simp
 have pr:=au ps mem;refine eJ (λρ=>ρ=[.val (.lst (rs.map cq)),.val (.lst (rs.map cq)),.val (cq ps),.val (cq ps)]) ?_ (λaf8 abX=>?_);rotate_left
 ·refine⟨_,rfl,_,_,rfl,λ_=>rfl,_,rfl,?_⟩;refine⟨_,rfl,_,rfl,_,rfl,_,rfl,_,_,rfl,rfl,_,rfl,mm (by rw[Tl rfl];rfl) (abX _ rfl)⟩
 rintro ρ rfl;refine⟨_,rfl,_,rfl,_,_,rfl,rfl,?_⟩;rw[yU];refine⟨by rw[Sw];exact ki pr,?_⟩;refine Eb (f:=bo) (g:=bo) (h:=λ_=>D.bl true) (rs:=ps) (λp ak k hk=>?_) ?_
 ·refine⟨_,rfl,_,rfl,rfl,[p.1,p.2.1,p.2.2],[p.1,p.2.1,p.2.2],rfl,rfl,(by decide:3<=3),?_⟩;rw[oC];exact hk
 refine⟨_,rfl,λd hd=>?_,_,rfl,i7 _ ⟨_,_,rfl⟩⟩;obtain⟨_,_,rfl⟩:=SF.mp hd;rfl
theorem abY:FnT ["ring"] 1 (bR u0):=by walk_at"sc"
def G5  : b4:=λas k=>∃(ps:Z6)(n:Int),as=[.val (cq (ps.map (hP n)))]/\(ps.length<=24)/\(∀p∈ps,dm p)/\(0<n)/\(n<=1000000000039)/\k (.val (.str (S (eB n ps))))
theorem abZ(B:cm mg)(F:cd K mg "show_ring" u0 ["ring"])(ab0:aX P w K mg base "show_point" ["p"] 5 (aY K 1 GO)):
  aX P w K mg base "show_ring" ["ring"] 6 (aY K 1 G5):=by
 refine cz F abY rfl (λ_ _ _ _ _ _ _ au=>⟨_,(bn (bO (te gW (jZ (ts:=["corner"]) (fr:=[]) (js:=[]) (fY (ag 0)) (λ_ _ _ _=>(fX (i:=0) (show S6 (["corner"]:af9) by decide +kernel) rfl (SQ rfl))) (λ_ _ _ _=>g4) (λ_ _ _ _=>(bj ab0 au (aH (ag 0) bg))) ⟨rfl,by decide +kernel,rfl,by decide +kernel,gc (Tb _),gs rfl,by walk_at"ffr",rfl⟩)))),?_⟩);rintro as k ax ⟨ps,n,rfl,ax,av,bK,bx,hk⟩;refine cj rfl ?_;have s1:Str.ofString " "=S [32]:=by decide
 walk_at"w";rw[s1,SI];refine⟨by rw[Sw];exact ki ax,?_⟩;refine ix (f:=bo∘hP n) (h:=λp=>D.str (S (gn n p))) (rs:=ps) (λp ak k hk=>?_) ?_
 ·have b:=pi bK bx (av p ak);refine⟨_,rfl,rfl,(bM p.1 n).1,(bM p.1 n).2,(bM p.2 n).1,(bM p.2 n).2,?_,b.l1,b.l2,b.hx,b.hy,b.hu,b.hv,hk⟩;rw[FO bK];rfl
 refine⟨(ps.map (gn n)).map S,by rw[SI,SI];rfl,ua ?_,?_⟩
 ·rw[SI,SI]
  have:=rq (l:=ps) (f:=((λx:Str=>x.length+(S [32]).length)∘S)∘gn n) (m:=128) λp ak=>by
   have:=yT (pi bK bx (av p ak));show(S (gn n p)).length+(S [32]).length<=128
   rw[eL,eL];exact Vo this 1
  lia
 rw[FV];exact hk
theorem ab1:FnT ["cloth"] 1 (bR u3):=by walk_at"sc"
def G6  : b4:=λas k=>∃(rs:dC)(n:Int),as=[.val (.lst ((rs.map λps=>ps.map (hP n)).map cq))]/\(rs.length<=8)/\(∀ps∈rs,(3<=ps.length/\ps.length<=24)/\∀p∈ps,dm p)/\(0<n)/\(n<=1000000000039)/\k (.val (.str (S (ju n rs))))
theorem ab2(B:cm mg){zn:Tok}(pu:mg "NO_RINGS"=some (.str (Xf "none") zn))(F:cd K mg "show_cloth" u3 ["cloth"])(ab3:aX P w K mg base "show_ring" ["ring"] 6 (aY K 1 G5)):
  aX P w K mg base "show_cloth" ["cloth"] 7 (aY K 1 G6):=by
 refine cz F ab1 rfl (λ_ _ _ _ _ _ _ au=>⟨_,(bb (c7 (jf (OW (ag 0))) (bn (bO (xp pu (by rfl)))) c6) (bn (bO (te gW (jZ (ts:=["ring"]) (fr:=[]) (js:=[]) (fY (ag 0)) (λ_ _ _ _=>(fX (i:=0) (show S6 (["ring"]:af9) by decide +kernel) rfl (SQ rfl))) (λ_ _ _ _=>g4) (λ_ _ _ _=>(bj ab3 au (aH (ag 0) bg))) ⟨rfl,by decide +kernel,rfl,by decide +kernel,gc (Tb _),gs rfl,by walk_at"ffr",rfl⟩))))),?_⟩);rintro as k ax ⟨rs,n,rfl,ax,av,bK,bx,hk⟩;refine cj rfl ?_;have aI:Str.ofString "; "=S [59,32]:=by decide
 have bI:Str.ofString "none"=S [110,111,110,101]:=by decide
 unfold ju at hk;walk_at"w";by_cases e:rs=[]
 ·subst e;rw[TT rfl]at hk;refine qf rfl ?_;rwa[<-bI]at hk
 rw[TW e]at hk;refine mm (by cases rs with|nil=>exact absurd rfl e|cons a r=>rfl) ?_;refine⟨_,rfl,_,rfl,_,rfl,by rw[Sw,Sw];exact ki ax,?_⟩;rw[SI];refine ix (f:=cq∘λps=>ps.map (hP n)) (h:=λps=>D.str (S (eB n ps))) (rs:=rs) (λps ak k hk=>?_) ?_
 ·exact⟨_,rfl,rfl,ps,n,rfl,(av ps ak).1.2,(av ps ak).2,bK,bx,hk⟩
 rw[aI];refine⟨(rs.map (eB n)).map S,by rw[SI,SI];rfl,ua ?_,?_⟩
 ·rw[SI,SI]
  have:=rq (l:=rs) (f:=((λx:Str=>x.length+(S [59,32]).length)∘S)∘eB n) (m:=4000) λps ak=>by
   have:=ub bK bx (av ps ak).1.2 (av ps ak).2;show(S (eB n ps)).length+(S [59,32]).length<=4000
   rw[eL,eL];exact SE (Vo this 2) (by decide)
  lia
 rw[FW];exact hk
theorem ab4:FnT ["text"] 1 (bR u8):=by walk_at"sc"
def G7  : b4:=λas k=>∃(ps:Z6)(n:Int),as=[.val (.str (S (eB n ps)))]/\(1<=ps.length)/\(ps.length<=24)/\(∀p∈ps,dm p)/\(0<n)/\(n<=1000000000039)/\k (.new (cq (ps.map (hP n))))
theorem ab5(B:cm mg)(F:cd K mg "read_ring" u8 ["text"])(ab6:aX P w K mg base "read_point" ["text"] 5 (aY K 1 GV)):
  aX P w K mg base "read_ring" ["text"] 6 (aY K 1 G7):=by
 refine cz F ab4 rfl (λ_ _ _ _ _ _ _ au=>⟨_,(bn (Cq (Co (jZ (ts:=["word"]) (fr:=[]) (js:=[]) (fY (c' (C4 (ag 0) gW))) (λ_ _ _ _=>(fX (i:=0) (show S6 (["word"]:af9) by decide +kernel) rfl (SQ rfl))) (λ_ _ _ _=>g4) (λ_ _ _ _=>(bj ab6 au (aH (ag 0) bg))) ⟨rfl,by decide +kernel,rfl,by decide +kernel,gc (Tb _),gs rfl,by walk_at"ffr",rfl⟩)))),?_⟩);rintro as k ax ⟨ps,n,rfl,l1,ax,av,bK,bx,hk⟩;refine cj rfl ?_;have s1:Str.ofString " "=S [32]:=by decide
 have cL:=ub bK bx ax av;walk_at"w";refine⟨by rw[eL];exact SE (Vo cL 2) (by decide),_,rfl,?_⟩;rw[s1,Rs (l:=eB n ps) (c:=32) (ps:=ps.map (gn n)) (λe=>by have:=Ur.mp e;rw[this]at l1;exact absurd l1 (by decide)) (λq aA=>by obtain⟨p,_,rfl⟩:=SF.mp aA;exact Sl) rfl,SI,SI];refine⟨by rw[Sw];exact ki ax,?_⟩;refine ix (f:=D.str∘S∘gn n) (h:=λp=>bo (hP n p)) (rs:=ps) (λp ak k hk=>?_) ?_
 ·have b:=pi bK bx (av p ak);refine⟨_,rfl,rfl,(bM p.1 n).1,(bM p.1 n).2,(bM p.2 n).1,(bM p.2 n).2,rfl,b.l1,b.l2,b.hx,b.hy,b.hu,b.hv,?_⟩;rw[FO bK];exact hk
 refine⟨FU _,?_⟩;rwa[show cq (ps.map (hP n))=D.lst (ps.map λp=>bo (hP n p)) by show D.lst _=_;rw[SI];rfl]at hk
theorem G8:FnT ["text","rings"] 1 (bR u9):=by walk_at"sc"
def G9  : b4:=λas k=>∃(rs:dC)(n:Int),as=[.val (.str (S (ju n rs)))]/\(rs.length<=8)/\(∀ps∈rs,(3<=ps.length/\ps.length<=24)/\∀p∈ps,dm p)/\(fO rs)/\(0<n)/\(n<=1000000000039)/\k (.new (.lst ((rs.map λps=>ps.map (hP n)).map cq)))
theorem ab7(B:cm mg){zn:Tok}(pu:mg "NO_RINGS"=some (.str (Xf "none") zn))(F:cd K mg "read_cloth" u9 ["text"])(ab8:aX P w K mg base "read_ring" ["text"] 6 (aY K 1 G7))(ab9:aX P w K mg base "is_cloth" ["rings"] 9 (aY K 1 GM)):
  aX P w K mg base "read_cloth" ["text"] 10 (aY K 1 G9):=by
 refine cz F G8 rfl (λ_ _ _ _ _ _ _ au=>⟨_,(bb (c7 (sJ (au.units) (ag 0) (xp pu (by rfl)) (ck _)) (bn (Cq (Co (fJ cc)))) c6) (QU (i:=1) rfl (SQ rfl) (QT G8.nd rfl rfl (ts:=["part"]) (fr:=[]) (js:=[]) (fY (c' (C4 (ag 0) gW))) (λ_ _ _ _=>(fX (i:=0) (show S6 (["part"]:af9) by decide +kernel) rfl (SQ rfl))) (λ_ _ _ _=>g4) (λ_ _ _ _=>(Cp ab8 au (by rfl) (aH (ag 0) bg))) ⟨rfl,by decide +kernel,rfl,by decide +kernel,gc (Tb _),gs rfl,by walk_at"ffr",rfl⟩) (jf (fI (bj ab9 au (aH (ag 1) bg)))) (bn p3))),?_⟩);rintro as k ax ⟨rs,n,rfl,ax,av,cl,bK,bx,hk⟩;refine cj rfl ?_;have aI:Str.ofString "; "=S [59,32]:=by decide
 have bI:Str.ofString "none"=S [110,111,110,101]:=by decide
 walk_at"w";refine⟨.S,rfl,rfl,by decide,_,rfl,?_⟩;by_cases e:rs=[]
 ·subst e;refine qf (by show eqD _ _=true;rw[bI];exact oC _) ?_;walk_at"w";exact hk
 have ne:ju n rs≠[110,111,110,101]:=Sn e λps ak z=>by have:=(av ps ak).1.1;rw[z]at this;exact absurd this (by decide)
 refine mm (by
  show eqD _ _=false
  rw[bI];cases c:eqD (.str (S (ju n rs))) (.str (S [110,111,110,101]))with
  |false=>rfl
  |true=>exact absurd (tj (D.str.inj (jP.mp c))) ne) ?_
 show EK _ _ _ _ _
 refine⟨by show 1<2;decide,λm c h=>?_,?_⟩
 ·match m,h with
  |0,h=>cases h
  |1,h=>cases h
  |m+2,h=>simp at h
 have lS:rs.map (eB n)≠[]:=λz=>e (Ur.mp z);have rr:ju n rs=fb 59 32 (rs.map (eB n)):=by unfold ju;rw[TW e]
 have ab':=FT (c:=59) (d:=32) (m:=3072) (ps:=rs.map (eB n)) λq aA=>by
  obtain⟨ps,ak,rfl⟩:=SF.mp aA;exact ub bK bx (av ps ak).1.2 (av ps ak).2
 rw[Sw]at ab';refine⟨_,rfl,_,rfl,_,rfl,by rw[aI];rfl,by rw[eL,rr];exact SE (show(fb 59 32 (rs.map (eB n))).length+2<=30000 by lia) (by decide),?_⟩;refine⟨_,rfl,?_⟩;rw[aI,Rv lS (λq aA=>by obtain⟨ps,_,rfl⟩:=SF.mp aA;exact Sk) rr,SI,SI];refine⟨by rw[Sw];exact ki ax,?_⟩;refine ix (f:=D.str∘S∘eB n) (h:=λps=>cq (ps.map (hP n))) (rs:=rs) (λps ak k hk=>?_) ?_
 ·have h:=av ps ak;exact⟨_,rfl,rfl,ps,n,rfl,by lia,h.1.2,h.2,bK,bx,_,rfl,hk⟩
 have bz:(rs.map λps=>cq (ps.map (hP n)))=(rs.map λps=>ps.map (hP n)).map cq:=by rw[SI];rfl
 rw[bz];refine⟨_,rfl,rfl,rs,n,rfl,λps ak=>⟨by have:=(av ps ak).1.2;lia,(av ps ak).2⟩,by lia,bK,by lia,_,rfl,?_⟩;rw[cl.cl];exact⟨rfl,hk⟩
theorem i9:FnT ["_law_script","_law_cell_here","_law_bag_here","_law_rings","_law_right","_law_up","_law_ring","_law_n","_law_due","_law_lent","_law_text_here","_law_found"] 1 (bR vy):=by walk_at"sc"
theorem aca{P:UF}{w:Yd}{K:Sx}{mg:Str->Option SL}{base:Yn}{f:TE}{fd:YK}(B:cm mg)(F:kw K "law" "law" vy f fd)(acb:aX P w K mg base "_law_cell" ["_law_script","_law_k"] 1 (aY K 2 wI))(acd:aX P w K mg base "_law_bag" ["_law_cell_here"] 1 (aY K 1 wJ))(ace:aX P w K mg base "_law_turned_about" ["_law_bag_here","_law_rings"] 2 (aY K 2 G2))(acf:aX P w K mg base "_law_cloth" ["_law_bag_here"] 6 (aY K 1 Gi))(eT:aX P w K mg base "_law_draw" ["_law_bag_here","_law_many"] 1 (aY K 2 (lx 400)))(ug:aX P w K mg base "_law_slid" ["_law_ring","_law_right","_law_up"] 2 (aY K 3 y4))(acg:aX P w K mg base "_law_bottom" ["_law_bag_here"] 2 (aY K 1 Gb))(ach:aX P w K mg base "_law_point" ["_law_a","_law_b","_law_n"] 3 (aY K 3 F3))(aci:aX P w K mg base "_law_written" ["_law_rings","_law_n"] 5 (aY K 2 GZ))(acj:aX P w K mg base "show_cloth" ["cloth"] 7 (aY K 1 G6))(G':aX P w K mg base "read_cloth" ["text"] 10 (aY K 1 G9))(Ha:aX P w K mg base "_law_is_told" ["_law_found","_law_due"] 4 (aY K 2 G4)):
  ij P w K mg base jG 11 f fd ["_law_script"] (sK K):=by
 refine ij.imp (sp:=aY K 1 Bp) ?_ (λvs H Q E h=>Lb h);refine La (lv:=10) F i9 rfl (λ_ _ _ _ _ _ au=>⟨_,(bb (jM PassesOwn.never rfl (fY (c' (mh (c' (fJ (ba (bj acb au (aH (ag 0) (aH aZ bg))) cc))) (c' (kD (ag 0) (jN aZ) (jN aZ)))))) (cO 1 i9.nd) (bb (K0 (i:=2) i9.nd rfl (SQ rfl) (KY acd au (by rfl) (aH (ag 1) bg))) (bb (cC 3 i9.nd (bj ace au (el 2 (aH (bj acf au (el 2 bg)) bg)))) (bb (sw (i:=4) i9.nd rfl (UL rfl) (dQ (bj eT au (el 2 (aH aZ bg))) aZ)) (bb (sw (i:=5) i9.nd rfl (UL rfl) (dQ (bj eT au (el 2 (aH aZ bg))) aZ)) (bb (qv 3 (oI (i:=3) i9.nd rfl rfl (ts:=["_law_ring"]) (fr:=["_law_right","_law_up"]) (js:=[4,5]) (fY (ag 3)) (λ_ _ _ _=>(fX (i:=0) (show S6 (["_law_ring","_law_right","_law_up"]:af9) by decide +kernel) rfl (SQ rfl))) (λ_ _ _ _=>g4) (λ_ _ _ _=>(bj ug au (aH (ag 0) (aH (ag 1) (aH (ag 2) bg))))) ⟨rfl,by decide +kernel,rfl,by decide +kernel,gc (Tr.mpr ⟨rfl,(Tr.mpr ⟨rfl,(Tb _)⟩)⟩),gs rfl,by walk_at"ffr",rfl⟩)) (bb (sw (i:=7) i9.nd rfl (UL rfl) (bj acg au (el 2 bg))) (bb (qv 8 (oI (i:=8) i9.nd rfl rfl (ts:=["_law_ring"]) (fr:=["_law_n"]) (js:=[7]) (fY (ag 3)) (λ_ _ _ _=>(fX (i:=0) (show S6 (["_law_ring","_law_n"]:af9) by decide +kernel) rfl (SQ rfl))) (λ_ _ _ _=>g4) (λ_ _ _ _=>(c' (jZ (ts:=["_law_p"]) (fr:=["_law_n"]) (js:=[1]) (fY (ag 0)) (λ_ _ _ _=>(fX (i:=0) (show S6 (["_law_p","_law_n"]:af9) by decide +kernel) rfl (SQ rfl))) (λ_ _ _ _=>g4) (λ_ _ _ _=>(bj ach au (aH (ei 0) (aH (ei 0) (aH (ag 1) bg))))) ⟨rfl,by decide +kernel,rfl,by decide +kernel,gc (Tr.mpr ⟨rfl,(Tb _)⟩),gs rfl,by walk_at"ffr",rfl⟩))) ⟨rfl,by decide +kernel,rfl,by decide +kernel,gc (Tr.mpr ⟨rfl,(Tb _)⟩),gs rfl,by walk_at"ffr",rfl⟩)) (bb (qv 9 (oI (i:=9) i9.nd rfl rfl (ts:=["_law_ring"]) (fr:=[]) (js:=[]) (fY (ag 8)) (λ_ _ _ _=>(fX (i:=0) (show S6 (["_law_ring"]:af9) by decide +kernel) rfl (SQ rfl))) (λ_ _ _ _=>g4) (λ_ _ _ _=>(c' (KR (ag 0) (by rfl) B.list_))) ⟨rfl,by decide +kernel,rfl,by decide +kernel,gc (Tb _),gs rfl,by walk_at"ffr",rfl⟩)) (bb (cC 10 i9.nd (bj aci au (aH (ag 3) (aH (ag 7) bg)))) (bb (c7 (iX (w_or (qe (au.units) (bj acj au (aH (ag 9) bg)) (ag 10) (ck _)) (lj (qe (au.units) (ag 9) (ag 8) (ck _))))) (bn (bO fj)) c6) (Nl (i:=11) (I:=[11,6]) (by decide) i9.nd rfl (SQ rfl) (Cp G' au (by rfl) (aH (ag 10) bg)) (Nj (jf (fI (bj Ha au (aH (ag 11) (aH (ag 8) bg))))) (bn (bO fj)) (Q2 (j:=6) (by decide) i9.nd rfl rfl (SQ rfl) (SQ rfl) (SQ rfl) PassesOwn.never rfl (bn (c7 (jf (fI (bj Ha au (aH (bj G' au (aH (ag 10) bg)) (aH (ag 8) bg))))) (bn (bO fj)) c6)))))))))))))))) (bn (bO fj))),?_⟩);rintro as k ax ⟨ns,rfl,ack,hk⟩;refine cj rfl ?_;have gf:1000<=TI:=by decide
 walk_at"w";refine⟨ns,0,rfl,by decide,λz=>?_⟩;walk_at"w";refine⟨Lk ack,_,rfl,?_⟩;refine Bu (λρ=>∃v1 v2 ag dn dW d2 zo zp uv v10 v11,ρ=[.val (.scr ns),v1,v2,ag,dn,dW,d2,zo,zp,uv,v10,v11]) ⟨_,_,_,_,_,_,_,_,_,_,_,rfl⟩ Lj ?_ ?_;rotate_left
 ·rintro ρ ⟨v1,v2,ag,dn,dW,d2,zo,zp,uv,v10,v11,rfl⟩;exact hk
 rintro c ρ ⟨v1,v2,ag,dn,dW,d2,zo,zp,uv,v10,v11,rfl⟩ N be;refine⟨_,rfl,rfl,c,rfl,rfl,?_⟩;refine⟨rfl,rfl,rfl,rfl,λacl kS e0=>?_⟩;dsimp only[eI];refine⟨rfl,acl,rfl,kS,e0,λmJ br s1=>?_⟩;dsimp only[eI];have n8:=br.n8;refine cj rfl ?_;walk_at"w";intro a gP dy;walk_at"w";intro b kT b7;walk_at"w";refine⟨by rw[Sw];lia,?_⟩;refine ix (f:=ez) (h:=λps=>ez (ps.map (de (a-1000) (b-1000)))) (rs:=mJ) (λps ak k hk=>?_) ?_
 ·have pr:ps.length<=24:=SE (q3 (SF.mpr ⟨ps,ak,rfl⟩)) br.n24;exact⟨_,rfl,_,rfl,_,rfl,rfl,ps,a-1000,b-1000,rfl,by lia,hk⟩
 refine⟨_,rfl,?_⟩;have cl:=Sq br (a-1000) (b-1000)
 have lN:∀ps∈mJ.map (λps=>ps.map (de (a-1000) (b-1000))),∀p∈ps,dm p:=λps ak p aA=>by
  obtain⟨a9,az,rfl⟩:=SF.mp ak;obtain⟨q,jq,rfl⟩:=SF.mp aA;obtain⟨x0,fF,c0,cP⟩:=s1 a9 az q jq;exact⟨by show _<=q.1+(a-1000);lia,by show q.1+(a-1000)<=_;lia,by show _<=q.2+(b-1000);lia,by show q.2+(b-1000)<=_;lia⟩
 have mG:(mJ.map λps=>ez (ps.map (de (a-1000) (b-1000))))=(mJ.map λps=>ps.map (de (a-1000) (b-1000))).map ez:=by rw[SI];rfl
 rw[mG];generalize mJ.map (λps=>ps.map (de (a-1000) (b-1000)))=rs at *;have n8:=cl.n8;have n5:=Sr cl lN;refine cj rfl ?_;refine⟨rfl,rfl,rfl,λn bK bx=>?_⟩;dsimp only[eI];have i5:T0 n<=64:=lc (by lia) (by lia);refine cj rfl ?_;generalize df:(rs.map λps=>ps.map (hP n))=ls;refine eJ (λρ=>ρ=[.val (.scr ns),.val (.int c),.bag,.val (.lst (rs.map ez)),.val (.int (a-1000)),.val (.int (b-1000)),d2,.val (.int n),.val (.lst (ls.map cq)),uv,v10,v11]) ?_ (λrB i7=>?_);rotate_left
 ·refine⟨_,rfl,_,rfl,by rw[Sw];lia,?_⟩;refine ix (f:=ez) (h:=λps=>cq (ps.map (hP n))) (rs:=rs) (λps ak k hk=>?_) ?_
  ·refine⟨_,rfl,_,rfl,by rw[Sw];have:=(n5 ps ak).1.2;lia,?_⟩;refine ix (f:=bT) (h:=λp=>bo (hP n p)) (rs:=ps) (λp aA k hk=>?_) ?_
   ·walk_at"w";exact⟨p.1,p.2,n,rfl,by lia,by lia,hk⟩
   have e:cq (ps.map (hP n))=D.lst (ps.map λp=>bo (hP n p)):=by
    show D.lst _=_
    rw[SI];rfl
   rwa[e]at hk
  have e:(rs.map λps=>cq (ps.map (hP n)))=ls.map cq:=by rw[<-df,SI];rfl
  rw[e];exact⟨_,rfl,i7 _ rfl⟩
 rintro ρ rfl;have ll:ls.length<=8:=by rw[<-df,Sw];exact n8
 have pr:∀ps∈ls,ps.length<=24:=λps ak=>by
  rw[<-df]at ak;obtain⟨a9,az,rfl⟩:=SF.mp ak;rw[Sw];exact(n5 a9 az).1.2
 refine eJ (λρ=>ρ=[.val (.scr ns),.val (.int c),.bag,.val (.lst (rs.map ez)),.val (.int (a-1000)),.val (.int (b-1000)),d2,.val (.int n),.val (.lst (ls.map cq)),.val (.lst (ls.map cq)),v10,v11]) ?_ (λrB i7=>?_);rotate_left
 ·refine⟨_,rfl,_,rfl,by rw[Sw];lia,ix (f:=cq) (h:=cq) (λa9 aA k hk=>⟨_,rfl,_,.inl rfl,hk⟩) ?_⟩;exact⟨_,rfl,i7 _ rfl⟩
 rintro ρ rfl;refine⟨_,rfl,_,rfl,rfl,rs,n,rfl,n8,n5,bK,bx,?_⟩;dsimp only[eI];refine cj rfl ?_;refine eJ (λρ=>ρ=[.val (.scr ns),.val (.int c),.bag,.val (.lst (rs.map ez)),.val (.int (a-1000)),.val (.int (b-1000)),d2,.val (.int n),.val (.lst (ls.map cq)),.val (.lst (ls.map cq)),.val (.str (S (ju n rs))),v11]) ?_ (λrB i7=>?_);rotate_left
 ·refine⟨_,rfl,rfl,rs,n,by rw[df];rfl,n8,n5,bK,bx,_,rfl,.S,rfl,rfl,by decide,_,rfl,qg (λne=>absurd rfl ne) (λ_=>?_)⟩;have au:=PO ls;exact⟨_,rfl,_,rfl,.L (.L (.T [.I,.I,.I])),au,au,by decide,_,rfl,qg (λne=>absurd rfl ne) (λ_=>i7 _ rfl)⟩
 rintro ρ rfl;refine⟨by show 11<12;decide,?_⟩;refine⟨_,rfl,rfl,rs,n,rfl,n8,n5,cl,bK,bx,_,rfl,?_⟩;rw[df]
 have gd:∀ps∈ls,3<=ps.length:=λps ak=>by
  rw[<-df]at ak;obtain⟨a9,az,rfl⟩:=SF.mp ak;rw[Sw];exact(n5 a9 az).1.1
 have nd:=So bK cl;rw[df]at nd;refine⟨_,rfl,_,rfl,rfl,ls,rfl,ll,pr,_,rfl,rfl,⟨by show 6<12;decide,ls.map cq,rfl,nd,by rw[Sw];lia,λq aA=>?_⟩,?_⟩
 ·obtain⟨ps,ak,rfl⟩:=SF.mp aA;refine⟨ps.map bo,rfl,λe=>?_,CO id ps⟩;have:=gd ps ak;rw[Ur.mp e]at this;exact absurd this (by decide)
 refine⟨_,rfl,rfl,rs,n,rfl,n8,n5,cl,bK,bx,?_⟩;rw[df];refine⟨_,rfl,rfl,ls,rfl,ll,pr,_,rfl,?_⟩;exact be _ ⟨_,_,_,_,_,_,_,_,_,_,_,rfl⟩
theorem all_mk{l:PySem.W.OpenLaw}{w:Yd}{K:Sx}{h:Yn}{mg:Str->Option SL}{gC:TE}(Y:Tab tabs K)(X:K.In h)(G:h.Ns W1 mg)(acm:mg "law"=some (.ref gC))
  : ∃fd:YK,(∀(s:SZ)(v:SL),Z0 s fd ⟨[v],[]⟩ [("_law_script",v)])/\∀base:Yn,K.In base->base.Ns W1 mg->ij l.prog w K mg base jG 11 gC fd ["_law_script"] (sK K):=by
 obtain⟨⟨acn,aco,acp,acq,acr,acs,x_at,act,acu,acv,acw,acx,acy,acz,acA,acB,acC,acD,acE,acF,acG,acH,acI,acJ,acK,acL,acM,acN,acO,acP,acQ,acR,acS,acT,acU,acV,acW,acX,acY,acZ,ac0,ac1,ac2,ac3,ac4,ac5,ac6,ac7,ac8,ac9,ac',ada,adb,adc,ade,adf,adg,adh,adi,adj,_⟩,⟨adk,adl,adm,adn,ado,adp,adq,ads,adt,adu,adv,adw,adx,ady,adz,adA,adB,adC,adD,_⟩,⟨_⟩,⟨adE,adF,adG,adH,adI,adJ,_⟩⟩:=Y;have adK:=acn.fnd (ps:=["one","other"]) X G (by walk_at"b2");have adL:=aco.fnd (ps:=["top","bottom"]) X G (by walk_at"b2");have adM:=acp.fnd (ps:=["one","other"]) X G (by walk_at"b2");have adN:=acq.fnd (ps:=["one","other"]) X G (by walk_at"b2");have adO:=acr.fnd (ps:=["p"]) X G (by walk_at"b1");have adP:=acs.fnd (ps:=["p"]) X G (by walk_at"b1");have adQ:=x_at.fnd (ps:=["x","y"]) X G (by walk_at"b2");have adR:=act.fnd (ps:=["p","step"]) X G (by walk_at"b2");have adS:=acu.fnd (ps:=["p","q"]) X G (by walk_at"b2");have adT:=acv.fnd (ps:=["p"]) X G (by walk_at"b1");have adU:=acw.fnd (ps:=["one","other"]) X G (by walk_at"b2");have adV:=acx.fnd (ps:=["line","p"]) X G (by walk_at"b2");have adW:=acy.fnd (ps:=["p","q","r"]) X G (by walk_at"b3");have adX:=acz.fnd (ps:=["ring"]) X G (by walk_at"b1");have adY:=acA.fnd (ps:=["ring"]) X G (by walk_at"b1");have adZ:=acB.fnd (ps:=["p","q","r"]) X G (by walk_at"b3");have ad0:=acC.fnd (ps:=["p","q","r","s"]) X G (by walk_at"b4");have ad1:=acD.fnd (ps:=["p","q","r"]) X G (by walk_at"b3");have ad2:=acE.fnd (ps:=["one","other","together"]) X G (by walk_at"b3");have ad3:=acF.fnd (ps:=["rings"]) X G (by walk_at"b1");have ad4:=acG.fnd (ps:=["p","q"]) X G (by walk_at"b2");have ad5:=acH.fnd (ps:=["ring","p"]) X G (by walk_at"b2");have ad6:=acI.fnd (ps:=["rings","p"]) X G (by walk_at"b2");have ad7:=acJ.fnd (ps:=["rings"]) X G (by walk_at"b1");have ad8:=acK.fnd (ps:=["rings"]) X G (by walk_at"b1");have ad9:=acL.fnd (ps:=["number"]) X G (by walk_at"b1");have ad':=acM.fnd (ps:=["one"]) X G (by walk_at"b1");have aea:=acN.fnd (ps:=["p"]) X G (by walk_at"b1");have aeb:=acO.fnd (ps:=["ring"]) X G (by walk_at"b1");have aec:=acP.fnd (ps:=["cloth"]) X G (by walk_at"b1");have aed:=acQ.fnd (ps:=["text"]) X G (by walk_at"b1");have aee:=acR.fnd (ps:=["text"]) X G (by walk_at"b1");have aef:=acS.fnd (ps:=["text"]) X G (by walk_at"b1");have aeg:=acT.fnd (ps:=["text"]) X G (by walk_at"b1");have aeh:=acU.fnd (ps:=["text"]) X G (by walk_at"b1");have aei:=acV.fnd (ps:=["text"]) X G (by walk_at"b1");have aej:=acW.fnd (ps:=["_law_script","_law_k"]) X G (by walk_at"b2");have aek:=acX.fnd (ps:=["_law_cell_here"]) X G (by walk_at"b1");have ael:=acY.fnd (ps:=["_law_bag_here","_law_many"]) X G (by walk_at"b2");have aem:=acZ.fnd (ps:=["_law_one","_law_two"]) X G (by walk_at"b2");have aen:=ac0.fnd (ps:=["_law_top","_law_bottom_here"]) X G (by walk_at"b2");have aeo:=ac1.fnd (ps:=["_law_found"]) X G (by walk_at"b1");have aep:=ac2.fnd (ps:=["_law_found","_law_due"]) X G (by walk_at"b2");have aeq:=ac3.fnd (ps:=["_law_a","_law_b","_law_n"]) X G (by walk_at"b3");have aer:=ac4.fnd (ps:=["_law_o","_law_p","_law_q"]) X G (by walk_at"b3");have aes:=ac5.fnd (ps:=["_law_ring"]) X G (by walk_at"b1");have aet:=ac6.fnd (ps:=["_law_p","_law_q","_law_r","_law_s"]) X G (by walk_at"b4");have aeu:=ac7.fnd (ps:=["_law_p","_law_q","_law_r"]) X G (by walk_at"b3");have aev:=ac8.fnd (ps:=["_law_ring"]) X G (by walk_at"b1");have aew:=ac9.fnd (ps:=["_law_bag_here"]) X G (by walk_at"b1");have aex:=ac'.fnd (ps:=["_law_bag_here","_law_wide","_law_most"]) X G (by walk_at"b3");have aey:=ada.fnd (ps:=["_law_bag_here","_law_wide","_law_most"]) X G (by walk_at"b3");have aez:=adb.fnd (ps:=["_law_bag_here","_law_most"]) X G (by walk_at"b2");have aeA:=adc.fnd (ps:=["_law_ring","_law_right","_law_up"]) X G (by walk_at"b3");have aeB:=ade.fnd (ps:=["_law_bag_here"]) X G (by walk_at"b1");have aeC:=adf.fnd (ps:=["_law_top","_law_bottom_here"]) X G (by walk_at"b2");have aeD:=adg.fnd (ps:=["_law_rings","_law_n"]) X G (by walk_at"b2");have aeE:=adh.fnd (ps:=["_law_bag_here","_law_rings"]) X G (by walk_at"b2");have aeF:=adi.fnd (ps:=["_law_found","_law_due"]) X G (by walk_at"b2");obtain⟨eX,aeG,dY,Hb⟩:=adj;have e:=acm.symm.trans (PySem.W.mg_of X G dY);cases e;have B:cm mg:=⟨Tg X G adk,Tg X G adl,Tg X G adm,Tg X G adn,Tg X G ado,Tg X G adp,Tg X G adq,Tg X G ads,Tg X G adt,Tg X G adu,Tg X G adv,Tg X G adw,Tg X G adx,Tg X G ady,Tg X G adz,Tg X G adA,Tg X G adB,Tg X G adC,Tg X G adD⟩;obtain⟨_,zj⟩:=adE.str X G;obtain⟨_,zf⟩:=adF.int X G;obtain⟨_,zc⟩:=adG.int X G;obtain⟨_,zk⟩:=adH.int X G;obtain⟨_,zd⟩:=adI.int X G;obtain⟨_,pu⟩:=adJ.str X G;refine⟨aeG,λs v=>?_,λbase _ _=>?_⟩
 ·obtain⟨_,_,_,_,_,_,_,_,_,rfl,_⟩:=Hb.ex;exact .of_eq rfl
 have aeH:=Su (P:=l.prog) (w:=w) (base:=base) B  aej;have aeI:=aaa (P:=l.prog) (w:=w) (base:=base) B  aek;have n6:=aac (P:=l.prog) (w:=w) (base:=base) B  ael;have Hc:=aad (P:=l.prog) (w:=w) (base:=base) B  aem;have aeJ:=aae (P:=l.prog) (w:=w) (base:=base) B  aen Hc;have aeK:=aag (P:=l.prog) (w:=w) (base:=base) B  aeo;have aeL:=aai (P:=l.prog) (w:=w) (base:=base) B  aep aeK;have aeM:=aak (P:=l.prog) (w:=w) (base:=base) B  aeq Hc;have Hd:=aam (P:=l.prog) (w:=w) (base:=base) B  aer;have aeN:=aap (P:=l.prog) (w:=w) (base:=base) B  aes;have aeO:=aaq (P:=l.prog) (w:=w) (base:=base) B  aet Hd;have aeP:=aar (P:=l.prog) (w:=w) (base:=base) B  aeu Hd;have aeQ:=aas (P:=l.prog) (w:=w) (base:=base) B  aev aeP aeO;have aeR:=aax (P:=l.prog) (w:=w) (base:=base) B  aew n6;have aeS:=aay (P:=l.prog) (w:=w) (base:=base) B  aex n6;have He:=aaz (P:=l.prog) (w:=w) (base:=base) B  aey aeS n6;have aeT:=aaA (P:=l.prog) (w:=w) (base:=base) B  aez n6 He aeQ aeN;have Hf:=aaD (P:=l.prog) (w:=w) (base:=base) B  aeA;have aeU:=aaE (P:=l.prog) (w:=w) (base:=base) B  aeB n6 aeT Hf He;have rE:=aaH (P:=l.prog) (w:=w) (base:=base) B  adK;have uw:=aaI (P:=l.prog) (w:=w) (base:=base) B  adL rE;have aeV:=aaJ (P:=l.prog) (w:=w) (base:=base) B  adM rE;have aeW:=aaK (P:=l.prog) (w:=w) (base:=base) B  adN rE;have aeX:=aaM (P:=l.prog) (w:=w) (base:=base) B  adO uw;have aeY:=aaO (P:=l.prog) (w:=w) (base:=base) B  adP uw;have aeZ:=aaP (P:=l.prog) (w:=w) (base:=base) B  adQ rE;have Hg:=aaQ (P:=l.prog) (w:=w) (base:=base) B  adU;have ae0:=aaR (P:=l.prog) (w:=w) (base:=base) B  adV;have zq:=aaT (P:=l.prog) (w:=w) (base:=base) B  adW ae0 Hg;have ae1:=aaV (P:=l.prog) (w:=w) (base:=base) B  adT;have ae2:=aaW (P:=l.prog) (w:=w) (base:=base) B  adR rE;have ae3:=aaY (P:=l.prog) (w:=w) (base:=base) B  adS ae2 ae1;have ae4:=aa3 (P:=l.prog) (w:=w) (base:=base) B  ad4;have Hh:=aa4 (P:=l.prog) (w:=w) (base:=base) B  adZ zq ae3;have ae5:=aa6 (P:=l.prog) (w:=w) (base:=base) B  ad0 Hh zq;have ae6:=aa8 (P:=l.prog) (w:=w) (base:=base) B  ad1 Hh;have ae7:=aa9 (P:=l.prog) (w:=w) (base:=base) B  ad2 ae6 ae5;have zr:=abb (P:=l.prog) (w:=w) (base:=base) B  adX;have ae8:=abc (P:=l.prog) (w:=w) (base:=base) B  ad3 zr ae7;have ae9:=abf (P:=l.prog) (w:=w) (base:=base) B  ad5 zr ae4 zq;have ae':=abh (P:=l.prog) (w:=w) (base:=base) B  ad6 ae9;have afa:=abj (P:=l.prog) (w:=w) (base:=base) B  adY zr aeV uw Hg aeW;have afb:=abq (P:=l.prog) (w:=w) (base:=base) B  ad7 ae' afa;have afc:=abu (P:=l.prog) (w:=w) (base:=base) B zc zd ad8 ae8 afb;have afd:=abz (P:=l.prog) (w:=w) (base:=base) B zf ad9;have Hi:=abB (P:=l.prog) (w:=w) (base:=base) B  ad' afd;have afe:=abD (P:=l.prog) (w:=w) (base:=base) B  aea Hi aeX aeY;have aff:=abG (P:=l.prog) (w:=w) (base:=base) B zj zk aed;have afg:=abK (P:=l.prog) (w:=w) (base:=base) B  aee aff;have afh:=abM (P:=l.prog) (w:=w) (base:=base) B  aef afg uw Hi;have afi:=abO (P:=l.prog) (w:=w) (base:=base) B  aeg aeZ afh;have afj:=abQ (P:=l.prog) (w:=w) (base:=base) B  aeC aeJ;have afk:=abS (P:=l.prog) (w:=w) (base:=base) B  aeD afj;have afl:=abT (P:=l.prog) (w:=w) (base:=base) B  aeE n6;have afm:=abV (P:=l.prog) (w:=w) (base:=base) B  aeF aeL;have afn:=abZ (P:=l.prog) (w:=w) (base:=base) B  aeb afe;have afo:=ab2 (P:=l.prog) (w:=w) (base:=base) B pu aec afn;have afp:=ab5 (P:=l.prog) (w:=w) (base:=base) B  aeh afi;have afq:=ab7 (P:=l.prog) (w:=w) (base:=base) B pu aei afp afc;exact aca B Hb aeH aeI afl aeU n6 Hf aeR aeM afk afo afq afm
end Cut
open PySem PySem.W PyProof.Rows
set_option maxRecDepth 100000 in
set_option maxHeartbeats 0 in
theorem PySem.Challenge.cw_slidecut_k69_cloths_written_and_read_holds : PySem.Challenge.rw_slidecut_k69_cloths_written_and_read.Holds := by
 refine holds_law Cut.said fun said => holds_open (XP := XL Zpw []) (YP := L3.saysH Cut.tabs) Cut.left (L3.ofH Cut.tabs) (L3.keepsH Cut.tabs) (fun s e => xl_of s (VI.mp e).1) XL.keeps (by rfl) (by rfl) (by rfl) (fun s e => recFacts_of (VI.mp e).2) (by rfl) said (by decide +kernel) ⟨rfl, rfl, rfl, rfl, rfl, by decide +kernel⟩ ?hw ?hc
 case hw => w_witness2
 case hc => exact L3.walkH (k := 11) rfl rfl ⟨rfl, by decide, by decide⟩ fun w K mg gC h Y X G pN => Cut.all_mk Y X G pN
#print axioms PySem.Challenge.cw_slidecut_k69_cloths_written_and_read_holds