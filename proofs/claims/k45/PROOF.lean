import PyProof.Rows.All
import Open.Line
import KE.KIsAll
import KE.KItem
import KE.IntBitsLaws
import OpenK.KCls
import OpenK.KList
import OpenK.KWalk
import OpenK.KCall
import OpenK.KMake
import Wide.FinOn
import Lean
import PyProof.EqAt
import PyProof.EqKinds
import PyProof.TupleCall
import PyProof.AttrMissHeap
import PyProof.Cells
import PyProof.AutoListH
import PyProof.AutoSeq1
import PyProof.SeqI3
import PyProof.Rows.SortWalk
import PyProof.DictItemsLoops
import PyProof.Rows.Range3
import PyProof.DictRoadsH
import PyProof.DictKinds
import PyProof.DictIter
import PyProof.DictWalks
import PyProof.DictValues
import PyProof.FactsAll.dict_values
import PyProof.FactsAll.dict_valueiterator
import PyProof.NeKinds
import PyProof.ExcBaseAll.ValueError
import PyProof.ZipIter
import PyProof.ListCopy
import PyProof.CollectWalk
import PyProof.SliceStr2
import PyProof.Rows.StrFirst
import PyProof.StrLawsFirst
import PyProof.StrLawsIn
import PyProof.StrBlockI
import PyProof.Rows.StrNews
import PyProof.EnumMake
import PyProof.EnumFor
import PyProof.EnumStmt
import PyProof.Rows.SetFrom
import PyProof.MinMaxWalk
import PyProof.WalkInts
import PyProof.FactsAll.tuple_1
import PyProof.FactsAll.tuple_2
import PySem.Challenge.RW_slidecut_k45_columns_of_boxes
open PySem.Builtin.Int renaming intBits→wp
open PySem renaming wpAny_bind→SB,starEach→SZ,wpAny_pure→Tk,Value→Tl,intBits_mul_le→TD,Shared→TE,Addr→TI,sizeLine→TT,model→T0,Program→Uf,foldedSetIterable→UF,Expr→UV,natAbs_fdiv_le→Wp,wpAny_newObj_type→WF,mainGlobals→WP,attributeBase→W1,assignEach→Xh,swapsWith→Xi,wpAny_holding→Xj,World→Xk,Stmt→Xm,backTo→Xn,behindInMarks→Xo,wpAny_call_entry→Xp,Around→Xq,intBits_add_le→Xr,intBits_neg_le→Xu,eval→Xv,wpAny_truthy_bool→Xw,Heap→Xx,sysModules→Xy,wpAny_mono→Xz,cLine→XA,keywordEach→XB,Keyword→XC,wpAny_passesOwn→XD,compareOp→XE,wpAny_typeNameOfWhole_keyiter→XF,wpAny_typeNameOfWhole_valiter→XG,wpAny_dictEntries→XH,FuncData→XI,wpAny_isInstance→XJ,bootBuiltins→XK,reduceHash→XM,wpAny_typeNameOf_keyiter→XN,importedModules→XO,wpAny_Call_Name_kw→XQ,wpAny_callSpecial?_slot→XR,wpAny_specialOf→XS,sliceBounds→XT,atKey_none_of_get→XU,backToKw→XV,intBits_sub_le→XW,isSubtype_tuple_tuple→XX,wpAny_notOrdered_dict→XY,wpAny_isOneOf_keyiter→XZ,wpAny_isOneOf_valiter→X0,wpAny_forIn_list→X1,wpAny_loadName_local→X2,wpAny_standAt→X3,wpAny_loadName_cell→X4,wpAny_execs_nil→X5,PassesOwn→X6,letOwnedTupleGo→X7,wpAny_dictEpoch→X8,wpAny_tupleItemsOf→X',wpAny_setField→Yb,firstArgMember→Yc,Scope→Yd,builtinsNs→Ye,wpAny_Name→Yg,wpAny_pyIter_list→Yh,DictEntry→Yi,wpAny_pyIter_slot→Yj,assignInOrder→Yk,swapsWithSole→Yl,swappedStores→Ym,binaryOp→Yn,wpAny_pyNext_list_item→Yo,wpAny_Call_method_late→Yq,treeTable→Yr,wpAny_pyNext_list_end→Yt,wpAny_rule→Yu,call_meets→Yv,intBits_le_of_natAbs→Yw,assign→Yx,wpAny_fieldsOf→Yy,dictSetDefault→Yz,wpAny_loadName_free→YA,sizeLine_eq→YB,wpAny_field→YC,seqIndex_of→YD,Arguments→YE,pyNext→YG,NameKind→YH,wpAny_pyHash_tuple→YJ,wpAny_eqBool_tuple→YK,hashInt→YL,entryOfKey→YM,intKind→YN,holding→YO,callerA→YQ,IsTupleKey→YR,Builtin→YS,rawInt→YT,codeAny_mono→YU,seqIndex_neg→YV,isTrue→YY,unpackItems→YZ,IsPart→Y0,notedBy→Y2,eqIsQuiet→Y3,atKey→Y4,storedH_new→Y5,standAt→Y6,bindName→Y7,BindsTo→Y8,bindArgs→Y9,getItem→Y',compEnvC→Za,setField→Zb
open PyProof.Rows renaming assignInOrder_cons→X9,subscriptTail_builtinR→Yp,AllBare→Ys,envOfC→YI,IntsAre→Y1
open PySem.W renaming openEnds→YF,openSeen→YW,openGood→YX
abbrev SC:=@if_pos
abbrev SL:=@if_neg
abbrev TW:=@congrArg
abbrev Xl:=@decide_eq_true
open Int renaming gcd->Hh,ne_of_gt->SD,mul_pos->SF,mul_ne_zero->SY,mul_zero->S1,mul_neg_of_pos_of_neg->S2,mul_comm->S4,dvd_trans->Tj,le_of_lt->Tn,mul_eq_zero->Tu,mul_nonneg->Tv,eq_of_mul_eq_mul_right->TB,gcd_comm->TJ,dvd_mul_of_dvd_right->TL,natAbs_mul->TU,zero_mul->TY,lt_trichotomy->TZ,neg_mul_neg->T3,emod_nonneg->T5,pos_of_mul_pos_right->T',mul_neg_of_neg_of_pos->Uc,emod_lt_of_pos->Ue,mul_assoc->Ul,mul_pos_of_neg_of_neg->UB,neg_dvd->UH,mul_fdiv_cancel_left->UI,neg_mul->UJ,ofNat_dvd_left->UK,pos_of_mul_pos_left->UO,mul_ediv_cancel'->US,gcd_dvd_right->UZ,natAbs_dvd_natAbs->U1,neg_gcd->U6,mul_one->U9,gcd_pos_of_ne_zero_right->Vc,gcd_dvd_left->Vd,lt_or_eq_of_le->Vn,mul_nonneg_of_nonpos_of_nonpos->Vo,mul_neg->Vq,toNat_of_nonneg->Vs,toNat->VE,gcd_mul_left->VQ,dvd_coe_gcd->V2,dvd_sub->V3,add_comm->V4,one_mul->Wf,sub_zero->Wh,fdiv_eq_ediv_of_nonneg->Wl,fdiv_eq_ediv_of_dvd->Wq,eq_ofNat_of_zero_le->WD,gcd_zero_right->WE,eq_of_mul_eq_mul_left->WN,gcd_pos_of_ne_zero_left->WO,natAbs_natCast->WQ,toNat_natCast->WX,mul_ediv_cancel_left->W2
open PySem.W renaming Frag->Sv,mg_none_of->Td,kia_one->TO,fnOf->UE,keepIn->Va,instObj->VG,methodObj->VH,lookIn->VK,kitOne->VL,codeIn->VN,plainGet->Ws,findIn->Wt,kitx_list->Wu,kitx_dict->Wv,callWith_K->Ww,cellsFrom_some->Wx
open List renaming length_map->Sw,mem_cons_self->Sx,mem_cons_of_mem->Sz,map_cons->SG,length_append->SH,map_append->SJ,mem_cons->SK,mem_map->SM,length_cons->SN,mem_singleton->SO,append_nil->SP,sum_cons->SQ,mem_append->SR,map_map->SU,replicate->SV,size_toArray->SW,getElem?_map->SX,length->S0,getElem?_eq_getElem->S5,append_assoc->S6,Nodup->S7,getElem?_eq_none->S9,forall_mem_nil->S',range->Ta,nil_append->Tc,getElem?_append_right->Tg,mem_of_getElem?->Th,cons_append->To,forall_mem_cons->Tp,mem_append_right->Ts,getElem?_append_left->Tt,getElem?_set_ne->Tx,getElem?_set_self->Tz,length_singleton->TA,map_nil->TG,length_set->TH,map_congr_left->TM,mem_append_left->TN,mem_range->TQ,length_take->TS,set_set->TV,getElem?_eq_some_iff->T7,nodup_cons->T8,length_replicate->T9,drop_eq_getElem_cons->Ua,not_mem_nil->Ug,map->Ui,getElem?_replicate->Uj,getElem?_of_mem->Um,ext_getElem?->Un,drop_length->Uo,length_nil->Uq,flatten_cons->Us,sum_append->Ut,mem_filter->Uw,length_drop->Uy,sum_nil->UD,singleton_sublist->UQ,eq_nil_or_concat->UT,concat_eq_append->UU,all_eq_true->U2,filter_append->U4,length_range->Vi,getElem?_range->Vj,length_filter_le->Vp,filter_cons->Vt,length_flatten->VD,isEmpty_map->VF,filterMap_cons->VJ,of_mem_zip->VM,take_of_length_le->VZ,take_succ_cons->V0,drop_zero->V1,getElem_mem->V5,length_pos_iff->V7,dropLast_concat_getLast->V8,exists_mem_of_ne_nil->V9,nodup_append->We,mem_of_mem_take->Wg,dropLast_concat->Wj,mem_filterMap->Wr,eraseIdx_cons_succ->WA,eraseIdxIfInBounds_toArray->WB,getElem?_eq_none_iff->WI,eq_nil_of_length_eq_zero->WJ,getElem?_inj->WK,sublist_append_right->WS,filter_cons_of_pos->WT,filter_cons_of_neg->WU,getElem?_cons_succ->W0,isEmpty_iff->W3,getElem_take->W6,take_append_drop->W7,mem_of_mem_drop->W8,mem_flatten->Xc,map_eq_nil_iff->Xd,length_eq_zero_iff->Xe,append_cancel_left->Xf
open Nat renaming le_refl->Sy,le_trans->SE,zero_le->S8,mod_eq_of_lt->Tb,ne_of_lt->Tf,gcd->Ti,lt_of_lt_of_le->Tq,zero_add->TX,lt_irrefl->T6,mul_add->Uh,mod_lt->UA,le_succ->UG,add_mod_right->UP,gcd_dvd_left->U0,ne_of_gt->U8,gcd_dvd_right->Ve,dvd_trans->Vf,gcd_mul_left->Vg,lt_or_ge->Vr,max_self->Vu,mul_le_mul_left->Vz,le_max_left->VB,le_max_right->VC,le_of_lt->VI,gcd_comm->VP,eq_of_mul_eq_mul_left->VR,le_of_dvd->VU,le_of_ble_eq_true->VV,mod_self->V6,add_assoc->Wb,add_comm->Wi,pow_succ->Wk,gcd_mul_right->WG,lt_of_le_of_lt->WZ
open Or renaming inl->SA,inr->SI
open Option.some renaming inj->SS,injEq->Vl
open Bool renaming false_ne_true->S3,false_eq_true->TK,and_eq_true->Uk,not_true->UR,eq_iff_iff->VY,beq_eq_decide_eq->WC,and_eq_true_iff->Xg
open Rat renaming mul_pos->Te,le_of_lt->Tw,mul_le_mul_of_nonneg_right->T4,intCast_mul->Ub,div_def->Ud,inv_pos->U5,zero_mul->Vv,div_mul_cancel->Vw,mul_lt_mul_of_pos_right->Vx,intCast_neg->Vy,mul_le_mul_of_nonneg_left->VA,intCast_add->V',div_lt_iff->Wm,le_of_mul_le_mul_right->Wn,neg_mul->Wo
open Ne renaming symm->Tr
open Classical renaming byContradiction->TC,propDecidable->Uz
open Prod renaming snd->TF,ext->TP
open False renaming elim->TR
open PySem.F renaming plainAttrs_list->Up,slot_list_append->VW,type_list_append->VX,plainAttrs_dict->Wc,slot_list_extend->WL,type_list_extend->WM,slot_dict_get->WW,slot_list_pop->W4,type_list_pop->W5,slot_dict_setdefault->W9,slot_dict_values->W'
open List.cons renaming inj->Ur,injEq->UN
open Sum renaming inl->Uu,inr->Uv
open PySem renaming mem_of_lookup->Ux,Env->UL,sizeLine->UW,natAbs_fdiv_le->VS,evalArgs_none->Wz
open List.Sublist renaming append->UC,refl->Vm,cons_cons->WR
open Prod.mk renaming injEq->UM
open True renaming intro->UX
open Array renaming getElem?_toList->UY,length_toList->U7,forIn_toList->Wa,getElem?_eq_none->WY
open Option renaming map_some->U3,getD_none->Vb,isSome_iff_exists->Wy,isNone_iff_eq_none->WH,isSome_map->WV
open PyProof.Rows renaming callWith_type1->U',envOfC->Vh,slot_tuple_getitem->VO
open ForInStep renaming yield->Vk
open PySem.Builtin.Int renaming intBits->VT
open List.Perm renaming refl->Xa,append_left->Xb
abbrev Zs:=List (PySem.Addr×PySem.Obj)
abbrev Zr:=List PySem.Keyword
abbrev Zq:=List PySem.Stmt
abbrev Zp:=List PySem.Expr
abbrev Zo:=List PySem.Addr
abbrev Zn:=List PySem.Value
abbrev Zm:=List PySem.Str
abbrev Zj:=List Nat
abbrev Zc:=List Int
abbrev Zt:=List Zc
set_option Elab.async false
set_option linter.all false
def kj:3<=UW:=by decide
def f6:2<=UW:=by decide
def q5:1<=UW:=by decide
def vz:0<=UW:=by decide
def jN:10000<=UW:=by decide
def aW{a b c:Nat}(h:a<=b)(g:b<=c:=by decide):a<=c:=SE h g
namespace L3
open PySem PySem.W
def pO(h:Xx)(name:Str):Option (Option Tl):=match h.get? WP with
 |some ⟨_,_,.dict es _,_⟩=>(match es.toList.find? (·.key.isStr name)with
   |some e=>some (some e.val)
   |none=>if es.toList.any (·.refKey)then none else some none)
 |_=>none
def yV(h:Xx)(fA:Tl)(q:Str):Bool:=match fA with
 |.ref c=>(match h.get? c with
   |some ⟨_,_,.fields vs,_⟩=>(match vs.toList with|_::.str n _::_=>n==q|_=>false)
   |_=>false)
 |_=>false
def vA(h:Xx)(x:Str):Option (Str×Str×YE×FuncBody×Yd×TI×List (Str×TI)×Tl×TI×Bool):=match pO h x with
 |some (some (.ref f))=>(match h.get? f with
  |some ⟨_,_,.func fd,_⟩=>some (fd.name,fd.qualname,fd.params,fd.body,fd.scope,fd.globals,fd.closure,fd.defaults,fd.builtins,yV h fd.code x)
  |_=>none)
 |_=>none
def vB(x:Str)(st:Xm):Option (Str×Str×YE×FuncBody×Yd×TI×List (Str×TI)×Tl×TI×Bool):=match st with
 |.FunctionDef _ a b _ _ _ sc _ _ _=>some (x,x,a,.stmts b,sc,WP,[],.none,Ye,true)
 |_=>some (x,x,⟨[],[],none,[],[],none,[]⟩,.stmts [],{kind:=.function,names:=[],isGenerator:=false,isCoroutine:=false},WP,[],.none,Ye,true)
def vC(h:Xx)(x:Str):Option (Str×Int×Int):=match pO h x with
 |some (some (.ref p))=>(match h.get? p with
  |some ⟨.type "tuple",_,.seq its _,_⟩=>(match its.toList with|[.int i _,.int j _]=>some (x,i,j)|_=>none)
  |_=>none)
 |_=>none
def vD(h:Xx)(x:Str):Option (Str×(Int ⊕ Str)):=match pO h x with
 |some (some (.int i _))=>some (x,.inl i)
 |some (some (.str s _))=>some (x,.inr s)
 |_=>none
abbrev c5(x:Str)(s:Xm):Str×Xm:=(x,s)
abbrev KF(x:Str)(i j:Int):Str×Int×Int:=(x,i,j)
structure oh where
 fs:List (Str×Xm)
 bs:Zm
 ts:List (Str×Int×Int)
 cs:List (Str×(Int ⊕ Str))
abbrev Seen:Type:=List (Option (Str×Str×YE×FuncBody×Yd×TI×List (Str×TI)×Tl×TI×Bool))×List (Option (Option Tl))×List (Option (Str×Int×Int))×List (Option (Str×(Int ⊕ Str)))
def sQ(t:oh)(s:TE):Seen:=(t.fs.map λp=>vA s.heap p.1,t.bs.map λb=>pO s.heap b,t.ts.map λp=>vC s.heap p.1,t.cs.map λp=>vD s.heap p.1)
def sR(t:oh)(_:Xk):Seen:=(t.fs.map λp=>vB p.1 p.2,t.bs.map λ_=>some none,t.ts.map λp=>some p,t.cs.map λp=>some p)
def map_two{α β γ:Type}{E:Option α}{F:α->β×γ}{a:β×γ}(h1:E.map (λs=>(F s).1)=some a.1)(h2:E.map (λs=>(F s).2)=some a.2):E.map F=some a:=by
 cases E with
 |none=>cases h1
 |some x=>
  have ah:=SS h1;have ap:=SS h2;exact TW some (TP ah ap)
def KG{p q:Uf}{loose:Zm}{Xt:TE->Bool}{α:Type}{Yf:TE->α}{Ya:Xk->α}{N:Nat}(h1:∀w:Xk,(YF Yr p w N).map (λs=>(YW q loose (XO p.main.body) Xt true s).1)=some (YX q loose).1)(h2:∀w:Xk,(YF Yr p w N).map (λs=>(YW q loose (XO p.main.body) Xt true s).2)=some (YX q loose).2)(aF:∀w:Xk,(YF Yr p w N).map Yf=some (Ya w)):LeftO p q loose Xt Yf Ya N:=
 λw=>map_two (F:=λs=>(YW q loose (XO p.main.body) Xt true s,Yf s)) (a:=(YX q loose,Ya w)) (map_two (h1 w) (h2 w)) (aF w)
end L3
namespace Cut
open PySem L3
def top(i:Nat):Xm:=PySem.Challenge.pw_slidecut_k45_columns_of_boxes.main.body.getD i (.Pass ⟨0,0,0,0⟩)
abbrev yW:Xm:=top 6
abbrev yX:Xm:=top 7
abbrev yY:Xm:=top 8
abbrev yZ:Xm:=top 9
abbrev y0:Xm:=top 10
abbrev y1:Xm:=top 11
abbrev y2:Xm:=top 12
abbrev y3:Xm:=top 13
abbrev y4:Xm:=top 14
abbrev y5:Xm:=top 16
abbrev y6:Xm:=top 17
abbrev y7:Xm:=top 18
abbrev y8:Xm:=top 19
abbrev y9:Xm:=top 20
abbrev y':Xm:=top 21
abbrev za:Xm:=top 23
abbrev zb:Xm:=top 24
abbrev zc:Xm:=top 25
abbrev zd:Xm:=top 26
abbrev ze:Xm:=top 27
abbrev zf:Xm:=top 28
abbrev zg:Xm:=top 29
abbrev zh:Xm:=top 30
abbrev zi:Xm:=top 32
abbrev zj:Xm:=top 33
abbrev zk:Xm:=top 34
abbrev zl:Xm:=top 35
abbrev zm:Xm:=top 36
abbrev zn:Xm:=top 37
abbrev zo:Xm:=top 38
abbrev zp:Xm:=top 40
abbrev zq:Xm:=top 41
abbrev zr:Xm:=top 42
abbrev zs:Xm:=top 43
abbrev zt:Xm:=top 44
abbrev zu:Xm:=top 45
abbrev zv:Xm:=top 46
abbrev zw:Xm:=top 47
abbrev zx:Xm:=top 48
abbrev zy:Xm:=top 49
abbrev zz:Xm:=top 50
abbrev zA:Xm:=top 51
abbrev zB:Xm:=top 52
abbrev zC:Xm:=top 53
abbrev zD:Xm:=top 54
abbrev zE:Xm:=top 55
abbrev zF:Xm:=top 56
abbrev zG:Xm:=top 57
abbrev zH:Xm:=top 58
abbrev zI:Xm:=top 59
abbrev zJ:Xm:=top 60
abbrev zK:Xm:=top 62
abbrev zL:Xm:=top 63
abbrev zM:Xm:=top 64
abbrev zN:Xm:=top 65
abbrev zO:Xm:=top 66
abbrev zP:Xm:=top 67
abbrev zQ:Xm:=top 68
abbrev zR:Xm:=top 69
abbrev zS:Xm:=top 70
abbrev zT:Xm:=top 71
def tabs:oh:=⟨[c5 "greatest_divisor" yW,c5 "plus" yX,c5 "minus" yY,c5 "times" yZ,c5 "over" y0,c5 "under" y1,c5 "against" y2,c5 "least_whole" y3,c5 "most_whole" y4,c5 "point" y5,c5 "at" y6,c5 "slid" y7,c5 "crossed" y8,c5 "hand_of" y9,c5 "meet" y',c5 "cut_ring" za,c5 "cut_sheet" zb,c5 "cut_upright" zc,c5 "cut_level" zd,c5 "moved" ze,c5 "slices" zf,c5 "columns_of" zg,c5 "layers_of" zh,c5 "piled" zi,c5 "in_columns" zj,c5 "in_layers" zk,c5 "in_three" zl,c5 "widened" zm,c5 "piled_by_width" zn,c5 "column" zo,c5 "_law_cell" zp,c5 "_law_bag" zq,c5 "_law_draw" zr,c5 "_law_measure" zs,c5 "_law_low" zt,c5 "_law_spot" zu,c5 "_law_whole" zv,c5 "_law_line" zw,c5 "_law_count" zx,c5 "_law_part" zy,c5 "_law_left" zz,c5 "_law_is_spot" zA,c5 "_law_is_bulging" zB,c5 "_law_between" zC,c5 "_law_cut" zD,c5 "_law_sheet" zE,c5 "_law_first" zF,c5 "_law_kept" zG,c5 "_law_lies" zH,c5 "_law_copied" zI,c5 "_law_product" zJ,c5 "_law_pin" zK,c5 "_law_box" zL,c5 "_law_is_box" zM,c5 "_law_is_low" zN,c5 "_law_size" zO,c5 "_law_near" zP,c5 "_law_tall" zQ,c5 "_law_pieces" zR,c5 "_law_right" zS,c5 "law" zT],["len","abs","int","bool","tuple","isinstance","range","all","sum","list","ValueError","zip","str","enumerate","set","max","min","sorted","dict"],[KF "NOTHING" 0 1],[]⟩
open PySem.W in
set_option maxRecDepth 100000 in
set_option maxHeartbeats 0 in
def said:(PySem.Challenge.rw_slidecut_k45_columns_of_boxes).wellSaid=true:=by kernel_rfl
open PySem.W in
set_option maxRecDepth 100000 in
set_option maxHeartbeats 0 in
def KH:∀w:Xk,(YF Yr (PySem.Challenge.rw_slidecut_k45_columns_of_boxes).row.prog w 20000).map (λs=>(YW PySem.Challenge.pw_slidecut_k45_columns_of_boxes [] (XO (PySem.Challenge.rw_slidecut_k45_columns_of_boxes).row.prog.main.body) (λs=>xlAt PySem.Challenge.pw_slidecut_k45_columns_of_boxes [] s&&recOk (RowW.records (OpenRow.toRowW (PySem.Challenge.rw_slidecut_k45_columns_of_boxes).row)) s) true s).1)=some (YX PySem.Challenge.pw_slidecut_k45_columns_of_boxes []).1:=λw=>by kernel_rfl
open PySem.W in
set_option maxRecDepth 100000 in
set_option maxHeartbeats 0 in
def KI:∀w:Xk,(YF Yr (PySem.Challenge.rw_slidecut_k45_columns_of_boxes).row.prog w 20000).map (λs=>(YW PySem.Challenge.pw_slidecut_k45_columns_of_boxes [] (XO (PySem.Challenge.rw_slidecut_k45_columns_of_boxes).row.prog.main.body) (λs=>xlAt PySem.Challenge.pw_slidecut_k45_columns_of_boxes [] s&&recOk (RowW.records (OpenRow.toRowW (PySem.Challenge.rw_slidecut_k45_columns_of_boxes).row)) s) true s).2)=some (YX PySem.Challenge.pw_slidecut_k45_columns_of_boxes []).2:=λw=>by kernel_rfl
open PySem.W in
set_option maxRecDepth 100000 in
set_option maxHeartbeats 0 in
def KJ:∀w:Xk,(YF Yr (PySem.Challenge.rw_slidecut_k45_columns_of_boxes).row.prog w 20000).map (sQ tabs)=some (sR tabs w):=λw=>by kernel_rfl
open PySem.W in
set_option maxRecDepth 100000 in
set_option maxHeartbeats 0 in
def left:LeftO (PySem.Challenge.rw_slidecut_k45_columns_of_boxes).row.prog PySem.Challenge.pw_slidecut_k45_columns_of_boxes [] (λs=>xlAt PySem.Challenge.pw_slidecut_k45_columns_of_boxes [] s&&recOk (RowW.records (OpenRow.toRowW (PySem.Challenge.rw_slidecut_k45_columns_of_boxes).row)) s) (sQ tabs) (sR tabs) 20000:=KG (p:=(PySem.Challenge.rw_slidecut_k45_columns_of_boxes).row.prog) (q:=PySem.Challenge.pw_slidecut_k45_columns_of_boxes) (loose:=[]) (Xt:=(λs=>xlAt PySem.Challenge.pw_slidecut_k45_columns_of_boxes [] s&&recOk (RowW.records (OpenRow.toRowW (PySem.Challenge.rw_slidecut_k45_columns_of_boxes).row)) s)) (Yf:=sQ tabs) (Ya:=sR tabs) (N:=20000) KH KI KJ
end Cut
set_option Elab.async false
set_option linter.all false
set_option maxRecDepth 100000
namespace L2
open PySem PySem.Spec PyProof.Rows
abbrev im:=Sum Int Str
def DV:im->Tl->Bool
 |.inl k,v=>Value.isInt k v
 |.inr x,v=>Value.isStrOf x v
def KL(w:Xk):im->Int
 |.inl k=>YL k
 |.inr x=>hashStr w x
def nm:∀{k:im}{v:Tl},DV k v=true->(∃i t,k=Uu i/\v=Value.int i t)\/(∃x t,k=Uv x/\v=Value.str x t)
 |.inl i,v,h=>by
  obtain⟨t,e⟩:=Value.isInt_shape (k:=i) (v:=v) h;exact .inl ⟨i,t,rfl,e⟩
 |.inr x,v,h=>by
  obtain⟨t,e⟩:=Value.isStrOf_shape (x:=x) (v:=v) h;exact .inr ⟨x,t,rfl,e⟩
def KM(a b:Int):decide ((Uu a:im)=Uu b)=(a==b):=by
 by_cases e:a=b
 ·subst e;simp
 ·have h:¬(Uu a:im)=Uu b:=λq=>e (Sum.inl.inj q);rw[decide_eq_false h];exact(beq_eq_false_iff_ne.mpr e).symm
def KN(a b:Str):decide ((Uv a:im)=Uv b)=decide (a=b):=by
 by_cases e:a=b
 ·subst e;simp
 ·have h:¬(Uv a:im)=Uv b:=λq=>e (Sum.inr.inj q);rw[decide_eq_false h,decide_eq_false e]
def KO(a:Int)(b:Str):decide ((Uu a:im)=Uv b)=false:=decide_eq_false (λq=>nomatch q)
def KP(a:Str)(b:Int):decide ((Uv a:im)=Uu b)=false:=decide_eq_false (λq=>nomatch q)
def zU(prog:Uf)(w:Xk):PySem.KeyKind prog w im where
 is:=DV
 hash:=KL w
 inj:=λv a b ar ab=>by
  rcases nm ar with⟨i,t,rfl,rfl⟩|⟨x,t,rfl,rfl⟩
  ·rcases nm ab with⟨j,u,rfl,e⟩|⟨y,u,rfl,e⟩
   ·injection e with ah _;rw[ah]
   ·exact nomatch e
  ·rcases nm ab with⟨j,u,rfl,e⟩|⟨y,u,rfl,e⟩
   ·exact nomatch e
   ·injection e with ah _;rw[ah]
 byValue:=λk v h=>by
  rcases nm h with⟨i,t,rfl,rfl⟩|⟨x,t,rfl,rfl⟩<;>rfl
 pyHash:=λaL h=>by
  rcases nm aL with⟨i,t,rfl,rfl⟩|⟨x,t,rfl,rfl⟩
  ·exact wpAny_pyHash_int h
  ·exact wpAny_pyHash_str h
 eqBool:=λbn aL h=>by
  rcases nm bn with⟨i,t,rfl,rfl⟩|⟨x,t,rfl,rfl⟩
  ·rcases nm aL with⟨j,u,rfl,rfl⟩|⟨y,u,rfl,rfl⟩
   ·rw[KM]at h;exact wpAny_eqBool_int h
   ·rw[KO]at h;exact SeqAt.EqAt.int_str i t y u _ _ _ _ h
  ·rcases nm aL with⟨j,u,rfl,rfl⟩|⟨y,u,rfl,rfl⟩
   ·rw[KP]at h;exact SeqAt.EqAt.str_int x t j u _ _ _ _ h
   ·rw[KN]at h;exact wpAny_eqBool_str h
 «strs»:=λk x t v h=>by
  rcases nm h with⟨i,u,rfl,e⟩|⟨y,u,rfl,e⟩
  ·exact nomatch e
  ·injection e with ah _
   subst ah
   cases v<;>rfl
inductive V where
 |non|bl (b:Bool)|int (i:Int)|str (x:Str)|byt (b:Array UInt8)|flt (b:UInt64)|ref (a:TI)|ty (n:String)
 deriving DecidableEq
abbrev Zf:=List V
def RelV:V->Tl->Prop
 |.non,u=>u=Value.none
 |.bl b,u=>u=Value.bool b
 |.int i,u=>∃t,u=Value.int i t
 |.str x,u=>∃t,u=Value.str x t
 |.byt b,u=>∃t,u=Value.bytes b t
 |.flt b,u=>∃t,u=Value.float b t
 |.ref a,u=>u=Value.ref a
 |.ty n,u=>u=Value.type n
abbrev b1:Zf->Zn->Prop:=Paired RelV
def b1.length{xs:Zf}{us:Zn}(r:b1 xs us):xs.length=us.length:=Paired.length r
def b1.get:∀{xs:Zf}{us:Zn}{i:Nat}{x:V},b1 xs us->xs[i]?=some x->∃u,us[i]?=some u/\RelV x u
 |_,_,_,_,.nil,e=>by simp at e
 |_,_,0,_,.cons r _,e=>by simp at e;subst e;exact⟨_,rfl,r⟩
 |_,_,i+1,x,.cons _ t,e=>by
  obtain⟨u,h1,h2⟩:=b1.get (i:=i) (x:=x) t (by simpa using e);exact⟨u,by simpa using h1,h2⟩
def b1.set{x:V}{u:Tl}(r:RelV x u):∀{xs:Zf}{us:Zn}(i:Nat),b1 xs us->b1 (xs.set i x) (us.set i u)
 |_,_,_,.nil=>.nil
 |_,_,0,.cons _ t=>.cons r t
 |_,_,i+1,.cons q t=>.cons q (b1.set r i t)
def b1.append:∀{xs ys:Zf}{us ws:Zn},b1 xs us->b1 ys ws->b1 (xs++ys) (us++ws)
 |_,_,_,_,.nil,s=>s
 |_,_,_,_,.cons r t,s=>.cons r (b1.append t s)
def b1.take:∀{xs:Zf}{us:Zn}(n:Nat),b1 xs us->b1 (xs.take n) (us.take n)
 |_,_,0,_=>.nil
 |_,_,_+1,.nil=>.nil
 |_,_,n+1,.cons r t=>.cons r (b1.take n t)
def b1.drop:∀{xs:Zf}{us:Zn}(n:Nat),b1 xs us->b1 (xs.drop n) (us.drop n)
 |_,_,0,r=>r
 |_,_,_+1,.nil=>.nil
 |_,_,n+1,.cons _ t=>b1.drop n t
def oi:Option V->Option Tl->Prop
 |some v,some u=>RelV v u
 |none,none=>True
 |_,_=>False
def zV{κ:Type}:List (κ×V)->List (κ×Tl)->Prop:=Paired λ(p:κ×V)(q:κ×Tl)=>p.1=q.1/\RelV p.2 q.2
def kV:im->V
 |.inl i=>.int i
 |.inr x=>.str x
inductive eX where
 |lst (xs:Zf)
 |tup (xs:Zf)
 |dK (kvs:List (im×V))|dT (kvs:List (List im×V))
 |set (S:Int->Bool) (n:Nat)
 |ins (C eu:TI) (fs:List (Str×V))
 |own (x:TI)
 |xd (fs:List (Str×V))
 |met (f x:TI)
 |rng (lo ay:Int)
 |frz (o:Obj) (u:eX)
 |tbl (ps:Array Tl)
 |ext (φ:Xx->Prop)
abbrev aj:=TI->Option eX
def upd(H:aj)(a:TI)(o:eX):aj:=λb=>if b=a then some o else H b
def dZ{H:aj}{a:TI}{o:eX}:upd H a o a=some o:=by unfold upd;rw[SC rfl]
def c6{H:aj}{a b:TI}{o:eX}(h:b≠a):upd H a o b=H b:=by unfold upd;rw[SL h]
def oj{H:aj}{a b:TI}{o:eX}(h:H a=some o)(h':H b=none):a≠b:=by
 intro e;subst e;rw[h]at h';cases h'
section
variable(P:Uf)(w:Xk)
def gy(H:aj)(h:Xx)(a:TI):eX->Prop
 |.lst xs=>xs.length<=TT/\∃(its:Zn)(n:Nat),b1 xs its/\h.get? a=some {cls:=.type "list",data:=.seq its.toArray n}
 |.tup xs=>xs.length<=TT/\∃its:Zn,b1 xs its/\IsTup h a its.toArray
 |.dK kvs=>kvs.length<=TT/\(a==Xy)=false/\∃vs,zV kvs vs/\h.DictOf (zU P w) a vs
 |.dT kvs=>kvs.length<=TT/\(a==Xy)=false/\∃xs:List (List im×TI×Tl),
   Paired (λ(p:List im×V)(q:List im×TI×Tl)=>p.1=q.1/\H q.2.1=some (.tup (p.1.map kV))/\RelV p.2 q.2.2) kvs xs /\
   ∃o es a3,h.get? a=some o/\o.ExactDict/\o.data=.dict es a3/\es.toList=xs.map (YM (tupleKind (zU P w)))/\(xs.map (·.1)).Nodup
 |.set S n=>h.SetOf (YN P w) a S n
 |.ins C eu fs=>H eu=some (.own a)/\fs.length<=1000/\eu≠a/\h.get? a=some (VG C eu) /\
   ∃f7,h.Ns1 eu f7/\(∀f,oi (fs.lookup f) (f7 f))/\PySem.Within f7 (fs.map (·.1))
 |.own _=>∃o,h.get? a=some o
 |.xd fs=>∃f7,h.Ns1 a f7/\∀f,oi (fs.lookup f) (f7 f)
 |.rng lo ay=>∃t u v,h.get? a=some {cls:=.type "range",data:=.fields #[.int lo t,.int ay u,.int 1 v]}
 |.frz o u=>h.get? a=some o/\gy H h a u
 |.tbl ps=>h.get? a=some {cls:=.none,data:=.fields ps}
 |.met f x=>h.get? a=some (VH (.ref f) (.ref x))
 |.ext φ=>φ h/\(∃o,h.get? a=some o)/\∀h1 h2:Xx,φ h1->(∀o,h1.get? a=some o->h2.get? a=some o)->φ h2
def e4(H:aj)(h:Xx):Prop:=∀a o,H a=some o->gy P w H h a o
end
section
variable{P:Uf}{w:Xk}{H H':aj}{h h':Xx}{a:TI}{o:eX}
def gy.lt(x:gy P w H h a o):a<h.objs.size:=by
 cases o with
 |lst xs=>obtain⟨_,_,_,_,e⟩:=x;exact Heap.lt_size e
 |tup xs=>obtain⟨_,_,_,p⟩:=x;exact p.lt
 |dK kvs=>obtain⟨_,_,_,_,o,_,_,e,_⟩:=x;exact Heap.lt_size e
 |dT kvs=>obtain⟨_,_,_,_,o,_,_,e,_⟩:=x;exact Heap.lt_size e
 |set S n=>obtain⟨o,_,_,_,e,_⟩:=x;exact Heap.lt_size e
 |ins C eu fs=>obtain⟨_,_,_,e,_⟩:=x;exact Heap.lt_size e
 |own y=>obtain⟨_,e⟩:=x;exact Heap.lt_size e
 |xd fs=>obtain⟨_,⟨_,_,_,e,_⟩,_⟩:=x;exact Heap.lt_size e
 |rng lo ay=>obtain⟨_,_,_,e⟩:=x;exact Heap.lt_size e
 |frz cG u=>obtain⟨e,_⟩:=x;exact Heap.lt_size e
 |tbl ps=>exact Heap.lt_size (show h.get? a=some _ from x)
 |met f y=>exact Heap.lt_size (show h.get? a=some _ from x)
 |ext φ=>obtain⟨_,⟨_,e⟩,_⟩:=x;exact Heap.lt_size e
def Paired.mapP{α β:Type}{F G:α->β->Prop}:∀{DW:List α}{l₂:List β},Paired F DW l₂->(∀a b,F a b->G a b)->Paired G DW l₂
 |_,_,.nil,_=>.nil
 |_,_,.cons r t,f=>.cons (f _ _ r) (Paired.mapP t f)
def gy.stay(x:gy P w H h a o)(k:∀b u,(b=a\/H b=some (.own a))->h.get? b=some u->h'.get? b=some u)(aA:∀b,H b=some (.own a)->H' b=some (.own a))(bv:∀b xs,H b=some (.tup xs)->H' b=some (.tup xs)):gy P w H' h' a o:=by
 induction o with
 |lst xs=>obtain⟨z,its,n,r,e⟩:=x;exact⟨z,its,n,r,k _ _ (.inl rfl) e⟩
 |tup xs=>obtain⟨z,its,r,cG,e,c⟩:=x;exact⟨z,its,r,cG,k _ _ (.inl rfl) e,c⟩
 |dK kvs=>obtain⟨z,y,vs,r,cG,es,a3,e,c⟩:=x;exact⟨z,y,vs,r,cG,es,a3,k _ _ (.inl rfl) e,c⟩
 |dT kvs=>
  obtain⟨z,y,xs,r,cG,es,a3,e,c⟩:=x;exact⟨z,y,xs,Paired.mapP r λp q z=>⟨z.1,bv _ _ z.2.1,z.2.2⟩,cG,es,a3,k _ _ (.inl rfl) e,c⟩
 |set S n=>obtain⟨cG,es,a3,t,e,c⟩:=x;exact⟨cG,es,a3,t,k _ _ (.inl rfl) e,c⟩
 |ins C eu fs=>
  obtain⟨d,z,ne,e,f7,⟨od,es,a3,ap,c⟩,r⟩:=x;exact⟨aA _ d,z,ne,k _ _ (.inl rfl) e,f7,⟨od,es,a3,k _ _ (.inr d) ap,c⟩,r⟩
 |own y=>obtain⟨cG,e⟩:=x;exact⟨cG,k _ _ (.inl rfl) e⟩
 |xd fs=>obtain⟨f7,⟨od,es,a3,e,c⟩,r⟩:=x;exact⟨f7,⟨od,es,a3,k _ _ (.inl rfl) e,c⟩,r⟩
 |rng lo ay=>obtain⟨t,u,v,e⟩:=x;exact⟨t,u,v,k _ _ (.inl rfl) e⟩
 |frz cG u cH=>obtain⟨e,q⟩:=x;exact⟨k _ _ (.inl rfl) e,cH q⟩
 |tbl ps=>
  have e:h.get? a=some {cls:=.none,data:=.fields ps}:=x;show h'.get? a=some {cls:=.none,data:=.fields ps}
  exact k a _ (.inl rfl) e
 |met f y=>
  have e:h.get? a=some (VH (.ref f) (.ref y)):=x;show h'.get? a=some (VH (.ref f) (.ref y))
  exact k a _ (.inl rfl) e
 |ext φ=>obtain⟨p,⟨o,e⟩,st⟩:=x;exact⟨st _ _ p λo q=>k _ _ (.inl rfl) q,⟨o,k _ _ (.inl rfl) e⟩,st⟩
def e4.lt(x:e4 P w H h)(e:H a=some o):a<h.objs.size:=(x a o e).lt
def e4.fresh(x:e4 P w H h)(e:h.objs.size<=a):H a=none:=by
 cases q:H a with
 |none=>rfl
 |some u=>exact absurd (Tq (x.lt q) e) (T6 _)
def e4.kept(x:e4 P w H h)(k:∀b u,h.get? b=some u->h'.get? b=some u):e4 P w H h':=λa o e=>
 (x a o e).stay (λb u _ q=>k b u q) (λ_ q=>q) λ_ _ q=>q
def e4.laid(x:e4 P w H h)(k:∀b u,h.get? b=some u->h'.get? b=some u)(ae:h.objs.size<=a)(new:gy P w (upd H a o) h' a o):e4 P w (upd H a o) h':=λb u e=>by
 have aM:=x.fresh ae;by_cases ab:b=a
 ·subst ab;rw[dZ]at e;cases e;exact new
 ·rw[c6 ab]at e;exact(x b u e).stay (λc v _ q=>k c v q) (λc q=>by rw[c6 (oj q aM)];exact q) λc xs q=>by rw[c6 (oj q aM)];exact q
end
def vE(H:aj)(a:TI)(u:eX):Prop:=H a=some u\/∃o,H a=some (.frz o u)
def vE.ok{P:Uf}{w:Xk}{H:aj}{h:Xx}{a:TI}{u:eX}(r:vE H a u)(x:e4 P w H h):gy P w H h a u:=by
 rcases r with r|⟨o,r⟩
 ·exact x a u r
 ·obtain⟨_,q⟩:=x a _ r;exact q
def vF:Option eX->Prop
 |some (.lst _)=>True
 |some (.dK _)=>True
 |some (.dT _)=>True
 |some (.set _ _)=>True
 |some (.ins _ _ _)=>True
 |some (.ext _)=>True
 |_=>False
section
variable{P:Uf}{w:Xk}{H:aj}{h h':Xx}{x e:TI}{fg:eX}
def e4.write(ok:e4 P w H h)(g2:vF (H x))(aB:e=x\/H e=some (.own x))(k:∀b u,b≠e->h.get? b=some u->h'.get? b=some u)(q6:∃u,h'.get? e=some u)(new:gy P w (upd H x fg) h' x fg):e4 P w (upd H x fg) h':=λb u q=>by
 have DX:∀c y,H c=some (.own y)->c≠x:=λc y r z=>by subst z;rw[r]at g2;exact g2
 have KQ:∀c xs,H c=some (.tup xs)->c≠x:=λc xs r z=>by subst z;rw[r]at g2;exact g2
 by_cases ab:b=x
 ·subst ab;rw[dZ]at q;cases q;exact new
 ·rw[c6 ab]at q;by_cases pP:b=e
  ·have iH:H b=some (.own x):=by
    rcases aB with z|z
    ·exact absurd (pP.trans z) ab
    ·rw[pP];exact z
   rw[q]at iH;cases iH;obtain⟨v,aL⟩:=q6;exact⟨v,by rw[pP];exact aL⟩
  ·refine(ok b u q).stay (λc v hc r=>k c v ?_ r) (λc r=>by rw[c6 (DX c b r)];exact r) λc xs r=>by rw[c6 (KQ c xs r)];exact r
   rcases hc with rfl|hc
   ·exact pP
   ·rintro rfl;rcases aB with z|z
    ·exact DX c b hc z
    ·rw[hc]at z;cases z;exact ab rfl
end
structure f8 (fs ex:Zo) (H H':aj) (h h':Xx):Prop where
 keep:∀b o,h.get? b=some o->H b=none->b∉fs->b∉ex->h'.get? b=some o
 slot:∀b o,h.get? b=some o->H b=none->b∈fs->b∉ex->∃sl,h'.get? b=some {o with slots:=sl}
 free:∀b o,h.get? b=some o->H b=none->b∉ex->H' b=none
 there:∀b o,h.get? b=some o->b∉ex->∃fg,h'.get? b=some fg
 tups:∀b xs,H b=some (.tup xs)->H' b=some (.tup xs)
 frzs:∀b o u,H b=some (.frz o u)->H' b=some (.frz o u)
 tbls:∀b ps,H b=some (.tbl ps)->∃more,H' b=some (.tbl (ps++more))
section
variable{fs KR ex ahr:Zo}{H aq aQ:aj}{h h1 h2 h':Xx}{a x e:TI}{o:eX}
def f8.any(u:f8 fs ex H aq h h1){b:TI}{cG:Obj}(q:h.get? b=some cG)(n:H b=none)(ao:b∉ex):∃sl,h1.get? b=some {cG with slots:=sl}:=by
 by_cases ab:b∈fs
 ·exact u.slot b cG q n ab ao
 ·exact⟨cG.slots,u.keep b cG q n ab ao⟩
def f8.kept(k:∀b u,h.get? b=some u->h'.get? b=some u):f8 fs ex H H h h':=
 ⟨λb cG q _ _ _=>k b cG q,λb cG q _ _ _=>⟨cG.slots,k b cG q⟩,λ_ _ _ n _=>n,λb cG q _=>⟨cG,k b cG q⟩,λ_ _ q=>q,λ_ _ _ q=>q,λ_ ps q=>⟨#[],by rw[q];simp⟩⟩
def f8.refl:f8 fs ex H H h h:=f8.kept λ_ _ q=>q
def f8.laid(k:∀b u,h.get? b=some u->h'.get? b=some u)(ae:h.objs.size<=a)(aM:H a=none):f8 fs ex H (upd H a o) h h' where
 keep:=λb u q _ _ _=>k b u q
 slot:=λb u q _ _ _=>⟨u.slots,k b u q⟩
 free:=λb u q n _=>by rw[c6 (Tf (Tq (Heap.lt_size q) ae))];exact n
 there:=λb u q _=>⟨u,k b u q⟩
 tups:=λb xs q=>by rw[c6 (oj q aM)];exact q
 frzs:=λb u xs q=>by rw[c6 (oj q aM)];exact q
 tbls:=λb ps q=>⟨#[],by rw[c6 (oj q aM),q];simp⟩
def f8.write(g2:vF (H x))(aB:e=x\/H e=some (.own x))(k:∀b u,b≠e->h.get? b=some u->h'.get? b=some u)(q6:∃u,h'.get? e=some u):f8 fs ex H (upd H x o) h h':=by
 have ao:∀b,H b=none->b≠x:=λb n z=>by subst z;rw[n]at g2;exact g2
 have ab:∀b,H b=none->b≠e:=λb n z=>by
  subst z;rcases aB with r|r
  ·exact ao b n r
  ·rw[n]at r;cases r
 have ax:∀b u,H b=some u->¬vF (some u)->b≠x:=λb u q io z=>by subst z;rw[q]at g2;exact io g2
 refine⟨λb u q n _ _=>k b u (ab b n) q,λb u q n _ _=>⟨u.slots,k b u (ab b n) q⟩,λb u q n _=>by rw[c6 (ao b n)];exact n,λb u q _=>?_,
  λb xs q=>by rw[c6 (ax b _ q λz=>z)];exact q,λb u xs q=>by rw[c6 (ax b _ q λz=>z)];exact q,λb ps q=>⟨#[],by rw[c6 (ax b _ q λz=>z),q];simp⟩⟩
 by_cases pP:b=e
 ·subst pP;exact q6
 ·exact⟨u,k b u pP q⟩
end
def vG(h:Xx)(H:aj):List TI:=(Ta h.objs.size).filter λa=>(H a).isSome
def nn(h:Xx)(H:aj):Xx:=PySem.W.hideAll h (vG h H)
def KS(h:Xx)(H:aj):(nn h H).objs.size=h.objs.size:=PySem.W.hideAll_size _ _
def KT{h:Xx}{H:aj}{b:TI}{o:Obj}(e:h.get? b=some o)(n:H b=none):(nn h H).get? b=some o:=
 PySem.W.hideAll_get _ e λax=>by
  have q:(H b).isSome=true:=(Uw.mp ax).2;rw[n]at q;simp at q
def KU{h:Xx}{H:aj}{b:TI}{o:Obj}(e:(nn h H).get? b=some o):h.get? b=some o/\H b=none:=by
 have aS:h.get? b=some o:=PySem.W.of_hideAll (vG h H) e;refine⟨aS,?_⟩;cases q:H b with
 |none=>rfl
 |some x=>
  have ax:b∈vG h H:=Uw.mpr ⟨TQ.mpr (Heap.lt_size aS),by simp[q]⟩;have z:(nn h H).get? b=none:=PySem.W.hideAll_none (vG h H) ax;rw[z]at e;cases e
structure Mod (K:Sv) (mg:Str->Option Tl) (base:Xx):Prop where
 kin:K.In base
 glob:base.Ns WP mg
 blt:∃fK,base.Ns Ye fK/\∀x:Str,x≠"__name__"->fK x=XK x
 nolimit:base.NoLimit
structure aK where
 prog:Uf
 w:Xk
 K:Sv
 mg:Str->Option Tl
 base:Xx
 A:Xq
 N:Zm
 s₀:TE
 H₀:aj
 env:Env
 outer:List Env
 stack:List Env
 ex:Zo
 fn:Str->Bool
 calm:Bool
 pn:Zs
 xe:Tl->TE->Prop
def kQ(l:List Env):List TI:=l.filterMap (·.frame)
abbrev aK.fs(X:aK):List TI:=kQ X.outer
def gz(sc:Yd)(x:Str):Prop:=sc.names.lookup x=some .local\/sc.names.lookup x=some .cell\/sc.names.lookup x=some .free
def Loc(sc:Yd)(x:Str):Prop:=sc.names.lookup x=some .local\/sc.names.lookup x=some .cell
def Look(env:Env)(h:Xx)(m:Str->Option Tl)(x:Str)(u:Tl):Prop:=
 (env.kindOf x=some .local/\m x=some u)\/((env.kindOf x=some .cell\/env.kindOf x=some .free)/\∃c,env.cells.lookup x=some c/\h.IsCell c (some u))
structure aK.Ok (X:aK):Prop where
 mod:Mod X.K X.mg X.base
 kind:X.env.scope.kind=.function
 glob:X.env.globals=WP
 blt:X.env.builtins=Ye
 above:X.s₀.heap.objs.size<=X.env.locals
 inj:∀x y c,X.env.cells.lookup x=some c->X.env.cells.lookup y=some c->x=y
 has:∀x,(X.env.kindOf x=some .cell\/X.env.kindOf x=some .free)->∃c,X.env.cells.lookup x=some c
 cab:∀x c,X.fn x=true->X.env.cells.lookup x=some c->X.s₀.heap.objs.size<=c
 hd:X.calm=true->X.A.handled=none
 frames:X.A.frames=some X.stack
 stk:X.stack=X.outer\/(X.stack=X.env::X.outer/\X.env.frame=some X.env.locals)
 exf:∀b∈X.ex,b≠X.env.locals/\∀x c,X.env.cells.lookup x=some c->c≠b
 bs:∀b o,X.base.get? b=some o->X.s₀.heap.get? b=some o/\X.H₀ b=none
 bsz:X.base.objs.size<=X.s₀.heap.objs.size
 noex:∀b o,X.base.get? b=some o->b∉X.ex
 exfs:∀b∈X.ex,b∉X.fs
 funs:X.s₀.heap.FunFrames X.base X.outer
 frf:∀b∈X.fs,X.H₀ b=none
structure Inv (X:aK) (pins:Zs) (σ:List (Option V)) (H:aj) (s:TE):Prop where
 ok:X.Ok
 os:s.os=X.s₀.os
 bare:Ys s.gens
 base:f8 X.fs X.ex X.H₀ H X.s₀.heap s.heap
 loc:∃m,s.heap.Ns X.env.locals m/\∀(i:Nat)(x:Str)(v:V),X.N[i]?=some x->σ[i]?=some (some v)->gz X.env.scope x->∃u,RelV v u/\Look X.env s.heap m x u
 cell:∀x c,X.env.cells.lookup x=some c->∃v,s.heap.IsCell c v
 free:H X.env.locals=none
 freeC:∀x c,X.env.cells.lookup x=some c->H c=none
 pin:∀p∈X.pn++pins,s.heap.get? p.1=some p.2/\H p.1=none/\p.1≠X.env.locals/\p.1∉X.fs/\∀v,p.2.data≠.cell v
 hok:e4 X.prog X.w H s.heap
 len:σ.length=X.N.length
section
variable{X:aK}{pins:Zs}{σ:List (Option V)}{H H':aj}{s:TE}{h':Xx}
theorem aK.Ok.nofr(ok:X.Ok){b:TI}{o:Obj}(e:X.base.get? b=some o):b∉X.fs:=λab=>by
 have:=(ok.funs.mem ab).1;rw[e]at this;cases this
theorem Inv.bs(I:Inv X pins σ H s):∀b o,X.base.get? b=some o->s.heap.get? b=some o/\H b=none:=λb o e=>
 ⟨I.base.keep b o (I.ok.bs b o e).1 (I.ok.bs b o e).2 (I.ok.nofr e) (I.ok.noex b o e),I.base.free b o (I.ok.bs b o e).1 (I.ok.bs b o e).2 (I.ok.noex b o e)⟩
theorem Inv.bk(I:Inv X pins σ H s):∀b o,X.base.get? b=some o->s.heap.get? b=some o:=λb o e=>(I.bs b o e).1
theorem Inv.mod(I:Inv X pins σ H s):Mod X.K X.mg X.base:=I.ok.mod
theorem Inv.kIn(I:Inv X pins σ H s):X.K.In s.heap:=I.ok.mod.kin.keeps I.bk
theorem Inv.lt(I:Inv X pins σ H s):X.env.locals<s.heap.objs.size:=let⟨_,aM,_⟩:=I.loc;aM.lt
theorem Inv.sz(I:Inv X pins σ H s):X.s₀.heap.objs.size<=s.heap.objs.size:=SE I.ok.above (VI I.lt)
theorem Inv.nofs(I:Inv X pins σ H s){a:TI}(h:s.heap.objs.size<=a):a∉X.fs:=λab=>by
 obtain⟨_,o,aA,_⟩:=I.ok.funs.mem ab;exact absurd (Tq (Heap.lt_size aA) (SE I.sz h)) (T6 _)
theorem Inv.cne(I:Inv X pins σ H s):∀x c,X.env.cells.lookup x=some c->c≠X.env.locals:=λx c e z=>by
 obtain⟨v,o,aA,hd⟩:=I.cell x c e;obtain⟨m,⟨fg,es,a3,pQ,ol,_⟩,_⟩:=I.loc;rw[z,pQ]at aA;cases aA;rw[ol]at hd;cases hd
theorem Inv.funs(I:Inv X pins σ H s):s.heap.FunFrames X.base X.outer:=by
 have all:∀(l:List Env),(∀b∈kQ l,b∈X.fs)->X.s₀.heap.FunFrames X.base l->s.heap.FunFrames X.base l:=by
  intro l;induction l with
  |nil=>intro _ _;trivial
  |cons env r cH=>
   intro al am;obtain⟨ag,⟨L,o,bu,aM,aA,hd⟩,ak⟩:=am;have e5:L∈X.fs:=al L (by unfold kQ;rw[VJ,bu];exact Sx);obtain⟨sl,e⟩:=I.base.slot L o aA (I.ok.frf L e5) e5 λz=>I.ok.exfs L z e5;exact⟨ag,⟨L,_,bu,aM,e,hd⟩,cH (λb ab=>al b (by unfold kQ;rw[VJ,bu];exact Sz _ ab)) ak⟩
 exact all X.outer (λ_ ab=>ab) I.ok.funs
theorem Inv.stack(I:Inv X pins σ H s):s.heap.FunFrames X.base X.stack:=by
 rcases I.ok.stk with e|⟨e,bu⟩
 ·rw[e];exact I.funs
 ·rw[e];obtain⟨m,aM,_⟩:=I.loc;refine .cons (by rw[I.ok.kind];decide) bu aM ?_ I.funs;exact Heap.get?_none_of_le (SE I.ok.bsz I.ok.above)
theorem Inv.stkSub(I:Inv X pins σ H s):∀b∈kQ X.stack,b∈X.env.locals::X.fs:=λb ab=>by
 rcases I.ok.stk with e|⟨e,bu⟩
 ·rw[e]at ab;exact Sz _ ab
 ·rw[e]at ab;unfold kQ at ab;rw[VJ,bu]at ab;exact ab
theorem Inv.stkFree(I:Inv X pins σ H s):∀b∈kQ X.stack,H b=none:=λb ab=>by
 rcases SK.mp (I.stkSub b ab)with e|ab
 ·rw[e];exact I.free
 ·obtain⟨_,o,aA,_⟩:=I.ok.funs.mem ab;exact I.base.free b o aA (I.ok.frf b ab) λz=>I.ok.exfs b z ab
theorem Inv.step{g':Array GenState}{t':Nat}{d':Drawn}{ch:Zo}(I:Inv X pins σ H s)(mC:∀b∈ch,(b∈X.ex\/X.s₀.heap.objs.size<=b)/\b≠X.env.locals/\(∀x c,X.env.cells.lookup x=some c->c≠b)/\∀p∈X.pn++pins,p.1≠b)(keep:∀b o,b≠X.env.locals->b∉X.fs->b∉ch->s.heap.get? b=some o->H b=none->h'.get? b=some o)(slot:∀b o,b≠X.env.locals->b∈X.fs->b∉ch->s.heap.get? b=some o->H b=none->∃sl,h'.get? b=some {o with slots:=sl})(free:∀b o,b∉ch->s.heap.get? b=some o->H b=none->H' b=none)(there:∀b o,b∉ch->s.heap.get? b=some o->∃fg,h'.get? b=some fg)(tups:∀b xs,H b=some (.tup xs)->H' b=some (.tup xs))(frzs:∀b o u,H b=some (.frz o u)->H' b=some (.frz o u))(tbls:∀b ps,H b=some (.tbl ps)->∃more,H' b=some (.tbl (ps++more)))(ns:∀m,s.heap.Ns X.env.locals m->h'.Ns X.env.locals m)(hok:e4 X.prog X.w H' h')(aC:Ys g'):
  Inv X pins σ H' {s with heap:=h',gens:=g',drawn:=d',toks:=t' }:=by
 have DY:∀b o,X.s₀.heap.get? b=some o->b≠X.env.locals:=λb o e=>Tf (Tq (Heap.lt_size e) I.ok.above)
 have vH:∀b o,X.s₀.heap.get? b=some o->b∉X.ex->b∉ch:=λb o e ao ab=>by
  rcases(mC b ab).1 with z|z
  ·exact ao z
  ·exact absurd (Tq (Heap.lt_size e) z) (T6 _)
 have cellK:∀x c,X.env.cells.lookup x=some c->∀v,s.heap.IsCell c v->h'.IsCell c v:=λx c e v ⟨o,aA,hd⟩=>by
  have sS:c∉ch:=λz=>(mC c z).2.2.1 x c e rfl;by_cases hc:c∈X.fs
  ·obtain⟨sl,q⟩:=slot c o (I.cne x c e) hc sS aA (I.freeC x c e);exact⟨_,q,hd⟩
  ·exact⟨o,keep c o (I.cne x c e) hc sS aA (I.freeC x c e),hd⟩
 refine⟨I.ok,I.os,aC,⟨λb o e n ab ao=>?_,λb o e n ab ao=>?_,λb o e n ao=>?_,λb o e ao=>?_,λb xs e=>tups b xs (I.base.tups b xs e),λb o xs e=>frzs b o xs (I.base.frzs b o xs e),λb ps e=>?_⟩,?_,λx c e=>?_,?_,λx c e=>?_,λp ae=>?_,hok,I.len⟩
 ·exact keep b o (DY b o e) ab (vH b o e ao) (I.base.keep b o e n ab ao) (I.base.free b o e n ao)
 ·obtain⟨sl,ah⟩:=I.base.slot b o e n ab ao;obtain⟨KV,ap⟩:=slot b _ (DY b o e) ab (vH b o e ao) ah (I.base.free b o e n ao);exact⟨KV,ap⟩
 ·obtain⟨fg,ah⟩:=I.base.there b o e ao;exact free b fg (vH b o e ao) ah (I.base.free b o e n ao)
 ·obtain⟨fg,ah⟩:=I.base.there b o e ao;exact there b fg (vH b o e ao) ah
 ·obtain⟨bf,ah⟩:=I.base.tbls b ps e;obtain⟨bL,ap⟩:=tbls b _ ah;exact⟨bf++bL,by rw[ap,Array.append_assoc]⟩
 ·obtain⟨m,aM,am⟩:=I.loc;refine⟨m,ns m aM,λi x v ah ap bw=>?_⟩;obtain⟨u,r,l⟩:=am i x v ah ap bw;refine⟨u,r,?_⟩;rcases l with l|⟨k,c,e,z⟩
  ·exact .inl l
  ·exact .inr ⟨k,c,e,cellK x c e _ z⟩
 ·obtain⟨v,z⟩:=I.cell x c e;exact⟨v,cellK x c e v z⟩
 ·obtain⟨m,⟨o,_,_,aA,_⟩,_⟩:=I.loc;exact free _ o (λz=>(mC _ z).2.1 rfl) aA I.free
 ·obtain⟨v,o,aA,hd⟩:=I.cell x c e;exact free c o (λz=>(mC c z).2.2.1 x c e rfl) aA (I.freeC x c e)
 ·obtain⟨e,n,ne,q7,d⟩:=I.pin p ae;have sS:p.1∉ch:=λz=>(mC p.1 z).2.2.2 p ae rfl;exact⟨keep p.1 p.2 ne q7 sS e n,free p.1 p.2 sS e n,ne,q7,d⟩
theorem Inv.un{t':Nat}(I:Inv X pins σ H s)(u:f8 X.fs [] H H' s.heap h')(hok:e4 X.prog X.w H' h'):Inv X pins σ H' {s with heap:=h',toks:=t' }:=by
 obtain⟨m,⟨o,es,a3,aA,r⟩,_⟩:=id I.loc;obtain⟨sl,e5⟩:=u.any aA I.free (by simp)
 exact I.step (g':=s.gens) (d':=s.drawn) (ch:=[]) (λ_ z=>nomatch z) (λb o _ ab _ e n=>u.keep b o e n ab (by simp)) (λb o _ ab _ e n=>u.slot b o e n ab (by simp)) (λb o _ e n=>u.free b o e n (by simp)) (λb o _ e=>u.there b o e (by simp)) u.tups u.frzs u.tbls (λm' ax=>by
  obtain⟨fg,np,hq,pQ,dA⟩:=ax;rw[aA]at pQ;cases pQ
  exact⟨_,np,hq,e5,dA⟩) hok I.bare
theorem Inv.call{g':Array GenState}{t':Nat}{d':Drawn}{ch:Zo}(I:Inv X pins σ H s)(u:f8 (kQ X.stack) ch H H' s.heap h')(hok:e4 X.prog X.w H' h')(aC:Ys g')(mC:∀b∈ch,(b∈X.ex\/X.s₀.heap.objs.size<=b)/\b≠X.env.locals/\(∀x c,X.env.cells.lookup x=some c->c≠b)/\∀p∈X.pn++pins,p.1≠b):
  Inv X pins σ H' {s with heap:=h',gens:=g',drawn:=d',toks:=t' }:=by
 obtain⟨m,⟨o,es,a3,aA,r⟩,_⟩:=id I.loc;obtain⟨sl,e5⟩:=u.any aA I.free λz=>(mC _ z).2.1 rfl
 exact I.step (ch:=ch) mC (λb o e5 ab hc e n=>u.keep b o e n (λz=>(SK.mp (I.stkSub b z)).elim e5 ab) hc) (λb o _ _ hc e n=>u.any e n hc) (λb o hc e n=>u.free b o e n hc) (λb o hc e=>u.there b o e hc) u.tups u.frzs u.tbls (λm' ax=>by
  obtain⟨fg,np,hq,pQ,dA⟩:=ax;rw[aA]at pQ;cases pQ
  exact⟨_,np,hq,e5,dA⟩) hok aC
theorem Inv.turned{t':Nat}{it:TI}(I:Inv X pins σ H s)(k:∀b o,b≠it->s.heap.get? b=some o->h'.get? b=some o)(aM:H it=none)(e5:it≠X.env.locals)(h1:it∈X.ex\/X.s₀.heap.objs.size<=it)(h2:∀x c,X.env.cells.lookup x=some c->c≠it)(aF:∀p∈X.pn++pins,p.1≠it):Inv X pins σ H {s with heap:=h',toks:=t' }:=by
 have pR:∀b u,H b=some u->b≠it:=λb u e z=>by rw[z,aM]at e;cases e
 refine I.step (g':=s.gens) (d':=s.drawn) (ch:=[it]) (λb ab=>?_) (λb o _ _ hc e _=>k b o (λz=>hc (by simp[z])) e) (λb o _ _ hc e _=>⟨o.slots,k b o (λz=>hc (by simp[z])) e⟩) (λ_ _ _ _ n=>n)
  (λb o hc e=>⟨o,k b o (λz=>hc (by simp[z])) e⟩) (λ_ _ e=>e) (λ_ _ _ e=>e) (λb ps e=>⟨#[],by rw[e];simp⟩) (λm ax=>?_) (λb u e=>?_) I.bare
 ·have e:b=it:=by simpa using ab
  subst e;exact⟨h1,e5,h2,aF⟩
 ·obtain⟨o,es,a3,aA,r⟩:=ax;exact⟨o,es,a3,k _ o (Tr e5) aA,r⟩
 ·refine(I.hok b u e).stay (λc v hc q=>k c v ?_ q) (λ_ q=>q) λ_ _ q=>q;rcases hc with z|z
  ·rw[z];exact pR b u e
  ·exact pR c _ z
theorem Inv.tok(I:Inv X pins σ H s)(t:Nat):Inv X pins σ H {s with toks:=t}:=I.un (h':=s.heap) (t':=t) f8.refl I.hok
theorem Inv.kept{t':Nat}(I:Inv X pins σ H s)(k:∀b u,s.heap.get? b=some u->h'.get? b=some u):Inv X pins σ H {s with heap:=h',toks:=t' }:=I.un (f8.kept k) (I.hok.kept k)
theorem Inv.laid{a:TI}{o:eX}{t':Nat}(I:Inv X pins σ H s)(k:∀b u,s.heap.get? b=some u->h'.get? b=some u)(ae:s.heap.objs.size<=a)(new:gy X.prog X.w (upd H a o) h' a o):
  Inv X pins σ (upd H a o) {s with heap:=h',toks:=t' }:=I.un (f8.laid k ae (I.hok.fresh ae)) (I.hok.laid k ae new)
theorem Inv.write{x e:TI}{o:eX}{t':Nat}(I:Inv X pins σ H s)(g2:vF (H x))(aB:e=x\/H e=some (.own x))(k:∀b u,b≠e->s.heap.get? b=some u->h'.get? b=some u)(q6:∃u,h'.get? e=some u)(new:gy X.prog X.w (upd H x o) h' x o):Inv X pins σ (upd H x o) {s with heap:=h',toks:=t' }:=I.un (f8.write g2 aB k q6) (I.hok.write g2 aB k q6 new)
theorem Inv.pins_of{DZ:Zs}(I:Inv X pins σ H s)(h:∀p∈DZ,s.heap.get? p.1=some p.2/\H p.1=none/\p.1≠X.env.locals/\p.1∉X.fs/\∀v,p.2.data≠.cell v):Inv X DZ σ H s:=
 ⟨I.ok,I.os,I.bare,I.base,I.loc,I.cell,I.free,I.freeC,λp ae=>(SR.mp ae).elim (λz=>I.pin p (TN _ z)) (h p),I.hok,I.len⟩
theorem D0{N:Zm}(a4:N.Nodup){i j:Nat}{x:Str}(a:N[i]?=some x)(b:N[j]?=some x):i=j:=by
 obtain⟨h1,ah⟩:=T7.mp a;obtain⟨h2,ap⟩:=T7.mp b;exact(List.getElem_inj a4).mp (ah.trans ap.symm)
theorem KW{M:Model}{A:Xq}{E:Tl->TE->Prop}{i:Nat}{x:Str}{v:V}{u:Tl}{Q:Unit->TE->Prop}(I:Inv X pins σ H s)(a4:X.N.Nodup)(ay:X.N[i]?=some x)(ao:Loc X.env.scope x)(r:RelV v u)(h:∀s',Inv X pins (σ.set i (some v)) H s'->(∃a,Heap.SameBut a s.heap s'.heap/\(a=X.env.locals\/X.env.cells.lookup x=some a))->Q () s')(bu:X.fn x=true\/X.env.scope.names.lookup x=some .local:=by first|exact .inl rfl|exact .inr rfl|assumption):wpAny M A (storeName X.env x u) Q E s:=by
 obtain⟨m,aM,am⟩:=id I.loc;have KX:(X.env.scope.kind==.class||(X.env.scope.kind==.module&&X.env.locals != X.env.globals))=false:=by rw[I.ok.kind];rfl
 have D1:i<σ.length:=by rw[I.len];exact(T7.mp ay).1
 have cne:=I.cne
 have tracked:∀{a:TI}{h':Xx},(∃o,s.heap.get? a=some o/\H a=none)->Heap.SameBut a s.heap h'->e4 X.prog X.w H h':=λ{a h'} ar al b cG e=>by
  obtain⟨_,_,D2⟩:=ar;refine(I.hok b cG e).stay (λc mD hc q=>(al.2 c ?_).trans q) (λ_ q=>q) λ_ _ q=>q;rintro rfl;rcases hc with rfl|hc
  ·rw[D2]at e;cases e
  ·rw[D2]at hc;cases hc
 rcases ao with ag|ag
 ·refine wpAny_storeName_local ag aM (λh' KY al=>?_) KX;obtain⟨KZ,_,_,K0,_⟩:=id aM;refine h _ ⟨I.ok,I.os,I.bare,⟨λb o e n ab ao=>?_,λb o e n ab ao=>?_,I.base.free,λb o e ao=>?_,I.base.tups,I.base.frzs,I.base.tbls⟩,⟨_,KY,λj y sT ah ap bw=>?_⟩,λy c e=>?_,I.free,I.freeC,λp ae=>?_,tracked ⟨KZ,K0,I.free⟩ al,by simpa using I.len⟩ ⟨_,al,.inl rfl⟩
  ·exact(al.2 b (Tf (Tq (Heap.lt_size e) I.ok.above))).trans (I.base.keep b o e n ab ao)
  ·obtain⟨sl,ah⟩:=I.base.slot b o e n ab ao;exact⟨sl,(al.2 b (Tf (Tq (Heap.lt_size e) I.ok.above))).trans ah⟩
  ·obtain⟨fg,ah⟩:=I.base.there b o e ao;exact⟨fg,(al.2 b (Tf (Tq (Heap.lt_size e) I.ok.above))).trans ah⟩
  ·by_cases bS:j=i
   ·subst bS;rw[ay]at ah;cases ah;rw[Tz D1]at ap;cases ap;exact⟨u,r,.inl ⟨ag,by simp⟩⟩
   ·rw[Tx (Tr bS)]at ap;obtain⟨eA,dA,q⟩:=am j y sT ah ap bw;refine⟨eA,dA,?_⟩;rcases q with⟨k,e⟩|⟨k,c,e,z⟩
    ·refine .inl ⟨k,?_⟩;have:y≠x:=λe=>bS (D0 a4 ah (e▸ay));simp[this,e]
    ·exact .inr ⟨k,c,e,z.sameBut al (cne y c e)⟩
  ·obtain⟨mD,z⟩:=I.cell y c e;exact⟨mD,z.sameBut al (cne y c e)⟩
  ·obtain⟨e,n,ne,q7,d⟩:=I.pin p ae;exact⟨(al.2 p.1 ne).trans e,n,ne,q7,d⟩
 ·have zW:X.fn x=true:=by
   rcases bu with z|z
   ·exact z
   ·rw[z]at ag;cases ag
  obtain⟨c,hc⟩:=I.ok.has x (.inl ag);obtain⟨mD,z⟩:=I.cell x c hc;refine wpAny_storeName_cell I.ok.kind ag hc z (λh' vI al=>?_);obtain⟨oc,D3,K1⟩:=id z;refine h {s with heap:=h' } ⟨I.ok,I.os,I.bare,⟨λb o e n ab ao=>?_,λb o e n ab ao=>?_,I.base.free,λb o e ao=>?_,I.base.tups,I.base.frzs,I.base.tbls⟩,⟨m,aM.sameBut al (Tr (cne x c hc)),λj y sT ah ap bw=>?_⟩,λy c' e=>?_,I.free,I.freeC,λp ae=>?_,tracked ⟨oc,D3,I.freeC x c hc⟩ al,by simpa using I.len⟩ ⟨c,al,.inr hc⟩
  ·exact(al.2 b (Tf (Tq (Heap.lt_size e) (I.ok.cab x c zW hc)))).trans (I.base.keep b o e n ab ao)
  ·obtain⟨sl,ah⟩:=I.base.slot b o e n ab ao;exact⟨sl,(al.2 b (Tf (Tq (Heap.lt_size e) (I.ok.cab x c zW hc)))).trans ah⟩
  ·obtain⟨fg,ah⟩:=I.base.there b o e ao;exact⟨fg,(al.2 b (Tf (Tq (Heap.lt_size e) (I.ok.cab x c zW hc)))).trans ah⟩
  ·by_cases bS:j=i
   ·subst bS;rw[ay]at ah;cases ah;rw[Tz D1]at ap;cases ap;exact⟨u,r,.inr ⟨.inl ag,c,hc,vI⟩⟩
   ·rw[Tx (Tr bS)]at ap;obtain⟨eA,dA,q⟩:=am j y sT ah ap bw;refine⟨eA,dA,?_⟩;rcases q with q|⟨k,c',e,e6⟩
    ·exact .inl q
    ·refine .inr ⟨k,c',e,e6.sameBut al ?_⟩;rintro rfl;exact bS (D0 a4 ah (I.ok.inj _ _ _ e hc▸ay))
  ·by_cases D4:c'=c
   ·subst D4;exact⟨_,vI⟩
   ·obtain⟨df,aP⟩:=I.cell y c' e;exact⟨df,aP.sameBut al D4⟩
  ·obtain⟨e,n,ne,q7,d⟩:=I.pin p ae;refine⟨(al.2 p.1 ?_).trans e,n,ne,q7,d⟩;intro q;rw[q,D3]at e;have iH:oc=p.2:=SS e;exact d mD (by rw[<-iH];exact K1)
theorem q8{M:Model}{A:Xq}{E:Tl->TE->Prop}{i:Nat}{x:Str}{v:V}{u:Tl}{Q:Unit->TE->Prop}(I:Inv X pins σ H s)(a4:X.N.Nodup)(ay:X.N[i]?=some x)(ao:Loc X.env.scope x)(r:RelV v u)(h:∀s',Inv X pins (σ.set i (some v)) H s'->Q () s')(bu:X.fn x=true\/X.env.scope.names.lookup x=some .local:=by first|exact .inl rfl|exact .inr rfl|assumption):wpAny M A (storeName X.env x u) Q E s:=
 KW I a4 ay ao r (λs' om _=>h s' om) bu
theorem Inv.call'{s':TE}{ch:Zo}(I:Inv X pins σ H s)(aA:s'.os=s.os)(u:f8 (kQ X.stack) ch H H' s.heap s'.heap)(hok:e4 X.prog X.w H' s'.heap)(aC:Ys s'.gens)(mC:∀b∈ch,(b∈X.ex\/X.s₀.heap.objs.size<=b)/\b≠X.env.locals/\(∀x c,X.env.cells.lookup x=some c->c≠b)/\∀p∈X.pn++pins,p.1≠b):Inv X pins σ H' s':=by
 obtain⟨h',g',d',t',fg⟩:=s';have e:fg=s.os:=aA;subst e;exact I.call (g':=g') (t':=t') (d':=d') u hok aC mC
end
abbrev gi:=Tl->Option TI->aj->Prop
abbrev St:=List (Option V)
abbrev cJ:=V->aj->Prop
abbrev bP:=St->aj->cJ->Prop
abbrev fh:=St->aj->(Bool->aj->Prop)->Prop
abbrev fi:=St->aj->(Zf->aj->Prop)->Prop
structure mE where
 nx:St->aj->Prop
 rt:cJ
 bk:St->aj->Prop:=λ_ _=>False
 ct:St->aj->Prop:=λ_ _=>False
abbrev gA:=mE->St->aj->Prop
def h4(X:aK)(pins:Zs)(σ:St)(Q:cJ)(u:Tl)(s':TE):Prop:=∃v H',Inv X pins σ H' s'/\RelV v u/\Q v H'
def vJ(X:aK)(pins:Zs)(σ:St)(Q:Bool->aj->Prop)(b:Bool)(s':TE):Prop:=∃H',Inv X pins σ H' s'/\Q b H'
def K2(X:aK)(pins:Zs)(σ:St)(Q:Zf->aj->Prop)(us:Zn)(s':TE):Prop:=∃vs H',Inv X pins σ H' s'/\b1 vs us/\Q vs H'
def q9(X:aK)(pins:Zs)(D:mE)(f:Flow)(s':TE):Prop:=
 match f with
 |.next=>∃a6 H',Inv X pins a6 H' s'/\D.nx a6 H'
 |.brk=>∃a6 H',Inv X pins a6 H' s'/\D.bk a6 H'
 |.cont=>∃a6 H',Inv X pins a6 H' s'/\D.ct a6 H'
 |.ret u=>∃v a6 H',Inv X pins a6 H' s'/\RelV v u/\D.rt v H'
def b4(X:aK)(e:UV)(t:bP):Prop:=
 ∀(pins:Zs)(s:TE)(σ:St)(H:aj)(Q:cJ),Inv X pins σ H s->t σ H Q->wpAny (T0 X.prog X.w) X.A (Xv e X.env) (h4 X pins σ Q) X.xe s
def jj(X:aK)(e:UV)(t:fh):Prop:=
 ∀(pins:Zs)(s:TE)(σ:St)(H:aj)(Q:Bool->aj->Prop),Inv X pins σ H s->t σ H Q->wpAny (T0 X.prog X.w) X.A (YY e X.env (Xv e X.env)) (vJ X pins σ Q) X.xe s
def nq(X:aK)(e:UV)(t:fh):Prop:=
 ∀(i1:Sem Tl)(pins:Zs)(s:TE)(σ:St)(H:aj)(Q:Bool->aj->Prop),Inv X pins σ H s->t σ H Q->wpAny (T0 X.prog X.w) X.A (YY e X.env i1) (vJ X pins σ Q) X.xe s
def nq.pt{X:aK}{e:UV}{t:fh}(h:nq X e t):jj X e t:=h _
def hJ(X:aK)(es:Zp)(t:fi):Prop:=
 ∀(pos:Pos)(pins:Zs)(s:TE)(σ:St)(H:aj)(Q:Zf->aj->Prop),Inv X pins σ H s->t σ H Q->wpAny (T0 X.prog X.w) X.A (spliced (Xn pos (SZ es X.env))) (K2 X pins σ Q) X.xe s
def jk(X:aK)(st:Xm)(t:gA):Prop:=
 ∀(pins:Zs)(s:TE)(σ:St)(H:aj)(D:mE),Inv X pins σ H s->t D σ H->wpAny (T0 X.prog X.w) X.A (exec st X.env) (q9 X pins D) X.xe s
def i2(X:aK)(st:Zq)(t:gA):Prop:=
 ∀(pins:Zs)(s:TE)(σ:St)(H:aj)(D:mE),Inv X pins σ H s->t D σ H->wpAny (T0 X.prog X.w) X.A (execs st X.env) (q9 X pins D) X.xe s
def cm{α:Type}{t:Sem α}{Q zX:α->TE->Prop}{M:Model}{A:Xq}{E:Tl->TE->Prop}{s:TE}(h:wpAny M A t Q E s)(hr:∀a s,Q a s->zX a s):wpAny M A t zX E s:=Xz h hr λ_ _ x=>x
section
variable{X:aK}
def zY(i:Nat):bP:=λσ H Q=>∃v,σ[i]?=some (some v)/\Q v H
def q'(v:V):bP:=λ_ H Q=>Q v H
def h5{i:Nat}{x:Str}{pos:Pos}(a4:X.N[i]?=some x)(aL:gz X.env.scope x)(hd:(x==("__debug__":Str))=false:=by decide)(dI:(x==("__classdict__":Str))=false:=by decide):b4 X (.Name x pos) (zY i):=by
 intro pins s σ H Q I h;obtain⟨v,e,h⟩:=h;obtain⟨m,aM,am⟩:=I.loc;obtain⟨u,r,l⟩:=am i x v a4 e aL;have eL:h4 X pins σ Q u s:=⟨v,H,I,r,h⟩;rcases l with⟨ag,ax⟩|⟨ag,c,hc,pS⟩
 ·exact Yg (X2 I.ok.kind ag aM ax eL) hd
 ·rcases ag with ag|ag
  ·exact Yg (X4 I.ok.kind ag hc pS eL) hd
  ·exact Yg (YA I.ok.kind ag hc pS eL dI) hd
def eM{i j pos}:b4 X (.Constant (.int i) j pos) (q' (.int i)):=λ_ _ _ H _ I h=>wpAny_Constant_int ⟨.int i,H,I.tok _,⟨_,rfl⟩,h⟩
def D5{b j pos}:b4 X (.Constant (.bool b) j pos) (q' (.bl b)):=λ_ _ _ H _ I h=>Constant_bool ⟨.bl b,H,I,rfl,h⟩
def eY(X:aK)(x:Str):Prop:=X.env.kindOf x=some .globalImplicit
def D6{E:Tl->TE->Prop}{pins:Zs}{s:TE}{σ:St}{H:aj}{x:Str}{u:Tl}{pos:Pos}{Q:Tl->TE->Prop}(I:Inv X pins σ H s)(aC:eY X x)(ax:X.mg x=some u)(h:Q u s)(hd:(x==("__debug__":Str))=false:=by decide):wpAny (T0 X.prog X.w) X.A (Xv (.Name x pos) X.env) Q E s:=
 Calls.Name_function_global I.ok.kind aC (Calls.loadGlobal_global (by rw[I.ok.glob];exact I.mod.glob.keeps I.bk) ax h) hd
def ra{E:Tl->TE->Prop}{pins:Zs}{s:TE}{σ:St}{H:aj}{x:Str}{u:Tl}{pos:Pos}{Q:Tl->TE->Prop}(I:Inv X pins σ H s)(aC:eY X x)(ax:X.mg x=none)(aL:XK x=some u)(h:Q u s)(aM:x≠"__name__":=by decide)(hd:(x==("__debug__":Str))=false:=by decide):wpAny (T0 X.prog X.w) X.A (Xv (.Name x pos) X.env) Q E s:=by
 obtain⟨fK,h1,h2⟩:=I.mod.blt;exact Calls.Name_function_global I.ok.kind aC (Calls.loadGlobal_builtin (by rw[I.ok.glob];exact I.mod.glob.keeps I.bk) ax (by rw[I.ok.blt];exact h1.keeps I.bk) ((h2 x aM).trans aL) h) hd
def zZ{x:Str}{v:V}{u:Tl}{pos:Pos}(aC:eY X x)(ax:X.mg x=some u)(r:RelV v u)(hd:(x==("__debug__":Str))=false:=by decide):b4 X (.Name x pos) (q' v):=
 λ_ _ _ H _ I h=>D6 I aC ax ⟨v,H,I,r,h⟩ hd
def mF{x:Str}{v:V}{u:Tl}{pos:Pos}(aC:eY X x)(ax:X.mg x=none)(aL:XK x=some u)(r:RelV v u)(aM:x≠"__name__":=by decide)(hd:(x==("__debug__":Str))=false:=by decide):b4 X (.Name x pos) (q' v):=
 λ_ _ _ H _ I h=>ra I aC ax aL ⟨v,H,I,r,h⟩ aM hd
variable{a b:UV}{b5 tb:bP}{pos:Pos}
def sU(t:bP):fh:=λσ H Q=>t σ H λx aq=>∃c,x=.bl c/\Q c aq
def K3{e:UV}{t:bP}(h:b4 X e t)(aB:∀i1,YY e X.env i1=(do let v <-i1;Y6 e.pos;YO [v] (truthy v)):=by intro _;rfl):jj X e (sU t):=by
 intro pins s σ H Q I hw;refine isTrue_plain (cm (h pins s σ H _ I hw) λv az ⟨x,aq,be,r1,aR⟩=>?_) (aB _);obtain⟨d,rfl,q⟩:=aR;cases r1;exact Xw ⟨aq,be,q⟩
variable{kR vK:fh}{rest:Zp}
def D7(t u:fh):fh:=λσ H Q=>t σ H λc aq=>if c=true then u σ aq Q else Q false aq
def D8(t u:fh):fh:=λσ H Q=>t σ H λc aq=>if c=true then Q true aq else u σ aq Q
def D9(t:fh):fh:=λσ H Q=>t σ H λc aq=>Q (!c) aq
def K4(ar:jj X a kR):nq X (.BoolOp .And [a] pos) kR:=by
 intro wh pins s σ H Q I h;refine isTrue_and (cm (ar pins s σ H Q I h) λc az e=>?_);cases c with
 |true=>exact isTrue_and_nil e
 |false=>exact e
def K5(ar:jj X a kR):nq X (.BoolOp .Or [a] pos) kR:=by
 intro wh pins s σ H Q I h;refine isTrue_or (cm (ar pins s σ H Q I h) λc az e=>?_);cases c with
 |false=>exact isTrue_or_nil e
 |true=>exact e
def K6(ar:jj X a kR)(ab:nq X (.BoolOp .And (b::rest) pos) vK):nq X (.BoolOp .And (a::b::rest) pos) (D7 kR vK):=by
 intro wh pins s σ H Q I h;refine isTrue_and (cm (ar pins s σ H _ I h) λc az ⟨aq,be,aR⟩=>?_);cases c with
 |true=>exact ab wh pins az σ aq Q be aR
 |false=>exact⟨aq,be,aR⟩
def K7(ar:jj X a kR)(ab:nq X (.BoolOp .Or (b::rest) pos) vK):nq X (.BoolOp .Or (a::b::rest) pos) (D8 kR vK):=by
 intro wh pins s σ H Q I h;refine isTrue_or (cm (ar pins s σ H _ I h) λc az ⟨aq,be,aR⟩=>?_);cases c with
 |true=>exact⟨aq,be,aR⟩
 |false=>exact ab wh pins az σ aq Q be aR
def K8(ar:jj X a kR):jj X (.UnaryOp .Not a pos) (D9 kR):=by
 intro pins s σ H Q I h;exact isTrue_not (ar pins s σ H (λc aq=>Q (!c) aq) I h)
def K9(b5 tb:bP):bP:=λσ H Q=>b5 σ H λx aq=>∃c,x=.bl c/\if c=true then tb σ aq Q else Q (.bl false) aq
def K'(b5:bP):bP:=λσ H Q=>b5 σ H λx aq=>∃c,x=.bl c/\Q (.bl (!c)) aq
def La{op}{t:bP}(h:b4 X a t):b4 X (.BoolOp op [a] pos) t:=λpins s σ H Q I hw=>BoolOp_one (h pins s σ H Q I hw)
def Lb(ar:b4 X a b5)(ab:b4 X (.BoolOp .And (b::rest) pos) tb):b4 X (.BoolOp .And (a::b::rest) pos) (K9 b5 tb):=by
 intro pins s σ H Q I h;refine BoolOp_and (cm (ar pins s σ H _ I h) λv az ⟨x,aq,be,r1,aR⟩=>?_);obtain⟨c,rfl,aR⟩:=aR;cases r1;refine Xw ?_;cases c with
 |true=>exact ab pins az σ aq Q be aR
 |false=>exact⟨.bl false,aq,be,rfl,aR⟩
def Lc(ar:b4 X a b5):b4 X (.UnaryOp .Not a pos) (K' b5):=by
 intro pins s σ H Q I h;refine UnaryOp_ (cm (ar pins s σ H _ I h) λv az ⟨x,aq,be,r1,aR⟩=>?_);obtain⟨c,rfl,aR⟩:=aR;cases r1;exact not_of (Xw ⟨.bl (!c),aq,be,rfl,aR⟩)
def Ld(t:fh)(b5 tb:bP):bP:=λσ H Q=>t σ H λc aq=>if c=true then b5 σ aq Q else tb σ aq Q
def Le{c:UV}(hc:jj X c kR)(ar:b4 X a b5)(ab:b4 X b tb):b4 X (.IfExp c a b pos) (Ld kR b5 tb):=by
 intro pins s σ H Q I h;refine wpAny_IfExp (cm (hc pins s σ H _ I h) λd az ⟨aq,be,aR⟩=>?_);cases d with
 |true=>exact ar pins az σ aq Q be aR
 |false=>exact ab pins az σ aq Q be aR
end
def cx(K:Sv)(H:aj)(a:TI)(xs:Zf):Prop:=
 vE H a (.lst xs) \/
  ∃(o:Obj)(its:Array Tl)(n:Nat),K.lookup a=some o/\o.cls=.type "list"/\o.dict=none/\o.data=.seq its n/\its.size<=TT/\b1 xs its.toList
def ev(K:Sv)(H:aj)(a:TI)(xs:Zf):Prop:=
 vE H a (.tup xs) \/
  ∃(o:Obj)(its:Array Tl)(n:Nat),K.lookup a=some o/\o.cls=.type "tuple"/\o.data=.seq its n/\its.size<=TT/\b1 xs its.toList
def Lf:Tl->Option V
 |.none=>some .non
 |.bool b=>some (.bl b)
 |.int i _=>some (.int i)
 |.str x _=>some (.str x)
 |.bytes b _=>some (.byt b)
 |.float b _=>some (.flt b)
 |.ref a=>some (.ref a)
 |.type n=>some (.ty n)
 |_=>none
def RelV.abs{x:V}{u:Tl}(r:RelV x u):Lf u=some x:=by
 cases x with
 |non=>cases r;rfl
 |bl _=>cases r;rfl
 |int _=>obtain⟨t,rfl⟩:=r;rfl
 |str _=>obtain⟨t,rfl⟩:=r;rfl
 |byt _=>obtain⟨t,rfl⟩:=r;rfl
 |flt _=>obtain⟨t,rfl⟩:=r;rfl
 |ref _=>cases r;rfl
 |ty _=>cases r;rfl
def RelV.inj{x y:V}{u:Tl}(r:RelV x u)(q:RelV y u):x=y:=SS (r.abs.symm.trans q.abs)
def b1.inj:∀{xs ys:Zf}{us:Zn},b1 xs us->b1 ys us->xs=ys
 |_,_,_,.nil,.nil=>rfl
 |_,_,_,.cons r t,.cons dA t'=>by rw[r.inj dA,b1.inj t t']
section
variable{X:aK}{pins:Zs}{σ:St}{H:aj}{s:TE}{a:TI}{xs ys:Zf}
def cx.of{K:Sv}(h:H a=some (.lst xs)):cx K H a xs:=.inl (.inl h)
def ev.of{K:Sv}(h:H a=some (.tup xs)):ev K H a xs:=.inl (.inl h)
def Inv.list(I:Inv X pins σ H s)(h:cx X.K H a xs):∃its:Zn,b1 xs its/\PlainL s.heap a its.toArray/\xs.length<=TT:=by
 rcases h with h|⟨o,its,n,ag,hc,hd,al,hz,r⟩
 ·obtain⟨z,its,n,r,e⟩:=h.ok I.hok;exact⟨its,r,⟨_,n,e,rfl,rfl,rfl⟩,z⟩
 ·refine⟨its.toList,r,⟨o,n,I.kIn a o ag,hc,hd,by simpa using al⟩,?_⟩;have e:=r.length;simp only[U7]at e;lia
def Inv.tuple(I:Inv X pins σ H s)(h:ev X.K H a xs):∃its:Zn,b1 xs its/\IsTup s.heap a its.toArray/\xs.length<=TT:=by
 rcases h with h|⟨o,its,n,ag,hc,al,hz,r⟩
 ·obtain⟨z,its,r,p⟩:=h.ok I.hok;exact⟨its,r,p,z⟩
 ·refine⟨its.toList,r,⟨o,I.kIn a o ag,hc,n,by simpa using al⟩,?_⟩;have e:=r.length;simp only[U7]at e;lia
def Inv.list_inj(I:Inv X pins σ H s)(h:cx X.K H a xs)(h':cx X.K H a ys):xs=ys:=by
 obtain⟨its,r,⟨o,n,e,_,_,d⟩,_⟩:=I.list h;obtain⟨its',dA,⟨fg,n',aS,_,_,d'⟩,_⟩:=I.list h';rw[e]at aS;cases aS;rw[d]at d';injection d' with bo _
 have:its=its':=by simpa using TW Array.toList bo
 subst this;exact r.inj dA
def Inv.tuple_inj(I:Inv X pins σ H s)(h:ev X.K H a xs)(h':ev X.K H a ys):xs=ys:=by
 obtain⟨its,r,⟨o,e,_,n,d⟩,_⟩:=I.tuple h;obtain⟨its',dA,⟨fg,aS,_,n',d'⟩,_⟩:=I.tuple h';rw[e]at aS;cases aS;rw[d]at d';injection d' with bo _
 have:its=its':=by simpa using TW Array.toList bo
 subst this;exact r.inj dA
end
abbrev aK.wish(X:aK)(E:Tl->TE->Prop):aK:={X with xe:=E}
abbrev aK.nox(X:aK):aK:=X.wish λ_ _=>False
def aK.Ok.wish{X:aK}(ok:X.Ok)(E:Tl->TE->Prop):(X.wish E).Ok:=
 ⟨ok.mod,ok.kind,ok.glob,ok.blt,ok.above,ok.inj,ok.has,ok.cab,ok.hd,ok.frames,ok.stk,ok.exf,ok.bs,ok.bsz,ok.noex,ok.exfs,ok.funs,ok.frf⟩
def aK.Ok.unwish{X:aK}{E:Tl->TE->Prop}(ok:(X.wish E).Ok):X.Ok:=
 ⟨ok.mod,ok.kind,ok.glob,ok.blt,ok.above,ok.inj,ok.has,ok.cab,ok.hd,ok.frames,ok.stk,ok.exf,ok.bs,ok.bsz,ok.noex,ok.exfs,ok.funs,ok.frf⟩
section
variable{X:aK}{pins:Zs}{σ:St}{H:aj}{s:TE}{E:Tl->TE->Prop}
def Inv.wish(I:Inv X pins σ H s)(E:Tl->TE->Prop):Inv (X.wish E) pins σ H s:=⟨I.ok.wish E,I.os,I.bare,I.base,I.loc,I.cell,I.free,I.freeC,I.pin,I.hok,I.len⟩
def Inv.unwish(I:Inv (X.wish E) pins σ H s):Inv X pins σ H s:=⟨I.ok.unwish,I.os,I.bare,I.base,I.loc,I.cell,I.free,I.freeC,I.pin,I.hok,I.len⟩
def q9.unwish{D:mE}{f:Flow}{s':TE}(h:q9 (X.wish E) pins D f s'):q9 X pins D f s':=by
 cases f with
 |next=>obtain⟨a6,H',I,q⟩:=h;exact⟨a6,H',I.unwish,q⟩
 |brk=>obtain⟨a6,H',I,q⟩:=h;exact⟨a6,H',I.unwish,q⟩
 |cont=>obtain⟨a6,H',I,q⟩:=h;exact⟨a6,H',I.unwish,q⟩
 |ret u=>obtain⟨v,a6,H',I,r,q⟩:=h;exact⟨v,a6,H',I.unwish,r,q⟩
def i2.nox{st:Zq}{t:gA}(h:i2 X.nox st t):i2 X st t:=λpins s σ H D I hw=>
 Xz (h pins s σ H D (I.wish _) hw) (λ_ _ q=>q.unwish) λ_ _ z=>TR z
end
section
variable{X:aK}{st:Xm}{rest:Zq}{t u:gA}{e:UV}{cK:bP}{pos:Pos}
def Lg:gA:=λD σ H=>D.nx σ H
def Lh(t u:gA):gA:=λD σ H=>t {D with nx:=u D} σ H
def sV:i2 X [] Lg:=λ_ _ σ H _ I h=>X5 ⟨σ,H,I,h⟩
def kS(h1:jk X st t)(h2:i2 X rest u):i2 X (st::rest) (Lh t u):=by
 intro pins s σ H D I h;refine wpAny_execs_cons (cm (h1 pins s σ H {D with nx:=u D} I h) λf az q=>?_);cases f with
 |next=>
  obtain⟨a6,H',om,q⟩:=q;exact h2 pins az a6 H' D om q
 |ret v=>exact q
 |brk=>exact q
 |cont=>exact q
def oo(h1:jk X st t):i2 X [st] t:=by
 intro pins s σ H D I h;refine wpAny_execs_cons (cm (h1 pins s σ H D I h) λf az q=>?_);cases f with
 |next=>exact X5 q
 |ret v=>exact q
 |brk=>exact q
 |cont=>exact q
def Inv.quiet{pins:Zs}{σ:St}{H:aj}{s:TE}(I:Inv X pins σ H s):interactive X.env=false:=by simp[interactive,I.ok.kind]
def Li(cK:bP):gA:=λD σ H=>cK σ H λ_ aq=>D.nx σ aq
def pT(aB:b4 X e cK)(al:Xi e none pos.line X.env=pure false:=by rfl):jk X (.Expr e pos) (Li cK):=by
 intro pins s σ H D I h;exact wpAny_Expr_any (cm (aB pins s σ H _ I h) λv az ⟨x,aq,be,r1,aR⟩=>⟨σ,aq,be,aR⟩) I.quiet al
def Lj(cK:bP):gA:=λD σ H=>cK σ H D.rt
def nr(aB:b4 X e cK):jk X (.Return (some e) pos) (Lj cK):=by
 intro pins s σ H D I h;exact wpAny_Return_some (cm (aB pins s σ H _ I h) λv az ⟨x,aq,be,r1,aR⟩=>⟨x,σ,aq,be,r1,aR⟩)
def Lk(c:fh)(t u:gA):gA:=λD σ H=>c σ H λb aq=>if b=true then t D σ aq else u D σ aq
def sW{c:UV}{a b:Zq}{tc:fh}(hc:jj X c tc)(ar:i2 X a t)(ab:i2 X b u):jk X (.If c a b pos) (Lk tc t u):=by
 intro pins s σ H D I h;refine wpAny_If (cm (hc pins s σ H _ I h) λd az ⟨aq,be,aR⟩=>?_);cases d with
 |true=>exact ar pins az σ aq D be aR
 |false=>exact ab pins az σ aq D be aR
def D':gA:=λ_ _ _=>False
def Ll:jk X st D':=λ_ _ _ _ _ _ h=>h.elim
end
abbrev hs:=V->St->aj->(St->aj->Prop)->Prop
abbrev lQ:=Zf->St->aj->(St->aj->Prop)->Prop
def jO(X:aK)(target:UV)(t:hs):Prop:=
 ∀(pins:Zs)(s:TE)(σ:St)(H:aj)(v:V)(u:Tl)(Q:St->aj->Prop),Inv X pins σ H s->RelV v u->t v σ H Q->
  wpAny (T0 X.prog X.w) X.A (Yx target X.env u) (λ_ s'=>∃a6 H',Inv X pins a6 H' s'/\Q a6 H') X.xe s
def pU(X:aK)(ts:Zp)(t:lQ):Prop:=
 ∀(pins:Zs)(s:TE)(σ:St)(H:aj)(vs:Zf)(us:Zn)(Q:St->aj->Prop),Inv X pins σ H s->b1 vs us->t vs σ H Q->
  wpAny (T0 X.prog X.w) X.A (Yk ((Xh ts X.env).map (·.2)) us) (λ_ s'=>∃a6 H',Inv X pins a6 H' s'/\Q a6 H') X.xe s
abbrev z2:=V->V->V->aj->(aj->Prop)->Prop
def Ea(X:aK)(t:z2):Prop:=
 ∀(pins:Zs)(s:TE)(σ:St)(H:aj)(o i v:V)(lR iI u:Tl)(Q:aj->Prop),Inv X pins σ H s->RelV o lR->RelV i iI->RelV v u->t o i v H Q->
  wpAny (T0 X.prog X.w) X.A (setItem lR iI u) (λ_ s'=>∃H',Inv X pins σ H' s'/\Q H') X.xe s
abbrev vL:=V->V->aj->cJ->Prop
def Eb(X:aK)(op:Operator)(t:vL):Prop:=
 ∀(pins:Zs)(s:TE)(σ:St)(H:aj)(x y:V)(v u:Tl)(Q:cJ),Inv X pins σ H s->RelV x v->RelV y u->t x y H Q->
  wpAny (T0 X.prog X.w) X.A (inplaceOp op v u) (h4 X pins σ Q) X.xe s
section
variable{X:aK}{pos:Pos}
def vM(i:Nat):hs:=λv σ H Q=>Q (σ.set i (some v)) H
def vN{i:Nat}{x:Str}(a4:X.N.Nodup)(ay:X.N[i]?=some x)(ao:Loc X.env.scope x)(bu:X.fn x=true\/X.env.scope.names.lookup x=some .local:=by first|exact .inl rfl|exact .inr rfl|assumption):jO X (.Name x pos) (vM i):=by
 intro pins s σ H v u Q I r h;exact wpAny_assign_Name (q8 I a4 ay ao r (λs' om=>⟨_,H,om,h⟩) bu)
def Lm:lQ:=λvs σ H Q=>vs=[]/\Q σ H
def Ln(t:hs)(u:lQ):lQ:=λvs σ H Q=>∃v r,vs=v::r/\t v σ H λa6 H'=>u r a6 H' Q
def Ec:pU X [] Lm:=by
 intro pins s σ H vs us Q I r h;obtain⟨e,h⟩:=h;subst e;cases r;exact assignInOrder_nil ⟨σ,H,I,h⟩
def Ed{e:UV}{es:Zp}{t:hs}{u:lQ}(h1:jO X e t)(h2:pU X es u)(al:(Xh (e::es) X.env).map (·.2)=Yx e X.env::(Xh es X.env).map (·.2):=by rfl):pU X (e::es) (Ln t u):=by
 intro pins s σ H vs us Q I r h;obtain⟨v,ahs,ah,h⟩:=h;subst ah;cases r with
 |cons r fL=>
  rw[al];refine X9 (cm (h1 pins s σ H _ _ _ I r h) λ_ az ⟨g4,aq,be,aR⟩=>?_);exact h2 pins az g4 aq _ _ Q be fL aR
def Lo(K:Sv)(n:Nat)(t:lQ):hs:=λv σ H Q=>∃a xs,v=.ref a/\ev K H a xs/\xs.length=n/\t xs σ H Q
def Ee{es:Zp}{k:Nat}{t:lQ}{n:Nat}(hc:X.calm=true)(h:pU X es t)(aM:(Xh es X.env).length=n:=by rfl)(nt:(Xh es X.env).findIdx? (·.1)=none:=by rfl):jO X (.Tuple es k pos) (Lo X.K n t):=by
 intro pins s σ H v u Q I r hw;obtain⟨a,xs,ah,au,am,hw⟩:=hw;subst ah;cases r;obtain⟨its,cd,bv,hz⟩:=I.tuple au;refine assign_Tuple_tuple (I.ok.hd hc) bv (by simp[aM,<-am,cd.length]) nt λh' ao=>?_;have be:Inv X pins σ H {s with heap:=h' }:=I.kept (t':=s.toks) λb o e=>ao b o (Tf (Heap.lt_size e)) e;exact h pins _ σ H xs _ Q be (by simpa using cd) hw
def Lp(to iJ:bP)(t:z2):hs:=λv σ H Q=>to σ H λo aq=>iJ σ aq λi aQ=>t o i v aQ λcR=>Q σ cR
def z3{o i:UV}{to iJ:bP}{t:z2}(aA:b4 X o to)(ay:b4 X i iJ)(al:Ea X t)(ar:∀v,Yx (.Subscript o i pos) X.env v=(do
   let lR <-YO [v] (Xv o X.env)
   let iI <-YO [v,lR] (Xv i X.env)
   Y6 pos
   YO [v,lR,iI] (setItem lR iI v)
   release [v,lR,iI] []):=by intro _;rfl):jO X (.Subscript o i pos) (Lp to iJ t):=by
 intro pins s σ H v u Q I r h;rw[ar];refine SB (Xj (cm (aA pins s σ H _ I h) λlR az ⟨x,aq,be,r1,aR⟩=>?_));refine SB (Xj (cm (ay pins az σ aq _ be aR) λiI a' ⟨y,aQ,d3,r2,bK⟩=>?_));refine SB (X3 (SB (Xj (cm (al pins a' σ aQ x y v lR iI u _ d3 r1 r2 r bK) λ_ cn ⟨cR,dn,e7⟩=>?_))));exact wpAny_release ⟨σ,cR,dn,e7⟩
def z4(cK:bP)(g:hs):gA:=λD σ H=>cK σ H λx aq=>g x σ aq D.nx
def vO{bz e:UV}{cK:bP}{g:hs}(aB:b4 X e cK)(aC:jO X bz g)(al:Yl [bz] e pos.line X.env=pure false:=by rfl)(hw:Ym [bz] e X.env=pure none:=by rfl)(h1:(Xh [bz] X.env).map (·.2)=[Yx bz X.env]:=by rfl):jk X (.Assign [bz] e pos) (z4 cK g):=by
 intro pins s σ H D I h;refine wpAny_Assign_stores (cm (aB pins s σ H _ I h) λv az ⟨x,aq,be,r1,aR⟩=>?_) al hw;rw[h1];exact cm (aC pins az σ aq x v _ be r1 aR) λ_ a' q=>q
def oq{i:Nat}{x:Str}{e:UV}{cK:bP}{eb:Pos}(a4:X.N.Nodup)(ay:X.N[i]?=some x)(ao:Loc X.env.scope x)(aB:b4 X e cK)(al:Xi e (some (.Name x eb)) pos.line X.env=pure false:=by rfl)(bu:X.fn x=true\/X.env.scope.names.lookup x=some .local:=by first|exact .inl rfl|exact .inr rfl|assumption):
  jk X (.Assign [.Name x eb] e pos) (z4 cK (vM i)):=by
 intro pins s σ H D I h;refine wpAny_Assign_Name (cm (aB pins s σ H _ I h) λv az ⟨y,aq,be,r1,aR⟩=>?_) al;exact q8 be a4 ay ao r1 (λa' d3=>⟨_,aq,d3,aR⟩) bu
def Lq(i j:Nat)(b5:fi):gA:=λD σ H=>b5 σ H λvs aq=>∃v w,vs=[v,w]/\D.nx ((σ.set i (some v)).set j (some w)) aq
def Lr{i j:Nat}{x y:Str}{a b:UV}{b5:fi}{px fV pt:Pos}{mG bV pV}(hc:X.calm=true)(a4:X.N.Nodup)(ay:X.N[i]?=some x)(bS:X.N[j]?=some y)(mH:i≠j)(ao:X.env.scope.names.lookup x=some .local)(aN:X.env.scope.names.lookup y=some .local)(ar:hJ X [a,b] b5)(hw:Ym [.Tuple [.Name x px,.Name y fV] mG pt] (.Tuple [a,b] bV pV) X.env=pure (some [x,y]))(al:Yl [.Tuple [.Name x px,.Name y fV] mG pt] (.Tuple [a,b] bV pV) pos.line X.env=pure false:=by rfl):
  jk X (.Assign [.Tuple [.Name x px,.Name y fV] mG pt] (.Tuple [a,b] bV pV) pos) (Lq i j b5):=by
 intro pins s σ H D I h;rw[exec_Assign_arm];refine SB (X3 ?_);rw[al];refine SB (Tk ?_);rw[SL (by decide)];refine SB (Tuple_ (cm (ar _ pins s σ H _ I h) λus az ⟨vs,aq,be,r1,aR⟩=>?_));obtain⟨v,w,ah,aR⟩:=aR;subst ah
 obtain⟨dq,dM,rfl,cd,nu⟩:∃dq dM,us=[dq,dM]/\RelV v dq/\RelV w dM:=by
  cases r1 with
  |cons p q=>
   cases q with
   |cons sX iH=>
    cases iH;exact⟨_,_,rfl,p,sX⟩
 refine WF ?_ f6;have d3:Inv X pins σ aq {az with heap:=az.heap.push {cls:=.type "tuple",data:=.seq [dq,dM].toArray} }:=be.kept (t':=az.toks) λb o e=>Heap.get?_push_of_some _ e;rw[hw];refine SB (Tk ?_);show wpAny (T0 X.prog X.w) X.A (do rule "assign.swapped-stores";let items <-YZ (.ref az.heap.objs.size) 2 none;Yk [λv=>Y7 X.env y v,λv=>Y7 X.env x v] items.reverse;pure Flow.next) _ _ _;refine SB (Yu (SB (unpackItems_tuple (items :=#[dq,dM]) (I.ok.hd hc) (IsTup.new az.heap _) λh' sY=>?_)));have dn:=d3.kept (h':=h') (t':=az.toks) λb o e=>sY b o (Tf (Heap.lt_size e)) e;show wpAny _ _ (Yk [λv=>Y7 X.env y v,λv=>Y7 X.env x v] [dM,dq] >>= λ_=>pure Flow.next) _ _ _
 refine SB (X9 (wpAny_bindName (q8 dn a4 bS (.inl aN) nu (λa' ot=>?_) (.inr aN))));refine X9 (wpAny_bindName (q8 ot a4 ay (.inl ao) cd (λcn pW=>assignInOrder_nil (Tk ?_)) (.inr ao)));rw[List.set_comm _ _ (Tr mH)]at pW;exact⟨_,aq,pW,aR⟩
def Ls(i:Nat)(cK:bP)(iJ:vL):gA:=λD σ H=>∃x,σ[i]?=some (some x)/\cK σ H λy aq=>iJ x y aq λz aQ=>D.nx (σ.set i (some z)) aQ
def Lu{i:Nat}{x:Str}{e:UV}{cK:bP}{op:Operator}{iJ:vL}{eb:Pos}(a4:X.N.Nodup)(ay:X.N[i]?=some x)(ao:Loc X.env.scope x)(aB:b4 X e cK)(aA:Eb X op iJ)(bu:X.fn x=true\/X.env.scope.names.lookup x=some .local:=by first|exact .inl rfl|exact .inr rfl|assumption):
  jk X (.AugAssign (.Name x eb) op e pos) (Ls i cK iJ):=by
 intro pins s σ H D I h;obtain⟨v,ah,h⟩:=h;obtain⟨m,aM,am⟩:=I.loc;have Lv:gz X.env.scope x:=by rcases ao with k|k;exact .inl k;exact .inr (.inl k)
 obtain⟨u,r,l⟩:=am i x v ay ah Lv;refine wpAny_AugAssign_Name ?_
 have go:wpAny (T0 X.prog X.w) X.A (Xv e X.env) (λw z5=>wpAny (T0 X.prog X.w) X.A (inplaceOp op u w) (λr Lw=>wpAny (T0 X.prog X.w) X.A (storeName X.env x r) (λ_=>q9 X pins D .next) X.xe Lw) X.xe z5) X.xe s:=by
  refine cm (aB pins s σ H _ I h) λw az ⟨y,aq,be,r1,aR⟩=>?_;refine cm (aA pins az σ aq v y u w _ be r r1 aR) λz a' ⟨aht,aQ,d3,r2,bK⟩=>?_;exact q8 d3 a4 ay ao r2 (λcn dn=>⟨_,aQ,dn,bK⟩) bu
 rcases l with⟨ag,ax⟩|⟨ag,c,hc,pS⟩
 ·exact X2 I.ok.kind ag aM ax go
 ·rcases ag with ag|ag
  ·exact X4 I.ok.kind ag hc pS go
  ·rcases ao with k|k
   ·have:X.env.scope.names.lookup x=some .free:=ag;rw[k]at this;cases this
   ·have:X.env.scope.names.lookup x=some .free:=ag;rw[k]at this;cases this
def Lx(f:Int->Int->Int):vL:=λx y H Q=>∃i j,x=.int i/\y=.int j/\Q (.int (f i j)) H
def Ly:Eb X .Add (Lx λi j=>i+j):=by
 intro pins s σ H x y v u Q I r1 r2 h;obtain⟨i,j,ah,ap,q⟩:=h;subst ah;subst ap;obtain⟨t,rfl⟩:=r1;obtain⟨t',rfl⟩:=r2;exact iadd_int ⟨.int _,H,I.tok _,⟨_,rfl⟩,q⟩
end
section
variable{X:aK}{pos:Pos}
def Lz(c:fh)(tb:gA):gA:=λD σ H=>∃W:Nat->St->aj->Prop,(∃m,W m σ H)/\∀m σ H,W m σ H->
 c σ H λb aq=>if b=true then ∃N:St->aj->Prop,(∀a6 H',N a6 H'->∃m',m'<m/\W m' a6 H')/\tb {D with nx:=N,ct:=N,bk:=D.nx} σ aq else D.nx σ aq
def LA{c:UV}{body:Zq}{tc:fh}{tb:gA}(ae:X6 (T0 X.prog X.w) X.A X.env X.xe)(hc:jj X c tc)(ab:i2 X body tb):jk X (.While c body [] pos) (Lz tc tb):=by
 intro pins s σ H D I h;obtain⟨W,⟨dO,w0⟩,turn⟩:=h;refine wpAny_While (codeAny_whileLoop (λn s'=>∃a6 H',Inv X pins a6 H' s'/\W n a6 H') ?_ dO ⟨σ,H,I,w0⟩);rintro n az ⟨g4,aq,be,w1⟩;refine XD ae (cm (hc pins az g4 aq _ be (turn n g4 aq w1)) λb a' ⟨aQ,d3,bK⟩=>?_);cases b with
 |true=>
  obtain⟨N,a4,bK⟩:=bK;rw[SC rfl];refine XD ae (cm (ab pins a' g4 aQ _ d3 bK) λf cn e7=>?_);cases f with
  |next=>
   obtain⟨gL,cR,dn,sZ⟩:=e7;obtain⟨m',ax,s0⟩:=a4 gL cR sZ;exact⟨m',ax,gL,cR,dn,s0⟩
  |cont=>
   obtain⟨gL,cR,dn,sZ⟩:=e7;obtain⟨m',ax,s0⟩:=a4 gL cR sZ;exact⟨m',ax,gL,cR,dn,s0⟩
  |brk=>exact e7
  |ret v=>exact e7
 |false=>
  rw[SL S3];exact X5 ⟨g4,aQ,d3,bK⟩
end
structure iK where
 go:Nat->aj->Prop
 yld:Nat->aj->V->aj->Prop
 stop:Nat->aj->Prop
def kT(X:aK)(pins:Zs)(H:aj)(b:TI):Prop:=
 H b=none/\b≠X.env.locals/\b∉X.fs/\(b∈X.ex\/X.s₀.heap.objs.size<=b)/\(∀x c,X.env.cells.lookup x=some c->c≠b)/\∀p∈X.pn++pins,p.1≠b
def Inv.fpOk{X:aK}{pins:Zs}{σ:St}{H H':aj}{s:TE}{b:TI}(I:Inv X pins σ H s)(ab:s.heap.objs.size<=b)(aM:H' b=none):kT X pins H' b:=by
 refine⟨aM,U8 (Tq I.lt ab),I.nofs ab,.inr (SE I.sz ab),λx c e z=>?_,λp ae z=>?_⟩
 ·obtain⟨v,q⟩:=I.cell x c e;exact absurd (Tq q.lt (by rw[z];exact ab)) (T6 _)
 ·exact absurd (Tq (Heap.lt_size (I.pin p ae).1) (by rw[z];exact ab)) (T6 _)
structure pX (P:Uf) (w:Xk) (K:Sv) (bz:UV) (J:iK) (cI:Zo) (it:TI) (iL:Nat->Xx->Prop):Prop where
 mem:it∈cI
 obj:∀i h,iL i h->∀b∈cI,∃o,h.get? b=some o/\∀v,o.data≠.cell v
 keep:∀i h h',iL i h->(∀b∈cI,∀o,h.get? b=some o->h'.get? b=some o)->iL i h'
 item:∀(X:aK),X.prog=P->X.w=w->X.K=K->X.calm=true->∀(i:Nat)(pins:Zs)(s:TE)(σ:St)(H:aj)(E:Tl->TE->Prop),Inv X pins σ H s->(∀b∈cI,kT X pins H b)->iL i s.heap->J.go i H->
  wpAny (T0 P w) X.A (YG (.ref it)) (λr az=>∃u,r=some u /\
   wpAny (T0 P w) X.A (X7 bz (.ref it) u) (λ_ a'=>∃x H',Inv X pins σ H' a'/\RelV x u/\J.yld i H x H'/\iL (i+1) a'.heap/\∀b∈cI,H' b=none) E az) E s
 done:∀(X:aK),X.prog=P->X.w=w->X.K=K->X.calm=true->∀(i:Nat)(pins:Zs)(s:TE)(σ:St)(H:aj)(E:Tl->TE->Prop),Inv X pins σ H s->(∀b∈cI,kT X pins H b)->iL i s.heap->J.stop i H->
  wpAny (T0 P w) X.A (YG (.ref it)) (λr az=>r=none/\Inv X pins σ H az) E s
 self:∀(A:Xq)(i:Nat)(s:TE)(Q:Tl->TE->Prop)(E:Tl->TE->Prop),iL i s.heap->Q (.ref it) s->wpAny (T0 P w) A (pyIter (.ref it)) Q E s
abbrev h6:=St->aj->(iK->aj->Prop)->Prop
def Ef(X:aK)(pins:Zs)(σ:St)(bz:UV)(R:iK->aj->Prop)(ou:Tl)(a':TE):Prop:=
 ∃(it:TI)(cI:Zo)(iL:Nat->Xx->Prop)(J:iK)(H':aj),ou=.ref it/\Inv X pins σ H' a'/\pX X.prog X.w X.K bz J cI it iL/\iL 0 a'.heap/\(∀b∈cI,kT X pins H' b)/\R J H'
def kk(X:aK)(bz dB:UV)(f9:h6):Prop:=
 ∀(pins:Zs)(s:TE)(σ:St)(H:aj)(R:iK->aj->Prop),Inv X pins σ H s->f9 σ H R->
  wpAny (T0 X.prog X.w) X.A (Xv dB X.env) (λv az=>wpAny (T0 X.prog X.w) X.A (pyIter v) (Ef X pins σ bz R) X.xe az) X.xe s
def s1{M:Model}{A:Xq}{E:Tl->TE->Prop}{s:TE}{bz:UV}{it:TI}{u:Tl}{o:Obj}{n:String}{vs:Array Tl}{Q:Unit->TE->Prop}(aA:s.heap.get? it=some o)(hc:o.cls=.type n)(hd:o.data=.fields vs)(aM:["enumerate","zip","dict_itemiterator","dict_reverseitemiterator","odict_iterator","itertools.zip_longest","itertools.pairwise"].contains n=false)(hr:Q () s): wpAny M A (X7 bz (.ref it) u) Q E s:=by
  unfold X7
  cases bz<;>first
    |exact Tk hr
    | (cases u<;>first
        |exact Tk hr
        | (refine SB (wpAny_load aA ?_)
           rw[hc,hd];show wpAny M A (if(["enumerate","zip","dict_itemiterator","dict_reverseitemiterator","odict_iterator","itertools.zip_longest","itertools.pairwise"].contains n&&vs[0]?==some (YT _))=true then _ else _) Q E s
           rw[SL (by intro h;rw[aM,Bool.false_and]at h;cases h)]
           exact Tk hr))
def z6(K:Sv)(a:TI):iK:=
 ⟨λi H=>∃xs x,cx K H a xs/\xs[i]?=some x,λi H x H'=>H'=H/\∀xs,cx K H a xs->xs[i]?=some x,λi H=>∃xs,cx K H a xs/\xs.length<=i⟩
def z7(K:Sv)(a:TI):iK:=
 ⟨λi H=>∃xs x,ev K H a xs/\xs[i]?=some x,λi H x H'=>H'=H/\∀xs,ev K H a xs->xs[i]?=some x,λi H=>∃xs,ev K H a xs/\xs.length<=i⟩
def rd(lo:Int)(n:Nat):iK:=⟨λi _=>i<n,λi H x H'=>H'=H/\x=.int (lo+i),λi _=>n<=i⟩
def LB{P:Uf}{w:Xk}{K:Sv}{bz:UV}(a it:TI):pX P w K bz (z6 K a) [it] it (λi h=>h.IsListIter it a i) where
 mem:=by simp
 obj:=λi h st b ab=>by
  have e:b=it:=by simpa using ab
  subst e;obtain⟨o,e,c,d⟩:=st;exact⟨o,e,λv z=>by rw[d]at z;cases z⟩
 keep:=λi h h' st k=>st.at λo e=>k it (by simp) o e
 item:=by
  intro X gj hw e8 hc i pins s σ H E I bu st aC;subst gj hw e8;obtain⟨xs,x,au,ao⟩:=aC;obtain⟨its,cd,p,hz⟩:=I.list au;obtain⟨u,bn,iM⟩:=cd.get ao;obtain⟨e9,aU,a9,bE,db,d4⟩:=bu it (by simp);refine Yo st p.isList (x:=u) (by simpa using bn) λh' i3 f'=>?_;have be:Inv X pins σ H {s with heap:=h' }:=I.turned (t':=s.toks) (λb o ab e=>(f'.2 b ab).trans e) e9 aU bE db d4;obtain⟨o,e,c,d⟩:=id i3;exact⟨u,rfl,s1 (s:={s with heap:=h' }) e c d (by decide) ⟨x,H,be,iM,⟨rfl,λys aN=>by rw[I.list_inj aN au];exact ao⟩,i3,λb ab=>(bu b ab).1⟩⟩
 done:=by
  intro X gj hw e8 hc i pins s σ H E I bu st aC;subst gj hw e8;obtain⟨xs,au,ao⟩:=aC;obtain⟨its,cd,p,hz⟩:=I.list au;obtain⟨e9,aU,a9,bE,db,d4⟩:=bu it (by simp);have am:=cd.length;exact Yt (I.ok.hd hc) st p.isList (by simp;lia) λh' eN=>⟨rfl,I.turned (t':=s.toks) (λb o ab e=>eN b o ab e) e9 aU bE db d4⟩
 self:=λ_ _ _ _ _ st h=>wpAny_pyIter_listiter st h
def LC{P:Uf}{w:Xk}{K:Sv}{bz:UV}(a it:TI):pX P w K bz (z7 K a) [it] it (λi h=>h.IsTupleIter it a i) where
 mem:=by simp
 obj:=λi h st b ab=>by
  have e:b=it:=by simpa using ab
  subst e;obtain⟨o,e,c,d⟩:=st;exact⟨o,e,λv z=>by rw[d]at z;cases z⟩
 keep:=λi h h' st k=>st.at λo e=>k it (by simp) o e
 item:=by
  intro X gj hw e8 hc i pins s σ H E I bu st aC;subst gj hw e8;obtain⟨xs,x,au,ao⟩:=aC;obtain⟨its,cd,p,hz⟩:=I.tuple au;obtain⟨u,bn,iM⟩:=cd.get ao;obtain⟨e9,aU,a9,bE,db,d4⟩:=bu it (by simp);refine wpAny_pyNext_tuple_item st (show s.heap.IsTuple a its.toArray from p) (x:=u) (by simpa using bn) λh' i3 f'=>?_;have be:Inv X pins σ H {s with heap:=h' }:=I.turned (t':=s.toks) (λb o ab e=>(f'.2 b ab).trans e) e9 aU bE db d4;obtain⟨o,e,c,d⟩:=id i3;exact⟨u,rfl,s1 (s:={s with heap:=h' }) e c d (by decide) ⟨x,H,be,iM,⟨rfl,λys aN=>by rw[I.tuple_inj aN au];exact ao⟩,i3,λb ab=>(bu b ab).1⟩⟩
 done:=by
  intro X gj hw e8 hc i pins s σ H E I bu st aC;subst gj hw e8;obtain⟨xs,au,ao⟩:=aC;obtain⟨its,cd,p,hz⟩:=I.tuple au;obtain⟨e9,aU,a9,bE,db,d4⟩:=bu it (by simp);have am:=cd.length;exact wpAny_pyNext_tuple_end (I.ok.hd hc) st (show s.heap.IsTuple a its.toArray from p) (by simp;lia) λh' eN=>⟨rfl,I.turned (t':=s.toks) (λb o ab e=>eN b o ab e) e9 aU bE db d4⟩
 self:=λ_ _ _ _ _ st h=>wpAny_pyIter_tupleiter st h
def LD{P:Uf}{w:Xk}{K:Sv}{bz:UV}(it:TI)(lo:Int)(n:Nat):pX P w K bz (rd lo n) [it] it (λi h=>IsRangeIter h it (lo+(i:Nat)*1) ((n:Int)-(i:Nat)) 1) where
 mem:=by simp
 obj:=λi h st b ab=>by
  have e:b=it:=by simpa using ab
  subst e
  exact⟨_,st,λv z=>by
   have e6:Data.fields _=Data.cell v:=z
   cases e6⟩
 keep:=λi h h' st k=>k it (by simp) _ st
 item:=by
  intro X gj hw e8 hc i pins s σ H E I bu st aC;subst gj hw e8;obtain⟨e9,aU,a9,bE,db,d4⟩:=bu it (by simp);have W:=Walks.range (prog:=X.prog) (w:=X.w) (I.ok.hd hc) it lo 1 n;refine W.item i s _ _ aC st λv h' jP aL i3 aG=>?_;obtain⟨t,rfl⟩:=aL;have be:Inv X pins σ H {s with heap:=h',toks:=jP}:=I.turned (λb o ab e=>aG b o (by simpa using ab) e) e9 aU bE db d4;refine⟨_,rfl,s1 (s:={s with heap:=h',toks:=jP}) (n:="range_iterator") i3 rfl rfl (by decide) ⟨.int (lo+i),H,be,⟨t,?_⟩,⟨rfl,rfl⟩,i3,λb ab=>(bu b ab).1⟩⟩;rw[U9]
 done:=by
  intro X gj hw e8 hc i pins s σ H E I bu st aC;subst gj hw e8;obtain⟨e9,aU,a9,bE,db,d4⟩:=bu it (by simp);exact wpAny_pyNext_range_end (I.ok.hd hc) st (by have:n<=i:=aC;lia) λh' eN=>⟨rfl,I.turned (t':=s.toks) (λb o ab e=>eN b o ab e) e9 aU bE db d4⟩
 self:=λ_ _ _ _ _ st h=>wpAny_pyIter_rangeiter st h
section
variable{X:aK}{bz:UV}
def LF(K:Sv)(gk:bP):h6:=λσ H R=>gk σ H λx aq=>∃a,x=.ref a/\(∃xs,cx K aq a xs)/\R (z6 K a) aq
def LG(K:Sv)(gk:bP):h6:=λσ H R=>gk σ H λx aq=>∃a,x=.ref a/\(∃xs,ev K aq a xs)/\R (z7 K a) aq
def z8{l:UV}{gk:bP}(am:b4 X l gk):kk X bz l (LF X.K gk):=by
 intro pins s σ H R I h;refine cm (am pins s σ H _ I h) λv az ⟨x,aq,be,r1,aR⟩=>?_;obtain⟨a,e,⟨xs,au⟩,q⟩:=aR;subst e;cases r1;obtain⟨its,cd,p,hz⟩:=be.list au;refine Yh p.isList ?_;refine⟨az.heap.objs.size,[az.heap.objs.size],_,_,aq,rfl,be.kept (t':=az.toks) λb o e=>Heap.get?_push_of_some _ e,LB a _,⟨_,Heap.get?_push_size _ rfl,rfl,rfl⟩,λb ab=>?_,q⟩;have e:b=az.heap.objs.size:=by simpa using ab
 subst e;exact be.fpOk (Sy _) (be.hok.fresh (Sy _))
def LH{l:UV}{gk:bP}(am:b4 X l gk):kk X bz l (LG X.K gk):=by
 intro pins s σ H R I h;refine cm (am pins s σ H _ I h) λv az ⟨x,aq,be,r1,aR⟩=>?_;obtain⟨a,e,⟨xs,au⟩,q⟩:=aR;subst e;cases r1;obtain⟨its,cd,p,hz⟩:=be.tuple au;refine wpAny_pyIter_tuple (show az.heap.IsTuple a its.toArray from p) ?_;refine⟨az.heap.objs.size,[az.heap.objs.size],_,_,aq,rfl,be.kept (t':=az.toks) λb o e=>Heap.get?_push_of_some _ e,LC a _,⟨_,Heap.get?_push_size _ rfl,rfl,rfl⟩,λb ab=>?_,q⟩;have e:b=az.heap.objs.size:=by simpa using ab
 subst e;exact be.fpOk (Sy _) (be.hok.fresh (Sy _))
def Eg{pins:Zs}{σ:St}{H:aj}{s:TE}{R:iK->aj->Prop}{E:Tl->TE->Prop}{lo ay:Int}{t u v:Tok}{jP:Nat}(I:Inv X pins σ H s)(h1 : -(2^62)<=lo)(h2:lo<2^62)(aF : -(2^62)<=ay)(bb:ay<2^62)(q:R (rd lo (ay-lo).toNat) H):wpAny (T0 X.prog X.w) X.A (pyIter (.ref s.heap.objs.size)) (Ef X pins σ bz R) E {s with heap:=s.heap.push {cls:=.type "range",data:=.fields #[.int lo t,.int ay u,.int 1 v]},toks:=jP}:=by
 refine wpAny_pyIter_range (IsRange.new ..) (small_one h1 h2 aF bb) ?_;have be:Inv X pins σ H {s with heap:=s.heap.push {cls:=.type "range",data:=.fields #[.int lo t,.int ay u,.int 1 v]},toks:=jP}:=I.kept λb o e=>Heap.get?_push_of_some _ e
 refine⟨(s.heap.push {cls:=.type "range",data:=.fields #[.int lo t,.int ay u,.int 1 v]}).objs.size,[(s.heap.push {cls:=.type "range",data:=.fields #[.int lo t,.int ay u,.int 1 v]}).objs.size],_,_,H,rfl,
  be.kept (t':=jP) λb o e=>Heap.get?_push_of_some _ e,LD _ lo (ay-lo).toNat,?_,λb ab=>?_,q⟩
 ·have ah:lo+((0:Nat):Int)*1=lo:=by simp
  have ap:(((ay-lo).toNat:Nat):Int)-((0:Nat):Int)=Builtin.Range.rangeSize lo ay 1:=by rw[rangeSize_one];split<;>lia
  show IsRangeIter _ _ (lo+((0:Nat):Int)*1) ((((ay-lo).toNat:Nat):Int)-((0:Nat):Int)) 1
  rw[ah,ap];exact Heap.get?_push_size _ rfl
 ·have e:b=(s.heap.push {cls:=.type "range",data:=.fields #[.int lo t,.int ay u,.int 1 v]}).objs.size:=by simpa using ab
  subst e;exact be.fpOk (Sy _) (be.hok.fresh (Sy _))
def LI(b5:fi):h6:=λσ H R=>b5 σ H λvs aq=>∃j:Int,vs=[.int j] /\ -(2^62)<=j/\j<2^62/\R (rd 0 j.toNat) aq
def LJ(b5:fi):h6:=λσ H R=>b5 σ H λvs aq=>∃i j:Int,vs=[.int i,.int j]/\(-(2^62)<=i/\i<2^62 /\ -(2^62)<=j/\j<2^62)/\R (rd i (j-i).toNat) aq
def LK{a:UV}{b5:fi}{p pos:Pos}(aC:eY X "range")(ax:X.mg "range"=none)(ar:hJ X [a] b5)(al:SZ [a] X.env=[(false,Xv a X.env)]:=by rfl):kk X bz (.Call (.Name "range" p) [a] [] pos) (LI b5):=by
 intro pins s σ H R I h;refine Call_ (ra I aC ax boot_range (U' (cm (ar pos pins s σ H _ I h) λus az ⟨vs,aq,be,r1,aR⟩=>?_) al rfl));obtain⟨j,e,aR,bK,q⟩:=aR;subst e;cases r1 with
 |cons r fL=>
  cases fL;obtain⟨t,rfl⟩:=r;exact call_range_1 (Eg be (by lia) (by lia) aR bK (by simpa using q))
def LL{a b:UV}{b5:fi}{p pos:Pos}(aC:eY X "range")(ax:X.mg "range"=none)(ar:hJ X [a,b] b5)(al:SZ [a,b] X.env=[(false,Xv a X.env),(false,Xv b X.env)]:=by rfl)(jQ:SZ [b] X.env=[(false,Xv b X.env)]:=by rfl):
  kk X bz (.Call (.Name "range" p) [a,b] [] pos) (LJ b5):=by
 intro pins s σ H R I h;refine Call_ (ra I aC ax boot_range (U' (cm (ar pos pins s σ H _ I h) λus az ⟨vs,aq,be,r1,aR⟩=>?_) (by rw[al,jQ]) (by rw[jQ];rfl)));obtain⟨i,j,e,⟨aR,bK,e7,pY⟩,q⟩:=aR;subst e;cases r1 with
 |cons r fL=>
  cases fL with
  |cons dA fL=>
   cases fL;obtain⟨t,rfl⟩:=r;obtain⟨t',rfl⟩:=dA;exact call_range_2 (Eg be aR bK e7 pY q)
def LM(f9:h6)(g:hs)(tb:gA):gA:=λD σ H=>f9 σ H λJ aq=>∃W:Nat->Nat->St->aj->Prop,(∃m,W 0 m σ aq)/\∀i m σ H,W i m σ H->
 (J.stop i H/\D.nx σ H)\/(J.go i H/\∃N:St->aj->Prop,(∀a6 H',N a6 H'->∃m',m'<m/\W (i+1) m' a6 H')/\∀x H',J.yld i H x H'->g x σ H' λre aQ=>tb {D with nx:=N,ct:=N,bk:=D.nx} re aQ)
def s2(cI:Zo)(h:Xx):List (TI×Obj):=cI.filterMap λb=>(h.get? b).map λo=>(b,o)
def vP{cI:Zo}{h:Xx}{b:TI}{o:Obj}(ab:b∈cI)(e:h.get? b=some o):(b,o)∈s2 cI h:=Wr.mpr ⟨b,ab,by rw[e];rfl⟩
def LN{cI:Zo}{h:Xx}{p:TI×Obj}(ae:p∈s2 cI h):p.1∈cI/\h.get? p.1=some p.2:=by
 obtain⟨b,ab,e⟩:=Wr.mp ae;cases q:h.get? b with
 |none=>rw[q]at e;cases e
 |some o=>
  rw[q]at e;have aS:(b,o)=p:=SS e;subst aS;exact⟨ab,q⟩
def Inv.pinned{pins:Zs}{σ:St}{H:aj}{s:TE}{cI:Zo}(I:Inv X pins σ H s)(bu:∀b∈cI,kT X pins H b)(aA:∀b∈cI,∃o,s.heap.get? b=some o/\∀v,o.data≠.cell v):Inv X (pins++s2 cI s.heap) σ H s:=
 I.pins_of λp ae=>(SR.mp ae).elim (λz=>I.pin p (Ts _ z)) λz=>by
  obtain⟨ab,e⟩:=LN z;obtain⟨e9,aU,a9,_⟩:=bu p.1 ab;obtain⟨o,aS,d⟩:=aA p.1 ab;rw[e]at aS;cases aS;exact⟨e,e9,aU,a9,d⟩
def Inv.unpinned{pins cp:Zs}{σ:St}{H:aj}{s:TE}(I:Inv X (pins++cp) σ H s):Inv X pins σ H s:=I.pins_of λp ae=>I.pin p (Ts _ (TN _ ae))
def s3{dB:UV}{body:Zq}{f9:h6}{g:hs}{tb:gA}{pos:Pos}(ae:X6 (T0 X.prog X.w) X.A X.env X.xe)(hc:X.calm=true)(ay:kk X bz dB f9)(aC:jO X bz g)(ab:i2 X body tb)(al:∀x,UF dB X.env x=pure x:=by intro _;rfl):jk X (.For bz dB body [] pos) (LM f9 g tb):=by
 intro pins s σ H D I h;refine wpAny_For (cm (ay pins s σ H _ I h) λv az h1=>cm h1 λou a' h2=>?_) al;obtain⟨it,cI,iL,J,aQ,e,d3,T,pZ,a9,W,⟨dO,w0⟩,turn⟩:=h2;subst e;have p0:∀{H':aj},(∀b∈cI,H' b=none)->∀b∈cI,kT X pins H' b:=λaM b ab=>⟨aM b ab,(a9 b ab).2⟩;refine codeAny_forLoop_any (λn s'=>∃i a6 H',Inv X pins a6 H' s'/\iL i s'.heap/\(∀b∈cI,H' b=none)/\W i n a6 H') ?_ dO ⟨0,σ,aQ,d3,pZ,λb ab=>(a9 b ab).1,w0⟩;rintro n cn ⟨i,gL,cR,dn,Eh,Ei,s0⟩;rcases turn i n gL cR s0 with⟨stop,Ej⟩|⟨go,N,a4,step⟩
 ·refine XD ae (cm (T.done X rfl rfl rfl hc i pins cn gL cR X.xe dn (p0 Ei) Eh stop) λr kU ⟨ak,ot⟩=>?_);subst ak;exact X5 ⟨gL,cR,ot,Ej⟩
 ·refine XD ae (cm (T.item X rfl rfl rfl hc i pins cn gL cR X.xe dn (p0 Ei) Eh go) λr kU ⟨u,ak,bb⟩=>?_);subst ak;refine XD ae (cm bb λ_ i4 ⟨x,gB,pW,LO,LP,rf,vQ⟩=>?_);have LQ:=pW.pinned (p0 vQ) (T.obj _ _ rf);refine XD ae (cm (aC _ i4 gL gB x u _ LQ LO (step x gB LP)) λ_ i5 ⟨LR,LS,kW,z9⟩=>?_);refine XD ae (cm (ab _ i5 LR LS _ kW z9) λf nv mI=>?_)
  have again:∀{lS:St}{jR:aj},Inv X (pins++s2 cI i4.heap) lS jR nv->N lS jR->∃m,m<n/\∃i a6 H',Inv X pins a6 H' nv/\iL i nv.heap/\(∀b∈cI,H' b=none)/\W i m a6 H':=λ{lS jR} i6 s4=>by
   obtain⟨m',ax,LU⟩:=a4 lS jR s4;refine⟨m',ax,i+1,lS,jR,i6.unpinned,T.keep _ _ _ rf λb ab o e=>(i6.pin (b,o) (Ts _ (Ts _ (vP ab e)))).1,λb ab=>?_,LU⟩;obtain⟨o,e,d⟩:=T.obj _ _ rf b ab;exact(i6.pin (b,o) (Ts _ (Ts _ (vP ab e)))).2.1
  cases f with
  |next=>obtain⟨lS,jR,i6,s4⟩:=mI;exact again i6 s4
  |cont=>obtain⟨lS,jR,i6,s4⟩:=mI;exact again i6 s4
  |brk=>obtain⟨lS,jR,i6,mI⟩:=mI;exact⟨lS,jR,i6.unpinned,mI⟩
  |ret v=>obtain⟨LV,lS,jR,i6,z',mI⟩:=mI;exact⟨LV,lS,jR,i6.unpinned,z',mI⟩
end
abbrev fB:=V->V->aj->cJ->Prop
def gl(X:aK)(f:Tl->Tl->Sem Tl)(r:fB):Prop:=
 ∀(pins:Zs)(s:TE)(σ:St)(H:aj)(x y:V)(v u:Tl)(Q:cJ),Inv X pins σ H s->RelV x v->RelV y u->r x y H Q->
  wpAny (T0 X.prog X.w) X.A (f v u) (h4 X pins σ Q) X.xe s
def Aa(X:aK)(f:Tl->Sem Tl)(r:V->aj->cJ->Prop):Prop:=
 ∀(pins:Zs)(s:TE)(σ:St)(H:aj)(x:V)(v:Tl)(Q:cJ),Inv X pins σ H s->RelV x v->r x H Q->
  wpAny (T0 X.prog X.w) X.A (f v) (h4 X pins σ Q) X.xe s
def nw(X:aK)(f:Tl)(r:Zf->aj->cJ->Prop):Prop:=
 ∀(pins:Zs)(s:TE)(σ:St)(H:aj)(xs:Zf)(us:Zn)(Q:cJ),Inv X pins σ H s->b1 xs us->r xs H Q->
  wpAny (T0 X.prog X.w) X.A (call f us) (h4 X pins σ Q) X.xe s
def LW(X:aK)(r:V->aj->(Bool->aj->Prop)->Prop):Prop:=
 ∀(pins:Zs)(s:TE)(σ:St)(H:aj)(x:V)(v:Tl)(Q:Bool->aj->Prop),Inv X pins σ H s->RelV x v->r x H Q->
  wpAny (T0 X.prog X.w) X.A (truthy v) (vJ X pins σ Q) X.xe s
def ny(r:fB)(b5 tb:bP):bP:=λσ H Q=>b5 σ H λx aq=>tb σ aq λy aQ=>r x y aQ Q
def Ab(r:V->aj->cJ->Prop)(b5:bP):bP:=λσ H Q=>b5 σ H λx aq=>r x aq Q
def rh(C:Int->Int->Prop)(g:Int->Int->V):fB:=λx y H Q=>∃i j,x=.int i/\y=.int j/\C i j/\Q (g i j) H
def kX(g:Int->Int->V):fB:=λx y H Q=>∃i j,x=.int i/\y=.int j/\Q (g i j) H
def Ac(g:Int->V):V->aj->cJ->Prop:=λx H Q=>∃i,x=.int i/\Q (g i) H
section
variable{X:aK}{a b c:UV}{b5 tb tc:bP}{pos:Pos}
def Ad(ar:b4 X a b5)(ab:b4 X b tb){pins:Zs}{s:TE}{σ:St}{H:aj}{R:V->V->aj->Prop}(I:Inv X pins σ H s)(h:b5 σ H λx aq=>tb σ aq λy aQ=>R x y aQ){Q:Tl->TE->Prop}{f:Tl->Tl->Sem Tl}(bu:∀v u a' x y aQ,Inv X pins σ aQ a'->RelV x v->RelV y u->R x y aQ->wpAny (T0 X.prog X.w) X.A (f v u) Q X.xe a'):
  wpAny (T0 X.prog X.w) X.A (Xv a X.env) (λv ec=>wpAny (T0 X.prog X.w) X.A (Xv b X.env) (λu z5=>wpAny (T0 X.prog X.w) X.A (f v u) Q X.xe z5) X.xe ec) X.xe s:=by
 refine cm (ar pins s σ H _ I h) λv az ⟨x,aq,be,r1,aR⟩=>?_;refine cm (ab pins az σ aq _ be aR) λu a' ⟨y,aQ,d3,r2,bK⟩=>?_;exact bu v u a' x y aQ d3 r1 r2 bK
def f4{op:Operator}{r:fB}(aA:gl X (Yn op) r)(ar:b4 X a b5)(ab:b4 X b tb):b4 X (.BinOp a op b pos) (ny r b5 tb):=by
 intro pins s σ H Q I h;exact wpAny_BinOp (Ad ar ab I h λv u a' x y aQ d3 bc cg q=>aA pins a' σ aQ x y v u Q d3 bc cg q)
def LX{op:UnaryOp}{r:V->aj->cJ->Prop}(aA:Aa X (unaryOp op) r)(ar:b4 X a b5):b4 X (.UnaryOp op a pos) (Ab r b5):=by
 intro pins s σ H Q I h;exact UnaryOp_ (cm (ar pins s σ H _ I h) λv az ⟨x,aq,be,r1,aR⟩=>aA pins az σ aq x v Q be r1 aR)
def vR{f:Tl->Tl->Sem Tl}{C:Int->Int->Prop}{g:Int->Int->Int}(rule:∀(i j:Int) (t u:Tok) (s:TE) (Q:Tl->TE->Prop) (E:Tl->TE->Prop),C i j->Q (.int (g i j) s.toks) {s with toks:=s.toks+1}->wpAny (T0 X.prog X.w) X.A (f (.int i t) (.int j u)) Q E s):
  gl X f (rh C λi j=>.int (g i j)):=by
 intro pins s σ H x y v u Q I bc cg h;obtain⟨i,j,rfl,rfl,hc,q⟩:=h;obtain⟨t,rfl⟩:=bc;obtain⟨t',rfl⟩:=cg;exact rule i j t t' s _ _ hc ⟨.int (g i j),H,I.tok _,⟨_,rfl⟩,q⟩
def Ek{f:Tl->Tl->Sem Tl}{g:Int->Int->Int}(rule:∀(i j:Int) (t u:Tok) (s:TE) (Q:Tl->TE->Prop) (E:Tl->TE->Prop),Q (.int (g i j) s.toks) {s with toks:=s.toks+1}->wpAny (T0 X.prog X.w) X.A (f (.int i t) (.int j u)) Q E s):
  gl X f (kX λi j=>.int (g i j)):=by
 intro pins s σ H x y v u Q I bc cg h;obtain⟨i,j,rfl,rfl,q⟩:=h;obtain⟨t,rfl⟩:=bc;obtain⟨t',rfl⟩:=cg;exact rule i j t t' s _ _ ⟨.int (g i j),H,I.tok _,⟨_,rfl⟩,q⟩
def ri{f:Tl->Tl->Sem Tl}{g:Int->Int->Bool}(rule:∀(i j:Int) (t u:Tok) (s:TE) (Q:Tl->TE->Prop) (E:Tl->TE->Prop),Q (.bool (g i j)) s->wpAny (T0 X.prog X.w) X.A (f (.int i t) (.int j u)) Q E s):
  gl X f (kX λi j=>.bl (g i j)):=by
 intro pins s σ H x y v u Q I bc cg h;obtain⟨i,j,rfl,rfl,q⟩:=h;obtain⟨t,rfl⟩:=bc;obtain⟨t',rfl⟩:=cg;exact rule i j t t' s _ _ ⟨.bl (g i j),H,I,rfl,q⟩
def El(i j:Int):Prop:=0<=j/\j<=1000000/\i.natAbs<2^64
def vS:gl X (Yn .Add) (kX λi j=>.int (i+j)):=Ek λ_ _ _ _ _ _ _ q=>add_int q
def LY:gl X (Yn .Sub) (kX λi j=>.int (i-j)):=Ek λ_ _ _ _ _ _ _ q=>sub_int q
def nz:gl X (Yn .Mod) (rh (λ_ j=>0<j) λi j=>.int (i%j)):=vR λi j _ _ _ _ _ hc q=>by
 have h1:(0:Int)<j:=hc;exact mod_int' (by lia) (by rw[Int.fmod_eq_emod_of_nonneg i (by lia)];exact q)
def Ae:gl X (Yn .Pow) (rh El λi j=>.int (i^j.toNat)):=vR λ_ _ _ _ _ _ _ hc q=>pow_int_small hc.1 hc.2.1 hc.2.2 q
def LZ{f:Tl->Sem Tl}{g:Int->Int}(rule:∀(i:Int) (t:Tok) (s:TE) (Q:Tl->TE->Prop) (E:Tl->TE->Prop),Q (.int (g i) s.toks) {s with toks:=s.toks+1}->wpAny (T0 X.prog X.w) X.A (f (.int i t)) Q E s):
  Aa X f (Ac λi=>.int (g i)):=by
 intro pins s σ H x v Q I bc h;obtain⟨i,rfl,q⟩:=h;obtain⟨t,rfl⟩:=bc;exact rule i t s _ _ ⟨.int (g i),H,I.tok _,⟨_,rfl⟩,q⟩
def L0:Aa X (unaryOp .USub) (Ac λi=>.int (-i)):=LZ λ_ _ _ _ _ q=>neg_int q
end
section
variable{X:aK}{a b c:UV}{b5 tb tc:bP}{pos:Pos}
def mJ:gl X (XE .Lt) (kX λi j=>.bl (decide (i<j))):=ri λ_ _ _ _ _ _ _ q=>lt_int q
def L1:gl X (XE .LtE) (kX λi j=>.bl (decide (i<=j))):=ri λ_ _ _ _ _ _ _ q=>le_int q
def rj:gl X (XE .Gt) (kX λi j=>.bl (decide (j<i))):=ri λ_ _ _ _ _ _ _ q=>gt_int q
def vT:gl X (XE .GtE) (kX λi j=>.bl (decide (j<=i))):=ri λ_ _ _ _ _ _ _ q=>ge_int q
def dJ(b:UV){op:CmpOp}(h:op≠.In:=by decide)(h2:op≠.NotIn:=by decide):Xo op b=false:=by
 have ah:(op==CmpOp.In)=false:=by cases op<;>first|rfl|exact absurd rfl h
 have ap:(op==CmpOp.NotIn)=false:=by cases op<;>first|rfl|exact absurd rfl h2
 cases b<;>simp[Xo,ah,ap]
def vU{op:CmpOp}{r:fB}(aA:gl X (XE op) r)(ar:b4 X a b5)(ab:b4 X b tb)(ax:Xo op b=false):b4 X (.Compare a [op] [b] pos) (ny r b5 tb):=by
 intro pins s σ H Q I h;exact wpAny_Compare1 (Ad ar ab I h λv u a' x y aQ d3 bc cg q=>aA pins a' σ aQ x y v u Q d3 bc cg q) ax
def L4(t:bP):fh:=λσ H Q=>t σ H λx H'=>∃k,x=.bl k/\Q k H'
def p1{op:CmpOp}{r:fB}(aA:gl X (XE op) r)(ar:b4 X a b5)(ab:b4 X b tb)(ax:Xo op b=false):jj X (.Compare a [op] [b] pos) (L4 (ny r b5 tb)):=by
 intro pins s σ H Q I h
 refine wpAny_isTrue_Compare1 (cm (ar pins s σ H _ I h) λv az ⟨x,aq,be,r1,aR⟩=>cm (ab pins az σ aq _ be aR) λu a' ⟨y,aQ,d3,r2,bK⟩=>
  cm (aA pins a' σ aQ x y v u _ d3 r1 r2 bK) λc cn ⟨z,cR,dn,ga,k,e,e7⟩=>?_) ax
 subst e;cases ga;exact Xw ⟨cR,dn,e7⟩
def Em(K:Sv)(x:V)(H:aj)(k:Bool):Prop:=
 match x with
 |.non=>k=false
 |.bl b=>k=b
 |.int i=>k=(i != 0)
 |.str y=>y.length<=TT/\k=((y.length:Int) != 0)
 |.byt y=>y.size<=TT/\k=((y.size:Int) != 0)
 |.ref p=>(∃xs,cx K H p xs/\k = !xs.isEmpty)\/(∃xs,ev K H p xs/\k = !xs.isEmpty)\/∃kvs,H p=some (.dK kvs)/\k = !kvs.isEmpty
 |_=>False
def L5{κ:Type}{kvs:List (κ×V)}{vs:List (κ×Tl)}(r:zV kvs vs):(!vs.isEmpty) = !kvs.isEmpty:=by
 cases r<;>rfl
def En{xs:Zf}{its:Zn}(r:b1 xs its):(!its.toArray.isEmpty) = !xs.isEmpty:=by
 cases r<;>simp
def s5:(TT:Nat)<2^63:=by rw[YB];decide
def L6:LW X (λx H Q=>∃k,Em X.K x H k/\Q k H):=by
 intro pins s σ H x v Q I bc h;obtain⟨k,e,q⟩:=h;have am:=s5;have al:TT=16777216:=YB;cases x with
 |non=>
  cases bc;have aS:k=false:=e;subst aS;exact truthy_none ⟨H,I,q⟩
 |bl b=>
  cases bc;have aS:k=b:=e;subst aS;exact Xw ⟨H,I,q⟩
 |int i=>
  obtain⟨t,rfl⟩:=bc;have aS:k=(i != 0):=e;subst aS;exact PySem.P.truthy_int ⟨H,I,q⟩
 |str y=>
  obtain⟨t,rfl⟩:=bc;obtain⟨aN,aS⟩:y.length<=TT/\k=((y.length:Int) != 0):=e;subst aS;exact PySem.P.truthy_str (by lia) ⟨H,I.tok _,q⟩
 |byt y=>
  obtain⟨t,rfl⟩:=bc;obtain⟨aN,aS⟩:y.size<=TT/\k=((y.size:Int) != 0):=e;subst aS;exact PySem.W.truthy_bytes (by lia) ⟨H,I.tok _,q⟩
 |ref p=>
  cases bc;have aS:(∃xs,cx X.K H p xs/\k = !xs.isEmpty)\/(∃xs,ev X.K H p xs/\k = !xs.isEmpty)\/∃kvs,H p=some (.dK kvs)/\k = !kvs.isEmpty:=e;rcases aS with⟨xs,ao,aS⟩|⟨xs,ao,aS⟩|⟨kvs,ao,aS⟩
  ·subst aS;obtain⟨its,r,cp,hz⟩:=I.list ao;have fj:=r.length;exact wpAny_truthy_list cp.isList (by simp only[SW];lia) ⟨H,I.tok _,by rw[En r];exact q⟩
  ·subst aS;obtain⟨its,r,cp,hz⟩:=I.tuple ao;have fj:=r.length;exact truthy_tuple cp (by simp only[SW];lia) ⟨H,I.tok _,by rw[En r];exact q⟩
  ·subst aS;obtain⟨hz,cu,vs,r,m⟩:kvs.length<=TT/\(p==Xy)=false/\∃vs,zV kvs vs/\s.heap.DictOf (zU X.prog X.w) p vs:=I.hok p _ ao;have fj:kvs.length=vs.length:=Paired.length r;exact wpAny_truthy_dict cu m (by lia) ⟨H,I.tok _,by rw[L5 r];exact q⟩
 |_=>exact(show False from e).elim
def L7(ar:b4 X a b5)(aB:∀i1,YY a X.env i1=(do let v <-i1;Y6 a.pos;YO [v] (truthy v))):
  jj X a (λσ H Q=>b5 σ H λx H'=>∃k,Em X.K x H' k/\Q k H'):=by
 intro pins s σ H Q I h;exact isTrue_plain (cm (ar pins s σ H _ I h) λv az ⟨x,aq,be,r1,aR⟩=>L6 pins az σ aq x v Q be r1 aR) (aB _)
def vals1{x:V}{us:Zn}(r:b1 [x] us):∃u,us=[u]/\RelV x u:=by
 cases r with
 |cons r1 r2=>cases r2;exact⟨_,rfl,r1⟩
def vals2{x y:V}{us:Zn}(r:b1 [x,y] us):∃u mD,us=[u,mD]/\RelV x u/\RelV y mD:=by
 cases r with
 |cons r1 r2=>
  cases r2 with
  |cons ga s6=>cases s6;exact⟨_,_,rfl,r1,ga⟩
def L8:nw X (.builtin "abs") (λxs H Q=>∃i,xs=[.int i]/\Q (.int (if i<0 then -i else i)) H):=by
 intro pins s σ H xs us Q I r h;obtain⟨i,rfl,q⟩:=h;obtain⟨u,rfl,t,rfl⟩:=vals1 r;exact call_abs_int λu jP=>⟨.int (if i<0 then -i else i),H,I.tok _,⟨_,rfl⟩,q⟩
def L9:nw X (.type "int") (λxs H Q=>(∃i,xs=[.int i]/\Q (.int i) H)\/∃k,xs=[.bl k]/\Q (.int (if k then 1 else 0)) H):=by
 intro pins s σ H xs us Q I r h;rcases h with⟨i,rfl,q⟩|⟨k,rfl,q⟩
 ·obtain⟨u,rfl,t,rfl⟩:=vals1 r;exact call_int_int ⟨.int i,H,I,⟨_,rfl⟩,q⟩
 ·obtain⟨u,rfl,r1⟩:=vals1 r;cases r1;exact call_int_bool ⟨.int (if k then 1 else 0),H,I.tok _,⟨_,rfl⟩,q⟩
end
structure Af (h:Xx) (x eu C:TI) (f7:Str->Option Tl):Prop where
 obj:h.get? x=some (VG C eu)
 ns:h.Ns1 eu f7
 ne:eu≠x
def L'{h:Xx}{eu:TI}{f7:Str->Option Tl}(n:h.Ns1 eu f7):∃od,h.get? eu=some od/\∀name,VK name od=some (f7 name):=by
 obtain⟨o,es,a3,aA,hd,ag,_,ax⟩:=n;refine⟨o,aA,λname=>?_⟩;have e:=ax name;unfold nsFind findBy at e;rw[<-Array.find?_toList]at e;unfold VK;rw[hd];dsimp only;split
 ·rename_i y q
  rw[q]at e;exact TW some e
 ·rename_i q
  rw[q]at e
  have a:es.toList.any (·.refKey)=false:=by
   rw[List.any_eq_false];intro y aN;obtain⟨z,t,p2⟩:=ag y (Array.mem_toList_iff.mp aN);simp[DictEntry.refKey,p2]
  have fk:¬es.toList.any (·.refKey)=true:=by rw[a];exact S3
  rw[SL fk];exact TW some e
def Af.look{h:Xx}{x eu C:TI}{f7:Str->Option Tl}(I:Af h x eu C f7):∃od,PySem.W.InstAt h x (VG C eu) C (some od)/\∀name,VK name od=some (f7 name):=
 let⟨od,aA,am⟩:=L' I.ns
 ⟨od,⟨I.obj,rfl,rfl,aA⟩,am⟩
def oi.some_of{v:V}{o:Option Tl}(r:oi (some v) o):∃u,o=some u/\RelV v u:=by
 cases o with
 |none=>exact(show False from r).elim
 |some u=>exact⟨u,rfl,r⟩
section
variable{P:Uf}{w:Xk}{H H':aj}{h h':Xx}{a C eu:TI}{fs KR:List (Str×V)}
theorem Ma(hok:e4 P w H h)(e:H a=some (.ins C eu fs)):∃f7,Af h a eu C f7/\(∀f,oi (fs.lookup f) (f7 f))/\PySem.Within f7 (fs.map (·.1))/\fs.length<=1000/\H eu=some (.own a):=by
 obtain⟨d,z,ne,cG,f7,n,r,q⟩:=(show gy P w H h a (.ins C eu fs)from hok a _ e);exact⟨f7,⟨cG,n,ne⟩,r,q,z,d⟩
end
structure Ag (K:Sv) (C:TI):Prop where
 pg:Ws K C Str.empty=true
 hd:PySem.W.hasDictIn K C=true
 po:PySem.W.plainOver K C=true
 sa:Wt K (.ref C) "__setattr__"=some (some (.builtin "object.__setattr__"))
def Ag.get{K:Sv}{C:TI}(c:Ag K C)(f:Str):Ws K C f=true:=c.pg
section
variable{X:aK}{pins:Zs}{σ:St}{H:aj}{s:TE}{A:Xq}{E:Tl->TE->Prop}{Q:Tl->TE->Prop}{c:Tl}{b:Bool}
inductive jS (K:Sv) (H:aj):V->Tl->Prop where
 |non:jS K H .non (.type "NoneType")
 |bl (x:Bool):jS K H (.bl x) (.type "bool")
 |int (i:Int):jS K H (.int i) (.type "int")
 |str (x:Str):jS K H (.str x) (.type "str")
 |flt (x:UInt64):jS K H (.flt x) (.type "float")
 |lst {a:TI} {xs:Zf} (e:H a=some (.lst xs)):jS K H (.ref a) (.type "list")
 |frz {a:TI} {o:Obj} {xs:Zf} (e:H a=some (.frz o (.lst xs))):jS K H (.ref a) (.type "list")
 |tup {a:TI} {xs:Zf} (e:H a=some (.tup xs)):jS K H (.ref a) (.type "tuple")
 |dK {a:TI} {kvs:List (im×V)} (e:H a=some (.dK kvs)):jS K H (.ref a) (.type "dict")
 |dT {a:TI} {kvs:List (List im×V)} (e:H a=some (.dT kvs)):jS K H (.ref a) (.type "dict")
 |ins {a C eu:TI} {fs:List (Str×V)} (e:H a=some (.ins C eu fs)) (bm:Ag K C) (ar:Wt K (.ref C) "__class__"=some (some (.builtin "object.__class__")))
   (aM:PySem.W.specialIn K (.builtin "object.__class__") "__get__"=some (some (.builtin "getset_descriptor.__get__"))) (Eo:PySem.W.takesIn K (.builtin "object.__class__")=some true)
   (ax:PySem.W.mroIn K C (.type "object")=some true):jS K H (.ref a) (.ref C)
def Mb{x:V}{u t:Tl}(I:Inv X pins σ H s)(bc:RelV x u)(ty:jS X.K H x t)(e:VL X.K t c=some b)(h:∀jP,Q (.bool b) {s with toks:=jP}):
  wpAny (T0 X.prog X.w) A (call (.builtin "isinstance") [u,c]) Q E s:=by
 cases ty with
 |non=>cases(show u=Value.none from bc);exact TO PySem.W.kitx_none I.kIn UX e (λz=>nomatch z) h
 |bl y=>cases(show u=Value.bool y from bc);exact TO PySem.W.kitx_bool I.kIn UX e (λz=>nomatch z) h
 |int i=>obtain⟨t,q⟩:=(show ∃t,u=Value.int i t from bc);cases q;exact TO PySem.W.kitx_int I.kIn UX e (λz=>nomatch z) h
 |str y=>obtain⟨t,q⟩:=(show ∃t,u=Value.str y t from bc);cases q;exact TO PySem.W.kitx_str I.kIn UX e (λz=>nomatch z) h
 |flt y=>obtain⟨t,q⟩:=(show ∃t,u=Value.float y t from bc);cases q;exact TO PySem.W.kitx_float I.kIn UX e (λz=>nomatch z) h
 | @lst a xs dy=>
  cases(show u=Value.ref a from bc);obtain⟨_,_,n,_,h1⟩:=(show gy X.prog X.w H s.heap a (.lst xs)from I.hok a _ dy);exact TO Wu I.kIn ⟨_,h1,rfl⟩ e (λz=>nomatch z) h
 | @frz a cG xs dy=>
  cases(show u=Value.ref a from bc);obtain⟨_,_,_,n,_,h1⟩:=(show gy X.prog X.w H s.heap a (.frz cG (.lst xs))from I.hok a _ dy);exact TO Wu I.kIn ⟨_,h1,rfl⟩ e (λz=>nomatch z) h
 | @tup a xs dy=>
  cases(show u=Value.ref a from bc);obtain⟨_,_,_,p⟩:=(show gy X.prog X.w H s.heap a (.tup xs)from I.hok a _ dy);obtain⟨o,h1,h2,_⟩:=p;exact TO PySem.W.kitx_tuple I.kIn ⟨o,h1,h2⟩ e (λz=>nomatch z) h
 | @dK a kvs dy=>
  cases(show u=Value.ref a from bc);obtain⟨_,_,vs,_,p⟩:=(show gy X.prog X.w H s.heap a (.dK kvs)from I.hok a _ dy);obtain⟨o,es,a3,h1,h2,_⟩:=p;exact TO Wv I.kIn ⟨o,h1,h2.1⟩ e (λz=>nomatch z) h
 | @dT a kvs dy=>
  cases(show u=Value.ref a from bc);obtain⟨_,_,xs,_,o,es,a3,h1,h2,_⟩:=(show gy X.prog X.w H s.heap a (.dT kvs)from I.hok a _ dy);exact TO Wv I.kIn ⟨o,h1,h2.1⟩ e (λz=>nomatch z) h
 | @ins a C eu fs dy bm ar aM Eo ax=>
  cases(show u=Value.ref a from bc);obtain⟨f7,O,_⟩:=Ma I.hok dy;obtain⟨od,J,_⟩:=O.look;exact TO (PySem.W.kitx_own (bm.get _) bm.hd ar aM Eo ax) I.kIn J e (λz=>nomatch z) h
end
structure e' (k:Nat) (A:Xq):Prop where
 hd:A.handled=none
 dp:A.depth+3*k+5<recursionLimit
 un:A.units+16*k+200<XA
def e'.mono{j k:Nat}{A:Xq}(r:e' k A)(h:j<=k):e' j A:=⟨r.hd,by have:=r.dp;lia,by have:=r.un;lia⟩
def e'.deeper{k:Nat}{A:Xq}(r:e' (k+1) A)(env:Env):e' k (A.deeper env):=
 ⟨r.hd,by have:=r.dp;show A.depth+1+3*k+5<_;lia,by have:=r.un;show A.units+3+16*k+200<_;lia⟩
def e'.depth{k:Nat}{A:Xq}(r:e' k A):A.depth<recursionLimit:=by have:=r.dp;lia
def e'.units{k:Nat}{A:Xq}(r:e' k A):A.units+64<XA:=by have:=r.un;lia
def vV:fi:=λ_ H Q=>Q [] H
def vW(b5:bP)(Mc:fi):fi:=λσ H Q=>b5 σ H λx aq=>Mc σ aq λxs aQ=>Q (x::xs) aQ
section
variable{X:aK}{e:UV}{es:Zp}{cK:bP}{t:fi}{pos:Pos}
def fC:hJ X [] vV:=λ_ _ _ _ H Q I h=>Calls.spliced_nil ⟨[],H,I,.nil,h⟩
def eh(ar:b4 X e cK)(ak:hJ X es t)(al:SZ (e::es) X.env=(false,Xv e X.env)::SZ es X.env:=by rfl):hJ X (e::es) (vW cK t):=by
 intro pos pins s σ H Q I h;rw[al];show wpAny _ _ (spliced ((false,Xv e X.env)::Xn pos (SZ es X.env))) _ _ s
 refine Calls.spliced_cons (cm (ar pins s σ H _ I h) λu az ⟨x,aq,be,r1,aR⟩=>?_);exact cm (ak pos pins az σ aq _ be aR) λus a' ⟨xs,aQ,d3,r2,bK⟩=>⟨x::xs,aQ,d3,.cons r1 r2,bK⟩
def Md(t:fi):bP:=λσ H Q=>t σ H λxs aq=>xs.length<=TT/\∀p,aq p=none->Q (.ref p) (upd aq p (.tup xs))
def Me(t:fi):bP:=λσ H Q=>t σ H λxs aq=>xs.length<=TT/\∀p,aq p=none->Q (.ref p) (upd aq p (.lst xs))
def vX{bF}(h:hJ X es t):b4 X (.Tuple es bF pos) (Md t):=by
 intro pins s σ H Q I au;refine wpAny_Tuple_spliced (cm (h pos pins s σ H _ I au) λus az ⟨xs,aq,be,r,z,q⟩=>⟨by rw[<-r.length];exact z,?_⟩);have bu:aq az.heap.objs.size=none:=be.hok.fresh (Sy _);refine⟨.ref az.heap.objs.size,upd aq az.heap.objs.size (.tup xs),be.laid (t':=az.toks) (λb u e=>Heap.get?_push_of_some _ e) (Sy _) ?_,rfl,q _ bu⟩;exact⟨z,us,r,⟨_,Heap.get?_push_size _ rfl,rfl,_,rfl⟩⟩
def s8(h:hJ X es t):b4 X (.List es pos) (Me t):=by
 intro pins s σ H Q I au;refine wpAny_List_spliced (cm (h pos pins s σ H _ I au) λus az ⟨xs,aq,be,r,z,q⟩=>⟨by rw[<-r.length];exact z,?_⟩);have bu:aq az.heap.objs.size=none:=be.hok.fresh (Sy _);refine⟨.ref az.heap.objs.size,upd aq az.heap.objs.size (.lst xs),be.laid (t':=az.toks) (λb u e=>Heap.get?_push_of_some _ e) (Sy _) ?_,rfl,q _ bu⟩;exact⟨z,us,0,r,Heap.get?_push_size _ rfl⟩
end
abbrev hK:=Zf->aj->cJ->gi->Prop
abbrev lT:=List Env->aj->TE->gi->Tl->TE->Prop
structure vY (P:Uf) (w:Xk) (K:Sv) (mg:Str->Option Tl) (base:Xx) (A:Xq) (outer:List Env) (s:TE) (H:aj):Prop where
 frames:A.frames=some outer
 mod:Mod K mg base
 bs:∀b o,base.get? b=some o->s.heap.get? b=some o/\H b=none
 bsz:base.objs.size<=s.heap.objs.size
 funs:s.heap.FunFrames base outer
 frf:∀b∈kQ outer,H b=none
 hok:e4 P w H s.heap
 bare:Ys s.gens
def Ah(outer:List Env)(P:Uf)(w:Xk)(H:aj)(s:TE)(Q:cJ)(u:Tl)(s':TE):Prop:=
 ∃v H',s'.os=s.os/\Ys s'.gens/\f8 (kQ outer) [] H H' s.heap s'.heap/\e4 P w H' s'.heap/\RelV v u/\Q v H'
def Mf(fW:lT)(outer:List Env)(P:Uf)(w:Xk)(H:aj)(s:TE)(Q:cJ)(E:gi)(r:Result)(s':TE):Prop:=
 match r with
 |.ok (.ret u)=>Ah outer P w H s Q u s'
 |.ok _=>False
 |.error e=>fW outer H s E e s'
structure jT (P:Uf) (w:Xk) (K:Sv) (mg:Str->Option Tl) (base:Xx) (fW:lT) (k:Nat) (f:TI) (fd:XI) (ps:Zm) (sp:hK):Prop where
 len:∀vs H Q E,sp vs H Q E->vs.length=ps.length
 run:∀(A:Xq)(outer:List Env)(s:TE)(H:aj)(args:Args)(us:Zn)(vs:Zf)(Q:cJ)(E:gi),e' k A->vY P w K mg base A outer s H->Y8 s fd args (ps.zip us)->b1 vs us->sp vs H Q E->
  codeAny (T0 P w) A (.call (.ref f) args) (Mf fW outer P w H s Q E) s
def jT.imp{P:Uf}{w:Xk}{K:Sv}{mg:Str->Option Tl}{base:Xx}{fW:lT}{k:Nat}{f:TI}{fd:XI}{ps:Zm}{sp s9:hK}(F:jT P w K mg base fW k f fd ps sp)(h:∀vs H Q E,s9 vs H Q E->sp vs H Q E):jT P w K mg base fW k f fd ps s9:=
 ⟨λvs H Q E q=>F.len vs H Q E (h _ _ _ _ q),λA outer s H args us vs Q E ak aB ab aL al=>F.run A outer s H args us vs Q E ak aB ab aL (h _ _ _ _ al)⟩
section
variable{X:aK}{pins:Zs}{σ:St}{H:aj}{s s':TE}
def Inv.env0(I:Inv X pins σ H s):vY X.prog X.w X.K X.mg X.base X.A X.stack s H:=
 ⟨I.ok.frames,I.ok.mod,I.bs,SE I.ok.bsz I.sz,I.stack,I.stkFree,I.hok,I.bare⟩
def Inv.after{Q:cJ}{u:Tl}(I:Inv X pins σ H s)(h:Ah X.stack X.prog X.w H s Q u s'):h4 X pins σ Q u s':=by
 obtain⟨v,H',os,bare,un,hok,r,q⟩:=h;obtain⟨eO,g,d,t,Mg⟩:=s';obtain rfl:Mg=s.os:=os;exact⟨v,H',I.call (h':=eO) (g':=g) (d':=d) (t':=t) (ch:=[]) un hok bare (λb z=>absurd z (by simp)),r,q⟩
end
def vZ(sp:hK)(ov:Zf)(E:gi)(t:fi):bP:=λσ H Q=>t σ H λvs aq=>sp (vs++ov) aq Q E
def Binds(K:Sv)(fd:XI)(ps:Zm)(ds:Zn):Prop:=
 ∀(s:TE)(us:Zn),K.In s.heap->(us++ds).length=ps.length->Y8 s fd ⟨us,[]⟩ (ps.zip (us++ds))
def Binds.all{K:Sv}{fd:XI}{ps:Zm}(h:∀us:Zn,us.length=ps.length->Y9 fd ⟨us,[]⟩=pure (ps.zip us)):Binds K fd ps []:=λs us _ am=>by
 rw[SP]at am⊢;exact .of_eq (h us am)
def Ai(fW:lT)(X:aK)(E:gi):Prop:=∀(pins:Zs)(σ:St)(H:aj)(s:TE)(e:Tl)(s':TE),Inv X pins σ H s->fW X.stack H s E e s'->X.xe e s'
section
variable{X:aK}{fW:lT}{k:Nat}{f C:TI}{fd:XI}{ps:Zm}{sp:hK}{ov:Zf}{ds:Zn}{E:gi}{x m:Str}{p pos de:Pos}{e o:UV}{es:Zp}{b5:bP}{t:fi}
def Ep{pins:Zs}{σ:St}{H:aj}{s:TE}{Q:cJ}{us:Zn}{vs:Zf}(F:jT X.prog X.w X.K X.mg X.base fW k f fd ps sp)(ak:e' k X.A)(ab:Binds X.K fd ps ds)(hd:b1 ov ds)(ao:Ai fW X E)(I:Inv X pins σ H s)(r:b1 vs us)(h:sp (vs++ov) H Q E):wpAny (T0 X.prog X.w) X.A (call (.ref f) us) (h4 X pins σ Q) X.xe s:=by
 have r2:b1 (vs++ov) (us++ds):=r.append hd;have am:(us++ds).length=ps.length:=by rw[<-r2.length];exact F.len _ _ _ _ h
 refine wpAny_call (YU (F.run X.A X.stack s H ⟨us,[]⟩ (us++ds) (vs++ov) Q E ak I.env0 (ab s us I.kIn am) r2 h) λr s' au=>?_);cases r with
 |error e=>exact ao pins σ H s e s' I au
 |ok kY=>
  cases kY with
  |ret u=>exact I.after au
  |next=>exact TR au
  |brk=>exact TR au
  |cont=>exact TR au
def Mh(F:jT X.prog X.w X.K X.mg X.base fW k f fd ps sp)(ak:e' k X.A)(aC:eY X x)(ax:X.mg x=some (.ref f))(ag:Va X.K (.ref f)=true)(ab:Binds X.K fd ps ds)(hd:b1 ov ds)(ao:Ai fW X E)(ar:hJ X (e::es) t)(ht:(x==("__debug__":Str))=false:=by decide)(aB:SZ (e::es) X.env=(false,Xv e X.env)::SZ es X.env:=by rfl)(fa:(Xn pos (SZ es X.env)).any (·.1)=false:=by rfl):
  b4 X (.Call (.Name x p) (e::es) [] pos) (vZ sp ov E t):=by
 intro pins s σ H Q I h;refine XQ (D6 I aC ax ?_ ht);refine Ww (h₀:=X.base) I.ok.mod.kin ag (cm (ar pos pins s σ H _ I h) λus az ⟨vs,aq,be,r,q⟩=>⟨be.kIn,?_⟩) aB fa;exact Ep F ak ab hd ao be r q
end
structure cE (N P:Zm) (sc:Yd):Prop where
 kind:sc.kind=.function
 co:sc.isCoroutine=false
 gen:sc.isGenerator=false
 nd:N.Nodup
 pre:N.take P.length=P
 par:∀x∈P,sc.names.lookup x=some .local\/sc.names.lookup x=some .cell
 nofree:∀y∈sc.names,y.2≠.free
def Er{kindOf:Str->Option YH}{x:Str}:∀{binds:List (Str×Tl)}{m:Str->Option Tl},(∀v,(x,v)∉binds)->bindL kindOf binds m x=m x
 |[],_,_=>rfl
 | (n,v)::r,m,h=>by
  unfold bindL;rw[Er λw hw=>h w (Sz _ hw)];split
  ·have:x≠n:=by rintro rfl;exact h v Sx
   simp[this]
  ·rfl
def Es{kindOf:Str->Option YH}{x:Str}:∀{binds:List (Str×Tl)}{m:Str->Option Tl},(∀v,(x,v)∉binds)->bindC kindOf binds m x=m x
 |[],_,_=>rfl
 | (n,v)::r,m,h=>by
  unfold bindC;rw[Es λw hw=>h w (Sz _ hw)];split
  ·rfl
  ·have:x≠n:=by rintro rfl;exact h v Sx
   simp[this]
def Et{kindOf:Str->Option YH}{x:Str}{v:Tl}:∀{P:Zm}{vs:Zn}{i:Nat}{m:Str->Option Tl},P.Nodup->P[i]?=some x->vs[i]?=some v->kindOf x=some .local->
  bindL kindOf (P.zip vs) m x=some v
 |[],_,_,_,_,h,_,_=>by simp at h
 |_::_,[],_,_,_,_,h,_=>by simp at h
 |p::P,w::vs,0,m,nd,h1,h2,ag=>by
  simp at h1 h2;subst h1;subst h2;show bindL kindOf ((p,w)::P.zip vs) m p=_
  unfold bindL;rw[Er λv aL=>(T8.mp nd).1 (VM aL).1,SC ag];simp
 |p::P,w::vs,i+1,m,nd,h1,h2,ag=>by
  show bindL kindOf ((p,w)::P.zip vs) m x=_
  unfold bindL;exact Et (i:=i) (T8.mp nd).2 (by simpa using h1) (by simpa using h2) ag
def Eu{kindOf:Str->Option YH}{x:Str}{v:Tl}:∀{P:Zm}{vs:Zn}{i:Nat}{m:Str->Option Tl},P.Nodup->P[i]?=some x->vs[i]?=some v->kindOf x≠some .local->
  bindC kindOf (P.zip vs) m x=some v
 |[],_,_,_,_,h,_,_=>by simp at h
 |_::_,[],_,_,_,_,h,_=>by simp at h
 |p::P,w::vs,0,m,nd,h1,h2,ag=>by
  simp at h1 h2;subst h1;subst h2;show bindC kindOf ((p,w)::P.zip vs) m p=_
  unfold bindC;rw[Es λv aL=>(T8.mp nd).1 (VM aL).1,SL ag];simp
 |p::P,w::vs,i+1,m,nd,h1,h2,ag=>by
  show bindC kindOf ((p,w)::P.zip vs) m x=_
  unfold bindC;exact Eu (i:=i) (T8.mp nd).2 (by simpa using h1) (by simpa using h2) ag
def start(N:Zm)(vs:Zf):St:=vs.map some++SV (N.length-vs.length) none
def lU(fW:lT)(P:Uf)(w:Xk)(K:Sv)(mg:Str->Option Tl)(base:Xx)(N:Zm)(eB:Str)(scope:Yd)(f:TI)(fA:Tl)(A:Xq)(outer:List Env)(s:TE)(H:aj)(E:gi):aK where
 prog:=P
 w:=w
 K:=K
 mg:=mg
 base:=base
 A:=A.deeper (YI eB scope s.heap.objs.size f fA)
 N:=N
 s₀:=s
 H₀:=H
 env:=YI eB scope s.heap.objs.size f fA
 outer:=outer
 stack:=YI eB scope s.heap.objs.size f fA::outer
 ex:=[]
 calm:=true
 fn:=λ_=>true
 pn:=[]
 xe:=λe s'=>wpAny (T0 P w) (A.deeper (YI eB scope s.heap.objs.size f fA)) (leaving (YI eB scope s.heap.objs.size f fA) e) (λ_ Aj=>fW outer H s E e Aj) (λaS Aj=>fW outer H s E aS Aj) s'
def Ev{sc:Yd}{n:Nat}{x:Str}(h:sc.names.lookup x=some .cell):∃c,(cellsFrom n sc.names []).lookup x=some c:=by
 have q:=Wx sc.names n [] (.inl h);exact Wy.mp q
def Mi{fW:lT}{P:Uf}{w:Xk}{K:Sv}{mg:Str->Option Tl}{base:Xx}{N ps:Zm}{eB:Str}{scope:Yd}{f:TI}{fA:Tl}{A:Xq}{outer:List Env}{s az:TE}{H:aj}{E:gi}{us:Zn}{vs:Zf}(S:cE N ps scope)(hd:A.handled=none)(d5:vY P w K mg base A outer s H)(am:vs.length=ps.length)(r:b1 vs us)(x:InCallC s s.heap.objs.size (bindL (YI eB scope s.heap.objs.size f fA).kindOf (ps.zip us) λ_=>none) (cellsFrom (s.heap.objs.size+1) scope.names []) (bindC (YI eB scope s.heap.objs.size f fA).kindOf (ps.zip us) λ_=>none) az):
  Inv (lU fW P w K mg base N eB scope f fA A outer s H E) [] (start N vs) H az:=by
 have fa:ps.length<=N.length:=by have:=TW S0 S.pre;rw[TS]at this;lia
 obtain⟨h1,jP,rfl,ag⟩:=x.done;have ta:∀b:TI,b∉(lU fW P w K mg base N eB scope f fA A outer s H E).ex:=λb z=>absurd (show b∈([]:Zo)from z) (by simp)
 refine⟨⟨d5.mod,S.kind,rfl,rfl,Sy _,λy z c h1 h2=>?_,λy aN=>?_,λy c _ h=>?_,λ_=>hd,Around.frames_deeper d5.frames,.inr ⟨rfl,rfl⟩,λb z=>absurd z (ta b),d5.bs,d5.bsz,λb _ _=>ta b,λb z=>absurd z (ta b),d5.funs,d5.frf⟩,
  rfl,d5.bare,f8.kept ag,⟨_,x.toInCall.ns,λi y v h1 h2 aF=>?_⟩,λy c h=>⟨_,x.cell y c h⟩,d5.hok.fresh (Sy _),λy c h=>?_,λp ae=>absurd (show p∈([]:Zs)from ae) (by simp),d5.hok.kept ag,?_⟩
 ·exact name_of_addr x.apart (Ux h1) (Ux h2)
 ·have aN:scope.names.lookup y=some .cell\/scope.names.lookup y=some .free:=aN;rcases aN with aN|aN
  ·exact Ev aN
  ·exact absurd rfl (S.nofree _ (Ux aN))
 ·exact VI (x.above y c (Ux h))
 ·have ay:i<vs.length:=by
   unfold start at h2;by_cases ay:i<vs.length
   ·exact ay
   ·rw[Tg (by simpa using ay)]at h2;rw[Uj]at h2;split at h2<;>cases h2
  have ar:vs[i]?=some v:=by
   unfold start at h2;rw[Tt (by simpa using ay),SX]at h2;cases e:vs[i]? with
   |none=>rw[e]at h2;cases h2
   |some a=>rw[e]at h2;cases h2;rfl
  obtain⟨u,bn,cd⟩:=r.get ar
  have ae:ps[i]?=some y:=by
   rw[<-S.pre,List.getElem?_take_of_lt (by lia)];exact h1
  have Ew:ps.Nodup:=by rw[<-S.pre];exact S.nd.sublist (List.take_sublist _ _)
  refine⟨u,cd,?_⟩;rcases S.par y (Th ae)with k|k
  ·exact .inl ⟨k,Et Ew ae bn k⟩
  ·obtain⟨c,e⟩:=Ev (n:=s.heap.objs.size+1) k;refine .inr ⟨.inl k,c,e,?_⟩;have q:=x.cell y c e;rw[Eu Ew ae bn (by show scope.names.lookup y≠_;rw[k];decide)]at q;exact q
 ·exact d5.hok.fresh (VI (x.above y c (Ux h)))
 ·unfold start;show _=N.length
  rw[SH,Sw,T9];lia
def Mj{fW:lT}{P:Uf}{w:Xk}{K:Sv}{mg:Str->Option Tl}{base:Xx}{k:Nat}{f:TI}{name eB:Str}{params:YE}{body:Zq}{scope:Yd}{v2 kV doc pm cdv ct oc:Tl}{an od:Option TI}{osl:Array (Option Tl)}{N ps:Zm}{sp:hK}(lk:K.lookup f=some ⟨oc,od,.func (UE name eB params body scope v2 kV doc pm an cdv ct),osl⟩)(dI:VN K cdv eB=true)(S:cE N ps scope)(len:∀vs H Q E,sp vs H Q E->vs.length=ps.length)(kl:∀(A:Xq) (outer:List Env) (s:TE) (H:aj) (vs:Zf) (Q:cJ) (E:gi),e' k (A.deeper (YI eB scope s.heap.objs.size f cdv))->sp vs H Q E->∃t,i2 (lU fW P w K mg base N eB scope f cdv A outer s H E) body t/\t {nx:=λ_ H'=>Q .non H',rt:=Q} (start N vs) H):
  jT P w K mg base fW (k+1) f (UE name eB params body scope v2 kV doc pm an cdv ct) ps sp:=by
 refine⟨len,λA outer s H args us vs Q E ak d5 ab r rk=>?_⟩;have am:=len _ _ _ _ rk;have ow:K.In s.heap:=d5.mod.kin.keeps λb o e=>(d5.bs b o e).1;have lim:s.heap.NoLimit:=d5.mod.nolimit.keeps λb o e=>(d5.bs b o e).1
 have Mk:∀y∈ps.zip us,scope.names.lookup y.1=some .local\/(scope.names.lookup y.1=some .cell/\((cellsFrom (s.heap.objs.size+1) scope.names []).lookup y.1).isSome=true):=λ⟨n,v⟩ aN=>by
  rcases S.par n (VM aN).1 with q|q
  ·exact .inl q
  ·exact .inr ⟨q,Wx _ _ _ (.inl q)⟩
 refine codeAny_call_function ak.depth (ow _ _ lk) rfl S.co S.gen rfl (PySem.W.codeRec_of ow dI) (ab _ _ _ _ ?_);refine wpAny_newFunctionEnv_cells S.kind Mk λenv aB az x=>?_;subst aB;refine⟨lim.keeps x.toInCall.keep,codeAny_func ?_⟩;obtain⟨t,bv,au⟩:=kl A outer s H vs Q E (ak.deeper _) rk;have I:Inv (lU fW P w K mg base N eB scope f cdv A outer s H E) [] (start N vs) H az:=Mi S ak.hd d5 am r x;refine Xz (bv [] az (start N vs) H _ I au) (λkY s' al=>?_) λe s' al=>al
 have eL:∀{a6:St}{H':aj}{v:V}{u:Tl},Inv (lU fW P w K mg base N eB scope f cdv A outer s H E) [] a6 H' s'->RelV v u->Q v H'->Ah outer P w H s Q u s':=
  λ{a6 H' v u} J cd q=>⟨v,H',J.os,J.bare,J.base,J.hok,cd,q⟩
 cases kY with
 |ret u=>
  obtain⟨v,a6,H',J,cd,q⟩:=al;exact eL J cd q
 |next=>
  obtain⟨a6,H',J,q⟩:=al;exact eL (v:=V.non) (u:=Value.none) J rfl q
 |brk=>
  obtain⟨_,_,_,q⟩:=al;exact TR q
 |cont=>
  obtain⟨_,_,_,q⟩:=al;exact TR q
section
variable{X:aK}{x:Str}{p pos:Pos}{e:UV}{es:Zp}{t:fi}{id T:String}{r:Zf->aj->cJ->Prop}
def Ak(r:Zf->aj->cJ->Prop)(t:fi):bP:=λσ H Q=>t σ H λvs aq=>r vs aq Q
def p3(hc:nw X (.builtin id) r)(aC:eY X x)(ax:X.mg x=none)(aL:XK x=some (.builtin id))(ar:hJ X (e::es) t)(aM:x≠"__name__":=by decide)(ht:(x==("__debug__":Str))=false:=by decide)(aB:SZ (e::es) X.env=(false,Xv e X.env)::SZ es X.env:=by rfl)(fa:(Xn pos (SZ es X.env)).any (·.1)=false:=by rfl):b4 X (.Call (.Name x p) (e::es) [] pos) (Ak r t):=by
 intro pins s σ H Q I h;refine XQ (ra I aC ax aL ?_ aM ht);exact PyProof.Rows.callWith_builtin1 (cm (ar pos pins s σ H _ I h) λus az ⟨vs,aq,be,r1,aR⟩=>hc pins az σ aq vs us Q be r1 aR) aB fa
def Ex(hc:nw X (.type T) r)(aC:eY X x)(ax:X.mg x=none)(aL:XK x=some (.type T))(ar:hJ X (e::es) t)(aM:x≠"__name__":=by decide)(ht:(x==("__debug__":Str))=false:=by decide)(aB:SZ (e::es) X.env=(false,Xv e X.env)::SZ es X.env:=by rfl)(fa:(Xn pos (SZ es X.env)).any (·.1)=false:=by rfl):b4 X (.Call (.Name x p) (e::es) [] pos) (Ak r t):=by
 intro pins s σ H Q I h;refine XQ (ra I aC ax aL ?_ aM ht);exact U' (cm (ar pos pins s σ H _ I h) λus az ⟨vs,aq,be,r1,aR⟩=>hc pins az σ aq vs us Q be r1 aR) aB fa
end
end L2
namespace HT
open PySem PyProof.Rows
section
open PySem.SeqAt
open PySem.AutoSeq1 (wpAny_loadPart')
open PySem.MeetsSeq PySem.MeetsSeq2 PySem.MeetsSeq3
end
section
variable{prog:Uf}{w:Xk}{A:Xq}{E:Tl->TE->Prop}{s:TE}
def sIx(n d:Nat):Option Int->Nat
 |none=>d
 |some v=>if v<0 then(v+(n:Int)).toNat else min v.toNat n
def Ml(n d:Nat)(hd:d<=n)(o:Option Int):sIx n d o<=n:=by
 cases o with
 |none=>exact hd
 |some v=>
  show(if v<0 then(v+(n:Int)).toNat else min v.toNat n)<=n
  by_cases aL:v<0
  ·rw[SC aL];lia
  ·rw[SL aL];exact Nat.min_le_right _ _
def Ey(v:Int)(n d:Nat):(if v<0 then max (v+(n:Int)) 0 else min v (n:Int))=((sIx n d (some v):Nat):Int):=by
 show(if v<0 then max (v+(n:Int)) 0 else min v (n:Int))=(((if v<0 then(v+(n:Int)).toNat else min v.toNat n):Nat):Int)
 by_cases aL:v<0
 ·simp only[SC aL];lia
 ·simp only[SL aL];lia
def Mm(lo ay:Option Int)(n:Nat):Builtin.Slice.sliceAdjust lo ay 1 (n:Int)=(((sIx n 0 lo:Nat):Int),((sIx n n ay:Nat):Int)):=by
 have h1:¬((1:Int)<0):=by lia
 unfold Builtin.Slice.sliceAdjust;simp only[h1,if_false];refine TP ?_ ?_
 ·cases lo with
  |none=>rfl
  |some v=>exact Ey v n 0
 ·cases ay with
  |none=>rfl
  |some v=>exact Ey v n n
def Mn(i j:Nat):Builtin.Slice.slicePlaces (i:Int) (j:Int) 1=j-i:=by
 unfold Builtin.Slice.slicePlaces;have h1:(1:Int)>0:=by lia
 simp only[h1,if_true,Int.ediv_one];split<;>lia
def Ez{v:Tl}{o:Option Int}{Q:Option Int->TE->Prop}(p:Y0 v o)(h:Q o s):wpAny (T0 prog w) A (Builtin.Slice.slicePartIndex v) Q E s:=by
 cases p with
 |none=>exact slicePart_none h
 |int i t=>exact slicePart_int h
def Mo{sl:TI}{hL i7:Tl}{lo ay:Option Int}{n:Nat}{Q:Int×Int×Nat->TE->Prop}(al:s.heap.IsSliceOf sl hL i7 .none)(cp:Y0 hL lo)(nA:Y0 i7 ay)(h:Q (((sIx n 0 lo:Nat):Int),1,sIx n n ay-sIx n 0 lo) s):wpAny (T0 prog w) A (Builtin.Slice.sliceApplied (.ref sl) (pure (n:Int))) Q E s:=by
 obtain⟨os,nB,EA,nC⟩:=id al;unfold Builtin.Slice.sliceApplied Builtin.Slice.sliceFields;refine SB (SB (YC nB nC (x:=hL) rfl (SB (YC nB nC (x:=i7) rfl (SB (YC nB nC (x:=.none) rfl (Tk ?_)))))));refine SB (slicePart_none ?_);show wpAny _ _ (if((1:Int)==0)=true then _ else _) _ _ s
 rw[SL (by decide)];refine SB (Ez cp (SB (Ez nA (SB (Tk ?_)))));show wpAny _ _ (match Builtin.Slice.sliceAdjust lo ay 1 (n:Int)with|(lo,ay)=>pure (lo,(1:Int),Builtin.Slice.slicePlaces lo ay 1)) _ _ s
 rw[Mm lo ay n];show wpAny _ _ (pure (((sIx n 0 lo:Nat):Int),(1:Int),Builtin.Slice.slicePlaces ((sIx n 0 lo:Nat):Int) ((sIx n n ay:Nat):Int) 1)) _ _ s
 rw[Mn];exact Tk h
def Mp(xs:Array Tl)(i k:Nat):((Ta k).filterMap λ(m:Nat)=>xs[((i:Int)+(m:Int)*1).toNat]?).toArray=((xs.toList.drop i).take k).toArray:=by
 have e:(λ(m:Nat)=>xs[((i:Int)+(m:Int)*1).toNat]?)=λm=>xs[i+m]?:=by
  funext m;have:((i:Int)+(m:Int)*1).toNat=i+m:=by lia
  rw[this]
 rw[e];have:=pick_run xs i k;rw[List.filterMap_map]at this;have ap:((λx=>xs[x]?)∘λx=>i+x)=λm=>xs[i+m]?:=rfl;rw[ap]at this;rw[this]
def getItem_tuple_cut{t sl:TI}{items:Array Tl}{hL i7:Tl}{lo ay:Option Int}{Q:Tl->TE->Prop}(bv:IsTup s.heap t items)(al:s.heap.IsSliceOf sl hL i7 .none)(cp:Y0 hL lo)(nA:Y0 i7 ay)(hw:¬(sIx items.size 0 lo=0/\sIx items.size items.size ay=items.size))(h:Q (.ref s.heap.objs.size) {s with heap:=s.heap.push {cls:=.type "tuple",data:=.seq ((items.toList.drop (sIx items.size 0 lo)).take (sIx items.size items.size ay-sIx items.size 0 lo)).toArray} })(jU:items.size<=TT):wpAny (T0 prog w) A (Y' (.ref t) (.ref sl)) Q E s:=by
 have v3:sizeOk (.seq ((items.toList.drop (sIx items.size 0 lo)).take (sIx items.size items.size ay-sIx items.size 0 lo)).toArray):=by
  show((items.toList.drop (sIx items.size 0 lo)).take (sIx items.size items.size ay-sIx items.size 0 lo)).toArray.size<=TT
  rw[SW,TS,Uy,U7];lia
 have bS:sIx items.size items.size ay<=items.size:=Ml _ _ (Sy _) ay;obtain⟨os,nB,EA,nC⟩:=id al;have Mq:s.TypeIs (.ref sl) "slice":=⟨os,nB,EA⟩;unfold Y'
 try with_reducible refine Xj ?_
 first|refine SB (Tk ?_)|skip
 refine SB (wpAny_sequenceKey bv.typeIs (by decide) ?_)
 refine SB (XR (name:=Str.ofString "__getitem__") bv.typeIs VO
  (Xp VO bv.typeIs entry_tuple_getitem ?_ (args_tuple_getitem _ _)))
 show wpAny _ _ (Builtin.Tuple.tupleItemsOf (.ref t) >>= _) _ _ s
 refine SB (tupleItemsOf_ bv ?_);refine SB (wpAny_typeOf Mq ?_);rw[SC (by decide)];refine SB (Mo al cp nA ?_)
 have p4:¬((((sIx items.size 0 lo:Nat):Int)==0&&(1:Int)==1&&(sIx items.size items.size ay-sIx items.size 0 lo)==items.size)=true):=by
  intro q;rw[Uk,Uk]at q;have aR:((sIx items.size 0 lo:Nat):Int)=0:=eq_of_beq q.1.1;have bK:sIx items.size items.size ay-sIx items.size 0 lo=items.size:=eq_of_beq q.2;exact hw ⟨by lia,by lia⟩
 show wpAny _ _ (if(((sIx items.size 0 lo:Nat):Int)==0&&(1:Int)==1&&(sIx items.size items.size ay-sIx items.size 0 lo)==items.size)=true then _ else _) _ _ s
 rw[SL p4,Mp]
 first
  |exact SB (m:=Builtin.Tuple.tupleExact _) (WF (Tk ⟨_,rfl,Tk h⟩) v3)
  |exact SB (m:=Builtin.Tuple.tupleExact _) (WF (SB (Tk (Tk ⟨_,rfl,Tk h⟩))) v3)
  |exact SB (SB (m:=Builtin.Tuple.tupleExact _) (WF (Tk (Tk ⟨_,rfl,Tk h⟩)) v3))
  |exact SB (SB (m:=Builtin.Tuple.tupleExact _) (WF (Tk ⟨_,rfl,Tk h⟩) v3))
end
end HT
namespace L2
open PySem PySem.Spec PyProof.Rows
abbrev rl:=St->aj->(Option Int->aj->Prop)->Prop
def td(X:aK)(e:Option UV)(t:rl):Prop:=
 ∀(pins:Zs)(s:TE)(σ:St)(H:aj)(Q:Option Int->aj->Prop),Inv X pins σ H s->t σ H Q->
  wpAny (T0 X.prog X.w) X.A (evalPart e X.env) (λu s'=>∃o H',Inv X pins σ H' s'/\Y0 u o/\Q o H') X.xe s
def Mr:rl:=λ_ H Q=>Q none H
def Ms(t:bP):rl:=λσ H Q=>t σ H λx aq=>∃i,x=.int i/\Q (some i) aq
def intsAre_of{ns:Zc}:∀{us:Zn},b1 (ns.map V.int) us->Y1 us ns:=by
 induction ns with
 |nil=>intro us r;rw[TG]at r;cases r;exact .nil
 |cons n ns cH=>
  intro us r;rw[SG]at r;cases r with
  |cons r1 r2=>
   obtain⟨t,e⟩:=r1;subst e;exact .cons n t (cH r2)
section
variable{X:aK}{e:UV}{cK:bP}{lo ay:Option UV}{gk v4:rl}{pos cS:Pos}
def Mt:td X none Mr:=by
 intro pins s σ H Q I h;rw[evalPart_none];exact Tk ⟨none,H,I,.none,h⟩
def Mu(h:b4 X e cK):td X (some e) (Ms cK):=by
 intro pins s σ H Q I hw;rw[evalPart_some];refine cm (h pins s σ H _ I hw) λu az ⟨x,aq,be,r1,aR⟩=>?_;obtain⟨i,rfl,q⟩:=aR;obtain⟨t,rfl⟩:=r1;exact⟨some i,aq,be,.int i t,q⟩
def Al(X:aK)(r:V->Option Int->Option Int->aj->cJ->Prop):Prop:=
 ∀(pins:Zs)(s:TE)(σ:St)(H:aj)(x:V)(v hL i7:Tl)(lo ay:Option Int)(sl:TI)(Q:cJ),Inv X pins σ H s->RelV x v->s.heap.IsSliceOf sl hL i7 .none->Y0 hL lo->Y0 i7 ay->r x lo ay H Q->
  ∃T id,typeLookup (.type T) "__getitem__"=pure (some (.builtin id))/\s.TypeIs v T/\wpAny (T0 X.prog X.w) X.A (Y' v (.ref sl)) (h4 X pins σ Q) X.xe s
def Mv(r:V->Option Int->Option Int->aj->cJ->Prop)(cK:bP)(gk v4:rl):bP:=λσ H Q=>cK σ H λx aq=>gk σ aq λl aQ=>v4 σ aQ λu cR=>r x l u cR Q
def EB{r:V->Option Int->Option Int->aj->cJ->Prop}(ak:Al X r)(aB:b4 X e cK)(am:td X lo gk)(bn:td X ay v4):b4 X (.Subscript e (.Slice lo ay none cS) pos) (Mv r cK gk v4):=by
 intro pins s σ H Q I h;refine Subscript_ (cm (aB pins s σ H _ I h) λv az ⟨x,aq,be,r1,aR⟩=>?_);refine wpAny_Slice (cm (am pins az σ aq _ be aR) λhL a' ⟨l,aQ,d3,cp,bK⟩=>cm (bn pins a' σ aQ _ d3 bK) λi7 cn ⟨u,cR,dn,nA,e7⟩=>?_);rw[evalPart_none];refine Tk ?_;have ot:Inv X pins σ cR {cn with heap:=cn.heap.push {cls:=.type "slice",data:=.fields #[hL,i7,.none]} }:=dn.kept (t':=cn.toks) λb cG q=>Heap.get?_push_of_some _ q;obtain⟨T,id,d0,bv,aC⟩:=ak pins {cn with heap:=cn.heap.push {cls:=.type "slice",data:=.fields #[hL,i7,.none]} } σ cR x v hL i7 l u cn.heap.objs.size Q ot r1 (Heap.IsSliceOf.new ..) cp nA e7;show wpAny (T0 X.prog X.w) X.A (subscriptTail e (.Slice lo ay none cS) v (.ref cn.heap.objs.size)) (h4 X pins σ Q) X.xe {cn with heap:=cn.heap.push {cls:=.type "slice",data:=.fields #[hL,i7,.none]} }
 exact tail_any (ops:=[.ref cn.heap.objs.size,v]) bv d0 aC (by with_unfolding_all rfl)
def p5(xs:Zf)(lo ay:Option Int):List V:=(xs.drop (HT.sIx xs.length 0 lo)).take (HT.sIx xs.length xs.length ay-HT.sIx xs.length 0 lo)
def EC(xs:Zf)(lo ay:Option Int):(p5 xs lo ay).length<=xs.length:=by
 unfold p5;rw[TS,Uy];lia
def Mw(K:Sv):V->Option Int->Option Int->aj->cJ->Prop:=λx lo ay H Q=>∃a xs,x=.ref a/\ev K H a xs /\
 ¬(HT.sIx xs.length 0 lo=0/\HT.sIx xs.length xs.length ay=xs.length)/\∀p,H p=none->Q (.ref p) (upd H p (.tup (p5 xs lo ay)))
def Mx:Al X (Mw X.K):=by
 intro pins s σ H x v hL i7 lo ay sl Q I bc al cp nA h;obtain⟨a,xs,rfl,ao,hw,q⟩:=h;cases bc;obtain⟨its,r,bv,hz⟩:=I.tuple ao;have fj:its.toArray.size=xs.length:=by rw[SW];exact r.length.symm
 refine⟨"tuple",_,VO.lookup,bv.typeIs,?_⟩;refine HT.getItem_tuple_cut bv al cp nA (by rw[fj];exact hw) ?_ (by rw[fj];exact hz);rw[fj];refine⟨.ref s.heap.objs.size,_,I.laid (t':=s.toks) (o:=.tup (p5 xs lo ay)) (λb cG q=>Heap.get?_push_of_some _ q) (Sy _) ?_,rfl,q _ (I.hok.fresh (Sy _))⟩;exact⟨SE (EC xs lo ay) hz,_,(r.drop (HT.sIx xs.length 0 lo)).take (HT.sIx xs.length xs.length ay-HT.sIx xs.length 0 lo),IsTup.new _ _⟩
end
def ixN(n:Nat)(i:Int):Option Nat:=if 0<=i then(if i<n then some i.toNat else none)else if -(n:Int)<=i then some (i+n).toNat else none
def dW{α:Type}(xs:List α)(i:Int):Option α:=(ixN xs.length i).bind λj=>xs[j]?
def ED{n:Nat}{i:Int}{j:Nat}(h:ixN n i=some j):seqIndex? i n=some j/\j<n /\ -(n:Int)<=i/\i<n:=by
 unfold ixN at h;by_cases h0:0<=i
 ·rw[SC h0]at h;by_cases h1:i<n
  ·rw[SC h1]at h;have e:i.toNat=j:=SS h;exact⟨by rw[YD h0 h1,e],by lia,by lia,h1⟩
  ·rw[SL h1]at h;cases h
 ·rw[SL h0]at h;by_cases h1 : -(n:Int)<=i
  ·rw[SC h1]at h;have e:(i+n).toNat=j:=SS h;exact⟨by rw[YV (by lia) h1,e],by lia,h1,by lia⟩
  ·rw[SL h1]at h;cases h
def EE{α:Type}{xs:List α}{i:Int}{v:α}(h:dW xs i=some v):∃j,seqIndex? i xs.length=some j/\xs[j]?=some v/\j<xs.length /\ -(xs.length:Int)<=i/\i<xs.length:=by
 unfold dW at h;cases e:ixN xs.length i with
 |none=>rw[e]at h;cases h
 |some j=>
  rw[e]at h;obtain⟨h1,h2,aF,bb⟩:=ED e;exact⟨j,h1,h,h2,aF,bb⟩
def atI_last{α:Type}(xs:List α)(v:α):dW (xs++[v]) (-1)=some v:=by
 have am:(xs++[v]).length=xs.length+1:=by simp
 have e:ixN (xs++[v]).length (-1)=some xs.length:=by
  unfold ixN;rw[am,SL (by decide),SC (by lia)];congr 1;lia
 unfold dW;rw[e];show(xs++[v])[xs.length]?=some v
 simp
def p6(b:UV):Prop:=∀o i,subscripted b false o i=operate [o,i] (Y' o i)
def rm(X:aK)(r:fB):Prop:=
 ∀(value slice:UV)(pins:Zs)(s:TE)(σ:St)(H:aj)(x y:V)(v u:Tl)(Q:cJ),Inv X pins σ H s->RelV x v->RelV y u->r x y H Q->
  subscripted slice false v u=operate [v,u] (Y' v u)->wpAny (T0 X.prog X.w) X.A (subscriptTail value slice v u) (h4 X pins σ Q) X.xe s
def v5(X:aK)(id:String)(r:V->Zf->aj->cJ->Prop):Prop:=
 ∀(pins:Zs)(s:TE)(σ:St)(H:aj)(x:V)(xs:Zf)(v:Tl)(us:Zn)(Q:cJ),Inv X pins σ H s->RelV x v->b1 xs us->r x xs H Q->
  wpAny (T0 X.prog X.w) X.A (call (.builtin id) (v::us)) (h4 X pins σ Q) X.xe s
section
variable{X:aK}{a b:UV}{b5 tb:bP}{pos:Pos}
def km{r:fB}(ak:rm X r)(ar:b4 X a b5)(ab:b4 X b tb)(al:p6 b):b4 X (.Subscript a b pos) (ny r b5 tb):=by
 intro pins s σ H Q I h;exact Subscript_ (Ad ar ab I h λv u a' x y aQ d3 bc cg q=>ak a b pins a' σ aQ x y v u Q d3 bc cg q (al _ _))
def My(K:Sv):fB:=λx y H Q=>∃p xs i v,x=.ref p/\y=.int i/\cx K H p xs/\dW xs i=some v/\Q v H
def Mz(K:Sv):fB:=λx y H Q=>∃p xs i v,x=.ref p/\y=.int i/\ev K H p xs/\dW xs i=some v/\Q v H
def Am:rm X (My X.K):=by
 intro value slice pins s σ H x y v u Q I bc cg h al;obtain⟨p,xs,i,z,rfl,rfl,au,aB,q⟩:=h;cases bc;obtain⟨t,rfl⟩:=cg;obtain⟨its,r,cp,hz⟩:=I.list au;obtain⟨j,h1,h2,aF,bb,cX⟩:=EE aB;obtain⟨w,jV,nu⟩:=r.get h2;have am:=r.length;have aM:=s5;have eL:h4 X pins σ Q w s:=⟨z,H,I,nu,q⟩;by_cases h0:0<=i
 ·have bS:i.toNat=j:=by
   rw[YD h0 cX]at h1;exact SS h1
  exact item_listR cp.isList h0 (by lia) (by rw[bS];simpa using jV) eL al
 ·have bS:(i+(its.toArray.size:Int)).toNat=j:=by
   rw[YV (by lia) bb]at h1;rw[SW,<-am];exact SS h1
  exact Yp (x:=w) cp.isList.typeIs slot_list_getitem.lookup
   (wpAny_getItem_list_neg (Q:=λr s'=>r=w/\h4 X pins σ Q r s') cp.isList (by lia) (by rw[SW]<;>lia) (by lia) (by rw[bS];simpa using jV) ⟨rfl,eL⟩) al
def EF:rm X (Mz X.K):=by
 intro value slice pins s σ H x y v u Q I bc cg h al;obtain⟨p,xs,i,z,rfl,rfl,au,aB,q⟩:=h;cases bc;obtain⟨t,rfl⟩:=cg;obtain⟨its,r,cp,hz⟩:=I.tuple au;obtain⟨j,h1,h2,aF,bb,cX⟩:=EE aB;obtain⟨w,jV,nu⟩:=r.get h2;have am:=r.length;have aM:=s5;have eL:h4 X pins σ Q w s:=⟨z,H,I,nu,q⟩
 exact Yp (x:=w) cp.typeIs slot_tuple_getitem.lookup
  (getItem_tuple (j:=j) (Q:=λr s'=>r=w/\h4 X pins σ Q r s') cp (by lia) (by lia) (by rw[SW,<-am];exact h1) (by simpa using jV) ⟨rfl,eL⟩) al
def MA(its:Zn)(n j:Nat)(u:Tl):Obj.mapSeq (·.setIfInBounds j u) {cls:=.type "list",data:=.seq its.toArray n}={cls:=.type "list",data:=.seq (its.set j u).toArray n}:=by
 simp[Obj.mapSeq]
def Inv.lst{pins:Zs}{σ:St}{H:aj}{s:TE}{p:TI}{xs:Zf}(I:Inv X pins σ H s)(h:H p=some (.lst xs)):
  ∃(its:Zn)(n:Nat),b1 xs its/\s.heap.get? p=some {cls:=.type "list",data:=.seq its.toArray n}/\xs.length<=TT:=by
 obtain⟨z,its,n,r,e⟩:=I.hok p _ h;exact⟨its,n,r,e,z⟩
def Inv.lstUpd{pins:Zs}{σ:St}{H:aj}{s:TE}{p:TI}{xs ys:Zf}{its its':Zn}{n n':Nat}{f:Obj->Obj}(I:Inv X pins σ H s)(h:H p=some (.lst xs))(aA:s.heap.get? p=some {cls:=.type "list",data:=.seq its.toArray n})(bu:f {cls:=.type "list",data:=.seq its.toArray n}={cls:=.type "list",data:=.seq its'.toArray n' })(r:b1 ys its')(hz:ys.length<=TT)(t:Nat):
  Inv X pins σ (upd H p (.lst ys)) {s with heap:=s.heap.update p f,toks:=t}:=by
 have e:(s.heap.update p f).get? p=some {cls:=.type "list",data:=.seq its'.toArray n' }:=by
  rw[Heap.get?_update_self f aA (by rw[bu]<;>rfl),bu]
 refine I.write (x:=p) (e:=p) (by rw[h];trivial) (.inl rfl) (λb u ab q=>(Heap.get?_update_other _ _ (Tr ab)).trans q) ⟨_,e⟩ ?_;exact⟨hz,its',n',r,e⟩
def MB:V->V->V->aj->(aj->Prop)->Prop:=λo i v H Q=>∃p xs k j,o=.ref p/\i=.int k/\H p=some (.lst xs)/\ixN xs.length k=some j/\Q (upd H p (.lst (xs.set j v)))
def An:Ea X MB:=by
 intro pins s σ H o i v lR iI u Q I MC MD cd h;obtain⟨p,xs,k,j,rfl,rfl,ae,bS,q⟩:=h;cases MC;obtain⟨t,rfl⟩:=MD;obtain⟨its,n,r,aA,hz⟩:=I.lst ae;obtain⟨h1,h2,aF,bb⟩:=ED bS;have am:=r.length;have aM:=s5
 have om:Inv X pins σ (upd H p (.lst (xs.set j v))) {s with heap:=s.heap.update p (Obj.mapSeq (·.setIfInBounds j u))}:=
  I.lstUpd ae aA (MA its n j u) (r.set cd j) (by rw[TH];exact hz) s.toks
 by_cases h0:0<=k
 ·have ag:k.toNat=j:=by
   rw[YD h0 bb]at h1;exact SS h1
  exact PySem.W.ki_setAt aA h0 (by lia) (by rw[SW,<-am];exact bb) (by rw[ag];exact⟨_,om,q⟩)
 ·have ag:(k+(its.toArray.size:Int)).toNat=j:=by
   rw[YV (by lia) aF]at h1;rw[SW,<-am];exact SS h1
  exact PySem.W.ki_setBack aA (by lia) (by rw[SW,<-am];exact aF) (by lia) (by rw[ag];exact⟨_,om,q⟩)
def ME(lo ay:Option Int)(n:Nat):(XT lo ay none n).1=((HT.sIx n 0 lo:Nat):Int)/\(XT lo ay none n).2.1=((HT.sIx n n ay:Nat):Int)/\(XT lo ay none n).2.2=1:=by
 refine⟨?_,?_,rfl⟩
 ·cases lo with
  |none=>simp[XT,HT.sIx]
  |some i=>
   simp only[XT,HT.sIx,Vb,show(1:Int)>0 by decide,if_true];by_cases h:i<0
   ·simp only[h,if_true]<;>lia
   ·simp only[h,if_false]<;>lia
 ·cases ay with
  |none=>simp[XT,HT.sIx]
  |some i=>
   simp only[XT,HT.sIx,Vb,show(1:Int)>0 by decide,if_true];by_cases h:i<0
   ·simp only[h,if_true]<;>lia
   ·simp only[h,if_false]<;>lia
def MF(its:Zn)(lo ay:Option Int):slicePick its.toArray lo ay none=((its.drop (HT.sIx its.length 0 lo)).take (HT.sIx its.length its.length ay-HT.sIx its.length 0 lo)).toArray:=by
 obtain⟨h1,h2,aF⟩:=ME lo ay its.toArray.size;unfold slicePick;rw[h1,h2,aF];simp only[sliceRange_one,pick_run,SW]<;>rfl
def MG(K:Sv):V->Option Int->Option Int->aj->cJ->Prop:=λx lo ay H Q=>∃a xs,x=.ref a/\cx K H a xs/\∀p,H p=none->Q (.ref p) (upd H p (.lst (p5 xs lo ay)))
def MH:Al X (MG X.K):=by
 intro pins s σ H x v hL i7 lo ay sl Q I bc al cp nA h;obtain⟨a,xs,rfl,ao,q⟩:=h;cases bc;obtain⟨its,r,bv,hz⟩:=I.list ao;have fj:=r.length;refine⟨"list",_,slot_list_getitem.lookup,bv.isList.typeIs,?_⟩;refine wpAny_getItem_list_slice bv.isList al cp nA .none (by simp) ?_ (by rw[SW]<;>lia);rw[MF,<-fj];refine⟨.ref s.heap.objs.size,_,I.laid (t':=s.toks) (o:=.lst (p5 xs lo ay)) (λb cG q=>Heap.get?_push_of_some _ q) (Sy _) ?_,rfl,q _ (I.hok.fresh (Sy _))⟩;exact⟨SE (EC xs lo ay) hz,_,0,(r.drop (HT.sIx xs.length 0 lo)).take (HT.sIx xs.length xs.length ay-HT.sIx xs.length 0 lo),Heap.get?_push_size _ rfl⟩
def Ao:nw X (.builtin "len") (λxs H Q=>∃p ys,xs=[.ref p]/\(cx X.K H p ys\/ev X.K H p ys)/\Q (.int ys.length) H):=by
 intro pins s σ H xs us Q I r h;obtain⟨p,ys,rfl,au,q⟩:=h;obtain⟨u,rfl,bc⟩:=vals1 r;cases bc;have aM:=s5;rcases au with au|au
 ·obtain⟨its,dA,cp,hz⟩:=I.list au;have fj:=dA.length;exact Calls.call_len_list cp.isList (by simp only[SW]<;>lia) ⟨.int ys.length,H,I.tok _,⟨s.toks+1,by rw[SW,fj]⟩,q⟩
 ·obtain⟨its,dA,cp,hz⟩:=I.tuple au;have fj:=dA.length;exact len_tuple cp (by simp only[SW]<;>lia) ⟨.int ys.length,H,I.tok _,⟨s.toks+1,by rw[SW,fj]⟩,q⟩
def MI:nw X (.type "list") (λxs H Q=>∃p ys,xs=[.ref p]/\(cx X.K H p ys\/ev X.K H p ys)/\∀l,H l=none->Q (.ref l) (upd H l (.lst ys))):=by
 intro pins s σ H xs us Q I r h;obtain⟨p,ys,rfl,au,q⟩:=h;obtain⟨u,rfl,bc⟩:=vals1 r;cases bc
 have eL:∀(its:Zn),b1 ys its->ys.length<=TT->∀(h':Xx)(c':Nat),(∀b fg,s.heap.get? b=some fg->h'.get? b=some fg)->
   h'.get? s.heap.objs.size=some {cls:=.type "list",dict:=none,data:=.seq its.toArray c',slots :=#[]}->h4 X pins σ Q (.ref s.heap.objs.size) {s with heap:=h' }:=λits dA hz h' c' kp e=>
  ⟨.ref s.heap.objs.size,_,I.laid (t':=s.toks) kp (Sy _) (show gy X.prog X.w _ h' _ (.lst ys)from⟨hz,its,c',dA,e⟩),rfl,q _ (I.hok.fresh (Sy _))⟩
 rcases au with au|au
 ·obtain⟨its,dA,cp,hz⟩:=I.list au;have fj:=dA.length;obtain⟨o,aA,hc,n,hd⟩:=cp.isList;exact call_list_seq p (.inl rfl) aA hc hd (λh' c' kp e=>eL its dA hz h' c' kp e) (by simp only[SW]<;>lia)
 ·obtain⟨its,dA,cp,hz⟩:=I.tuple au;have fj:=dA.length;obtain⟨o,aA,hc,n,hd⟩:=cp;exact call_list_seq p (.inr rfl) aA hc hd (λh' c' kp e=>eL its dA hz h' c' kp e) (by simp only[SW]<;>lia)
def v6(K:Sv)(T:String)(x:V)(H:aj):Prop:=match x with
 |.str _=>T="str"
 |.int _=>T="int"
 |.ref p=>(T="list"/\∃xs,cx K H p xs)\/(T="tuple"/\∃o,K.lookup p=some o/\o.cls=.type "tuple"/\o.dict=none) \/
   (T="dict"/\((∃kvs,H p=some (.dK kvs))\/∃kvs,H p=some (.dT kvs)))\/(T="set"/\∃S n,H p=some (.set S n))
 |_=>False
def EG{pins:Zs}{σ:St}{H:aj}{s:TE}{T:String}{x:V}{v:Tl}(I:Inv X pins σ H s)(r:RelV x v)(ty:v6 X.K T x H):
  s.TypeIs v T/\∀a,v=.ref a->∃cG,s.heap.get? a=some cG/\cG.dict=none:=by
 cases x with
 |str z=>
  obtain⟨t,rfl⟩:=r;cases(show T="str" from ty);exact⟨typeIs_str s z t,λ_ e=>nomatch e⟩
 |int i=>
  obtain⟨t,rfl⟩:=r;cases(show T="int" from ty);exact⟨typeIs_int s i t,λ_ e=>nomatch e⟩
 |ref p=>
  cases r;rcases ty with⟨rfl,xs,au⟩|⟨rfl,o,ag,hc,hd⟩|⟨rfl,ag⟩|⟨rfl,S,n,ag⟩
  ·obtain⟨its,_,cp,_⟩:=I.list au;refine⟨cp.isList.typeIs,λa e=>?_⟩;cases e;obtain⟨o,n,e,c,hd,_⟩:=cp;exact⟨o,e,hd⟩
  ·refine⟨⟨o,I.kIn p o ag,hc⟩,λa e=>?_⟩;cases e;exact⟨o,I.kIn _ o ag,hd⟩
  ·have z:∃o,s.heap.get? p=some o/\o.ExactDict:=by
    rcases ag with⟨kvs,ag⟩|⟨kvs,ag⟩
    ·obtain⟨_,_,_,_,o,_,_,e,ex,_⟩:=I.hok p _ ag;exact⟨o,e,ex⟩
    ·obtain⟨_,_,_,_,o,_,_,e,ex,_⟩:=I.hok p _ ag;exact⟨o,e,ex⟩
   obtain⟨o,e,ex⟩:=z;refine⟨⟨o,e,ex.1⟩,λa ap=>?_⟩;cases ap;exact⟨o,e,ex.2.1⟩
  ·obtain⟨o,_,_,_,e,ex,_⟩:=I.hok p _ ag;refine⟨⟨o,e,ex.1⟩,λa ap=>?_⟩;cases ap;exact⟨o,e,ex.2.1⟩
 |_=>exact TR ty
def MJ(K:Sv)(T:String)(r:V->Zf->aj->cJ->Prop)(to:bP):bP:=λσ H Q=>to σ H λx aq=>v6 K T x aq/\r x [] aq Q
def MK(K:Sv)(T:String)(r:V->Zf->aj->cJ->Prop)(to:bP)(t:fi):bP:=λσ H Q=>to σ H λx aq=>v6 K T x aq/\t σ aq λxs aQ=>r x xs aQ Q
variable{o e:UV}{es:Zp}{to:bP}{t:fi}{name:Str}{de b6:Pos}{T id:String}{r:V->Zf->aj->cJ->Prop}
def EH(pa:PlainAttrs T)(slot:Slot T name id)(te:typeOf (.builtin id)=pure (.type "method_descriptor"))(ax:v5 X id r)(aA:b4 X o to)(gM:W1 o name X.env (Xv o X.env)=Xv o X.env:=by rfl)(gN:(de.endLine==b6.line)=true:=by rfl):b4 X (.Call (.Attribute o name de) [] [] b6) (MJ X.K T r to):=by
 intro pins s σ H Q I h;refine wpAny_Call_method0_late gM gN (cm (aA pins s σ H _ I h) λv az ⟨x,aq,be,r1,ty,aR⟩=>?_);obtain⟨h1,h2⟩:=EG be r1 ty;exact⟨T,id,pa,slot,te,h1,h2,Calls.callWith_builtin rfl (Wz (ax pins az σ aq x [] v [] Q be r1 .nil aR))⟩
def rn(pa:PlainAttrs T)(slot:Slot T name id)(te:typeOf (.builtin id)=pure (.type "method_descriptor"))(ax:v5 X id r)(aA:b4 X o to)(ar:hJ X (e::es) t)(gM:W1 o name X.env (Xv o X.env)=Xv o X.env:=by rfl)(jl:((Xn b6 (SZ (e::es) X.env)).all (λx => !x.1)&&(XV b6 (XB [] X.env)).all (λx=>x.1.isSome)
   && decide ((e::es).length+([]:Zr).length+(if([]:Zr).isEmpty then 0 else 1)<30))=true:=by rfl)(gN:(de.endLine==b6.line)=true:=by rfl)(al:SZ (e::es) X.env=(false,Xv e X.env)::SZ es X.env:=by rfl)(nD:(Xn b6 (SZ es X.env)).any (·.1)=false:=by rfl):
  b4 X (.Call (.Attribute o name de) (e::es) [] b6) (MK X.K T r to t):=by
 intro pins s σ H Q I h;refine Yq gM jl gN rfl (cm (aA pins s σ H _ I h) λv az ⟨x,aq,be,r1,ty,aR⟩=>?_);obtain⟨h1,h2⟩:=EG be r1 ty;refine⟨T,id,pa,slot,te,h1,h2,?_⟩;have gO:=ar b6 pins az σ aq _ be aR;rw[al]at gO⊢;refine Calls.callWith_builtin (by show(false||(Xn b6 (SZ es X.env)).any (·.1))=false;rw[nD]<;>rfl) (Calls.evalArgs_plain ?_);exact cm gO λus a' ⟨vs,aQ,d3,r2,bK⟩=>ax pins a' σ aQ x vs v us Q d3 r1 r2 bK
end
def ro(X:aK)(id:String)(r:V->Zf->aj->cJ->Prop):Prop:=
 ∀(pins:Zs)(s:TE)(σ:St)(H:aj)(x:V)(xs:Zf)(v:Tl)(us:Zn)(Q:cJ),Inv X pins σ H s->RelV x v->b1 xs us->r x xs H Q->
  wpAny (T0 X.prog X.w) X.A (call (.builtin id) (v::us)) (h4 X pins σ Q) X.xe s
def b1.one:∀{x:V}{us:Zn},b1 [x] us->∃u,us=[u]/\RelV x u
 |_,_,.cons r .nil=>⟨_,rfl,r⟩
def b1.two:∀{x y:V}{us:Zn},b1 [x,y] us->∃u v,us=[u,v]/\RelV x u/\RelV y v
 |_,_,_,.cons r (.cons q .nil)=>⟨_,_,rfl,r,q⟩
def b1.zero:∀{us:Zn},b1 [] us->us=[]
 |_,.nil=>rfl
def b1.dropLast{xs:Zf}{us:Zn}(h:b1 xs us):b1 xs.dropLast us.dropLast:=by
 induction h with
 |nil=>exact .nil
 |cons r t cH=>
  cases t with
  |nil=>exact .nil
  |cons q t'=>exact .cons r cH
def b1.eraseIdx:∀{xs:Zf}{us:Zn}(i:Nat),b1 xs us->b1 (xs.eraseIdx i) (us.eraseIdx i)
 |_,_,_,.nil=>.nil
 |_,_,0,.cons _ t=>t
 |_,_,i+1,.cons r t=>.cons r (b1.eraseIdx i t)
def ML{α:Type}(l:List α):l.eraseIdx (l.length-1)=l.dropLast:=by
 induction l with
 |nil=>rfl
 |cons a r cH=>
  cases r with
  |nil=>rfl
  |cons b r=>
   have e:(a::b::r).length-1=((b::r).length-1)+1:=by
    have h1:(a::b::r).length=r.length+2:=rfl;have h2:(b::r).length=r.length+1:=rfl;lia
   rw[e,WA,cH]
   all_goals rfl
def Ap{α:Type}:∀(l:List α)(i:Nat),(l.eraseIdx i).length<=l.length
 |[],_=>Sy _
 |_::_,0=>UG _
 |_::r,i+1=>Nat.succ_le_succ (Ap r i)
section
variable{X:aK}{pins:Zs}{σ:St}{H:aj}{s:TE}{l b:TI}{xs ys ed:Zf}
def Inv.lset{its its':Zn}{n:Nat}{f:Array Tl->Array Tl}{t':Nat}(I:Inv X pins σ H s)(dw:H l=some (.lst xs))(e:s.heap.get? l=some {cls:=.type "list",data:=.seq its.toArray n})(bu:f its.toArray=its'.toArray)(aL:b1 ys its')(hz:ys.length<=TT):
  Inv X pins σ (upd H l (.lst ys)) {s with heap:=s.heap.update l (Obj.mapSeq f),toks:=t' }:=by
 have q:=PySem.IsL.update e f;rw[bu]at q;refine I.write (x:=l) (e:=l) (by rw[dw];exact trivial) (.inl rfl) (λb' u ab bn=>(Heap.get?_update_other s.heap (Obj.mapSeq f) (Tr ab)).trans bn) ⟨_,q⟩ ?_;exact⟨hz,its',_,aL,q⟩
def Inv.lnew{its:Zn}{t':Nat}(I:Inv X pins σ H s)(aL:b1 ys its)(hz:ys.length<=TT):
  Inv X pins σ (upd H s.heap.objs.size (.lst ys)) {s with heap:=s.heap.push {cls:=.type "list",data:=.seq its.toArray},toks:=t' }:=
 I.laid (λ_ _ q=>Heap.get?_push_of_some _ q) (Sy _) ⟨hz,its,0,aL,Heap.get?_push_size _ rfl⟩
def Inv.fresh(I:Inv X pins σ H s):H s.heap.objs.size=none:=I.hok.fresh (Sy _)
def Inv.lstM(I:Inv X pins σ H s)(dw:H l=some (.lst xs)):xs.length<=TT/\∃(its:Zn)(n:Nat),b1 xs its/\xs.length=its.length/\s.heap.get? l=some {cls:=.type "list",data:=.seq its.toArray n}:=by
 obtain⟨z,its,n,r,e⟩:=I.hok l _ dw;exact⟨z,its,n,r,r.length,e⟩
def EI{n:Nat}(h:n<=TT):Builtin.List.listTooLong n=false:=by
 unfold Builtin.List.listTooLong;exact decide_eq_false (by lia)
end
section
variable{X:aK}
def EJ:V->Zf->aj->cJ->Prop:=λx vs H Q=>∃l xs y,x=.ref l/\vs=[y]/\H l=some (.lst xs)/\xs.length<TT/\Q .non (upd H l (.lst (xs++[y])))
def v7:ro X "list.append" EJ:=by
 intro pins s σ H x vs v us Q I bc cd h;obtain⟨l,xs,y,rfl,rfl,dw,hz,q⟩:=h;cases bc;obtain⟨u,rfl,iM⟩:=cd.one;obtain⟨z,its,n,r,am,e⟩:=I.lstM dw;refine Yv F.slot_list_append ⟨_,e,rfl⟩ F.entry_list_append (F.args_list_append_2 _ _) (PySem.list_append l its.toArray n u (by rw[SW];lia)) ⟨e,?_⟩;refine⟨.non,_,I.lset (its':=its++[u]) dw e (by simp) (r.append (.cons iM .nil)) ?_,rfl,q⟩;rw[SH,TA];lia
def MM:V->Zf->aj->cJ->Prop:=λx vs H Q=>∃l b xs ed,x=.ref l/\vs=[.ref b]/\H l=some (.lst xs)/\H b=some (.lst ed)/\xs.length+ed.length<=TT/\Q .non (upd H l (.lst (xs++ed)))
def MN:ro X "list.extend" MM:=by
 intro pins s σ H x vs v us Q I bc cd h;obtain⟨l,b,xs,ed,rfl,rfl,dw,ej,hz,q⟩:=h;cases bc;obtain⟨u,rfl,iM⟩:=cd.one;cases iM;obtain⟨z,its,n,r,am,e⟩:=I.lstM dw;obtain⟨aP,fD,dL,r2,v8,ap⟩:=I.lstM ej;have jU:its.toArray.size+fD.toArray.size<=TT:=by rw[SW,SW];lia
 have Aq:¬(!its.toArray.isEmpty&&Builtin.List.listTooLong (its.toArray.size+fD.toArray.size))=true:=by
  rw[EI jU,Bool.and_false];exact S3
 refine Yv F.slot_list_extend ⟨_,e,rfl⟩ F.entry_list_extend (F.args_list_extend_2 _ _)
  (AutoSeq1.list_extend_list_list_0 l its.toArray n b fD.toArray dL Aq (by rw[SW];lia) (by lia)) ⟨e,ap,?_⟩
 refine⟨.non,_,I.lset (its':=its++fD) dw e (by simp) (r.append r2) ?_,rfl,q⟩;rw[SH];lia
def MO:V->Zf->aj->cJ->Prop:=λx vs H Q=>∃l xs y,x=.ref l/\vs=[]/\H l=some (.lst xs)/\xs[xs.length-1]?=some y/\Q y (upd H l (.lst xs.dropLast))
def MP:ro X "list.pop" MO:=by
 intro pins s σ H x vs v us Q I bc cd h;obtain⟨l,xs,y,rfl,rfl,dw,aN,q⟩:=h;cases bc;have Ar:=cd.zero;subst Ar;obtain⟨z,its,n,r,am,e⟩:=I.lstM dw;obtain⟨u,bn,iM⟩:=r.get aN
 have ox:its.toArray[its.toArray.size-1]?=some u:=by
  show its.toArray[its.length-1]?=some u
  rw[<-UY,<-am];exact bn
 refine Yv F.slot_list_pop ⟨_,e,rfl⟩ F.entry_list_pop (F.args_list_pop_1 _) (MeetsSeq.list_pop_last l its.toArray n u ox (by rw[SW];lia)) ⟨e,?_⟩;refine⟨y,_,I.lset (its':=its.dropLast) dw e ?_ r.dropLast ?_,iM,q⟩
 ·show its.toArray.eraseIdxIfInBounds (its.toArray.size-1)=its.dropLast.toArray
  rw[SW,WB,ML]
 ·rw[List.length_dropLast];lia
def MQ:V->Zf->aj->cJ->Prop:=λx vs H Q=>∃l xs i k y,x=.ref l/\vs=[.int i]/\H l=some (.lst xs) /\ -(2^63)<=i/\i<2^63/\seqIndex? i xs.length=some k/\xs[k]?=some y/\Q y (upd H l (.lst (xs.eraseIdx k)))
def MR:ro X "list.pop" MQ:=by
 intro pins s σ H x vs v us Q I bc cd h;obtain⟨l,xs,i,k,y,rfl,rfl,dw,h1,h2,ag,aN,q⟩:=h;cases bc;obtain⟨u,rfl,iM⟩:=cd.one;obtain⟨t,rfl⟩:=iM;obtain⟨z,its,n,r,am,e⟩:=I.lstM dw;obtain⟨w,hw,nu⟩:=r.get aN
 refine Yv F.slot_list_pop ⟨_,e,rfl⟩ F.entry_list_pop (F.args_list_pop_2 _ _)
  (MeetsSeq.list_pop_at l its.toArray n i t k w (fitsIndex_both h1 h2) (by rw[SW,<-am];exact ag) (by rw[<-UY];exact hw) (by rw[SW];lia)) ⟨e,?_⟩
 refine⟨y,_,I.lset (its':=its.eraseIdx k) dw e ?_ (r.eraseIdx k) ?_,nu,q⟩
 ·show its.toArray.eraseIdxIfInBounds k=(its.eraseIdx k).toArray
  rw[WB]
 ·have:=Ap xs k;lia
def MS:V->Zf->aj->cJ->Prop:=λx vs H Q=>∃l xs,x=.ref l/\vs=[]/\H l=some (.lst xs)/\Q .non (upd H l (.lst []))
def MT:ro X "list.clear" MS:=by
 intro pins s σ H x vs v us Q I bc cd h;obtain⟨l,xs,rfl,rfl,dw,q⟩:=h;cases bc;have Ar:=cd.zero;subst Ar;obtain⟨z,its,n,r,am,e⟩:=I.lstM dw;refine Yv F.slot_list_clear ⟨_,e,rfl⟩ F.entry_list_clear (F.args_list_clear_1 _) (AutoSeq1.list_clear_list_0 l its.toArray n (by rw[SW];lia)) ⟨e,?_⟩;exact⟨.non,_,I.lset (its':=[]) (ys:=[]) dw e rfl .nil (S8 _),rfl,q⟩
def MU:fB:=λx y H Q=>∃l b xs ed,x=.ref l/\y=.ref b/\H l=some (.lst xs)/\H b=some (.lst ed)/\xs.length+ed.length<=TT/\∀p,H p=none->Q (.ref p) (upd H p (.lst (xs++ed)))
def MV:gl X (Yn .Add) MU:=by
 intro pins s σ H x y v u Q I bc cg h;obtain⟨l,b,xs,ed,rfl,rfl,dw,ej,hz,q⟩:=h;cases bc;cases cg;obtain⟨z,its,n,r,am,e⟩:=I.lstM dw;obtain⟨aP,fD,dL,r2,v8,ap⟩:=I.lstM ej;refine PySem.P.add_list e ap ?_ (by rw[SW,SW];lia);have dy:its.toArray++fD.toArray=(its++fD).toArray:=by simp
 rw[dy];exact⟨.ref _,_,I.lnew (t':=s.toks) (r.append r2) (by rw[SH];lia),rfl,q _ I.fresh⟩
end
section
variable{prog:Uf}{w:Xk}{A:Xq}{E:Tl->TE->Prop}{s:TE}
set_option maxRecDepth 100000 in
end
end L2
namespace Att
open PySem PySem.W PySem.Calls PyProof.Rows
def MW{P:Params}{h:Xx}:∀(ns:Zc)(vs:Zn),WellAll P h vs (ns.map WData.int)->Y1 vs ns:=by
 intro ns;induction ns with
 |nil=>
  intro vs w;rw[TG]at w;cases w;exact .nil
 |cons n ns cH=>
  intro vs w;rw[SG]at w;cases w with
  |cons a b=>
   cases a;exact .cons _ _ (cH _ b)
def MX{l:OpenLaw}{n:Nat}(aM:l.most=some n){P:Params}{h:Xx}{args:List WData}{vals:Zn}(lV:l.row.toRowW.claim.pre args=true)(As:WellAll P h vals args):
  ∃a vs ns,vals=[Value.ref a]/\args=[WData.list (ns.map WData.int)]/\h.get? a=some {cls:=.type "list",data:=.seq vs.toArray}/\Y1 vs ns/\ns.length<=n:=by
 have hsh:WShape.hasAll [] args [.list .int]=true:=(pre_splitW lV).1;have hc:l.pre.holds [] {args:=args}=true:=(pre_splitW lV).2;obtain⟨d,r,rfl,h1,h2⟩:=hasAllW_cons hsh;obtain rfl:=hasAllW_nil h2;obtain⟨xs,rfl,aF⟩:=hasW_list h1;obtain⟨ns,rfl⟩:=items_int aF
 have fj:ns.length<=n:=by
  unfold OpenLaw.pre at hc
  have bb:(WTm.not (.lt (.lit (.int (n:Int))) (.len (.arg 0)))).holds [] {args:=[.list (ns.map .int)]}=true:=by
   have bb:=(holds_andW hc).1;rw[aM]at bb;exact bb
  have cX:=condW_of bb (w_not (w_lt w_lit (w_len_list (w_arg rfl))));rw[Sw]at cX;refine Nat.le_of_not_lt λq=>?_;have iH:(n:Int)<((ns.length:Nat):Int):=by lia
  first
   | (rw[Xl iH]at cX;exact absurd cX (by decide))
   | (simp at cX;lia)
 cases As with
 |cons w1 df=>
  cases df;cases w1 with
  |list aA rp=>exact⟨_,_,ns,rfl,rfl,aA,MW ns _ rp,fj⟩
def MY(l:OpenLaw)(args:List WData):l.row.toRowW.claim.post args (.bool true) args=true:=
 postW_of (r:=l.row.toRowW) (X:=(true==true))
  (show WShape.has [] (.bool true) .bool=true by first|rfl|decide|simp[WShape.has,WShape.arms,WShape.armsAll])
  (show(WTm.eq .res (.lit (.bool true))).value [] {args:=args,res:=some (.bool true),after:=args}=some (.bool (true==true))from w_eq_bool (w_res rfl) w_lit) rfl
def attach_call{l:OpenLaw}{n:Nat}{q:Uf}{loose:Zm}{XP:(Str->Option Tl)->Xx->Prop}{YP:Xk->Xx->Prop}{d:DefRec}(aM:l.most=some n)(At:d.params.defaults=[])(call:∀(w:Xk) (s₀ ec:TE) (mg fK:Str->Option Tl) (hu:TI) (o:Obj) (pm fA doc:Tl) (a:TI) (vs:Zn) (ns:Zc),Ground q loose [] XP w s₀ mg fK ec.heap->YP w ec.heap->ec.heap.get? hu=some o->o.data=.func (docDef d.name d.params d.body d.scope pm fA doc)->ec.heap.CodeRec fA d.name->mg d.name=some (.ref hu)->ec.heap.get? a=some {cls:=.type "list",data:=.seq vs.toArray}->Y1 vs ns->ns.length<=n->ec.gens = #[]->codeAny (T0 l.prog w) YQ (.call (.ref hu) ⟨[.ref a],[]⟩) (λr s'=>r=.ok (.ret (.bool true))/\OldK ec.heap s'.heap/\s'.os=ec.os/\Ys s'.gens) ec):
  WalkO q loose XP YP l.row.toRowW d [] (λf vs=>PySem.call f vs):=by
 intro w s₀ ec mg fK G Y hu o pm fA doc v2 kV aA hd dI hM tg aC args vals as lV ahy ahz As ahA;obtain rfl:v2=.none:=Dflts.none hM At;obtain rfl:kV=.none:=Dflts.noKw hM;obtain⟨a,vs,ns,rfl,rfl,Au,hints,fj⟩:=MX aM lV As;refine enter_call (YU (call w s₀ ec mg fK hu o pm fA doc a vs ns G Y aA (fd_plain hd) dI tg Au hints fj aC) λr s' au=>?_);obtain⟨rfl,h2,aF,bb⟩:=au;exact⟨.inl ⟨.bool true,.bool true,[],rfl,λ_=>rfl,.bool true,MY l _,λ_=>⟨List.Pairwise.nil,λ_ ax=>(nomatch ax)⟩⟩,h2,aF,bb⟩
end Att
namespace L2
open PySem PySem.Spec PyProof.Rows
def Av:∀{vs:Zn}{ns:Zc},Y1 vs ns->b1 (ns.map V.int) vs
 |_,_,.nil=>.nil
 |_,_,.cons n t h=>.cons ⟨t,rfl⟩ (Av h)
def EK(H:aj):Prop:=∀b,H b=none\/∃o xs,H b=some (.frz o (.lst xs))
def MZ{P:Uf}{w:Xk}{K:Sv}{mg fK:Str->Option Tl}{fW:lT}{k:Nat}{hu a:TI}{fd:XI}{x:Str}{sp:hK}{ec:TE}{vs:Zn}{ns:Zc}(ow:K.In ec.heap)(oy:ec.heap.Ns WP mg)(ab:ec.heap.Ns Ye fK)(rq:∀x:Str,x≠"__name__"->fK x=XK x)(M0:ec.heap.NoLimit)(aC:ec.gens = #[])(ar:ec.heap.get? a=some {cls:=.type "list",data:=.seq vs.toArray})(ay:Y1 vs ns)(am:ns.length<=TT)(ak:e' k YQ)(F:∀base:Xx,K.In base->base.Ns WP mg->jT P w K mg base fW k hu fd [x] sp)(M1:∀(s:TE) (u:Tl),Y8 s fd ⟨[u],[]⟩ [(x,u)])(rk:∀H:aj,EK H->cx K H a (ns.map V.int)->sp [.ref a] H (λv _=>v=.bl true) λ_ _ _=>False)(M2:∀H e s',fW [] H ec (λ_ _ _=>False) e s'->False):
  codeAny (T0 P w) YQ (.call (.ref hu) ⟨[.ref a],[]⟩) (λr s'=>r=.ok (.ret (.bool true))/\OldK ec.heap s'.heap/\s'.os=ec.os/\Ys s'.gens) ec:=by
 have cd:=Av ay;have M3:=ay.length
 have core:∀H:aj,EK H->cx K H a (ns.map V.int)->e4 P w H ec.heap->(∀b,H b≠none->b=a)->(H a≠none->K.lookup a=none)->
   codeAny (T0 P w) YQ (.call (.ref hu) ⟨[.ref a],[]⟩) (λr s'=>r=.ok (.ret (.bool true))/\OldK ec.heap s'.heap/\s'.os=ec.os/\Ys s'.gens) ec:=by
  intro H Aw cu hok gO e8;have EL:∀{b:TI}{o:Obj},ec.heap.get? b=some o->H b=none->(nn ec.heap H).get? b=some o:=λe n=>KT e n
  have ta:∀{b:TI}{o:Obj}{es:Array Yi}{a3:Nat},ec.heap.get? b=some o->o.data=.dict es a3->H b=none:=λ{b o es a3} e d=>by
   cases q:H b with
   |none=>rfl
   |some u=>
    have aS:b=a:=gO b (by rw[q];simp);subst aS;rw[ar]at e;cases e;have d':Data.seq vs.toArray _=Data.dict es a3:=d;cases d'
  have v9:∀{b:TI}{m:Str->Option Tl},ec.heap.Ns b m->(nn ec.heap H).Ns b m:=λ{b m} ⟨o,es,a3,e,d,r⟩=>⟨o,es,a3,EL e (ta e d),d,r⟩
  have EM:K.In (nn ec.heap H):=λb o e=>EL (ow b o e) (by
   cases q:H b with
   |none=>rfl
   |some u=>
    have aS:b=a:=gO b (by rw[q];simp);subst aS
    rw[e8 (by rw[q];simp)]at e;cases e)
  have g5:Mod K mg (nn ec.heap H):=⟨EM,v9 oy,⟨fK,v9 ab,rq⟩,let⟨p7,h1,h2⟩:=M0;⟨p7,v9 h1,h2⟩⟩;have d5:vY P w K mg (nn ec.heap H) YQ [] ec H:=⟨rfl,g5,λb o e=>KU e,Nat.le_of_eq (KS _ _),trivial,λb ab=>absurd (show b∈([]:Zo)from ab) (by simp),hok,.of_eq aC⟩;refine YU ((F _ EM (v9 oy)).run YQ [] ec H ⟨[.ref a],[]⟩ [.ref a] [.ref a] _ _ ak d5 (M1 ec (.ref a)) (.cons rfl .nil) (rk H Aw cu)) λr s' h=>?_;cases r with
  |error e=>exact(M2 H e s' h).elim
  |ok kY=>
   cases kY with
   |next=>exact TR h
   |brk=>exact TR h
   |cont=>exact TR h
   |ret u=>
    obtain⟨v,H',os,bare,un,M4,dA,q⟩:=h;have iH:v=.bl true:=q;subst iH;obtain rfl:u=Value.bool true:=dA;refine⟨rfl,OldK.of_keep λb o e=>?_,os,bare⟩;cases q:H b with
    |none=>exact un.keep b o e q (by intro z;exact absurd (show b∈([]:Zo)from z) (by simp)) (by simp)
    |some u=>
     rcases Aw b with z|⟨cG,xs,z⟩
     ·rw[q]at z;cases z
     ·have aP:=un.frzs b cG _ z;obtain⟨ah,_⟩:=hok b _ z;obtain⟨ap,_⟩:=M4 b _ aP;rw[e]at ah;cases ah;exact ap
 cases ag:K.lookup a with
 |some o=>
  have e:=ow a o ag;rw[ar]at e;cases e;refine core (λ_=>none) (λ_=>.inl rfl) (.inr ⟨_,vs.toArray,_,ag,rfl,rfl,rfl,by rw[SW,M3];exact am,by simpa using cd⟩) (λb u z=>by have e6:(none:Option eX)=some u:=z;cases e6) (λb z=>absurd rfl z) λz=>absurd rfl z
 |none=>
  refine core (λb=>if b=a then some (.frz {cls:=.type "list",data:=.seq vs.toArray} (.lst (ns.map V.int)))else none) (λb=>?_) (.inl (.inr ⟨{cls:=.type "list",data:=.seq vs.toArray},SC rfl⟩)) (λb u z=>?_) (λb z=>?_) λ_=>ag
  ·by_cases ab:b=a
   ·exact .inr ⟨_,_,SC ab⟩
   ·exact .inl (SL ab)
  ·by_cases ab:b=a
   ·have e6:=(SC ab).symm.trans z;cases e6;subst ab;exact⟨ar,by rw[Sw];exact am,vs,_,cd,ar⟩
   ·have e6:=(SL ab).symm.trans z;cases e6
  ·by_cases ab:b=a
   ·exact ab
   ·exact absurd (SL ab) z
def p8(s:Xm):YE:=match s with
 |.FunctionDef _ a _ _ _ _ _ _ _ _=>a
 |_=>{posonlyargs:=[],args:=[],vararg:=none,kwonlyargs:=[],kw_defaults:=[],kwarg:=none,defaults:=[]}
def kn(s:Xm):List Xm:=match s with
 |.FunctionDef _ _ b _ _ _ _ _ _ _=>b
 |_=>[]
def bX(s:Xm):Yd:=match s with
 |.FunctionDef _ _ _ _ _ _ sc _ _ _=>sc
 |_=>{kind:=.function,names:=[],isGenerator:=false,isCoroutine:=false}
abbrev ko:lT:=λ_ _ _ _ _ _=>False
abbrev p9:gi:=λ_ _ _=>False
def EN{X:aK}:Ai ko X p9:=λ_ _ _ _ _ _ _ h=>h.elim
structure mK (K:Sv) (x eB:Str) (st:Xm) (f:TI) (fd:XI):Prop where
 ex:∃(oc:Tl)(od:Option TI)(kV doc pm:Tl)(an:Option TI)(cdv ct:Tl)(osl:Array (Option Tl)),
  fd=UE x eB (p8 st) (kn st) (bX st) .none kV doc pm an cdv ct/\K.lookup f=some ⟨oc,od,.func fd,osl⟩/\VN K cdv eB=true
 kp:Va K (.ref f)=true
section
variable{P:Uf}{w:Xk}{K:Sv}{mg:Str->Option Tl}{base:Xx}
def mK.ok{x eB:Str}{st:Xm}{f:TI}{fd:XI}{N ps:Zm}{k:Nat}{sp:hK}(F:mK K x eB st f fd)(S:cE N ps (bX st))(len:∀vs H Q E,sp vs H Q E->vs.length=ps.length)(kl:∀(cdv:Tl) (A:Xq) (outer:List Env) (s:TE) (H:aj) (vs:Zf) (Q:cJ) (E:gi),e' k (A.deeper (YI eB (bX st) s.heap.objs.size f cdv))->sp vs H Q E->∃t,i2 (lU ko P w K mg base N eB (bX st) f cdv A outer s H E).nox (kn st) t/\t {nx:=λ_ H'=>Q .non H',rt:=Q} (start N vs) H):jT P w K mg base ko (k+1) f fd ps sp:=by
 obtain⟨oc,od,kV,doc,pm,an,cdv,ct,osl,rfl,lk,dI⟩:=F.ex;refine Mj lk dI S len λA outer s H vs Q E ak rk=>?_;obtain⟨t,h,q⟩:=kl cdv A outer s H vs Q E ak rk;exact⟨t,h.nox,q⟩
def mK.binds{x eB:Str}{st:Xm}{f:TI}{fd:XI}{ps:Zm}(F:mK K x eB st f fd)(h:∀(kV doc pm:Tl) (an:Option TI) (cdv ct:Tl) (us:Zn),us.length=ps.length->Y9 (UE x eB (p8 st) (kn st) (bX st) .none kV doc pm an cdv ct) ⟨us,[]⟩=pure (ps.zip us)):Binds K fd ps []:=by
 obtain⟨oc,od,kV,doc,pm,an,cdv,ct,osl,rfl,lk,dI⟩:=F.ex;exact .all (h kV doc pm an cdv ct)
def M5{x eB:Str}{st:Xm}{f:TI}{oc:Tl}{od an:Option TI}{osl:Array (Option Tl)}{kV doc pm cdv ct:Tl}(l:K.lookup f=some ⟨oc,od,.func (UE x eB (p8 st) (kn st) (bX st) .none kV doc pm an cdv ct),osl⟩)(c:VN K cdv eB=true)(k:Va K (.ref f)=true):mK K x eB st f (UE x eB (p8 st) (kn st) (bX st) .none kV doc pm an cdv ct):=⟨⟨oc,od,kV,doc,pm,an,cdv,ct,osl,rfl,l,c⟩,k⟩
end
section
variable{X:aK}
def g6(i:Nat){x:Str}{pos:Pos}(a4:X.N[i]?=some x:=by rfl)(aL:gz X.env.scope x:=by first|exact SA rfl|exact SI (SA rfl)|exact SI (SI rfl))(hd:(x==("__debug__":Str))=false:=by decide)(dI:(x==("__classdict__":Str))=false:=by decide):b4 X (.Name x pos) (zY i):=h5 a4 aL hd dI
end
def gn{A B:Prop}(h:B):if false=true then A else B:=by
 rw[SL S3];exact h
def M6{A B:Prop}(h:A):if true=true then A else B:=by
 rw[SC rfl];exact h
def b2(H H':aj):Prop:=∀b o,H b=some o->H' b=some o
def b2.refl(H:aj):b2 H H:=λ_ _ h=>h
def b2.trans{H aq aQ:aj}(a:b2 H aq)(b:b2 aq aQ):b2 H aQ:=λc o h=>b c o (a c o h)
def b2.free{H H':aj}(e:b2 H H'){l:TI}(h:H' l=Option.none):H l=Option.none:=by
 cases q:H l with
 |none=>rfl
 |some o=>
  rw[e l o q]at h;cases h
def b2.seq{K:Sv}{H H':aj}{a:TI}{xs:Zf}(e:b2 H H')(h:cx K H a xs):cx K H' a xs:=by
 rcases h with(h|⟨o,h⟩)|h
 ·exact .inl (.inl (e _ _ h))
 ·exact .inl (.inr ⟨o,e _ _ h⟩)
 ·exact .inr h
end L2
set_option maxHeartbeats 4000000
namespace L2
open PySem PySem.Spec PyProof.Rows
open PySem.Builtin.Int (intBits)
def Ax(i j:Int):Prop:=wp i<=9000/\wp j<=9000
def rr(_ j:Int):Prop:=j≠0/\wp j<=9000
def M7{x y:Int}(h:wp y<=9000):Builtin.divisionGoesByPylong x y=false:=by
 by_cases h0:y=0
 ·subst h0;exact PyProof.noPylong_small (by decide)
 ·refine PyProof.noPylong_of_log2 ?_;have q:=intBits_le_iff.mp h;have aM:y.natAbs≠0:=by lia
  exact(Nat.log2_lt aM).mpr q
section
variable{X:aK}{a b:UV}{b5 tb:bP}{pos:Pos}
def th:gl X (Yn .Mult) (rh Ax λi j=>.int (i*j)):=vR λ_ _ _ _ _ _ _ hc q=>mul_int q (IntMulOk.of_le hc.1 hc.2 (by decide))
def v':gl X (Yn .FloorDiv) (rh rr λi j=>.int (i.fdiv j)):=vR λ_ _ _ _ _ _ _ hc q=>floordiv_int hc.1 q (.inl (M7 hc.2))
def kZ:gl X (XE .Eq) (kX λi j=>.bl (decide (i=j))):=ri λ_ _ _ _ _ _ _ q=>eq_int (by rw[WC];exact q)
def ru:gl X (XE .NotEq) (kX λi j=>.bl (!decide (i=j))):=ri λ_ _ _ _ _ _ _ q=>ne_int (by rw[bne,WC];exact q)
def M8(H:aj)(p:TI)(xs:Zf):Prop:=H p=some (.tup xs)\/H p=some (.lst xs)
def M9:fB:=λx y H Q=>∃p xs i v,x=.ref p/\y=.int i/\M8 H p xs/\dW xs i=some v/\Q v H
def mL:rm X M9:=by
 intro value slice pins s σ H x y v u Q I bc cg h al;obtain⟨p,xs,i,z,ah,ap,au,aB,q⟩:=h;rcases au with au|au
 ·exact EF value slice pins s σ H x y v u Q I bc cg ⟨p,xs,i,z,ah,ap,ev.of au,aB,q⟩ al
 ·exact Am value slice pins s σ H x y v u Q I bc cg ⟨p,xs,i,z,ah,ap,cx.of au,aB,q⟩ al
def M':nw X (.builtin "isinstance") (λxs H Q=>∃x t n b,xs=[x,.ty n]/\jS X.K H x t/\VL X.K t (.type n)=some b/\Q (.bl b) H):=by
 intro pins s σ H xs us Q I r h;obtain⟨x,t,n,b,rfl,ty,e,q⟩:=h;obtain⟨u,mD,rfl,r1,r2⟩:=vals2 r;cases r2;exact Mb I r1 ty e λjP=>⟨.bl b,H,I.tok _,rfl,q⟩
structure bZ (P:Uf) (w:Xk) (K:Sv) (mg:Str->Option Tl) (base:Xx) (x:Str) (ps:Zm) (k:Nat) (sp:hK):Prop where
 ex:∃f fd,mg x=some (.ref f)/\Va K (.ref f)=true/\Binds K fd ps []/\jT P w K mg base ko k f fd ps sp
structure cN (K:Sv) (mg:Str->Option Tl) (x:Str) (st:Xm) (ps:Zm):Prop where
 ex:∃f fd,mg x=some (.ref f)/\mK K x x st f fd/\Binds K fd ps []
def bZ.imp{P:Uf}{w:Xk}{K:Sv}{mg:Str->Option Tl}{base:Xx}{x:Str}{ps:Zm}{k:Nat}{sp s9:hK}(c:bZ P w K mg base x ps k sp)(h:∀vs H Q E,s9 vs H Q E->sp vs H Q E):bZ P w K mg base x ps k s9:=by
 obtain⟨f,fd,m,kp,b,F⟩:=c.ex;exact⟨f,fd,m,kp,b,F.imp h⟩
def rv{x:Str}{ps:Zm}{j k:Nat}{sp:hK}{p:Pos}{e:UV}{es:Zp}{t:fi}(c:bZ X.prog X.w X.K X.mg X.base x ps j sp)(ak:e' k X.A)(aC:eY X x)(ar:hJ X (e::es) t)(hjk:j<=k:=by decide)(ht:(x==("__debug__":Str))=false:=by decide)(aB:SZ (e::es) X.env=(false,Xv e X.env)::SZ es X.env:=by rfl)(fa:(Xn pos (SZ es X.env)).any (·.1)=false:=by rfl):
  b4 X (.Call (.Name x p) (e::es) [] pos) (vZ sp [] p9 t):=by
 obtain⟨f,fd,m,kp,b,F⟩:=c.ex;exact Mh F (ak.mono hjk) aC m kp b .nil EN ar ht aB fa
def cN.ok{P:Uf}{w:Xk}{K:Sv}{mg:Str->Option Tl}{base:Xx}{x:Str}{st:Xm}{N ps:Zm}{k:Nat}{sp:hK}(F:cN K mg x st ps)(S:cE N ps (bX st))(len:∀vs H Q E,sp vs H Q E->vs.length=ps.length)(kl:∀(f:TI) (cdv:Tl) (A:Xq) (outer:List Env) (s:TE) (H:aj) (vs:Zf) (Q:cJ) (E:gi),e' k (A.deeper (YI x (bX st) s.heap.objs.size f cdv))->sp vs H Q E->∃t,i2 (lU ko P w K mg base N x (bX st) f cdv A outer s H E).nox (kn st) t/\t {nx:=λ_ H'=>Q .non H',rt:=Q} (start N vs) H):bZ P w K mg base x ps (k+1) sp:=by
 obtain⟨f,fd,m,EO,b⟩:=F.ex;exact⟨f,fd,m,EO.kp,b,EO.ok S len (kl f)⟩
end
def gP{p:Prop}[Decidable p]{A B:Prop}(h1:p->A)(h2:¬p->B):if decide p=true then A else B:=by
 by_cases h:p
 ·rw[Xl h];exact h1 h
 ·rw[decide_eq_false h];exact h2 h
def Na{p:Prop}[Decidable p]{A B:Prop}(h1:¬p->A)(h2:p->B):if(!decide p)=true then A else B:=by
 by_cases h:p
 ·rw[Xl h];exact h2 h
 ·rw[decide_eq_false h];exact h1 h
def mM(b:TI)(H H':aj):Prop:=∀a o,a≠b->H a=some o->H' a=some o
def mM.trans{b:TI}{H aq aQ:aj}(e:mM b H aq)(f:mM b aq aQ):mM b H aQ:=λa o n h=>f a o n (e a o n h)
def mM.upd(b:TI)(H:aj)(o:eX):mM b H (L2.upd H b o):=λa u n h=>by rw[c6 n];exact h
def wa{H:aj}{p:TI}(h:H p=none)(o:eX):b2 H (L2.upd H p o):=λb u q=>by rw[c6 (oj q h)];exact q
end L2
namespace L2
open PySem PySem.Spec PyProof.Rows
def e4.but{P:Uf}{w:Xk}{H:aj}{h h':Xx}{C:TI}(x:e4 P w H h)(n:H C=none)(k:∀b u,b≠C->h.get? b=some u->h'.get? b=some u):e4 P w H h':=λa o e=>
 (x a o e).stay (λb u ab q=>k b u (by rcases ab with rfl|ab;exact oj e n;exact oj ab n) q) (λ_ q=>q) λ_ _ q=>q
def f8.but{fs ex:Zo}{H H':aj}{h h1 h2:Xx}{C:TI}(u:f8 fs ex H H' h h1)(wc:h.get? C=none)(k:∀b u,b≠C->h1.get? b=some u->h2.get? b=some u):f8 fs ex H H' h h2 where
 keep:=λb o q n f e=>k b o (by rintro rfl;rw[wc]at q;cases q) (u.keep b o q n f e)
 slot:=λb o q n f e=>by
  obtain⟨sl,z⟩:=u.slot b o q n f e;exact⟨sl,k b _ (by rintro rfl;rw[wc]at q;cases q) z⟩
 free:=u.free
 there:=λb o q e=>by
  obtain⟨fg,z⟩:=u.there b o q e;exact⟨fg,k b _ (by rintro rfl;rw[wc]at q;cases q) z⟩
 tups:=u.tups
 frzs:=u.frzs
 tbls:=u.tbls
def dF(X:aK)(N:Zm)(scope:Yd)(bm:List (Str×TI))(C:TI)(s:TE)(H:aj)(ex:Zo):aK:=
 {X with N:=N,s₀:=s,H₀:=H,env:=Za scope bm C X.env,outer:=X.stack,ex:=ex,fn:=λ_=>false,pn:=[],xe:=λ_ _=>False}
def ip(σ:St)(js:Zj):St:=js.map λj=>(σ[j]?).join
def b1.getR:∀{xs:Zf}{us:Zn}{i:Nat}{u:Tl},b1 xs us->us[i]?=some u->∃x,xs[i]?=some x/\RelV x u
 |_,_,_,_,.nil,e=>by simp at e
 |_,_,0,_,.cons r _,e=>by simp at e;subst e;exact⟨_,rfl,r⟩
 |_,_,i+1,u,.cons _ t,e=>by
  obtain⟨x,h1,h2⟩:=b1.getR (i:=i) (u:=u) t (by simpa using e);exact⟨x,by simpa using h1,h2⟩
section
variable{X:aK}
def Nb(hc:X.calm=true):nw X (.builtin "all") (λxs H Q=>∃l ys,xs=[.ref l]/\H l=some (.lst ys)/\(∀y∈ys,y=.bl true)/\Q (.bl true) H):=by
 intro pins s σ H xs us Q I r h;obtain⟨l,ys,rfl,am,bv,q⟩:=h;obtain⟨u,rfl,r1⟩:=vals1 r;cases r1;obtain⟨its,cd,cp,hz⟩:=I.list (cx.of am);have Ay:=cp.isList
 have cM:l<s.heap.objs.size:=by
  obtain⟨_,e,_⟩:=Ay;exact Heap.lt_size e
 refine call_all_walk (Yh Ay ⟨s.heap.objs.size,[s.heap.objs.size,l],[s.heap.objs.size],its.toArray.size,_,_,λ_=>true,rfl,Walks.list (A:=X.A.in1) (I.ok.hd hc) _ l (Tf cM) its.toArray,?_,?_,?_⟩)
 ·exact⟨⟨_,Heap.get?_push_size _ rfl,rfl,rfl⟩,Ay.push _⟩
 ·intro i v s' zX ahB gj hr;obtain⟨y,fl,cg⟩:=cd.getR (i:=i) (u:=v) (by simpa using gj);have e:=bv y (Th fl);subst e;cases cg;exact Xw hr
 ·intro h' jP ag;have e:((Ta its.toArray.size).all λ_=>true)=true:=by simp
  rw[e];refine⟨.bl true,H,I.kept (h':=h') (t':=jP) λb o eN=>?_,rfl,q⟩;refine ag b o (λax=>?_) (Heap.get?_push_of_some _ eN);rw[SO.mp ax]at eN;exact T6 _ (Heap.lt_size eN)
end
end L2
namespace Cut
open PySem
open PySem.Builtin.Int (intBits)
def oz{x:Int}(h1 : -(2^64)<x)(h2:x<2^64):wp x<=64:=intBits_le_64 h1 h2
def d6{x t:Int}{n:Nat}(h:x.natAbs<=t.natAbs)(bv:wp t<=n):wp x<=n:=Yw h bv
def aH(x y:Int):Prop:=0<y/\Hh x y=1
def EP{x y:Int}(ao:0<=x)(aN:0<y):Hh y (x%y)=Hh x y:=by
 obtain⟨m,rfl⟩:=WD ao;obtain⟨n,rfl⟩:=WD (Tn aN);have e:((m:Int)%(n:Int))=((m%n:Nat):Int):=rfl;rw[e];show Ti n (m%n)=Ti m n
 rw[VP m n,Nat.gcd_rec n m,VP]
def EQ(a b:Int):Hh (if a<0 then -a else a) (if b<0 then -b else b)=Hh a b:=by
 have e:∀z:Int,(if z<0 then -z else z).natAbs=z.natAbs:=λz=>by split<;>lia
 unfold Hh;rw[e,e]
def ER{x:Int}(h:0<=x):((Hh x 0:Nat):Int)=x:=by
 rw[WE];lia
def oA{t b:Int}(ab:b≠0):0<((Hh t b:Nat):Int):=by
 have:0<Hh t b:=Vc t ab;lia
def ES{t b g s:Int}(ab:b≠0)(aC:g=(Hh t b:Nat))(al:s=g/\0<b\/s = -g/\b<0):
  aH (t.fdiv s) (b.fdiv s)/\t.fdiv s*b=t*b.fdiv s/\(t.fdiv s).natAbs<=t.natAbs/\(b.fdiv s).natAbs<=b.natAbs:=by
 have gp:0<g:=by rw[aC];exact oA ab
 have bo:g∣t:=by rw[aC];exact Vd t b
 have bG:g∣b:=by rw[aC];exact UZ t b
 have az:s∣t:=by rcases al with⟨h,_⟩|⟨h,_⟩<;>rw[h];exact bo;exact UH.mpr bo
 have a':s∣b:=by rcases al with⟨h,_⟩|⟨h,_⟩<;>rw[h];exact bG;exact UH.mpr bG
 have fX:s≠0:=by rcases al with⟨h,_⟩|⟨h,_⟩<;>lia
 obtain⟨x,ao⟩:=az;obtain⟨y,aN⟩:=a';have ex:t.fdiv s=x:=by rw[ao];exact UI x fX
 have fl:b.fdiv s=y:=by rw[aN];exact UI y fX
 have ah:(t.fdiv s).natAbs<=t.natAbs:=Wp t s;have ap:(b.fdiv s).natAbs<=b.natAbs:=Wp b s;refine⟨⟨?_,?_⟩,?_,ah,ap⟩
 ·rw[fl];rcases al with⟨h,ae⟩|⟨h,ae⟩
  ·rw[aN,h]at ae;exact T' ae gp
  ·rw[aN,h]at ae;have:0<g*y:=by rw[UJ]at ae;lia
   exact T' this gp
 ·rw[ex,fl]
  have q:Hh t b=s.natAbs*Hh x y:=by
   rw[ao,aN,VQ]
  have ET:s.natAbs=g.toNat:=by rcases al with⟨h,_⟩|⟨h,_⟩<;>lia
  have k0:g.toNat=Hh t b:=by lia
  rw[ET,k0]at q;have pos:0<Hh t b:=Vc t ab;have:Hh t b*Hh x y=Hh t b*1:=by lia
  exact VR pos this
 ·rw[ex,fl];have:x*b=x*(s*y):=by rw[<-aN]
  have h2:t*y=s*x*y:=by rw[<-ao]
  rw[this,h2,<-Ul,S4 x s]
def nE{k n m:Int}(h:k∣n*m)(g:Hh k n=1):k∣m:=by
 have q:=Int.dvd_gcd_mul_iff_dvd_mul.mpr h;rw[g]at q;simpa using q
def Az{x y hv fb:Int}(h:aH x y)(h':aH hv fb)(e:x*fb=hv*y):x=hv/\y=fb:=by
 obtain⟨p,g⟩:=h;obtain⟨sX,g'⟩:=h'
 have bo:y∣fb:=by
  have:y∣x*fb:=⟨hv,by rw[e,S4]⟩;exact nE this (by rw[TJ];exact g)
 have bG:fb∣y:=by
  have:fb∣hv*y:=⟨x,by rw[<-e,S4]⟩;exact nE this (by rw[TJ];exact g')
 have fl:y=fb:=Int.dvd_antisymm (Tn p) (Tn sX) bo bG;refine⟨?_,fl⟩;rw[fl]at e;exact TB (by lia) e
end Cut
namespace Cut
def mN(x y z:Int):Prop:=0<z/\Hh (Hh x y:Nat) z=1
def we(a b n:Int):Hh (Hh a n:Nat) b=Ti (Ti a.natAbs b.natAbs) n.natAbs:=by
 show Ti (Ti a.natAbs n.natAbs) b.natAbs=_
 rw[Nat.gcd_assoc,VP n.natAbs,<-Nat.gcd_assoc]
def AA(a b n:Int):Hh (Hh a b:Nat) n=Ti (Ti a.natAbs b.natAbs) n.natAbs:=rfl
def Nc(a b n:Int):Hh (Hh n a:Nat) b=Hh (Hh a n:Nat) b:=by
 rw[TJ n a]
def EU{a b n:Int}(aM:n≠0):0<((Hh (Hh a n:Nat) b:Nat):Int):=by
 rw[we];have:0<Ti (Ti a.natAbs b.natAbs) n.natAbs:=Nat.gcd_pos_of_pos_right _ (by lia);lia
def EV(a b n:Int):((Hh (Hh a n:Nat) b:Nat):Int)∣a/\((Hh (Hh a n:Nat) b:Nat):Int)∣b/\((Hh (Hh a n:Nat) b:Nat):Int)∣n:=by
 rw[we];have h1:=U0 (Ti a.natAbs b.natAbs) n.natAbs;have h2:=Ve (Ti a.natAbs b.natAbs) n.natAbs;refine⟨?_,?_,?_⟩
 ·exact UK.mpr (Vf h1 (U0 _ _))
 ·exact UK.mpr (Vf h1 (Ve _ _))
 ·exact UK.mpr h2
def EW{a b n g s:Int}(aM:n≠0)(aC:g=(Hh (Hh a n:Nat) b:Nat))(al:s=g/\0<n\/s = -g/\n<0):
  mN (a.fdiv s) (b.fdiv s) (n.fdiv s)/\a.fdiv s*n=a*n.fdiv s/\b.fdiv s*n=b*n.fdiv s/\(a.fdiv s).natAbs<=a.natAbs/\(b.fdiv s).natAbs<=b.natAbs/\(n.fdiv s).natAbs<=n.natAbs:=by
 have gp:0<g:=by rw[aC];exact EU aM
 obtain⟨bo,bG,f5⟩:=EV a b n;rw[<-aC]at bo bG f5;have fX:s≠0:=by rcases al with⟨h,_⟩|⟨h,_⟩<;>lia
 have AB:∀z:Int,g∣z->s∣z:=λz hz=>by
  rcases al with⟨h,_⟩|⟨h,_⟩<;>rw[h]
  ·exact hz
  ·exact UH.mpr hz
 obtain⟨x,ao⟩:=AB a bo;obtain⟨y,aN⟩:=AB b bG;obtain⟨z,hz⟩:=AB n f5;have ex:a.fdiv s=x:=by rw[ao];exact UI x fX
 have fl:b.fdiv s=y:=by rw[aN];exact UI y fX
 have iN:n.fdiv s=z:=by rw[hz];exact UI z fX
 refine⟨⟨?_,?_⟩,?_,?_,VS a s,VS b s,VS n s⟩
 ·rw[iN];rcases al with⟨h,ae⟩|⟨h,ae⟩
  ·rw[hz,h]at ae;exact T' ae gp
  ·rw[hz,h]at ae;have:0<g*z:=by rw[UJ]at ae;lia
   exact T' this gp
 ·rw[ex,fl,iN,AA];rw[we,ao,aN,hz,TU,TU,TU,Vg,Vg]at aC;have ET:s.natAbs=g.toNat:=by rcases al with⟨h,_⟩|⟨h,_⟩<;>lia
  have pos:0<s.natAbs:=by lia
  have q:s.natAbs*Ti (Ti x.natAbs y.natAbs) z.natAbs=s.natAbs*1:=by lia
  exact VR pos q
 ·rw[ex,iN];have h1:x*n=x*(s*z):=by rw[<-hz]
  have h2:a*z=s*x*z:=by rw[<-ao]
  rw[h1,h2,<-Ul,S4 x s]
 ·rw[fl,iN];have h1:y*n=y*(s*z):=by rw[<-hz]
  have h2:b*z=s*y*z:=by rw[<-aN]
  rw[h1,h2,<-Ul,S4 y s]
def AC{x y z hv fb e6:Int}(g:Hh (Hh x y:Nat) z=1)(ah:x*e6=hv*z)(ap:y*e6=fb*z):z∣e6:=by
 have bo:z.natAbs∣x.natAbs*e6.natAbs:=⟨hv.natAbs,by rw[<-TU,ah,TU,Nat.mul_comm]⟩;have bG:z.natAbs∣y.natAbs*e6.natAbs:=⟨fb.natAbs,by rw[<-TU,ap,TU,Nat.mul_comm]⟩;have f5:z.natAbs∣z.natAbs*e6.natAbs:=⟨e6.natAbs,rfl⟩;have q:=Nat.dvd_gcd (Nat.dvd_gcd bo bG) f5;rw[WG,WG]at q;rw[AA]at g;rw[g,Nat.one_mul]at q;exact U1.mp q
def wf{x y z hv fb e6:Int}(h:mN x y z)(h':mN hv fb e6)(ah:x*e6=hv*z)(ap:y*e6=fb*z):x=hv/\y=fb/\z=e6:=by
 have bo:=AC h.2 ah ap;have bG:=AC h'.2 ah.symm ap.symm;have iN:z=e6:=Int.dvd_antisymm (Tn h.1) (Tn h'.1) bo bG;subst iN;have jW:z≠0:=SD h.1;exact⟨TB jW ah,TB jW ap,rfl⟩
def Nd{a b n:Int}{k:Nat}(aM:n≠0)(h:VT n<=k):VT ((Hh (Hh a n:Nat) b:Nat):Int)<=k:=by
 refine PySem.intBits_le_of_natAbs ?_ h;exact VU (by lia) (U1.mpr (EV a b n).2.2)
def EX{u v:Int}(bn:0<u)(aL:0<v):u*v≠0:=SD (SF bn aL)
def AD{x y z:Int}(h:mN x y z):mN (-x) (-y) z:=by
 refine⟨h.1,?_⟩;have g:=h.2;rw[AA]at g⊢;rw[Int.natAbs_neg,Int.natAbs_neg];exact g
end Cut
namespace L3
open PySem L2
open PySem.Builtin.Int (intBits)
inductive D where
 |non|bl (b:Bool)|int (i:Int)|str (x:Str)|ty (n:String)|tup (xs:List D)|lst (xs:List D)|scr (ns:Zc)|ktup (xs:List D)|kfn (f:TI)|dct (b:Bool) (ks:List Zt) (ds:List D)
abbrev Zh:=List D
abbrev Zw:=List Zh
inductive mO where
 |l (ds:Zh)|d (b:Bool) (t:Option TI) (ks:List Zt) (ds:Zh)
instance:Coe Zh mO:=⟨mO.l⟩
inductive hN where
 |ll (a:TI) (as:Zo) (b3:Zw)|dl (b:Bool) (a:TI) (ks:List Zt) (as:Zo) (b3:Zw)
def hN.adr:hN->TI
 |.ll a _ _=>a
 |.dl _ a _ _ _=>a
def hN.ins:hN->Zo
 |.ll _ as _=>as
 |.dl _ _ _ as _=>as
inductive aD where
 |no|val (d:D)|own (c:mO)|bag|new (d:D)|pin (v:V) (d:D)|deep (c:hN)
abbrev Zg:=List aD
def oB(b:Bool)(k:Zt):Int:=
 if b then XM (Builtin.Tuple.tupleHashOf (k.map λks=>XM (Builtin.Tuple.tupleHashOf (ks.map YL))))else XM (Builtin.Tuple.tupleHashOf ((k.headD []).map YL))
def i8(b:Bool)(k:Zt):D:=if b then .tup (k.map λks=>.tup (ks.map D.int))else .tup ((k.headD []).map D.int)
def kq(b:Bool):List Zt->Zo->Zn->List Yi
 |k::ks,a::as,u::us=>⟨oB b k,.ref a,u⟩::kq b ks as us
 |_,_,_=>[]
def hx(b:Bool)(a:TI)(a3:Nat)(ks:List Zt)(as:Zo)(vs:Zf):eX:=.ext λh=>ks.length<=TT/\as.length=ks.length/\vs.length=ks.length/\(a==Xy)=false /\
 ∃us:Zn,b1 vs us/\∃o es,h.get? a=some o/\o.ExactDict/\o.data=.dict es a3/\es.toList=kq b ks as us/\ks.Nodup
mutual
inductive bA (K:Sv) (B:aj):V->D->Prop where
 |non:bA K B .non .non
 |bl (b:Bool):bA K B (.bl b) (.bl b)
 |int (i:Int):bA K B (.int i) (.int i)
 |str (x:Str):bA K B (.str x) (.str x)
 |ty (n:String):bA K B (.ty n) (.ty n)
 |tup {a:TI} {vs:Zf} {ds:Zh} (h:B a=some (.tup vs)) (r:Reps K B vs ds):bA K B (.ref a) (.tup ds)
 |lst {a:TI} {vs:Zf} {ds:Zh} (h:B a=some (.lst vs)) (r:Reps K B vs ds):bA K B (.ref a) (.lst ds)
 |scr {a:TI} {ns:Zc} (h:cx K B a (ns.map V.int)):bA K B (.ref a) (.scr ns)
 |ktup {a:TI} {vs:Zf} {ds:Zh} (h:ev K B a vs) (r:Reps K B vs ds):bA K B (.ref a) (.ktup ds)
 |kfn (f:TI):bA K B (.ref f) (.kfn f)
 |dct {a:TI} {b:Bool} {a3:Nat} {ks:List Zt} {as:Zo} {vs:Zf} {ds:Zh} (h:B a=some (hx b a a3 ks as vs)) (ag:Reps K B (as.map V.ref) (ks.map (i8 b))) (ab:b=false->∀k∈ks,∃l,k=[l]) (r:Reps K B vs ds):bA K B (.ref a) (.dct b ks ds)
inductive Reps (K:Sv) (B:aj):Zf->Zh->Prop where
 |nil:Reps K B [] []
 |cons {v:V} {d:D} {vs:Zf} {ds:Zh} (h:bA K B v d) (r:Reps K B vs ds):Reps K B (v::vs) (d::ds)
end
def AE{K:Sv}{H H':aj}{a:TI}{xs:Zf}(e:b2 H H')(h:ev K H a xs):ev K H' a xs:=by
 rcases h with(h|⟨o,h⟩)|h
 ·exact .inl (.inl (e _ _ h))
 ·exact .inl (.inr ⟨o,e _ _ h⟩)
 ·exact .inr h
section
variable{K:Sv}{B av:aj}
mutual
theorem bA.mono(s:b2 B av):∀{v:V}{d:D},bA K B v d->bA K av v d
 |_,_,.non=>.non
 |_,_,.bl b=>.bl b
 |_,_,.int i=>.int i
 |_,_,.str x=>.str x
 |_,_,.ty n=>.ty n
 |_,_,.tup h r=>.tup (s _ _ h) (Reps.mono s r)
 |_,_,.lst h r=>.lst (s _ _ h) (Reps.mono s r)
 |_,_,.scr h=>.scr (s.seq h)
 |_,_,.ktup h r=>.ktup (AE s h) (Reps.mono s r)
 |_,_,.kfn f=>.kfn f
 |_,_,.dct h ag ab r=>.dct (s _ _ h) (Reps.mono s ag) ab (Reps.mono s r)
theorem Reps.mono(s:b2 B av):∀{vs:Zf}{ds:Zh},Reps K B vs ds->Reps K av vs ds
 |_,_,.nil=>.nil
 |_,_,.cons h r=>.cons (bA.mono s h) (Reps.mono s r)
end
def Reps.length:∀{vs:Zf}{ds:Zh},Reps K B vs ds->vs.length=ds.length
 |_,_,.nil=>rfl
 |_,_,.cons _ r=>by rw[SN,SN,r.length]
def Reps.get:∀{vs:Zf}{ds:Zh}{i:Nat}{d:D},Reps K B vs ds->ds[i]?=some d->∃v,vs[i]?=some v/\bA K B v d
 |_,_,_,_,.nil,e=>by simp at e
 |_,_,0,_,.cons h _,e=>by simp at e;subst e;exact⟨_,rfl,h⟩
 |_,_,i+1,d,.cons _ r,e=>by
  obtain⟨v,h1,h2⟩:=Reps.get (i:=i) (d:=d) r (by simpa using e);exact⟨v,by simpa using h1,h2⟩
def Reps.getV:∀{vs:Zf}{ds:Zh}{i:Nat}{v:V},Reps K B vs ds->vs[i]?=some v->∃d,ds[i]?=some d/\bA K B v d
 |_,_,_,_,.nil,e=>by simp at e
 |_,_,0,_,.cons h _,e=>by simp at e;subst e;exact⟨_,rfl,h⟩
 |_,_,i+1,v,.cons _ r,e=>by
  obtain⟨d,h1,h2⟩:=Reps.getV (i:=i) (v:=v) r (by simpa using e);exact⟨d,by simpa using h1,h2⟩
def Reps.append:∀{vs ws:Zf}{ds es:Zh},Reps K B vs ds->Reps K B ws es->Reps K B (vs++ws) (ds++es)
 |_,_,_,_,.nil,s=>s
 |_,_,_,_,.cons h r,s=>.cons h (Reps.append r s)
def Reps.take:∀{vs:Zf}{ds:Zh}(n:Nat),Reps K B vs ds->Reps K B (vs.take n) (ds.take n)
 |_,_,0,_=>.nil
 |_,_,_+1,.nil=>.nil
 |_,_,n+1,.cons h r=>.cons h (Reps.take n r)
def Reps.drop:∀{vs:Zf}{ds:Zh}(n:Nat),Reps K B vs ds->Reps K B (vs.drop n) (ds.drop n)
 |_,_,0,r=>r
 |_,_,_+1,.nil=>.nil
 |_,_,n+1,.cons _ r=>Reps.drop n r
def Reps.ints:∀(ns:Zc),Reps K B (ns.map V.int) (ns.map D.int)
 |[]=>.nil
 |n::r=>.cons (.int n) (Reps.ints r)
end
def g7(H:aj)(b:TI):Prop:=∃x y:Int,H b=some (.lst [.int x,.int y])/\0<=x/\0<=y/\y<2147483647
def cy(σ:St)(ρ:Zg)(i:Nat)(a:TI):Prop:=(σ[i]?=some (some (.ref a))/\(ρ[i]?=some .bag\/∃ds,ρ[i]?=some (.own ds)))\/∃c,ρ[i]?=some (.deep c)/\a∈c.adr::c.ins
structure Wd (R:aj) (W:TI->Prop) (B H:aj):Prop where
 fr:∀a o,R a=some o->¬W a->H a=some o
 bh:b2 B H
 wb:∀a,W a->B a=none
 wh:∀a,W a->g7 H a
 wr:∀a,W a->R a≠none
open Classical in
noncomputable def gq(R:aj)(W:TI->Prop)(B:aj):aj:=λa=>match R a with
 |some (.lst vs)=>if W a then B a else some (.lst vs)
 |_=>B a
def p'{R:aj}{W:TI->Prop}{B av:aj}(s:b2 B av):b2 (gq R W B) (gq R W av):=λa o h=>by
 unfold gq at h⊢;split at h
 ·split at h
  ·rename_i z;rw[SC z];exact s a o h
  ·rename_i z;rw[SL z];exact h
 ·exact s a o h
def k1(K:Sv)(B H:aj)(a:TI):mO->Prop
 |.l ds=>∃vs,H a=some (.lst vs)/\Reps K B vs ds
 |.d b t ks ds=>∃a3 as vs,(∀c,t=some c->c=a)/\H a=some (hx b a a3 ks as vs)/\Reps K B (as.map V.ref) (ks.map (i8 b))/\(b=false->∀k∈ks,∃l,k=[l])/\Reps K B vs ds
def k1.mono{K:Sv}{B av H H':aj}{a:TI}{c:mO}(h:k1 K B H a c)(s:b2 B av)(e:H' a=H a):k1 K av H' a c:=by
 cases c with
 |l ds=>obtain⟨vs,h1,h2⟩:=h;exact⟨vs,by rw[e];exact h1,h2.mono s⟩
 |d b t ks ds=>obtain⟨a3,as,vs,h0,h1,h2,aF,bb⟩:=h;exact⟨a3,as,vs,h0,by rw[e];exact h1,h2.mono s,aF,bb.mono s⟩
def k1.ne{K:Sv}{B H:aj}{a:TI}{c:mO}(h:k1 K B H a c):H a≠none:=by
 cases c with
 |l ds=>obtain⟨vs,h1,h2⟩:=h;rw[h1];simp
 |d b t ks ds=>obtain⟨a3,as,vs,_,h1,_⟩:=h;rw[h1];simp
structure mP (K:Sv) (B H:aj) (as:Zo) (b3:Zw):Prop where
 len:as.length=b3.length
 at_:∀(i:Nat)(a:TI)(ds:Zh),as[i]?=some a->b3[i]?=some ds->∃vs,H a=some (.lst vs)/\Reps K B vs ds
def mP.mono{K:Sv}{B av H H':aj}{as:Zo}{b3:Zw}(h:mP K B H as b3)(s:b2 B av)(e:∀a∈as,H' a=H a):mP K av H' as b3:=
 ⟨h.len,λi a ds h1 h2=>by
  obtain⟨vs,aR,bK⟩:=h.at_ i a ds h1 h2
  exact⟨vs,by rw[e a (Th h1)];exact aR,bK.mono s⟩⟩
def mP.ne{K:Sv}{B H:aj}{as:Zo}{b3:Zw}(h:mP K B H as b3){a:TI}(m:a∈as):H a≠none:=by
 obtain⟨i,ay⟩:=Um m
 have lt:i<as.length:=by
  by_cases z:i<as.length
  ·exact z
  ·rw[S9 (by lia)]at ay;cases ay
 obtain⟨vs,aR,_⟩:=h.at_ i a _ ay (S5 (by rw[<-h.len];exact lt));rw[aR];simp
def oC(K:Sv)(B H:aj):hN->Prop
 |.ll a as b3=>H a=some (.lst (as.map V.ref))/\mP K B H as b3
 |.dl b a ks as b3=>∃a3 oD,H a=some (hx b a a3 ks oD (as.map V.ref))/\Reps K B (oD.map V.ref) (ks.map (i8 b))/\(b=false->∀k∈ks,∃l,k=[l])/\mP K B H as b3
structure EY (K:Sv) (R B H:aj) (c:hN):Prop where
 fr:∀a∈c.adr::c.ins,R a=none/\B a=none
 nd:(c.adr::c.ins).Nodup
 ok:oC K B H c
def oC.mono{K:Sv}{B av H H':aj}{c:hN}(h:oC K B H c)(s:b2 B av)(e:∀a∈c.adr::c.ins,H' a=H a):oC K av H' c:=by
 cases c with
 |ll a as b3=>exact⟨by rw[e a Sx];exact h.1,h.2.mono s λx m=>e x (Sz _ m)⟩
 |dl b a ks as b3=>
  obtain⟨a3,oD,h1,h2,aF,bb⟩:=h;exact⟨a3,oD,by rw[e a Sx];exact h1,h2.mono s,aF,bb.mono s λx m=>e x (Sz _ m)⟩
def oC.ne{K:Sv}{B H:aj}{c:hN}(h:oC K B H c){a:TI}(m:a∈c.adr::c.ins):H a≠none:=by
 cases c with
 |ll b as b3=>
  rcases SK.mp m with e|m
  ·rw[show a=b from e,h.1];simp
  ·exact h.2.ne m
 |dl b p ks as b3=>
  obtain⟨a3,oD,h1,h2,aF,bb⟩:=h;rcases SK.mp m with e|m
  ·rw[show a=p from e,h1];simp
  ·exact bb.ne m
def EZ(K:Sv)(R:aj)(W:TI->Prop)(B H:aj)(o:Option V):aD->Prop
 |.no=>True
 |.val d=>∃v,o=some v/\bA K B v d
 |.own c=>∃a,o=some (.ref a)/\R a=none/\B a=none/\k1 K B H a c
 |.bag=>∃b,o=some (.ref b)/\(W b\/R b=none)/\B b=none/\g7 H b
 |.new d=>∃v,o=some v/\bA K (gq R W B) v d
 |.pin v d=>o=some v/\bA K (gq R W B) v d
 |.deep c=>o=some (.ref c.adr)/\EY K R B H c
structure aO (K:Sv) (R:aj) (W:TI->Prop) (B H:aj) (σ:St) (ρ:Zg):Prop extends Wd R W B H where
 len:σ.length=ρ.length
 ok:∀(i:Nat)(k:aD),ρ[i]?=some k->EZ K R W B H (σ[i]?).join k
 sep:∀(i j:Nat)(a:TI),cy σ ρ i a->cy σ ρ j a->i=j
structure bM (R B av:aj):Prop where
 s:b2 B av
 n:∀a o,av a=some o->B a=some o\/R a=none
def bM.refl(R B:aj):bM R B B:=⟨b2.refl _,λ_ _ h=>.inl h⟩
def bM.trans{R B av E0:aj}(g:bM R B av)(h:bM R av E0):bM R B E0:=⟨g.s.trans h.s,λa o e=>(h.n a o e).elim (g.n a o) .inr⟩
def Wd.fresh{R:aj}{W:TI->Prop}{B H:aj}(w:Wd R W B H){p:TI}(h:H p=none):R p=none/\¬W p/\B p=none:=by
 have ek:¬W p:=λz=>by
  obtain⟨x,y,e,_⟩:=w.wh p z;rw[h]at e;cases e
 refine⟨?_,ek,w.bh.free h⟩;cases q:R p with
 |none=>rfl
 |some o=>rw[w.fr p o q ek]at h;cases h
def gr{α:Type}{o:Option (Option α)}{v:α}(h:o.join=some v):o=some (some v):=by
 cases o with
 |none=>cases h
 |some x=>exact TW some h
section
variable{K:Sv}{R:aj}{W:TI->Prop}{B av H H':aj}{σ:St}{ρ:Zg}
def aO.val(e:aO K R W B H σ ρ){i:Nat}{d:D}(h:ρ[i]?=some (.val d)):∃v,σ[i]?=some (some v)/\bA K B v d:=by
 obtain⟨v,h1,h2⟩:=e.ok i _ h;exact⟨v,gr h1,h2⟩
def aO.ownAt(e:aO K R W B H σ ρ){i:Nat}{ds:Zh}(h:ρ[i]?=some (.own ds)):∃a vs,σ[i]?=some (some (.ref a))/\R a=none/\B a=none/\H a=some (.lst vs)/\Reps K B vs ds:=by
 obtain⟨a,h1,h2,aF,vs,bb,cX⟩:=e.ok i _ h;exact⟨a,vs,gr h1,h2,aF,bb,cX⟩
def aO.ownC(e:aO K R W B H σ ρ){i:Nat}{c:mO}(h:ρ[i]?=some (.own c)):∃a,σ[i]?=some (some (.ref a))/\R a=none/\B a=none/\k1 K B H a c:=by
 obtain⟨a,h1,h2⟩:=e.ok i _ h;exact⟨a,gr h1,h2⟩
def aO.bagAt(e:aO K R W B H σ ρ){i:Nat}(h:ρ[i]?=some .bag):∃b,σ[i]?=some (some (.ref b))/\(W b\/R b=none)/\B b=none/\g7 H b:=by
 obtain⟨a,h1,h2⟩:=e.ok i _ h;exact⟨a,gr h1,h2⟩
def aO.deepAt(e:aO K R W B H σ ρ){i:Nat}{c:hN}(h:ρ[i]?=some (.deep c)):σ[i]?=some (some (.ref c.adr))/\EY K R B H c:=by
 obtain⟨h1,h2⟩:=e.ok i _ h;exact⟨gr h1,h2⟩
def aO.mutOk(e:aO K R W B H σ ρ){i:Nat}{a:TI}(m:cy σ ρ i a):B a=none/\H a≠none:=by
 rcases m with⟨h1,h2|⟨ds,h2⟩⟩|⟨c,h1,h2⟩
 ·obtain⟨b,ah,_,bw,x,y,cT,_⟩:=e.bagAt h2;rw[h1]at ah;cases ah;exact⟨bw,by rw[cT];simp⟩
 ·obtain⟨b,ah,_,bw,cT⟩:=e.ownC h2;rw[h1]at ah;cases ah;exact⟨bw,cT.ne⟩
 ·have q:=(e.deepAt h1).2;exact⟨(q.fr a h2).2,q.ok.ne h2⟩
def Nf{i:Nat}{a:TI}(m:cy σ ρ i a)(n:∀c,ρ[i]?≠some (.deep c)):σ[i]?=some (some (.ref a))/\(ρ[i]?=some .bag\/∃ds,ρ[i]?=some (.own ds)):=by
 rcases m with m|⟨c,h,_⟩
 ·exact m
 ·exact absurd h (n c)
def qa{i:Nat}{a:TI}(m:cy σ ρ i a)(h:ρ[i]?=some .bag):σ[i]?=some (some (.ref a)):=(Nf m λc z=>by rw[h]at z;cases z).1
def aO.move(e:aO K R W B H σ ρ)(w:Wd R W av H')(s:b2 B av)(m:∀i a,cy σ ρ i a->av a=none/\(ρ[i]?=some .bag->g7 H' a)/\(ρ[i]?≠some .bag->H' a=H a)):aO K R W av H' σ ρ:=by
 refine⟨w,e.len,λi k h=>?_,e.sep⟩;cases k with
 |no=>trivial
 |new d=>
  obtain⟨v,h1,h2⟩:=e.ok i _ h;exact⟨v,h1,h2.mono (p' s)⟩
 |pin v d=>
  obtain⟨h1,h2⟩:=e.ok i _ h;exact⟨h1,h2.mono (p' s)⟩
 |val d=>
  obtain⟨v,h1,h2⟩:=e.ok i _ h;exact⟨v,h1,h2.mono s⟩
 |own ds=>
  obtain⟨a,h1,h2,aF,bb⟩:=e.ok i _ h;obtain⟨bf,bL,k2⟩:=m i a (.inl ⟨gr h1,.inr ⟨ds,h⟩⟩);exact⟨a,h1,h2,bf,bb.mono s (k2 (by rw[h];simp))⟩
 |deep c=>
  obtain⟨h1,h2⟩:=e.ok i _ h
  have bR:∀a∈c.adr::c.ins,av a=none/\H' a=H a:=λa jm=>by
   obtain⟨bf,bL,k2⟩:=m i a (.inr ⟨c,h,jm⟩);exact⟨bf,k2 (by rw[h];simp)⟩
  exact⟨h1,λa jm=>⟨(h2.fr a jm).1,(bR a jm).1⟩,h2.nd,h2.ok.mono s λa jm=>(bR a jm).2⟩
 |bag=>
  obtain⟨b,h1,h2,aF,bb⟩:=e.ok i _ h;obtain⟨bf,bL,k2⟩:=m i b (.inl ⟨gr h1,.inl h⟩);exact⟨b,h1,h2,bf,bL h⟩
def g7.upd{H:aj}{b p:TI}{o:eX}(h:g7 H b)(n:b≠p):g7 (L2.upd H p o) b:=by
 obtain⟨x,y,e,q⟩:=h;exact⟨x,y,by rw[c6 n];exact e,q⟩
def Wd.alloc(w:Wd R W B H){p:TI}(h:H p=none)(o:eX):Wd R W (upd B p o) (upd H p o):=by
 obtain⟨aU,a9,bE⟩:=w.fresh h;refine⟨λa u q ek=>?_,λa u q=>?_,λa z=>?_,λa z=>?_,w.wr⟩
 ·rw[c6 (by rintro rfl;rw[aU]at q;cases q)];exact w.fr a u q ek
 ·unfold L2.upd at q⊢;split
  ·rename_i z;rw[SC z]at q;exact q
  ·rename_i z;rw[SL z]at q;exact w.bh a u q
 ·rw[c6 (by rintro rfl;exact a9 z)];exact w.wb a z
 ·exact(w.wh a z).upd (by rintro rfl;exact a9 z)
def Wd.allocH(w:Wd R W B H){p:TI}(h:H p=none)(o:eX):Wd R W B (upd H p o):=by
 obtain⟨aU,a9,bE⟩:=w.fresh h;refine⟨λa u q ek=>?_,λa u q=>?_,w.wb,λa z=>?_,w.wr⟩
 ·rw[c6 (by rintro rfl;rw[aU]at q;cases q)];exact w.fr a u q ek
 ·rw[c6 (by rintro rfl;rw[bE]at q;cases q)];exact w.bh a u q
 ·exact(w.wh a z).upd (by rintro rfl;exact a9 z)
def aO.notNew(e:aO K R W B H σ ρ){p:TI}(h:H p=none){i:Nat}{a:TI}(m:cy σ ρ i a):a≠p:=by
 rintro rfl;exact(e.mutOk m).2 h
def aO.alloc(e:aO K R W B H σ ρ){p:TI}(h:H p=none)(o:eX):aO K R W (upd B p o) (upd H p o) σ ρ:=by
 obtain⟨aU,a9,bE⟩:=e.toWd.fresh h;refine e.move (e.toWd.alloc h o) (wa bE o) λi a m=>?_;have n:=e.notNew h m;refine⟨by rw[c6 n];exact(e.mutOk m).1,λz=>?_,λ_=>c6 n⟩;obtain⟨b,ah,_,_,cT⟩:=e.bagAt z;rw[qa m z]at ah;cases ah;exact cT.upd n
def aO.allocH(e:aO K R W B H σ ρ){p:TI}(h:H p=none)(o:eX):aO K R W B (upd H p o) σ ρ:=by
 refine e.move (e.toWd.allocH h o) (b2.refl _) λi a m=>?_;have n:=e.notNew h m;refine⟨(e.mutOk m).1,λz=>?_,λ_=>c6 n⟩;obtain⟨b,ah,_,_,cT⟩:=e.bagAt z;rw[qa m z]at ah;cases ah;exact cT.upd n
def aO.grow(e:aO K R W B H σ ρ){p:TI}(h:H p=none)(o:eX):bM R B (upd B p o):=by
 obtain⟨aU,a9,bE⟩:=e.toWd.fresh h;refine⟨wa bE o,λa u q=>?_⟩;by_cases z:a=p
 ·subst z;exact .inr aU
 ·rw[c6 z]at q;exact .inl q
def aO.freezeO(e:aO K R W B H σ ρ){a:TI}{o:eX}(h:H a=some o)(ak:R a=none)(ab:B a=none)(ax:∀i,¬cy σ ρ i a):aO K R W (upd B a o) H σ ρ/\bM R B (upd B a o):=by
 have ek:¬W a:=λz=>e.wr a z ak;refine⟨e.move ⟨e.fr,λb u q=>?_,λb z=>?_,e.wh,e.wr⟩ (wa ab _) (λi b m=>?_),⟨wa ab _,λb u q=>?_⟩⟩
 ·by_cases z:b=a
  ·subst z;rw[dZ]at q;cases q;exact h
  ·rw[c6 z]at q;exact e.bh b u q
 ·rw[c6 (by rintro rfl;exact ek z)];exact e.wb b z
 ·have n:b≠a:=by rintro rfl;exact ax i m
  refine⟨by rw[c6 n];exact(e.mutOk m).1,λz=>?_,λ_=>rfl⟩;obtain⟨c,ah,_,_,cT⟩:=e.bagAt z;rw[qa m z]at ah;cases ah;exact cT
 ·by_cases z:b=a
  ·subst z;exact .inr ak
  ·rw[c6 z]at q;exact .inl q
def aO.freeze(e:aO K R W B H σ ρ){a:TI}{vs:Zf}(h:H a=some (.lst vs))(ak:R a=none)(ab:B a=none)(ax:∀i,¬cy σ ρ i a):aO K R W (upd B a (.lst vs)) H σ ρ/\bM R B (upd B a (.lst vs)):=e.freezeO h ak ab ax
def h7{α:Type}{l:List α}{i j:Nat}{x y:α}(h:(l.set i x)[j]?=some y):(j=i/\y=x)\/(j≠i/\l[j]?=some y):=by
 by_cases e:i=j
 ·subst e;rw[List.getElem?_set_self']at h;cases q:l[i]? with
  |none=>rw[q]at h;cases h
  |some z=>rw[q]at h;exact .inl ⟨rfl,(SS h).symm⟩
 ·rw[Tx e]at h;exact .inr ⟨λz=>e z.symm,h⟩
def aD.adrs:aD->Zo
 |.deep c=>c.adr::c.ins
 |_=>[]
def wg{i j:Nat}{v:V}{k:aD}{a:TI}(m:cy (σ.set i (some v)) (ρ.set i k) j a):(j=i/\((v=.ref a/\(k=.bag\/∃ds,k=.own ds))\/a∈k.adrs))\/(j≠i/\cy σ ρ j a):=by
 rcases m with⟨h1,h2⟩|⟨c,h1,h2⟩
 ·rcases h7 h1 with⟨e,h1⟩|⟨e,h1⟩
  ·refine .inl ⟨e,.inl ⟨(SS h1).symm,?_⟩⟩;rcases h2 with h2|⟨ds,h2⟩
   ·rcases h7 h2 with⟨_,h2⟩|⟨n,_⟩
    ·exact .inl h2.symm
    ·exact absurd e n
   ·rcases h7 h2 with⟨_,h2⟩|⟨n,_⟩
    ·exact .inr ⟨ds,h2.symm⟩
    ·exact absurd e n
  ·refine .inr ⟨e,.inl ⟨h1,?_⟩⟩;rcases h2 with h2|⟨ds,h2⟩
   ·rcases h7 h2 with⟨n,_⟩|⟨_,h2⟩
    ·exact absurd n e
    ·exact .inl h2
   ·rcases h7 h2 with⟨n,_⟩|⟨_,h2⟩
    ·exact absurd n e
    ·exact .inr ⟨ds,h2⟩
 ·rcases h7 h1 with⟨e,h1⟩|⟨e,h1⟩
  ·exact .inl ⟨e,.inr (by rw[<-h1];exact h2)⟩
  ·exact .inr ⟨e,.inr ⟨c,h1,h2⟩⟩
def rx{i j:Nat}{v:V}{k:aD}{a:TI}(m:cy (σ.set i (some v)) (ρ.set i k) j a)(cq:k≠.bag)(dL:∀c,k≠.own c)(sZ:k.adrs=[]):j≠i/\cy σ ρ j a:=by
 rcases wg m with⟨_,⟨_,z|⟨c,z⟩⟩|z⟩|m
 ·exact absurd z cq
 ·exact absurd z (dL c)
 ·rw[sZ]at z;cases z
 ·exact m
def aO.set(e:aO K R W B H σ ρ)(i:Nat){v:V}{k:aD}(ag:EZ K R W B H (some v) k)(ax:∀a,v=.ref a->(k=.bag\/∃ds,k=.own ds)->∀j,j≠i->¬cy σ ρ j a)(hd:∀a∈k.adrs,∀j,j≠i->¬cy σ ρ j a:=by intro _ z;cases z):aO K R W B H (σ.set i (some v)) (ρ.set i k):=by
 refine⟨e.toWd,by rw[TH,TH];exact e.len,λj k' h=>?_,λx y a ao aN=>?_⟩
 ·rcases h7 h with⟨rfl,rfl⟩|⟨n,h⟩
  ·have lt:j<σ.length:=by
    rw[e.len];by_cases z:j<ρ.length
    ·exact z
    ·rw[S9 (by rw[TH];lia)]at h;cases h
   have q:((σ.set j (some v))[j]?).join=some v:=by rw[Tz lt];rfl
   rw[q];exact ag
  ·rw[Tx (λz=>n z.symm)];exact e.ok j k' h
 ·rcases wg ao with⟨ah,z1⟩|⟨cq,bf⟩
  ·rcases wg aN with⟨ap,_⟩|⟨dL,bL⟩
   ·rw[ah,ap]
   ·rcases z1 with⟨v1,bO⟩|z1
    ·exact absurd bL (ax a v1 bO y dL)
    ·exact absurd bL (hd a z1 y dL)
  ·rcases wg aN with⟨ap,aP⟩|⟨dL,bL⟩
   ·rcases aP with⟨dC,bV⟩|aP
    ·exact absurd bf (ax a dC bV x cq)
    ·exact absurd bf (hd a aP x cq)
   ·exact e.sep x y a bf bL
def aO.setV(e:aO K R W B H σ ρ)(i:Nat){v:V}{d:D}(r:bA K B v d):aO K R W B H (σ.set i (some v)) (ρ.set i (.val d)):=
 e.set i ⟨v,rfl,r⟩ λ_ _ z=>by rcases z with z|⟨_,z⟩<;>cases z
def aO.setO(e:aO K R W B H σ ρ)(i:Nat){a:TI}{vs:Zf}{ds:Zh}(ak:R a=none)(ab:B a=none)(eO:H a=some (.lst vs))(r:Reps K B vs ds)(ax:∀j,j≠i->¬cy σ ρ j a):aO K R W B H (σ.set i (some (.ref a))) (ρ.set i (.own ds)):=
 e.set i ⟨a,rfl,ak,ab,vs,eO,r⟩ λb z _=>by cases z;exact ax
def aO.setC(e:aO K R W B H σ ρ)(i:Nat){a:TI}{c:mO}(ak:R a=none)(ab:B a=none)(eO:k1 K B H a c)(ax:∀j,j≠i->¬cy σ ρ j a):aO K R W B H (σ.set i (some (.ref a))) (ρ.set i (.own c)):=
 e.set i ⟨a,rfl,ak,ab,eO⟩ λb z _=>by cases z;exact ax
def aO.writeC(e:aO K R W B H σ ρ){i:Nat}{a:TI}{c c':mO}{o:eX}(h:σ[i]?=some (some (.ref a)))(aA:ρ[i]?=some (.own c))(r:k1 K B (upd H a o) a c'):aO K R W B (upd H a o) σ (ρ.set i (.own c')):=by
 obtain⟨fk,ah,ap,bw,cT⟩:=e.ownC aA;rw[h]at ah;cases ah;have ek:¬W a:=λz=>e.wr a z ap;have g8:cy σ ρ i a:=.inl ⟨h,.inr ⟨c,aA⟩⟩;refine⟨⟨λb u q z=>?_,λb u q=>?_,e.wb,λb z=>?_,e.wr⟩,by rw[TH];exact e.len,λj k q=>?_,λx y b ao aN=>?_⟩
 ·rw[c6 (by rintro rfl;rw[ap]at q;cases q)];exact e.fr b u q z
 ·rw[c6 (by rintro rfl;rw[bw]at q;cases q)];exact e.bh b u q
 ·exact(e.wh b z).upd (by rintro rfl;exact ek z)
 ·rcases h7 q with⟨rfl,rfl⟩|⟨n,q⟩
  ·exact⟨a,by rw[h];rfl,ap,bw,r⟩
  ·have z:=e.ok j k q;cases k with
   |no=>trivial
   |new d=>exact z
   |pin v d=>exact z
   |val d=>exact z
   |own es=>
    obtain⟨b,z1,aP,ew,d7⟩:=z;exact⟨b,z1,aP,ew,d7.mono (b2.refl _) (c6 (by rintro rfl;exact n (e.sep j i b (.inl ⟨gr z1,.inr ⟨es,q⟩⟩) g8)))⟩
   |deep d=>
    exact⟨z.1,z.2.fr,z.2.nd,z.2.ok.mono (b2.refl _) λb fK=>c6 (by rintro rfl;exact n (e.sep j i b (.inr ⟨d,q,fK⟩) g8))⟩
   |bag=>
    obtain⟨b,z1,aP,ew,d7⟩:=z;exact⟨b,z1,aP,ew,d7.upd (by rintro rfl;exact n (e.sep j i b (.inl ⟨gr z1,.inl q⟩) g8))⟩
 ·have back:∀x,cy σ (ρ.set i (.own c')) x b->cy σ ρ x b:=λx m=>by
   rcases m with⟨bf,bL⟩|⟨d,bf,bL⟩
   ·by_cases z:x=i
    ·subst z;exact .inl ⟨bf,.inr ⟨c,aA⟩⟩
    ·refine .inl ⟨bf,?_⟩;rw[Tx (λw=>z w.symm)]at bL;exact bL
   ·rcases h7 bf with⟨_,z⟩|⟨_,bf⟩
    ·cases z
    ·exact .inr ⟨d,bf,bL⟩
  exact e.sep x y b (back x ao) (back y aN)
def aO.write(e:aO K R W B H σ ρ){i:Nat}{a:TI}{ds ds':Zh}{vs:Zf}(h:σ[i]?=some (some (.ref a)))(aA:ρ[i]?=some (.own ds))(r:Reps K B vs ds'):aO K R W B (upd H a (.lst vs)) σ (ρ.set i (.own ds')):=
 e.writeC h aA ⟨vs,dZ,r⟩
def aO.fz(e:aO K R W B H σ ρ){i:Nat}{ds:Zh}(aA:ρ[i]?=some (.own ds)):∃av,aO K R W av H σ (ρ.set i (.val (.lst ds)))/\bM R B av:=by
 obtain⟨a,vs,ah,ap,bw,cT,eE⟩:=e.ownAt aA;have g8:cy σ ρ i a:=.inl ⟨ah,.inr ⟨ds,aA⟩⟩;have f:=(e.setV (d:=.non) i (v:=.non) .non)
 have a9:=f.freeze cT ap bw (λj m=>by
  obtain⟨n,m⟩:=rx m (by simp) (by simp) rfl
  exact n (e.sep j i a m g8))
 refine⟨_,?_,a9.2⟩;have g:=a9.1.setV i (v:=.ref a) (d:=.lst ds) (.lst dZ (eE.mono a9.2.s));rw[TV,TV]at g
 have q:σ.set i (some (.ref a))=σ:=by
  apply Un;intro j;by_cases z:i=j
  ·subst z
   have lt:i<σ.length:=by
    by_cases z:i<σ.length
    ·exact z
    ·rw[S9 (by lia)]at ah;cases ah
   rw[Tz lt,ah]
  ·rw[Tx z]
 rw[q]at g;exact g
def aO.fzD(e:aO K R W B H σ ρ){i:Nat}{b:Bool}{t:Option TI}{ks:List Zt}{ds:Zh}(aA:ρ[i]?=some (.own (.d b t ks ds))):∃av,aO K R W av H σ (ρ.set i (.val (.dct b ks ds)))/\bM R B av:=by
 obtain⟨a,ah,ap,bw,a3,as,vs,_,cT,eE,jX,nF⟩:=e.ownC aA;have g8:cy σ ρ i a:=.inl ⟨ah,.inr ⟨_,aA⟩⟩;have f:=(e.setV (d:=.non) i (v:=.non) .non)
 have a9:=f.freezeO cT ap bw (λj m=>by
  obtain⟨n,m⟩:=rx m (by simp) (by simp) rfl
  exact n (e.sep j i a m g8))
 refine⟨_,?_,a9.2⟩;have g:=a9.1.setV i (v:=.ref a) (d:=.dct b ks ds) (.dct dZ (eE.mono a9.2.s) jX (nF.mono a9.2.s));rw[TV,TV]at g
 have q:σ.set i (some (.ref a))=σ:=by
  apply Un;intro j;by_cases z:i=j
  ·subst z
   have lt:i<σ.length:=by
    by_cases z:i<σ.length
    ·exact z
    ·rw[S9 (by lia)]at ah;cases ah
   rw[Tz lt,ah]
  ·rw[Tx z]
 rw[q]at g;exact g
end
end L3
namespace L3
open PySem L2
open PySem.Builtin.Int (intBits)
abbrev a1:=Zg->(D->Prop)->Prop
abbrev cU:=Zg->(Zh->Prop)->Prop
abbrev dU:=Zg->(Bool->Prop)->Prop
inductive Arg where
 |val (d:D)|bag (i:Nat)
abbrev Zl:=List Arg
abbrev iq:=Zg->(Zl->Prop)->Prop
structure gC where
 nx:Zg->Prop
 rt:aD->Prop
 bk:Zg->Prop:=λ_=>False
 ct:Zg->Prop:=λ_=>False
abbrev cB:=gC->Zg->Prop
abbrev eP:=D->Zg->(Zg->Prop)->Prop
abbrev jY:=Zh->Zg->(Zg->Prop)->Prop
section
variable(K:Sv)
def fm(t:bP)(u:a1):Prop:=∀(ρ:Zg)(k:D->Prop),u ρ k->∀(R:aj)(W:TI->Prop)(B H:aj)(σ:St)(Q:cJ),aO K R W B H σ ρ->
 (∀d v av H',k d->aO K R W av H' σ ρ->bM R B av->bA K av v d->Q v H')->t σ H Q
def ry(t:bP)(u:cU):Prop:=∀(ρ:Zg)(k:Zh->Prop),u ρ k->∀(R:aj)(W:TI->Prop)(B H:aj)(σ:St)(Q:cJ),aO K R W B H σ ρ->
 (∀ds a vs av H',k ds->aO K R W av H' σ ρ->bM R B av->R a=none->av a=none->H' a=some (.lst vs)->Reps K av vs ds->(∀i,¬cy σ ρ i a)->Q (.ref a) H')->t σ H Q
def iO(t:fh)(u:dU):Prop:=∀(ρ:Zg)(k:Bool->Prop),u ρ k->∀(R:aj)(W:TI->Prop)(B H:aj)(σ:St)(Q:Bool->aj->Prop),aO K R W B H σ ρ->
 (∀b av H',k b->aO K R W av H' σ ρ->bM R B av->Q b H')->t σ H Q
def wi(t:fi)(u:cU):Prop:=∀(ρ:Zg)(k:Zh->Prop),u ρ k->∀(R:aj)(W:TI->Prop)(B H:aj)(σ:St)(Q:Zf->aj->Prop),aO K R W B H σ ρ->
 (∀ds vs av H',k ds->aO K R W av H' σ ρ->bM R B av->Reps K av vs ds->Q vs H')->t σ H Q
inductive kr (B:aj) (σ:St) (ρ:Zg):Zf->Zl->Prop where
 |nil:kr B σ ρ [] []
 |val {v:V} {d:D} {vs:Zf} {as:Zl} (h:bA K B v d) (r:kr B σ ρ vs as):kr B σ ρ (v::vs) (.val d::as)
 |bag {v:V} {i:Nat} {vs:Zf} {as:Zl} (h:σ[i]?=some (some v)) (ab:ρ[i]?=some .bag) (r:kr B σ ρ vs as):kr B σ ρ (v::vs) (.bag i::as)
def E1(t:fi)(u:iq):Prop:=∀(ρ:Zg)(k:Zl->Prop),u ρ k->∀(R:aj)(W:TI->Prop)(B H:aj)(σ:St)(Q:Zf->aj->Prop),aO K R W B H σ ρ->
 (∀as vs av H',k as->aO K R W av H' σ ρ->bM R B av->kr K av σ ρ vs as->Q vs H')->t σ H Q
def eC(R B:aj):aj:=λa=>match B a with
 |some (.lst vs)=>if(R a).isNone then some (.lst vs)else none
 |o=>o
def AF(R:aj)(B H:aj)(v:V):aD->Prop
 |.no=>False
 |.val d=>bA K B v d
 |.own c=>∃a,v=.ref a/\R a=none/\B a=none/\k1 K B H a c
 |.bag=>∃b,v=.ref b/\R b=none/\B b=none/\g7 H b
 |.new d=>bA K (eC R B) v d
 |.pin _ _=>False
 |.deep _=>False
structure rz (R:aj) (W:TI->Prop) (B:aj) (U:gC) (D:mE):Prop where
 nx:∀ρ σ av H',U.nx ρ->aO K R W av H' σ ρ->bM R B av->D.nx σ H'
 bk:∀ρ σ av H',U.bk ρ->aO K R W av H' σ ρ->bM R B av->D.bk σ H'
 ct:∀ρ σ av H',U.ct ρ->aO K R W av H' σ ρ->bM R B av->D.ct σ H'
 rt:∀r v av H',U.rt r->Wd R W av H'->bM R B av->AF K R av H' v r->D.rt v H'
def E2(t:gA)(u:cB):Prop:=∀(U:gC)(ρ:Zg),u U ρ->∀(R:aj)(W:TI->Prop)(B H:aj)(σ:St)(D:mE),aO K R W B H σ ρ->rz K R W B U D->t D σ H
def rA(g:hs)(u:eP):Prop:=∀(d:D)(ρ:Zg)(k:Zg->Prop),u d ρ k->∀(R:aj)(W:TI->Prop)(B H:aj)(σ:St)(v:V)(Q:St->aj->Prop),aO K R W B H σ ρ->bA K B v d->
 (∀bq a6,k bq->aO K R W B H a6 bq->(∀j a,cy a6 bq j a->cy σ ρ j a)->Q a6 H)->g v σ H Q
def Ng(g:lQ)(u:jY):Prop:=∀(ds:Zh)(ρ:Zg)(k:Zg->Prop),u ds ρ k->∀(R:aj)(W:TI->Prop)(B H:aj)(σ:St)(vs:Zf)(Q:St->aj->Prop),aO K R W B H σ ρ->Reps K B vs ds->
 (∀bq a6,k bq->aO K R W B H a6 bq->(∀j a,cy a6 bq j a->cy σ ρ j a)->Q a6 H)->g vs σ H Q
def kt(B:aj)(J:iK)(ds:Zh):Prop:=∀(H:aj),b2 B H->∀i,(i<ds.length->J.go i H)/\(ds.length<=i->J.stop i H)/\∀x H',i<ds.length->J.yld i H x H'->H'=H/\∃d,ds[i]?=some d/\bA K B x d
def AG(t:h6)(u:cU):Prop:=∀(ρ:Zg)(k:Zh->Prop),u ρ k->∀(R:aj)(W:TI->Prop)(B H:aj)(σ:St)(Q:iK->aj->Prop),aO K R W B H σ ρ->
 (∀ds J av H',k ds->aO K R W av H' σ ρ->bM R B av->kt K av J ds->Q J H')->t σ H Q
end
def iP{R B:aj}:b2 (eC R B) B:=λa o h=>by
 unfold eC at h;split at h
 ·rename_i vs e
  split at h
  ·rw[e];exact h
  ·cases h
 ·exact h
def rB{R B av:aj}(s:b2 B av):b2 (eC R B) (eC R av):=λa o h=>by
 have ej:=s a o (iP a o h);unfold eC at h⊢;rw[ej];split at h
 ·rename_i vs e
  split at h
  ·rename_i z
   have:=SS h;subst this;dsimp only;rw[SC z]
  ·cases h
 ·rename_i ne
  cases o with
  |lst vs=>exact absurd h (ne vs)
  |_=>rfl
def AH{R E3 B:aj}(w:∀a,E3 a=none->R a=none):b2 (eC E3 B) (eC R B):=λa o h=>by
 have ej:=iP a o h;unfold eC at h⊢;rw[ej]at h⊢;cases o with
 |lst vs=>
  dsimp only at h⊢;split at h
  ·rename_i z
   rw[SC (by rw[WH]at z⊢;exact w a z)]
  ·cases h
 |_=>rfl
def wj{R B:aj}{a:TI}{vs:Zf}(h:B a=some (.lst vs))(n:R a=none):eC R B a=some (.lst vs):=by
 unfold eC;rw[h];dsimp only;rw[SC (by rw[n];rfl)]
def ti{R B:aj}{a:TI}{vs:Zf}(h:eC R B a=some (.lst vs)):B a=some (.lst vs)/\R a=none:=by
 have ej:=iP a _ h;refine⟨ej,?_⟩;unfold eC at h;rw[ej]at h;dsimp only at h;split at h
 ·rename_i z;rw[WH]at z;exact z
 ·cases h
def rz.grow{K:Sv}{R:aj}{W:TI->Prop}{B av:aj}{U:gC}{D:mE}(s:rz K R W B U D)(g:bM R B av):rz K R W av U D:=
 ⟨λρ σ C H h e q=>s.nx ρ σ C H h e (g.trans q),λρ σ C H h e q=>s.bk ρ σ C H h e (g.trans q),λρ σ C H h e q=>s.ct ρ σ C H h e (g.trans q),λr v C H h e q z=>s.rt r v C H h e (g.trans q) z⟩
section
variable(X:aK)
def bg(e:UV)(u:a1):Prop:=∃t,b4 X e t/\fm X.K t u
def k3(e:UV)(u:cU):Prop:=∃t,b4 X e t/\ry X.K t u
def ir(e:UV)(u:dU):Prop:=∃t,jj X e t/\iO X.K t u
def qb(e:UV)(u:dU):Prop:=∃t,nq X e t/\iO X.K t u
def qc(es:Zp)(u:cU):Prop:=∃t,hJ X es t/\wi X.K t u
def lW(es:Zp)(u:iq):Prop:=∃t,hJ X es t/\E1 X.K t u
def fo(s:Xm)(u:cB):Prop:=∃t,jk X s t/\E2 X.K t u
def gs(s:Zq)(u:cB):Prop:=∃t,i2 X s t/\E2 X.K t u
def jn(e:UV)(u:eP):Prop:=∃t,jO X e t/\rA X.K t u
def tj(e:Zp)(u:jY):Prop:=∃t,pU X e t/\Ng X.K t u
def lX(bz e:UV)(u:cU):Prop:=∃t,kk X bz e t/\AG X.K t u
end
def gD(i:Nat):a1:=λρ k=>∃d,ρ[i]?=some (.val d)/\k d
def oE(d:D):a1:=λ_ k=>k d
def wk(C:Int->Int->Prop)(g:Int->Int->D)(bH bW:a1):a1:=λρ k=>bH ρ λx=>bW ρ λy=>∃i j,x=.int i/\y=.int j/\C i j/\k (g i j)
def tk(g:Int->Int->D)(bH bW:a1):a1:=λρ k=>bH ρ λx=>bW ρ λy=>∃i j,x=.int i/\y=.int j/\k (g i j)
def E4(bH:a1):a1:=λρ k=>bH ρ λx=>∃i,x=.int i/\k (.int (-i))
section
variable{K:Sv}{X:aK}
def Nh(i:Nat):fm K (zY i) (gD i):=by
 intro ρ k h R W B H σ Q e q;obtain⟨d,h,z⟩:=h;obtain⟨v,ah,r⟩:=e.val h;exact⟨v,ah,q d v B H z e (bM.refl _ _) r⟩
def E5{v:V}{d:D}(h:∀B,bA K B v d):fm K (q' v) (oE d):=λρ k z R W B H σ Q e q=>q d v B H z e (bM.refl _ _) (h B)
def qd{b5 tb:bP}{bH bW:a1}{r:fB}{f:D->D->(D->Prop)->Prop}(ar:fm K b5 bH)(ab:fm K tb bW)(ak:∀(x y:D) (k:D->Prop),f x y k->∀(R:aj) (W:TI->Prop) (B H:aj) (σ:St) (ρ:Zg) (v w:V) (Q:cJ),aO K R W B H σ ρ->bA K B v x->bA K B w y->(∀d v av H',k d->aO K R W av H' σ ρ->bM R B av->bA K av v d->Q v H')->r v w H Q):
  fm K (ny r b5 tb) (λρ k=>bH ρ λx=>bW ρ λy=>f x y k):=by
 intro ρ k h R W B H σ Q e q;refine ar ρ _ h R W B H σ _ e λx v aZ aq h1 ah aE r1=>?_;refine ab ρ _ h1 R W aZ aq σ _ ah λy w br aQ h2 ap aI r2=>?_;exact ak x y k h2 R W br aQ σ ρ v w Q ap (r1.mono aI.s) r2 λd u oF cR aF bw g3 ga=>q d u oF cR aF bw ((aE.trans aI).trans g3) ga
def Ni{b5:bP}{bH:a1}{r:V->aj->cJ->Prop}{f:D->(D->Prop)->Prop}(ar:fm K b5 bH)(ak:∀(x:D) (k:D->Prop),f x k->∀(R:aj) (W:TI->Prop) (B H:aj) (σ:St) (ρ:Zg) (v:V) (Q:cJ),aO K R W B H σ ρ->bA K B v x->(∀d v av H',k d->aO K R W av H' σ ρ->bM R B av->bA K av v d->Q v H')->r v H Q):
  fm K (Ab r b5) (λρ k=>bH ρ λx=>f x k):=by
 intro ρ k h R W B H σ Q e q;refine ar ρ _ h R W B H σ _ e λx v aZ aq h1 ah aE r1=>?_;exact ak x k h1 R W aZ aq σ ρ v Q ah r1 λd u oF cR aF bw g3 ga=>q d u oF cR aF bw (aE.trans g3) ga
def bA.intV{B:aj}{v:V}{i:Int}(r:bA K B v (.int i)):v=.int i:=by cases r;rfl
def bA.blV{B:aj}{v:V}{b:Bool}(r:bA K B v (.bl b)):v=.bl b:=by cases r;rfl
def bA.nonV{B:aj}{v:V}(r:bA K B v .non):v=.non:=by cases r;rfl
def bA.tupV{B:aj}{v:V}{ds:Zh}(r:bA K B v (.tup ds)):∃a vs,v=.ref a/\B a=some (.tup vs)/\Reps K B vs ds:=by
 cases r with|tup h r=>exact⟨_,_,rfl,h,r⟩
def bA.lstV{B:aj}{v:V}{ds:Zh}(r:bA K B v (.lst ds)):∃a vs,v=.ref a/\B a=some (.lst vs)/\Reps K B vs ds:=by
 cases r with|lst h r=>exact⟨_,_,rfl,h,r⟩
def bA.scrV{B:aj}{v:V}{ns:Zc}(r:bA K B v (.scr ns)):∃a,v=.ref a/\cx K B a (ns.map V.int):=by
 cases r with|scr h=>exact⟨_,rfl,h⟩
def AI{C:Int->Int->Prop}{f:Int->Int->V}{g:Int->Int->D}{b5 tb:bP}{bH bW:a1}(aC:∀B i j,bA K B (f i j) (g i j))(ar:fm K b5 bH)(ab:fm K tb bW):fm K (ny (rh C f) b5 tb) (wk C g bH bW):=
 qd ar ab λx y k h R W B H σ ρ v w Q e bc cg q=>by
  obtain⟨i,j,rfl,rfl,hc,ag⟩:=h;exact⟨i,j,bc.intV,cg.intV,hc,q _ _ B H ag e (bM.refl _ _) (aC B i j)⟩
def wl{f:Int->Int->V}{g:Int->Int->D}{b5 tb:bP}{bH bW:a1}(aC:∀B i j,bA K B (f i j) (g i j))(ar:fm K b5 bH)(ab:fm K tb bW):fm K (ny (kX f) b5 tb) (tk g bH bW):=
 qd ar ab λx y k h R W B H σ ρ v w Q e bc cg q=>by
  obtain⟨i,j,rfl,rfl,ag⟩:=h;exact⟨i,j,bc.intV,cg.intV,q _ _ B H ag e (bM.refl _ _) (aC B i j)⟩
def Nj{b5:bP}{bH:a1}(ar:fm K b5 bH):fm K (Ab (Ac λi=>.int (-i)) b5) (E4 bH):=
 Ni (f:=λx k=>∃i,x=.int i/\k (.int (-i))) ar λx k h R W B H σ ρ v Q e bc q=>by
  obtain⟨i,rfl,ag⟩:=h;exact⟨i,bc.intV,q _ _ B H ag e (bM.refl _ _) (.int _)⟩
variable{a b:UV}{bH bW:a1}{pos:Pos}
def af(i:Nat){x:Str}{pos:Pos}(a4:X.N[i]?=some x:=by rfl)(aL:gz X.env.scope x:=by first|exact SA rfl|exact SI (SA rfl)|exact SI (SI rfl))(hd:(x==("__debug__":Str))=false:=by decide)(dI:(x==("__classdict__":Str))=false:=by decide):bg X (.Name x pos) (gD i):=⟨_,h5 a4 aL hd dI,Nh i⟩
def aY{i j pos}:bg X (.Constant (.int i) j pos) (oE (.int i)):=⟨_,eM,E5 λ_=>.int _⟩
def i9{b j pos}:bg X (.Constant (.bool b) j pos) (oE (.bl b)):=⟨_,D5,E5 λ_=>.bl _⟩
def eQ(ar:bg X a bH)(ab:bg X b bW):bg X (.BinOp a .Add b pos) (tk (λi j=>.int (i+j)) bH bW):=by
 obtain⟨_,h1,r1⟩:=ar;obtain⟨_,h2,r2⟩:=ab;exact⟨_,f4 vS h1 h2,wl (λ_ _ _=>.int _) r1 r2⟩
def gb(ar:bg X a bH)(ab:bg X b bW):bg X (.BinOp a .Sub b pos) (tk (λi j=>.int (i-j)) bH bW):=by
 obtain⟨_,h1,r1⟩:=ar;obtain⟨_,h2,r2⟩:=ab;exact⟨_,f4 LY h1 h2,wl (λ_ _ _=>.int _) r1 r2⟩
def cF(ar:bg X a bH)(ab:bg X b bW):bg X (.BinOp a .Mult b pos) (wk Ax (λi j=>.int (i*j)) bH bW):=by
 obtain⟨_,h1,r1⟩:=ar;obtain⟨_,h2,r2⟩:=ab;exact⟨_,f4 th h1 h2,AI (λ_ _ _=>.int _) r1 r2⟩
def el(ar:bg X a bH)(ab:bg X b bW):bg X (.BinOp a .FloorDiv b pos) (wk rr (λi j=>.int (i.fdiv j)) bH bW):=by
 obtain⟨_,h1,r1⟩:=ar;obtain⟨_,h2,r2⟩:=ab;exact⟨_,f4 v' h1 h2,AI (λ_ _ _=>.int _) r1 r2⟩
def wm(ar:bg X a bH)(ab:bg X b bW):bg X (.BinOp a .Mod b pos) (wk (λ_ j=>0<j) (λi j=>.int (i%j)) bH bW):=by
 obtain⟨_,h1,r1⟩:=ar;obtain⟨_,h2,r2⟩:=ab;exact⟨_,f4 nz h1 h2,AI (λ_ _ _=>.int _) r1 r2⟩
def i'(ar:bg X a bH):bg X (.UnaryOp .USub a pos) (E4 bH):=by
 obtain⟨_,h1,r1⟩:=ar;exact⟨_,LX L0 h1,Nj r1⟩
def E6(op:CmpOp)(f:Int->Int->Bool)(X:aK):Prop:=gl X (XE op) (kX λi j=>.bl (f i j))
def mQ{op:CmpOp}{f:Int->Int->Bool}(aA:E6 op f X)(ar:bg X a bH)(ab:bg X b bW)(ax:Xo op b=false):bg X (.Compare a [op] [b] pos) (tk (λi j=>.bl (f i j)) bH bW):=by
 obtain⟨_,h1,r1⟩:=ar;obtain⟨_,h2,r2⟩:=ab;exact⟨_,vU aA h1 h2 ax,wl (λ_ _ _=>.bl _) r1 r2⟩
def qe(bH:a1):dU:=λρ k=>bH ρ λx=>∃c,x=.bl c/\k c
def E7(u:dU):dU:=λρ k=>u ρ λc=>k (!c)
def E8(u w:dU):dU:=λρ k=>u ρ λc=>if c=true then w ρ k else k false
def E9(u w:dU):dU:=λρ k=>u ρ λc=>if c=true then k true else w ρ k
def tl{b5:bP}{bH:a1}(ar:fm K b5 bH):iO K (sU b5) (qe bH):=by
 intro ρ k h R W B H σ Q e q;refine ar ρ _ h R W B H σ _ e λx v aZ aq h1 ah aE r1=>?_;obtain⟨c,rfl,ag⟩:=h1;exact⟨c,r1.blV,q c aZ aq ag ah aE⟩
def hO{e:UV}{u:a1}(h:bg X e u)(aB:∀i1,YY e X.env i1=(do let v <-i1;Y6 e.pos;YO [v] (truthy v)):=by intro _;rfl):ir X e (qe u):=by
 obtain⟨_,h1,r1⟩:=h;exact⟨_,K3 h1 aB,tl r1⟩
def gc{op:CmpOp}{f:Int->Int->Bool}(aA:E6 op f X)(ar:bg X a bH)(ab:bg X b bW)(ax:Xo op b=false):ir X (.Compare a [op] [b] pos) (qe (tk (λi j=>.bl (f i j)) bH bW)):=by
 obtain⟨_,h1,r1⟩:=ar;obtain⟨_,h2,r2⟩:=ab;exact⟨_,p1 aA h1 h2 ax,tl (wl (λ_ _ _=>.bl _) r1 r2)⟩
def Nk{t:fh}{u:dU}(h:iO K t u):iO K (D9 t) (E7 u):=λρ k z R W B H σ Q e q=>h ρ _ z R W B H σ _ e λb av H' h1 ah aE=>q (!b) av H' h1 ah aE
def Nl{t t':fh}{u eA:dU}(h:iO K t u)(h':iO K t' eA):iO K (D7 t t') (E8 u eA):=by
 intro ρ k z R W B H σ Q e q;refine h ρ _ z R W B H σ _ e λb aZ aq h1 ah aE=>?_;cases b with
 |true=>
  rw[SC rfl]at h1⊢;exact h' ρ _ h1 R W aZ aq σ _ ah λc br aQ h2 ap aI=>q c br aQ h2 ap (aE.trans aI)
 |false=>
  rw[SL S3]at h1⊢;exact q false aZ aq h1 ah aE
def Nm{t t':fh}{u eA:dU}(h:iO K t u)(h':iO K t' eA):iO K (D8 t t') (E9 u eA):=by
 intro ρ k z R W B H σ Q e q;refine h ρ _ z R W B H σ _ e λb aZ aq h1 ah aE=>?_;cases b with
 |false=>
  rw[SL S3]at h1⊢;exact h' ρ _ h1 R W aZ aq σ _ ah λc br aQ h2 ap aI=>q c br aQ h2 ap (aE.trans aI)
 |true=>
  rw[SC rfl]at h1⊢;exact q true aZ aq h1 ah aE
def hP{u:dU}(h:ir X a u):ir X (.UnaryOp .Not a pos) (E7 u):=by
 obtain⟨_,h1,r1⟩:=h;exact⟨_,K8 h1,Nk r1⟩
def Nn{u:dU}(h:ir X a u):qb X (.BoolOp .And [a] pos) u:=by
 obtain⟨_,h1,r1⟩:=h;exact⟨_,K4 h1,r1⟩
def mR{u:dU}(h:ir X a u):qb X (.BoolOp .Or [a] pos) u:=by
 obtain⟨_,h1,r1⟩:=h;exact⟨_,K5 h1,r1⟩
def w_and{rest:Zp}{u eA:dU}(h:ir X a u)(h':qb X (.BoolOp .And (b::rest) pos) eA):qb X (.BoolOp .And (a::b::rest) pos) (E8 u eA):=by
 obtain⟨_,h1,r1⟩:=h;obtain⟨_,h2,r2⟩:=h';exact⟨_,K6 h1 h2,Nl r1 r2⟩
def w_or{rest:Zp}{u eA:dU}(h:ir X a u)(h':qb X (.BoolOp .Or (b::rest) pos) eA):qb X (.BoolOp .Or (a::b::rest) pos) (E9 u eA):=by
 obtain⟨_,h1,r1⟩:=h;obtain⟨_,h2,r2⟩:=h';exact⟨_,K7 h1 h2,Nm r1 r2⟩
def lY{u:dU}(h:qb X a u):ir X a u:=by
 obtain⟨_,h1,r1⟩:=h;exact⟨_,h1.pt,r1⟩
def No(u w:a1):a1:=λρ k=>u ρ λx=>∃c,x=.bl c/\if c=true then w ρ k else k (.bl false)
def Np(u:a1):a1:=λρ k=>u ρ λx=>∃c,x=.bl c/\k (.bl (!c))
def wn{op:BoolOp}(h:bg X a bH):bg X (.BoolOp op [a] pos) bH:=by
 obtain⟨_,h1,r1⟩:=h;exact⟨_,La h1,r1⟩
def tm{rest:Zp}(h:bg X a bH)(h':bg X (.BoolOp .And (b::rest) pos) bW):bg X (.BoolOp .And (a::b::rest) pos) (No bH bW):=by
 obtain⟨_,h1,r1⟩:=h;obtain⟨_,h2,r2⟩:=h';refine⟨_,Lb h1 h2,λρ k z R W B H σ Q e q=>?_⟩;refine r1 ρ _ z R W B H σ _ e λx v aZ aq z1 ah aE az=>?_;obtain⟨c,rfl,z1⟩:=z1;refine⟨c,az.blV,?_⟩;cases c with
 |true=>
  rw[SC rfl]at z1⊢;exact r2 ρ _ z1 R W aZ aq σ _ ah λd w br aQ h2 ap aI a'=>q d w br aQ h2 ap (aE.trans aI) a'
 |false=>
  rw[SL S3]at z1⊢;exact q _ _ aZ aq z1 ah aE (.bl _)
def Nq(h:bg X a bH):bg X (.UnaryOp .Not a pos) (Np bH):=by
 obtain⟨_,h1,r1⟩:=h;refine⟨_,Lc h1,λρ k z R W B H σ Q e q=>?_⟩;refine r1 ρ _ z R W B H σ _ e λx v aZ aq z1 ah aE az=>?_;obtain⟨c,rfl,z1⟩:=z1;exact⟨c,az.blV,q _ _ aZ aq z1 ah aE (.bl _)⟩
def Nr(c:dU)(u w:a1):a1:=λρ k=>c ρ λb=>if b=true then u ρ k else w ρ k
def E'{c:UV}{gE:dU}(hc:ir X c gE)(ar:bg X a bH)(ab:bg X b bW):bg X (.IfExp c a b pos) (Nr gE bH bW):=by
 obtain⟨_,h0,gQ⟩:=hc;obtain⟨_,h1,r1⟩:=ar;obtain⟨_,h2,r2⟩:=ab;refine⟨_,Le h0 h1 h2,λρ k z R W B H σ Q e q=>?_⟩;refine gQ ρ _ z R W B H σ _ e λc aZ aq z1 ah aE=>?_;cases c with
 |true=>
  rw[SC rfl]at z1⊢;exact r1 ρ _ z1 R W aZ aq σ _ ah λd w br aQ h2 ap aI a'=>q d w br aQ h2 ap (aE.trans aI) a'
 |false=>
  rw[SL S3]at z1⊢;exact r2 ρ _ z1 R W aZ aq σ _ ah λd w br aQ h2 ap aI a'=>q d w br aQ h2 ap (aE.trans aI) a'
def tn:cU:=λ_ k=>k []
def nG(u:a1)(w:cU):cU:=λρ k=>u ρ λd=>w ρ λds=>k (d::ds)
variable{e:UV}{es:Zp}{u:a1}{w:cU}
def Nt:wi K vV tn:=λρ k h R W B H σ Q e q=>q [] [] B H h e (bM.refl _ _) .nil
def Nu{cK:bP}{t:fi}(h1:fm K cK u)(h2:wi K t w):wi K (vW cK t) (nG u w):=by
 intro ρ k h R W B H σ Q e q;refine h1 ρ _ h R W B H σ _ e λd v aZ aq z1 ah aE r1=>?_;refine h2 ρ _ z1 R W aZ aq σ _ ah λds vs br aQ aP ap aI r2=>?_;exact q _ _ br aQ aP ap (aE.trans aI) (.cons (r1.mono aI.s) r2)
def bY:qc X [] tn:=⟨_,fC,Nt⟩
def a2(ar:bg X e u)(ak:qc X es w)(al:SZ (e::es) X.env=(false,Xv e X.env)::SZ es X.env:=by rfl):qc X (e::es) (nG u w):=by
 obtain⟨_,h1,r1⟩:=ar;obtain⟨_,h2,r2⟩:=ak;exact⟨_,eh h1 h2 al,Nu r1 r2⟩
def wo(w:cU):a1:=λρ k=>w ρ λds=>ds.length<=TT/\k (.tup ds)
def di{bF}(h:qc X es w):bg X (.Tuple es bF pos) (wo w):=by
 obtain⟨_,h1,r1⟩:=h;refine⟨_,vX h1,λρ k z R W B H σ Q e q=>?_⟩;refine r1 ρ _ z R W B H σ _ e λds vs aZ aq z1 ah aE az=>?_;refine⟨by rw[az.length];exact z1.1,λp ae=>?_⟩;have aI:=ah.grow ae (.tup vs);exact q _ _ _ _ z1.2 (ah.alloc ae _) (aE.trans aI) (.tup dZ (az.mono aI.s))
def Nv(w:cU):cU:=λρ k=>w ρ λds=>ds.length<=TT/\k ds
def fY(h:qc X es w):k3 X (.List es pos) (Nv w):=by
 obtain⟨_,h1,r1⟩:=h;refine⟨_,s8 h1,λρ k z R W B H σ Q e q=>?_⟩;refine r1 ρ _ z R W B H σ _ e λds vs aZ aq z1 ah aE az=>?_;refine⟨by rw[az.length];exact z1.1,λp ae=>?_⟩;obtain⟨aU,a9,bE⟩:=ah.toWd.fresh ae;exact q ds p vs aZ _ z1.2 (ah.allocH ae _) aE aU bE dZ az λi m=>ah.notNew ae m rfl
def AJ(w:cU):a1:=λρ k=>w ρ λds=>k (.lst ds)
def Nw{t:bP}(h:ry K t w):fm K t (AJ w):=by
 intro ρ k z R W B H σ Q e q;refine h ρ _ z R W B H σ _ e λds a vs aZ aq z1 ah aE ak ab eO jo ax=>?_;obtain⟨ap,aI⟩:=ah.freeze eO ak ab ax;exact q _ _ _ _ z1 ap (aE.trans aI) (.lst dZ (jo.mono aI.s))
def ee(h:k3 X e w):bg X e (AJ w):=by
 obtain⟨_,h1,r1⟩:=h;exact⟨_,h1,Nw r1⟩
def AK(bH bW:a1):a1:=λρ k=>bH ρ λx=>bW ρ λy=>∃ds i d,(x=.tup ds\/x=.lst ds)/\y=.int i/\dW ds i=some d/\k d
def tq{B:aj}{vs:Zf}{ds:Zh}{i:Int}{d:D}(r:Reps K B vs ds)(h:dW ds i=some d):∃v,dW vs i=some v/\bA K B v d:=by
 unfold dW at h⊢;rw[r.length];cases q:ixN ds.length i with
 |none=>rw[q]at h;cases h
 |some j=>
  rw[q]at h;exact r.get h
def hQ(ar:bg X a bH)(ab:bg X b bW)(al:p6 b):bg X (.Subscript a b pos) (AK bH bW):=by
 obtain⟨_,h1,r1⟩:=ar;obtain⟨_,h2,r2⟩:=ab;refine⟨_,km mL h1 h2 al,qd r1 r2 λx y k h R W B H σ ρ v mD Q e bc cg q=>?_⟩;obtain⟨ds,i,d,ao,rfl,ar,ag⟩:=h;rcases ao with rfl|rfl
 ·obtain⟨p,vs,rfl,ae,jo⟩:=bc.tupV;obtain⟨z,hz,ja⟩:=tq jo ar;exact⟨p,vs,i,z,rfl,cg.intV,.inl (e.bh _ _ ae),hz,q d z B H ag e (bM.refl _ _) ja⟩
 ·obtain⟨p,vs,rfl,ae,jo⟩:=bc.lstV;obtain⟨z,hz,ja⟩:=tq jo ar;exact⟨p,vs,i,z,rfl,cg.intV,.inr (e.bh _ _ ae),hz,q d z B H ag e (bM.refl _ _) ja⟩
end
abbrev ca:=Zg->(aD->Prop)->Prop
def lZ:Zg->Nat
 |[]=>0
 |.bag::r=>lZ r+1
 |_::r=>lZ r
inductive jZ (K:Sv) (W:TI->Prop) (B:aj):Zf->Zg->Prop where
 |nil:jZ K W B [] []
 |val {v:V} {d:D} {vs:Zf} {as:Zg} (h:bA K B v d) (r:jZ K W B vs as):jZ K W B (v::vs) (.val d::as)
 |bag {b:TI} {vs:Zf} {as:Zg} (h:W b) (r:jZ K W B vs as):jZ K W B (.ref b::vs) (.bag::as)
structure Nx (K:Sv) (W:TI->Prop) (B H:aj) (v:V) (r:aD) (av H':aj):Prop where
 wd:Wd H W av H'
 g:bM H B av
 res:AF K H av H' v r
def b7(K:Sv)(n:Nat)(F:ca):hK:=λvs H Q _=>∃(W:TI->Prop)(B:aj)(as:Zg)(k:aD->Prop),F as k/\as.length=n/\Nat.ble (lZ as) 1=true/\b2 B H/\(∀a,W a->B a=none/\g7 H a)/\jZ K W B vs as /\
 ∀r v av H',k r->Nx K W B H v r av H'->Q v H'
section
variable{K:Sv}{R:aj}{W:TI->Prop}{B av H H':aj}{σ:St}{ρ:Zg}
def jZ.length:∀{vs:Zf}{as:Zg},jZ K W B vs as->vs.length=as.length
 |_,_,.nil=>rfl
 |_,_,.val _ r=>by rw[SN,SN,r.length]
 |_,_,.bag _ r=>by rw[SN,SN,r.length]
def jZ.get:∀{vs:Zf}{as:Zg},jZ K W B vs as->∀(i:Nat)(k:aD),as[i]?=some k->(∃v d,vs[i]?=some v/\k=.val d/\bA K B v d)\/(∃b,vs[i]?=some (.ref b)/\k=.bag/\W b)
 |_,_,.nil,i,k,e=>by simp at e
 |_,_,.val h r,0,k,e=>by simp at e;subst e;exact .inl ⟨_,_,rfl,rfl,h⟩
 |_,_,.val h r,i+1,k,e=>by simpa using r.get i k (by simpa using e)
 |_,_,.bag h r,0,k,e=>by simp at e;subst e;exact .inr ⟨_,rfl,rfl,h⟩
 |_,_,.bag h r,i+1,k,e=>by simpa using r.get i k (by simpa using e)
def oG:∀{as:Zg}{i:Nat},lZ as=0->as[i]?≠some .bag
 |[],i,_=>by simp
 |.bag::r,i,h=>by simp[lZ]at h
 |.no::r,0,h=>by simp
 |.no::r,i+1,h=>by simpa using oG (as:=r) (i:=i) h
 |.val d::r,0,h=>by simp
 |.val d::r,i+1,h=>by simpa using oG (as:=r) (i:=i) h
 |.new d::r,0,h=>by simp
 |.new d::r,i+1,h=>by simpa using oG (as:=r) (i:=i) h
 |.pin v d::r,0,h=>by simp
 |.pin v d::r,i+1,h=>by simpa using oG (as:=r) (i:=i) h
 |.own d::r,0,h=>by simp
 |.own d::r,i+1,h=>by simpa using oG (as:=r) (i:=i) h
 |.deep d::r,0,h=>by simp
 |.deep d::r,i+1,h=>by simpa using oG (as:=r) (i:=i) h
def oH:∀{as:Zg}{i j:Nat},lZ as<=1->as[i]?=some .bag->as[j]?=some .bag->i=j
 |[],i,j,_,e,_=>by simp at e
 |.bag::r,0,0,_,_,_=>rfl
 |.bag::r,0,j+1,h,_,e=>absurd (by simpa using e) (oG (as:=r) (i:=j) (by simp[lZ]at h;exact h))
 |.bag::r,i+1,_,h,e,_=>absurd (by simpa using e) (oG (as:=r) (i:=i) (by simp[lZ]at h;exact h))
 |.no::r,0,_,_,e,_=>by simp at e
 |.no::r,i+1,0,_,_,e=>by simp at e
 |.no::r,i+1,j+1,h,e,aS=>by rw[oH (as:=r) (i:=i) (j:=j) h (by simpa using e) (by simpa using aS)]
 |.val d::r,0,_,_,e,_=>by simp at e
 |.val d::r,i+1,0,_,_,e=>by simp at e
 |.val d::r,i+1,j+1,h,e,aS=>by rw[oH (as:=r) (i:=i) (j:=j) h (by simpa using e) (by simpa using aS)]
 |.new d::r,0,_,_,e,_=>by simp at e
 |.new d::r,i+1,0,_,_,e=>by simp at e
 |.new d::r,i+1,j+1,h,e,aS=>by rw[oH (as:=r) (i:=i) (j:=j) h (by simpa using e) (by simpa using aS)]
 |.pin v d::r,0,_,_,e,_=>by simp at e
 |.pin v d::r,i+1,0,_,_,e=>by simp at e
 |.pin v d::r,i+1,j+1,h,e,aS=>by rw[oH (as:=r) (i:=i) (j:=j) h (by simpa using e) (by simpa using aS)]
 |.own d::r,0,_,_,e,_=>by simp at e
 |.own d::r,i+1,0,_,_,e=>by simp at e
 |.own d::r,i+1,j+1,h,e,aS=>by rw[oH (as:=r) (i:=i) (j:=j) h (by simpa using e) (by simpa using aS)]
 |.deep d::r,0,_,_,e,_=>by simp at e
 |.deep d::r,i+1,0,_,_,e=>by simp at e
 |.deep d::r,i+1,j+1,h,e,aS=>by rw[oH (as:=r) (i:=i) (j:=j) h (by simpa using e) (by simpa using aS)]
def aO.after{nH:TI->Prop}(e:aO K R W B H σ ρ)(h8:∀a,nH a->∃i:Nat,σ[i]?=some (some (.ref a))/\ρ[i]?=some .bag)(wd:Wd H nH av H')(g:bM H B av):aO K R W av H' σ ρ/\bM R B av:=by
 have k4:∀a,B a=none->H a≠none->av a=none:=λa h1 h2=>by
  cases q:av a with
  |none=>rfl
  |some o=>
   rcases g.n a o q with z|z
   ·rw[h1]at z;cases z
   ·exact absurd z h2
 have st:∀a,¬nH a->H a≠none->H' a=H a:=λa h1 h2=>by
  cases q:H a with
  |none=>exact absurd q h2
  |some o=>exact wd.fr a o q h1
 have Fa:∀a,g7 H a->g7 H' a:=λa h=>by
  by_cases z:nH a
  ·exact wd.wh a z
  ·obtain⟨x,y,ah,q⟩:=h;exact⟨x,y,by rw[st a z (by rw[ah];simp)];exact ah,q⟩
 have Ny:∀a,g7 H a->H a≠none:=λa ⟨x,y,ah,_⟩=>by rw[ah];simp
 refine⟨e.move ⟨λa o h ek=>?_,wd.bh,λa h=>k4 a (e.wb a h) (Ny a (e.wh a h)),λa h=>Fa a (e.wh a h),e.wr⟩ g.s (λi a m=>⟨k4 a (e.mutOk m).1 (e.mutOk m).2,λz=>?_,λz=>?_⟩),⟨g.s,λa o h=>?_⟩⟩
 ·have h1:=e.fr a o h ek;refine wd.fr a o h1 λz=>?_;obtain⟨i,z1,aP⟩:=h8 a z;obtain⟨b,bI,dD,_⟩:=e.bagAt aP;rw[z1]at bI;cases bI;rcases dD with dD|dD
  ·exact ek dD
  ·rw[dD]at h;cases h
 ·obtain⟨b,bI,_,_,nI⟩:=e.bagAt z;rw[qa m z]at bI;cases bI;exact Fa _ nI
 ·refine st a (λq=>?_) (e.mutOk m).2;obtain⟨j,z1,aP⟩:=h8 a q;have:=e.sep i j a m (.inl ⟨z1,.inl aP⟩);subst this;exact z aP
 ·rcases g.n a o h with z|z
  ·exact .inl z
  ·exact .inr (e.toWd.fresh z).1
def aO.start{N:Zm}{vs:Zf}{as:Zg}(ab:lZ as<=1)(cQ:b2 B H)(hw:∀a,W a->B a=none/\g7 H a)(ey:jZ K W B vs as):aO K H W B H (L2.start N vs) (as++SV (N.length-as.length) .no):=by
 have am:=ey.length;have wd:Wd H W B H:=⟨λ_ _ h _=>h,cQ,λa h=>(hw a h).1,λa h=>(hw a h).2,λa h=>by obtain⟨x,y,q,_⟩:=(hw a h).2;rw[q];simp⟩
 have lo:∀i k,as[i]?=some k->(L2.start N vs)[i]?=(vs[i]?).map some:=λi k h=>by
  have lt:i<as.length:=by
   by_cases z:i<as.length
   ·exact z
   ·rw[S9 (by lia)]at h;cases h
  unfold L2.start;rw[Tt (by rw[Sw];lia),SX]
 have cs:∀(i:Nat)(k:aD),(as++SV (N.length-as.length) aD.no)[i]?=some k->as[i]?=some k\/k=aD.no:=λi k h=>by
  by_cases z:i<as.length
  ·rw[Tt z]at h;exact .inl h
  ·rw[Tg (by lia)]at h;rw[Uj]at h;split at h
   ·exact .inr (SS h).symm
   ·cases h
 have iu:∀i:Nat,(as++SV (N.length-as.length) aD.no)[i]?=some aD.bag->as[i]?=some aD.bag:=λi h=>by
  rcases cs i _ h with h|h
  ·exact h
  ·cases h
 refine⟨wd,by unfold L2.start;simp[am],λi k h=>?_,λi j a bf bL=>?_⟩
 ·rcases cs i k h with h|rfl
  ·rw[lo i k h];rcases ey.get i k h with⟨v,d,h1,rfl,r⟩|⟨b,h1,rfl,r⟩
   ·rw[h1];exact⟨v,rfl,r⟩
   ·rw[h1];exact⟨b,rfl,.inl r,(hw b r).1,(hw b r).2⟩
  ·trivial
 ·have one:∀i,cy (L2.start N vs) (as++SV (N.length-as.length) aD.no) i a->as[i]?=some .bag:=λi m=>by
   rcases m with⟨_,z|⟨ds,z⟩⟩|⟨c,z,_⟩
   ·exact iu i z
   ·rcases cs i _ z with z|z
    ·rcases ey.get i _ z with⟨v,d,_,q,_⟩|⟨b,_,q,_⟩<;>cases q
    ·cases z
   ·rcases cs i _ z with z|z
    ·rcases ey.get i _ z with⟨v,d,_,q,_⟩|⟨b,_,q,_⟩<;>cases q
    ·cases z
  exact oH ab (one i bf) (one j bL)
def dr{P:Uf}{w:Xk}{mg:Str->Option Tl}{base:Xx}{x:Str}{st:Xm}{N ps:Zm}{lv n:Nat}{F:ca}(qf:cN K mg x st ps)(S:cE N ps (bX st))(aM:ps.length=n)(kl:∀(f:TI) (cdv:Tl) (A:Xq) (outer:List UL) (s:TE) (H:aj) (E:gi),e' lv (A.deeper (Vh x (bX st) s.heap.objs.size f cdv))->∃u,gs (lU ko P w K mg base N x (bX st) f cdv A outer s H E).nox (kn st) u/\∀as k,as.length=n->F as k->u {nx:=λ_=>k (.val .non),rt:=k} (as++SV (N.length-n) .no)):bZ P w K mg base x ps (lv+1) (b7 K n F):=by
 refine qf.ok S (λvs H Q E h=>?_) (λf cdv A outer s H vs Q E ak h=>?_)
 ·obtain⟨W,B,as,k,_,am,_,_,_,ey,_⟩:=h;rw[ey.length,am,aM]
 ·obtain⟨W,B,as,k,jb,am,ab,cQ,hw,ey,q⟩:=h;obtain⟨u,⟨t,bv,rt⟩,bn⟩:=kl f cdv A outer s H E ak;have eZ:=aO.start (N:=N) (VV ab) cQ hw ey;rw[am]at eZ;refine⟨t,bv,rt _ _ (bn as k am jb) H W B H (L2.start N vs) _ eZ ⟨λρ σ av H' h e g=>?_,λ_ _ _ _ h=>h.elim,λ_ _ _ _ h=>h.elim,λr v av H' h e g z=>q r v av H' h ⟨e,g,z⟩⟩⟩;exact q _ _ av H' h ⟨e.toWd,g,.non⟩
end
def Arg.sl:Arg->aD
 |.val d=>.val d
 |.bag _=>.bag
def cb:aD->(D->Prop)->Prop
 |.val d,k=>k d
 |.own (.l ds),k=>k (.lst ds)
 |.new d,k=>k d
 |_,_=>False
def wq:iq:=λ_ k=>k []
def k5(u:a1)(w:iq):iq:=λρ k=>u ρ λd=>w ρ λas=>k (.val d::as)
def Nz(i:Nat)(w:iq):iq:=λρ k=>ρ[i]?=some .bag/\w ρ λas=>k (.bag i::as)
def sh(as:Zl)(n:Nat):Bool:=Nat.beq as.length n&&Nat.ble (lZ (as.map Arg.sl)) 1
def oI(n:Nat)(F:ca)(w:iq):a1:=λρ k=>w ρ λas=>sh as n=true/\F (as.map Arg.sl) λr=>cb r k
def NA(n:Nat)(F:ca)(w:iq):cU:=λρ k=>w ρ λas=>sh as n=true/\F (as.map Arg.sl) λr=>∃ds:Zh,r=.own ds/\k ds
section
variable{K:Sv}{X:aK}{e:UV}{es:Zp}{u:a1}{w:iq}{pos p:Pos}{n:Nat}{F:ca}
def aX:lW X [] wq:=⟨_,fC,λρ k h R W B H σ Q e q=>q [] [] B H h e (bM.refl _ _) .nil⟩
def aw(ar:bg X e u)(ak:lW X es w)(al:SZ (e::es) X.env=(false,Xv e X.env)::SZ es X.env:=by rfl):lW X (e::es) (k5 u w):=by
 obtain⟨_,h1,r1⟩:=ar;obtain⟨_,h2,r2⟩:=ak;refine⟨_,eh h1 h2 al,λρ k h R W B H σ Q e q=>?_⟩;refine r1 ρ _ h R W B H σ _ e λd v aZ aq z1 ah aE az=>?_;refine r2 ρ _ z1 R W aZ aq σ _ ah λas vs br aQ aP ap aI a'=>?_;exact q _ _ br aQ aP ap (aE.trans aI) (.val (az.mono aI.s) a')
def gR(i:Nat){x:Str}{px:Pos}(ak:lW X es w)(a4:X.N[i]?=some x:=by rfl)(aL:gz X.env.scope x:=by first|exact SA rfl|exact SI (SA rfl)|exact SI (SI rfl))(hd:(x==("__debug__":Str))=false:=by decide)(dI:(x==("__classdict__":Str))=false:=by decide)(al:SZ (.Name x px::es) X.env=(false,Xv (.Name x px) X.env)::SZ es X.env:=by rfl):lW X (.Name x px::es) (Nz i w):=by
 obtain⟨_,h2,r2⟩:=ak;refine⟨_,eh (h5 a4 aL hd dI) h2 al,λρ k h R W B H σ Q e q=>?_⟩;obtain⟨ab,h⟩:=h;obtain⟨b,a7,bd⟩:=e.bagAt ab;refine⟨_,a7,?_⟩;refine r2 ρ _ h R W B H σ _ e λas vs br aQ aP ap aI a'=>?_;exact q _ _ br aQ aP ap aI (.bag a7 ab a')
def kr.toIn{B:aj}{σ:St}{ρ:Zg}{W:TI->Prop}{R H:aj}{oJ:TI->Prop}(e:aO K R oJ B H σ ρ):∀{vs:Zf}{as:Zl},kr K B σ ρ vs as->(∀i b,Arg.bag i∈as->σ[i]?=some (some (.ref b))->W b)->jZ K W B vs (as.map Arg.sl)
 |_,_,.nil,_=>.nil
 |_,_,.val h r,hw=>.val h (kr.toIn e r λi b m=>hw i b (Sz _ m))
 |_,_,.bag h ab r,hw=>by
  obtain⟨b,a7,_⟩:=e.bagAt ab;rw[h]at a7;cases a7;exact .bag (hw _ b Sx h) (kr.toIn e r λi c m=>hw i c (Sz _ m))
def kr.bagIn{B:aj}{σ:St}{ρ:Zg}:∀{vs:Zf}{as:Zl}{i:Nat},kr K B σ ρ vs as->Arg.bag i∈as->ρ[i]?=some .bag
 |_,_,_,.nil,m=>by simp at m
 |_,_,_,.val h r,m=>by
  rcases SK.mp m with m|m
  ·cases m
  ·exact r.bagIn m
 |_,_,_,.bag h ab r,m=>by
  rcases SK.mp m with m|m
  ·cases m;exact ab
  ·exact r.bagIn m
def rC{R:aj}{W:TI->Prop}{B H:aj}{σ:St}{ρ:Zg}{vs:Zf}{as:Zl}{k:aD->Prop}{Q:cJ}{E:gi}(e:aO K R W B H σ ρ)(ok:kr K B σ ρ vs as)(al:sh as n=true)(jb:F (as.map Arg.sl) k)(q:∀r v av H',k r->aO K R W av H' σ ρ->bM R B av->AF K H av H' v r->Q v H'):b7 K n F vs H Q E:=by
 rw[sh,Uk]at al;have h1:as.length=n:=Nat.eq_of_beq_eq_true al.1;have h8:∀a,(∃i:Nat,Arg.bag i∈as/\σ[i]?=some (some (.ref a)))->∃i:Nat,σ[i]?=some (some (.ref a))/\ρ[i]?=some .bag:=λa ⟨i,m,z⟩=>⟨i,z,ok.bagIn m⟩;refine⟨λa=>∃i:Nat,Arg.bag i∈as/\σ[i]?=some (some (.ref a)),B,as.map Arg.sl,k,jb,by rw[Sw];exact h1,al.2,e.bh,λa h=>?_,ok.toIn e λi b m z=>⟨i,m,z⟩,λr v av H' ag ex=>?_⟩
 ·obtain⟨i,z1,aP⟩:=h8 a h;obtain⟨b,a7,_,eR,gS⟩:=e.bagAt aP;rw[z1]at a7;cases a7;exact⟨eR,gS⟩
 ·obtain⟨ap,aI⟩:=e.after h8 ex.wd ex.g;exact q r v av H' ag ap aI ex.res
def wt{x:Str}{ps:Zm}{j lv:Nat}(c:bZ X.prog X.w X.K X.mg X.base x ps j (b7 X.K n F))(ak:e' lv X.A)(aC:eY X x)(ar:lW X (e::es) w)(hjk:j<=lv:=by decide)(ht:(x==("__debug__":Str))=false:=by decide)(aB:SZ (e::es) X.env=(false,Xv e X.env)::SZ es X.env:=by rfl)(fa:(Xn pos (SZ es X.env)).any (·.1)=false:=by rfl):
  bg X (.Call (.Name x p) (e::es) [] pos) (oI n F w):=by
 obtain⟨_,h1,r1⟩:=ar;refine⟨_,rv c ak aC h1 hjk ht aB fa,λρ k h R W B H σ Q e q=>?_⟩;refine r1 ρ _ h R W B H σ _ e λas vs aZ aq z1 ah aE az=>?_;rw[SP];refine rC ah az z1.1 z1.2 λr v br aQ ag ap aI res=>?_;cases r with
 |no=>exact ag.elim
 |bag=>exact ag.elim
 |pin v d=>exact ag.elim
 |deep c=>exact ag.elim
 |val d=>exact q d v br aQ ag ap (aE.trans aI) res
 |new d=>exact q d v br aQ ag ap (aE.trans aI) (bA.mono iP res)
 |own c=>
  cases c with
  |d _ _ _ _=>exact ag.elim
  |l ds=>
  obtain⟨a,rfl,aU,a9,us,bE,db⟩:=res
  obtain⟨bw,g3⟩:=ap.freeze bE (ah.toWd.fresh aU).1 a9 λi m=>absurd aU (by
   have bf:cy σ ρ i a:=m
   exact(ah.mutOk bf).2)
  exact q _ _ _ _ ag bw ((aE.trans aI).trans g3) (.lst dZ (db.mono g3.s))
def NB{x:Str}{ps:Zm}{j lv:Nat}(c:bZ X.prog X.w X.K X.mg X.base x ps j (b7 X.K n F))(ak:e' lv X.A)(aC:eY X x)(ar:lW X (e::es) w)(hjk:j<=lv:=by decide)(ht:(x==("__debug__":Str))=false:=by decide)(aB:SZ (e::es) X.env=(false,Xv e X.env)::SZ es X.env:=by rfl)(fa:(Xn pos (SZ es X.env)).any (·.1)=false:=by rfl):
  k3 X (.Call (.Name x p) (e::es) [] pos) (NA n F w):=by
 obtain⟨_,h1,r1⟩:=ar;refine⟨_,rv c ak aC h1 hjk ht aB fa,λρ k h R W B H σ Q e q=>?_⟩;refine r1 ρ _ h R W B H σ _ e λas vs aZ aq z1 ah aE az=>?_;rw[SP];refine rC ah az z1.1 z1.2 λr v br aQ ag ap aI res=>?_;obtain⟨ds,rfl,ag⟩:=ag;obtain⟨a,rfl,aU,a9,us,bE,db⟩:=res;exact q ds a us br aQ ag ap (aE.trans aI) (ah.toWd.fresh aU).1 a9 bE db λi m=>(ah.mutOk m).2 aU
end
def tr:D->Option Nat
 |.tup ds=>some ds.length
 |.lst ds=>some ds.length
 |.scr ns=>some ns.length
 |_=>none
def NC(u:a1):a1:=λρ k=>u ρ λx=>∃n,tr x=some n/\k (.int n)
def ND(i:Nat):a1:=λρ k=>∃ds:Zh,ρ[i]?=some (.own ds)/\k (.int ds.length)
def NE(u:a1):a1:=λρ k=>u ρ λx=>∃i,x=.int i/\k (.int (if i<0 then -i else i))
def NF(u:a1):a1:=λρ k=>u ρ λx=>(∃i,x=.int i/\k (.int i))\/∃c,x=.bl c/\k (.int (if c then 1 else 0))
def Fb:D->Option String
 |.int _=>some "int"
 |.bl _=>some "bool"
 |.tup _=>some "tuple"
 |.lst _=>some "list"
 |.non=>some "NoneType"
 |.str _=>some "str"
 |_=>none
def NG(u:a1)(n:String):a1:=λρ k=>u ρ λx=>∃t b,Fb x=some t/\(∀K,VL K (.type t) (.type n)=some b)/\k (.bl b)
section
variable{K:Sv}{X:aK}{e:UV}{es:Zp}{u:a1}{pos p:Pos}{n:Nat}
def wu{cK:bP}{r:Zf->aj->cJ->Prop}{f:D->(D->Prop)->Prop}(ar:fm K cK u)(ak:∀(x:D) (k:D->Prop),f x k->∀(R:aj) (W:TI->Prop) (B H:aj) (σ:St) (ρ:Zg) (v:V) (Q:cJ),aO K R W B H σ ρ->bA K B v x->(∀d v av H',k d->aO K R W av H' σ ρ->bM R B av->bA K av v d->Q v H')->r [v] H Q):
  fm K (Ak r (vW cK vV)) (λρ k=>u ρ λx=>f x k):=by
 intro ρ k h R W B H σ Q e q;refine ar ρ _ h R W B H σ _ e λx v aZ aq h1 ah aE r1=>?_;exact ak x k h1 R W aZ aq σ ρ v Q ah r1 λd u oF cR aF bw g3 ga=>q d u oF cR aF bw (aE.trans g3) ga
def ku(ar:bg X e u)(aC:eY X "len")(ax:X.mg "len"=none)(al:SZ [e] X.env=(false,Xv e X.env)::SZ [] X.env:=by rfl):bg X (.Call (.Name "len" p) [e] [] pos) (NC u):=by
 obtain⟨_,h1,r1⟩:=ar;refine⟨_,p3 Ao aC ax PySem.boot_len (eh h1 fC al) (by decide) (by decide) al,wu (f:=λx k=>∃n,tr x=some n/\k (.int n)) r1 λx k h R W B H σ ρ v Q e bc q=>?_⟩;obtain⟨n,aM,ag⟩:=h;cases x<;>first|(cases aM;done)|skip
 ·obtain⟨a,vs,rfl,ar,r⟩:=bc.tupV;cases aM;rw[<-r.length]at ag;exact⟨a,vs,rfl,.inr (ev.of (e.bh _ _ ar)),q _ _ B H ag e (bM.refl _ _) (.int _)⟩
 ·obtain⟨a,vs,rfl,ar,r⟩:=bc.lstV;cases aM;rw[<-r.length]at ag;exact⟨a,vs,rfl,.inl (cx.of (e.bh _ _ ar)),q _ _ B H ag e (bM.refl _ _) (.int _)⟩
 ·obtain⟨a,rfl,ar⟩:=bc.scrV;cases aM;refine⟨a,_,rfl,.inl (e.bh.seq ar),?_⟩;rw[Sw];exact q _ _ B H ag e (bM.refl _ _) (.int _)
def NH(i:Nat){x:Str}{px:Pos}(aC:eY X "len")(ax:X.mg "len"=none)(a4:X.N[i]?=some x:=by rfl)(aL:gz X.env.scope x:=by first|exact SA rfl|exact SI (SA rfl)|exact SI (SI rfl))(hd:(x==("__debug__":Str))=false:=by decide)(dI:(x==("__classdict__":Str))=false:=by decide)(al:SZ [.Name x px] X.env=(false,Xv (.Name x px) X.env)::SZ [] X.env:=by rfl):bg X (.Call (.Name "len" p) [.Name x px] [] pos) (ND i):=by
 refine⟨_,p3 Ao aC ax PySem.boot_len (eh (h5 a4 aL hd dI) fC al) (by decide) (by decide) al,λρ k h R W B H σ Q e q=>?_⟩;obtain⟨ds,aA,ag⟩:=h;obtain⟨a,vs,ah,ap,bw,cT,eE⟩:=e.ownAt aA;rw[<-eE.length]at ag;exact⟨_,ah,a,vs,rfl,.inl (cx.of cT),q _ _ B H ag e (bM.refl _ _) (.int _)⟩
def wv(ar:bg X e u)(aC:eY X "abs")(ax:X.mg "abs"=none)(al:SZ [e] X.env=(false,Xv e X.env)::SZ [] X.env:=by rfl):bg X (.Call (.Name "abs" p) [e] [] pos) (NE u):=by
 obtain⟨_,h1,r1⟩:=ar;refine⟨_,p3 L8 aC ax (by decide +kernel) (eh h1 fC al) (by decide) (by decide) al,wu (f:=λx k=>∃i,x=.int i/\k (.int (if i<0 then -i else i))) r1 λx k h R W B H σ ρ v Q e bc q=>?_⟩;obtain⟨i,rfl,ag⟩:=h;exact⟨i,by rw[bc.intV],q _ _ B H ag e (bM.refl _ _) (.int _)⟩
def Fc(ar:bg X e u)(aC:eY X "int")(ax:X.mg "int"=none)(al:SZ [e] X.env=(false,Xv e X.env)::SZ [] X.env:=by rfl):bg X (.Call (.Name "int" p) [e] [] pos) (NF u):=by
 obtain⟨_,h1,r1⟩:=ar;refine⟨_,Ex L9 aC ax (by decide +kernel) (eh h1 fC al) (by decide) (by decide) al,wu (f:=λx k=>(∃i,x=.int i/\k (.int i))\/∃c,x=.bl c/\k (.int (if c then 1 else 0))) r1 λx k h R W B H σ ρ v Q e bc q=>?_⟩;rcases h with⟨i,rfl,ag⟩|⟨c,rfl,ag⟩
 ·exact .inl ⟨i,by rw[bc.intV],q _ _ B H ag e (bM.refl _ _) (.int _)⟩
 ·exact .inr ⟨c,by rw[bc.blV],q _ _ B H ag e (bM.refl _ _) (.int _)⟩
def NI{B H:aj}{v:V}{x:D}{t:String}(s:b2 B H)(r:bA K B v x)(h:Fb x=some t):jS K H v (.type t):=by
 cases r<;>cases h
 ·exact .non
 ·exact .bl _
 ·exact .int _
 ·exact .str _
 ·exact .tup (s _ _ (by assumption))
 ·exact .lst (s _ _ (by assumption))
def mS{T:String}{y:Str}{mT:Pos}(ar:bg X e u)(aC:eY X "isinstance")(ax:X.mg "isinstance"=none)(d0:b4 X (.Name y mT) (q' (.ty T)))(al:SZ [e,.Name y mT] X.env=(false,Xv e X.env)::SZ [.Name y mT] X.env)(jQ:SZ [.Name y mT] X.env=(false,Xv (.Name y mT) X.env)::SZ [] X.env)(fa:(Xn pos (SZ [.Name y mT] X.env)).any (·.1)=false):bg X (.Call (.Name "isinstance" p) [e,.Name y mT] [] pos) (NG u T):=by
 obtain⟨_,h1,r1⟩:=ar;refine⟨_,p3 M' aC ax (by decide +kernel) (eh h1 (eh d0 fC jQ) al) (by decide) (by decide) al fa,λρ k h R W B H σ Q e q=>?_⟩;refine r1 ρ _ h R W B H σ _ e λx v aZ aq h1 ah aE az=>?_;obtain⟨t,b,bv,ag,z⟩:=h1;exact⟨v,_,T,b,rfl,NI ah.bh az bv,ag _,q _ _ aZ aq z ah aE (.bl _)⟩
end
section
variable{K:Sv}{X:aK}{e:UV}{es:Zp}{u:a1}{w:cU}{pos p:Pos}
def AL:cB:=λU ρ=>U.nx ρ
def tu(s t:cB):cB:=λU ρ=>s {U with nx:=t U} ρ
def Fd(u:a1):cB:=λU ρ=>u ρ λd=>U.rt (.val d)
def NJ(w:cU):cB:=λU ρ=>w ρ λds=>U.rt (.own ds)
def Fe(i:Nat)(u:a1):cB:=λU ρ=>u ρ λd=>U.nx (ρ.set i (.val d))
def AM(i:Nat)(w:cU):cB:=λU ρ=>w ρ λds=>U.nx (ρ.set i (.own ds))
def AN(c:dU)(s t:cB):cB:=λU ρ=>c ρ λb=>if b=true then s U ρ else t U ρ
def NK(i:Nat)(s:cB):cB:=λU ρ=>∃ds:Zh,ρ[i]?=some (.own ds)/\s U (ρ.set i (.val (.lst ds)))
def fp:gs X [] AL:=⟨_,sV,λU ρ h R W B H σ D e s=>s.nx ρ σ B H h e (bM.refl _ _)⟩
def bB{st:Xm}{s:cB}(h:fo X st s):gs X [st] s:=by
 obtain⟨_,h1,r1⟩:=h;exact⟨_,oo h1,r1⟩
def a5{st:Xm}{rest:Zq}{s t:cB}(h:fo X st s)(h':gs X rest t):gs X (st::rest) (tu s t):=by
 obtain⟨_,h1,r1⟩:=h;obtain⟨_,h2,r2⟩:=h';refine⟨_,kS h1 h2,λU ρ h R W B H σ D e du=>?_⟩;exact r1 _ ρ h R W B H σ _ e ⟨λbq a6 av H' z aS g=>r2 U bq z R W av H' a6 D aS (du.grow g),du.bk,du.ct,du.rt⟩
def k6{st:Zq}{s:cB}(i:Nat)(h:gs X st s):gs X st (NK i s):=by
 obtain⟨_,h1,r1⟩:=h;refine⟨_,h1,λU ρ h R W B H σ D e du=>?_⟩;obtain⟨ds,aA,z⟩:=h;obtain⟨av,aS,g⟩:=e.fz aA;exact r1 U _ z R W av H σ D aS (du.grow g)
def AO{st:Xm}:fo X st (λ_ _=>False):=⟨_,Ll,λU ρ h=>h.elim⟩
def NL{st:Zq}:gs X st (λ_ _=>False):=⟨D',λ_ _ _ _ _ _ h=>h.elim,λU ρ h=>h.elim⟩
def cz(h:bg X e u):fo X (.Return (some e) pos) (Fd u):=by
 obtain⟨_,h1,r1⟩:=h;refine⟨_,nr h1,λU ρ h R W B H σ D e s=>?_⟩;exact r1 ρ _ h R W B H σ _ e λd v aZ aq z1 ah aE az=>s.rt _ v aZ aq z1 ah.toWd aE az
def AP(h:k3 X e w):fo X (.Return (some e) pos) (NJ w):=by
 obtain⟨_,h1,r1⟩:=h;refine⟨_,nr h1,λU ρ h R W B H σ D e s=>?_⟩;exact r1 ρ _ h R W B H σ _ e λds a vs aZ aq z1 ah aE aU a9 bE db d4=>s.rt (.own ds) _ aZ aq z1 ah.toWd aE ⟨a,rfl,aU,a9,vs,bE,db⟩
def Ff{i:Nat}{x:Str}{eb:Pos}(a4:X.N.Nodup)(ay:X.N[i]?=some x)(ao:Loc X.env.scope x)(aB:bg X e u)(al:Xi e (some (.Name x eb)) pos.line X.env=pure false:=by rfl)(bu:X.fn x=true\/X.env.scope.names.lookup x=some .local:=by first|exact .inl rfl|exact .inr rfl|assumption):
  fo X (.Assign [.Name x eb] e pos) (Fe i u):=by
 obtain⟨_,h1,r1⟩:=aB;refine⟨_,oq a4 ay ao h1 al bu,λU ρ h R W B H σ D e s=>?_⟩;exact r1 ρ _ h R W B H σ _ e λd v aZ aq z1 ah aE az=>s.nx _ _ aZ aq z1 (ah.setV i az) aE
def k7{i:Nat}{x:Str}{eb:Pos}(a4:X.N.Nodup)(ay:X.N[i]?=some x)(ao:Loc X.env.scope x)(aB:k3 X e w)(al:Xi e (some (.Name x eb)) pos.line X.env=pure false:=by rfl)(bu:X.fn x=true\/X.env.scope.names.lookup x=some .local:=by first|exact .inl rfl|exact .inr rfl|assumption):
  fo X (.Assign [.Name x eb] e pos) (AM i w):=by
 obtain⟨_,h1,r1⟩:=aB;refine⟨_,oq a4 ay ao h1 al bu,λU ρ h R W B H σ D e s=>?_⟩;exact r1 ρ _ h R W B H σ _ e λds a vs aZ aq z1 ah aE aU a9 bE db d4=>s.nx _ _ aZ aq z1 (ah.setO i aU a9 bE db λj _=>d4 j) aE
def fq{c:UV}{a b:Zq}{gE:dU}{s t:cB}(hc:ir X c gE)(ar:gs X a s)(ab:gs X b t):fo X (.If c a b pos) (AN gE s t):=by
 obtain⟨_,h0,gQ⟩:=hc;obtain⟨_,h1,r1⟩:=ar;obtain⟨_,h2,r2⟩:=ab;refine⟨_,sW h0 h1 h2,λU ρ h R W B H σ D e du=>?_⟩;refine gQ ρ _ h R W B H σ _ e λc aZ aq z1 ah aE=>?_;cases c with
 |true=>
  rw[SC rfl]at z1⊢;exact r1 U ρ z1 R W aZ aq σ D ah (du.grow aE)
 |false=>
  rw[SL S3]at z1⊢;exact r2 U ρ z1 R W aZ aq σ D ah (du.grow aE)
def e0(i:Nat):eP:=λd ρ k=>k (ρ.set i (.val d))
def kv:jY:=λds ρ k=>ds=[]/\k ρ
def fv(g:eP)(g9:jY):jY:=λds ρ k=>∃d r,ds=d::r/\g d ρ λbq=>g9 r bq k
def kw(n:Nat)(g9:jY):eP:=λd ρ k=>∃ds,d=.tup ds/\ds.length=n/\g9 ds ρ k
def NM(u:a1)(g:eP):cB:=λU ρ=>u ρ λd=>g d ρ U.nx
def fM{i:Nat}{x:Str}(a4:X.N.Nodup)(ay:X.N[i]?=some x)(ao:Loc X.env.scope x)(bu:X.fn x=true\/X.env.scope.names.lookup x=some .local:=by first|exact .inl rfl|exact .inr rfl|assumption):jn X (.Name x pos) (e0 i):=
 ⟨_,vN a4 ay ao bu,λd ρ k h R W B H σ v Q e r q=>q _ _ h (e.setV i r) λj a m=>by
  exact(rx m (by simp) (by simp) rfl).2⟩
def gF:tj X [] kv:=⟨_,Ec,λds ρ k h R W B H σ vs Q e r q=>by
 obtain⟨rfl,h⟩:=h;cases r
 exact⟨rfl,q _ _ h e λ_ _ m=>m⟩⟩
def c7{g:eP}{g9:jY}(h1:jn X e g)(h2:tj X es g9)(al:(Xh (e::es) X.env).map (·.2)=Yx e X.env::(Xh es X.env).map (·.2):=by rfl):tj X (e::es) (fv g g9):=by
 obtain⟨_,h1,r1⟩:=h1;obtain⟨_,h2,r2⟩:=h2;refine⟨_,Ed h1 h2 al,λds ρ k h R W B H σ vs Q e r q=>?_⟩;obtain⟨d,fL,rfl,h⟩:=h;cases r with
 |cons cd rs=>
  refine⟨_,_,rfl,r1 d ρ _ h R W B H σ _ _ e cd λbq a6 z aS bR=>?_⟩;exact r2 fL bq k z R W B H a6 _ _ aS rs λAQ rD aP ap bL=>q AQ rD aP ap λj a m=>bR j a (bL j a m)
def gT{cr:Nat}{g9:jY}{n:Nat}(hc:X.calm=true)(h:tj X es g9)(aM:(Xh es X.env).length=n:=by rfl)(nt:(Xh es X.env).findIdx? (·.1)=none:=by rfl):jn X (.Tuple es cr pos) (kw n g9):=by
 obtain⟨_,h1,r1⟩:=h;refine⟨_,Ee hc h1 aM nt,λd ρ k h R W B H σ v Q e r q=>?_⟩;obtain⟨ds,rfl,am,h⟩:=h;obtain⟨a,vs,rfl,ar,rs⟩:=r.tupV;exact⟨a,vs,rfl,ev.of (e.bh _ _ ar),by rw[rs.length];exact am,r1 ds ρ k h R W B H σ vs Q e rs q⟩
def jc{bz:UV}{g:eP}(aB:bg X e u)(aC:jn X bz g)(al:Yl [bz] e pos.line X.env=pure false:=by rfl)(hw:Ym [bz] e X.env=pure none:=by rfl)(h1:(Xh [bz] X.env).map (·.2)=[Yx bz X.env]:=by rfl):fo X (.Assign [bz] e pos) (NM u g):=by
 obtain⟨_,ar,r1⟩:=aB;obtain⟨_,ab,r2⟩:=aC;refine⟨_,vO ar ab al hw h1,λU ρ h R W B H σ D e s=>?_⟩;refine r1 ρ _ h R W B H σ _ e λd v aZ aq z1 ah aE az=>?_;exact r2 d ρ _ z1 R W aZ aq σ v _ ah az λbq a6 aP ap _=>s.nx _ _ aZ aq aP ap aE
def NN(i j:Nat)(w:cU):cB:=λU ρ=>w ρ λds=>∃x y,ds=[x,y]/\U.nx ((ρ.set i (.val x)).set j (.val y))
def Fg{i j:Nat}{x y:Str}{a b:UV}{px fV pt:Pos}{mG bV pV}(hc:X.calm=true)(a4:X.N.Nodup)(ay:X.N[i]?=some x)(bS:X.N[j]?=some y)(mH:i≠j)(ao:X.env.scope.names.lookup x=some .local)(aN:X.env.scope.names.lookup y=some .local)(ar:qc X [a,b] w)(hw:Ym [.Tuple [.Name x px,.Name y fV] mG pt] (.Tuple [a,b] bV pV) X.env=pure (some [x,y]))(al:Yl [.Tuple [.Name x px,.Name y fV] mG pt] (.Tuple [a,b] bV pV) pos.line X.env=pure false:=by rfl):
  fo X (.Assign [.Tuple [.Name x px,.Name y fV] mG pt] (.Tuple [a,b] bV pV) pos) (NN i j w):=by
 obtain⟨_,h1,r1⟩:=ar;refine⟨_,Lr hc a4 ay bS mH ao aN h1 hw al,λU ρ h R W B H σ D e s=>?_⟩;refine r1 ρ _ h R W B H σ _ e λds vs aZ aq z1 ah aE az=>?_;obtain⟨x,y,rfl,z1⟩:=z1;cases az with
 |cons gU rb=>cases rb with
  |cons rb rc=>
   cases rc;exact⟨_,_,rfl,s.nx _ _ aZ aq z1 ((ah.setV i gU).setV j rb) aE⟩
def NO(c:dU)(s:cB):cB:=λU ρ=>∃M:Nat->Zg->Prop,(∃m,M m ρ)/\∀m ρ,M m ρ->c ρ λb=>if b=true then s {U with nx:=λbq=>∃m',m'<m/\M m' bq,ct:=λbq=>∃m',m'<m/\M m' bq,bk:=U.nx} ρ else U.nx ρ
def Fh{c:UV}{body:Zq}{gE:dU}{s:cB}(ae:X6 (T0 X.prog X.w) X.A X.env X.xe)(hc:ir X c gE)(ab:gs X body s):fo X (.While c body [] pos) (NO gE s):=by
 obtain⟨_,h0,gQ⟩:=hc;obtain⟨_,h1,r1⟩:=ab;refine⟨_,LA ae h0 h1,λU ρ h R W B H σ D e du=>?_⟩;obtain⟨M,⟨dO,ax⟩,turn⟩:=h;refine⟨λm a6 H'=>∃bq av,M m bq/\aO X.K R W av H' a6 bq/\bM R B av,⟨dO,ρ,B,ax,e,bM.refl _ _⟩,?_⟩;rintro m g4 aq ⟨gd,aZ,NP,ah,aE⟩;refine gQ gd _ (turn m gd NP) R W aZ aq g4 _ ah λb br aQ aP ap aI=>?_;cases b with
 |true=>
  rw[SC rfl]at aP⊢;refine⟨λa6 H'=>∃bq av,(∃m',m'<m/\M m' bq)/\aO X.K R W av H' a6 bq/\bM R B av,?_,?_⟩
  ·rintro a6 H' ⟨bq,av,⟨m',l,q⟩,aS,g'⟩;exact⟨m',l,bq,av,q,aS,g'⟩
  ·have ww:=aE.trans aI;exact r1 _ gd aP R W br aQ g4 _ ap ⟨λbq a6 av H' z aS g=>⟨bq,av,z,aS,ww.trans g⟩,λbq a6 av H' z aS g=>du.nx bq a6 av H' z aS (ww.trans g),λbq a6 av H' z aS g=>⟨bq,av,z,aS,ww.trans g⟩,λr v av H' z aS g q=>du.rt r v av H' z aS (ww.trans g) q⟩
 |false=>
  rw[SL S3]at aP⊢;exact du.nx gd g4 br aQ aP ap (aE.trans aI)
def kt.list{B:aj}{a:TI}{vs:Zf}{ds:Zh}(h:B a=some (.lst vs))(r:Reps K B vs ds):kt K B (z6 K a) ds:=by
 intro H s i;have dw:=s _ _ h;have q:cx K H a vs:=cx.of dw;refine⟨λay=>?_,λay=>⟨vs,q,by rw[r.length];exact ay⟩,λx H' ay ⟨ah,ap⟩=>⟨ah,?_⟩⟩
 ·obtain⟨v,e,_⟩:=r.get (S5 ay);exact⟨vs,v,q,e⟩
 ·exact r.getV (ap vs q)
def kt.tup{B:aj}{a:TI}{vs:Zf}{ds:Zh}(h:B a=some (.tup vs))(r:Reps K B vs ds):kt K B (z7 K a) ds:=by
 intro H s i;have dw:=s _ _ h;have q:ev K H a vs:=ev.of dw;refine⟨λay=>?_,λay=>⟨vs,q,by rw[r.length];exact ay⟩,λx H' ay ⟨ah,ap⟩=>⟨ah,?_⟩⟩
 ·obtain⟨v,e,_⟩:=r.get (S5 ay);exact⟨vs,v,q,e⟩
 ·exact r.getV (ap vs q)
def kt.rng{B:aj}(n:Nat):kt K B (rd 0 n) ((Ta n).map λi:Nat=>D.int i):=by
 intro H s i;rw[Sw,Vi];refine⟨λay=>ay,λay=>ay,λx H' ay ⟨ah,ap⟩=>⟨ah,?_⟩⟩;refine⟨.int i,?_,?_⟩
 ·rw[SX,Vj ay];rfl
 ·rw[ap,Int.zero_add];exact .int _
def NQ(u:a1):cU:=λρ k=>u ρ λd=>∃ds,d=.lst ds/\k ds
def NR(u:a1):cU:=λρ k=>u ρ λd=>∃ds,d=.tup ds/\k ds
def NS(u:a1):cU:=λρ k=>u ρ λd=>∃j,d=.int j /\ -(2^62)<=j/\j<2^62/\k ((Ta j.toNat).map λi:Nat=>D.int i)
variable{bz:UV}
def iv{l:UV}(am:bg X l u):lX X bz l (NQ u):=by
 obtain⟨_,h1,r1⟩:=am;refine⟨_,z8 h1,λρ k h R W B H σ Q e q=>?_⟩;refine r1 ρ _ h R W B H σ _ e λd v aZ aq z1 ah aE az=>?_;obtain⟨ds,rfl,z⟩:=z1;obtain⟨a,vs,rfl,ar,rs⟩:=az.lstV;exact⟨a,rfl,⟨vs,cx.of (ah.bh _ _ ar)⟩,q ds _ aZ aq z ah aE (kt.list ar rs)⟩
def Fi{l:UV}(am:bg X l u):lX X bz l (NR u):=by
 obtain⟨_,h1,r1⟩:=am;refine⟨_,LH h1,λρ k h R W B H σ Q e q=>?_⟩;refine r1 ρ _ h R W B H σ _ e λd v aZ aq z1 ah aE az=>?_;obtain⟨ds,rfl,z⟩:=z1;obtain⟨a,vs,rfl,ar,rs⟩:=az.tupV;exact⟨a,rfl,⟨vs,ev.of (ah.bh _ _ ar)⟩,q ds _ aZ aq z ah aE (kt.tup ar rs)⟩
def tv{a:UV}(ar:bg X a u)(aC:eY X "range")(ax:X.mg "range"=none)(al:SZ [a] X.env=[(false,Xv a X.env)]:=by rfl):lX X bz (.Call (.Name "range" p) [a] [] pos) (NS u):=by
 obtain⟨_,h1,r1⟩:=ar;refine⟨_,LK aC ax (eh h1 fC (by exact al)) al,λρ k h R W B H σ Q e q=>?_⟩;refine r1 ρ _ h R W B H σ _ e λd v aZ aq z1 ah aE az=>?_;obtain⟨j,rfl,NT,ez,z⟩:=z1;exact⟨j,by rw[az.intV],NT,ez,q _ _ aZ aq z ah aE (kt.rng _)⟩
def ha(g:eP)(s:cB)(U:gC):Zh->Zg->Prop
 |[],ρ=>U.nx ρ
 |d::ds,ρ=>g d ρ λbq=>s {U with nx:=ha g s U ds,ct:=ha g s U ds,bk:=U.nx} bq
def NU(w:cU)(g:eP)(s:cB):cB:=λU ρ=>w ρ λds=>ha g s U ds ρ
def k8{dB:UV}{body:Zq}{g:eP}{s:cB}(ae:X6 (T0 X.prog X.w) X.A X.env X.xe)(hc:X.calm=true)(ay:lX X bz dB w)(aC:jn X bz g)(ab:gs X body s)(al:∀x,UF dB X.env x=pure x:=by intro _;rfl):fo X (.For bz dB body [] pos) (NU w g s):=by
 obtain⟨_,h0,gQ⟩:=ay;obtain⟨_,h1,r1⟩:=aC;obtain⟨_,h2,r2⟩:=ab;refine⟨_,s3 ae hc h0 h1 h2 al,λU ρ h R W B H σ D e du=>?_⟩;refine gQ ρ _ h R W B H σ _ e λds J aZ aq z1 ah aE it=>?_;refine⟨λi m a6 H'=>∃bq av,m=ds.length-i/\i<=ds.length/\ha g s U (ds.drop i) bq/\aO X.K R W av H' a6 bq/\bM R B av/\b2 aZ av,⟨ds.length,ρ,aZ,by simp,S8 _,z1,ah,aE,b2.refl _⟩,?_⟩;rintro i m g4 aQ ⟨gd,br,rfl,ay,aP,ap,aI,a'⟩;obtain⟨d1,cY,hb⟩:=it aQ (a'.trans ap.bh) i;by_cases cM:i<ds.length
 ·refine .inr ⟨d1 cM,λa6 H'=>∃bq av,ha g s U (ds.drop (i+1)) bq/\aO X.K R W av H' a6 bq/\bM R B av/\b2 aZ av,?_,?_⟩
  ·rintro a6 H' ⟨bq,av,z,aS,g',s'⟩;exact⟨ds.length-(i+1),by lia,bq,av,rfl,cM,z,aS,g',s'⟩
  ·intro x H' y;obtain⟨rfl,d,hd,bc⟩:=hb x H' cM y
   have he:ds.drop i=d::ds.drop (i+1):=by
    rw[Ua cM];rw[S5 cM]at hd;rw[SS hd]
   rw[he]at aP;refine r1 d gd _ aP R W br _ g4 x _ ap (bc.mono a') λbq a6 e6 aS _=>?_;exact r2 _ bq e6 R W br _ a6 _ aS ⟨λbq a6 av H' z aS g=>⟨bq,av,z,aS,aI.trans g,a'.trans g.s⟩,λbq a6 av H' z aS g=>du.nx bq a6 av H' z aS (aI.trans g),λbq a6 av H' z aS g=>⟨bq,av,z,aS,aI.trans g,a'.trans g.s⟩,λr v av H' z aS g q=>du.rt r v av H' z aS (aI.trans g) q⟩
 ·have ei:i=ds.length:=by lia
  subst ei;rw[Uo]at aP;exact .inl ⟨cY (Sy _),du.nx gd g4 br aQ aP ap aI⟩
end
section
variable{K:Sv}{X:aK}{e:UV}{es:Zp}{u:a1}{w:cU}{pos p:Pos}
def aO.newO{R:aj}{W:TI->Prop}{B H:aj}{σ:St}{ρ:Zg}(e:aO K R W B H σ ρ){q:TI}(au:H q=none){vs:Zf}{ds:Zh}(r:Reps K B vs ds):
  aO K R W B (upd H q (.lst vs)) σ ρ/\R q=none/\B q=none/\(upd H q (.lst vs)) q=some (.lst vs)/\∀i,¬cy σ ρ i q:=by
 obtain⟨aU,a9,bE⟩:=e.toWd.fresh au;exact⟨e.allocH au _,aU,bE,dZ,λi m=>e.notNew au m rfl⟩
def gV{α:Type}(xs:List α)(lo ay:Option Int):List α:=(xs.drop (HT.sIx xs.length 0 lo)).take (HT.sIx xs.length xs.length ay-HT.sIx xs.length 0 lo)
def Reps.cut{B:aj}{vs:Zf}{ds:Zh}(r:Reps K B vs ds)(lo ay:Option Int):Reps K B (gV vs lo ay) (gV ds lo ay):=by
 unfold gV;rw[r.length];exact(r.drop _).take _
def AR{α β:Type}(f:α->β)(xs:List α)(lo ay:Option Int):gV (xs.map f) lo ay=(gV xs lo ay).map f:=by
 unfold gV;rw[Sw,<-List.map_drop,<-List.map_take]
abbrev oK:=Zg->(Option Int->Prop)->Prop
def NV(K:Sv)(t:rl)(u:oK):Prop:=∀(ρ:Zg)(k:Option Int->Prop),u ρ k->∀(R:aj)(W:TI->Prop)(B H:aj)(σ:St)(Q:Option Int->aj->Prop),aO K R W B H σ ρ->
 (∀o av H',k o->aO K R W av H' σ ρ->bM R B av->Q o H')->t σ H Q
def rE(X:aK)(e:Option UV)(u:oK):Prop:=∃t,td X e t/\NV X.K t u
def NW:oK:=λ_ k=>k none
def NX(u:a1):oK:=λρ k=>u ρ λd=>∃i,d=.int i/\k (some i)
def wx:rE X none NW:=⟨_,Mt,λρ k h R W B H σ Q e q=>q none B H h e (bM.refl _ _)⟩
def rF(h:bg X e u):rE X (some e) (NX u):=by
 obtain⟨_,h1,r1⟩:=h;refine⟨_,Mu h1,λρ k h R W B H σ Q e q=>?_⟩;refine r1 ρ _ h R W B H σ _ e λd v aZ aq z1 ah aE az=>?_;obtain⟨i,rfl,z⟩:=z1;exact⟨i,az.intV,q _ aZ aq z ah aE⟩
def Fj:D->Option Zh
 |.lst ds=>some ds
 |.scr ns=>some (ns.map .int)
 |_=>none
def NY{B H:aj}{v:V}{x:D}{ds:Zh}(s:b2 B H)(r:bA K B v x)(h:Fj x=some ds):∃a vs,v=.ref a/\cx K H a vs/\Reps K B vs ds:=by
 cases x<;>first|(cases h;done)|skip
 ·obtain⟨a,vs,rfl,ar,rs⟩:=r.lstV;cases h;exact⟨a,vs,rfl,cx.of (s _ _ ar),rs⟩
 ·obtain⟨a,rfl,ar⟩:=r.scrV;cases h;exact⟨a,_,rfl,s.seq ar,Reps.ints _⟩
def NZ(u:a1)(l h:oK):cU:=λρ k=>u ρ λx=>l ρ λlo=>h ρ λay=>∃ds,Fj x=some ds/\k (gV ds lo ay)
def wy{lo ay:Option UV}{oL tw:oK}{cS:Pos}(aB:bg X e u)(am:rE X lo oL)(eO:rE X ay tw):k3 X (.Subscript e (.Slice lo ay none cS) pos) (NZ u oL tw):=by
 obtain⟨_,h1,r1⟩:=aB;obtain⟨_,h2,r2⟩:=am;obtain⟨_,aF,ga⟩:=eO;refine⟨_,EB MH h1 h2 aF,λρ k h R W B H σ Q e q=>?_⟩;refine r1 ρ _ h R W B H σ _ e λd v aZ aq z1 ah aE az=>?_;refine r2 ρ _ z1 R W aZ aq σ _ ah λlo br aQ aP ap aI=>?_;refine ga ρ _ aP R W br aQ σ _ ap λay oF cR ew bw g3=>?_;obtain⟨ds,hd,z⟩:=ew;obtain⟨a,vs,rfl,ar,rs⟩:=NY bw.bh (az.mono (aI.trans g3).s) hd;refine⟨a,vs,rfl,ar,λp ae=>?_⟩;obtain⟨aU,a9,bE,db,d4⟩:=bw.newO ae (rs.cut lo ay);exact q _ p _ oF _ z aU ((aE.trans aI).trans g3) a9 bE db (rs.cut lo ay) d4
def Fk(u v:a1):cU:=λρ k=>u ρ λx=>v ρ λy=>∃ds es,x=.lst ds/\y=.lst es/\ds.length+es.length<=TT/\k (ds++es)
def mU{a b:UV}{bH bW:a1}(ar:bg X a bH)(ab:bg X b bW):k3 X (.BinOp a .Add b pos) (Fk bH bW):=by
 obtain⟨_,h1,r1⟩:=ar;obtain⟨_,h2,r2⟩:=ab;refine⟨_,f4 MV h1 h2,λρ k h R W B H σ Q e q=>?_⟩;refine r1 ρ _ h R W B H σ _ e λd v aZ aq z1 ah aE az=>?_;refine r2 ρ _ z1 R W aZ aq σ _ ah λd' sT br aQ aP ap aI a'=>?_;obtain⟨ds,es,rfl,rfl,am,z⟩:=aP;obtain⟨a,vs,rfl,ar,rs⟩:=(az.mono aI.s).lstV;obtain⟨b,ws,rfl,ab,rt⟩:=a'.lstV;refine⟨a,b,vs,ws,rfl,rfl,ap.bh _ _ ar,ap.bh _ _ ab,by rw[rs.length,rt.length];exact am,λp ae=>?_⟩;obtain⟨aU,a9,bE,db,d4⟩:=ap.newO ae (rs.append rt);exact q _ p _ br _ z aU (aE.trans aI) a9 bE db (rs.append rt) d4
def N0(u:a1):cU:=λρ k=>u ρ λx=>∃ds,(x=.lst ds\/x=.tup ds)/\k ds
def N1(ar:bg X e u)(aC:eY X "list")(ax:X.mg "list"=none)(al:SZ [e] X.env=(false,Xv e X.env)::SZ [] X.env:=by rfl):k3 X (.Call (.Name "list" p) [e] [] pos) (N0 u):=by
 obtain⟨_,h1,r1⟩:=ar;refine⟨_,Ex MI aC ax (by decide +kernel) (eh h1 fC al) (by decide) (by decide) al,λρ k h R W B H σ Q e q=>?_⟩;refine r1 ρ _ h R W B H σ _ e λd v aZ aq z1 ah aE az=>?_;obtain⟨ds,hd,z⟩:=z1;rcases hd with rfl|rfl
 ·obtain⟨a,vs,rfl,ar,rs⟩:=az.lstV;refine⟨a,vs,rfl,.inl (cx.of (ah.bh _ _ ar)),λp ae=>?_⟩;obtain⟨aU,a9,bE,db,d4⟩:=ah.newO ae rs;exact q _ p _ aZ _ z aU aE a9 bE db rs d4
 ·obtain⟨a,vs,rfl,ar,rs⟩:=az.tupV;refine⟨a,vs,rfl,.inr (ev.of (ah.bh _ _ ar)),λp ae=>?_⟩;obtain⟨aU,a9,bE,db,d4⟩:=ah.newO ae rs;exact q _ p _ aZ _ z aU aE a9 bE db rs d4
def Fl{B:aj}:∀{ns:Zc}{vs:Zf},Reps K B vs (ns.map D.int)->vs=ns.map V.int
 |[],_,.nil=>rfl
 |n::r,_,.cons h t=>by rw[h.intV,Fl t];rfl
def AS(i:Nat)(u:a1):cB:=λU ρ=>∃ds:Zh,ρ[i]?=some (.own ds)/\u ρ λd=>ds.length<TT/\U.nx (ρ.set i (.own (ds++[d])))
def nJ(i:Nat){x:Str}{px de b6:Pos}(aB:bg X e u)(a4:X.N[i]?=some x:=by rfl)(aL:gz X.env.scope x:=by first|exact SA rfl|exact SI (SA rfl)|exact SI (SI rfl))(hd:(x==("__debug__":Str))=false:=by decide)(dI:(x==("__classdict__":Str))=false:=by decide)(gM:W1 (.Name x px) "append" X.env (Xv (.Name x px) X.env)=Xv (.Name x px) X.env:=by rfl)(jl:((Xn b6 (SZ [e] X.env)).all (λx => !x.1)&&(XV b6 (XB [] X.env)).all (λx=>x.1.isSome)
   && decide ([e].length+([]:Zr).length+(if([]:Zr).isEmpty then 0 else 1)<30))=true:=by rfl)(gN:(de.endLine==b6.line)=true:=by rfl)(al:SZ [e] X.env=(false,Xv e X.env)::SZ [] X.env:=by rfl)(nD:(Xn b6 (SZ ([]:Zp) X.env)).any (·.1)=false:=by rfl)(kx:Xi (.Call (.Attribute (.Name x px) "append" de) [e] [] b6) none pos.line X.env=pure false:=by rfl):fo X (.Expr (.Call (.Attribute (.Name x px) "append" de) [e] [] b6) pos) (AS i u):=by
 obtain⟨_,h1,r1⟩:=aB;refine⟨_,pT (rn Up VW VX v7 (h5 a4 aL hd dI) (eh h1 fC al) gM jl gN al nD) kx,λU ρ h R W B H σ D e s=>?_⟩;obtain⟨ds,aA,h⟩:=h;obtain⟨a,vs,ah,ap,bw,cT,eE⟩:=e.ownAt aA;refine⟨_,ah,.inl ⟨rfl,vs,cx.of cT⟩,?_⟩;refine r1 ρ _ h R W B H σ _ e λd v aZ aq z1 aU aE az=>?_;obtain⟨fk,j0,bO,bV,gG,hf,oM⟩:=aU.ownAt aA;rw[ah]at bO;cases bO;exact⟨a,j0,v,rfl,rfl,hf,by rw[oM.length];exact z1.1,s.nx _ _ aZ _ z1.2 (aU.write ah aA (oM.append (.cons az .nil))) aE⟩
def ky(ρ:Zg)(j:Nat):aD:=match ρ[j]? with
 |some (.val d)=>.val d
 |some .bag=>.bag
 |_=>.no
def aO.scribble{R:aj}{W:TI->Prop}{B H:aj}{σ:St}{ρ:Zg}(e:aO K R W B H σ ρ){a:TI}(ak:R a=none)(ab:B a=none)(ax:∀i,¬cy σ ρ i a)(o:eX):aO K R W B (upd H a o) σ ρ:=by
 have ek:¬W a:=λz=>e.wr a z ak;refine e.move ⟨λb q h z=>?_,λb q h=>?_,e.wb,λb z=>(e.wh b z).upd (by rintro rfl;exact ek z),e.wr⟩ (b2.refl _) λi b m=>?_
 ·rw[c6 (by rintro rfl;rw[ak]at h;cases h)];exact e.fr b q h z
 ·rw[c6 (by rintro rfl;rw[ab]at h;cases h)];exact e.bh b q h
 ·have n:b≠a:=by rintro rfl;exact ax i m
  refine⟨(e.mutOk m).1,λz=>?_,λ_=>c6 n⟩;obtain⟨c,c1,_,_,c4⟩:=e.bagAt z;rw[qa m z]at c1;cases c1;exact c4.upd n
def N2{σ:St}{js:Zj}{i:Nat}{o:Option V}(h:(ip σ js)[i]?=some o):∃j,js[i]?=some j/\o=(σ[j]?).join:=by
 unfold ip at h;rw[SX]at h;cases q:js[i]? with
 |none=>rw[q]at h;cases h
 |some j=>rw[q]at h;exact⟨j,rfl,(SS h).symm⟩
def N3(K:Sv)(t:bP)(u:Zg->Prop->Prop):Prop:=∀(ρ:Zg)(k:Prop),u ρ k->∀(R:aj)(W:TI->Prop)(B H:aj)(σ:St)(Q:cJ),aO K R W B H σ ρ->
 (∀a av H',k->aO K R W av H' σ ρ->bM R B av->R a=none->av a=none->g7 H' a->(∀i,¬cy σ ρ i a)->Q (.ref a) H')->t σ H Q
def Fm(X:aK)(e:UV)(u:Zg->Prop->Prop):Prop:=∃t,b4 X e t/\N3 X.K t u
def N4(n:Nat)(F:ca)(w:iq):Zg->Prop->Prop:=λρ k=>w ρ λas=>sh as n=true/\F (as.map Arg.sl) λr=>r=.bag/\k
def Fn{n:Nat}{F:ca}{w:iq}{x:Str}{ps:Zm}{j lv:Nat}(c:bZ X.prog X.w X.K X.mg X.base x ps j (b7 X.K n F))(ak:e' lv X.A)(aC:eY X x)(ar:lW X (e::es) w)(hjk:j<=lv:=by decide)(ht:(x==("__debug__":Str))=false:=by decide)(aB:SZ (e::es) X.env=(false,Xv e X.env)::SZ es X.env:=by rfl)(fa:(Xn pos (SZ es X.env)).any (·.1)=false:=by rfl):
  Fm X (.Call (.Name x p) (e::es) [] pos) (N4 n F w):=by
 obtain⟨_,h1,r1⟩:=ar;refine⟨_,rv c ak aC h1 hjk ht aB fa,λρ k h R W B H σ Q e q=>?_⟩;refine r1 ρ _ h R W B H σ _ e λas vs aZ aq z1 ah aE az=>?_;rw[SP];refine rC ah az z1.1 z1.2 λr v br aQ ag ap aI res=>?_;obtain⟨rfl,ag⟩:=ag;obtain⟨a,rfl,aU,a9,bE⟩:=res;exact q a br aQ ag ap (aE.trans aI) (ah.toWd.fresh aU).1 a9 bE λi m=>(ah.mutOk m).2 aU
def N5(i:Nat)(u:Zg->Prop->Prop):cB:=λU ρ=>u ρ (U.nx (ρ.set i .bag))
def Fo{i:Nat}{x:Str}{eb:Pos}{u:Zg->Prop->Prop}(a4:X.N.Nodup)(ay:X.N[i]?=some x)(ao:Loc X.env.scope x)(aB:Fm X e u)(al:Xi e (some (.Name x eb)) pos.line X.env=pure false:=by rfl)(bu:X.fn x=true\/X.env.scope.names.lookup x=some .local:=by first|exact .inl rfl|exact .inr rfl|assumption):
  fo X (.Assign [.Name x eb] e pos) (N5 i u):=by
 obtain⟨_,h1,r1⟩:=aB;refine⟨_,oq a4 ay ao h1 al bu,λU ρ h R W B H σ D e s=>?_⟩;refine r1 ρ _ h R W B H σ _ e λa aZ aq z1 ah aE aU a9 bE db=>s.nx _ _ aZ aq z1 (ah.set i ⟨a,rfl,.inr aU,a9,bE⟩ λb z _ j _=>?_) aE;cases z;exact db j
end
end L3
namespace L3
open PySem L2
inductive gW where
 |I|B|N|S|T (dG:List gW)|L (s:gW)
mutual
def has:gW->D->Bool
 |.I,.int _=>true
 |.B,.bl _=>true
 |.N,.non=>true
 |.S,.str _=>true
 |.T dG,.tup xs=>hass dG xs
 |.L s,.lst xs=>xs.all λx=>has s x
 |_,_=>false
def hass:List gW->Zh->Bool
 |[],[]=>true
 |s::dG,x::xs=>has s x&&hass dG xs
 |_,_=>false
end
mutual
def h9:gW->Nat
 |.T dG=>deps dG+1
 |.L s=>h9 s+1
 |_=>0
def deps:List gW->Nat
 |[]=>0
 |s::dG=>max (h9 s) (deps dG)
end
noncomputable def eqD(x y:D):Bool :=@decide (x=y) (Uz _)
def qg{x y:D}:eqD x y=true↔x=y:=by unfold eqD;exact @decide_eq_true_iff _ (Uz _)
def oN(x:D):eqD x x=true:=qg.mpr rfl
def oO{x y:D}{b:Bool}(h:b=true↔x=y):eqD x y=b:=by
 rw[VY,qg,h]
section
variable{K:Sv}{B:aj}
def has_int{x:D}(h:has .I x=true):∃i,x=.int i:=by cases x<;>first|exact⟨_,rfl⟩|(simp[has]at h)
def wz{x:D}(h:has .B x=true):∃i,x=.bl i:=by cases x<;>first|exact⟨_,rfl⟩|(simp[has]at h)
def wA{x:D}(h:has .N x=true):x=.non:=by cases x<;>first|rfl|(simp[has]at h)
def has_str{x:D}(h:has .S x=true):∃i,x=.str i:=by cases x<;>first|exact⟨_,rfl⟩|(simp[has]at h)
def wB{x:D}{dG:List gW}(h:has (.T dG) x=true):∃xs,x=.tup xs/\hass dG xs=true:=by
 cases x<;>first|exact⟨_,rfl,by simpa[has]using h⟩|(simp[has]at h)
def wC{x:D}{s:gW}(h:has (.L s) x=true):∃xs,x=.lst xs/\∀y∈xs,has s y=true:=by
 cases x<;>first|exact⟨_,rfl,by simpa[has]using h⟩|(simp[has]at h)
def tx:∀{dG:List gW}{xs:Zh},hass dG xs=true->xs.length=dG.length
 |[],[],_=>rfl
 |[],_::_,h=>by simp[hass]at h
 |_::_,[],h=>by simp[hass]at h
 |s::dG,x::xs,h=>by
  simp[hass]at h;simp[tx h.2]
mutual
theorem qh:∀(sh:gW){x y:D}{v:V},has sh x=true->has sh y=true->bA K B v x->bA K B v y->x=y
 |.I,x,y,v,h1,h2,r1,r2=>by
  obtain⟨i,rfl⟩:=has_int h1;obtain⟨j,rfl⟩:=has_int h2
  have e:=r1.intV.symm.trans r2.intV
  cases e;rfl
 |.B,x,y,v,h1,h2,r1,r2=>by
  obtain⟨i,rfl⟩:=wz h1;obtain⟨j,rfl⟩:=wz h2
  have e:=r1.blV.symm.trans r2.blV
  cases e;rfl
 |.N,x,y,v,h1,h2,r1,r2=>by rw[wA h1,wA h2]
 |.S,x,y,v,h1,h2,r1,r2=>by
  obtain⟨i,rfl⟩:=has_str h1;obtain⟨j,rfl⟩:=has_str h2
  cases r1;cases r2;rfl
 |.T dG,x,y,v,h1,h2,r1,r2=>by
  obtain⟨xs,rfl,aR⟩:=wB h1;obtain⟨ys,rfl,bK⟩:=wB h2
  obtain⟨a,vs,rfl,ar,gU⟩:=r1.tupV
  obtain⟨b,ws,e,ab,rb⟩:=r2.tupV
  cases e
  rw[ar]at ab;cases ab
  rw[reps_fn dG aR bK gU rb]
 |.L s,x,y,v,h1,h2,r1,r2=>by
  obtain⟨xs,rfl,aR⟩:=wC h1;obtain⟨ys,rfl,bK⟩:=wC h2
  obtain⟨a,vs,rfl,ar,gU⟩:=r1.lstV
  obtain⟨b,ws,e,ab,rb⟩:=r2.lstV
  cases e
  rw[ar]at ab;cases ab
  have:xs=ys:=by
   apply Un
   intro i
   cases AT:xs[i]? with
   |none=>
    have:ys[i]?=none:=by
     have h1:=gU.length
     have h2:=rb.length
     have aF:=WI.mp AT
     exact WI.mpr (by lia)
    rw[this]
   |some d=>
    obtain⟨v,eZ,cd⟩:=gU.get AT
    obtain⟨d',he,gH⟩:=rb.getV eZ
    rw[he,qh s (aR d (Th AT)) (bK d' (Th he)) cd gH]
  rw[this]
theorem reps_fn:∀(dG:List gW){xs ys:Zh}{vs:Zf},hass dG xs=true->hass dG ys=true->Reps K B vs xs->Reps K B vs ys->xs=ys
 |[],xs,ys,vs,h1,h2,r1,r2=>by
  have ah:=tx h1;have ap:=tx h2
  rw[Uq]at ah ap
  rw[WJ ah,WJ ap]
 |s::dG,[],ys,vs,h1,h2,r1,r2=>by simp[hass]at h1
 |s::dG,x::xs,[],vs,h1,h2,r1,r2=>by simp[hass]at h2
 |s::dG,x::xs,y::ys,vs,h1,h2,r1,r2=>by
  simp[hass]at h1 h2
  cases r1 with
  |cons cc a7=>cases r2 with
   |cons ci bd=>rw[qh s h1.1 h2.1 cc ci,reps_fn dG h1.2 h2.2 a7 bd]
end
end
section
variable{X:aK}{pins:Zs}{σ:St}{H B:aj}{s:TE}
def Fp{xs ys:Zh}{n:Nat}{e:Nat->Bool}(aM:n=xs.length)(am:xs.length=ys.length)(aB:∀j,j<n->(e j=true↔xs[j]?=ys[j]?)):((Ta n).all e)=true↔xs=ys:=by
 rw[U2];constructor
 ·intro h;apply Un;intro i;by_cases ay:i<n
  ·exact(aB i ay).mp (h i (TQ.mpr ay))
  ·rw[S9 (by lia),S9 (by lia)]
 ·rintro rfl j bS;exact(aB j (TQ.mp bS)).mpr rfl
noncomputable def l0(xs ys:Zh)(j:Nat):Bool :=@decide (xs[j]?=ys[j]?) (Uz _)
def rG{xs ys:Zh}{j:Nat}:l0 xs ys j=true↔xs[j]?=ys[j]?:=by unfold l0;exact @decide_eq_true_iff _ (Uz _)
def Fq{xs ys:Zh}{j:Nat}{x y:D}(h1:xs[j]?=some x)(h2:ys[j]?=some y):l0 xs ys j=eqD x y:=by
 rw[VY,rG,qg,h1,h2];constructor
 ·intro h;exact SS h
 ·intro h;rw[h]
structure N6 (A:Xq) (s:TE) (u w:Tl) (x y:D):Prop where
 rc:SeqAt.RcAt A s u w (eqD x y)
 ne:SeqAt.RcNeAt A s u w (!eqD x y)
 eq:SeqAt.EqAt A s u w (eqD x y)
mutual
theorem qi(I:Inv X pins σ H s)(cQ:b2 B H):∀(sh:gW){A:Xq}{x y:D}{v w:V}{u eA:Tl},has sh x=true->has sh y=true->bA X.K B v x->bA X.K B w y->RelV v u->RelV w eA->A.units+h9 sh<XA->N6 A s u eA x y
 |.I,A,x,y,v,w,u,eA,h1,h2,r1,r2,bj,bt,bn=>by
  obtain⟨i,rfl⟩:=has_int h1;obtain⟨j,rfl⟩:=has_int h2
  cases r1.intV;cases r2.intV
  obtain⟨t,rfl⟩:=bj;obtain⟨t',rfl⟩:=bt
  have e:eqD (.int i) (.int j)=(i==j):=oO (by simp)
  refine⟨?_,?_,?_⟩<;>rw[e]
  ·exact SeqAt.RcAt.int_int i t j t'
  ·exact SeqAt.RcNeAt.int_int i t j t'
  ·exact SeqAt.EqAt.int_int i t j t'
 |.B,A,x,y,v,w,u,eA,h1,h2,r1,r2,bj,bt,bn=>by
  obtain⟨i,rfl⟩:=wz h1;obtain⟨j,rfl⟩:=wz h2
  cases r1.blV;cases r2.blV
  cases bj;cases bt
  have e:eqD (.bl i) (.bl j)=(i==j):=oO (by simp)
  refine⟨?_,?_,?_⟩<;>rw[e]
  ·exact SeqAt.RcAt.bool_bool i j
  ·exact SeqAt.RcNeAt.bool_bool i j
  ·exact SeqAt.EqAt.bool_bool i j
 |.N,A,x,y,v,w,u,eA,h1,h2,r1,r2,bj,bt,bn=>by
  cases wA h1;cases wA h2
  cases r1.nonV;cases r2.nonV
  cases bj;cases bt
  have e:eqD .non .non=true:=oN _
  refine⟨?_,?_,?_⟩<;>rw[e]
  ·exact SeqAt.RcAt.none_none
  ·exact SeqAt.RcNeAt.none_none
  ·exact SeqAt.EqAt.same _
 |.S,A,x,y,v,w,u,eA,h1,h2,r1,r2,bj,bt,bn=>by
  obtain⟨i,rfl⟩:=has_str h1;obtain⟨j,rfl⟩:=has_str h2
  cases r1;cases r2
  obtain⟨t,rfl⟩:=bj;obtain⟨t',rfl⟩:=bt
  have e:eqD (.str i) (.str j)=(i==j):=oO (by simp)
  refine⟨?_,?_,?_⟩<;>rw[e]
  ·exact SeqAt.RcAt.str_str i t j t'
  ·exact SeqAt.RcNeAt.str_str i t j t'
  ·exact SeqAt.EqAt.str_str i t j t'
 |.T dG,A,x,y,v,w,u,eA,h1,h2,r1,r2,bj,bt,bn=>by
  have wD:=r1
  have wE:=r2
  obtain⟨xs,rfl,aR⟩:=wB h1;obtain⟨ys,rfl,bK⟩:=wB h2
  obtain⟨a,vs,rfl,ar,gU⟩:=r1.tupV
  obtain⟨b,ws,rfl,ab,rb⟩:=r2.tupV
  cases bj;cases bt
  obtain⟨its,bO,d1,_⟩:=I.tuple (ev.of (cQ _ _ ar))
  obtain⟨fD,bV,cY,_⟩:=I.tuple (ev.of (cQ _ _ ab))
  have bo:h9 (.T dG)=deps dG+1:=by simp[h9]
  have AU:=tx aR
  have ahC:=tx bK
  have z1:=gU.length;have aP:=rb.length;have ew:=bO.length;have d7:=bV.length
  have j1:=eqs_sh I cQ dG (A:=A.in1) aR bK gU rb bO bV (by show A.units+1+deps dG<XA;lia)
  have aB:∀j (h1:j<its.toArray.size) (h2:j<fD.toArray.size),SeqAt.EqAt A.in1 s its.toArray[j] fD.toArray[j] (l0 xs ys j):=λj aE aI=>by
   have:=j1 j (by simpa using aE) (by simpa using aI)
   simpa using this
  have e:eqD (.tup xs) (.tup ys)=((Ta (min its.toArray.size fD.toArray.size)).all (l0 xs ys)&&its.toArray.size==fD.toArray.size):=by
   refine oO ?_
   have az:its.toArray.size=xs.length:=by simp;lia
   have a':fD.toArray.size=xs.length:=by simp;lia
   rw[az,a',Nat.min_self,Uk]
   have:=Fp (xs:=xs) (ys:=ys) (n:=xs.length) (e:=l0 xs ys) rfl (by lia) (λj _=>rG)
   constructor
   ·intro h;rw[this.mp h.1]
   ·intro h;cases h;exact⟨this.mpr rfl,by simp⟩
  have rc:SeqAt.RcAt A s (.ref a) (.ref b) (eqD (.tup xs) (.tup ys)):=by rw[e];exact SeqAt.RcAt.tuples d1 cY (by lia) aB
  refine⟨rc,by rw[e];exact SeqAt.RcNeAt.tuples d1 cY (by lia) aB,?_⟩
  by_cases hy:a=b
  ·subst hy
   have:=qh (.T dG) h1 h2 wD wE
   rw[this,oN]
   exact SeqAt.EqAt.same _
  ·exact SeqAt.EqAt.of_refs hy rc
 |.L sh,A,x,y,v,w,u,eA,h1,h2,r1,r2,bj,bt,bn=>by
  have wD:=r1
  have wE:=r2
  obtain⟨xs,rfl,aR⟩:=wC h1;obtain⟨ys,rfl,bK⟩:=wC h2
  obtain⟨a,vs,rfl,ar,gU⟩:=r1.lstV
  obtain⟨b,ws,rfl,ab,rb⟩:=r2.lstV
  cases bj;cases bt
  obtain⟨its,bO,cW,_⟩:=I.list (cx.of (cQ _ _ ar))
  obtain⟨fD,bV,cS,_⟩:=I.list (cx.of (cQ _ _ ab))
  have d1:=cW.isList
  have cY:=cS.isList
  have bo:h9 (.L sh)=h9 sh+1:=by simp[h9]
  have z1:=gU.length;have aP:=rb.length;have ew:=bO.length;have d7:=bV.length
  have aB:∀j (h1:j<its.toArray.size) (h2:j<fD.toArray.size),SeqAt.EqAt A.in1 s its.toArray[j] fD.toArray[j] (l0 xs ys j):=λj aE aI=>by
   have N7:j<its.length:=by simpa using aE
   have N8:j<fD.length:=by simpa using aI
   obtain⟨v1,ah,N9⟩:=bO.getR (S5 N7)
   obtain⟨dC,ap,Oa⟩:=bV.getR (S5 N8)
   obtain⟨c1,aU,tz⟩:=gU.getV ah
   obtain⟨c2,a9,Ob⟩:=rb.getV ap
   rw[Fq aU a9]
   have:=(qi I cQ sh (A:=A.in1) (aR c1 (Th aU)) (bK c2 (Th a9)) tz Ob N9 Oa (by show A.units+1+h9 sh<XA;lia)).eq
   simpa using this
  by_cases jU:its.toArray.size=fD.toArray.size
  ·have az:its.toArray.size=xs.length:=by simp;lia
   have a':xs.length=ys.length:=by simp at jU;lia
   have e:eqD (.lst xs) (.lst ys)=(Ta its.toArray.size).all (l0 xs ys):=by
    refine oO ?_
    rw[Fp (xs:=xs) (ys:=ys) az a' (λj _=>rG)]
    constructor
    ·intro h;rw[h]
    ·intro h;cases h;rfl
   have rc:SeqAt.RcAt A s (.ref a) (.ref b) (eqD (.lst xs) (.lst ys)):=by rw[e];exact SeqAt.RcAt.lists d1 cY jU (by lia) aB
   refine⟨rc,by rw[e];exact SeqAt.RcNeAt.lists d1 cY jU (by lia) aB,?_⟩
   by_cases hy:a=b
   ·subst hy
    have:=qh (.L sh) h1 h2 wD wE
    rw[this,oN]
    exact SeqAt.EqAt.same _
   ·exact SeqAt.EqAt.of_refs hy rc
  ·have e:eqD (.lst xs) (.lst ys)=false:=oO (by
    constructor
    ·intro h;cases h
    ·intro h;cases h;simp at jU;lia)
   have k9:(its.toArray.size != fD.toArray.size)=true:=by simpa using jU
   have rc:SeqAt.RcAt A s (.ref a) (.ref b) (eqD (.lst xs) (.lst ys)):=by rw[e];exact SeqAt.RcAt.lists_lengths d1 cY k9 (by lia)
   refine⟨rc,by rw[e];exact SeqAt.RcNeAt.lists_lengths d1 cY k9 (by lia),?_⟩
   refine SeqAt.EqAt.of_refs (λhy=>?_) rc
   subst hy
   have:=qh (.L sh) h1 h2 wD wE
   cases this
   simp at jU;lia
theorem eqs_sh(I:Inv X pins σ H s)(cQ:b2 B H):∀(dG:List gW){A:Xq}{xs ys:Zh}{vs ws:Zf}{us jp:Zn},hass dG xs=true->hass dG ys=true->Reps X.K B vs xs->Reps X.K B ws ys->b1 vs us->b1 ws jp->A.units+deps dG<XA->
  ∀j (h1:j<us.length) (h2:j<jp.length),SeqAt.EqAt A s us[j] jp[j] (l0 xs ys j)
 |[],A,[],ys,_,_,_,_,h1,h2,.nil,r2,.nil,bt,bn,j,aE,aI=>absurd aE (by simp)
 |[],A,x::xs,ys,_,_,_,_,h1,h2,r1,r2,bj,bt,bn,j,aE,aI=>by simp[hass]at h1
 |s::dG,A,[],ys,vs,ws,us,jp,h1,h2,r1,r2,bj,bt,bn,j,aE,aI=>by simp[hass]at h1
 |s::dG,A,x::xs,[],vs,ws,us,jp,h1,h2,r1,r2,bj,bt,bn,j,aE,aI=>by simp[hass]at h2
 |s::dG,A,x::xs,y::ys,v::vs,w::ws,u::us,eA::jp,h1,h2,.cons cc a7,.cons ci bd,.cons c1 bo,.cons c2 bG,bn,0,aE,aI=>by
  have tA:has s x=true:=by simp[hass]at h1;exact h1.1
  have tB:has s y=true:=by simp[hass]at h2;exact h2.1
  have ia:deps (s::dG)=max (h9 s) (deps dG):=by simp[deps]
  have:=(qi I cQ s (A:=A) tA tB cc ci c1 c2 (by lia)).eq
  rw[Fq (xs:=x::xs) (ys:=y::ys) (j:=0) rfl rfl]
  exact this
 |s::dG,A,x::xs,y::ys,v::vs,w::ws,u::us,eA::jp,h1,h2,.cons cc a7,.cons ci bd,.cons c1 bo,.cons c2 bG,bn,j+1,aE,aI=>by
  have tA:hass dG xs=true:=by simp[hass]at h1;exact h1.2
  have tB:hass dG ys=true:=by simp[hass]at h2;exact h2.2
  have ia:deps (s::dG)=max (h9 s) (deps dG):=by simp[deps]
  have:=eqs_sh I cQ dG (A:=A) tA tB a7 bd bo bG (by lia) j (by simpa using aE) (by simpa using aI)
  have e:l0 (x::xs) (y::ys) (j+1)=l0 xs ys j:=by
   rw[VY,rG,rG];simp
  rw[e]
  exact this
end
def AV(K:Sv)(ng:Bool):fB:=λx y H Q=>∃B d e sh,bA K B x d/\bA K B y e/\b2 B H/\has sh d=true/\has sh e=true/\h9 sh<=50/\Q (.bl (if ng then !eqD d e else eqD d e)) H
def Fs(bn:X.A.units+64<XA):gl X (XE .Eq) (AV X.K false):=by
 intro pins s σ H x y v u Q I bc cg h;obtain⟨B,d,e,sh,r1,r2,cQ,h1,h2,hd,q⟩:=h;exact(qi I cQ sh (A:=X.A) h1 h2 r1 r2 bc cg (by lia)).rc _ _ _ _ ⟨.bl _,H,I,rfl,q⟩
def Oc(bn:X.A.units+64<XA):gl X (XE .NotEq) (AV X.K true):=by
 intro pins s σ H x y v u Q I bc cg h;obtain⟨B,d,e,sh,r1,r2,cQ,h1,h2,hd,q⟩:=h;exact(qi I cQ sh (A:=X.A) h1 h2 r1 r2 bc cg (by lia)).ne _ _ _ _ ⟨.bl _,H,I,rfl,q⟩
def AW(K:Sv)(ng:Bool):fB:=λx y H Q=>∃B d es sh,bA K B x d/\(bA K B y (.lst es)\/bA K B y (.tup es))/\b2 B H/\has sh d=true/\(∀e∈es,has sh e=true)/\h9 sh<=50/\∀b:Bool,(b=true↔d∈es)->Q (.bl (if ng then !b else b)) H
noncomputable def l1(K:Sv)(B:aj)(sh:gW)(d:D)(u:Tl):Bool :=@decide (∃v,RelV v u/\bA K B v d) (Uz _)
def AX{K:Sv}{sh:gW}{d:D}{u:Tl}:l1 K B sh d u=true↔∃v,RelV v u/\bA K B v d:=by unfold l1;exact @decide_eq_true_iff _ (Uz _)
def Ft{v w:V}{u:Tl}(h1:RelV v u)(h2:RelV w u):v=w:=by
 cases v<;>cases w<;>simp only[RelV]at h1 h2<;>first
  |rfl
  | (obtain⟨t,rfl⟩:=h1;obtain⟨t',e⟩:=h2;cases e;rfl)
  | (obtain⟨t,rfl⟩:=h1;obtain⟨t',e⟩:=h2;cases e;done)
  | (obtain⟨t,rfl⟩:=h1;cases h2;done)
  | (obtain⟨t,rfl⟩:=h2;cases h1;done)
  | (subst h1;cases h2;rfl)
  | (subst h1;cases h2;done)
def wF{K:Sv}{sh:gW}{d:D}{vs:Zf}{es:Zh}{its:Zn}(h1:has sh d=true)(h2:∀e∈es,has sh e=true)(r:Reps K B vs es)(l:b1 vs its):its.toArray.any (l1 K B sh d)=true↔d∈es:=by
 rw[show its.toArray.any (l1 K B sh d)=its.any (l1 K B sh d) by simp,List.any_eq_true];constructor
 ·rintro⟨u,bn,z⟩;obtain⟨v,lv,cd⟩:=AX.mp z;obtain⟨j,bS⟩:=Um bn;obtain⟨w,jV,lw⟩:=l.getR bS;cases Ft lv lw;obtain⟨e,hA,jq⟩:=r.getV jV;have g8:=Th hA;rw[qh sh h1 (h2 e g8) cd jq];exact g8
 ·intro m;obtain⟨j,bS⟩:=Um m;obtain⟨v,eZ,cd⟩:=r.get bS;obtain⟨u,Od,tC⟩:=l.get eZ;exact⟨u,Th Od,AX.mpr ⟨v,tC,cd⟩⟩
def wG(I:Inv X pins σ H s)(cQ:b2 B H){A:Xq}{sh:gW}{d:D}{vs:Zf}{es:Zh}{its:Zn}{x:V}{v:Tl}(h1:has sh d=true)(h2:∀e∈es,has sh e=true)(bc:bA X.K B x d)(AU:RelV x v)(r:Reps X.K B vs es)(l:b1 vs its)(bn:A.units+h9 sh<XA):∀y,y∈its.toArray->SeqAt.EqAt A s y v (l1 X.K B sh d y):=λy aN=>by
 obtain⟨j,bS⟩:=Um (show y∈its by simpa using aN);obtain⟨w,jV,lw⟩:=l.getR bS;obtain⟨e,hA,jq⟩:=r.getV jV;have aB:=h2 e (Th hA);have q:=(qi I cQ sh (A:=A) aB h1 jq bc lw AU bn).eq
 have z:eqD e d=l1 X.K B sh d y:=oO (by
  rw[AX];constructor
  ·rintro⟨sT,gt,dA⟩;cases Ft gt lw;exact qh sh aB h1 jq dA
  ·rintro rfl
   exact⟨w,lw,jq⟩)
 rw[<-z];exact q
def Oe(bn:X.A.units+64<XA):gl X (XE .In) (AW X.K false):=by
 intro pins s σ H x y v u Q I bc cg h;obtain⟨B,d,es,sh,r1,r2,cQ,h1,h2,hd,q⟩:=h;rcases r2 with r2|r2
 ·obtain⟨a,vs,rfl,ar,rs⟩:=r2.lstV;cases cg;obtain⟨its,bO,cW,_⟩:=I.list (cx.of (cQ _ _ ar));exact SeqAt.in_listAt (l1 X.K B sh d) cW.isList (wG I cQ (A:=X.A.in1) h1 h2 r1 bc rs bO (by show X.A.units+1+_<XA;lia)) ⟨.bl _,H,I,rfl,q _ (wF h1 h2 rs bO)⟩
 ·obtain⟨a,vs,rfl,ar,rs⟩:=r2.tupV;cases cg;obtain⟨its,bO,cW,_⟩:=I.tuple (ev.of (cQ _ _ ar));exact SeqAt.in_tupleAt (l1 X.K B sh d) cW (wG I cQ (A:=X.A.in1) h1 h2 r1 bc rs bO (by show X.A.units+1+_<XA;lia)) ⟨.bl _,H,I,rfl,q _ (wF h1 h2 rs bO)⟩
def Of(bn:X.A.units+64<XA):gl X (XE .NotIn) (AW X.K true):=by
 intro pins s σ H x y v u Q I bc cg h;obtain⟨B,d,es,sh,r1,r2,cQ,h1,h2,hd,q⟩:=h;rcases r2 with r2|r2
 ·obtain⟨a,vs,rfl,ar,rs⟩:=r2.lstV;cases cg;obtain⟨its,bO,cW,_⟩:=I.list (cx.of (cQ _ _ ar));exact SeqAt.notIn_listAt (l1 X.K B sh d) cW.isList (wG I cQ (A:=X.A.in1) h1 h2 r1 bc rs bO (by show X.A.units+1+_<XA;lia)) ⟨.bl _,H,I,rfl,q _ (wF h1 h2 rs bO)⟩
 ·obtain⟨a,vs,rfl,ar,rs⟩:=r2.tupV;cases cg;obtain⟨its,bO,cW,_⟩:=I.tuple (ev.of (cQ _ _ ar));exact SeqAt.notIn_tupleAt (l1 X.K B sh d) cW (wG I cQ (A:=X.A.in1) h1 h2 r1 bc rs bO (by show X.A.units+1+_<XA;lia)) ⟨.bl _,H,I,rfl,q _ (wF h1 h2 rs bO)⟩
end
section
variable{K:Sv}{X:aK}{a b:UV}{bH bW:a1}{pos:Pos}
def tD(ng:Bool)(bH bW:a1):a1:=λρ k=>bH ρ λx=>bW ρ λy=>∃sh,has sh x=true/\has sh y=true/\h9 sh<=50/\k (.bl (if ng then !eqD x y else eqD x y))
def AY(ng:Bool)(bH bW:a1):a1:=λρ k=>bH ρ λx=>bW ρ λy=>∃sh es,(y=.lst es\/y=.tup es)/\has sh x=true/\(∀e∈es,has sh e=true)/\h9 sh<=50/\∀b:Bool,(b=true↔x∈es)->k (.bl (if ng then !b else b))
def AZ{b5 tb:bP}{ng:Bool}(ar:fm K b5 bH)(ab:fm K tb bW):fm K (ny (AV K ng) b5 tb) (tD ng bH bW):=
 qd ar ab λx y k h R W B H σ ρ v w Q e bc cg q=>by
  obtain⟨sh,h1,h2,hd,ag⟩:=h;exact⟨B,x,y,sh,bc,cg,e.bh,h1,h2,hd,q _ _ B H ag e (bM.refl _ _) (.bl _)⟩
def Fu{b5 tb:bP}{ng:Bool}(ar:fm K b5 bH)(ab:fm K tb bW):fm K (ny (AW K ng) b5 tb) (AY ng bH bW):=
 qd ar ab λx y k h R W B H σ ρ v w Q e bc cg q=>by
  obtain⟨sh,es,aN,h1,h2,hd,ag⟩:=h;refine⟨B,x,es,sh,bc,?_,e.bh,h1,h2,hd,λb ab=>q _ _ B H (ag b ab) e (bM.refl _ _) (.bl _)⟩;rcases aN with rfl|rfl
  ·exact .inl cg
  ·exact .inr cg
def Og(bn:X.A.units+64<XA)(ar:bg X a bH)(ab:bg X b bW)(ax:Xo .Eq b=false):bg X (.Compare a [.Eq] [b] pos) (tD false bH bW):=by
 obtain⟨_,h1,r1⟩:=ar;obtain⟨_,h2,r2⟩:=ab;exact⟨_,vU (Fs bn) h1 h2 ax,AZ r1 r2⟩
def wH(bn:X.A.units+64<XA)(ar:bg X a bH)(ab:bg X b bW)(ax:Xo .Eq b=false):ir X (.Compare a [.Eq] [b] pos) (qe (tD false bH bW)):=by
 obtain⟨_,h1,r1⟩:=ar;obtain⟨_,h2,r2⟩:=ab;exact⟨_,p1 (Fs bn) h1 h2 ax,tl (AZ r1 r2)⟩
def Fv(bn:X.A.units+64<XA)(ar:bg X a bH)(ab:bg X b bW)(ax:Xo .NotEq b=false):ir X (.Compare a [.NotEq] [b] pos) (qe (tD true bH bW)):=by
 obtain⟨_,h1,r1⟩:=ar;obtain⟨_,h2,r2⟩:=ab;exact⟨_,p1 (Oc bn) h1 h2 ax,tl (AZ r1 r2)⟩
def Fw(bn:X.A.units+64<XA)(ar:bg X a bH)(ab:bg X b bW)(ax:Xo .NotIn b=false):bg X (.Compare a [.NotIn] [b] pos) (AY true bH bW):=by
 obtain⟨_,h1,r1⟩:=ar;obtain⟨_,h2,r2⟩:=ab;exact⟨_,vU (Of bn) h1 h2 ax,Fu r1 r2⟩
def Fx(bn:X.A.units+64<XA)(ar:bg X a bH)(ab:bg X b bW)(ax:Xo .In b=false):ir X (.Compare a [.In] [b] pos) (qe (AY false bH bW)):=by
 obtain⟨_,h1,r1⟩:=ar;obtain⟨_,h2,r2⟩:=ab;exact⟨_,p1 (Oe bn) h1 h2 ax,tl (Fu r1 r2)⟩
end
end L3
namespace L3
open PySem L2
open PySem.Builtin.Int (intBits)
def Oh{K:Sv}{P:Uf}{w:Xk}{mg:Str->Option Tl}{base:Xx}{x eB:Str}{st:Xm}{f:TI}{fd:XI}{N ps:Zm}{lv n:Nat}{F:ca}(qf:mK K x eB st f fd)(S:cE N ps (bX st))(aM:ps.length=n)(kl:∀(cdv:Tl) (A:Xq) (outer:List UL) (s:TE) (H:aj) (E:gi),e' lv (A.deeper (Vh eB (bX st) s.heap.objs.size f cdv))->∃u,gs (lU ko P w K mg base N eB (bX st) f cdv A outer s H E).nox (kn st) u/\∀as k,as.length=n->F as k->u {nx:=λ_=>k (.val .non),rt:=k} (as++SV (N.length-n) .no)):jT P w K mg base ko (lv+1) f fd ps (b7 K n F):=by
 refine qf.ok S (λvs H Q E h=>?_) (λcdv A outer s H vs Q E ak h=>?_)
 ·obtain⟨W,B,as,k,_,am,_,_,_,ey,_⟩:=h;rw[ey.length,am,aM]
 ·obtain⟨W,B,as,k,jb,am,ab,cQ,hw,ey,q⟩:=h;obtain⟨u,⟨t,bv,rt⟩,bn⟩:=kl cdv A outer s H E ak;have eZ:=aO.start (N:=N) (VV ab) cQ hw ey;rw[am]at eZ;refine⟨t,bv,rt _ _ (bn as k am jb) H W B H (L2.start N vs) _ eZ ⟨λρ σ av H' h e g=>?_,λ_ _ _ _ h=>h.elim,λ_ _ _ _ h=>h.elim,λr v av H' h e g z=>q r v av H' h ⟨e,g,z⟩⟩⟩;exact q _ _ av H' h ⟨e.toWd,g,.non⟩
def wI(K:Sv):hK:=λvs H Q _=>∃(a:TI)(ns:Zc),vs=[.ref a]/\cx K H a (ns.map V.int)/\ns.length<=63/\∀H',Q (.bl true) H'
def Fy:ca:=λas k=>∃ns:Zc,as=[.val (.scr ns)]/\ns.length<=63/\k (.val (.bl true))
def Oi{K:Sv}{vs:Zf}{H:aj}{Q:cJ}{E:gi}(h:wI K vs H Q E):b7 K 1 Fy vs H Q E:=by
 obtain⟨a,ns,rfl,cu,am,q⟩:=h;refine⟨λ_=>False,H,[.val (.scr ns)],λr=>r=.val (.bl true),⟨ns,rfl,am,rfl⟩,rfl,rfl,b2.refl _,λ_ z=>z.elim,.val (.scr cu) .nil,λr v av H' ak ex=>?_⟩;subst ak;have:=ex.res;rw[bA.blV this];exact q H'
def Fz(K:Sv):hK:=λvs H Q _=>∃(a:TI)(k:Int)(ns:Zc),vs=[.ref a,.int k]/\cx K H a (ns.map V.int)/\0<=k/\∀z,Q (.int z) H
def FA:ca:=λas k=>∃(ns:Zc)(i:Int),as=[.val (.scr ns),.val (.int i)]/\0<=i/\∀z:Int,k (.val (.int z))
def Wd.entry{H B:aj}{W:TI->Prop}(cQ:b2 B H)(hw:∀a,W a->B a=none/\g7 H a):Wd H W B H:=
 ⟨λ_ _ h _=>h,cQ,λa h=>(hw a h).1,λa h=>(hw a h).2,λa h=>by obtain⟨x,y,q,_⟩:=(hw a h).2;rw[q];simp⟩
def Oj{K:Sv}{vs:Zf}{H:aj}{Q:cJ}{E:gi}(h:b7 K 2 FA vs H Q E):Fz K vs H Q E:=by
 obtain⟨W,B,as,k,⟨ns,i,rfl,ay,ag⟩,am,ab,cQ,hw,ey,q⟩:=h;cases ey with
 |val r1 ey=>cases ey with
  |val r2 ey=>
   cases ey;obtain⟨a,rfl,ar⟩:=r1.scrV;cases r2.intV;exact⟨a,i,ns,rfl,cQ.seq ar,ay,λz=>q _ _ B H (ag z) ⟨Wd.entry cQ hw,bM.refl _ _,.int z⟩⟩
def FB:hK:=λvs H Q _=>∃c:Int,vs=[.int c]/\∀(b:TI)(x y:Int),H b=none->0<=x->0<=y->y<2147483647->Q (.ref b) (upd H b (.lst [.int x,.int y]))
def FC:ca:=λas k=>∃c:Int,as=[.val (.int c)]/\k .bag
def Ol{K:Sv}{vs:Zf}{H:aj}{Q:cJ}{E:gi}(h:b7 K 1 FC vs H Q E):FB vs H Q E:=by
 obtain⟨W,B,as,k,⟨c,rfl,ag⟩,am,ab,cQ,hw,ey,q⟩:=h;cases ey with
 |val r1 ey=>
  cases ey;cases r1.intV;refine⟨c,rfl,λb x y aM ce b8 bI=>?_⟩;have wd:=Wd.entry cQ hw;exact q .bag _ B _ ag ⟨wd.allocH aM _,bM.refl _ _,b,rfl,aM,(wd.fresh aM).2.2,x,y,dZ,ce,b8,bI⟩
def FD(lim:Nat):hK:=λvs H Q _=>∃(b:TI)(m:Int),vs=[.ref b,.int m]/\g7 H b/\0<m/\wp m<=lim/\∀(r:Int)(H':aj),mM b H H'->g7 H' b->0<=r->r<m->Q (.int r) H'
def FE(lim:Nat):ca:=λas k=>∃m:Int,as=[.bag,.val (.int m)]/\0<m/\wp m<=lim/\∀r:Int,0<=r->r<m->k (.val (.int r))
def Om{K:Sv}{lim:Nat}{vs:Zf}{H:aj}{Q:cJ}{E:gi}(h:b7 K 2 (FE lim) vs H Q E):FD lim vs H Q E:=by
 obtain⟨W,B,as,k,⟨m,rfl,dO,fK,ag⟩,am,ab,cQ,hw,ey,q⟩:=h;cases ey with
 |bag h8 ey=>cases ey with
  |val r2 ey=>
   cases ey;cases r2.intV
   rename_i b
   refine⟨b,m,rfl,(hw b h8).2,dO,fK,λr H' ex iu gQ r1=>?_⟩;have wd:=Wd.entry cQ hw;refine q _ _ B H' (ag r gQ r1) ⟨⟨λa o h1 h2=>ex a o (by rintro rfl;exact h2 h8) h1,λa o h1=>ex a o (by rintro rfl;rw[(hw _ h8).1]at h1;cases h1) (cQ a o h1),wd.wb,λa z=>?_,wd.wr⟩,bM.refl _ _,.int r⟩;by_cases e:a=b
   ·subst e;exact iu
   ·obtain⟨x,y,h1,h2⟩:=(hw a z).2;exact⟨x,y,ex a _ e h1,h2⟩
def rH{c:Bool}{A B:Prop}(h:c=true)(a:A):if c=true then A else B:=by rw[SC h];exact a
def rI{c:Bool}{A B:Prop}(h:c=false)(b:B):if c=true then A else B:=by rw[h,SL S3];exact b
def FF{x y:D}{A B:Prop}(h1:x=y->A)(h2:x≠y->B):if eqD x y=true then A else B:=by
 by_cases h:x=y
 ·rw[SC (qg.mpr h)];exact h1 h
 ·rw[SL (λz=>h (qg.mp z))];exact h2 h
def FG{x y:D}{A B:Prop}(h1:x≠y->A)(h2:x=y->B):if(!eqD x y)=true then A else B:=by
 by_cases h:x=y
 ·rw[qg.mpr h];exact h2 h
 ·have:eqD x y=false:=by
   cases q:eqD x y with
   |false=>rfl
   |true=>exact absurd (qg.mp q) h
  rw[this];exact h1 h
def cZ{u:cB}{U:gC}{ρ r:Zg}(e:ρ=r)(h:u U r):u U ρ:=by rw[e];exact h
def lc{s t:cB}{U:gC}{ρ:Zg}(first:∀N:Zg->Prop,N ρ->s {U with nx:=N} ρ)(rest:t U ρ):tu s t U ρ:=first (t U) rest
def dX{s t:cB}{U:gC}{ρ:Zg}(I:Zg->Prop)(rest:∀bq,I bq->t U bq)(first:∀N:Zg->Prop,(∀bq,I bq->N bq)->s {U with nx:=N} ρ):tu s t U ρ:=first _ rest
end L3
namespace L3
open PySem L2
section
variable{X:aK}
def ib{bm cs:List (Str×TI)}(h:∀p∈bm,cs.lookup p.1=some p.2):∀y c,bm.lookup y=some c->cs.lookup y=some c:=λy c e=>h (y,c) (Ux e)
def iw{names:List (Str×YH)}{bm:List (Str×TI)}(h:(names.all λp => !(p.2==.cell||p.2==.free)||(bm.lookup p.1).isSome)=true):∀y,(names.lookup y=some .cell\/names.lookup y=some .free)->∃c,bm.lookup y=some c:=λy e=>by
 have key:∀k:YH,(k==.cell||k==.free)=true->names.lookup y=some k->∃c,bm.lookup y=some c:=λk ag e=>by
  have q:=U2.mp h (y,k) (Ux e);have q:(!(k==.cell||k==.free)||(bm.lookup y).isSome)=true:=q;rw[ag]at q;exact Wy.mp (by simpa using q)
 rcases e with e|e
 ·exact key _ rfl e
 ·exact key _ rfl e
end
end L3
namespace L2
open PySem PySem.Spec PyProof.Rows
def oP(X:aK)(d8:Zp)(tt:fh):Prop:=∀(pins:Zs)(s:TE)(σ:St)(H:aj)(Q:Bool->aj->Prop),Inv X pins σ H s->tt σ H Q->
 wpAny (T0 X.prog X.w) X.A (forIn d8 true λt r=>if r=true then do let z <-YY t X.env (Xv t X.env);pure (Vk z)else pure (Vk r)) (vJ X pins σ Q) X.xe s
def On:fh:=λ_ H Q=>Q true H
def Oo{X:aK}:oP X [] On:=λ_ _ _ H _ I h=>wpAny_tests_nil ⟨H,I,h⟩
def Op{X:aK}{c:UV}{tt:fh}(h:jj X c tt):oP X [c] tt:=λpins s σ H Q I q=>wpAny_tests_one (h pins s σ H Q I q)
def Oq{P:Uf}{w:Xk}{A:Xq}{R:Result->TE->Prop}{s:TE}{dY bz src:UV}{d8:Zp}{sc:Yd}{ps:Pos}{ou acc:Tl}{env:UL}(tE:Nat->TE->Prop)(n:Nat)(h0:tE n s)(turn:∀n s,tE n s->wpAny (T0 P w) A (YG ou) (λr az=>match r with
   |none=>R (.ok .next) az
   |some v=>wpAny (T0 P w) A (X7 bz ou v) (λ_ sg=>wpAny (T0 P w) A (Yx bz env v) (λ_ a'=>
     wpAny (T0 P w) A (forIn d8 true λt r=>if r=true then do let z <-YY t env (Xv t env);pure (Vk z)else pure (Vk r)) (λz cn=>
      if z=true then wpAny (T0 P w) A (Xv dY env) (λy kU=>wpAny (T0 P w) A (call (.builtin "list.append") [acc,y]) (λ_ i4=>∃m,m<n/\tE m i4) (Y2 (T0 P w) A env λe s'=>R (.error e) s') kU) (Y2 (T0 P w) A env λe s'=>R (.error e) s') cn
      else ∃m,m<n/\tE m cn) (Y2 (T0 P w) A env λe s'=>R (.error e) s') a') (Y2 (T0 P w) A env λe s'=>R (.error e) s') sg) (Y2 (T0 P w) A env λe s'=>R (.error e) s') az) (Y2 (T0 P w) A env λe s'=>R (.error e) s') s):
  codeAny (T0 P w) A (.compLoop (.ListComp dY [⟨bz,src,d8,0⟩] sc ps) 0 ou acc env) R s:=by
 refine codeAny_loop rfl tE (λk s' aL=>?_) n h0;show wpAny _ A ((compTurn (.ListComp dY [⟨bz,src,d8,0⟩] sc ps) 0 ou acc env).onRaise (λz=>do noteFrame z env;theTreesLotGoes z)) _ _ s';rw[compTurn_list];refine wpAny_noted (SB (X3 (SB (Xz (turn k s' aL) (λr az h1=>?_) λ_ _ z=>z))));cases r with
 |none=>exact Tk h1
 |some v=>
  refine SB (Xz h1 (λ_ sg aC=>SB (Xz aC (λ_ a' h2=>SB (Xz h2 (λz cn aF=>?_) λ_ _ q=>q)) λ_ _ q=>q)) λ_ _ q=>q);cases z with
  |false=>exact Tk ⟨rfl,aF⟩
  |true=>exact SB (SB (Xz aF (λy kU bb=>SB (Xz bb (λ_ i4 cX=>Tk (Tk ⟨rfl,cX⟩)) λ_ _ q=>q)) λ_ _ q=>q))
def Os(J:iK)(g:hs)(tt:fh)(cK:bP)(Ot:St)(D:TI)(aq:aj)(Q:cJ):Prop:=∃W:Nat->Nat->St->aj->Prop,(∃m,W 0 m Ot (upd aq D (.lst [])))/\∀i m σ H,W i m σ H->
 (J.stop i H/\Q (.ref D) H)\/(J.go i H/\∀x H',J.yld i H x H'->g x σ H' λre aQ=>tt re aQ λb cR=>if b=true then cK re cR λy kz=>∃ys,kz D=some (.lst ys)/\ys.length<TT/\∃m',m'<m/\W (i+1) m' re (upd kz D (.lst (ys++[y])))else ∃m',m'<m/\W (i+1) m' re cR)
def rJ(f9:h6)(g:hs)(tt:fh)(cK:bP)(d2:Nat)(js:Zj):bP:=λσ H Q=>f9 σ H λJ aq=>∀D,aq D=none->Os J g tt cK (SV d2 none++ip σ js) D aq Q
section
variable{X:aK}
structure oQ (X:aK) (scope:Yd) (bm:List (Str×TI)) (fr:Zm) (js:Zj):Prop where
 clos:closureFor scope X.env=pure bm
 cell:∀y∈scope.names,y.2≠.cell
 kind:scope.kind=.function
 names:∀y∈scope.names,y.2=.local->scope.names.lookup y.1=some .local
 sub:∀y c,bm.lookup y=some c->X.env.cells.lookup y=some c
 has:∀y,((relabel scope X.env).names.lookup y=some .cell\/(relabel scope X.env).names.lookup y=some .free)->∃c,bm.lookup y=some c
 frn:∀(i:Nat)(y:Str),fr[i]?=some y->∃j:Nat,js[i]?=some j/\X.N[j]?=some y/\X.env.kindOf y=some .cell/\((relabel scope X.env).names.lookup y=some .cell\/(relabel scope X.env).names.lookup y=some .free)/\∃c,bm.lookup y=some c
 len:js.length=fr.length
def FH{dY dB bz:UV}{d8:Zp}{pos:Pos}{scope:Yd}{bm:List (Str×TI)}{ts fr:Zm}{js:Zj}{f9:h6}{g:hs}{tt:fh}{cK:bP}{use:Option (Tl->Sem Unit)}{RQ:Tl->TE->Prop}{QE:cJ}(ay:kk X bz dB f9)(aC:∀C s H ex,jO (dF X (ts++fr) scope bm C s H ex) bz g)(jr:∀C s H ex,oP (dF X (ts++fr) scope bm C s H ex) d8 tt)(jt:∀C s H ex,b4 (dF X (ts++fr) scope bm C s H ex) dY cK)(F:oQ X scope bm fr js)(hc:X.calm=true)(al:∀v,UF dB X.env v=pure v){pins:Zs}{s:TE}{σ:St}{H:aj}(I:Inv X pins σ H s)(h:rJ f9 g tt cK ts.length js σ H QE)(FI:Sem Tl)(Ou:FI=newList [])(FJ:Pos)(FK:∀(D C:TI) (gB:aj) (i5:TE) (m:Str->Option Tl),i5.heap.Ns C m->gB C=none->C≠X.env.locals->X.s₀.heap.objs.size<=C->(∀x c,X.env.cells.lookup x=some c->c≠C)->(∀p∈X.pn++pins,p.1≠C)->C∉X.fs->(∀h':Xx,(∀b u,b≠C->i5.heap.get? b=some u->h'.get? b=some u)->Inv X pins σ gB {i5 with heap:=h' })->QE (.ref D) gB->compPost (T0 X.prog X.w) X.A X.xe use RQ (.ref D) C (.ok .next) i5):
  wpAny (T0 X.prog X.w) X.A (comprehension (.ListComp dY [⟨bz,dB,d8,0⟩] scope pos) scope X.env FJ FI false (Xv dB X.env) use) RQ X.xe s:=by
 refine wpAny_comprehension_free (use:=use) rfl al F.clos F.kind F.names (cm (ay pins s σ H _ I h) λahD az h1=>cm h1 λou a' h2=>?_);obtain⟨it,cI,iL,J,aQ,rfl,d3,T,pZ,a9,h2⟩:=h2;have hM:aQ a'.heap.objs.size=none:=d3.fresh;obtain⟨W,⟨dO,w0⟩,turn⟩:=h2 _ hM;rw[Ou];refine WF ?_;have dn:Inv X pins σ (upd aQ a'.heap.objs.size (.lst [])) {a' with heap:=a'.heap.push {cls:=.type "list",data:=.seq ([]:Zn).toArray} }:=d3.lnew (t':=a'.toks) (its:=[]) .nil vz;generalize nK:({a' with heap:=a'.heap.push {cls:=.type "list",data:=.seq ([]:Zn).toArray} }:TE)=cn at dn;have bw:cn.heap=a'.heap.push {cls:=.type "list",data:=.seq ([]:Zn).toArray}:=by rw[<-nK]
 generalize FL:upd aQ a'.heap.objs.size (.lst [])=cR at dn w0;generalize Ov:a'.heap.objs.size=D at hM FL w0 turn;have gG:∀b o,a'.heap.get? b=some o->cn.heap.get? b=some o:=λb o e=>by rw[bw];exact Heap.get?_push_of_some _ e
 have bE:∀b∈cI,kT X pins cR b:=λb ab=>by
  obtain⟨o,aA,_⟩:=T.obj _ _ pZ b ab;have lt:=Heap.lt_size aA;refine⟨?_,(a9 b ab).2⟩;rw[<-FL,c6 (by rw[<-Ov];exact Tf lt)];exact(a9 b ab).1
 refine wpAny_newFunctionEnv F.cell (by intro y aN;simp at aN) (λh1 oy Ow=>?_) F.kind;have Ox:cn.heap.get? cn.heap.objs.size=none:=Heap.get?_none_of_le (Sy _);have hf:∀b o,cn.heap.get? b=some o->h1.get? b=some o:=λb o e=>Ow.extBut b o (Tf (Heap.lt_size e)) (Heap.get?_push_of_some _ e);show codeAny (T0 X.prog X.w) X.A (.compStart (.ListComp dY [⟨bz,dB,d8,0⟩] scope pos) 0 (.ref it) (.ref D) (Za scope bm cn.heap.objs.size X.env)) (compPost (T0 X.prog X.w) X.A X.xe use RQ (.ref D) cn.heap.objs.size) _
 have ok:(dF X (ts++fr) scope bm cn.heap.objs.size cn cR cI).Ok:=by
  refine⟨dn.ok.mod,F.kind,dn.ok.glob,dn.ok.blt,Sy _,λy z c ah ap=>dn.ok.inj y z c (F.sub _ _ ah) (F.sub _ _ ap),λy aN=>F.has y aN,λy c z=>absurd z S3,dn.ok.hd,dn.ok.frames,.inl rfl,λb ab=>?_,dn.bs,SE dn.ok.bsz dn.sz,
   λb o e ab=>?_,λb ab bu=>?_,dn.stack,dn.stkFree⟩
  ·obtain⟨o,aA,_⟩:=T.obj _ _ pZ b ab;exact⟨Tf (Heap.lt_size (gG b o aA)),λy c e=>(bE b ab).2.2.2.2.1 y c (F.sub _ _ e)⟩
  ·obtain⟨_,_,_,z,_⟩:=bE b ab;rcases z with z|z
   ·exact dn.ok.noex b o e z
   ·exact absurd (Tq (Heap.lt_size (dn.ok.bs b o e).1) z) (T6 _)
  ·rcases SK.mp (dn.stkSub b bu)with z|z
   ·exact(bE b ab).2.1 z
   ·exact(bE b ab).2.2.1 z
 have Oy:∀(eO:Xx),(∀b u,cn.heap.get? b=some u->eO.get? b=some u)->∀(i:Nat)(y:Str)(v:V),fr[i]?=some y->(ip σ js)[i]?=some (some v)->∃u,RelV v u/\∀m,Look (Za scope bm cn.heap.objs.size X.env) eO m y u:=λeO aG i y v ah ap=>by
  obtain⟨j,Oz,tF,ag,OA,c,wJ⟩:=F.frn i y ah
  have OB:σ[j]?=some (some v):=by
   unfold ip at ap;rw[SX,Oz,U3]at ap;have ap:=SS ap;cases q:σ[j]? with
   |none=>rw[q]at ap;simp at ap
   |some z=>rw[q]at ap;simpa using ap
  obtain⟨m,aM,am⟩:=dn.loc;obtain⟨u,r,l⟩:=am j y v tF OB (.inr (.inl ag));refine⟨u,r,λm'=>.inr ⟨OA,c,wJ,?_⟩⟩;rcases l with⟨z,_⟩|⟨_,c',vI,OC⟩
  ·rw[ag]at z;cases z
  ·have e:=F.sub _ _ wJ;rw[vI]at e;cases e;obtain⟨oR,aR,bK⟩:=OC;exact⟨oR,aG _ _ aR,bK⟩
 have ot:Inv (dF X (ts++fr) scope bm cn.heap.objs.size cn cR cI) [] (SV ts.length none++ip σ js) cR {cn with heap:=h1,toks:=cn.toks+([]:List (Str×Tl)).length}:=by
  refine⟨ok,rfl,dn.bare,f8.kept hf,⟨_,oy,λi y v ah ap bw=>?_⟩,λy c e=>?_,dn.fresh,λy c e=>dn.freeC y c (F.sub _ _ e),λp ae=>absurd (show p∈([]:Zs)from ae) (by simp),dn.hok.kept hf,?_⟩
  ·by_cases cM:i<ts.length
   ·rw[Tt (by simpa using cM),Uj,SC cM]at ap;cases ap
   ·have ah:(ts++fr)[i]?=some y:=ah;rw[Tg (by lia)]at ah;rw[Tg (by simp;lia),T9]at ap;obtain⟨u,r,l⟩:=Oy h1 hf _ y v ah ap;exact⟨u,r,l _⟩
  ·obtain⟨v,oR,aR,bK⟩:=dn.cell y c (F.sub _ _ e);exact⟨v,oR,hf _ _ aR,bK⟩
  ·show _=(ts++fr).length
   rw[SH,SH,T9];unfold ip;rw[Sw,F.len]
 have p0:∀{H':aj},(∀b∈cI,H' b=none)->∀b∈cI,kT (dF X (ts++fr) scope bm cn.heap.objs.size cn cR cI) [] H' b:=λaM b ab=>by
  obtain⟨o,aA,_⟩:=T.obj _ _ pZ b ab;exact⟨aM b ab,(ok.exf b ab).1,ok.exfs b ab,.inl ab,(ok.exf b ab).2,λp ae=>absurd (show p∈([]:Zs)from ae) (by simp)⟩
 have loop:∀kU:TE,kU={cn with heap:=h1,toks:=cn.toks+([]:List (Str×Tl)).length}->
   codeAny (T0 X.prog X.w) X.A (.compLoop (.ListComp dY [⟨bz,dB,d8,0⟩] scope pos) 0 (.ref it) (.ref D) (Za scope bm cn.heap.objs.size X.env)) (compPost (T0 X.prog X.w) X.A X.xe use RQ (.ref D) cn.heap.objs.size) kU:=by
  intro kU cT;rw[<-cT]at ot;have OD:iL 0 kU.heap:=T.keep _ _ _ pZ λb _ o e=>by rw[cT];exact hf b o (gG b o e)
  refine Oq (λn s'=>∃i a6 H',Inv (dF X (ts++fr) scope bm cn.heap.objs.size cn cR cI) [] a6 H' s'/\iL i s'.heap/\(∀b∈cI,H' b=none)/\W i n a6 H') dO ⟨0,_,cR,ot,OD,λb ab=>(bE b ab).1,w0⟩ ?_;rintro n i4 ⟨i,wK,gB,pW,rf,vQ,OE⟩;rcases turn i n wK gB OE with⟨stop,q⟩|⟨go,step⟩
  ·refine cm (T.done (dF X (ts++fr) scope bm cn.heap.objs.size cn cR cI) rfl rfl rfl hc i [] i4 wK gB _ pW (p0 vQ) rf stop) λr i5 ⟨ak,kW⟩=>?_;subst ak;obtain⟨m,aM,_⟩:=id kW.loc;refine FK D cn.heap.objs.size gB i5 m aM kW.free (U8 dn.lt) dn.sz (λy c e z=>?_) (λp ae z=>?_) (dn.nofs (Sy _)) (λh' wL=>?_) q
   ·obtain⟨v,oR,aR,bK⟩:=dn.cell y c e;exact absurd (Heap.lt_size aR) (by rw[z];exact T6 _)
   ·exact absurd (Heap.lt_size (dn.pin p ae).1) (by rw[z];exact T6 _)
   ·refine dn.call' (s':={i5 with heap:=h' }) (ch:=cI) kW.os ((show f8 (kQ X.stack) cI cR gB cn.heap i5.heap from kW.base).but Ox wL) (kW.hok.but kW.free wL) kW.bare (λb ab=>?_);obtain⟨_,z1,_,ew,d7,kA⟩:=bE b ab;exact⟨ew,z1,d7,kA⟩
  ·refine cm (T.item (dF X (ts++fr) scope bm cn.heap.objs.size cn cR cI) rfl rfl rfl hc i [] i4 wK gB _ pW (p0 vQ) rf go) λr i5 ⟨u,ak,fN⟩=>?_;subst ak;refine cm fN λ_ nv ⟨v,jR,i6,z',OF,A0,OG⟩=>?_;have OH:=i6.pinned (p0 OG) (T.obj _ _ A0)
   have back:∀{rK:TE}{wM:St}{rL:aj}{n':Nat},Inv (dF X (ts++fr) scope bm cn.heap.objs.size cn cR cI) ([]++s2 cI nv.heap) wM rL rK->W (i+1) n' wM rL->∃i a6 H',Inv (dF X (ts++fr) scope bm cn.heap.objs.size cn cR cI) [] a6 H' rK/\iL i rK.heap/\(∀b∈cI,H' b=none)/\W i n' a6 H':=λ{rK wM rL n'} rM A1=>by
    refine⟨i+1,wM,rL,rM.unpinned (pins:=[]),T.keep _ _ _ A0 λb ab oR hA=>(rM.pin (b,oR) (Ts _ (Ts _ (vP ab hA)))).1,λb ab=>?_,A1⟩;obtain⟨oR,hA,_⟩:=T.obj _ _ A0 b ab;exact(rM.pin (b,oR) (Ts _ (Ts _ (vP ab hA)))).2.1
   refine Xz (aC cn.heap.objs.size cn cR cI _ nv wK jR v u _ OH z' (step v jR OF)) (λ_ OI ⟨OJ,OK,OL,tG⟩=>?_) (λ_ _ z=>z.elim);refine Xz (jr cn.heap.objs.size cn cR cI _ OI OJ OK _ OL tG) (λb rK ⟨rL,rM,rN⟩=>?_) (λ_ _ z=>z.elim);cases b with
   |false=>
    rw[SL S3]at rN⊢;obtain⟨m',kB,A1⟩:=rN;exact⟨m',kB,back rM A1⟩
   |true=>
    rw[SC rfl]at rN⊢;refine Xz (jt cn.heap.objs.size cn cR cI _ rK _ rL _ rM rN) (λOM ON ⟨y,FM,OO,OP,ys,OQ,OR,m',kB,OS⟩=>?_) (λ_ _ z=>z.elim);have mt:=v7 (X:=dF X (ts++fr) scope bm cn.heap.objs.size cn cR cI) _ ON _ FM (.ref D) [y] (.ref D) [OM] (λ_ H'=>H'=upd FM D (.lst (ys++[y]))) OO rfl (.cons OP .nil) ⟨D,ys,y,rfl,rfl,OQ,OR,rfl⟩;refine Xz mt (λ_ ahE ⟨_,ahF,OT,_,OU⟩=>?_) (λ_ _ z=>z.elim);subst OU;exact⟨m',kB,back OT OS⟩
 exact codeAny_compStart_list (loop _ rfl) (T.self _ 0 _ _ _ (T.keep _ _ _ pZ λb _ o e=>hf b o (gG b o e)) (loop _ rfl))
def A2{dY dB bz:UV}{d8:Zp}{pos:Pos}{scope:Yd}{bm:List (Str×TI)}{ts fr:Zm}{js:Zj}{f9:h6}{g:hs}{tt:fh}{cK:bP}(ay:kk X bz dB f9)(aC:∀C s H ex,jO (dF X (ts++fr) scope bm C s H ex) bz g)(jr:∀C s H ex,oP (dF X (ts++fr) scope bm C s H ex) d8 tt)(jt:∀C s H ex,b4 (dF X (ts++fr) scope bm C s H ex) dY cK)(F:oQ X scope bm fr js)(hc:X.calm=true)(al:∀v,UF dB X.env v=pure v):b4 X (.ListComp dY [⟨bz,dB,d8,0⟩] scope pos) (rJ f9 g tt cK ts.length js):=by
 intro pins s σ H Q I h;rw[eval_ListComp];refine FH ay aC jr jt F hc al I h _ rfl _ λD C gB i5 m aM _ _ _ _ _ _ iI q=>⟨m,aM,λh' eF=>⟨.ref D,gB,iI h' λb u ab e=>eF.extBut b u ab e,rfl,q⟩⟩
def FN{dY dB bz:UV}{d8:Zp}{pos:Pos}{scope:Yd}{bm:List (Str×TI)}{ts fr:Zm}{js:Zj}{f9:h6}{g:hs}{tt:fh}{cK:bP}{i:Nat}{y:Str}{fV oS:Pos}(a4:X.N.Nodup)(tH:X.N[i]?=some y)(aN:X.env.scope.names.lookup y=some .local)(ay:kk X bz dB f9)(aC:∀C s H ex,jO (dF X (ts++fr) scope bm C s H ex) bz g)(jr:∀C s H ex,oP (dF X (ts++fr) scope bm C s H ex) d8 tt)(jt:∀C s H ex,b4 (dF X (ts++fr) scope bm C s H ex) dY cK)(F:oQ X scope bm fr js)(hc:X.calm=true)(al:∀v,UF dB X.env v=pure v)(kx:Xi (.ListComp dY [⟨bz,dB,d8,0⟩] scope pos) (some (.Name y fV)) oS.line X.env=pure true):
  jk X (.Assign [.Name y fV] (.ListComp dY [⟨bz,dB,d8,0⟩] scope pos) oS) (z4 (rJ f9 g tt cK ts.length js) (vM i)):=by
 intro pins s σ H D I h;rw[exec_Assign_Name_used _ _ _ _ kx];refine SB (X3 (SB ?_));show wpAny _ X.A (do let _ <-comprehension (.ListComp dY [⟨bz,dB,d8,0⟩] scope pos) scope X.env _ (newList []) false (Xv dB X.env) (some (Yx (.Name y fV) X.env))) _ _ s
 refine SB (cm (FH (RQ:=λ_ s'=>∃a6 H',Inv X pins a6 H' s'/\D.nx a6 H') (QE:=λv aq=>vM i v σ aq D.nx) ay aC jr jt F hc al I h _ rfl _ ?_) λ_ s' q=>Tk (Tk q));intro L C gB i5 m aM bu e5 jU wJ OV OW iI q;obtain⟨o,es,a3,aA,hd,r⟩:=id aM;have kW:Inv X pins σ gB i5:=iI i5.heap λb u _ e=>e
 have OX:Inv X (pins++[(C,o)]) σ gB i5:=kW.pins_of λp ae=>by
  rcases SR.mp ae with z|z
  ·exact kW.pin p (Ts _ z)
  ·have z:p=(C,o):=by simpa using z
   subst z;exact⟨aA,bu,e5,OW,λv z=>by rw[hd]at z;cases z⟩
 show wpAny _ X.A (Yx (.Name y fV) X.env (.ref L)) _ _ _
 refine wpAny_assign_Name (q8 OX a4 tH (.inl aN) (v:=.ref L) rfl (λnv i6=>?_) (.inr aN));have mV:nv.heap.get? C=some o:=(i6.pin (C,o) (Ts _ (Ts _ (SO.mpr rfl)))).1;refine⟨m,⟨o,es,a3,mV,hd,r⟩,λh' eF=>⟨_,gB,?_,q⟩⟩;exact i6.unpinned.turned (t':=nv.toks) (λb u ab e=>eF.extBut b u ab e) bu e5 (.inr jU) wJ OV
end
end L2
namespace L3
open PySem L2
def gX(g:eP)(dV:dU)(u:a1):Zh->Zg->(Zh->Prop)->Prop
 |[],_,k=>k []
 |d::ds,ρ,k=>g d ρ λgd=>dV gd λb=>if b=true then u gd λy=>gX g dV u ds gd λys=>k (y::ys)else gX g dV u ds gd k
def kC:dU:=λ_ k=>k true
def oT(w:cU)(g:eP)(dV:dU)(u:a1)(d2:Nat)(js:Zj):cU:=λρ k=>w ρ λds=>ds.length<=TT/\gX g dV u ds (SV d2 .no++js.map (ky ρ)) k
section
variable{K:Sv}{X:aK}{e:UV}{es:Zp}{u:a1}{w:cU}{pos p:Pos}
def A3{ρ:Zg}(j:Nat):ky ρ j=.no\/(∃d,ky ρ j=.val d/\ρ[j]?=some (.val d))\/(ky ρ j=.bag/\ρ[j]?=some .bag):=by
 unfold ky;split
 ·rename_i d bS;exact .inr (.inl ⟨d,rfl,bS⟩)
 ·rename_i bS;exact .inr (.inr ⟨rfl,bS⟩)
 ·exact .inl rfl
def aO.within{R:aj}{W:TI->Prop}{B H:aj}{σ:St}{ρ:Zg}(e:aO K R W B H σ ρ)(d2:Nat){js:Zj}(qj:js.Nodup):
  aO K H (λa=>∃j,j∈js/\σ[j]?=some (some (.ref a))/\ρ[j]?=some .bag) B H (SV d2 none++ip σ js) (SV d2 .no++js.map (ky ρ)):=by
 have iu:∀(a:TI)(j:Nat),σ[j]?=some (some (V.ref a))->ρ[j]?=some aD.bag->B a=none/\g7 H a:=λa j z1 aP=>by
  obtain⟨c,c1,_,c3,c4⟩:=e.bagAt aP;rw[z1]at c1;cases c1;exact⟨c3,c4⟩
 refine⟨⟨λ_ _ z _=>z,e.bh,λa ⟨j,_,z1,aP⟩=>(iu a j z1 aP).1,λa ⟨j,_,z1,aP⟩=>(iu a j z1 aP).2,λa ⟨j,_,z1,aP⟩=>?_⟩,?_,λn aG ag=>?_,λn m a bf bL=>?_⟩
 ·obtain⟨x,y,q,_⟩:=(iu a j z1 aP).2;rw[q];simp
 ·unfold ip;simp
 ·by_cases cM:n<d2
  ·rw[Tt (by simpa using cM),Uj,SC cM]at ag;cases ag;trivial
  ·rw[Tg (by simp;lia),T9,SX]at ag;cases j2:js[n-d2]? with
   |none=>rw[j2]at ag;cases ag
   |some j=>
    rw[j2]at ag;have ag:=SS ag
    have A4:((SV d2 none++ip σ js)[n]?).join=(σ[j]?).join:=by
     rw[Tg (by simp;lia),T9];unfold ip;rw[SX,j2];rfl
    rw[A4,<-ag];rcases A3 (ρ:=ρ) j with z|⟨ia,z,bS⟩|⟨z,bS⟩<;>rw[z]
    ·trivial
    ·obtain⟨v,v1,dC⟩:=e.ok j _ bS;exact⟨v,v1,dC⟩
    ·obtain⟨c,c1,_,c3,c4⟩:=e.ok j _ bS;exact⟨c,c1,.inl ⟨j,Th j2,gr c1,bS⟩,c3,c4⟩
 ·have back:∀n,cy (SV d2 none++ip σ js) (SV d2 .no++js.map (ky ρ)) n a->∃j,d2<=n/\js[n-d2]?=some j/\cy σ ρ j a:=λn bR=>by
   rcases bR with⟨bf,bL⟩|⟨c,bf,_⟩
   rotate_left
   ·by_cases cM:n<d2
    ·rw[Tt (by simpa using cM),Uj,SC cM]at bf;cases bf
    ·rw[Tg (by simp;lia),T9,SX]at bf;cases j2:js[n-d2]? with
     |none=>rw[j2]at bf;cases bf
     |some j=>
      rw[j2,U3]at bf;rcases A3 (ρ:=ρ) j with z|⟨ia,z,bS⟩|⟨z,bS⟩<;>rw[z]at bf<;>cases bf
   by_cases cM:n<d2
   ·rw[Tt (by simpa using cM),Uj,SC cM]at bf;cases bf
   ·rw[Tg (by simp;lia),T9]at bf;obtain⟨j,j2,OY⟩:=N2 bf;rw[Tg (by simp;lia),T9,SX,j2]at bL;refine⟨j,by lia,j2,.inl ⟨gr OY.symm,.inl ?_⟩⟩;rcases A3 (ρ:=ρ) j with z|⟨ia,z,bS⟩|⟨z,bS⟩
    ·rw[U3,z]at bL;rcases bL with q|⟨_,q⟩<;>cases q
    ·rw[U3,z]at bL;rcases bL with q|⟨_,q⟩<;>cases q
    ·exact bS
  obtain⟨j,bj,j2,OZ⟩:=back n bf;obtain⟨rO,bt,O0,O1⟩:=back m bL;have:=e.sep j rO a OZ O1;subst this
  have eG:n-d2<js.length:=by
   by_cases z:n-d2<js.length
   ·exact z
   ·rw[S9 (by lia)]at j2;cases j2
  have:=(WK eG qj).mp (j2.trans O0.symm);lia
def wN{R:aj}{W:TI->Prop}{B:aj}{a:TI}{vs:Zf}(h:R a=some (.lst vs))(ek:¬W a):gq R W B a=some (.lst vs):=by
 unfold gq;rw[h];dsimp only;rw[SL ek]
def A5{R:aj}{W:TI->Prop}{B:aj}{a:TI}(h:W a):gq R W B a=B a:=by
 unfold gq;split
 ·rw[SC h]
 ·rfl
def wO{R:aj}{W:TI->Prop}{B:aj}{a:TI}(h:∀vs,R a≠some (.lst vs)):gq R W B a=B a:=by
 unfold gq;split
 ·rename_i vs e;exact absurd e (h vs)
 ·rfl
def wP{R:aj}{W:TI->Prop}{B:aj}{a:TI}{o:eX}(h:gq R W B a=some o):B a=some o\/(¬W a/\R a=some o/\∃vs,o=.lst vs):=by
 unfold gq at h;split at h
 ·rename_i vs e
  split at h
  ·exact .inl h
  ·rename_i z;cases h;exact .inr ⟨z,e,vs,rfl⟩
 ·exact .inl h
def FO{R:aj}{W:TI->Prop}{B H:aj}(w:Wd R W B H):b2 B (gq R W B):=λa o h=>by
 by_cases z:W a
 ·rw[A5 z];exact h
 ·by_cases q:∃vs,R a=some (.lst vs)
  ·obtain⟨vs,q⟩:=q;have h1:=w.fr a _ q z;rw[w.bh a o h]at h1;cases h1;exact wN q z
  ·rw[wO λvs e=>q ⟨vs,e⟩];exact h
def oU{R:aj}{W:TI->Prop}{B H:aj}(w:Wd R W B H):b2 (gq R W B) H:=λa o h=>by
 rcases wP h with h|⟨h1,h2,_⟩
 ·exact w.bh a o h
 ·exact w.fr a o h2 h1
def wQ{R:aj}{W nH:TI->Prop}{B av H:aj}(w:Wd R W B H)(s:b2 B av)(cQ:b2 av H)(hw:∀a,nH a->R a≠none->W a)(ab:∀a,nH a->av a=none):b2 (gq R W B) (gq H nH av):=λa o h=>by
 have dw:=oU w a o h;rcases wP h with h|⟨h1,h2,vs,rfl⟩
 ·have h':=s a o h;by_cases z:nH a
  ·rw[ab a z]at h';cases h'
  ·by_cases q:∃vs,H a=some (.lst vs)
   ·obtain⟨vs,q⟩:=q;rw[dw]at q;cases q;exact wN dw z
   ·rw[wO λvs e=>q ⟨vs,e⟩];exact h'
 ·exact wN dw λz=>h1 (hw a z (by rw[h2];simp))
def aO.rebase{R:aj}{W:TI->Prop}{B H:aj}{σ:St}{ρ:Zg}(e:aO K R W B H σ ρ)(ax:∀j a,cy σ ρ j a->W a):aO K H W B H σ ρ:=by
 refine⟨⟨λ_ _ z _=>z,e.bh,e.wb,e.wh,λa z=>by obtain⟨hv,fb,iH,_⟩:=e.wh a z;rw[iH];simp⟩,e.len,λj aG bS=>?_,e.sep⟩;have:=e.ok j aG bS;cases aG with
 |no=>trivial
 |new d=>
  obtain⟨v,h1,h2⟩:=this;exact⟨v,h1,h2.mono (wQ e.toWd (b2.refl _) e.bh (λ_ z _=>z) e.wb)⟩
 |pin v d=>exact⟨this.1,this.2.mono (wQ e.toWd (b2.refl _) e.bh (λ_ z _=>z) e.wb)⟩
 |val d=>exact this
 |own ds=>
  obtain⟨a,aR,bK,_⟩:=this;exact absurd bK (e.wr a (ax j a (.inl ⟨gr aR,.inr ⟨ds,bS⟩⟩)))
 |deep c=>exact absurd (this.2.fr _ Sx).1 (e.wr _ (ax j _ (.inr ⟨c,bS,Sx⟩)))
 |bag=>
  obtain⟨c,c1,c2,c3,c4⟩:=this;exact⟨c,c1,.inl (ax j c (.inl ⟨gr c1,.inl bS⟩)),c3,c4⟩
def aO.unbase{R:aj}{W:TI->Prop}{B H av H':aj}{σ:St}{ρ:Zg}(e:aO K R W B H σ ρ)(ax:∀j a,cy σ ρ j a->W a)(aS:aO K H W av H' σ ρ)(g:bM H B av):aO K R W av H' σ ρ/\bM R B av:=by
 refine⟨⟨⟨λa o z ek=>aS.fr a o (e.fr a o z ek) ek,aS.bh,aS.wb,aS.wh,e.wr⟩,aS.len,λj aG bS=>?_,aS.sep⟩,⟨g.s,λa o z=>?_⟩⟩
 ·have:=aS.ok j aG bS;cases aG with
  |no=>trivial
  |new d=>
   obtain⟨v,h1,h2⟩:=e.ok j _ bS;exact⟨v,h1,h2.mono (p' g.s)⟩
  |pin v d=>
   obtain⟨h1,h2⟩:=e.ok j _ bS;exact⟨h1,h2.mono (p' g.s)⟩
  |val d=>exact this
  |own ds=>
   obtain⟨a,aR,bK,_⟩:=e.ok j _ bS;exact absurd bK (e.wr a (ax j a (.inl ⟨gr aR,.inr ⟨ds,bS⟩⟩)))
  |deep c=>exact absurd ((e.deepAt bS).2.fr _ Sx).1 (e.wr _ (ax j _ (.inr ⟨c,bS,Sx⟩)))
  |bag=>
   obtain⟨c,c1,c2,c3,c4⟩:=this;exact⟨c,c1,.inl (ax j c (.inl ⟨gr c1,.inl bS⟩)),c3,c4⟩
 ·rcases g.n a o z with q|q
  ·exact .inl q
  ·exact .inr (e.toWd.fresh q).1
def A6{f9:h6}{g:hs}{tt:fh}{cK:bP}{fE:eP}{dV:dU}{d2:Nat}{js:Zj}(h0:AG K f9 w)(aC:rA K g fE)(bv:iO K tt dV)(h1:fm K cK u)(qj:js.Nodup):ry K (rJ f9 g tt cK d2 js) (oT w fE dV u d2 js):=by
 intro ρ k h R W B H σ Q e q;refine h0 ρ _ h R W B H σ _ e λds J aZ aq z1 ah aE it=>?_;obtain⟨am,z1⟩:=z1;intro D hM;obtain⟨aU,a9,bE⟩:=ah.toWd.fresh hM;have oV:∀i,¬cy σ ρ i D:=λi m=>ah.notNew hM m rfl;have ei:=ah.within d2 qj
 have l2:∀j a,cy (SV d2 none++ip σ js) (SV d2 .no++js.map (ky ρ)) j a->∃j,j∈js/\σ[j]?=some (some (V.ref a))/\ρ[j]?=some aD.bag:=λj a m=>by
  have bK:=(ei.mutOk m).2;rcases m with⟨bf,z|⟨es,z⟩⟩|⟨c,z,p7⟩
  ·obtain⟨c,c1,c2,_⟩:=ei.bagAt z;rw[bf]at c1;cases c1;rcases c2 with c2|c2
   ·exact c2
   ·exact absurd c2 bK
  ·obtain⟨c,c1,c2,_⟩:=ei.ownC z;rw[bf]at c1;cases c1;exact absurd c2 bK
  ·exact absurd ((ei.deepAt z).2.fr a p7).1 bK
 generalize oW:(λa=>∃j,j∈js/\σ[j]?=some (some (V.ref a))/\ρ[j]?=some aD.bag)=fO at ei;have l2:∀j a,cy (SV d2 none++ip σ js) (SV d2 .no++js.map (ky ρ)) j a->fO a:=λj a m=>by rw[<-oW];exact l2 j a m
 have h8:∀a,fO a->∃i:Nat,σ[i]?=some (some (.ref a))/\ρ[i]?=some .bag:=λa z=>by
  rw[<-oW]at z;obtain⟨j,_,z⟩:=z;exact⟨j,z⟩
 have l3:¬fO D:=λz=>by
  obtain⟨qk,bI,dD⟩:=h8 D z;exact oV qk (.inl ⟨bI,.inl dD⟩)
 refine⟨λi m j3 H'=>∃av ys es iQ,m=ds.length-i/\i<=ds.length/\aO K aq fO av H' j3 iQ/\bM aq aZ av/\H' D=some (.lst ys)/\av D=none/\(∀j a,cy j3 iQ j a->fO a)/\ys.length<=i/\Reps K av ys es/\gX fE dV u (ds.drop i) iQ λr=>k (es++r),
  ⟨ds.length,aZ,[],[],_,by simp,S8 _,ei.allocH hM _,bM.refl _ _,dZ,bE,l2,Sy _,.nil,by simpa using z1⟩,?_⟩
 rintro i m j3 aQ ⟨br,ys,es,iQ,rfl,ay,ap,aI,aN,ab,tI,FP,cg,aP⟩;obtain⟨d1,cY,hb⟩:=it aQ (aI.s.trans ap.bh) i;by_cases cM:i<ds.length
 ·refine .inr ⟨d1 cM,λx H' y=>?_⟩;obtain⟨rfl,d,hd,bc⟩:=hb x H' cM y
  have he:ds.drop i=d::ds.drop (i+1):=by
   rw[Ua cM];rw[S5 cM]at hd;rw[SS hd]
  rw[he]at aP;refine aC d iQ _ aP aq fO br H' j3 x _ ap (bc.mono aI.s) λiR gL ew bw bR=>?_;have hR:∀j a,cy gL iR j a->fO a:=λj a m=>tI j a (bR j a m)
  have l4:∀{gY:aj},bM H' br gY->gY D=none:=λ{gY} dQ=>by
   cases tJ:gY D with
   |none=>rfl
   |some o=>
    rcases dQ.n D o tJ with z|z
    ·rw[ab]at z;cases z
    ·rw[aN]at z;cases z
  refine bv iR _ ew H' fO br H' gL _ (bw.rebase hR) λb gY kz d7 cT dQ=>?_;have tK:kz D=some (.lst ys):=cT.fr D _ aN l3;cases b with
  |false=>
   rw[SL S3]at d7⊢;obtain⟨eE,j4⟩:=bw.unbase hR cT dQ;exact⟨ds.length-(i+1),by lia,gY,ys,es,iR,rfl,cM,eE,aI.trans j4,tK,l4 dQ,hR,by lia,cg.mono dQ.s,d7⟩
  |true=>
   rw[SC rfl]at d7⊢;refine h1 iR _ d7 H' fO gY kz gL _ cT λfb v tL gB kA eE j4 i4=>?_;have j5:=dQ.trans j4;have tM:gB D=some (.lst ys):=eE.fr D _ aN l3;obtain⟨jX,tN⟩:=bw.unbase hR eE j5;refine⟨ys,tM,by lia,ds.length-(i+1),by lia,tL,ys++[v],es++[fb],iR,rfl,cM,jX.scribble hM (l4 j5) (λj m=>l3 (hR j D m)) _,aI.trans tN,dZ,l4 j5,hR,by rw[SH,TA];lia,(cg.mono j5.s).append (.cons i4 .nil),?_⟩;simpa[S6]using kA
 ·have eq:i=ds.length:=by lia
  subst eq;rw[Uo]at aP;obtain⟨cT,dQ⟩:=ah.after h8 ap.toWd aI;refine .inl ⟨cY (Sy _),q _ D ys br aQ (by simpa[gX]using aP) cT (aE.trans dQ) aU ab aN cg oV⟩
def oX(X:aK)(d8:Zp)(dV:dU):Prop:=∃t,oP X d8 t/\iO X.K t dV
def jd:oX X [] kC:=⟨_,Oo,λρ k h R W B H σ Q e q=>q true B H h e (bM.refl _ _)⟩
def FQ{c:UV}{dV:dU}(h:ir X c dV):oX X [c] dV:=by
 obtain⟨_,h1,r1⟩:=h;exact⟨_,Op h1,r1⟩
def wR{dY:UV}{α:Type}{Xs:α->aK}(e8:∀a,(Xs a).K=K)(h:∀a,bg (Xs a) dY u):∃t,(∀a,b4 (Xs a) dY t)/\fm K t u:=by
 refine⟨λσ H Q=>∀a,∃t,b4 (Xs a) dY t/\fm K t u/\t σ H Q,λa pins s σ H Q I q=>?_,λρ k q R W B H σ Q e z a=>?_⟩
 ·obtain⟨t,bv,_,au⟩:=q a;exact bv pins s σ H Q I au
 ·obtain⟨t,bv,ak⟩:=h a;rw[e8 a]at ak;exact⟨t,bv,ak,ak ρ k q R W B H σ Q e z⟩
def tO{d8:Zp}{dV:dU}{α:Type}{Xs:α->aK}(e8:∀a,(Xs a).K=K)(h:∀a,oX (Xs a) d8 dV):∃t,(∀a,oP (Xs a) d8 t)/\iO K t dV:=by
 refine⟨λσ H Q=>∀a,∃t,oP (Xs a) d8 t/\iO K t dV/\t σ H Q,λa pins s σ H Q I q=>?_,λρ k q R W B H σ Q e z a=>?_⟩
 ·obtain⟨t,bv,_,au⟩:=q a;exact bv pins s σ H Q I au
 ·obtain⟨t,bv,ak⟩:=h a;rw[e8 a]at ak;exact⟨t,bv,ak,ak ρ k q R W B H σ Q e z⟩
def tP{bz:UV}{fE:eP}{α:Type}{Xs:α->aK}(e8:∀a,(Xs a).K=K)(h:∀a,jn (Xs a) bz fE):∃t,(∀a,jO (Xs a) bz t)/\rA K t fE:=by
 refine⟨λv σ H Q=>∀a,∃t,jO (Xs a) bz t/\rA K t fE/\t v σ H Q,λa pins s σ H v x Q I r q=>?_,λd ρ k q R W B H σ v Q e r z a=>?_⟩
 ·obtain⟨t,bv,_,au⟩:=q a;exact bv pins s σ H v x Q I r au
 ·obtain⟨t,bv,ak⟩:=h a;rw[e8 a]at ak;exact⟨t,bv,ak,ak d ρ k q R W B H σ v Q e r z⟩
variable{dY dB bz:UV}{d8:Zp}{scope:Yd}{bm:List (Str×TI)}{ts fr:Zm}{js:Zj}{fE:eP}{dV:dU}
theorem mW(ay:lX X bz dB w)(aC:∀C s H ex,jn (dF X (ts++fr) scope bm C s H ex) bz fE)(jr:∀C s H ex,oX (dF X (ts++fr) scope bm C s H ex) d8 dV)(jt:∀C s H ex,bg (dF X (ts++fr) scope bm C s H ex) dY u)(F:oQ X scope bm fr js)(nL:js.Nodup:=by decide)(hc:X.calm=true:=by rfl)(al:∀v,UF dB X.env v=pure v:=by intro _;rfl):k3 X (.ListComp dY [⟨bz,dB,d8,0⟩] scope pos) (oT w fE dV u ts.length js):=by
 obtain⟨_,h0,gQ⟩:=ay;obtain⟨wS,nM,rg⟩:=tP (K:=X.K) (Xs:=λa:TI×TE×aj×Zo=>dF X (ts++fr) scope bm a.1 a.2.1 a.2.2.1 a.2.2.2) (λ_=>rfl) λa=>aC a.1 a.2.1 a.2.2.1 a.2.2.2;obtain⟨tt,nN,rt⟩:=tO (K:=X.K) (Xs:=λa:TI×TE×aj×Zo=>dF X (ts++fr) scope bm a.1 a.2.1 a.2.2.1 a.2.2.2) (λ_=>rfl) λa=>jr a.1 a.2.1 a.2.2.1 a.2.2.2;obtain⟨cK,nO,jq⟩:=wR (K:=X.K) (Xs:=λa:TI×TE×aj×Zo=>dF X (ts++fr) scope bm a.1 a.2.1 a.2.2.1 a.2.2.2) (λ_=>rfl) λa=>jt a.1 a.2.1 a.2.2.1 a.2.2.2;exact⟨_,A2 h0 (λC s H ex=>nM (C,s,H,ex)) (λC s H ex=>nN (C,s,H,ex)) (λC s H ex=>nO (C,s,H,ex)) F hc al,A6 gQ rg rt jq nL⟩
theorem wT{i:Nat}{y:Str}{fV oS:Pos}(a4:X.N.Nodup)(tH:X.N[i]?=some y)(aN:X.env.scope.names.lookup y=some .local)(ay:lX X bz dB w)(aC:∀C s H ex,jn (dF X (ts++fr) scope bm C s H ex) bz fE)(jr:∀C s H ex,oX (dF X (ts++fr) scope bm C s H ex) d8 dV)(jt:∀C s H ex,bg (dF X (ts++fr) scope bm C s H ex) dY u)(F:oQ X scope bm fr js)(nL:js.Nodup:=by decide)(hc:X.calm=true:=by rfl)(al:∀v,UF dB X.env v=pure v:=by intro _;rfl)(kx:Xi (.ListComp dY [⟨bz,dB,d8,0⟩] scope pos) (some (.Name y fV)) oS.line X.env=pure true:=by rfl):
  fo X (.Assign [.Name y fV] (.ListComp dY [⟨bz,dB,d8,0⟩] scope pos) oS) (AM i (oT w fE dV u ts.length js)):=by
 obtain⟨_,h0,gQ⟩:=ay;obtain⟨wS,nM,rg⟩:=tP (K:=X.K) (Xs:=λa:TI×TE×aj×Zo=>dF X (ts++fr) scope bm a.1 a.2.1 a.2.2.1 a.2.2.2) (λ_=>rfl) λa=>aC a.1 a.2.1 a.2.2.1 a.2.2.2;obtain⟨tt,nN,rt⟩:=tO (K:=X.K) (Xs:=λa:TI×TE×aj×Zo=>dF X (ts++fr) scope bm a.1 a.2.1 a.2.2.1 a.2.2.2) (λ_=>rfl) λa=>jr a.1 a.2.1 a.2.2.1 a.2.2.2;obtain⟨cK,nO,jq⟩:=wR (K:=X.K) (Xs:=λa:TI×TE×aj×Zo=>dF X (ts++fr) scope bm a.1 a.2.1 a.2.2.1 a.2.2.2) (λ_=>rfl) λa=>jt a.1 a.2.1 a.2.2.1 a.2.2.2;refine⟨_,FN a4 tH aN h0 (λC s H ex=>nM (C,s,H,ex)) (λC s H ex=>nN (C,s,H,ex)) (λC s H ex=>nO (C,s,H,ex)) F hc al kx,λU ρ h R W B H σ D e s=>?_⟩;exact A6 gQ rg rt jq nL ρ _ h R W B H σ _ e λds a vs aZ aq z1 ah aE aU a9 bE db d4=>s.nx _ _ aZ aq z1 (ah.setO i aU a9 bE db λj _=>d4 j) aE
theorem tQ{st:Xm}{s:cB}(i:Nat)(h:fo X st s):fo X st (λU ρ=>s {U with nx:=λbq=>∃ds:Zh,bq[i]?=some (.own ds)/\U.nx (bq.set i (.val (.lst ds)))} ρ):=by
 obtain⟨_,h1,r1⟩:=h;refine⟨_,h1,λU ρ h R W B H σ D e du=>?_⟩;refine r1 _ ρ h R W B H σ D e ⟨λbq a6 av H' z aS g=>?_,du.bk,du.ct,du.rt⟩;obtain⟨ds,aA,z⟩:=z;obtain⟨br,ap,aI⟩:=aS.fz aA;exact du.nx _ a6 br H' z ap (g.trans aI)
end
def oY{α:Type}{f:α->D}{s:cB}{U:gC}{m:Nat}(I:List α->Zg->Prop):∀{rs done:List α}{ρ:Zg},I done ρ->
  (∀(pre:List α)(r:α)(rest:List α) ρ,done++rs=pre++r::rest->I pre ρ->∀N:Zg->Prop,(∀dA,I (pre++[r]) dA->N dA)->s {U with nx:=N,ct:=N,bk:=U.nx} (ρ.set m (.val (f r))))->(∀ρ,I (done++rs) ρ->U.nx ρ)->ha (e0 m) s U (rs.map f) ρ
 |[],done,ρ,h0,_,h2=>h2 ρ (by rw[SP];exact h0)
 |r::rs,done,ρ,h0,h1,h2=>by
  refine h1 done r rs ρ rfl h0 _ λdA ak=>?_;have e:done++r::rs=(done++[r])++rs:=by simp
  rw[e]at h1 h2;exact oY I ak h1 h2
def FR{s:cB}{U:gC}{m:Nat}(I:Nat->Zg->Prop):∀{n i:Nat}{ρ:Zg},I i ρ->(∀(j:Nat) ρ,i<=j->j<i+n->I j ρ->∀N:Zg->Prop,(∀r,I (j+1) r->N r)->s {U with nx:=N,ct:=N,bk:=U.nx} (ρ.set m (.val (.int j))))->
  (∀ρ,I (i+n) ρ->U.nx ρ)->ha (e0 m) s U ((List.range' i n).map λj:Nat=>D.int j) ρ
 |0,i,ρ,h0,_,h2=>h2 ρ h0
 |n+1,i,ρ,h0,h1,h2=>by
  show ha (e0 m) s U (D.int i::(List.range' (i+1) n).map λj:Nat=>D.int j) ρ
  refine h1 i ρ (Sy _) (by lia) h0 _ λr ak=>?_;exact FR I ak (λj ρ bS ahG=>h1 j ρ (by lia) (by lia)) λρ h=>h2 ρ (by rw[show i+(n+1)=i+1+n by lia];exact h)
def wU{s:cB}{U:gC}{m n:Nat}{ρ:Zg}(I:Nat->Zg->Prop)(h0:I 0 ρ)(h1:∀(j:Nat) ρ,j<n->I j ρ->∀N:Zg->Prop,(∀r,I (j+1) r->N r)->s {U with nx:=N,ct:=N,bk:=U.nx} (ρ.set m (.val (.int j))))(h2:∀ρ,I n ρ->U.nx ρ):ha (e0 m) s U ((Ta n).map λj:Nat=>D.int j) ρ:=by
 rw[List.range_eq_range'];exact FR I h0 (λj ρ _ bS=>h1 j ρ (by lia)) λρ h=>h2 ρ (by rw[TX]at h;exact h)
def lf{α:Type}{f h:α->D}{u:a1}{fs:Zg}:∀{rs:List α}{v0:aD}{k:Zh->Prop},(∀r∈rs,∀k:D->Prop,k (h r)->u (.val (f r)::fs) k)->k (rs.map h)->gX (e0 0) kC u (rs.map f) (v0::fs) k
 |[],v0,k,_,ag=>ag
 |r::rs,v0,k,bn,ag=>by
  show(if true=true then u (.val (f r)::fs) λy=>gX (e0 0) kC u (rs.map f) (.val (f r)::fs) λys=>k (y::ys)else gX (e0 0) kC u (rs.map f) (.val (f r)::fs) k)
  rw[SC rfl];exact bn r Sx _ (lf (λq au=>bn q (Sz _ au)) ag)
def tR{α β:Type}{f:α->β}{rs:List α}{i:Int}{r:α}(h:dW rs i=some r):dW (rs.map f) i=some (f r):=by
 unfold dW at h⊢;rw[Sw];cases q:ixN rs.length i with
 |none=>rw[q]at h;cases h
 |some j=>
  rw[q]at h;show(rs.map f)[j]?=_
  rw[SX,show rs[j]?=some r from h];rfl
def O2{α:Type}{rs:List α}{i:Nat}(h:i<rs.length):dW rs (i:Int)=some rs[i]:=by
 unfold dW ixN;rw[SC (by lia),SC (by lia)];show rs[((i:Int)).toNat]?=_
 rw[show((i:Int)).toNat=i by lia,S5 h]
def O3{α:Type}{xs:List α}{i:Int}(h0:0<=i)(h1:i<=xs.length):gV xs (some i) none=xs.drop i.toNat:=by
 unfold gV
 have ah:HT.sIx xs.length 0 (some i)=i.toNat:=by
  unfold HT.sIx
  first|lia|(simp only[];split<;>lia)|(split<;>lia)|(dsimp only;split<;>(try split)<;>lia)
 have ap:HT.sIx xs.length xs.length none=xs.length:=rfl;rw[ah,ap];exact VZ (by rw[Uy];lia)
def FS{α:Type}{xs:List α}{i:Int}(h0:0<=i)(h1:i<=xs.length):gV xs none (some i)=xs.take i.toNat:=by
 unfold gV
 have ah:HT.sIx xs.length xs.length (some i)=i.toNat:=by
  unfold HT.sIx
  first|lia|(simp only[];split<;>lia)|(split<;>lia)|(dsimp only;split<;>(try split)<;>lia)
 have ap:HT.sIx xs.length 0 none=0:=rfl;rw[ah,ap];rfl
section
variable{X:aK}{e:UV}{u:a1}{pos p:Pos}
def O4(u:a1):a1:=λρ k=>u ρ λx=>∃ds,x=.lst ds/\(∀d∈ds,d=.bl true)/\k (.bl true)
def A7(ar:bg X e u)(hc:X.calm=true)(aC:eY X "all")(ax:X.mg "all"=none)(al:SZ [e] X.env=(false,Xv e X.env)::SZ [] X.env:=by rfl):bg X (.Call (.Name "all" p) [e] [] pos) (O4 u):=by
 obtain⟨_,h1,r1⟩:=ar;refine⟨_,p3 (Nb hc) aC ax (by decide +kernel) (eh h1 fC al) (by decide) (by decide) al,wu (f:=λx k=>∃ds,x=.lst ds/\(∀d∈ds,d=.bl true)/\k (.bl true)) r1 λx k h R W B H σ ρ v Q e bc q=>?_⟩;obtain⟨ds,rfl,hd,ag⟩:=h;obtain⟨a,vs,rfl,ar,rs⟩:=bc.lstV;refine⟨a,vs,rfl,e.bh _ _ ar,λy aN=>?_,q _ _ B H ag e (bM.refl _ _) (.bl _)⟩;obtain⟨j,bS⟩:=Um aN;obtain⟨d,he,gH⟩:=rs.getV bS;have:=hd d (Th he);subst this;exact gH.blV
end
def A8:∀(xs:Zc),hass (xs.map λ_=>gW.I) (xs.map D.int)=true
 |[]=>rfl
 |x::xs=>by simp only[SG,hass,has,Bool.true_and];exact A8 xs
def FT:∀(xs:Zc),deps (xs.map λ_=>gW.I)=0
 |[]=>by simp[deps]
 |x::xs=>by simp only[SG,deps,FT xs,h9];rfl
section
variable{X:aK}{e:UV}{u:a1}{pos p:Pos}
def O5(u:a1)(l h:oK):a1:=λρ k=>u ρ λx=>l ρ λlo=>h ρ λay=>∃ds,x=.tup ds/\¬(HT.sIx ds.length 0 lo=0/\HT.sIx ds.length ds.length ay=ds.length)/\k (.tup (gV ds lo ay))
def O6{lo ay:Option UV}{oL tw:oK}{cS:Pos}(aB:bg X e u)(am:rE X lo oL)(eO:rE X ay tw):bg X (.Subscript e (.Slice lo ay none cS) pos) (O5 u oL tw):=by
 obtain⟨_,h1,r1⟩:=aB;obtain⟨_,h2,r2⟩:=am;obtain⟨_,aF,ga⟩:=eO;refine⟨_,EB Mx h1 h2 aF,λρ k h R W B H σ Q e q=>?_⟩;refine r1 ρ _ h R W B H σ _ e λd v aZ aq z1 ah aE az=>?_;refine r2 ρ _ z1 R W aZ aq σ _ ah λlo br aQ aP ap aI=>?_;refine ga ρ _ aP R W br aQ σ _ ap λay oF cR ew bw g3=>?_;obtain⟨ds,rfl,aM,z⟩:=ew;obtain⟨a,vs,rfl,ar,rs⟩:=(az.mono (aI.trans g3).s).tupV;refine⟨a,vs,rfl,ev.of (bw.bh _ _ ar),by rw[rs.length];exact aM,λp ae=>?_⟩;have dQ:=bw.grow ae (.tup (p5 vs lo ay));exact q _ _ _ _ z (bw.alloc ae _) (((aE.trans aI).trans g3).trans dQ) (.tup dZ ((rs.cut lo ay).mono dQ.s))
def O7(i:Nat)(u:a1):cB:=λU ρ=>∃ds:Zh,ρ[i]?=some (.own ds)/\u ρ λd=>∃es,d=.lst es/\ds.length+es.length<=TT/\U.nx (ρ.set i (.own (ds++es)))
def A9(i:Nat){x:Str}{px de b6:Pos}(aB:bg X e u)(a4:X.N[i]?=some x:=by rfl)(aL:gz X.env.scope x:=by first|exact SA rfl|exact SI (SA rfl)|exact SI (SI rfl))(hd:(x==("__debug__":Str))=false:=by decide)(dI:(x==("__classdict__":Str))=false:=by decide)(gM:W1 (.Name x px) "extend" X.env (Xv (.Name x px) X.env)=Xv (.Name x px) X.env:=by rfl)(jl:((Xn b6 (SZ [e] X.env)).all (λx => !x.1)&&(XV b6 (XB [] X.env)).all (λx=>x.1.isSome)
   && decide ([e].length+([]:Zr).length+(if([]:Zr).isEmpty then 0 else 1)<30))=true:=by rfl)(gN:(de.endLine==b6.line)=true:=by rfl)(al:SZ [e] X.env=(false,Xv e X.env)::SZ [] X.env:=by rfl)(nD:(Xn b6 (SZ ([]:Zp) X.env)).any (·.1)=false:=by rfl)(kx:Xi (.Call (.Attribute (.Name x px) "extend" de) [e] [] b6) none pos.line X.env=pure false:=by rfl):fo X (.Expr (.Call (.Attribute (.Name x px) "extend" de) [e] [] b6) pos) (O7 i u):=by
 obtain⟨_,h1,r1⟩:=aB;refine⟨_,pT (rn Up WL WM MN (h5 a4 aL hd dI) (eh h1 fC al) gM jl gN al nD) kx,λU ρ h R W B H σ D e s=>?_⟩;obtain⟨ds,aA,h⟩:=h;obtain⟨a,vs,ah,ap,bw,cT,eE⟩:=e.ownAt aA;refine⟨_,ah,.inl ⟨rfl,vs,cx.of cT⟩,?_⟩;refine r1 ρ _ h R W B H σ _ e λd v aZ aq z1 aU aE az=>?_;obtain⟨fk,j0,bO,bV,gG,hf,oM⟩:=aU.ownAt aA;rw[ah]at bO;cases bO;obtain⟨es,rfl,am,z⟩:=z1;obtain⟨b,ws,rfl,ab,rt⟩:=az.lstV;exact⟨a,b,j0,ws,rfl,rfl,hf,aU.bh _ _ ab,by rw[oM.length,rt.length];exact am,s.nx _ _ aZ _ z (aU.write ah aA (oM.append rt)) aE⟩
end
end L3
namespace Cut
open PySem L2 L3
open PySem.Builtin.Int (intBits)
def dR(r:Int×Int):D:=.tup [.int r.1,.int r.2]
def dP(p:Int×Int×Int):D:=.tup [.int p.1,.int p.2.1,.int p.2.2]
def tS(t b:Int):Int:=if b<0 then -((Hh t b:Nat):Int)else((Hh t b:Nat):Int)
def cw(t b:Int):Int×Int:=(t.fdiv (tS t b),b.fdiv (tS t b))
def hB{t b:Int}(ab:b≠0):aH (cw t b).1 (cw t b).2/\(cw t b).1*b=t*(cw t b).2/\(cw t b).1.natAbs<=t.natAbs/\(cw t b).2.natAbs<=b.natAbs:=by
 unfold cw tS;split
 ·exact ES ab rfl (.inr ⟨rfl,by assumption⟩)
 ·exact ES ab rfl (.inl ⟨rfl,by lia⟩)
def g3(a b n:Int):Int:=((Hh (Hh a n:Nat) b:Nat):Int)
def kD(a b n:Int):Int:=if n<0 then -g3 a b n else g3 a b n
def cC(a b n:Int):Int×Int×Int:=(a.fdiv (kD a b n),b.fdiv (kD a b n),n.fdiv (kD a b n))
def ju{a b n:Int}(aM:n≠0):mN (cC a b n).1 (cC a b n).2.1 (cC a b n).2.2/\(cC a b n).1*n=a*(cC a b n).2.2/\(cC a b n).2.1*n=b*(cC a b n).2.2/\(cC a b n).1.natAbs<=a.natAbs/\(cC a b n).2.1.natAbs<=b.natAbs/\(cC a b n).2.2.natAbs<=n.natAbs:=by
 unfold cC kD;split
 ·exact EW aM rfl (.inr ⟨rfl,by assumption⟩)
 ·exact EW aM rfl (.inl ⟨rfl,by lia⟩)
def O8(a b n:Int):((Hh (Hh a b:Nat) n:Nat):Int)=g3 a b n:=by
 unfold g3;rw[we];rfl
def O9(a b n:Int):((Hh (Hh n a:Nat) b:Nat):Int)=g3 a b n:=by
 unfold g3;rw[Nc]
def FU{a b n:Int}(aM:n≠0):0<g3 a b n:=EU aM
def FV{a b n:Int}{k:Nat}(aM:n≠0)(h:wp n<=k):wp (g3 a b n)<=k:=Nd aM h
def l5{a b:Int}{k:Nat}(ab:b≠0)(h:wp b<=k):wp ((Hh a b:Nat):Int)<=k:=by
 refine Yw ?_ h;exact VU (by lia) (by simpa using U1.mpr (UZ a b))
def O'{x:Int}(h0 : -(10^30)<x)(h1:x<10^30):wp x<=100:=by
 refine intBits_le_iff.mpr ?_;have Pa:(10:Int)^30=1000000000000000000000000000000:=rfl;have Pb:(2:Nat)^100=1267650600228229401496703205376:=rfl;rw[Pa]at h0 h1;rw[Pb];lia
def iS{a s x:Int}(h:a=s*x)(fX:s≠0):a.fdiv s=x:=by rw[h];exact UI x fX
def Pc{a b s x y:Int}(h1:a=s*x)(h2:b=s*y):Hh a b=s.natAbs*Hh x y:=by rw[h1,h2,VQ]
def FW{p q:Int×Int×Int}(h:dP p=dP q):p=q:=by
 obtain⟨a,b,c⟩:=p;obtain⟨d,e,f⟩:=q;unfold dP at h;cases h;rfl
def Pd{p q:Int×Int}(h:dR p=dR q):p=q:=by
 obtain⟨a,b⟩:=p;obtain⟨d,e⟩:=q;unfold dR at h;cases h;rfl
def Pe{t b:Int}(ab:b≠0):cw (-t) (-b)=cw t b:=by
 obtain⟨bj,ah,_⟩:=hB (t :=-t) (b :=-b) (by lia);obtain⟨bt,ap,_⟩:=hB (t:=t) ab
 have e:(cw (-t) (-b)).1*(cw t b).2=(cw t b).1*(cw (-t) (-b)).2:=by
  refine TB ab ?_;grind
 obtain⟨a,c⟩:=Az bj bt e;exact TP a c
def Pf{a b c d:Int}(ab:b≠0)(hd:d≠0)(h:a*d=c*b):cw a b=cw c d:=by
 obtain⟨bj,ah,_⟩:=hB (t:=a) ab;obtain⟨bt,ap,_⟩:=hB (t:=c) hd
 have e:(cw a b).1*(cw c d).2=(cw c d).1*(cw a b).2:=by
  refine TB (SY ab hd) ?_;grind
 obtain⟨x,y⟩:=Az bj bt e;exact TP x y
def Pg{x y:Int}(h:aH x y):cw x y=(x,y):=by
 obtain⟨l,e,_⟩:=hB (t:=x) (SD h.1);obtain⟨a,b⟩:=Az l h e;exact TP a b
abbrev aa:=Int×Int×Int
abbrev Zd:=List aa
abbrev Zu:=List Zd
def crs(p q:aa):aa:=(p.2.1*q.2.2-p.2.2*q.2.1,p.2.2*q.1-p.1*q.2.2,p.1*q.2.1-p.2.1*q.1)
def sc(c:Int)(p:aa):aa:=(c*p.1,c*p.2.1,c*p.2.2)
def hg(a:Int)(p:aa)(b:Int)(q:aa):aa:=(a*p.1+b*q.1,a*p.2.1+b*q.2.1,a*p.2.2+b*q.2.2)
def nP(p:aa):aa:=cC p.1 p.2.1 p.2.2
def eS{p q:aa}(h1:p.1=q.1)(h2:p.2.1=q.2.1)(aF:p.2.2=q.2.2):p=q:=TP h1 (TP h2 aF)
variable{P:Uf}{w:Xk}{K:Sv}{mg:Str->Option Tl}{base:Xx}
def A'{c d:Int}{p q:aa}(h:sc c p=sc d q):c*p.1=d*q.1/\c*p.2.1=d*q.2.1/\c*p.2.2=d*q.2.2:=
 ⟨TW (·.1) h,TW (·.2.1) h,TW (·.2.2) h⟩
def Ba(c d:Int)(p q:aa):crs (sc c p) (sc d q)=sc (c*d) (crs p q):=by
 refine eS ?_ ?_ ?_<;>simp only[crs,sc]<;>grind
def FX(c d:Int)(p:aa):sc c (sc d p)=sc (c*d) p:=by
 refine eS ?_ ?_ ?_<;>simp only[sc]<;>grind
def j6{p:aa}(aM:p.2.2≠0):∃g,g≠0/\p=sc g (nP p):=by
 obtain⟨pt,ah,ap,_⟩:=ju (a:=p.1) (b:=p.2.1) aM;have z0:(nP p).2.2≠0:=SD pt.1;obtain⟨g,aC⟩:=AC pt.2 ah ap;have aV:g≠0:=λz=>aM (by rw[aC,z,S1]);refine⟨g,aV,eS ?_ ?_ ?_⟩
 ·refine TB z0 ?_;show p.1*(cC p.1 p.2.1 p.2.2).2.2=g*(cC p.1 p.2.1 p.2.2).1*(cC p.1 p.2.1 p.2.2).2.2
  rw[<-ah];grind
 ·refine TB z0 ?_;show p.2.1*(cC p.1 p.2.1 p.2.2).2.2=g*(cC p.1 p.2.1 p.2.2).2.1*(cC p.1 p.2.1 p.2.2).2.2
  rw[<-ap];grind
 ·show p.2.2=g*(cC p.1 p.2.1 p.2.2).2.2
  rw[S4];exact aC
abbrev aT(p:aa):Prop:=mN p.1 p.2.1 p.2.2
def fZ{p:aa}(aM:p.2.2≠0):aT (nP p):=(ju aM).1
def rP{M h:aa}{G c:Int}(FY:G≠0)(hc:c≠0)(ae:aT h)(e:sc G M=sc c h):M.2.2≠0/\nP M=h:=by
 obtain⟨ah,ap,bw⟩:=A' e;have h0:h.2.2≠0:=SD ae.1
 have dO:M.2.2≠0:=λz=>by
  rw[z,S1]at bw;exact SY hc h0 bw.symm
 refine⟨dO,?_⟩;obtain⟨pt,aU,a9,_⟩:=ju (a:=M.1) (b:=M.2.1) dO;have bO:M.1*h.2.2=h.1*M.2.2:=WN (SY FY hc) (by grind);have bV:M.2.1*h.2.2=h.2.1*M.2.2:=WN (SY FY hc) (by grind);obtain⟨aR,bK,e7⟩:=wf pt ae (TB dO (by grind)) (TB dO (by grind));exact eS aR bK e7
def FZ{h:aa}(ae:aT h):nP h=h:=(rP (M:=h) (h:=h) (G:=1) (c:=1) (by decide) (by decide) ae rfl).2
structure cD (m:Nat) (p:aa):Prop where
 a:wp p.1<=m
 b:wp p.2.1<=m
 c:wp p.2.2<=m
def cD.mono{m n:Nat}{p:aa}(h:cD m p)(l:m<=n):cD n p:=⟨SE h.a l,SE h.b l,SE h.c l⟩
def cD.nP{m:Nat}{p:aa}(h:cD m p)(aM:p.2.2≠0):cD m (Cut.nP p):=by
 obtain⟨_,_,_,c1,c2,c3⟩:=ju (a:=p.1) (b:=p.2.1) aM;exact⟨d6 c1 h.a,d6 c2 h.b,d6 c3 h.c⟩
def cD.crs{m n:Nat}{p q:aa}(ae:cD m p)(au:cD n q):cD (m+n+1) (Cut.crs p q):=by
 have e:∀{x y u v:Int},wp x<=m->wp y<=n->wp u<=m->wp v<=n->wp (x*y-u*v)<=m+n+1:=λa b c d=>SE (XW (TD a b) (TD c d)) (by lia);exact⟨e ae.b au.c ae.c au.b,e ae.c au.a ae.a au.c,e ae.a au.b ae.b au.a⟩
end Cut
namespace Cut
open PySem L2 L3
open PySem.Builtin.Int (intBits)
abbrev ba:=Int×Int
end Cut
namespace L3
open PySem L2
section
variable{K:Sv}{R:aj}{W:TI->Prop}{B av H H':aj}{σ:St}{ρ:Zg}
def ql:aD->aD
 |.own (.l ds)=>.val (.lst ds)
 |.own (.d b _ ks ds)=>.val (.dct b ks ds)
 |.deep _=>.no
 |s=>s
def gZ(W:TI->Prop)(σ:St)(ρ:Zg)(a:TI):Prop:=W a\/∃i:Nat,σ[i]?=some (some (.ref a))/\ρ[i]?=some .bag
def mX(σ:St)(ρ:Zg)(a:TI):Prop:=∃(i:Nat)(ds:mO),σ[i]?=some (some (.ref a))/\ρ[i]?=some (.own ds)
open Classical in
noncomputable def oZ(B H:aj)(σ:St)(ρ:Zg):aj:=λa=>if mX σ ρ a then H a else B a
def rQ{a:TI}(h:mX σ ρ a):oZ B H σ ρ a=H a:=by unfold oZ;rw[SC h]
def rR{a:TI}(h:¬mX σ ρ a):oZ B H σ ρ a=B a:=by unfold oZ;rw[SL h]
def aO.frW_B(e:aO K R W B H σ ρ){a:TI}(h:gZ W σ ρ a):B a=none/\g7 H a:=by
 rcases h with h|⟨i,h1,h2⟩
 ·exact⟨e.wb a h,e.wh a h⟩
 ·obtain⟨b,c1,_,c3,c4⟩:=e.bagAt h2;rw[h1]at c1;cases c1;exact⟨c3,c4⟩
def aO.own_out(e:aO K R W B H σ ρ){a:TI}(h:mX σ ρ a):R a=none/\B a=none/\H a≠none/\¬gZ W σ ρ a:=by
 obtain⟨i,ds,h1,h2⟩:=h;obtain⟨b,c1,c2,c3,c4⟩:=e.ownC h2;rw[h1]at c1;cases c1;refine⟨c2,c3,c4.ne,λz=>?_⟩;rcases z with z|⟨j,z1,aP⟩
 ·exact e.wr a z c2
 ·have:=e.sep i j a (.inl ⟨h1,.inr ⟨ds,h2⟩⟩) (.inl ⟨z1,.inl aP⟩);subst this;rw[h2]at aP;cases aP
def aO.deep_out(e:aO K R W B H σ ρ){i:Nat}{c:hN}(h:ρ[i]?=some (.deep c)){a:TI}(m:a∈c.adr::c.ins):¬gZ W σ ρ a:=λz=>by
 rcases z with z|⟨j,z1,aP⟩
 ·exact e.wr a z ((e.deepAt h).2.fr a m).1
 ·have:=e.sep i j a (.inr ⟨c,h,m⟩) (.inl ⟨z1,.inl aP⟩);subst this;rw[h]at aP;cases aP
def aO.frB_same(e:aO K R W B H σ ρ):b2 B (oZ B H σ ρ):=λa o h=>by
 by_cases z:mX σ ρ a
 ·rw[(e.own_out z).2.1]at h;cases h
 ·rw[rR z];exact h
def aO.frame(e:aO K R W B H σ ρ):aO K H (gZ W σ ρ) (oZ B H σ ρ) H σ (ρ.map ql):=by
 have k4:∀a,gZ W σ ρ a->oZ B H σ ρ a=none:=λa h=>by
  by_cases z:mX σ ρ a
  ·exact absurd h (e.own_out z).2.2.2
  ·rw[rR z];exact(e.frW_B h).1
 refine⟨⟨λ_ _ z _=>z,λa o h=>?_,k4,λa h=>(e.frW_B h).2,λa h=>?_⟩,by rw[Sw];exact e.len,λi k h=>?_,λi j a bf bL=>?_⟩
 ·by_cases z:mX σ ρ a
  ·rw[rQ z]at h;exact h
  ·rw[rR z]at h;exact e.bh a o h
 ·obtain⟨x,y,q,_⟩:=(e.frW_B h).2;rw[q];simp
 ·rw[SX]at h;cases q:ρ[i]? with
  |none=>rw[q]at h;cases h
  |some cr=>
   rw[q]at h;have h:=SS h;subst h;have z:=e.ok i _ q;cases cr with
   |no=>trivial
   |new d=>
    obtain⟨v,h1,h2⟩:=z;refine⟨v,h1,h2.mono (wQ e.toWd e.frB_same (λa o h=>?_) (λa z ak=>?_) k4)⟩
    ·by_cases z:mX σ ρ a
     ·rw[rQ z]at h;exact h
     ·rw[rR z]at h;exact e.bh a o h
    ·rcases z with z|⟨i,z1,aP⟩
     ·exact z
     ·obtain⟨b,c1,c2,_⟩:=e.bagAt aP;rw[z1]at c1;cases c1;exact c2.resolve_right ak
   |deep c=>trivial
   |pin v d=>
    obtain⟨h1,h2⟩:=z;refine⟨h1,h2.mono (wQ e.toWd e.frB_same (λa o h=>?_) (λa z ak=>?_) k4)⟩
    ·by_cases z:mX σ ρ a
     ·rw[rQ z]at h;exact h
     ·rw[rR z]at h;exact e.bh a o h
    ·rcases z with z|⟨i,z1,aP⟩
     ·exact z
     ·obtain⟨b,c1,c2,_⟩:=e.bagAt aP;rw[z1]at c1;cases c1;exact c2.resolve_right ak
   |val d=>
    obtain⟨v,h1,h2⟩:=z;exact⟨v,h1,h2.mono e.frB_same⟩
   |own ds=>
    obtain⟨a,h1,h2,aF,z⟩:=z;cases ds with
    |l ds=>
     obtain⟨vs,bb,cX⟩:=z;exact⟨.ref a,h1,.lst (by rw[rQ ⟨i,_,gr h1,q⟩];exact bb) (cX.mono e.frB_same)⟩
    |d b t ks ds=>
     obtain⟨a3,as,vs,_,bb,cX,fN,mV⟩:=z;exact⟨.ref a,h1,.dct (by rw[rQ ⟨i,_,gr h1,q⟩];exact bb) (cX.mono e.frB_same) fN (mV.mono e.frB_same)⟩
   |bag=>
    obtain⟨b,h1,h2,aF,bb⟩:=z;have w:gZ W σ ρ b:=.inr ⟨i,gr h1,q⟩;exact⟨b,h1,.inl w,k4 b w,bb⟩
 ·have back:∀i,cy σ (ρ.map ql) i a->cy σ ρ i a:=λi m=>by
   rcases m with⟨h1,h2⟩|⟨c,h1,_⟩
   rotate_left
   ·rw[SX]at h1;cases q:ρ[i]? with
    |none=>rw[q]at h1;cases h1
    |some cr=>
     rw[q]at h1;cases cr with
     |own ds=>cases ds<;>cases h1
     |_=>cases h1
   refine .inl ⟨h1,?_⟩;rw[SX]at h2;cases q:ρ[i]? with
   |none=>rw[q]at h2;rcases h2 with h2|⟨_,h2⟩<;>cases h2
   |some cr=>
    rw[q]at h2;cases cr with
    |bag=>exact .inl rfl
    |no=>rcases h2 with h2|⟨_,h2⟩<;>cases h2
    |new d=>rcases h2 with h2|⟨_,h2⟩<;>cases h2
    |pin v d=>rcases h2 with h2|⟨_,h2⟩<;>cases h2
    |deep d=>rcases h2 with h2|⟨_,h2⟩<;>cases h2
    |val d=>rcases h2 with h2|⟨_,h2⟩<;>cases h2
    |own ds=>cases ds<;>rcases h2 with h2|⟨_,h2⟩<;>cases h2
  exact e.sep i j a (back i bf) (back j bL)
def aO.unframe(e:aO K R W B H σ ρ)(fr:∀a o,H a=some o->¬gZ W σ ρ a->H' a=some o)(wh:∀a,gZ W σ ρ a->g7 H' a):aO K R W B H' σ ρ:=by
 have Ph:∀a,R a≠none->¬W a->¬gZ W σ ρ a:=λa h1 h2 z=>by
  rcases z with z|⟨i,z1,aP⟩
  ·exact h2 z
  ·obtain⟨b,c1,c2,_⟩:=e.bagAt aP;rw[z1]at c1;cases c1;rcases c2 with c2|c2
   ·exact h2 c2
   ·exact h1 c2
 refine⟨⟨λa o h ek=>fr a o (e.fr a o h ek) (Ph a (by rw[h];simp) ek),λa o h=>fr a o (e.bh a o h) λz=>?_,e.wb,λa h=>wh a (.inl h),e.wr⟩,e.len,λi k h=>?_,e.sep⟩
 ·rw[(e.frW_B z).1]at h;cases h
 ·have z:=e.ok i k h;cases k with
  |no=>trivial
  |new d=>exact z
  |pin v d=>exact z
  |val d=>exact z
  |own ds=>
   obtain⟨a,h1,h2,aF,bb⟩:=z;refine⟨a,h1,h2,aF,bb.mono (b2.refl _) ?_⟩;cases q:H a with
   |none=>exact absurd q bb.ne
   |some o=>exact fr a _ q (e.own_out ⟨i,ds,gr h1,h⟩).2.2.2
  |deep c=>
   refine⟨z.1,z.2.fr,z.2.nd,z.2.ok.mono (b2.refl _) λa jm=>?_⟩;cases q:H a with
   |none=>exact absurd q (z.2.ok.ne jm)
   |some o=>exact fr a _ q (e.deep_out h jm)
  |bag=>
   obtain⟨b,h1,h2,aF,bb⟩:=z;exact⟨b,h1,h2,aF,wh b (.inr ⟨i,gr h1,h⟩)⟩
def aO.forget(e:aO K R W B H σ ρ){a6:St}{bq:Zg}(am:a6.length=bq.length)(h:∀(i:Nat) (k:aD),bq[i]?=some k->k=.no\/(ρ[i]?=some k/\a6[i]?=σ[i]?)):aO K R W B H a6 bq:=by
 have back:∀i a,cy a6 bq i a->cy σ ρ i a:=λi a m=>by
  rcases m with⟨h1,h2|⟨ds,h2⟩⟩|⟨c,h1,h2⟩
  ·rcases h i _ h2 with z|⟨z1,aP⟩
   ·cases z
   ·exact .inl ⟨by rw[<-aP];exact h1,.inl z1⟩
  ·rcases h i _ h2 with z|⟨z1,aP⟩
   ·cases z
   ·exact .inl ⟨by rw[<-aP];exact h1,.inr ⟨ds,z1⟩⟩
  ·rcases h i _ h1 with z|⟨z1,aP⟩
   ·cases z
   ·exact .inr ⟨c,z1,h2⟩
 refine⟨e.toWd,am,λi k q=>?_,λi j a bf bL=>e.sep i j a (back i a bf) (back j a bL)⟩;rcases h i k q with rfl|⟨z1,aP⟩
 ·trivial
 ·rw[aP];exact e.ok i k z1
end
section
variable{K:Sv}{X:aK}{e:UV}{es:Zp}{u:a1}{w:cU}{pos p:Pos}
mutual
def flat:D->Bool
 |.tup xs=>flats xs
 |.lst _=>false
 |.scr _=>false
 |.ktup _=>false
 |.kfn _=>false
 |.dct _ _ _=>false
 |.non=>true
 |.bl _=>true
 |.int _=>true
 |.str _=>true
 |.ty _=>true
def flats:Zh->Bool
 |[]=>true
 |x::r=>flat x&&flats r
end
def F0{R B:aj}{a:TI}{vs:Zf}(h:B a=some (.tup vs)):eC R B a=some (.tup vs):=by
 unfold eC;rw[h]
mutual
theorem bA.flat{R B:aj}:∀{v:V}{d:D},bA K B v d->flat d=true->bA K (eC R B) v d
 |_,_,.non,_=>.non
 |_,_,.bl b,_=>.bl b
 |_,_,.int i,_=>.int i
 |_,_,.str x,_=>.str x
 |_,_,.ty n,_=>.ty n
 |_,_,.tup h r,f=>.tup (F0 h) (Reps.flat r f)
 |_,_,.lst h r,f=>by simp[L3.flat]at f
 |_,_,.scr h,f=>by simp[L3.flat]at f
 |_,_,.ktup h _,f=>by simp[L3.flat]at f
 |_,_,.kfn _,f=>by simp[L3.flat]at f
 |_,_,.dct _ _ _ _,f=>by simp[L3.flat]at f
theorem Reps.flat{R B:aj}:∀{vs:Zf}{ds:Zh},Reps K B vs ds->flats ds=true->Reps K (eC R B) vs ds
 |_,_,.nil,_=>.nil
 |_,_,.cons h r,f=>by
  rw[flats,Uk]at f
  exact .cons (bA.flat h f.1) (Reps.flat r f.2)
end
def tT(K:Sv)(t:bP)(u:a1):Prop:=∀(ρ:Zg)(k:D->Prop),u ρ k->∀(R:aj)(W:TI->Prop)(B H:aj)(σ:St)(Q:cJ),aO K R W B H σ ρ->
 (∀d v av H',k d->aO K R W av H' σ ρ->bM R B av->bA K (eC R av) v d->Q v H')->t σ H Q
def Pi(K:Sv)(t:fi)(u:cU):Prop:=∀(ρ:Zg)(k:Zh->Prop),u ρ k->∀(R:aj)(W:TI->Prop)(B H:aj)(σ:St)(Q:Zf->aj->Prop),aO K R W B H σ ρ->
 (∀ds vs av H',k ds->aO K R W av H' σ ρ->bM R B av->Reps K (eC R av) vs ds->Q vs H')->t σ H Q
def j7(X:aK)(e:UV)(u:a1):Prop:=∃t,b4 X e t/\tT X.K t u
def wV(X:aK)(es:Zp)(u:cU):Prop:=∃t,hJ X es t/\Pi X.K t u
def Pj(u:a1):a1:=λρ k=>u ρ λd=>flat d=true/\k d
def Pk(w:cU):a1:=λρ k=>w ρ λds=>flats ds=true/\k (.lst ds)
def Bb(h:bg X e u):j7 X e (Pj u):=by
 obtain⟨_,h1,r1⟩:=h;refine⟨_,h1,λρ k h R W B H σ Q e q=>?_⟩;exact r1 ρ _ h R W B H σ _ e λd v aZ aq z1 ah aE az=>q d v aZ aq z1.2 ah aE (az.flat z1.1)
def F1(h:k3 X e w):j7 X e (Pk w):=by
 obtain⟨_,h1,r1⟩:=h;refine⟨_,h1,λρ k h R W B H σ Q e q=>?_⟩;refine r1 ρ _ h R W B H σ _ e λds a vs aZ aq z1 ah aE aU a9 bE db d4=>?_;obtain⟨ap,aI⟩:=ah.freeze bE aU a9 d4;exact q _ _ _ _ z1.2 ap (aE.trans aI) (.lst (wj dZ aU) ((db.mono aI.s).flat z1.1))
def F2:wV X [] tn:=⟨_,fC,λρ k h R W B H σ Q e q=>q [] [] B H h e (bM.refl _ _) .nil⟩
def rS(ar:j7 X e u)(ak:wV X es w)(al:SZ (e::es) X.env=(false,Xv e X.env)::SZ es X.env:=by rfl):wV X (e::es) (nG u w):=by
 obtain⟨_,h1,r1⟩:=ar;obtain⟨_,h2,r2⟩:=ak;refine⟨_,eh h1 h2 al,λρ k h R W B H σ Q e q=>?_⟩;refine r1 ρ _ h R W B H σ _ e λd v aZ aq z1 ah aE az=>?_;refine r2 ρ _ z1 R W aZ aq σ _ ah λds vs br aQ aP ap aI a'=>?_;exact q _ _ br aQ aP ap (aE.trans aI) (.cons (az.mono (rB aI.s)) a')
def F3{bF}(h:wV X es w):j7 X (.Tuple es bF pos) (wo w):=by
 obtain⟨_,h1,r1⟩:=h;refine⟨_,vX h1,λρ k z R W B H σ Q e q=>?_⟩;refine r1 ρ _ z R W B H σ _ e λds vs aZ aq z1 ah aE az=>?_;refine⟨by rw[az.length];exact z1.1,λp ae=>?_⟩;have aI:=ah.grow ae (.tup vs);exact q _ _ _ _ z1.2 (ah.alloc ae _) (aE.trans aI) (.tup (F0 dZ) (az.mono (rB aI.s)))
def Pl(n:Nat)(F:ca)(w:iq):a1:=λρ k=>w ρ λas=>sh as n=true/\F (as.map Arg.sl) λr=>∃d,r=.new d/\k d
def qm{n:Nat}{F:ca}{w:iq}{x:Str}{ps:Zm}{j lv:Nat}(c:bZ X.prog X.w X.K X.mg X.base x ps j (b7 X.K n F))(ak:e' lv X.A)(aC:eY X x)(ar:lW X (e::es) w)(hjk:j<=lv:=by decide)(ht:(x==("__debug__":Str))=false:=by decide)(aB:SZ (e::es) X.env=(false,Xv e X.env)::SZ es X.env:=by rfl)(fa:(Xn pos (SZ es X.env)).any (·.1)=false:=by rfl):
  j7 X (.Call (.Name x p) (e::es) [] pos) (Pl n F w):=by
 obtain⟨_,h1,r1⟩:=ar;refine⟨_,rv c ak aC h1 hjk ht aB fa,λρ k h R W B H σ Q e q=>?_⟩;refine r1 ρ _ h R W B H σ _ e λas vs aZ aq z1 ah aE az=>?_;rw[SP];refine rC ah az z1.1 z1.2 λr v br aQ ag ap aI res=>?_;obtain⟨d,rfl,ag⟩:=ag;have res:bA X.K (eC aq br) v d:=res;exact q d v br aQ ag ap (aE.trans aI) (res.mono (AH λa z=>(ah.toWd.fresh z).1))
def Pm(u:a1):cB:=λU ρ=>u ρ λd=>U.rt (.new d)
def wW(h:j7 X e u):fo X (.Return (some e) pos) (Pm u):=by
 obtain⟨_,h1,r1⟩:=h;refine⟨_,nr h1,λU ρ h R W B H σ D e s=>?_⟩;exact r1 ρ _ h R W B H σ _ e λd v aZ aq z1 ah aE az=>s.rt (.new d) v aZ aq z1 ah.toWd aE az
def Pn{f9:h6}{g:hs}{tt:fh}{cK:bP}{fE:eP}{dV:dU}{d2:Nat}{js:Zj}(h0:AG K f9 w)(aC:rA K g fE)(bv:iO K tt dV)(h1:tT K cK u)(qj:js.Nodup):tT K (rJ f9 g tt cK d2 js) (λρ k=>oT w fE dV u d2 js ρ λds=>k (.lst ds)):=by
 intro ρ k h R W B H σ Q e q;refine h0 ρ _ h R W B H σ _ e λds J aZ aq z1 ah aE it=>?_;obtain⟨am,z1⟩:=z1;intro D hM;obtain⟨aU,a9,bE⟩:=ah.toWd.fresh hM;have oV:∀i,¬cy σ ρ i D:=λi m=>ah.notNew hM m rfl;have ei:=ah.within d2 qj
 have l2:∀j a,cy (SV d2 none++ip σ js) (SV d2 .no++js.map (ky ρ)) j a->∃j,j∈js/\σ[j]?=some (some (V.ref a))/\ρ[j]?=some aD.bag:=λj a m=>by
  have bK:=(ei.mutOk m).2;rcases m with⟨bf,z|⟨es,z⟩⟩|⟨c,z,p7⟩
  ·obtain⟨c,c1,c2,_⟩:=ei.bagAt z;rw[bf]at c1;cases c1;rcases c2 with c2|c2
   ·exact c2
   ·exact absurd c2 bK
  ·obtain⟨c,c1,c2,_⟩:=ei.ownC z;rw[bf]at c1;cases c1;exact absurd c2 bK
  ·exact absurd ((ei.deepAt z).2.fr a p7).1 bK
 generalize oW:(λa=>∃j,j∈js/\σ[j]?=some (some (V.ref a))/\ρ[j]?=some aD.bag)=fO at ei;have l2:∀j a,cy (SV d2 none++ip σ js) (SV d2 .no++js.map (ky ρ)) j a->fO a:=λj a m=>by rw[<-oW];exact l2 j a m
 have h8:∀a,fO a->∃i:Nat,σ[i]?=some (some (.ref a))/\ρ[i]?=some .bag:=λa z=>by
  rw[<-oW]at z;obtain⟨j,_,z⟩:=z;exact⟨j,z⟩
 have l3:¬fO D:=λz=>by
  obtain⟨qk,bI,dD⟩:=h8 D z;exact oV qk (.inl ⟨bI,.inl dD⟩)
 refine⟨λi m j3 H'=>∃av ys es iQ,m=ds.length-i/\i<=ds.length/\aO K aq fO av H' j3 iQ/\bM aq aZ av/\H' D=some (.lst ys)/\av D=none/\(∀j a,cy j3 iQ j a->fO a)/\ys.length<=i/\Reps K (eC aq av) ys es/\gX fE dV u (ds.drop i) iQ λr=>k (.lst (es++r)),
  ⟨ds.length,aZ,[],[],_,by simp,S8 _,ei.allocH hM _,bM.refl _ _,dZ,bE,l2,Sy _,.nil,by simpa using z1⟩,?_⟩
 rintro i m j3 aQ ⟨br,ys,es,iQ,rfl,ay,ap,aI,aN,ab,tI,FP,cg,aP⟩;obtain⟨d1,cY,hb⟩:=it aQ (aI.s.trans ap.bh) i;by_cases cM:i<ds.length
 ·refine .inr ⟨d1 cM,λx H' y=>?_⟩;obtain⟨rfl,d,hd,bc⟩:=hb x H' cM y
  have he:ds.drop i=d::ds.drop (i+1):=by
   rw[Ua cM];rw[S5 cM]at hd;rw[SS hd]
  rw[he]at aP;refine aC d iQ _ aP aq fO br H' j3 x _ ap (bc.mono aI.s) λiR gL ew bw bR=>?_;have hR:∀j a,cy gL iR j a->fO a:=λj a m=>tI j a (bR j a m)
  have l4:∀{gY:aj},bM H' br gY->gY D=none:=λ{gY} dQ=>by
   cases tJ:gY D with
   |none=>rfl
   |some o=>
    rcases dQ.n D o tJ with z|z
    ·rw[ab]at z;cases z
    ·rw[aN]at z;cases z
  refine bv iR _ ew H' fO br H' gL _ (bw.rebase hR) λb gY kz d7 cT dQ=>?_;have tK:kz D=some (.lst ys):=cT.fr D _ aN l3;cases b with
  |false=>
   rw[SL S3]at d7⊢;obtain⟨eE,j4⟩:=bw.unbase hR cT dQ;exact⟨ds.length-(i+1),by lia,gY,ys,es,iR,rfl,cM,eE,aI.trans j4,tK,l4 dQ,hR,by lia,cg.mono (rB dQ.s),d7⟩
  |true=>
   rw[SC rfl]at d7⊢;refine h1 iR _ d7 H' fO gY kz gL _ cT λfb v tL gB kA eE j4 i4=>?_;have j5:=dQ.trans j4;have tM:gB D=some (.lst ys):=eE.fr D _ aN l3;obtain⟨jX,tN⟩:=bw.unbase hR eE j5;have i4:=i4.mono (AH (R:=aq) λa z=>(ap.toWd.fresh z).1);refine⟨ys,tM,by lia,ds.length-(i+1),by lia,tL,ys++[v],es++[fb],iR,rfl,cM,jX.scribble hM (l4 j5) (λj m=>l3 (hR j D m)) _,aI.trans tN,dZ,l4 j5,hR,by rw[SH,TA];lia,(cg.mono (rB j5.s)).append (.cons i4 .nil),?_⟩;simpa[S6]using kA
 ·have eq:i=ds.length:=by lia
  subst eq;rw[Uo]at aP;obtain⟨cT,dQ⟩:=ah.after h8 ap.toWd aI;obtain⟨eE,j4⟩:=cT.freeze aN aU ab oV;refine .inl ⟨cY (Sy _),q _ (.ref D) _ aQ (by simpa[gX]using aP) eE ((aE.trans dQ).trans j4) (.lst (wj dZ aU) ?_)⟩;exact(cg.mono (AH λa z=>(ah.toWd.fresh z).1)).mono (rB j4.s)
def Po{dY:UV}{α:Type}{Xs:α->aK}(e8:∀a,(Xs a).K=K)(h:∀a,j7 (Xs a) dY u):∃t,(∀a,b4 (Xs a) dY t)/\tT K t u:=by
 refine⟨λσ H Q=>∀a,∃t,b4 (Xs a) dY t/\tT K t u/\t σ H Q,λa pins s σ H Q I q=>?_,λρ k q R W B H σ Q e z a=>?_⟩
 ·obtain⟨t,bv,_,au⟩:=q a;exact bv pins s σ H Q I au
 ·obtain⟨t,bv,ak⟩:=h a;rw[e8 a]at ak;exact⟨t,bv,ak,ak ρ k q R W B H σ Q e z⟩
variable{dY dB bz:UV}{d8:Zp}{scope:Yd}{bm:List (Str×TI)}{ts fr:Zm}{js:Zj}{fE:eP}{dV:dU}
def Pp(w:cU):a1:=λρ k=>w ρ λds=>k (.lst ds)
theorem Pq(ay:lX X bz dB w)(aC:∀C s H ex,jn (dF X (ts++fr) scope bm C s H ex) bz fE)(jr:∀C s H ex,oX (dF X (ts++fr) scope bm C s H ex) d8 dV)(jt:∀C s H ex,j7 (dF X (ts++fr) scope bm C s H ex) dY u)(F:oQ X scope bm fr js)(nL:js.Nodup:=by decide)(hc:X.calm=true:=by rfl)(al:∀v,UF dB X.env v=pure v:=by intro _;rfl):j7 X (.ListComp dY [⟨bz,dB,d8,0⟩] scope pos) (Pp (oT w fE dV u ts.length js)):=by
 obtain⟨_,h0,gQ⟩:=ay;obtain⟨wS,nM,rg⟩:=tP (K:=X.K) (Xs:=λa:TI×TE×aj×Zo=>dF X (ts++fr) scope bm a.1 a.2.1 a.2.2.1 a.2.2.2) (λ_=>rfl) λa=>aC a.1 a.2.1 a.2.2.1 a.2.2.2;obtain⟨tt,nN,rt⟩:=tO (K:=X.K) (Xs:=λa:TI×TE×aj×Zo=>dF X (ts++fr) scope bm a.1 a.2.1 a.2.2.1 a.2.2.2) (λ_=>rfl) λa=>jr a.1 a.2.1 a.2.2.1 a.2.2.2;obtain⟨cK,nO,jq⟩:=Po (K:=X.K) (Xs:=λa:TI×TE×aj×Zo=>dF X (ts++fr) scope bm a.1 a.2.1 a.2.2.1 a.2.2.2) (λ_=>rfl) λa=>jt a.1 a.2.1 a.2.2.1 a.2.2.2;exact⟨_,A2 h0 (λC s H ex=>nM (C,s,H,ex)) (λC s H ex=>nN (C,s,H,ex)) (λC s H ex=>nO (C,s,H,ex)) F hc al,Pn gQ rg rt jq nL⟩
end
section
variable{K:Sv}{X:aK}{e:UV}{es:Zp}{u:a1}{w:cU}{pos p:Pos}{I:Zj}{i:Nat}{rest:Zq}{jv:gC->Zg->D->Zg->Prop}
def bA.lst_of{B:aj}{v:V}{ds:Zh}(r:bA K B v (.lst ds)):∃a vs,v=.ref a/\B a=some (.lst vs)/\Reps K B vs ds:=by
 cases r with|lst h r=>exact⟨_,_,rfl,h,r⟩
def bA.tup_of{B:aj}{v:V}{ds:Zh}(r:bA K B v (.tup ds)):∃a vs,v=.ref a/\B a=some (.tup vs)/\Reps K B vs ds:=by
 cases r with|tup h r=>exact⟨_,_,rfl,h,r⟩
def Pr{α:Type}{x:α}{r:List α}:dW (x::r) 0=some x:=by simp[dW,ixN]
def Ps(K:Sv)(I:Zj)(i:Nat)(t:gA)(jv:gC->Zg->D->Zg->Prop):Prop:=
 ∀(U:gC)(ρ:Zg)(d:D)(l6:Zg),jv U ρ d l6->∀(R:aj)(W:TI->Prop)(B H:aj)(σ:St)(E:mE),aO K R W B H σ ρ->rz K R W B U E->
  ∀(l7 o0:aj)(jw:St)(v:V),aO K H (gZ W σ ρ) l7 o0 jw l6->jw[i]?=some (some v)->bA K (eC H l7) v d->(∀j,j∉I->jw[j]?=σ[j]?)->jw.length=σ.length->t E jw o0
def wX(X:aK)(I:Zj)(i:Nat)(st:Zq)(jv:gC->Zg->D->Zg->Prop):Prop:=∃t,i2 X st t/\Ps X.K I i t jv
def Pt(gE:dU)(jv:gC->Zg->D->Zg->Prop):gC->Zg->D->Zg->Prop:=λU ρ d l6=>gE l6 λb=>b=false/\jv U ρ d l6
def Pu{c:UV}{a:Zq}{gE:dU}{s:cB}(hc:ir X c gE)(ar:gs X a s)(ak:wX X I i rest jv):wX X I i (.If c a [] pos::rest) (Pt gE jv):=by
 obtain⟨_,h0,gQ⟩:=hc;obtain⟨_,h1,_⟩:=ar;obtain⟨_,h2,r2⟩:=ak;refine⟨_,kS (sW h0 h1 sV) h2,λU ρ d l6 h R W B H σ E e du l7 o0 jw v iN aL ak bS am=>?_⟩;refine gQ l6 _ h _ _ l7 o0 jw _ iN λb aZ aq z1 ah aE=>?_;obtain⟨rfl,z⟩:=z1;rw[SL S3];exact r2 U ρ d l6 z R W B H σ E e du aZ aq jw v ah aL (ak.mono (rB aE.s)) bS am
def Pv(i:Nat)(u:a1)(jv:gC->Zg->D->Zg->Prop):cB:=λU ρ=>i<ρ.length/\u (ρ.map ql) λd=>jv U ρ d ((ρ.map ql).set i (.val d))
def Pw{x:Str}{eb:Pos}(Bc:i∈I)(a4:X.N.Nodup)(ay:X.N[i]?=some x)(ao:Loc X.env.scope x)(aB:j7 X e u)(ak:wX X I i rest jv)(al:Xi e (some (.Name x eb)) pos.line X.env=pure false:=by rfl)(bu:X.fn x=true\/X.env.scope.names.lookup x=some .local:=by first|exact .inl rfl|exact .inr rfl|assumption):
  gs X (.Assign [.Name x eb] e pos::rest) (Pv i u jv):=by
 obtain⟨_,h1,r1⟩:=aB;obtain⟨_,h2,r2⟩:=ak;refine⟨_,kS (oq a4 ay ao h1 al bu) h2,λU ρ h R W B H σ E e du=>?_⟩;obtain⟨am,h⟩:=h;refine r1 (ρ.map ql) _ h H (gZ W σ ρ) _ H σ _ e.frame λd v aZ aq z1 ah aE az=>?_;refine r2 U ρ d _ z1 R W B H σ E e du aZ aq (σ.set i (some v)) v (ah.setV i (az.mono iP)) ?_ az (λj bS=>?_) (by rw[TH])
 ·rw[Tz (by rw[e.len];exact am)]
 ·exact Tx (λ(z:i=j)=>bS (by rw[<-z];exact Bc))
def Px{B:aj}{b:TI}{d:D}{l:Zf}(r:bA K B (.ref b) d)(f:flat d=true)(h:B b=some (.lst l)):False:=by
 cases r with
 |tup h2 _=>rw[h]at h2;cases h2
 |lst _ _=>simp[flat]at f
 |scr _=>simp[flat]at f
 |ktup _ _=>simp[flat]at f
 |kfn _=>simp[flat]at f
 |dct _ _ _ _=>simp[flat]at f
def Bd:∀{ds:Zh}{n:Nat}{d:D},flats ds=true->ds[n]?=some d->flat d=true
 |[],n,d,_,h=>by simp at h
 |x::r,0,d,f,h=>by rw[flats,Uk]at f;simp at h;subst h;exact f.1
 |x::r,n+1,d,f,h=>by rw[flats,Uk]at f;exact Bd (n:=n) f.2 (by simpa using h)
structure j8 (K:Sv) (W:TI->Prop) (σ:St) (ρ:Zg) (H N H':aj):Prop where
 fr:∀a o,H a=some o->¬gZ W σ ρ a->H' a=some o
 wh:∀a,gZ W σ ρ a->g7 H' a
 tp:∀a vs,N a=some (.tup vs)->H' a=some (.tup vs)
 ls:∀a vs,N a=some (.lst vs)->∃ws,H' a=some (.lst ws)
def j8.clear{W:TI->Prop}{σ:St}{ρ:Zg}{H N H':aj}(m:j8 K W σ ρ H N H')(ab:∀a,gZ W σ ρ a->H a≠none){b:TI}{vs:Zf}(a4:N b=some (.lst vs))(dw:H b=none):j8 K W σ ρ H N (upd H' b (.lst [])):=by
 refine⟨λa o h ek=>?_,λa h=>?_,λa ws h=>?_,λa ws h=>?_⟩
 ·rw[c6 (by rintro rfl;rw[dw]at h;cases h)];exact m.fr a o h ek
 ·exact(m.wh a h).upd (by rintro rfl;exact ab _ h dw)
 ·rw[c6 (by rintro rfl;rw[a4]at h;cases h)];exact m.tp a ws h
 ·by_cases z:a=b
  ·subst z;exact⟨[],dZ⟩
  ·rw[c6 z];exact m.ls a ws h
def j8.start{R:aj}{W:TI->Prop}{B H l7 o0:aj}{σ jw:St}{ρ l6:Zg}(e:aO K R W B H σ ρ)(iN:aO K H (gZ W σ ρ) l7 o0 jw l6):j8 K W σ ρ H (eC H l7) o0/\∀a,gZ W σ ρ a->H a≠none:=
 ⟨⟨iN.fr,iN.wh,λa vs h=>iN.bh a _ (iP a _ h),λa vs h=>⟨vs,iN.bh a _ (iP a _ h)⟩⟩,iN.wr⟩
def Be(d:D):Prop:=∃r m,d=.tup (.lst r::m)/\flats r=true
end
section
variable{X:aK}{a b:UV}{bH bW:a1}{pos:Pos}
def tU:D->Option Zh
 |.tup ds=>some ds
 |.lst ds=>some ds
 |.ktup ds=>some ds
 |_=>none
def Py(K:Sv):fB:=λx y H Q=>∃p xs i v,x=.ref p/\y=.int i/\(ev K H p xs\/cx K H p xs)/\dW xs i=some v/\Q v H
def Pz:rm X (Py X.K):=by
 intro value slice pins s σ H x y v u Q I bc cg h al;obtain⟨p,xs,i,z,ah,ap,au,aB,q⟩:=h;rcases au with au|au
 ·exact EF value slice pins s σ H x y v u Q I bc cg ⟨p,xs,i,z,ah,ap,au,aB,q⟩ al
 ·exact Am value slice pins s σ H x y v u Q I bc cg ⟨p,xs,i,z,ah,ap,au,aB,q⟩ al
def PA(bH bW:a1):a1:=λρ k=>bH ρ λx=>bW ρ λy=>∃ds i d,tU x=some ds/\y=.int i/\dW ds i=some d/\k d
def je(ar:bg X a bH)(ab:bg X b bW)(al:p6 b):bg X (.Subscript a b pos) (PA bH bW):=by
 obtain⟨_,h1,r1⟩:=ar;obtain⟨_,h2,r2⟩:=ab;refine⟨_,km Pz h1 h2 al,qd r1 r2 λx y k h R W B H σ ρ v mD Q e bc cg q=>?_⟩;obtain⟨ds,i,d,ao,rfl,ar,ag⟩:=h;cases bc with
 |tup ae jo=>
  cases ao;obtain⟨z,hz,ja⟩:=tq jo ar;exact⟨_,_,i,z,rfl,cg.intV,.inl (ev.of (e.bh _ _ ae)),hz,q d z B H ag e (bM.refl _ _) ja⟩
 |lst ae jo=>
  cases ao;obtain⟨z,hz,ja⟩:=tq jo ar;exact⟨_,_,i,z,rfl,cg.intV,.inr (cx.of (e.bh _ _ ae)),hz,q d z B H ag e (bM.refl _ _) ja⟩
 |ktup ae jo=>
  cases ao;obtain⟨z,hz,ja⟩:=tq jo ar;exact⟨_,_,i,z,rfl,cg.intV,.inl (AE e.bh ae),hz,q d z B H ag e (bM.refl _ _) ja⟩
 |_=>cases ao
structure tV (K:Sv) (mg:Str->Option Tl) (x:Str) (ns:Zc):Prop where
 ex:∃p:TI,mg x=some (.ref p)/\∀H:aj,ev K H p (ns.map V.int)
def tW{x:Str}{ns:Zc}(g:tV X.K X.mg x ns)(aC:eY X x)(hd:(x==("__debug__":Str))=false:=by decide):bg X (.Name x pos) (oE (.ktup (ns.map D.int))):=by
 obtain⟨p,ax,al⟩:=g.ex;refine⟨_,zZ (v:=.ref p) aC ax rfl hd,λρ k h R W B H σ Q e q=>?_⟩;exact q _ _ B H h e (bM.refl _ _) (.ktup (al B) (Reps.ints ns))
def PB{K:Sv}{mg:Str->Option Tl}{x:Str}{p:TI}{i j:Int}{iJ qn:Tok}{od:Option TI}{sl:Array (Option Tl)}{n:Nat}(ax:mg x=some (.ref p))(am:K.lookup p=some ⟨.type "tuple",od,.seq #[.int i iJ,.int j qn] n,sl⟩):tV K mg x [i,j]:=
 ⟨p,ax,λH=>.inr ⟨_,_,_,am,rfl,rfl,f6,.cons ⟨_,rfl⟩ (.cons ⟨_,rfl⟩ .nil)⟩⟩
end
end L3
namespace L3
open PySem PySem.W L2
def lg(h:Xx):Frag:=(Ta h.objs.size).filterMap λa=>(h.get? a).map λo=>(a,o)
def F4(g:Nat->Option Obj)(a:Nat):∀l:Zj,(l.filterMap λb=>(g b).map λo=>(b,o)).lookup a=if a∈l then g a else none
 |[]=>rfl
 |b::l=>by
  have cH:=F4 g a l;cases q:g b with
  |none=>
   rw[List.filterMap_cons_none (by rw[q];rfl),cH];by_cases e:a=b
   ·subst e;rw[q];simp
   ·simp[e]
  |some o=>
   rw[List.filterMap_cons_some (b:=(b,o)) (by rw[q];rfl),List.lookup_cons];by_cases e:a=b
   ·subst e;simp[q]
   ·have:(a==b)=false:=by simpa using e
    simp only[this,cH,SK,e,false_or]
def rT(h:Xx)(a:TI):(lg h).lookup a=h.get? a:=by
 refine(F4 h.get? a _).trans ?_;by_cases e:a<h.objs.size
 ·rw[SC (TQ.mpr e)]
 ·rw[SL (λz=>e (TQ.mp z))];exact(Heap.get?_none_of_le (Nat.le_of_not_lt e)).symm
def PC(h:Xx):Frag.In (lg h) h:=λa o e=>by rw[rT]at e;exact e
def tX(h:Xx)(name:Str):nsIn (lg h) WP name=pO h name:=by unfold nsIn pO;rw[rT];rfl
def PD(h:Xx)(fA:Tl)(q:Str):codeIn (lg h) fA q=yV h fA q:=by
 unfold codeIn yV;cases fA<;>first|rfl|(simp only[rT];rfl)
def wY(K:Frag)(x:Str)(st:Xm):Prop:=∃f fd,nsIn K WP x=some (some (.ref f))/\mK K x x st f fd
def Bf(x:Str)(st:Xm):vB x st=some (x,x,p8 st,.stmts (kn st),bX st,WP,[],.none,Ye,true):=by cases st<;>rfl
def PE{h:Xx}{x:Str}{st:Xm}(e:vA h x=vB x st):wY (lg h) x st:=by
 unfold vA at e;split at e
 ·rename_i f bu
  split at e
  ·rename_i oc od fd osl aA
   obtain⟨io,Ej,ps,F5,sc,F6,bm,kE,kd,doc,pm,an,cdv,ct,jx⟩:=fd;rw[Bf]at e;simp only[Vl,UM]at e;obtain⟨rfl,rfl,rfl,rfl,rfl,rfl,rfl,rfl,rfl,e⟩:=e;refine⟨f,_,by rw[tX];exact bu,M5 (oc:=oc) (od:=od) (osl:=osl) (kV:=kd) (doc:=doc) (pm:=pm) (an:=an) (cdv:=cdv) (ct:=ct) (by rw[rT];exact aA) (by rw[PD];exact e) ?_⟩;unfold keepIn;simp only[rT,aA]
  ·rw[Bf]at e;cases e
 ·rw[Bf]at e;cases e
def Bg(K:Frag):List (Str×Xm)->Prop
 |[]=>True
 |p::l=>wY K p.1 p.2/\Bg K l
def AllB(K:Frag):Zm->Prop
 |[]=>True
 |b::l=>nsIn K WP b=some none/\AllB K l
def wZ(K:Frag)(x:Str)(i j:Int):Prop:=∃p od sl n iJ qn,nsIn K WP x=some (some (.ref p))/\K.lookup p=some ⟨.type "tuple",od,.seq #[.int i iJ,.int j qn] n,sl⟩
def Bh(K:Frag):List (Str×Int×Int)->Prop
 |[]=>True
 |p::l=>wZ K p.1 p.2.1 p.2.2/\Bh K l
def F7(K:Frag)(x:Str)(c:Int ⊕ Str):Prop:=match c with
 |.inl i=>∃t,nsIn K WP x=some (some (.int i t))
 |.inr s=>∃t,nsIn K WP x=some (some (.str s t))
def Bi(K:Frag):List (Str×(Int ⊕ Str))->Prop
 |[]=>True
 |p::l=>F7 K p.1 p.2/\Bi K l
structure Tab (t:oh) (K:Frag):Prop where
 tf:Bg K t.fs
 tb:AllB K t.bs
 tt:Bh K t.ts
 tc:Bi K t.cs
def saysH(t:oh)(_:Xk)(h:Xx):Prop:=∃K:Frag,K.In h/\Tab t K
def F8{h:Xx}:∀{l:List (Str×Xm)},(l.map λp=>vA h p.1)=(l.map λp=>vB p.1 p.2)->Bg (lg h) l
 |[],_=>trivial
 |p::l,e=>by
  simp only[SG,UN]at e;exact⟨PE e.1,F8 e.2⟩
def allB_of{h:Xx}:∀{l:Zm},(l.map λb=>pO h b)=(l.map λ_=>some none)->AllB (lg h) l
 |[],_=>trivial
 |p::l,e=>by
  simp only[SG,UN]at e;exact⟨by rw[tX];exact e.1,allB_of e.2⟩
def PF{h:Xx}{x:Str}{i j:Int}(e:vC h x=some (x,i,j)):wZ (lg h) x i j:=by
 unfold vC at e;split at e
 ·rename_i p ae
  split at e
  ·rename_i od its n sl aA
   split at e
   ·rename_i qk iJ rO qn ay
    simp only[Vl,UM]at e;obtain⟨_,rfl,rfl⟩:=e;have dy:its = #[.int qk iJ,.int rO qn]:=Array.toList_inj.mp ay;subst dy;exact⟨p,od,sl,n,iJ,qn,by rw[tX];exact ae,by rw[rT];exact aA⟩
   ·cases e
  ·cases e
 ·cases e
def F9{h:Xx}:∀{l:List (Str×Int×Int)},(l.map λp=>vC h p.1)=(l.map λp=>some p)->Bh (lg h) l
 |[],_=>trivial
 |p::l,e=>by
  simp only[SG,UN]at e;exact⟨PF e.1,F9 e.2⟩
def PG{h:Xx}{x:Str}{c:Int ⊕ Str}(e:vD h x=some (x,c)):F7 (lg h) x c:=by
 unfold vD at e;split at e
 ·rename_i i t ae
  simp only[Vl,UM]at e;obtain⟨_,rfl⟩:=e;exact⟨t,by rw[tX];exact ae⟩
 ·rename_i i t ae
  simp only[Vl,UM]at e;obtain⟨_,rfl⟩:=e;exact⟨t,by rw[tX];exact ae⟩
 ·cases e
def F'{h:Xx}:∀{l:List (Str×(Int ⊕ Str))},(l.map λp=>vD h p.1)=(l.map λp=>some p)->Bi (lg h) l
 |[],_=>trivial
 |p::l,e=>by
  simp only[SG,UN]at e;exact⟨PG e.1,F' e.2⟩
def ofH(t:oh)(w:Xk)(s:TE)(e:sQ t s=sR t w):saysH t w s.heap:=by
 simp only[sQ,sR,UM]at e;exact⟨lg s.heap,PC _,F8 e.1,allB_of e.2.1,F9 e.2.2.1,F' e.2.2.2⟩
def keepsH(t:oh)(w:Xk)(h h':Xx)(y:saysH t w h)(k:∀b o,h.get? b=some o->h'.get? b=some o):saysH t w h':=by
 obtain⟨K,x,r⟩:=y;exact⟨K,x.keeps k,r⟩
def wY.fnd{K:Frag}{h:Xx}{mg:Str->Option Tl}{x:Str}{st:Xm}{ps:Zm}(X:K.In h)(G:h.Ns WP mg)(F:wY K x st)(b:∀f fd,mK K x x st f fd->Binds K fd ps []):cN K mg x st ps:=by
 obtain⟨f,fd,m,F⟩:=F;exact⟨f,fd,mg_of X G m,F,b f fd F⟩
abbrev tY(x:Str)(st:Xm)(us:Zn)(r:List (Str×Tl)):Prop:=∀(kV doc pm:Tl)(an:Option TI)(cdv ct:Tl),Y9 (fnOf x x (p8 st) (kn st) (bX st) .none kV doc pm an cdv ct) ⟨us,[]⟩=pure r
abbrev tZ(x:Str)(st:Xm)(ps:Zm):Prop:=∀(kV doc pm:Tl)(an:Option TI)(cdv ct:Tl)(us:Zn),us.length=ps.length->Y9 (fnOf x x (p8 st) (kn st) (bX st) .none kV doc pm an cdv ct) ⟨us,[]⟩=pure (ps.zip us)
section
variable{x:Str}{st:Xm}
def jy{p:Str}(hA:∀a,tY x st [a] [(p,a)]):tZ x st [p]:=λ_ _ _ _ _ _ us am=>match us,am with|[a],_=>hA a _ _ _ _ _ _
def ft{p q:Str}(hA:∀a b,tY x st [a,b] [(p,a),(q,b)]):tZ x st [p,q]:=λ_ _ _ _ _ _ us am=>match us,am with|[a,b],_=>hA a b _ _ _ _ _ _
def mY{p q r:Str}(hA:∀a b c,tY x st [a,b,c] [(p,a),(q,b),(r,c)]):tZ x st [p,q,r]:=λ_ _ _ _ _ _ us am=>match us,am with|[a,b,c],_=>hA a b c _ _ _ _ _ _
def Ga{p q r s:Str}(hA:∀a b c d,tY x st [a,b,c,d] [(p,a),(q,b),(r,c),(s,d)]):tZ x st [p,q,r,s]:=λ_ _ _ _ _ _ us am=>match us,am with|[a,b,c,d],_=>hA a b c d _ _ _ _ _ _
def PH{p q r s t:Str}(hA:∀a b c d e,tY x st [a,b,c,d,e] [(p,a),(q,b),(r,c),(s,d),(t,e)]):tZ x st [p,q,r,s,t]:=λ_ _ _ _ _ _ us am=>match us,am with|[a,b,c,d,e],_=>hA a b c d e _ _ _ _ _ _
end
def wZ.gtup{K:Frag}{h:Xx}{mg:Str->Option Tl}{x:Str}{i j:Int}(X:K.In h)(G:h.Ns WP mg)(F:wZ K x i j):tV K mg x [i,j]:=by
 obtain⟨p,od,sl,n,iJ,qn,m,l⟩:=F;exact PB (mg_of X G m) l
def walkH{l:OpenLaw}{k:Nat}{q:Uf}{loose:Zm}{XP:(Str->Option Tl)->Xx->Prop}{t:oh}{d:DefRec}(aM:l.most=some 63)(At:d.params.defaults=[])(ak:e' k YQ)(F:∀(w:Xk) (K:Frag) (mg:Str->Option Tl) (hu:TI) (h:Xx),Tab t K->K.In h->h.Ns WP mg->mg d.name=some (.ref hu)->∃fd:XI,(∀(s:TE) (u:Tl),Y8 s fd ⟨[u],[]⟩ [("_law_script",u)])/\∀base:Xx,K.In base->base.Ns WP mg->jT l.prog w K mg base ko k hu fd ["_law_script"] (wI K)):
  WalkO q loose XP (saysH t) l.row.toRowW d [] (λf vs=>PySem.call f vs):=by
 refine Att.attach_call aM At λw s₀ ec mg fK hu o pm fA doc a vs ns G Y aA hd dI tg Au hints fj aC=>?_;obtain⟨K,ow,T⟩:=Y;obtain⟨fd,ab,jb⟩:=F w K mg hu _ T ow G.T.g tg;exact MZ ow G.T.g G.T.b G.T.builtins G.T.nolimit aC Au hints (aW fj) ak jb ab (λH Aw cu=>⟨a,ns,rfl,cu,fj,λ_=>rfl⟩) λH e s' z=>z
end L3
namespace L2
open PySem PySem.Spec PyProof.Rows PySem.W
section
variable{prog:Uf}{w:Xk}{A:Xq}{E:Tl->TE->Prop}{s:TE}
def Gb{it t:TI}{items:Array Tl}(k9:t≠it):∀(n i:Nat)(s:TE)(Q:Zn->TE->Prop),s.heap.IsListIter it t i->s.heap.IsList t items->i+n<=items.size->
  (∀h',h'.IsListIter it t (i+n)->Heap.SameBut it s.heap h'->Q ((items.toList.drop i).take n) {s with heap:=h' })->wpAny (T0 prog w) A (draw (.ref it) n) Q E s
 |0,i,s,Q,hit,_,_,hr=>by
  show wpAny _ _ (pure []) Q E s
  exact Tk (by simpa using hr s.heap hit (Heap.SameBut.refl ..))
 |n+1,i,s,Q,hit,bv,hle,hr=>by
  have cM:i<items.size:=by lia
  show wpAny _ _ (YG (.ref it) >>= _) Q E s
  refine SB (Yo hit bv (x:=items[i]) (by simp[cM]) λGc Bj t0=>?_);refine SB (Xj (Gb k9 n (i+1) _ _ Bj (bv.extBut t0.extBut k9) (by lia) λBk PI PJ=>Tk ?_));have hd:items.toList.drop i=items[i]::items.toList.drop (i+1):=by simp[Ua,cM]
  have:=hr Bk (by rw[show i+(n+1)=i+1+n by lia];exact PI) (t0.trans PJ);rw[hd,V0]at this;exact this
def PK{t:TI}{items:Array Tl}{Q:Zn->TE->Prop}(eO:A.handled=none)(bv:s.heap.IsList t items)(hr:∀h',Heap.ExtBut s.heap.objs.size s.heap h'->Q items.toList {s with heap:=h' }):wpAny (T0 prog w) A (YZ (.ref t) items.size none) Q E s:=by
 have cM:t≠s.heap.objs.size:=by obtain⟨o,aA,_⟩:=bv;exact Tf (Heap.lt_size aA)
 unfold YZ;refine SB ?_
 ·unfold notIterableAtAll;refine SB (XS bv.typeIs F.slot_list_iter.lookup ?_);refine Tk ?_;simp only[TK,if_false];refine SB (Xj (Yh bv ?_));refine SB (Xj (Gb cM items.size 0 _ _ ⟨_,Heap.get?_push_size _ rfl,rfl,rfl⟩ (bv.push _) (by lia) λGc Bj t0=>?_))
  have rp:List.take items.size (List.drop 0 items.toList)=items.toList:=by
   rw[V1];exact VZ (by simp)
  rw[rp];rw[SL (by simp)];have PL:Gc.IsList t items:=(bv.push _).extBut t0.extBut cM;refine SB (Xj (Yt eO Bj PL (by simp) λBk PM=>?_));simp only[Option.isSome_none,TK,if_false];refine Tk (hr Bk λb o ab e=>PM b o ab (t0.extBut b o ab (Heap.get?_push_of_some _ e)))
def PN{env:UL}{iT:Zp}{bF}{pos:Pos}{t:TI}{items:Array Tl}{Q:Unit->TE->Prop}(eO:A.handled=none)(bv:s.heap.IsList t items)(aM:(Xh iT env).length=items.size)(PO:(Xh iT env).findIdx? (·.1)=none)(h:∀h',Heap.ExtBut s.heap.objs.size s.heap h'->wpAny (T0 prog w) A (Yk ((Xh iT env).map (·.2)) items.toList) Q E {s with heap:=h' }):
  wpAny (T0 prog w) A (Yx (.Tuple iT bF pos) env (.ref t)) Q E s:=by
 rw[arm_assign_Tuple];refine SB (X3 ?_);unfold unpack;rw[aM,PO];exact SB (Xj (PK eO bv h))
end
section
variable{X:aK}{pos:Pos}
def PP(K:Sv)(n:Nat)(t:lQ):hs:=λv σ H Q=>∃a xs,v=.ref a/\cx K H a xs/\xs.length=n/\t xs σ H Q
def PQ{es:Zp}{k:Nat}{t:lQ}{n:Nat}(hc:X.calm=true)(h:pU X es t)(aM:(Xh es X.env).length=n:=by rfl)(nt:(Xh es X.env).findIdx? (·.1)=none:=by rfl):jO X (.Tuple es k pos) (PP X.K n t):=by
 intro pins s σ H v u Q I r hw;obtain⟨a,xs,ah,au,am,hw⟩:=hw;subst ah;cases r;obtain⟨its,cd,bv,hz⟩:=I.list au;refine PN (I.ok.hd hc) bv.isList (by simp[aM,<-am,cd.length]) nt λh' ao=>?_;have be:Inv X pins σ H {s with heap:=h' }:=I.kept (t':=s.toks) λb o e=>ao b o (Tf (Heap.lt_size e)) e;exact h pins _ σ H xs _ Q be (by simpa using cd) hw
end
end L2
namespace L3
open PySem L2
section
variable{X:aK}{es:Zp}{pos:Pos}
def PR(n:Nat)(g9:jY):eP:=λd ρ k=>∃ds,d=.lst ds/\ds.length=n/\g9 ds ρ k
def PS{cr:Nat}{g9:jY}{n:Nat}(hc:X.calm=true)(h:tj X es g9)(aM:(Xh es X.env).length=n:=by rfl)(nt:(Xh es X.env).findIdx? (·.1)=none:=by rfl):jn X (.Tuple es cr pos) (PR n g9):=by
 obtain⟨_,h1,r1⟩:=h;refine⟨_,PQ hc h1 aM nt,λd ρ k h R W B H σ v Q e r q=>?_⟩;obtain⟨ds,rfl,am,h⟩:=h;obtain⟨a,vs,rfl,ar,rs⟩:=r.lstV;exact⟨a,vs,rfl,cx.of (e.bh _ _ ar),by rw[rs.length];exact am,r1 ds ρ k h R W B H σ vs Q e rs q⟩
end
end L3
namespace Cut
open PySem L2 L3
open PySem.Builtin.Int (intBits)
def sld(g p:aa):aa:=(p.1*g.2.2+g.1*p.2.2,p.2.1*g.2.2+g.2.1*p.2.2,p.2.2*g.2.2)
def trn(p:aa):aa:=(-p.1,-p.2.1,p.2.2)
def Bl(p q r s:aa):aa:=crs (crs p q) (crs r s)
def bi(p q r:aa):Int:=(crs p q).1*r.1+(crs p q).2.1*r.2.1+(crs p q).2.2*r.2.2
def sg(x:Int):Int:=if 0<x then 1 else if x<0 then -1 else 0
def PT{x y c d:Int}(hc:0<c)(hd:0<d)(h:c*x=d*y):sg x=sg y:=by
 have pos:0<x↔0<y:=by
  constructor
  ·intro ao;have:=SF hc ao;rw[h]at this;exact T' this hd
  ·intro aN;have:=SF hd aN;rw[<-h]at this;exact T' this hc
 have Gd:x=0↔y=0:=by
  constructor
  ·intro ao;rw[ao,S1]at h;exact(Tu.mp h.symm).resolve_left (SD hd)
  ·intro aN;rw[aN,S1]at h;exact(Tu.mp h).resolve_left (SD hc)
 unfold sg;by_cases h1:0<x
 ·rw[SC h1,SC (pos.mp h1)]
 ·rw[SL h1,SL (λz=>h1 (pos.mpr z))];by_cases h2:x=0
  ·rw[SL (by lia),SL (by have:=Gd.mp h2;lia)]
  ·have:y≠0:=λz=>h2 (Gd.mpr z);have:¬0<y:=λz=>h1 (pos.mpr z);rw[SC (by lia),SC (by lia)]
structure t1 (L:aa->aa):Prop where
 hom:∀c p,L (sc c p)=sc c (L p)
 z:∃k,0<k/\∀p,(L p).2.2=k*p.2.2
 mt:∃d,d≠0/\∀p q r s,Bl (L p) (L q) (L r) (L s)=sc d (L (Bl p q r s))
 dt:∃d,0<d/\∀p q r,bi (L p) (L q) (L r)=d*bi p q r
def cs(g c:aa):aa:=(g.2.2*c.1,g.2.2*c.2.1,g.2.2*c.2.2-g.1*c.1-g.2.1*c.2.1)
def Bm(g p q:aa):crs (sld g p) (sld g q)=sc g.2.2 (cs g (crs p q)):=by
 refine eS ?_ ?_ ?_<;>simp only[crs,sc,sld,cs]<;>grind
def PU(g u v:aa):crs (cs g u) (cs g v)=sc g.2.2 (sld g (crs u v)):=by
 refine eS ?_ ?_ ?_<;>simp only[crs,sc,sld,cs]<;>grind
def PV{g:aa}(aC:0<g.2.2):t1 (sld g):=by
 have aV:=SD aC;refine⟨λc p=>by refine eS ?_ ?_ ?_<;>simp only[sc,sld]<;>grind,⟨g.2.2,aC,λp=>by simp only[sld];grind⟩,⟨g.2.2*g.2.2*g.2.2,SY (SY aV aV) aV,λp q r s=>?_⟩,⟨g.2.2*g.2.2*g.2.2,SF (SF aC aC) aC,λp q r=>?_⟩⟩
 ·unfold Bl;rw[Bm,Bm,Ba,PU,FX]
 ·unfold bi;rw[Bm];generalize crs p q=c;simp only[sc,cs,sld];grind
def t1.low{L:aa->aa}(l:t1 L){p:aa}(ae:0<p.2.2):0<(L p).2.2/\∃k,0<k/\L p=sc k (nP (L p)):=by
 obtain⟨k,cr,e⟩:=l.z;have pos:0<(L p).2.2:=by rw[e];exact SF cr ae
 obtain⟨g,aV,o1⟩:=j6 (SD pos);have c0:=(fZ (SD pos)).1;refine⟨pos,g,?_,o1⟩;have bw:(L p).2.2=g*(nP (L p)).2.2:=TW (λp:aa=>p.2.2) o1;rw[bw]at pos;exact UO pos c0
def PW(a b c:Int)(p q r:aa):bi (sc a p) (sc b q) (sc c r)=a*b*c*bi p q r:=by
 simp only[bi,Ba];generalize crs p q=u;simp only[sc];grind
def t1.side{L:aa->aa}(l:t1 L){p q r:aa}(ae:0<p.2.2)(au:0<q.2.2)(ak:0<r.2.2):sg (bi (nP (L p)) (nP (L q)) (nP (L r)))=sg (bi p q r):=by
 obtain⟨_,a,e1,dy⟩:=l.low ae;obtain⟨_,b,b0,eN⟩:=l.low au;obtain⟨_,c,hS,hC⟩:=l.low ak;obtain⟨d,ix,he⟩:=l.dt;refine PT (SF (SF e1 b0) hS) ix ?_;rw[<-PW,<-dy,<-eN,<-hC,he]
def jz{a b:Int}(h:∀k:Int,k∣a->k∣b->k∣1):Hh a b=1:=by
 have q:=U1.mpr (h _ (Vd a b) (UZ a b));simpa using q
def j9{a b k:Int}(g:Hh a b=1)(h1:k∣a)(h2:k∣b):k∣1:=by
 have:=V2 h1 h2;rw[g]at this;exact this
def o2{k n m:Int}(h:k∣n*m)(g:Hh k m=1):k∣n:=nE (by rw[S4];exact h) g
def t2{a b k:Int}(g:Hh a b=1)(h:k∣a):Hh k b=1:=jz λj h1 h2=>j9 g (Tj h1 h) h2
def w2{x y t b:Int}(l:aH x y)(ab:b≠0)(e:x*b=t*y):cw t b=(x,y):=by
 rw[<-Pg l];exact Pf ab (SD l.1) e.symm
def Ge{x y z a b n:Int}(p:mN x y z)(aM:n≠0)(ah:x*n=a*z)(ap:y*n=b*z):cC a b n=(x,y,z):=by
 obtain⟨q,aU,a9,_⟩:=ju (a:=a) (b:=b) aM;obtain⟨h1,h2,aF⟩:=wf q p (TB aM (by grind)) (TB aM (by grind));exact TP h1 (TP h2 aF)
def o3{a b:Int}(h:a≠0\/b≠0):∃x y:Int,a=((Hh a b:Nat):Int)*x/\b=((Hh a b:Nat):Int)*y/\Hh x y=1:=by
 obtain⟨x,ao⟩:=Vd a b;obtain⟨y,aN⟩:=UZ a b;refine⟨x,y,ao,aN,?_⟩
 have pos:0<Hh a b:=by
  rcases h with h|h
  ·exact WO b h
  ·exact Vc a h
 have q:Hh a b=(((Hh a b:Nat):Int)).natAbs*Hh x y:=Pc ao aN;rw[WQ]at q;exact VR pos (by lia)
def Gf{a b:Int}(h:a≠0\/b≠0):((Hh a b:Nat):Int)≠0:=by
 have pos:0<Hh a b:=by
  rcases h with h|h
  ·exact WO b h
  ·exact Vc a h
 lia
def l8{a b:Int}(h:a≠0\/b≠0):0<((Hh a b:Nat):Int):=by
 have:=Gf h;lia
def nQ{s y:Int}(fX:0<s)(h:0<s*y):0<y:=T' h fX
def Gg{x y u k Y V:Int}(g:Hh x y=1)(aN:Y∣y)(PX:Hh Y V=1)(h1:k∣x*V+u*Y)(h2:k∣Y):k∣1:=by
 have aF:k∣x*V:=by
  have:=V3 h1 (TL h2 (b:=u));simpa using this
 exact j9 g (o2 aF (t2 PX h2)) (Tj h2 aN)
def Gh{x y u v:Int}(bj:aH x y)(bt:aH u v){s top d:Int}(al:s=(Hh y v:Nat))(bv:top=x*v.fdiv s+u*y.fdiv s)(hd:d=(Hh s top:Nat)):
  (top.fdiv d,y.fdiv s*v.fdiv d)=cw (x*v+u*y) (y*v):=by
 obtain⟨b8,aE⟩:=bj;obtain⟨v0,aI⟩:=bt;obtain⟨Y,V,mZ,m0,t3⟩:=o3 (a:=y) (b:=v) (.inl (SD b8));have fX:0<s:=by rw[al];exact l8 (.inl (SD b8))
 rw[<-al]at mZ m0;have az:=SD fX;rw[iS m0 az,iS mZ az]at bv;obtain⟨S,T,cu,d0,PY⟩:=o3 (a:=s) (b:=top) (.inl az);have ix:0<d:=by rw[hd];exact l8 (.inl az)
 rw[<-hd]at cu d0;have bo:=SD ix;have t4:v=d*(S*V):=by rw[m0,cu,Ul]
 rw[iS d0 bo,iS mZ az,iS t4 bo];have t5:0<Y:=nQ fX (by lia);have Bn:0<V:=nQ fX (by lia);have Bo:0<S:=nQ ix (by lia);refine(w2 ⟨SF t5 (SF Bo Bn),?_⟩ (SD (SF b8 v0)) ?_).symm
 ·refine jz λk h1 h2=>?_;have mG:k∣top:=by rw[d0];exact TL h1
  have c1:Hh k Y=1:=jz λj ez eT=>Gg aE ⟨s,by rw[mZ,S4]⟩ t3 (by rw[<-bv];exact Tj ez mG) eT;have c2:Hh k V=1:=jz λj ez eT=>Gg (x:=u) (u:=x) (Y:=V) (V:=Y) aI ⟨s,by rw[m0,S4]⟩ (by rw[TJ];exact t3) (by rw[V4,<-bv];exact Tj ez mG) eT;exact j9 PY (o2 (nE h2 c1) c2) h1
 ·grind
def PZ{x y u v:Int}(bj:aH x y)(bt:aH u v):
  (x.fdiv ((Hh x v:Nat):Int)*u.fdiv ((Hh u y:Nat):Int),y.fdiv ((Hh u y:Nat):Int)*v.fdiv ((Hh x v:Nat):Int))=cw (x*u) (y*v):=by
 obtain⟨b8,aE⟩:=bj;obtain⟨v0,aI⟩:=bt;obtain⟨X,V,o4,m0,P0⟩:=o3 (a:=x) (b:=v) (.inr (SD v0));obtain⟨U,Y,o5,mZ,P1⟩:=o3 (a:=u) (b:=y) (.inr (SD b8));have e9:=l8 (a:=x) (b:=v) (.inr (SD v0));have h0:=l8 (a:=u) (b:=y) (.inr (SD b8));generalize((Hh x v:Nat):Int)=f at *;generalize((Hh u y:Nat):Int)=h at *;rw[iS o4 (SD e9),iS m0 (SD e9),iS o5 (SD h0),iS mZ (SD h0)];have t5:0<Y:=nQ h0 (by lia);have Bn:0<V:=nQ e9 (by lia);refine(w2 ⟨SF t5 Bn,?_⟩ (SD (SF b8 v0)) ?_).symm
 ·refine jz λk bO bV=>?_;have P2:Hh X Y=1:=jz λj ez eT=>j9 aE (by rw[o4];exact TL ez) (by rw[mZ];exact TL eT);have P3:Hh U V=1:=jz λj ez eT=>j9 aI (by rw[o5];exact TL ez) (by rw[m0];exact TL eT)
  have c1:Hh k Y=1:=jz λj ez eT=>by
   have aF:j∣X*U:=Tj ez bO;have bb:j∣U:=nE aF (jz λi hh jA=>j9 P2 jA (Tj hh eT));exact j9 P1 bb eT
  have cX:k∣V:=nE bV c1;have fN:k∣U:=nE bO (jz λi hh jA=>j9 P0 jA (Tj hh cX));exact j9 P3 fN cX
 ·grind
def Gi{x y z:Int}(h:∀k:Int,k∣x->k∣y->k∣z->k∣1):Hh (Hh x y:Nat) z=1:=
 jz λk h1 h2=>h k (Tj h1 (Vd x y)) (Tj h1 (UZ x y)) h2
def P4{x y z k:Int}(g:Hh (Hh x y:Nat) z=1)(h1:k∣x)(h2:k∣y)(aF:k∣z):k∣1:=j9 g (V2 h1 h2) aF
def P5{x y u v:Int}(bj:aH x y)(bt:aH u v):
  (x*v.fdiv ((Hh y v:Nat):Int),u*y.fdiv ((Hh y v:Nat):Int),y.fdiv ((Hh y v:Nat):Int)*v)=cC (x*v) (u*y) (y*v):=by
 obtain⟨b8,aE⟩:=bj;obtain⟨v0,aI⟩:=bt;obtain⟨Y,V,mZ,m0,t3⟩:=o3 (a:=y) (b:=v) (.inl (SD b8));have fX:=l8 (a:=y) (b:=v) (.inl (SD b8));generalize((Hh y v:Nat):Int)=s at *;rw[iS m0 (SD fX),iS mZ (SD fX)];have t5:0<Y:=nQ fX (by lia);refine(Ge ⟨SF t5 v0,?_⟩ (SD (SF b8 v0)) ?_ ?_).symm
 ·refine Gi λk h1 h2 aF=>?_;have c1:Hh k Y=1:=jz λj ez eT=>j9 aE (o2 (Tj ez h1) (t2 t3 eT)) (by rw[mZ];exact TL eT);have c2:Hh k V=1:=jz λj ez eT=>j9 aI (o2 (Tj ez h2) (t2 (by rw[TJ];exact t3) eT)) (by rw[m0];exact TL eT);have bb:k∣u:=o2 h2 c1;have cX:k∣v:=nE aF c1;exact j9 aI bb cX
 ·grind
 ·grind
def Gj{a b n r w k N M:Int}(g:Hh (Hh a b:Nat) n=1)(aM:N∣n)(Gk:Hh N M=1)(h1:k∣a*M+r*N)(h2:k∣b*M+w*N)(aF:k∣N):k∣1:=by
 have aR:k∣a*M:=by
  have:=V3 h1 (TL aF (b:=r));simpa using this
 have bK:k∣b*M:=by
  have:=V3 h2 (TL aF (b:=w));simpa using this
 exact P4 g (o2 aR (t2 Gk aF)) (o2 bK (t2 Gk aF)) (Tj aF aM)
def P6{a b n r w m:Int}(cW:mN a b n)(cS:mN r w m){s X Y d:Int}(al:s=(Hh n m:Nat))(o4:X=a*m.fdiv s+r*n.fdiv s)(Bp:Y=b*m.fdiv s+w*n.fdiv s)(hd:d=(Hh ((Hh s X:Nat):Int) Y:Nat)):
  (X.fdiv d,Y.fdiv d,n.fdiv s*m.fdiv d)=cC (a*m+r*n) (b*m+w*n) (n*m):=by
 obtain⟨c0,aE⟩:=cW;obtain⟨dO,aI⟩:=cS;obtain⟨N,M,a4,g5,Gl⟩:=o3 (a:=n) (b:=m) (.inl (SD c0));have fX:0<s:=by rw[al];exact l8 (.inl (SD c0))
 rw[<-al]at a4 g5;have az:=SD fX;rw[iS a4 az,iS g5 az]at o4 Bp;obtain⟨w3,P7,P8,P9,P'⟩:=o3 (a:=s) (b:=X) (.inl az);have ah:=Gf (a:=s) (b:=X) (.inl az);obtain⟨E,ahH,Bq,Br,Qa⟩:=o3 (a:=((Hh s X:Nat):Int)) (b:=Y) (.inl ah);have ix:0<d:=by rw[hd];exact l8 (.inl ah)
 rw[<-hd]at Bq Br;have bo:=SD ix
 have cu:s=d*(E*w3):=by
  rw[P8]
  conv=>lhs;rw[Bq]
  rw[Ul]
 have Gm:X=d*(E*P7):=by
  rw[P9]
  conv=>lhs;rw[Bq]
  rw[Ul]
 have w4:m=d*(E*w3*M):=by rw[g5,cu,Ul]
 rw[iS Gm bo,iS Br bo,iS a4 az,iS w4 bo];have en:0<N:=nQ fX (by lia);have nR:0<M:=nQ fX (by lia);have Bo:0<E*w3:=nQ ix (by lia);refine(Ge ⟨SF en (SF Bo nR),?_⟩ (SD (SF c0 dO)) ?_ ?_).symm
 ·refine Gi λk h1 h2 aF=>?_;have Gn:k∣X:=by rw[Gm];exact TL h1
  have Go:k∣Y:=by rw[Br];exact TL h2
  have c1:Hh k N=1:=jz λj ez eT=>Gj aE ⟨s,by rw[a4,S4]⟩ Gl (by rw[<-o4];exact Tj ez Gn) (by rw[<-Bp];exact Tj ez Go) eT;have c2:Hh k M=1:=jz λj ez eT=>Gj (a:=r) (b:=w) (n:=m) (r:=a) (w:=b) (N:=M) (M:=N) aI ⟨s,by rw[g5,S4]⟩ (by rw[TJ];exact Gl) (by rw[V4,<-o4];exact Tj ez Gn) (by rw[V4,<-Bp];exact Tj ez Go) eT;have bb:k∣E*w3:=o2 (nE aF c1) c2
  have cX:k∣E:=by
   have z:=V2 bb h1;rw[VQ,P',Nat.mul_one]at z;exact Tj z (Int.natAbs_dvd.mpr (Int.dvd_refl E))
  exact j9 Qa cX h2
 ·grind
 ·grind
def cD.sld{m n:Nat}{g p:aa}(aC:cD m g)(ae:cD n p):cD (n+m+1) (Cut.sld g p):=by
 refine⟨?_,?_,?_⟩
 ·exact SE (Xr (TD ae.a aC.c) (TD aC.a ae.c)) (by lia)
 ·exact SE (Xr (TD ae.b aC.c) (TD aC.b ae.c)) (by lia)
 ·exact SE (TD ae.c aC.c) (by lia)
def cD.trn{m:Nat}{p:aa}(ae:cD m p):cD m (Cut.trn p):=⟨Xu ae.a,Xu ae.b,ae.c⟩
def aT.trn{p:aa}(h:aT p):aT (Cut.trn p):=AD h
def t6{g p:aa}(aC:aT g)(ae:aT p):(sld g p).2.2≠0:=EX ae.1 aC.1
def aT.sld{g p:aa}(aC:aT g)(ae:aT p):aT (nP (Cut.sld g p)):=fZ (t6 aC ae)
def cD.sldN{m n:Nat}{g p:aa}(aC:cD m g)(ae:cD n p)(Qb:aT g)(Qc:aT p):cD (n+m+1) (Cut.nP (Cut.sld g p)):=(aC.sld ae).nP (t6 Qb Qc)
def rU(p q:aa):bi p q q=0:=by unfold bi crs;grind
def bx(ps:Zd)(n:Nat):aa:=(ps[n]?).getD (0,0,1)
def l9{ps:Zd}{n:Nat}(h:n<ps.length):bx ps n=ps[n]:=by unfold bx;rw[S5 h];rfl
def Bs{f:aa->aa}{ps:Zd}{n:Nat}(h:n<ps.length):bx (ps.map f) n=f (bx ps n):=by
 rw[l9 h,l9 (by rw[Sw];exact h),List.getElem_map]
def nS{ps:Zd}{n:Nat}(h:n<ps.length):bx ps n∈ps:=by rw[l9 h];exact V5 h
def m1{ps:Zd}{n:Nat}(h:n<ps.length):dW (ps.map dP) (n:Int)=some (dP (bx ps n)):=by rw[l9 h];exact tR (O2 h)
def fw(ps:Zd):Prop:=3<=ps.length/\∀k j,k<ps.length->j<ps.length->j≠k->j≠(k+1)%ps.length->sg (bi (bx ps k) (bx ps ((k+1)%ps.length)) (bx ps j))=1
def fw.map{f:aa->aa}{ps:Zd}(bu:∀p q r,p∈ps->q∈ps->r∈ps->sg (bi (f p) (f q) (f r))=sg (bi p q r))(h:fw ps):fw (ps.map f):=by
 refine⟨by rw[Sw];exact h.1,λk j ag bS h1 h2=>?_⟩;rw[Sw]at ag bS h2⊢;have m2:(k+1)%ps.length<ps.length:=UA _ (by lia);rw[Bs ag,Bs bS,Bs m2,bu _ _ _ (nS ag) (nS m2) (nS bS)];exact h.2 k j ag bS h1 h2
abbrev Piece:=Zd×Bool×aa
abbrev Ze:=List Piece
abbrev Zv:=List Ze
def dS(s:Piece):D:=.tup [.lst (s.1.map dP),.bl s.2.1,dP s.2.2]
structure dE (m:Nat) (p:aa):Prop where
 pt:aT p
 bp:cD m p
def dE.mono{m n:Nat}{p:aa}(h:dE m p)(l:m<=n):dE n p:=⟨h.pt,h.bp.mono l⟩
def eU(g:aa)(s:Piece):Piece:=(s.1.map (λp=>nP (sld g p)),s.2.1,nP (sld g s.2.2))
def dE.trn{m:Nat}{p:aa}(h:dE m p):dE m (Cut.trn p):=⟨h.pt.trn,h.bp.trn⟩
def dE.sl{m n:Nat}{g p:aa}(aC:dE m g)(h:dE n p):dE (n+m+1) (nP (sld g p)):=⟨aC.pt.sld h.pt,aC.bp.sldN h.bp aC.pt h.pt⟩
def Gp(p:aa):has (.T [.I,.I,.I]) (dP p)=true:=rfl
def Qd(ps:Zd):has (.L (.T [.I,.I,.I])) (.lst (ps.map dP))=true:=by
 simp only[has,U2];intro x ao;obtain⟨p,_,rfl⟩:=SM.mp ao;exact Gp p
abbrev Bt:eP:=kw 3 (fv (e0 0) (fv (e0 1) (fv (e0 2) kv)))
def Bu{u:a1}{fs:Zg}{h:Piece->D}:∀{sh:Ze}{v0 v1 dC:aD}{k:Zh->Prop},(∀s∈sh,∀k:D->Prop,k (h s)->u (.val (.lst (s.1.map dP))::.val (.bl s.2.1)::.val (dP s.2.2)::fs) k)->k (sh.map h)->gX Bt kC u (sh.map dS) (v0::v1::dC::fs) k
 |[],_,_,_,_,_,ag=>ag
 |s::sh,v0,v1,dC,k,bn,ag=>by
  refine⟨_,rfl,rfl,_,_,rfl,_,_,rfl,_,_,rfl,rfl,?_⟩;show(if true=true then u (.val (.lst (s.1.map dP))::.val (.bl s.2.1)::.val (dP s.2.2)::fs) λy=>gX Bt kC u (sh.map dS) (.val (.lst (s.1.map dP))::.val (.bl s.2.1)::.val (dP s.2.2)::fs) λys=>k (y::ys)else gX Bt kC u (sh.map dS) (.val (.lst (s.1.map dP))::.val (.bl s.2.1)::.val (dP s.2.2)::fs) k)
  rw[SC rfl];refine bn s Sx _ ?_;exact Bu (λx ao=>bn x (Sz _ ao)) ag
def Bv(f:aa->aa):∀ps:Zd,flats (ps.map λp=>dP (f p))=true
 |[]=>rfl
 |p::r=>by
  rw[SG,flats,Bv f r];rfl
def Gq(ps:Zd):flats (ps.map dP)=true:=Bv id ps
def Qe(f:aa->aa)(ps:Zd):(ps.map λp=>dP (f p))=(ps.map f).map dP:=by rw[SU];rfl
def Qf(s:Piece):Be (dS s):=⟨_,_,rfl,Gq _⟩
def Qg{sh:Ze}:∀q∈sh.map dS,Be q:=λq au=>by
 obtain⟨s,_,rfl⟩:=SM.mp au;exact Qf s
abbrev rV:gW:=.L (.T [.L (.T [.I,.I,.I]),.B,.T [.I,.I,.I]])
def Qh(sh:Ze):has rV (.lst (sh.map dS))=true:=by
 simp only[has,U2];intro x ao;obtain⟨s,_,rfl⟩:=SM.mp ao;have h1:=Qd s.1;have h2:=Gp s.2.2;simp only[dS,hass,has]at h1 h2⊢;rw[h1];simpa using h2
def fP(s:Piece):List aa:=if s.2.1=true then(s.1.map λp=>nP (sld (trn s.2.2) p)).map trn else s.1.map λp=>nP (sld (trn s.2.2) p)
def Bw{α:Type}(xs:List α)(lo ay:Option Int):(gV xs lo ay).length<=xs.length:=by
 unfold gV;rw[TS,Uy];lia
def Gr(x y:Int):Hh (Hh x 0:Nat) y=Hh x y:=by rw[WE];show Ti (Int.natAbs (x.natAbs:Int)) y.natAbs=_;rw[WQ];rfl
def Qi(x y:Int):Hh (Hh 0 x:Nat) y=Hh x y:=by rw[TJ 0 x,Gr]
def Gs{w:Int×Int}(l:aH w.1 w.2):aT (w.1,0,w.2):=⟨l.1,(Gr _ _).trans l.2⟩
def Gu{w:Int×Int}(l:aH w.1 w.2):aT (0,w.1,w.2):=⟨l.1,(Qi _ _).trans l.2⟩
def cj(w h:Int×Int):aa:=cC (w.1*h.2) (h.1*w.2) (w.2*h.2)
def iy(w h:Int×Int):List aa:=[(0,0,1),(w.1,0,w.2),cj w h,(0,h.1,h.2)]
structure j' (w h:Int×Int):Prop where
 lw:aH w.1 w.2
 lh:aH h.1 h.2
 w0:0<w.1
 h0:0<h.1
def j'.top{w h:Int×Int}(b:j' w h):aT (cj w h)/\(cj w h).1*w.2=w.1*(cj w h).2.2/\(cj w h).2.1*h.2=h.1*(cj w h).2.2/\0<(cj w h).1/\0<(cj w h).2.1:=by
 have c0:w.2*h.2≠0:=EX b.lw.1 b.lh.1;obtain⟨p,ah,ap,_⟩:=ju (a:=w.1*h.2) (b:=h.1*w.2) c0;have p:aT (cj w h):=p;have ah:(cj w h).1*(w.2*h.2)=w.1*h.2*(cj w h).2.2:=ah;have ap:(cj w h).2.1*(w.2*h.2)=h.1*w.2*(cj w h).2.2:=ap;have aU:(cj w h).1*w.2=w.1*(cj w h).2.2:=TB (SD b.lh.1) (by grind);have a9:(cj w h).2.1*h.2=h.1*(cj w h).2.2:=TB (SD b.lw.1) (by grind);refine⟨p,aU,a9,?_,?_⟩
 ·have:0<(cj w h).1*w.2:=by rw[aU];exact SF b.w0 p.1
  exact UO this b.lw.1
 ·have:0<(cj w h).2.1*h.2:=by rw[a9];exact SF b.h0 p.1
  exact UO this b.lh.1
def o6{x:Int}(h:0<x):sg x=1:=by unfold sg;rw[SC h]
section
variable{w h:Int×Int}
def j'.d012(b:j' w h):sg (bi (0,0,1) (w.1,0,w.2) (cj w h))=1:=by
 obtain⟨_,_,_,ce,b8⟩:=b.top;have e:bi (0,0,1) (w.1,0,w.2) (cj w h)=w.1*(cj w h).2.1:=by unfold bi crs;simp
 rw[e];exact o6 (SF b.w0 b8)
def j'.d013(b:j' w h):sg (bi (0,0,1) (w.1,0,w.2) (0,h.1,h.2))=1:=by
 have e:bi (0,0,1) (w.1,0,w.2) (0,h.1,h.2)=w.1*h.1:=by unfold bi crs;simp
 rw[e];exact o6 (SF b.w0 b.h0)
def j'.d023(b:j' w h):sg (bi (0,0,1) (cj w h) (0,h.1,h.2))=1:=by
 obtain⟨_,_,_,ce,b8⟩:=b.top;have e:bi (0,0,1) (cj w h) (0,h.1,h.2)=(cj w h).1*h.1:=by unfold bi crs;simp
 rw[e];exact o6 (SF ce b.h0)
def j'.d312(b:j' w h):sg (bi (0,h.1,h.2) (w.1,0,w.2) (cj w h))=1:=by
 obtain⟨p,ah,ap,ce,b8⟩:=b.top;have e:bi (0,h.1,h.2) (w.1,0,w.2) (cj w h)=h.1*w.1*(cj w h).2.2:=by unfold bi crs;simp;grind
 rw[e];exact o6 (SF (SF b.h0 b.w0) p.1)
end
def Qj{p q r s:aa}(h1:sg (bi p q r)=1)(h2:sg (bi p q s)=1)(aF:sg (bi q r s)=1)(bb:sg (bi p r s)=1):fw [p,q,r,s]:=by
 have t7:∀a b c:aa,bi b c a=bi a b c:=λa b c=>by unfold bi crs;grind
 refine⟨by simp,λk j ag bS cq dL=>?_⟩;have l:[p,q,r,s].length=4:=rfl;rw[l]at ag bS dL⊢;have:k=0\/k=1\/k=2\/k=3:=by lia
 rcases this with rfl|rfl|rfl|rfl
 ·have:j=2\/j=3:=by lia
  rcases this with rfl|rfl
  ·exact h1
  ·exact h2
 ·have:j=0\/j=3:=by lia
  rcases this with rfl|rfl
  ·show sg (bi q r p)=1
   rw[t7 p q r];exact h1
  ·exact aF
 ·have:j=0\/j=1:=by lia
  rcases this with rfl|rfl
  ·show sg (bi r s p)=1
   rw[t7 p r s];exact bb
  ·show sg (bi r s q)=1
   rw[t7 q r s];exact aF
 ·have:j=1\/j=2:=by lia
  rcases this with rfl|rfl
  ·show sg (bi s p q)=1
   rw[<-t7 s p q];exact h2
  ·show sg (bi s p r)=1
   rw[<-t7 s p r];exact bb
def j'.cvx{w h:Int×Int}(b:j' w h):fw (iy w h):=by
 refine Qj b.d012 b.d013 ?_ b.d023;have:bi (w.1,0,w.2) (cj w h) (0,h.1,h.2)=bi (0,h.1,h.2) (w.1,0,w.2) (cj w h):=by unfold bi crs;grind
 rw[this];exact b.d312
def Gv{ps:Zd}{k:Nat}(h:k<ps.length):dW (ps.map dP) ((k:Int)-1)=some (dP (bx ps ((k+ps.length-1)%ps.length))):=by
 cases k with
 |zero=>
  have e:((0:Nat)+ps.length-1)%ps.length=ps.length-1:=by rw[TX];exact Tb (by lia)
  rw[e,l9 (by lia)];unfold dW ixN;rw[SL (by lia),SC (by rw[Sw];lia)];show(ps.map dP)[_]?=_
  rw[SX,Sw,show(((0:Nat):Int)-1+(ps.length:Int)).toNat=ps.length-1 by lia,S5 (by lia)];rfl
 |succ k=>
  have e:(k+1+ps.length-1)%ps.length=k:=by
   rw[show k+1+ps.length-1=k+ps.length by lia,UP];exact Tb (by lia)
  rw[e,show(((k+1:Nat):Int)-1)=(k:Int) by lia];exact m1 (by lia)
def jB(p q r:aa):bi q r p=bi p q r:=by unfold bi crs;grind
def t8(p q:aa):bi p p q=0:=by unfold bi crs;grind
def Qk(o u a b c:aa):bi o u b*bi o a c=bi o u a*bi o b c+bi o u c*bi o a b:=by
 unfold bi crs;grind
def Gw{x:Int}(h:sg x=1):0<x:=by
 unfold sg at h;split at h
 ·assumption
 ·split at h<;>lia
def qo(ps:Zd):Prop:=∀i j k,i<j->j<k->k<ps.length->0<bi (bx ps i) (bx ps j) (bx ps k)
def fw.edge{ps:Zd}(h:fw ps){k j:Nat}(ag:k+1<ps.length)(bS:j<ps.length)(cq:j≠k)(dL:j≠k+1):0<bi (bx ps k) (bx ps (k+1)) (bx ps j):=by
 have:=h.2 k j (by lia) bS cq (by rw[Tb ag];exact dL);rw[Tb ag]at this;exact Gw this
def fw.tri{ps:Zd}(h:fw ps):qo ps:=by
 intro i j k mH hjk ag;induction k with
 |zero=>lia
 |succ k cH=>
  by_cases e:j=k
  ·subst e;rw[<-jB];exact h.edge ag (by lia) (by lia) (by lia)
  ·have h1:=cH (by lia) (by lia)
   have h2:0<bi (bx ps i) (bx ps k) (bx ps (k+1)):=by
    rw[<-jB];exact h.edge ag (by lia) (by lia) (by lia)
   have bW:=h.edge (k:=i) (j:=k) (by lia) (by lia) (by lia) (by lia);have gE:=h.edge (k:=i) (j:=k+1) (by lia) (by lia) (by lia) (by lia)
   have bH:0<=bi (bx ps i) (bx ps (i+1)) (bx ps j):=by
    by_cases z:j=i+1
    ·subst z;have:bi (bx ps i) (bx ps (i+1)) (bx ps (i+1))=0:=rU _ _;lia
    ·exact Tn (h.edge (by lia) (by lia) (by lia) z)
   have cp:=Qk (bx ps i) (bx ps (i+1)) (bx ps j) (bx ps k) (bx ps (k+1));have r1:=Tv bH (Tn h2);have r2:=SF gE h1;have:0<bi (bx ps i) (bx ps (i+1)) (bx ps k)*bi (bx ps i) (bx ps j) (bx ps (k+1)):=by lia
   exact T' this bW
def qo.cvx{ps:Zd}(am:3<=ps.length)(h:qo ps):fw ps:=by
 refine⟨am,λk j ag bS cq dL=>o6 ?_⟩;by_cases e:k+1<ps.length
 ·rw[Tb e]at dL⊢;by_cases z:k<j
  ·exact h k (k+1) j (by lia) (by lia) bS
  ·rw[jB];exact h j k (k+1) (by lia) (by lia) e
 ·have li:k+1=ps.length:=by lia
  rw[li,V6]at dL⊢;rw[<-jB];exact h 0 j k (by lia) (by lia) ag
def T1(a:aa):Zd->Prop
 |[]=>True
 |b::r=>(∀c∈r,0<bi a b c)/\T1 a r
def bQ:Zd->Prop
 |[]=>True
 |a::r=>T1 a r/\bQ r
def T1.sub{a:aa}{l m:Zd}(s:l.Sublist m):T1 a m->T1 a l:=by
 induction s with
 |slnil=>exact id
 |cons b s cH=>exact λh=>cH h.2
 |cons_cons b s cH=>exact λh=>⟨λc hc=>h.1 c (s.subset hc),cH h.2⟩
def bQ.sub{l m:Zd}(s:l.Sublist m):bQ m->bQ l:=by
 induction s with
 |slnil=>exact id
 |cons b s cH=>exact λh=>cH h.2
 |cons_cons b s cH=>exact λh=>⟨T1.sub s h.1,cH h.2⟩
def Gx(a:aa)(r:Zd)(i:Nat):bx (a::r) (i+1)=bx r i:=rfl
def Ql(a:aa)(r:Zd):bx (a::r) 0=a:=rfl
def Qm{r:Zd}{i:Nat}(h:i<r.length):bx r i∈r:=by
 induction r generalizing i with
 |nil=>exact absurd h (by simp)
 |cons a r cH=>
  cases i with
  |zero=>exact Sx
  |succ i=>exact Sz _ (cH (by simpa using h))
def Qn{r:Zd}{c:aa}(h:c∈r):∃i,i<r.length/\bx r i=c:=by
 induction r with
 |nil=>cases h
 |cons a r cH=>
  rcases SK.mp h with rfl|h
  ·exact⟨0,by simp,rfl⟩
  ·obtain⟨i,ay,e⟩:=cH h;exact⟨i+1,by simpa using ay,e⟩
def w5(a:aa):∀r:Zd,T1 a r↔∀j k,j<k->k<r.length->0<bi a (bx r j) (bx r k)
 |[]=>⟨λ_ j k _ h=>absurd h (by simp),λ_=>trivial⟩
 |b::r=>by
  constructor
  ·rintro⟨h1,h2⟩ j k hjk ag;cases k with
   |zero=>lia
   |succ k=>
    have ag:k<r.length:=by simpa using ag
    cases j with
    |zero=>exact h1 _ (Qm ag)
    |succ j=>exact(w5 a r).mp h2 j k (by lia) ag
  ·intro h;refine⟨λc hc=>?_,(w5 a r).mpr λj k hjk ag=>h (j+1) (k+1) (by lia) (by simpa using ag)⟩;obtain⟨i,ay,rfl⟩:=Qn hc;exact h 0 (i+1) (by lia) (by simpa using ay)
def qp:∀ps:Zd,bQ ps↔qo ps
 |[]=>⟨λ_ i j k _ _ h=>absurd h (by simp),λ_=>trivial⟩
 |a::r=>by
  constructor
  ·rintro⟨h1,h2⟩ i j k mH hjk ag;cases k with
   |zero=>lia
   |succ k=>
    cases j with
    |zero=>lia
    |succ j=>
     have ag:k<r.length:=by simpa using ag
     cases i with
     |zero=>exact(w5 a r).mp h1 j k (by lia) ag
     |succ i=>exact(qp r).mp h2 i j k (by lia) (by lia) ag
  ·intro h;exact⟨(w5 a r).mpr λj k hjk ag=>h 0 (j+1) (k+1) (by lia) (by lia) (by simpa using ag),(qp r).mpr λi j k h1 h2 ag=>h (i+1) (j+1) (k+1) (by lia) (by lia) (by simpa using ag)⟩
def t9(c a b:aa):crs c (crs a b)=hg (c.1*b.1+c.2.1*b.2.1+c.2.2*b.2.2) a (-(c.1*a.1+c.2.1*a.2.1+c.2.2*a.2.2)) b:=by
 unfold crs hg;refine eS ?_ ?_ ?_<;>dsimp only<;>grind
def Gy(s t:Int)(a b q r:aa):bi (hg s a t b) q r=s*bi a q r+t*bi b q r:=by unfold bi crs hg;dsimp only;grind
def Gz(s:Int)(a q r:aa):bi (sc s a) q r=s*bi a q r:=by unfold bi crs sc;dsimp only;grind
end Cut
namespace Cut
open PySem L2 L3
def GA{b a:aa}:∀{r:Zd},T1 b r->(∀c∈r,0<bi b c a)->T1 b (r++[a])
 |[],_,_=>⟨λc hc=>absurd hc (by simp),trivial⟩
 |d::r,h,k=>⟨λc hc=>by
   rcases SR.mp hc with hc|hc
   ·exact h.1 c hc
   ·rw[SO.mp hc];exact k d Sx,GA h.2 λc hc=>k c (Sz _ hc)⟩
def GB{a:aa}:∀{r:Zd},bQ r->T1 a r->bQ (r++[a])
 |[],_,_=>⟨trivial,trivial⟩
 |b::r,h,k=>⟨GA h.1 λc hc=>by rw[jB];exact k.1 c hc,GB h.2 k.2⟩
def bQ.rot{a:aa}{r:Zd}(h:bQ (a::r)):bQ (r++[a]):=GB h.2 h.1
def ua:Zd->Zd->Prop
 |[],_=>True
 |x::xs,ed=>(∀y∈xs,∀z∈ed,0<bi x y z)/\ua xs ed
def w6{x:aa}:∀{xs ed:Zd},T1 x (xs++ed)↔T1 x xs/\T1 x ed/\∀y∈xs,∀z∈ed,0<bi x y z
 |[],ed=>⟨λh=>⟨trivial,h,λy aN=>absurd aN (by simp)⟩,λh=>h.2.1⟩
 |y::xs,ed=>by
  constructor
  ·rintro⟨h1,h2⟩;obtain⟨bO,bV,gG⟩:=w6.mp h2;refine⟨⟨λc hc=>h1 c (TN _ hc),bO⟩,bV,λw hw z hz=>?_⟩;rcases SK.mp hw with rfl|hw
   ·exact h1 z (Ts _ hz)
   ·exact gG w hw z hz
  ·rintro⟨⟨h1,h2⟩,aF,bb⟩;refine⟨λc hc=>?_,w6.mpr ⟨h2,aF,λw hw z hz=>bb w (Sz _ hw) z hz⟩⟩;rcases SR.mp hc with hc|hc
   ·exact h1 c hc
   ·exact bb y Sx c hc
def ma:∀{xs ed:Zd},bQ (xs++ed)↔bQ xs/\bQ ed/\(∀x∈xs,T1 x ed)/\ua xs ed
 |[],ed=>⟨λh=>⟨trivial,h,λy aN=>absurd aN (by simp),trivial⟩,λh=>h.2.1⟩
 |x::xs,ed=>by
  constructor
  ·rintro⟨h1,h2⟩;obtain⟨bO,bV,gG,hf⟩:=ma.mp h2;obtain⟨ez,eT,m3⟩:=w6.mp h1;refine⟨⟨ez,bO⟩,bV,λw hw=>?_,⟨m3,hf⟩⟩;rcases SK.mp hw with rfl|hw
   ·exact eT
   ·exact gG w hw
  ·rintro⟨⟨h1,h2⟩,aF,bb,cX,fN⟩;exact⟨w6.mpr ⟨h1,bb x Sx,cX⟩,ma.mpr ⟨h2,aF,λw hw=>bb w (Sz _ hw),fN⟩⟩
def w7{ed ws:Zd}(h:∀x y,(∀z∈ed,0<bi x y z)->∀z∈ws,0<bi x y z):∀{xs:Zd},ua xs ed->ua xs ws
 |[],_=>trivial
 |x::xs,k=>⟨λy aN=>h x y (k.1 y aN),w7 h k.2⟩
def hi(p q m:aa):Prop:=∃s a b:Int,0<s/\0<a/\0<b/\sc s m=hg a p b q
def Qo{s x y:Int}(al:0<s)(e:s*x=y)(aN:0<y):0<x:=by
 rw[<-e]at aN;exact T' aN al
def ub{p q m u v:aa}(h:hi p q m)(h1:0<=bi p u v)(h2:0<=bi q u v)(aF:0<bi p u v\/0<bi q u v):0<bi m u v:=by
 obtain⟨s,a,b,al,ar,ab,e⟩:=h;have k:s*bi m u v=a*bi p u v+b*bi q u v:=by rw[<-Gz,e,Gy]
 refine Qo al k ?_;have cq:=Tv (Tn ar) h1;have dL:=Tv (Tn ab) h2;rcases aF with aF|aF
 ·have:=SF ar aF;lia
 ·have:=SF ab aF;lia
def qq{p q m u v:aa}(h:hi p q m)(h1:0<=bi u p v)(h2:0<=bi u q v)(aF:0<bi u p v\/0<bi u q v):0<bi u m v:=by
 rw[<-jB]at h1 h2⊢;rw[<-jB u p v,<-jB u q v]at aF;exact ub h h1 h2 aF
def qr{p q m u v:aa}(h:hi p q m)(h1:0<=bi u v p)(h2:0<=bi u v q)(aF:0<bi u v p\/0<bi u v q):0<bi u v m:=by
 rw[jB]at h1 h2⊢;rw[jB p u v,jB q u v]at aF;exact ub h h1 h2 aF
def Bx{p q m:aa}(h:hi p q m):∀{ys:Zd},T1 p ys->T1 q ys->T1 m ys
 |[],_,_=>trivial
 |y::ys,h1,h2=>⟨λc hc=>ub h (Tn (h1.1 c hc)) (Tn (h2.1 c hc)) (.inl (h1.1 c hc)),Bx h h1.2 h2.2⟩
def fF{x:Int}(z:0<x):0<=x:=Tn z
def nU{x:Int}(z:x=0):0<=x:=by lia
def bQ.back{xs ys:Zd}{p q m:aa}(h:bQ (xs++p::q::ys))(ax:hi p q m):bQ (xs++p::m::ys):=by
 obtain⟨h1,⟨⟨cW,cS⟩,aR,bK⟩,aF,bb⟩:=ma.mp h;refine ma.mpr ⟨h1,⟨⟨λc hc=>?_,cS⟩,Bx ax cS aR,bK⟩,λx ao=>?_,w7 (λx y hz z hw=>?_) bb⟩
 ·exact qq ax (nU (t8 p c)) (fF (cW c hc)) (.inr (cW c hc))
 ·obtain⟨bO,bV,gG⟩:=aF x ao;refine⟨λc hc=>?_,λc hc=>?_,gG⟩
  ·rcases SK.mp hc with rfl|hc
   ·exact qr ax (nU (rU x p)) (fF (bO q Sx)) (.inr (bO q Sx))
   ·exact bO c (Sz _ hc)
  ·exact qq ax (fF (bO c (Sz _ hc))) (fF (bV c hc)) (.inr (bV c hc))
 ·rcases SK.mp hw with rfl|hw
  ·exact hz _ Sx
  ·rcases SK.mp hw with rfl|hw
   ·exact qr ax (fF (hz p Sx)) (fF (hz q (Sz _ Sx))) (.inl (hz p Sx))
   ·exact hz z (Sz _ (Sz _ hw))
def bQ.on{xs ys:Zd}{p q m:aa}(h:bQ (xs++p::q::ys))(ax:hi p q m):bQ (xs++m::q::ys):=by
 obtain⟨h1,⟨⟨cW,cS⟩,aR,bK⟩,aF,bb⟩:=ma.mp h;refine ma.mpr ⟨h1,⟨⟨λc hc=>?_,Bx ax cS aR⟩,aR,bK⟩,λx ao=>?_,w7 (λx y hz z hw=>?_) bb⟩
 ·exact ub ax (fF (cW c hc)) (nU (t8 q c)) (.inl (cW c hc))
 ·obtain⟨bO,bV,gG⟩:=aF x ao;refine⟨λc hc=>?_,bV,gG⟩;rcases SK.mp hc with rfl|hc
  ·exact qq ax (fF (bO c Sx)) (nU (rU x c)) (.inl (bO c Sx))
  ·exact qq ax (fF (bO c (Sz _ hc))) (fF (bV c hc)) (.inr (bV c hc))
 ·rcases SK.mp hw with rfl|hw
  ·exact qr ax (fF (hz p Sx)) (fF (hz q (Sz _ Sx))) (.inl (hz p Sx))
  ·exact hz z (Sz _ hw)
def bQ.off{xs ys:Zd}{p q r m n:aa}(h:bQ (xs++p::q::r::ys))(ax:hi p q m)(aM:hi q r n):bQ (xs++p::m::n::r::ys):=by
 have ah:=bQ.on (xs:=xs++[p]) (p:=q) (q:=r) (by rw[S6];exact h) aM;rw[S6]at ah;obtain⟨h1,⟨⟨cW,cS⟩,aR,bK⟩,aF,bb⟩:=ma.mp h;obtain⟨_,⟨⟨cc,ci⟩,a7,bd⟩,c3,c4⟩:=ma.mp (show bQ (xs++p::n::r::ys)from ah);have Qp:bQ (xs++p::m::r::ys):=h.back ax;obtain⟨_,⟨⟨bo,bG⟩,aU,a9⟩,g3,dQ⟩:=ma.mp Qp;have GC:0<bi p q n:=qr aM (nU (rU p q)) (fF (cW r Sx)) (.inr (cW r Sx))
 have Qq:∀c∈r::ys,0<bi m n c:=λc hc=>by
  refine ub ax (fF (cc c hc)) ?_ (.inl (cc c hc));rcases SK.mp hc with rfl|hc
  ·exact nU (by
    obtain⟨s,a,b,al,_,_,e⟩:=aM
    have k:s*bi q n c=a*bi q q c+b*bi q c c:=by
     rw[<-jB q n c,<-jB q q c,<-jB q c c,<-Gz,e,Gy]
    rw[t8,rU,S1,S1]at k;rcases Tu.mp k with z|z
    ·lia
    ·exact z)
  ·exact fF (qq aM (nU (t8 q c)) (fF (aR.1 c hc)) (.inr (aR.1 c hc)))
 refine ma.mpr ⟨h1,⟨⟨λc hc=>?_,cc,ci⟩,⟨Qq,aU⟩,a7,bd⟩,λx ao=>?_,w7 (λx y hz z hw=>?_) bb⟩
 ·rcases SK.mp hc with rfl|hc
  ·exact qq ax (nU (t8 p c)) (fF GC) (.inr GC)
  ·exact bo c hc
 ·obtain⟨bO,bV,gG⟩:=aF x ao;obtain⟨bj,bt,eG⟩:=c3 x ao;obtain⟨jC,iU,w8⟩:=g3 x ao;refine⟨λc hc=>?_,λc hc=>?_,bt,eG⟩
  ·rcases SK.mp hc with rfl|hc
   ·exact jC c Sx
   ·exact bj c hc
  ·rcases SK.mp hc with rfl|hc
   ·have GD:0<bi x q c:=qr aM (nU (rU x q)) (fF (bV r Sx)) (.inr (bV r Sx));exact qq ax (fF (bj c Sx)) (fF GD) (.inr GD)
   ·exact iU c hc
 ·have By:=hz q (Sz _ Sx);have Bz:=hz p Sx;have Qr:=hz r (Sz _ (Sz _ Sx));rcases SK.mp hw with rfl|hw
  ·exact Bz
  ·rcases SK.mp hw with rfl|hw
   ·exact qr ax (fF Bz) (fF By) (.inl Bz)
   ·rcases SK.mp hw with rfl|hw
    ·exact qr aM (fF By) (fF Qr) (.inl By)
    ·exact hz z (Sz _ (Sz _ hw))
def ln(l p:aa):Int:=l.1*p.1+l.2.1*p.2.1+l.2.2*p.2.2
def Qs(l p q r s:aa):bi q r s*ln l p-bi p r s*ln l q+bi p q s*ln l r-bi p q r*ln l s=0:=by
 unfold bi crs ln;grind
def T1.one{a:aa}:∀{xs:Zd},ua xs [a]->T1 a xs
 |[],_=>trivial
 |x::xs,h=>⟨λc hc=>by rw[<-jB];exact h.1 c hc a Sx,T1.one h.2⟩
def bQ.unrot{a:aa}{r:Zd}(h:bQ (r++[a])):bQ (a::r):=by
 obtain⟨h1,_,_,bb⟩:=ma.mp h;exact⟨T1.one bb,h1⟩
def bQ.turn:∀{xs ys:Zd},bQ (xs++ys)->bQ (ys++xs)
 |[],ys,h=>by rw[SP];exact h
 |x::xs,ys,h=>by
  have h1:bQ (xs++(ys++[x])):=by rw[<-S6];exact bQ.rot h
  have h2:=bQ.turn h1;rw[S6]at h2;exact h2
section
variable(f:aa->Int)(mt:aa->aa->aa)
def kp(p:aa):List aa:=if 0<=f p then[p]else[]
def cA(p q:aa):List aa:=if f p*f q<0 then[mt p q]else[]
def dg:Zd->aa->Zd
 |[],_=>[]
 |p::r,w=>kp f p++cA f mt p (r.headD w)++dg r w
def dz(ps:Zd):List aa:=dg f mt ps (ps.headD (0,0,1))
end
variable{f:aa->Int}{mt:aa->aa->aa}
def Qt(xs ys:Zd)(w:aa):(xs++ys).headD w=xs.headD (ys.headD w):=by
 cases xs<;>rfl
def uc(w:aa):∀xs ys:Zd,dg f mt (xs++ys) w=dg f mt xs (ys.headD w)++dg f mt ys w
 |[],_=>rfl
 |p::xs,ys=>by
  show kp f p++cA f mt p ((xs++ys).headD w)++dg f mt (xs++ys) w=kp f p++cA f mt p (xs.headD (ys.headD w))++dg f mt xs (ys.headD w)++dg f mt ys w
  rw[uc w xs ys,Qt,S6,S6,S6]
def Qu(xs ys:Zd):∃P Q,dz f mt (xs++ys)=P++Q/\dz f mt (ys++xs)=Q++P:=by
 cases xs with
 |nil=>exact⟨[],dz f mt ys,rfl,by rw[SP,SP]⟩
 |cons x xs=>
  cases ys with
  |nil=>exact⟨dz f mt (x::xs),[],by rw[SP,SP],rfl⟩
  |cons y ys=>
   refine⟨dg f mt (x::xs) y,dg f mt (y::ys) x,?_,?_⟩
   ·unfold dz;rw[uc];rfl
   ·unfold dz;rw[uc];rfl
def GE{xs ys:Zd}(h:bQ (dz f mt (ys++xs))/\3<=(dz f mt (ys++xs)).length):bQ (dz f mt (xs++ys))/\3<=(dz f mt (xs++ys)).length:=by
 obtain⟨P,Q,ah,ap⟩:=Qu (f:=f) (mt:=mt) xs ys;rw[ah];rw[ap]at h;refine⟨bQ.turn h.1,?_⟩;have:=h.2;rw[SH]at this⊢;lia
def BA{w:aa}:∀{a:aa}{A:Zd},(∀p∈A++[a],0<=f p)->dg f mt (A++[a]) w=A++[a]++cA f mt a w
 |a,[],h=>by
  show kp f a++cA f mt a w++[]=[a]++cA f mt a w
  unfold kp;rw[SC (h a (by simp)),SP]
 |a,p::A,h=>by
  show kp f p++cA f mt p ((A++[a]).headD w)++dg f mt (A++[a]) w=p::A++[a]++cA f mt a w
  rw[BA λq au=>h q (Sz _ au)];have ae:=h p Sx
  have au:0<=f ((A++[a]).headD w):=by
   cases A with
   |nil=>exact h a (by simp)
   |cons b A=>exact h b (by simp)
  unfold kp cA;rw[SC ae,SL (by have:=Tv ae au;lia)];simp
def GF{w:aa}:∀{s:aa}{N:Zd},(∀p∈N++[s],f p<0)->dg f mt (N++[s]) w=cA f mt s w
 |s,[],h=>by
  show kp f s++cA f mt s w++[]=cA f mt s w
  unfold kp;rw[SL (by have:=h s (by simp);lia),SP,Tc]
 |s,p::N,h=>by
  show kp f p++cA f mt p ((N++[s]).headD w)++dg f mt (N++[s]) w=cA f mt s w
  rw[GF λq au=>h q (Sz _ au)];have ae:=h p Sx
  have au:f ((N++[s]).headD w)<0:=by
   cases N with
   |nil=>exact h s (by simp)
   |cons b N=>exact h b (by simp)
  unfold kp cA;rw[SL (by lia),SL (by have:=UB ae au;lia)];rfl
def Meets(f:aa->Int)(mt:aa->aa->aa):Prop:=∀p q,f p*f q<0->hi p q (mt p q)
def mb{p q:aa}(h:f p*f q<0):cA f mt p q=[mt p q]:=by unfold cA;rw[SC h]
def lj{p q:aa}(h:¬f p*f q<0):cA f mt p q=[]:=by unfold cA;rw[SL h]
def neg_mul{a b:Int}(ar:0<a)(ab:b<0):a*b<0:=S2 ar ab
def Qv{b:aa}{A N:Zd}{s:aa}(g5:Meets f mt)(h:bQ ((A++[b])++(N++[s])))(gO:∀p∈A++[b],0<=f p)(a4:∀p∈N++[s],f p<0)(am:3<=((A++[b])++(N++[s])).length)(ae:∃p∈A++[b],0<f p):
  bQ (dz f mt ((A++[b])++(N++[s])))/\3<=(dz f mt ((A++[b])++(N++[s]))).length:=by
 obtain⟨a,ic,dy⟩:∃a ic,A++[b]=a::ic:=by
  cases A with
  |nil=>exact⟨b,[],rfl⟩
  |cons a A=>exact⟨a,A++[b],rfl⟩
 obtain⟨n,N',lm⟩:∃n N',N++[s]=n::N':=by
  cases N with
  |nil=>exact⟨s,[],rfl⟩
  |cons n N=>exact⟨n,N++[s],rfl⟩
 have hu:0<=f a:=gO a (by rw[dy];exact Sx);have w9:0<=f b:=gO b (by simp);have fn:f n<0:=a4 n (by rw[lm];exact Sx);have fs:f s<0:=a4 s (by simp)
 have e:dz f mt ((A++[b])++(N++[s]))=(A++[b])++cA f mt b n++cA f mt s a:=by
  unfold dz;rw[uc,BA gO,GF a4,dy,lm];rfl
 rw[e]
 have two:N≠[]->bQ ((A++[b])++[n,s]):=λz=>by
  refine bQ.sub (UC (Vm _) ?_) h;cases N with
  |nil=>exact absurd rfl z
  |cons m N=>
   have:m=n:=(Ur lm).1;subst this;exact WR _ (WS N [s])
 have Qw:bQ ((A++[b])++[n]):=bQ.sub (UC (Vm _) (UQ.mpr (by rw[lm];exact Sx))) h;have oneS:bQ ((A++[b])++[s]):=bQ.sub (UC (Vm _) (UQ.mpr (by simp))) h;by_cases ab:0<f b
 ·have fK:f b*f n<0:=neg_mul ab fn;have BB:=g5 b n fK;rw[mb fK];by_cases ar:0<f a
  ·have jm:f s*f a<0:=by rw[S4];exact neg_mul ar fs
   have w':=g5 s a jm;rw[mb jm];refine⟨?_,by simp⟩;by_cases z:N=[]
   ·subst z;have es:s=n:=(Ur lm).1;subst es;cases A with
    |nil=>simp at am
    |cons ci nV=>
     have:ci=a:=(Ur dy).1;subst this
     have r1:bQ (nV++b::s::ci::[]):=by
      have:=bQ.rot (a:=ci) (r:=nV++[b]++[s]) oneS;simpa using this
     have r2:=bQ.unrot (a:=ci) (r:=nV++[b,mt b s,mt s ci]) (by simpa using r1.off BB w');simpa using r2
   ·have t:=two z;have r1:bQ (A++b::mt b n::[s]):=bQ.back (by simpa using t) BB
    have r2:bQ (a::(ic++[mt b n,s])):=by
     have:bQ ((A++[b])++[mt b n,s]):=by simpa using r1
     rw[dy]at this;exact this
    have ga:bQ ((ic++[mt b n])++s::a::[]):=by simpa using bQ.rot r2
    have s6:=bQ.unrot (a:=a) (r:=ic++[mt b n,mt s a]) (by simpa using ga.on w');rw[dy];simpa using s6
  ·have e1:f a=0:=by lia
   have BC:A≠[]:=by
    rintro rfl;have:b=a:=(Ur dy).1;subst this;exact ar ab
   rw[lj (by rw[e1,S1];lia),SP];refine⟨?_,?_⟩
   ·have r:=bQ.back (xs:=A) (p:=b) (q:=n) (ys:=[]) (by simpa using Qw) BB;simpa using r
   ·have:=V7.mpr BC;simp;lia
 ·have b0:f b=0:=by lia
  rw[lj (by rw[b0,TY];lia),SP];by_cases ar:0<f a
  ·have jm:f s*f a<0:=by rw[S4];exact neg_mul ar fs
   have w':=g5 s a jm
   have BC:A≠[]:=by
    rintro rfl;have:b=a:=(Ur dy).1;subst this;exact ab ar
   rw[mb jm];refine⟨?_,?_⟩
   ·have r1:bQ (a::(ic++[s])):=by rw[dy]at oneS;exact oneS
    have ga:bQ (ic++s::a::[]):=by simpa using bQ.rot r1
    have s6:=bQ.unrot (a:=a) (r:=ic++[mt s a]) (by simpa using ga.on w');rw[dy];exact s6
   ·have:=V7.mpr BC;simp;lia
  ·have e1:f a=0:=by lia
   rw[lj (by rw[e1,S1];lia),SP];refine⟨bQ.sub (List.sublist_append_left _ _) h,?_⟩;obtain⟨p,o7,m4⟩:=ae;have ah:p≠b:=by rintro rfl;lia
   have ap:p≠a:=by rintro rfl;lia
   have GG:p∈A:=by
    rcases SR.mp o7 with q|q
    ·exact q
    ·exact absurd (SO.mp q) ah
   cases A with
   |nil=>cases GG
   |cons ci nV=>
    have:ci=a:=(Ur dy).1;subst this;rcases SK.mp GG with q|q
    ·exact absurd q ap
    ·have:=List.length_pos_of_mem q;simp;lia
def xa{P:aa->Prop}:∀ps:Zd,(∀p,P p\/¬P p)->∃A r,ps=A++r/\(∀p∈A,P p)/\(r=[]\/∃x dA,r=x::dA/\¬P x)
 |[],_=>⟨[],[],rfl,λp ae=>absurd ae (by simp),.inl rfl⟩
 |p::ps,em=>by
  rcases em p with h|h
  ·obtain⟨A,r,e,gO,ak⟩:=xa ps em;refine⟨p::A,r,by rw[e];rfl,λq au=>?_,ak⟩;rcases SK.mp au with rfl|au
   ·exact h
   ·exact gO q au
  ·exact⟨[],p::ps,rfl,λq au=>absurd au (by simp),.inr ⟨p,ps,rfl,h⟩⟩
def GH{l p q r s:aa}(h:bQ [p,q,r,s]):¬(0<=ln l p/\ln l q<0/\0<=ln l r/\ln l s<0)/\¬(ln l p<0/\0<=ln l q/\ln l r<0/\0<=ln l s):=by
 obtain⟨⟨h1,h2,_⟩,⟨aF,_⟩,_⟩:=h;have bo:=h1 r (by simp);have bG:=h1 s (by simp);have f5:=h2 s (by simp);have kF:=aF s (by simp);have k:=Qs l p q r s;constructor
 ·rintro⟨a,b,c,d⟩;have d1:=Tv (fF kF) a;have cY:=S2 f5 b;have hb:=Tv (fF bG) c;have Qx:=S2 bo d;lia
 ·rintro⟨a,b,c,d⟩;have d1:=S2 kF a;have cY:=Tv (fF f5) b;have hb:=S2 bG c;have Qx:=Tv (fF bo) d;lia
def GI{a b c d:aa}{A B C D:Zd}(ar:a∈A)(ab:b∈B)(hc:c∈C)(hd:d∈D):[a,b,c,d].Sublist (A++(B++(C++D))):=
 UC (UQ.mpr ar) (UC (UQ.mpr ab) (UC (UQ.mpr hc) (UQ.mpr hd)))
def Qy{l:aa}{ps:Zd}(g5:Meets (ln l) mt)(h:bQ ps)(am:3<=ps.length)(ae:∃p∈ps,0<ln l p):bQ (dz (ln l) mt ps)/\3<=(dz (ln l) mt ps).length:=by
 have em:∀p,0<=ln l p\/¬0<=ln l p:=λp=>by lia
 have norm:∀A N:Zd,A≠[]->N≠[]->bQ (A++N)->3<=(A++N).length->(∀p∈A,0<=ln l p)->(∀p∈N,ln l p<0)->(∃p∈A,0<ln l p)->bQ (dz (ln l) mt (A++N))/\3<=(dz (ln l) mt (A++N)).length:=λA N gO a4 mc len qs Qz ex=>by
  obtain⟨ic,b,rfl⟩:∃ic b,A=ic++[b]:=⟨_,_,(V8 gO).symm⟩;obtain⟨N',s,rfl⟩:∃N' s,N=N'++[s]:=⟨_,_,(V8 a4).symm⟩;exact Qv g5 mc qs Qz len ex
 obtain⟨rW,r,rfl,ud,ak⟩:=xa (P:=λp=>0<=ln l p) ps em;rcases ak with rfl|⟨x,dA,rfl,ao⟩
 ·rw[SP]at h am ae⊢;have ne:rW≠[]:=by rintro rfl;simp at am
  obtain⟨ic,b,rfl⟩:∃ic b,rW=ic++[b]:=⟨_,_,(V8 ne).symm⟩
  have e:dz (ln l) mt (ic++[b])=ic++[b]:=by
   unfold dz;rw[BA ud,lj,SP];have h1:=ud b (by simp)
   have h2:0<=ln l ((ic++[b]).headD (0,0,1)):=by
    cases ic with
    |nil=>exact h1
    |cons a ic=>exact ud a (by simp)
   have:=Tv h1 h2;lia
  rw[e];exact⟨h,am⟩
 obtain⟨hD,r2,ap,QA,BD⟩:=xa (P:=λp=>¬0<=ln l p) (x::dA) (λp=>by lia)
 have BE:hD≠[]:=by
  rintro rfl;rcases BD with rfl|⟨y,q,e,aN⟩
  ·cases ap
  ·rw[e]at ap;have:x=y:=(Ur ap).1;subst this;exact aN ao
 have qt:∀p∈hD,ln l p<0:=λp ae=>by have:=QA p ae;lia
 obtain⟨cq,xb⟩:=V9 hD BE;rw[ap]at h am ae⊢;by_cases BF:rW=[]
 ·subst BF;simp only[Tc]at h am ae⊢;rcases BD with rfl|⟨y,q,rfl,aN⟩
  ·obtain⟨p,o7,m4⟩:=ae;rw[SP]at o7;have:=qt p o7;lia
  ·have aN:0<=ln l y:=by lia
   obtain⟨nV,ga,bw,xc,GJ⟩:=xa (P:=λp=>0<=ln l p) (y::q) em
   have GK:nV≠[]:=by
    rintro rfl;rcases GJ with rfl|⟨z,iH,e,hz⟩
    ·cases bw
    ·rw[e]at bw;have:y=z:=(Ur bw).1;subst this;exact hz aN
   rw[bw]at h am ae⊢
   have GL:∀w∈ga,ln l w<0:=λw hw=>by
    rcases GJ with rfl|⟨z,iH,rfl,hz⟩
    ·cases hw
    ·by_cases xf:0<=ln l w
     ·rcases SK.mp hw with rfl|hw
      ·exact absurd xf hz
      ·obtain⟨ci,GM⟩:=V9 nV GK;have t:=bQ.sub (GI (a:=cq) (b:=ci) (c:=z) (d:=w) (A:=hD) (B:=nV) (C:=[z]) (D:=iH) xb GM Sx hw) (by simpa using h);exact absurd ⟨qt cq xb,xc ci GM,by lia,xf⟩ (GH t).2
     ·lia
   refine GE ?_;rw[S6];refine norm nV (ga++hD) GK (by simp[BE]) (by rw[<-S6];exact bQ.turn h) (by simp at am⊢;lia) xc (λp ae=>?_) ?_
   ·rcases SR.mp ae with z|z
    ·exact GL p z
    ·exact qt p z
   ·obtain⟨p,o7,m4⟩:=ae;refine⟨p,?_,m4⟩;rcases SR.mp o7 with z|z
    ·have:=qt p z;lia
    ·rcases SR.mp z with z|z
     ·exact z
     ·have:=GL p z;lia
 ·obtain⟨cc,GN⟩:=V9 rW BF
  have QB:∀w∈r2,0<=ln l w:=λw hw=>by
   rcases BD with rfl|⟨y,q,rfl,aN⟩
   ·cases hw
   ·by_cases xf:0<=ln l w
    ·exact xf
    ·have aN:0<=ln l y:=by lia
     rcases SK.mp hw with rfl|hw
     ·exact aN
     ·have t:=bQ.sub (GI (a:=cc) (b:=cq) (c:=y) (d:=w) (A:=rW) (B:=hD) (C:=[y]) (D:=q) GN xb Sx hw) (by simpa using h);exact absurd ⟨ud cc GN,qt cq xb,aN,by lia⟩ (GH t).1
  rw[<-S6]at h am ae⊢;refine GE ?_;rw[<-S6];refine norm (r2++rW) hD (by simp[BF]) BE (by rw[S6];exact bQ.turn h) (by simp at am⊢;lia) (λp ae=>?_) qt ?_
  ·rcases SR.mp ae with z|z
   ·exact QB p z
   ·exact ud p z
  ·obtain⟨p,o7,m4⟩:=ae;refine⟨p,?_,m4⟩;rcases SR.mp o7 with z|z
   ·rcases SR.mp z with z|z
    ·exact Ts _ z
    ·have:=qt p z;lia
   ·exact TN _ z
end Cut
namespace Cut
open PySem L2 L3
def a0(l p q:aa):aa:=if 0<p.2.2/\0<q.2.2 then nP (crs l (crs p q))else if 0<ln l q then hg (ln l q) p (-ln l p) q else hg (-ln l q) p (ln l p) q
def md{x y:Int}(h:x*y<0):(0<x/\y<0)\/(x<0/\0<y):=by
 rcases TZ x 0 with z|z|z
 ·rcases TZ y 0 with w|w|w
  ·have:=UB z w;lia
  ·rw[w,S1]at h;lia
  ·exact .inr ⟨z,w⟩
 ·rw[z,TY]at h;lia
 ·rcases TZ y 0 with w|w|w
  ·exact .inl ⟨z,w⟩
  ·rw[w,S1]at h;lia
  ·have:=SF z w;lia
def GO(p:aa):sc 1 p=p:=by unfold sc;simp
def QC{g a b:Int}{m p q:aa}(h:hg a p b q=sc g m):sc (-g) m=hg (-a) p (-b) q:=by
 have h1:=TW (λx:aa=>x.1) h;have h2:=TW (λx:aa=>x.2.1) h;have aF:=TW (λx:aa=>x.2.2) h;unfold sc hg at *;dsimp only at h1 h2 aF⊢;refine eS ?_ ?_ ?_<;>dsimp only<;>grind
def qu{l p q:aa}(h:ln l p*ln l q<0):hi p q (a0 l p q):=by
 unfold a0;by_cases w:0<p.2.2/\0<q.2.2
 ·rw[SC w];have tp:crs l (crs p q)=hg (ln l q) p (-ln l p) q:=t9 l p q;have bw:(crs l (crs p q)).2.2=ln l q*p.2.2 + -ln l p*q.2.2:=by rw[tp];rfl
  rcases md h with⟨h1,h2⟩|⟨h1,h2⟩
  ·have cq:ln l q*p.2.2<0:=by rw[S4];exact S2 w.1 h2
   have dL : -ln l p*q.2.2<0:=by rw[S4];exact S2 w.2 (by lia)
   have c0:(crs l (crs p q)).2.2≠0:=by lia
   obtain⟨g,_,aC⟩:=j6 c0;have ae:=(fZ c0).1;have aF:(crs l (crs p q)).2.2=g*(nP (crs l (crs p q))).2.2:=TW (λx:aa=>x.2.2) aC
   have aV:g<0:=by
    by_cases z:g<0
    ·exact z
    ·have:=Tv (show 0<=g by lia) (fF ae);lia
   rw[tp]at aC;refine⟨-g,-ln l q,ln l p,by lia,by lia,h1,?_⟩;have:=QC aC;rw[Int.neg_neg,<-tp]at this;exact this
  ·have cq:0<ln l q*p.2.2:=SF h2 w.1;have dL:0 < -ln l p*q.2.2:=SF (by lia) w.2;have c0:(crs l (crs p q)).2.2≠0:=by lia
   obtain⟨g,_,aC⟩:=j6 c0;have ae:=(fZ c0).1;have aF:(crs l (crs p q)).2.2=g*(nP (crs l (crs p q))).2.2:=TW (λx:aa=>x.2.2) aC
   have aV:0<g:=by
    by_cases z:0<g
    ·exact z
    ·have:=Tv (show 0 <= -g by lia) (fF ae);rw[UJ]at this;lia
   refine⟨g,ln l q,-ln l p,aV,h2,by lia,?_⟩;rw[<-aC,tp]
 ·rw[SL w];rcases md h with⟨h1,h2⟩|⟨h1,h2⟩
  ·rw[SL (by lia)];exact⟨1,_,_,by decide,by lia,h1,GO _⟩
  ·rw[SC h2];exact⟨1,_,_,by decide,h2,by lia,GO _⟩
def xg(l p q:aa)(a b:Int):ln l (hg a p b q)=a*ln l p+b*ln l q:=by unfold ln hg;dsimp only;grind
def BG(l p:aa)(s:Int):ln l (sc s p)=s*ln l p:=by unfold ln sc;dsimp only;grind
def GP{f:aa->Int}{mt:aa->aa->aa}{x:aa}:∀{ps:Zd}{w:aa},x∈dg f mt ps w->(x∈ps/\0<=f x)\/∃p∈ps,∃q,(q∈ps\/q=w)/\f p*f q<0/\x=mt p q
 |[],_,h=>by cases h
 |p::r,w,h=>by
  have h:x∈kp f p++cA f mt p (r.headD w)++dg f mt r w:=h;rcases SR.mp h with h|h
  ·rcases SR.mp h with h|h
   ·unfold kp at h;split at h
    ·rename_i z
     rw[SO.mp h];exact .inl ⟨Sx,z⟩
    ·cases h
   ·unfold cA at h;split at h
    ·rename_i z
     refine .inr ⟨p,Sx,r.headD w,?_,z,SO.mp h⟩;cases r with
     |nil=>exact .inr rfl
     |cons y r=>exact .inl (Sz _ Sx)
    ·cases h
  ·rcases GP h with⟨h1,h2⟩|⟨sX,h1,q,h2,aF,bb⟩
   ·exact .inl ⟨Sz _ h1,h2⟩
   ·refine .inr ⟨sX,Sz _ h1,q,?_,aF,bb⟩;rcases h2 with h2|h2
    ·exact .inl (Sz _ h2)
    ·exact .inr h2
def qv{f:aa->Int}{mt:aa->aa->aa}{x:aa}{ps:Zd}(h:x∈dz f mt ps):(x∈ps/\0<=f x)\/∃p∈ps,∃q∈ps,f p*f q<0/\x=mt p q:=by
 rcases GP h with h|⟨p,h1,q,h2,aF⟩
 ·exact .inl h
 ·refine .inr ⟨p,h1,q,?_,aF⟩;rcases h2 with h2|h2
  ·exact h2
  ·cases ps with
   |nil=>cases h1
   |cons a r=>rw[h2];exact Sx
end Cut
namespace L2
open PySem PySem.Spec PyProof.Rows PySem.W
section
variable{X:aK}{pins:Zs}{σ:St}{H:aj}{s:TE}{h':Xx}
def Inv.turned2{t':Nat}{it e:TI}(I:Inv X pins σ H s)(k:∀b o,b≠it->b≠e->s.heap.get? b=some o->h'.get? b=some o)(xh:kT X pins H it)(xi:kT X pins H e):Inv X pins σ H {s with heap:=h',toks:=t' }:=by
 obtain⟨o8,hh,jA,nW,QD,QF⟩:=xh;obtain⟨d5,ah,ap,bw,cT,eE⟩:=xi;have pR:∀b u,H b=some u->b≠it/\b≠e:=λb u q=>⟨(λz=>by rw[z,o8]at q;cases q),(λz=>by rw[z,d5]at q;cases q)⟩;have aG:∀b o,b∉[it,e]->s.heap.get? b=some o->h'.get? b=some o:=λb o hc q=>k b o (λz=>hc (by simp[z])) (λz=>hc (by simp[z])) q
 refine I.step (g':=s.gens) (d':=s.drawn) (ch:=[it,e]) (λb ab=>?_) (λb o _ _ hc q _=>aG b o hc q) (λb o _ _ hc q _=>⟨o.slots,aG b o hc q⟩) (λ_ _ _ _ n=>n)
  (λb o hc q=>⟨o,aG b o hc q⟩) (λ_ _ e=>e) (λ_ _ _ e=>e) (λb ps q=>⟨#[],by rw[q];simp⟩) (λm ax=>?_) (λb u q=>?_) I.bare
 ·rcases SK.mp ab with rfl|ab
  ·exact⟨nW,hh,QD,QF⟩
  ·rw[SO.mp ab];exact⟨bw,ah,cT,eE⟩
 ·obtain⟨o,es,a3,aA,r⟩:=ax;exact⟨o,es,a3,k _ o (Tr hh) (Tr ah) aA,r⟩
 ·refine(I.hok b u q).stay (λc v hc y=>k c v ?_ ?_ y) (λ_ q=>q) λ_ _ q=>q
  ·rcases hc with z|z
   ·rw[z];exact(pR b u q).1
   ·exact(pR c _ z).1
  ·rcases hc with z|z
   ·rw[z];exact(pR b u q).2
   ·exact(pR c _ z).2
end
def GQ(K:Sv)(a:TI):iK:=
 ⟨λi H=>∃xs x,cx K H a xs/\xs[i]?=some x,λi H x H'=>∃p y,H p=none/\x=.ref p/\H'=upd H p (.tup [.int i,y])/\∀xs,cx K H a xs->xs[i]?=some y,λi H=>∃xs,cx K H a xs/\xs.length<=i⟩
def QG{P:Uf}{w:Xk}{K:Sv}{iT:Zp}{k:Nat}{pos:Pos}(a it e:TI)(k9:e≠it):pX P w K (.Tuple iT k pos) (GQ K a) [e,it] e (λi h=>(∃old,IsEnum h e it (i:Nat) old)/\h.IsListIter it a i) where
 mem:=by simp
 obj:=λi h st b ab=>by
  obtain⟨⟨old,aB⟩,o,aA,c,d⟩:=st;rcases SK.mp ab with rfl|ab
  ·exact⟨_,aB,λv z=>by cases z⟩
  ·rw[SO.mp ab];exact⟨o,aA,λv z=>by rw[d]at z;cases z⟩
 keep:=λi h h' st kp=>by
  obtain⟨⟨old,aB⟩,ay⟩:=st;exact⟨⟨old,kp e (by simp) _ aB⟩,ay.at λo q=>kp it (by simp) o q⟩
 item:=by
  intro X gj hw e8 hc i pins s σ H E I bu st aC;subst gj hw e8;obtain⟨xs,x,au,ao⟩:=aC;obtain⟨⟨old,aB⟩,ay⟩:=st;obtain⟨its,cd,p,hz⟩:=I.list au;obtain⟨u,bn,iM⟩:=cd.get ao;have xi:=bu e (by simp);have xh:=bu it (by simp);have dY:e<s.heap.objs.size:=Heap.lt_size aB;have QH:it<s.heap.objs.size:=by obtain⟨o,aA,_⟩:=id ay;exact Heap.lt_size aA
  refine wpAny_pyNext_enum_item aB ay p.isList (x:=u) (by simpa using bn) k9 λh1 out QI bv o9 kp=>⟨_,rfl,wpAny_letOwnedTupleGo_enum out λh2 QJ f'=>?_⟩;have GR:s.heap.objs.size≠e:=U8 dY;have GS:s.heap.objs.size≠it:=U8 QH
  have QK:Inv X pins σ (upd H s.heap.objs.size (.tup [.int i,x])) {s with heap:=s.heap.push {cls:=.type "tuple",data:=.seq #[.int i s.toks,u]},toks:=s.toks+1}:=
   I.laid (t':=s.toks+1) (λ_ _ q=>Heap.get?_push_of_some _ q) (Sy _) ⟨f6,[.int i s.toks,u],.cons ⟨_,rfl⟩ (.cons iM .nil),⟨_,Heap.get?_push_size _ rfl,rfl,_,rfl⟩⟩
  have me:∀b,kT X pins H b->b≠s.heap.objs.size->kT X pins (upd H s.heap.objs.size (.tup [.int i,x])) b:=λb f n=>⟨by rw[c6 n];exact f.1,f.2⟩
  have be:=QK.turned2 (h':=h2) (t':=s.toks+1) (it:=it) (e:=e) (λb o cq dL q=>by
   rw[f'.2 b dL];by_cases z:b=s.heap.objs.size
   ·subst z;rw[Heap.get?_push_size _ rfl]at q;rw[<-q];exact bv
   ·refine kp b o dL cq ?_;rw[<-q]
    exact(Heap.get?_push_ne s.heap b _ z).symm) (me it xh (Tr GS)) (me e xi (Tr GR))
  refine⟨.ref s.heap.objs.size,_,be,rfl,⟨s.heap.objs.size,x,I.fresh,rfl,rfl,λys aN=>by rw[I.list_inj aN au];exact ao⟩,⟨⟨_,QJ⟩,QI.at λo q=>(f'.2 it (Tr k9)).trans q⟩,λb ab=>?_⟩;rcases SK.mp ab with rfl|ab
  ·exact(me _ xi (Tr GR)).1
  ·rw[SO.mp ab];exact(me it xh (Tr GS)).1
 done:=by
  intro X gj hw e8 hc i pins s σ H E I bu st aC;subst gj hw e8;obtain⟨xs,au,ao⟩:=aC;obtain⟨⟨old,aB⟩,ay⟩:=st;obtain⟨its,cd,p,hz⟩:=I.list au;obtain⟨e9,aU,a9,bE,db,d4⟩:=bu it (by simp);have am:=cd.length;exact wpAny_pyNext_enum_end (I.ok.hd hc) aB ay p.isList (by simp;lia) λh' eN=>⟨rfl,I.turned (t':=s.toks) (λb o ab q=>eN b o ab q) e9 aU bE db d4⟩
 self:=λ_ _ _ _ _ st h=>by
  obtain⟨⟨old,aB⟩,_⟩:=st;exact wpAny_pyIter_enum aB h
def QL(K:Sv)(b5:fi):h6:=λσ H R=>b5 σ H λvs aq=>∃a,vs=[.ref a]/\(∃xs,cx K aq a xs)/\R (GQ K a) aq
def BH{X:aK}{iT:Zp}{k:Nat}{tp:Pos}{a:UV}{b5:fi}{p pos:Pos}(aC:eY X "enumerate")(ax:X.mg "enumerate"=none)(ar:hJ X [a] b5)(al:SZ [a] X.env=[(false,Xv a X.env)]:=by rfl):kk X (.Tuple iT k tp) (.Call (.Name "enumerate" p) [a] [] pos) (QL X.K b5):=by
 intro pins s σ H R I h;refine Call_ (ra I aC ax (by decide +kernel:XK "enumerate"=some (.type "enumerate")) (U' (cm (ar pos pins s σ H _ I h) λus az ⟨vs,aq,be,r1,aR⟩=>?_) al rfl));obtain⟨l,e,⟨xs,au⟩,q⟩:=aR;subst e;obtain⟨u,rfl,r⟩:=vals1 r1;cases r;obtain⟨its,cd,cp,hz⟩:=be.list au;refine call_enumerate_list cp.isList λh' lm QM sz kp=>wpAny_pyIter_enum lm ?_;refine⟨az.heap.objs.size+1,[az.heap.objs.size+1,az.heap.objs.size],_,_,aq,rfl,be.kept (t':=az.toks) kp,QG l az.heap.objs.size (az.heap.objs.size+1) (Nat.succ_ne_self _),⟨⟨_,lm⟩,QM⟩,λb ab=>?_,q⟩;rcases SK.mp ab with rfl|ab
 ·exact be.fpOk (UG _) (be.hok.fresh (UG _))
 ·rw[SO.mp ab];exact be.fpOk (Sy _) (be.hok.fresh (Sy _))
end L2
namespace L3
open PySem L2
def jf:Nat->Zh->Zh
 |_,[]=>[]
 |n,d::r=>.tup [.int (n:Nat),d]::jf (n+1) r
def QN(u:a1)(g:eP)(s:cB):cB:=λU ρ=>u ρ λd=>∃ds,d=.lst ds/\ha g s U (jf 0 ds) ρ
section
variable{X:aK}{a:UV}{u:a1}{pos p:Pos}
def QO{iT:Zp}{k:Nat}{tp:Pos}{body:Zq}{g:eP}{s:cB}(ae:X6 (T0 X.prog X.w) X.A X.env X.xe)(hc:X.calm=true)(ar:bg X a u)(BI:eY X "enumerate")(ax:X.mg "enumerate"=none)(aC:jn X (.Tuple iT k tp) g)(ab:gs X body s)(ue:SZ [a] X.env=[(false,Xv a X.env)]:=by rfl)(al:∀x,UF (.Call (.Name "enumerate" p) [a] [] pos) X.env x=pure x:=by intro _;rfl){eb:Pos}:
  fo X (.For (.Tuple iT k tp) (.Call (.Name "enumerate" p) [a] [] pos) body [] eb) (QN u g s):=by
 obtain⟨_,h0,gQ⟩:=ar;obtain⟨_,h1,r1⟩:=aC;obtain⟨_,h2,r2⟩:=ab;refine⟨_,s3 ae hc (BH BI ax (eh h0 fC (by rw[ue];rfl)) ue) h1 h2 al,λU ρ h R W B H σ D e du=>?_⟩;refine gQ ρ _ h R W B H σ _ e λd v aZ aq z1 ah aE cd=>?_;obtain⟨ds,rfl,z1⟩:=z1;obtain⟨l,vs,rfl,am,rs⟩:=cd.lstV;refine⟨l,rfl,⟨vs,cx.of (ah.bh _ _ am)⟩,?_⟩;refine⟨λi m a6 H'=>∃bq av,m=ds.length-i/\i<=ds.length/\ha g s U (jf i (ds.drop i)) bq/\aO X.K R W av H' a6 bq/\bM R B av/\b2 aZ av,⟨ds.length,ρ,aZ,by simp,S8 _,z1,ah,aE,b2.refl _⟩,?_⟩;rintro i m g4 aQ ⟨gd,br,rfl,ay,aP,ap,aI,a'⟩;have au:cx X.K aQ l vs:=cx.of (ap.bh _ _ (a' _ _ am));by_cases cM:i<ds.length
 ·have uf:i<vs.length:=by rw[rs.length];exact cM
  refine .inr ⟨⟨vs,vs[i],au,S5 uf⟩,λa6 H'=>∃bq av,ha g s U (jf (i+1) (ds.drop (i+1))) bq/\aO X.K R W av H' a6 bq/\bM R B av/\b2 aZ av,?_,?_⟩
  ·rintro a6 H' ⟨bq,av,z,aS,g',s'⟩;exact⟨ds.length-(i+1),by lia,bq,av,rfl,cM,z,aS,g',s'⟩
  ·rintro x H' ⟨q,y,kG,rfl,rfl,aN⟩;obtain⟨d,hd,bc⟩:=rs.getV (aN vs au)
   have he:ds.drop i=d::ds.drop (i+1):=by
    rw[Ua cM];rw[S5 cM]at hd;rw[SS hd]
   rw[he]at aP;have g3:=ap.grow kG (.tup [.int i,y]);have bw:=ap.alloc kG (.tup [.int i,y]);refine r1 _ gd _ aP R W _ _ g4 (.ref q) _ bw (.tup dZ (.cons (.int _) (.cons (bc.mono (a'.trans g3.s)) .nil))) λbq a6 e6 aS _=>?_;have dQ:=aI.trans g3;have kU:=a'.trans g3.s;exact r2 _ bq e6 R W _ _ a6 _ aS ⟨λbq a6 av H' z aS g=>⟨bq,av,z,aS,dQ.trans g,kU.trans g.s⟩,λbq a6 av H' z aS g=>du.nx bq a6 av H' z aS (dQ.trans g),λbq a6 av H' z aS g=>⟨bq,av,z,aS,dQ.trans g,kU.trans g.s⟩,λr v av H' z aS g q=>du.rt r v av H' z aS (dQ.trans g) q⟩
 ·have ei:i=ds.length:=by lia
  subst ei;rw[Uo]at aP;exact .inl ⟨⟨vs,au,by rw[rs.length];exact Sy _⟩,du.nx gd g4 br aQ aP ap aI⟩
end
def BJ{α:Type}{f:α->D}{s:cB}{U:gC}{i j:Nat}(I:List α->Zg->Prop):∀{rs done:List α}{ρ:Zg},I done ρ->
  (∀(pre:List α)(r:α)(rest:List α) ρ,done++rs=pre++r::rest->I pre ρ->∀N:Zg->Prop,(∀dA,I (pre++[r]) dA->N dA)->s {U with nx:=N,ct:=N,bk:=U.nx} ((ρ.set i (.val (.int pre.length))).set j (.val (f r))))->(∀ρ,I (done++rs) ρ->U.nx ρ)->
  ha (kw 2 (fv (e0 i) (fv (e0 j) kv))) s U (jf done.length (rs.map f)) ρ
 |[],done,ρ,h0,_,h2=>h2 ρ (by rw[SP];exact h0)
 |r::rs,done,ρ,h0,h1,h2=>by
  refine⟨_,rfl,rfl,_,_,rfl,_,_,rfl,rfl,h1 done r rs ρ rfl h0 _ λdA ak=>?_⟩;have e:done++r::rs=(done++[r])++rs:=by simp
  rw[e]at h1 h2;have:=BJ I ak h1 h2;rw[SH]at this;exact this
end L3
namespace Cut
open PySem L2 L3
def GT{x y:Int}:sg x*sg y<0↔x*y<0:=by
 constructor
 ·intro h;rcases md h with⟨a,b⟩|⟨a,b⟩
  ·have h1:0<x:=by unfold sg at a;split at a<;>first|assumption|(split at a<;>lia)
   have h2:y<0:=by unfold sg at b;split at b<;>first|lia|(split at b<;>first|assumption|lia)
   exact S2 h1 h2
  ·have h1:x<0:=by unfold sg at a;split at a<;>first|lia|(split at a<;>first|assumption|lia)
   have h2:0<y:=by unfold sg at b;split at b<;>first|assumption|(split at b<;>lia)
   rw[S4];exact S2 h2 h1
 ·intro h;rcases md h with⟨a,b⟩|⟨a,b⟩
  ·have ah:sg x=1:=o6 a;have ap:sg y = -1:=by unfold sg;rw[SL (by lia),SC b]
   rw[ah,ap];decide
  ·have ah:sg x = -1:=by unfold sg;rw[SL (by lia),SC a]
   have ap:sg y=1:=o6 b;rw[ah,ap];decide
def GU{x:Int}:0<=sg x↔0<=x:=by unfold sg;split<;>first|lia|(split<;>lia)
def GV{x:Int}:sg x<=0↔x<=0:=by unfold sg;split<;>first|lia|(split<;>lia)
def QP{pre rest:Zd}{c e1:aa}(h:(pre++c::rest).headD e1=e1):bx (pre++c::rest) ((pre.length+1)%(pre++c::rest).length)=rest.headD e1:=by
 cases rest with
 |nil=>
  have e:(pre.length+1)%(pre++[c]).length=0:=by rw[SH];simp
  rw[e];cases pre with
  |nil=>exact h
  |cons p pre=>exact h
 |cons d rest=>
  rw[Tb (by simp)];unfold bx;rw[Tg (by lia)];simp
def BK{α:Type}{xs:List α}{i:Nat}{x:α}(h:xs[i]?=some x):dW xs (i:Int)=some x:=by
 have lt:i<xs.length:=(T7.mp h).1;unfold dW
 have e:L2.ixN xs.length (i:Int)=some i:=by
  unfold L2.ixN;rw[SC (by lia)];simp[lt]
 rw[e];exact h
def QQ{α:Type}{h:aa->α}{pre rest:Zd}{c:aa}:dW ((pre++c::rest).map h) (pre.length:Int)=some (h c):=by
 refine BK ?_;rw[SX,Tg (Sy _)];simp
def GW{α:Type}{h:aa->α}{ps pre rest:Zd}{c e1:aa}(e:ps=pre++c::rest)(ar:ps.headD e1=e1):dW (ps.map h) (((pre.length:Int)+1)%(ps.length:Int))=some (h (rest.headD e1)):=by
 subst e;have c0:0<(pre++c::rest).length:=by rw[SH,SN];lia
 have lt:=UA (pre.length+1) c0;have ah:((pre.length:Int)+1)%((pre++c::rest).length:Int)=(((pre.length+1)%(pre++c::rest).length:Nat):Int):=by rw[Int.natCast_emod];rfl
 rw[ah];refine BK ?_;rw[SX];have:=QP ar;unfold bx at this;rw[S5 lt]at this⊢;simp at this;simp[this]
def xj{f:aa->Int}{mt:aa->aa->aa}{pre:Zd}{c w:aa}:dg f mt (pre++[c]) w=dg f mt pre c++kp f c++cA f mt c w:=by
 rw[uc];show dg f mt pre c++(kp f c++cA f mt c w++[])=_
 rw[SP,S6]
def BL{f:aa->Int}{mt:aa->aa->aa}:∀{ps:Zd}{w:aa},(dg f mt ps w).length<=2*ps.length
 |[],_=>Sy _
 |p::r,w=>by
  show(kp f p++cA f mt p (r.headD w)++dg f mt r w).length<=_
  have h:=BL (f:=f) (mt:=mt) (ps:=r) (w:=w);have h1:(kp f p).length<=1:=by unfold kp;split<;>simp
  have h2:(cA f mt p (r.headD w)).length<=1:=by unfold cA;split<;>simp
  rw[SH,SH,SN];lia
def QR(x:Int): -1<=sg x/\sg x<=1:=by unfold sg;split<;>first|lia|(split<;>lia)
def GX(x:Int):VT (sg x)<=9000:=by
 have:=QR x;have BM:(10:Int)^30=1000000000000000000000000000000:=rfl;exact SE (O' (by lia) (by lia)) (by decide)
def GY{f:aa->Int}{c:aa}(h:0<=f c):kp f c=[c]:=by unfold kp;rw[SC h]
def GZ{f:aa->Int}{c:aa}(h:¬0<=f c):kp f c=[]:=by unfold kp;rw[SL h]
def kH{l p q:aa}(ae:aT p)(au:aT q):nP (crs l (crs p q))=a0 l p q:=by unfold a0;rw[SC ⟨ae.1,au.1⟩]
def kI{l p q:aa}(ae:aT p)(au:aT q)(h:ln l p*ln l q<0):(crs l (crs p q)).2.2≠0:=by
 rw[show(crs l (crs p q)).2.2=ln l q*p.2.2 + -ln l p*q.2.2 by rw[t9 l p q];rfl];have w1:=ae.1;have df:=au.1;rcases md h with⟨a,b⟩|⟨a,b⟩
 ·have cq:ln l q*p.2.2<0:=by rw[S4];exact S2 w1 b
  have dL : -ln l p*q.2.2<0:=by rw[S4];exact S2 df (by lia)
  lia
 ·have cq:0<ln l q*p.2.2:=SF b w1;have dL:0 < -ln l p*q.2.2:=SF (by lia) df;lia
def G0{l:aa}{ps:Zd}:D.int 1∈ps.map (λc=>D.int (sg (ln l c)))↔∃c∈ps,0<ln l c:=by
 rw[SM];constructor
 ·rintro⟨c,hc,e⟩;exact⟨c,hc,Gw (D.int.inj e)⟩
 ·rintro⟨c,hc,h⟩;exact⟨c,hc,by rw[o6 h]⟩
def xk{l:aa}{ps:Zd}:D.int (-1)∈ps.map (λc=>D.int (sg (ln l c)))↔∃c∈ps,ln l c<0:=by
 rw[SM];constructor
 ·rintro⟨c,hc,e⟩;refine⟨c,hc,?_⟩;have:=D.int.inj e;unfold sg at this;split at this
  ·lia
  ·split at this<;>lia
 ·rintro⟨c,hc,h⟩;exact⟨c,hc,by unfold sg;rw[SL (by lia),SC h]⟩
end Cut
namespace L3
open PySem L2
def lp:aD->aD
 |.new d=>.val d
 |.pin _ d=>.val d
 |.own (.d _ _ _ _)=>.no
 |.deep _=>.no
 |s=>s
def look(s:aD):aD:=ql (lp s)
section
variable{K:Sv}{R:aj}{W:TI->Prop}{B av H H':aj}{σ:St}{ρ:Zg}
def QS:(ρ.map lp).map ql=ρ.map look:=by rw[SU];rfl
def G1{i:Nat}{a:TI}(m:cy σ (ρ.map lp) i a):cy σ ρ i a:=by
 rcases m with⟨h1,h2⟩|⟨c,h1,_⟩
 rotate_left
 ·rw[SX]at h1;cases q:ρ[i]? with
  |none=>rw[q]at h1;cases h1
  |some cr=>
   rw[q]at h1;cases cr with
   |own ds=>cases ds<;>cases h1
   |_=>cases h1
 refine .inl ⟨h1,?_⟩;rw[SX]at h2;cases q:ρ[i]? with
 |none=>rw[q]at h2;rcases h2 with h2|⟨_,h2⟩<;>cases h2
 |some cr=>
  rw[q]at h2;cases cr with
  |bag=>exact .inl rfl
  |own ds=>exact .inr ⟨ds,rfl⟩
  |no=>rcases h2 with h2|⟨_,h2⟩<;>cases h2
  |new d=>rcases h2 with h2|⟨_,h2⟩<;>cases h2
  |pin v d=>rcases h2 with h2|⟨_,h2⟩<;>cases h2
  |deep d=>rcases h2 with h2|⟨_,h2⟩<;>cases h2
  |val d=>rcases h2 with h2|⟨_,h2⟩<;>cases h2
def G2{i:Nat}:(ρ.map lp)[i]?=some .bag↔ρ[i]?=some .bag:=by
 rw[SX];constructor
 ·intro h;cases q:ρ[i]? with
  |none=>rw[q]at h;cases h
  |some cr=>
   rw[q]at h;cases cr with
   |bag=>rfl
   |own ds=>cases ds<;>cases h
   |no=>cases h
   |new d=>cases h
   |pin v d=>cases h
   |deep d=>cases h
   |val d=>cases h
 ·intro h;rw[h];rfl
def G3{a:TI}:gZ W σ (ρ.map lp) a↔gZ W σ ρ a:=by
 unfold gZ;constructor
 ·rintro(h|⟨i,h1,h2⟩)
  ·exact .inl h
  ·exact .inr ⟨i,h1,G2.mp h2⟩
 ·rintro(h|⟨i,h1,h2⟩)
  ·exact .inl h
  ·exact .inr ⟨i,h1,G2.mpr h2⟩
def aO.wide(e:aO K R W B H σ ρ):aO K R W (gq R W B) H σ (ρ.map lp):=by
 have io:∀a,R a=none->gq R W B a=B a:=λa h=>wO λvs z=>by rw[h]at z;cases z
 refine⟨⟨e.fr,oU e.toWd,λa z=>by rw[A5 z];exact e.wb a z,e.wh,e.wr⟩,by rw[Sw];exact e.len,λi k h=>?_,λi j a bf bL=>e.sep i j a (G1 bf) (G1 bL)⟩;rw[SX]at h;cases q:ρ[i]? with
 |none=>rw[q]at h;cases h
 |some cr=>
  rw[q]at h;have h:=SS h;subst h;have z:=e.ok i _ q;cases cr with
  |no=>trivial
  |new d=>exact z
  |pin v d=>exact⟨v,z⟩
  |deep c=>trivial
  |val d=>
   obtain⟨v,h1,h2⟩:=z;exact⟨v,h1,h2.mono (FO e.toWd)⟩
  |own ds=>
   cases ds with
   |d _ _ _ _=>trivial
   |l ds=>
   obtain⟨a,h1,h2,aF,bb⟩:=z;exact⟨a,h1,h2,by rw[io a h2];exact aF,bb.mono (FO e.toWd) rfl⟩
  |bag=>
   obtain⟨b,h1,h2,aF,bb⟩:=z;refine⟨b,h1,h2,?_,bb⟩;rcases h2 with h2|h2
   ·rw[A5 h2];exact aF
   ·rw[io b h2];exact aF
def xl{a:TI}{o:eX}(h:B a=some o)(n:∀vs,o≠.lst vs):eC R B a=some o:=by
 unfold eC;rw[h];cases o with
 |lst vs=>exact absurd rfl (n vs)
 |_=>rfl
noncomputable abbrev xm(R:aj)(W:TI->Prop)(B H:aj)(σ:St)(ρ:Zg):aj:=oZ (gq R W B) H σ (ρ.map lp)
def aO.looked(e:aO K R W B H σ ρ){br aQ:aj}(wd:Wd H (gZ W σ (ρ.map lp)) br aQ)(g:bM H (xm R W B H σ ρ) br):
  ∃av,aO K R W av aQ σ ρ/\bM R B av/\b2 (eC H br) (eC R av)/\∀a,H a=none->av a=br a:=by
 have u:=e.unframe (H':=aQ) (λa o h ek=>wd.fr a o h λz=>ek (G3.mp z)) (λa h=>wd.wh a (G3.mpr h))
 obtain⟨aZ,a7,bd⟩:∃aZ:aj,(∀a,H a=none->aZ a=br a)/\∀a,H a≠none->aZ a=B a:=
  ⟨λa=>match H a with|none=>br a|some _=>B a,λa h=>by dsimp only;rw[h],λa h=>by
   dsimp only;cases q:H a with
   |none=>exact absurd q h
   |some o=>rfl⟩
 have s:b2 B aZ:=λa o h=>by rw[bd a (by rw[e.bh a o h];simp)];exact h
 refine⟨aZ,u.move ⟨u.fr,λa o h=>?_,λa z=>?_,u.wh,u.wr⟩ s λi a m=>⟨?_,λz=>?_,λ_=>rfl⟩,⟨s,λa o h=>?_⟩,λa o h=>?_,a7⟩
 ·by_cases q:H a=none
  ·rw[a7 a q]at h;exact wd.bh a o h
  ·rw[bd a q]at h;exact u.bh a o h
 ·obtain⟨x,y,q,_⟩:=e.wh a z;rw[bd a (by rw[q];simp)];exact e.wb a z
 ·rw[bd a (e.mutOk m).2];exact(e.mutOk m).1
 ·obtain⟨b,c1,_,_,c4⟩:=u.bagAt z;rw[qa m z]at c1;cases c1;exact c4
 ·by_cases q:H a=none
  ·exact .inr (e.toWd.fresh q).1
  ·rw[bd a q]at h;exact .inl h
 ·have h2:=iP a o h;by_cases q:H a=none
  ·have ab:aZ a=some o:=by rw[a7 a q];exact h2
   cases o with
   |lst vs=>exact wj ab (e.toWd.fresh q).1
   |_=>exact xl ab (λ_ z=>by cases z)
  ·have rX:∀vs,o≠.lst vs:=λvs z=>by
    subst z;exact q (ti h).2
   refine xl ?_ rX;rw[bd a q];rcases g.n a o h2 with z|z
   ·by_cases w:mX σ (ρ.map lp) a
    ·obtain⟨i,ds,w1,df⟩:=id w;cases ds with
     |d xn tt aG ia=>
      rw[SX]at df;cases q:ρ[i]? with
      |none=>rw[q]at df;cases df
      |some cr=>
       rw[q]at df;have df:=SS df;cases cr with
       |own c=>cases c<;>simp[lp]at df
       |_=>simp[lp]at df
     |l ds=>
     obtain⟨b,vs,c1,_,_,c4,_⟩:=e.wide.ownAt df;rw[w1]at c1;cases c1;rw[xm,rQ w,c4]at z;cases z;exact absurd rfl (rX vs)
    ·rw[xm,rR w]at z;rcases wP z with z|⟨_,_,vs,z⟩
     ·exact z
     ·exact absurd z (rX vs)
   ·exact absurd z q
def aO.lookF(e:aO K R W B H σ ρ):aO K H (gZ W σ (ρ.map lp)) (xm R W B H σ ρ) H σ (ρ.map look):=by
 have:=e.wide.frame;rw[QS]at this;exact this
end
section
variable{K:Sv}{X:aK}{e:UV}{es:Zp}{u:a1}{w:cU}{pos p:Pos}
def QT(u:a1):a1:=λρ k=>u (ρ.map look) λd=>flat d=true/\k d
def BN(h:bg X e u):bg X e (QT u):=by
 obtain⟨_,h1,r1⟩:=h;refine⟨_,h1,λρ k h R W B H σ Q e q=>?_⟩;refine r1 _ _ h _ _ _ _ _ _ e.lookF λd v br aQ z aS g s=>?_;obtain⟨aZ,ah,aE,az,_⟩:=e.looked aS.toWd g;exact q d v aZ aQ z.2 ah aE (((s.flat z.1).mono az).mono iP)
def QU(u:a1):a1:=λρ k=>u (ρ.map look) k
def xo(h:j7 X e u):j7 X e (QU u):=by
 obtain⟨_,h1,r1⟩:=h;refine⟨_,h1,λρ k h R W B H σ Q e q=>?_⟩;refine r1 _ _ h _ _ _ _ _ _ e.lookF λd v br aQ z aS g s=>?_;obtain⟨aZ,ah,aE,az,_⟩:=e.looked aS.toWd g;exact q d v aZ aQ z ah aE (s.mono az)
def xp(h:j7 X e u):bg X e u:=by
 obtain⟨_,h1,r1⟩:=h;refine⟨_,h1,λρ k h R W B H σ Q e q=>?_⟩;exact r1 ρ k h R W B H σ _ e λd v aZ aq z ah aE az=>q d v aZ aq z ah aE (az.mono iP)
def G4(w:cU):cU:=λρ k=>w (ρ.map look) λds=>flats ds=true/\k ds
def QV{t:bP}(r1:ry K t w):ry K t (G4 w):=by
 intro ρ k h R W B H σ Q e q;refine r1 _ _ h _ _ _ _ _ _ e.lookF λds a vs br aQ z aS g aU a9 bE db d4=>?_;obtain⟨aZ,ah,aE,az,a7⟩:=e.looked aS.toWd g;exact q ds a vs aZ aQ z.2 ah aE (e.toWd.fresh aU).1 (by rw[a7 a aU];exact a9) bE (((db.flat z.1).mono az).mono iP) λi m=>(e.mutOk m).2 aU
def QW(K:Sv)(g:hs)(u:eP):Prop:=∀(d:D)(ρ:Zg)(k:Zg->Prop),u d ρ k->∀(R:aj)(W:TI->Prop)(B H:aj)(σ:St)(v:V)(Q:St->aj->Prop),aO K R W B H σ ρ->bA K (gq R W B) v d->
 (∀bq a6,k bq->aO K R W B H a6 bq->Q a6 H)->g v σ H Q
def QX(K:Sv)(g:lQ)(u:jY):Prop:=∀(ds:Zh)(ρ:Zg)(k:Zg->Prop),u ds ρ k->∀(R:aj)(W:TI->Prop)(B H:aj)(σ:St)(vs:Zf)(Q:St->aj->Prop),aO K R W B H σ ρ->Reps K (gq R W B) vs ds->
 (∀bq a6,k bq->aO K R W B H a6 bq->Q a6 H)->g vs σ H Q
def ug(X:aK)(e:UV)(u:eP):Prop:=∃t,jO X e t/\QW X.K t u
def xq(X:aK)(e:Zp)(u:jY):Prop:=∃t,pU X e t/\QX X.K t u
def G5{R:aj}{W:TI->Prop}{B H:aj}{v:V}{d:D}(w:Wd R W B H)(r:bA K (gq R W B) v d)(f:flat d=true):bA K B v d:=by
 refine(r.flat (R:=H) f).mono λa o h=>?_;have h2:=iP a o h;rcases wP h2 with z|⟨_,_,vs,rfl⟩
 ·exact z
 ·have:=(ti h).2;rw[oU w a _ h2]at this;cases this
def BO(i:Nat):eP:=λd ρ k=>k (ρ.set i (.new d))
def uh(i:Nat):eP:=λd ρ k=>flat d=true/\k (ρ.set i (.val d))
def G6{i:Nat}{x:Str}(a4:X.N.Nodup)(ay:X.N[i]?=some x)(ao:Loc X.env.scope x)(bu:X.fn x=true\/X.env.scope.names.lookup x=some .local:=by first|exact .inl rfl|exact .inr rfl|assumption):ug X (.Name x pos) (BO i):=
 ⟨_,vN a4 ay ao bu,λd ρ k h R W B H σ v Q e r q=>q _ _ h (e.set i ⟨v,rfl,r⟩ λ_ _ z=>by rcases z with z|⟨_,z⟩<;>cases z)⟩
def xr{i:Nat}{x:Str}(a4:X.N.Nodup)(ay:X.N[i]?=some x)(ao:Loc X.env.scope x)(bu:X.fn x=true\/X.env.scope.names.lookup x=some .local:=by first|exact .inl rfl|exact .inr rfl|assumption):ug X (.Name x pos) (uh i):=
 ⟨_,vN a4 ay ao bu,λd ρ k h R W B H σ v Q e r q=>q _ _ h.2 (e.setV i (G5 e.toWd r h.1))⟩
def G7:xq X [] kv:=⟨_,Ec,λds ρ k h R W B H σ vs Q e r q=>by
 obtain⟨rfl,h⟩:=h;cases r
 exact⟨rfl,q _ _ h e⟩⟩
def rY{g:eP}{g9:jY}(h1:ug X e g)(h2:xq X es g9)(al:(Xh (e::es) X.env).map (·.2)=Yx e X.env::(Xh es X.env).map (·.2):=by rfl):xq X (e::es) (fv g g9):=by
 obtain⟨_,h1,r1⟩:=h1;obtain⟨_,h2,r2⟩:=h2;refine⟨_,Ed h1 h2 al,λds ρ k h R W B H σ vs Q e r q=>?_⟩;obtain⟨d,fL,rfl,h⟩:=h;cases r with
 |cons cd rs=>
  refine⟨_,_,rfl,r1 d ρ _ h R W B H σ _ _ e cd λbq a6 z aS=>?_⟩;exact r2 fL bq k z R W B H a6 _ _ aS rs λAQ rD aP ap=>q AQ rD aP ap
def G8{cr:Nat}{g9:jY}{n:Nat}(hc:X.calm=true)(h:xq X es g9)(aM:(Xh es X.env).length=n:=by rfl)(nt:(Xh es X.env).findIdx? (·.1)=none:=by rfl):ug X (.Tuple es cr pos) (kw n g9):=by
 obtain⟨_,h1,r1⟩:=h;refine⟨_,Ee hc h1 aM nt,λd ρ k h R W B H σ v Q e r q=>?_⟩;obtain⟨ds,rfl,am,h⟩:=h;obtain⟨a,vs,rfl,ar,rs⟩:=r.tupV;exact⟨a,vs,rfl,ev.of (oU e.toWd _ _ ar),by rw[rs.length];exact am,r1 ds ρ k h R W B H σ vs Q e rs q⟩
variable{bz:UV}
def QY(n:Nat)(g:eP)(s:cB):cB:=λU ρ=>∃ds,ρ[n]?=some (.new (.lst ds))/\ha g s U ds ρ
def aO.oldAt{R:aj}{W:TI->Prop}{B H:aj}{σ:St}{ρ:Zg}(e:aO K R W B H σ ρ){i:Nat}{d:D}(h:ρ[i]?=some (.new d)):∃v,σ[i]?=some (some v)/\bA K (gq R W B) v d:=by
 obtain⟨v,h1,h2⟩:=e.ok i _ h;exact⟨v,gr h1,h2⟩
def G9(n:Nat){x:Str}{px:Pos}{body:Zq}{g:eP}{s:cB}(ae:X6 (T0 X.prog X.w) X.A X.env X.xe)(hc:X.calm=true)(aC:ug X bz g)(ab:gs X body s)(a4:X.N[n]?=some x:=by rfl)(aL:gz X.env.scope x:=by first|exact SA rfl|exact SI (SA rfl)|exact SI (SI rfl))(hd:(x==("__debug__":Str))=false:=by decide)(dI:(x==("__classdict__":Str))=false:=by decide)(al:∀v,UF (.Name x px) X.env v=pure v:=by intro _;rfl):fo X (.For bz (.Name x px) body [] pos) (QY n g s):=by
 obtain⟨_,h1,r1⟩:=aC;obtain⟨_,h2,r2⟩:=ab;refine⟨_,s3 ae hc (z8 (h5 a4 aL hd dI)) h1 h2 al,λU ρ h R W B H σ D e du=>?_⟩;obtain⟨ds,aA,z1⟩:=h;obtain⟨v,mf,cd⟩:=e.oldAt aA;obtain⟨l,vs,rfl,am,rs⟩:=cd.lstV;refine⟨_,mf,l,rfl,⟨vs,cx.of (oU e.toWd _ _ am)⟩,?_⟩;refine⟨λi m a6 H'=>∃bq av,m=ds.length-i/\i<=ds.length/\ha g s U (ds.drop i) bq/\aO X.K R W av H' a6 bq/\bM R B av,⟨ds.length,ρ,B,by simp,S8 _,z1,e,bM.refl _ _⟩,?_⟩;rintro i m g4 aQ ⟨gd,br,rfl,ay,aP,ap,aI⟩;have au:cx X.K aQ l vs:=cx.of (oU ap.toWd _ _ (p' aI.s _ _ am));by_cases cM:i<ds.length
 ·have uf:i<vs.length:=by rw[rs.length];exact cM
  refine .inr ⟨⟨vs,vs[i],au,S5 uf⟩,λa6 H'=>∃bq av,ha g s U (ds.drop (i+1)) bq/\aO X.K R W av H' a6 bq/\bM R B av,?_,?_⟩
  ·rintro a6 H' ⟨bq,av,z,aS,g'⟩;exact⟨ds.length-(i+1),by lia,bq,av,rfl,cM,z,aS,g'⟩
  ·rintro ce H' ⟨rfl,aN⟩;obtain⟨d,ol,bc⟩:=rs.getV (aN vs au)
   have he:ds.drop i=d::ds.drop (i+1):=by
    rw[Ua cM];rw[S5 cM]at ol;rw[SS ol]
   rw[he]at aP;refine r1 d gd _ aP R W br _ g4 ce _ ap (bc.mono (p' aI.s)) λbq a6 e6 aS=>?_;exact r2 _ bq e6 R W br _ a6 _ aS ⟨λbq a6 av H' z aS g=>⟨bq,av,z,aS,aI.trans g⟩,λbq a6 av H' z aS g=>du.nx bq a6 av H' z aS (aI.trans g),λbq a6 av H' z aS g=>⟨bq,av,z,aS,aI.trans g⟩,λr v av H' z aS g q=>du.rt r v av H' z aS (aI.trans g) q⟩
 ·have ei:i=ds.length:=by lia
  subst ei;rw[Uo]at aP;exact .inl ⟨⟨vs,au,by rw[rs.length];exact Sy _⟩,du.nx gd g4 br aQ aP ap aI⟩
def QZ(n:Nat)(g:eP)(s:cB):cB:=λU ρ=>∃ds,ρ[n]?=some (.new (.lst ds))/\flats ds=true/\ha g s U (jf 0 ds) ρ
def Q0(n:Nat){x:Str}{px:Pos}{iT:Zp}{k:Nat}{tp:Pos}{body:Zq}{g:eP}{s:cB}(ae:X6 (T0 X.prog X.w) X.A X.env X.xe)(hc:X.calm=true)(BI:eY X "enumerate")(ax:X.mg "enumerate"=none)(aC:jn X (.Tuple iT k tp) g)(ab:gs X body s)(a4:X.N[n]?=some x:=by rfl)(aL:gz X.env.scope x:=by first|exact SA rfl|exact SI (SA rfl)|exact SI (SI rfl))(hd:(x==("__debug__":Str))=false:=by decide)(dI:(x==("__classdict__":Str))=false:=by decide)(ue:SZ [.Name x px] X.env=[(false,Xv (.Name x px) X.env)]:=by rfl)(al:∀v,UF (.Call (.Name "enumerate" p) [.Name x px] [] pos) X.env v=pure v:=by intro _;rfl){eb:Pos}:
  fo X (.For (.Tuple iT k tp) (.Call (.Name "enumerate" p) [.Name x px] [] pos) body [] eb) (QZ n g s):=by
 obtain⟨_,h1,r1⟩:=aC;obtain⟨_,h2,r2⟩:=ab;refine⟨_,s3 ae hc (BH BI ax (eh (h5 a4 aL hd dI) fC (by rw[ue];rfl)) ue) h1 h2 al,λU ρ h R W B H σ D e du=>?_⟩;obtain⟨ds,aA,BP,z1⟩:=h;obtain⟨v,mf,cd⟩:=e.oldAt aA;obtain⟨l,vs,rfl,am,rs⟩:=cd.lstV;refine⟨_,mf,l,rfl,⟨vs,cx.of (oU e.toWd _ _ am)⟩,?_⟩;refine⟨λi m a6 H'=>∃bq av,m=ds.length-i/\i<=ds.length/\ha g s U (jf i (ds.drop i)) bq/\aO X.K R W av H' a6 bq/\bM R B av,⟨ds.length,ρ,B,by simp,S8 _,z1,e,bM.refl _ _⟩,?_⟩;rintro i m g4 aQ ⟨gd,br,rfl,ay,aP,ap,aI⟩;have au:cx X.K aQ l vs:=cx.of (oU ap.toWd _ _ (p' aI.s _ _ am));by_cases cM:i<ds.length
 ·have uf:i<vs.length:=by rw[rs.length];exact cM
  refine .inr ⟨⟨vs,vs[i],au,S5 uf⟩,λa6 H'=>∃bq av,ha g s U (jf (i+1) (ds.drop (i+1))) bq/\aO X.K R W av H' a6 bq/\bM R B av,?_,?_⟩
  ·rintro a6 H' ⟨bq,av,z,aS,g'⟩;exact⟨ds.length-(i+1),by lia,bq,av,rfl,cM,z,aS,g'⟩
  ·rintro ce H' ⟨q,y,kG,rfl,rfl,aN⟩;obtain⟨d,ol,bc⟩:=rs.getV (aN vs au);have fd:=Bd BP ol;have Q1:=G5 e.toWd bc fd
   have he:ds.drop i=d::ds.drop (i+1):=by
    rw[Ua cM];rw[S5 cM]at ol;rw[SS ol]
   rw[he]at aP;have g3:=ap.grow kG (.tup [.int i,y]);have bw:=ap.alloc kG (.tup [.int i,y]);have dQ:=aI.trans g3;refine r1 _ gd _ aP R W _ _ g4 (.ref q) _ bw (.tup dZ (.cons (.int _) (.cons (Q1.mono dQ.s) .nil))) λbq a6 e6 aS _=>?_;exact r2 _ bq e6 R W _ _ a6 _ aS ⟨λbq a6 av H' z aS g=>⟨bq,av,z,aS,dQ.trans g⟩,λbq a6 av H' z aS g=>du.nx bq a6 av H' z aS (dQ.trans g),λbq a6 av H' z aS g=>⟨bq,av,z,aS,dQ.trans g⟩,λr v av H' z aS g q=>du.rt r v av H' z aS (dQ.trans g) q⟩
 ·have ei:i=ds.length:=by lia
  subst ei;rw[Uo]at aP;exact .inl ⟨⟨vs,au,by rw[rs.length];exact Sy _⟩,du.nx gd g4 br aQ aP ap aI⟩
def BQ(u:a1):dU:=λρ k=>u ρ λx=>∃ds,x=.lst ds/\k (!ds.isEmpty)
def BR{a:UV}{bH:a1}(ar:bg X a bH)(aB:∀i1,YY a X.env i1=(do let v <-i1;Y6 a.pos;YO [v] (truthy v)):=by intro _;rfl):ir X a (BQ bH):=by
 obtain⟨_,h1,r1⟩:=ar;refine⟨_,L7 h1 aB,λρ k h R W B H σ Q e q=>?_⟩;refine r1 ρ _ h R W B H σ _ e λx v aZ aq z1 ah aE az=>?_;obtain⟨ds,rfl,ag⟩:=z1;obtain⟨a,vs,rfl,ar,rs⟩:=az.lstV;refine⟨!vs.isEmpty,.inl ⟨vs,cx.of (ah.bh _ _ ar),rfl⟩,q _ aZ aq ?_ ah aE⟩
 have:vs.isEmpty=ds.isEmpty:=by
  have am:=rs.length;cases vs with
  |nil=>cases ds with
   |nil=>rfl
   |cons d ds=>simp at am
  |cons v vs=>cases ds with
   |nil=>simp at am
   |cons d ds=>rfl
 rw[this];exact ag
variable{dY dB:UV}{d8:Zp}{scope:Yd}{bm:List (Str×TI)}{ts fr:Zm}{js:Zj}{fE:eP}{dV:dU}
theorem Q2{i:Nat}{y:Str}{fV oS:Pos}(a4:X.N.Nodup)(tH:X.N[i]?=some y)(aN:X.env.scope.names.lookup y=some .local)(ay:lX X bz dB w)(aC:∀C s H ex,jn (dF X (ts++fr) scope bm C s H ex) bz fE)(jr:∀C s H ex,oX (dF X (ts++fr) scope bm C s H ex) d8 dV)(jt:∀C s H ex,bg (dF X (ts++fr) scope bm C s H ex) dY u)(F:oQ X scope bm fr js)(nL:js.Nodup:=by decide)(hc:X.calm=true:=by rfl)(al:∀v,UF dB X.env v=pure v:=by intro _;rfl)(kx:Xi (.ListComp dY [⟨bz,dB,d8,0⟩] scope pos) (some (.Name y fV)) oS.line X.env=pure true:=by rfl):
  fo X (.Assign [.Name y fV] (.ListComp dY [⟨bz,dB,d8,0⟩] scope pos) oS) (AM i (G4 (oT w fE dV u ts.length js))):=by
 obtain⟨_,h0,gQ⟩:=ay;obtain⟨wS,nM,rg⟩:=tP (K:=X.K) (Xs:=λa:TI×TE×aj×Zo=>dF X (ts++fr) scope bm a.1 a.2.1 a.2.2.1 a.2.2.2) (λ_=>rfl) λa=>aC a.1 a.2.1 a.2.2.1 a.2.2.2;obtain⟨tt,nN,rt⟩:=tO (K:=X.K) (Xs:=λa:TI×TE×aj×Zo=>dF X (ts++fr) scope bm a.1 a.2.1 a.2.2.1 a.2.2.2) (λ_=>rfl) λa=>jr a.1 a.2.1 a.2.2.1 a.2.2.2;obtain⟨cK,nO,jq⟩:=wR (K:=X.K) (Xs:=λa:TI×TE×aj×Zo=>dF X (ts++fr) scope bm a.1 a.2.1 a.2.2.1 a.2.2.2) (λ_=>rfl) λa=>jt a.1 a.2.1 a.2.2.1 a.2.2.2;refine⟨_,FN a4 tH aN h0 (λC s H ex=>nM (C,s,H,ex)) (λC s H ex=>nN (C,s,H,ex)) (λC s H ex=>nO (C,s,H,ex)) F hc al kx,λU ρ h R W B H σ D e s=>?_⟩;exact QV (A6 gQ rg rt jq nL) ρ _ h R W B H σ _ e λds a vs aZ aq z1 ah aE aU a9 bE db d4=>s.nx _ _ aZ aq z1 (ah.setO i aU a9 bE db λj _=>d4 j) aE
end
section
variable{K:Sv}
def xt:Bool->aD->aD
 |true,.val d=>.new d
 |_,x=>x
def Q3:Bool->aD->Prop
 |false,.val d=>flat d=true
 |_,_=>True
def jg:List Bool->Zg->Zg
 |b::m,x::r=>xt b x::jg m r
 |_,r=>r
def xu:List Bool->Zg->Prop
 |b::m,x::r=>Q3 b x/\xu m r
 |[],[]=>True
 |_,_=>False
def G':∀(m:List Bool)(as:Zg),(jg m as).length=as.length
 |[],[]=>rfl
 |[],_::_=>rfl
 |_::_,[]=>rfl
 |b::m,x::r=>by rw[jg,SN,SN,G' m r]
def rZ{W:TI->Prop}{B:aj}:∀{vs:Zf}{as:Zg},jZ K W B vs as->∀(m:List Bool),xu m as->∀(i:Nat)(k:aD),(jg m as)[i]?=some k->
  (∃v d,vs[i]?=some v/\k=.new d/\bA K B v d)\/(∃v d,vs[i]?=some v/\k=.val d/\bA K B v d/\flat d=true)\/(∃b,vs[i]?=some (.ref b)/\k=.bag/\W b/\as[i]?=some .bag)
 |_,_,.nil,[],_,i,k,e=>by simp[jg]at e
 |_,_,.nil,_::_,aA,i,k,e=>by cases aA
 |_,_,.val h r,[],aA,i,k,e=>by cases aA
 |_,_,.bag h r,[],aA,i,k,e=>by cases aA
 |_,_,.val h r,b::m,aA,i+1,k,e=>by
  simpa using rZ r m aA.2 i k (by simpa[jg]using e)
 |_,_,.bag h r,b::m,aA,i+1,k,e=>by
  simpa using rZ r m aA.2 i k (by simpa[jg]using e)
 |_,_,.val h r,true::m,aA,0,k,e=>by
  simp[jg,xt]at e;subst e;exact .inl ⟨_,_,rfl,rfl,h⟩
 |_,_,.val h r,false::m,aA,0,k,e=>by
  simp[jg,xt]at e;subst e;exact .inr (.inl ⟨_,_,rfl,rfl,h,aA.1⟩)
 |_,_,.bag h r,b::m,aA,0,k,e=>by
  have e:k=.bag:=by cases b<;>(simp[jg,xt]at e;exact e.symm)
  subst e;exact .inr (.inr ⟨_,rfl,rfl,h,rfl⟩)
def Q4{W:TI->Prop}{B H:aj}(cQ:b2 B H)(hw:∀a,W a->B a=none):b2 B (gq H W (eC H B)):=λa o h=>by
 have dw:=cQ a o h;have ek:¬W a:=λz=>by rw[hw a z]at h;cases h
 by_cases q:∃vs,o=.lst vs
 ·obtain⟨vs,rfl⟩:=q;exact wN dw ek
 ·rw[wO λvs e=>q ⟨vs,by rw[dw]at e;exact SS e⟩];exact xl h λvs e=>q ⟨vs,e⟩
def aO.startN{N:Zm}{W:TI->Prop}{B H:aj}{vs:Zf}{as:Zg}{m:List Bool}(ab:lZ as<=1)(cQ:b2 B H)(hw:∀a,W a->B a=none/\g7 H a)(ey:jZ K W B vs as)(aA:xu m as):aO K H W (eC H B) H (L2.start N vs) (jg m as++SV (N.length-as.length) .no):=by
 have am:=ey.length;have Q5:=G' m as
 have BS:∀a,W a->eC H B a=none:=λa h=>by
  cases q:eC H B a with
  |none=>rfl
  |some o=>have:=iP a o q;rw[(hw a h).1]at this;cases this
 have wd:Wd H W (eC H B) H:=⟨λ_ _ h _=>h,iP.trans cQ,BS,λa h=>(hw a h).2,λa h=>by obtain⟨x,y,q,_⟩:=(hw a h).2;rw[q];simp⟩
 have lo:∀i,i<as.length->(L2.start N vs)[i]?=(vs[i]?).map some:=λi lt=>by
  unfold L2.start;rw[Tt (by rw[Sw];lia),SX]
 have cs:∀(i:Nat)(k:aD),(jg m as++SV (N.length-as.length) aD.no)[i]?=some k->(i<as.length/\(jg m as)[i]?=some k)\/k=aD.no:=λi k h=>by
  by_cases z:i<(jg m as).length
  ·rw[Tt z]at h;exact .inl ⟨by lia,h⟩
  ·rw[Tg (by lia)]at h;rw[Uj]at h;split at h
   ·exact .inr (SS h).symm
   ·cases h
 refine⟨wd,by unfold L2.start;simp[am,Q5],λi k h=>?_,λi j a bf bL=>?_⟩
 ·rcases cs i k h with⟨lt,h⟩|rfl
  ·rw[lo i lt];rcases rZ ey m aA i k h with⟨v,d,h1,rfl,r⟩|⟨v,d,h1,rfl,r,f⟩|⟨b,h1,rfl,r,_⟩
   ·rw[h1];exact⟨v,rfl,r.mono (Q4 cQ λa z=>(hw a z).1)⟩
   ·rw[h1];exact⟨v,rfl,r.flat f⟩
   ·rw[h1];exact⟨b,rfl,.inl r,wd.wb b r,(hw b r).2⟩
  ·trivial
 ·have one:∀i,cy (L2.start N vs) (jg m as++SV (N.length-as.length) aD.no) i a->as[i]?=some .bag:=λi bR=>by
   rcases bR with⟨_,z|⟨ds,z⟩⟩|⟨_,z,_⟩
   rotate_right
   ·rcases cs i _ z with⟨_,z⟩|z
    ·rcases rZ ey m aA i _ z with⟨v,d,_,q,_⟩|⟨v,d,_,q,_⟩|⟨b,_,q,_⟩<;>cases q
    ·cases z
   ·rcases cs i _ z with⟨_,z⟩|z
    ·rcases rZ ey m aA i _ z with⟨v,d,_,q,_⟩|⟨v,d,_,q,_⟩|⟨b,_,_,_,q⟩
     ·cases q
     ·cases q
     ·exact q
    ·cases z
   ·rcases cs i _ z with⟨_,z⟩|z
    ·rcases rZ ey m aA i _ z with⟨v,d,_,q,_⟩|⟨v,d,_,q,_⟩|⟨b,_,q,_⟩<;>cases q
    ·cases z
  exact oH ab (one i bf) (one j bL)
def Q6(k:aD->Prop):aD->Prop
 |.val d=>k (.new d)
 |.own (.l ds)=>k (.new (.lst ds))
 |.new d=>k (.new d)
 |_=>False
def ui{P:Uf}{w:Xk}{mg:Str->Option Tl}{base:Xx}{x:Str}{st:Xm}{N ps:Zm}{lv n:Nat}{F:ca}(m:List Bool)(qf:cN K mg x st ps)(S:cE N ps (bX st))(aM:ps.length=n)(kl:∀(f:TI) (cdv:Tl) (A:Xq) (outer:List UL) (s:TE) (H:aj) (E:gi),e' lv (A.deeper (Vh x (bX st) s.heap.objs.size f cdv))->∃u,gs (lU ko P w K mg base N x (bX st) f cdv A outer s H E).nox (kn st) u/\∀as k,as.length=n->F as k->xu m as/\u {nx:=λ_=>k (.val .non),rt:=Q6 k} (jg m as++SV (N.length-n) .no)):bZ P w K mg base x ps (lv+1) (b7 K n F):=by
 refine qf.ok S (λvs H Q E h=>?_) (λf cdv A outer s H vs Q E ak h=>?_)
 ·obtain⟨W,B,as,k,_,am,_,_,_,ey,_⟩:=h;rw[ey.length,am,aM]
 ·obtain⟨W,B,as,k,jb,am,ab,cQ,hw,ey,q⟩:=h;obtain⟨u,⟨t,bv,rt⟩,bn⟩:=kl f cdv A outer s H E ak;obtain⟨aA,bn⟩:=bn as k am jb;have eZ:=aO.startN (N:=N) (m:=m) (VV ab) cQ hw ey aA;rw[am]at eZ
  have eL:∀av H',Wd H W av H'->bM H (eC H B) av->∃br,Wd H W br H'/\bM H B br/\b2 av (eC H br):=λav H' wd g=>by
   have Ha:b2 B H':=λa o h=>wd.fr a o (cQ a o h) λz=>by rw[(hw a z).1]at h;cases h
   obtain⟨br,a7,bd⟩:∃br:aj,(∀a o,B a=some o->br a=some o)/\∀a,B a=none->br a=av a:=
    ⟨λa=>match B a with|some o=>some o|none=>av a,λa o h=>by dsimp only;rw[h],λa h=>by dsimp only;rw[h]⟩
   refine⟨br,⟨wd.fr,λa o h=>?_,λa z=>?_,wd.wh,wd.wr⟩,⟨a7,λa o h=>?_⟩,λa o h=>?_⟩
   ·cases z:B a with
    |none=>rw[bd a z]at h;exact wd.bh a o h
    |some fg=>rw[a7 a fg z]at h;cases h;exact Ha a _ z
   ·rw[bd a (hw a z).1];exact wd.wb a z
   ·cases z:B a with
    |none=>
     rw[bd a z]at h;rcases g.n a o h with y|y
     ·rw[iP a o y]at z;cases z
     ·exact .inr y
    |some fg=>rw[a7 a fg z]at h;cases h;exact .inl rfl
   ·have h2:br a=some o:=by
     cases z:B a with
     |none=>rw[bd a z];exact h
     |some fg=>
      have ah:=Ha a _ z;rw[wd.bh a o h]at ah;cases ah;exact a7 a _ z
    by_cases y:∃vs,o=.lst vs
    ·obtain⟨vs,rfl⟩:=y;refine wj h2 ?_;rcases g.n a _ h with y|y
     ·exact(ti y).2
     ·exact y
    ·exact xl h2 λvs e=>y ⟨vs,e⟩
  refine⟨t,bv,rt _ _ bn H W _ H (L2.start N vs) _ eZ ⟨λρ σ av H' h e g=>?_,λ_ _ _ _ h=>h.elim,λ_ _ _ _ h=>h.elim,λr v av H' h e g z=>?_⟩⟩
  ·obtain⟨br,df,aI,_⟩:=eL av H' e.toWd g;exact q _ _ br H' h ⟨df,aI,.non⟩
  ·cases r with
   |no=>exact h.elim
   |bag=>exact h.elim
   |pin v d=>exact h.elim
   |deep c=>exact h.elim
   |val d=>
    obtain⟨br,df,aI,a'⟩:=eL av H' e g;exact q (.new d) v br H' h ⟨df,aI,bA.mono a' z⟩
   |new d=>
    obtain⟨br,df,aI,a'⟩:=eL av H' e g;exact q (.new d) v br H' h ⟨df,aI,bA.mono a' (bA.mono iP z)⟩
   |own c=>
    cases c with
    |d _ _ _ _=>exact h.elim
    |l ds=>
    obtain⟨a,rfl,aU,a9,us,bE,db⟩:=z;have d5:aO K H W av H' [] []:=⟨e,rfl,λi k h=>by simp at h,λi j a m=>by rcases m with⟨z,_⟩|⟨_,z,_⟩<;>simp at z⟩;obtain⟨bw,g3⟩:=d5.freeze bE aU a9 λi m=>by rcases m with⟨z,_⟩|⟨_,z,_⟩<;>simp at z
    obtain⟨br,df,aI,a'⟩:=eL _ H' bw.toWd (g.trans g3);exact q (.new (.lst ds)) _ br H' h ⟨df,aI,bA.mono a' (.lst dZ (db.mono g3.s))⟩
end
end L3
namespace Cut
open PySem L2 L3
def c8:aa->Zd->List (aa×aa)
 |_,[]=>[]
 |z,p::r=>(z,p)::c8 p r
def b9:aa->Zd->aa
 |z,[]=>z
 |_,p::r=>b9 p r
def dj(ps:Zd):List (aa×aa):=c8 (b9 (0,0,1) ps) ps
def o':∀(z:aa)(A B:Zd),c8 z (A++B)=c8 z A++c8 (b9 z A) B
 |_,[],_=>rfl
 |z,p::A,B=>by
  show(z,p)::c8 p (A++B)=(z,p)::(c8 p A++c8 (b9 p A) B)
  rw[o' p A B]
def pc:∀(z:aa)(A B:Zd),b9 z (A++B)=b9 (b9 z A) B
 |_,[],_=>rfl
 |_,p::A,B=>pc p A B
def r0{z e6:aa}{L:Zd}(h:L≠[]):b9 z L=b9 e6 L:=by
 cases L with
 |nil=>exact absurd rfl h
 |cons p r=>rfl
def BU:∀{z:aa}{L:Zd},L≠[]->b9 z L∈L
 |_,[],h=>absurd rfl h
 |z,[p],_=>Sx
 |z,p::q::r,_=>Sz _ (BU (z:=p) (L:=q::r) (by simp))
def Hb:∀{z:aa}{L:Zd}{e:aa×aa},e∈c8 z L->(e.1=z\/e.1∈L)/\e.2∈L
 |_,[],_,h=>by cases h
 |z,p::r,e,h=>by
  rcases SK.mp h with rfl|h
  ·exact⟨.inl rfl,Sx⟩
  ·obtain⟨h1,h2⟩:=Hb h;refine⟨.inr ?_,Sz _ h2⟩;rcases h1 with h1|h1
   ·rw[h1];exact Sx
   ·exact Sz _ h1
def lq{L:Zd}{e:aa×aa}(h:e∈dj L):e.1∈L/\e.2∈L:=by
 have n:L≠[]:=by rintro rfl;cases h
 obtain⟨h1,h2⟩:=Hb h;refine⟨?_,h2⟩;rcases h1 with h1|h1
 ·rw[h1];exact BU n
 ·exact h1
section
variable{f:aa->Int}{mt:aa->aa->aa}
def xv{C:aa->aa->Prop}(hz:∀u v,f u=0->f v=0->C u v):∀{ps:Zd}{w z:aa},
  (∀p q,(p,q)∈c8 (ps.headD w) (ps.tail++[w])->0<=f p->0<=f q->C p q)->
  (∀p q,(p,q)∈c8 (ps.headD w) (ps.tail++[w])->f p*f q<0->f (mt p q)=0/\(0<f p->C p (mt p q))/\(0<f q->C (mt p q) q))->
  (0<=f (ps.headD w)->C z (ps.headD w))->(f (ps.headD w)<0->f z=0)->ps≠[]->
  (∀e∈c8 z (dg f mt ps w),C e.1 e.2)/\(0<=f w->C (b9 z (dg f mt ps w)) w)/\(f w<0->f (b9 z (dg f mt ps w))=0)
 |[],_,_,_,_,_,_,aM=>absurd rfl aM
 |p::r,w,z,h1,h2,aF,bb,_=>by
  have aF:0<=f p->C z p:=aF;have bb:f p<0->f z=0:=bb
  have au:(p,r.headD w)∈c8 p (r++[w]):=by
   cases r with
   |nil=>exact Sx
   |cons q r=>exact Sx
  have h1:∀a b,(a,b)∈c8 p (r++[w])->0<=f a->0<=f b->C a b:=h1;have h2:∀a b,(a,b)∈c8 p (r++[w])->f a*f b<0->f (mt a b)=0/\(0<f a->C a (mt a b))/\(0<f b->C (mt a b) b):=h2
  have step:(∀e∈c8 z (kp f p++cA f mt p (r.headD w)),C e.1 e.2)/\(0<=f (r.headD w)->C (b9 z (kp f p++cA f mt p (r.headD w))) (r.headD w))/\(f (r.headD w)<0->f (b9 z (kp f p++cA f mt p (r.headD w)))=0):=by
   generalize r.headD w=q at au;by_cases cI:0<=f p
   ·rw[show kp f p=[p] by unfold kp;rw[SC cI]];by_cases c:f p*f q<0
    ·rw[mb c];obtain⟨dO,bf,bL⟩:=h2 p q au c
     have kJ:0<f p:=by
      rcases md c with⟨a,_⟩|⟨a,_⟩
      ·exact a
      ·lia
     have lr:f q<0:=by
      rcases md c with⟨_,a⟩|⟨a,_⟩
      ·exact a
      ·lia
     refine⟨λe aB=>?_,λh=>absurd h (by lia),λ_=>dO⟩;rcases SK.mp aB with rfl|aB
     ·exact aF cI
     ·rcases SK.mp aB with rfl|aB
      ·exact bf kJ
      ·cases aB
    ·rw[lj c];refine⟨λe aB=>?_,λh=>h1 p q au cI h,λh=>?_⟩
     ·rcases SK.mp aB with rfl|aB
      ·exact aF cI
      ·cases aB
     ·show f p=0
      rcases Vn cI with a|a
      ·exact absurd (S2 a h) c
      ·exact a.symm
   ·rw[show kp f p=[] by unfold kp;rw[SL cI]];have z0:=bb (by lia);by_cases c:f p*f q<0
    ·rw[mb c];obtain⟨dO,bf,bL⟩:=h2 p q au c
     have lr:0<f q:=by
      rcases md c with⟨a,_⟩|⟨_,a⟩
      ·lia
      ·exact a
     refine⟨λe aB=>?_,λ_=>bL lr,λh=>absurd h (by lia)⟩;rcases SK.mp aB with rfl|aB
     ·exact hz _ _ z0 dO
     ·cases aB
    ·rw[lj c];refine⟨λe aB=>(by cases aB),λh=>hz _ _ z0 ?_,λ_=>z0⟩;rcases Vn h with a|a
     ·exact absurd (by rw[S4];exact S2 a (by lia)) c
     ·exact a.symm
  obtain⟨az,a',cn⟩:=step;show(∀e∈c8 z (kp f p++cA f mt p (r.headD w)++dg f mt r w),C e.1 e.2)/\(0<=f w->C (b9 z (kp f p++cA f mt p (r.headD w)++dg f mt r w)) w)/\(f w<0->f (b9 z (kp f p++cA f mt p (r.headD w)++dg f mt r w))=0)
  rw[o' z (kp f p++cA f mt p (r.headD w)),pc z (kp f p++cA f mt p (r.headD w))];cases r with
  |nil=>exact⟨λe aB=>by rw[show c8 _ (dg f mt [] w)=[]from rfl,SP]at aB;exact az e aB,a',cn⟩
  |cons q r=>
   obtain⟨d1,cY,hb⟩:=xv hz (ps:=q::r) (w:=w) (z:=b9 z (kp f p++cA f mt p q)) (λa b hy=>h1 a b (Sz _ hy)) (λa b hy=>h2 a b (Sz _ hy)) a' cn (by simp);refine⟨λe aB=>?_,cY,hb⟩;rcases SR.mp aB with aB|aB
   ·exact az e aB
   ·exact d1 e aB
def BV{a:aa}{r:Zd}{e:aa×aa}:e∈c8 a (r++[a])↔e∈dj (a::r):=by
 have:dj (a::r)=(b9 a r,a)::c8 a r:=rfl;rw[this,o'];simp[c8,or_comm]
def Q7{C:aa->aa->Prop}{ps:Zd}(hz:∀u v,f u=0->f v=0->C u v)(o:aa)(aA:f o=0)(h1:∀e∈dj ps,0<=f e.1->0<=f e.2->C e.1 e.2)(h2:∀e∈dj ps,f e.1*f e.2<0->f (mt e.1 e.2)=0/\(0<f e.1->C e.1 (mt e.1 e.2))/\(0<f e.2->C (mt e.1 e.2) e.2)):
  ∀e∈dj (dz f mt ps),C e.1 e.2:=by
 cases ps with
 |nil=>intro e aB;cases aB
 |cons a r=>
  intro e aB;have n:dz f mt (a::r)≠[]:=by intro z;rw[z]at aB;cases aB
  have aE:∀p q,(p,q)∈c8 ((a::r).headD a) ((a::r).tail++[a])->0<=f p->0<=f q->C p q:=λp q h=>h1 (p,q) (BV.mp h);have aI:∀p q,(p,q)∈c8 ((a::r).headD a) ((a::r).tail++[a])->f p*f q<0->f (mt p q)=0/\(0<f p->C p (mt p q))/\(0<f q->C (mt p q) q):=λp q h=>h2 (p,q) (BV.mp h);have first:=xv (f:=f) (mt:=mt) (C:=λu v=>u=o\/C u v) (λu v bn aL=>.inr (hz u v bn aL)) (ps:=a::r) (w:=a) (z:=o) (λp q h x y=>.inr (aE p q h x y)) (λp q h x=>⟨(aI p q h x).1,λy=>.inr ((aI p q h x).2.1 y),λy=>.inr ((aI p q h x).2.2 y)⟩) (λ_=>.inl rfl) (λ_=>aA) (by simp)
  have ah:b9 o (dg f mt (a::r) a)=b9 (0,0,1) (dz f mt (a::r)):=r0 n;have eG:f a<0->f (b9 (0,0,1) (dz f mt (a::r)))=0:=λh=>by rw[<-ah];exact first.2.2 h
  have bt:0<=f a->C (b9 (0,0,1) (dz f mt (a::r))) a:=λh=>by
   by_cases BW:b9 o (dg f mt (a::r) a)=o
   ·
    have:=xv (f:=f) (mt:=mt) (C:=λu v=>(u=a/\v=a)\/C u v) (λu v bn aL=>.inr (hz u v bn aL)) (ps:=a::r) (w:=a) (z:=a) (λp q h x y=>.inr (aE p q h x y)) (λp q h x=>⟨(aI p q h x).1,λy=>.inr ((aI p q h x).2.1 y),λy=>.inr ((aI p q h x).2.2 y)⟩) (λ_=>.inl ⟨rfl,rfl⟩) (λy=>absurd y (show ¬f a<0 by lia)) (by simp);have ap:b9 a (dg f mt (a::r) a)=b9 (0,0,1) (dz f mt (a::r)):=r0 n;rcases this.2.1 h with⟨aR,_⟩|q
    ·rw[ap]at aR;rw[aR];rw[ah,aR]at BW;rw[BW];exact hz o o aA aA
    ·rw[<-ap];exact q
   ·rcases first.2.1 h with q|q
    ·exact absurd q BW
    ·rw[<-ah];exact q
  exact(xv hz aE aI bt eG (by simp)).1 e aB
end
end Cut
namespace Cut
open PySem L2 L3
open PySem.Builtin.Int (intBits)
def nX(l:aa)(mt:aa->aa->aa):Prop:=∀p q,ln l p*ln l q<0->hi p q (mt p q)/\ln l (mt p q)=0
def r3{l p q:aa}(h:ln l p*ln l q<0):ln l (a0 l p q)=0:=by
 unfold a0;by_cases w:0<p.2.2/\0<q.2.2
 ·rw[SC w]
  have c0:(crs l (crs p q)).2.2≠0:=by
   rw[show(crs l (crs p q)).2.2=ln l q*p.2.2 + -ln l p*q.2.2 by rw[t9 l p q];rfl];rcases md h with⟨a,b⟩|⟨a,b⟩
   ·have cq:ln l q*p.2.2<0:=by rw[S4];exact S2 w.1 b
    have dL : -ln l p*q.2.2<0:=by rw[S4];exact S2 w.2 (by lia)
    lia
   ·have cq:0<ln l q*p.2.2:=SF b w.1;have dL:0 < -ln l p*q.2.2:=SF (by lia) w.2;lia
  obtain⟨g,aV,aC⟩:=j6 c0;have z:ln l (crs l (crs p q))=0:=by rw[show crs l (crs p q)=hg (ln l q) p (-ln l p) q from t9 l p q,xg];grind
  rw[aC,BG]at z;rcases Tu.mp z with y|y
  ·exact absurd y aV
  ·exact y
 ·rw[SL w];by_cases c:0<ln l q
  ·rw[SC c,xg];grind
  ·rw[SL c,xg];grind
def xw(l:aa):nX l (a0 l):=λ_ _ h=>⟨qu h,r3 h⟩
def mh(l:aa):aa:=sc (-1) l
def m5(l p:aa):ln (mh l) p = -ln l p:=by unfold mh ln sc;dsimp only;grind
def nX.ng{l:aa}{mt:aa->aa->aa}(h:nX l mt):nX (mh l) mt:=λp q c=>by
 rw[m5,m5,T3]at c;refine⟨(h p q c).1,?_⟩;rw[m5,(h p q c).2];rfl
def nX.meets{l:aa}{mt:aa->aa->aa}(h:nX l mt):Meets (ln l) mt:=λp q c=>(h p q c).1
def hi.ln0{p q m g:aa}(h:hi p q m)(h1:Cut.ln g p=0)(h2:Cut.ln g q=0):Cut.ln g m=0:=by
 obtain⟨s,a,b,al,ar,ab,e⟩:=h;have k:s*Cut.ln g m=a*Cut.ln g p+b*Cut.ln g q:=by rw[<-BG,e,xg]
 rw[h1,h2,S1,S1]at k;rcases Tu.mp k with z|z
 ·lia
 ·exact z
section
variable{l:aa}{mt:aa->aa->aa}{ps:Zd}
def xx:∀{z:aa}{r:Zd},r≠[]->∃A,r=A++[b9 z r]
 |_,[],h=>absurd rfl h
 |z,[p],_=>⟨[],rfl⟩
 |z,p::q::r,_=>by
  obtain⟨A,e⟩:=xx (z:=p) (r:=q::r) (by simp);exact⟨p::A,TW (p :: ·) e⟩
end
def eH(T:aa->aa->Rat)(es:List (aa×aa)):Rat:=(es.map λe=>T e.1 e.2).sum
def iz(T:aa->aa->Rat):eH T []=0:=rfl
def hE(T:aa->aa->Rat)(e:aa×aa)(es:List (aa×aa)):eH T (e::es)=T e.1 e.2+eH T es:=by unfold eH;rw[SG,SQ]
def xy(T:aa->aa->Rat):∀es fs:List (aa×aa),eH T (es++fs)=eH T es+eH T fs
 |[],fs=>by rw[Tc,iz];grind
 |e::es,fs=>by rw[To,hE,hE,xy T es fs];grind
section
variable{f:aa->Int}{mt:aa->aa->aa}{T:aa->aa->Rat}{V:aa->Prop}
def iV(f:aa->Int)(mt:aa->aa->aa)(T:aa->aa->Rat)(p q:aa):Rat:=
 if 0<=f p then(if 0<=f q then T p q else if f p*f q<0 then T p (mt p q)else 0)else(if f p*f q<0 then T (mt p q) q else 0)
def m6(f:aa->Int)(T:aa->aa->Rat)(z p:aa):Rat:=if 0<=f p then T z p else 0
def xz{z p:aa}(h:0<=f p):m6 f T z p=T z p:=by unfold m6;rw[SC h]
def xA{z p:aa}(h:¬0<=f p):m6 f T z p=0:=by unfold m6;rw[SL h]
def Q8(hz:∀u v,V u->V v->f u=0->f v=0->T u v=0){p q z:aa}(uj:V z)(pd:V q)(ax:f p*f q<0->V (mt p q)/\f (mt p q)=0)(bb:f p<0->f z=0):
  eH T (c8 z (kp f p++cA f mt p q))+m6 f T (b9 z (kp f p++cA f mt p q)) q=m6 f T z p+iV f mt T p q/\(f q<0->f (b9 z (kp f p++cA f mt p q))=0):=by
 by_cases cI:0<=f p
 ·rw[show kp f p=[p] by unfold kp;rw[SC cI],xz cI];by_cases c:f p*f q<0
  ·rw[mb c]
   have lr:¬0<=f q:=by
    rcases md c with⟨_,a⟩|⟨a,_⟩<;>lia
   have ah:b9 z ([p]++[mt p q])=mt p q:=rfl;have ap:c8 z ([p]++[mt p q])=[(z,p),(p,mt p q)]:=rfl;refine⟨?_,λ_=>by rw[ah];exact(ax c).2⟩;rw[ah,ap,xA lr,hE,hE,iz];unfold iV;rw[SC cI,SL lr,SC c];dsimp only;grind
  ·rw[lj c];have ah:b9 z ([p]++[])=p:=rfl;have ap:c8 z ([p]++[])=[(z,p)]:=rfl;rw[ah,ap,hE,iz];refine⟨?_,λh=>?_⟩
   ·unfold iV;rw[SC cI];by_cases pe:0<=f q
    ·rw[xz pe,SC pe];dsimp only;grind
    ·rw[xA pe,SL pe,SL c];dsimp only;grind
   ·rcases Vn cI with a|a
    ·exact absurd (S2 a h) c
    ·exact a.symm
 ·rw[show kp f p=[] by unfold kp;rw[SL cI],xA cI,Tc];have z0:=bb (by lia);unfold iV;rw[SL cI];by_cases c:f p*f q<0
  ·rw[mb c,SC c]
   have lr:0<=f q:=by
    rcases md c with⟨a,_⟩|⟨_,a⟩<;>lia
   have ah:b9 z [mt p q]=mt p q:=rfl;have ap:c8 z [mt p q]=[(z,mt p q)]:=rfl;have mc:T z (mt p q)=0:=hz _ _ uj (ax c).1 z0 (ax c).2;rw[ah,ap,hE,iz,xz lr];refine⟨?_,λh=>absurd h (by lia)⟩;dsimp only;rw[mc];grind
  ·rw[lj c,SL c];have ah:b9 z []=z:=rfl;have ap:c8 z []=[]:=rfl;rw[ah,ap,iz];refine⟨?_,λ_=>z0⟩;by_cases pe:0<=f q
   ·have gu:f q=0:=by
     rcases Vn pe with a|a
     ·exact absurd (by rw[S4];exact S2 a (by lia)) c
     ·exact a.symm
    rw[xz pe,hz _ _ uj pd z0 gu]
   ·rw[xA pe]
def BX(hz:∀u v,V u->V v->f u=0->f v=0->T u v=0)(ax:∀p q,V p->V q->f p*f q<0->V (mt p q)/\f (mt p q)=0):∀{ps:Zd}{w z:aa},(∀p∈ps,V p)->V w->V z->(f (ps.headD w)<0->f z=0)->ps≠[]->
  eH T (c8 z (dg f mt ps w))+m6 f T (b9 z (dg f mt ps w)) w=m6 f T z (ps.headD w)+eH (iV f mt T) (c8 (ps.headD w) (ps.tail++[w]))/\(f w<0->f (b9 z (dg f mt ps w))=0)
 |[],_,_,_,_,_,_,aM=>absurd rfl aM
 |p::r,w,z,aL,Hc,uj,bb,_=>by
  have bb:f p<0->f z=0:=bb;have r4:=aL p Sx
  have pd:V (r.headD w):=by
   cases r with
   |nil=>exact Hc
   |cons q r=>exact aL q (by simp)
  obtain⟨az,a'⟩:=Q8 (f:=f) (mt:=mt) (T:=T) (V:=V) hz uj pd (ax p _ r4 pd) bb;show eH T (c8 z (kp f p++cA f mt p (r.headD w)++dg f mt r w))+m6 f T (b9 z (kp f p++cA f mt p (r.headD w)++dg f mt r w)) w=m6 f T z p+eH (iV f mt T) (c8 p (r++[w]))/\(f w<0->f (b9 z (kp f p++cA f mt p (r.headD w)++dg f mt r w))=0)
  rw[o' z (kp f p++cA f mt p (r.headD w)),pc z (kp f p++cA f mt p (r.headD w)),xy]
  have hL:V (b9 z (kp f p++cA f mt p (r.headD w))):=by
   by_cases cI:0<=f p
   ·rw[show kp f p=[p] by unfold kp;rw[SC cI]];by_cases c:f p*f (r.headD w)<0
    ·rw[mb c];exact(ax _ _ r4 pd c).1
    ·rw[lj c];exact r4
   ·rw[show kp f p=[] by unfold kp;rw[SL cI]];by_cases c:f p*f (r.headD w)<0
    ·rw[mb c];exact(ax _ _ r4 pd c).1
    ·rw[lj c];exact uj
  cases r with
  |nil=>
   have d5:c8 (b9 z (kp f p++cA f mt p (([]:Zd).headD w))) (dg f mt [] w)=[]:=rfl;have ah:c8 p ([]++[w])=[(p,w)]:=rfl;have ap:([]:Zd).headD w=w:=rfl;have bw:b9 (b9 z (kp f p++cA f mt p (([]:Zd).headD w))) (dg f mt [] w)=b9 z (kp f p++cA f mt p w):=rfl;rw[d5,ah,bw,iz,hE,iz];rw[ap]at az a'⊢;refine⟨?_,a'⟩;dsimp only;grind
  |cons q r=>
   obtain⟨d1,cY⟩:=BX hz ax (ps:=q::r) (w:=w) (z:=b9 z (kp f p++cA f mt p q)) (λx ao=>aL x (Sz _ ao)) Hc hL a' (by simp);refine⟨?_,cY⟩;have ah:c8 p (q::r++[w])=(p,q)::c8 q (r++[w]):=rfl;have ap:(q::r).headD w=q:=rfl;have bw:(q::r).tail=r:=rfl;rw[ah,hE];rw[ap,bw]at d1;rw[ap]at az⊢;dsimp only;grind
def BY(T:aa->aa->Rat)(a:aa)(r:Zd):eH T (c8 a (r++[a]))=eH T (dj (a::r)):=by
 have:dj (a::r)=(b9 a r,a)::c8 a r:=rfl;rw[this,o',xy,hE];have:c8 (b9 a r) [a]=[(b9 a r,a)]:=rfl;rw[this,hE,iz];dsimp only;grind
def Hd(hz:∀u v,V u->V v->f u=0->f v=0->T u v=0)(ax:∀p q,V p->V q->f p*f q<0->V (mt p q)/\f (mt p q)=0)(o:aa)(Q9:V o)(aA:f o=0){ps:Zd}(aL:∀p∈ps,V p):
  eH T (dj (dz f mt ps))=eH (iV f mt T) (dj ps):=by
 cases ps with
 |nil=>rfl
 |cons a r=>
  have BZ:=aL a Sx;have first:=BX hz ax (ps:=a::r) (w:=a) (z:=o) aL BZ Q9 (λ_=>aA) (by simp)
  have ah:(a::r).headD a=a:=rfl;have ap:(a::r).tail=r:=rfl;rw[ah,ap,BY]at first
  by_cases n:dz f mt (a::r)=[]
  ·have n':dg f mt (a::r) a=[]:=n;rw[n']at first
   have bw:c8 o []=[]:=rfl;have cT:b9 o []=o:=rfl;rw[bw,cT,iz]at first
   rw[n];have eE:dj []=[]:=rfl;rw[eE,iz];have:=first.1
   grind
  ·have bw:b9 o (dg f mt (a::r) a)=b9 (0,0,1) (dz f mt (a::r)):=r0 n;have eG:f a<0->f (b9 (0,0,1) (dz f mt (a::r)))=0:=λh=>by rw[<-bw];exact first.2 h
   have hL:V (b9 (0,0,1) (dz f mt (a::r))):=by
    rcases qv (BU (z:=(0,0,1)) n)with⟨h,_⟩|⟨p,ae,q,au,c,e⟩
    ·exact aL _ h
    ·rw[e];exact(ax p q (aL p ae) (aL q au) c).1
   have snd:=BX hz ax (ps:=a::r) (w:=a) (z:=b9 (0,0,1) (dz f mt (a::r))) aL BZ hL eG (by simp);rw[ah,ap,BY]at snd;have cT:b9 (b9 (0,0,1) (dz f mt (a::r))) (dg f mt (a::r) a)=b9 (0,0,1) (dz f mt (a::r)):=r0 n;rw[cT]at snd;have:=snd.1;show eH T (c8 (b9 (0,0,1) (dz f mt (a::r))) (dg f mt (a::r) a))=_
   grind
def He{T1 T2 Hf:aa->aa->Rat}:∀{es:List (aa×aa)},(∀e∈es,T1 e.1 e.2+T2 e.1 e.2=Hf e.1 e.2)->eH T1 es+eH T2 es=eH Hf es
 |[],_=>by rw[iz,iz,iz];grind
 |e::es,h=>by
  have h1:=h e Sx;have h2:=He (es:=es) λe aB=>h e (Sz _ aB);rw[hE,hE,hE];grind
def Q'(hz:∀u v,V u->V v->f u=0->f v=0->T u v=0){p q:aa}(r4:V p)(pd:V q)(ax:f p*f q<0->T p (mt p q)+T (mt p q) q=T p q):iV f mt T p q+iV (λc => -f c) mt T p q=T p q:=by
 have lm:(-f p)*(-f q)=f p*f q:=T3 _ _;unfold iV;dsimp only;rw[lm];rcases TZ (f p) 0 with a|a|a
 ·rw[SL (show ¬0<=f p by lia),SC (show 0 <= -f p by lia)];rcases TZ (f q) 0 with b|b|b
  ·have c:¬f p*f q<0:=by have:=UB a b;lia
   rw[SL c,SC (show 0 <= -f q by lia)];grind
  ·have c:¬f p*f q<0:=by rw[b,S1];lia
   rw[SL c,SC (show 0 <= -f q by lia)];grind
  ·have c:f p*f q<0:=by rw[S4];exact S2 b a
   rw[SC c,SL (show ¬0 <= -f q by lia),SC c];have:=ax c;grind
 ·have c:¬f p*f q<0:=by rw[a,TY];lia
  rw[SC (show 0<=f p by lia),SC (show 0 <= -f p by lia),SL c];rcases TZ (f q) 0 with b|b|b
  ·rw[SL (show ¬0<=f q by lia),SC (show 0 <= -f q by lia)];grind
  ·rw[SC (show 0<=f q by lia),SC (show 0 <= -f q by lia)];have:=hz p q r4 pd a b;grind
  ·rw[SC (show 0<=f q by lia),SL (show ¬0 <= -f q by lia)];grind
 ·rw[SC (show 0<=f p by lia),SL (show ¬0 <= -f p by lia)];rcases TZ (f q) 0 with b|b|b
  ·have c:f p*f q<0:=S2 a b;rw[SL (show ¬0<=f q by lia),SC c,SC c];exact ax c
  ·have c:¬f p*f q<0:=by rw[b,S1];lia
   rw[SC (show 0<=f q by lia),SL c];grind
  ·have c:¬f p*f q<0:=by have:=SF a b;lia
   rw[SC (show 0<=f q by lia),SL c];grind
def B0(hz:∀u v,V u->V v->f u=0->f v=0->T u v=0):∀{es:List (aa×aa)},(∀e∈es,V e.1/\V e.2/\f e.1<=0/\f e.2<=0)->eH (iV f mt T) es=0
 |[],_=>rfl
 |e::es,h=>by
  obtain⟨v1,dC,cq,dL⟩:=h e Sx;have cH:=B0 hz (es:=es) λe aB=>h e (Sz _ aB);rw[hE,cH];have c:¬f e.1*f e.2<0:=by have:=Vo cq dL;lia
  have:iV f mt T e.1 e.2=0:=by
   unfold iV;rw[SL c,SL c];by_cases a:0<=f e.1
   ·rw[SC a];by_cases b:0<=f e.2
    ·rw[SC b];exact hz _ _ v1 dC (by lia) (by lia)
    ·rw[SL b]
   ·rw[SL a]
  rw[this];grind
end
def iA(p:aa):Rat:=(p.1:Rat)/(p.2.2:Rat)
def iB(p:aa):Rat:=(p.2.1:Rat)/(p.2.2:Rat)
def dN{x:Int}(h:0<x):(x:Rat)≠0:=λz=>by
 have:=Rat.intCast_eq_zero_iff.mp z;lia
def B1{p q m:aa}(h:hi p q m)(ae:0<p.2.2)(au:0<q.2.2)(ax:0<m.2.2):∃a b:Rat,a+b=1/\iA m=a*iA p+b*iA q/\iB m=a*iB p+b*iB q:=by
 obtain⟨s,a,b,al,ar,ab,e⟩:=h;have ah:s*m.1=a*p.1+b*q.1:=TW (λx:aa=>x.1) e;have ap:s*m.2.1=a*p.2.1+b*q.2.1:=TW (λx:aa=>x.2.1) e;have bw:s*m.2.2=a*p.2.2+b*q.2.2:=TW (λx:aa=>x.2.2) e;have fX:=dN al;have dO:=dN ax;have xB:=dN ae;have gu:=dN au;have aU:(s:Rat)*m.1=a*p.1+b*q.1:=by rw[<-Ub,ah,V',Ub,Ub]
 have a9:(s:Rat)*m.2.1=a*p.2.1+b*q.2.1:=by rw[<-Ub,ap,V',Ub,Ub]
 have bE:(s:Rat)*m.2.2=a*p.2.2+b*q.2.2:=by rw[<-Ub,bw,V',Ub,Ub]
 unfold iA iB;generalize(s:Rat)=s' at *;generalize(a:Rat)=fk at *;generalize(b:Rat)=b' at *;generalize(m.1:Rat)=bf at *;generalize(m.2.1:Rat)=bL at *;generalize(m.2.2:Rat)=k2 at *;generalize(p.1:Rat)=cW at *;generalize(p.2.1:Rat)=cS at *;generalize(p.2.2:Rat)=nT at *;generalize(q.1:Rat)=aR at *;generalize(q.2.1:Rat)=bK at *;generalize(q.2.2:Rat)=e7 at *;refine⟨fk*nT/(s'*k2),b'*e7/(s'*k2),?_,?_,?_⟩<;>grind
def Hg(h:aa->Rat):∀(z:aa)(L:Zd),eH (λp q=>h p-h q) (c8 z L)=h z-h (b9 z L)
 |z,[]=>by rw[show c8 z []=[]from rfl,iz,show b9 z []=z from rfl];grind
 |z,p::L=>by
  rw[show c8 z (p::L)=(z,p)::c8 p L from rfl,hE,Hg h p L,show b9 z (p::L)=b9 p L from rfl];dsimp only;grind
open Classical in
noncomputable def c9(f:aa->Int)(mt:aa->aa->aa)(ps:Zd):List aa:=if ∃c∈ps,0<f c then dz f mt ps else[]
end Cut
namespace L3
open PySem L2
section
variable{X:aK}{e:UV}{u:a1}{pos:Pos}
def Ra(i:Nat)(u:a1):cB:=λU ρ=>∃m,ρ[i]?=some (.val (.int m))/\u ρ λd=>∃n,d=.int n/\U.nx (ρ.set i (.val (.int (m+n))))
def Rb{i:Nat}{x:Str}{eb:Pos}(a4:X.N.Nodup)(ay:X.N[i]?=some x)(ao:Loc X.env.scope x)(aB:bg X e u)(bu:X.fn x=true\/X.env.scope.names.lookup x=some .local:=by first|exact .inl rfl|exact .inr rfl|assumption):
  fo X (.AugAssign (.Name x eb) .Add e pos) (Ra i u):=by
 obtain⟨_,h1,r1⟩:=aB;refine⟨_,Lu a4 ay ao h1 Ly bu,λU ρ h R W B H σ D e s=>?_⟩;obtain⟨m,ax,h⟩:=h;obtain⟨v,aL,cd⟩:=e.val ax;refine⟨v,aL,?_⟩;refine r1 ρ _ h R W B H σ _ e λd w aZ aq z1 ah aE az=>?_;obtain⟨n,rfl,z⟩:=z1;exact⟨m,n,cd.intV,az.intV,s.nx _ _ aZ aq z (ah.setV i (.int _)) aE⟩
end
def Hi{a b c:Nat}{s:cB}{U:gC}(I:List Cut.Piece->Zg->Prop):∀{sh done:List Cut.Piece}{ρ:Zg},I done ρ->
  (∀pre x rest ρ,done++sh=pre++x::rest->I pre ρ->∀N:Zg->Prop,(∀r,I (pre++[x]) r->N r)->s {U with nx:=N,ct:=N,bk:=U.nx} (((ρ.set a (.new (.lst (x.1.map Cut.dP)))).set b (.val (.bl x.2.1))).set c (.val (Cut.dP x.2.2))))->
  (∀ρ,I (done++sh) ρ->U.nx ρ)->ha (kw 3 (fv (BO a) (fv (uh b) (fv (uh c) kv)))) s U (sh.map Cut.dS) ρ
 |[],done,ρ,h0,_,h2=>h2 ρ (by rw[SP];exact h0)
 |x::sh,done,ρ,h0,h1,h2=>by
  refine⟨_,rfl,rfl,_,_,rfl,_,_,rfl,rfl,_,_,rfl,rfl,rfl,?_⟩;refine h1 done x sh ρ rfl h0 _ λr ak=>?_;refine Hi I ak (λpre y rest ρ e=>h1 pre y rest ρ (by rw[<-e];simp)) λρ h=>h2 ρ ?_;have e:done++[x]++sh=done++x::sh:=by simp
  rw[<-e];exact h
end L3
namespace Cut
open PySem L2 L3
open PySem.Builtin.Int (intBits)
noncomputable def ck(f:aa->Int)(mt:aa->aa->aa)(sh:Ze):List Piece:=(sh.map λs=>(c9 f mt s.1,s.2)).filter λs => !s.1.isEmpty
def uk{f:aa->Int}{mt:aa->aa->aa}(a b:Ze):ck f mt (a++b)=ck f mt a++ck f mt b:=by unfold ck;rw[SJ,U4]
def xC{f:aa->Int}{mt:aa->aa->aa}{s:Piece}(h:(c9 f mt s.1).isEmpty=false):ck f mt [s]=[(c9 f mt s.1,s.2)]:=by unfold ck;simp[h]
def xD{f:aa->Int}{mt:aa->aa->aa}{s:Piece}(h:(c9 f mt s.1).isEmpty=true):ck f mt [s]=[]:=by unfold ck;simp[h]
def mi{f:aa->Int}{mt:aa->aa->aa}(sh:Ze):(ck f mt sh).length<=sh.length:=by
 unfold ck;refine SE (Vp _ _) ?_;rw[Sw];exact Sy _
def ul{f:aa->Int}{mt:aa->aa->aa}{sh:Ze}{s:Piece}(h:s∈ck f mt sh):∃t∈sh,s=(dz f mt t.1,t.2)/\∃c∈t.1,0<f c:=by
 unfold ck at h;obtain⟨h1,h2⟩:=Uw.mp h;obtain⟨t,bv,rfl⟩:=SM.mp h1;refine⟨t,bv,?_⟩;unfold c9 at h2⊢;split at h2
 ·rename_i c;rw[SC c];exact⟨rfl,c⟩
 ·simp at h2
def Hj:∀(z:aa)(L:Zd)(k:Nat),k<L.length->(c8 z L)[k]?=some (bx (z::L) k,bx L k)
 |_,[],_,h=>absurd h (by simp)
 |z,p::L,0,_=>rfl
 |z,p::L,k+1,h=>by
  have:=Hj p L k (by simpa using h);simpa[c8,Gx]using this
def B2:∀(z:aa)(L:Zd),(c8 z L).length=L.length
 |_,[]=>rfl
 |z,p::L=>by simp[c8,B2 p L]
def xE:∀(z:aa)(L:Zd),L≠[]->b9 z L=bx L (L.length-1)
 |_,[],h=>absurd rfl h
 |z,[p],_=>rfl
 |z,p::q::L,_=>by
  have:=xE p (q::L) (by simp);show b9 p (q::L)=_
  rw[this];rfl
def xF(ps:Zd):dj ps=(Ta ps.length).map λk=>(bx ps ((k+ps.length-1)%ps.length),bx ps k):=by
 apply Un;intro k;by_cases h:k<ps.length
 ·have aM:ps≠[]:=by rintro rfl;simp at h
  rw[SX,Vj h];unfold dj;rw[Hj _ _ _ h];simp only[U3];congr 2;cases k with
  |zero=>
   rw[Ql,xE _ _ aM,TX,Tb (by lia)]
  |succ k=>
   rw[Gx,show k+1+ps.length-1=k+ps.length by lia,UP,Tb (by lia)]
 ·rw[S9 (by unfold dj;rw[B2];lia),S9 (by simp;lia)]
end Cut
namespace Cut
open PySem L2 L3
def Hk(h:aa->Int):∀ps:Zd,flats (ps.map λc=>D.int (h c))=true
 |[]=>rfl
 |p::r=>by
  rw[SG,flats,Hk h r];rfl
def xG{f:aa->Int}{mt:aa->aa->aa}{ps:Zd}(h:∃c∈ps,0<f c):c9 f mt ps=dz f mt ps:=by unfold c9;rw[SC h]
def B3{f:aa->Int}{mt:aa->aa->aa}{ps:Zd}(h:¬∃c∈ps,0<f c):c9 f mt ps=[]:=by unfold c9;rw[SL h]
def xH{l:aa}{ps:Zd}:(∃c∈ps,0<(λc => -ln l c) c)↔∃c∈ps,ln l c<0:=
 ⟨λ⟨c,h,z⟩=>⟨c,h,by have z:0 < -ln l c:=z;lia⟩,λ⟨c,h,z⟩=>⟨c,h,by show 0 < -ln l c;lia⟩⟩
end Cut
namespace L3
open PySem L2
def B4{α:Type}{f h:α->D}{P:α->Bool}{dV:dU}{u:a1}{fs:Zg}:∀{rs:List α}{v0:aD}{k:Zh->Prop},(∀r∈rs,∀k:Bool->Prop,k (P r)->dV (.val (f r)::fs) k)->(∀r∈rs,∀k:D->Prop,k (h r)->u (.val (f r)::fs) k)->k ((rs.filter P).map h)->gX (e0 0) dV u (rs.map f) (v0::fs) k
 |[],_,_,_,_,ag=>ag
 |r::rs,v0,k,h1,h2,ag=>by
  refine h1 r Sx _ ?_;cases c:P r with
  |true=>
   rw[SC rfl];refine h2 r Sx _ ?_;refine B4 (P:=P) (λx ao=>h1 x (Sz _ ao)) (λx ao=>h2 x (Sz _ ao)) ?_;rw[WT c]at ag;exact ag
  |false=>
   rw[SL S3];refine B4 (P:=P) (λx ao=>h1 x (Sz _ ao)) (λx ao=>h2 x (Sz _ ao)) ?_;rw[WU (by rw[c];decide)]at ag;exact ag
end L3
namespace Cut
open PySem L2 L3
open PySem.Builtin.Int (intBits)
def Rc{ps:Zd}{i:Nat}(h:i<ps.length):(dj ps).take (i+1)=(dj ps).take i++[(bx ps ((i+ps.length-1)%ps.length),bx ps i)]:=by
 rw[List.take_succ,xF,SX,Vj h];rfl
def Rd(ps:Zd):(dj ps).take ps.length=dj ps:=VZ (by unfold dj;rw[B2];exact Sy _)
def pf(p q:aa):ln (crs p q) p=0:=by show bi p q p=0;unfold bi crs;grind
def Hl{f:aa->Int}{mt:aa->aa->aa}{x:aa}:∀{ps:Zd}{w:aa},x∈dg f mt ps w->(x∈ps/\0<=f x)\/∃e∈c8 (ps.headD w) (ps.tail++[w]),f e.1*f e.2<0/\x=mt e.1 e.2
 |[],_,h=>by cases h
 |p::r,w,h=>by
  have h:x∈kp f p++cA f mt p (r.headD w)++dg f mt r w:=h;rcases SR.mp h with h|h
  ·rcases SR.mp h with h|h
   ·unfold kp at h;split at h
    ·rename_i z
     rw[SO.mp h];exact .inl ⟨Sx,z⟩
    ·cases h
   ·unfold cA at h;split at h
    ·rename_i z
     refine .inr ⟨(p,r.headD w),?_,z,SO.mp h⟩;cases r<;>exact Sx
    ·cases h
  ·rcases Hl h with⟨h1,h2⟩|⟨e,h1,h2⟩
   ·exact .inl ⟨Sz _ h1,h2⟩
   ·refine .inr ⟨e,?_,h2⟩;cases r with
    |nil=>cases h
    |cons q r=>exact Sz _ h1
def Re{f:aa->Int}{mt:aa->aa->aa}{x:aa}{ps:Zd}(h:x∈dz f mt ps):(x∈ps/\0<=f x)\/∃e∈dj ps,f e.1*f e.2<0/\x=mt e.1 e.2:=by
 cases ps with
 |nil=>cases h
 |cons a r=>
  rcases Hl h with h|⟨e,h1,h2⟩
  ·exact .inl h
  ·exact .inr ⟨e,BV.mp h1,h2⟩
structure xI (b m:Nat) (ps:Zd):Prop where
 pts:∀x∈ps,dE b x
 lin:∀e∈dj ps,∃g:aa,cD m g/\(g.1≠0\/g.2.1≠0\/g.2.2≠0)/\ln g e.1=0/\ln g e.2=0
def par{g u v:aa}(aC:g.1≠0\/g.2.1≠0\/g.2.2≠0)(bn:ln g u=0)(aL:ln g v=0)(n:(crs u v).1≠0\/(crs u v).2.1≠0\/(crs u v).2.2≠0):∃a b:Int,a≠0/\b≠0/\sc a (crs u v)=sc b g:=by
 have t:crs g (crs u v)=hg (ln g v) u (-ln g u) v:=t9 g u v;rw[bn,aL]at t;generalize crs u v=w at *
 have d1:g.2.1*w.2.2-g.2.2*w.2.1=0:=by
  have:=TW (λx:aa=>x.1) t;unfold crs hg at this;dsimp only at this;grind
 have cY:g.2.2*w.1-g.1*w.2.2=0:=by
  have:=TW (λx:aa=>x.2.1) t;unfold crs hg at this;dsimp only at this;grind
 have hb:g.1*w.2.1-g.2.1*w.1=0:=by
  have:=TW (λx:aa=>x.2.2) t;unfold crs hg at this;dsimp only at this;grind
 have jW:∀{x y:Int},x≠0->x*y=0->y=0:=λh e=>(Tu.mp e).resolve_left h;rcases aC with h|h|h
 ·refine⟨g.1,w.1,h,λz=>?_,?_⟩
  ·rw[z]at cY hb;have a:=jW h (show g.1*w.2.2=0 by grind);have b:=jW h (show g.1*w.2.1=0 by grind);rcases n with n|n|n<;>contradiction
  ·unfold sc;refine eS ?_ ?_ ?_<;>dsimp only<;>grind
 ·refine⟨g.2.1,w.2.1,h,λz=>?_,?_⟩
  ·rw[z]at d1 hb;have a:=jW h (show g.2.1*w.2.2=0 by grind);have b:=jW h (show g.2.1*w.1=0 by grind);rcases n with n|n|n<;>contradiction
  ·unfold sc;refine eS ?_ ?_ ?_<;>dsimp only<;>grind
 ·refine⟨g.2.2,w.2.2,h,λz=>?_,?_⟩
  ·rw[z]at d1 cY;have a:=jW h (show g.2.2*w.2.1=0 by grind);have b:=jW h (show g.2.2*w.1=0 by grind);rcases n with n|n|n<;>contradiction
  ·unfold sc;refine eS ?_ ?_ ?_<;>dsimp only<;>grind
def Hm(c:Int)(p q:aa):crs p (sc c q)=sc c (crs p q):=by
 refine eS ?_ ?_ ?_<;>simp only[crs,sc]<;>grind
def Rf{l w g:aa}{a b:Int}(ar:a≠0)(ab:b≠0)(e:sc a w=sc b g)(n:(crs l w).2.2≠0):(crs l g).2.2≠0/\nP (crs l w)=nP (crs l g):=by
 have ah:sc a (crs l w)=sc b (crs l g):=by rw[<-Hm,e,Hm]
 have aF:a*(crs l w).2.2=b*(crs l g).2.2:=TW (λx:aa=>x.2.2) ah
 have dL:(crs l g).2.2≠0:=λz=>by
  rw[z,S1]at aF;rcases Tu.mp aF with y|y<;>contradiction
 refine⟨dL,?_⟩;obtain⟨c,hS,hc⟩:=j6 dL;have ap:sc a (crs l w)=sc (b*c) (nP (crs l g)):=by rw[ah,<-FX,<-hc]
 exact(rP ar (λz=>by rcases Tu.mp z with y|y<;>contradiction) (fZ dL) ap).2
def fw.sl{g:aa}{ps:Zd}(aC:aT g)(ae:∀p∈ps,aT p)(h:fw ps):fw (ps.map λp=>nP (sld g p)):=h.map λp q r a b c=>(PV aC.1).side (ae p a).1 (ae q b).1 (ae r c).1
end Cut
namespace L3
open PySem L2
section
variable{K:Sv}{X:aK}{pos p:Pos}{bz:UV}
def kt.rng2{B:aj}(o8:Int)(n:Nat):kt K B (rd o8 n) ((Ta n).map λi:Nat=>D.int (o8+i)):=by
 intro H s i;rw[Sw,Vi];refine⟨λay=>ay,λay=>ay,λx H' ay ⟨ah,ap⟩=>⟨ah,?_⟩⟩;refine⟨.int (o8+i),?_,?_⟩
 ·rw[SX,Vj ay];rfl
 ·rw[ap];exact .int _
def Rg(u dM:a1):cU:=λρ k=>u ρ λd=>dM ρ λbG=>∃i j,d=.int i/\bG=.int j/\(-(2^62)<=i/\i<2^62 /\ -(2^62)<=j/\j<2^62)/\k ((Ta (j-i).toNat).map λt:Nat=>D.int (i+t))
def Rh{a b:UV}{u dM:a1}(ar:bg X a u)(ab:bg X b dM)(aC:eY X "range")(ax:X.mg "range"=none)(al:SZ [a,b] X.env=[(false,Xv a X.env),(false,Xv b X.env)]:=by rfl)(jQ:SZ [b] X.env=[(false,Xv b X.env)]:=by rfl):lX X bz (.Call (.Name "range" p) [a,b] [] pos) (Rg u dM):=by
 obtain⟨_,h1,r1⟩:=ar;obtain⟨_,h2,r2⟩:=ab;refine⟨_,LL aC ax (eh h1 (eh h2 fC (by rw[jQ];rfl)) (by rw[al,jQ])) al jQ,λρ k h R W B H σ Q e q=>?_⟩;refine r1 ρ _ h R W B H σ _ e λd v aZ aq z1 ah aE az=>?_;refine r2 ρ _ z1 R W aZ aq σ _ ah λbG dC br aQ aP ap aI a'=>?_;obtain⟨i,j,rfl,rfl,Ri,z⟩:=aP;exact⟨i,j,by rw[az.intV,a'.intV],Ri,q _ _ br aQ z ap (aE.trans aI) (kt.rng2 _ _)⟩
end
section
variable{P:Uf}{w:Xk}{A:Xq}{E:Tl->TE->Prop}{s:TE}
inductive iW (h:Xx):Zt->Zn->Prop
 |nil:iW h [] []
 |cons {l:Zc} {a:TI} {ks:Zt} {us:Zn} (k:YR (YN P w) h l a) (r:iW h ks us):iW h (l::ks) (.ref a::us)
def jD(P:Uf)(w:Xk)(h:Xx)(ks:Zt)(a:TI):Prop:=∃cG us n,h.get? a=some cG/\cG.cls=.type "tuple"/\cG.data=.seq us n/\iW (P:=P) (w:=w) h ks us.toList
def iW.inj2{h:Xx}{us:Zn}:∀{x y:Zt},iW (P:=P) (w:=w) h x us->iW (P:=P) (w:=w) h y us->x=y:=by
 intro x y p;induction p generalizing y with
 |nil=>intro q;cases q;rfl
 |cons k r cH=>
  intro q;cases q with
  |cons k' dA=>rw[k.inj k',cH dA]
def jD.ty{ks:Zt}{a:TI}(x:jD P w s.heap ks a):s.TypeIs (.ref a) "tuple":=let⟨cG,_,_,h1,h2,_⟩:=x;⟨cG,h1,h2⟩
def jD.inj2{h:Xx}{a:TI}{x y:Zt}(p:jD P w h x a)(q:jD P w h y a):x=y:=by
 obtain⟨jC,dq,cq,cc,_,c1,bo⟩:=p;obtain⟨iU,dM,dL,ci,_,c2,bG⟩:=q;rw[cc]at ci;cases ci;rw[c1]at c2;cases c2;exact bo.inj2 bG
def iW.keep{h h':Xx}{d:TI}{cG:Obj}{es:Array Yi}{a3:Nat}(aA:h.get? d=some cG)(hd:cG.data=.dict es a3)(al:Heap.SameBut d h h'):∀{ks:Zt}{us:Zn},iW (P:=P) (w:=w) h ks us->iW (P:=P) (w:=w) h' ks us
 |_,_,.nil=>.nil
 |_,_,.cons k r=>.cons (k.keeps aA hd al) (iW.keep aA hd al r)
def jD.keep{h h':Xx}{ks:Zt}{a d:TI}{cG:Obj}{es:Array Yi}{a3:Nat}(x:jD P w h ks a)(aA:h.get? d=some cG)(hd:cG.data=.dict es a3)(al:Heap.SameBut d h h'):jD P w h' ks a:=by
 obtain⟨jC,dq,cq,cc,a7,c1,bo⟩:=x;refine⟨jC,dq,cq,?_,a7,c1,bo.keep aA hd al⟩
 have ne:a≠d:=by
  rintro rfl;rw[aA]at cc;cases cc;rw[hd]at c1;cases c1
 exact(al.2 a ne).trans cc
def xJ(ks:Zt):Nat:=(ks.map λl=>l.length+1).sum+1
def Rj{ks:Zt}{a:TI}{Q:Int->TE->Prop}(bn:A.units+3<XA)(ag:jD P w s.heap ks a)(h:Q (oB true ks) {s with toks:=s.toks+xJ ks}):wpAny (T0 P w) A (pyHash (.ref a)) Q E s:=by
 have d0:=ag.ty;obtain⟨cG,us,n,h1,_,aF,bb⟩:=ag;unfold pyHash
 first|unfold pyHashByItsType|skip
 first|refine SB (wpAny_cRoomFor_or (.inr (by lia)) ?_)|skip
 refine SB (XS d0 F.slot_tuple_hash.lookup ?_);show wpAny (T0 P w) A (if(some (Value.builtin "tuple.__hash__")==some Value.none)=true then _ else _) Q E s
 rw[SL (by rw[beq_builtin_none];exact S3)];refine SB (XS d0 F.slot_tuple_hash.lookup ?_);show wpAny (T0 P w) A (callSpecialIfBoundUnlessNone? (.ref a) "__hash__" _ >>= _) Q E s
 refine SB (wpAny_callSpecialIfBoundUnlessNone?_slot d0 F.slot_tuple_hash (Xp F.slot_tuple_hash d0 F.entry_tuple_hash ?_ (F.args_tuple_hash_1 _)));show wpAny (T0 P w) _ (Builtin.Tuple.tupleItemsOf (.ref a) >>= _) _ _ s
 refine SB (X' h1 aF ?_);refine SB ?_;rw[<-Wa]
 refine X1 _
  (λrest (b:Array Int) s'=>∃done left,ks=done++left/\iW (P:=P) (w:=w) s.heap left rest/\b.toList=done.map (λl=>XM (Builtin.Tuple.tupleHashOf (l.map YL)))/\s'={s with toks:=s.toks+(done.map λl=>l.length+1).sum})
  _ ?_ ?_ _ _ ⟨[],ks,rfl,bb,rfl,rfl⟩
 ·rintro x rest b s' ⟨done,left,rfl,am,ab,rfl⟩;cases am with
  | @cons l c jh _ bO r1=>
   have eL:∃m7 Hn,done++l::jh=m7++Hn/\iW (P:=P) (w:=w) s.heap Hn rest/\(b.push (XM (Builtin.Tuple.tupleHashOf (l.map YL)))).toList=m7.map (λl=>XM (Builtin.Tuple.tupleHashOf (l.map YL))) /\
     ({s with toks:=s.toks+(done.map λl=>l.length+1).sum+(l.length+1)}:TE)={s with toks:=s.toks+(m7.map λl=>l.length+1).sum}:=⟨done++[l],jh,by simp,r1,by simp[ab],by simp[Wb]⟩
   refine SB (YJ (s:={s with toks:=s.toks+(done.map λl=>l.length+1).sum}) (by show A.units+_<XA;lia) bO ?_)
   first
    |exact Tk eL
    |exact SB (Tk (Tk eL))
 ·rintro b s' ⟨done,left,rfl,am,ab,rfl⟩;cases am;rw[SP]at h;show wpAny (T0 P w) _ (retInt (Builtin.Tuple.tupleHashOf b.toList)) _ _ _
  rw[ab];refine wpAny_ret_mkInt ?_;generalize hz:Builtin.Tuple.tupleHashOf (done.map λl=>XM (Builtin.Tuple.tupleHashOf (l.map YL)))=z;have ap:oB true done=XM z:=by rw[<-hz];rfl
  rw[ap]at h;show wpAny (T0 P w) _ (if(decide (-(2:Int)^63<=z)&&decide (z<2^63))=true then _ else _) Q E _
  unfold XM at h;by_cases ak:(decide (-(2:Int)^63<=z)&&decide (z<2^63))=true
  ·rw[SC ak];rw[SC ak]at h;exact Tk (by simpa[Wb,xJ]using h)
  ·rw[SL ak];rw[SL ak]at h;exact SB (Yu (Tk (by simpa[Wb,xJ]using h)))
def Rk{x y:Zt}{a b:TI}{R:PySem.Fin->TE->Prop}(bn:A.units+2<XA)(ao:jD P w s.heap x a)(aN:jD P w s.heap y b)(h:R (.done (.ret (.bool (decide (x=y))))) s):
  wpAny (T0 P w) A (YS.«tuple.__eq__» ⟨[.ref a,.ref b],[]⟩) R E s:=by
 have d0:=aN.ty;obtain⟨jC,xs,cq,cc,_,c1,bo⟩:=ao;obtain⟨iU,ys,dL,ci,_,c2,bG⟩:=aN;show wpAny (T0 P w) A (isInstance (.ref b) (.type "tuple") >>= _) _ _ s
 refine SB (XJ d0 XX ?_);simp only[UR,TK,if_false];refine SB (X' cc c1 (SB (X' ci c2 (SB ?_))))
 refine X1 _
  (λrest r s'=>r.1=none/\s'=s/\∃hv fb um uo,rest=List.zip um uo/\iW (P:=P) (w:=w) s.heap hv um/\iW (P:=P) (w:=w) s.heap fb uo/\decide (hv=fb)=decide (x=y)/\(um.length==uo.length)=(xs.size==ys.size))
  _ ?_ ?_ _ _ ⟨rfl,rfl,x,y,xs.toList,ys.toList,rfl,bo,bG,rfl,by simp⟩
 ·rintro⟨u,v⟩ rest r s' ⟨ak,rfl,hv,fb,um,uo,hz,sY,ox,xK,fj⟩;cases sY with
  |nil=>simp at hz
  | @cons bO ahI e2 Rl h1 Rm=>
   cases ox with
   |nil=>simp at hz
   | @cons bV ahJ dD Rn h2 Ro=>
    rw[List.zip_cons_cons,UN,UM]at hz;obtain⟨⟨rfl,rfl⟩,rfl⟩:=hz;refine SB (YK (by lia) h1 h2 ?_);by_cases ag:bO=bV
    ·subst ag;rw[Xl rfl];simp only[UR,TK,if_false];refine Tk ⟨rfl,rfl,e2,dD,Rl,Rn,rfl,Rm,Ro,?_,by simpa using fj⟩;rw[<-xK];by_cases ap:e2=dD<;>simp[ap]
    ·rw[decide_eq_false ag];simp only[Bool.not_false,if_true];have bu:decide (x=y)=false:=by rw[<-xK];simp[ag]
     rw[bu]at h;exact SB (Tk (Tk (Tk h)))
 ·rintro⟨r1,r2⟩ s' ⟨ak,rfl,hv,fb,um,uo,hz,sY,ox,xK,fj⟩;simp only at ak;subst ak;refine Tk ?_
  have Rp:(xs.size==ys.size)=decide (x=y):=by
   rw[<-xK,<-fj];cases sY with
   |nil=>cases ox<;>simp
   |cons _ _=>
    cases ox with
    |nil=>simp
    |cons _ _=>simp at hz
  show R (.done (.ret (.bool (xs.size==ys.size)))) s'
  rw[Rp];exact h
def Rq{x y:Zt}{a b:TI}{Q:Bool->TE->Prop}(bn:A.units+3<XA)(ao:jD P w s.heap x a)(aN:jD P w s.heap y b)(h:Q (decide (x=y)) s):wpAny (T0 P w) A (eqBool (.ref a) (.ref b)) Q E s:=by
 unfold eqBool
 try with_reducible refine Xj ?_
 show wpAny (T0 P w) A (if(Value.ref a==Value.ref b)=true then _ else _) Q E s
 by_cases hy:(Value.ref a==Value.ref b)=true
 ·rw[SC hy];obtain rfl:a=b:=by have:=eq_of_beq hy;injection this
  obtain rfl:=ao.inj2 aN;exact SB (Yu (Tk (by simpa using h)))
 ·rw[SL hy]
  exact SB (wpAny_richCompare_same_room (op:=.Eq) ao.ty aN.ty F.slot_tuple_eq
   (Xp F.slot_tuple_eq ao.ty F.entry_tuple_eq (Rk (by show A.units+_+2<XA;lia) ao aN ⟨_,rfl,(λe=>nomatch e),Xw h⟩) (F.args_tuple_eq_2 _ _)) (by lia))
def Rr(n:Nat){l:Zc}{a:TI}{Q:Bool->TE->Prop}(ag:YR (YN P w) s.heap l a)(h:Q true s):wpAny (T0 P w) A (Y3 (n+1) (.ref a)) Q E s:=by
 have d0:=ag.typeIs;obtain⟨cG,us,m,h1,_,aF,bb⟩:=ag;unfold Y3;refine SB (XS d0 F.slot_tuple_eq.lookup ?_);show wpAny (T0 P w) A (isInstance (.ref a) (.type "tuple") >>= _) _ _ s
 refine SB (XJ d0 XX ?_);simp only[UR,TK,if_false];refine SB (wpAny_seqItems h1 aF (SB ?_));show wpAny (T0 P w) A (forIn us _ _) _ _ s
 rw[<-Wa];refine X1 _ (λrest r s'=>r.1=none/\s'=s/\∀v∈rest,carriedByValue v=true) _ ?_ ?_ _ _ ⟨rfl,rfl,bb.byValue⟩
 ·rintro v rest r s' ⟨ak,rfl,rp⟩;rw[eqIsQuiet_byValue _ (rp v Sx)];refine SB (Tk ?_);simp only[UR,TK,if_false];exact Tk ⟨rfl,rfl,λu r5=>rp u (Sz _ r5)⟩
 ·rintro⟨r1,r2⟩ s' ⟨ak,rfl,_⟩;simp only at ak;subst ak;exact Tk h
def Rs{ks:Zt}{a:TI}{Q:Bool->TE->Prop}(ag:jD P w s.heap ks a)(h:Q true s):wpAny (T0 P w) A (Y3 8 (.ref a)) Q E s:=by
 have d0:=ag.ty;obtain⟨cG,us,m,h1,_,aF,bb⟩:=ag;unfold Y3;refine SB (XS d0 F.slot_tuple_eq.lookup ?_);show wpAny (T0 P w) A (isInstance (.ref a) (.type "tuple") >>= _) _ _ s
 refine SB (XJ d0 XX ?_);simp only[UR,TK,if_false];refine SB (wpAny_seqItems h1 aF (SB ?_));show wpAny (T0 P w) A (forIn us _ _) _ _ s
 rw[<-Wa];refine X1 _ (λrest r s'=>r.1=none/\s'=s/\∃left,iW (P:=P) (w:=w) s.heap left rest) _ ?_ ?_ _ _ ⟨rfl,rfl,ks,bb⟩
 ·rintro v rest r s' ⟨ak,rfl,left,am⟩;cases am with
  | @cons l c jh _ bO r1=>
   refine SB (Rr 6 bO ?_);simp only[UR,TK,if_false];exact Tk ⟨rfl,rfl,jh,r1⟩
 ·rintro⟨r1,r2⟩ s' ⟨ak,rfl,_⟩;simp only at ak;subst ak;exact Tk h
end
def kd(P:Uf)(w:Xk):Bool->HeapKind P w Zt
 |false=>{
  is:=λh k a=>∃l,k=[l]/\YR (YN P w) h l a
  hash:=oB false
  draws:=λk=>(k.headD []).length+1
  room:=λA=>A.units+3<XA
  inj:=by rintro h a x y ⟨l,rfl,p⟩ ⟨m,rfl,q⟩;rw[p.inj q]
  keeps:=λ⟨l,e,p⟩ aA hd al=>⟨l,e,p.keeps aA hd al⟩
  pyHash:=λbn ⟨l,e,p⟩ h=>by subst e;exact YJ (by lia) p h
  eqBool:=λbn ⟨l,e,p⟩ ⟨m,aS,q⟩ h=>by subst e aS;exact YK (by lia) p q (by simpa using h)
  quiet:=λ⟨l,e,p⟩ h=>wpAny_eqIsQuiet_tuple p h}
 |true=>{
  is:=jD P w
  hash:=oB true
  draws:=xJ
  room:=λA=>A.units+3<XA
  inj:=λp q=>p.inj2 q
  keeps:=λp aA hd al=>p.keep aA hd al
  pyHash:=λbn p h=>Rj bn p h
  eqBool:=λbn p q h=>Rq bn p q h
  quiet:=λp h=>Rs p h}
def Rt(P:Uf)(w:Xk)(b:Bool)(k:Zt):(kd P w b).hash k=oB b k:=by cases b<;>rfl
def xL{P:Uf}{w:Xk}{b:Bool}{A:Xq}(h:A.units+4<XA):(kd P w b).room A.in1:=by
 cases b<;>exact(show A.units+1+3<XA by lia)
def bJ{α:Type}:List Zt->List α->Zt->Option α
 |k'::ks,d::ds,k=>if k'=k then some d else bJ ks ds k
 |_,_,_=>none
def fQ{α:Type}:List Zt->List α->Zt->α->List α
 |k'::ks,d::ds,k,x=>(if k'=k then x else d)::fQ ks ds k x
 |_,ds,_,_=>ds
def eV(ks:List Zt)(k:Zt):List Zt:=if k∈ks then ks else ks++[k]
def gI{α:Type}(ks:List Zt)(ds:List α)(k:Zt)(x:α):List α:=if k∈ks then fQ ks ds k x else ds++[x]
def eo:List Zt->Zo->Zn->List (Zt×TI×Tl)
 |k::ks,a::as,u::us=>(k,a,u)::eo ks as us
 |_,_,_=>[]
section
variable{P:Uf}{w:Xk}{b:Bool}
def xM:∀(ks:List Zt)(as:Zo)(us:Zn),kq b ks as us=(eo ks as us).map (YM (kd P w b))
 |k::ks,a::as,u::us=>by
  rw[kq,eo,SG,<-xM ks as us];unfold YM;rw[Rt]
 |[],_,_=>by simp[kq,eo]
 |_::_,[],_=>by simp[kq,eo]
 |_::_,_::_,[]=>by simp[kq,eo]
def xN:∀{ks:List Zt}{as:Zo}{us:Zn},as.length=ks.length->us.length=ks.length->(eo ks as us).map (·.1)=ks
 |[],_,_,_,_=>by simp[eo]
 |k::ks,[],_,h,_=>by simp at h
 |k::ks,_::_,[],_,h=>by simp at h
 |k::ks,a::as,u::us,h1,h2=>by
  rw[eo,SG,xN (by simpa using h1) (by simpa using h2)]
def up:∀{ks:List Zt}{as:Zo}{us:Zn}(k:Zt),as.length=ks.length->us.length=ks.length->(Y4 (eo ks as us) k).map (·.2)=bJ ks us k
 |[],_,_,_,_,_=>by simp[eo,Y4,bJ]
 |k::ks,[],_,_,h,_=>by simp at h
 |k::ks,_::_,[],_,_,h=>by simp at h
 |k'::ks,a::as,u::us,k,h1,h2=>by
  have cH:=up (ks:=ks) (as:=as) (us:=us) k (by simpa using h1) (by simpa using h2);by_cases e:k'=k
  ·simp[eo,Y4,bJ,e]
  ·rw[bJ,SL e,<-cH];simp[eo,Y4,List.find?_cons,e]
def ph{α:Type}:∀{ks:List Zt}{ds:List α}{k:Zt},ds.length=ks.length->(bJ ks ds k=none↔k∉ks)
 |[],_,_,_=>by simp[bJ]
 |k'::ks,[],_,h=>by simp at h
 |k'::ks,d::ds,k,h=>by
  have cH:=ph (ks:=ks) (ds:=ds) (k:=k) (by simpa using h);rw[bJ];by_cases e:k'=k
  ·simp[e]
  ·rw[SL e,cH,SK];constructor
   ·intro z w;rcases w with w|w
    ·exact e w.symm
    ·exact z w
   ·exact λz w=>z (.inr w)
def B5{α:Type}{x:α}:∀(ks:List Zt)(ds:List α)(k:Zt),(fQ ks ds k x).length=ds.length
 |[],_,_=>by simp[fQ]
 |k'::ks,[],_=>by simp[fQ]
 |k'::ks,d::ds,k=>by rw[fQ,SN,B5 ks ds k,SN]
def Ho:∀{ks:List Zt}{as:Zo}{us:Zn}(k:Zt)(u:Tl),(eo ks as us).map (putAt k u)=eo ks as (fQ ks us k u)
 |[],_,_,_,_=>by simp[eo]
 |k::ks,[],_,_,_=>by simp[eo]
 |k::ks,_::_,[],_,_=>by simp[eo,fQ]
 |k'::ks,a::as,v::us,k,u=>by
  rw[eo,SG,Ho k u,fQ,eo];unfold putAt;by_cases e:k'=k
  ·rw[SC e,SC e]
  ·rw[SL e,SL e]
def Hp:∀{ks:List Zt}{as:Zo}{us:Zn}(k:Zt)(a:TI)(u:Tl),as.length=ks.length->us.length=ks.length->eo (ks++[k]) (as++[a]) (us++[u])=eo ks as us++[(k,a,u)]
 |[],[],[],_,_,_,_,_=>rfl
 |[],_::_,_,_,_,_,h,_=>by simp at h
 |[],[],_::_,_,_,_,_,h=>by simp at h
 |k::ks,[],_,_,_,_,h,_=>by simp at h
 |k::ks,_::_,[],_,_,_,_,h=>by simp at h
 |k'::ks,fk::as,eA::us,k,a,u,h1,h2=>by
  rw[To,To,To,eo,Hp k a u (by simpa using h1) (by simpa using h2),eo,To]
def Hq{ks:List Zt}{as:Zo}{us:Zn}(k:Zt)(a:TI)(u:Tl)(h1:as.length=ks.length)(h2:us.length=ks.length):
  storedH (eo ks as us) k a u=eo (eV ks k) (if k∈ks then as else as++[a]) (gI ks us k u):=by
 have g:=up (as:=as) (us:=us) k h1 h2;unfold storedH eV gI;by_cases m:k∈ks
 ·have s:(Y4 (eo ks as us) k).isSome=true:=by
   have z:((Y4 (eo ks as us) k).map (·.2)).isSome=true:=by
    rw[g];cases q:bJ ks us k with
    |none=>exact absurd m ((ph h2).mp q)
    |some x=>rfl
   rwa [WV]at z
  rw[SC s,SC m,SC m,SC m,Ho]
 ·have s:¬(Y4 (eo ks as us) k).isSome=true:=by
   have z:((Y4 (eo ks as us) k).map (·.2)).isSome=false:=by
    rw[g,(ph h2).mpr m];rfl
   rw[WV]at z;rw[z];simp
  rw[SL s,SL m,SL m,SL m,Hp k a u h1 h2]
def m8(H:aj)(b:Bool)(k:Zt)(a:TI):Prop:=match b with
 |false=>∃l:Zc,k=[l]/\H a=some (.tup (l.map V.int))
 |true=>∃as:Zo,H a=some (.tup (as.map V.ref))/\Paired (λ(l:Zc) c=>H c=some (.tup (l.map V.int))) k as
def Hr:∀{l:Zc}{us:Zn},b1 (l.map V.int) us->ItemsAre (YN P w) l us
 |[],_,r=>by rw[TG]at r;cases r;exact .nil
 |i::l,_,r=>by
  rw[SG]at r;cases r with
  |cons h t=>
   obtain⟨t',e⟩:=(show ∃t,_=Value.int i t from h);subst e;exact .cons (by simp[YN,Value.isInt]) (Hr t)
def Hs{H:aj}{h:Xx}{l:Zc}{a:TI}(ok:e4 P w H h)(e:H a=some (.tup (l.map V.int))):YR (YN P w) h l a:=by
 obtain⟨_,its,r,o,h1,h2,n,aF⟩:=(show gy P w H h a (.tup (l.map V.int))from ok a _ e);exact⟨o,its.toArray,n,h1,h2,aF,by simpa using Hr r⟩
def Ht{H:aj}{h:Xx}(ok:e4 P w H h):∀{ks:Zt}{as:Zo}{us:Zn},Paired (λ(l:Zc) c=>H c=some (.tup (l.map V.int))) ks as->b1 (as.map V.ref) us->iW (P:=P) (w:=w) h ks us
 |[],[],_,.nil,r=>by rw[TG]at r;cases r;exact .nil
 |_::_,a::as,_,.cons p q,r=>by
  rw[SG]at r;cases r with
  |cons h t=>
   cases(show _=Value.ref a from h);exact .cons (Hs ok p) (Ht ok q t)
def m8.is{H:aj}{h:Xx}{k:Zt}{a:TI}(x:m8 H b k a)(ok:e4 P w H h):(kd P w b).is h k a:=by
 cases b with
 |false=>
  obtain⟨l,rfl,e⟩:=x;exact⟨l,rfl,Hs ok e⟩
 |true=>
  obtain⟨as,e,p⟩:=x;obtain⟨_,its,r,o,h1,h2,n,aF⟩:=(show gy P w H h a (.tup (as.map V.ref))from ok a _ e);exact⟨o,its.toArray,n,h1,h2,aF,by simpa using Ht ok p r⟩
structure m9 (H:aj) (b:Bool) (a:TI) (a3:Nat) (ks:List Zt) (as:Zo) (vs:Zf):Prop where
 h:H a=some (hx b a a3 ks as vs)
 k:Paired (m8 H b) ks as
def Hu{H:aj}{h:Xx}(ok:e4 P w H h):∀{ks:List Zt}{as:Zo}{us:Zn},Paired (m8 H b) ks as->∀x∈eo ks as us,(kd P w b).is h x.1 x.2.1
 |_,_,[],p,x,m=>by cases p<;>simp[eo]at m
 |[],[],_::_,.nil,x,m=>by simp[eo]at m
 |k::ks,a::as,u::us,.cons p q,x,m=>by
  rw[eo]at m;rcases SK.mp m with e|m
  ·subst e;exact p.is ok
  ·exact Hu ok q x m
def m9.raw{H:aj}{h:Xx}{a:TI}{a3:Nat}{ks:List Zt}{as:Zo}{vs:Zf}(d:m9 H b a a3 ks as vs)(ok:e4 P w H h):
  ks.length<=TT/\as.length=ks.length/\vs.length=ks.length/\(a==Xy)=false/\∃us,b1 vs us/\h.DictOfH (kd P w b) a (eo ks as us)/\ks.Nodup:=by
 obtain⟨⟨h1,h2,aF,bb,us,cX,o,es,fN,mV,iC,uq,B6⟩,_⟩:=(show gy P w H h a (hx b a a3 ks as vs)from ok a _ d.h);have ur:=cX.length;exact⟨h1,h2,aF,bb,us,cX,⟨o,es,a3,fN,mV,iC,by rw[uq,xM (P:=P) (w:=w)],Hu ok d.k,by rw[xN h2 (by lia)];exact B6⟩,B6⟩
def ut:∀{ks:List Zt}{vs:Zf}{us:Zn}(k:Zt),b1 vs us->oi (bJ ks vs k) (bJ ks us k)
 |[],_,_,_,_=>by simp[bJ];trivial
 |_::_,_,_,_,.nil=>by simp[bJ];trivial
 |k'::ks,_,_,k,.cons r t=>by
  rw[bJ,bJ];by_cases e:k'=k
  ·rw[SC e,SC e];exact r
  ·rw[SL e,SL e];exact ut k t
def Hv{v:V}{u:Tl}(r:RelV v u):∀{ks:List Zt}{vs:Zf}{us:Zn}(k:Zt),b1 vs us->b1 (fQ ks vs k v) (fQ ks us k u)
 |[],_,_,_,t=>by simp only[fQ];exact t
 |_::_,_,_,_,.nil=>by simp only[fQ];exact .nil
 |k'::ks,_,_,k,.cons q t=>by
  rw[fQ,fQ];refine .cons ?_ (Hv r k t);by_cases e:k'=k
  ·rw[SC e,SC e];exact r
  ·rw[SL e,SL e];exact q
def Ru{v:V}{u:Tl}(r:RelV v u){ks:List Zt}{vs:Zf}{us:Zn}(k:Zt)(t:b1 vs us):b1 (gI ks vs k v) (gI ks us k u):=by
 unfold gI;by_cases m:k∈ks
 ·rw[SC m,SC m];exact Hv r k t
 ·rw[SL m,SL m];exact Paired.snoc t r
end
def Rv{o:Option V}{u:Option Tl}{d:V}{d':Tl}(r:oi o u)(gH:RelV d d'):RelV (o.getD d) (u.getD d'):=by
 cases o<;>cases u<;>first|exact gH|exact r|exact r.elim
def Rw(b:Bool):fB:=λx y H Q=>∃a c a3 ks as vs k v,x=.ref a/\y=.ref c/\m9 H b a a3 ks as vs/\m8 H b k c/\bJ ks vs k=some v/\Q v H
def Hw(H:aj)(a:TI):Prop:=∃b a3 ks as vs,m9 H b a a3 ks as vs
def Rx(b:Bool):bP:=λ_ H Q=>∀p,H p=none->Q (.ref p) (upd H p (hx b p 0 [] [] []))
def Ry(b:Bool)(pi ty xO:bP):bP:=λσ H Q=>pi σ H λx aq=>∃a,x=.ref a/\Hw aq a/\ty σ aq λy aQ=>xO σ aQ λz cR=>∃c a3 ks as vs k,y=.ref c/\m9 cR b a a3 ks as vs/\m8 cR b k c/\Q ((bJ ks vs k).getD z) cR
def Rz(b:Bool)(pi ty s7:bP):gA:=λD σ H=>s7 σ H λv aq=>pi σ aq λx aQ=>ty σ aQ λy cR=>∃a c a3 ks as vs k,x=.ref a/\y=.ref c/\m9 cR b a a3 ks as vs/\m8 cR b k c/\ks.length<TT /\
 ∀hq,D.nx σ (upd cR a (hx b a hq (eV ks k) (if k∈ks then as else as++[c]) (gI ks vs k v)))
section
variable{X:aK}{b:Bool}{pos eb de b6:Pos}{o e f i value:UV}{pi ty xO s7:bP}
def m9.typ{H:aj}{s:TE}{pins:Zs}{σ:St}{a:TI}{a3:Nat}{ks:List Zt}{as:Zo}{vs:Zf}(I:Inv X pins σ H s)(d:m9 H b a a3 ks as vs):
  s.TypeIs (.ref a) "dict"/\∀c,Value.ref a=.ref c->∃cG,s.heap.get? c=some cG/\cG.dict=none:=by
 obtain⟨_,_,_,_,us,_,ia,_⟩:=d.raw I.hok;refine⟨ia.typeIs,λc q=>?_⟩;cases q;obtain⟨cG,_,_,h1,h2,_⟩:=ia;exact⟨cG,h1,h2.2.1⟩
def RA(bn:X.A.units+4<XA):rm X (Rw b):=by
 intro BZ sl pins s σ H x y v u Q I bc cg h al;obtain⟨a,c,a3,ks,as,vs,k,z,rfl,rfl,d,pj,l,q⟩:=h;cases bc;cases(show u=Value.ref c from cg);obtain⟨h1,h2,aF,bb,us,cX,ia,fN⟩:=d.raw I.hok;have ur:=cX.length;have g:=up (as:=as) (us:=us) k h2 (by lia);obtain⟨eA,r5,iM⟩:=oi.some_of (v:=z) (o:=bJ ks us k) (by rw[<-l];exact ut k cX);rw[r5]at g;obtain⟨p,ae,m4⟩:=Option.map_eq_some_iff.mp g
 exact PyProof.Rows.subscriptTail_builtinR (x:=eA) ia.typeIs PySem.F.slot_dict_getitem.lookup
  (wpAny_getItem_heap (Q:=λr s'=>r=eA/\h4 X pins σ Q r s') (xL bn) (pj.is I.hok) ia ae ⟨m4,by rw[m4];exact⟨z,H,I.tok _,iM,q⟩⟩) al
def RB(bn:X.A.units+4<XA)(aA:b4 X o pi)(aB:b4 X e ty)(bu:b4 X f xO)(gM:W1 o "get" X.env (Xv o X.env)=Xv o X.env:=by rfl)(jl:((Xn b6 (SZ [e,f] X.env)).all (λx => !x.1)&&(XV b6 (XB [] X.env)).all (λx=>x.1.isSome)
   && decide (([e,f]:Zp).length+([]:Zr).length+(if([]:Zr).isEmpty then 0 else 1)<30))=true:=by rfl)(gN:(de.endLine==b6.line)=true:=by rfl)(B7:Xn b6 (SZ [e,f] X.env)=[(false,Xv e X.env),(false,Xv f X.env)]:=by rfl):
  b4 X (.Call (.Attribute o "get" de) [e,f] [] b6) (Ry b pi ty xO):=by
 intro pins s σ H Q I h;refine wpAny_Call_method gM jl gN Wc WW PySem.F.type_dict_get (cm (aA pins s σ H _ I h) λu az ⟨x,aq,be,bc,a,ex,RC,aR⟩=>?_);obtain⟨a7,RD,ks1,as1,lu,d⟩:=RC;subst ex;obtain rfl:u=Value.ref a:=bc;obtain⟨d1,cY⟩:=d.typ be;refine⟨d1,cY,?_⟩;rw[B7]
 refine Calls.callWith_builtin rfl (Calls.evalArgs_plain (Calls.spliced_cons (cm (aB pins az σ aq _ be aR) λiI a' ⟨y,aQ,d3,cg,bK⟩=>
  Calls.spliced_cons (cm (bu pins a' σ aQ _ d3 bK) λRE cn ⟨z,cR,dn,ja,c,a3,ks,as,vs,k,fl,lx,pj,e7⟩=>Calls.spliced_nil ?_))))
 subst fl;obtain rfl:iI=Value.ref c:=cg;obtain⟨h1,h2,aF,bb,us,cX,ia,fN⟩:=lx.raw dn.hok;have ur:=cX.length;refine call_meetsIn WW ia.typeIs PySem.F.entry_dict_get (PySem.F.args_dict_get_3 _ _ _) (meetsH_dict_get_default (kd X.prog X.w b) a c bb RE) ⟨xL bn,k,eo ks as us,pj.is dn.hok,ia,?_⟩;rw[up k h2 (by lia)];exact⟨_,cR,dn.tok _,Rv (ut k cX) ja,e7⟩
def Hx{ks:List Zt}{k:Zt}(h:ks.Nodup):(eV ks k).Nodup:=by
 unfold eV;by_cases m:k∈ks
 ·rw[SC m];exact h
 ·rw[SL m];refine We.mpr ⟨h,by simp,λx ao y aN=>?_⟩;rw[SO.mp aN];rintro rfl;exact m ao
def RF(bn:X.A.units+4<XA)(aA:b4 X o pi)(ay:b4 X i ty)(aL:b4 X value s7)(al:Xi value (some (.Subscript o i eb)) pos.line X.env=pure false:=by rfl):
  jk X (.Assign [.Subscript o i eb] value pos) (Rz b pi ty s7):=by
 intro pins s σ H D I h;refine wpAny_Assign_Subscript (cm (aL pins s σ H _ I h) λr az ⟨v,aq,be,cd,aR⟩=>cm (aA pins az σ aq _ be aR) λu a' ⟨x,aQ,d3,bc,bK⟩=>cm (ay pins a' σ aQ _ d3 bK) λiI cn ⟨y,cR,dn,cg,a,c,RG,ks,as,vs,k,ex,fl,lx,pj,am,e7⟩=>?_) al;subst ex fl;obtain rfl:u=Value.ref a:=bc;obtain rfl:iI=Value.ref c:=cg;obtain⟨h1,h2,aF,bb,us,cX,ia,fN⟩:=lx.raw dn.hok;have ur:=cX.length
 have le:(eo ks as us).length=ks.length:=by
  have:=TW S0 (xN (as:=as) (us:=us) h2 (by lia))
  rwa [Sw]at this
 refine wpAny_setItem_heap (xL bn) (pj.is dn.hok) ia (λh' m7 f'=>?_) (by lia);rw[Hq k c r h2 (by lia)]at m7
 have lk:(eV ks k).length<=TT:=by
  unfold eV;split
  ·exact h1
  ·rw[SH,TA];lia
 have la:(if k∈ks then as else as++[c]).length=(eV ks k).length:=by
  unfold eV;split
  ·exact h2
  ·rw[SH,SH,h2];rfl
 have lv:(gI ks vs k v).length=(eV ks k).length:=by
  unfold eV gI;split
  ·rw[B5];exact aF
  ·rw[SH,SH,aF];rfl
 obtain⟨cG,es,a3,jC,iU,w8,mj,RH,RI⟩:=m7
 have Bc:Inv X pins σ (upd cR a (hx b a a3 (eV ks k) (if k∈ks then as else as++[c]) (gI ks vs k v))) {cn with heap:=h',toks:=cn.toks+(kd X.prog X.w b).draws k}:=by
  refine dn.write (x:=a) (e:=a) (by rw[lx.h];trivial) (.inl rfl) (λc' q ab z=>(f'.2 c' ab).trans z) ⟨cG,jC⟩ ?_;refine⟨⟨lk,la,lv,bb,_,Ru cd k cX,cG,es,jC,iU,w8,?_,Hx fN⟩,⟨cG,jC⟩,?_⟩
  ·rw[mj,xM (P:=X.prog) (w:=X.w)]
  ·rintro aE aI ⟨z1,aP,ew,d7,jp,kA,uu,np,uv,uw⟩ ag;exact⟨z1,aP,ew,d7,jp,kA,uu,np,ag _ uv,uw⟩
 exact⟨σ,_,Bc,e7 a3⟩
def Hy:b4 X (.Dict [] [] pos) (Rx b):=λpins s σ H Q I h=>by
 have f0:Xy<s.heap.objs.size:=Nat.lt_trans (by decide) ((I.mod.glob.keeps I.bk).lt:WP<s.heap.objs.size);refine wpAny_Dict_empty ⟨.ref s.heap.objs.size,_,I.laid (a:=s.heap.objs.size) (o:=hx b s.heap.objs.size 0 [] [] []) (t':=s.toks) (λ_ _ q=>Heap.get?_push_of_some _ q) (Sy _) ?_,rfl,h _ (I.hok.fresh (Sy _))⟩;refine⟨⟨S8 _,rfl,rfl,beq_eq_false_iff_ne.mpr (Tr (Tf f0)),[],.nil,_,#[],Heap.get?_push_size _ rfl,⟨rfl,rfl,rfl⟩,rfl,rfl,List.nodup_nil⟩,⟨_,Heap.get?_push_size _ rfl⟩,?_⟩;rintro aE aI ⟨z1,aP,ew,d7,jp,kA,uu,np,uv,uw⟩ ag;exact⟨z1,aP,ew,d7,jp,kA,uu,np,ag _ uv,uw⟩
end
def nY(h:Xx)(d:TI)(es:Array Yi)(a3:Nat):Prop:=∃o,h.get? d=some o/\o.ExactDict/\o.data=.dict es a3
section
variable{prog:Uf}{w:Xk}{A:Xq}{E:Tl->TE->Prop}{s:TE}{d it:TI}{i a3:Nat}{es:Array Yi}
def RJ{Q:Tl->TE->Prop}(hd:(d==Xy)=false)(ax:nY s.heap d es a3)(hr:Q (.ref s.heap.objs.size) {s with heap:=s.heap.push {cls:=.type "dict_keyiterator",data:=.fields #[.ref d,.int 0 0,.int es.size 0,.int a3 0]} }):wpAny (T0 prog w) A (pyIter (.ref d)) Q E s:=by
 obtain⟨o,aA,hc,aB⟩:=ax;have ty:s.TypeIs (.ref d) "dict":=⟨o,aA,hc.1⟩;have no:¬(d==Xy)=true:=λz=>by rw[hd]at z;cases z
 refine Yj ty F.slot_dict_iter (Xp F.slot_dict_iter ty F.entry_dict_iter ?_ (F.args_dict_iter_1 _));unfold YS.«dict.__iter__» Builtin.Dict.dictSlotNone;refine SB (SB (XY ty (show wpAny _ _ (pure (Value.ref d)) _ _ s from Tk ?_)));show wpAny _ _ (Builtin.Dict.showsAll d >>= _) _ _ s
 unfold Builtin.Dict.showsAll;rw[SL no];refine SB (Tk (SB (XH aA aB (SB (X8 aA aB (SB (WF (Tk ?_))))))));exact⟨_,rfl,"dict_keyiterator",_,⟨_,Heap.get?_push_size _ rfl,rfl⟩,F.slot_dict_keyiterator_next.lookup,by simpa[YT]using hr⟩
def Hz{Q:Option Tl->TE->Prop}(eO:A.handled=none)(hit:s.heap.IsKeyIter it d i es.size a3)(ax:nY s.heap d es a3)(more:∀e h',es[i]?=some e->h'.IsKeyIter it d (i+1) es.size a3->Heap.SameBut it s.heap h'->Q (some e.key) {s with heap:=h' })(done:∀h',es[i]?=none->Heap.ExtBut it s.heap h'->Q none {s with heap:=h' }):wpAny (T0 prog w) A (YG (.ref it)) Q E s:=by
 have ty:=hit.typeIs;obtain⟨RK,ay,B8,ly⟩:=hit;obtain⟨o,aA,hc,aB⟩:=ax;have own:Builtin.Dict_items.ownsTuple "dict_keyiterator"=false:=by decide
 have c0:¬((i:Int)<0):=by lia
 have none_:¬(Value.ref d==Value.none)=true:=S3;unfold YG;refine SB (wpAny_attempt (XR (name:="__next__") ty F.slot_dict_keyiterator_next (Xp F.slot_dict_keyiterator_next ty F.entry_dict_keyiterator_next ?_ (F.args_dict_keyiterator_next_1 _))));refine SB (Tk (SB (SB ?_)))
 first|refine SB (XF ty (Tk (SB (Yy ay ly ?_))))|refine SB (XN ty (Tk (SB (Yy ay ly ?_))))
 rw[own];show wpAny _ _ (if(Value.ref d==Value.none)=true then _ else _) _ _ s
 rw[SL none_];refine SB (Tk (SB (XH aA aB ?_)));rw[SL (by simp)];refine SB (Tk (SB (X8 aA aB ?_)));rw[SL (by simp)];refine Tk ?_;simp only[c0,if_false,WX];cases q:es[i]? with
 |some e=>
  let h1:=s.heap.update it (Obj.mapFields (·.setIfInBounds 1 (YT ((i:Int)+1))))
  have bO:h1.IsKeyIter it d (i+1) es.size a3:=by
   refine⟨_,Heap.get?_update_self _ ay ?_,(Obj.cls_mapFields ..).trans B8,?_⟩
   ·exact Obj.isFreed_of_fields (Obj.data_mapFields ly _)
   ·rw[Obj.data_mapFields ly];simp[YT]
  refine SB ?_
  first|refine SB (XF ty (Tk (SB (XZ ty ?_))))|refine SB (XN ty (Tk (SB (XZ ty ?_))))
  show wpAny _ _ (Zb (.ref it) 1 (YT ((i:Int)+1)) >>= _) _ _ s
  refine SB (Yb ay ly (by simp) (SB (Xj (SB (XZ (s:={s with heap:=h1}) bO.typeIs ?_)))));exact Tk (Tk ⟨_,rfl,Tk (more e h1 q bO (Heap.SameBut.update ..))⟩)
 |none=>
  refine SB ?_
  first|refine SB (XF ty (Tk ?_))|refine SB (XN ty (Tk ?_))
  show wpAny _ _ (Zb (.ref it) 0 .none >>= _) _ _ s
  refine SB (Yb ay ly (by simp) ?_);show wpAny _ _ (newExc (.type "StopIteration") [] >>= _) _ _ _
  unfold newExc newTuple;refine SB (SB (WF (SB (m:=Yc _ _) (wpAny_of_eq (a:=Value.none) (by first|rfl|(unfold Yc;rfl)) (WF ?_ (by size_fits)))) (by size_fits)));unfold raiseNew;refine SB (wpAny_handled ?_);rw[show A.in1.handled=none from eO];refine SB (Tk (wpAny_throw ?_));refine SB (XJ (T:="StopIteration") (b:=true) (by exact⟨_,Heap.get?_push_size _ rfl,rfl⟩) isSubtype_stop ?_);exact Tk (done _ q (((Heap.SameBut.update ..).extBut.push _).push _))
def RL{k v:Tl}{hsh:Int}{Q:Option Tl->TE->Prop}(eO:A.handled=none)(hit:s.heap.IsKeyIter it d i es.size a3)(ax:nY s.heap d es a3)(ao:es[i]?=some ⟨hsh,k,v⟩)(hr:∀h',h'.IsKeyIter it d (i+1) es.size a3->Heap.SameBut it s.heap h'->Q (some k) {s with heap:=h' }):wpAny (T0 prog w) A (YG (.ref it)) Q E s:=
 Hz eO hit ax (λe h' q a b=>by rw[ao]at q;cases q;exact hr h' a b) λh' q _=>by rw[ao]at q;cases q
def RM{Q:Option Tl->TE->Prop}(eO:A.handled=none)(hit:s.heap.IsKeyIter it d i es.size a3)(ax:nY s.heap d es a3)(ao:es.size<=i)(hr:∀h',Heap.ExtBut it s.heap h'->Q none {s with heap:=h' }):wpAny (T0 prog w) A (YG (.ref it)) Q E s:=
 Hz eO hit ax (λe h' q _ _=>by rw[WY ao]at q;cases q) λh' _ eN=>hr h' eN
end
def HA(b:Bool)(a:TI)(a3:Nat)(ks:List Zt)(as:Zo)(vs:Zf):iK where
 go:=λi H=>H a=some (hx b a a3 ks as vs)/\i<ks.length
 yld:=λi H x H'=>H'=H/\∃c,as[i]?=some c/\x=.ref c
 stop:=λi H=>H a=some (hx b a a3 ks as vs)/\ks.length<=i
def HB{b:Bool}:∀{ks:List Zt}{as:Zo}{us:Zn},as.length=ks.length->us.length=ks.length->(kq b ks as us).length=ks.length
 |[],_,_,_,_=>by simp[kq]
 |k::ks,[],_,h,_=>by simp at h
 |k::ks,_::_,[],_,h=>by simp at h
 |k::ks,a::as,u::us,h1,h2=>by rw[kq,SN,SN,HB (by simpa using h1) (by simpa using h2)]
def B9{b:Bool}:∀{ks:List Zt}{as:Zo}{us:Zn}{i:Nat},as.length=ks.length->us.length=ks.length->i<ks.length->∃k c u,as[i]?=some c/\us[i]?=some u/\(kq b ks as us)[i]?=some ⟨oB b k,.ref c,u⟩
 |[],_,_,i,_,_,h=>by simp at h
 |k::ks,[],_,_,h,_,_=>by simp at h
 |k::ks,_::_,[],_,_,h,_=>by simp at h
 |k::ks,a::as,u::us,0,_,_,_=>⟨k,a,u,rfl,rfl,rfl⟩
 |k::ks,a::as,u::us,i+1,h1,h2,aF=>by
  obtain⟨k',c,eA,z1,aP,ew⟩:=B9 (b:=b) (ks:=ks) (as:=as) (us:=us) (i:=i) (by simpa using h1) (by simpa using h2) (by simpa using aF);exact⟨k',c,eA,by simpa using z1,by simpa using aP,by simpa[kq]using ew⟩
section
variable{P:Uf}{w:Xk}{K:Sv}{bz:UV}{b:Bool}{a:TI}{a3:Nat}{ks:List Zt}{as:Zo}{vs:Zf}
def r6{H:aj}{h:Xx}(ok:e4 P w H h)(e:H a=some (hx b a a3 ks as vs)):∃us es,nY h a es a3/\es.toList=kq b ks as us/\as.length=ks.length/\us.length=ks.length/\es.size=ks.length/\b1 vs us/\(a==Xy)=false:=by
 obtain⟨⟨h1,h2,aF,bb,us,cX,o,es,fN,mV,iC,uq,B6⟩,_⟩:=(show gy P w H h a (hx b a a3 ks as vs)from ok a _ e);have ur:=cX.length;exact⟨us,es,⟨o,fN,mV,iC⟩,uq,h2,by lia,by rw[<-U7,uq,HB h2 (by lia)],cX,bb⟩
def RN(it:TI):pX P w K bz (HA b a a3 ks as vs) [it] it (λi h=>h.IsKeyIter it a i ks.length a3) where
 mem:=by simp
 obj:=λi h st c hc=>by
  have e:c=it:=by simpa using hc
  subst e;obtain⟨o,e,_,d⟩:=st;exact⟨o,e,λv z=>by rw[d]at z;cases z⟩
 keep:=λi h h' st k=>st.at λo e=>k it (by simp) o e
 item:=by
  intro X gj hw e8 hc i pins s σ H E I bu st aC;subst gj hw e8;obtain⟨au,ay⟩:=aC;obtain⟨us,es,gH,j1,bj,bt,eG,_⟩:=r6 I.hok au;obtain⟨k,c,u,HC,xP,aB⟩:=B9 (b:=b) bj bt ay;obtain⟨e9,aU,a9,bE,db,d4⟩:=bu it (by simp);refine RL (I.ok.hd hc) (by rw[eG];exact st) gH (hsh:=oB b k) (k:=.ref c) (v:=u) (by rw[<-UY,j1];exact aB) λh' i3 f'=>?_;rw[eG]at i3;have be:Inv X pins σ H {s with heap:=h' }:=I.turned (t':=s.toks) (λc' o ab e=>(f'.2 c' ab).trans e) e9 aU bE db d4;obtain⟨o,e,c2,d⟩:=id i3;exact⟨.ref c,rfl,s1 (s:={s with heap:=h' }) e c2 d (by decide) ⟨.ref c,H,be,rfl,⟨rfl,c,HC,rfl⟩,i3,λb' ab=>(bu b' ab).1⟩⟩
 done:=by
  intro X gj hw e8 hc i pins s σ H E I bu st aC;subst gj hw e8;obtain⟨au,ay⟩:=aC;obtain⟨us,es,gH,j1,bj,bt,eG,_⟩:=r6 I.hok au;obtain⟨e9,aU,a9,bE,db,d4⟩:=bu it (by simp);exact RM (I.ok.hd hc) (by rw[eG];exact st) gH (by lia) λh' eN=>⟨rfl,I.turned (t':=s.toks) (λc' o ab e=>eN c' o ab e) e9 aU bE db d4⟩
 self:=λ_ _ _ _ _ st h=>wpAny_pyIter_keyiter st h
end
def RO(gk:bP):h6:=λσ H R=>gk σ H λx aq=>∃b a a3 ks as vs,x=.ref a/\aq a=some (hx b a a3 ks as vs)/\R (HA b a a3 ks as vs) aq
section
variable{X:aK}{bz:UV}
def RP{l:UV}{gk:bP}(am:b4 X l gk):kk X bz l (RO gk):=by
 intro pins s σ H R I h;refine cm (am pins s σ H _ I h) λv az ⟨x,aq,be,r1,aR⟩=>?_;obtain⟨b,a,a3,ks,as,vs,e,au,q⟩:=aR;subst e;cases r1;obtain⟨us,es,gH,j1,bj,bt,eG,_,al⟩:=r6 be.hok au;refine RJ al gH ?_;refine⟨az.heap.objs.size,[az.heap.objs.size],_,_,aq,rfl,be.kept (t':=az.toks) λb o e=>Heap.get?_push_of_some _ e,RN _,⟨_,Heap.get?_push_size _ rfl,rfl,by rw[eG];rfl⟩,λc hc=>?_,q⟩;have e:c=az.heap.objs.size:=by simpa using hc
 subst e;exact be.fpOk (Sy _) (be.hok.fresh (Sy _))
end
section
variable{K:Sv}{B H:aj}
def B':∀{vs:Zf}{l:Zc},Reps K B vs (l.map D.int)->vs=l.map V.int
 |_,[],r=>by cases r;rfl
 |_,i::l,r=>by
  rw[SG]at r;cases r with
  |cons h t=>rw[h.intV,B' t];rfl
def HD(s:b2 B H):∀{vs:Zf}{k:Zt},Reps K B vs (k.map λks=>.tup (ks.map D.int))->∃as:Zo,vs=as.map V.ref/\Paired (λ(l:Zc) c=>H c=some (.tup (l.map V.int))) k as
 |_,[],r=>by cases r;exact⟨[],rfl,.nil⟩
 |_,l::k,r=>by
  rw[SG]at r;cases r with
  |cons h t=>
   obtain⟨c,us,rfl,hc,rs⟩:=h.tupV;rw[B' rs]at hc;obtain⟨as,rfl,p⟩:=HD s t;exact⟨c::as,rfl,.cons (s _ _ hc) p⟩
def xQ{b:Bool}{k:Zt}{v:V}(r:bA K B v (i8 b k)):∃c,v=.ref c:=by
 unfold i8 at r;split at r
 ·obtain⟨c,_,rfl,_⟩:=r.tupV;exact⟨c,rfl⟩
 ·obtain⟨c,_,rfl,_⟩:=r.tupV;exact⟨c,rfl⟩
def ux{b:Bool}{k:Zt}{c:TI}(s:b2 B H)(ab:b=false->∃l,k=[l])(r:bA K B (.ref c) (i8 b k)):m8 H b k c:=by
 cases b with
 |false=>
  obtain⟨l,rfl⟩:=ab rfl;obtain⟨c',us,e,hc,rs⟩:=(show bA K B (.ref c) (.tup (l.map D.int))from r).tupV;cases e;rw[B' rs]at hc;exact⟨l,rfl,s _ _ hc⟩
 |true=>
  obtain⟨c',us,e,hc,rs⟩:=(show bA K B (.ref c) (.tup (k.map λks=>.tup (ks.map D.int)))from r).tupV;cases e;obtain⟨as,rfl,p⟩:=HD s rs;exact⟨as,s _ _ hc,p⟩
def pk{b:Bool}(s:b2 B H):∀{ks:List Zt}{as:Zo},(b=false->∀k∈ks,∃l,k=[l])->Reps K B (as.map V.ref) (ks.map (i8 b))->Paired (m8 H b) ks as
 |[],[],_,_=>.nil
 |[],_::_,_,r=>by cases r
 |_::_,[],_,r=>by cases r
 |k::ks,a::as,ab,r=>by
  rw[SG,SG]at r;cases r with
  |cons h t=>exact .cons (ux s (λz=>ab z k Sx) h) (pk s (λz k' m=>ab z k' (Sz _ m)) t)
def HE{b:Bool}{z:V}{HF:D}(ja:bA K B z HF)(k:Zt):∀{ks:List Zt}{vs:Zf}{ds:Zh},Reps K B vs ds->bA K B ((bJ ks vs k).getD z) ((bJ ks ds k).getD HF)
 |[],_,_,_=>by simp only[bJ,Vb];exact ja
 |_::_,_,_,.nil=>by simp only[bJ,Vb];exact ja
 |k'::ks,_,_,.cons h t=>by
  rw[bJ,bJ];by_cases e:k'=k
  ·rw[SC e,SC e];exact h
  ·rw[SL e,SL e];exact HE (b:=b) ja k t
def HG{d:D}(k:Zt):∀{ks:List Zt}{vs:Zf}{ds:Zh},Reps K B vs ds->bJ ks ds k=some d->∃v,bJ ks vs k=some v/\bA K B v d
 |[],_,_,_,e=>by simp[bJ]at e
 |_::_,_,_,.nil,e=>by simp[bJ]at e
 |k'::ks,_,_,.cons h t,e=>by
  rw[bJ]at e⊢;by_cases z:k'=k
  ·rw[SC z]at e⊢;cases e;exact⟨_,rfl,h⟩
  ·rw[SL z]at e⊢;exact HG k t e
def HH{v:V}{d:D}(r:bA K B v d)(k:Zt):∀{ks:List Zt}{vs:Zf}{ds:Zh},Reps K B vs ds->Reps K B (fQ ks vs k v) (fQ ks ds k d)
 |[],_,_,t=>by simp only[fQ];exact t
 |_::_,_,_,.nil=>by simp only[fQ];exact .nil
 |k'::ks,_,_,.cons h t=>by
  rw[fQ,fQ];refine .cons ?_ (HH r k t);by_cases e:k'=k
  ·rw[SC e,SC e];exact r
  ·rw[SL e,SL e];exact h
def RR{v:V}{d:D}(r:bA K B v d)(k:Zt){ks:List Zt}{vs:Zf}{ds:Zh}(t:Reps K B vs ds):Reps K B (gI ks vs k v) (gI ks ds k d):=by
 unfold gI;by_cases m:k∈ks
 ·rw[SC m,SC m];exact HH r k t
 ·rw[SL m,SL m];exact t.append (.cons r .nil)
def RS{b:Bool}{c:TI}{k:Zt}{ks:List Zt}{as:Zo}(r:bA K B (.ref c) (i8 b k))(t:Reps K B (as.map V.ref) (ks.map (i8 b))):
  Reps K B ((if k∈ks then as else as++[c]).map V.ref) ((eV ks k).map (i8 b)):=by
 unfold eV;by_cases m:k∈ks
 ·rw[SC m,SC m];exact t
 ·rw[SL m,SL m,SJ,SJ];exact t.append (.cons r .nil)
end
def uy(b:Bool)(k:Zt):Prop:=b=false->∃l,k=[l]
def RT{b:Bool}{k:Zt}{ks:List Zt}(h:b=false->∀k∈ks,∃l,k=[l])(ag:uy b k):b=false->∀k'∈eV ks k,∃l,k'=[l]:=λz k' m=>by
 unfold eV at m;split at m
 ·exact h z k' m
 ·rcases SR.mp m with m|m
  ·exact h z k' m
  ·rw[SO.mp m];exact ag z
def RU(b:Bool)(i:Nat):cB:=λU ρ=>U.nx (ρ.set i (.own (.d b none [] [])))
def RV(b:Bool)(n:Nat)(iX ml:a1):a1:=λρ k=>∃t ks ds,ρ[n]?=some (.own (.d b t ks ds))/\iX ρ λy=>ml ρ λz=>∃aG,y=i8 b aG/\uy b aG/\k ((bJ ks ds aG).getD z)
def RW(b:Bool)(n:Nat)(iX xR:a1):cB:=λU ρ=>xR ρ λd=>∃t ks ds,ρ[n]?=some (.own (.d b t ks ds))/\iX ρ λy=>∃aG,y=i8 b aG/\uy b aG/\ks.length<TT/\U.nx (ρ.set n (.own (.d b t (eV ks aG) (gI ks ds aG d))))
def RX(b:Bool)(l' iX:a1):a1:=λρ k=>l' ρ λx=>iX ρ λy=>∃ks ds aG d,x=.dct b ks ds/\y=i8 b aG/\uy b aG/\bJ ks ds aG=some d/\k d
def RY(u:a1):cU:=λρ k=>u ρ λx=>∃b ks ds,x=.dct b ks ds/\k (ks.map (i8 b))
def RZ(i:Nat)(s:cB):cB:=λU ρ=>∃b t ks ds,ρ[i]?=some (.own (.d b t ks ds))/\s U (ρ.set i (.val (.dct b ks ds)))
section
variable{X:aK}{b:Bool}{n:Nat}{x:Str}{px pos eb de b6 qw:Pos}{o e f i value:UV}{l' iX ml xR:a1}{bz:UV}
def R0{i:Nat}(a4:X.N.Nodup)(ay:X.N[i]?=some x)(ao:Loc X.env.scope x)(al:Xi (.Dict [] [] qw) (some (.Name x eb)) pos.line X.env=pure false:=by rfl)(bu:X.fn x=true\/X.env.scope.names.lookup x=some .local:=by first|exact .inl rfl|exact .inr rfl|assumption):
  fo X (.Assign [.Name x eb] (.Dict [] [] qw) pos) (RU b i):=by
 refine⟨_,oq a4 ay ao (Hy (b:=b)) al bu,λU ρ h R W B H σ D e s=>?_⟩;intro p ae;obtain⟨aU,a9,bE⟩:=e.toWd.fresh ae;exact s.nx _ _ B _ h ((e.allocH ae _).setC i aU bE ⟨0,[],[],(λ_ z=>nomatch z),dZ,.nil,λ_ _ z=>by simp at z,.nil⟩ λj _ m=>e.notNew ae m rfl) (bM.refl _ _)
def HI(n:Nat)(bn:X.A.units+4<XA)(aB:bg X e iX)(bu:bg X f ml)(a4:X.N[n]?=some x:=by rfl)(aL:gz X.env.scope x:=by first|exact SA rfl|exact SI (SA rfl)|exact SI (SI rfl))(hd:(x==("__debug__":Str))=false:=by decide)(dI:(x==("__classdict__":Str))=false:=by decide)(gM:W1 (.Name x px) "get" X.env (Xv (.Name x px) X.env)=Xv (.Name x px) X.env:=by rfl)(jl:((Xn b6 (SZ [e,f] X.env)).all (λx => !x.1)&&(XV b6 (XB [] X.env)).all (λx=>x.1.isSome)
   && decide (([e,f]:Zp).length+([]:Zr).length+(if([]:Zr).isEmpty then 0 else 1)<30))=true:=by rfl)(gN:(de.endLine==b6.line)=true:=by rfl)(B7:Xn b6 (SZ [e,f] X.env)=[(false,Xv e X.env),(false,Xv f X.env)]:=by rfl):
  bg X (.Call (.Attribute (.Name x px) "get" de) [e,f] [] b6) (RV b n iX ml):=by
 obtain⟨_,h1,r1⟩:=aB;obtain⟨_,h2,r2⟩:=bu;refine⟨_,RB (b:=b) bn (h5 a4 aL hd dI) h1 h2 gM jl gN B7,λρ k z R W B H σ Q eZ q=>?_⟩;obtain⟨t,ks,ds,aA,z⟩:=z;obtain⟨a,ah,ap,bw,a3,as,vs,_,cT,eE,jX,nF⟩:=eZ.ownC aA;refine⟨_,ah,a,rfl,⟨b,a3,ks,as,vs,cT,pk eZ.bh jX eE⟩,?_⟩;refine r1 ρ _ z R W B H σ _ eZ λy v aZ aq z1 aU aE az=>?_;refine r2 ρ _ z1 R W aZ aq σ _ aU λdD dC br aQ aP a9 aI a'=>?_;obtain⟨aG,rfl,ag,au⟩:=aP;obtain⟨c,rfl⟩:=xQ az;obtain⟨fk,c1,c2,c3,hq,uz,j0,_,c4,bC,bD,na⟩:=a9.ownC aA;rw[ah]at c1;cases c1;exact⟨c,hq,ks,uz,j0,aG,rfl,⟨c4,pk a9.bh bD bC⟩,ux a9.bh ag (az.mono aI.s),q _ _ br aQ au a9 (aE.trans aI) (HE (b:=b) a' aG na)⟩
def R1(b:Bool)(bn:X.A.units+4<XA)(aA:bg X o l')(aB:bg X e iX)(al:p6 e):bg X (.Subscript o e pos) (RX b l' iX):=by
 obtain⟨_,h1,r1⟩:=aA;obtain⟨_,h2,r2⟩:=aB;refine⟨_,km (RA (b:=b) bn) h1 h2 al,λρ k z R W B H σ Q eZ q=>?_⟩;refine r1 ρ _ z R W B H σ _ eZ λx v aZ aq z1 aU aE az=>?_;refine r2 ρ _ z1 R W aZ aq σ _ aU λy dC br aQ aP a9 aI a'=>?_;obtain⟨ks,ds,aG,d,rfl,rfl,ag,am,au⟩:=aP;obtain⟨c,rfl⟩:=xQ a';cases az.mono aI.s with
 | @dct a _ a3 _ as vs _ ej uA rq fL=>
  obtain⟨v,aL,cd⟩:=HG aG fL am;exact⟨a,c,a3,ks,as,vs,aG,v,rfl,rfl,⟨a9.bh _ _ ej,pk a9.bh rq uA⟩,ux a9.bh ag a',aL,q _ _ br aQ au a9 (aE.trans aI) cd⟩
def HJ(n:Nat)(bn:X.A.units+4<XA)(aB:bg X e iX)(aL:bg X value xR)(a4:X.N[n]?=some x:=by rfl)(R2:gz X.env.scope x:=by first|exact SA rfl|exact SI (SA rfl)|exact SI (SI rfl))(hd:(x==("__debug__":Str))=false:=by decide)(dI:(x==("__classdict__":Str))=false:=by decide)(al:Xi value (some (.Subscript (.Name x px) e eb)) pos.line X.env=pure false:=by rfl):
  fo X (.Assign [.Subscript (.Name x px) e eb] value pos) (RW b n iX xR):=by
 obtain⟨_,h1,r1⟩:=aL;obtain⟨_,h2,r2⟩:=aB;refine⟨_,RF (b:=b) bn (h5 a4 R2 hd dI) h2 h1 al,λU ρ z R W B H σ D eZ du=>?_⟩;refine r1 ρ _ z R W B H σ _ eZ λd v aZ aq z1 aU aE az=>?_;obtain⟨t,ks,ds,aA,z1⟩:=z1;obtain⟨a,ah,ap,bw,_⟩:=aU.ownC aA;refine⟨_,ah,?_⟩;refine r2 ρ _ z1 R W aZ aq σ _ aU λy dC br aQ aP a9 aI a'=>?_;obtain⟨aG,rfl,ag,am,au⟩:=aP;obtain⟨c,rfl⟩:=xQ a';obtain⟨fk,c1,c2,c3,a3,as,vs,hS,c4,bC,bD,na⟩:=a9.ownC aA;rw[ah]at c1;cases c1;refine⟨a,c,a3,ks,as,vs,aG,rfl,rfl,⟨c4,pk a9.bh bD bC⟩,ux a9.bh ag a',am,λhq=>?_⟩;exact du.nx _ _ br _ au (a9.writeC ah aA ⟨hq,_,_,hS,dZ,RS a' bC,RT bD ag,RR (az.mono aI.s) aG na⟩) (aE.trans aI)
def R3{st:Zq}{s:cB}(i:Nat)(h:gs X st s):gs X st (RZ i s):=by
 obtain⟨_,h1,r1⟩:=h;refine⟨_,h1,λU ρ h R W B H σ D e du=>?_⟩;obtain⟨b,t,ks,ds,aA,z⟩:=h;obtain⟨av,aS,g⟩:=e.fzD aA;exact r1 U _ z R W av H σ D aS (du.grow g)
def R4{l:UV}(am:bg X l l'):lX X bz l (RY l'):=by
 obtain⟨_,h1,r1⟩:=am;refine⟨_,RP h1,λρ k h R W B H σ Q e q=>?_⟩;refine r1 ρ _ h R W B H σ _ e λd v aZ aq z1 ah aE az=>?_;obtain⟨b,ks,ds,rfl,z⟩:=z1;cases az with
 | @dct a _ a3 _ as vs _ ej uA rq fL=>
  refine⟨b,a,a3,ks,as,vs,rfl,ah.bh _ _ ej,q _ _ aZ aq z ah aE λH' qx i=>⟨λay=>⟨qx _ _ ej,by simpa using ay⟩,λay=>⟨qx _ _ ej,by simpa using ay⟩,λx aQ ay y=>?_⟩⟩;obtain⟨rfl,c,hc,rfl⟩:=y;obtain⟨d,hd,gH⟩:=uA.getV (i:=i) (v:=.ref c) (by rw[SX,hc];rfl);exact⟨rfl,d,hd,gH⟩
end
def r7{A:Xq}{k:Nat}(ak:e' k A):A.units+4<XA:=WZ (Nat.add_le_add_left (by decide:4<=64) _) ak.units
abbrev uB:=Bool->List Zt->Zh->Zh->(List Zt->Zh->Prop)->Prop
def xS(K:Sv)(n:Nat)(F:uB):hK:=λvs H Q _=>∃(B:aj)(a:TI)(us:Zf)(xs:Zh)(b:Bool)(ks:List Zt)(ds:Zh)(k:List Zt->Zh->Prop),
 vs=.ref a::us/\F b ks ds xs k/\xs.length+1=n/\b2 B H/\B a=none/\k1 K B H a (.d b none ks ds)/\Reps K B us xs /\
 ∀jh ds' av H',k jh ds'->(∀c o,c≠a->H c=some o->H' c=some o)->b2 av H'->b2 B av->(∀c o,av c=some o->B c=some o\/c=a\/H c=none)->av a=none->k1 K av H' a (.d b none jh ds')->Q .non H'
def R5(m n:Nat)(F:uB)(w:cU):cB:=λU ρ=>∃b t ks ds,ρ[m]?=some (.own (.d b t ks ds))/\w ρ λxs=>xs.length+1=n/\F b ks ds xs λjh ds'=>U.nx (ρ.set m (.own (.d b t jh ds')))
section
variable{K:Sv}
def R6{P:Uf}{w:Xk}{mg:Str->Option Tl}{base:Xx}{x:Str}{st:Xm}{N ps:Zm}{lv n:Nat}{F:uB}(qf:cN K mg x st ps)(S:cE N ps (bX st))(aM:ps.length=n)(kl:∀(f:TI) (cdv:Tl) (A:Xq) (outer:List UL) (s:TE) (H:aj) (E:gi),e' lv (A.deeper (Vh x (bX st) s.heap.objs.size f cdv))->∃u,gs (lU ko P w K mg base N x (bX st) f cdv A outer s H E).nox (kn st) u/\∀b t ks ds xs k,xs.length+1=n->F b ks ds xs k->u {nx:=λρ=>∃jh ds',ρ[0]?=some (.own (.d b t jh ds'))/\k jh ds',rt:=λ_=>False} (.own (.d b t ks ds)::xs.map aD.val++SV (N.length-n) .no)):bZ P w K mg base x ps (lv+1) (xS K n F):=by
 refine qf.ok S (λvs H Q E h=>?_) (λf cdv A outer s H vs Q E ak h=>?_)
 ·obtain⟨B,a,us,xs,b,ks,ds,k,rfl,_,am,_,_,_,rs,_⟩:=h;rw[SN,rs.length,am,aM]
 ·obtain⟨B,a,us,xs,b,ks,ds,k,rfl,jb,am,cQ,ab,hc,rs,q⟩:=h;obtain⟨u,⟨t,bv,rt⟩,bn⟩:=kl f cdv A outer s H E ak;obtain⟨a3,as,vs,_,c4,bC,bD,na⟩:=hc;have fj:=rs.length;have Ca:(λc=>if c=a then none else H c:aj) a=none:=SC rfl;have xT:∀c,c≠a->(λc=>if c=a then none else H c:aj) c=H c:=λc z=>SL z;generalize FK:(λc=>if c=a then none else H c:aj)=R at Ca xT;have ahK:(xs.map aD.val).length=us.length:=by rw[Sw];lia
  have R7:(L2.start N (.ref a::us))[0]?=some (some (.ref a)):=rfl
  have atS:∀i v,us[i]?=some v->(L2.start N (.ref a::us))[i+1]?=some (some v):=λi v h=>by
   have lt:i<us.length:=by
    by_cases z:i<us.length
    ·exact z
    ·rw[S9 (by lia)]at h;cases h
   unfold L2.start;rw[Tt (by rw[Sw,SN];lia),SX,W0,h];rfl
  have look:∀(i:Nat)(aG:aD),(aD.own (.d b (some a) ks ds)::xs.map aD.val++SV (N.length-n) aD.no)[i]?=some aG->(i=0/\aG=.own (.d b (some a) ks ds))\/(∃j d,i=j+1/\xs[j]?=some d/\aG=.val d)\/aG=.no:=λi aG h=>by
   cases i with
   |zero=>exact .inl ⟨rfl,(SS h).symm⟩
   |succ j=>
    rw[To,W0]at h;by_cases z:j<(xs.map aD.val).length
    ·rw[Tt z,SX]at h;cases y:xs[j]? with
     |none=>rw[y]at h;cases h
     |some d=>rw[y]at h;exact .inr (.inl ⟨j,d,rfl,y,(SS h).symm⟩)
    ·rw[Tg (by lia),Uj]at h;split at h
     ·exact .inr (.inr (SS h).symm)
     ·cases h
  have eZ:aO K R (λ_=>False) B H (L2.start N (.ref a::us)) (.own (.d b (some a) ks ds)::xs.map aD.val++SV (N.length-n) .no):=by
   refine⟨⟨λc o h _=>?_,cQ,λ_ z=>z.elim,λ_ z=>z.elim,λ_ z=>z.elim⟩,?_,λi aG h=>?_,λi j c bf bL=>?_⟩
   ·by_cases z:c=a
    ·subst z;rw[Ca]at h;cases h
    ·rw[xT c z]at h;exact h
   ·unfold L2.start;simp only[SH,Sw,SN,T9];lia
   ·rcases look i aG h with⟨rfl,rfl⟩|⟨j,d,rfl,hd,rfl⟩|rfl
    ·exact⟨a,by rw[R7];rfl,Ca,ab,a3,as,vs,λc z=>by cases z;rfl,c4,bC,bD,na⟩
    ·obtain⟨v,aL,cd⟩:=rs.get hd;exact⟨v,by rw[atS j v aL];rfl,cd⟩
    ·trivial
   ·have one:∀i,cy (L2.start N (.ref a::us)) (.own (.d b (some a) ks ds)::xs.map aD.val++SV (N.length-n) .no) i c->i=0:=λi m=>by
     rcases m with⟨_,z|⟨_,z⟩⟩|⟨_,z,_⟩
     rotate_right
     ·rcases look i _ z with⟨rfl,y⟩|⟨j,d,rfl,hd,y⟩|y<;>cases y
     ·rcases look i _ z with⟨rfl,y⟩|⟨j,d,rfl,hd,y⟩|y<;>cases y
     ·rcases look i _ z with⟨rfl,y⟩|⟨j,d,rfl,hd,y⟩|y
      ·rfl
      ·cases y
      ·cases y
    rw[one i bf,one j bL]
  refine⟨t,bv,rt _ _ (bn b (some a) ks ds xs k am jb) R (λ_=>False) B H (L2.start N (.ref a::us)) _ eZ ⟨λρ σ av H' h e g=>?_,λ_ _ _ _ h=>h.elim,λ_ _ _ _ h=>h.elim,λ_ _ _ _ h=>h.elim⟩⟩;obtain⟨jh,ds',aA,ag⟩:=h;obtain⟨fk,bo,bG,f5,hq,uz,j0,ix,kF,Cb,Cc,Cd⟩:=e.ownC aA;have dy:a=fk:=ix a rfl;subst dy;refine q jh ds' av H' ag (λc o hc dw=>e.fr c o (by rw[xT c hc];exact dw) λz=>z) e.bh g.s (λc o z=>?_) f5 ⟨hq,uz,j0,(λ_ z=>nomatch z),kF,Cb,Cc,Cd⟩;rcases g.n c o z with y|y
  ·exact .inl y
  ·by_cases aP:c=a
   ·exact .inr (.inl aP)
   ·rw[xT c aP]at y;exact .inr (.inr y)
end
section
variable{X:aK}{m n:Nat}{x:Str}{px p pos xU:Pos}{e:UV}{es:Zp}{F:uB}{w:cU}
def HK{f:Str}{ps:Zm}{j lv:Nat}(m:Nat)(c:bZ X.prog X.w X.K X.mg X.base f ps j (xS X.K n F))(ak:e' lv X.A)(aC:eY X f)(ar:qc X es w)(a4:X.N[m]?=some x:=by rfl)(aL:gz X.env.scope x:=by first|exact SA rfl|exact SI (SA rfl)|exact SI (SI rfl))(hd:(x==("__debug__":Str))=false:=by decide)(dI:(x==("__classdict__":Str))=false:=by decide)(hjk:j<=lv:=by decide)(ht:(f==("__debug__":Str))=false:=by decide)(aB:SZ (.Name x px::es) X.env=(false,Xv (.Name x px) X.env)::SZ es X.env:=by rfl)(fa:(Xn pos (SZ es X.env)).any (·.1)=false:=by rfl)(al:Xi (.Call (.Name f p) (.Name x px::es) [] pos) none xU.line X.env=pure false:=by rfl):
  fo X (.Expr (.Call (.Name f p) (.Name x px::es) [] pos) xU) (R5 m n F w):=by
 obtain⟨_,h1,r1⟩:=ar;refine⟨_,pT (rv c ak aC (eh (h5 a4 aL hd dI) h1 aB) hjk ht aB fa) al,λU ρ h R W B H σ D eZ du=>?_⟩;obtain⟨b,t,ks,ds,aA,h⟩:=h;obtain⟨a,ah,ap,bw,_⟩:=eZ.ownC aA;refine⟨_,ah,?_⟩;refine r1 ρ _ h R W B H σ _ eZ λxs vs aZ aq z1 aU aE az=>?_;obtain⟨r8,z1⟩:=z1;obtain⟨fk,c1,c2,c3,a3,as,us,hS,c4,bC,bD,na⟩:=aU.ownC aA;rw[ah]at c1;cases c1;show xS X.K n F ((.ref a::vs)++[]) aq _ _
 rw[SP];refine⟨aZ,a,vs,xs,b,ks,ds,_,rfl,z1,r8,aU.bh,c3,⟨a3,as,us,(λ_ z=>nomatch z),c4,bC,bD,na⟩,az,λjh ds' av H' ag fr cQ a' k0 R8 R9=>?_⟩;have HL:¬W a:=λz=>aU.wr a z c2;have bR:cy σ ρ m a:=.inl ⟨ah,.inr ⟨_,aA⟩⟩
 have k4:∀c,c≠a->aZ c=none->aq c≠none->av c=none:=λc hc h1 h2=>by
  cases z:av c with
  |none=>rfl
  |some o=>
   rcases k0 c o z with y|y|y
   ·rw[h1]at y;cases y
   ·exact absurd y hc
   ·exact absurd y h2
 have e9:aO X.K R W aZ aq (σ.set m (some .non)) (ρ.set m .no):=aU.set m trivial λ_ _ z=>by rcases z with z|⟨_,z⟩<;>cases z
 have wd:Wd R W av H':=by
  refine⟨λc o h ek=>fr c o (by rintro rfl;rw[c2]at h;cases h) (aU.fr c o h ek),cQ,λc z=>?_,λc z=>?_,aU.wr⟩
  ·obtain⟨bI,dD,r9,_⟩:=aU.wh c z;exact k4 c (by rintro rfl;exact HL z) (aU.wb c z) (by rw[r9];simp)
  ·obtain⟨bI,dD,r9,nI⟩:=aU.wh c z;exact⟨bI,dD,fr c _ (by rintro rfl;exact HL z) r9,nI⟩
 have keep:∀c,c≠a->aq c≠none->H' c=aq c:=λc hc aM=>by
  cases z:aq c with
  |none=>exact absurd z aM
  |some o=>exact fr c o hc z
 have a9:aO X.K R W av H' (σ.set m (some .non)) (ρ.set m .no):=e9.move wd a' λi c g2=>by
  have ne:c≠a:=by
   rintro rfl;obtain⟨k9,g2⟩:=rx g2 (by simp) (by simp) rfl;exact k9 (aU.sep i m c g2 bR)
  obtain⟨bI,dD⟩:=e9.mutOk g2;refine⟨k4 c ne bI dD,λz=>?_,λ_=>keep c ne dD⟩;obtain⟨c',w1,_,_,R'⟩:=e9.bagAt z;rw[qa g2 z]at w1;cases w1;obtain⟨bF,e2,mm,ka⟩:=R';exact⟨bF,e2,by rw[keep c ne dD];exact mm,ka⟩
 obtain⟨hq,uz,jp,_,kF,Cb,Cc,Cd⟩:=R9
 have bE:=a9.setC m (c:=.d b t jh ds') c2 R8 ⟨hq,uz,jp,hS,kF,Cb,Cc,Cd⟩ λj bS g2=>by
  obtain⟨k9,g2⟩:=rx g2 (by simp) (by simp) rfl;exact k9 (aU.sep j m a g2 bR)
 rw[TV,TV]at bE
 have q:σ.set m (some (.ref a))=σ:=by
  apply Un;intro j;by_cases z:m=j
  ·subst z
   have lt:m<σ.length:=by
    by_cases z:m<σ.length
    ·exact z
    ·rw[S9 (by lia)]at ah;cases ah
   rw[Tz lt,ah]
  ·rw[Tx z]
 rw[q]at bE;refine du.nx _ _ av H' ag bE (aE.trans ⟨a',λc o z=>?_⟩);rcases k0 c o z with y|y|y
 ·exact .inl y
 ·subst y;exact .inr c2
 ·exact .inr (aU.toWd.fresh y).1
end
end L3
namespace Cut
open PySem L2 L3
abbrev fR(ps:Zd):D:=.lst (ps.map dP)
def HM{α β:Type}{f:α->β}{L:List α}{i:Int}(h1 : -(L.length:Int)<=i)(h2:i<L.length):∃x∈L,dW (L.map f) i=some (f x):=by
 have e:∃j,L2.ixN (L.map f).length i=some j/\j<L.length:=by
  unfold L2.ixN;rw[Sw];by_cases h0:0<=i
  ·rw[SC h0,SC h2];exact⟨_,rfl,by lia⟩
  ·rw[SL h0,SC h1];exact⟨_,rfl,by lia⟩
 obtain⟨j,e,bS⟩:=e;refine⟨L[j],V5 _,?_⟩;unfold dW;rw[e];simp[bS]
end Cut
namespace Cut
open PySem L2 L3
open PySem.Builtin.Int (intBits)
abbrev HN:=Zu
end Cut
namespace Cut
open PySem L2 L3
def fx(p:aa):List Int:=[p.1,p.2.1,p.2.2]
def kK(l:aa):Int:=(Ti (Ti l.1.natAbs l.2.1.natAbs) l.2.2.natAbs:Nat)
def mn(l:aa):Prop:=l.1<0\/(l.1=0/\l.2.1<0)
instance(l:aa):Decidable (mn l):=by unfold mn;infer_instance
def hj(l:aa):Int:=if mn l then -kK l else kK l
def ie(l:aa):aa:=(l.1/hj l,l.2.1/hj l,l.2.2/hj l)
def HO(l:aa):kK l∣l.1/\kK l∣l.2.1/\kK l∣l.2.2:=by
 unfold kK;refine⟨?_,?_,?_⟩
 ·exact UK.mpr (Vf (U0 _ _) (U0 _ _))
 ·exact UK.mpr (Vf (U0 _ _) (Ve _ _))
 ·exact UK.mpr (Ve _ _)
def uC(l:aa):hj l∣l.1/\hj l∣l.2.1/\hj l∣l.2.2:=by
 obtain⟨a,b,c⟩:=HO l;unfold hj;split
 ·exact⟨UH.mpr a,UH.mpr b,UH.mpr c⟩
 ·exact⟨a,b,c⟩
def Sa(c:Int)(l:aa):kK (sc c l)=c.natAbs*kK l:=by
 unfold kK sc;dsimp only;rw[TU,TU,TU,Vg,Vg,Int.natCast_mul]
def Sb{c:Int}{l:aa}(hc:c≠0)(am:l.1≠0\/l.2.1≠0):hj (sc c l)=c*hj l:=by
 have down:mn (sc c l)↔(if 0<c then mn l else ¬mn l):=by
  unfold mn sc;dsimp only;split
  ·rename_i h
   constructor
   ·rintro(z|⟨z,y⟩)
    ·exact .inl (by
      by_cases q:l.1<0
      ·exact q
      ·have:=Tv (Tn h) (show 0<=l.1 by lia)
       lia)
    ·have z:=(Tu.mp z).resolve_left hc;refine .inr ⟨z,?_⟩;by_cases q:l.2.1<0
     ·exact q
     ·have:=Tv (Tn h) (show 0<=l.2.1 by lia);lia
   ·rintro(z|⟨z,y⟩)
    ·exact .inl (S2 h z)
    ·exact .inr ⟨by rw[z,S1],S2 h y⟩
  ·rename_i h
   have h:c<0:=by lia
   constructor
   ·rintro(z|⟨z,y⟩) (q|⟨q,r⟩)
    ·have:=UB h q;lia
    ·rw[q,S1]at z;lia
    ·have z:=(Tu.mp z).resolve_left hc;lia
    ·have:=UB h r;lia
   ·intro z;have z1:¬l.1<0:=λq=>z (.inl q);by_cases q:l.1=0
    ·refine .inr ⟨by rw[q,S1],Uc h ?_⟩;have aP:¬l.2.1<0:=λr=>z (.inr ⟨q,r⟩);rcases am with w|w
     ·exact absurd q w
     ·lia
    ·exact .inl (Uc h (by lia))
 unfold hj;rw[Sa];by_cases h:0<c
 ·rw[SC h]at down;have e:((c.natAbs:Nat):Int)=c:=by lia
  by_cases d:mn l
  ·rw[SC (down.mpr d),SC d,e,Vq]
  ·rw[SL (λz=>d (down.mp z)),SL d,e]
 ·rw[SL h]at down;have e:((c.natAbs:Nat):Int) = -c:=by lia
  by_cases d:mn l
  ·rw[SL (λz=>down.mp z d),SC d,e,Vq,UJ]
  ·rw[SC (down.mpr d),SL d,e,UJ,Int.neg_neg]
def xV{l:aa}(am:l.1≠0\/l.2.1≠0):hj l≠0:=by
 have g:kK l≠0:=λz=>by
  obtain⟨a,b,_⟩:=HO l;rw[z]at a b;have a:=Int.zero_dvd.mp a;have b:=Int.zero_dvd.mp b;rcases am with h|h<;>contradiction
 unfold hj;split
 ·lia
 ·exact g
def Ce{c x g:Int}(hc:c≠0)(aC:g≠0)(h:g∣x):c*x/(c*g)=x/g:=by
 obtain⟨k,rfl⟩:=h;rw[W2 _ aC,<-Ul,W2 _ (SY hc aC)]
def pl{c:Int}{l:aa}(hc:c≠0)(am:l.1≠0\/l.2.1≠0):ie (sc c l)=ie l:=by
 obtain⟨a,b,d⟩:=uC l;have g:=xV am;unfold ie;rw[Sb hc am];unfold sc;dsimp only;rw[Ce hc g a,Ce hc g b,Ce hc g d]
def eI(p q:aa):aa:=ie (crs p q)
def ep(p q x:aa):List Zc:=[fx (eI p q),fx x]
def gv(φ:Zt->Int)(p q:aa):Rat:=((φ (ep p q p):Int):Rat)-((φ (ep p q q):Int):Rat)
def dk(φ:Zt->Int)(ps:Zd):Rat:=eH (gv φ) (dj ps)
def fG(φ:Zt->Int)(rs:Zu):Rat:=(rs.map (dk φ)).sum
def fS(rs cl:Zu):Prop:=∀φ,fG φ rs=fG φ cl
def Sc{l w:aa}(am:l.1≠0\/l.2.1≠0)(hw:w.1≠0\/w.2.1≠0)(h:crs l w=(0,0,0)):ie l=ie w:=by
 have h1:l.2.1*w.2.2-l.2.2*w.2.1=0:=TW (·.1) h;have h2:l.2.2*w.1-l.1*w.2.2=0:=TW (·.2.1) h;have aF:l.1*w.2.1-l.2.1*w.1=0:=TW (·.2.2) h;by_cases a:l.1=0
 ·have b:l.2.1≠0:=am.resolve_left λz=>z a
  have w1:w.1=0:=by
   rw[a]at aF;have:l.2.1*w.1=0:=by lia
   exact(Tu.mp this).resolve_left b
  have df:w.2.1≠0:=hw.resolve_left λz=>z w1;have e:sc w.2.1 l=sc l.2.1 w:=eS (by show w.2.1*l.1=l.2.1*w.1;rw[a,w1];simp) (by show w.2.1*l.2.1=l.2.1*w.2.1;rw[S4]) (by show w.2.1*l.2.2=l.2.1*w.2.2;grind);rw[<-pl df am,e,pl b hw]
 ·have w1:w.1≠0:=λz=>by
   rw[z]at aF;have:l.1*w.2.1=0:=by lia
   have:=(Tu.mp this).resolve_left a;rcases hw with q|q
   ·exact q z
   ·exact q this
  have e:sc w.1 l=sc l.1 w:=eS (by show w.1*l.1=l.1*w.1;rw[S4]) (by show w.1*l.2.1=l.1*w.2.1;grind) (by show w.1*l.2.2=l.1*w.2.2;grind);rw[<-pl w1 am,e,pl a hw]
def lz{u v:aa}(bn:aT u)(aL:aT v)(h:u≠v):(crs u v).1≠0\/(crs u v).2.1≠0:=by
 by_cases a:(crs u v).1=0
 ·right;intro b;have a:u.2.1*v.2.2-u.2.2*v.2.1=0:=a;have b:u.2.2*v.1-u.1*v.2.2=0:=b;obtain⟨ah,ap,bw⟩:=wf bn aL (by grind) (by grind);exact h (eS ah ap bw)
 ·exact .inl a
def Sd{l u v:aa}(bn:ln l u=0)(aL:ln l v=0):crs l (crs u v)=(0,0,0):=by
 unfold ln at bn aL;refine eS ?_ ?_ ?_<;>simp only[crs]<;>grind
def Se{l u v:aa}(am:l.1≠0\/l.2.1≠0)(bn:aT u)(aL:aT v)(h:u≠v)(tC:ln l u=0)(lv:ln l v=0):eI u v=ie l:=(Sc am (lz bn aL h) (Sd tC lv)).symm
def Sf(u v:aa):crs v u=sc (-1) (crs u v):=by refine eS ?_ ?_ ?_<;>simp only[crs,sc]<;>grind
def HP{u v:aa}(bn:aT u)(aL:aT v):eI v u=eI u v:=by
 by_cases h:u=v
 ·rw[h]
 ·unfold eI;rw[Sf,pl (by decide) (lz bn aL h)]
def Cf{s b:Int}{x w:aa}(al:s≠0)(ab:b≠0)(hw:w.1≠0\/w.2.1≠0)(e:sc s x=sc b w):ie x=ie w:=by
 obtain⟨ah,ap,_⟩:=A' e
 have ao:x.1≠0\/x.2.1≠0:=by
  rcases hw with h|h
  ·left;intro z;rw[z,S1]at ah;exact SY ab h ah.symm
  ·right;intro z;rw[z,S1]at ap;exact SY ab h ap.symm
 rw[<-pl al ao,e,pl ab hw]
def xW{p q m:aa}(ae:aT p)(au:aT q)(h:p≠q)(b:hi p q m):eI p m=eI p q/\eI m q=eI p q:=by
 obtain⟨s,a,c,fX,e1,hS,e⟩:=b;obtain⟨ah,ap,bw⟩:s*m.1=a*p.1+c*q.1/\s*m.2.1=a*p.2.1+c*q.2.1/\s*m.2.2=a*p.2.2+c*q.2.2:=⟨TW (·.1) e,TW (·.2.1) e,TW (·.2.2) e⟩;have w:=lz ae au h;constructor
 ·refine Cf (s:=s) (b:=c) (by lia) (by lia) w ?_;refine eS ?_ ?_ ?_<;>simp only[crs,sc]<;>grind
 ·refine Cf (s:=s) (b:=a) (by lia) (by lia) w ?_;refine eS ?_ ?_ ?_<;>simp only[crs,sc]<;>grind
section
variable(φ:Zt->Int)(l:aa)
def nb(x:aa):Rat:=((φ [fx (ie l),fx x]:Int):Rat)
def ig(p q:aa):Rat:=gv φ p q-(nb φ l p-nb φ l q)
end
def HQ{T1 T2:aa->aa->Rat}:∀(es:List (aa×aa)),eH (λp q=>T1 p q-T2 p q) es=eH T1 es-eH T2 es
 |[]=>by rw[iz,iz,iz];grind
 |e::es=>by rw[hE,hE,hE,HQ es];grind
def xX{T1 T2:aa->aa->Rat}:∀{es:List (aa×aa)},(∀e∈es,T1 e.1 e.2=T2 e.1 e.2)->eH T1 es=eH T2 es
 |[],_=>rfl
 |e::es,h=>by rw[hE,hE,h e Sx,xX λe aB=>h e (Sz _ aB)]
def Sg(h:aa->Rat)(ps:Zd):eH (λp q=>h p-h q) (dj ps)=0:=by
 cases ps with
 |nil=>rfl
 |cons a r=>
  have e:b9 (b9 (0,0,1) (a::r)) (a::r)=b9 (0,0,1) (a::r):=r0 (by simp);unfold dj;rw[Hg,e];grind
def Cg(φ:Zt->Int)(l:aa)(ps:Zd):eH (ig φ l) (dj ps)=dk φ ps:=by
 unfold ig dk;rw[HQ (T1:=gv φ) (T2:=λp q=>nb φ l p-nb φ l q),Sg];grind
def Ch(φ:Zt->Int)(u:aa):gv φ u u=0:=by unfold gv;grind
def xY{φ:Zt->Int}{l u v:aa}(am:l.1≠0\/l.2.1≠0)(bn:aT u)(aL:aT v)(tC:ln l u=0)(lv:ln l v=0):ig φ l u v=0:=by
 by_cases h:u=v
 ·subst h;unfold ig;rw[Ch];grind
 ·unfold ig gv nb ep;rw[Se am bn aL h tC lv];grind
section
variable{l o:aa}{ps:Zd}
def HR(φ:Zt->Int)(am:l.1≠0\/l.2.1≠0)(aA:aT o)(lo:ln l o=0)(aL:∀p∈ps,aT p):dk φ (c9 (ln l) (a0 l) ps)=eH (iV (ln l) (a0 l) (ig φ l)) (dj ps):=by
 have uD:∀p q,aT p->aT q->ln l p*ln l q<0->aT (a0 l p q):=λp q ae au c=>by
  rw[<-kH ae au];exact fZ (kI ae au c)
 have hz:∀u v,aT u->aT v->ln l u=0->ln l v=0->ig φ l u v=0:=λu v bn aL a b=>xY am bn aL a b;unfold c9;split
 ·rw[<-Cg φ l];exact Hd (V:=aT) hz (λp q ae au c=>⟨uD p q ae au c,r3 c⟩) o aA lo aL
 ·rename_i n
  rw[B0 (V:=aT) hz λe aB=>?_]
  ·rfl
  ·obtain⟨h1,h2⟩:=lq aB;have a:¬0<ln l e.1:=λz=>n ⟨_,h1,z⟩;have b:¬0<ln l e.2:=λz=>n ⟨_,h2,z⟩;exact⟨aL _ h1,aL _ h2,by lia,by lia⟩
def HS(φ:Zt->Int)(am:l.1≠0\/l.2.1≠0)(aA:aT o)(lo:ln l o=0)(aL:∀p∈ps,aT p):dk φ (c9 (λc => -ln l c) (a0 l) ps)=eH (iV (λc => -ln l c) (a0 l) (ig φ l)) (dj ps):=by
 have uD:∀p q,aT p->aT q->ln l p*ln l q<0->aT (a0 l p q):=λp q ae au c=>by
  rw[<-kH ae au];exact fZ (kI ae au c)
 have hz:∀u v,aT u->aT v -> -ln l u=0 -> -ln l v=0->ig φ l u v=0:=λu v bn aL a b=>xY am bn aL (by lia) (by lia);unfold c9;split
 ·rw[<-Cg φ l];refine Hd (f:=λc => -ln l c) (V:=aT) hz (λp q ae au c=>?_) o aA (by show -ln l o=0;lia) aL;have c:ln l p*ln l q<0:=by rw[T3]at c;exact c
  exact⟨uD p q ae au c,by show -ln l (a0 l p q)=0;rw[r3 c];rfl⟩
 ·rename_i n
  rw[B0 (f:=λc => -ln l c) (V:=aT) hz λe aB=>?_]
  ·rfl
  ·obtain⟨h1,h2⟩:=lq aB;have a:¬0 < -ln l e.1:=λz=>n ⟨_,h1,z⟩;have b:¬0 < -ln l e.2:=λz=>n ⟨_,h2,z⟩;exact⟨aL _ h1,aL _ h2,by show -ln l e.1<=0;lia,by show -ln l e.2<=0;lia⟩
def Ci{p q:aa}(c:ln l p*ln l q<0):p≠q:=by
 rintro rfl
 have:0<=ln l p*ln l p:=by
  rcases Int.le_total 0 (ln l p)with h|h
  ·exact Tv h h
  ·exact Vo h h
 lia
def Sh{φ:Zt->Int}{p q m:aa}(ae:aT p)(au:aT q)(h:p≠q)(b:hi p q m):ig φ l p m+ig φ l m q=ig φ l p q:=by
 obtain⟨ah,ap⟩:=xW ae au h b;unfold ig gv ep;rw[ah,ap];grind
def xZ(φ:Zt->Int)(am:l.1≠0\/l.2.1≠0)(aA:aT o)(lo:ln l o=0)(aL:∀p∈ps,aT p):dk φ (c9 (ln l) (a0 l) ps)+dk φ (c9 (λc => -ln l c) (a0 l) ps)=dk φ ps:=by
 rw[HR φ am aA lo aL,HS φ am aA lo aL,<-Cg φ l];refine He λe aB=>?_;obtain⟨h1,h2⟩:=lq aB;exact Q' (V:=aT) (λu v bn aL a b=>xY am bn aL a b) (aL _ h1) (aL _ h2) λc=>Sh (aL _ h1) (aL _ h2) (Ci c) (qu c)
end
def kb:Zc->aa
 |[a,b,c]=>(a,b,c)
 |_=>(0,0,0)
def x0(p:aa):kb (fx p)=p:=rfl
def lA(s:Int)(φ:Zt->Int)(l:aa):Zt->Int
 |[k,x]=>if 0<s*ln l (kb x)then φ [k,x]-φ [fx (ie l),x]-(φ [k,fx (nP (crs l (kb k)))]-φ [fx (ie l),fx (nP (crs l (kb k)))])else 0
 |_=>0
def Cj{l p q:aa}(ae:aT p)(au:aT q)(h:p≠q)(aM:(crs l (crs p q)).2.2≠0):nP (crs l (eI p q))=nP (crs l (crs p q)):=by
 have w:=lz ae au h;have g:=xV w;obtain⟨bo,bG,f5⟩:=uC (crs p q)
 have e:crs p q=sc (hj (crs p q)) (eI p q):=by
  unfold eI ie sc;refine eS ?_ ?_ ?_
  ·exact(US bo).symm
  ·exact(US bG).symm
  ·exact(US f5).symm
 have ap:crs l (crs p q)=sc (hj (crs p q)) (crs l (eI p q)):=by
  conv=>lhs;rw[e]
  refine eS ?_ ?_ ?_<;>simp only[crs,sc]<;>grind
 have pt:=fZ aM;obtain⟨c,hS,hc⟩:=j6 aM;exact(rP (M:=crs l (eI p q)) (h:=nP (crs l (crs p q))) g hS pt (by rw[<-ap];exact hc)).2
def HU{l p q:aa}(ae:aT p)(au:aT q)(kJ:ln l p≠0)(lr:ln l q=0):nP (crs l (eI p q))=q/\nP (crs l (eI q p))=q:=by
 have ne:p≠q:=by rintro rfl;exact kJ lr
 have e:crs l (crs p q)=sc (-ln l p) q:=by
  unfold ln at lr⊢;refine eS ?_ ?_ ?_<;>simp only[crs,sc]<;>grind
 have kG:=au.1
 have aM:(crs l (crs p q)).2.2≠0:=by
  rw[e];exact SY (by lia) (by lia)
 have a:nP (crs l (eI p q))=q:=by
  rw[Cj ae au ne aM];exact(rP (M:=crs l (crs p q)) (G:=1) (c :=-ln l p) (by decide) (by lia) au (by rw[e];unfold sc;simp)).2
 exact⟨a,by rw[HP ae au];exact a⟩
def x1(a b:Int):((a-b:Int):Rat)=(a:Rat)-(b:Rat):=by grind
section
variable{l:aa}{φ:Zt->Int}
def x2{s:Int}{k:Zc}{x:aa}(h:0<s*ln l x):((lA s φ l [k,fx x]:Int):Rat)=((φ [k,fx x]:Int):Rat)-nb φ l x-(((φ [k,fx (nP (crs l (kb k)))]:Int):Rat)-nb φ l (nP (crs l (kb k)))):=by
 have e:lA s φ l [k,fx x]=φ [k,fx x]-φ [fx (ie l),fx x]-(φ [k,fx (nP (crs l (kb k)))]-φ [fx (ie l),fx (nP (crs l (kb k)))]):=by
  show(if 0<s*ln l x then _ else _)=_
  rw[SC h]
 rw[e,x1,x1,x1];rfl
def qy{s:Int}{k:Zc}{x:aa}(h:¬0<s*ln l x):((lA s φ l [k,fx x]:Int):Rat)=0:=by
 have e:lA s φ l [k,fx x]=0:=by
  show(if 0<s*ln l x then _ else _)=_
  rw[SL h]
 rw[e];rfl
def HV(am:l.1≠0\/l.2.1≠0){p q:aa}(ae:aT p)(au:aT q){s:Int}(al:s=1\/s = -1):iV (λc=>s*ln l c) (a0 l) (ig φ l) p q=gv (lA s φ l) p q:=by
 have x3:∀a b:Int,(s*a)*(s*b)=a*b:=λa b=>by rcases al with rfl|rfl<;>grind
 unfold iV;dsimp only;rw[x3];have fX:∀x:Int,s*x=0->x=0:=λx h=>by rcases al with rfl|rfl<;>lia
 have key:gv (lA s φ l) p q=((lA s φ l [fx (eI p q),fx p]:Int):Rat)-((lA s φ l [fx (eI p q),fx q]:Int):Rat):=rfl;rw[key];rcases TZ (s*ln l p) 0 with a|a|a
 ·rw[SL (show ¬0<=s*ln l p by lia),qy (show ¬0<s*ln l p by lia)];by_cases b:0<s*ln l q
  ·have c:ln l p*ln l q<0:=by rw[<-x3];exact Uc a b
   have ne:=Ci c;obtain⟨ah,ap⟩:=xW ae au ne (qu c);have em:nP (crs l (kb (fx (eI p q))))=a0 l p q:=by rw[x0,Cj ae au ne (kI ae au c),kH ae au]
   rw[SC c,x2 b,em];unfold ig gv ep;rw[ap];grind
  ·have c:¬ln l p*ln l q<0:=by rw[<-x3];have:=Vo (show s*ln l p<=0 by lia) (show s*ln l q<=0 by lia);lia
   rw[SL c,qy b];grind
 ·have kJ:=fX _ a;have c:¬ln l p*ln l q<0:=by rw[kJ,TY];lia
  rw[SC (show 0<=s*ln l p by lia),qy (show ¬0<s*ln l p by lia),SL c];rcases TZ (s*ln l q) 0 with b|b|b
  ·rw[SL (show ¬0<=s*ln l q by lia),qy (show ¬0<s*ln l q by lia)];grind
  ·rw[SC (show 0<=s*ln l q by lia),qy (show ¬0<s*ln l q by lia),xY am ae au kJ (fX _ b)];grind
  ·have lr:ln l q≠0:=λz=>by rw[z,S1]at b;lia
   have em:nP (crs l (kb (fx (eI p q))))=p:=by rw[x0];exact(HU au ae lr kJ).2
   rw[SC (show 0<=s*ln l q by lia),x2 b,em];unfold ig gv ep;grind
 ·have kJ:ln l p≠0:=λz=>by rw[z,S1]at a;lia
  rw[SC (show 0<=s*ln l p by lia),x2 a];rcases TZ (s*ln l q) 0 with b|b|b
  ·have c:ln l p*ln l q<0:=by rw[<-x3];exact S2 a b
   have ne:=Ci c;obtain⟨ah,ap⟩:=xW ae au ne (qu c);have em:nP (crs l (kb (fx (eI p q))))=a0 l p q:=by rw[x0,Cj ae au ne (kI ae au c),kH ae au]
   rw[SL (show ¬0<=s*ln l q by lia),SC c,qy (show ¬0<s*ln l q by lia),em];unfold ig gv ep;rw[ah];grind
  ·have em:nP (crs l (kb (fx (eI p q))))=q:=by rw[x0];exact(HU ae au kJ (fX _ b)).1
   rw[SC (show 0<=s*ln l q by lia),qy (show ¬0<s*ln l q by lia),em];unfold ig gv ep;grind
  ·rw[SC (show 0<=s*ln l q by lia),x2 b];unfold ig gv ep;grind
def HW{o:aa}{ps:Zd}(am:l.1≠0\/l.2.1≠0)(aA:aT o)(lo:ln l o=0)(aL:∀p∈ps,aT p):dk φ (c9 (ln l) (a0 l) ps)=dk (lA 1 φ l) ps/\dk φ (c9 (λc => -ln l c) (a0 l) ps)=dk (lA (-1) φ l) ps:=by
 rw[HR φ am aA lo aL,HS φ am aA lo aL];constructor
 ·refine xX λe aB=>?_;obtain⟨h1,h2⟩:=lq aB;have:=HV (φ:=φ) am (aL _ h1) (aL _ h2) (s:=1) (.inl rfl);rw[<-this];congr 1;funext c;rw[Wf]
 ·refine xX λe aB=>?_;obtain⟨h1,h2⟩:=lq aB;have:=HV (φ:=φ) am (aL _ h1) (aL _ h2) (s :=-1) (.inr rfl);rw[<-this];congr 1;funext c;rw[Int.neg_one_mul]
end
def fS.keep{l o:aa}{rs cl:Zu}(h:fS rs cl)(am:l.1≠0\/l.2.1≠0)(aA:aT o)(lo:ln l o=0)(ak:∀ps∈rs,∀p∈ps,aT p)(au:∀ps∈cl,∀p∈ps,aT p):
  fS (rs.map (c9 (ln l) (a0 l))) (cl.map (c9 (ln l) (a0 l)))/\fS (rs.map (c9 (λc => -ln l c) (a0 l))) (cl.map (c9 (λc => -ln l c) (a0 l))):=by
 have one:∀(L:Zu) φ,(∀ps∈L,∀p∈ps,aT p)->fG φ (L.map (c9 (ln l) (a0 l)))=fG (lA 1 φ l) L:=λL φ e5=>by
  unfold fG;rw[SU];congr 1;exact TM λps ae=>(HW am aA lo (e5 ps ae)).1
 have two:∀(L:Zu) φ,(∀ps∈L,∀p∈ps,aT p)->fG φ (L.map (c9 (λc => -ln l c) (a0 l)))=fG (lA (-1) φ l) L:=λL φ e5=>by
  unfold fG;rw[SU];congr 1;exact TM λps ae=>(HW am aA lo (e5 ps ae)).2
 exact⟨λφ=>by rw[one rs φ ak,one cl φ au];exact h _,λφ=>by rw[two rs φ ak,two cl φ au];exact h _⟩
def HX(m:aa->aa):∀(z:aa)(L:Zd),c8 (m z) (L.map m)=(c8 z L).map λe=>(m e.1,m e.2)
 |_,[]=>rfl
 |z,p::L=>by
  show(m z,m p)::c8 (m p) (L.map m)=_
  rw[HX m p L];rfl
def HY(m:aa->aa):∀(z:aa)(L:Zd),b9 (m z) (L.map m)=m (b9 z L)
 |_,[]=>rfl
 |z,p::L=>HY m p L
def Ck(m:aa->aa)(ps:Zd):dj (ps.map m)=(dj ps).map λe=>(m e.1,m e.2):=by
 cases ps with
 |nil=>rfl
 |cons a r=>
  unfold dj
  have e:b9 (0,0,1) ((a::r).map m)=m (b9 (0,0,1) (a::r)):=by
   rw[<-HY m (0,0,1) (a::r)];exact r0 (by simp)
  rw[e,HX]
def Si{T:aa->aa->Rat}(m:aa->aa)(es:List (aa×aa)):eH T (es.map λe=>(m e.1,m e.2))=eH (λp q=>T (m p) (m q)) es:=by
 unfold eH;rw[SU];rfl
structure kL (m A:aa->aa):Prop where
 lin:∀c l,A (sc c l)=sc c (A l)
 ne:∀l:aa,(l.1≠0\/l.2.1≠0)->(A l).1≠0\/(A l).2.1≠0
 pt:∀p,aT p->aT (m p)
 ln:∀p q,aT p->aT q->∃g h:Int,g≠0/\h≠0/\sc g (crs (m p) (m q))=sc h (A (crs p q))
def Cm(m A:aa->aa)(φ:Zt->Int):Zt->Int
 |[k,x]=>φ [fx (ie (A (kb k))),fx (m (kb x))]
 |_=>0
def HZ{p q:aa}:crs p q=sc (hj (crs p q)) (eI p q):=by
 obtain⟨bo,bG,f5⟩:=uC (crs p q);unfold eI ie sc;refine eS ?_ ?_ ?_
 ·exact(US bo).symm
 ·exact(US bG).symm
 ·exact(US f5).symm
def Sj{p q:aa}(ae:aT p)(au:aT q)(h:p≠q):(eI p q).1≠0\/(eI p q).2.1≠0:=by
 have w:=lz ae au h;rw[HZ]at w;rcases w with w|w
 ·exact .inl λz=>w (by show _*(eI p q).1=0;rw[z,S1])
 ·exact .inr λz=>w (by show _*(eI p q).2.1=0;rw[z,S1])
def kL.line{m A:aa->aa}(M:kL m A){p q:aa}(ae:aT p)(au:aT q)(h:p≠q):eI (m p) (m q)=ie (A (eI p q)):=by
 obtain⟨g,c,aV,hS,e⟩:=M.ln p q ae au;have w:=lz ae au h;have ah:eI (m p) (m q)=ie (A (crs p q)):=Cf aV hS (M.ne _ w) e;rw[ah]
 conv=>lhs;rw[HZ,M.lin]
 exact pl (xV w) (M.ne _ (Sj ae au h))
def kL.side{m A:aa->aa}(M:kL m A)(φ:Zt->Int){p q:aa}(ae:aT p)(au:aT q):gv φ (m p) (m q)=gv (Cm m A φ) p q:=by
 by_cases h:p=q
 ·subst h;rw[Ch,Ch]
 ·unfold gv ep;rw[M.line ae au h];rfl
def kL.ring{m A:aa->aa}(M:kL m A)(φ:Zt->Int){ps:Zd}(aL:∀p∈ps,aT p):dk φ (ps.map m)=dk (Cm m A φ) ps:=by
 unfold dk;rw[Ck,Si];refine xX λe aB=>?_;obtain⟨h1,h2⟩:=lq aB;exact M.side φ (aL _ h1) (aL _ h2)
def kL.bal{m A:aa->aa}(M:kL m A){rs cl:Zu}(h:fS rs cl)(ak:∀ps∈rs,∀p∈ps,aT p)(au:∀ps∈cl,∀p∈ps,aT p):fS (rs.map λps=>ps.map m) (cl.map λps=>ps.map m):=λφ=>by
 have one:∀(L:Zu),(∀ps∈L,∀p∈ps,aT p)->fG φ (L.map λps=>ps.map m)=fG (Cm m A φ) L:=λL e5=>by
  unfold fG;rw[SU];congr 1;exact TM λps ae=>M.ring φ (e5 ps ae)
 rw[one rs ak,one cl au];exact h _
def slA(v l:aa):aa:=(l.1*v.2.2,l.2.1*v.2.2,l.2.2*v.2.2-l.1*v.1-l.2.1*v.2.1)
def r'(l:aa):aa:=(-l.1,-l.2.1,l.2.2)
def Cn{v:aa}(aL:0<v.2.2):kL (λp=>nP (sld v p)) (slA v):=by
 refine⟨λc l=>?_,λl h=>?_,λp ae=>fZ ?_,λp q ae au=>?_⟩
 ·refine eS ?_ ?_ ?_<;>simp only[slA,sc]<;>grind
 ·rcases h with h|h
  ·exact .inl (SY h (by lia))
  ·exact .inr (SY h (by lia))
 ·have:=ae.1;show p.2.2*v.2.2≠0
  exact SY (by lia) (by lia)
 ·have cq:(sld v p).2.2≠0:=SY (by have:=ae.1;lia) (by lia);have dL:(sld v q).2.2≠0:=SY (by have:=au.1;lia) (by lia);obtain⟨aE,z1,ah⟩:=j6 cq;obtain⟨aI,aP,ap⟩:=j6 dL;refine⟨aE*aI,v.2.2,SY z1 aP,by lia,?_⟩;rw[<-Ba,<-ah,<-ap];refine eS ?_ ?_ ?_<;>simp only[crs,sc,slA,sld]<;>grind
def qz:kL trn r':=by
 refine⟨λc l=>?_,λl h=>?_,λp ae=>AD ae,λp q ae au=>⟨1,1,by decide,by decide,?_⟩⟩
 ·refine eS ?_ ?_ ?_<;>simp only[r',sc]<;>grind
 ·rcases h with h|h
  ·exact .inl (by show -l.1≠0;lia)
  ·exact .inr (by show -l.2.1≠0;lia)
 ·refine eS ?_ ?_ ?_<;>simp only[crs,sc,r',trn]<;>grind
def Co(φ:Zt->Int)(a:aa)(r:Zd):dk φ (r++[a])=dk φ (a::r):=by
 unfold dk;rw[<-BY]
 have e:dj (r++[a])=c8 a (r++[a]):=by
  unfold dj;rw[pc];rfl
 rw[e]
end Cut
namespace Cut
open PySem L2 L3
open PySem.Builtin.Int (intBits)
def Sk{ps:Zd}{i:Nat}(h:i<ps.length):∃p q,p∈ps/\q∈ps/\dW (ps.map dP) ((i:Int)-1)=some (dP p)/\dW (ps.map dP) (i:Int)=some (dP q)/\(p,q)∈dj ps/\(dj ps).take (i+1)=(dj ps).take i++[(p,q)]:=by
 obtain⟨p,mp,ae⟩:=HM (f:=id) (L:=ps) (i:=(i:Int)-1) (by lia) (by lia);obtain⟨q,Cp,au⟩:=HM (f:=id) (L:=ps) (i:=(i:Int)) (by lia) (by lia);rw[List.map_id]at ae au;have ah:bx ps ((i+ps.length-1)%ps.length)=p:=FW (SS ((Gv h).symm.trans (tR ae)));have ap:bx ps i=q:=FW (SS ((m1 h).symm.trans (tR au)));have x4:(dj ps).take (i+1)=(dj ps).take i++[(p,q)]:=by rw[Rc h,ah,ap]
 exact⟨p,q,mp,Cp,tR ae,tR au,Wg (i:=i+1) (by rw[x4];simp),x4⟩
def H0{α:Type}(k:Zt)(x:α):∀{ks:List Zt}{ds:List α}(key:Zt),ds.length=ks.length->bJ (eV ks k) (gI ks ds k x) key=if key=k then some x else bJ ks ds key:=by
 have jo:∀{ks:List Zt}{ds:List α}(key:Zt),ds.length=ks.length->bJ ks (fQ ks ds k x) key=if key=k/\k∈ks then some x else bJ ks ds key:=by
  intro ks;induction ks with
  |nil=>intro ds key h;simp[bJ]
  |cons k' ks cH=>
   intro ds key h;cases ds with
   |nil=>simp at h
   |cons d ds=>
    have cH:=cH (ds:=ds) key (by simpa using h);rw[fQ,bJ,bJ];by_cases e:k'=key
    ·rw[SC e,SC e];by_cases ap:k'=k
     ·rw[SC ap,SC ⟨by rw[<-e,ap],by rw[ap];simp⟩]
     ·rw[SL ap,SL (λz=>ap (e.trans z.1))]
    ·rw[SL e,SL e,cH];by_cases z:key=k/\k∈ks
     ·rw[SC z,SC ⟨z.1,Sz _ z.2⟩]
     ·rw[SL z,SL (λy=>z ⟨y.1,by
       rcases SK.mp y.2 with q|q
       ·exact absurd (q.symm.trans y.1.symm) e
       ·exact q⟩)]
 have uE:∀{ks:List Zt}{ds:List α}(key:Zt),ds.length=ks.length->bJ (ks++[k]) (ds++[x]) key=(bJ ks ds key).or (if k=key then some x else none):=by
  intro ks;induction ks with
  |nil=>
   intro ds key h;cases ds with
   |nil=>simp[bJ]
   |cons d ds=>simp at h
  |cons k' ks cH=>
   intro ds key h;cases ds with
   |nil=>simp at h
   |cons d ds=>
    have cH:=cH (ds:=ds) key (by simpa using h);rw[To,To,bJ,bJ];by_cases e:k'=key
    ·rw[SC e,SC e];rfl
    ·rw[SL e,SL e,cH]
 intro ks ds key h;unfold eV gI;by_cases m:k∈ks
 ·rw[SC m,SC m,jo key h];by_cases e:key=k
  ·rw[SC ⟨e,m⟩,SC e]
  ·rw[SL (λz=>e z.1),SL e]
 ·rw[SL m,SL m,uE key h];by_cases e:key=k
  ·subst e;rw[(ph h).mpr m,SC rfl];rfl
  ·rw[SL e,SL (λz=>e z.symm)];cases bJ ks ds key<;>rfl
def H1{α:Type}{k:Zt}{x:α}{ks:List Zt}{ds:List α}(h:ds.length=ks.length):(gI ks ds k x).length=(eV ks k).length/\(eV ks k).length<=ks.length+1:=by
 unfold eV gI;by_cases m:k∈ks
 ·rw[SC m,SC m,B5];exact⟨h,by lia⟩
 ·rw[SL m,SL m,SH,SH,h];exact⟨rfl,Sy _⟩
def Cq{α β:Type}(f:α->β):∀(ks:List Zt)(ds:List α)(key:Zt),bJ ks (ds.map f) key=(bJ ks ds key).map f
 |[],_,_=>by simp[bJ]
 |_::_,[],_=>by simp[bJ]
 |k'::ks,d::ds,key=>by
  rw[SG,bJ,bJ];by_cases e:k'=key
  ·rw[SC e,SC e];rfl
  ·rw[SL e,SL e,Cq f ks ds key]
def H2{α β:Type}(f:α->β)(k:Zt)(x:α)(ks:List Zt)(ds:List α):(gI ks ds k x).map f=gI ks (ds.map f) k (f x):=by
 have jo:∀(ks:List Zt)(ds:List α),(fQ ks ds k x).map f=fQ ks (ds.map f) k (f x):=by
  intro ks;induction ks with
  |nil=>intro ds;simp[fQ]
  |cons k' ks cH=>
   intro ds;cases ds with
   |nil=>simp[fQ]
   |cons d ds=>
    rw[fQ,SG,cH,SG,fQ];by_cases e:k'=k
    ·rw[SC e,SC e]
    ·rw[SL e,SL e]
 unfold gI;by_cases m:k∈ks
 ·rw[SC m,SC m,jo]
 ·rw[SL m,SL m,SJ];rfl
def uF(key:Zt)(e:aa×aa):Int:=(if key=ep e.1 e.2 e.1 then 1 else 0)-(if key=ep e.1 e.2 e.2 then 1 else 0)
def pp(key:Zt)(es:List (aa×aa)):Int:=(es.map (uF key)).sum
def pq(key:Zt)(rs:Zu):Int:=(rs.map λps=>pp key (dj ps)).sum
def Cr:∀(l:Zc),((l.sum:Int):Rat)=(l.map λx:Int=>(x:Rat)).sum
 |[]=>by simp
 |a::l=>by
  rw[SQ,SG,SQ,<-Cr l];grind
def Sl{rs cl:Zu}(h:fS rs cl)(key:Zt):pq key rs=pq key cl:=by
 have one:∀L:Zu,((pq key L:Int):Rat)=fG (λk=>if key=k then 1 else 0) L:=λL=>by
  unfold pq fG;rw[Cr,SU];congr 1;refine TM λps _=>?_;show((pp key (dj ps):Int):Rat)=_
  unfold pp dk eH;rw[Cr,SU];congr 1;refine TM λe _=>?_;show((uF key e:Int):Rat)=_
  unfold uF gv;rw[x1]
 have:=h (λk=>if key=k then 1 else 0);rw[<-one,<-one]at this;exact_mod_cast this
def nZ(ps:Zd):Prop:=ps.length<=75/\(∀e∈dj ps,(crs e.1 e.2).1≠0\/(crs e.1 e.2).2.1≠0)/\∀p∈ps,cD 4000 p
def H3{g x:Int}{n:Nat}(h:g∣x)(ce:x≠0)(b:wp x<=n):wp g<=n:=by
 refine intBits_le_iff.mpr (WZ ?_ (intBits_le_iff.mp b));exact VU (by lia) (U1.mpr h)
def Sm{l:aa}{n:Nat}(a7:wp l.1<=n)(bd:wp l.2.1<=n)(w:l.1≠0\/l.2.1≠0):wp (hj l)<=n:=by
 obtain⟨bo,bG,_⟩:=uC l;rcases w with h|h
 ·exact H3 bo h a7
 ·exact H3 bG h bd
def H4(ks:List Zt)(vs:Zc)(key:Zt):(bJ ks (vs.map D.int) key).getD (.int 0)=.int ((bJ ks vs key).getD 0):=by
 rw[Cq];cases bJ ks vs key<;>rfl
def jE(p q:aa)(t:Int):aa:=cC (p.1*q.2.2*(3-t)+q.1*p.2.2*t) (p.2.1*q.2.2*(3-t)+q.2.1*p.2.2*t) (p.2.2*q.2.2*3)
def Sn{ps:Zd}{k:Nat}(h:k<ps.length)(h2:2<=ps.length):dW (ps.map dP) ((k:Int)-2)=some (dP (bx ps ((k+ps.length-2)%ps.length))):=by
 by_cases z:2<=k
 ·have e:(k+ps.length-2)%ps.length=k-2:=by
   rw[show k+ps.length-2=(k-2)+ps.length by lia,UP,Tb (by lia)]
  rw[e,show((k:Int)-2)=((k-2:Nat):Int) by lia];exact m1 (by lia)
 ·have e:(k+ps.length-2)%ps.length=k+ps.length-2:=Tb (by lia);rw[e,l9 (by lia)];unfold dW ixN;rw[SL (by lia),SC (by rw[Sw];lia)];show(ps.map dP)[_]?=_
  rw[SX,Sw,show((k:Int)-2+(ps.length:Int)).toNat=k+ps.length-2 by lia,S5 (by lia)];rfl
def H5{x:Int}(h:sg x=1):0<x:=by
 unfold sg at h;split at h
 ·assumption
 ·split at h<;>lia
def fw.turn{ps:Zd}(h:fw ps){k:Nat}(ag:k<ps.length):0<bi (bx ps ((k+ps.length-2)%ps.length)) (bx ps ((k+ps.length-1)%ps.length)) (bx ps k):=by
 have eG:=h.1
 have e:((k+ps.length-2)%ps.length+1)%ps.length=(k+ps.length-1)%ps.length:=by
  rw[Nat.mod_add_mod];congr 1;lia
 have uG:∀d,0<d->d<ps.length->k≠(k+ps.length-d)%ps.length:=λd ix bo z=>by
  by_cases y:d<=k
  ·rw[show k+ps.length-d=(k-d)+ps.length by lia,UP,Tb (by lia)]at z;lia
  ·rw[Tb (by lia)]at z;lia
 have:=h.2 ((k+ps.length-2)%ps.length) k (UA _ (by lia)) ag (uG 2 (by decide) (by lia)) (by rw[e];exact uG 1 (by decide) (by lia));rw[e]at this;exact H5 this
def So(p q r:aa):bi p q r=bi q r p:=by unfold bi crs;grind
def fw.fan{ps:Zd}(h:fw ps){k:Nat}(cr:0<k)(ag:k+1<ps.length):0<bi (bx ps 0) (bx ps k) (bx ps (k+1)):=by
 have:=h.2 k 0 (by lia) (by lia) (by lia) (by rw[Tb ag];lia);rw[Tb ag]at this;rw[So];exact H5 this
def Sp{p s:aa}(ae:aT p)(al:aT s)(kY:Bool):cC ((1-2*(if kY then 1 else 0))*(p.1*s.2.2-s.1*p.2.2)) ((1-2*(if kY then 1 else 0))*(p.2.1*s.2.2-s.2.1*p.2.2)) (p.2.2*s.2.2)=if kY=true then trn (nP (sld (trn s) p))else nP (sld (trn s) p):=by
 have e:sld (trn s) p=(p.1*s.2.2-s.1*p.2.2,p.2.1*s.2.2-s.2.1*p.2.2,p.2.2*s.2.2):=by
  refine eS ?_ ?_ ?_<;>simp only[sld,trn]<;>grind
 have c0:(sld (trn s) p).2.2≠0:=by
  rw[e];exact SY (SD ae.1) (SD al.1)
 cases kY with
 |false=>
  simp only[TK,if_false,S1,Wh,Wf];unfold nP;rw[e]
 |true=>
  simp only[if_true];obtain⟨g,aV,aC⟩:=j6 c0;refine(rP (M:=((1-2*1)*(p.1*s.2.2-s.1*p.2.2),(1-2*1)*(p.2.1*s.2.2-s.2.1*p.2.2),p.2.2*s.2.2)) (h:=trn (nP (sld (trn s) p))) (G:=1) (c:=g) (by decide) aV (AD (fZ c0)) ?_).2;rw[e]at aC⊢;obtain⟨h1,h2,aF⟩:p.1*s.2.2-s.1*p.2.2=g*(nP (p.1*s.2.2-s.1*p.2.2,p.2.1*s.2.2-s.2.1*p.2.2,p.2.2*s.2.2)).1/\p.2.1*s.2.2-s.2.1*p.2.2=g*(nP (p.1*s.2.2-s.1*p.2.2,p.2.1*s.2.2-s.2.1*p.2.2,p.2.2*s.2.2)).2.1/\p.2.2*s.2.2=g*(nP (p.1*s.2.2-s.1*p.2.2,p.2.1*s.2.2-s.2.1*p.2.2,p.2.2*s.2.2)).2.2:=⟨TW (·.1) aC,TW (·.2.1) aC,TW (·.2.2) aC⟩;refine eS ?_ ?_ ?_
  ·show 1*((1-2*1)*(p.1*s.2.2-s.1*p.2.2))=g * -(nP _).1;grind
  ·show 1*((1-2*1)*(p.2.1*s.2.2-s.2.1*p.2.2))=g * -(nP _).2.1;grind
  ·show 1*(p.2.2*s.2.2)=g*(nP _).2.2;grind
def pr(s:Piece):fP s=s.1.map λp=>if s.2.1=true then trn (nP (sld (trn s.2.2) p))else nP (sld (trn s.2.2) p):=by
 unfold fP;by_cases h:s.2.1=true
 ·rw[SC h,SU];refine TM λp _=>?_;rw[SC h];rfl
 ·rw[SL h];refine TM λp _=>?_;rw[SL h]
def H6(a p:aa):bi a p p=0:=by unfold bi crs;grind
def fw.side{ps:Zd}(h:fw ps){p q:aa}(g8:(p,q)∈dj ps):p≠q:=by
 rw[xF]at g8;obtain⟨i,ay,e⟩:=SM.mp g8;have ay:=TQ.mp ay;have t:=h.turn ay;obtain⟨rfl,rfl⟩:=Prod.mk.inj e;intro z;rw[z,H6]at t;lia
def kL.rg{m A:aa->aa}(M:kL m A){ps:Zd}(aL:∀p∈ps,aT p)(aB:∀e∈dj ps,(crs e.1 e.2).1≠0\/(crs e.1 e.2).2.1≠0):∀e∈dj (ps.map m),(crs e.1 e.2).1≠0\/(crs e.1 e.2).2.1≠0:=λe h=>by
 rw[Ck]at h;obtain⟨d,hd,rfl⟩:=SM.mp h;obtain⟨h1,h2⟩:=lq hd;obtain⟨g,c,aV,hS,q⟩:=M.ln d.1 d.2 (aL _ h1) (aL _ h2);obtain⟨aR,bK,_⟩:=A' q;rcases M.ne _ (aB d hd)with w|w
 ·exact .inl λz=>SY hS w (by rw[<-aR];show g*(crs (m d.1) (m d.2)).1=0;rw[show(crs (m d.1) (m d.2)).1=0 from z,S1])
 ·exact .inr λz=>SY hS w (by rw[<-bK];show g*(crs (m d.1) (m d.2)).2.1=0;rw[show(crs (m d.1) (m d.2)).2.1=0 from z,S1])
def H7(s:Piece):(fP s).length=s.1.length:=by rw[pr,Sw]
def x5{α:Type}{f:α->Nat}{m:Nat}:∀{l:List α},(∀x∈l,f x<=m)->(l.map f).sum<=l.length*m
 |[],_=>by simp
 |x::l,h=>by
  rw[SG,SQ,SN];have h1:=h x Sx;have h2:=x5 (l:=l) λy aN=>h y (Sz _ aN);rw[Nat.add_mul,Nat.one_mul];lia
def Sq(a b:Bool):eqD (.bl a) (.bl b)=(a==b):=by
 by_cases h:a=b
 ·subst h;rw[oN];simp
 ·have:eqD (.bl a) (.bl b)=false:=by
   unfold eqD;exact @decide_eq_false _ (Uz _) λz=>h (D.bl.inj z)
  rw[this];cases a<;>cases b<;>first|rfl|exact absurd rfl h
def Sr{ps:Zd}(cv:fw ps)(ae:∀p∈ps,dE 4000 p)(am:ps.length<=75):nZ ps:=⟨am,λe aB=>by
 obtain⟨h1,h2⟩:=lq aB
 exact lz (ae _ h1).pt (ae _ h2).pt (cv.side aB),λp h=>(ae p h).bp⟩
def ef(x:Int×Int):aa:=crs (cC (x.1*1) (0*x.2) (x.2*1)) (cC (x.1*1) (1*x.2) (x.2*1))
def eg(x:Int×Int):aa:=crs (cC (0*x.2) (x.1*1) (1*x.2)) (cC (1*x.2) (x.1*1) (1*x.2))
def lB{x y u v:Int}{m n:Nat}(hk:wp x<=m)(ih:wp y<=m)(jx:wp u<=n)(hl:wp v<=n)(bj:aH x y)(bt:aH u v):cD (m+n) (cC (x*v) (u*y) (y*v)):=
 cD.nP (p:=(x*v,u*y,y*v)) ⟨TD hk hl,by rw[Wi];exact TD jx ih,TD ih hl⟩ (SY (SD bj.1) (SD bt.1))
noncomputable def cL(x:Int×Int)(b:Bool)(sh:Ze):List Piece:=if b then ck (ln (ef x)) (a0 (ef x)) sh else ck (λc => -ln (ef x) c) (a0 (ef x)) sh
noncomputable def cV(x:Int×Int)(b:Bool)(sh:Ze):List Piece:=if b then ck (ln (eg x)) (a0 (eg x)) sh else ck (λc => -ln (eg x) c) (a0 (eg x)) sh
def pu(φ:Zt->Int)(ps:Zd)(rs:Zu):fG φ (ps::rs)=dk φ ps+fG φ rs:=by unfold fG;rw[SG,SQ]
def qA(φ:Zt->Int):∀rs cl:Zu,fG φ (rs++cl)=fG φ rs+fG φ cl
 |[],cl=>by rw[Tc];show _=(0:Rat)+_;grind
 |ps::rs,cl=>by rw[To,pu,pu,qA φ rs cl];grind
def hT(φ:Zt->Int)(ps:Zd):fG φ [ps]=dk φ ps:=by rw[pu];show _+(0:Rat)=_;grind
def uH(φ:Zt->Int)(f:aa->Int)(mt:aa->aa->aa):∀sh:Ze,fG φ ((ck f mt sh).map λs=>s.1)=fG φ (sh.map λs=>c9 f mt s.1)
 |[]=>rfl
 |s::sh=>by
  have cH:=uH φ f mt sh
  have e:ck f mt (s::sh)=ck f mt [s]++ck f mt sh:=by
   unfold ck;rw[<-U4,<-SJ];rfl
  rw[e,SJ,qA,cH,SG,pu];congr 1;cases c:(c9 f mt s.1).isEmpty with
  |true=>
   rw[xD c,W3.mp c];rfl
  |false=>
   rw[xC c];exact hT φ _
section
variable{l o:aa}{sh:Ze}{cl:Zd}
def x6(h:fS (sh.map λs=>s.1) [cl])(am:l.1≠0\/l.2.1≠0)(aA:aT o)(lo:ln l o=0)(ak:∀s∈sh,∀p∈s.1,aT p)(au:∀p∈cl,aT p):
  fS ((ck (ln l) (a0 l) sh).map λs=>s.1) [c9 (ln l) (a0 l) cl]/\fS ((ck (λc => -ln l c) (a0 l) sh).map λs=>s.1) [c9 (λc => -ln l c) (a0 l) cl]:=by
 obtain⟨a,b⟩:=h.keep am aA lo (λps ae=>by
  obtain⟨s,al,rfl⟩:=SM.mp ae
  exact ak s al) (λps ae=>by rw[SO.mp ae];exact au)
 rw[SU]at a b;exact⟨λφ=>by rw[uH];exact a φ,λφ=>by rw[uH];exact b φ⟩
def Su{g:aa}(aC:0<g.2.2)(h:fS (sh.map λs=>s.1) [cl])(ak:∀s∈sh,∀p∈s.1,aT p)(au:∀p∈cl,aT p):fS ((sh.map (eU g)).map λs=>s.1) [cl.map λp=>nP (sld g p)]:=by
 have:=(Cn aC).bal h (λps ae=>by
  obtain⟨s,al,rfl⟩:=SM.mp ae
  exact ak s al) (λps ae=>by rw[SO.mp ae];exact au)
 rw[SU]at this;rw[SU];exact this
end
def aaa{s:Piece}(al:aT s.2.2):∃A,kL (λp=>if s.2.1=true then trn (nP (sld (trn s.2.2) p))else nP (sld (trn s.2.2) p)) A:=by
 have bf:=Cn (v:=trn s.2.2) al.1;by_cases h:s.2.1=true
 ·refine⟨λl=>r' (slA (trn s.2.2) l),⟨λc l=>by rw[bf.lin,qz.lin],λl am=>qz.ne _ (bf.ne l am),λp ae=>by rw[SC h];exact qz.pt _ (bf.pt p ae),λp q ae au=>?_⟩⟩;simp only[SC h];obtain⟨g,c,aV,hS,e⟩:=bf.ln p q ae au;obtain⟨g',c',aab,aac,aS⟩:=qz.ln _ _ (bf.pt p ae) (bf.pt q au);refine⟨g*g',c*c',SY aV aab,SY hS aac,?_⟩
  have ap:sc g (r' (crs (nP (sld (trn s.2.2) p)) (nP (sld (trn s.2.2) q))))=sc c (r' (slA (trn s.2.2) (crs p q))):=by
   rw[<-qz.lin,e,qz.lin]
  have dG:∀(a b:Int)(x:aa),sc (a*b) x=sc a (sc b x):=λa b x=>by refine eS ?_ ?_ ?_<;>simp only[sc]<;>grind
  have aad:∀(a b:Int)(x:aa),sc a (sc b x)=sc b (sc a x):=λa b x=>by refine eS ?_ ?_ ?_<;>simp only[sc]<;>grind
  rw[dG,aS,aad,ap,<-dG,S4 c']
 ·refine⟨slA (trn s.2.2),⟨bf.lin,bf.ne,λp ae=>by rw[SL h];exact bf.pt p ae,λp q ae au=>?_⟩⟩;simp only[SL h];exact bf.ln p q ae au
def aae{l o:aa}{s:Piece}(φ:Zt->Int)(al:aT s.2.2)(am:l.1≠0\/l.2.1≠0)(aA:aT o)(lo:ln l o=0)(aL:∀p∈s.1,aT p):dk φ (fP (c9 (ln l) (a0 l) s.1,s.2))+dk φ (fP (c9 (λc => -ln l c) (a0 l) s.1,s.2))=dk φ (fP s):=by
 obtain⟨A,M⟩:=aaa al
 have uD:∀p q,aT p->aT q->ln l p*ln l q<0->aT (a0 l p q):=λp q ae au c=>by
  rw[<-kH ae au];exact fZ (kI ae au c)
 have kp:∀f:aa->Int,(∀p q,f p*f q<0->ln l p*ln l q<0)->∀p∈c9 f (a0 l) s.1,aT p:=λf bu p ae=>by
  unfold c9 at ae;split at ae
  ·rcases qv ae with⟨h,_⟩|⟨a,ar,b,ab,c,e⟩
   ·exact aL p h
   ·rw[e];exact uD a b (aL a ar) (aL b ab) (bu a b c)
  ·cases ae
 have ah:=M.ring φ (kp (ln l) λp q h=>h);have ap:=M.ring φ (kp (λc => -ln l c) λp q h=>by rw[T3]at h;exact h);have bw:=M.ring φ aL;rw[pr,pr,pr,ah,ap,bw];exact xZ _ am aA lo aL
def aaf{g p q:aa}(aC:aT g)(ae:aT p)(au:aT q):nP (sld (trn (nP (sld g q))) (nP (sld g p)))=nP (sld (trn q) p):=by
 have jW:∀{a b:aa},aT a->aT b->(sld a b).2.2≠0:=λar ab=>SY (SD ab.1) (SD ar.1);obtain⟨lC,e1,dy⟩:=j6 (jW aC ae);obtain⟨iD,b0,eN⟩:=j6 (jW aC au);obtain⟨nc,h0,sb⟩:=j6 (jW au.trn ae);have eO:aT (nP (sld (trn q) p)):=fZ (jW au.trn ae);obtain⟨cc,ci,iY⟩:(sld g p).1=lC*(nP (sld g p)).1/\(sld g p).2.1=lC*(nP (sld g p)).2.1/\(sld g p).2.2=lC*(nP (sld g p)).2.2:=⟨TW (·.1) dy,TW (·.2.1) dy,TW (·.2.2) dy⟩;obtain⟨a7,bd,eR⟩:(sld g q).1=iD*(nP (sld g q)).1/\(sld g q).2.1=iD*(nP (sld g q)).2.1/\(sld g q).2.2=iD*(nP (sld g q)).2.2:=⟨TW (·.1) eN,TW (·.2.1) eN,TW (·.2.2) eN⟩;obtain⟨h1,h2,aF⟩:(sld (trn q) p).1=nc*(nP (sld (trn q) p)).1/\(sld (trn q) p).2.1=nc*(nP (sld (trn q) p)).2.1/\(sld (trn q) p).2.2=nc*(nP (sld (trn q) p)).2.2:=⟨TW (·.1) sb,TW (·.2.1) sb,TW (·.2.2) sb⟩;generalize nP (sld g p)=a at *;generalize nP (sld g q)=b at *;generalize nP (sld (trn q) p)=h at *;simp only[sld,trn]at cc ci iY a7 bd eR h1 h2 aF;refine(rP (M:=sld (trn b) a) (h:=h) (G:=lC*iD) (c:=g.2.2*g.2.2*nc) (SY e1 b0) (SY (SY (SD aC.1) (SD aC.1)) h0) eO ?_).2;refine eS ?_ ?_ ?_<;>simp only[sc,sld,trn]
 ·have:lC*iD*(a.1*b.2.2 + -b.1*a.2.2)=(lC*a.1)*(iD*b.2.2)-(iD*b.1)*(lC*a.2.2):=by grind
  rw[this,<-cc,<-eR,<-a7,<-iY];have:g.2.2*g.2.2*nc*h.1=g.2.2*g.2.2*(nc*h.1):=by grind
  rw[this,<-h1];grind
 ·have:lC*iD*(a.2.1*b.2.2 + -b.2.1*a.2.2)=(lC*a.2.1)*(iD*b.2.2)-(iD*b.2.1)*(lC*a.2.2):=by grind
  rw[this,<-ci,<-eR,<-bd,<-iY];have:g.2.2*g.2.2*nc*h.2.1=g.2.2*g.2.2*(nc*h.2.1):=by grind
  rw[this,<-h2];grind
 ·have:lC*iD*(a.2.2*b.2.2)=(lC*a.2.2)*(iD*b.2.2):=by grind
  rw[this,<-iY,<-eR];have:g.2.2*g.2.2*nc*h.2.2=g.2.2*g.2.2*(nc*h.2.2):=by grind
  rw[this,<-aF];grind
def aag{g:aa}{s:Piece}(aC:aT g)(al:aT s.2.2)(aL:∀p∈s.1,aT p):fP (eU g s)=fP s:=by
 rw[pr,pr];unfold eU;dsimp only;rw[SU];refine TM λp ae=>?_;show(if s.2.1=true then trn (nP (sld (trn (nP (sld g s.2.2))) (nP (sld g p))))else nP (sld (trn (nP (sld g s.2.2))) (nP (sld g p))))=_
 rw[aaf aC (aL p ae) al]
def dv(φ:Zt->Int)(b:Bool)(L:Ze):Rat:=fG φ ((L.filter λs=>s.2.1==b).map fP)
def qB(φ:Zt->Int)(b:Bool)(L M:Ze):dv φ b (L++M)=dv φ b L+dv φ b M:=by unfold dv;rw[U4,SJ,qA]
def H8(φ:Zt->Int)(b:Bool):dv φ b []=0:=rfl
def x7(φ:Zt->Int)(b:Bool)(s:Piece):dv φ b [s]=if s.2.1==b then dk φ (fP s)else 0:=by
 unfold dv;by_cases h:(s.2.1==b)=true
 ·rw[SC h,WT (by exact h)];exact hT φ _
 ·rw[SL h,WU (by exact h)];rfl
def Cs(φ:Zt->Int)(b:Bool)(s:Piece)(L:Ze):dv φ b (s::L)=dv φ b [s]+dv φ b L:=by rw[<-qB];rfl
def uI(φ:Zt->Int)(b:Bool){g:aa}(aC:aT g):∀{L:Ze},(∀s∈L,aT s.2.2/\∀p∈s.1,aT p)->dv φ b (L.map (eU g))=dv φ b L
 |[],_=>rfl
 |s::L,h=>by
  obtain⟨h1,h2⟩:=h s Sx;rw[SG,Cs,Cs φ b s,uI φ b aC λt bv=>h t (Sz _ bv),x7,x7,aag aC h1 h2];rfl
def x8(φ:Zt->Int)(b:Bool){l o:aa}(am:l.1≠0\/l.2.1≠0)(aA:aT o)(lo:ln l o=0):∀{L:Ze},(∀s∈L,aT s.2.2/\∀p∈s.1,aT p)->dv φ b (ck (ln l) (a0 l) L)+dv φ b (ck (λc => -ln l c) (a0 l) L)=dv φ b L
 |[],_=>by show dv φ b []+dv φ b []=_;rw[H8];grind
 |s::L,h=>by
  obtain⟨h1,h2⟩:=h s Sx;have cH:=x8 φ b am aA lo λt bv=>h t (Sz _ bv);have e:∀f:aa->Int,ck f (a0 l) (s::L)=ck f (a0 l) [s]++ck f (a0 l) L:=λf=>uk (f:=f) [s] L
  have one:∀f:aa->Int,dv φ b (ck f (a0 l) [s])=if s.2.1==b then dk φ (fP (c9 f (a0 l) s.1,s.2))else 0:=λf=>by
   cases c:(c9 f (a0 l) s.1).isEmpty with
   |true=>
    rw[xD c,H8,W3.mp c,pr];split
    ·rfl
    ·rfl
   |false=>rw[xC c,x7]
  have fs:=aae φ h1 am aA lo h2;rw[e,e,qB,qB,one,one,Cs,x7,<-cH];by_cases c:(s.2.1==b)=true
  ·rw[SC c,SC c,SC c,<-fs];grind
  ·rw[SL c,SL c,SL c];grind
def uJ{x:Int×Int}(l:aH x.1 x.2):((ef x).1≠0\/(ef x).2.1≠0)/\aT (cC (x.1*1) (0*x.2) (x.2*1))/\ln (ef x) (cC (x.1*1) (0*x.2) (x.2*1))=0:=by
 have c0:x.2*1≠0:=by have:=l.1;lia
 have cW:aT (cC (x.1*1) (0*x.2) (x.2*1)):=fZ (p:=(x.1*1,0*x.2,x.2*1)) c0;have cS:aT (cC (x.1*1) (1*x.2) (x.2*1)):=fZ (p:=(x.1*1,1*x.2,x.2*1)) c0
 have ne:cC (x.1*1) (0*x.2) (x.2*1)≠cC (x.1*1) (1*x.2) (x.2*1):=λz=>by
  obtain⟨_,ah,ap,_⟩:=ju (a:=x.1*1) (b:=0*x.2) c0;obtain⟨q,aU,a9,_⟩:=ju (a:=x.1*1) (b:=1*x.2) c0;rw[z,a9]at ap;have gu:=q.1;have pv:=l.1;have:1*x.2*(cC (x.1*1) (1*x.2) (x.2*1)).2.2=0:=by rw[ap];simp
  have:=SF (show 0<1*x.2 by lia) gu;lia
 refine⟨lz cW cS ne,cW,?_⟩;unfold ef ln crs;grind
def uK{x:Int×Int}(l:aH x.1 x.2):((eg x).1≠0\/(eg x).2.1≠0)/\aT (cC (0*x.2) (x.1*1) (1*x.2))/\ln (eg x) (cC (0*x.2) (x.1*1) (1*x.2))=0:=by
 have c0:1*x.2≠0:=by have:=l.1;lia
 have cW:aT (cC (0*x.2) (x.1*1) (1*x.2)):=fZ (p:=(0*x.2,x.1*1,1*x.2)) c0;have cS:aT (cC (1*x.2) (x.1*1) (1*x.2)):=fZ (p:=(1*x.2,x.1*1,1*x.2)) c0
 have ne:cC (0*x.2) (x.1*1) (1*x.2)≠cC (1*x.2) (x.1*1) (1*x.2):=λz=>by
  obtain⟨_,ah,ap,_⟩:=ju (a:=0*x.2) (b:=x.1*1) c0;obtain⟨q,aU,a9,_⟩:=ju (a:=1*x.2) (b:=x.1*1) c0;rw[z,aU]at ah;have gu:=q.1;have pv:=l.1;have:1*x.2*(cC (1*x.2) (x.1*1) (1*x.2)).2.2=0:=by rw[ah];simp
  have:=SF (show 0<1*x.2 by lia) gu;lia
 refine⟨lz cW cS ne,cW,?_⟩;unfold eg ln crs;grind
def H9(φ:Zt->Int)(b c:Bool){x:Int×Int}(l:aH x.1 x.2){L:Ze}(h:∀s∈L,aT s.2.2/\∀p∈s.1,aT p):dv φ b (cL x c L)+dv φ b (cL x (!c) L)=dv φ b L:=by
 obtain⟨dq,dM,hF⟩:=uJ l;have:=x8 φ b dq dM hF h;cases c with
 |true=>exact this
 |false=>rw[<-this];show dv φ b (ck _ _ L)+dv φ b (ck _ _ L)=_;grind
def aah(φ:Zt->Int)(b c:Bool){x:Int×Int}(l:aH x.1 x.2){L:Ze}(h:∀s∈L,aT s.2.2/\∀p∈s.1,aT p):dv φ b (cV x c L)+dv φ b (cV x (!c) L)=dv φ b L:=by
 obtain⟨dq,dM,hF⟩:=uK l;have:=x8 φ b dq dM hF h;cases c with
 |true=>exact this
 |false=>rw[<-this];show dv φ b (ck _ _ L)+dv φ b (ck _ _ L)=_;grind
def hm(a:Rat):(0:Rat)/a=0:=by grind
def Ia(d:Rat):d<0\/d=0\/0<d:=by grind
def cf(p:aa)(x y:Rat):Prop:=aT p/\iA p=x/\iB p=y
def Ct{a b c d:Int}(ab:0<b)(hd:0<d)(h:(a:Rat)/b=(c:Rat)/d):a*d=c*b:=by
 have b0:=dN ab;have ix:=dN hd;have:(a:Rat)*d=c*b:=by grind
 exact_mod_cast this
def cf.eq{p q:aa}{x y:Rat}(h:cf p x y)(g:cf q x y):p=q:=by
 obtain⟨ae,h1,h2⟩:=h;obtain⟨iZ,aE,aI⟩:=g;obtain⟨ah,ap,bw⟩:=wf ae iZ (Ct ae.1 iZ.1 (h1.trans aE.symm)) (Ct ae.1 iZ.1 (h2.trans aI.symm));exact eS ah ap bw
def cf.to{p:aa}{x y hv fb:Rat}(h:cf p x y)(ah:x=hv)(ap:y=fb):cf p hv fb:=by subst ah ap;exact h
def ai(r:Int×Int):Rat:=(r.1:Rat)/r.2
def sd{a b n:Int}(aM:0<n):cf (cC a b n) ((a:Rat)/n) ((b:Rat)/n):=by
 obtain⟨p,ah,ap,_⟩:=ju (a:=a) (b:=b) (SD aM);have c0:=dN aM;have xB:=dN p.1;have aU:(((cC a b n).1:Int):Rat)*n=a*((cC a b n).2.2:Int):=by exact_mod_cast ah
 have a9:(((cC a b n).2.1:Int):Rat)*n=b*((cC a b n).2.2:Int):=by exact_mod_cast ap
 refine⟨p,?_,?_⟩
 ·unfold iA;grind
 ·unfold iB;grind
def gJ{w h:Int×Int}(lw:0<w.2)(lh:0<h.2):cf (cj w h) (ai w) (ai h):=by
 have w0:=dN lw;have h0:=dN lh;refine(sd (SF lw lh)).to ?_ ?_<;>(unfold ai;push_cast;grind)
def Cu{w:Int×Int}(l:aH w.1 w.2):cf (w.1,0,w.2) (ai w) 0:=⟨Gs l,rfl,by unfold iB;show((0:Int):Rat)/_=0;exact hm _⟩
def Cv{w:Int×Int}(l:aH w.1 w.2):cf (0,w.1,w.2) 0 (ai w):=⟨Gu l,by unfold iA;show((0:Int):Rat)/_=0;exact hm _,rfl⟩
def aai:cf (0,0,1) 0 0:=⟨⟨by decide,by decide⟩,by unfold iA;exact hm _,by unfold iB;exact hm _⟩
def lD{g p:aa}{a b x y:Rat}(aC:cf g a b)(ae:cf p x y):cf (nP (sld g p)) (x+a) (y+b):=by
 obtain⟨aE,aI,g3⟩:=aC;obtain⟨cW,cS,nT⟩:=ae;have ahL:=dN aE.1;have aaj:=dN cW.1;refine(sd (a:=(sld g p).1) (b:=(sld g p).2.1) (n:=(sld g p).2.2) (SF cW.1 aE.1)).to ?_ ?_
 ·rw[<-aI,<-cS];unfold iA sld;dsimp only;push_cast;grind
 ·rw[<-g3,<-nT];unfold iB sld;dsimp only;push_cast;grind
def Cw{p q r:aa}{bF bI e2 dD mm r9:Rat}(ae:cf p bF bI)(au:cf q e2 dD)(ak:cf r mm r9):∃k:Rat,0<k/\((bi p q r:Int):Rat)=k*((e2-bF)*(r9-bI)-(dD-bI)*(mm-bF)):=by
 obtain⟨cW,cS,nT⟩:=ae;obtain⟨aR,bK,e7⟩:=au;obtain⟨r1,r2,ga⟩:=ak;have aaj:=dN cW.1;have ahM:=dN aR.1;have ja:=dN r1.1;refine⟨((p.2.2*q.2.2*r.2.2:Int):Rat),?_,?_⟩
 ·have:=SF (SF cW.1 aR.1) r1.1;exact_mod_cast this
 ·rw[<-cS,<-nT,<-bK,<-e7,<-r2,<-ga];unfold bi crs iA iB;dsimp only;push_cast;grind
section
variable{X:Int×Int}{c:aa}{x y:Rat}
def uL(l:aH X.1 X.2)(hc:cf c x y):∃k:Rat,0<k/\((ln (ef X) c:Int):Rat)=k*(ai X-x):=by
 have ce:=dN l.1;have a:cf (cC (X.1*1) (0*X.2) (X.2*1)) (ai X) 0:=(sd (by have:=l.1;lia)).to (by unfold ai;simp) (by simp;exact hm _);have b:cf (cC (X.1*1) (1*X.2) (X.2*1)) (ai X) 1:=(sd (by have:=l.1;lia)).to (by unfold ai;simp) (by simp;grind);obtain⟨k,cr,e⟩:=Cw a b hc;exact⟨k,cr,by show((bi _ _ c:Int):Rat)=_;rw[e];grind⟩
def uM(l:aH X.1 X.2)(hc:cf c x y):∃k:Rat,0<k/\((ln (eg X) c:Int):Rat)=k*(y-ai X):=by
 have ce:=dN l.1;have a:cf (cC (0*X.2) (X.1*1) (1*X.2)) 0 (ai X):=(sd (by have:=l.1;lia)).to (by simp;exact hm _) (by unfold ai;simp);have b:cf (cC (1*X.2) (X.1*1) (1*X.2)) 1 (ai X):=(sd (by have:=l.1;lia)).to (by simp;grind) (by unfold ai;simp);obtain⟨k,cr,e⟩:=Cw a b hc;exact⟨k,cr,by show((bi _ _ c:Int):Rat)=_;rw[e];grind⟩
end
def mo{n:Int}{k d:Rat}(cr:0<k)(e:(n:Rat)=k*d)(h:0<d):0<n:=by
 have:(0:Rat)<n:=by rw[e];exact Te cr h
 exact_mod_cast this
def pw{n:Int}{k d:Rat}(cr:0<k)(e:(n:Rat)=k*d)(h:d<0):n<0:=by
 have:0 < -n:=mo cr (d :=-d) (by push_cast;rw[e];grind) (by grind);lia
def x9{n:Int}{k d:Rat}(e:(n:Rat)=k*d)(h:d=0):n=0:=by
 rw[h]at e;have:(n:Rat)=0:=by rw[e];grind
 exact_mod_cast this
section
variable{X:Int×Int}{c p q:aa}{x y bF bI e2 dD:Rat}
def uN(l:aH X.1 X.2)(hc:cf c x y)(h:x<ai X):0<ln (ef X) c:=by
 obtain⟨k,cr,e⟩:=uL l hc;exact mo cr e (by grind)
def Cx(l:aH X.1 X.2)(hc:cf c x y)(h:ai X<x):ln (ef X) c<0:=by
 obtain⟨k,cr,e⟩:=uL l hc;exact pw cr e (by grind)
def Cy(l:aH X.1 X.2)(hc:cf c x y)(h:ai X<y):0<ln (eg X) c:=by
 obtain⟨k,cr,e⟩:=uM l hc;exact mo cr e (by grind)
def uO(l:aH X.1 X.2)(hc:cf c x y)(h:y<ai X):ln (eg X) c<0:=by
 obtain⟨k,cr,e⟩:=uM l hc;exact pw cr e (by grind)
def x'(l:aH X.1 X.2)(ae:cf p bF bI)(au:cf q e2 dD)(h:ln (ef X) p*ln (ef X) q<0)(aN:(y-bI)*(e2-bF)=(ai X-bF)*(dD-bI)):cf (a0 (ef X) p q) (ai X) y:=by
 have pm:aT (a0 (ef X) p q):=by rw[<-kH ae.1 au.1];exact fZ (kI ae.1 au.1 h)
 obtain⟨a,b,Ib,ex,fl⟩:=B1 (qu h) ae.1.1 au.1.1 pm.1;have n0:cf (a0 (ef X) p q) (iA (a0 (ef X) p q)) (iB (a0 (ef X) p q)):=⟨pm,rfl,rfl⟩;obtain⟨k,cr,e⟩:=uL l n0;rw[r3 h]at e
 have xe:iA (a0 (ef X) p q)=ai X:=by
  have bO:k≠0:=by intro z;rw[z]at cr;exact absurd cr (by decide)
  have:k*(ai X-iA (a0 (ef X) p q))=0:=by rw[<-e];rfl
  grind
 have ne:e2-bF≠0:=λz=>by
  obtain⟨bV,uP,ap⟩:=uL l ae;obtain⟨gG,uQ,bw⟩:=uL l au;have Cz:e2=bF:=by grind
  rw[Cz]at bw;rcases Ia (ai X-bF)with d|d|d
  ·have cc:=pw uP ap d;have ci:=pw uQ bw d;have:=UB cc ci;lia
  ·have cc:=x9 ap d;rw[cc,TY]at h;lia
  ·have cc:=mo uP ap d;have ci:=mo uQ bw d;have:=SF cc ci;lia
 refine n0.to xe ?_;rw[fl,ae.2.2,au.2.2];rw[ex,ae.2.1,au.2.1]at xe;have dy:a=1-b:=by grind
 subst dy;grind
def ya(l:aH X.1 X.2)(ae:cf p bF bI)(au:cf q e2 dD)(h:ln (eg X) p*ln (eg X) q<0)(ao:(x-bF)*(dD-bI)=(ai X-bI)*(e2-bF)):cf (a0 (eg X) p q) x (ai X):=by
 have pm:aT (a0 (eg X) p q):=by rw[<-kH ae.1 au.1];exact fZ (kI ae.1 au.1 h)
 obtain⟨a,b,Ib,ex,fl⟩:=B1 (qu h) ae.1.1 au.1.1 pm.1;have n0:cf (a0 (eg X) p q) (iA (a0 (eg X) p q)) (iB (a0 (eg X) p q)):=⟨pm,rfl,rfl⟩;obtain⟨k,cr,e⟩:=uM l n0;rw[r3 h]at e
 have Ic:iB (a0 (eg X) p q)=ai X:=by
  have bO:k≠0:=by intro z;rw[z]at cr;exact absurd cr (by decide)
  have:k*(iB (a0 (eg X) p q)-ai X)=0:=by rw[<-e];rfl
  grind
 have ne:dD-bI≠0:=λz=>by
  obtain⟨bV,uP,ap⟩:=uM l ae;obtain⟨gG,uQ,bw⟩:=uM l au;have Cz:dD=bI:=by grind
  rw[Cz]at bw;rcases Ia (bI-ai X)with d|d|d
  ·have cc:=pw uP ap d;have ci:=pw uQ bw d;have:=UB cc ci;lia
  ·have cc:=x9 ap d;rw[cc,TY]at h;lia
  ·have cc:=mo uP ap d;have ci:=mo uQ bw d;have:=SF cc ci;lia
 refine n0.to ?_ Ic;rw[ex,ae.2.1,au.2.1];rw[fl,ae.2.2,au.2.2]at Ic;have dy:a=1-b:=by grind
 subst dy;grind
end
end Cut
namespace Cut
open PySem L2 L3
section
variable{f:aa->Int}{mt:aa->aa->aa}{a b c d:aa}
def lE:dz f mt [a,b,c,d]=kp f a++cA f mt a b++(kp f b++cA f mt b c++(kp f c++cA f mt c d++(kp f d++cA f mt d a++[]))):=rfl
def ge(h:0<=f a):kp f a=[a]:=by unfold kp;rw[SC h]
def hn(h:f a<0):kp f a=[]:=by unfold kp;rw[SL (by lia)]
def hU(h:(0<f a/\f b<0)\/(f a<0/\0<f b)):cA f mt a b=[mt a b]:=by
 unfold cA;rcases h with⟨h1,h2⟩|⟨h1,h2⟩
 ·rw[SC (S2 h1 h2)]
 ·rw[SC (Uc h1 h2)]
def f1(h:(0<=f a/\0<=f b)\/(f a<=0/\f b<=0)):cA f mt a b=[]:=by
 unfold cA;rcases h with⟨h1,h2⟩|⟨h1,h2⟩
 ·rw[SL (by have:=Tv h1 h2;lia)]
 ·rw[SL (by have:=Vo h1 h2;lia)]
def lF{ps:Zd}(p:aa)(ae:p∈ps)(h:0<f p):c9 f mt ps=dz f mt ps:=xG ⟨p,ae,h⟩
def aak(ar:f a<0)(ab:f b<0)(hc:0<f c)(hd:f d=0):c9 f mt [a,b,c,d]=[mt b c,c,d]:=by
 rw[lF c (by simp) hc,lE,hn ar,f1 (.inr ⟨by lia,by lia⟩),hn ab,hU (.inr ⟨ab,hc⟩),ge (by lia),f1 (.inl ⟨by lia,by lia⟩),ge (by lia),f1 (.inr ⟨by lia,by lia⟩)];rfl
def aal(ar:0<f a)(ab:0<f b)(hc:f c<0)(hd:f d=0):c9 f mt [a,b,c,d]=[a,b,mt b c,d]:=by
 rw[lF a (by simp) ar,lE,ge (by lia),f1 (.inl ⟨by lia,by lia⟩),ge (by lia),hU (.inl ⟨ab,hc⟩),hn hc,f1 (.inr ⟨by lia,by lia⟩),ge (by lia),f1 (.inl ⟨by lia,by lia⟩)];rfl
end
def py{t b:Int}(ab:0<b):ai (cw t b)=(t:Rat)/b:=by
 obtain⟨l,e,_,_⟩:=hB (t:=t) (b:=b) (SD ab);have b0:=dN ab;have pv:=dN l.1;have f:(((cw t b).1:Int):Rat)*b=t*((cw t b).2:Int):=by exact_mod_cast e
 unfold ai;grind
def er{r:Int×Int}(h:0<r.1)(h2:0<r.2):0<ai r:=by
 have a:(0:Rat)<r.1:=by exact_mod_cast h
 have b:(0:Rat)<r.2:=by exact_mod_cast h2
 unfold ai;rw[Ud];exact Te a (U5.mpr b)
def Ie{a b c fk b' c':aa}(h1:a=fk)(h2:b=b')(aF:c=c'):[a,b,c]=[fk,b',c']:=by rw[h1,h2,aF]
def Ig{a b c d fk b' c' d':aa}(h1:a=fk)(h2:b=b')(aF:c=c')(bb:d=d'):[a,b,c,d]=[fk,b',c',d']:=by rw[h1,h2,aF,bb]
def Ih{a b c:aa}{P:aa->Prop}(h1:P a)(h2:P b)(aF:P c):∀p∈[a,b,c],P p:=by simp;exact⟨h1,h2,aF⟩
def CA{a b c d:aa}{P:aa->Prop}(h1:P a)(h2:P b)(aF:P c)(bb:P d):∀p∈[a,b,c,d],P p:=by simp;exact⟨h1,h2,aF,bb⟩
end Cut
namespace L2
open PySem PySem.Spec PyProof.Rows PySem.W
variable{X:aK}
def aam:nw X (.builtin "sorted") (λxs H Q=>∃(p:TI)(ns:Zc),xs=[.ref p]/\H p=some (.lst (ns.map V.int))/\ns.length<64/\∀kc:Zc,kc.Perm ns->kc.Pairwise (· <= ·)->∀l,H l=none->Q (.ref l) (upd H l (.lst (kc.map V.int)))):=by
 intro pins s σ H xs us Q I r h;obtain⟨p,ns,rfl,ae,aM,q⟩:=h;obtain⟨u,rfl,bc⟩:=vals1 r;cases bc;obtain⟨its,cd,cp,hz⟩:=I.list (cx.of ae);have fj:=cd.length;rw[Sw]at fj;refine sorted_ints cp.isList (intsAre_of cd) (by lia) λout kc cc ci iY=>?_;obtain⟨e,aB⟩:=sortedAll_at s.heap its out;have am:=ci.length_eq;exact⟨.ref (s.heap.objs.size+1),_,I.laid (t':=s.toks) (λ_ _=>sortedAll_old) (UG _) (show gy X.prog X.w _ _ _ (.lst (kc.map V.int))from⟨by rw[Sw,YB];lia,out.toList,e,Av cc,aB⟩),rfl,q kc ci iY _ (I.hok.fresh (UG _))⟩
end L2
namespace L3
open PySem L2
variable{X:aK}{e:UV}{u:a1}{p pos:Pos}
def aan(u:a1):cU:=λρ k=>u ρ λx=>∃ns:Zc,x=.lst (ns.map D.int)/\ns.length<64/\∀kc:Zc,kc.Perm ns->kc.Pairwise (· <= ·)->k (kc.map D.int)
def aao(ar:bg X e u)(aC:eY X "sorted")(ax:X.mg "sorted"=none)(al:SZ [e] X.env=(false,Xv e X.env)::SZ [] X.env:=by rfl):k3 X (.Call (.Name "sorted" p) [e] [] pos) (aan u):=by
 obtain⟨_,h1,r1⟩:=ar;refine⟨_,p3 aam aC ax (by decide +kernel) (eh h1 fC al) (by decide) (by decide) al rfl,λρ k h R W B H σ Q e q=>?_⟩;refine r1 ρ _ h R W B H σ _ e λd v aZ aq z1 ah aE az=>?_;obtain⟨ns,rfl,aM,z⟩:=z1;obtain⟨a,vs,rfl,ar,rs⟩:=az.lstV;have eZ:=Fl rs;subst eZ;refine⟨a,ns,rfl,ah.bh _ _ ar,aM,λkc cW cS p ae=>?_⟩;obtain⟨aU,a9,bE,db,d4⟩:=ah.newO ae (Reps.ints kc);exact q _ p _ aZ _ (z kc cW cS) aU aE a9 bE db (Reps.ints kc) d4
end L3
namespace L2
open PySem PySem.Spec PyProof.Rows PySem.W
variable{X:aK}
def aap:V->Zf->aj->cJ->Prop:=λx vs H Q=>∃l b xs ed,x=.ref l/\vs=[.ref b]/\H l=some (.lst xs)/\H b=some (.tup ed)/\xs.length+ed.length<=TT/\Q .non (upd H l (.lst (xs++ed)))
def aaq:ro X "list.extend" aap:=by
 intro pins s σ H x vs v us Q I bc cd h;obtain⟨l,b,xs,ed,rfl,rfl,dw,ej,hz,q⟩:=h;cases bc;obtain⟨u,rfl,iM⟩:=cd.one;cases iM;obtain⟨z,its,n,r,am,e⟩:=I.lstM dw;obtain⟨aP,fD,r2,ap⟩:=I.hok b _ ej;have v8:=r2.length;obtain⟨iU,uR,aar,dL,hd2⟩:=ap;have jU:its.toArray.size+fD.toArray.size<=TT:=by rw[SW,SW];lia
 have Aq:¬(!its.toArray.isEmpty&&Builtin.List.listTooLong (its.toArray.size+fD.toArray.size))=true:=by
  rw[EI jU,Bool.and_false];exact S3
 refine Xp F.slot_list_extend ⟨_,e,rfl⟩ F.entry_list_extend ?_ (F.args_list_extend_2 _ _);show wpAny _ _ (Builtin.List.listExtendWith (.ref l) (.ref b) .none) _ _ s
 unfold Builtin.List.listExtendWith;refine SB (wpAny_typeOf (T:="tuple") ⟨iU,uR,aar⟩ ?_);rw[SC (by rw[show(Value.type "tuple"==Value.type "tuple")=true from rfl];simp)];refine SB (listItems_at uR hd2 ?_);refine SB (listItems_at e rfl ?_);rw[SL Aq];refine SB (listUpdate_at e rfl ?_ (by rw[SW];lia) (by rw[Array.size_append];lia));refine Tk ⟨_,rfl,?_⟩;refine⟨.non,_,I.lset (t':=s.toks) (its':=its++fD) dw e (by simp) (r.append r2) ?_,rfl,q⟩;rw[SH];lia
end L2
namespace L3
open PySem L2
section
variable{K:Sv}{B:aj}
def Reps.eraseIdx:∀{vs:Zf}{ds:Zh}(i:Nat),Reps K B vs ds->Reps K B (vs.eraseIdx i) (ds.eraseIdx i)
 |_,_,_,.nil=>.nil
 |_,_,0,.cons _ t=>t
 |_,_,i+1,.cons r t=>.cons r (Reps.eraseIdx i t)
end
variable{X:aK}{e:UV}{u:a1}{F:ca}{pos:Pos}
def aas(i j:Nat)(F:ca)(u:a1):cB:=λU ρ=>∃ds:Zh,ρ[i]?=some (.own ds)/\ρ[j]?=some .bag/\u ρ λd=>∃(n:Nat)(z:D),d=.int n/\n<1000/\ds[n]?=some z/\F [.bag,.val z] λr=>∃es,r=.val (.tup es)/\ds.length+es.length<=TT/\U.nx (ρ.set i (.own (ds.eraseIdx n++es)))
def aat(i j:Nat){f x y:Str}{ps:Zm}{rO lv:Nat}{px kM fV qC de b6 jF hG se:Pos}(c:bZ X.prog X.w X.K X.mg X.base f ps rO (b7 X.K 2 F))(ak:e' lv X.A)(aC:eY X f)(aB:bg X e u)(hjk:rO<=lv:=by decide)(a4:X.N[i]?=some x:=by rfl)(aL:gz X.env.scope x:=by first|exact SA rfl|exact SI (SA rfl)|exact SI (SI rfl))(hd:(x==("__debug__":Str))=false:=by decide)(dI:(x==("__classdict__":Str))=false:=by decide)(aau:X.N[j]?=some y:=by rfl)(t4:gz X.env.scope y:=by first|exact SA rfl|exact SI (SA rfl)|exact SI (SI rfl))(hd2:(y==("__debug__":Str))=false:=by decide)(aav:(y==("__classdict__":Str))=false:=by decide)(ht:(f==("__debug__":Str))=false:=by decide)(gM:W1 (.Name x px) "extend" X.env (Xv (.Name x px) X.env)=Xv (.Name x px) X.env:=by rfl)(CB:W1 (.Name x kM) "pop" X.env (Xv (.Name x kM) X.env)=Xv (.Name x kM) X.env:=by rfl)(jl:((Xn b6 (SZ [.Call (.Name f qC) [.Name y fV,.Call (.Attribute (.Name x kM) "pop" jF) [e] [] hG] [] se] X.env)).all (λx => !x.1)&&(XV b6 (XB [] X.env)).all (λx=>x.1.isSome)
   && decide (1+([]:Zr).length+(if([]:Zr).isEmpty then 0 else 1)<30))=true:=by rfl)(CC:((Xn hG (SZ [e] X.env)).all (λx => !x.1)&&(XV hG (XB [] X.env)).all (λx=>x.1.isSome)
   && decide (1+([]:Zr).length+(if([]:Zr).isEmpty then 0 else 1)<30))=true:=by rfl)(gN:(de.endLine==b6.line)=true:=by rfl)(CD:(jF.endLine==hG.line)=true:=by rfl)(al:SZ [.Call (.Name f qC) [.Name y fV,.Call (.Attribute (.Name x kM) "pop" jF) [e] [] hG] [] se] X.env=(false,Xv (.Call (.Name f qC) [.Name y fV,.Call (.Attribute (.Name x kM) "pop" jF) [e] [] hG] [] se) X.env)::SZ [] X.env:=by rfl)(o9:SZ [.Name y fV,.Call (.Attribute (.Name x kM) "pop" jF) [e] [] hG] X.env=(false,Xv (.Name y fV) X.env)::SZ [.Call (.Attribute (.Name x kM) "pop" jF) [e] [] hG] X.env:=by rfl)(jQ:SZ [.Call (.Attribute (.Name x kM) "pop" jF) [e] [] hG] X.env=(false,Xv (.Call (.Attribute (.Name x kM) "pop" jF) [e] [] hG) X.env)::SZ [] X.env:=by rfl)(nK:SZ [e] X.env=(false,Xv e X.env)::SZ [] X.env:=by rfl)(nD:(Xn b6 (SZ ([]:Zp) X.env)).any (·.1)=false:=by rfl)(CE:(Xn hG (SZ ([]:Zp) X.env)).any (·.1)=false:=by rfl)(fa:(Xn se (SZ [.Call (.Attribute (.Name x kM) "pop" jF) [e] [] hG] X.env)).any (·.1)=false:=by rfl)(kx:Xi (.Call (.Attribute (.Name x px) "extend" de) [.Call (.Name f qC) [.Name y fV,.Call (.Attribute (.Name x kM) "pop" jF) [e] [] hG] [] se] [] b6) none pos.line X.env=pure false:=by rfl):
  fo X (.Expr (.Call (.Attribute (.Name x px) "extend" de) [.Call (.Name f qC) [.Name y fV,.Call (.Attribute (.Name x kM) "pop" jF) [e] [] hG] [] se] [] b6) pos) (aas i j F u):=by
 obtain⟨_,h1,r1⟩:=aB;refine⟨_,pT (rn Up WL WM aaq (h5 a4 aL hd dI) (eh (rv c ak aC (eh (h5 aau t4 hd2 aav) (eh (rn Up W4 W5 MR (h5 a4 aL hd dI) (eh h1 fC nK) CB CC CD nK CE) fC jQ) o9) hjk ht o9 fa) fC al) gM jl gN al nD) kx,λU ρ h R W B H σ D e s=>?_⟩;obtain⟨ds,aA,ab,h⟩:=h;obtain⟨a,vs,ah,ap,bw,cT,eE⟩:=e.ownAt aA;obtain⟨b,a7,bd⟩:=e.bagAt ab;refine⟨_,ah,.inl ⟨rfl,vs,cx.of cT⟩,?_⟩;refine⟨_,a7,?_⟩;refine⟨_,ah,.inl ⟨rfl,vs,cx.of cT⟩,?_⟩;refine r1 ρ _ h R W B H σ _ e λd v aZ aq z1 aU aE az=>?_;obtain⟨n,z,rfl,aM,hz,jb⟩:=z1;obtain⟨fk,j0,bO,bV,gG,hf,oM⟩:=aU.ownAt aA;rw[ah]at bO;cases bO;obtain⟨w,hw,nu⟩:=oM.get hz
 have cM:n<j0.length:=by
  rcases Vr n j0.length with q|q
  ·exact q
  ·rw[S9 q]at hw;cases hw
 cases az;refine⟨a,j0,n,n,w,rfl,rfl,hf,by lia,by lia,?_,hw,?_⟩
 ·rw[YD (by lia) (by lia)];rfl
 have a9:=aU.write ah aA (oM.eraseIdx n);have uS:i≠j:=λq=>by rw[q,ab]at aA;cases aA
 have ay:i<ρ.length:=by
  rcases Vr i ρ.length with q|q
  ·exact q
  ·rw[S9 q]at aA;cases aA
 have gw:(ρ.set i (.own (ds.eraseIdx n)))[j]?=some .bag:=by rw[Tx uS];exact ab
 refine rC (E:=p9) (as:=[.bag j,.val z]) a9 (.bag a7 gw (.val nu .nil)) rfl jb λr v br aQ ag bE g3 res=>?_;obtain⟨es,rfl,am,uT⟩:=ag;obtain⟨p,ws,rfl,ae,nb⟩:=bA.tupV res;have uR:(ρ.set i (.own (ds.eraseIdx n)))[i]?=some (.own (ds.eraseIdx n)):=Tz ay;obtain⟨fk,g0,Ii,ahN,ahO,aaw,Ij⟩:=bE.ownAt uR;rw[ah]at Ii;cases Ii;have db:=bE.write ah uR (Ij.append nb);rw[TV]at db;refine⟨a,p,g0,ws,rfl,rfl,aaw,bE.bh _ _ ae,?_,s.nx _ _ br _ uT db (aE.trans g3)⟩;rw[Ij.length,nb.length];have:=Ap ds n;lia
end L3
namespace Cut
open PySem L2 L3
open PySem.Builtin.Int (intBits)
def Ik{p q:aa}{t:Int}(ae:0<p.2.2)(au:0<q.2.2)(d1:1<=t)(cY:t<=2):hi p q (jE p q t):=by
 have c0:0<p.2.2*q.2.2*3:=SF (SF ae au) (by decide);obtain⟨g,aV,aC⟩:=j6 (p:=(p.1*q.2.2*(3-t)+q.1*p.2.2*t,p.2.1*q.2.2*(3-t)+q.2.1*p.2.2*t,p.2.2*q.2.2*3)) (SD c0);have pt:=(fZ (p:=(p.1*q.2.2*(3-t)+q.1*p.2.2*t,p.2.1*q.2.2*(3-t)+q.2.1*p.2.2*t,p.2.2*q.2.2*3)) (SD c0)).1;have bw:p.2.2*q.2.2*3=g*(jE p q t).2.2:=TW (·.2.2) aC
 have gp:0<g:=by
  rcases Int.lt_or_le 0 g with h|h
  ·exact h
  ·have:g*(jE p q t).2.2<=0:=Int.mul_nonpos_of_nonpos_of_nonneg h (Tn pt);lia
 refine⟨g,q.2.2*(3-t),p.2.2*t,gp,SF au (by lia),SF ae (by lia),?_⟩;show sc g (jE p q t)=_
 rw[show sc g (jE p q t)=_ from aC.symm];refine eS ?_ ?_ ?_<;>simp only[hg]<;>grind
def Il{m:Nat}{p q:aa}{t:Int}(ae:dE m p)(au:dE m q)(d1:1<=t)(cY:t<=2):dE (2*m+3) (jE p q t):=by
 have c0:0<p.2.2*q.2.2*3:=SF (SF ae.pt.1 au.pt.1) (by decide);have a7:wp (3-t)<=2:=intBits_le_iff.mpr (by have e:(2:Nat)^2=4:=rfl;rw[e];lia);have bd:wp t<=2:=intBits_le_iff.mpr (by have e:(2:Nat)^2=4:=rfl;rw[e];lia);refine⟨fZ (p:=(p.1*q.2.2*(3-t)+q.1*p.2.2*t,p.2.1*q.2.2*(3-t)+q.2.1*p.2.2*t,p.2.2*q.2.2*3)) (SD c0),cD.nP (p:=(p.1*q.2.2*(3-t)+q.1*p.2.2*t,p.2.1*q.2.2*(3-t)+q.2.1*p.2.2*t,p.2.2*q.2.2*3)) ⟨?_,?_,?_⟩ (SD c0)⟩
 ·exact SE (Xr (TD (TD ae.bp.a au.bp.c) a7) (TD (TD au.bp.a ae.bp.c) bd)) (by lia)
 ·exact SE (Xr (TD (TD ae.bp.b au.bp.c) a7) (TD (TD au.bp.b ae.bp.c) bd)) (by lia)
 ·exact SE (TD (TD ae.bp.c au.bp.c) (show wp 3<=2 by decide)) (by lia)
def bQ.half{B D:Zd}{a b c d m n:aa}(h:bQ (b::B++(d::D)))(am:3<=(b::B).length+(d::D).length)(dy:b9 b B=a)(hC:b9 d D=c)(ax:hi c b m)(aM:hi a d n):bQ (m::(b::B)++[n]):=by
 obtain⟨X,mq⟩:∃X,b::B=X++[a]:=by
  obtain⟨X,e⟩:=xx (z:=b) (r:=b::B) (by simp);exact⟨X,by rw[e];show _=X++[a];rw[<-dy];rfl⟩
 cases D with
 |nil=>
  have hC:d=c:=hC;subst hC;cases B with
  |nil=>simp at am
  |cons bd B=>
   have dy:b9 bd B=a:=dy
   obtain⟨Y,CF⟩:∃Y,bd::B=Y++[a]:=by
    obtain⟨Y,e⟩:=xx (z:=bd) (r:=bd::B) (by simp);exact⟨Y,by rw[e];show _=Y++[a];rw[<-dy];rfl⟩
   rw[CF]at h⊢;have h1:bQ ((b::(Y++[a]))++[d]):=h
   have h2:bQ (Y++a::d::b::[]):=by
    have:=bQ.turn (xs:=[b]) (ys:=(Y++[a])++[d]) h1;simpa using this
   have aF:=bQ.off h2 aM ax;have bb:bQ ((Y++[a,n])++[m,b]):=by simpa using aF
   have cX:=bQ.turn bb;simpa using cX
 |cons bG D=>
  have hC:b9 bG D=c:=hC
  obtain⟨Y,CF⟩:∃Y,bG::D=Y++[c]:=by
   obtain⟨Y,e⟩:=xx (z:=bG) (r:=bG::D) (by simp);exact⟨Y,by rw[e];show _=Y++[c];rw[<-hC];rfl⟩
  have h1:bQ ((b::B)++[d,c]):=by
   refine bQ.sub ?_ h;refine UC (Vm _) (WR _ ?_);rw[CF];exact WS _ _
  rw[mq]at h1;have h2:bQ (X++a::d::[c]):=by simpa using h1
  have aF:=bQ.back h2 aM;have bb:bQ ((b::B)++([n]++[c])):=by rw[mq];simpa using aF
  have cX:bQ ([c]++((b::B)++[n])):=bQ.turn (ys:=[c]) (xs:=(b::B)++[n]) (by simpa using bb);have fN:bQ ([]++c::b::(B++[n])):=by simpa using cX
  have mV:=bQ.on fN ax;simpa using mV
def aax(φ:Zt->Int){p q:aa}(ae:aT p)(au:aT q):gv φ p q+gv φ q p=0:=by
 unfold gv ep;rw[HP ae au];grind
def Im(φ:Zt->Int){p q m:aa}(ae:aT p)(au:aT q)(h:p≠q)(b:hi p q m):gv φ p m+gv φ m q=gv φ p q:=by
 obtain⟨ah,ap⟩:=xW ae au h b;unfold gv ep;rw[ah,ap];grind
def aay(φ:Zt->Int){B D:Zd}{a b c d m n:aa}(dy:b9 b B=a)(hC:b9 d D=c)(ax:hi c b m)(aM:hi a d n)(pa:aT a)(pb:aT b)(hH:aT c)(qw:aT d)(pm:aT m)(pn:aT n)(h1:c≠b)(h2:a≠d):
  dk φ (m::(b::B)++[n])+dk φ (n::(d::D)++[m])=dk φ (b::B++(d::D)):=by
 have ah:dj (m::(b::B)++[n])=(n,m)::(m,b)::(c8 b B++[(a,n)]):=by
  unfold dj;rw[show b9 (0,0,1) (m::(b::B)++[n])=n from by rw[pc];rfl];show(n,m)::(m,b)::c8 b (B++[n])=_
  rw[o',dy];rfl
 have ap:dj (n::(d::D)++[m])=(m,n)::(n,d)::(c8 d D++[(c,m)]):=by
  unfold dj;rw[show b9 (0,0,1) (n::(d::D)++[m])=m from by rw[pc];rfl];show(m,n)::(n,d)::c8 d (D++[m])=_
  rw[o',hC];rfl
 have bw:dj (b::B++(d::D))=(c,b)::(c8 b B++((a,d)::c8 d D)):=by
  unfold dj;rw[show b9 (0,0,1) (b::B++(d::D))=c from by rw[pc];exact hC];show(c,b)::c8 b (B++(d::D))=_
  rw[o',dy];rfl
 unfold dk;rw[ah,ap,bw];simp only[hE,xy,iz];have bO:=aax φ pn pm;have bV:=Im φ hH pb h1 ax;have gG:=Im φ pa qw h2 aM;grind
def Io(φ:Zt->Int):∀A B:Zd,dk φ (A++B)=dk φ (B++A)
 |[],B=>by rw[SP];rfl
 |a::A,B=>by
  have h:=Io φ A (B++[a]);rw[show a::A++B=a::(A++B)from rfl,<-Co,S6,h,S6];rfl
def sf(ps:Zd)(i j:Nat)(p q:aa):List aa:=[p]++(ps.drop (i+1)).take (j-i)++[q]
def si(ps:Zd)(i j:Nat)(p q:aa):List aa:=[q]++ps.drop (j+1)++ps.take (i+1)++[p]
def CG{ps:Zd}{i:Nat}(h:i<ps.length):ps.drop i=bx ps i::ps.drop (i+1):=by
 rw[Ua h,l9 h]
structure CH (m n:Nat) (ps cl rs:Zd):Prop where
 a:fw cl
 b:fw rs
 la:cl.length<=n
 lb:rs.length<=n
 pa:∀x∈cl,dE m x
 pb:∀x∈rs,dE m x
 bal:∀φ,dk φ cl+dk φ rs=dk φ ps
def aaz{m:Nat}{ps:Zd}{i j:Nat}{t u:Int}(cv:fw ps)(ae:∀x∈ps,dE m x)(mH:i<j)(bS:j<ps.length)(d1:1<=t)(cY:t<=2)(dq:1<=u)(dM:u<=2):
  CH (2*m+3) (ps.length+1) ps (sf ps i j (jE (bx ps i) (bx ps (i+1)) t) (jE (bx ps j) (bx ps ((j+1)%ps.length)) u)) (si ps i j (jE (bx ps i) (bx ps (i+1)) t) (jE (bx ps j) (bx ps ((j+1)%ps.length)) u)):=by
 have eG:=cv.1;have bV:(j+1)%ps.length<ps.length:=UA _ (by lia);have CI:=ae _ (nS (show i<ps.length by lia));have CJ:=ae _ (nS (show i+1<ps.length by lia));have CK:=ae _ (nS bS);have CL:=ae _ (nS bV);have qD:=Ik CI.pt.1 CJ.pt.1 d1 cY;have pz:=Ik CK.pt.1 CL.pt.1 dq dM;have gm:=Il CI CJ d1 cY;have k0:=Il CK CL dq dM;generalize jE (bx ps i) (bx ps (i+1)) t=M at qD gm⊢;generalize jE (bx ps j) (bx ps ((j+1)%ps.length)) u=N at pz k0⊢
 obtain⟨B,pA⟩:∃B,(ps.drop (i+1)).take (j-i)=bx ps (i+1)::B:=by
  rw[CG (show i+1<ps.length by lia),show j-i=(j-i-1)+1 by lia,V0];exact⟨_,rfl⟩
 have CM:(bx ps (i+1)::B).length=j-i:=by rw[<-pA,TS,Uy];lia
 have lastB:b9 (bx ps (i+1)) B=bx ps j:=by
  have:=xE (bx ps (i+1)) (bx ps (i+1)::B) (by simp);rw[show b9 (bx ps (i+1)) (bx ps (i+1)::B)=b9 (bx ps (i+1)) B from rfl]at this;rw[this,CM,<-pA];have ao:j-i-1<((ps.drop (i+1)).take (j-i)).length:=by rw[TS,Uy];lia
  rw[l9 ao,l9 bS,W6,List.getElem_drop];congr 1;lia
 obtain⟨D,sj⟩:∃D,ps.drop (j+1)++ps.take (i+1)=bx ps ((j+1)%ps.length)::D:=by
  by_cases z:j+1<ps.length
  ·rw[Tb z,CG z];exact⟨_,rfl⟩
  ·have e:j+1=ps.length:=by lia
   rw[e,V6,Uo,Tc];have:=CG (show 0<ps.length by lia);rw[V1]at this;rw[this,V0];exact⟨_,rfl⟩
 have tr:(bx ps ((j+1)%ps.length)::D).length=ps.length-(j-i):=by rw[<-sj,SH,TS,Uy];lia
 have CN:b9 (bx ps ((j+1)%ps.length)) D=bx ps i:=by
  have d5:b9 (bx ps ((j+1)%ps.length)) D=b9 (0,0,1) (bx ps ((j+1)%ps.length)::D):=rfl;have bv:ps.take (i+1)≠[]:=λz=>by have:=TW S0 z;rw[TS,Uq]at this;lia
  rw[d5,<-sj,pc,xE _ _ bv];have ao:(ps.take (i+1)).length-1<(ps.take (i+1)).length:=by rw[TS];lia
  rw[l9 ao,l9 (show i<ps.length by lia),W6];congr 1;rw[TS];lia
 have i1:ps=ps.take (i+1)++((ps.drop (i+1)).take (j-i)++ps.drop (j+1)):=by
  conv=>lhs;rw[<-W7 (i+1) ps]
  congr 1
  conv=>lhs;rw[<-W7 (j-i) (ps.drop (i+1))]
  rw[List.drop_drop];congr 2;lia
 have mc:bQ ps:=(qp ps).mpr cv.tri
 have sU:bQ (bx ps (i+1)::B++(bx ps ((j+1)%ps.length)::D)):=by
  rw[<-pA,<-sj,<-S6];refine bQ.turn (xs:=ps.take (i+1)) ?_;rw[i1]at mc;exact mc
 have am:3<=(bx ps (i+1)::B).length+(bx ps ((j+1)%ps.length)::D).length:=by rw[CM,tr];lia
 have cc:=bQ.half sU am lastB CN qD pz;have ci:=bQ.half (bQ.turn sU) (by lia) CN lastB pz qD;have sk:sf ps i j M N=M::(bx ps (i+1)::B)++[N]:=by unfold sf;rw[pA];rfl
 have yb:si ps i j M N=N::(bx ps ((j+1)%ps.length)::D)++[M]:=by unfold si;rw[S6 [N],sj];rfl
 have f0:∀x∈ps,dE (2*m+3) x:=λx h=>(ae x h).mono (by lia);have aaA:∀x∈bx ps (i+1)::B,x∈ps:=λx h=>by rw[<-pA]at h;exact W8 (Wg h)
 have aaB:∀x∈bx ps ((j+1)%ps.length)::D,x∈ps:=λx h=>by
  rw[<-sj]at h;rcases SR.mp h with h|h
  ·exact W8 h
  ·exact Wg h
 have cq:bx ps i≠bx ps (i+1):=cv.side (by
  rw[xF];refine SM.mpr ⟨i+1,TQ.mpr (by lia),?_⟩
  rw[show i+1+ps.length-1=i+ps.length by lia,UP,Tb (by lia)])
 have dL:bx ps j≠bx ps ((j+1)%ps.length):=cv.side (by
  rw[xF];refine SM.mpr ⟨(j+1)%ps.length,TQ.mpr bV,?_⟩;congr 1;by_cases z:j+1<ps.length
  ·rw[Tb z,show j+1+ps.length-1=j+ps.length by lia,UP,Tb bS]
  ·rw[show j+1=ps.length by lia,V6,TX,Tb (by lia)];congr 1
   lia)
 refine⟨?_,?_,?_,?_,?_,?_,λφ=>?_⟩
 ·rw[sk];refine qo.cvx ?_ ((qp _).mp cc)
  first|(simp;done)|(simp;lia)
 ·rw[yb];refine qo.cvx ?_ ((qp _).mp ci)
  first|(simp;done)|(simp;lia)
 ·rw[sk,To,SN,SH,CM]
  first|(simp;done)|(simp;lia)
 ·rw[yb,To,SN,SH,tr]
  first|(simp;done)|(simp;lia)
 ·rw[sk];intro x ao;rcases SR.mp ao with ao|ao
  ·rcases SK.mp ao with rfl|ao
   ·exact gm
   ·exact f0 x (aaA x ao)
  ·rw[SO.mp ao];exact k0
 ·rw[yb];intro x ao;rcases SR.mp ao with ao|ao
  ·rcases SK.mp ao with rfl|ao
   ·exact k0
   ·exact f0 x (aaB x ao)
  ·rw[SO.mp ao];exact gm
 ·rw[sk,yb,aay φ lastB CN qD pz CK.pt CJ.pt CI.pt CL.pt gm.pt k0.pt cq dL,<-pA,<-sj,<-S6,<-Io φ (ps.take (i+1))];rw[<-i1]
end Cut
namespace Cut
def aaC{ns:Zc}{x y:Int}(h:ns.Perm [x,y])(s:ns.Pairwise (· <= ·)):(ns=[x,y]/\x<=y)\/(ns=[y,x]/\y<=x):=by
 match ns,h.length_eq with
 |[a,b],_=>
  have hy:a<=b:=by simpa using s
  have ar:a∈[x,y]:=h.mem_iff.mp (by simp);have ab:b∈[x,y]:=h.mem_iff.mp (by simp);have ao:x∈[a,b]:=h.mem_iff.mpr (by simp);have aN:y∈[a,b]:=h.mem_iff.mpr (by simp);simp at ar ab ao aN;rcases ar with rfl|rfl
  ·have:b=y:=by lia
   subst this;exact .inl ⟨rfl,hy⟩
  ·have:b=x:=by lia
   subst this;exact .inr ⟨rfl,hy⟩
def aaD{ns:Zc}{a b:Int}{n:Nat}(e1:0<=a)(cc:a<n)(b0:0<=b)(a7:b<(n:Int)-1)(pm:ns.Perm [a,b+if decide (a<=b)=true then 1 else 0])(yc:ns.Pairwise (· <= ·)):∃I J:Nat,ns=[(I:Int),(J:Int)]/\I<J/\J<n:=by
 obtain⟨c,hc,c1,c2,c3⟩:∃c:Int,(b+if decide (a<=b)=true then 1 else 0)=c/\a≠c/\0<=c/\c<n:=by
  by_cases h:a<=b
  ·rw[Xl h,SC rfl];exact⟨b+1,rfl,by lia,by lia,by lia⟩
  ·rw[decide_eq_false h,SL S3];exact⟨b+0,rfl,by lia,by lia,by lia⟩
 rw[hc]at pm;rcases aaC pm yc with⟨rfl,l⟩|⟨rfl,l⟩
 ·exact⟨a.toNat,c.toNat,by rw[Vs e1,Vs c2],by lia,by lia⟩
 ·exact⟨c.toNat,a.toNat,by rw[Vs e1,Vs c2],by lia,by lia⟩
end Cut
namespace Cut
open PySem L2 L3
def aaE{α:Type}{xs:List α}{i j:Nat}(h:i<=j)(h2:j<=xs.length):gV xs (some ((i:Nat):Int)) (some ((j:Nat):Int))=(xs.drop i).take (j-i):=by
 have ah:HT.sIx xs.length 0 (some ((i:Nat):Int))=i:=by
  unfold HT.sIx
  first|lia|(simp only[];split<;>lia)|(split<;>lia)|(dsimp only;split<;>(try split)<;>lia)
 have ap:HT.sIx xs.length xs.length (some ((j:Nat):Int))=j:=by
  unfold HT.sIx
  first|lia|(simp only[];split<;>lia)|(split<;>lia)|(dsimp only;split<;>(try split)<;>lia)
 unfold gV;rw[ah,ap]
def aaF{ps:Zd}{i j:Nat}{p q:aa}(h:i<j)(h2:j<ps.length):fR (sf ps i j p q)=.lst ([dP p]++gV (ps.map dP) (some ((i:Int)+1)) (some ((j:Int)+1))++[dP q]):=by
 have e:=aaE (xs:=ps) (i:=i+1) (j:=j+1) (by lia) (by lia);rw[show((i:Int)+1)=((i+1:Nat):Int) by lia,show((j:Int)+1)=((j+1:Nat):Int) by lia,AR,e,show j+1-(i+1)=j-i by lia];show D.lst ((sf ps i j p q).map dP)=_
 unfold sf;rw[SJ,SJ];rfl
def aaG{ps:Zd}{i j:Nat}{p q:aa}(h:i<j)(h2:j<ps.length):fR (si ps i j p q)=.lst ([dP q]++gV (ps.map dP) (some ((j:Int)+1)) none++gV (ps.map dP) none (some ((i:Int)+1))++[dP p]):=by
 have ah:=O3 (xs:=ps) (i:=(j:Int)+1) (by lia) (by lia);have ap:=FS (xs:=ps) (i:=(i:Int)+1) (by lia) (by lia);rw[AR,AR,ah,ap,show((j:Int)+1).toNat=j+1 by lia,show((i:Int)+1).toNat=i+1 by lia];show D.lst ((si ps i j p q).map dP)=_
 unfold si;rw[SJ,SJ,SJ];rfl
def Ip(φ:Zt->Int):∀{rs:Zu}{n:Nat}{r:Zd},rs[n]?=some r->fG φ (rs.eraseIdx n)+dk φ r=fG φ rs
 |[],_,_,h=>by simp at h
 |q::rs,0,r,h=>by
  have e:q=r:=by simpa using h
  subst e;rw[List.eraseIdx_cons_zero,pu];grind
 |q::rs,n+1,r,h=>by
  have:=Ip φ (rs:=rs) (n:=n) (r:=r) (by simpa using h);rw[WA,pu,pu];grind
end Cut
namespace Cut
open PySem L2 L3
open PySem.Builtin.Int (intBits)
def Iq{α β:Type}(f:α->β):∀(l:List α)(n:Nat),(l.map f).eraseIdx n=(l.eraseIdx n).map f
 |[],_=>rfl
 |_::_,0=>rfl
 |x::l,n+1=>by
  show f x::(l.map f).eraseIdx n=f x::(l.eraseIdx n).map f
  rw[Iq f l n]
end Cut
namespace L3
open PySem L2
section
variable{K:Sv}{X:aK}{i:Nat}{rest:Zq}
def Ir{α:Type}{x y z:α}{r:List α}:dW (x::y::z::r) 2=some z:=by
 simp[dW,ixN];rw[SC (by lia)];rfl
end
section
variable{K:Sv}{u:a1}{w:cU}
def aaH(K:Sv)(B:aj)(J:iK)(ds:Zh):Prop:=∀(H:aj),b2 B H->∀i,(i<ds.length->J.go i H)/\(ds.length<=i->J.stop i H)/\∀x H',i<ds.length->J.yld i H x H'->∃q vs es,H q=none/\x=.ref q/\H'=upd H q (.tup vs)/\ds[i]?=some (.tup es)/\Reps K B vs es
def Is(K:Sv)(t:h6)(u:cU):Prop:=∀(ρ:Zg)(k:Zh->Prop),u ρ k->∀(R:aj)(W:TI->Prop)(B H:aj)(σ:St)(Q:iK->aj->Prop),aO K R W B H σ ρ->
 (∀ds J av H',k ds->aO K R W av H' σ ρ->bM R B av->aaH K av J ds->Q J H')->t σ H Q
def aaI{f9:h6}{g:hs}{tt:fh}{cK:bP}{fE:eP}{dV:dU}{d2:Nat}{js:Zj}(h0:Is K f9 w)(aC:rA K g fE)(bv:iO K tt dV)(h1:fm K cK u)(qj:js.Nodup):ry K (rJ f9 g tt cK d2 js) (oT w fE dV u d2 js):=by
 intro ρ k h R W B H σ Q e q;refine h0 ρ _ h R W B H σ _ e λds J aZ aq z1 ah aE it=>?_;obtain⟨am,z1⟩:=z1;intro D hM;obtain⟨aU,a9,bE⟩:=ah.toWd.fresh hM;have oV:∀i,¬cy σ ρ i D:=λi m=>ah.notNew hM m rfl;have ei:=ah.within d2 qj
 have l2:∀j a,cy (SV d2 none++ip σ js) (SV d2 .no++js.map (ky ρ)) j a->∃j,j∈js/\σ[j]?=some (some (V.ref a))/\ρ[j]?=some aD.bag:=λj a m=>by
  have bK:=(ei.mutOk m).2;rcases m with⟨bf,z|⟨es,z⟩⟩|⟨c,z,p7⟩
  ·obtain⟨c,c1,c2,_⟩:=ei.bagAt z;rw[bf]at c1;cases c1;rcases c2 with c2|c2
   ·exact c2
   ·exact absurd c2 bK
  ·obtain⟨c,c1,c2,_⟩:=ei.ownC z;rw[bf]at c1;cases c1;exact absurd c2 bK
  ·exact absurd ((ei.deepAt z).2.fr a p7).1 bK
 generalize oW:(λa=>∃j,j∈js/\σ[j]?=some (some (V.ref a))/\ρ[j]?=some aD.bag)=fO at ei;have l2:∀j a,cy (SV d2 none++ip σ js) (SV d2 .no++js.map (ky ρ)) j a->fO a:=λj a m=>by rw[<-oW];exact l2 j a m
 have h8:∀a,fO a->∃i:Nat,σ[i]?=some (some (.ref a))/\ρ[i]?=some .bag:=λa z=>by
  rw[<-oW]at z;obtain⟨j,_,z⟩:=z;exact⟨j,z⟩
 have l3:¬fO D:=λz=>by
  obtain⟨qk,bI,dD⟩:=h8 D z;exact oV qk (.inl ⟨bI,.inl dD⟩)
 refine⟨λi m j3 H'=>∃av ys es iQ,m=ds.length-i/\i<=ds.length/\aO K aq fO av H' j3 iQ/\bM aq aZ av/\H' D=some (.lst ys)/\av D=none/\(∀j a,cy j3 iQ j a->fO a)/\ys.length<=i/\Reps K av ys es/\gX fE dV u (ds.drop i) iQ λr=>k (es++r),
  ⟨ds.length,aZ,[],[],_,by simp,S8 _,ei.allocH hM _,bM.refl _ _,dZ,bE,l2,Sy _,.nil,by simpa using z1⟩,?_⟩
 rintro i m j3 aQ ⟨br,ys,es,iQ,rfl,ay,ap,aI,aN,ab,tI,FP,cg,aP⟩;obtain⟨d1,cY,hb⟩:=it aQ (aI.s.trans ap.bh) i;by_cases cM:i<ds.length
 ·refine .inr ⟨d1 cM,λx H' y=>?_⟩;obtain⟨gu,qE,It,kG,rfl,rfl,hd,bc⟩:=hb x H' cM y
  have he:ds.drop i=.tup It::ds.drop (i+1):=by
   rw[Ua cM];rw[S5 cM]at hd;rw[SS hd]
  rw[he]at aP;have Iu:D≠gu:=λz=>by rw[z,kG]at aN;cases aN
  have Iv:=ap.grow kG (.tup qE);have CO:=ap.alloc kG (.tup qE);have yd:upd aQ gu (.tup qE) D=some (.lst ys):=by rw[c6 Iu];exact aN
  have Iw:upd br gu (.tup qE) D=none:=by rw[c6 Iu];exact ab
  have CP:=cg.mono Iv.s;have ye:=aI.trans Iv;have Ix:bA K (upd br gu (.tup qE)) (.ref gu) (.tup It):=.tup dZ (bc.mono ye.s);generalize upd aQ gu (.tup qE)=H' at CO yd;generalize upd br gu (.tup qE)=CQ at CO Iw CP ye Ix;refine aC _ iQ _ aP aq fO CQ H' j3 _ _ CO Ix λiR gL ew bw bR=>?_;have hR:∀j a,cy gL iR j a->fO a:=λj a m=>tI j a (bR j a m)
  have l4:∀{gY:aj},bM H' CQ gY->gY D=none:=λ{gY} dQ=>by
   cases tJ:gY D with
   |none=>rfl
   |some o=>
    rcases dQ.n D o tJ with z|z
    ·rw[Iw]at z;cases z
    ·rw[yd]at z;cases z
  refine bv iR _ ew H' fO CQ H' gL _ (bw.rebase hR) λb gY kz d7 cT dQ=>?_;have tK:kz D=some (.lst ys):=cT.fr D _ yd l3;cases b with
  |false=>
   rw[SL S3]at d7⊢;obtain⟨eE,j4⟩:=bw.unbase hR cT dQ;exact⟨ds.length-(i+1),by lia,gY,ys,es,iR,rfl,cM,eE,ye.trans j4,tK,l4 dQ,hR,by lia,CP.mono dQ.s,d7⟩
  |true=>
   rw[SC rfl]at d7⊢;refine h1 iR _ d7 H' fO gY kz gL _ cT λfb v tL gB kA eE j4 i4=>?_;have j5:=dQ.trans j4;have tM:gB D=some (.lst ys):=eE.fr D _ yd l3;obtain⟨jX,tN⟩:=bw.unbase hR eE j5;refine⟨ys,tM,by lia,ds.length-(i+1),by lia,tL,ys++[v],es++[fb],iR,rfl,cM,jX.scribble hM (l4 j5) (λj m=>l3 (hR j D m)) _,ye.trans tN,dZ,l4 j5,hR,by rw[SH,TA];lia,(CP.mono j5.s).append (.cons i4 .nil),?_⟩;simpa[S6]using kA
 ·have eq:i=ds.length:=by lia
  subst eq;rw[Uo]at aP;obtain⟨cT,dQ⟩:=ah.after h8 ap.toWd aI;refine .inl ⟨cY (Sy _),q _ D ys br aQ (by simpa[gX]using aP) cT (aE.trans dQ) aU ab aN cg oV⟩
def Iy(X:aK)(bz e:UV)(u:cU):Prop:=∃t,kk X bz e t/\Is X.K t u
variable{X:aK}{dY dB bz:UV}{d8:Zp}{scope:Yd}{bm:List (Str×TI)}{ts fr:Zm}{js:Zj}{fE:eP}{dV:dU}{pos:Pos}
theorem Iz(ay:Iy X bz dB w)(aC:∀C s H ex,jn (dF X (ts++fr) scope bm C s H ex) bz fE)(jr:∀C s H ex,oX (dF X (ts++fr) scope bm C s H ex) d8 dV)(jt:∀C s H ex,bg (dF X (ts++fr) scope bm C s H ex) dY u)(F:oQ X scope bm fr js)(nL:js.Nodup:=by decide)(hc:X.calm=true:=by rfl)(al:∀v,UF dB X.env v=pure v:=by intro _;rfl):k3 X (.ListComp dY [⟨bz,dB,d8,0⟩] scope pos) (oT w fE dV u ts.length js):=by
 obtain⟨_,h0,gQ⟩:=ay;obtain⟨wS,nM,rg⟩:=tP (K:=X.K) (Xs:=λa:TI×TE×aj×Zo=>dF X (ts++fr) scope bm a.1 a.2.1 a.2.2.1 a.2.2.2) (λ_=>rfl) λa=>aC a.1 a.2.1 a.2.2.1 a.2.2.2;obtain⟨tt,nN,rt⟩:=tO (K:=X.K) (Xs:=λa:TI×TE×aj×Zo=>dF X (ts++fr) scope bm a.1 a.2.1 a.2.2.1 a.2.2.2) (λ_=>rfl) λa=>jr a.1 a.2.1 a.2.2.1 a.2.2.2;obtain⟨cK,nO,jq⟩:=wR (K:=X.K) (Xs:=λa:TI×TE×aj×Zo=>dF X (ts++fr) scope bm a.1 a.2.1 a.2.2.1 a.2.2.2) (λ_=>rfl) λa=>jt a.1 a.2.1 a.2.2.1 a.2.2.2;exact⟨_,A2 h0 (λC s H ex=>nM (C,s,H,ex)) (λC s H ex=>nN (C,s,H,ex)) (λC s H ex=>nO (C,s,H,ex)) F hc al,aaI gQ rg rt jq nL⟩
end
section
variable{prog:Uf}{w:Xk}{K:Type}[DecidableEq K]{knd:HeapKind prog w K}{A:Xq}{E:Tl->TE->Prop}{s:TE}
def aaJ{d a:TI}{xs:List (K×TI×Tl)}{k:K}{v:Tl}{Q:Tl->TE->Prop}(bn:knd.room A)(p2:knd.is s.heap k a)(ax:s.heap.DictOfH knd d xs)(h1:∀p,Y4 xs k=some p->Q p.2 {s with toks:=s.toks+knd.draws k})(h2:Y4 xs k=none->∀h',h'.DictOfH knd d (storedH xs k a v)->Heap.SameBut d s.heap h'->Q v {s with heap:=h',toks:=s.toks+knd.draws k})(jU:xs.length<=TT):wpAny (T0 prog w) A (Yz d (.ref a) v) Q E s:=by
 obtain⟨o,es,a3,aA,hc,hd,aB,IA,aM⟩:=ax;unfold Yz
 try with_reducible refine Xj ?_
 refine SB (knd.pyHash bn p2 ?_);refine SB (wpAny_dictFind_heap (s:={s with toks:=s.toks+knd.draws k}) bn p2 aA hd aB IA aM ?_ ?_)
 ·intro p4;have aaK:k∉xs.map (·.1):=not_mem_keys_of_get p4
  refine SB (Yu (SB (wpAny_updateDictKeys (hz:=by have e:=size_of_entries aB;lia) (s:={s with toks:=s.toks+knd.draws k}) aA hd (Tk (h2 (XU p4) _ ⟨_,_,a3+1,Heap.get?_update_self _ aA (Obj.isFreed_of_dict (Obj.data_mapDictKeys hd _)),
   hc.mapDictKeys _,Obj.data_mapDictKeys hd _,?_,?_,?_⟩ (Heap.SameBut.update ..))))))
  ·rw[Y5 (XU p4)];simp[aB,YM]
  ·rw[Y5 (XU p4)];intro x ao;rcases SR.mp ao with ao|ao
   ·exact knd.keeps (IA x ao) aA hd (Heap.SameBut.update ..)
   ·simp only[SO]at ao;subst ao;exact knd.keeps p2 aA hd (Heap.SameBut.update ..)
  ·rw[Y5 (XU p4)];rw[SJ,We];refine⟨aM,by simp,?_⟩;intro x ao y aN;simp only[SG,TG,SO]at aN;subst aN;exact λe=>aaK (e▸ao)
 ·intro j p bS;refine SB (XH (s:={s with toks:=s.toks+knd.draws k}) aA hd ?_);rw[entry_at aB j,bS];exact SB (Yu (Tk (h1 p (atKey_of_get aM bS))))
def aaL(knd:HeapKind prog w K)(d a:TI)(hd:(d==Xy)=false)(v:Tl):
  MeetsIn prog w (YS.«dict.setdefault» ⟨[.ref d,.ref a,v],[]⟩) (λA R s=>knd.room A.in1/\∃k xs,knd.is s.heap k a/\s.heap.DictOfH knd d xs/\xs.length<=TT /\
   (∀p,Y4 xs k=some p->R (.ok (.ret p.2)) {s with toks:=s.toks+knd.draws k}) /\
   (Y4 xs k=none->∀h',h'.DictOfH knd d (storedH xs k a v)->Heap.SameBut d s.heap h'->R (.ok (.ret v)) {s with heap:=h',toks:=s.toks+knd.draws k})):=
 .of_wp λA R s ⟨bn,k,xs,p2,ax,hz,h1,h2⟩=>by
  unfold YS.«dict.setdefault»;refine SB ?_;unfold Builtin.Dict.keyAndDefault;refine SB (XY ax.typeIs ?_);show wpAny _ _ (pure (d,Value.ref a,some v)) _ _ s
  refine Tk ?_;show wpAny _ _ (if(d==Xy)=true then _ else(Yz d (.ref a) v >>= _)) _ _ s
  rw[SL (by rw[hd];exact S3)];exact SB (aaJ bn p2 ax (λp ae=>Tk ⟨p.2,rfl,h1 p ae⟩) (λaM h' uU eF=>Tk ⟨v,rfl,h2 aM h' uU eF⟩) hz)
end
def aaM(b:Bool):V->Zf->aj->cJ->Prop:=λx xs H Q=>∃a c z a3 ks as vs k,x=.ref a/\xs=[.ref c,z]/\m9 H b a a3 ks as vs/\m8 H b k c/\ks.length<TT /\
 (∀v,bJ ks vs k=some v->Q v H)/\(bJ ks vs k=none->∀hq,Q z (upd H a (hx b a hq (ks++[k]) (as++[c]) (vs++[z]))))
section
variable{X:aK}{b:Bool}
def aaN(bn:X.A.units+4<XA):v5 X "dict.setdefault" (aaM b):=by
 intro pins s σ H x xs v us Q I bc rs h;obtain⟨a,c,z,RG,ks,as,vs,k,rfl,rfl,lx,pj,am,aR,bK⟩:=h;obtain rfl:v=Value.ref a:=bc;obtain⟨dq,dM,rfl,r1,r2⟩:=rs.two;obtain rfl:dq=Value.ref c:=r1;obtain⟨h1,h2,aF,bb,us,cX,ia,fN⟩:=lx.raw I.hok;have ur:=cX.length
 have le:(eo ks as us).length=ks.length:=by
  have:=TW S0 (xN (as:=as) (us:=us) h2 (by lia))
  rwa [Sw]at this
 have g:=up (as:=as) (us:=us) k h2 (by lia);refine call_meetsIn W9 ia.typeIs PySem.F.entry_dict_setdefault (PySem.F.args_dict_setdefault_3 _ _ _) (aaL (kd X.prog X.w b) a c bb dM) ⟨xL bn,k,eo ks as us,pj.is I.hok,ia,by lia,λp ae=>?_,λaM h' m7 f'=>?_⟩
 ·rw[ae]at g;have fL:=ut (ks:=ks) k cX;rw[<-g]at fL;cases q:bJ ks vs k with
  |none=>rw[q]at fL;exact fL.elim
  |some CR=>rw[q]at fL;exact⟨CR,H,I.tok _,fL,aR CR q⟩
 ·rw[aM]at g;have fL:=ut (ks:=ks) k cX;rw[<-g]at fL
  have IB:bJ ks vs k=none:=by
   cases q:bJ ks vs k with
   |none=>rfl
   |some CR=>rw[q]at fL;exact fL.elim
  have io:k∉ks:=(ph aF).mp IB;rw[Hq k c dM h2 (by lia),SL io]at m7;have ah:eV ks k=ks++[k]:=SL io;have ap:gI ks us k dM=us++[dM]:=SL io;rw[ah,ap]at m7;obtain⟨cG,es,a3,jC,iU,w8,mj,RH,RI⟩:=m7;refine⟨z,_,?_,r2,bK IB a3⟩;refine I.write (x:=a) (e:=a) (by rw[lx.h];trivial) (.inl rfl) (λc' q ab z=>(f'.2 c' ab).trans z) ⟨cG,jC⟩ ?_;have nd:(ks++[k]).Nodup:=by have:=Hx (k:=k) fN;rwa [ah]at this
  refine⟨⟨by rw[SH,TA];lia,by rw[SH,SH,h2];rfl,by rw[SH,SH,aF];rfl,bb,_,Paired.snoc cX r2,cG,es,jC,iU,w8,?_,nd⟩,⟨cG,jC⟩,?_⟩
  ·rw[mj,xM (P:=X.prog) (w:=X.w)]
  ·rintro aE aI ⟨z1,aP,ew,d7,jp,kA,uu,np,uv,uw⟩ ag;exact⟨z1,aP,ew,d7,jp,kA,uu,np,ag _ uv,uw⟩
end
def qF:List Zt->Zw->Zt->D->Zw
 |k'::ks,ds::b3,k,d=>if k'=k then(ds++[d])::b3 else ds::qF ks b3 k d
 |_,b3,_,_=>b3
def qG(ks:List Zt)(b3:Zw)(k:Zt)(d:D):List Zh:=if k∈ks then qF ks b3 k d else b3++[[d]]
def IC{α:Type}:∀{ks:List Zt}{as:List α}{k:Zt}{x:α},bJ ks as k=some x->∃j:Nat,as[j]?=some x/\∀{β:Type}(ds:List β),ds.length=as.length->bJ ks ds k=ds[j]?
 |[],_,_,_,h=>by simp[bJ]at h
 |_::_,[],_,_,h=>by simp[bJ]at h
 |k'::ks,a::as,k,x,h=>by
  rw[bJ]at h;by_cases e:k'=k
  ·rw[SC e]at h;cases h;refine⟨0,rfl,λds am=>?_⟩;cases ds with
   |nil=>simp at am
   |cons d ds=>rw[bJ,SC e];rfl
  ·rw[SL e]at h;obtain⟨j,h1,h2⟩:=IC h;refine⟨j+1,by simpa using h1,λds am=>?_⟩;cases ds with
   |nil=>simp at am
   |cons d ds=>rw[bJ,SL e,h2 ds (by simpa using am)];rfl
def ID{α:Type}:∀{ks:List Zt}{as:List α}{k:Zt}{x:α},bJ ks as k=some x->∃j:Nat,as[j]?=some x/\∀(b3:Zw)(ds:Zh)(d:D),b3.length=as.length->b3[j]?=some ds->bJ ks b3 k=some ds/\qF ks b3 k d=b3.set j (ds++[d])
 |[],_,_,_,h=>by simp[bJ]at h
 |_::_,[],_,_,h=>by simp[bJ]at h
 |k'::ks,a::as,k,x,h=>by
  rw[bJ]at h;by_cases e:k'=k
  ·rw[SC e]at h;cases h;refine⟨0,rfl,λb3 ds d am hd=>?_⟩;cases b3 with
   |nil=>simp at am
   |cons y b3=>
    cases(show y=ds by simpa using hd);exact⟨by rw[bJ,SC e],by rw[qF,SC e];rfl⟩
  ·rw[SL e]at h;obtain⟨j,h1,h2⟩:=ID h;refine⟨j+1,by simpa using h1,λb3 ds d am hd=>?_⟩;cases b3 with
   |nil=>simp at am
   |cons y b3=>
    obtain⟨aF,bb⟩:=h2 b3 ds d (by simpa using am) (by simpa using hd);exact⟨by rw[bJ,SL e,aF],by rw[qF,SL e,bb];rfl⟩
section
variable{K:Sv}{R:aj}{W:TI->Prop}{B av H H':aj}{σ:St}{ρ:Zg}
def aaO{i:Nat}{v:V}(h:σ[i]?=some (some v)):σ.set i (some v)=σ:=by
 apply Un;intro j;by_cases z:i=j
 ·subst z
  have lt:i<σ.length:=by
   by_cases z:i<σ.length
   ·exact z
   ·rw[S9 (by lia)]at h;cases h
  rw[Tz lt,h]
 ·rw[Tx z]
def aaP{i:Nat}{k:aD}(h:ρ[i]?=some k):ρ.set i k=ρ:=by
 apply Un;intro j;by_cases z:i=j
 ·subst z
  have lt:i<ρ.length:=by
   by_cases z:i<ρ.length
   ·exact z
   ·rw[S9 (by lia)]at h;cases h
  rw[Tz lt,h]
 ·rw[Tx z]
def aO.deepW(e:aO K R W B H σ ρ){i:Nat}{c c':hN}{x:TI}{o:eX}(aA:ρ[i]?=some (.deep c))(ao:x∈c.adr::c.ins)(ar:c'.adr=c.adr)(sub:∀y∈c'.ins,y∈c.ins)(nd:(c'.adr::c'.ins).Nodup)(ok:oC K B (upd H x o) c'):aO K R W B (upd H x o) σ (ρ.set i (.deep c')):=by
 obtain⟨bo,bG⟩:=e.deepAt aA;have qH:=bG.fr x ao;have ek:¬W x:=λz=>e.wr x z qH.1;have g8:cy σ ρ i x:=.inr ⟨c,aA,ao⟩
 have uV:∀y∈c'.adr::c'.ins,y∈c.adr::c.ins:=λy aN=>by
  rcases SK.mp aN with z|z
  ·rw[z,ar];exact Sx
  ·exact Sz _ (sub y z)
 refine⟨⟨λb u q z=>?_,λb u q=>?_,e.wb,λb z=>?_,e.wr⟩,by rw[TH];exact e.len,λj k q=>?_,λa b y aN hz=>?_⟩
 ·rw[c6 (by rintro rfl;rw[qH.1]at q;cases q)];exact e.fr b u q z
 ·rw[c6 (by rintro rfl;rw[qH.2]at q;cases q)];exact e.bh b u q
 ·exact(e.wh b z).upd (by rintro rfl;exact ek z)
 ·rcases h7 q with⟨rfl,rfl⟩|⟨n,q⟩
  ·exact⟨by rw[ar,bo];rfl,λy aN=>bG.fr y (uV y aN),nd,ok⟩
  ·have z:=e.ok j k q;have ne:∀y,cy σ ρ j y->y≠x:=λy m=>by rintro rfl;exact n (e.sep j i y m g8)
   cases k with
   |no=>trivial
   |new d=>exact z
   |pin v d=>exact z
   |val d=>exact z
   |own es=>
    obtain⟨b,z1,aP,ew,d7⟩:=z;exact⟨b,z1,aP,ew,d7.mono (b2.refl _) (c6 (ne b (.inl ⟨gr z1,.inr ⟨es,q⟩⟩)))⟩
   |deep d=>exact⟨z.1,z.2.fr,z.2.nd,z.2.ok.mono (b2.refl _) λb fK=>c6 (ne b (.inr ⟨d,q,fK⟩))⟩
   |bag=>
    obtain⟨b,z1,aP,ew,d7⟩:=z;exact⟨b,z1,aP,ew,d7.upd (ne b (.inl ⟨gr z1,.inl q⟩))⟩
 ·have back:∀a,cy σ (ρ.set i (.deep c')) a y->cy σ ρ a y:=λa m=>by
   rcases m with⟨bf,bL⟩|⟨d,bf,bL⟩
   ·refine .inl ⟨bf,?_⟩;rcases bL with bL|⟨es,bL⟩
    ·rcases h7 bL with⟨_,z⟩|⟨_,bL⟩
     ·cases z
     ·exact .inl bL
    ·rcases h7 bL with⟨_,z⟩|⟨_,bL⟩
     ·cases z
     ·exact .inr ⟨es,bL⟩
   ·rcases h7 bf with⟨rfl,z⟩|⟨_,bf⟩
    ·cases z;exact .inr ⟨c,aA,uV y bL⟩
    ·exact .inr ⟨d,bf,bL⟩
  exact e.sep a b y (back a aN) (back b hz)
def aO.deepN(e:aO K R W B H σ ρ){i:Nat}{c c':hN}{p:TI}{vs:Zf}{o:eX}(aA:ρ[i]?=some (.deep c))(ae:H p=some (.lst vs))(ak:R p=none)(ab:B p=none)(ax:∀j,¬cy σ ρ j p)(ar:c'.adr=c.adr)(sub:∀y∈c'.ins,y∈c.ins\/y=p)(nd:(c'.adr::c'.ins).Nodup)(ok:oC K B (upd H c.adr o) c'):aO K R W B (upd H c.adr o) σ (ρ.set i (.deep c')):=by
 obtain⟨bo,bG⟩:=e.deepAt aA;have qH:=bG.fr c.adr Sx;have ek:¬W c.adr:=λz=>e.wr _ z qH.1;have g8:cy σ ρ i c.adr:=.inr ⟨c,aA,Sx⟩
 have uV:∀y∈c'.adr::c'.ins,y∈c.adr::c.ins\/y=p:=λy aN=>by
  rcases SK.mp aN with z|z
  ·rw[z,ar];exact .inl Sx
  ·exact(sub y z).imp (Sz _) id
 refine⟨⟨λb u q z=>?_,λb u q=>?_,e.wb,λb z=>?_,e.wr⟩,by rw[TH];exact e.len,λj k q=>?_,λa b y aN hz=>?_⟩
 ·rw[c6 (by rintro rfl;rw[qH.1]at q;cases q)];exact e.fr b u q z
 ·rw[c6 (by rintro rfl;rw[qH.2]at q;cases q)];exact e.bh b u q
 ·exact(e.wh b z).upd (by rintro rfl;exact ek z)
 ·rcases h7 q with⟨rfl,rfl⟩|⟨n,q⟩
  ·exact⟨by rw[ar,bo];rfl,λy aN=>by
    rcases uV y aN with z|rfl
    ·exact bG.fr y z
    ·exact⟨ak,ab⟩,nd,ok⟩
  ·have z:=e.ok j k q;have ne:∀y,cy σ ρ j y->y≠c.adr:=λy m=>by rintro rfl;exact n (e.sep j i _ m g8)
   cases k with
   |no=>trivial
   |new d=>exact z
   |pin v d=>exact z
   |val d=>exact z
   |own es=>
    obtain⟨b,z1,aP,ew,d7⟩:=z;exact⟨b,z1,aP,ew,d7.mono (b2.refl _) (c6 (ne b (.inl ⟨gr z1,.inr ⟨es,q⟩⟩)))⟩
   |deep d=>exact⟨z.1,z.2.fr,z.2.nd,z.2.ok.mono (b2.refl _) λb fK=>c6 (ne b (.inr ⟨d,q,fK⟩))⟩
   |bag=>
    obtain⟨b,z1,aP,ew,d7⟩:=z;exact⟨b,z1,aP,ew,d7.upd (ne b (.inl ⟨gr z1,.inl q⟩))⟩
 ·have back:∀a,cy σ (ρ.set i (.deep c')) a y->cy σ ρ a y\/(a=i/\y=p):=λa m=>by
   rcases m with⟨bf,bL⟩|⟨d,bf,bL⟩
   ·refine .inl (.inl ⟨bf,?_⟩);rcases bL with bL|⟨es,bL⟩
    ·rcases h7 bL with⟨_,z⟩|⟨_,bL⟩
     ·cases z
     ·exact .inl bL
    ·rcases h7 bL with⟨_,z⟩|⟨_,bL⟩
     ·cases z
     ·exact .inr ⟨es,bL⟩
   ·rcases h7 bf with⟨rfl,z⟩|⟨_,bf⟩
    ·cases z;rcases uV y bL with z|z
     ·exact .inl (.inr ⟨c,aA,z⟩)
     ·exact .inr ⟨rfl,z⟩
    ·exact .inl (.inr ⟨d,bf,bL⟩)
  rcases back a aN with h1|⟨h1,tA⟩
  ·rcases back b hz with h2|⟨h2,tB⟩
   ·exact e.sep a b y h1 h2
   ·subst tB;exact absurd h1 (ax a)
  ·rcases back b hz with h2|⟨h2,_⟩
   ·subst tA;exact absurd h2 (ax b)
   ·rw[h1,h2]
end
def aaQ(r:V->Zf->aj->cJ->Prop)(to:bP)(t:fi):bP:=λσ H Q=>to σ H λx aq=>(∃a,x=.ref a/\Hw aq a)/\t σ aq λxs aQ=>r x xs aQ Q
def aaR{X:aK}{o e:UV}{es:Zp}{to:bP}{t:fi}{name:Str}{de b6:Pos}{id:String}{r:V->Zf->aj->cJ->Prop}(slot:Slot "dict" name id)(te:typeOf (.builtin id)=pure (.type "method_descriptor"))(ax:v5 X id r)(aA:b4 X o to)(ar:hJ X (e::es) t)(gM:W1 o name X.env (Xv o X.env)=Xv o X.env:=by rfl)(jl:((Xn b6 (SZ (e::es) X.env)).all (λx => !x.1)&&(XV b6 (XB [] X.env)).all (λx=>x.1.isSome)
   && decide ((e::es).length+([]:Zr).length+(if([]:Zr).isEmpty then 0 else 1)<30))=true:=by rfl)(gN:(de.endLine==b6.line)=true:=by rfl)(al:SZ (e::es) X.env=(false,Xv e X.env)::SZ es X.env:=by rfl)(nD:(Xn b6 (SZ es X.env)).any (·.1)=false:=by rfl):
  b4 X (.Call (.Attribute o name de) (e::es) [] b6) (aaQ r to t):=by
 intro pins s σ H Q I h;refine Yq gM jl gN rfl (cm (aA pins s σ H _ I h) λv az ⟨x,aq,be,r1,⟨a,dy,a7,RD,ks1,as1,lu,lx⟩,aR⟩=>?_);subst dy;obtain rfl:v=Value.ref a:=r1;obtain⟨h1,h2⟩:=lx.typ be;refine⟨"dict",id,Wc,slot,te,h1,h2,?_⟩;have gO:=ar b6 pins az σ aq _ be aR;rw[al]at gO⊢;refine Calls.callWith_builtin (by show(false||(Xn b6 (SZ es X.env)).any (·.1))=false;rw[nD]<;>rfl) (Calls.evalArgs_plain ?_);exact cm gO λus a' ⟨vs,aQ,d3,r2,bK⟩=>ax pins a' σ aQ (.ref a) vs (.ref a) us Q d3 rfl r2 bK
def aaS(b:Bool)(i:Nat):cB:=λU ρ=>∀a,U.nx (ρ.set i (.deep (.dl b a [] [] [])))
def aaT(b:Bool)(n:Nat)(iX ml:a1):cB:=λU ρ=>∃a ks as b3,ρ[n]?=some (.deep (.dl b a ks as b3))/\iX ρ λy=>∃aG,y=i8 b aG/\uy b aG/\ks.length<TT/\b3.length=ks.length/\(∀ds,bJ ks b3 aG=some ds->ds.length<TT) /\
 ∀as1 dss1,ml (ρ.set n (.deep (.dl b a (eV ks aG) as1 dss1))) λd=>U.nx (ρ.set n (.deep (.dl b a (eV ks aG) as1 (qG ks b3 aG d))))
section
variable{X:aK}{b:Bool}{n:Nat}{x:Str}{px pos eb de b6 jF hG qw cp:Pos}{e f:UV}{iX ml:a1}
def aaU{i:Nat}(a4:X.N.Nodup)(ay:X.N[i]?=some x)(ao:Loc X.env.scope x)(al:Xi (.Dict [] [] qw) (some (.Name x eb)) pos.line X.env=pure false:=by rfl)(bu:X.fn x=true\/X.env.scope.names.lookup x=some .local:=by first|exact .inl rfl|exact .inr rfl|assumption):
  fo X (.Assign [.Name x eb] (.Dict [] [] qw) pos) (aaS b i):=by
 refine⟨_,oq a4 ay ao (Hy (b:=b)) al bu,λU ρ h R W B H σ D e s=>?_⟩;intro p ae;obtain⟨aU,a9,bE⟩:=e.toWd.fresh ae;refine s.nx _ _ B _ (h p) ((e.allocH ae _).set i ⟨rfl,λa ar=>?_,by simp[hN.adr,hN.ins],0,[],dZ,.nil,λ_ _ z=>by simp at z,rfl,λj a ds z=>by simp at z⟩ (λa _ z=>by rcases z with z|⟨_,z⟩<;>cases z) λa ar j _ m=>?_) (bM.refl _ _)
 ·have:a=p:=by simpa[hN.adr,hN.ins]using ar
  subst this;exact⟨aU,bE⟩
 ·have:a=p:=by simpa[aD.adrs,hN.adr,hN.ins]using ar
  subst this;exact e.notNew ae m rfl
def IE{α:Type}:∀{ks:List Zt}{ds:List α}{k:Zt}{x:α},bJ ks ds k=some x->k∈ks
 |[],_,_,_,h=>by simp[bJ]at h
 |_::_,[],_,_,h=>by simp[bJ]at h
 |k'::ks,d::ds,k,x,h=>by
  rw[bJ]at h;by_cases e:k'=k
  ·rw[e];exact Sx
  ·rw[SL e]at h;exact Sz _ (IE h)
def IF{K:Sv}{t:bP}{U:gC}{D:mE}{ρ gd:Zg}{R:aj}{W:TI->Prop}{B IG H:aj}{σ:St}{a x:TI}{ks1 ks:List Zt}{as as1:Zo}{b3 dss1:List (List L3.D)}{j:Nat}{ds:List L3.D}{F:L3.D->List (List L3.D)}(r2:fm K t ml)(eZ:aO K R W B H σ gd)(aA:ρ[n]?=some (.deep (.dl b a ks as b3)))(ah:ρ.set n (.deep (.dl b a ks1 as1 dss1))=gd)(ao:as1[j]?=some x)(hd:dss1[j]?=some ds)(am:ds.length<TT)(g:bM R IG B)(du:rz K R W IG U D)(au:ml (ρ.set n (.deep (.dl b a ks1 as1 dss1))) λd=>U.nx (ρ.set n (.deep (.dl b a ks1 as1 (F d)))))(jb:∀d,F d=dss1.set j (ds++[d])):
  v6 K "list" (.ref x) H/\vW t vV σ H λxs cR=>EJ (.ref x) xs cR λ_ kz=>D.nx σ kz:=by
 have IH:n<ρ.length:=by
  by_cases z:n<ρ.length
  ·exact z
  ·rw[S9 (by lia)]at aA;cases aA
 have CS:gd[n]?=some (.deep (.dl b a ks1 as1 dss1)):=by rw[<-ah,Tz IH]
 obtain⟨_,bG⟩:=eZ.deepAt CS;obtain⟨_,_,_,_,_,na⟩:=bG.ok;obtain⟨vs,aL,_⟩:=na.at_ j x ds ao hd;refine⟨.inl ⟨rfl,vs,cx.of aL⟩,?_⟩;rw[ah]at au;refine r2 gd _ au R W B H σ _ eZ λd v br aQ aP a9 aI a'=>?_;obtain⟨f5,kF⟩:=a9.deepAt CS;obtain⟨hq,pB,cT,eE,jX,nF⟩:=kF.ok;have CT:aQ a=some (hx b a hq ks1 pB (as1.map V.ref)):=cT;obtain⟨j0,aaV,II⟩:=nF.at_ j x ds ao hd;have uW:(a::as1).Nodup:=kF.nd;have cA:x∈as1:=Th ao;have aaW:a≠x:=λz=>(T8.mp uW).1 (by rw[z];exact cA);refine⟨x,j0,v,rfl,rfl,aaV,by rw[II.length];exact am,?_⟩;have bE:=a9.deepW (c':=.dl b a ks1 as1 (F d)) (x:=x) (o:=.lst (j0++[v])) CS (Sz _ cA) rfl (λy aN=>aN) uW ⟨hq,pB,by rw[c6 aaW];exact CT,eE,jX,by rw[jb,TH];exact nF.len,λi y es aN lG=>?_⟩
 ·rw[<-ah,TV]at bE;exact du.nx _ _ br _ aP bE (g.trans aI)
 ·rw[jb]at lG;by_cases z:j=i
  ·subst z;rw[ao]at aN;cases aN;rw[Tz (by have:=T7.mp hd;exact this.1)]at lG;cases lG;exact⟨_,dZ,II.append (.cons a' .nil)⟩
  ·rw[Tx z]at lG;obtain⟨us,xP,aaX⟩:=nF.at_ i y es aN lG;refine⟨us,?_,aaX⟩;rw[c6 ?_]
   ·exact xP
   ·rintro rfl;have bj:i<as1.length:=(T7.mp aN).1;exact z ((WK bj (T8.mp uW).2).mp (aN.trans ao.symm)).symm
def aaY(n:Nat)(bn:X.A.units+4<XA)(aB:bg X e iX)(bu:bg X f ml)(a4:X.N[n]?=some x:=by rfl)(aL:gz X.env.scope x:=by first|exact SA rfl|exact SI (SA rfl)|exact SI (SI rfl))(hd:(x==("__debug__":Str))=false:=by decide)(dI:(x==("__classdict__":Str))=false:=by decide)(gM:W1 (.Name x px) "setdefault" X.env (Xv (.Name x px) X.env)=Xv (.Name x px) X.env:=by rfl)(jl:((Xn b6 (SZ [e,.List [] cp] X.env)).all (λx => !x.1)&&(XV b6 (XB [] X.env)).all (λx=>x.1.isSome)
   && decide (([e,.List [] cp]:Zp).length+([]:Zr).length+(if([]:Zr).isEmpty then 0 else 1)<30))=true:=by rfl)(gN:(de.endLine==b6.line)=true:=by rfl)(o9:SZ [e,.List [] cp] X.env=(false,Xv e X.env)::SZ [.List [] cp] X.env:=by rfl)(jQ:SZ [.List [] cp] X.env=(false,Xv (.List [] cp) X.env)::SZ [] X.env:=by rfl)(aaZ:(Xn b6 (SZ [.List [] cp] X.env)).any (·.1)=false:=by rfl)(CB:W1 (.Call (.Attribute (.Name x px) "setdefault" de) [e,.List [] cp] [] b6) "append" X.env (Xv (.Call (.Attribute (.Name x px) "setdefault" de) [e,.List [] cp] [] b6) X.env)=Xv (.Call (.Attribute (.Name x px) "setdefault" de) [e,.List [] cp] [] b6) X.env:=by rfl)(CC:((Xn hG (SZ [f] X.env)).all (λx => !x.1)&&(XV hG (XB [] X.env)).all (λx=>x.1.isSome)
   && decide ([f].length+([]:Zr).length+(if([]:Zr).isEmpty then 0 else 1)<30))=true:=by rfl)(CD:(jF.endLine==hG.line)=true:=by rfl)(nK:SZ [f] X.env=(false,Xv f X.env)::SZ [] X.env:=by rfl)(CE:(Xn hG (SZ ([]:Zp) X.env)).any (·.1)=false:=by rfl)(kx:Xi (.Call (.Attribute (.Call (.Attribute (.Name x px) "setdefault" de) [e,.List [] cp] [] b6) "append" jF) [f] [] hG) none pos.line X.env=pure false:=by rfl):
  fo X (.Expr (.Call (.Attribute (.Call (.Attribute (.Name x px) "setdefault" de) [e,.List [] cp] [] b6) "append" jF) [f] [] hG) pos) (aaT b n iX ml):=by
 obtain⟨_,h1,r1⟩:=aB;obtain⟨_,h2,r2⟩:=bu
 refine⟨_,pT (rn Up VW VX v7
  (aaR W9 PySem.F.type_dict_setdefault (aaN (b:=b) bn) (h5 a4 aL hd dI) (eh h1 (eh (s8 fC) fC jQ) o9) gM jl gN o9 aaZ)
  (eh h2 fC nK) CB CC CD nK CE) kx,λU ρ h R W B H σ D eZ du=>?_⟩
 obtain⟨a,ks,as,b3,aA,h⟩:=h;obtain⟨bo,bG⟩:=eZ.deepAt aA;obtain⟨a3,oD,c4,bC,bD,na⟩:=bG.ok;refine⟨_,bo,⟨a,rfl,b,a3,ks,oD,_,c4,pk eZ.bh bD bC⟩,?_⟩;refine r1 ρ _ h R W B H σ _ eZ λy v aZ aq z1 aU aE az=>?_;obtain⟨aG,rfl,ag,am,ahP,hz,au⟩:=z1;obtain⟨c,rfl⟩:=xQ az;refine⟨S8 _,λp ae=>?_⟩;obtain⟨aR,bK,e7⟩:=aU.toWd.fresh ae;have a9:=aU.allocH ae (.lst []);have io:∀j,¬cy σ ρ j p:=λj m=>aU.notNew ae m rfl;obtain⟨_,f5⟩:=a9.deepAt aA;obtain⟨hq,pB,cT,eE,jX,nF⟩:=f5.ok;have CT:(upd aq p (.lst [])) a=some (hx b a hq ks pB (as.map V.ref)):=cT;have yf:as.length=b3.length:=nF.len;have uW:(a::as).Nodup:=f5.nd;have ahQ:bJ ks b3 aG=none\/∃ds,bJ ks b3 aG=some ds:=by cases bJ ks b3 aG with|none=>exact .inl rfl|some ds=>exact .inr ⟨ds,rfl⟩
 refine⟨a,c,.ref p,hq,ks,pB,as.map V.ref,aG,rfl,rfl,⟨CT,pk a9.bh jX eE⟩,ux a9.bh ag az,am,λv aL=>?_,λaM CU=>?_⟩
 ·
  obtain⟨j,ez,eT⟩:=ID aL
  have CV:j<b3.length:=by
   have:=T7.mp ez;obtain⟨z,_⟩:=this;rw[Sw]at z;lia
  have nC:=S5 CV
  obtain⟨bF,qI,rfl⟩:∃bF,as[j]?=some bF/\v=.ref bF:=by
   rw[SX]at ez;cases q:as[j]? with
   |none=>rw[q]at ez;cases ez
   |some bF=>rw[q]at ez;exact⟨bF,rfl,(SS ez).symm⟩
  have m:aG∈ks:=by
   by_cases z:aG∈ks
   ·exact z
   ·have kB:(as.map V.ref).length=ks.length:=by
     have:=(eT b3 b3[j] .non (by rw[Sw];lia) nC).1;obtain⟨_,aF,_⟩:=IC this
     exact absurd aF (by
      have:=IE aL
      exact absurd this z)
    exact absurd ((ph kB).mpr z) (by rw[aL];simp)
  have li:eV ks aG=ks:=SC m;refine IF (ds:=b3[j]) r2 a9 aA (by rw[li];exact aaP aA) qI nC (hz _ (eT b3 b3[j] .non (by rw[Sw];lia) nC).1) aE du (au as b3) λd=>?_;rw[<-(eT b3 b3[j] d (by rw[Sw];lia) nC).2];unfold qG;rw[SC m]
 ·have kB:(as.map V.ref).length=ks.length:=by
   rw[Sw];lia
  have m:aG∉ks:=(ph kB).mp aM;have li:eV ks aG=ks++[aG]:=SL m;rw[Sw]at kB
  have pa:a≠p:=λz=>by
   have:=bG.ok;obtain⟨_,CW⟩:=aU.deepAt aA;exact CW.ok.ne (a:=a) Sx (by rw[z];exact ae)
  have pin:p∉as:=λz=>by
   obtain⟨_,CW⟩:=aU.deepAt aA;exact CW.ok.ne (a:=p) (Sz _ z) ae
  have IJ:(a::(as++[p])).Nodup:=by
   rw[<-To,We];refine⟨uW,by simp,λx ao y aN=>?_⟩;rw[SO.mp aN];rcases SK.mp ao with z|z
   ·rw[z];exact pa
   ·rintro rfl;exact pin z
  have bE:=a9.deepN (c':=.dl b a (ks++[aG]) (as++[p]) (b3++[[]])) (p:=p) (vs:=[]) (o:=hx b a CU (ks++[aG]) (pB++[c]) (as.map V.ref++[.ref p])) aA dZ aR e7 io rfl (λy aN=>by
    rcases SR.mp aN with z|z
    ·exact .inl z
    ·exact .inr (SO.mp z)) IJ ⟨CU,pB++[c],by
     show upd _ a _ a=_
     rw[dZ,SJ];rfl,?_,?_,by rw[SH,SH,yf];rfl,λi y es aN lG=>?_⟩
  ·have bE:aO X.K R W aZ (upd (upd aq p (.lst [])) a (hx b a CU (ks++[aG]) (pB++[c]) (as.map V.ref++[.ref p]))) σ (ρ.set n (.deep (.dl b a (eV ks aG) (as++[p]) (b3++[[]])))):=by rw[li];exact bE
   refine IF (F:=λd=>qG ks b3 aG d) (ds:=[]) (j:=as.length) (x:=p) (as1:=as++[p]) (dss1:=b3++[[]]) (ks1:=eV ks aG) r2 bE aA rfl (by rw[Tg (Sy _)];simp) (by rw[yf,Tg (Sy _)];simp) (by decide) aE du (au _ _) λd=>?_;unfold qG;rw[SL m,yf,List.set_append_right _ _ (Sy _)];simp
  ·rw[SJ,SJ];exact eE.append (.cons az .nil)
  ·intro z k' aa0;rcases SR.mp aa0 with w|w
   ·exact jX z k' w
   ·rw[SO.mp w];exact ag z
  ·have aa1:y≠a:=by
    rintro rfl;have:y∈as++[p]:=Th aN;exact(T8.mp IJ).1 this
   show ∃vs,upd _ a _ y=_/\_
   rw[c6 aa1];by_cases z:i<as.length
   ·rw[Tt z]at aN;rw[Tt (by lia)]at lG;exact nF.at_ i y es aN lG
   ·rw[Tg (by lia)]at aN lG
    have o8:i-as.length=0:=by
     by_cases q:i-as.length=0
     ·exact q
     ·rw[S9 (by simp;lia)]at aN;cases aN
    rw[o8]at aN;rw[<-yf,o8]at lG;simp at aN lG;subst aN lG;exact⟨[],dZ,.nil⟩
end
section
variable{K:Sv}{R:aj}{W:TI->Prop}{B av H H':aj}{σ:St}{ρ:Zg}
def aO.fzIn:∀{as:Zo}{b3:Zw}{B:aj},aO K R W B H σ ρ->as.Nodup->mP K B H as b3->(∀a∈as,R a=none/\B a=none/\∀i,¬cy σ ρ i a)->∃av,aO K R W av H σ ρ/\bM R B av/\Reps K av (as.map V.ref) (b3.map D.lst)/\∀a,a∉as->av a=B a
 |[],[],B,e,_,_,_=>⟨B,e,bM.refl _ _,.nil,λ_ _=>rfl⟩
 |[],_::_,_,_,_,h,_=>by have:=h.len;simp at this
 |_::_,[],_,_,_,h,_=>by have:=h.len;simp at this
 |a::as,ds::b3,B,e,nd,h,bu=>by
  obtain⟨vs,h1,h2⟩:=h.at_ 0 a ds rfl rfl;obtain⟨aU,a9,bE⟩:=bu a Sx;obtain⟨ah,aE⟩:=e.freeze h1 aU a9 bE;obtain⟨cq,dL⟩:=T8.mp nd
  have h':mP K (upd B a (.lst vs)) H as b3:=⟨by have:=h.len;simpa using this,λi x es ao aB=>by
   obtain⟨us,dq,dM⟩:=h.at_ (i+1) x es (by simpa using ao) (by simpa using aB)
   exact⟨us,dq,dM.mono aE.s⟩⟩
  obtain⟨br,ap,aI,r2,iU⟩:=aO.fzIn ah dL h' λx ao=>by
   obtain⟨aR,bK,e7⟩:=bu x (Sz _ ao);exact⟨aR,by rw[c6 (by rintro rfl;exact cq ao)];exact bK,e7⟩
  refine⟨br,ap,aE.trans aI,.cons (.lst (aI.s _ _ dZ) (h2.mono (aE.trans aI).s)) r2,λx ao=>?_⟩;rw[iU x λz=>ao (Sz _ z),c6 (by rintro rfl;exact ao Sx)]
def aO.fzDL(e:aO K R W B H σ ρ){i:Nat}{c:hN}(aA:ρ[i]?=some (.deep c)):∃av,bM R B av/\aO K R W av H σ (ρ.set i (.val (match c with|.ll _ _ b3=>.lst (b3.map D.lst)|.dl b _ ks _ b3=>.dct b ks (b3.map D.lst)))):=by
 obtain⟨bo,bG⟩:=e.deepAt aA;have f:=e.setV (d:=.non) i (v:=.non) .non
 have g8:∀x∈c.adr::c.ins,∀j,¬cy (σ.set i (some V.non)) (ρ.set i (.val .non)) j x:=λx ao j m=>by
  obtain⟨n,m⟩:=rx m (by simp) (by simp) rfl;exact n (e.sep j i x m (.inr ⟨c,aA,ao⟩))
 have IH:i<ρ.length:=by
  by_cases z:i<ρ.length
  ·exact z
  ·rw[S9 (by lia)]at aA;cases aA
 have eL:∀(o:eX)(b3:Zw)(d:D),H c.adr=some o->mP K B H c.ins b3->(∀br,b2 B br->br c.adr=some o->Reps K br (c.ins.map V.ref) (b3.map D.lst)->bA K br (.ref c.adr) d)->∃av,bM R B av/\aO K R W av H σ (ρ.set i (.val d)):=λo b3 d h1 h2 aF=>by
  obtain⟨cq,dL⟩:=T8.mp bG.nd;obtain⟨br,ap,aI,r2,iU⟩:=f.fzIn dL h2 λx ao=>⟨(bG.fr x (Sz _ ao)).1,(bG.fr x (Sz _ ao)).2,g8 x (Sz _ ao)⟩;obtain⟨aR,bK⟩:=bG.fr c.adr Sx;obtain⟨bw,g3⟩:=ap.freezeO h1 aR (by rw[iU _ cq];exact bK) (g8 _ Sx);refine⟨_,aI.trans g3,?_⟩;have cT:=bw.setV i (aF _ (aI.trans g3).s dZ (r2.mono g3.s));rw[TV,TV,aaO bo]at cT;exact cT
 cases c with
 |ll a as b3=>exact eL _ b3 _ bG.ok.1 bG.ok.2 λbr s h r=>.lst h r
 |dl b a ks as b3=>
  obtain⟨a3,oD,h1,h2,aF,bb⟩:=bG.ok;exact eL _ b3 _ h1 bb λbr s h r=>.dct h (h2.mono s) aF r
end
def aa2(i:Nat)(s:cB):cB:=λU ρ=>∃b a ks as b3,ρ[i]?=some (.deep (.dl b a ks as b3))/\s U (ρ.set i (.val (.dct b ks (b3.map D.lst))))
section
variable{X:aK}{bz:UV}{w:cU}{pos:Pos}
def aa3{st:Zq}{s:cB}(i:Nat)(h:gs X st s):gs X st (aa2 i s):=by
 obtain⟨_,h1,r1⟩:=h;refine⟨_,h1,λU ρ h R W B H σ D e du=>?_⟩;obtain⟨b,a,ks,as,b3,aA,z⟩:=h;obtain⟨av,g,aS⟩:=e.fzDL aA;exact r1 U _ z R W av H σ D aS (du.grow g)
end
end L3
namespace Cut
open PySem L2 L3
open PySem.Builtin.Int (intBits)
def fS.refl(rs:Zu):fS rs rs:=λ_=>rfl
end Cut
namespace L3
open PySem PySem.Spec PyProof.Rows PySem.W L2
section
variable{X:aK}
def ld_var{E:Tl->TE->Prop}{pins:Zs}{s:TE}{σ:L2.St}{H:aj}{i:Nat}{x:Str}{v:V}{pos:Pos}{Q:Tl->TE->Prop}(I:Inv X pins σ H s)(a4:X.N[i]?=some x)(aL:gz X.env.scope x)(e:σ[i]?=some (some v))(h:∀u,RelV v u->Q u s)(hd:(x==("__debug__":Str))=false:=by decide)(dI:(x==("__classdict__":Str))=false:=by decide):wpAny (T0 X.prog X.w) X.A (Xv (.Name x pos) X.env) Q E s:=by
 obtain⟨m,aM,am⟩:=I.loc;obtain⟨u,r,l⟩:=am i x v a4 e aL;have eL:=h u r;rcases l with⟨ag,ax⟩|⟨ag,c,hc,pS⟩
 ·exact Yg (X2 I.ok.kind ag aM ax eL) hd
 ·rcases ag with ag|ag
  ·exact Yg (X4 I.ok.kind ag hc pS eL) hd
  ·exact Yg (YA I.ok.kind ag hc pS eL dI) hd
end
end L3
namespace L3
open PySem PySem.Spec PyProof.Rows L2
section
open PySem.W
variable{X:aK}
end
end L3
namespace L2
open PySem PySem.Spec PyProof.Rows PySem.W
variable{X:aK}
def CX(i:Nat)(f:TI)(sp:hK)(E:gi)(t:fi):bP:=λσ H Q=>σ[i]?=some (some (.ref f))/\vZ sp [] E t σ H Q
def IK{i:Nat}{x y:Str}{f:TI}{ps:Zm}{j k:Nat}{sp:hK}{p pos:Pos}{e:UV}{es:Zp}{t:fi}(c:bZ X.prog X.w X.K X.mg X.base y ps j sp)(ax:X.mg y=some (.ref f))(ak:e' k X.A)(ar:hJ X (e::es) t)(hjk:j<=k)(a4:X.N[i]?=some x)(aL:gz X.env.scope x)(hd:(x==("__debug__":Str))=false)(dI:(x==("__classdict__":Str))=false)(aB:SZ (e::es) X.env=(false,Xv e X.env)::SZ es X.env:=by rfl)(fa:(Xn pos (SZ es X.env)).any (·.1)=false:=by rfl):
  b4 X (.Call (.Name x p) (e::es) [] pos) (CX i f sp p9 t):=by
 obtain⟨ahW,fd,m,kp,b,F⟩:=c.ex;rw[ax]at m;cases m;intro pins s σ H Q I h;obtain⟨h0,h⟩:=h;refine XQ (L3.ld_var I a4 aL h0 (λu r=>?_) hd dI);cases r;refine Ww (h₀:=X.base) I.ok.mod.kin kp (cm (ar pos pins s σ H _ I h) λus az ⟨vs,aq,be,r,q⟩=>⟨be.kIn,?_⟩) aB fa;exact Ep F (ak.mono hjk) b .nil EN be r q
end L2
namespace L3
open PySem L2
section
variable{X:aK}{e:UV}{es:Zp}{w:cU}{u dq dM:a1}{p pos:Pos}{n:Nat}{uX ba:ca}
def IL{x:Str}{f:TI}(ax:X.mg x=some (.ref f))(aC:eY X x)(hd:(x==("__debug__":Str))=false:=by decide):bg X (.Name x pos) (oE (.kfn f)):=
 ⟨_,zZ (v:=.ref f) aC ax rfl hd,λ_ _ h _ _ B H _ _ e q=>q _ _ B H h e (bM.refl _ _) (.kfn f)⟩
def call_plain{x:Str}{ps:Zm}{R:aj}{W:TI->Prop}{B H:aj}{σ:St}{ρ:Zg}{F:ca}{t:fi}{w:iq}(r1:E1 X.K t w){k:D->Prop}(h:oI n F w ρ k){Q:cJ}(e:aO X.K R W B H σ ρ)(q:∀d v av H',k d->aO X.K R W av H' σ ρ->bM R B av->bA X.K av v d->Q v H'):vZ (b7 X.K n F) [] p9 t σ H Q:=by
 refine r1 ρ _ h R W B H σ _ e λas vs aZ aq z1 ah aE az=>?_;rw[SP];refine rC ah az z1.1 z1.2 λr v br aQ ag ap aI res=>?_;cases r with
 |no=>exact ag.elim
 |bag=>exact ag.elim
 |pin v d=>exact ag.elim
 |deep c=>exact ag.elim
 |val d=>exact q d v br aQ ag ap (aE.trans aI) res
 |new d=>exact q d v br aQ ag ap (aE.trans aI) (bA.mono iP res)
 |own c=>
  cases c with
  |d _ _ _ _=>exact ag.elim
  |l ds=>
  obtain⟨a,rfl,aU,a9,us,bE,db⟩:=res
  obtain⟨bw,g3⟩:=ap.freeze bE (ah.toWd.fresh aU).1 a9 λi m=>absurd aU (by
   have bf:cy σ ρ i a:=m
   exact(ah.mutOk bf).2)
  exact q _ _ _ _ ag bw ((aE.trans aI).trans g3) (.lst dZ (db.mono g3.s))
def aa5(i:Nat)(aU a9:TI)(n:Nat)(uX ba:ca)(w:iq):a1:=λρ k=>(ρ[i]?=some (.val (.kfn aU))/\oI n uX w ρ k)\/(ρ[i]?=some (.val (.kfn a9))/\oI n ba w ρ k)
def aa6(i:Nat){x bI dD:Str}{cc ci:TI}{yg yh:Zm}{ez eT lv:Nat}{w:iq}(c1:bZ X.prog X.w X.K X.mg X.base bI yg ez (b7 X.K n uX))(bf:X.mg bI=some (.ref cc))(c2:bZ X.prog X.w X.K X.mg X.base dD yh eT (b7 X.K n ba))(bL:X.mg dD=some (.ref ci))(ak:e' lv X.A)(ar:lW X (e::es) w)(h1:ez<=lv:=by decide)(h2:eT<=lv:=by decide)(a4:X.N[i]?=some x:=by rfl)(aL:gz X.env.scope x:=by first|exact SA rfl|exact SI (SA rfl)|exact SI (SI rfl))(hd:(x==("__debug__":Str))=false:=by decide)(dI:(x==("__classdict__":Str))=false:=by decide)(aB:SZ (e::es) X.env=(false,Xv e X.env)::SZ es X.env:=by rfl)(fa:(Xn pos (SZ es X.env)).any (·.1)=false:=by rfl):
  bg X (.Call (.Name x p) (e::es) [] pos) (aa5 i cc ci n uX ba w):=by
 obtain⟨t,aE,r1⟩:=ar;refine⟨λσ H Q=>CX i cc (b7 X.K n uX) p9 t σ H Q\/CX i ci (b7 X.K n ba) p9 t σ H Q,λpins s σ H Q I h=>?_,λρ k h R W B H σ Q e q=>?_⟩
 ·rcases h with h|h
  ·exact IK c1 bf ak aE h1 a4 aL hd dI aB fa pins s σ H Q I h
  ·exact IK c2 bL ak aE h2 a4 aL hd dI aB fa pins s σ H Q I h
 ·rcases h with⟨h0,h⟩|⟨h0,h⟩
  ·obtain⟨v,mf,cd⟩:=e.val h0;cases cd;exact .inl ⟨mf,call_plain (x:=bI) (ps:=yg) r1 h e q⟩
  ·obtain⟨v,mf,cd⟩:=e.val h0;cases cd;exact .inr ⟨mf,call_plain (x:=bI) (ps:=yg) r1 h e q⟩
def aa7(u:a1):cU:=λρ k=>u ρ λx=>∃ds,x=.lst ds/\k (jf 0 ds)
def yi:∀(n:Nat)(ds:Zh),(jf n ds).length=ds.length
 |_,[]=>rfl
 |n,d::ds=>by simp[jf,yi (n+1) ds]
def IM:∀(n:Nat){ds:Zh}{i:Nat}{d:D},ds[i]?=some d->(jf n ds)[i]?=some (.tup [.int ((n+i:Nat):Int),d])
 |_,[],i,d,h=>by simp at h
 |n,x::ds,0,d,h=>by simp at h;subst h;rfl
 |n,x::ds,i+1,d,h=>by
  have:=IM (n+1) (ds:=ds) (i:=i) (d:=d) (by simpa using h);rw[show n+1+i=n+(i+1) by lia]at this;simpa[jf]using this
def IN{tp:Pos}{iT:Zp}{aG:Nat}{a:UV}(ar:bg X a u)(aC:eY X "enumerate")(ax:X.mg "enumerate"=none)(al:SZ [a] X.env=[(false,Xv a X.env)]:=by rfl):Iy X (.Tuple iT aG tp) (.Call (.Name "enumerate" p) [a] [] pos) (aa7 u):=by
 obtain⟨_,h1,r1⟩:=ar;refine⟨_,BH aC ax (eh h1 fC (by rw[al];rfl)) al,λρ k h R W B H σ Q e q=>?_⟩;refine r1 ρ _ h R W B H σ _ e λd v aZ aq z1 ah aE az=>?_;obtain⟨ds,rfl,z⟩:=z1;obtain⟨fk,vs,rfl,ej,fL⟩:=az.lstV;refine⟨fk,rfl,⟨vs,cx.of (ah.bh _ _ ej)⟩,q _ _ aZ aq z ah aE λH' qx i=>?_⟩;have dw:=qx _ _ ej;have ll:=fL.length;rw[yi];refine⟨λay=>?_,λay=>⟨vs,cx.of dw,by lia⟩,λx aQ ay y=>?_⟩
 ·exact⟨vs,vs[i],cx.of dw,S5 (by lia)⟩
 ·obtain⟨xB,y,ae,rfl,rfl,aN⟩:=y;obtain⟨d,hd,gH⟩:=fL.getV (aN vs (cx.of dw));have:=IM 0 hd;rw[TX]at this;exact⟨xB,_,_,ae,rfl,rfl,this,.cons (.int _) (.cons gH .nil)⟩
def Reps.dropLast{K:Sv}{B:aj}:∀{vs:Zf}{ds:Zh},Reps K B vs ds->Reps K B vs.dropLast ds.dropLast
 |_,_,.nil=>.nil
 |_,_,.cons r .nil=>.nil
 |_,_,.cons r (.cons r2 t)=>.cons r (Reps.dropLast (.cons r2 t))
def aa8(i j:Nat)(dq dM:a1):cB:=λU ρ=>∃(ds:Zh)(z:D),ρ[j]?=some (.own (ds++[z]))/\dq ρ λbo=>dM ρ λbG=>U.nx ((ρ.set j (.own ds)).set i (.val (.tup [bo,bG,z])))
def aa9(i j:Nat){x y:Str}{ah ap:UV}{px eb de b6:Pos}{IP}(h1:bg X ah dq)(h2:bg X ap dM)(a4:X.N.Nodup)(ay:X.N[i]?=some y)(aN:Loc X.env.scope y)(bS:X.N[j]?=some x:=by rfl)(aL:gz X.env.scope x:=by first|exact SA rfl|exact SI (SA rfl)|exact SI (SI rfl))(hd:(x==("__debug__":Str))=false:=by decide)(dI:(x==("__classdict__":Str))=false:=by decide)(gM:W1 (.Name x px) "pop" X.env (Xv (.Name x px) X.env)=Xv (.Name x px) X.env:=by rfl)(gN:(de.endLine==b6.line)=true:=by rfl)(o9:SZ [ah,ap,.Call (.Attribute (.Name x px) "pop" de) [] [] b6] X.env=(false,Xv ah X.env)::SZ [ap,.Call (.Attribute (.Name x px) "pop" de) [] [] b6] X.env:=by rfl)(jQ:SZ [ap,.Call (.Attribute (.Name x px) "pop" de) [] [] b6] X.env=(false,Xv ap X.env)::SZ [.Call (.Attribute (.Name x px) "pop" de) [] [] b6] X.env:=by rfl)(nK:SZ [.Call (.Attribute (.Name x px) "pop" de) [] [] b6] X.env=(false,Xv (.Call (.Attribute (.Name x px) "pop" de) [] [] b6) X.env)::SZ [] X.env:=by rfl)(al:Xi (.Tuple [ah,ap,.Call (.Attribute (.Name x px) "pop" de) [] [] b6] IP p) (some (.Name y eb)) pos.line X.env=pure false:=by rfl)(bu:X.fn y=true\/X.env.scope.names.lookup y=some .local:=by first|exact .inl rfl|exact .inr rfl|assumption):
  fo X (.Assign [.Name y eb] (.Tuple [ah,ap,.Call (.Attribute (.Name x px) "pop" de) [] [] b6] IP p) pos) (aa8 i j dq dM):=by
 obtain⟨_,aE,r1⟩:=h1;obtain⟨_,aI,r2⟩:=h2;refine⟨_,oq a4 ay aN (vX (eh aE (eh aI (eh (EH Up W4 W5 MP (h5 bS aL hd dI) gM gN) fC nK) jQ) o9)) al bu,λU ρ h R W B H σ D e s=>?_⟩;obtain⟨ds,z,aA,h⟩:=h;refine r1 ρ _ h R W B H σ _ e λbo v1 aZ aq z1 aU bO az=>?_;refine r2 ρ _ z1 R W aZ aq σ _ aU λbG dC br aQ aP a9 bV a'=>?_;obtain⟨a,vs,aR,bK,e7,pY,qJ⟩:=a9.ownAt aA;have ll:=qJ.length;rw[SH,TA]at ll;obtain⟨fb,ox,cg⟩:=qJ.get (i:=ds.length) (d:=z) (by simp);refine⟨_,aR,.inl ⟨rfl,vs,cx.of pY⟩,a,vs,fb,rfl,rfl,pY,by rw[ll];exact ox,?_⟩
 have bE:=a9.write aR aA (ds':=ds) (vs:=vs.dropLast) (by
  have:=qJ.dropLast
  rwa [Wj]at this)
 refine⟨kj,λxB IQ=>?_⟩;have g3:=bE.grow IQ (.tup [v1,dC,fb]);exact s.nx _ _ _ _ aP ((bE.alloc IQ _).setV i (.tup dZ (.cons ((az.mono bV.s).mono g3.s) (.cons (a'.mono g3.s) (.cons (cg.mono g3.s) .nil))))) ((bO.trans bV).trans g3)
end
end L3
namespace Cut
open PySem L2 L3
open PySem.Builtin.Int (intBits)
def aa'{l a b c:aa}(am:l.1≠0\/l.2.1≠0)(ar:ln l a=0)(ab:ln l b=0)(hc:ln l c=0)(hH:0<c.2.2):bi a b c=0:=by
 have ah:l.1*bi a b c=0:=by
  unfold ln at ar ab hc;unfold bi crs;grind
 have ap:l.2.1*bi a b c=0:=by
  unfold ln at ar ab hc;unfold bi crs;grind
 rcases am with h|h
 ·exact(Tu.mp ah).resolve_left h
 ·exact(Tu.mp ap).resolve_left h
def aba{l:aa}{cl:Zd}(am:l.1≠0\/l.2.1≠0)(t:bQ cl)(ae:∀p∈cl,0<p.2.2):(cl.filter λx=>decide (ln l x=0)).length<=2:=by
 have cY:=t.sub (List.filter_sublist (p:=λx=>decide (ln l x=0)))
 have z:∀x∈cl.filter λx=>decide (ln l x=0),ln l x=0/\0<x.2.2:=λx ao=>by
  have:=Uw.mp ao;exact⟨by simpa using this.2,ae x this.1⟩
 match h:cl.filter λx=>decide (ln l x=0),cY,z with
 |[],_,_=>simp
 |[_],_,_=>simp
 |[_,_],_,_=>simp
 |a::b::c::r,cY,z=>
  exfalso
  have:=cY.1.1 c (by simp);have e:=aa' am (z a (by simp)).1 (z b (by simp)).1 (z c (by simp)).1 (z c (by simp)).2;lia
def pos(f:aa->Int)(ps:Zd):Nat:=(ps.filter λx=>decide (0<f x)).length
def IR{f:aa->Int}{mt:aa->aa->aa}(ax:∀p q,f p*f q<0->f (mt p q)=0):∀(ps:Zd)(w:aa),pos f (dg f mt ps w)<=pos f ps
 |[],_=>Sy _
 |p::r,w=>by
  have cH:=IR ax r w;show pos f (kp f p++cA f mt p (r.headD w)++dg f mt r w)<=_
  unfold pos at cH⊢;rw[U4,U4,SH,SH]
  have h1:((kp f p).filter λx=>decide (0<f x)).length=if 0<f p then 1 else 0:=by
   unfold kp;by_cases z:0<f p
   ·rw[SC (by lia),SC z];simp[z]
   ·rw[SL z];by_cases y:0<=f p
    ·rw[SC y];simp[z]
    ·rw[SL y];rfl
  have h2:((cA f mt p (r.headD w)).filter λx=>decide (0<f x)).length=0:=by
   unfold cA;by_cases z:f p*f (r.headD w)<0
   ·rw[SC z,Vt,SL (by rw[ax _ _ z];decide)];rfl
   ·rw[SL z];rfl
  rw[h1,h2,Vt];by_cases z:0<f p
  ·rw[SC z,SC (by simpa using z),SN];lia
  ·rw[SL z,SL (by simpa using z)];lia
def abb{l:aa}{mt:aa->aa->aa}{ps:Zd}(g5:nX l mt)(am:l.1≠0\/l.2.1≠0)(t:bQ (dz (ln l) mt ps))(ae:∀p∈dz (ln l) mt ps,0<p.2.2):(dz (ln l) mt ps).length<=ps.length+1:=by
 have aP:=aba am t ae;have yg:pos (ln l) (dz (ln l) mt ps)<=pos (ln l) ps:=IR (λp q h=>(g5 p q h).2) ps _
 have CY:∀cl:Zd,(∀x∈cl,0<=ln l x)->cl.length=pos (ln l) cl+(cl.filter λx=>decide (ln l x=0)).length:=by
  intro cl;induction cl with
  |nil=>intro _;rfl
  |cons q cl cH=>
   intro h;have i:=cH λx ao=>h x (Sz _ ao);have gu:=h q Sx;unfold pos at i⊢;rw[Vt,Vt];by_cases z:ln l q=0
   ·rw[SL (by simp[z]),SC (by simp[z]),SN,SN];lia
   ·rw[SC (by simp;lia),SL (by simp[z]),SN,SN];lia
 have BS:∀x∈dz (ln l) mt ps,0<=ln l x:=λx ao=>by
  rcases qv ao with⟨_,h⟩|⟨p,_,q,_,h,rfl⟩
  ·exact h
  ·have:=(g5 p q h).2;lia
 have e:=CY _ BS;have le:pos (ln l) ps<=ps.length:=Vp _ _;by_cases all:pos (ln l) ps=ps.length
 ·
  have uE:∀x∈ps,0<ln l x:=λx ao=>by
   have:=List.length_filter_eq_length_iff.mp all x ao;simpa using this
  have abc:(dz (ln l) mt ps).filter (λx=>decide (ln l x=0))=[]:=by
   rw[List.filter_eq_nil_iff];intro x ao;rcases qv ao with⟨h,_⟩|⟨p,h1,q,h2,h,rfl⟩
   ·have:=uE x h;simp;lia
   ·have a:=uE p h1;have b:=uE q h2;have:=SF a b;lia
  rw[abc]at e;simp at e;lia
 ·lia
structure jG (b m n t:Nat) (s:Piece):Prop where
 cv:fw s.1
 rb:xI b m s.1
 ln:s.1.length<=n
 st:dE t s.2.2
def jG.mono{b m n t b' m' n' t':Nat}{s:Piece}(h:jG b m n t s)(h1:b<=b')(h2:m<=m')(aF:n<=n')(bb:t<=t'):jG b' m' n' t' s:=
 ⟨h.cv,⟨λx ao=>(h.rb.pts x ao).mono h1,λe aB=>by obtain⟨g,a,c⟩:=h.rb.lin e aB;exact⟨g,a.mono h2,c⟩⟩,SE h.ln aF,h.st.mono bb⟩
def xI.cut2{b c m:Nat}{l:aa}{ps:Zd}(h:xI b m ps)(bl:cD c l)(ii:c<=m)(am:l.1≠0\/l.2.1≠0\/l.2.2≠0)(o:aa)(aA:Cut.ln l o=0)(ax:c+m+1<=b)(gt:aa)(e:gt=l\/gt=mh l):xI b m (dz (Cut.ln gt) (a0 l) ps):=by
 have g5:nX gt (a0 l):=by
  rcases e with rfl|rfl
  ·exact xw _
  ·exact(xw _).ng
 have uT:∀u,Cut.ln gt u=0↔Cut.ln l u=0:=λu=>by
  rcases e with rfl|rfl
  ·exact Iff.rfl
  ·rw[m5];lia
 have bR:∀p q,Cut.ln gt p*Cut.ln gt q<0->Cut.ln l p*Cut.ln l q<0:=λp q z=>by
  rcases e with rfl|rfl
  ·exact z
  ·rw[m5,m5,T3]at z;exact z
 refine⟨λx ao=>?_,Q7 (f:=Cut.ln gt) (mt:=a0 l) (ps:=ps) (C:=λu v=>∃g:aa,cD m g/\(g.1≠0\/g.2.1≠0\/g.2.2≠0)/\Cut.ln g u=0/\Cut.ln g v=0) (λu v bn aL=>⟨l,bl.mono ii,am,(uT u).mp bn,(uT v).mp aL⟩) o ((uT o).mpr aA) (λe aB _ _=>h.lin e aB) λe aB c=>?_⟩
 ·rcases Re ao with⟨h1,_⟩|⟨e,aB,c,rfl⟩
  ·exact h.pts x h1
  ·have c:=bR _ _ c;obtain⟨bf,bL⟩:=lq aB;have gp:=(h.pts _ bf).pt;have iZ:=(h.pts _ bL).pt;have c0:=kI gp iZ c;obtain⟨g,iu,aV,uY,uZ⟩:=h.lin e aB
   have u0:(crs e.1 e.2).1≠0\/(crs e.1 e.2).2.1≠0\/(crs e.1 e.2).2.2≠0:=by
    apply TC;intro z;refine c0 ?_;have z1:(crs e.1 e.2).1=0:=TC λy=>z (.inl y);have aP:(crs e.1 e.2).2.1=0:=TC λy=>z (.inr (.inl y));show l.1*(crs e.1 e.2).2.1-l.2.1*(crs e.1 e.2).1=0
    rw[z1,aP];grind
   obtain⟨a,b',ar,ab,hA⟩:=par aV uY uZ u0;obtain⟨dL,ap⟩:=Rf (l:=l) ar ab hA c0;rw[<-kH gp iZ,ap];exact⟨fZ dL,(cD.nP (bl.crs iu) dL).mono ax⟩
 ·obtain⟨g,iu,aV,uY,uZ⟩:=h.lin e aB;obtain⟨lH,z⟩:=g5 _ _ c;exact⟨z,λ_=>⟨g,iu,aV,uY,lH.ln0 uY uZ⟩,λ_=>⟨g,iu,aV,lH.ln0 uY uZ,uZ⟩⟩
def pC{b c m n t:Nat}{l o:aa}{sh:Ze}(h:∀s∈sh,jG b m n t s)(bl:cD c l)(ii:c<=m)(am:l.1≠0\/l.2.1≠0)(aA:Cut.ln l o=0)(ax:c+m+1<=b)(gt:aa)(e:gt=l\/gt=mh l):∀s∈ck (Cut.ln gt) (a0 l) sh,jG b m (n+1) t s:=λs al=>by
 obtain⟨q,au,rfl,c⟩:=ul al;have g:=h q au
 have g5:nX gt (a0 l):=by
  rcases e with rfl|rfl
  ·exact xw _
  ·exact(xw _).ng
 have mr:gt.1≠0\/gt.2.1≠0:=by
  rcases e with rfl|rfl
  ·exact am
  ·rcases am with z|z
   ·exact .inl (by unfold mh sc;dsimp only;lia)
   ·exact .inr (by unfold mh sc;dsimp only;lia)
 obtain⟨mc,eG⟩:=Qy g5.meets ((qp q.1).mpr g.cv.tri) g.cv.1 c;have rb:=g.rb.cut2 bl ii (am.imp id .inl) o aA ax gt e;refine⟨qo.cvx eG ((qp _).mp mc),rb,?_,g.st⟩;have:=abb g5 mr mc λp ae=>(rb.pts p ae).pt.1;have:=g.ln;show(dz (Cut.ln gt) (a0 l) q.1).length<=n+1
 lia
def cD.slA{m g:Nat}{l v:aa}(am:cD m l)(aL:cD g v):cD (m+g+2) (slA v l):=by
 refine⟨SE (TD am.a aL.c) (by lia),SE (TD am.b aL.c) (by lia),?_⟩;have a:=TD am.c aL.c;have b:=TD am.a aL.a;have c:=TD am.b aL.b;have d:=XW a b;rw[Vu]at d;have e:=XW d (SE c (UG _));rw[Vu]at e;exact e
def abd{v l p:aa}:∃c:Int,Cut.ln (slA v l) (Cut.sld v p)=c*Cut.ln l p:=⟨v.2.2*v.2.2,by
 unfold slA Cut.sld Cut.ln;dsimp only
 grind⟩
def jG.slid{b m n t g:Nat}{v:aa}{s:Piece}(h:jG b m n t s)(aL:dE g v):jG (b+g+1) (m+g+2) n (t+g+1) (eU v s):=by
 have v0:=aL.pt.1;refine⟨?_,⟨λx ao=>?_,λe aB=>?_⟩,?_,⟨fZ (t6 aL.pt h.st.pt),aL.bp.sldN h.st.bp aL.pt h.st.pt⟩⟩
 ·exact h.cv.sl aL.pt λp ae=>(h.rb.pts p ae).pt
 ·obtain⟨p,ae,rfl⟩:=SM.mp ao;have:=h.rb.pts p ae;exact⟨fZ (t6 aL.pt this.pt),aL.bp.sldN this.bp aL.pt this.pt⟩
 ·have aB:e∈dj (s.1.map λp=>nP (Cut.sld v p)):=aB;rw[Ck]at aB;obtain⟨d,hd,rfl⟩:=SM.mp aB;obtain⟨l,bl,pv,z1,aP⟩:=h.rb.lin d hd
  have on:∀p,aT p->Cut.ln l p=0->Cut.ln (slA v l) (nP (Cut.sld v p))=0:=λp ae z=>by
   obtain⟨c,hc⟩:=abd (v:=v) (l:=l) (p:=p);rw[z,S1]at hc;obtain⟨k,cr,ag⟩:=j6 (t6 aL.pt ae);rw[ag,BG]at hc;exact(Tu.mp hc).resolve_left cr
  obtain⟨bf,bL⟩:=lq hd;refine⟨slA v l,bl.slA aL.bp,?_,on _ (h.rb.pts _ bf).pt z1,on _ (h.rb.pts _ bL).pt aP⟩;unfold slA;dsimp only;by_cases z:l.1=0
  ·by_cases y:l.2.1=0
   ·have:l.2.2≠0:=by
     rcases pv with q|q|q
     ·exact absurd z q
     ·exact absurd y q
     ·exact q
    refine .inr (.inr ?_);rw[z,y,TY,TY,Wh,Wh];exact SY this (by lia)
   ·exact .inr (.inl (SY y (by lia)))
  ·exact .inl (SY z (by lia))
 ·show(s.1.map _).length<=n
  rw[Sw];exact h.ln
section
variable{f:aa->Int}{mt:aa->aa->aa}{a b c d:aa}
def abe(ar:0<f a)(ab:f b<0)(hc:f c<0)(hd:0<f d):c9 f mt [a,b,c,d]=[a,mt a b,mt c d,d]:=by
 rw[lF a (by simp) ar,lE,ge (by lia),hU (.inl ⟨ar,ab⟩),hn ab,f1 (.inr ⟨by lia,by lia⟩),hn hc,hU (.inr ⟨hc,hd⟩),ge (by lia),f1 (.inl ⟨by lia,by lia⟩)];rfl
def abf(ar:f a<0)(ab:0<f b)(hc:0<f c)(hd:f d<0):c9 f mt [a,b,c,d]=[mt a b,b,c,mt c d]:=by
 rw[lF b (by simp) ab,lE,hn ar,hU (.inr ⟨ar,ab⟩),ge (by lia),f1 (.inl ⟨by lia,by lia⟩),ge (by lia),hU (.inl ⟨hc,hd⟩),hn hd,f1 (.inr ⟨by lia,by lia⟩)];rfl
def abg(ar:f a<0)(ab:f b<0)(hc:0<f c)(hd:0<f d):c9 f mt [a,b,c,d]=[mt b c,c,d,mt d a]:=by
 rw[lF c (by simp) hc,lE,hn ar,f1 (.inr ⟨by lia,by lia⟩),hn ab,hU (.inr ⟨ab,hc⟩),ge (by lia),f1 (.inl ⟨by lia,by lia⟩),ge (by lia),hU (.inl ⟨hd,ar⟩)];rfl
def abh(ar:0<f a)(ab:0<f b)(hc:f c<0)(hd:f d<0):c9 f mt [a,b,c,d]=[a,b,mt b c,mt d a]:=by
 rw[lF a (by simp) ar,lE,ge (by lia),f1 (.inl ⟨by lia,by lia⟩),ge (by lia),hU (.inl ⟨ab,hc⟩),hn hc,f1 (.inr ⟨by lia,by lia⟩),hn hd,hU (.inr ⟨hd,ar⟩)];rfl
end
def gf(R:Zd)(ce bF b8 bI:Rat):Prop:=∃a b c d:aa,R=[a,b,c,d]/\cf a ce b8/\cf b bF b8/\cf c bF bI/\cf d ce bI
def f2(sh:Ze)(R:Zd):Prop:=fS (sh.map λs=>s.1) [R]
def fc(sh:Ze):Prop:=∀s∈sh,∀p∈s.1,aT p
def gf.pts{R:Zd}{ce bF b8 bI:Rat}(h:gf R ce bF b8 bI):∀p∈R,aT p:=by
 obtain⟨a,b,c,d,rfl,h1,h2,aF,bb⟩:=h;exact CA h1.1 h2.1 aF.1 bb.1
def gf.eq{R Q:Zd}{ce bF b8 bI:Rat}(h:gf R ce bF b8 bI)(g:gf Q ce bF b8 bI):R=Q:=by
 obtain⟨a,b,c,d,rfl,h1,h2,aF,bb⟩:=h;obtain⟨fk,b',c',d',rfl,aE,aI,g3,dQ⟩:=g;exact Ig (h1.eq aE) (h2.eq aI) (aF.eq g3) (bb.eq dQ)
def f2.rot{sh:Ze}{a:aa}{r:Zd}(h:f2 sh (r++[a])):f2 sh (a::r):=λφ=>by
 rw[h φ,hT,hT,Co]
def IS{sh:Ze}{R:Zd}{ce bF b8 bI:Rat}{X:Int×Int}(ae:fc sh)(h:f2 sh R)(r:gf R ce bF b8 bI)(l:aH X.1 X.2)(lI:ce<ai X)(qI:ai X<bF):
  (∃Q,gf Q ce (ai X) b8 bI/\f2 (cL X true sh) Q)/\∃Q,gf Q (ai X) bF b8 bI/\f2 (cL X false sh) Q:=by
 have au:=r.pts;obtain⟨a,b,c,d,rfl,n1,n2,ms,id'⟩:=r;obtain⟨dq,dM,hF⟩:=uJ l;have bH:=uN l n1 lI;have bW:=Cx l n2 qI;have gE:=Cx l ms qI;have u1:=uN l id' lI;have bf:=x' l n1 n2 (S2 bH bW) (y:=b8) (by grind);have bL:=x' l ms id' (Uc gE u1) (y:=bI) (by grind);obtain⟨z1,aP⟩:=x6 h dq dM hF ae au;rw[abe (f:=ln (ef X)) bH bW gE u1]at z1;rw[abf (f:=λc => -ln (ef X) c) (by show -ln (ef X) a<0;lia) (by show 0 < -ln (ef X) b;lia) (by show 0 < -ln (ef X) c;lia) (by show -ln (ef X) d<0;lia)]at aP;exact⟨⟨_,⟨_,_,_,_,rfl,n1,bf,bL,id'⟩,z1⟩,⟨_,⟨_,_,_,_,rfl,bf,n2,ms,bL⟩,aP⟩⟩
def IT{sh:Ze}{R:Zd}{ce bF b8 bI:Rat}{X:Int×Int}(ae:fc sh)(h:f2 sh R)(r:gf R ce bF b8 bI)(l:aH X.1 X.2)(lI:b8<ai X)(qI:ai X<bI):
  (∃Q,gf Q ce bF b8 (ai X)/\f2 (cV X false sh) Q)/\∃Q,gf Q ce bF (ai X) bI/\f2 (cV X true sh) Q:=by
 have au:=r.pts;obtain⟨a,b,c,d,rfl,n1,n2,ms,id'⟩:=r;obtain⟨dq,dM,hF⟩:=uK l;have bH:=uO l n1 lI;have bW:=uO l n2 lI;have gE:=Cy l ms qI;have u1:=Cy l id' qI;have bf:=ya l n2 ms (Uc bW gE) (x:=bF) (by grind);have bL:=ya l id' n1 (S2 u1 bH) (x:=ce) (by grind);obtain⟨z1,aP⟩:=x6 h dq dM hF ae au;rw[abg (f:=ln (eg X)) bH bW gE u1]at z1;rw[abh (f:=λc => -ln (eg X) c) (by show 0 < -ln (eg X) a;lia) (by show 0 < -ln (eg X) b;lia) (by show -ln (eg X) c<0;lia) (by show -ln (eg X) d<0;lia)]at aP;refine⟨⟨_,⟨_,_,_,_,rfl,n1,n2,bf,bL⟩,aP⟩,⟨_,⟨_,_,_,_,rfl,bL,bf,ms,id'⟩,?_⟩⟩;exact f2.rot (sh:=cV X true sh) (r:=[_,_,_]) z1
def f2.slid{sh:Ze}{R:Zd}{g:aa}(aC:aT g)(ae:fc sh)(au:∀p∈R,aT p)(h:f2 sh R):f2 (sh.map (eU g)) (R.map λp=>nP (sld g p)):=Su aC.1 h ae au
def gf.slid{R:Zd}{ce bF b8 bI u v:Rat}{g:aa}(aC:cf g u v)(r:gf R ce bF b8 bI):gf (R.map λp=>nP (sld g p)) (ce+u) (bF+u) (b8+v) (bI+v):=by
 obtain⟨a,b,c,d,rfl,n1,n2,ms,id'⟩:=r;exact⟨_,_,_,_,rfl,lD aC n1,lD aC n2,lD aC ms,lD aC id'⟩
def u2{w h:Int×Int}(lw:aH w.1 w.2)(lh:aH h.1 h.2):gf (iy w h) 0 (ai w) 0 (ai h):=⟨_,_,_,_,rfl,aai,Cu lw,gJ lw.1 lh.1,Cv lh⟩
def fc.cL{sh:Ze}{X:Int×Int}{b:Bool}(l:aH X.1 X.2)(h:fc sh):fc (cL X b sh):=by
 intro s al p ae;unfold Cut.cL at al
 have key:∀f:aa->Int,(∀p q,f p*f q<0->ln (ef X) p*ln (ef X) q<0)->s∈ck f (a0 (ef X)) sh->aT p:=λf bu al=>by
  obtain⟨t,bv,rfl,c⟩:=ul al;rcases qv ae with⟨h1,_⟩|⟨u,h1,v,h2,aF,rfl⟩
  ·exact h t bv p h1
  ·have gp:=h t bv u h1;have iZ:=h t bv v h2;rw[<-kH gp iZ];exact fZ (kI gp iZ (bu _ _ aF))
 cases b with
 |true=>exact key _ (λ_ _ z=>z) al
 |false=>exact key _ (λp q z=>by rwa [T3]at z) al
def fc.cV{sh:Ze}{X:Int×Int}{b:Bool}(l:aH X.1 X.2)(h:fc sh):fc (cV X b sh):=by
 intro s al p ae;unfold Cut.cV at al
 have key:∀f:aa->Int,(∀p q,f p*f q<0->ln (eg X) p*ln (eg X) q<0)->s∈ck f (a0 (eg X)) sh->aT p:=λf bu al=>by
  obtain⟨t,bv,rfl,c⟩:=ul al;rcases qv ae with⟨h1,_⟩|⟨u,h1,v,h2,aF,rfl⟩
  ·exact h t bv p h1
  ·have gp:=h t bv u h1;have iZ:=h t bv v h2;rw[<-kH gp iZ];exact fZ (kI gp iZ (bu _ _ aF))
 cases b with
 |true=>exact key _ (λ_ _ z=>z) al
 |false=>exact key _ (λp q z=>by rwa [T3]at z) al
def dc(w:Int×Int)(k:Int):Int×Int:=cw (w.1*k) (w.2*1)
def hV{w:Int×Int}(l:0<w.2)(k:Int):aH (dc w k).1 (dc w k).2/\ai (dc w k)=ai w*k:=by
 have h2:0<w.2*1:=by lia
 refine⟨(hB (t:=w.1*k) (b:=w.2*1) (by lia)).1,?_⟩;unfold dc;rw[py h2];have a:=dN l;unfold ai;push_cast;grind
noncomputable def lowC(c:Bool)(x:Int×Int)(sh:Ze):List Piece:=if c=true then cV x false sh else cL x true sh
noncomputable def highC(c:Bool)(x:Int×Int)(sh:Ze):List Piece:=if c=true then cV x true sh else cL x false sh
noncomputable def ho(c:Bool)(w:Int×Int):Nat->Ze->Nat->Nat->Zv
 |0,sh,_,_=>[sh]
 |n+1,sh,a,b=>if b-a=1 then[sh]else ho c w n (lowC c (dc w ((a+b)/2:Nat)) sh) a ((a+b)/2)++ho c w n (highC c (dc w ((a+b)/2:Nat)) sh) ((a+b)/2) b
def n3(c:Bool)(w:Int×Int):∀(n:Nat)(sh:Ze)(a b:Nat),a<b->b-a<=2^n->(ho c w n sh a b).length=b-a
 |0,sh,a,b,h,g=>by
  have:b-a=1:=by simp at g;lia
  rw[this];rfl
 |n+1,sh,a,b,h,g=>by
  rw[ho];by_cases z:b-a=1
  ·rw[SC z,z];rfl
  ·rw[SL z,SH,n3 c w n _ _ _ (by lia) (by rw[Wk]at g;lia),n3 c w n _ _ _ (by lia) (by rw[Wk]at g;lia)];lia
def n4(c:Bool)(R:Zd)(lJ dq v0 v1:Rat):Prop:=if c=true then gf R v0 v1 lJ dq else gf R lJ dq v0 v1
def fc.lowC{sh:Ze}{X:Int×Int}{c:Bool}(l:aH X.1 X.2)(h:fc sh):fc (lowC c X sh)/\fc (highC c X sh):=by
 unfold Cut.lowC Cut.highC;cases c with
 |true=>
  rw[SC rfl,SC rfl];exact⟨h.cV (b:=false) l,h.cV (b:=true) l⟩
 |false=>
  rw[SL (by simp),SL (by simp)];exact⟨h.cL (b:=true) l,h.cL (b:=false) l⟩
def abi{c:Bool}{sh:Ze}{R:Zd}{lJ dq v0 v1:Rat}{X:Int×Int}(ae:fc sh)(h:f2 sh R)(r:n4 c R lJ dq v0 v1)(l:aH X.1 X.2)(h0:lJ<ai X)(h1:ai X<dq):
  (∃Q,n4 c Q lJ (ai X) v0 v1/\f2 (lowC c X sh) Q)/\∃Q,n4 c Q (ai X) dq v0 v1/\f2 (highC c X sh) Q:=by
 unfold n4 at r⊢;unfold lowC highC;cases c with
 |true=>
  simp only[if_true]at r⊢;exact IT ae h r l h0 h1
 |false=>
  simp only[TK,if_false]at r⊢;exact IS ae h r l h0 h1
def CZ{c:Bool}{w:Int×Int}(w0:0<w.1)(df:0<w.2){v0 v1 U:Rat}:∀(n:Nat){sh:Ze}{a b:Nat}{R:Zd},a<b->b-a<=2^n->fc sh->f2 sh R->n4 c R (ai w*a) U v0 v1->ai w*((b-1:Nat):Rat)<U->
  ∀(k:Nat) S,(ho c w n sh a b)[k]?=some S->fc S/\∃Q,f2 S Q/\n4 c Q (ai w*((a+k:Nat):Rat)) (if a+k+1=b then U else ai w*((a+k+1:Nat):Rat)) v0 v1
 |0,sh,a,b,R,h,g,ae,am,r,o5,k,S,e=>by
  have:b=a+1:=by simp at g;lia
  subst this;cases k with
  |zero=>
   have e:some sh=some S:=e;cases e;refine⟨ae,R,am,?_⟩;rw[Nat.add_zero,SC rfl];exact r
  |succ k=>simp[ho]at e
 |n+1,sh,a,b,R,h,g,ae,am,r,o5,k,S,e=>by
  rw[ho]at e;by_cases z:b-a=1
  ·rw[SC z]at e;have:b=a+1:=by lia
   subst this;cases k with
   |zero=>
    have e:some sh=some S:=e;cases e;refine⟨ae,R,am,?_⟩;rw[Nat.add_zero,SC rfl];exact r
   |succ k=>simp at e
  ·rw[SL z]at e;generalize ax:(a+b)/2=m at e;have n5:a<m:=by lia
   have fK:m<b:=by lia
   rw[Wk]at g;obtain⟨fH,mq⟩:=hV (w:=w) df (m:Int);have gu:=er w0 df
   have lt:∀i j:Nat,i<j->ai w*(i:Rat)<ai w*(j:Rat):=λi j mH=>by
    have:((i:Nat):Rat)<(j:Rat):=by exact_mod_cast mH
    exact Rat.mul_lt_mul_of_pos_left this gu
   have mq:ai (dc w (m:Int))=ai w*(m:Rat):=mq
   have abj:ai w*(m:Rat)<U:=by
    rcases Vr m (b-1)with y|y
    ·have z1:=lt _ _ y;grind
    ·have:m=b-1:=by lia
     rw[this];exact o5
   obtain⟨⟨IU,r1,bj⟩,⟨IV,r2,bt⟩⟩:=abi ae am r fH (by rw[mq];exact lt _ _ n5) (by rw[mq];exact abj);obtain⟨cW,cS⟩:=ae.lowC (c:=c) fH;rw[mq]at r1 r2;have ln:=n3 c w n (lowC c (dc w (m:Int)) sh) a m n5 (by lia);by_cases y:k<m-a
   ·rw[Tt (by rw[ln];exact y)]at e;obtain⟨hh,Q,jA,nW⟩:=CZ w0 df (U:=ai w*(m:Rat)) n n5 (by lia) cW bj r1 (lt _ _ (by lia)) k S e;refine⟨hh,Q,jA,?_⟩;rw[SL (show ¬a+k+1=b by lia)];by_cases x:a+k+1=m
    ·rw[SC x]at nW;rw[x];exact nW
    ·rw[SL x]at nW;exact nW
   ·rw[Tg (by rw[ln];lia),ln]at e;obtain⟨hh,Q,jA,nW⟩:=CZ w0 df (U:=U) n fK (by lia) cS bt r2 o5 (k-(m-a)) S e;rw[show m+(k-(m-a))=a+k by lia]at nW;exact⟨hh,Q,jA,nW⟩
structure sm (s:Piece):Prop where
 ps:∀p∈s.1,dE 2770 p
 ln:s.1.length<=75
 st:dE 2770 s.2.2
def jG.gm{b m n t:Nat}{s:Piece}(h:jG b m n t s)(h1:b<=2770)(h2:n<=75)(aF:t<=2770):sm s:=⟨λp ae=>(h.rb.pts p ae).mono h1,SE h.ln h2,h.st.mono aF⟩
def dSh(sh:Ze):D:=.lst (sh.map dS)
def fI{α β:Type}(h:Nat->α->β):Nat->List α->List β
 |_,[]=>[]
 |i,r::rs=>h i r::fI h (i+1) rs
def C0{α β γ:Type}(h:Nat->α->β)(f:β->γ):∀(i:Nat)(rs:List α),(fI h i rs).map f=fI (λi r=>f (h i r)) i rs
 |_,[]=>rfl
 |i,r::rs=>by rw[fI,SG,C0 h f (i+1) rs,fI]
def IW{α β:Type}(h:Nat->α->β):∀(i:Nat)(rs:List α),(fI h i rs).length=rs.length
 |_,[]=>rfl
 |i,r::rs=>by simp[fI,IW h (i+1) rs]
def C1{α β:Type}(h:Nat->α->β):∀(i:Nat)(rs:List α)(k:Nat),(fI h i rs)[k]?=(rs[k]?).map (h (i+k))
 |_,[],k=>by simp[fI]
 |i,r::rs,0=>by simp[fI]
 |i,r::rs,k+1=>by
  have:=C1 h (i+1) rs k;rw[show i+1+k=i+(k+1) by lia]at this;simpa[fI]using this
def C2{α:Type}{f:α->D}{h:Nat->α->D}{u:a1}{fs:Zg}:∀{i:Nat}{rs:List α}{v0 v1:aD}{k:Zh->Prop},(∀j r,(j,r)∈(fI Prod.mk i rs)->∀k:D->Prop,k (h j r)->u (.val (.int (j:Nat))::.val (f r)::fs) k)->k (fI h i rs)->gX (kw 2 (fv (e0 0) (fv (e0 1) kv))) kC u (jf i (rs.map f)) (v0::v1::fs) k
 |i,[],_,_,_,_,ag=>ag
 |i,r::rs,v0,v1,k,h1,ag=>by
  refine⟨_,rfl,rfl,_,_,rfl,_,_,rfl,rfl,?_⟩;show(if true=true then u (.val (.int (i:Nat))::.val (f r)::fs) λy=>gX (kw 2 (fv (e0 0) (fv (e0 1) kv))) kC u (jf (i+1) (rs.map f)) (.val (.int (i:Nat))::.val (f r)::fs) λys=>k (y::ys)else gX (kw 2 (fv (e0 0) (fv (e0 1) kv))) kC u (jf (i+1) (rs.map f)) (.val (.int (i:Nat))::.val (f r)::fs) k)
  rw[SC rfl];refine h1 i r (by simp[fI]) _ ?_;exact C2 (λj dA ax=>h1 j dA (by rw[fI];exact Sz _ ax)) ag
def kN(c:Bool)(w:Int×Int)(k:Nat):aa:=if c=true then cj (0,1) (dc w (-(k:Int)))else cj (dc w (-(k:Int))) (0,1)
noncomputable def et(c:Bool)(w:Int×Int)(sh:Ze)(m:Nat):List Ze:=fI (λk S=>S.map (eU (kN c w k))) 0 (ho c w 3 sh 0 m)
def cP(b m n t N:Nat)(sh:Ze):Prop:=(∀s∈sh,jG b m n t s)/\sh.length<=N
def IX{X:Int×Int}{q:Nat}(l:aH X.1 X.2)(a7:wp X.1<=q)(bd:wp X.2<=q):cD (2*q+5) (ef X):=by
 have aE:=lB (x:=X.1) (y:=X.2) (u:=0) (v:=1) (n:=2) a7 bd (by decide) (by decide) l ⟨by decide,by decide⟩;have aI:=lB (x:=X.1) (y:=X.2) (u:=1) (v:=1) (n:=2) a7 bd (by decide) (by decide) l ⟨by decide,by decide⟩;exact(aE.crs aI).mono (by lia)
def IY{X:Int×Int}{q:Nat}(l:aH X.1 X.2)(a7:wp X.1<=q)(bd:wp X.2<=q):cD (2*q+5) (eg X):=by
 have aE:=lB (x:=0) (y:=1) (u:=X.1) (v:=X.2) (m:=2) (by decide) (by decide) a7 bd ⟨by decide,by decide⟩ l;have aI:=lB (x:=1) (y:=1) (u:=X.1) (v:=X.2) (m:=2) (by decide) (by decide) a7 bd ⟨by decide,by decide⟩ l;exact(aE.crs aI).mono (by lia)
def pD{f:aa->Int}{mt:aa->aa->aa}(sh:Ze):(ck f mt sh).length<=sh.length:=mi sh
def cP.cL{b m n t N q:Nat}{X:Int×Int}{sh:Ze}(h:cP b m n t N sh)(c:Bool)(l:aH X.1 X.2)(a7:wp X.1<=q)(bd:wp X.2<=q)(ii:2*q+5<=m)(ax:2*q+5+m+1<=b):cP b m (n+1) t N (cL X c sh):=by
 obtain⟨dq,dM,hF⟩:=uJ l;unfold Cut.cL;cases c with
 |true=>
  rw[SC rfl];exact⟨pC h.1 (IX l a7 bd) ii dq hF ax _ (.inl rfl),SE (mi sh) h.2⟩
 |false=>
  rw[SL (by simp)];have e:(λc => -ln (ef X) c)=ln (mh (ef X)):=funext λc=>(m5 _ _).symm;rw[e];exact⟨pC h.1 (IX l a7 bd) ii dq hF ax _ (.inr rfl),SE (mi sh) h.2⟩
def cP.cV{b m n t N q:Nat}{X:Int×Int}{sh:Ze}(h:cP b m n t N sh)(c:Bool)(l:aH X.1 X.2)(a7:wp X.1<=q)(bd:wp X.2<=q)(ii:2*q+5<=m)(ax:2*q+5+m+1<=b):cP b m (n+1) t N (cV X c sh):=by
 obtain⟨dq,dM,hF⟩:=uK l;unfold Cut.cV;cases c with
 |true=>
  rw[SC rfl];exact⟨pC h.1 (IY l a7 bd) ii dq hF ax _ (.inl rfl),SE (mi sh) h.2⟩
 |false=>
  rw[SL (by simp)];have e:(λc => -ln (eg X) c)=ln (mh (eg X)):=funext λc=>(m5 _ _).symm;rw[e];exact⟨pC h.1 (IY l a7 bd) ii dq hF ax _ (.inr rfl),SE (mi sh) h.2⟩
def cP.mono{b m n t N b' m' n' t' N':Nat}{sh:Ze}(h:cP b m n t N sh)(h1:b<=b')(h2:m<=m')(aF:n<=n')(bb:t<=t')(cX:N<=N'):cP b' m' n' t' N' sh:=⟨λs al=>(h.1 s al).mono h1 h2 aF bb,SE h.2 cX⟩
def cP.mo5{b m n t N b' m' n' t' N':Nat}{sh:Ze}(h:cP b m n t N sh)(h1:b<=b':=by lia)(h2:m<=m':=by lia)(aF:n<=n':=by lia)(bb:t<=t':=by lia)(cX:N<=N':=by lia):cP b' m' n' t' N' sh:=⟨λs al=>(h.1 s al).mono h1 h2 aF bb,SE h.2 cX⟩
def cP.md5{b m n t N b' m' n' t' N':Nat}{sh:Ze}(h:cP b m n t N sh)(h1:b<=b':=by decide)(h2:m<=m':=by decide)(aF:n<=n':=by decide)(bb:t<=t':=by decide)(cX:N<=N':=by decide):cP b' m' n' t' N' sh:=⟨λs al=>(h.1 s al).mono h1 h2 aF bb,SE h.2 cX⟩
def cP.cut{b m n t N q:Nat}{X:Int×Int}{sh:Ze}{c:Bool}(h:cP b m n t N sh)(l:aH X.1 X.2)(a7:wp X.1<=q)(bd:wp X.2<=q)(ii:2*q+5<=m)(ax:2*q+5+m+1<=b):cP b m (n+1) t N (lowC c X sh)/\cP b m (n+1) t N (highC c X sh):=by
 unfold lowC highC;cases c with
 |true=>
  rw[SC rfl,SC rfl];exact⟨h.cV _ l a7 bd ii ax,h.cV _ l a7 bd ii ax⟩
 |false=>
  rw[SL (by simp),SL (by simp)];exact⟨h.cL _ l a7 bd ii ax,h.cL _ l a7 bd ii ax⟩
def cP.slid{b m n t N g:Nat}{v:aa}{sh:Ze}(h:cP b m n t N sh)(aL:dE g v):cP (b+g+1) (m+g+2) n (t+g+1) N (sh.map (eU v)):=⟨λs al=>by
 obtain⟨r,ak,rfl⟩:=SM.mp al
 exact(h.1 r ak).slid aL,by rw[Sw];exact h.2⟩
def cP.app{b m n t N M:Nat}{sh IZ:Ze}(h:cP b m n t N sh)(g:cP b m n t M IZ):cP b m n t (N+M) (sh++IZ):=⟨λs al=>(SR.mp al).elim (h.1 s) (g.1 s),by rw[SH];have:=h.2;have:=g.2;lia⟩
def lK{w:Int×Int}{q:Nat}(df:0<w.2)(a7:wp w.1<=q)(bd:wp w.2<=q){k:Int}(ag : -8<=k/\k<=8):wp (dc w k).1<=q+4/\wp (dc w k).2<=q+4:=by
 obtain⟨_,_,h1,h2⟩:=hB (t:=w.1*k) (b:=w.2*1) (by lia);have bk:wp k<=4:=d6 (t:=8) (by lia) (by decide);exact⟨d6 h1 (TD a7 bk),d6 h2 (SE (TD bd (show wp 1<=1 by decide)) (by lia))⟩
def u3{c:Bool}{w:Int×Int}{b m t N q:Nat}(df:0<w.2)(a7:wp w.1<=q)(bd:wp w.2<=q)(ii:2*q+13<=m)(ax:2*q+13+m+1<=b):∀(k:Nat){n:Nat}{sh:Ze}{x y:Nat},x<y->y<=8->cP b m n t N sh->∀S∈ho c w k sh x y,cP b m (n+k) t N S
 |0,n,sh,x,y,_,_,h,S,cu=>by rw[SO.mp cu];exact h
 |k+1,n,sh,x,y,I0,aN,h,S,cu=>by
  rw[ho]at cu;by_cases z:y-x=1
  ·rw[SC z]at cu;rw[SO.mp cu];exact h.mono (Sy _) (Sy _) (by lia) (Sy _) (Sy _)
  ·rw[SL z]at cu;obtain⟨l,_⟩:=hV (w:=w) df (((x+y)/2:Nat):Int);obtain⟨c1,c2⟩:=lK (w:=w) (q:=q) df a7 bd (k:=(((x+y)/2:Nat):Int)) (by lia);obtain⟨h1,h2⟩:=h.cut (c:=c) l c1 c2 (by lia) (by lia);rcases SR.mp cu with e|e
   ·have:=u3 df a7 bd ii ax k (by lia) (by lia) h1 S e
    rwa [show n+1+k=n+(k+1) by lia]at this
   ·have:=u3 df a7 bd ii ax k (by lia) aN h2 S e
    rwa [show n+1+k=n+(k+1) by lia]at this
def C3{α:Type}{j:Nat}{r:α}:∀{i:Nat}{rs:List α},(j,r)∈fI Prod.mk i rs->i<=j/\j<i+rs.length/\r∈rs
 |i,[],h=>by simp[fI]at h
 |i,x::rs,h=>by
  rw[fI]at h;rcases SK.mp h with h|h
  ·cases h;exact⟨Sy _,by simp,Sx⟩
  ·obtain⟨a,b,c⟩:=C3 h;exact⟨by lia,by simp;lia,Sz _ c⟩
def C4{c:Bool}{w:Int×Int}{q:Nat}(df:0<w.2)(a7:wp w.1<=q)(bd:wp w.2<=q){j:Nat}(bS:j<=8):dE (q+6) (kN c w j):=by
 obtain⟨l,_⟩:=hV (w:=w) df (-(j:Int));obtain⟨c1,c2⟩:=lK (w:=w) (q:=q) df a7 bd (k :=-(j:Int)) (by lia);unfold kN cj;cases c with
 |true=>
  rw[SC rfl];exact⟨(ju (n:=1*(dc w (-(j:Int))).2) (SD (SF (by decide) l.1))).1,(lB (x:=0) (y:=1) (m:=2) (by decide) (by decide) c1 c2 ⟨by decide,by decide⟩ l).mono (by lia)⟩
 |false=>
  rw[SL (by simp)];exact⟨(ju (n:=(dc w (-(j:Int))).2*1) (SD (SF l.1 (by decide)))).1,(lB (u:=0) (v:=1) (n:=2) c1 c2 (by decide) (by decide) l ⟨by decide,by decide⟩).mono (by lia)⟩
abbrev BoxD:=ba×ba×Ze
abbrev Zi:=List BoxD
def dBx(b:BoxD):D:=.tup [dR b.1,dR b.2.1,dSh b.2.2]
def ij(H h:ba):ba:=cw (H.1*h.2+h.1*H.2) (H.2*h.2)
noncomputable def dh:Zi->ba->Ze
 |[],_=>[]
 |b::r,H=>b.2.2.map (eU (cj (0,1) H))++dh r (ij H b.2.1)
def bN:Zi->ba->ba
 |[],H=>H
 |b::r,H=>bN r (ij H b.2.1)
def yj:∀(a b:Zi)(H:ba),bN (a++b) H=bN b (bN a H)
 |[],_,_=>rfl
 |x::a,b,H=>yj a b _
def I1:∀(a b:Zi)(H:ba),dh (a++b) H=dh a H++dh b (bN a H)
 |[],_,_=>rfl
 |x::a,b,H=>by
  rw[To,dh,dh,I1 a b,S6];rfl
def qK:∀(bs:Zi)(H:ba),(dh bs H).length=(bs.map λb=>b.2.2.length).sum
 |[],_=>rfl
 |b::r,H=>by rw[dh,SH,Sw,qK r,SG,SQ]
def abk(x:D)(r:Zh):dW (x::r) 0=some x:=by
 unfold dW ixN;rw[SC (by lia),SC (by simp)];rfl
def pE{H h:ba}(bj:0<H.2)(bt:0<h.2):aH (ij H h).1 (ij H h).2:=(hB (SD (SF bj bt))).1
def sn:∀{bs:Zi}{H:ba},aH H.1 H.2->(∀b∈bs,0<b.2.1.2)->aH (bN bs H).1 (bN bs H).2
 |[],_,l,_=>l
 |b::r,H,l,h=>by
  rw[bN];exact sn (bs:=r) (pE l.1 (h b Sx)) λx ao=>h x (Sz _ ao)
def u4{H h:ba}(bj:0<H.2)(bt:0<h.2):ai (ij H h)=ai H+ai h:=by
 unfold ij;rw[py (SF bj bt)];have a:=dN bj;have b:=dN bt;unfold ai;push_cast;grind
def d9(a b:ba):ba:=cw (a.1*b.2) (a.2*b.1)
def fT(a b:ba):ba:=cw (a.1*b.2-b.1*a.2) (a.2*b.2)
def ik(w g:ba)(N:Nat):ba:=fT w (dc g ((N:Int)-1))
def f3(h:ba)(N:Nat):ba:=d9 h ((N:Int),1)
noncomputable def fU(w:ba)(i:Nat)(Ss:Zv):List Piece:=(fI (λk S=>S.map (eU (cj (dc w (k:Int)) (0,1)))) i Ss).flatten
def eD(w h g:ba):ba:=d9 (cw (w.1*h.1) (w.2*h.2)) g
def bT(w H:ba):aa:=crs (cj w (0,1)) (cj (0,1) H)
noncomputable def mu(w h g:ba)(sh:Ze):List Piece:=
 cL g true (ck (ln (bT w (eD w h g))) (a0 (bT w (eD w h g))) sh)++(cL g false (ck (ln (bT w (eD w h g))) (a0 (bT w (eD w h g))) sh)).map (eU (cj (-g.1,g.2) h))++(ck (λc => -ln (bT w (eD w h g)) c) (a0 (bT w (eD w h g))) sh).map (eU (cj (fT g w) (fT (eD w h g) h)))
def nf{a b:ba}(h1:0<a.2)(h2:0<b.1)(aF:0<b.2):aH (d9 a b).1 (d9 a b).2/\ai (d9 a b)=ai a/ai b:=by
 have p:=SF h1 h2;refine⟨(hB (t:=a.1*b.2) (b:=a.2*b.1) (SD p)).1,?_⟩;unfold d9;rw[py p];have x:=dN h1;have y:=dN h2;have z:=dN aF;unfold ai;push_cast;grind
def so{a b:ba}{p q:Nat}(h1:0<a.2)(h2:0<b.1)(a7:wp a.1<=p)(bd:wp a.2<=p)(eR:wp b.1<=q)(gS:wp b.2<=q):wp (d9 a b).1<=p+q/\wp (d9 a b).2<=p+q:=by
 obtain⟨_,_,ah,ap⟩:=hB (t:=a.1*b.2) (b:=a.2*b.1) (SD (SF h1 h2));exact⟨d6 ah (TD a7 gS),d6 ap (TD bd eR)⟩
def n6{a b:ba}(h1:0<a.2)(h2:0<b.2):aH (fT a b).1 (fT a b).2/\ai (fT a b)=ai a-ai b:=by
 have p:=SF h1 h2;refine⟨(hB (t:=a.1*b.2-b.1*a.2) (b:=a.2*b.2) (SD p)).1,?_⟩;unfold fT;rw[py p];have x:=dN h1;have y:=dN h2;unfold ai;push_cast;grind
def u5{a b:ba}{p q:Nat}(h1:0<a.2)(h2:0<b.2)(a7:wp a.1<=p)(bd:wp a.2<=p)(eR:wp b.1<=q)(gS:wp b.2<=q):wp (fT a b).1<=p+q+1/\wp (fT a b).2<=p+q+1:=by
 obtain⟨_,_,ah,ap⟩:=hB (t:=a.1*b.2-b.1*a.2) (b:=a.2*b.2) (SD (SF h1 h2));have x:=TD a7 gS;have y:=TD eR bd;rw[Wi q p]at y;have z:=XW x y;rw[Vu]at z;exact⟨d6 ah z,d6 ap (SE (TD bd gS) (by lia))⟩
def jH{a b:ba}{p q:Nat}(bj:aH a.1 a.2)(bt:aH b.1 b.2)(a7:wp a.1<=p)(bd:wp a.2<=p)(eR:wp b.1<=q)(gS:wp b.2<=q):dE (p+q) (cj a b):=⟨(ju (n:=a.2*b.2) (SD (SF bj.1 bt.1))).1,lB a7 bd eR gS bj bt⟩
def C5{w:ba}:∀(Ss:Zv)(S:Ze)(i:Nat),fU w i (Ss++[S])=fU w i Ss++S.map (eU (cj (dc w ((i+Ss.length:Nat):Int)) (0,1)))
 |[],S,i=>by simp[fU,fI]
 |T::Ss,S,i=>by
  have:=C5 Ss S (i+1) (w:=w);unfold fU at this⊢;rw[To,fI,Us,this,fI,Us,S6,SN,show i+1+Ss.length=i+(Ss.length+1) by lia]
def nh{c:Bool}{w:ba}{sh:Ze}{m:Nat}(h:1<=m)(iC:m<=8):(et c w sh m).length=m:=by
 unfold et;rw[IW,n3 c w 3 sh 0 m (by lia) (by lia)];lia
def I2{c:Bool}{w:ba}{sh:Ze}{m:Nat}{S:Ze}(cu:S∈et c w sh m):∃(k:Nat)(T:Ze),T∈ho c w 3 sh 0 m/\k<(ho c w 3 sh 0 m).length/\S=T.map (eU (kN c w k)):=by
 obtain⟨k,ag⟩:=Um cu;unfold et at ag;rw[C1,TX]at ag;cases q:(ho c w 3 sh 0 m)[k]? with
 |none=>rw[q]at ag;cases ag
 |some T=>
  rw[q]at ag;cases ag;exact⟨k,T,Th q,(T7.mp q).1,rfl⟩
def yk{c:Bool}{w:ba}{b m t N q:Nat}(df:0<w.2)(a7:wp w.1<=q)(bd:wp w.2<=q)(ii:2*q+13<=m)(ax:2*q+13+m+1<=b){n:Nat}{sh:Ze}{y:Nat}(bI:1<=y)(yl:y<=8)(h:cP b m n t N sh):∀S∈et c w sh y,cP (b+q+7) (m+q+8) (n+3) (t+q+7) N S:=λS cu=>by
 obtain⟨k,T,d0,ag,rfl⟩:=I2 cu;rw[n3 c w 3 sh 0 y (by lia) (by lia)]at ag;have:=u3 (c:=c) df a7 bd ii ax 3 (by lia) yl h T d0;exact(this.slid (C4 (c:=c) df a7 bd (j:=k) (by lia))).mo5
def ym{w h g H:ba}(lw:aH w.1 w.2)(w0:0<w.1)(lh:aH h.1 h.2)(h0:0<h.1)(aJ:aH g.1 g.2)(aV:0<g.1)(e:H=eD w h g):0<H.1:=by
 have lt:=hB (t:=w.1*h.1) (b:=w.2*h.2) (SD (SF lw.1 lh.1));obtain⟨bU,hW⟩:=nf (a:=cw (w.1*h.1) (w.2*h.2)) (b:=g) lt.1.1 aV aJ.1;have ap:=py (t:=w.1*h.1) (b:=w.2*h.2) (SF lw.1 lh.1);have a:=er w0 lw.1;have b:=er h0 lh.1;have c:=er aV aJ.1
 have bw:((w.1*h.1:Int):Rat)/((w.2*h.2:Int):Rat)=ai w*ai h:=by
  have x:=dN lw.1;have y:=dN lh.1;unfold ai;push_cast;grind
 have pos:0<ai H:=by
  rw[e];show 0<ai (d9 (cw (w.1*h.1) (w.2*h.2)) g)
  rw[hW,ap,bw,Ud];exact Te (Te a b) (U5.mpr c)
 have bt:0<H.2:=by rw[e];exact bU.1
 apply TC;intro z;have z1:((H.1:Int):Rat)<=0:=by exact_mod_cast (show H.1<=0 by lia)
 have aP:(0:Rat)<((H.2:Int):Rat):=by exact_mod_cast bt
 unfold ai at pos;rw[Ud]at pos;have ew:=U5.mpr aP
 have:((H.1:Int):Rat)*(((H.2:Int):Rat))⁻¹<=0:=by
  have:=T4 z1 (Tw ew)
  rwa [Vv]at this
 grind
def u6{w H:ba}(lw:aH w.1 w.2)(w0:0<w.1)(bU:aH H.1 H.2)(gg:0<H.1):(bT w H).1≠0\/(bT w H).2.1≠0:=by
 have hh:cf (cj w (0,1)) (ai w) 0:=(gJ lw.1 (by decide)).to rfl (hm _);have jA:cf (cj (0,1) H) 0 (ai H):=(gJ (by decide) bU.1).to (hm _) rfl;refine lz hh.1 jA.1 λe=>?_;rw[e]at hh;have:=hh.2.1.symm.trans jA.2.1;have:=er w0 lw.1;grind
end Cut
namespace L3
open PySem L2
def I3{a b c:Nat}{s:cB}{U:gC}(I:List Cut.BoxD->Zg->Prop):∀{bs done:List Cut.BoxD}{ρ:Zg},I done ρ->
  (∀pre x rest ρ,done++bs=pre++x::rest->I pre ρ->∀N:Zg->Prop,(∀r,I (pre++[x]) r->N r)->s {U with nx:=N,ct:=N,bk:=U.nx} (((ρ.set a (.val (Cut.dR x.1))).set b (.val (Cut.dR x.2.1))).set c (.new (Cut.dSh x.2.2))))->
  (∀ρ,I (done++bs) ρ->U.nx ρ)->ha (kw 3 (fv (uh a) (fv (uh b) (fv (BO c) kv)))) s U (bs.map Cut.dBx) ρ
 |[],done,ρ,h0,_,h2=>h2 ρ (by rw[SP];exact h0)
 |x::bs,done,ρ,h0,h1,h2=>by
  refine⟨_,rfl,rfl,_,_,rfl,rfl,_,_,rfl,rfl,_,_,rfl,rfl,?_⟩;refine h1 done x bs ρ rfl h0 _ λr ak=>?_;refine I3 I ak (λpre y rest ρ e=>h1 pre y rest ρ (by rw[<-e];simp)) λρ h=>h2 ρ ?_;have e:done++[x]++bs=done++x::bs:=by simp
  rw[<-e];exact h
end L3
namespace Cut
open PySem L2 L3
open PySem.Builtin.Int (intBits)
def u7{a b:ba}(bj:aH a.1 a.2)(bt:aH b.1 b.2)(e:ai a=ai b):a=b:=by
 have c:=Ct bj.1 bt.1 e;have h1:=w2 (t:=a.1) (b:=a.2) bj (SD bj.1) rfl;have h2:=w2 (t:=a.1) (b:=a.2) bt (SD bj.1) c.symm;exact h1.symm.trans h2
def da(w g:ba):Nat:=(-((-(d9 g w).1).fdiv (d9 g w).2)).toNat
def dx(w g:ba):Nat:=((d9 w g).1.fdiv (d9 w g).2).toNat
def abl{x y:Int}(h:0<y):x.fdiv y*y<=x/\x<(x.fdiv y+1)*y:=by
 rw[Wl _ (by lia)];have a:=Int.mul_ediv_add_emod x y;have b:=T5 x (show y≠0 by lia);have c:=Ue x h;rw[Int.add_mul,S4];lia
def I4{x y:Int}(h:0<y):((x.fdiv y:Int):Rat)<=(x:Rat)/y/\(x:Rat)/y<((x.fdiv y+1:Int):Rat):=by
 obtain⟨a,b⟩:=abl (x:=x) h;have aN:(0:Rat)<(y:Rat):=by exact_mod_cast h
 have fk:((x.fdiv y:Int):Rat)*y<=(x:Rat):=by exact_mod_cast a
 have b':(x:Rat)<((x.fdiv y+1:Int):Rat)*y:=by exact_mod_cast b
 refine⟨?_,(Wm aN).mpr b'⟩;apply TC;intro z;have z:=Rat.not_le.mp z;have:=(Wm aN).mp z;grind
section
variable{w g:ba}(lw:aH w.1 w.2)(w0:0<w.1)(aJ:aH g.1 g.2)(aV:0<g.1)
include lw w0 aJ aV
theorem sq(h:g.1*w.2<=w.1*g.2)(iC:w.1*g.2<=8*(g.1*w.2)):(d9 w g).1.fdiv (d9 w g).2=(dx w g:Int)/\1<=dx w g/\dx w g<=8/\(dx w g:Rat)*ai g<=ai w/\ai w<((dx w g+1:Nat):Rat)*ai g:=by
 obtain⟨l,e⟩:=nf (a:=w) (b:=g) lw.1 aV aJ.1;obtain⟨aU,a9⟩:=I4 (x:=(d9 w g).1) l.1;have aS:(((d9 w g).1:Int):Rat)/((d9 w g).2:Int)=ai w/ai g:=e;rw[aS]at aU a9;have qL:=er aV aJ.1;have oJ:=er w0 lw.1
 have bF:ai g<=ai w:=by
  have cW:=dN lw.1;have cS:=dN aJ.1;have cc:(0:Rat)<w.2:=by exact_mod_cast lw.1
  have ci:(0:Rat)<g.2:=by exact_mod_cast aJ.1
  have c:(g.1:Rat)*w.2<=(w.1:Rat)*g.2:=by exact_mod_cast h
  refine Wn (c:=(w.2:Rat)*g.2) ?_ (Te cc ci);unfold ai;have u:(g.1:Rat)/g.2*(w.2*g.2)=g.1*w.2:=by grind
  have v:(w.1:Rat)/w.2*(w.2*g.2)=w.1*g.2:=by grind
  rw[u,v];exact c
 have abm:ai w<=8*ai g:=by
  have cW:=dN lw.1;have cS:=dN aJ.1;have cc:(0:Rat)<w.2:=by exact_mod_cast lw.1
  have ci:(0:Rat)<g.2:=by exact_mod_cast aJ.1
  have c:(w.1:Rat)*g.2<=8*((g.1:Rat)*w.2):=by exact_mod_cast iC
  refine Wn (c:=(w.2:Rat)*g.2) ?_ (Te cc ci);unfold ai;have u:8*((g.1:Rat)/g.2)*(w.2*g.2)=8*(g.1*w.2):=by grind
  have v:(w.1:Rat)/w.2*(w.2*g.2)=w.1*g.2:=by grind
  rw[u,v];exact c
 generalize au:(d9 w g).1.fdiv (d9 w g).2=q at aU a9;have k0:ai g≠0:=by grind
 have bf:(q:Rat)*ai g<=ai w:=by
  have:=T4 aU (Tw qL)
  rwa [Vw k0]at this
 have bL:ai w<((q+1:Int):Rat)*ai g:=by
  have:=Vx a9 qL
  rwa [Vw k0]at this
 have aR:1<=q:=by
  apply TC;intro z;have:((q+1:Int):Rat)<=1:=by exact_mod_cast (show q+1<=1 by lia)
  have:=T4 this (Tw qL);grind
 have tG:q<=8:=by
  apply TC;intro z;have:(9:Rat)<=(q:Rat):=by exact_mod_cast (show 9<=q by lia)
  have:=T4 this (Tw qL);grind
 have eq:(dx w g:Int)=q:=by unfold dx;rw[au];lia
 refine⟨eq.symm,by lia,by lia,?_,?_⟩
 ·have:((dx w g:Nat):Rat)=(q:Rat):=by rw[<-eq];rfl
  rw[this];exact bf
 ·have:((dx w g+1:Nat):Rat)=((q+1:Int):Rat):=by rw[<-eq];rfl
  rw[this];exact bL
theorem u8(h:w.1*g.2<g.1*w.2)(iC:g.1*w.2<=8*(w.1*g.2)): -((-(d9 g w).1).fdiv (d9 g w).2)=(da w g:Int)/\1<=da w g/\da w g<=8/\((da w g:Rat)-1)*ai w<ai g/\ai g<=(da w g:Rat)*ai w:=by
 obtain⟨l,e⟩:=nf (a:=g) (b:=w) aJ.1 w0 lw.1;obtain⟨aU,a9⟩:=I4 (x :=-(d9 g w).1) l.1
 have aS:((-(d9 g w).1:Int):Rat)/((d9 g w).2:Int) = -(ai g/ai w):=by
  have:(((d9 g w).1:Int):Rat)/((d9 g w).2:Int)=ai g/ai w:=e;rw[<-this,Vy,Ud,Ud,Wo]
 rw[aS]at aU a9;have qL:=er aV aJ.1;have oJ:=er w0 lw.1
 have bF:ai w<ai g:=by
  have cW:=dN lw.1;have cS:=dN aJ.1;have cc:(0:Rat)<w.2:=by exact_mod_cast lw.1
  have ci:(0:Rat)<g.2:=by exact_mod_cast aJ.1
  have c:(w.1:Rat)*g.2<(g.1:Rat)*w.2:=by exact_mod_cast h
  refine Rat.lt_of_mul_lt_mul_right (c:=(w.2:Rat)*g.2) ?_ (Tw (Te cc ci));unfold ai;have u:(g.1:Rat)/g.2*(w.2*g.2)=g.1*w.2:=by grind
  have v:(w.1:Rat)/w.2*(w.2*g.2)=w.1*g.2:=by grind
  rw[u,v];exact c
 have abm:ai g<=8*ai w:=by
  have cW:=dN lw.1;have cS:=dN aJ.1;have cc:(0:Rat)<w.2:=by exact_mod_cast lw.1
  have ci:(0:Rat)<g.2:=by exact_mod_cast aJ.1
  have c:(g.1:Rat)*w.2<=8*((w.1:Rat)*g.2):=by exact_mod_cast iC
  refine Wn (c:=(w.2:Rat)*g.2) ?_ (Te cc ci);unfold ai;have u:(g.1:Rat)/g.2*(w.2*g.2)=g.1*w.2:=by grind
  have v:8*((w.1:Rat)/w.2)*(w.2*g.2)=8*(w.1*g.2):=by grind
  rw[u,v];exact c
 generalize au:(-(d9 g w).1).fdiv (d9 g w).2=q at aU a9;have u0:ai w≠0:=by grind
 have bf:(q:Rat)*ai w <= -ai g:=by
  have:=T4 aU (Tw oJ)
  rwa [Wo,Vw u0]at this
 have bL : -ai g<((q+1:Int):Rat)*ai w:=by
  have:=Vx a9 oJ
  rwa [Wo,Vw u0]at this
 have hC:((q+1:Int):Rat)=(q:Rat)+1:=by push_cast;rfl
 have aR:q <= -1:=by
  apply TC;intro z;have:(0:Rat)<=(q:Rat):=by exact_mod_cast (show 0<=q by lia)
  have:=T4 this (Tw oJ);grind
 have tG : -8<=q:=by
  apply TC;intro z;have:((q+1:Int):Rat)<=((-8:Int):Rat):=Rat.intCast_le_intCast.mpr (show q+1 <= -8 by lia);have yn:((-8:Int):Rat) = -8:=by rfl
  rw[yn]at this;have:=T4 this (Tw oJ);grind
 have eq:(da w g:Int) = -q:=by unfold da;rw[au];lia
 have sr:((da w g:Nat):Rat) = -(q:Rat):=by
  have:((da w g:Nat):Rat)=((-q:Int):Rat):=by rw[<-eq];rfl
  rw[this,Vy]
 refine⟨eq.symm,by lia,by lia,?_,?_⟩
 ·rw[sr];rw[hC]at bL;grind
 ·rw[sr];grind
end
noncomputable def lastB(g:ba)(b:BoxD):BoxD:=if b.1=g then b else(g,eD b.1 b.2.1 g,mu b.1 b.2.1 g b.2.2)
def I5(g:ba)(b:BoxD):(lastB g b).1=g:=by
 unfold lastB;by_cases h:b.1=g
 ·rw[SC h];exact h
 ·rw[SL h]
noncomputable def layB(w h g:ba)(sh:Ze):BoxD:=(dc w (da w g:Int),f3 h (da w g),fU w 0 (et true (f3 h (da w g)) sh (da w g)))
noncomputable def fu(w h g:ba)(sh:Ze):List BoxD:=
 if w.1*g.2<g.1*w.2 then[lastB g (layB w h g sh)]
 else(et false g sh (dx w g)).dropLast.map (λS=>((g,h,S):BoxD))++[lastB g (ik w g (dx w g),h,(et false g sh (dx w g)).getLastD [])]
def u9{w h g:ba}{sh:Ze}(c:w.1*g.2<g.1*w.2):fu w h g sh=[lastB g (layB w h g sh)]:=by
 unfold fu;rw[SC c]
def ss{w h g:ba}{sh:Ze}(c:¬w.1*g.2<g.1*w.2){Ss:Zv}{Z:Ze}(e:et false g sh (dx w g)=Ss++[Z]):fu w h g sh=Ss.map (λS=>((g,h,S):BoxD))++[lastB g (ik w g (dx w g),h,Z)]:=by
 unfold fu;rw[SL c,e,Wj,List.getLastD_concat]
def abn{w h g:ba}{sh:Ze}:∀b∈fu w h g sh,b.1=g:=by
 intro b ab;unfold fu at ab;by_cases c:w.1*g.2<g.1*w.2
 ·rw[SC c]at ab;rw[SO.mp ab,I5]
 ·rw[SL c]at ab;rcases SR.mp ab with ab|ab
  ·obtain⟨S,_,rfl⟩:=SM.mp ab;rfl
  ·rw[SO.mp ab,I5]
def I6{h:ba}(l:0<h.2):∀{bs:Zi}{H:ba},aH H.1 H.2->(∀b∈bs,b.2.1=h)->ai (bN bs H)=ai H+(bs.length:Rat)*ai h
 |[],H,_,_=>by
  show ai H=ai H+((0:Nat):Rat)*ai h
  have:((0:Nat):Rat)=0:=rfl;rw[this];grind
 |b::r,H,bU,ab=>by
  have e:=ab b Sx;rw[bN,e,I6 l (bs:=r) (pE bU.1 l) (λx ao=>ab x (Sz _ ao)),u4 bU.1 l,SN];have:((r.length+1:Nat):Rat)=(r.length:Rat)+1:=by push_cast;rfl
  rw[this];grind
def I7{h:ba}(l:aH h.1 h.2){bs:Zi}(ab:∀b∈bs,b.2.1=h):bN bs (0,1)=dc h (bs.length:Int):=by
 obtain⟨kB,em⟩:=hV (w:=h) l.1 (bs.length:Int);refine u7 (sn ⟨by decide,by decide⟩ λb gw=>by rw[ab b gw];exact l.1) kB ?_;rw[em,I6 l.1 ⟨by decide,by decide⟩ ab];have:ai (0,1)=0:=hm _;rw[this];have:(((bs.length:Nat):Int):Rat)=(bs.length:Rat):=rfl;rw[this];grind
def yo{b m n t N q:Nat}:∀{bs:Zi}{H:ba},(∀pre x rest,bs=pre++x::rest->dE q (cj (0,1) (bN pre H)))->(∀x∈bs,cP b m n t N x.2.2)->cP (b+q+1) (m+q+2) n (t+q+1) (N*bs.length) (dh bs H)
 |[],H,_,_=>⟨λs al=>absurd al Ug,S8 _⟩
 |x::r,H,ae,al=>by
  have a:=(al x Sx).slid (ae [] x r rfl);have c:=yo (bs:=r) (H:=ij H x.2.1) (λpre y rest e=>ae (x::pre) y rest (by rw[e];rfl)) λy aN=>al y (Sz _ aN);rw[dh];refine(a.app c).mono (Sy _) (Sy _) (Sy _) (Sy _) ?_;rw[SN,Uh];lia
def I8{w:ba}(lw:aH w.1 w.2)(c1:wp w.1<=30)(c2:wp w.2<=30){b m n t N:Nat}:∀{Ss:Zv}{i:Nat},i+Ss.length<=8->(∀S∈Ss,cP b m n t N S)->cP (b+37) (m+38) n (t+37) (N*Ss.length) (fU w i Ss)
 |[],i,_,_=>⟨λs al=>absurd al Ug,S8 _⟩
 |S::r,i,ay,al=>by
  rw[SN]at ay;obtain⟨fH,_⟩:=hV (w:=w) lw.1 (i:Int);obtain⟨bF,e2⟩:=lK (w:=w) (q:=30) lw.1 c1 c2 (k:=(i:Int)) (by lia);have gp:=jH (a:=dc w (i:Int)) (b:=(0,1)) (p:=34) (q:=2) fH ⟨by decide,by decide⟩ bF e2 (by decide) (by decide);have a:=(al S Sx).slid gp;have c:=I8 lw c1 c2 (Ss:=r) (i:=i+1) (by lia) λy aN=>al y (Sz _ aN)
  have e:fU w i (S::r)=S.map (eU (cj (dc w (i:Int)) (0,1)))++fU w (i+1) r:=by
   unfold fU;rw[fI,Us]
  rw[e];refine(a.app c).mono (Sy _) (Sy _) (Sy _) (Sy _) ?_;rw[SN,Uh];lia
section
variable{w h g:ba}(lw:aH w.1 w.2)(w0:0<w.1)(lh:aH h.1 h.2)(h0:0<h.1)(aJ:aH g.1 g.2)(aV:0<g.1)
include lw w0 lh h0 aJ aV
theorem u'{p q r:Nat}(c1:wp w.1<=p)(c2:wp w.2<=p)(c3:wp h.1<=q)(c4:wp h.2<=q)(bC:wp g.1<=r)(bD:wp g.2<=r):aH (eD w h g).1 (eD w h g).2/\wp (eD w h g).1<=p+q+r/\wp (eD w h g).2<=p+q+r/\ai (eD w h g)=ai w*ai h/ai g:=by
 have lt:=hB (t:=w.1*h.1) (b:=w.2*h.2) (SD (SF lw.1 lh.1));have lH:wp (cw (w.1*h.1) (w.2*h.2)).1<=p+q/\wp (cw (w.1*h.1) (w.2*h.2)).2<=p+q:=⟨d6 lt.2.2.1 (TD c1 c3),d6 lt.2.2.2 (TD c2 c4)⟩;obtain⟨bU,hW⟩:=nf (a:=cw (w.1*h.1) (w.2*h.2)) (b:=g) lt.1.1 aV aJ.1;obtain⟨bo,bG⟩:=so (a:=cw (w.1*h.1) (w.2*h.2)) (b:=g) (p:=p+q) (q:=r) lt.1.1 aV lH.1 lH.2 bC bD;refine⟨bU,bo,bG,?_⟩;refine hW.trans ?_;rw[py (SF lw.1 lh.1)]
 have bw:((w.1*h.1:Int):Rat)/((w.2*h.2:Int):Rat)=ai w*ai h:=by
  have x:=dN lw.1;have y:=dN lh.1;unfold ai;push_cast;grind
 rw[bw]
theorem abo(c1:wp w.1<=70)(c2:wp w.2<=70)(c3:wp h.1<=110)(c4:wp h.2<=110)(bC:wp g.1<=30)(bD:wp g.2<=30){b m n t N:Nat}{sh:Ze}(al:cP b m n t N sh)(ax:300<=m)(ab:301+m<=b):cP (b+423) (m+424) (n+2) (t+423) (3*N) (mu w h g sh):=by
 obtain⟨bU,bo,bG,hW⟩:=u' lw w0 lh h0 aJ aV c1 c2 c3 c4 bC bD;have en:aH 0 1:=⟨by decide,by decide⟩;have gg:=ym lw w0 lh h0 aJ aV rfl;unfold mu;generalize eD w h g=H at bU bo bG hW gg⊢;have cW:=jH (a:=w) (b:=(0,1)) (p:=70) (q:=2) lw en c1 c2 (by decide) (by decide);have cS:=jH (a:=(0,1)) (b:=H) (p:=2) (q:=210) en bU (by decide) (by decide) bo bG;have bl:cD 300 (bT w H):=(cW.bp.crs cS.bp).mono (by decide);have n7:(bT w H).1≠0\/(bT w H).2.1≠0:=u6 lw w0 bU gg;have e:(λc => -ln (bT w H) c)=ln (mh (bT w H)):=funext λc=>(m5 _ _).symm;have z1:cP b m (n+1) t N (ck (ln (bT w H)) (a0 (bT w H)) sh):=⟨pC al.1 bl (by lia) n7 (pf _ _) (by lia) _ (.inl rfl),SE (mi sh) al.2⟩
 have aP:cP b m (n+1) t N (ck (λc => -ln (bT w H) c) (a0 (bT w H)) sh):=by
  rw[e];exact⟨pC al.1 bl (by lia) n7 (pf _ _) (by lia) _ (.inr rfl),SE (mi sh) al.2⟩
 have bO:=z1.cL (X:=g) (q:=30) true aJ bC bD (by lia) (by lia);have bV:=z1.cL (X:=g) (q:=30) false aJ bC bD (by lia) (by lia);have aR:=jH (a:=(-g.1,g.2)) (b:=h) (p:=30) (q:=110) ⟨aJ.1,by rw[U6];exact aJ.2⟩ lh (Xu bC) bD c3 c4;obtain⟨su,_⟩:=n6 (a:=g) (b:=w) aJ.1 lw.1;obtain⟨sv,_⟩:=n6 (a:=H) (b:=h) bU.1 lh.1;obtain⟨bF,e2⟩:=u5 (a:=g) (b:=w) (p:=30) (q:=70) aJ.1 lw.1 bC bD c1 c2;obtain⟨mm,ka⟩:=u5 (a:=H) (b:=h) (p:=210) (q:=110) bU.1 lh.1 bo bG c3 c4;have bK:=jH (a:=fT g w) (b:=fT H h) (p:=101) (q:=321) su sv bF e2 mm ka;have a':=(bV.slid aR).mono (b':=b+423) (m':=m+424) (n':=n+2) (t':=t+423) (N':=N) (by lia) (by lia) (by lia) (by lia) (by lia);have cn:=(aP.slid bK).mono (b':=b+423) (m':=m+424) (n':=n+2) (t':=t+423) (N':=N) (by lia) (by lia) (by lia) (by lia) (by lia);have az:=bO.mono (b':=b+423) (m':=m+424) (n':=n+2) (t':=t+423) (N':=N) (by lia) (by lia) (by lia) (by lia) (by lia);exact((az.app a').app cn).mono (Sy _) (Sy _) (Sy _) (Sy _) (by lia)
theorem I9(c1:wp w.1<=70)(c2:wp w.2<=70)(c3:wp h.1<=110)(c4:wp h.2<=110)(bC:wp g.1<=30)(bD:wp g.2<=30){b m n t N:Nat}{sh:Ze}(al:cP b m n t N sh)(ax:300<=m)(ab:301+m<=b):cP (b+423) (m+424) (n+2) (t+423) (3*N) (lastB g (w,h,sh)).2.2/\aH (lastB g (w,h,sh)).2.1.1 (lastB g (w,h,sh)).2.1.2/\wp (lastB g (w,h,sh)).2.1.1<=210/\wp (lastB g (w,h,sh)).2.1.2<=210/\ai (lastB g (w,h,sh)).2.1=ai w*ai h/ai g:=by
 obtain⟨bU,bo,bG,hW⟩:=u' lw w0 lh h0 aJ aV c1 c2 c3 c4 bC bD;unfold lastB;by_cases e:w=g
 ·rw[SC e];refine⟨al.mo5,lh,aW c3,aW c4,?_⟩;show ai h=_
  have:=er w0 lw.1;rw[<-e];grind
 ·rw[SL e];exact⟨abo lw w0 lh h0 aJ aV c1 c2 c3 c4 bC bD al ax ab,bU,bo,bG,hW⟩
end
def va{a:ba}(h:0<ai a)(h2:0<a.2):0<a.1:=by
 apply TC;intro z;have z1:((a.1:Int):Rat)<=0:=by exact_mod_cast (show a.1<=0 by lia)
 have aP:(0:Rat)<((a.2:Int):Rat):=by exact_mod_cast h2
 unfold ai at h;rw[Ud]at h;have ew:=U5.mpr aP
 have:((a.1:Int):Rat)*(((a.2:Int):Rat))⁻¹<=0:=by
  have:=T4 z1 (Tw ew)
  rwa [Vv]at this
 grind
section
variable{w h g:ba}(lw:aH w.1 w.2)(w0:0<w.1)(lh:aH h.1 h.2)(h0:0<h.1)(aJ:aH g.1 g.2)(aV:0<g.1)(c1:wp w.1<=30)(c2:wp w.2<=30)(c3:wp h.1<=100)(c4:wp h.2<=100)(bC:wp g.1<=30)(bD:wp g.2<=30)
include lw w0 aJ aV c1 c2 bC bD
theorem yp(h1:g.1*w.2<=w.1*g.2)(iC:w.1*g.2<=8*(g.1*w.2)):aH (ik w g (dx w g)).1 (ik w g (dx w g)).2/\0<(ik w g (dx w g)).1/\wp (ik w g (dx w g)).1<=65/\wp (ik w g (dx w g)).2<=65/\ai (ik w g (dx w g))=ai w-ai g*((dx w g:Rat)-1):=by
 obtain⟨_,cq,eW,ah,_⟩:=sq lw w0 aJ aV h1 iC;generalize dx w g=N at cq eW ah⊢;obtain⟨jI,lL⟩:=hV (w:=g) aJ.1 ((N:Int)-1);obtain⟨bf,bL⟩:=lK (w:=g) (q:=30) aJ.1 bC bD (k:=(N:Int)-1) (by lia);obtain⟨fy,hX⟩:=n6 (a:=w) (b:=dc g ((N:Int)-1)) lw.1 jI.1;obtain⟨bF,e2⟩:=u5 (a:=w) (b:=dc g ((N:Int)-1)) (p:=30) (q:=34) lw.1 jI.1 c1 c2 bf bL;have qL:=er aV aJ.1;have hC:(((N:Int)-1:Int):Rat)=(N:Rat)-1:=by push_cast;rfl
 have e:ai (ik w g N)=ai w-ai g*((N:Rat)-1):=by
  unfold ik;rw[hX,lL,hC]
 refine⟨fy,va ?_ fy.1,bF,e2,e⟩;rw[e];grind
omit aJ aV bC bD
include lh h0 c3 c4
theorem vb{N:Nat}(hD:1<=N)(qM:N<=8):aH (f3 h N).1 (f3 h N).2/\0<(f3 h N).1/\wp (f3 h N).1<=104/\wp (f3 h N).2<=104/\ai (f3 h N)=ai h/(N:Rat)/\aH (dc w (N:Int)).1 (dc w (N:Int)).2/\0<(dc w (N:Int)).1/\wp (dc w (N:Int)).1<=34/\wp (dc w (N:Int)).2<=34/\ai (dc w (N:Int))=ai w*(N:Rat):=by
 have qN:wp (N:Int)<=4:=d6 (t:=8) (by lia) (by decide);obtain⟨fy,hX⟩:=nf (a:=h) (b:=((N:Int),1)) lh.1 (by show(0:Int)<N;lia) (show(0:Int)<1 by decide);obtain⟨bj,bt⟩:=so (a:=h) (b:=((N:Int),1)) (p:=100) (q:=4) lh.1 (by show(0:Int)<N;lia) c3 c4 qN (show wp 1<=4 by decide);obtain⟨jI,lL⟩:=hV (w:=w) lw.1 (N:Int);obtain⟨bf,bL⟩:=lK (w:=w) (q:=30) lw.1 c1 c2 (k:=(N:Int)) (by lia);have yq:(0:Rat)<(N:Rat):=by exact_mod_cast (show 0<N by lia)
 have W:=er w0 lw.1;have H:=er h0 lh.1
 have tF:ai ((N:Int),1)=(N:Rat):=by
  unfold ai;show((N:Int):Rat)/((1:Int):Rat)=_
  have:((1:Int):Rat)=1:=rfl;rw[this];have:(((N:Nat):Int):Rat)=(N:Rat):=rfl;rw[this];grind
 rw[tF]at hX
 have cW:0<ai (d9 h ((N:Int),1)):=by
  rw[hX,Ud];exact Te H (U5.mpr yq)
 have cS:0<ai (dc w (N:Int)):=by
  rw[lL];exact Te W yq
 exact⟨fy,va cW fy.1,bj,bt,hX,jI,va cS jI.1,bf,bL,lL⟩
include aJ aV bC bD
theorem I'{B bR n t N:Nat}{sh:Ze}(al:cP B bR n t N sh)(ej:310+bR<=B)(ax:270<=bR)(cq:1<=da w g)(eW:da w g<=8):
  cP (B+148) (bR+150) (n+3) (t+148) (N*8) (layB w h g sh).2.2:=by
 obtain⟨fy,iE,bj,bt,_⟩:=vb lw w0 lh h0 c1 c2 c3 c4 cq eW;have ke:=yk (c:=true) (w:=f3 h (da w g)) (b:=B) (m:=bR) (t:=t) (N:=N) (q:=104) fy.1 bj bt (by lia) (by lia) cq eW al;have bm:=nh (c:=true) (w:=f3 h (da w g)) (sh:=sh) cq eW;have:=I8 lw c1 c2 (i:=0) (Ss:=et true (f3 h (da w g)) sh (da w g)) (by lia) ke;refine this.mono (by lia) (by lia) (by lia) (by lia) ?_;rw[bm];exact Vz _ eW
theorem C6{B bR n t N:Nat}{sh:Ze}(al:cP B bR n t N sh)(ej:310+bR<=B)(ax:270<=bR)(r1:w.1*g.2<=8*(g.1*w.2))(r2:g.1*w.2<=8*(w.1*g.2)):
  (∀x∈fu w h g sh,aH x.2.1.1 x.2.1.2/\wp x.2.1.1<=210/\wp x.2.1.2<=210/\cP (B+571) (bR+574) (n+5) (t+571) (24*N) x.2.2) /\
  (∀pre x rest,fu w h g sh=pre++x::rest->aH (bN pre (0,1)).1 (bN pre (0,1)).2/\wp (bN pre (0,1)).1<=104/\wp (bN pre (0,1)).2<=104) /\
  ((fu w h g sh).map λb=>b.2.2.length).sum<=24*N/\bN (fu w h g sh) (0,1)=eD w h g:=by
 have en:aH 0 1:=⟨by decide,by decide⟩;obtain⟨bU,bo,bG,hW⟩:=u' lw w0 lh h0 aJ aV c1 c2 c3 c4 bC bD;have oJ:=er w0 lw.1;have qL:=er aV aJ.1;have gg:=er h0 lh.1;have z0:ai (0,1)=0:=hm _;by_cases c:w.1*g.2<g.1*w.2
 ·obtain⟨_,cq,eW,_,_⟩:=u8 lw w0 aJ aV c r2;obtain⟨fy,iE,bj,bt,hX,jI,nR,bf,bL,lL⟩:=vb lw w0 lh h0 c1 c2 c3 c4 cq eW;have r8:=I' lw w0 lh h0 aJ aV c1 c2 c3 c4 bC bD al ej ax cq eW;obtain⟨cc,ci,iY,yr,yt⟩:=I9 jI nR fy iE aJ aV (aW bf) (aW bL) (aW bj) (aW bt) bC bD r8 (by lia) (by lia);have yq:(0:Rat)<(da w g:Rat):=by exact_mod_cast (show 0<da w g by lia)
  have Ja:ai (lastB g (layB w h g sh)).2.1=ai w*ai h/ai g:=by
   refine yt.trans ?_;rw[hX,lL];grind
  have C7:cP (B+148+423) (bR+150+424) (n+3+2) (t+148+423) (3*(N*8)) (lastB g (layB w h g sh)).2.2:=cc;have yu:aH (lastB g (layB w h g sh)).2.1.1 (lastB g (layB w h g sh)).2.1.2:=ci;have Jb:wp (lastB g (layB w h g sh)).2.1.1<=210:=iY;have Jc:wp (lastB g (layB w h g sh)).2.1.2<=210:=yr;rw[u9 c];generalize lastB g (layB w h g sh)=X at C7 yu Jb Jc Ja⊢;refine⟨λx ao=>?_,λpre x rest e=>?_,?_,?_⟩
  ·rw[SO.mp ao];exact⟨yu,Jb,Jc,C7.mo5⟩
  ·cases pre with
   |nil=>exact⟨en,by decide,by decide⟩
   |cons y r=>exact absurd (TW S0 e) (by simp)
  ·have:=C7.2;simp only[SG,TG,SQ,UD];lia
  ·refine u7 (pE en.1 yu.1) bU ?_;show ai (ij (0,1) X.2.1)=_
   rw[u4 en.1 yu.1,hW,Ja,z0];grind
 ·have h1:g.1*w.2<=w.1*g.2:=by lia
  obtain⟨_,cq,eW,_,_⟩:=sq lw w0 aJ aV h1 r1;obtain⟨fy,iE,bj,bt,hX⟩:=yp lw w0 aJ aV c1 c2 bC bD h1 r1;have ke:=yk (c:=false) (w:=g) (b:=B) (m:=bR) (t:=t) (N:=N) (q:=30) aJ.1 bC bD (by lia) (by lia) cq eW al;have bm:=nh (c:=false) (w:=g) (sh:=sh) cq eW
  obtain⟨Ss,Z,g1⟩:∃Ss Z,et false g sh (dx w g)=Ss++[Z]:=by
   rcases UT (et false g sh (dx w g))with z|⟨Ss,Z,z⟩
   ·rw[z]at bm;simp at bm;lia
   ·exact⟨Ss,Z,by rw[z,UU]⟩
  rw[ss c g1];rw[g1]at ke bm;rw[SH,TA]at bm;obtain⟨cc,ci,iY,yr,yt⟩:=I9 fy iE lh h0 aJ aV (aW bj) (aW bt) (aW c3) (aW c4) bC bD (ke Z (by simp)) (by lia) (by lia);generalize lastB g (ik w g (dx w g),h,Z)=X at cc ci iY yr yt⊢
  have eO:∀b∈Ss.map (λS=>((g,h,S):BoxD)),b.2.1=h:=λb ab=>by
   obtain⟨S,_,rfl⟩:=SM.mp ab;rfl
  refine⟨λx ao=>?_,λpre x rest e=>?_,?_,?_⟩
  ·rcases SR.mp ao with ao|ao
   ·obtain⟨S,cu,rfl⟩:=SM.mp ao;exact⟨lh,aW c3,aW c4,(ke S (TN _ cu)).mo5⟩
   ·rw[SO.mp ao];exact⟨ci,iY,yr,cc.mo5⟩
  ·have sub:∀b∈pre,b∈Ss.map (λS=>((g,h,S):BoxD)):=by
    have:=TW List.dropLast e;rw[Wj,List.dropLast_append_of_ne_nil (by simp)]at this;intro b ab;rw[this];exact TN _ ab
   have cp:pre.length<=Ss.length:=by
    have:=TW S0 e;simp only[SH,Sw,SN,Uq]at this;lia
   rw[I7 lh λb ab=>eO b (sub b ab)];obtain⟨bf,bL⟩:=lK (w:=h) (q:=100) lh.1 c3 c4 (k:=(pre.length:Int)) (by lia);exact⟨(hV lh.1 _).1,bf,bL⟩
  ·rw[SJ,Ut,SU]
   have az:(Ui ((λb:BoxD=>b.2.2.length)∘λS=>((g,h,S):BoxD)) Ss).sum<=N*Ss.length:=by
    have:∀mv:Zv,(∀S∈mv,S.length<=N)->(Ui ((λb:BoxD=>b.2.2.length)∘λS=>((g,h,S):BoxD)) mv).sum<=N*mv.length:=λmv=>by
     induction mv with
     |nil=>intro _;exact S8 _
     |cons S r cH=>
      intro d0;have x:=d0 S Sx;have y:=cH λS cu=>d0 S (Sz _ cu);rw[SG,SQ,SN,Uh];show S.length+_<=_
      lia
    exact this Ss λS cu=>(ke S (TN _ cu)).2
   have a':=cc.2;have cn:N*Ss.length<=N*7:=Vz _ (by lia);simp only[SG,TG,SQ,UD];lia
  ·rw[yj,I7 lh eO,Sw];obtain⟨kB,em⟩:=hV (w:=h) lh.1 (Ss.length:Int);refine u7 (pE kB.1 ci.1) bU ?_;show ai (ij (dc h (Ss.length:Int)) X.2.1)=_
   rw[u4 kB.1 ci.1,em,yt,hX,hW];have tF:(dx w g:Rat)=(Ss.length:Rat)+1:=by rw[<-bm];push_cast;rfl
   have abp:(((Ss.length:Nat):Int):Rat)=(Ss.length:Rat):=rfl;rw[tF,abp];grind
theorem abq{B bR n t N:Nat}{sh:Ze}(al:cP B bR n t N sh)(ej:310+bR<=B)(ax:270<=bR)(r1:w.1*g.2<=8*(g.1*w.2))(r2:g.1*w.2<=8*(w.1*g.2)):
  cP (B+678) (bR+682) (n+5) (t+678) (24*N) (dh (fu w h g sh) (0,1)):=by
 obtain⟨bO,bV,gG,_⟩:=C6 lw w0 lh h0 aJ aV c1 c2 c3 c4 bC bD al ej ax r1 r2
 have:=yo (q:=106) (bs:=fu w h g sh) (H:=(0,1)) (λpre x rest e=>by
  obtain⟨l,a7,bd⟩:=bV pre x rest e
  exact jH (a:=(0,1)) (p:=2) (q:=104) ⟨by decide,by decide⟩ l (by decide) (by decide) a7 bd) λx ao=>(bO x ao).2.2.2
 exact⟨(this.mono (by lia) (by lia) (by lia) (by lia) (Sy _)).1,by rw[qK];exact gG⟩
end
end Cut
namespace L3
open PySem L2
def abr{α:Type}(xs:List α)(x:α):gV (xs++[x]) none (some (-1))=xs:=by
 unfold gV;have ah:HT.sIx (xs++[x]).length 0 none=0:=rfl
 have ap:HT.sIx (xs++[x]).length (xs++[x]).length (some (-1))=xs.length:=by
  unfold HT.sIx;simp
  try lia
 rw[ah,ap,V1,Nat.sub_zero,List.take_left]
end L3
namespace Cut
open PySem L2 L3
open PySem.Builtin.Int (intBits)
def fc.slid{sh:Ze}{g:aa}{u v:Rat}(aC:cf g u v)(h:fc sh):fc (sh.map (eU g)):=by
 intro s al p ae;obtain⟨r,ak,rfl⟩:=SM.mp al;obtain⟨q,au,rfl⟩:=SM.mp (show p∈r.1.map λp=>nP (sld g p)from ae);exact(lD aC ⟨h r ak q au,rfl,rfl⟩).1
def fc.app{a b:Ze}(h:fc a)(g:fc b):fc (a++b):=λs al=>(SR.mp al).elim (h s) (g s)
def sw(m:Rat):∃X:ba,aH X.1 X.2/\ai X=m:=by
 refine⟨(m.num,(m.den:Int)),⟨by show(0:Int)<(m.den:Int);exact_mod_cast m.den_pos,?_⟩,?_⟩
 ·have:=m.reduced;show Hh m.num (m.den:Int)=1
  exact this
 ·unfold ai;exact(Rat.divInt_eq_div _ _).symm.trans (Rat.num_divInt_den m)
def oneS(R:Zd):List Piece:=[(R,false,(0,0,1))]
def Jd(R:Zd):f2 (oneS R) R:=fS.refl _
def Je{R:Zd}(h:∀p∈R,aT p):fc (oneS R):=λs al=>by rw[SO.mp al];exact h
def Jf{l o:aa}{R:Zd}(am:l.1≠0\/l.2.1≠0)(aA:aT o)(lo:ln l o=0)(aL:∀p∈R,aT p)(φ:Zt->Int):fG φ ((ck (ln l) (a0 l) (oneS R)).map λs=>s.1)+fG φ ((ck (λc => -ln l c) (a0 l) (oneS R)).map λs=>s.1)=dk φ R:=by
 rw[uH,uH];show fG φ [c9 (ln l) (a0 l) R]+fG φ [c9 (λc => -ln l c) (a0 l) R]=dk φ R
 rw[hT,hT];exact xZ φ am aA lo aL
def abt{R ni fB:Zd}{ce bF b8 bI m:Rat}(r1:gf ni ce m b8 bI)(r2:gf fB m bF b8 bI)(r:gf R ce bF b8 bI)(h0:ce<m)(h1:m<bF)(φ:Zt->Int):dk φ ni+dk φ fB=dk φ R:=by
 obtain⟨X,fH,rfl⟩:=sw m;obtain⟨⟨IU,aR,z1⟩,IV,bK,aP⟩:=IS (Je r.pts) (Jd R) r fH h0 h1;obtain⟨dq,dM,hF⟩:=uJ fH;have s:=Jf dq dM hF r.pts φ;have a:=z1 φ;have b:=aP φ;rw[aR.eq r1,hT]at a;rw[bK.eq r2,hT]at b;rw[<-a,<-b,<-s];rfl
def abu{R ni fB:Zd}{ce bF b8 bI m:Rat}(r1:gf ni ce bF b8 m)(r2:gf fB ce bF m bI)(r:gf R ce bF b8 bI)(h0:b8<m)(h1:m<bI)(φ:Zt->Int):dk φ ni+dk φ fB=dk φ R:=by
 obtain⟨X,fH,rfl⟩:=sw m;obtain⟨⟨IU,aR,z1⟩,IV,bK,aP⟩:=IT (Je r.pts) (Jd R) r fH h0 h1;obtain⟨dq,dM,hF⟩:=uK fH;have s:=Jf dq dM hF r.pts φ;have a:=z1 φ;have b:=aP φ;rw[aR.eq r1,hT]at a;rw[bK.eq r2,hT]at b;rw[<-a,<-b,<-s,Rat.add_comm];rfl
def f2.join{A B:Ze}{ni fB R:Zd}(h1:f2 A ni)(h2:f2 B fB)(e:∀φ,dk φ ni+dk φ fB=dk φ R):f2 (A++B) R:=λφ=>by
 rw[SJ,qA,h1 φ,h2 φ,hT,hT,hT,e]
def C8(ce bF b8 bI:Rat):∃R,gf R ce bF b8 bI:=by
 obtain⟨a,la,rfl⟩:=sw ce;obtain⟨b,lb,rfl⟩:=sw bF;obtain⟨c,hg,rfl⟩:=sw b8;obtain⟨d,ld,rfl⟩:=sw bI;exact⟨_,_,_,_,_,rfl,gJ la.1 hg.1,gJ lb.1 hg.1,gJ lb.1 ld.1,gJ la.1 ld.1⟩
def dH(S:Ze)(ce bF b8 bI:Rat):Prop:=fc S/\∃R,f2 S R/\gf R ce bF b8 bI
def dH.to{S:Ze}{ce bF b8 bI z0 z1 w0 w1:Rat}(h:dH S ce bF b8 bI)(ah:ce=z0)(ap:bF=z1)(bw:b8=w0)(cT:bI=w1):dH S z0 z1 w0 w1:=by subst ah ap bw cT;exact h
def dH.slid{S:Ze}{ce bF b8 bI u v:Rat}{g:aa}(aC:cf g u v)(h:dH S ce bF b8 bI):dH (S.map (eU g)) (ce+u) (bF+u) (b8+v) (bI+v):=by
 obtain⟨ae,R,am,r⟩:=h;exact⟨ae.slid aC,_,am.slid aC.1 ae r.pts,r.slid aC⟩
def dH.joinU{A B:Ze}{ce bF b8 bI m:Rat}(h:dH A ce m b8 bI)(g:dH B m bF b8 bI)(h0:ce<m)(h1:m<bF):dH (A++B) ce bF b8 bI:=by
 obtain⟨ae,ni,bj,r1⟩:=h;obtain⟨au,fB,bt,r2⟩:=g;obtain⟨R,r⟩:=C8 ce bF b8 bI;exact⟨ae.app au,R,bj.join bt (abt r1 r2 r h0 h1),r⟩
def dH.joinV{A B:Ze}{ce bF b8 bI m:Rat}(h:dH A ce bF b8 m)(g:dH B ce bF m bI)(h0:b8<m)(h1:m<bI):dH (A++B) ce bF b8 bI:=by
 obtain⟨ae,ni,bj,r1⟩:=h;obtain⟨au,fB,bt,r2⟩:=g;obtain⟨R,r⟩:=C8 ce bF b8 bI;exact⟨ae.app au,R,bj.join bt (abu r1 r2 r h0 h1),r⟩
def pF(n:Nat):((n+1:Nat):Rat)=(n:Rat)+1:=by push_cast;rfl
def Jg{w:ba}(lw:aH w.1 w.2)(w0:0<w.1){L:Rat}:∀{Ss:Zv}{S:Ze}{i:Nat},(∀T∈S::Ss,dH T 0 (ai w) 0 L)->dH (fU w i (S::Ss)) (ai w*(i:Rat)) (ai w*((i+Ss.length+1:Nat):Rat)) 0 L
 |Ss,S,i,al=>by
  have W:=er w0 lw.1;obtain⟨fH,mq⟩:=hV (w:=w) lw.1 (i:Int);have ei:(((i:Nat):Int):Rat)=(i:Rat):=rfl;have gp:cf (cj (dc w (i:Int)) (0,1)) (ai w*(i:Rat)) 0:=(gJ (w:=dc w (i:Int)) (h:=(0,1)) fH.1 (by decide)).to (mq.trans (by rw[ei])) (hm _);have a:=(al S Sx).slid gp
  have e:fU w i (S::Ss)=S.map (eU (cj (dc w (i:Int)) (0,1)))++fU w (i+1) Ss:=by
   unfold fU;rw[fI,Us]
  rw[e];have fk:=a.to (z0:=ai w*(i:Rat)) (z1:=ai w*((i+1:Nat):Rat)) (w0:=0) (w1:=L) (by grind) (by rw[pF];grind) (by grind) (by grind)
  match Ss,al with
  |[],al=>
   have:fU w (i+1) ([]:Zv)=[]:=rfl;rw[this,SP];exact fk
  |T::r,al=>
   have b:=Jg lw w0 (L:=L) (Ss:=r) (S:=T) (i:=i+1) λX o4=>al X (Sz _ o4);have c:=b.to (z1:=ai w*((i+(T::r).length+1:Nat):Rat)) rfl (by rw[SN,show i+1+r.length+1=i+(r.length+1)+1 by lia]) rfl rfl;refine fk.joinU c ?_ ?_
   ·rw[pF];grind
   ·have lt:((i+1:Nat):Rat)<((i+(T::r).length+1:Nat):Rat):=by
     exact_mod_cast (show i+1<i+(T::r).length+1 by rw[SN];lia)
    have:=Vx lt W;grind
def yv{G:Rat}:∀{bs:Zi}{b:BoxD}{H:ba},aH H.1 H.2->(∀x∈b::bs,dH x.2.2 0 G 0 (ai x.2.1)/\0<x.2.1.2/\0<ai x.2.1)->dH (dh (b::bs) H) 0 G (ai H) (ai (bN (b::bs) H))/\ai H<ai (bN (b::bs) H)
 |bs,b,H,bU,al=>by
  obtain⟨o,cS,FJ⟩:=al b Sx;have gp:cf (cj (0,1) H) 0 (ai H):=(gJ (by decide) bU.1).to (hm _) rfl;have a:=o.slid gp;have kO:=pE bU.1 cS;have yw:=u4 bU.1 cS;have fk:=a.to (z0:=0) (z1:=G) (w0:=ai H) (w1:=ai (ij H b.2.1)) (by grind) (by grind) (by grind) (by rw[yw];grind);rw[dh,bN]
  match bs,al with
  |[],al=>
   have:dh ([]:Zi) (ij H b.2.1)=[]:=rfl;rw[this,SP];exact⟨fk,by show ai H<ai (ij H b.2.1);rw[yw];grind⟩
  |c::r,al=>
   obtain⟨q,lt⟩:=yv (G:=G) (bs:=r) (b:=c) (H:=ij H b.2.1) kO λx ao=>al x (Sz _ ao);exact⟨fk.joinV q (by rw[yw];grind) lt,by rw[yw]at lt;grind⟩
section
variable{f:aa->Int}{mt:aa->aa->aa}{a b c d:aa}
def abv(ar:0<f a)(ab:f b=0)(hc:f c<0)(hd:0<f d):c9 f mt [a,b,c,d]=[a,b,mt c d,d]:=by
 rw[lF a (by simp) ar,lE,ge (by lia),f1 (.inl ⟨by lia,by lia⟩),ge (by lia),f1 (.inr ⟨by lia,by lia⟩),hn hc,hU (.inr ⟨hc,hd⟩),ge (by lia),f1 (.inl ⟨by lia,by lia⟩)];rfl
def abw(ar:f a<0)(ab:f b=0)(hc:0<f c)(hd:f d<0):c9 f mt [a,b,c,d]=[b,c,mt c d]:=by
 rw[lF c (by simp) hc,lE,hn ar,f1 (.inr ⟨by lia,by lia⟩),ge (by lia),f1 (.inl ⟨by lia,by lia⟩),ge (by lia),hU (.inl ⟨hc,hd⟩),hn hd,f1 (.inr ⟨by lia,by lia⟩)];rfl
def abx(ar:0<f a)(ab:f b<0)(hc:0<f c)(hd:0<f d):c9 f mt [a,b,c,d]=[a,mt a b,mt b c,c,d]:=by
 rw[lF a (by simp) ar,lE,ge (by lia),hU (.inl ⟨ar,ab⟩),hn ab,hU (.inr ⟨ab,hc⟩),ge (by lia),f1 (.inl ⟨by lia,by lia⟩),ge (by lia),f1 (.inl ⟨by lia,by lia⟩)];rfl
def aby(ar:f a<0)(ab:0<f b)(hc:f c<0)(hd:f d<0):c9 f mt [a,b,c,d]=[mt a b,b,mt b c]:=by
 rw[lF b (by simp) ab,lE,hn ar,hU (.inr ⟨ar,ab⟩),ge (by lia),hU (.inl ⟨ab,hc⟩),hn hc,f1 (.inr ⟨by lia,by lia⟩),hn hd,f1 (.inr ⟨by lia,by lia⟩)];rfl
def abz(ar:f a<0)(ab:f b<0)(hc:f c<0)(hd:0<f d):c9 f mt [a,b,c,d]=[mt c d,d,mt d a]:=by
 rw[lF d (by simp) hd,lE,hn ar,f1 (.inr ⟨by lia,by lia⟩),hn ab,f1 (.inr ⟨by lia,by lia⟩),hn hc,hU (.inr ⟨hc,hd⟩),ge (by lia),hU (.inl ⟨hd,ar⟩)];rfl
def abA(ar:0<f a)(ab:0<f b)(hc:0<f c)(hd:f d<0):c9 f mt [a,b,c,d]=[a,b,c,mt c d,mt d a]:=by
 rw[lF a (by simp) ar,lE,ge (by lia),f1 (.inl ⟨by lia,by lia⟩),ge (by lia),f1 (.inl ⟨by lia,by lia⟩),ge (by lia),hU (.inl ⟨hc,hd⟩),hn hd,hU (.inr ⟨hd,ar⟩)];rfl
end
def fc.cut{sh:Ze}{l:aa}(h:fc sh):fc (ck (ln l) (a0 l) sh)/\fc (ck (λc => -ln l c) (a0 l) sh):=by
 have key:∀f:aa->Int,(∀p q,f p*f q<0->ln l p*ln l q<0)->fc (ck f (a0 l) sh):=λf bu s al p ae=>by
  obtain⟨t,bv,rfl,c⟩:=ul al;rcases qv ae with⟨h1,_⟩|⟨u,h1,v,h2,aF,rfl⟩
  ·exact h t bv p h1
  ·have gp:=h t bv u h1;have iZ:=h t bv v h2;rw[<-kH gp iZ];exact fZ (kI gp iZ (bu _ _ aF))
 exact⟨key _ (λ_ _ z=>z),key _ (λp q z=>by rwa [T3]at z)⟩
section
variable{w H:ba}(lw:aH w.1 w.2)(bU:aH H.1 H.2)
include lw bU
theorem n8{c:aa}{x y:Rat}(hc:cf c x y):∃k:Rat,0<k/\((ln (bT w H) c:Int):Rat)=k*(ai w*ai H-ai H*x-ai w*y):=by
 have hh:cf (cj w (0,1)) (ai w) 0:=(gJ lw.1 (by decide)).to rfl (hm _);have jA:cf (cj (0,1) H) 0 (ai H):=(gJ (by decide) bU.1).to (hm _) rfl;obtain⟨k,cr,e⟩:=Cw hh jA hc;exact⟨k,cr,by show((bi _ _ c:Int):Rat)=_;rw[e];grind⟩
theorem Jh{p q:aa}{bF bI e2 dD x y:Rat}(w0:0<ai w)(gg:0<ai H)(ae:cf p bF bI)(au:cf q e2 dD)(h:ln (bT w H) p*ln (bT w H) q<0)(am:ai H*x+ai w*y=ai w*ai H)(hz:(bF=e2/\x=bF)\/(bI=dD/\y=bI)):cf (a0 (bT w H) p q) x y:=by
 have pm:aT (a0 (bT w H) p q):=by rw[<-kH ae.1 au.1];exact fZ (kI ae.1 au.1 h)
 obtain⟨a,b,Ib,ex,fl⟩:=B1 (qu h) ae.1.1 au.1.1 pm.1;have n0:cf (a0 (bT w H) p q) (iA (a0 (bT w H) p q)) (iB (a0 (bT w H) p q)):=⟨pm,rfl,rfl⟩;obtain⟨k,cr,e⟩:=n8 lw bU n0;rw[r3 h]at e;have bO:k≠0:=by intro z;rw[z]at cr;exact absurd cr (by decide)
 have z:ai w*ai H-ai H*iA (a0 (bT w H) p q)-ai w*iB (a0 (bT w H) p q)=0:=by
  have:k*(ai w*ai H-ai H*iA (a0 (bT w H) p q)-ai w*iB (a0 (bT w H) p q))=0:=by rw[<-e];rfl
  grind
 have u0:ai w≠0:=by grind
 have ahX:ai H≠0:=by grind
 rw[ae.2.1,au.2.1]at ex;rw[ae.2.2,au.2.2]at fl;generalize iA (a0 (bT w H) p q)=cA at *;generalize iB (a0 (bT w H) p q)=vc at *;rcases hz with⟨h1,h2⟩|⟨h1,h2⟩
 ·subst h1 h2;have ah:cA=x:=by rw[ex];grind
  subst ah;refine n0.to rfl ?_;have:ai w*(vc-y)=0:=by grind
  grind
 ·subst h1 h2;have ah:vc=y:=by rw[fl];grind
  subst ah;refine n0.to ?_ rfl;have:ai H*(cA-x)=0:=by grind
  grind
end
def pG{a:Int}(h:0<a): -a<0:=by lia
def sx{a:Int}(h:a<0):0 < -a:=by lia
section
variable{w h g H:ba}(lw:aH w.1 w.2)(w0:0<w.1)(lh:aH h.1 h.2)(h0:0<h.1)(aJ:aH g.1 g.2)(aV:0<g.1)(bU:aH H.1 H.2)(gg:0<H.1)(e:ai g*ai H=ai w*ai h)(vd:ai g<ai w)(pH:ai w<2*ai g)
include lw w0 lh h0 aJ aV bU gg e vd pH
theorem abB{sh:Ze}(on:dH sh 0 (ai w) 0 (ai h)):∃A E B P C M D:aa,cf A 0 0/\cf E (ai g) 0/\cf B (ai w) 0/\cf P (ai g) (ai H-ai h)/\cf C (ai w) (ai h)/\cf M (ai w-ai g) (ai h)/\cf D 0 (ai h) /\
  f2 (cL g true (ck (ln (bT w H)) (a0 (bT w H)) sh)) [A,E,P,M,D]/\f2 (cL g false (ck (ln (bT w H)) (a0 (bT w H)) sh)) [E,B,P]/\f2 (ck (λc => -ln (bT w H) c) (a0 (bT w H)) sh) [B,C,M]:=by
 obtain⟨ae,R,am,r⟩:=on;have au:=r.pts;have W:=er w0 lw.1;have L:=er h0 lh.1;have G:=er aV aJ.1;have pI:=er gg bU.1;obtain⟨A,B,C,D,rfl,kP,mw,sy,nj⟩:=r;have n7:(bT w H).1≠0\/(bT w H).2.1≠0:=u6 lw w0 bU gg;have hh:cf (cj w (0,1)) (ai w) 0:=(gJ lw.1 (by decide)).to rfl (hm _);obtain⟨z1,aP⟩:=x6 am n7 hh.1 (pf _ _) ae au;have h8:ai w*ai H-ai w*ai h=ai H*(ai w-ai g):=by grind
 have qs:0<ln (bT w H) A:=by
  obtain⟨k,cr,aS⟩:=n8 lw bU kP;refine mo cr aS ?_;have:=Te W pI;grind
 have abC:ln (bT w H) B=0:=by
  obtain⟨k,cr,aS⟩:=n8 lw bU mw;exact x9 aS (by grind)
 have qO:ln (bT w H) C<0:=by
  obtain⟨k,cr,aS⟩:=n8 lw bU sy;refine pw cr aS ?_;have:=Te W L;grind
 have ve:0<ln (bT w H) D:=by
  obtain⟨k,cr,aS⟩:=n8 lw bU nj;refine mo cr aS ?_;have:=Te pI (show 0<ai w-ai g by grind);grind
 have lM:cf (a0 (bT w H) C D) (ai w-ai g) (ai h):=Jh lw bU W pI sy nj (Uc qO ve) (by grind) (.inr ⟨rfl,rfl⟩);rw[abv (f:=ln (bT w H)) qs abC qO ve]at z1;rw[abw (f:=λc => -ln (bT w H) c) (pG qs) (by show -ln (bT w H) B=0;lia) (sx qO) (pG ve)]at aP;generalize a0 (bT w H) C D=M at lM z1 aP;obtain⟨dq,dM,hF⟩:=uJ aJ;obtain⟨bI,dD⟩:=x6 z1 dq dM hF (ae.cut (l:=bT w H)).1 (CA kP.1 mw.1 lM.1 nj.1);have qP:=uN aJ kP (by grind);have yx:=Cx aJ mw (by grind);have C9:=uN aJ lM (by grind);have qQ:=uN aJ nj (by grind);have mx:=x' aJ kP mw (S2 qP yx) (y:=0) (by grind);have my:=x' aJ mw lM (Uc yx C9) (y:=ai H-ai h) (by grind);rw[abx (f:=ln (ef g)) qP yx C9 qQ]at bI;rw[aby (f:=λc => -ln (ef g) c) (pG qP) (sx yx) (pG C9) (pG qQ)]at dD;exact⟨A,_,B,_,C,M,D,kP,mx,mw,my,sy,lM,nj,bI,dD,aP⟩
theorem abD{R:Zd}{A E P M D qR lN:aa}(r:gf R 0 (ai g) 0 (ai H))(kP:cf A 0 0)(mx:cf E (ai g) 0)(my:cf P (ai g) (ai H-ai h))(lM:cf M (ai w-ai g) (ai h))(nj:cf D 0 (ai h))(sA:cf qR (ai g) (ai H))(nk:cf lN 0 (ai H))(φ:Zt->Int):
  dk φ [A,E,P,M,D]+dk φ [D,M,lN]+dk φ [P,qR,lN]=dk φ R:=by
 have W:=er w0 lw.1;have L:=er h0 lh.1;have G:=er aV aJ.1;have pI:=er gg bU.1;have au:=r.pts
 have d5:R=[A,E,qR,lN]:=by
  obtain⟨a,b,c,d,rfl,Ji,Jj,abE,abF⟩:=r;exact Ig (Ji.eq kP) (Jj.eq mx) (abE.eq sA) (abF.eq nk)
 subst d5
 have F6:0<ai g*(ai H-ai h):=by
  have:=Te (show 0<ai w-ai g by grind) L;grind
 have abG:ai h<ai H:=by
  apply TC;intro z;have z:=Rat.not_lt.mp z;have:=VA z (Tw G);grind
 have aQ:ai H<2*ai h:=by
  apply TC;intro z;have z:=Rat.not_lt.mp z;have a:=VA z (Tw G);have b:=Vx pH L;grind
 have n7:(bT w H).1≠0\/(bT w H).2.1≠0:=u6 lw w0 bU gg;have hh:cf (cj w (0,1)) (ai w) 0:=(gJ lw.1 (by decide)).to rfl (hm _);have az:=xZ φ n7 hh.1 (pf _ _) au
 have qs:0<ln (bT w H) A:=by
  obtain⟨k,cr,aS⟩:=n8 lw bU kP;refine mo cr aS ?_;have:=Te W pI;grind
 have C':0<ln (bT w H) E:=by
  obtain⟨k,cr,aS⟩:=n8 lw bU mx;refine mo cr aS ?_;have:=Te pI (show 0<ai w-ai g by grind);grind
 have qO:ln (bT w H) qR<0:=by
  obtain⟨k,cr,aS⟩:=n8 lw bU sA;refine pw cr aS ?_;have:=Te pI G;grind
 have ve:ln (bT w H) lN=0:=by
  obtain⟨k,cr,aS⟩:=n8 lw bU nk;exact x9 aS (by grind)
 have abH:cf (a0 (bT w H) E qR) (ai g) (ai H-ai h):=Jh lw bU W pI mx sA (S2 C' qO) (by grind) (.inl ⟨rfl,rfl⟩);rw[aal (f:=ln (bT w H)) qs C' qO ve,aak (f:=λc => -ln (bT w H) c) (pG qs) (pG C') (sx qO) (by show -ln (bT w H) lN=0;lia),abH.eq my]at az;obtain⟨dq,dM,hF⟩:=uK lh;have a':=xZ φ dq dM hF (CA kP.1 mx.1 my.1 nk.1);have qP:=uO lh kP L;have Jk:=uO lh mx L;have Da:=uO lh my (by grind);have qQ:=Cy lh nk abG;have abI:=ya lh my nk (Uc Da qQ) (x:=ai w-ai g) (by grind);have abJ:=ya lh nk kP (S2 qQ qP) (x:=0) (by grind);rw[abz (f:=ln (eg h)) qP Jk Da qQ,abA (f:=λc => -ln (eg h) c) (sx qP) (sx Jk) (sx Da) (pG qQ),abI.eq lM,abJ.eq nj]at a';have t:=Co φ D [M,lN];have t':dk φ [M,lN,D]=dk φ [D,M,lN]:=t;rw[t']at a';rw[<-az,<-a'];grind
end
section
variable{w h g:ba}(lw:aH w.1 w.2)(w0:0<w.1)(lh:aH h.1 h.2)(h0:0<h.1)(aJ:aH g.1 g.2)(aV:0<g.1)
include lw w0 lh h0 aJ aV
theorem yy:aH (eD w h g).1 (eD w h g).2/\0<(eD w h g).1/\ai g*ai (eD w h g)=ai w*ai h:=by
 obtain⟨a,_,_,d⟩:=u' lw w0 lh h0 aJ aV (VB _ (wp w.2)) (VC (wp w.1) _) (VB _ (wp h.2)) (VC (wp h.1) _) (VB _ (wp g.2)) (VC (wp g.1) _);refine⟨a,ym lw w0 lh h0 aJ aV rfl,?_⟩;have:=er aV aJ.1;rw[d];grind
theorem abK(vd:ai g<ai w)(pH:ai w<2*ai g){sh:Ze}(on:dH sh 0 (ai w) 0 (ai h)):dH (mu w h g sh) 0 (ai g) 0 (ai (eD w h g)):=by
 obtain⟨bU,gg,e⟩:=yy lw w0 lh h0 aJ aV;unfold mu;generalize eD w h g=H at bU gg e⊢;obtain⟨A,E,B,P,C,M,D,kP,mx,mw,my,sy,lM,nj,bI,dD,aP⟩:=abB lw w0 lh h0 aJ aV bU gg e vd pH on;obtain⟨R,r⟩:=C8 0 (ai g) 0 (ai H);obtain⟨fk,b',qR,lN,Jl,Ji,Jj,sA,nk⟩:=id r;obtain⟨cW,cS⟩:=on.1.cut (l:=bT w H);have bO:=cW.cL (b:=true) aJ;have bV:=cW.cL (b:=false) aJ
 have dL:ai (-g.1,g.2) = -ai g:=by
  unfold ai;show((-g.1:Int):Rat)/_=_
  rw[Vy];grind
 have az:cf (cj (-g.1,g.2) h) (-ai g) (ai h):=(gJ (w:=(-g.1,g.2)) aJ.1 lh.1).to dL rfl;obtain⟨su,sk⟩:=n6 (a:=g) (b:=w) aJ.1 lw.1;obtain⟨sv,pA⟩:=n6 (a:=H) (b:=h) bU.1 lh.1;have a':cf (cj (fT g w) (fT H h)) (ai g-ai w) (ai H-ai h):=(gJ su.1 sv.1).to sk pA;have bt:=dD.slid az.1 bV (Ih mx.1 mw.1 my.1);have eG:=aP.slid a'.1 cS (Ih mw.1 sy.1 lM.1);have ap:Ui (λp=>nP (sld (cj (-g.1,g.2) h) p)) [E,B,P]=[D,M,lN]:=Ie (((lD az mx).to (by grind) (by grind)).eq nj) (((lD az mw).to (by grind) (by grind)).eq lM) (((lD az my).to (by grind) (by grind)).eq nk);have bw:Ui (λp=>nP (sld (cj (fT g w) (fT H h)) p)) [B,C,M]=[P,qR,lN]:=Ie (((lD a' mw).to (by grind) (by grind)).eq my) (((lD a' sy).to (by grind) (by grind)).eq sA) (((lD a' lM).to (by grind) (by grind)).eq nk);rw[ap]at bt;rw[bw]at eG;refine⟨(bO.app (bV.slid az)).app (cS.slid a'),R,λφ=>?_,r⟩;have t:=abD lw w0 lh h0 aJ aV bU gg e vd pH r kP mx my lM nj sA nk φ;rw[SJ,SJ,qA,qA,bI φ,bt φ,eG φ,hT,hT,hT,hT,t]
theorem Jm(vd:ai g<=ai w)(pH:ai w<2*ai g){sh:Ze}(on:dH sh 0 (ai w) 0 (ai h)):dH (lastB g (w,h,sh)).2.2 0 (ai g) 0 (ai (lastB g (w,h,sh)).2.1)/\0<(lastB g (w,h,sh)).2.1.2/\0<ai (lastB g (w,h,sh)).2.1:=by
 obtain⟨bU,gg,e⟩:=yy lw w0 lh h0 aJ aV;unfold lastB;by_cases c:w=g
 ·rw[SC c];subst c;exact⟨on,lh.1,er h0 lh.1⟩
 ·rw[SL c];have:ai w≠ai g:=λz=>c (u7 lw aJ z);exact⟨abK lw w0 lh h0 aJ aV (by grind) pH on,bU.1,er gg bU.1⟩
end
def yz(c:Bool)(S:Ze)(lJ dq v0 v1:Rat):Prop:=if c=true then dH S v0 v1 lJ dq else dH S lJ dq v0 v1
def Jn{c:Bool}{w:ba}(lw:aH w.1 w.2)(w0:0<w.1){v0 v1 U:Rat}{sh:Ze}{m:Nat}(bf:1<=m)(sB:m<=8)(on:yz c sh 0 U v0 v1)(o5:ai w*((m-1:Nat):Rat)<U){k:Nat}{S:Ze}(cu:(et c w sh m)[k]?=some S):yz c S 0 (if k+1=m then U-ai w*((m-1:Nat):Rat)else ai w) v0 v1:=by
 unfold et at cu;rw[C1,TX]at cu
 obtain⟨T,d0,rfl⟩:∃T,(ho c w 3 sh 0 m)[k]?=some T/\T.map (eU (kN c w k))=S:=by
  cases q:(ho c w 3 sh 0 m)[k]? with
  |none=>rw[q]at cu;cases cu
  |some T=>rw[q]at cu;cases cu;exact⟨T,rfl,rfl⟩
 have ae:fc sh/\∃R,f2 sh R/\n4 c R 0 U v0 v1:=by
  unfold yz at on;unfold n4;cases c with
  |true=>simp only[if_true]at on⊢;exact on
  |false=>simp only[TK,if_false]at on⊢;exact on
 obtain⟨ae,R,am,r⟩:=ae
 have z0:ai w*((0:Nat):Rat)=0:=by
  have:((0:Nat):Rat)=0:=rfl;rw[this];grind
 obtain⟨mT,Q,Jo,sC⟩:=CZ (c:=c) w0 lw.1 (v0:=v0) (v1:=v1) (U:=U) 3 (a:=0) (b:=m) (by lia) (by lia) ae am (by rw[z0];exact r) o5 k T d0;rw[TX]at sC;have fH:=hV (w:=w) lw.1 (-(k:Int));have li:((-(k:Int):Int):Rat) = -(k:Rat):=by rw[Vy];rfl
 have eN:∀x:Rat,x=(if k+1=m then U else ai w*((k+1:Nat):Rat))->x + -(ai w*(k:Rat))=if k+1=m then U-ai w*((m-1:Nat):Rat)else ai w:=by
  intro x ao;rw[ao];by_cases z:k+1=m
  ·rw[SC z,SC z,<-z,show k+1-1=k by lia];grind
  ·rw[SL z,SL z,pF];grind
 unfold yz;unfold n4 at sC;unfold kN;cases c with
 |true=>
  simp only[if_true]at sC⊢;have s:cf (cj (0,1) (dc w (-(k:Int)))) 0 (-(ai w*(k:Rat))):=(gJ (w:=(0,1)) (by decide) fH.1.1).to (hm _) (by rw[fH.2,li];grind);have o:dH T v0 v1 (ai w*(k:Rat)) (if k+1=m then U else ai w*((k+1:Nat):Rat)):=⟨mT,Q,Jo,sC⟩;exact(o.slid s).to (by grind) (by grind) (by grind) (eN _ rfl)
 |false=>
  simp only[TK,if_false]at sC⊢;have s:cf (cj (dc w (-(k:Int))) (0,1)) (-(ai w*(k:Rat))) 0:=(gJ (h:=(0,1)) fH.1.1 (by decide)).to (by rw[fH.2,li];grind) (hm _);have o:dH T (ai w*(k:Rat)) (if k+1=m then U else ai w*((k+1:Nat):Rat)) v0 v1:=⟨mT,Q,Jo,sC⟩;exact(o.slid s).to (by grind) (eN _ rfl) (by grind) (by grind)
section
variable{w h g:ba}(lw:aH w.1 w.2)(w0:0<w.1)(lh:aH h.1 h.2)(h0:0<h.1)(aJ:aH g.1 g.2)(aV:0<g.1)(c1:wp w.1<=30)(c2:wp w.2<=30)(c3:wp h.1<=100)(c4:wp h.2<=100)(bC:wp g.1<=30)(bD:wp g.2<=30)
include lw w0 lh h0 aJ aV c1 c2 c3 c4 bC bD
theorem abL{sh:Ze}(r1:w.1*g.2<=8*(g.1*w.2))(r2:g.1*w.2<=8*(w.1*g.2))(on:dH sh 0 (ai w) 0 (ai h)):dH (dh (fu w h g sh) (0,1)) 0 (ai g) 0 (ai (bN (fu w h g sh) (0,1))):=by
 have en:aH 0 1:=⟨by decide,by decide⟩;have z0:ai (0,1)=0:=hm _;have W:=er w0 lw.1;have L:=er h0 lh.1;have G:=er aV aJ.1
 have key:∀b bs,fu w h g sh=b::bs->(∀x∈b::bs,dH x.2.2 0 (ai g) 0 (ai x.2.1)/\0<x.2.1.2/\0<ai x.2.1)->dH (dh (fu w h g sh) (0,1)) 0 (ai g) 0 (ai (bN (fu w h g sh) (0,1))):=λb bs e ao=>by
  rw[e];exact(yv en ao).1.to rfl rfl z0 rfl
 by_cases c:w.1*g.2<g.1*w.2
 ·obtain⟨_,cq,eW,aU,a9⟩:=u8 lw w0 aJ aV c r2;obtain⟨fy,iE,bj,bt,hX,jI,nR,bf,bL,lL⟩:=vb lw w0 lh h0 c1 c2 c3 c4 cq eW;have yq:(0:Rat)<(da w g:Rat):=by exact_mod_cast (show 0<da w g by lia)
  have Jp:(1:Rat)<=(da w g:Rat):=by exact_mod_cast cq
  have vf:((da w g-1:Nat):Rat)=(da w g:Rat)-1:=by
   have:=pF (da w g-1);rw[show da w g-1+1=da w g by lia]at this;grind
  have e5:ai (f3 h (da w g))*(da w g:Rat)=ai h:=by rw[hX];grind
  have ahY:=er iE fy.1
  have fA:∀T∈et true (f3 h (da w g)) sh (da w g),dH T 0 (ai w) 0 (ai (f3 h (da w g))):=λT d0=>by
   obtain⟨k,ag⟩:=Um d0;have q:=Jn (c:=true) fy iE (v0:=0) (v1:=ai w) (U:=ai h) cq eW (by show dH sh 0 (ai w) 0 (ai h);exact on) (by rw[vf];grind) ag;have iH:dH T 0 (ai w) 0 (if k+1=da w g then ai h-ai (f3 h (da w g))*((da w g-1:Nat):Rat)else ai (f3 h (da w g))):=q;refine iH.to rfl rfl rfl ?_;by_cases z:k+1=da w g
   ·rw[SC z,vf];grind
   ·rw[SL z]
  have bm:=nh (c:=true) (w:=f3 h (da w g)) (sh:=sh) cq eW
  have lay:dH (layB w h g sh).2.2 0 (ai (dc w (da w g:Int))) 0 (ai (f3 h (da w g))):=by
   show dH (fU w 0 (et true (f3 h (da w g)) sh (da w g))) _ _ _ _
   generalize et true (f3 h (da w g)) sh (da w g)=Db at fA bm
   match Db,fA,bm with
   |[],_,bm=>simp at bm;lia
   |T::r,fA,bm=>
    have q:=Jg lw w0 (i:=0) fA;refine q.to ?_ ?_ rfl rfl
    ·have:((0:Nat):Rat)=0:=rfl;rw[this];grind
    ·rw[lL,<-bm,SN,TX]
  have dO:ai (dc w (da w g:Int))<2*ai g:=by
   have pH:ai w<ai g:=by
    have cc:(0:Rat)<w.2:=by exact_mod_cast lw.1
    have ci:(0:Rat)<g.2:=by exact_mod_cast aJ.1
    have cW:=dN lw.1;have cS:=dN aJ.1;have c':(w.1:Rat)*g.2<(g.1:Rat)*w.2:=by exact_mod_cast c
    unfold ai;refine(Wm cc).mpr ?_;have u:(g.1:Rat)/g.2*w.2=g.1*w.2/g.2:=by grind
    rw[u];refine(Rat.lt_div_iff ci).mpr ?_;exact c'
   rw[lL];grind
  have q:=Jm jI nR fy iE aJ aV (by rw[lL];grind) dO lay;refine key _ _ (u9 c) λx ao=>?_;rw[SO.mp ao];exact q
 ·have h1:g.1*w.2<=w.1*g.2:=by lia
  obtain⟨_,cq,eW,aU,a9⟩:=sq lw w0 aJ aV h1 r1;obtain⟨fy,iE,bj,bt,hX⟩:=yp lw w0 aJ aV c1 c2 bC bD h1 r1
  have vf:((dx w g-1:Nat):Rat)=(dx w g:Rat)-1:=by
   have:=pF (dx w g-1);rw[show dx w g-1+1=dx w g by lia]at this;grind
  have bm:=nh (c:=false) (w:=g) (sh:=sh) cq eW
  obtain⟨Ss,Z,g1⟩:∃Ss Z,et false g sh (dx w g)=Ss++[Z]:=by
   rcases UT (et false g sh (dx w g))with z|⟨Ss,Z,z⟩
   ·rw[z]at bm;simp at bm;lia
   ·exact⟨Ss,Z,by rw[z,UU]⟩
  rw[g1,SH,TA]at bm
  have fA:∀(k:Nat)(T:Ze),(Ss++[Z])[k]?=some T->dH T 0 (if k+1=dx w g then ai w-ai g*((dx w g-1:Nat):Rat)else ai g) 0 (ai h):=λk T ag=>by
   rw[<-g1]at ag;exact Jn (c:=false) aJ aV (v0:=0) (v1:=ai h) (U:=ai w) cq eW (by show dH sh 0 (ai w) 0 (ai h);exact on) (by rw[vf];grind) ag
  have abM:dH Z 0 (ai (ik w g (dx w g))) 0 (ai h):=by
   have:=fA Ss.length Z (by simp);rw[SC bm,vf]at this;exact this.to rfl hX.symm rfl rfl
  have q:=Jm fy iE lh h0 aJ aV (by rw[hX];grind) (by rw[hX];rw[pF]at a9;grind) abM
  have all:∀x∈fu w h g sh,dH x.2.2 0 (ai g) 0 (ai x.2.1)/\0<x.2.1.2/\0<ai x.2.1:=by
   rw[ss c g1];intro x ao;rcases SR.mp ao with ao|ao
   ·obtain⟨S,cu,rfl⟩:=SM.mp ao;obtain⟨k,ag⟩:=Um cu;have abN:=(T7.mp ag).1;have:=fA k S (by rw[Tt abN];exact ag);rw[SL (by lia)]at this;exact⟨this,lh.1,L⟩
   ·rw[SO.mp ao];exact q
  match hw:fu w h g sh with
  |[]=>
   rw[ss c g1]at hw;exact absurd hw (by simp)
  |b::bs=>
   rw[<-hw];exact key b bs hw (by rw[<-hw];exact all)
end
end Cut
namespace Cut
open PySem L2 L3
def ea(L:Ze):Prop:=∀s∈L,aT s.2.2/\∀p∈s.1,aT p
def ea.pts{L:Ze}(h:ea L):fc L:=λs al=>(h s al).2
def ea.app{L M:Ze}(h:ea L)(g:ea M):ea (L++M):=λs al=>(SR.mp al).elim (h s) (g s)
def ea.cut{sh:Ze}{l:aa}(h:ea sh):ea (ck (ln l) (a0 l) sh)/\ea (ck (λc => -ln l c) (a0 l) sh):=by
 obtain⟨a,b⟩:=h.pts.cut (l:=l)
 have st:∀(f:aa->Int)(s:Piece),s∈ck f (a0 l) sh->aT s.2.2:=λf s al=>by
  obtain⟨t,bv,rfl,c⟩:=ul al;exact(h t bv).1
 exact⟨λs al=>⟨st _ s al,a s al⟩,λs al=>⟨st _ s al,b s al⟩⟩
def ea.slid{sh:Ze}{g:aa}{u v:Rat}(aC:cf g u v)(h:ea sh):ea (sh.map (eU g)):=by
 intro s al;refine⟨?_,h.pts.slid aC s al⟩;obtain⟨r,ak,rfl⟩:=SM.mp al;exact(lD aC ⟨(h r ak).1,rfl,rfl⟩).1
def ea.cL{sh:Ze}{X:ba}(c:Bool)(h:ea sh):ea (cL X c sh):=by
 unfold Cut.cL;cases c with
 |true=>exact(h.cut (l:=ef X)).1
 |false=>exact(h.cut (l:=ef X)).2
def ea.cV{sh:Ze}{X:ba}(c:Bool)(h:ea sh):ea (cV X c sh):=by
 unfold Cut.cV;cases c with
 |true=>exact(h.cut (l:=eg X)).1
 |false=>exact(h.cut (l:=eg X)).2
def ea.low{sh:Ze}{X:ba}{c:Bool}(h:ea sh):ea (lowC c X sh)/\ea (highC c X sh):=by
 unfold lowC highC;cases c with
 |true=>rw[SC rfl,SC rfl];exact⟨h.cV _,h.cV _⟩
 |false=>rw[SL (by decide),SL (by decide)];exact⟨h.cL _,h.cL _⟩
def abO(φ:Zt->Int)(b:Bool){sh:Ze}{X:ba}{c:Bool}(l:aH X.1 X.2)(h:ea sh):dv φ b (lowC c X sh)+dv φ b (highC c X sh)=dv φ b sh:=by
 unfold lowC highC;cases c with
 |true=>rw[SC rfl,SC rfl];exact aah φ b false l h
 |false=>rw[SL (by decide),SL (by decide)];exact H9 φ b true l h
def hY(φ:Zt->Int)(b:Bool)(Ss:Zv):Rat:=(Ss.map (dv φ b)).sum
def qS(φ:Zt->Int)(b:Bool)(S:Ze)(Ss:Zv):hY φ b (S::Ss)=dv φ b S+hY φ b Ss:=by unfold hY;rw[SG,SQ]
def yA(φ:Zt->Int)(b:Bool):∀(A B:Zv),hY φ b (A++B)=hY φ b A+hY φ b B
 |[],B=>by show _=(0:Rat)+_;rw[Tc];grind
 |S::A,B=>by rw[To,qS,qS,yA φ b A B];grind
def vg(φ:Zt->Int)(b:Bool)(S:Ze):hY φ b [S]=dv φ b S:=by rw[qS];show _+(0:Rat)=_;grind
def Dc(φ:Zt->Int)(b:Bool){c:Bool}{w:ba}(df:0<w.2):∀(n:Nat){sh:Ze}{x y:Nat},ea sh->hY φ b (ho c w n sh x y)=dv φ b sh/\∀S∈ho c w n sh x y,ea S
 |0,sh,x,y,h=>⟨vg φ b sh,λS cu=>by rw[SO.mp cu];exact h⟩
 |n+1,sh,x,y,h=>by
  rw[ho];by_cases z:y-x=1
  ·rw[SC z];exact⟨vg φ b sh,λS cu=>by rw[SO.mp cu];exact h⟩
  ·rw[SL z];obtain⟨l,_⟩:=hV (w:=w) df (((x+y)/2:Nat):Int);obtain⟨p,q⟩:=h.low (X:=dc w (((x+y)/2:Nat):Int)) (c:=c);obtain⟨cc,ci⟩:=Dc φ b (c:=c) df n (x:=x) (y:=(x+y)/2) p;obtain⟨a7,bd⟩:=Dc φ b (c:=c) df n (x:=(x+y)/2) (y:=y) q;refine⟨?_,λS cu=>(SR.mp cu).elim (ci S) (bd S)⟩;rw[yA,cc,a7];exact abO φ b l h
def Dd(φ:Zt->Int)(b:Bool){f:Nat->aa}(bu:∀k,∃u v,cf (f k) u v):∀{Ss:Zv}{i:Nat},(∀S∈Ss,ea S)->hY φ b (fI (λk S=>S.map (eU (f k))) i Ss)=hY φ b Ss/\∀S∈fI (λk S=>S.map (eU (f k))) i Ss,ea S
 |[],i,_=>⟨rfl,λS cu=>absurd cu Ug⟩
 |S::Ss,i,h=>by
  obtain⟨u,v,aC⟩:=bu i;have bO:=h S Sx;obtain⟨a,c⟩:=Dd φ b bu (Ss:=Ss) (i:=i+1) λT d0=>h T (Sz _ d0);rw[fI,qS,qS,a,uI φ b aC.1 bO];exact⟨rfl,λT d0=>(SK.mp d0).elim (λe=>by rw[e];exact bO.slid aC) (c T)⟩
def abP{c:Bool}{w:ba}(df:0<w.2)(k:Nat):∃u v,cf (kN c w k) u v:=by
 obtain⟨l,_⟩:=hV (w:=w) df (-(k:Int));unfold kN;cases c with
 |true=>rw[SC rfl];exact⟨_,_,gJ (w:=(0,1)) (by decide) l.1⟩
 |false=>rw[SL (by decide)];exact⟨_,_,gJ (h:=(0,1)) l.1 (by decide)⟩
def Jq(φ:Zt->Int)(b:Bool){c:Bool}{w:ba}(df:0<w.2){sh:Ze}{m:Nat}(h:ea sh):hY φ b (et c w sh m)=dv φ b sh/\∀S∈et c w sh m,ea S:=by
 obtain⟨cc,ci⟩:=Dc φ b (c:=c) df 3 (x:=0) (y:=m) h;obtain⟨a7,bd⟩:=Dd φ b (f:=λk=>kN c w k) (λk=>abP df k) (i:=0) ci;exact⟨a7.trans cc,bd⟩
def De(φ:Zt->Int)(b:Bool):∀{Ss:Zv},(∀S∈Ss,ea S)->dv φ b Ss.flatten=hY φ b Ss/\ea Ss.flatten
 |[],_=>⟨rfl,λs al=>absurd al Ug⟩
 |S::Ss,h=>by
  obtain⟨a,c⟩:=De φ b (Ss:=Ss) λT d0=>h T (Sz _ d0);rw[Us,qB,qS,a];exact⟨rfl,(h S Sx).app c⟩
def abQ(φ:Zt->Int)(b:Bool){w:ba}(df:0<w.2){Ss:Zv}(h:∀S∈Ss,ea S):dv φ b (fU w 0 Ss)=hY φ b Ss/\ea (fU w 0 Ss):=by
 obtain⟨a7,bd⟩:=Dd φ b (f:=λk=>cj (dc w (k:Int)) (0,1)) (λk=>⟨_,_,gJ (h:=(0,1)) (hV (w:=w) df (k:Int)).1.1 (by decide)⟩) (i:=0) h;obtain⟨c1,c2⟩:=De φ b bd;exact⟨c1.trans a7,c2⟩
def vh(φ:Zt->Int)(b:Bool):∀{bs:Zi}{H:ba},0<H.2->(∀x∈bs,ea x.2.2/\0<x.2.1.2)->dv φ b (dh bs H)=hY φ b (bs.map λx=>x.2.2)/\ea (dh bs H)
 |[],H,_,_=>⟨rfl,λs al=>absurd al Ug⟩
 |x::bs,H,l,h=>by
  obtain⟨h1,h2⟩:=h x Sx;have aC:=gJ (w:=(0,1)) (h:=H) (by decide) l;obtain⟨a,c⟩:=vh φ b (bs:=bs) (H:=ij H x.2.1) (pE l h2).1 λy aN=>h y (Sz _ aN);rw[dh,qB,uI φ b aC.1 h1,a,SG,qS];exact⟨rfl,(h1.slid aC).app c⟩
section
variable{w h g:ba}(lw:aH w.1 w.2)(w0:0<w.1)(lh:aH h.1 h.2)(h0:0<h.1)(aJ:aH g.1 g.2)(aV:0<g.1)
include lw w0 lh h0 aJ aV
theorem Jr(φ:Zt->Int)(b:Bool){sh:Ze}(al:ea sh):dv φ b (lastB g (w,h,sh)).2.2=dv φ b sh/\ea (lastB g (w,h,sh)).2.2/\0<(lastB g (w,h,sh)).2.1.2:=by
 obtain⟨bU,gg,e⟩:=yy lw w0 lh h0 aJ aV;unfold lastB;by_cases c:w=g
 ·rw[SC c];exact⟨rfl,al,lh.1⟩
 ·rw[SL c];refine⟨?_,?_,bU.1⟩
  all_goals
   show _
   dsimp only;unfold mu
  all_goals
   generalize eD w h g=H at bU gg e⊢;obtain⟨cW,cS⟩:=al.cut (l:=bT w H);have bO:=cW.cL (X:=g) true;have bV:=cW.cL (X:=g) false;have az:=gJ (w:=(-g.1,g.2)) (h:=h) aJ.1 lh.1;have a':=gJ (w:=fT g w) (h:=fT H h) (n6 (a:=g) (b:=w) aJ.1 lw.1).1.1 (n6 (a:=H) (b:=h) bU.1 lh.1).1.1
  ·have hC:dv φ b (cL g true (ck (ln (bT w H)) (a0 (bT w H)) sh))+dv φ b (cL g false (ck (ln (bT w H)) (a0 (bT w H)) sh))=dv φ b (ck (ln (bT w H)) (a0 (bT w H)) sh):=H9 φ b true aJ cW;rw[qB,qB,uI φ b az.1 bV,uI φ b a'.1 cS,hC];exact x8 φ b (u6 lw w0 bU gg) (gJ (w:=w) (h:=(0,1)) lw.1 (by decide)).1 (pf _ _) al
  ·exact(bO.app (bV.slid az)).app (cS.slid a')
end
section
open PySem.Builtin.Int (intBits)
variable{w h g:ba}(lw:aH w.1 w.2)(w0:0<w.1)(lh:aH h.1 h.2)(h0:0<h.1)(aJ:aH g.1 g.2)(aV:0<g.1)(c1:wp w.1<=30)(c2:wp w.2<=30)(c3:wp h.1<=100)(c4:wp h.2<=100)(bC:wp g.1<=30)(bD:wp g.2<=30)
include lw w0 lh h0 aJ aV c1 c2 c3 c4 bC bD
theorem abR{sh:Ze}(r1:w.1*g.2<=8*(g.1*w.2))(r2:g.1*w.2<=8*(w.1*g.2))(al:ea sh)(φ:Zt->Int)(b:Bool):dv φ b (dh (fu w h g sh) (0,1))=dv φ b sh:=by
 by_cases c:w.1*g.2<g.1*w.2
 ·obtain⟨_,cq,eW,aU,a9⟩:=u8 lw w0 aJ aV c r2;obtain⟨fy,iE,bj,bt,hX,jI,nR,bf,bL,lL⟩:=vb lw w0 lh h0 c1 c2 c3 c4 cq eW;obtain⟨cc,ci⟩:=Jq φ b (c:=true) (w:=f3 h (da w g)) (m:=da w g) fy.1 al;obtain⟨a7,bd⟩:=abQ φ b (w:=w) lw.1 ci;obtain⟨bo,bG,f5⟩:=Jr jI nR fy iE aJ aV φ b bd;rw[u9 c]
  obtain⟨ah,ap⟩:=vh φ b (bs:=[lastB g (layB w h g sh)]) (H:=(0,1)) (by decide) λx ao=>by
   rw[SO.mp ao];exact⟨bG,f5⟩
  rw[ah];show hY φ b [(lastB g (layB w h g sh)).2.2]=_
  rw[vg];exact bo.trans (a7.trans cc)
 ·have h1:g.1*w.2<=w.1*g.2:=by lia
  obtain⟨_,cq,eW,aU,a9⟩:=sq lw w0 aJ aV h1 r1;obtain⟨fy,iE,bj,bt,hX⟩:=yp lw w0 aJ aV c1 c2 bC bD h1 r1;have bm:=nh (c:=false) (w:=g) (sh:=sh) cq eW
  obtain⟨Ss,Z,g1⟩:∃Ss Z,et false g sh (dx w g)=Ss++[Z]:=by
   rcases UT (et false g sh (dx w g))with z|⟨Ss,Z,z⟩
   ·rw[z]at bm;simp at bm;lia
   ·exact⟨Ss,Z,by rw[z,UU]⟩
  obtain⟨cc,ci⟩:=Jq φ b (c:=false) (w:=g) (m:=dx w g) aJ.1 al;rw[g1]at cc ci;obtain⟨bo,bG,f5⟩:=Jr fy iE lh h0 aJ aV φ b (ci Z (by simp));rw[ss c g1]
  obtain⟨ah,ap⟩:=vh φ b (bs:=Ss.map (λS=>((g,h,S):BoxD))++[lastB g (ik w g (dx w g),h,Z)]) (H:=(0,1)) (by decide) λx ao=>by
   rcases SR.mp ao with ao|ao
   ·obtain⟨S,cu,rfl⟩:=SM.mp ao;exact⟨ci S (TN _ cu),lh.1⟩
   ·rw[SO.mp ao];exact⟨bG,f5⟩
  rw[ah,SJ,SU,yA]
  have em:Ss.map ((λx:BoxD=>x.2.2)∘λS=>((g,h,S):BoxD))=Ss:=by
   have:((λx:BoxD=>x.2.2)∘λS=>((g,h,S):BoxD))=id:=rfl;rw[this,List.map_id]
  rw[em];show hY φ b Ss+hY φ b [(lastB g (ik w g (dx w g),h,Z)).2.2]=_
  rw[vg,bo,<-cc,yA,vg]
end
end Cut
namespace Cut
open PySem L2 L3
open PySem.Builtin.Int (intBits)
def jJ(m:Nat):Nat->Nat
 |0=>m
 |s+1=>2*jJ m s+3
structure qT (m n:Nat) (ps:Zd) (s:Nat) (rs:Zu):Prop where
 ln:rs.length=s+1
 cv:∀r∈rs,fw r
 le:∀r∈rs,r.length<=n+s
 gp:∀r∈rs,∀p∈r,dE (jJ m s) p
 bal:∀φ,fG φ rs=dk φ ps
def abS{m n:Nat}{ps:Zd}(cv:fw ps)(ae:∀p∈ps,dE m p)(am:ps.length<=n):qT m n ps 0 [ps]:=
 ⟨rfl,λr ak=>by rw[SO.mp ak];exact cv,λr ak=>by rw[SO.mp ak];exact am,λr ak=>by rw[SO.mp ak];exact ae,λφ=>hT φ ps⟩
def Js(m s:Nat):jJ m s<=jJ m (s+1):=by show jJ m s<=2*jJ m s+3;lia
def qT.step{ps cl us:Zd}{m c0 s n:Nat}{rs:Zu}{r:Zd}(h:qT m c0 ps s rs)(aM:rs[n]?=some r)(ok:CH (2*jJ m s+3) (r.length+1) r cl us):qT m c0 ps (s+1) (rs.eraseIdx n++[cl,us]):=by
 have ax:r∈rs:=Th aM
 have cM:n<rs.length:=by
  rcases Vr n rs.length with q|q
  ·exact q
  ·rw[S9 q]at aM;cases aM
 have Df:=h.le r ax
 have mem:∀{P:Zd->Prop},(∀x∈rs,P x)->P cl->P us->∀x∈rs.eraseIdx n++[cl,us],P x:=λa b c x ao=>by
  rcases SR.mp ao with ao|ao
  ·exact a x (List.mem_of_mem_eraseIdx ao)
  ·simp at ao;rcases ao with rfl|rfl
   ·exact b
   ·exact c
 refine⟨?_,mem h.cv ok.a ok.b,mem (λx ao=>Nat.le_succ_of_le (h.le x ao)) (SE ok.la (by lia)) (SE ok.lb (by lia)),mem (λx ao p ae=>(h.gp x ao p ae).mono (Js m s)) ok.pa ok.pb,λφ=>?_⟩
 ·rw[SH,List.length_eraseIdx_of_lt cM,h.ln];show _+2=_;have:=h.ln;lia
 ·have e:=Ip φ aM;have b:=ok.bal φ;have t:=h.bal φ;rw[qA,pu,hT];grind
structure yB (m n:Nat) (s:Piece):Prop where
 ps:∀p∈s.1,dE m p
 cv:fw s.1
 ln:s.1.length<=n
 st:dE 20 s.2.2
def abT(p q:aa):ln (crs p q) q=0:=by show bi p q q=0;exact H6 _ _
def yB.px{m n b:Nat}{s:Piece}(h:yB m n s)(ab:m<=b):jG b (m+m+1) n 20 s:=
 ⟨h.cv,⟨λp ae=>(h.ps p ae).mono ab,λe aB=>by
  obtain⟨h1,h2⟩:=lq aB;refine⟨crs e.1 e.2,(h.ps _ h1).bp.crs (h.ps _ h2).bp,?_,pf _ _,abT _ _⟩;rcases lz (h.ps _ h1).pt (h.ps _ h2).pt (h.cv.side aB)with z|z
  ·exact .inl z
  ·exact .inr (.inl z)⟩,h.ln,h.st⟩
def qT.sheet{m n:Nat}{ps:Zd}{s c:Nat}{sh:Ze}(h:qT m n ps s (sh.map λt=>t.1))(al:s<=c)(ax:jJ m s<=jJ m c)(st:∀t∈sh,dE 20 t.2.2):(∀t∈sh,yB (jJ m c) (n+c) t)/\sh.length<=c+1/\fS (sh.map λt=>t.1) [ps]:=by
 refine⟨λt bv=>?_,?_,λφ=>by rw[h.bal φ,hT]⟩
 ·have uU:t.1∈sh.map λt=>t.1:=SM.mpr ⟨t,bv,rfl⟩;exact⟨λp ae=>(h.gp _ uU p ae).mono ax,h.cv _ uU,SE (h.le _ uU) (by lia),st t bv⟩
 ·have:=h.ln;rw[Sw]at this;lia
def yC{m:Nat}:∀{s c:Nat},s<=c->jJ m s<=jJ m c
 |s,0,h=>by rw[show s=0 by lia];exact Sy _
 |s,c+1,h=>by
  by_cases e:s=c+1
  ·rw[e];exact Sy _
  ·exact SE (yC (s:=s) (c:=c) (by lia)) (Js m c)
def abU{x y n:Int}(ce : -40<=x)(bF:x<=40)(b8 : -40<=y)(bI:y<=40)(c0:0<n)(cq:n<=3):dE 20 (cC x y n):=by
 have b:∀z:Int,-40<=z->z<=40->wp z<=20:=λz z0 z1=>SE (intBits_le_iff.mpr (show z.natAbs<2^6 by show z.natAbs<64;lia)) (by decide);exact⟨fZ (p:=(x,y,n)) (SD c0),cD.nP (p:=(x,y,n)) ⟨b x ce bF,b y b8 bI,b n (by lia) (by lia)⟩ (SD c0)⟩
def abV(b:BoxD):has (.T [.T [.I,.I],.T [.I,.I],rV]) (dBx b)=true:=by
 have e:=Qh b.2.2;show hass [.T [.I,.I],.T [.I,.I],rV] [dR b.1,dR b.2.1,.lst (b.2.2.map dS)]=true
 have h:∀x:D,has rV x=true->hass [.T [.I,.I],.T [.I,.I],rV] [dR b.1,dR b.2.1,x]=true:=λx ao=>by
  simp only[hass,ao,Bool.and_true];rfl
 exact h _ e
structure jK (s:Piece):Prop where
 ln:s.1.length<=24
 cv:fw s.1
 ps:∀p∈s.1,dE 2600 p
 st:dE 1200 s.2.2
def jK.side{s:Piece}(h:jK s):∀e∈dj s.1,(crs e.1 e.2).1≠0\/(crs e.1 e.2).2.1≠0:=λe aB=>by
 obtain⟨h1,h2⟩:=lq aB;exact lz (h.ps _ h1).pt (h.ps _ h2).pt (h.cv.side aB)
def jK.rg{s:Piece}(h:jK s):nZ s.1:=⟨aW h.ln,h.side,λp ae=>(h.ps p ae).bp.mono (by decide)⟩
def jK.first{s:Piece}(h:jK s):nZ (fP s)/\∀p∈fP s,aT p:=by
 have st:=h.st;have sl:∀p∈s.1,dE 3801 (nP (sld (trn s.2.2) p)):=λp ae=>(st.trn.sl (h.ps p ae)).mono (by decide);have aL:∀p∈s.1,aT p:=λp ae=>(h.ps p ae).pt;have r1:=(Cn (v:=trn s.2.2) st.pt.1).rg aL h.side;unfold fP;split
 ·have t4:∀p∈s.1.map (λp=>nP (sld (trn s.2.2) p)),aT p:=λp ae=>by
   obtain⟨q,au,rfl⟩:=SM.mp ae;exact(sl q au).pt
  refine⟨⟨by rw[Sw,Sw];exact aW h.ln,qz.rg t4 r1,λp ae=>?_⟩,λp ae=>?_⟩
  ·obtain⟨q,au,rfl⟩:=SM.mp ae;obtain⟨r,ak,rfl⟩:=SM.mp au;exact(sl r ak).trn.bp.mono (by decide)
  ·obtain⟨q,au,rfl⟩:=SM.mp ae;obtain⟨r,ak,rfl⟩:=SM.mp au;exact(sl r ak).trn.pt
 ·refine⟨⟨by rw[Sw];exact aW h.ln,r1,λp ae=>?_⟩,λp ae=>?_⟩
  ·obtain⟨r,ak,rfl⟩:=SM.mp ae;exact(sl r ak).bp.mono (by decide)
  ·obtain⟨r,ak,rfl⟩:=SM.mp ae;exact(sl r ak).pt
def jG.pcu{b m n t:Nat}{s:Piece}(h:jG b m n t s)(ab:b<=2600)(aM:n<=24)(bv:t<=1200):jK s:=⟨SE h.ln aM,h.cv,λp ae=>(h.rb.pts p ae).mono ab,h.st.mono bv⟩
def abW{w h g:ba}{sh:Ze}:(mu w h g sh).length<=3*sh.length:=by
 unfold mu;rw[SH,SH,Sw,Sw]
 have a:∀c,(cL g c (ck (ln (bT w (eD w h g))) (a0 (bT w (eD w h g))) sh)).length<=sh.length:=λc=>by
  have q:=pD (f:=ln (bT w (eD w h g))) (mt:=a0 (bT w (eD w h g))) sh;unfold cL;cases c with
  |true=>exact SE (pD _) q
  |false=>exact SE (pD _) q
 have cc:=a true;have ci:=a false;have iY:=pD (f:=λc => -ln (bT w (eD w h g)) c) (mt:=a0 (bT w (eD w h g))) sh;lia
def Jt{g:ba}{b:BoxD}:(lastB g b).2.2.length<=3*b.2.2.length:=by
 unfold lastB;by_cases c:b.1=g
 ·rw[SC c];lia
 ·rw[SL c];exact abW
def Ju{c:Bool}{X:ba}{sh:Ze}:(lowC c X sh).length<=sh.length/\(highC c X sh).length<=sh.length:=by
 unfold lowC highC cL cV;cases c with
 |true=>exact⟨pD _,pD _⟩
 |false=>exact⟨pD _,pD _⟩
def Dg{c:Bool}{w:ba}:∀(n:Nat){sh:Ze}{x y:Nat},∀S∈ho c w n sh x y,S.length<=sh.length
 |0,sh,x,y,S,cu=>by rw[SO.mp cu];exact Sy _
 |n+1,sh,x,y,S,cu=>by
  rw[ho]at cu;by_cases z:y-x=1
  ·rw[SC z]at cu;rw[SO.mp cu];exact Sy _
  ·rw[SL z]at cu;rcases SR.mp cu with h|h
   ·exact SE (Dg n S h) Ju.1
   ·exact SE (Dg n S h) Ju.2
def Jv{c:Bool}{w:ba}{sh:Ze}{m:Nat}{S:Ze}(cu:S∈et c w sh m):S.length<=sh.length:=by
 obtain⟨k,T,d0,_,rfl⟩:=I2 cu;rw[Sw];exact Dg 3 T d0
def Jw{w:ba}{N:Nat}:∀{Ss:Zv}{i:Nat},(∀S∈Ss,S.length<=N)->(fU w i Ss).length<=N*Ss.length
 |[],i,_=>S8 _
 |S::r,i,h=>by
  have e:fU w i (S::r)=S.map (eU (cj (dc w (i:Int)) (0,1)))++fU w (i+1) r:=by
   unfold fU;rw[fI,Us]
  have a:=h S Sx;have b:=Jw (w:=w) (Ss:=r) (i:=i+1) λT d0=>h T (Sz _ d0);rw[e,SH,Sw,SN,Uh];lia
section
variable{w h g:ba}(lw:aH w.1 w.2)(w0:0<w.1)(aJ:aH g.1 g.2)(aV:0<g.1)
include lw w0 aJ aV
theorem Jx{a b:Nat}{x:Rat}(ce:0<x)(h:(a:Rat)*x<(b:Rat)*x):a<b:=by
 apply TC;intro z;have:((b:Nat):Rat)<=(a:Rat):=by exact_mod_cast (show b<=a by lia)
 have:=T4 this (Tw ce);grind
theorem abX{sh:Ze}{M N:Nat}(ahZ:1<=M)(ah0:M<=8)(r1:ai w<=(M:Rat)*ai g)(r2:ai g<=(M:Rat)*ai w)(aR:w.1*g.2<=8*(g.1*w.2))(bK:g.1*w.2<=8*(w.1*g.2))(a4:sh.length<=N):(dh (fu w h g sh) (0,1)).length<=3*(N*M):=by
 have W:=er w0 lw.1;have G:=er aV aJ.1;rw[qK];by_cases c:w.1*g.2<g.1*w.2
 ·obtain⟨_,cq,eW,aU,a9⟩:=u8 lw w0 aJ aV c bK
  have io:da w g<=M:=by
   have Jp:((da w g-1:Nat):Rat)=(da w g:Rat)-1:=by
    have:=pF (da w g-1);rw[show da w g-1+1=da w g by lia]at this;grind
   have:=Jx lw w0 aJ aV (a:=da w g-1) (b:=M) W (by rw[Jp];grind);lia
  rw[u9 c];have a:=Jt (g:=g) (b:=layB w h g sh)
  have b:(layB w h g sh).2.2.length<=N*da w g:=by
   have:=Jw (w:=w) (N:=N) (Ss:=et true (f3 h (da w g)) sh (da w g)) (i:=0) λS cu=>SE (Jv cu) a4;rw[nh cq eW]at this;exact this
  have d:N*da w g<=N*M:=Vz _ io;simp only[SG,TG,SQ,UD];lia
 ·have h1:g.1*w.2<=w.1*g.2:=by lia
  obtain⟨_,cq,eW,aU,a9⟩:=sq lw w0 aJ aV h1 aR
  have io:dx w g<=M:=by
   have:=Jx lw w0 aJ aV (a:=dx w g) (b:=M+1) G (by rw[pF];grind);lia
  have bm:=nh (c:=false) (w:=g) (sh:=sh) cq eW
  obtain⟨Ss,Z,g1⟩:∃Ss Z,et false g sh (dx w g)=Ss++[Z]:=by
   rcases UT (et false g sh (dx w g))with z|⟨Ss,Z,z⟩
   ·rw[z]at bm;simp at bm;lia
   ·exact⟨Ss,Z,by rw[z,UU]⟩
  have ke:∀S∈Ss++[Z],S.length<=N:=λS cu=>SE (Jv (by rw[g1];exact cu)) a4;rw[g1,SH,TA]at bm;rw[ss c g1,SJ,Ut,SU]
  have az:(Ui ((λb:BoxD=>b.2.2.length)∘λS=>((g,h,S):BoxD)) Ss).sum<=N*Ss.length:=by
   have:∀mv:Zv,(∀S∈mv,S.length<=N)->(Ui ((λb:BoxD=>b.2.2.length)∘λS=>((g,h,S):BoxD)) mv).sum<=N*mv.length:=λmv=>by
    induction mv with
    |nil=>intro _;exact S8 _
    |cons S r cH=>
     intro d0;have x:=d0 S Sx;have y:=cH λS cu=>d0 S (Sz _ cu);rw[SG,SQ,SN,Uh];show S.length+_<=_
     lia
   exact this Ss λS cu=>ke S (TN _ cu)
  have a:=Jt (g:=g) (b:=(ik w g (dx w g),h,Z));have z:=ke Z (by simp);have fk:(lastB g (ik w g (dx w g),h,Z)).2.2.length<=3*Z.length:=a;have d:N*(Ss.length+1)<=N*M:=Vz _ (by lia);rw[Uh]at d;simp only[SG,TG,SQ,UD];lia
end
section
variable{w h g:ba}(lw:aH w.1 w.2)(w0:0<w.1)(lh:aH h.1 h.2)(h0:0<h.1)(aJ:aH g.1 g.2)(aV:0<g.1)(c1:wp w.1<=30)(c2:wp w.2<=30)(c3:wp h.1<=100)(c4:wp h.2<=100)(bC:wp g.1<=30)(bD:wp g.2<=30)
include lw w0 lh h0 aJ aV c1 c2 c3 c4 bC bD
theorem abY{sh:Ze}{B bR n t N:Nat}(r1:w.1*g.2<=8*(g.1*w.2))(r2:g.1*w.2<=8*(w.1*g.2))(al:cP B bR n t N sh)(ej:310+bR<=B)(ax:270<=bR)(bal:fS (sh.map λs=>s.1) [iy w h]):
  bN (fu w h g sh) (0,1)=eD w h g/\cP (B+678) (bR+682) (n+5) (t+678) (24*N) (dh (fu w h g sh) (0,1))/\fS ((dh (fu w h g sh) (0,1)).map λs=>s.1) [iy g (eD w h g)]/\∀φ b,dv φ b (dh (fu w h g sh) (0,1))=dv φ b sh:=by
 obtain⟨_,_,_,hW⟩:=C6 lw w0 lh h0 aJ aV c1 c2 c3 c4 bC bD al ej ax r1 r2;have sz:=abq lw w0 lh h0 aJ aV c1 c2 c3 c4 bC bD al ej ax r1 r2;have kp:ea sh:=λs h=>⟨(al.1 s h).st.pt,λp ae=>((al.1 s h).rb.pts p ae).pt⟩;have on:dH sh 0 (ai w) 0 (ai h):=⟨kp.pts,iy w h,bal,u2 lw lh⟩;obtain⟨_,R,vi,yD⟩:=abL lw w0 lh h0 aJ aV c1 c2 c3 c4 bC bD r1 r2 on;obtain⟨bU,_⟩:=yy lw w0 lh h0 aJ aV;rw[hW]at yD;have Jl:=yD.eq (u2 aJ bU);rw[Jl]at vi;exact⟨hW,sz,vi,λφ b=>abR lw w0 lh h0 aJ aV c1 c2 c3 c4 bC bD r1 r2 kp φ b⟩
end
def Jy{a b:ba}{M:Nat}(ar:0<a.2)(ab:0<b.2)(h:ai a<=(M:Rat)*ai b):a.1*b.2<=(M:Int)*(b.1*a.2):=by
 have cc:(0:Rat)<a.2:=by exact_mod_cast ar
 have a7:(0:Rat)<b.2:=by exact_mod_cast ab
 have cW:=dN ar;have cS:=dN ab;unfold ai at h;have:=T4 h (Tw (Te cc a7));have u:(a.1:Rat)/a.2*(a.2*b.2)=a.1*b.2:=by grind
 have v:(M:Rat)*((b.1:Rat)/b.2)*(a.2*b.2)=M*(b.1*a.2):=by grind
 rw[u,v]at this;exact_mod_cast this
def abZ{w h:ba}(lw:aH w.1 w.2)(lh:aH h.1 h.2)(c1:wp w.1<=10)(c2:wp w.2<=10)(c3:wp h.1<=10)(c4:wp h.2<=10):∀p∈iy w h,dE 22 p:=λp ae=>by
 have z:wp 0<=22:=by decide
 have m:∀{z:Int},wp z<=10->wp z<=22:=λh=>aW h;unfold iy at ae;simp only[SK,Ug,or_false]at ae;rcases ae with rfl|rfl|rfl|rfl
 ·exact⟨⟨by decide,by decide⟩,⟨by decide,by decide,by decide⟩⟩
 ·exact⟨(Cu lw).1,⟨m c1,z,m c2⟩⟩
 ·exact(jH lw lh c1 c2 c3 c4).mono (by decide)
 ·exact⟨(Cv lh).1,⟨z,m c3,m c4⟩⟩
end Cut
namespace L3
open PySem L2
section
variable{prog:Uf}{w:Xk}{A:Xq}{E:Tl->TE->Prop}{s:TE}{d it:TI}{i a3:Nat}{es:Array Yi}
def Jz{Q:Option Tl->TE->Prop}(eO:A.handled=none)(hit:s.heap.IsValIter it d i es.size a3)(ax:nY s.heap d es a3)(more:∀e h',es[i]?=some e->h'.IsValIter it d (i+1) es.size a3->Heap.SameBut it s.heap h'->Q (some e.val) {s with heap:=h' })(done:∀h',es[i]?=none->Heap.ExtBut it s.heap h'->Q none {s with heap:=h' }):wpAny (T0 prog w) A (YG (.ref it)) Q E s:=by
 have ty:=hit.typeIs;obtain⟨RK,ay,B8,ly⟩:=hit;obtain⟨o,aA,hc,aB⟩:=ax;have own:Builtin.Dict_items.ownsTuple "dict_valueiterator"=false:=by decide
 have c0:¬((i:Int)<0):=by lia
 have none_:¬(Value.ref d==Value.none)=true:=S3;unfold YG;refine SB (wpAny_attempt (XR (name:="__next__") ty F.slot_dict_valueiterator_next (Xp F.slot_dict_valueiterator_next ty F.entry_dict_valueiterator_next ?_ (F.args_dict_valueiterator_next_1 _))));refine SB (Tk (SB (SB ?_)));refine SB (XG ty (Tk (SB (Yy ay ly ?_))));rw[own];show wpAny _ _ (if(Value.ref d==Value.none)=true then _ else _) _ _ s
 rw[SL none_];refine SB (Tk (SB (XH aA aB ?_)));rw[SL (by simp)];refine SB (Tk (SB (X8 aA aB ?_)));rw[SL (by simp)];refine Tk ?_;simp only[c0,if_false,WX];cases q:es[i]? with
 |some e=>
  let h1:=s.heap.update it (Obj.mapFields (·.setIfInBounds 1 (YT ((i:Int)+1))))
  have bO:h1.IsValIter it d (i+1) es.size a3:=by
   refine⟨_,Heap.get?_update_self _ ay ?_,(Obj.cls_mapFields ..).trans B8,?_⟩
   ·exact Obj.isFreed_of_fields (Obj.data_mapFields ly _)
   ·rw[Obj.data_mapFields ly];simp[YT]
  refine SB ?_;refine SB (XG ty (Tk (SB (X0 ty ?_))));show wpAny _ _ (Zb (.ref it) 1 (YT ((i:Int)+1)) >>= _) _ _ s
  refine SB (Yb ay ly (by simp) (SB (Xj (SB (X0 (s:={s with heap:=h1}) bO.typeIs (SB (X0 (s:={s with heap:=h1}) bO.typeIs ?_)))))));exact Tk (Tk ⟨_,rfl,Tk (more e h1 q bO (Heap.SameBut.update ..))⟩)
 |none=>
  refine SB ?_;refine SB (XG ty (Tk ?_));show wpAny _ _ (Zb (.ref it) 0 .none >>= _) _ _ s
  refine SB (Yb ay ly (by simp) ?_);show wpAny _ _ (newExc (.type "StopIteration") [] >>= _) _ _ _
  unfold newExc newTuple;refine SB (SB (WF (SB (m:=Yc _ _) (wpAny_of_eq (a:=Value.none) (by first|rfl|(unfold Yc;rfl)) (WF ?_ (by size_fits)))) (by size_fits)));unfold raiseNew;refine SB (wpAny_handled ?_);rw[show A.in1.handled=none from eO];refine SB (Tk (wpAny_throw ?_));refine SB (XJ (T:="StopIteration") (b:=true) (by exact⟨_,Heap.get?_push_size _ rfl,rfl⟩) isSubtype_stop ?_);exact Tk (done _ q (((Heap.SameBut.update ..).extBut.push _).push _))
def ab0{v:TI}{Q:Tl->TE->Prop}(aL:s.heap.IsValuesView v d)(ax:nY s.heap d es a3)(hr:Q (.ref s.heap.objs.size) {s with heap:=s.heap.push {cls:=.type "dict_valueiterator",data:=.fields #[.ref d,.int 0 0,.int es.size 0,.int a3 0]} }):wpAny (T0 prog w) A (pyIter (.ref v)) Q E s:=by
 have JA:=aL.typeIs;obtain⟨p,ae,ah1,dp⟩:=aL;obtain⟨o,aA,hc,aB⟩:=ax;have own:Builtin.Dict_items.ownsTuple "dict_valueiterator"=false:=by decide
 refine Yj JA F.slot_dict_values_iter (Xp F.slot_dict_values_iter JA F.entry_dict_values_iter ?_ (F.args_dict_values_iter_1 _));unfold YS.«dict_values.__iter__»;refine SB (Tk (SB ?_));unfold Builtin.Dict_items.dictOf;refine SB (YC ae dp (x:=.ref d) rfl (Tk (SB ?_)));unfold Builtin.Dict_items.newIterator;refine SB (XH aA aB (SB (X8 aA aB ?_)));simp only[own];refine WF (Tk ⟨_,rfl,"dict_valueiterator",_,⟨_,Heap.get?_push_size _ rfl,rfl⟩,F.slot_dict_valueiterator_next.lookup,?_⟩) (by simp[sizeOk,YB]);simpa[YT]using hr
def ab1(d:TI)(hd:(d==Xy)=false):
  MeetsIn prog w (YS.«dict.values» ⟨[.ref d],[]⟩) (λ_ R s=>(∃es a3,nY s.heap d es a3)/\R (.ok (.ret (.ref s.heap.objs.size))) {s with heap:=s.heap.push {cls:=.type "dict_values",data:=.fields #[.ref d]} }):=
 .of_wp λA R s ⟨⟨es,a3,ax⟩,h⟩=>by
  obtain⟨o,aA,hc,aB⟩:=ax;have ty:s.TypeIs (.ref d) "dict":=⟨o,aA,hc.1⟩;have no:¬(d==Xy)=true:=λz=>by rw[hd]at z;cases z
  show wpAny _ _ (Builtin.Dict.noArgs "values" ⟨[.ref d],[]⟩ >>= λd=>Builtin.Dict.showsAll d >>= λ_=>newFields "dict_values" [.ref d] >>= λx=>ret x) _ _ s
  unfold Builtin.Dict.noArgs;refine SB (SB (XY ty (show wpAny _ _ (pure d) _ _ s from Tk ?_)));show wpAny _ _ (Builtin.Dict.showsAll d >>= _) _ _ s
  unfold Builtin.Dict.showsAll;rw[SL no];exact SB (Tk (SB (WF (Tk ⟨_,rfl,h⟩))))
end
end L3
namespace L2
open PySem PySem.Spec PyProof.Rows PySem.W L3
def JB(b:Bool)(a:TI)(a3:Nat)(ks:List Zt)(as:Zo)(vs:Zf):iK where
 go:=λi H=>H a=some (hx b a a3 ks as vs)/\i<ks.length
 yld:=λi H x H'=>H'=H/\vs[i]?=some x
 stop:=λi H=>H a=some (hx b a a3 ks as vs)/\ks.length<=i
section
variable{P:Uf}{w:Xk}{K:Sv}{bz:UV}{b:Bool}{a:TI}{a3:Nat}{ks:List Zt}{as:Zo}{vs:Zf}
def ab2:entryFor table "dict_valueiterator.__iter__"=some YS.«dict_keyiterator.__iter__»:=entryFor_alias (id':="dict_keyiterator.__iter__") (by kernel_rfl) rfl (by decide +kernel) (by kernel_rfl)
def ab3(it:TI):pX P w K bz (JB b a a3 ks as vs) [it] it (λi h=>h.IsValIter it a i ks.length a3) where
 mem:=by simp
 obj:=λi h st c hc=>by
  have e:c=it:=by simpa using hc
  subst e;obtain⟨o,e,_,d⟩:=st;exact⟨o,e,λv z=>by rw[d]at z;cases z⟩
 keep:=λi h h' st k=>by
  obtain⟨o,e,z⟩:=st;exact⟨o,k it (by simp) o e,z⟩
 item:=by
  intro X gj hw e8 hc i pins s σ H E I bu st aC;subst gj hw e8;obtain⟨au,ay⟩:=aC;obtain⟨us,es,gH,j1,bj,bt,eG,cd,_⟩:=r6 I.hok au;obtain⟨k,c,u,HC,xP,aB⟩:=B9 (b:=b) bj bt ay
  obtain⟨y,aN,cg⟩:∃y,vs[i]?=some y/\RelV y u:=by
   have lt:i<vs.length:=by rw[cd.length];lia
   obtain⟨eA,r5,dA⟩:=cd.get (S5 lt);rw[xP]at r5;cases r5;exact⟨_,S5 lt,dA⟩
  obtain⟨e9,aU,a9,bE,db,d4⟩:=bu it (by simp);refine Jz (I.ok.hd hc) (by rw[eG];exact st) gH (λe h' q i3 f'=>?_) λh' q _=>?_
  ·rw[<-UY,j1,aB]at q;cases q;rw[eG]at i3;have be:Inv X pins σ H {s with heap:=h' }:=I.turned (t':=s.toks) (λc' o ab e=>(f'.2 c' ab).trans e) e9 aU bE db d4;obtain⟨o,e,c2,d⟩:=id i3;exact⟨u,rfl,s1 (s:={s with heap:=h' }) e c2 d (by decide) ⟨y,H,be,cg,⟨rfl,aN⟩,i3,λb' ab=>(bu b' ab).1⟩⟩
  ·rw[<-UY,j1,aB]at q;cases q
 done:=by
  intro X gj hw e8 hc i pins s σ H E I bu st aC;subst gj hw e8;obtain⟨au,ay⟩:=aC;obtain⟨us,es,gH,j1,bj,bt,eG,_⟩:=r6 I.hok au;obtain⟨e9,aU,a9,bE,db,d4⟩:=bu it (by simp);refine Jz (I.ok.hd hc) (by rw[eG];exact st) gH (λe h1 q _ _=>?_) λh' _ eN=>⟨rfl,I.turned (t':=s.toks) (λc' o ab e=>eN c' o ab e) e9 aU bE db d4⟩;rw[WY (by lia)]at q;cases q
 self:=λ_ _ _ _ _ st h=>by
  have ty:=st.typeIs;refine Yj ty F.slot_dict_valueiterator_iter (Xp F.slot_dict_valueiterator_iter ty ab2 ?_ (F.args_dict_valueiterator_iter_1 _));show wpAny _ _ (ret (.ref it)) _ _ _
  exact Tk ⟨_,rfl,"dict_valueiterator",_,ty,F.slot_dict_valueiterator_next.lookup,h⟩
def ab4(gk:bP):h6:=λσ H R=>gk σ H λx aq=>∃b a a3 ks as vs,x=.ref a/\m9 aq b a a3 ks as vs/\R (JB b a a3 ks as vs) aq
def ab5{X:aK}{de b6:Pos}{l:UV}{gk:bP}(am:b4 X l gk)(gM:W1 l "values" X.env (Xv l X.env)=Xv l X.env:=by rfl)(gN:(de.endLine==b6.line)=true:=by rfl):kk X bz (.Call (.Attribute l "values" de) [] [] b6) (ab4 gk):=by
 intro pins s σ H R I h;refine wpAny_Call_method (T:="dict") (id:="dict.values") gM rfl gN Wc W' PySem.F.type_dict_values (cm (am pins s σ H _ I h) λv az ⟨x,aq,be,r1,b,a,a3,ks,as,vs,e,lx,q⟩=>?_);subst e;obtain rfl:v=Value.ref a:=r1;obtain⟨d1,cY⟩:=lx.typ be;refine⟨d1,cY,?_⟩;obtain⟨us,es,gH,j1,bj,bt,eG,_,al⟩:=r6 be.hok lx.h;show wpAny _ _ (callWith b6 (.builtin "dict.values") [.ref a] [] []) _ _ az
 refine method_meetsIn W' PySem.F.entry_dict_values rfl (Wz ⟨rfl,d1,PySem.F.args_dict_values_1 _,_,ab1 a al,⟨es,a3,gH⟩,?_⟩)
 have tz:nY (az.heap.push {cls:=.type "dict_values",data:=.fields #[.ref a]}) a es a3:=by
  obtain⟨o,aA,z⟩:=gH;exact⟨o,Heap.get?_push_of_some _ aA,z⟩
 have d3:Inv X pins σ aq {az with heap:=az.heap.push {cls:=.type "dict_values",data:=.fields #[.ref a]} }:=be.kept (t':=az.toks) λb o e=>Heap.get?_push_of_some _ e;refine ab0 (s:={az with heap:=az.heap.push {cls:=.type "dict_values",data:=.fields #[.ref a]} }) ⟨_,Heap.get?_push_size _ rfl,rfl,rfl⟩ tz ?_;refine⟨_,[_],_,_,aq,rfl,d3.kept (t':=az.toks) λb o e=>Heap.get?_push_of_some _ e,ab3 _,⟨_,Heap.get?_push_size _ rfl,rfl,by rw[eG];rfl⟩,λc hc=>?_,q⟩;rw[SO.mp hc];exact d3.fpOk (Sy _) (d3.hok.fresh (Sy _))
end
end L2
namespace L3
open PySem L2
section
variable{X:aK}{bz:UV}
def ab6(u:a1):cU:=λρ k=>u ρ λx=>∃b ks ds,x=.dct b ks ds/\ds.length=ks.length/\k ds
def ab7{de b6:Pos}{l:UV}{l':a1}(am:bg X l l')(gM:W1 l "values" X.env (Xv l X.env)=Xv l X.env:=by rfl)(gN:(de.endLine==b6.line)=true:=by rfl):lX X bz (.Call (.Attribute l "values" de) [] [] b6) (ab6 l'):=by
 obtain⟨_,h1,r1⟩:=am;refine⟨_,ab5 h1 gM gN,λρ k h R W B H σ Q e q=>?_⟩;refine r1 ρ _ h R W B H σ _ e λd v aZ aq z1 ah aE az=>?_;obtain⟨b,ks,ds,rfl,am,z⟩:=z1;cases az with
 | @dct a _ a3 _ as vs _ ej uA rq fL=>
  refine⟨b,a,a3,ks,as,vs,rfl,⟨ah.bh _ _ ej,pk ah.bh rq uA⟩,?_⟩;refine q _ _ aZ aq z ah aE λH' qx i=>?_;rw[am];refine⟨λay=>⟨qx _ _ ej,ay⟩,λay=>⟨qx _ _ ej,ay⟩,λx aQ ay y=>?_⟩;obtain⟨rfl,aN⟩:=y;obtain⟨d,hd,gH⟩:=fL.getV aN;exact⟨rfl,d,hd,gH⟩
def ab8{x:Str}{ns:Zc}{pos:Pos}(g:tV X.K X.mg x ns)(aC:eY X x)(hd:(x==("__debug__":Str))=false:=by decide):j7 X (.Name x pos) (oE (.ktup (ns.map D.int))):=by
 obtain⟨p,ax,al⟩:=g.ex;refine⟨_,zZ (v:=.ref p) aC ax rfl hd,λρ k h R W B H σ Q e q=>?_⟩;exact q _ _ B H h e (bM.refl _ _) (.ktup (al _) (Reps.ints ns))
end
end L3
namespace Cut
open PySem L2 L3
open PySem.Builtin.Int (intBits)
abbrev gK:=ba×Zi
abbrev Zk:=List gK
def iF:Zk->BoxD->Zk
 |[],b=>[(b.1,[b])]
 |p::r,b=>if p.1=b.1 then(p.1,p.2++[b])::r else p::iF r b
def kf(w:ba):List Zc:=[[w.1,w.2]]
def kg(G:Zk):List Zt:=G.map λp=>kf p.1
def kh(G:Zk):List Zh:=G.map λp=>p.2.map dBx
def ab9{a b:ba}(h:kf a=kf b):a=b:=by
 unfold kf at h;simp only[UN,and_true]at h;exact TP h.1 h.2
def JC:∀(G:Zk)(b:BoxD),qG (kg G) (kh G) (kf b.1) (dBx b)=kh (iF G b)/\eV (kg G) (kf b.1)=kg (iF G b)
 |[],b=>⟨rfl,rfl⟩
 |p::r,b=>by
  obtain⟨hh,jA⟩:=JC r b;have c1:kg (p::r)=kf p.1::kg r:=rfl;have c2:kh (p::r)=p.2.map dBx::kh r:=rfl;rw[iF,c1,c2];by_cases e:p.1=b.1
  ·rw[SC e];unfold qG eV;rw[<-e,SC Sx,SC Sx,qF,SC rfl];refine⟨?_,rfl⟩;show _=(p.2++[b]).map dBx::kh r
   rw[SJ];rfl
  ·have ne:kf p.1≠kf b.1:=λz=>e (ab9 z);rw[SL e];have aE:kh (p::iF r b)=p.2.map dBx::kh (iF r b):=rfl;have aI:kg (p::iF r b)=kf p.1::kg (iF r b):=rfl;rw[aE,aI,<-hh,<-jA];unfold qG eV;by_cases m:kf b.1∈kg r
   ·rw[SC (Sz _ m),SC (Sz _ m),SC m,SC m,qF,SL ne];exact⟨rfl,rfl⟩
   ·have io:kf b.1∉kf p.1::kg r:=λz=>(SK.mp z).elim (λy=>ne y.symm) m;rw[SL io,SL io,SL m,SL m];exact⟨rfl,rfl⟩
def e3(bs:Zi):List gK:=bs.foldl iF []
def ab'(pre:Zi)(x:BoxD):e3 (pre++[x])=iF (e3 pre) x:=by
 unfold e3;rw[List.foldl_append];rfl
def JD:∀(G:Zk)(b:BoxD),((iF G b).map TF).flatten.Perm ((G.map TF).flatten++[b])
 |[],b=>Xa _
 |p::r,b=>by
  rw[iF];by_cases e:p.1=b.1
  ·rw[SC e];show((p.2++[b])++(r.map TF).flatten).Perm ((p.2++(r.map TF).flatten)++[b])
   rw[S6,S6];exact Xb _ List.perm_append_comm
  ·rw[SL e];show(p.2++((iF r b).map TF).flatten).Perm ((p.2++(r.map TF).flatten)++[b])
   rw[S6];exact Xb _ (JD r b)
def JE:∀(bs:Zi)(G:Zk),((bs.foldl iF G).map TF).flatten.Perm ((G.map TF).flatten++bs)
 |[],G=>by rw[SP];exact Xa _
 |b::r,G=>by
  refine(JE r (iF G b)).trans ?_;have:=(JD G b).append_right r
  rwa [S6]at this
def qU(bs:Zi):((e3 bs).map TF).flatten.Perm bs:=JE bs []
def vj(G:Zk):Prop:=∀p∈G,p.2≠[]/\∀b∈p.2,b.1=p.1
def JF:∀{G:Zk}{b:BoxD},vj G->vj (iF G b)
 |[],b,_=>λp ae=>by
  rw[SO.mp ae];exact⟨by simp,λx ao=>by rw[SO.mp ao]⟩
 |q::r,b,h=>λp ae=>by
  rw[iF]at ae;have h1:=h q Sx;by_cases e:q.1=b.1
  ·rw[SC e]at ae;rcases SK.mp ae with rfl|ae
   ·refine⟨by simp,λx ao=>?_⟩;rcases SR.mp ao with ao|ao
    ·exact h1.2 x ao
    ·rw[SO.mp ao];exact e.symm
   ·exact h p (Sz _ ae)
  ·rw[SL e]at ae;rcases SK.mp ae with rfl|ae
   ·exact h1
   ·exact JF (G:=r) (λx ao=>h x (Sz _ ao)) p ae
def JG:∀{bs:Zi}{G:Zk},vj G->vj (bs.foldl iF G)
 |[],_,h=>h
 |_::r,_,h=>JG (bs:=r) (JF h)
def yE(bs:Zi):vj (e3 bs):=JG λ_ h=>absurd h Ug
def yF{bs:Zi}{p:gK}(ae:p∈e3 bs):∀b∈p.2,b∈bs:=λb ab=>(qU bs).subset (Xc.mpr ⟨p.2,SM.mpr ⟨p,ae,rfl⟩,ab⟩)
def aca{l gt:Zi}(h:l.Perm gt)(f:BoxD->Rat):(l.map f).sum=(gt.map f).sum:=by
 induction h with
 |nil=>rfl
 |cons x _ cH=>rw[SG,SG,SQ,SQ,cH]
 |swap x y l=>simp only[SG,SQ];grind
 |trans _ _ a b=>exact a.trans b
def acb{l gt:Zi}(h:l.Perm gt)(f:BoxD->Nat):(l.map f).sum=(gt.map f).sum:=by
 induction h with
 |nil=>rfl
 |cons x _ cH=>rw[SG,SG,SQ,SQ,cH]
 |swap x y l=>simp only[SG,SQ];lia
 |trans _ _ a b=>exact a.trans b
def JH(f:BoxD->Rat):∀G:Zk,((G.map TF).flatten.map f).sum=(G.map λp=>(p.2.map f).sum).sum
 |[]=>rfl
 |p::r=>by
  rw[SG,Us,SJ,SG,SQ,<-JH f r];generalize(r.map TF).flatten=L;induction p.2 with
  |nil=>show(L.map f).sum=(0:Rat)+_;grind
  |cons x l cH=>rw[SG,To,SQ,cH,SQ];grind
def JI(f:BoxD->Nat):∀G:Zk,((G.map TF).flatten.map f).sum=(G.map λp=>(p.2.map f).sum).sum
 |[]=>rfl
 |p::r=>by rw[SG,Us,SJ,Ut,JI f r,SG,SQ]
def JJ(bs:Zi)(f:BoxD->Rat):((e3 bs).map λp=>(p.2.map f).sum).sum=(bs.map f).sum:=by rw[<-JH,aca (qU bs)]
def Dh(bs:Zi)(f:BoxD->Nat):((e3 bs).map λp=>(p.2.map f).sum).sum=(bs.map f).sum:=by rw[<-JI,acb (qU bs)]
def yG(bs:Zi):(e3 bs).length<=bs.length:=by
 have h:=Dh bs λ_=>1
 have e:∀l:Zi,(l.map λ_=>1).sum=l.length:=λl=>by
  induction l with
  |nil=>rfl
  |cons x l cH=>rw[SG,SQ,cH,SN];lia
 rw[e]at h;rw[<-h];have ok:=yE bs;generalize e3 bs=G at ok;induction G with
 |nil=>exact Sy _
 |cons p r cH=>
  have i:=cH λx ao=>ok x (Sz _ ao);have n:=V7.mpr (ok p Sx).1;rw[SG,SQ,e,SN];lia
def vk:∀{l:Zj}{x:Nat},x∈l->x<=l.sum
 |y::l,x,h=>by
  rw[SQ];rcases SK.mp h with rfl|h
  ·lia
  ·have:=vk h;lia
def Di{bs:Zi}{p:gK}(ae:p∈e3 bs):p.2.length<=bs.length:=by
 have h:=(qU bs).length_eq;rw[VD]at h;rw[<-h];exact vk (SM.mpr ⟨p.2,SM.mpr ⟨p,ae,rfl⟩,rfl⟩)
def JK{α:Type}:∀{ks:List Zt}{ds:List α}{k:Zt}{x:α},bJ ks ds k=some x->x∈ds
 |[],_,_,_,h=>by simp[bJ]at h
 |_::_,[],_,_,h=>by simp[bJ]at h
 |k'::ks,d::ds,k,x,h=>by
  rw[bJ]at h;by_cases e:k'=k
  ·rw[SC e]at h;cases h;exact Sx
  ·rw[SL e]at h;exact Sz _ (JK h)
noncomputable def gh(p:gK):BoxD:=(p.1,bN p.2 (0,1),dh p.2 (0,1))
def acd{H h:ba}{p q:Nat}(h1:0<H.2)(h2:0<h.2)(a7:wp H.1<=p)(bd:wp H.2<=p)(eR:wp h.1<=q)(gS:wp h.2<=q):wp (ij H h).1<=p+q+1/\wp (ij H h).2<=p+q+1:=by
 obtain⟨_,_,ah,ap⟩:=hB (t:=H.1*h.2+h.1*H.2) (b:=H.2*h.2) (SD (SF h1 h2));have x:=TD a7 gS;have y:=TD eR bd;rw[Wi q p]at y;have z:=Xr x y;rw[Vu]at z;exact⟨d6 ah z,d6 ap (SE (TD bd gS) (by lia))⟩
def yH(c:BoxD->Nat):∀{bs:Zi}{H:ba}{p:Nat},0<H.2->wp H.1<=p->wp H.2<=p->(∀b∈bs,0<b.2.1.2/\wp b.2.1.1<=c b/\wp b.2.1.2<=c b)->wp (bN bs H).1<=p+(bs.map λb=>c b+1).sum/\wp (bN bs H).2<=p+(bs.map λb=>c b+1).sum
 |[],_,_,_,a7,bd,_=>⟨a7,bd⟩
 |b::r,H,p,h0,a7,bd,h=>by
  obtain⟨e1,cc,ci⟩:=h b Sx;obtain⟨z1,aP⟩:=acd h0 e1 a7 bd cc ci;have:=yH c (bs:=r) (pE h0 e1).1 z1 aP λx ao=>h x (Sz _ ao);rw[bN,SG,SQ];have e:p+(c b+1+(r.map λb=>c b+1).sum)=p+c b+1+(r.map λb=>c b+1).sum:=by lia
  rw[e];exact this
def yI:∀{bs:Zi}{H:ba},0<H.2->(∀b∈bs,0<b.2.1.2)->ai (bN bs H)=ai H+(bs.map λb=>ai b.2.1).sum
 |[],H,_,_=>by show ai H=ai H+(0:Rat);grind
 |b::r,H,h0,h=>by
  have e1:=h b Sx;rw[bN,yI (bs:=r) (pE h0 e1).1 λx ao=>h x (Sz _ ao),u4 h0 e1,SG,SQ];grind
end Cut
namespace L3
open PySem L2
def ace(t:bP):Prop:=∀(σ:St)(H:aj)(Q:cJ),(∀v aQ,b2 H aQ->Q v aQ)->t σ H Q
def sD(X:aK)(e:UV):Prop:=∃t,b4 X e t/\ace t
def vl(X:aK)(n:Nat)(es:Zp):Prop:=∃t,hJ X es t/\∀(σ:St)(H:aj)(Q:Zf->aj->Prop),(∀vs aQ,vs.length=n->b2 H aQ->Q vs aQ)->t σ H Q
section
variable{X:aK}{e:UV}{es:Zp}{n:Nat}{pos:Pos}
def JL{H:aj}{p:TI}{o:eX}(h:H p=none):b2 H (upd H p o):=λa x z=>by
 rw[c6 (by rintro rfl;rw[h]at z;cases z)];exact z
def Dj{i j}:sD X (.Constant (.int i) j pos):=⟨_,eM,λ_ H _ q=>q _ H λ_ _ z=>z⟩
def acf{b j}:sD X (.Constant (.bool b) j pos):=⟨_,D5,λ_ H _ q=>q _ H λ_ _ z=>z⟩
def Dk:vl X 0 []:=⟨_,fC,λ_ H _ q=>q [] H rfl λ_ _ z=>z⟩
def sE(ar:sD X e)(ak:vl X n es)(al:SZ (e::es) X.env=(false,Xv e X.env)::SZ es X.env:=by rfl):vl X (n+1) (e::es):=by
 obtain⟨_,h1,r1⟩:=ar;obtain⟨_,h2,r2⟩:=ak;exact⟨_,eh h1 h2 al,λσ H Q q=>r1 σ H _ λv aq az=>r2 σ aq _ λvs aQ l a'=>q _ _ (by rw[SN,l]) λa o z=>a' a o (az a o z)⟩
def JM{bF}(h:vl X n es)(aM:n<=TT:=by decide):sD X (.Tuple es bF pos):=by
 obtain⟨_,h1,r1⟩:=h;exact⟨_,vX h1,λσ H Q q=>r1 σ H _ λvs aq l az=>⟨by rw[l];exact aM,λp ae=>q _ _ λa o z=>JL ae a o (az a o z)⟩⟩
def acg(h:vl X n es)(aM:n<=TT:=by decide):sD X (.List es pos):=by
 obtain⟨_,h1,r1⟩:=h;exact⟨_,s8 h1,λσ H Q q=>r1 σ H _ λvs aq l az=>⟨by rw[l];exact aM,λp ae=>q _ _ λa o z=>JL ae a o (az a o z)⟩⟩
end
def j8.put{K:Sv}{W:TI->Prop}{σ:St}{ρ:Zg}{H N H':aj}(m:j8 K W σ ρ H N H')(ab:∀a,gZ W σ ρ a->H a≠none){b:TI}{vs ws:Zf}(a4:N b=some (.lst vs))(dw:H b=none):j8 K W σ ρ H N (upd H' b (.lst ws)):=by
 refine⟨λa o h ek=>?_,λa h=>?_,λa ws h=>?_,λa ws h=>?_⟩
 ·rw[c6 (by rintro rfl;rw[dw]at h;cases h)];exact m.fr a o h ek
 ·exact(m.wh a h).upd (by rintro rfl;exact ab _ h dw)
 ·rw[c6 (by rintro rfl;rw[a4]at h;cases h)];exact m.tp a ws h
 ·by_cases z:a=b
  ·subst z;exact⟨_,dZ⟩
  ·rw[c6 z];exact m.ls a ws h
def j8.same{K:Sv}{W:TI->Prop}{σ:St}{ρ:Zg}{H N H' aQ:aj}(m:j8 K W σ ρ H N H')(ab:∀a,gZ W σ ρ a->H a≠none)(s:b2 H' aQ):j8 K W σ ρ H N aQ:=
 ⟨λa o h ek=>s _ _ (m.fr a o h ek),λa h=>by obtain⟨x,y,z,r⟩:=m.wh a h;exact⟨x,y,s _ _ z,r⟩,λa vs h=>s _ _ (m.tp a vs h),λa vs h=>by obtain⟨ws,z⟩:=m.ls a vs h;exact⟨ws,s _ _ z⟩⟩
section
variable{K:Sv}{X:aK}{i:Nat}{rest:Zq}
def ach(i j:Nat)(yJ:cB):gC->Zg->D->Zg->Prop:=λU ρ d _=>(j<ρ.length/\∃eu sF ps,d=.tup [eu,sF,.lst ps]/\ps.length<TT/\∀q∈ps,Be q)/\yJ U ((ρ.set i .no).set j .no)
def aci{j:Nat}{x y:Str}{px fV vm hH ps de b6 JN qC Dl yh:Pos}{cr bV hf:Nat}{yJ:cB}{fl:UV}{vn Dm sG sH vo JO:Pos}(mH:i≠j)(a4:X.N.Nodup)(ay:X.N[i]?=some x)(bS:X.N[j]?=some y)(ao:gz X.env.scope x)(aN:Loc X.env.scope y)(acj:gz X.env.scope y)(ae:X6 (T0 X.prog X.w) X.A X.env X.xe)(hc:X.calm=true)(ack:sD X fl)(ak:gs X rest yJ)(acl:X.fn y=true\/X.env.scope.names.lookup y=some .local:=by first|exact .inl rfl|exact .inr rfl|assumption)(JP:(x==("__debug__":Str))=false:=by decide)(JQ:(x==("__classdict__":Str))=false:=by decide)(acm:(y==("__debug__":Str))=false:=by decide)(acn:(y==("__classdict__":Str))=false:=by decide)(al:∀v,UF (.Subscript (.Name x px) (.Constant (.int 2) bV Dl) yh) X.env v=pure v:=by intro _;rfl)(qV:W1 (.Subscript (.Name y vm) (.Constant (.int 0) cr hH) ps) "clear" X.env (Xv (.Subscript (.Name y vm) (.Constant (.int 0) cr hH) ps) X.env)=Xv (.Subscript (.Name y vm) (.Constant (.int 0) cr hH) ps) X.env:=by rfl)(sI:(de.endLine==b6.line)=true:=by rfl)(aco:Xi (.Call (.Attribute (.Subscript (.Name y vm) (.Constant (.int 0) cr hH) ps) "clear" de) [] [] b6) none JN.line X.env=pure false:=by rfl)(acp:W1 (.Subscript (.Name x vn) (.Constant (.int 2) hf sH) vo) "append" X.env (Xv (.Subscript (.Name x vn) (.Constant (.int 2) hf sH) vo) X.env)=Xv (.Subscript (.Name x vn) (.Constant (.int 2) hf sH) vo) X.env:=by rfl)(acq:((Xn sG (SZ [fl] X.env)).all (λx => !x.1)&&(XV sG (XB [] X.env)).all (λx=>x.1.isSome)&&decide ([fl].length+([]:Zr).length+(if([]:Zr).isEmpty then 0 else 1)<30))=true:=by rfl)(acr:(Dm.endLine==sG.line)=true:=by rfl)(JR:SZ [fl] X.env=(false,Xv fl X.env)::SZ [] X.env:=by rfl)(acs:(Xn sG (SZ [] X.env)).any (·.1)=false:=by rfl)(act:Xi (.Call (.Attribute (.Subscript (.Name x vn) (.Constant (.int 2) hf sH) vo) "append" Dm) [fl] [] sG) none JO.line X.env=pure false:=by rfl)(acu:p6 (.Constant (.int 2) hf sH):=by exact λ_ _=>rfl)(acv:p6 (.Constant (.int 2) bV Dl):=by exact λ_ _=>rfl)(fa:p6 (.Constant (.int 0) cr hH):=by exact λ_ _=>rfl):
  wX X [i,j] i (.For (.Name y fV) (.Subscript (.Name x px) (.Constant (.int 2) bV Dl) yh) [.Expr (.Call (.Attribute (.Subscript (.Name y vm) (.Constant (.int 0) cr hH) ps) "clear" de) [] [] b6) JN] [] qC::.Expr (.Call (.Attribute (.Subscript (.Name x vn) (.Constant (.int 2) hf sH) vo) "append" Dm) [fl] [] sG) JO::rest) (ach i j yJ):=by
 obtain⟨_,aF,ga⟩:=ak;obtain⟨_,bb,acw⟩:=ack;refine⟨_,kS (s3 ae hc (z8 (km mL (h5 ay ao JP JQ) eM acv)) (vN a4 bS aN acl) (oo (pT (EH Up PySem.F.slot_list_clear PySem.F.type_list_clear MT (km mL (h5 bS acj acm acn) eM fa) qV sI) aco)) al) (kS (pT (rn Up VW VX v7 (km mL (h5 ay ao JP JQ) eM acu) (eh bb fC JR) acp acq acr JR acs) act) aF),λU ρ d l6 h R W B H σ E e du l7 o0 jw v iN aL Dn acx am=>?_⟩;obtain⟨⟨acy,eu,sF,ps,rfl,acz,acA⟩,h⟩:=h;obtain⟨gu,acB,rfl,kG,qW⟩:=Dn.tup_of
 obtain⟨v1,dC,af,rfl,Dn⟩:∃v1 dC af,acB=[v1,dC,af]/\bA X.K (eC H l7) af (.lst ps):=by
  cases qW with
  |cons r1 qW=>
   cases qW with
   |cons r2 qW=>
    cases qW with
    |cons ga qW=>
     cases qW;exact⟨_,_,_,rfl,ga⟩
 obtain⟨a,vs,rfl,ar,rs⟩:=Dn.lst_of;obtain⟨dO,Do⟩:=j8.start e iN;obtain⟨acC,acD⟩:=ti ar;have JS:=iN.bh a _ acC;refine⟨.ref gu,aL,gu,_,2,.ref a,rfl,rfl,.inl (dO.tp gu _ kG),Ir,a,rfl,⟨vs,cx.of JS⟩,?_⟩;refine⟨λn m a6 H'=>m=ps.length-n/\n<=ps.length/\(∀q,q≠j->a6[q]?=jw[q]?)/\a6.length=jw.length/\H' a=some (.lst vs)/\j8 X.K W σ ρ H (eC H l7) H',⟨ps.length,rfl,S8 _,λ_ _=>rfl,rfl,JS,dO⟩,?_⟩;rintro n m a6 H' ⟨rfl,aM,mf,fj,gO,ax⟩;by_cases cM:n<ps.length
 ·refine .inr ⟨?_,λrD JT=>∃m',m'<ps.length-n/\(m'=ps.length-(n+1)/\n+1<=ps.length/\(∀q,q≠j->rD[q]?=jw[q]?)/\rD.length=jw.length/\JT a=some (.lst vs)/\j8 X.K W σ ρ H (eC H l7) JT),λ_ _ z=>z,?_⟩
  ·obtain⟨ce,lI,_⟩:=rs.get (S5 cM);exact⟨vs,ce,cx.of gO,lI⟩
  ·rintro ce aq ⟨rfl,lI⟩;have lI:=lI vs (cx.of gO);obtain⟨ix,acE,bc⟩:=rs.getV lI;obtain⟨r,m,rfl,BP⟩:=acA ix (Th acE);obtain⟨q,cl,rfl,au,JU⟩:=bc.tup_of;cases JU with
   |cons rb JU=>
    obtain⟨b,bs,rfl,ab,acF⟩:=rb.lst_of;obtain⟨ah2,acG⟩:=ti ab
    have acH:a≠b:=by
     rintro rfl;rw[ar]at ab;cases ab;obtain⟨bo,acI,tz⟩:=acF.getV lI;have fd:=Bd BP acI;cases tz with
     |lst _ _=>simp[flat]at fd
     |scr _=>simp[flat]at fd
     |ktup _ _=>simp[flat]at fd
     |kfn _=>simp[flat]at fd
     |dct _ _ _ _=>simp[flat]at fd
     |tup h2 r2=>
      rw[au]at h2;cases h2;cases r2 with
      |cons rc _=>
       rw[flat,flats,Uk]at fd;exact Px rc fd.1 ar
    obtain⟨ws,hw⟩:=ax.ls b _ ab;have CV:j<a6.length:=by rw[fj,am,e.len];exact acy
    refine⟨.ref q,by rw[Tz CV],?_⟩;refine⟨q,_,0,.ref b,rfl,rfl,.inl (ax.tp q _ au),Pr,?_⟩;refine⟨.inl ⟨rfl,ws,cx.of hw⟩,b,ws,rfl,rfl,hw,?_⟩;refine⟨_,by lia,rfl,cM,λq au=>?_,by rw[TH];exact fj,by rw[c6 acH];exact gO,ax.clear Do ab acG⟩;rw[Tx (λz=>au z.symm)];exact mf q au
 ·have lm:n=ps.length:=by lia
  subst lm;refine .inl ⟨⟨vs,cx.of gO,by rw[rs.length];exact Sy _⟩,?_⟩;have acJ:a6[i]?=some (some (.ref gu)):=by rw[mf i mH];exact aL
  refine⟨.ref gu,acJ,gu,_,2,.ref a,rfl,rfl,.inl (ax.tp gu _ kG),Ir,.inl ⟨rfl,vs,cx.of gO⟩,?_⟩;refine acw _ _ _ λy aQ a'=>?_;have xc:=a' _ _ gO;refine⟨a,vs,y,rfl,rfl,xc,by rw[rs.length];exact acz,?_⟩;have w4:=(ax.same Do a').put Do ar acD (ws:=vs++[y]);refine ga U _ h R W B _ a6 E ((e.unframe w4.fr w4.wh).forget ?_ λn k q=>?_) du
  ·rw[TH,TH,fj,am];exact e.len
  ·rcases h7 q with⟨_,z⟩|⟨JV,q⟩
   ·exact .inl z
   ·rcases h7 q with⟨_,z⟩|⟨acK,q⟩
    ·exact .inl z
    ·exact .inr ⟨q,by rw[mf n JV];exact acx n (by simp[acK,JV])⟩
end
section
variable{X:aK}{pins:Zs}{σ:St}{H B:aj}{s:TE}
def acL(I:Inv X pins σ H s)(cQ:b2 B H){A:Xq}{is:Zc}{v w:V}{u eA:Tl}(r1:bA X.K B v (.ktup (is.map D.int)))(r2:bA X.K B w (.tup (is.map D.int)))(bj:RelV v u)(bt:RelV w eA)(bn:A.units+4<XA):SeqAt.EqAt A s u eA true:=by
 obtain⟨b,ws,rfl,ab,rb⟩:=r2.tupV;cases r1 with
 | @ktup a vs _ ar gU=>
  cases bj;cases bt;obtain⟨its,bO,d1,_⟩:=I.tuple (AE cQ ar);obtain⟨fD,bV,cY,_⟩:=I.tuple (ev.of (cQ _ _ ab));have z1:=gU.length;have aP:=rb.length;have ew:=bO.length;have d7:=bV.length;have dl:=FT is;have j1:=eqs_sh I cQ (is.map λ_=>gW.I) (A:=A.in1) (A8 is) (A8 is) gU rb bO bV (by show A.units+1+_<XA;lia)
  have aB:∀j (h1:j<its.toArray.size) (h2:j<fD.toArray.size),SeqAt.EqAt A.in1 s its.toArray[j] fD.toArray[j] ((λ_=>true) j):=λj aE aI=>by
   have:=j1 j (by simpa using aE) (by simpa using aI);rw[rG.mpr rfl]at this;simpa using this
  have e:((Ta (min its.toArray.size fD.toArray.size)).all (λ_=>true)&&its.toArray.size==fD.toArray.size)=true:=by
   have:its.toArray.size=fD.toArray.size:=by simp;lia
   simp[this]
  by_cases hy:a=b
  ·subst hy;exact SeqAt.EqAt.same _
  ·refine SeqAt.EqAt.of_refs hy ?_;have:=SeqAt.RcAt.tuples d1 cY (by lia) aB
   rwa [e]at this
def acM(K:Sv):fB:=λx y H Q=>∃(B:aj)(bo:D)(sh:gW)(is:Zc),bA K B x (.tup [bo,.ktup (is.map D.int),.lst []])/\bA K B y (.tup [bo,.tup (is.map D.int),.lst []])/\b2 B H/\has sh bo=true/\h9 sh<=50/\Q (.bl true) H
def acN(bn:X.A.units+64<XA):gl X (XE .Eq) (acM X.K):=by
 intro pins s σ H x y v u Q I bc cg h;obtain⟨B,bo,sh,is,r1,r2,cQ,h1,hd,q⟩:=h;obtain⟨a,vs,rfl,ar,gU⟩:=r1.tupV;obtain⟨b,ws,rfl,ab,rb⟩:=r2.tupV;cases bc;cases cg;obtain⟨its,bO,d1,_⟩:=I.tuple (ev.of (cQ _ _ ar));obtain⟨fD,bV,cY,_⟩:=I.tuple (ev.of (cQ _ _ ab));cases gU with
 |cons cc gU=>cases gU with
  |cons ci gU=>cases gU with
   |cons iY gU=>
    cases gU;cases rb with
    |cons a7 rb=>cases rb with
     |cons bd rb=>cases rb with
      |cons eR rb=>
       cases rb;cases bO with
       |cons c1 bO=>cases bO with
        |cons c2 bO=>cases bO with
         |cons c3 bO=>
          cases bO;cases bV with
          |cons ah bV=>cases bV with
           |cons ap bV=>cases bV with
            |cons bw bV=>
             cases bV;have aR:=(qi I cQ sh (A:=X.A.in1) h1 h1 cc a7 c1 ah (by show X.A.units+1+_<XA;lia)).eq;have bK:=acL I cQ (A:=X.A.in1) ci bd c2 ap (by show X.A.units+1+_<XA;lia);have e7:=(qi I cQ (.L .I) (A:=X.A.in1) (x:=.lst []) (y:=.lst []) rfl rfl iY eR c3 bw (by show X.A.units+1+1<XA;lia)).eq;rw[oN]at aR e7;refine SeqAt.RcAt.tuples (e:=λ_=>true) d1 cY (by lia) (λj aE aI=>?_) _ _ _ _ ⟨.bl _,H,I,rfl,?_⟩
             ·match j with
              |0=>exact aR
              |1=>exact bK
              |2=>exact e7
              |j+3=>simp at aE;lia
             ·exact q
end
section
variable{K:Sv}{X:aK}{a b:UV}{bH bW:a1}{pos:Pos}
def acO(bH bW:a1):a1:=λρ k=>bH ρ λx=>bW ρ λy=>∃(bo:D)(sh:gW)(is:Zc),x=.tup [bo,.ktup (is.map D.int),.lst []]/\y=.tup [bo,.tup (is.map D.int),.lst []]/\has sh bo=true/\h9 sh<=50/\k (.bl true)
def acP(bn:X.A.units+64<XA)(ar:bg X a bH)(ab:bg X b bW)(ax:Xo .Eq b=false):bg X (.Compare a [.Eq] [b] pos) (acO bH bW):=by
 obtain⟨_,h1,r1⟩:=ar;obtain⟨_,h2,r2⟩:=ab;refine⟨_,vU (acN bn) h1 h2 ax,qd r1 r2 λx y k h R W B H σ ρ v w Q e bc cg q=>?_⟩;obtain⟨bo,sh,is,rfl,rfl,al,hd,ag⟩:=h;exact⟨B,bo,sh,is,bc,cg,e.bh,al,hd,q _ _ B H ag e (bM.refl _ _) (.bl _)⟩
end
end L3
namespace Cut
open PySem L2 L3
open PySem.Builtin.Int (intBits)
noncomputable def hp(g:ba)(p:BoxD):BoxD:=(g,bN (fu p.1 p.2.1 g p.2.2) (0,1),dh (fu p.1 p.2.1 g p.2.2) (0,1))
noncomputable def dm(g:ba)(bs:Zi):List BoxD:=(e3 bs).map λp=>hp g (gh p)
structure ki (g:ba) (b:BoxD):Prop where
 lw:aH b.1.1 b.1.2
 w0:0<b.1.1
 c1:wp b.1.1<=10
 c2:wp b.1.2<=10
 lh:aH b.2.1.1 b.2.1.2
 h0:0<b.2.1.1
 c3:wp b.2.1.1<=10
 c4:wp b.2.1.2<=10
 r1:ai b.1<=3*ai g
 r2:ai g<=3*ai b.1
 px:∀s∈b.2.2,jG 700 200 6 20 s
 bal:fS (b.2.2.map λs=>s.1) [iy b.1 b.2.1]
def yK{f:BoxD->Nat}{m:Nat}:∀{l:Zi},(∀x∈l,f x<=m)->(l.map f).sum<=m*l.length
 |[],_=>S8 _
 |x::l,h=>by
  rw[SG,SQ,SN,Uh];have:=h x Sx;have:=yK (l:=l) λy aN=>h y (Sz _ aN);lia
def ki.on{g:ba}{b:BoxD}(h:ki g b):dH b.2.2 0 (ai b.1) 0 (ai b.2.1):=⟨λs al p ae=>((h.px s al).rb.pts p ae).pt,iy b.1 b.2.1,h.bal,u2 h.lw h.lh⟩
def ki.kp{g:ba}{b:BoxD}(h:ki g b):ea b.2.2:=λs al=>⟨(h.px s al).st.pt,λp ae=>((h.px s al).rb.pts p ae).pt⟩
def JW{S:Ze}{w h:ba}(lw:aH w.1 w.2)(lh:aH h.1 h.2)(on:dH S 0 (ai w) 0 (ai h)):fS (S.map λs=>s.1) [iy w h]:=by
 obtain⟨_,R,vi,yD⟩:=on;have e:=yD.eq (u2 lw lh);rw[e]at vi;exact vi
def JX{W G:Rat}:∀{l:Zi},(∀b∈l,ai b.1=W)->(l.map λb=>ai b.1*ai b.2.1/G).sum=W*(l.map λb=>ai b.2.1).sum/G
 |[],_=>by show(0:Rat)=W*0/G;rw[Rat.mul_zero,Ud,Vv]
 |b::l,h=>by
  rw[SG,SQ,JX (l:=l) λx ao=>h x (Sz _ ao),h b Sx,SG,SQ];grind
section
variable{g:ba}{bs:Zi}(ab:∀b∈bs,ki g b)(am:bs.length<=8)(a4:(bs.map λb=>b.2.2.length).sum<=9)
include ab am a4
theorem yL{p:gK}(ae:p∈e3 bs):
  ((∀b∈p.2,aH b.2.1.1 b.2.1.2/\wp b.2.1.1<=350/\wp b.2.1.2<=350/\∀s∈b.2.2,sm s)/\(∀pre b rest,p.2=pre++b::rest->wp (bN pre (0,1)).1<=350/\wp (bN pre (0,1)).2<=350)/\(p.2.map λb=>b.2.2.length).sum<=400) /\
  (∃b∈bs,p.1=b.1)/\aH (bN p.2 (0,1)).1 (bN p.2 (0,1)).2/\0<(bN p.2 (0,1)).1/\wp (bN p.2 (0,1)).1<=1+11*p.2.length/\wp (bN p.2 (0,1)).2<=1+11*p.2.length/\cP 792 293 6 112 9 (dh p.2 (0,1))/\fS ((dh p.2 (0,1)).map λs=>s.1) [iy p.1 (bN p.2 (0,1))]/\p.2.length<=8:=by
 have en:aH 0 1:=⟨by decide,by decide⟩;obtain⟨ne,hw⟩:=yE bs p ae;have mem:=yF ae;have cp:=Di ae;have all:∀b∈p.2,ki g b:=λb h=>ab b (mem b h)
 have bits:∀l:Zi,(∀b∈l,b∈p.2)->wp (bN l (0,1)).1<=1+11*l.length/\wp (bN l (0,1)).2<=1+11*l.length:=λl mr=>by
  obtain⟨a,b⟩:=yH (λ_=>10) (bs:=l) (H:=(0,1)) (p:=1) (by decide) (by decide) (by decide) λb h=>⟨(all b (mr b h)).lh.1,(all b (mr b h)).c3,(all b (mr b h)).c4⟩;have s:=yK (f:=λ_=>10+1) (m:=11) (l:=l) λ_ _=>Sy _;exact⟨SE a (by lia),SE b (by lia)⟩
 have low:∀l:Zi,(∀b∈l,b∈p.2)->aH (bN l (0,1)).1 (bN l (0,1)).2:=λl mr=>sn en λb h=>(all b (mr b h)).lh.1
 have pb:∀pre b rest,p.2=pre++b::rest->wp (bN pre (0,1)).1<=89/\wp (bN pre (0,1)).2<=89/\aH (bN pre (0,1)).1 (bN pre (0,1)).2:=λpre b rest e=>by
  have sub:∀x∈pre,x∈p.2:=λx ao=>by rw[e];exact TN _ ao
  obtain⟨a,c⟩:=bits pre sub
  have:pre.length<=8:=by
   have:=TW S0 e;rw[SH]at this;lia
  exact⟨by lia,by lia,low pre sub⟩
 have cnt:(p.2.map λb=>b.2.2.length).sum<=9:=by
  have:=Dh bs λb=>b.2.2.length;have:=vk (l:=(e3 bs).map λp=>(p.2.map λb=>b.2.2.length).sum) (SM.mpr ⟨p,ae,rfl⟩);lia
 have one:∀x∈p.2,cP 700 200 6 20 9 x.2.2:=λx ao=>⟨(all x ao).px,by
  have:=vk (l:=p.2.map λb=>b.2.2.length) (SM.mpr ⟨x,ao,rfl⟩)
  lia⟩
 have sz:=yo (q:=91) (bs:=p.2) (H:=(0,1)) (λpre x rest e=>by
  obtain⟨a,c,l⟩:=pb pre x rest e
  exact jH (a:=(0,1)) (p:=2) (q:=89) en l (by decide) (by decide) a c) one
 have kO:=low p.2 λ_ h=>h;obtain⟨acQ,acR⟩:=bits p.2 λ_ h=>h
 obtain⟨b0,r,d5⟩:∃b0 r,p.2=b0::r:=by
  match p.2,ne with
  |b0::r,_=>exact⟨b0,r,rfl⟩
 have dO:b0∈p.2:=by rw[d5];exact Sx
 have w0:=hw b0 dO
 have on:dH (dh p.2 (0,1)) 0 (ai p.1) (ai (0,1)) (ai (bN p.2 (0,1)))/\ai (0,1)<ai (bN p.2 (0,1)):=by
  rw[d5];refine yv en λx ao=>?_;rw[<-d5]at ao;have k:=all x ao;refine⟨?_,k.lh.1,er k.h0 k.lh.1⟩;rw[<-hw x ao];exact k.on
 have z0:ai (0,1)=0:=hm _;rw[z0]at on;refine⟨⟨λb h=>⟨(all b h).lh,SE (all b h).c3 (by decide),SE (all b h).c4 (by decide),λs al=>((all b h).px s al).gm (by decide) (by decide) (by decide)⟩,λpre b rest e=>?_,by lia⟩,⟨b0,mem b0 dO,w0.symm⟩,kO,va on.2 kO.1,acQ,acR,⟨(sz.mono (by decide) (by decide) (by decide) (by decide) (Sy _)).1,by rw[qK];exact cnt⟩,JW (by rw[<-w0];exact(all b0 dO).lw) kO on.1,by lia⟩;obtain⟨a,c,_⟩:=pb pre b rest e;exact⟨by lia,by lia⟩
variable(aJ:aH g.1 g.2)(aV:0<g.1)(bC:wp g.1<=10)(bD:wp g.2<=10)
include aJ aV bC bD
theorem JY{p:gK}(ae:p∈e3 bs):aH p.1.1 p.1.2/\0<p.1.1/\wp p.1.1<=10/\wp p.1.2<=10/\p.1.1*g.2<=8*(g.1*p.1.2)/\g.1*p.1.2<=8*(p.1.1*g.2)/\ai p.1<=((3:Nat):Rat)*ai g/\ai g<=((3:Nat):Rat)*ai p.1:=by
 obtain⟨_,⟨b,fK,e⟩,_⟩:=yL ab am a4 ae;have k:=ab b fK;rw[e];have W:=er k.w0 k.lw.1;have G:=er aV aJ.1;have r1:=k.r1;have r2:=k.r2;have yn:((8:Nat):Rat)=8:=rfl;exact⟨k.lw,k.w0,k.c1,k.c2,Jy (M:=8) k.lw.1 aJ.1 (by rw[yn];grind),Jy (M:=8) aJ.1 k.lw.1 (by rw[yn];grind),r1,r2⟩
theorem vp{p:gK}(ae:p∈e3 bs):
  (hp g (gh p)).2.1=eD p.1 (bN p.2 (0,1)) g/\aH (hp g (gh p)).2.1.1 (hp g (gh p)).2.1.2/\0<(hp g (gh p)).2.1.1/\wp (hp g (gh p)).2.1.1<=21+11*p.2.length/\wp (hp g (gh p)).2.1.2<=21+11*p.2.length/\ai (hp g (gh p)).2.1=ai p.1*ai (bN p.2 (0,1))/ai g /\
  cP 1470 975 11 790 216 (hp g (gh p)).2.2/\dH (hp g (gh p)).2.2 0 (ai g) 0 (ai (hp g (gh p)).2.1)/\(∀φ c,dv φ c (hp g (gh p)).2.2=dv φ c (dh p.2 (0,1)))/\(hp g (gh p)).2.2.length<=9*(p.2.map λb=>b.2.2.length).sum:=by
 obtain⟨_,_,kO,vq,a7,bd,sz,bal,JZ⟩:=yL ab am a4 ae;obtain⟨lw,w0,c1,c2,r1,r2,aR,bK⟩:=JY ab am a4 aJ aV bC bD ae;have m:∀{z:Int},wp z<=10->wp z<=30:=λh=>aW h;obtain⟨hW,az,bl,vr⟩:=abY lw w0 kO vq aJ aV (m c1) (m c2) (by lia) (by lia) (m bC) (m bD) r1 r2 sz (by decide) (by decide) bal;have len:=abX lw w0 aJ aV (h:=bN p.2 (0,1)) (sh:=dh p.2 (0,1)) (M:=3) (N:=(dh p.2 (0,1)).length) (by decide) (by decide) aR bK r1 r2 (Sy _);obtain⟨bU,bo,bG,qX⟩:=u' lw w0 kO vq aJ aV c1 c2 a7 bd bC bD;have gg:=ym lw w0 kO vq aJ aV rfl;have e:(hp g (gh p)).2.1=eD p.1 (bN p.2 (0,1)) g:=hW;rw[e];have kp:fc (dh (fu p.1 (bN p.2 (0,1)) g (dh p.2 (0,1))) (0,1)):=λs al q au=>((az.1 s al).rb.pts q au).pt;refine⟨rfl,bU,gg,by lia,by lia,qX,az.md5,⟨kp,_,bl,u2 aJ bU⟩,vr,?_⟩;have:(hp g (gh p)).2.2.length<=3*((dh p.2 (0,1)).length*3):=len;rw[qK]at this;lia
omit aJ aV bC bD in
theorem acS:((e3 bs).map λp=>p.2.length).sum<=8:=by
 have h:=(qU bs).length_eq;rw[VD,SU]at h;have e:(S0∘TF:gK->Nat)=λp=>p.2.length:=rfl;rw[e]at h;lia
omit ab am a4 aJ aV bC bD in
theorem Dp{α:Type}{f h:α->Nat}:∀{l:List α},(∀x∈l,f x<=h x)->(l.map f).sum<=(l.map h).sum
 |[],_=>Sy _
 |x::l,z=>by
  rw[SG,SQ,SG,SQ];have:=z x Sx;have:=Dp (l:=l) λy aN=>z y (Sz _ aN);lia
omit ab am a4 aJ aV bC bD in
theorem Dq{α:Type}{f:α->Nat}{a c:Nat}:∀{l:List α},(l.map λx=>a+c*f x).sum=a*l.length+c*(l.map f).sum
 |[]=>rfl
 |x::l=>by
  rw[SG,SQ,Dq (l:=l),SG,SQ,SN,Uh,Uh];lia
theorem J0 :
  (∀x∈dm g bs,aH x.2.1.1 x.2.1.2/\0<x.2.1.1/\wp x.2.1.1<=109/\wp x.2.1.2<=109/\cP 1470 975 11 790 216 x.2.2/\dH x.2.2 0 (ai g) 0 (ai x.2.1)) /\
  (∀pre,(∃b rest,dm g bs=pre++b::rest)\/pre=dm g bs->aH (bN pre (0,1)).1 (bN pre (0,1)).2/\wp (bN pre (0,1)).1<=265/\wp (bN pre (0,1)).2<=265) /\
  ((dm g bs).map λb=>b.2.2.length).sum<=81:=by
 have each:∀x∈dm g bs,aH x.2.1.1 x.2.1.2/\0<x.2.1.1/\wp x.2.1.1<=109/\wp x.2.1.2<=109/\cP 1470 975 11 790 216 x.2.2/\dH x.2.2 0 (ai g) 0 (ai x.2.1):=λx ao=>by
  obtain⟨p,ae,rfl⟩:=SM.mp ao;obtain⟨_,bU,gg,bo,bG,_,az,on,_,_⟩:=vp ab am a4 aJ aV bC bD ae;have JZ:=Di ae;exact⟨bU,gg,by lia,by lia,az,on⟩
 refine⟨each,λpre lV=>?_,?_⟩
 ·have sub:∃rest,dm g bs=pre++rest:=by
   rcases lV with⟨b,rest,e⟩|e
   ·exact⟨_,e⟩
   ·exact⟨[],by rw[e,SP]⟩
  obtain⟨rest,e⟩:=sub;have mem:∀x∈pre,x∈dm g bs:=λx ao=>by rw[e];exact TN _ ao
  obtain⟨a,c⟩:=yH (λx=>max (wp x.2.1.1) (wp x.2.1.2)) (bs:=pre) (H:=(0,1)) (p:=1) (by decide) (by decide) (by decide) λb h=>⟨(each b (mem b h)).1.1,VB _ _,VC _ _⟩
  have d1:(pre.map λx:BoxD=>max (wp x.2.1.1) (wp x.2.1.2)+1).sum<=((dm g bs).map λx:BoxD=>max (wp x.2.1.1) (wp x.2.1.2)+1).sum:=by
   rw[e,SJ,Ut];lia
  have cY:((dm g bs).map λx:BoxD=>max (wp x.2.1.1) (wp x.2.1.2)+1).sum<=((e3 bs).map λp=>22+11*p.2.length).sum:=by
   unfold dm;rw[SU];refine Dp λp ae=>?_;obtain⟨_,_,_,bo,bG,_⟩:=vp ab am a4 aJ aV bC bD ae;show max (wp (hp g (gh p)).2.1.1) (wp (hp g (gh p)).2.1.2)+1<=22+11*p.2.length
   lia
  rw[Dq (f:=λp:gK=>p.2.length)]at cY;have bj:=acS ab am a4;have bt:=yG bs;exact⟨sn ⟨by decide,by decide⟩ λb h=>(each b (mem b h)).1.1,by lia,by lia⟩
 ·have:((dm g bs).map λb:BoxD=>b.2.2.length).sum<=((e3 bs).map λp=>0+9*(p.2.map λb=>b.2.2.length).sum).sum:=by
   unfold dm;rw[SU];refine Dp λp ae=>?_;obtain⟨_,_,_,_,_,_,_,_,_,d⟩:=vp ab am a4 aJ aV bC bD ae;show(hp g (gh p)).2.2.length<=_
   lia
  rw[Dq (f:=λp:gK=>(p.2.map λb=>b.2.2.length).sum),Dh]at this;lia
theorem J1(ne:bs≠[]):
  aH (bN (dm g bs) (0,1)).1 (bN (dm g bs) (0,1)).2/\0<(bN (dm g bs) (0,1)).1/\wp (bN (dm g bs) (0,1)).1<=265/\wp (bN (dm g bs) (0,1)).2<=265/\ai (bN (dm g bs) (0,1))=(bs.map λb=>ai b.1*ai b.2.1/ai g).sum /\
  cP 1738 1244 11 1058 81 (dh (dm g bs) (0,1))/\fS ((dh (dm g bs) (0,1)).map λs=>s.1) [iy g (bN (dm g bs) (0,1))]/\∀φ c,dv φ c (dh (dm g bs) (0,1))=hY φ c (bs.map λb=>b.2.2):=by
 obtain⟨each,pre,cnt⟩:=J0 ab am a4 aJ aV bC bD;obtain⟨bU,bo,bG⟩:=pre _ (.inr rfl);have en:aH 0 1:=⟨by decide,by decide⟩;have z0:ai (0,1)=0:=hm _
 have sz:=yo (q:=267) (bs:=dm g bs) (H:=(0,1)) (λDr x rest e=>by
  obtain⟨l,a,c⟩:=pre Dr (.inl ⟨x,rest,e⟩)
  exact jH (a:=(0,1)) (p:=2) (q:=265) en l (by decide) (by decide) a c) λx ao=>(each x ao).2.2.2.2.1
 have yM:dm g bs≠[]:=λz=>by
  have pv:e3 bs=[]:=Xd.mp z;have:=(qU bs).length_eq;rw[pv]at this;exact ne (Xe.mp this.symm)
 obtain⟨b0,r,d5⟩:∃b0 r,dm g bs=b0::r:=by
  match dm g bs,yM with
  |b0::r,_=>exact⟨b0,r,rfl⟩
 have on:dH (dh (dm g bs) (0,1)) 0 (ai g) (ai (0,1)) (ai (bN (dm g bs) (0,1)))/\ai (0,1)<ai (bN (dm g bs) (0,1)):=by
  rw[d5]at each⊢;exact yv en λx ao=>⟨(each x ao).2.2.2.2.2,(each x ao).1.1,er (each x ao).2.1 (each x ao).1.1⟩
 rw[z0]at on;refine⟨bU,va on.2 bU.1,bo,bG,?_,⟨(sz.mono (by decide) (by decide) (by decide) (by decide) (Sy _)).1,by rw[qK];exact cnt⟩,JW aJ bU on.1,λφ c=>?_⟩
 ·rw[yI (by decide) λb gw=>(each b gw).1.1,z0,<-JJ bs]
  have:((dm g bs).map λb:BoxD=>ai b.2.1)=(e3 bs).map λp=>(p.2.map λb=>ai b.1*ai b.2.1/ai g).sum:=by
   unfold dm;rw[SU];refine TM λp ae=>?_;obtain⟨_,_,_,_,_,qX,_⟩:=vp ab am a4 aJ aV bC bD ae;obtain⟨_,hw⟩:=yE bs p ae;show ai (hp g (gh p)).2.1=_
   rw[qX,JX (W:=ai p.1) λb gw=>by rw[hw b gw],yI (by decide) λb gw=>(ab b (yF ae b gw)).lh.1,z0];grind
  rw[this];grind
 ·obtain⟨bO,_⟩:=vh φ c (bs:=dm g bs) (H:=(0,1)) (by decide) λx ao=>⟨λs al=>⟨((each x ao).2.2.2.2.1.1 s al).st.pt,λq au=>(((each x ao).2.2.2.2.1.1 s al).rb.pts q au).pt⟩,(each x ao).1.1⟩;rw[bO];unfold hY;rw[SU,SU];have:=JJ bs λb=>dv φ c b.2.2;refine Eq.trans ?_ this;congr 1;unfold dm;rw[SU];refine TM λp ae=>?_;obtain⟨_,_,_,_,_,_,_,_,vr,_⟩:=vp ab am a4 aJ aV bC bD ae;obtain⟨bV,_⟩:=vh φ c (bs:=p.2) (H:=(0,1)) (by decide) λx ao=>⟨(ab x (yF ae x ao)).kp,(ab x (yF ae x ao)).lh.1⟩;show dv φ c (hp g (gh p)).2.2=_
  rw[vr φ c,bV];unfold hY;rw[SU];rfl
end
def tb(b:BoxD):BoxD:=(b.1,cw (b.1.1*b.2.1.1) (b.1.2*b.2.1.2),[])
def i0(bs:Zi):ba:=bN (bs.map tb) (0,1)
def acT(pre:Zi)(x:BoxD):i0 (pre++[x])=ij (i0 pre) (tb x).2.1:=by
 unfold i0;rw[SJ,yj];rfl
def Ds{g:ba}{b:BoxD}(h:ki g b):aH (tb b).2.1.1 (tb b).2.1.2/\wp (tb b).2.1.1<=20/\wp (tb b).2.1.2<=20/\ai (tb b).2.1=ai b.1*ai b.2.1:=by
 have p:=SF h.lw.1 h.lh.1;obtain⟨l,_,ah,ap⟩:=hB (t:=b.1.1*b.2.1.1) (b:=b.1.2*b.2.1.2) (SD p);refine⟨l,d6 ah (TD h.c1 h.c3),d6 ap (TD h.c2 h.c4),?_⟩;show ai (cw (b.1.1*b.2.1.1) (b.1.2*b.2.1.2))=_
 rw[py p];have x:=dN h.lw.1;have y:=dN h.lh.1;unfold ai;push_cast;grind
def Dt{g:ba}{bs:Zi}(ab:∀b∈bs,ki g b)(am:bs.length<=8):aH (i0 bs).1 (i0 bs).2/\wp (i0 bs).1<=170/\wp (i0 bs).2<=170/\ai (i0 bs)=(bs.map λb=>ai b.1*ai b.2.1).sum:=by
 have all:∀x∈bs.map tb,aH x.2.1.1 x.2.1.2/\wp x.2.1.1<=20/\wp x.2.1.2<=20:=λx ao=>by
  obtain⟨b,m,rfl⟩:=SM.mp ao;obtain⟨a,a7,bd,_⟩:=Ds (ab b m);exact⟨a,a7,bd⟩
 obtain⟨bo,bG⟩:=yH (λ_=>20) (bs:=bs.map tb) (H:=(0,1)) (p:=1) (by decide) (by decide) (by decide) λb m=>⟨(all b m).1.1,(all b m).2.1,(all b m).2.2⟩;have s:=yK (f:=λ_=>20+1) (m:=21) (l:=bs.map tb) λ_ _=>Sy _;rw[Sw]at s;refine⟨sn ⟨by decide,by decide⟩ λb m=>(all b m).1.1,SE bo (by lia),SE bG (by lia),?_⟩;unfold i0;rw[yI (by decide) λb m=>(all b m).1.1,show ai (0,1)=0 from hm _,SU];have:(Ui ((λb:BoxD=>ai b.2.1)∘tb) bs)=bs.map λb=>ai b.1*ai b.2.1:=TM λb m=>(Ds (ab b m)).2.2.2;rw[this];grind
def J2{G:Rat}:∀{l:Zi},(l.map λb=>ai b.1*ai b.2.1/G).sum=(l.map λb=>ai b.1*ai b.2.1).sum/G
 |[]=>by show(0:Rat)=0/G;rw[Ud,Vv]
 |b::l=>by rw[SG,SQ,J2 (l:=l),SG,SQ];grind
def acU{g H:ba}{bs:Zi}(aJ:aH g.1 g.2)(aV:0<g.1)(ab:∀b∈bs,ki g b)(am:bs.length<=8)(bU:aH H.1 H.2)(hW:ai H=(bs.map λb=>ai b.1*ai b.2.1/ai g).sum):cw ((i0 bs).1*g.2) ((i0 bs).2*g.1)=H:=by
 obtain⟨l,_,_,e⟩:=Dt ab am;obtain⟨bt,ap⟩:=nf (a:=i0 bs) (b:=g) l.1 aV aJ.1;refine u7 bt bU ?_;show ai (d9 (i0 bs) g)=_
 rw[ap,e,hW,J2]
def acV{g:ba}(aJ:aH g.1 g.2)(aV:0<g.1)(bC:wp g.1<=4)(bD:wp g.2<=4){d:Int}(ix:0<=d)(bo:d<21):aH (cw (g.1*(4+d)) (g.2*11)).1 (cw (g.1*(4+d)) (g.2*11)).2/\0<(cw (g.1*(4+d)) (g.2*11)).1/\wp (cw (g.1*(4+d)) (g.2*11)).1<=10/\wp (cw (g.1*(4+d)) (g.2*11)).2<=10/\ai (cw (g.1*(4+d)) (g.2*11))<=3*ai g/\ai g<=3*ai (cw (g.1*(4+d)) (g.2*11)):=by
 have p:0<g.2*11:=by have:=aJ.1;lia
 obtain⟨l,e,a7,bd⟩:=hB (t:=g.1*(4+d)) (b:=g.2*11) (SD p);have F5:wp (4+d)<=5:=intBits_le_iff.mpr (by show(4+d).natAbs<32;lia);have qX:=py (t:=g.1*(4+d)) p;have G:=er aV aJ.1
 have aS:ai (cw (g.1*(4+d)) (g.2*11))*11=ai g*((4+d:Int):Rat):=by
  rw[qX];have x:=dN aJ.1;unfold ai;push_cast;grind
 have h1:((4+d:Int):Rat)<=24:=by exact_mod_cast (show 4+d<=24 by lia)
 have h2:(4:Rat)<=((4+d:Int):Rat):=by exact_mod_cast (show(4:Int)<=4+d by lia)
 have bf:=VA h1 (Tw G);have bL:=VA h2 (Tw G);generalize ai (cw (g.1*(4+d)) (g.2*11))=z at aS;refine⟨l,?_,SE (d6 a7 (TD bC F5)) (by decide),SE (d6 bd (TD bD (show wp 11<=4 by decide))) (by decide),by grind,by grind⟩;have:0<(cw (g.1*(4+d)) (g.2*11)).1*(g.2*11):=by rw[e];exact SF (SF aV (by lia)) l.1
 exact UO this p
def acW{w h:ba}(b:j' w h)(a7:wp w.1<=270)(bd:wp w.2<=270)(eR:wp h.1<=270)(gS:wp h.2<=270):nZ (iy w h):=Sr b.cvx (λp ae=>by
 have z:wp 0<=4000:=by decide
 have m:∀{z:Int},wp z<=270->wp z<=4000:=λh=>aW h;unfold iy at ae;simp only[SK,Ug,or_false]at ae;rcases ae with rfl|rfl|rfl|rfl
 ·exact⟨⟨by decide,by decide⟩,⟨by decide,by decide,by decide⟩⟩
 ·exact⟨(Cu b.lw).1,⟨m a7,z,m bd⟩⟩
 ·exact(jH b.lw b.lh a7 bd eR gS).mono (by decide)
 ·exact⟨(Cv b.lh).1,⟨z,m eR,m gS⟩⟩) (by show 4<=75;decide)
def acX{a b:Int}(e1:0<=a)(cc:a<8)(b0:0<=b)(a7:b<4):aH (cw (1+a) (1+b)).1 (cw (1+a) (1+b)).2/\0<(cw (1+a) (1+b)).1/\wp (cw (1+a) (1+b)).1<=4/\wp (cw (1+a) (1+b)).2<=4:=by
 have p:0<1+b:=by lia
 obtain⟨l,e,aR,bK⟩:=hB (t:=1+a) (b:=1+b) (SD p);have x:wp (1+a)<=4:=intBits_le_iff.mpr (by show(1+a).natAbs<16;lia);have y:wp (1+b)<=4:=intBits_le_iff.mpr (by show(1+b).natAbs<16;lia);refine⟨l,?_,d6 aR x,d6 bK y⟩;have:0<(cw (1+a) (1+b)).1*(1+b):=by rw[e];exact SF (by lia) l.1
 exact UO this p
def vt(bs:Zi):has (.L (.T [.T [.I,.I],.T [.I,.I],rV])) (.lst (bs.map dBx))=true:=by
 rw[has,U2];intro x ao;obtain⟨b,_,rfl⟩:=SM.mp ao;exact abV b
end Cut
namespace L3
open PySem L2
def J3{h:Cut.BoxD->D}{u:a1}{fs:Zg}:∀{bs:List Cut.BoxD}{v0 v1 dC:aD}{k:Zh->Prop},(∀b∈bs,∀k:D->Prop,k (h b)->u (.val (Cut.dR b.1)::.val (Cut.dR b.2.1)::.val (Cut.dSh b.2.2)::fs) k)->k (bs.map h)->gX (kw 3 (fv (e0 0) (fv (e0 1) (fv (e0 2) kv)))) kC u (bs.map Cut.dBx) (v0::v1::dC::fs) k
 |[],_,_,_,_,_,ag=>ag
 |b::bs,v0,v1,dC,k,h1,ag=>by
  refine⟨_,rfl,rfl,_,_,rfl,_,_,rfl,_,_,rfl,rfl,?_⟩;show(if true=true then u (.val (Cut.dR b.1)::.val (Cut.dR b.2.1)::.val (Cut.dSh b.2.2)::fs) λy=>gX (kw 3 (fv (e0 0) (fv (e0 1) (fv (e0 2) kv)))) kC u (bs.map Cut.dBx) (.val (Cut.dR b.1)::.val (Cut.dR b.2.1)::.val (Cut.dSh b.2.2)::fs) λys=>k (y::ys)else gX (kw 3 (fv (e0 0) (fv (e0 1) (fv (e0 2) kv)))) kC u (bs.map Cut.dBx) (.val (Cut.dR b.1)::.val (Cut.dR b.2.1)::.val (Cut.dSh b.2.2)::fs) k)
  rw[SC rfl];exact h1 b Sx _ (J3 (λx ao=>h1 x (Sz _ ao)) ag)
def J4{a b c:Nat}{s:cB}{U:gC}(I:List Cut.BoxD->Zg->Prop):∀{bs done:List Cut.BoxD}{ρ:Zg},I done ρ->
  (∀pre x rest ρ,done++bs=pre++x::rest->I pre ρ->∀N:Zg->Prop,(∀r,I (pre++[x]) r->N r)->s {U with nx:=N,ct:=N,bk:=U.nx} (((ρ.set a (.val (Cut.dR x.1))).set b (.val (Cut.dR x.2.1))).set c (.val (Cut.dSh x.2.2))))->
  (∀ρ,I (done++bs) ρ->U.nx ρ)->ha (kw 3 (fv (e0 a) (fv (e0 b) (fv (e0 c) kv)))) s U (bs.map Cut.dBx) ρ
 |[],done,ρ,h0,_,h2=>h2 ρ (by rw[SP];exact h0)
 |x::bs,done,ρ,h0,h1,h2=>by
  refine⟨_,rfl,rfl,_,_,rfl,_,_,rfl,_,_,rfl,rfl,?_⟩;refine h1 done x bs ρ rfl h0 _ λr ak=>?_;refine J4 I ak (λpre y rest ρ e=>h1 pre y rest ρ (by rw[<-e];simp)) λρ h=>h2 ρ ?_;have e:done++[x]++bs=done++x::bs:=by simp
  rw[<-e];exact h
section
variable{X:aK}
def ei(i:Nat){x:Str}{n:Int}{j:Nat}{cW cS nT:Pos}(a4:X.N[i]?=some x:=by rfl)(aL:gz X.env.scope x:=by first|exact SA rfl|exact SI (SA rfl)|exact SI (SI rfl))(hd:(x==("__debug__":Str))=false:=by decide)(dI:(x==("__classdict__":Str))=false:=by decide):bg X (.Subscript (.Name x cW) (.Constant (.int n) j cS) nT) (AK (gD i) (oE (.int n))):=hQ (af i a4 aL hd dI) aY (λ_ _=>rfl)
def cO(i:Nat){x:Str}{e:UV}{u:a1}{pos eb:Pos}(a4:X.N.Nodup)(aB:bg X e u)(ay:X.N[i]?=some x:=by rfl)(ao:Loc X.env.scope x:=by exact SA rfl)(al:Xi e (some (.Name x eb)) pos.line X.env=pure false:=by rfl)(bu:X.fn x=true\/X.env.scope.names.lookup x=some .local:=by first|exact .inl rfl|exact .inr rfl|assumption):fo X (.Assign [.Name x eb] e pos) (Fe i u):=Ff a4 ay ao aB al bu
def dd(i:Nat){x:Str}{pos:Pos}(a4:X.N.Nodup)(ay:X.N[i]?=some x:=by rfl)(ao:Loc X.env.scope x:=by exact SA rfl)(bu:X.fn x=true\/X.env.scope.names.lookup x=some .local:=by first|exact .inl rfl|exact .inr rfl|assumption):jn X (.Name x pos) (e0 i):=fM a4 ay ao bu
def a8{n:Nat}{F:ca}{w:iq}{e:UV}{es:Zp}{p pos:Pos}{x:Str}{ps:Zm}{j lv:Nat}(c:bZ X.prog X.w X.K X.mg X.base x ps j (b7 X.K n F))(ak:e' lv X.A)(ar:lW X (e::es) w)(aC:eY X x:=by rfl)(hjk:j<=lv:=by decide)(ht:(x==("__debug__":Str))=false:=by decide)(aB:SZ (e::es) X.env=(false,Xv e X.env)::SZ es X.env:=by rfl)(fa:(Xn pos (SZ es X.env)).any (·.1)=false:=by rfl):bg X (.Call (.Name x p) (e::es) [] pos) (oI n F w):=wt c ak aC ar hjk ht aB fa
end
end L3
namespace Cut
open PySem L2 L3
open PySem.Builtin.Int (intBits)
structure J5 (mg:Str->Option Tl):Prop where
 len_:mg "len"=none
 abs_:mg "abs"=none
 int_:mg "int"=none
 bool_:mg "bool"=none
 tuple_:mg "tuple"=none
 isinstance_:mg "isinstance"=none
 range_:mg "range"=none
 all_:mg "all"=none
 sum_:mg "sum"=none
 list_:mg "list"=none
 ValueError_:mg "ValueError"=none
 zip_:mg "zip"=none
 str_:mg "str"=none
 enumerate_:mg "enumerate"=none
 set_:mg "set"=none
 max_:mg "max"=none
 min_:mg "min"=none
 sorted_:mg "sorted"=none
 dict_:mg "dict"=none
local macro_rules | `(tactic| walk_at "bu") => `(tactic| first | assumption | exact XW (by walk_at "bu") (by walk_at "bu") | exact Xr (by walk_at "bu") (by walk_at "bu") | exact TD (by walk_at "bu") (by walk_at "bu") | exact Xu (by walk_at "bu") | exact intBits_fdiv_le (by walk_at "bu") | exact oz (by omega) (by omega) | fail)
local macro_rules | `(tactic| walk_at "bits") => `(tactic| ((with_reducible show wp _ ≤ _); first | assumption | exact SE (oz (by omega) (by omega)) (by decide) | decide +kernel | exact SE (by walk_at "bu") (by first | omega | decide) | fail))
local macro_rules | `(tactic| walk_at "sd") => `(tactic| first | ((with_reducible show wp _ ≤ _); walk_at "bits") | ((with_reducible show Ax _ _); exact ⟨by walk_at "bits", by walk_at "bits"⟩) | ((with_reducible show rr _ _); exact ⟨by omega, by walk_at "bits"⟩) | ((with_reducible show (_ : Int) < _); first | omega | decide +kernel) | ((with_reducible show (_ : Int) ≤ _); first | omega | decide +kernel) | ((with_reducible show El _ _); exact ⟨by decide, by decide, by decide⟩) | ((with_reducible show S0 _ ≤ TT); first | (show 2 ≤ TT; decide) | (show 3 ≤ TT; decide) | (show 1 ≤ TT; decide) | (show 0 ≤ TT; decide) | (show 4 ≤ TT; decide)) | fail)
local macro_rules | `(tactic| walk_at "w1") => `(tactic| first | refine ⟨_, rfl, ?_⟩ | refine ⟨_, _, rfl, rfl, ?_⟩ | refine ⟨_, _, rfl, rfl, by walk_at "sd", ?_⟩ | refine ⟨_, _, _, .inl rfl, rfl, rfl, ?_⟩ | refine ⟨_, _, _, .inr rfl, rfl, rfl, ?_⟩ | refine ⟨_, _, rfl, fun _ => rfl, ?_⟩ | refine ⟨by walk_at "sd", ?_⟩ | refine ⟨rfl, ?_⟩)
local macro_rules | `(tactic| walk_at "w") => `(tactic| repeat walk_at "w1")
local macro_rules | `(tactic| walk_at "wd") => `(tactic| (walk_at "w"; try dsimp only [cb]))
local macro_rules | `(tactic| walk_at "it") => `(tactic| first | exact .inl (by assumption) | exact .inr (by assumption))
local macro_rules | `(tactic| walk_at "r0") => `(tactic| repeat (first | refine ⟨_, rfl, ?_⟩ | refine ⟨_, _, rfl, rfl, ?_⟩ | refine ⟨_, _, _, _, rfl, rfl, by walk_at "it", rfl, ?_⟩ | refine ⟨by walk_at "sd", ?_⟩))
local macro_rules | `(tactic| walk_at "rd") => `(tactic| (walk_at "r0"; try dsimp only))
local macro_rules | `(tactic| walk_at "fall") => `(tactic| first | exact Tp.mpr ⟨rfl, by walk_at "fall"⟩ | exact S' _)
local macro_rules | `(tactic| walk_at "fal2") => `(tactic| first | exact S' _ | exact Tp.mpr ⟨fun h => absurd h (by decide), by walk_at "fal2"⟩ | exact Tp.mpr ⟨fun _ => ⟨_, rfl⟩, by walk_at "fal2"⟩)
local macro_rules | `(tactic| walk_at "fsub") => `(tactic| exact ib (by walk_at "fall"))
local macro_rules | `(tactic| walk_at "fhas") => `(tactic| exact ah3 (by walk_at "fal2"))
local macro_rules | `(tactic| walk_at "ffr") => `(tactic| (intro i y e; rcases i with _ | _ | _ | _ | _ | i <;> first | (cases e; done) | (cases e; exact ⟨_, rfl, rfl, rfl, SA rfl, _, rfl⟩)))
local macro_rules | `(tactic| walk_at "sc") => `(tactic| exact ⟨rfl, rfl, rfl, by decide +kernel, rfl, by decide +kernel, by decide +kernel⟩)
local macro_rules | `(tactic| walk_at "b1") => `(tactic| exact fun _ _ F => F.binds (jy fun _ _ _ _ _ _ _ => rfl))
local macro_rules | `(tactic| walk_at "b2") => `(tactic| exact fun _ _ F => F.binds (ft fun _ _ _ _ _ _ _ _ => rfl))
local macro_rules | `(tactic| walk_at "b3") => `(tactic| exact fun _ _ F => F.binds (mY fun _ _ _ _ _ _ _ _ _ => rfl))
local macro_rules | `(tactic| walk_at "b4") => `(tactic| exact fun _ _ F => F.binds (Ga fun _ _ _ _ _ _ _ _ _ _ => rfl))
local macro_rules | `(tactic| walk_at "b5") => `(tactic| exact fun _ _ F => F.binds (PH fun _ _ _ _ _ _ _ _ _ _ _ => rfl))
def acY:cE ["_law_script","_law_k"] ["_law_script","_law_k"] (bX zp):=by walk_at "sc"
def acZ:cE ["_law_cell_here"] ["_law_cell_here"] (bX zq):=by walk_at "sc"
def J6:cE ["_law_bag_here","_law_many","_law_found"] ["_law_bag_here","_law_many"] (bX zr):=by walk_at "sc"
def sJ:cE ["_law_one","_law_other","_law_rest"] ["_law_one","_law_other"] (bX zs):=by walk_at "sc"
def ac0  : ca:=λas k=>∃(a b:Int),as=[.val (.int a),.val (.int b)]/\k (.val (.int (Hh a b:Nat)))
def Du:cE ["_law_top","_law_bottom","_law_often"] ["_law_top","_law_bottom"] (bX zt):=by walk_at "sc"
def ac1  : ca:=λas k=>∃(t b:Int),as=[.val (.int t),.val (.int b)]/\(0<b)/\(wp b<=9000)/\k (.val (dR (cw t b)))
def J7:cE ["_law_x","_law_y","_law_bottom","_law_often"] ["_law_x","_law_y","_law_bottom"] (bX zu):=by walk_at "sc"
def ac2  : ca:=λas k=>∃(x y n:Int),as=[.val (.int x),.val (.int y),.val (.int n)]/\(0<n)/\(wp n<=9000)/\k (.val (dP (cC x y n)))
def ac3:cE ["_law_found"] ["_law_found"] (bX zv):=by walk_at "sc"
def ac4  : ca:=λas k=>∃(i:Int),as=[.val (.int i)]/\k (.val (.bl true))
def sK:cE ["_law_p","_law_q","_law_a","_law_b","_law_c","_law_often"] ["_law_p","_law_q"] (bX zw):=by walk_at "sc"
def ac5  : ca:=λas k=>∃(p q:aa),as=[.val (dP p),.val (dP q)]/\((crs p q).1≠0\/(crs p q).2.1≠0)/\(cD 4000 p)/\(cD 4000 q)/\k (.val (dP (eI p q)))
def vu:cE ["_law_tally","_law_rings","_law_number","_law_ring","_law_k","_law_p","_law_q","_law_line_here"] ["_law_tally","_law_rings","_law_number"] (bX zx):=by walk_at "sc"
def ac6:uB:=λb ks ds xs k=>∃(vs:Zc)(rs:HN)(m:Int),  b=true/\xs=[(.lst (rs.map fR)),(.int m)]/\(ds=vs.map D.int)/\(vs.length=ks.length)/\(∀ps∈rs,nZ ps)/\(m=1\/m = -1)/\(ks.length+2*(rs.map S0).sum<=10000)/\∀fJ g0,g0.length=fJ.length->fJ.length<=ks.length+2*(rs.map S0).sum->(∀key,(bJ fJ g0 key).getD 0=(bJ ks vs key).getD 0+m*pq key rs)->k fJ (g0.map D.int)
def J8:cE ["_law_rings","_law_others","_law_tally"] ["_law_rings","_law_others"] (bX zy):=by walk_at "sc"
def ac7  : ca:=λas k=>∃(rs cl:HN),as=[.val (.lst (rs.map fR)),.val (.lst (cl.map fR))]/\(∀ps∈rs,nZ ps)/\(∀ps∈cl,nZ ps)/\((rs.map S0).sum+(cl.map S0).sum<=4000)/\(fS rs cl)/\k (.val (.bl true))
def Dv:cE ["_law_p","_law_q","_law_r","_law_found"] ["_law_p","_law_q","_law_r"] (bX zz):=by walk_at "sc"
def ac8  : ca:=λas k=>∃(p q r:aa),as=[.val (dP p),.val (dP q),.val (dP r)]/\(cD 2950 p)/\(cD 2950 q)/\(cD 2950 r)/\k (.val (.bl (decide (0<bi p q r))))
def ac9:cE ["_law_p"] ["_law_p"] (bX zA):=by walk_at "sc"
def ac'  : ca:=λas k=>∃(p:aa),as=[.val (dP p)]/\(aT p)/\k (.val (.bl true))
def Dw:cE ["_law_ring","_law_turns","_law_fans"] ["_law_ring"] (bX zB):=by walk_at "sc"
def ada  : ca:=λas k=>∃(ps:Zd),as=[.val (.lst (ps.map dP))]/\(ps.length<=75)/\(fw ps)/\(∀p∈ps,dE 2950 p)/\k (.val (.bl true))
def Dx:cE ["_law_p","_law_q","_law_part_here","_law_many","_law_x","_law_y"] ["_law_p","_law_q","_law_part_here","_law_many"] (bX zC):=by walk_at "sc"
def adb  : ca:=λas k=>∃(p q:aa)(t:Int),as=[.val (dP p),.val (dP q),.val (.int t),.val (.int 3)]/\(dE 2000 p)/\(dE 2000 q)/\(1<=t)/\(t<=2)/\k (.val (dP (jE p q t)))
def qY:cE ["_law_bag_here","_law_ring","_law_i","_law_j","_law_p","_law_q"] ["_law_bag_here","_law_ring"] (bX zD):=by walk_at "sc"
def adc  : ca:=λas k=>∃(ps:Zd)(m:Nat),as=[.bag,.val (fR ps)]/\(fw ps)/\(∀x∈ps,dE m x)/\(m<=700)/\(ps.length<=50)/\∀cl rs,CH (2*m+3) (ps.length+1) ps cl rs->k (.val (.tup [fR cl,fR rs]))
def qZ:cE ["_law_bag_here","_law_ring","_law_cuts","_law_parts","_law_k","_law_made","_law_part_here","_law_flag","_law_x"] ["_law_bag_here","_law_ring","_law_cuts"] (bX zE):=by walk_at "sc"
def add  : ca:=λas k=>∃(ps:Zd)(hI:Nat),as=[.bag,.val (fR ps),.val (.int hI)]/\(fw ps)/\(∀x∈ps,dE 22 x)/\(ps.length<=4)/\(hI<=2)/\∀sh:Ze,(∀t∈sh,yB (jJ 22 2) 6 t)->sh.length<=hI+1->fS (sh.map λt=>t.1) [ps]->k (.val (.lst (sh.map dS)))
def n9:cE ["_law_piece","_law_ring","_law_flag","_law_step","_law_sign","_law_made","_law_p","_law_x","_law_y"] ["_law_piece"] (bX zF):=by walk_at "sc"
def J9  : ca:=λas k=>∃(s:Piece),as=[.val (dS s)]/\(s.1.length<=75)/\(∀p∈s.1,dE 2600 p)/\(dE 1200 s.2.2)/\k (.val (.lst ((fP s).map dP)))
def Dy:cE ["_law_olds","_law_news","_law_flag","_law_near_here"] ["_law_olds","_law_news"] (bX zG):=by walk_at "sc"
def ade  : ca:=λas k=>∃(os ns:Ze),as=[.val (.lst (os.map dS)),.val (.lst (ns.map dS))]/\(os.length<=40)/\(ns.length<=110)/\(∀s∈os,jK s)/\(∀s∈ns,jK s)/\(∀b:Bool,fS ((ns.filter λs=>s.2.1==b).map fP) ((os.filter λs=>s.2.1==b).map fP))/\k (.val (.bl true))
def J':cE ["_law_sheet_here","_law_ring","_law_piece"] ["_law_sheet_here","_law_ring"] (bX zH):=by walk_at "sc"
def adf  : ca:=λas k=>∃(sh:Ze)(cl:Zd),as=[.val (.lst (sh.map dS)),.val (.lst (cl.map dP))]/\(sh.length<=150)/\(∀s∈sh,jK s)/\(nZ cl)/\(fS (sh.map λs=>s.1) [cl])/\k (.val (.bl true))
def adg:cE ["_law_sheet_here"] ["_law_sheet_here"] (bX zI):=by walk_at "sc"
def adh  : ca:=λas k=>∃(sh:Ze),as=[.val (.lst (sh.map dS))]/\(sh.length<=100)/\k (.own (sh.map dS))
def adi:cE ["_law_one","_law_other"] ["_law_one","_law_other"] (bX zJ):=by walk_at "sc"
def adj  : ca:=λas k=>∃(r s:ba),as=[.val (dR r),.val (dR s)]/\(0<r.2)/\(0<s.2)/\(wp r.1<=1000)/\(wp r.2<=1000)/\(wp s.1<=1000)/\(wp s.2<=1000)/\k (.val (dR (cw (r.1*s.1) (r.2*s.2))))
def adk:cE ["_law_x","_law_y"] ["_law_x","_law_y"] (bX zK):=by walk_at "sc"
def adl  : ca:=λas k=>∃(r s:ba),as=[.val (dR r),.val (dR s)]/\(0<r.2)/\(0<s.2)/\(wp r.1<=1000)/\(wp r.2<=1000)/\(wp s.1<=1000)/\(wp s.2<=1000)/\k (.val (dP (cC (r.1*s.2) (s.1*r.2) (r.2*s.2))))
def adm:cE ["_law_wide","_law_high"] ["_law_wide","_law_high"] (bX zL):=by walk_at "sc"
def adn  : ca:=λas k=>∃(w h:ba),as=[.val (dR w),.val (dR h)]/\(aH w.1 w.2)/\(aH h.1 h.2)/\(wp w.1<=400)/\(wp w.2<=400)/\(wp h.1<=400)/\(wp h.2<=400)/\k (.val (.lst ((iy w h).map dP)))
def ado:cE ["_law_found"] ["_law_found"] (bX zN):=by walk_at "sc"
def adp  : ca:=λas k=>∃(r:ba),as=[.val (dR r)]/\(aH r.1 r.2)/\(0<r.1)/\k (.val (.bl true))
def adq:cE ["_law_found"] ["_law_found"] (bX zM):=by walk_at "sc"
def ads  : ca:=λas k=>∃(w h:ba)(sh:Ze),as=[.val (.tup [dR w,dR h,.lst (sh.map dS)])]/\(aH w.1 w.2)/\(aH h.1 h.2)/\(wp w.1<=270)/\(wp w.2<=270)/\(wp h.1<=270)/\(wp h.2<=270)/\(0<w.1)/\(0<h.1)/\(sh.length<=150)/\(∀s∈sh,jK s)/\(fS (sh.map λs=>s.1) [iy w h])/\k (.val (.bl true))
def adt:cE ["_law_bag_here"] ["_law_bag_here"] (bX zO):=by walk_at "sc"
def adu  : ca:=λas k =>  as=[.bag]/\∀r:ba,aH r.1 r.2->0<r.1->wp r.1<=10->wp r.2<=10->k (.val (dR r))
def adv:cE ["_law_bag_here","_law_wide"] ["_law_bag_here","_law_wide"] (bX zP):=by walk_at "sc"
def adw  : ca:=λas k=>∃(g:ba),as=[.bag,.val (dR g)]/\(aH g.1 g.2)/\(0<g.1)/\(wp g.1<=4)/\(wp g.2<=4)/\∀w:ba,aH w.1 w.2->0<w.1->wp w.1<=10->wp w.2<=10->ai w<=3*ai g->ai g<=3*ai w->k (.val (dR w))
def pJ:cE ["_law_boxes","_law_wide","_law_found","_law_one","_law_high","_law_sheet_here","_law_top","_law_bottom"] ["_law_boxes","_law_wide"] (bX zQ):=by walk_at "sc"
def adx  : ca:=λas k=>∃(g H:ba)(bs:Zi),as=[.val (.lst (bs.map dBx)),.val (dR g)]/\(aH g.1 g.2)/\(0<g.1)/\(wp g.1<=10)/\(wp g.2<=10)/\(∀b∈bs,ki g b)/\(bs.length<=8)/\(aH H.1 H.2)/\(ai H=(bs.map λb=>ai b.1*ai b.2.1/ai g).sum)/\k (.val (dR H))
def Dz:cE ["_law_some","_law_made","_law_one"] ["_law_some"] (bX zR):=by walk_at "sc"
def ady  : ca:=λas k=>∃(bs:Zi),as=[.val (.lst (bs.map dBx))]/\((bs.map λb=>b.2.2.length).sum<=400)/\k (.val (.lst ((bs.map λb=>b.2.2).flatten.map dS)))
def adz:cE ["_law_found","_law_boxes","_law_wide"] ["_law_found","_law_boxes","_law_wide"] (bX zS):=by walk_at "sc"
def adA  : ca:=λas k=>∃(kE:D)(g H:ba)(bs:Zi)(S:Ze),as=[.val kE,.val (.lst (bs.map dBx)),.val (dR g)]/\(aH g.1 g.2)/\(0<g.1)/\(wp g.1<=10)/\(wp g.2<=10)/\(∀b∈bs,ki g b)/\(bs.length<=8)/\((bs.map λb=>b.2.2.length).sum<=9)/\((bs=[]/\kE=.tup [dR g,.ktup [.int 0,.int 1],.lst []])\/(bs≠[]/\kE=.tup [dR g,dR H,dSh S]))/\(bs≠[]->H=bN (dm g bs) (0,1)/\S=dh (dm g bs) (0,1))/\k (.val (.bl true))
def yN:cE ["one","other"] ["one","other"] (bX yW):=by walk_at "sc"
def adB  : ca:=λas k=>∃(a b:Int),as=[.val (.int a),.val (.int b)]/\k (.val (.int (Hh a b:Nat)))
def q0:cE ["one","other","a","b","n","c","d","m"] ["one","other"] (bX y8):=by walk_at "sc"
def adC  : ca:=λas k=>∃(p q:aa),as=[.val (dP p),.val (dP q)]/\(cD 4000 p)/\(cD 4000 q)/\k (.val (dP (crs p q)))
def Ka:cE ["line","p","turn"] ["line","p"] (bX y9):=by walk_at "sc"
def adD  : ca:=λas k=>∃(c r:aa),as=[.val (dP c),.val (dP r)]/\(cD 2000 c)/\(cD 2000 r)/\k (.val (.int (sg (c.1*r.1+c.2.1*r.2.1+c.2.2*r.2.2))))
def DA:cE ["a","b","n","divisor"] ["a","b","n"] (bX y5):=by walk_at "sc"
def adE  : ca:=λas k=>∃(a b n:Int),as=[.val (.int a),.val (.int b),.val (.int n)]/\(n≠0)/\(wp n<=9000)/\k (.val (dP (cC a b n)))
def yO:cE ["p","q","r","s","a","b","n"] ["p","q","r","s"] (bX y'):=by walk_at "sc"
def adF  : ca:=λas k=>∃(p q r s:aa),as=[.val (dP p),.val (dP q),.val (dP r),.val (dP s)]/\(cD 700 p)/\(cD 700 q)/\(cD 1990 r)/\(cD 1990 s)/\((crs (crs p q) (crs r s)).2.2≠0)/\k (.val (dP (nP (crs (crs p q) (crs r s)))))
def oa:cE ["ring","p","q","line","corner","hands","left","right","place","after","between"] ["ring","p","q"] (bX za):=by walk_at "sc"
def adG  : ca:=λas k=>∃(ps:Zd)(p q:aa),as=[.val (.lst (ps.map dP)),.val (dP p),.val (dP q)]/\(cD 300 p)/\(cD 300 q)/\(∀c∈ps,cD 1990 c/\aT c)/\(ps.length<=1000)/\k (.new (.tup [.lst ((c9 (ln (crs p q)) (a0 (crs p q)) ps).map dP),.lst ((c9 (λc => -ln (crs p q) c) (a0 (crs p q)) ps).map dP)]))
def pK:cE ["sheet","p","q","left","right","ring","is_turned","step","left_ring","right_ring"] ["sheet","p","q"] (bX zb):=by walk_at "sc"
def adH  : ca:=λas k=>∃(sh:Ze)(p q:aa),as=[.val (.lst (sh.map dS)),.val (dP p),.val (dP q)]/\(cD 300 p)/\(cD 300 q)/\(∀s∈sh,∀c∈s.1,cD 1990 c/\aT c)/\(∀s∈sh,s.1.length<=1000)/\(sh.length<=1000)/\k (.new (.tup [.lst ((ck (ln (crs p q)) (a0 (crs p q)) sh).map dS),.lst ((ck (λc => -ln (crs p q) c) (a0 (crs p q)) sh).map dS)]))
def Kb:cE ["x","y","shared"] ["x","y"] (bX y6):=by walk_at "sc"
def adI  : ca:=λas k=>∃(eu sF:D)(x y u v:Int),as=[.val eu,.val sF]/\(tU eu=some [.int x,.int y])/\(tU sF=some [.int u,.int v])/\(aH x y)/\(aH u v)/\(wp x<=4000)/\(wp y<=4000)/\(wp u<=4000)/\(wp v<=4000)/\k (.val (dP (cC (x*v) (u*y) (y*v))))
def adJ:cE ["sheet","place"] ["sheet","place"] (bX zc):=by walk_at "sc"
def adK  : ca:=λas k=>∃(sh:Ze)(x:ba),as=[.val (.lst (sh.map dS)),.val (dR x)]/\(aH x.1 x.2)/\(wp x.1<=120)/\(wp x.2<=120)/\(∀s∈sh,∀c∈s.1,cD 1990 c/\aT c)/\(∀s∈sh,s.1.length<=1000)/\(sh.length<=1000)/\k (.new (.tup [.lst ((ck (ln (ef x)) (a0 (ef x)) sh).map dS),.lst ((ck (λc => -ln (ef x) c) (a0 (ef x)) sh).map dS)]))
def DB:cE ["sheet","height","above","below"] ["sheet","height"] (bX zd):=by walk_at "sc"
def adL  : ca:=λas k=>∃(sh:Ze)(x:ba),as=[.val (.lst (sh.map dS)),.val (dR x)]/\(aH x.1 x.2)/\(wp x.1<=120)/\(wp x.2<=120)/\(∀s∈sh,∀c∈s.1,cD 1990 c/\aT c)/\(∀s∈sh,s.1.length<=1000)/\(sh.length<=1000)/\k (.new (.tup [.lst ((ck (λc => -ln (eg x) c) (a0 (eg x)) sh).map dS),.lst ((ck (ln (eg x)) (a0 (eg x)) sh).map dS)]))
def mz:cE ["p","step","a","b","n","right","up","parts","shared","x","y","divisor"] ["p","step"] (bX y7):=by walk_at "sc"
def adM  : ca:=λas k=>∃(p g:aa),as=[.val (dP p),.val (dP g)]/\(aT p)/\(cD 3000 p)/\(aT g)/\(cD 1000 g)/\k (.val (dP (nP (sld g p))))
def adN:cE ["sheet","step"] ["sheet","step"] (bX ze):=by walk_at "sc"
def adO  : ca:=λas k=>∃(sh:Ze)(g:aa),as=[.val (.lst (sh.map dS)),.val (dP g)]/\(sh.length<=400)/\(∀s∈sh,sm s)/\(dE 450 g)/\k (.new (.lst ((sh.map (eU g)).map dS)))
def adP:cE ["one","other"] ["one","other"] (bX y1):=by walk_at "sc"
def adQ  : ca:=λas k=>∃(x y u v:Int),as=[.val (dR (x,y)),.val (dR (u,v))]/\(wp x<=4000)/\(wp y<=4000)/\(wp u<=4000)/\(wp v<=4000)/\k (.val (.bl (decide (x*v<u*y))))
def adR:cE ["one"] ["one"] (bX y3):=by walk_at "sc"
def adS  : ca:=λas k=>∃(x y:Int),as=[.val (dR (x,y))]/\(0<y)/\(wp y<=4000)/\k (.val (.int (-((-x).fdiv y))))
def adT:cE ["one"] ["one"] (bX y4):=by walk_at "sc"
def adU  : ca:=λas k=>∃(x y:Int),as=[.val (dR (x,y))]/\(0<y)/\(wp y<=4000)/\k (.val (.int (x.fdiv y)))
def adV:cE ["one"] ["one"] (bX y2):=by walk_at "sc"
def adW  : ca:=λas k=>∃(x y:Int),as=[.val (dR (x,y))]/\k (.val (dR (-x,y)))
def pL:cE ["one","other","shared","top","divisor"] ["one","other"] (bX yX):=by walk_at "sc"
def adX  : ca:=λas k=>∃(x y u v:Int),as=[.val (dR (x,y)),.val (dR (u,v))]/\(aH x y)/\(aH u v)/\(wp x<=4000)/\(wp y<=4000)/\(wp u<=4000)/\(wp v<=4000)/\k (.val (dR (cw (x*v+u*y) (y*v))))
def adY:cE ["one","other"] ["one","other"] (bX yY):=by walk_at "sc"
def adZ  : ca:=λas k=>∃(x y u v:Int),as=[.val (dR (x,y)),.val (dR (u,v))]/\(aH x y)/\(aH u v)/\(wp x<=4000)/\(wp y<=4000)/\(wp u<=4000)/\(wp v<=4000)/\k (.val (dR (cw (x*v-u*y) (y*v))))
def DC:cE ["one","other","first","second"] ["one","other"] (bX yZ):=by walk_at "sc"
def ad0  : ca:=λas k=>∃(x y u v:Int),as=[.val (dR (x,y)),.val (dR (u,v))]/\(aH x y)/\(aH u v)/\(wp x<=4000)/\(wp y<=4000)/\(wp u<=4000)/\(wp v<=4000)/\k (.val (dR (cw (x*u) (y*v))))
def ad1:cE ["one","other"] ["one","other"] (bX y0):=by walk_at "sc"
def ad2  : ca:=λas k=>∃(x y u v:Int),as=[.val (dR (x,y)),.val (dR (u,v))]/\(aH x y)/\(aH u v)/\(wp x<=4000)/\(wp y<=4000)/\(wp u<=4000)/\(wp v<=4000)/\(u≠0)/\k (.val (dR (cw (x*v) (y*u))))
def vv:cE ["sheet","cut","size","first","last","middle","one","other"] ["sheet","cut","size","first","last"] (bX zf):=by walk_at "sc"
def sL(N:Nat)(a_cut_upright a_cut_level:TI):ca:=λas k=>∃(sh:Ze)(c:Bool)(w:ba)(x y bR n t:Nat),as=[.val (dSh sh),.val (.kfn (if c=true then a_cut_level else a_cut_upright)),.val (dR w),.val (.int x),.val (.int y)]/\(aH w.1 w.2)/\(wp w.1<=110)/\(wp w.2<=110)/\(x<y)/\(y<=8)/\(y-x<=2^N)/\(cP 1990 bR n t 400 sh)/\(233<=bR/\bR<=1700)/\(n<=1000-N)/\k (.val (.lst ((ho c w N sh x y).map dSh)))
def ad3:cE ["sheet","wide","many"] ["sheet","wide","many"] (bX zg):=by walk_at "sc"
def ad4  : ca:=λas k=>∃(sh:Ze)(w:ba)(q:Int)(m bR n t:Nat),as=[.val (dSh sh),.val (dR w),.val (.int q)]/\(q+1=m)/\(aH w.1 w.2)/\(wp w.1<=110)/\(wp w.2<=110)/\(1<=m)/\(m<=8)/\(cP 1990 bR n t 400 sh)/\(233<=bR/\bR<=1700)/\(n<=70)/\(t<=2770)/\k (.own ((et false w sh m).map dSh))
def ad5:cE ["sheet","high","many"] ["sheet","high","many"] (bX zh):=by walk_at "sc"
def ad6  : ca:=λas k=>∃(sh:Ze)(w:ba)(q:Int)(m bR n t:Nat),as=[.val (dSh sh),.val (dR w),.val (.int q)]/\(q+1=m)/\(aH w.1 w.2)/\(wp w.1<=110)/\(wp w.2<=110)/\(1<=m)/\(m<=8)/\(cP 1990 bR n t 400 sh)/\(233<=bR/\bR<=1700)/\(n<=70)/\(t<=2770)/\k (.own ((et true w sh m).map dSh))
def ad7  : ca:=λas k=>∃(eu:D)(x y u v:Int),as=[.val eu,.val (dR (u,v))]/\(tU eu=some [.int x,.int y])/\(aH x y)/\(aH u v)/\(wp x<=4000)/\(wp y<=4000)/\(wp u<=4000)/\(wp v<=4000)/\k (.val (dR (cw (x*v+u*y) (y*v))))
def q1:cE ["boxes","height","pile","wide","high","sheet"] ["boxes"] (bX zi):=by walk_at "sc"
def ad8  : ca:=λas k=>∃(b0:BoxD)(bs:Zi),as=[.val (.lst ((b0::bs).map dBx))]/\(∀b∈b0::bs,aH b.2.1.1 b.2.1.2/\wp b.2.1.1<=350/\wp b.2.1.2<=350/\∀s∈b.2.2,sm s)/\(∀pre b rest,b0::bs=pre++b::rest->wp (bN pre (0,1)).1<=350/\wp (bN pre (0,1)).2<=350)/\(((b0::bs).map λb=>b.2.2.length).sum<=400)/\k (.new (.tup [dR b0.1,dR (bN (b0::bs) (0,1)),dSh (dh (b0::bs) (0,1))]))
def q2:cE ["box","wide","broad","high","sheet","many","sheets","last"] ["box","wide"] (bX zj):=by walk_at "sc"
def ad9  : ca:=λas k=>∃(w h g:ba)(sh:Ze)(N bR n t:Nat),as=[.val (dBx (w,h,sh)),.val (dR g)]/\(aH w.1 w.2)/\(aH h.1 h.2)/\(aH g.1 g.2)/\(0<w.1)/\(0<h.1)/\(0<g.1)/\(wp w.1<=30)/\(wp w.2<=30)/\(wp h.1<=100)/\(wp h.2<=100)/\(wp g.1<=30)/\(wp g.2<=30)/\((d9 w g).1.fdiv (d9 w g).2=N)/\(1<=N)/\(N<=8)/\(cP 1990 bR n t 130 sh)/\(233<=bR/\bR<=1500)/\(n<=40)/\(t<=2000)/\∀Ss Z,et false g sh N=Ss++[Z]->k (.val (.lst ((Ss.map (λS=>((g,h,S):BoxD))++[(ik w g N,h,Z)]).map dBx)))
def ob:cE ["box","wide","narrow","high","sheet","many","low","row","place","layer"] ["box","wide"] (bX zk):=by walk_at "sc"
def ad'  : ca:=λas k=>∃(w h g:ba)(sh:Ze)(N bR n t:Nat),as=[.val (dBx (w,h,sh)),.val (dR g)]/\(aH w.1 w.2)/\(aH h.1 h.2)/\(aH g.1 g.2)/\(0<w.1)/\(0<h.1)/\(0<g.1)/\(wp w.1<=30)/\(wp w.2<=30)/\(wp h.1<=100)/\(wp h.2<=100)/\(wp g.1<=30)/\(wp g.2<=30)/\(-((-(d9 g w).1).fdiv (d9 g w).2)=N)/\(1<=N)/\(N<=8)/\(cP 1990 bR n t 130 sh)/\(233<=bR/\bR<=1500)/\(n<=40)/\(t<=2000)/\k (.val (dBx (dc w N,f3 h N,fU w 0 (et true (f3 h N) sh N))))
def mA:cE ["box","wide","broad","low","sheet","high","below","above","kept","beyond","onto","back"] ["box","wide"] (bX zl):=by walk_at "sc"
def aea  : ca:=λas k=>∃(w h g:ba)(sh:Ze)(bR n t:Nat),as=[.val (dBx (w,h,sh)),.val (dR g)]/\(aH w.1 w.2)/\(aH h.1 h.2)/\(aH g.1 g.2)/\(0<w.1)/\(0<h.1)/\(0<g.1)/\(wp w.1<=70)/\(wp w.2<=70)/\(wp h.1<=110)/\(wp h.2<=110)/\(wp g.1<=30)/\(wp g.2<=30)/\(cP 1990 bR n t 130 sh)/\(350<=bR/\bR<=1600)/\(n<=60)/\(t<=2000)/\k (.val (dBx (if w=g then(w,h,sh)else(g,eD w h g,mu w h g sh))))
def DD:cE ["box","wide","boxes"] ["box","wide"] (bX zm):=by walk_at "sc"
def aeb  : ca:=λas k=>∃(w h g:ba)(sh:Ze)(B bR n t:Nat),as=[.val (dBx (w,h,sh)),.val (dR g)]/\(aH w.1 w.2)/\(aH h.1 h.2)/\(aH g.1 g.2)/\(0<w.1)/\(0<h.1)/\(0<g.1)/\(wp w.1<=30)/\(wp w.2<=30)/\(wp h.1<=100)/\(wp h.2<=100)/\(wp g.1<=30)/\(wp g.2<=30)/\(w.1*g.2<=8*(g.1*w.2))/\(g.1*w.2<=8*(w.1*g.2))/\(cP B bR n t 16 sh)/\(310+bR<=B/\B<=1500)/\(270<=bR)/\(n<=30)/\(t<=1400)/\k (.new (.tup [dR g,dR (bN (fu w h g sh) (0,1)),dSh (dh (fu w h g sh) (0,1))]))
def DE:cE ["boxes","alike","box"] ["boxes"] (bX zn):=by walk_at "sc"
def aec  : ca:=λas k=>∃(bs:Zi),as=[.val (.lst (bs.map dBx))]/\(bs.length<=100)/\(∀p∈e3 bs,(∀b∈p.2,aH b.2.1.1 b.2.1.2/\wp b.2.1.1<=350/\wp b.2.1.2<=350/\∀s∈b.2.2,sm s)/\(∀pre b rest,p.2=pre++b::rest->wp (bN pre (0,1)).1<=350/\wp (bN pre (0,1)).2<=350)/\(p.2.map λb=>b.2.2.length).sum<=400)/\k (.val (.lst ((e3 bs).map λp=>dBx (gh p))))
def aed:cE ["boxes","wide"] ["boxes","wide"] (bX zo):=by walk_at "sc"
def aee  : ca:=λas k=>∃(g:ba)(bs:Zi),as=[.val (.lst (bs.map dBx)),.val (dR g)]/\(aH g.1 g.2)/\(0<g.1)/\(wp g.1<=10)/\(wp g.2<=10)/\(∀b∈bs,ki g b)/\(bs.length<=8)/\((bs.map λb=>b.2.2.length).sum<=9)/\(bs=[]->k (.new (.tup [dR g,.ktup [.int 0,.int 1],.lst []])))/\(bs≠[]->k (.new (.tup [dR g,dR (bN (dm g bs) (0,1)),dSh (dh (dm g bs) (0,1))])))
def ji:cE ["_law_script","_law_bag_here","_law_wide","_law_most","_law_cuts","_law_boxes","_law_k","_law_one","_law_high","_law_lent","_law_turn","_law_found","_law_piece"] ["_law_script"] (bX zT):=by walk_at "sc"
structure aef (K:Sv) (mg:Str->Option Tl):Prop where
 f_greatest_divisor:cN K mg "greatest_divisor" yW ["one","other"]
 f_plus:cN K mg "plus" yX ["one","other"]
 f_minus:cN K mg "minus" yY ["one","other"]
 f_times:cN K mg "times" yZ ["one","other"]
 f_over:cN K mg "over" y0 ["one","other"]
 f_under:cN K mg "under" y1 ["one","other"]
 f_against:cN K mg "against" y2 ["one"]
 f_least_whole:cN K mg "least_whole" y3 ["one"]
 f_most_whole:cN K mg "most_whole" y4 ["one"]
 f_point:cN K mg "point" y5 ["a","b","n"]
 f_at:cN K mg "at" y6 ["x","y"]
 f_slid:cN K mg "slid" y7 ["p","step"]
 f_crossed:cN K mg "crossed" y8 ["one","other"]
 f_hand_of:cN K mg "hand_of" y9 ["line","p"]
 f_meet:cN K mg "meet" y' ["p","q","r","s"]
 f_cut_ring:cN K mg "cut_ring" za ["ring","p","q"]
 f_cut_sheet:cN K mg "cut_sheet" zb ["sheet","p","q"]
 f_cut_upright:cN K mg "cut_upright" zc ["sheet","place"]
 f_cut_level:cN K mg "cut_level" zd ["sheet","height"]
 f_moved:cN K mg "moved" ze ["sheet","step"]
 f_slices:cN K mg "slices" zf ["sheet","cut","size","first","last"]
 f_columns_of:cN K mg "columns_of" zg ["sheet","wide","many"]
 f_layers_of:cN K mg "layers_of" zh ["sheet","high","many"]
 f_piled:cN K mg "piled" zi ["boxes"]
 f_in_columns:cN K mg "in_columns" zj ["box","wide"]
 f_in_layers:cN K mg "in_layers" zk ["box","wide"]
 f_in_three:cN K mg "in_three" zl ["box","wide"]
 f_widened:cN K mg "widened" zm ["box","wide"]
 f_piled_by_width:cN K mg "piled_by_width" zn ["boxes"]
 f_column:cN K mg "column" zo ["boxes","wide"]
 f_law_cell:cN K mg "_law_cell" zp ["_law_script","_law_k"]
 f_law_bag:cN K mg "_law_bag" zq ["_law_cell_here"]
 f_law_draw:cN K mg "_law_draw" zr ["_law_bag_here","_law_many"]
 f_law_measure:cN K mg "_law_measure" zs ["_law_one","_law_other"]
 f_law_low:cN K mg "_law_low" zt ["_law_top","_law_bottom"]
 f_law_spot:cN K mg "_law_spot" zu ["_law_x","_law_y","_law_bottom"]
 f_law_whole:cN K mg "_law_whole" zv ["_law_found"]
 f_law_line:cN K mg "_law_line" zw ["_law_p","_law_q"]
 f_law_count:cN K mg "_law_count" zx ["_law_tally","_law_rings","_law_number"]
 f_law_part:cN K mg "_law_part" zy ["_law_rings","_law_others"]
 f_law_left:cN K mg "_law_left" zz ["_law_p","_law_q","_law_r"]
 f_law_is_spot:cN K mg "_law_is_spot" zA ["_law_p"]
 f_law_is_bulging:cN K mg "_law_is_bulging" zB ["_law_ring"]
 f_law_between:cN K mg "_law_between" zC ["_law_p","_law_q","_law_part_here","_law_many"]
 f_law_cut:cN K mg "_law_cut" zD ["_law_bag_here","_law_ring"]
 f_law_sheet:cN K mg "_law_sheet" zE ["_law_bag_here","_law_ring","_law_cuts"]
 f_law_first:cN K mg "_law_first" zF ["_law_piece"]
 f_law_kept:cN K mg "_law_kept" zG ["_law_olds","_law_news"]
 f_law_lies:cN K mg "_law_lies" zH ["_law_sheet_here","_law_ring"]
 f_law_copied:cN K mg "_law_copied" zI ["_law_sheet_here"]
 f_law_product:cN K mg "_law_product" zJ ["_law_one","_law_other"]
 f_law_pin:cN K mg "_law_pin" zK ["_law_x","_law_y"]
 f_law_box:cN K mg "_law_box" zL ["_law_wide","_law_high"]
 f_law_is_box:cN K mg "_law_is_box" zM ["_law_found"]
 f_law_is_low:cN K mg "_law_is_low" zN ["_law_found"]
 f_law_size:cN K mg "_law_size" zO ["_law_bag_here"]
 f_law_near:cN K mg "_law_near" zP ["_law_bag_here","_law_wide"]
 f_law_tall:cN K mg "_law_tall" zQ ["_law_boxes","_law_wide"]
 f_law_pieces:cN K mg "_law_pieces" zR ["_law_some"]
 f_law_right:cN K mg "_law_right" zS ["_law_found","_law_boxes","_law_wide"]
 G_NOTHING:tV K mg "NOTHING" [0,1]
section aeg
variable(B:J5 mg)(Y:aef K mg)
include B Y
theorem Kc :
  bZ P w K mg base "_law_cell" ["_law_script","_law_k"] 1 (b7 K 2 FA):=by
 refine bZ.imp (sp:=Fz K) ?_ (λvs H Q E h=>Oj h);refine Y.f_law_cell.ok (k:=0) acY (λvs H Q E h=>?_) (λf cdv A outer s H vs Q E ak h=>?_)
 ·obtain⟨a,k,ns,rfl,cu,h0,q⟩:=h;rfl
 obtain⟨a,k,ns,rfl,cu,h0,q⟩:=h;refine⟨_,(kS (sW (p1 mJ (g6 1) (p3 Ao (by rfl) B.len_ (by decide +kernel) (eh (g6 0) fC)) (dJ _)) (oo (nr (km Am (g6 0) (g6 1) (λ_ _=>rfl)))) sV) (oo (nr eM))),?_⟩;refine⟨_,rfl,_,rfl,a,_,rfl,.inl cu,_,_,rfl,rfl,_,rfl,?_⟩;refine gP (λc=>?_) (λc=>?_)
 ·rw[Sw]at c;have ag:k.toNat<ns.length:=by lia
  have li:k=((k.toNat:Nat):Int):=by lia
  have z:dW (ns.map V.int) ((k.toNat:Nat):Int)=some (.int ns[k.toNat]):=BK (by rw[SX,S5 ag]<;>rfl);rw[<-li]at z;exact⟨_,rfl,_,rfl,a,_,_,_,rfl,rfl,cu,z,q _⟩
 ·exact q _
theorem Kd :
  bZ P w K mg base "_law_bag" ["_law_cell_here"] 1 (b7 K 1 FC):=by
 refine bZ.imp (sp:=FB) ?_ (λvs H Q E h=>Ol h);refine Y.f_law_bag.ok (k:=0) acZ (λvs H Q E h=>?_) (λf cdv A outer s H vs Q E ak h=>?_)
 ·obtain⟨c,rfl,q⟩:=h;rfl
 obtain⟨c,rfl,q⟩:=h;refine⟨_,(kS (sW (p1 vT (g6 0) (f4 Ae eM eM) (dJ _)) (oo (nr (s8 (eh (f4 nz (g6 0) (f4 th (f4 Ae eM eM) (f4 Ae eM eM))) (eh (f4 nz (g6 0) eM) fC))))) sV) (oo (nr (s8 (eh eM (eh (f4 nz (f4 vS (f4 th (f4 nz (g6 0) eM) eM) eM) eM) fC)))))),?_⟩;walk_at "rd";refine gP (λg=>?_) (λg=>?_)
 ·walk_at "rd";refine(λp ae=>q p _ _ ae (T5 _ (by decide +kernel)) (T5 _ (by decide)) (Ue _ (by decide)))
 ·have dO:=T5 c (show(2147483647:Int)≠0 by decide);have bf:=Ue c (show(0:Int)<2147483647 by decide);walk_at "rd";refine(λp ae=>q p _ _ ae (by decide) (T5 _ (by decide)) (Ue _ (by decide)))
theorem hZ :
  bZ P w K mg base "_law_draw" ["_law_bag_here","_law_many"] 1 (b7 K 2 (FE 400)):=by
 refine bZ.imp (sp:=FD 400) ?_ (λvs H Q E h=>Om h);refine Y.f_law_draw.ok (k:=0) J6 (λvs H Q E h=>?_) (λf cdv A outer s H vs Q E ak h=>?_)
 ·obtain⟨b,m,rfl,⟨x,y,ab,ce,b8,bI⟩,dO,bf,q⟩:=h;rfl
 obtain⟨b,m,rfl,⟨x,y,ab,ce,b8,bI⟩,dO,bf,q⟩:=h;refine⟨_,(kS (sW (p1 vT (km mL (g6 0) eM (λ_ _=>rfl)) (g6 1) (dJ _)) (kS (oq (i:=2) J6.nd rfl (SA rfl) (f4 nz (km mL (g6 0) eM (λ_ _=>rfl)) (g6 1))) (kS (vO (f4 v' (km mL (g6 0) eM (λ_ _=>rfl)) (g6 1)) (z3 (g6 0) eM An)) (oo (nr (g6 2))))) sV) (kS (vO eM (z3 (g6 0) eM An)) (kS (vO (f4 nz (f4 vS (f4 th (km mL (g6 0) eM (λ_ _=>rfl)) eM) eM) eM) (z3 (g6 0) eM An)) (oo (nr (f4 nz (f4 v' (f4 nz (f4 th (km mL (g6 0) eM (λ_ _=>rfl)) (f4 vS (f4 v' (km mL (g6 0) eM (λ_ _=>rfl)) eM) eM)) eM) eM) (g6 1))))))),?_⟩;walk_at "rd";refine gP (λg=>?_) (λg=>?_)
 ·walk_at "rd";refine⟨b,_,_,_,rfl,rfl,ab,rfl,?_⟩;refine⟨_,rfl,?_⟩;refine q _ _ (mM.upd b H _) ⟨_,_,dZ,?_,b8,bI⟩ (T5 _ (by lia)) (Ue _ dO);exact Int.fdiv_nonneg ce (Tn dO)
 ·walk_at "rd";refine⟨b,_,_,_,rfl,rfl,ab,rfl,?_⟩;have qV:(upd H b (.lst ([V.int x,V.int y].set (VE 0) (V.int 0)))) b=some (.lst [.int 0,.int y]):=dZ;have ah:=mM.upd b H (.lst ([V.int x,V.int y].set (VE 0) (V.int 0)));generalize upd H b (.lst ([V.int x,V.int y].set (VE 0) (V.int 0)))=aq at qV ah⊢;have bL:=T5 (y*48271+4099) (show(2147483647:Int)≠0 by decide);have k2:=Ue (y*48271+4099) (show(0:Int)<2147483647 by decide);walk_at "rd";refine⟨b,_,_,_,rfl,rfl,qV,rfl,?_⟩;generalize(y*48271+4099)%2147483647=z at bL k2⊢;have q3:(upd aq b (.lst ([V.int 0,V.int y].set (VE 1) (V.int z)))) b=some (.lst [.int 0,.int z]):=dZ;have cr:=Int.ediv_nonneg bL (show(0:Int)<=65536 by decide);have bO:z/65536<=z:=Int.ediv_le_self _ bL;have li:Int.fdiv z 65536=z/65536:=Wl z (by decide);have wL:wp (Int.fdiv z 65536+7)<=64:=by rw[li];exact oz (by lia) (by lia)
  walk_at "rd";refine q _ _ (ah.trans (mM.upd b aq _)) ⟨_,_,q3,by decide,bL,k2⟩ (T5 _ (by lia)) (Ue _ dO)
theorem pM :
  bZ P w K mg base "_law_measure" ["_law_one","_law_other"] 2 (b7 K 2 ac0):=by
 refine dr Y.f_law_measure sJ rfl (λ_ _ _ _ _ _ _ ak=>⟨_,(a5 (cO 0 sJ.nd (wv (af 0) (by rfl) B.abs_)) (a5 (cO 1 sJ.nd (wv (af 1) (by rfl) B.abs_)) (a5 (Fh PassesOwn.never (gc (f:=λi j=>decide (j<i)) rj (af 1) aY (dJ _)) (a5 (cO 2 sJ.nd (wm (af 0) (af 1))) (a5 (cO 0 sJ.nd (af 1)) (bB (cO 1 sJ.nd (af 2)))))) (bB (cz (af 0)))))),?_⟩);rintro as k am ⟨a,b,rfl,ag⟩;refine cZ rfl ?_;walk_at "wd";refine⟨λm ρ=>∃(x y:Int)(v:aD),ρ=[.val (.int x),.val (.int y),v]/\0<=x/\0<=y/\Hh x y=Hh a b/\m=y.toNat,⟨_,_,_,_,rfl,?_,?_,EQ a b,rfl⟩,?_⟩
 ·split<;>lia
 ·split<;>lia
 rintro m ρ ⟨x,y,v,rfl,ce,b8,aC,rfl⟩;walk_at "wd";refine gP (λg=>?_) (λg=>?_)
 ·walk_at "wd";have dO:=T5 x (show y≠0 by lia);have bf:=Ue x g;exact⟨_,by lia,_,_,_,rfl,b8,dO,by rw[EP ce g];exact aC,rfl⟩
 ·have e:y=0:=by lia
  subst e;refine⟨_,rfl,?_⟩;rw[<-ER ce,aC];exact ag
theorem vw :
  bZ P w K mg base "_law_low" ["_law_top","_law_bottom"] 3 (b7 K 2 ac1):=by
 refine dr Y.f_law_low Du rfl (λ_ _ _ _ _ _ _ ak=>⟨_,(a5 (cO 2 Du.nd (a8 (pM B Y) ak (aw (af 0) (aw (af 1) aX)))) (a5 (fq (gc (f:=λi j=>decide (i<j)) mJ (af 1) aY (dJ _)) (bB (cO 2 Du.nd (i' (af 2)))) fp) (bB (cz (di (a2 (el (af 0) (af 2)) (a2 (el (af 1) (af 2)) bY))))))),?_⟩);rintro as k am ⟨t,b,rfl,ab,xn,ag⟩;refine cZ rfl ?_;have gp:=oA (t:=t) (b:=b) (by lia);have iD:=l5 (a:=t) (b:=b) (by lia) xn;have e:tS t b=((Hh t b:Nat):Int):=by unfold tS;rw[SL (by lia)]
 have ag:k (.val (.tup [.int (t.fdiv ((Hh t b:Nat):Int)),.int (b.fdiv ((Hh t b:Nat):Int))])):=by
  have h:=ag;unfold dR cw at h;rw[e]at h;exact h
 walk_at "w";refine⟨_,_,rfl,?_⟩;dsimp only[cb];walk_at "wd";refine gP (λg=>absurd g (by lia)) (λ_=>?_);walk_at "w";exact ag
theorem yP :
  bZ P w K mg base "_law_spot" ["_law_x","_law_y","_law_bottom"] 3 (b7 K 3 ac2):=by
 refine dr Y.f_law_spot J7 rfl (λ_ _ _ _ _ _ _ ak=>⟨_,(a5 (cO 3 J7.nd (a8 (pM B Y) ak (aw (a8 (pM B Y) ak (aw (af 0) (aw (af 1) aX))) (aw (af 2) aX)))) (bB (cz (di (a2 (el (af 0) (af 3)) (a2 (el (af 1) (af 3)) (a2 (el (af 2) (af 3)) bY))))))),?_⟩);rintro as k am ⟨x,y,n,rfl,aM,pz,ag⟩;refine cZ rfl ?_;walk_at "w";refine⟨_,_,rfl,?_⟩;walk_at "w";refine⟨_,_,rfl,?_⟩;have c0:n≠0:=by lia
 have gp:=FU (a:=x) (b:=y) c0;have iD:=FV (a:=x) (b:=y) c0 pz;have e:kD x y n=g3 x y n:=by unfold kD;rw[SL (by lia)]
 have o1:((Hh ((Hh x y:Nat):Int) n:Nat):Int)=g3 x y n:=O8 x y n
 have ag:k (.val (.tup [.int (x.fdiv (g3 x y n)),.int (y.fdiv (g3 x y n)),.int (n.fdiv (g3 x y n))])):=by
  have h:=ag;unfold dP cC at h;rw[e]at h;exact h
 dsimp only[cb];rw[o1];generalize g3 x y n=g at gp iD ag⊢;walk_at "w";exact ag
theorem DF :
  bZ P w K mg base "_law_whole" ["_law_found"] 2 (b7 K 1 ac4):=by
 refine dr Y.f_law_whole ac3 rfl (λ_ _ _ _ _ _ _ ak=>⟨_,(bB (cz (tm (mS (T:="int") (af 0) (by rfl) B.isinstance_ (mF (v:=.ty "int") (u:=.type "int") (by rfl) B.int_ (by decide +kernel) rfl) rfl rfl rfl) (wn (Nq (mS (T:="bool") (af 0) (by rfl) B.isinstance_ (mF (v:=.ty "bool") (u:=.type "bool") (by rfl) B.bool_ (by decide +kernel) rfl) rfl rfl rfl)))))),?_⟩);rintro as k am ⟨i,rfl,ag⟩;refine cZ rfl ?_;refine⟨_,rfl,_,_,rfl,λ_=>rfl,_,rfl,M6 ?_⟩;exact⟨_,rfl,_,_,rfl,λ_=>rfl,_,rfl,ag⟩
theorem aeh :
  bZ P w K mg base "_law_line" ["_law_p","_law_q"] 3 (b7 K 2 ac5):=by
 refine dr Y.f_law_line sK rfl (λ_ _ _ _ _ _ _ ak=>⟨_,(a5 (cO 2 sK.nd (gb (cF (ei 0) (ei 1)) (cF (ei 0) (ei 1)))) (a5 (cO 3 sK.nd (gb (cF (ei 0) (ei 1)) (cF (ei 0) (ei 1)))) (a5 (cO 4 sK.nd (gb (cF (ei 0) (ei 1)) (cF (ei 0) (ei 1)))) (a5 (cO 5 sK.nd (a8 (pM B Y) ak (aw (a8 (pM B Y) ak (aw (af 2) (aw (af 3) aX))) (aw (af 4) aX)))) (a5 (fq (lY (w_or (gc (f:=λi j=>decide (i<j)) mJ (af 2) aY (dJ _)) (mR (lY (w_and (gc (f:=λi j=>decide (i=j)) kZ (af 2) aY (dJ _)) (Nn (gc (f:=λi j=>decide (i<j)) mJ (af 3) aY (dJ _)))))))) (bB (cO 5 sK.nd (i' (af 5)))) fp) (bB (cz (di (a2 (el (af 2) (af 5)) (a2 (el (af 3) (af 5)) (a2 (el (af 4) (af 5)) bY))))))))))),?_⟩);rintro as k am ⟨p,q,rfl,w,bp,h3,ag⟩;refine cZ (r:=[.val (dP p),.val (dP q),.no,.no,.no,.no]) rfl ?_;have h1:=bp.a;have h2:=bp.b;have aF:=bp.c;have bb:=h3.a;have cX:=h3.b;have fN:=h3.c;have a7:wp (crs p q).1<=8500:=by show wp (p.2.1*q.2.2-p.2.2*q.2.1)<=_;walk_at "bits"
 have bd:wp (crs p q).2.1<=8500:=by show wp (p.2.2*q.1-p.1*q.2.2)<=_;walk_at "bits"
 have eR:wp (crs p q).2.2<=8500:=by show wp (p.1*q.2.1-p.2.1*q.1)<=_;walk_at "bits"
 walk_at "w";refine⟨(crs p q).1,(crs p q).2.1,rfl,?_⟩;walk_at "wd";refine⟨((Hh (crs p q).1 (crs p q).2.1:Nat):Int),(crs p q).2.2,rfl,?_⟩;dsimp only[cb];refine cZ (r:=[.val (dP p),.val (dP q),.val (.int (crs p q).1),.val (.int (crs p q).2.1),.val (.int (crs p q).2.2),.val (.int (kK (crs p q)))]) rfl ?_;unfold eI at ag;generalize crs p q=l at w a7 bd eR ag;refine dX (λρ=>ρ=[.val (dP p),.val (dP q),.val (.int l.1),.val (.int l.2.1),.val (.int l.2.2),.val (.int (hj l))]) ?_ (λN aG=>?_);rotate_left
 ·have yes:mn l->N [.val (dP p),.val (dP q),.val (.int l.1),.val (.int l.2.1),.val (.int l.2.2),.val (.int (-kK l))]:=λd=>aG _ (by unfold hj;rw[SC d]);have no:¬mn l->N [.val (dP p),.val (dP q),.val (.int l.1),.val (.int l.2.1),.val (.int l.2.2),.val (.int (kK l))]:=λd=>aG _ (by unfold hj;rw[SL d]);refine⟨_,rfl,_,_,rfl,rfl,_,rfl,gP (λg=>?_) (λg=>?_)⟩
  ·exact⟨_,rfl,_,rfl,yes (.inl g)⟩
  ·refine⟨_,rfl,_,_,rfl,rfl,_,rfl,gP (λaI=>?_) (λaI=>no λd=>d.elim g λz=>aI z.1)⟩;refine⟨_,rfl,_,_,rfl,rfl,_,rfl,gP (λg3=>?_) (λg3=>no λd=>d.elim g λz=>g3 z.2)⟩;exact⟨_,rfl,_,rfl,yes (.inr ⟨aI,g3⟩)⟩
 rintro ρ rfl;have ah4:=xV w;have cG:=Sm a7 bd w;obtain⟨bo,bG,f5⟩:=uC l;have aU:=Wq bo;have a9:=Wq bG;have bE:=Wq f5;have ag:k (.val (.tup [.int (l.1.fdiv (hj l)),.int (l.2.1.fdiv (hj l)),.int (l.2.2.fdiv (hj l))])):=by rw[aU,a9,bE];exact ag
 walk_at "w";exact ag
theorem Ke :
  bZ P w K mg base "_law_count" ["_law_tally","_law_rings","_law_number"] 4 (xS K 3 ac6):=by
 refine R6 Y.f_law_count vu rfl (λ_ _ _ _ _ _ _ ak=>⟨_,(bB (k8 PassesOwn.never rfl (iv (af 1)) (dd 3 vu.nd) (bB (k8 PassesOwn.never rfl (tv (ku (af 3) (by rfl) B.len_) (by rfl) B.range_) (dd 4 vu.nd) (a5 (Fg (i:=5) (j:=6) rfl vu.nd rfl rfl (by decide) rfl rfl (a2 (hQ (af 3) (gb (af 4) aY) (λ_ _=>rfl)) (a2 (hQ (af 3) (af 4) (λ_ _=>rfl)) bY)) rfl) (a5 (cO 7 vu.nd (a8 (aeh B Y) ak (aw (af 5) (aw (af 6) aX)))) (a5 (HJ (b:=true) 0 (r7 ak) (di (a2 (af 7) (a2 (af 5) bY))) (eQ (HI (b:=true) 0 (r7 ak) (di (a2 (af 7) (a2 (af 5) bY))) aY) (af 2))) (bB (HJ (b:=true) 0 (r7 ak) (di (a2 (af 7) (a2 (af 6) bY))) (gb (HI (b:=true) 0 (r7 ak) (di (a2 (af 7) (a2 (af 6) bY))) aY) (af 2))))))))))),?_⟩);rintro b t ks ds xs k am ⟨vs,rs,m,rfl,rfl,he,aL,ak,ax,am,ag⟩;refine cZ rfl ?_;subst he;have f0:20000<=TT:=by decide
 refine⟨_,rfl,_,rfl,?_⟩;refine oY (f:=fR) (rs:=rs) (done:=[]) (λpre ρ=>∃(ks1:List Zt)(lu:Zc)(af fe gx eJ eK:aD),ρ=[.own (.d true t ks1 (lu.map D.int)),.val (.lst (rs.map fR)),.val (.int m),af,fe,gx,eJ,eK]/\lu.length=ks1.length/\ks1.length<=ks.length+2*(pre.map S0).sum/\∀key,(bJ ks1 lu key).getD 0=(bJ ks vs key).getD 0+m*pq key pre) ⟨ks,vs,_,_,_,_,_,rfl,aL,by simp,λkey=>by simp[pq]⟩ ?_ (λρ h=>?_);rotate_left
 ·obtain⟨ks1,lu,af,fe,gx,eJ,eK,rfl,h1,h2,aF⟩:=h;rw[Tc]at h2 aF;exact⟨ks1,_,rfl,ag ks1 lu h1 h2 aF⟩
 rintro pre ps rest ρ aB ⟨ks1,lu,af,fe,gx,eJ,eK,rfl,h1,h2,aF⟩ N aG;rw[Tc]at aB;have mem:ps∈rs:=by rw[aB];simp
 obtain⟨cc,ci,iY⟩:=ak ps mem;have CY:(rs.map S0).sum=(pre.map S0).sum+(ps.length+(rest.map S0).sum):=by rw[aB,SJ,Ut,SG,SQ]
 have len:(ps.map dP).length=ps.length:=Sw ..;refine⟨_,rfl,_,rfl,_,rfl,by lia,by rw[len];lia,?_⟩;rw[len,show((ps.length:Nat):Int).toNat=ps.length by lia];refine wU (λi ρ=>∃(fJ:List Zt)(g0:Zc)(fe gx eJ eK:aD),ρ=[.own (.d true t fJ (g0.map D.int)),.val (.lst (rs.map fR)),.val (.int m),.val (fR ps),fe,gx,eJ,eK]/\g0.length=fJ.length/\fJ.length<=ks1.length+2*i/\∀key,(bJ fJ g0 key).getD 0=(bJ ks1 lu key).getD 0+m*pp key ((dj ps).take i)) ⟨ks1,lu,_,_,_,_,rfl,h1,by lia,λkey=>by simp[pp]⟩ ?_ (λρ h=>?_);rotate_left
 ·obtain⟨fJ,g0,fe,gx,eJ,eK,rfl,ez,eT,m3⟩:=h;have aei:=Rd ps;rw[aei]at m3;refine aG _ ⟨fJ,g0,_,_,_,_,_,rfl,ez,?_,λkey=>?_⟩
  ·rw[SJ,Ut];simp only[SG,TG,SQ,UD];lia
  ·rw[m3 key,aF key];unfold pq;rw[SJ,Ut];simp only[SG,TG,SQ,UD];grind
 clear aG;rintro i ρ ay ⟨fJ,g0,fe,gx,eJ,eK,rfl,ez,eT,m3⟩ N aG;obtain⟨p,q,mp,Cp,gp,iZ,g8,x4⟩:=Sk ay;refine⟨_,rfl,_,rfl,_,_,rfl,rfl,_,_,_,.inr rfl,rfl,gp,_,rfl,_,rfl,_,_,_,.inr rfl,rfl,iZ,dP p,dP q,rfl,?_⟩;refine⟨_,rfl,_,rfl,rfl,p,q,rfl,ci _ g8,iY p mp,iY q Cp,?_⟩;dsimp only[cb];obtain⟨bj,bt⟩:=H1 (k:=ep p q p) (x:=(bJ fJ g0 (ep p q p)).getD 0+m) ez;refine dX (λρ=>ρ=[.own (.d true t (eV fJ (ep p q p)) ((gI fJ g0 (ep p q p) ((bJ fJ g0 (ep p q p)).getD 0+m)).map D.int)),.val (.lst (rs.map fR)),.val (.int m),.val (fR ps),.val (.int i),.val (dP p),.val (dP q),.val (dP (eI p q))]) ?_ (λoe il=>?_);rotate_left
 ·refine⟨t,fJ,_,rfl,_,rfl,_,rfl,f6,ep p q p,rfl,(λz=>nomatch z),_,rfl,(bJ fJ g0 (ep p q p)).getD 0,m,H4 _ _ _,rfl,?_⟩;refine⟨t,fJ,_,rfl,_,rfl,_,rfl,f6,ep p q p,rfl,(λz=>nomatch z),by lia,?_⟩;exact il _ (by rw[H2];rfl)
 rintro ρ rfl;generalize aej:eV fJ (ep p q p)=mB at bj bt;generalize aek:gI fJ g0 (ep p q p) ((bJ fJ g0 (ep p q p)).getD 0+m)=pN at bj
 have g3:∀key,(bJ mB pN key).getD 0=(bJ fJ g0 key).getD 0+(if key=ep p q p then m else 0):=λkey=>by
  rw[<-aej,<-aek,H0 _ _ key ez];by_cases e:key=ep p q p
  ·rw[SC e,SC e,e];rfl
  ·rw[SL e,SL e];lia
 obtain⟨eG,ah5⟩:=H1 (k:=ep p q q) (x:=(bJ mB pN (ep p q q)).getD 0-m) bj;refine⟨t,mB,_,rfl,_,rfl,_,rfl,f6,ep p q q,rfl,(λz=>nomatch z),_,rfl,(bJ mB pN (ep p q q)).getD 0,m,H4 _ _ _,rfl,?_⟩;refine⟨t,mB,_,rfl,_,rfl,_,rfl,f6,ep p q q,rfl,(λz=>nomatch z),by lia,?_⟩;refine aG _ ⟨eV mB (ep p q q),gI mB pN (ep p q q) ((bJ mB pN (ep p q q)).getD 0-m),.val (.int i),.val (dP p),.val (dP q),.val (dP (eI p q)),by rw[H2];rfl,eG,by lia,λkey=>?_⟩;rw[H0 _ _ key bj,x4]
 have cT:pp key ((dj ps).take i++[(p,q)])=pp key ((dj ps).take i)+uF key (p,q):=by
  unfold pp;rw[SJ,Ut];simp
 have dQ:((if key=ep p q q then some ((bJ mB pN (ep p q q)).getD 0-m)else bJ mB pN key).getD 0:Int)=(bJ mB pN key).getD 0-(if key=ep p q q then m else 0):=by
  by_cases e:key=ep p q q
  ·rw[SC e,SC e,e];rfl
  ·rw[SL e,SL e];lia
 rw[dQ,g3 key,m3 key,cT];unfold uF;dsimp only;split<;>split<;>grind
theorem Kf :
  bZ P w K mg base "_law_part" ["_law_rings","_law_others"] 5 (b7 K 2 ac7):=by
 refine dr Y.f_law_part J8 rfl (λ_ _ _ _ _ _ _ ak=>⟨_,(a5 (R0 (b:=true) (i:=2) J8.nd rfl (SI rfl)) (a5 (HK 2 (Ke B Y) ak (by rfl) (a2 (af 0) (a2 aY bY))) (a5 (HK 2 (Ke B Y) ak (by rfl) (a2 (af 1) (a2 (i' aY) bY))) (R3 2 (bB (cz (A7 (ee (mW (ts:=["_law_key"]) (fr:=["_law_tally"]) (js:=[2]) (R4 (af 2)) (λ_ _ _ _=>(fM (i:=0) (show S7 (["_law_key","_law_tally"]:Zm) by decide +kernel) rfl (SA rfl))) (λ_ _ _ _=>jd) (λ_ _ _ _=>(mQ (f:=λi j=>decide (i=j)) kZ (R1 true (r7 ak) (af 1) (af 0) (λ_ _=>rfl)) aY (dJ _))) ⟨rfl,by decide +kernel,rfl,by decide +kernel,ib (Tp.mpr ⟨rfl,(S' _)⟩),iw rfl,by walk_at "ffr",rfl⟩)) rfl (by rfl) B.all_))))))),?_⟩);rintro as k am ⟨rs,cl,rfl,ak,au,am,bal,ag⟩;refine cZ rfl ?_;have f0:20000<=TT:=by decide
 refine⟨true,none,[],[],rfl,_,rfl,rfl,[],rs,1,rfl,rfl,rfl,rfl,ak,.inl rfl,by simp;lia,λks1 lu bj bt eG=>?_⟩;refine⟨true,none,ks1,_,rfl,_,rfl,1,rfl,rfl,lu,cl,-1,rfl,rfl,rfl,bj,au,.inr rfl,?_,λfJ g0 bf bL k2=>?_⟩
 ·simp at bt;lia
 have z:∀key,(bJ fJ g0 key).getD 0=0:=λkey=>by
  rw[k2 key,eG key,Sl bal key];simp[bJ];lia
 simp at bt;refine⟨true,none,fJ,_,rfl,?_⟩;refine⟨_,rfl,true,fJ,_,rfl,by rw[Sw];lia,?_⟩;refine lf (f:=i8 true) (h:=λ_=>D.bl true) (λkey ax k ag=>?_) ?_
 ·have some:bJ fJ (g0.map D.int) key=some (.int 0):=by
   have e:=z key;rw[Cq];cases q:bJ fJ g0 key with
   |none=>exact absurd ax ((ph bf).mp q)
   |some v=>rw[q]at e;rw[show v=0 from e];rfl
  refine⟨_,rfl,_,rfl,fJ,_,key,_,rfl,rfl,(λz=>nomatch z),some,?_⟩;exact⟨_,_,rfl,rfl,ag⟩
 refine⟨_,rfl,λd hd=>?_,ag⟩;obtain⟨_,_,e⟩:=SM.mp hd;exact e.symm
theorem Kg :
  bZ P w K mg base "_law_left" ["_law_p","_law_q","_law_r"] 2 (b7 K 3 ac8):=by
 refine dr Y.f_law_left Dv rfl (λ_ _ _ _ _ _ _ ak=>⟨_,(a5 (cO 3 Dv.nd (cF (ei 0) (gb (cF (ei 1) (ei 2)) (cF (ei 1) (ei 2))))) (a5 (Rb (i:=3) Dv.nd rfl (SA rfl) (cF (ei 0) (gb (cF (ei 1) (ei 2)) (cF (ei 1) (ei 2))))) (bB (cz (mQ (f:=λi j=>decide (j<i)) rj (eQ (af 3) (cF (ei 0) (gb (cF (ei 1) (ei 2)) (cF (ei 1) (ei 2))))) aY (dJ _)))))),?_⟩);rintro as k am ⟨p,q,r,rfl,bp,h3,nl,ag⟩;refine cZ rfl ?_;have h1:=bp.a;have h2:=bp.b;have aF:=bp.c;have bb:=h3.a;have cX:=h3.b;have fN:=h3.c;have mV:=nl.a;have iC:=nl.b;have uq:=nl.c;have e:bi p q r=p.1*(q.2.1*r.2.2-q.2.2*r.2.1)+p.2.1*(q.2.2*r.1-q.1*r.2.2)+p.2.2*(q.1*r.2.1-q.2.1*r.1):=by unfold bi crs;grind
 rw[e]at ag;walk_at "w";exact ag
theorem Kh :
  bZ P w K mg base "_law_is_spot" ["_law_p"] 3 (b7 K 1 ac'):=by
 refine dr Y.f_law_is_spot ac9 rfl (λ_ _ _ _ _ _ _ ak=>⟨_,(a5 (fq (lY (w_or (hP (hO (mS (T:="tuple") (af 0) (by rfl) B.isinstance_ (mF (v:=.ty "tuple") (u:=.type "tuple") (by rfl) B.tuple_ (by decide +kernel) rfl) rfl rfl rfl))) (w_or (gc (f:=λi j => !decide (i=j)) ru (ku (af 0) (by rfl) B.len_) aY (dJ _)) (mR (hP (hO (A7 (ee (mW (ts:=["_law_number"]) (fr:=[]) (js:=[]) (Fi (af 0)) (λ_ _ _ _=>(fM (i:=0) (show S7 (["_law_number"]:Zm) by decide +kernel) rfl (SA rfl))) (λ_ _ _ _=>jd) (λ_ _ _ _=>(a8 (DF B Y) ak (aw (af 0) aX))) ⟨rfl,by decide +kernel,rfl,by decide +kernel,ib (S' _),iw rfl,by walk_at "ffr",rfl⟩)) rfl (by rfl) B.all_))))))) (bB (cz i9)) fp) (bB (cz (tm (mQ (f:=λi j=>decide (j<i)) rj (ei 0) aY (dJ _)) (wn (mQ (f:=λi j=>decide (i=j)) kZ (a8 (pM B Y) ak (aw (a8 (pM B Y) ak (aw (ei 0) (aw (ei 0) aX))) (aw (ei 0) aX))) aY (dJ _))))))),?_⟩);rintro as k am ⟨p,rfl,ae,ag⟩;refine cZ rfl ?_;have o1:((Hh ((Hh p.1 p.2.1:Nat):Int) p.2.2:Nat):Int)=1:=by rw[ae.2];rfl
 have c0:=ae.1;refine lc (λN aG=>?_) ?_
 ·refine⟨_,rfl,_,_,rfl,λ_=>rfl,_,rfl,gn ?_⟩;refine⟨_,rfl,_,rfl,_,_,rfl,rfl,_,rfl,gn ?_⟩;refine⟨_,rfl,_,rfl,kj,?_⟩;refine lf (f:=D.int) (h:=λ_=>D.bl true) (rs:=[p.1,p.2.1,p.2.2]) (λi ay k ag=>⟨_,rfl,rfl,i,rfl,ag⟩) ?_;exact⟨_,rfl,λd hd=>by simp at hd;exact hd,_,rfl,gn aG⟩
 walk_at "w";rw[SC (Xl c0)];walk_at "w";refine⟨_,_,rfl,?_⟩;dsimp only[cb];walk_at "w";refine⟨_,_,rfl,?_⟩;dsimp only[cb];rw[o1];exact⟨_,_,rfl,rfl,ag⟩
theorem ael :
  bZ P w K mg base "_law_is_bulging" ["_law_ring"] 4 (b7 K 1 ada):=by
 refine dr Y.f_law_is_bulging Dw rfl (λ_ _ _ _ _ _ _ ak=>⟨_,(a5 (fq (lY (w_or (hP (hO (mS (T:="list") (af 0) (by rfl) B.isinstance_ (mF (v:=.ty "list") (u:=.type "list") (by rfl) B.list_ (by decide +kernel) rfl) rfl rfl rfl))) (w_or (gc (f:=λi j=>decide (i<j)) mJ (ku (af 0) (by rfl) B.len_) aY (dJ _)) (mR (hP (hO (A7 (ee (mW (ts:=["_law_p"]) (fr:=[]) (js:=[]) (iv (af 0)) (λ_ _ _ _=>(fM (i:=0) (show S7 (["_law_p"]:Zm) by decide +kernel) rfl (SA rfl))) (λ_ _ _ _=>jd) (λ_ _ _ _=>(a8 (Kh B Y) ak (aw (af 0) aX))) ⟨rfl,by decide +kernel,rfl,by decide +kernel,ib (S' _),iw rfl,by walk_at "ffr",rfl⟩)) rfl (by rfl) B.all_))))))) (bB (cz i9)) fp) (a5 (tQ 1 (wT (i:=1) Dw.nd rfl rfl (ts:=["_law_k"]) (fr:=["_law_ring"]) (js:=[0]) (tv (ku (af 0) (by rfl) B.len_) (by rfl) B.range_) (λ_ _ _ _=>(fM (i:=0) (show S7 (["_law_k","_law_ring"]:Zm) by decide +kernel) rfl (SA rfl))) (λ_ _ _ _=>jd) (λ_ _ _ _=>(a8 (Kg B Y) ak (aw (hQ (af 1) (gb (af 0) aY) (λ_ _=>rfl)) (aw (hQ (af 1) (gb (af 0) aY) (λ_ _=>rfl)) (aw (hQ (af 1) (af 0) (λ_ _=>rfl)) aX))))) ⟨rfl,by decide +kernel,rfl,by decide +kernel,ib (Tp.mpr ⟨rfl,(S' _)⟩),iw rfl,by walk_at "ffr",rfl⟩)) (a5 (tQ 2 (wT (i:=2) Dw.nd rfl rfl (ts:=["_law_k"]) (fr:=["_law_ring"]) (js:=[0]) (Rh aY (gb (ku (af 0) (by rfl) B.len_) aY) (by rfl) B.range_) (λ_ _ _ _=>(fM (i:=0) (show S7 (["_law_k","_law_ring"]:Zm) by decide +kernel) rfl (SA rfl))) (λ_ _ _ _=>jd) (λ_ _ _ _=>(a8 (Kg B Y) ak (aw (ei 1) (aw (hQ (af 1) (af 0) (λ_ _=>rfl)) (aw (hQ (af 1) (eQ (af 0) aY) (λ_ _=>rfl)) aX))))) ⟨rfl,by decide +kernel,rfl,by decide +kernel,ib (Tp.mpr ⟨rfl,(S' _)⟩),iw rfl,by walk_at "ffr",rfl⟩)) (bB (cz (tm (Fw (ak.units) i9 (af 1) (by rfl)) (wn (Fw (ak.units) i9 (af 2) (by rfl))))))))),?_⟩);rintro as k am ⟨ps,rfl,am,cv,ae,ag⟩;refine cZ rfl ?_;have f0:75<=TT:=by decide
 have eG:=cv.1;have len:(ps.map dP).length=ps.length:=Sw ..;have gp:∀n,n<ps.length->dE 2950 (bx ps n):=λn h=>ae _ (nS h);refine lc (λN aG=>?_) ?_
 ·refine⟨_,rfl,_,_,rfl,λ_=>rfl,_,rfl,gn ?_⟩;refine⟨_,rfl,_,rfl,_,_,rfl,rfl,_,rfl,gP (λg=>by rw[len]at g;lia) (λ_=>?_)⟩;refine⟨_,rfl,_,rfl,by rw[len];lia,?_⟩;refine lf (f:=dP) (h:=λ_=>D.bl true) (λp ax k ag=>⟨_,rfl,rfl,p,rfl,(ae p ax).pt,ag⟩) ?_;exact⟨_,rfl,λd hd=>by obtain⟨_,_,e⟩:=SM.mp hd;exact e.symm,_,rfl,gn aG⟩
 refine dX (λρ=>ρ=[.val (.lst (ps.map dP)),.val (.lst ((Ta ps.length).map λ_=>D.bl true)),.no]) ?_ (λN aG=>?_);rotate_left
 ·refine⟨_,rfl,_,rfl,_,rfl,by lia,by rw[len];lia,by rw[Sw,Vi];lia,?_⟩;rw[len,show((ps.length:Nat):Int).toNat=ps.length by lia];refine lf (f:=λt:Nat=>D.int t) (h:=λ_=>D.bl true) (λi ay k ag=>?_) ⟨_,rfl,aG _ rfl⟩;have ay:=TQ.mp ay;refine⟨_,rfl,_,rfl,_,_,rfl,rfl,_,_,_,.inr rfl,rfl,Sn ay (by lia),?_⟩;refine⟨_,rfl,_,rfl,_,_,rfl,rfl,_,_,_,.inr rfl,rfl,Gv ay,?_⟩;refine⟨_,rfl,_,rfl,_,_,_,.inr rfl,rfl,m1 ay,rfl,_,_,_,rfl,(gp _ (UA _ (by lia))).bp,(gp _ (UA _ (by lia))).bp,(gp _ ay).bp,?_⟩;rw[Xl (cv.turn ay)];exact ag
 rintro ρ rfl;refine dX (λρ=>ρ=[.val (.lst (ps.map dP)),.val (.lst ((Ta ps.length).map λ_=>D.bl true)),.val (.lst ((Ta (ps.length-2)).map λ_=>D.bl true))]) ?_ (λN aG=>?_);rotate_left
 ·walk_at "w"
  have Ki:∀t:Nat,t+1<ps.length->dW (ps.map dP) (1+(t:Int))=some (dP (bx ps (t+1))):=λt h=>by
   rw[show(1+(t:Int))=((t+1:Nat):Int) by lia];exact m1 h
  refine⟨⟨by decide,by decide,by rw[len];lia,by rw[len];lia⟩,by rw[Sw,Vi,len];lia,?_⟩;rw[len,show((ps.length:Int)-1-1).toNat=ps.length-2 by lia];refine lf (f:=λt:Nat=>D.int (1+t)) (h:=λ_=>D.bl true) (λi ay k ag=>?_) ⟨_,rfl,aG _ rfl⟩;have ay:=TQ.mp ay;refine⟨_,rfl,_,_,_,.inr rfl,rfl,m1 (n:=0) (by lia),?_⟩;refine⟨_,rfl,_,rfl,_,_,_,.inr rfl,rfl,Ki i (by lia),?_⟩;refine⟨_,rfl,_,rfl,_,_,rfl,rfl,_,_,_,.inr rfl,rfl,by rw[show(1+(i:Int)+1)=(1+((i+1:Nat):Int)) by lia];exact Ki (i+1) (by lia),rfl,_,_,_,rfl,(gp 0 (by lia)).bp,(gp (i+1) (by lia)).bp,(gp (i+2) (by lia)).bp,?_⟩;rw[Xl (cv.fan (k:=i+1) (by lia) (by lia))];exact ag
 rintro ρ rfl
 have Kj:∀n:Nat,¬D.bl false∈(Ta n).map λ_=>D.bl true:=λn h=>by
  obtain⟨_,_,e⟩:=SM.mp h;cases e
 have ej:∀n:Nat,∀e∈(Ta n).map (λ_=>D.bl true),has .B e=true:=λn e h=>by
  obtain⟨_,_,rfl⟩:=SM.mp h;rfl
 refine⟨_,rfl,.B,_,.inl rfl,rfl,ej _,by decide,λb ab=>?_⟩
 have eN:b=false:=by
  cases b with
  |false=>rfl
  |true=>exact absurd (ab.mp rfl) (Kj _)
 subst eN;refine⟨_,rfl,?_⟩;rw[SC rfl];refine⟨_,rfl,.B,_,.inl rfl,rfl,ej _,by decide,λb ab=>?_⟩
 have eN:b=false:=by
  cases b with
  |false=>rfl
  |true=>exact absurd (ab.mp rfl) (Kj _)
 subst eN;exact ag
theorem Kk :
  bZ P w K mg base "_law_between" ["_law_p","_law_q","_law_part_here","_law_many"] 4 (b7 K 4 adb):=by
 refine dr Y.f_law_between Dx rfl (λ_ _ _ _ _ _ _ ak=>⟨_,(a5 (cO 4 Dx.nd (eQ (cF (cF (ei 0) (ei 1)) (gb (af 3) (af 2))) (cF (cF (ei 1) (ei 0)) (af 2)))) (a5 (cO 5 Dx.nd (eQ (cF (cF (ei 0) (ei 1)) (gb (af 3) (af 2))) (cF (cF (ei 1) (ei 0)) (af 2)))) (bB (cz (a8 (yP B Y) ak (aw (af 4) (aw (af 5) (aw (cF (cF (ei 0) (ei 1)) (af 3)) aX)))))))),?_⟩);rintro as k am ⟨p,q,t,rfl,ae,au,d1,cY,ag⟩;refine cZ rfl ?_;have h1:=ae.bp.a;have h2:=ae.bp.b;have aF:=ae.bp.c;have bb:=au.bp.a;have cX:=au.bp.b;have fN:=au.bp.c;have c0:0<p.2.2*q.2.2*3:=SF (SF ae.pt.1 au.pt.1) (by decide);walk_at "w";exact⟨_,_,_,rfl,c0,by walk_at "bits",ag⟩
theorem aem :
  bZ P w K mg base "_law_cut" ["_law_bag_here","_law_ring"] 5 (b7 K 2 adc):=by
 refine dr Y.f_law_cut qY rfl (λ_ _ _ _ _ _ _ ak=>⟨_,(a5 (cO 2 qY.nd (a8 (hZ B Y) ak (gR 0 (aw (ku (af 1) (by rfl) B.len_) aX)))) (a5 (cO 3 qY.nd (a8 (hZ B Y) ak (gR 0 (aw (gb (ku (af 1) (by rfl) B.len_) aY) aX)))) (a5 (jc (ee (aao (ee (fY (a2 (af 2) (a2 (eQ (af 3) (Fc (mQ (f:=λi j=>decide (j<=i)) vT (af 3) (af 2) (dJ _)) (by rfl) B.int_)) bY)))) (by rfl) B.sorted_)) (PS (n:=2) rfl (c7 (dd 2 qY.nd) (c7 (dd 3 qY.nd) gF)))) (a5 (cO 4 qY.nd (a8 (Kk B Y) ak (aw (hQ (af 1) (af 2) (λ_ _=>rfl)) (aw (hQ (af 1) (eQ (af 2) aY) (λ_ _=>rfl)) (aw (eQ aY (a8 (hZ B Y) ak (gR 0 (aw aY aX)))) (aw aY aX)))))) (a5 (cO 5 qY.nd (a8 (Kk B Y) ak (aw (hQ (af 1) (af 3) (λ_ _=>rfl)) (aw (hQ (af 1) (wm (eQ (af 3) aY) (ku (af 1) (by rfl) B.len_)) (λ_ _=>rfl)) (aw (eQ aY (a8 (hZ B Y) ak (gR 0 (aw aY aX)))) (aw aY aX)))))) (bB (cz (di (a2 (ee (mU (ee (mU (ee (fY (a2 (af 4) bY))) (ee (wy (af 1) (rF (eQ (af 2) aY)) (rF (eQ (af 3) aY)))))) (ee (fY (a2 (af 5) bY))))) (a2 (ee (mU (ee (mU (ee (mU (ee (fY (a2 (af 5) bY))) (ee (wy (af 1) (rF (eQ (af 3) aY)) wx)))) (ee (wy (af 1) wx (rF (eQ (af 2) aY)))))) (ee (fY (a2 (af 4) bY))))) bY)))))))))),?_⟩);rintro as k am ⟨ps,m,rfl,cv,ae,ax,am,ag⟩;refine cZ rfl ?_;have eG:=cv.1;have len:(ps.map dP).length=ps.length:=Sw ..;have f0:=jN;have gp:∀n,n<ps.length->dE 2000 (bx ps n):=λn h=>(ae _ (nS h)).mono (by lia);walk_at "w";intro a e1 cc;walk_at "w";intro b b0 a7;rw[len]at cc a7;walk_at "w";refine .inr ⟨_,rfl,_,_,rfl,rfl,f6,[a,_],rfl,by show 2<64;decide,λns pm yc=>?_⟩;obtain⟨I,J,rfl,uS,yQ⟩:=aaD e1 cc b0 a7 pm yc;clear pm yc;refine⟨_,rfl,rfl,_,_,rfl,_,_,rfl,rfl,?_⟩;refine⟨_,rfl,_,rfl,_,_,_,.inr rfl,rfl,m1 (show I<ps.length by lia),?_⟩;refine⟨_,rfl,_,rfl,_,_,rfl,rfl,_,_,_,.inr rfl,rfl,m1 (n:=I+1) (show I+1<ps.length by lia),?_⟩;walk_at "w";intro c hS c1;walk_at "w";refine⟨bx ps I,bx ps (I+1),1+c,rfl,gp _ (by lia),gp _ (by lia),by lia,by lia,?_⟩;dsimp only[cb];have bV:(J+1)%ps.length<ps.length:=UA _ (by lia)
 have n5:dW (ps.map dP) (((J:Int)+1)%((ps.map dP).length:Int))=some (dP (bx ps ((J+1)%ps.length))):=by
  rw[len,show((J:Int)+1)%(ps.length:Int)=(((J+1)%ps.length:Nat):Int) by push_cast;rfl];exact m1 bV
 refine⟨_,rfl,_,rfl,_,_,_,.inr rfl,rfl,m1 (n:=J) yQ,?_⟩;refine⟨_,rfl,_,rfl,_,_,rfl,rfl,?_⟩;refine⟨_,rfl,_,rfl,_,_,rfl,rfl,by rw[len];lia,_,_,_,.inr rfl,rfl,n5,?_⟩;walk_at "w";intro d ix bo;walk_at "w";refine⟨bx ps J,bx ps ((J+1)%ps.length),1+d,rfl,gp _ (by lia),gp _ bV,by lia,by lia,?_⟩;dsimp only[cb];have ok:=aaz (t:=1+c) (u:=1+d) cv ae uS yQ (by lia) (by lia) (by lia) (by lia);generalize jE (bx ps I) (bx ps (I+1)) (1+c)=M at ok⊢;generalize jE (bx ps J) (bx ps ((J+1)%ps.length)) (1+d)=N at ok⊢;have az:=Bw (ps.map dP) (some ((I:Int)+1)) (some ((J:Int)+1));have a':=Bw (ps.map dP) (some ((J:Int)+1)) none;have cn:=Bw (ps.map dP) none (some ((I:Int)+1));have ag:=ag _ _ ok;rw[aaF uS yQ,aaG uS yQ]at ag;walk_at "w";refine⟨by simp only[SH,SN,Uq];lia,?_⟩;walk_at "w";refine⟨by simp only[SH,SN,Uq];lia,?_⟩;walk_at "w";refine⟨by simp only[SH,SN,Uq];lia,?_⟩;walk_at "w";refine⟨by simp only[SH,SN,Uq];lia,?_⟩;walk_at "w";refine⟨by simp only[SH,SN,Uq];lia,?_⟩;walk_at "w";exact ag
theorem aen :
  bZ P w K mg base "_law_sheet" ["_law_bag_here","_law_ring","_law_cuts"] 6 (b7 K 3 add):=by
 refine dr Y.f_law_sheet qZ rfl (λ_ _ _ _ _ _ _ ak=>⟨_,(a5 (k7 (i:=3) qZ.nd rfl (SA rfl) (fY (a2 (af 1) bY))) (a5 (k8 PassesOwn.never rfl (tv (a8 (hZ B Y) ak (gR 0 (aw (eQ (af 2) aY) aX))) (by rfl) B.range_) (dd 4 qZ.nd) (bB (aat 3 0 (aem B Y) ak (by rfl) (a8 (hZ B Y) ak (gR 0 (aw (NH 3 (by rfl) B.len_) aX)))))) (a5 (k7 (i:=5) qZ.nd rfl (SA rfl) (fY bY)) (k6 3 (a5 (k8 PassesOwn.never rfl (iv (af 3)) (dd 6 qZ.nd) (a5 (cO 7 qZ.nd (mQ (f:=λi j=>decide (i=j)) kZ (a8 (hZ B Y) ak (gR 0 (aw aY aX))) aY (dJ _))) (a5 (cO 8 qZ.nd (gb (a8 (hZ B Y) ak (gR 0 (aw aY aX))) aY)) (bB (nJ 5 (di (a2 (af 6) (a2 (af 7) (a2 (a8 (yP B Y) ak (aw (af 8) (aw (gb (a8 (hZ B Y) ak (gR 0 (aw aY aX))) aY) (aw (eQ aY (a8 (hZ B Y) ak (gR 0 (aw aY aX)))) aX)))) bY))))))))) (k6 5 (bB (cz (af 5))))))))),?_⟩);rintro as k am ⟨ps,hI,rfl,cv,ae,am,hc,ag⟩;refine cZ rfl ?_;have f0:=jN;walk_at "w";intro c hS c1;refine⟨_,rfl,by lia,by lia,?_⟩;refine wU (λi ρ=>∃(rs:Zu)(fe:aD),ρ=[.bag,.val (fR ps),.val (.int hI),.own (.l (rs.map fR)),fe,.no,.no,.no,.no]/\qT 22 4 ps i rs) ⟨[ps],_,rfl,abS cv ae am⟩ ?_ (λρ h=>?_)
 ·rintro i ρ ay ⟨rs,fe,rfl,ok⟩ N aG;have Df:=ok.ln;have len:(rs.map fR).length=rs.length:=Sw ..;refine⟨rs.map fR,rfl,rfl,?_⟩;walk_at "w";intro n c0 cq;dsimp only[cb];obtain⟨j,rfl⟩:∃j:Nat,n=j:=⟨n.toNat,by lia⟩;have bS:j<rs.length:=by lia
  have ak:rs[j]?=some rs[j]:=S5 bS;have ax:rs[j]∈rs:=V5 bS;generalize rs[j]=r at ak ax;have le:=ok.le r ax;refine⟨j,fR r,rfl,by lia,by rw[SX,ak];rfl,?_⟩;refine⟨r,jJ 22 i,rfl,ok.cv r ax,ok.gp r ax,SE (yC (c:=2) (by lia)) (by decide),by lia,λcl us co=>?_⟩;refine⟨[fR cl,fR us],rfl,by rw[len];show rs.length+2<=_;lia,aG _ ⟨rs.eraseIdx j++[cl,us],.val (.int i),?_,ok.step ak co⟩⟩;rw[SJ,Iq];rfl
 obtain⟨rs,fe,rfl,ok⟩:=h;walk_at "w";have Df:=ok.ln;refine oY (f:=fR) (rs:=rs) (done:=[]) (λpre ρ=>∃(sh:Ze)(fe eJ eK ff:aD),ρ=[.bag,.val (fR ps),.val (.int hI),.val (.lst (rs.map fR)),fe,.own (.l (sh.map dS)),eJ,eK,ff]/\(sh.map λt=>t.1)=pre/\∀t∈sh,dE 20 t.2.2) ⟨[],_,_,_,_,rfl,rfl,λt bv=>absurd bv (by simp)⟩ ?_ (λρ h=>?_);rotate_left
 ·obtain⟨sh,fe,eJ,eK,ff,rfl,e,st⟩:=h;rw[Tc]at e;rw[<-e]at ok;obtain⟨h1,_,aF⟩:=ok.sheet (c:=2) (by lia) (yC (by lia)) st;obtain⟨_,h2,_⟩:=ok.sheet (c:=hI) (by lia) (yC (by lia)) st;exact⟨_,rfl,_,rfl,ag sh h1 h2 aF⟩
 rintro pre r rest ρ aB ⟨sh,fe,eJ,eK,ff,rfl,e,st⟩ N aG;walk_at "w";intro f e9 aU;walk_at "w";intro x ce bF;walk_at "w";intro y b8 bI;walk_at "w";intro z z0 z1;walk_at "w";refine⟨x-40,y-40,1+z,rfl,by lia,by walk_at "bits",?_⟩;dsimp only[cb];have g9:=abU (x:=x-40) (y:=y-40) (n:=1+z) (by lia) (by lia) (by lia) (by lia) (by lia) (by lia)
 have ah6:sh.length<=rs.length:=by
  have q:=TW S0 aB;rw[Tc,SH,SN,<-e,Sw]at q;lia
 refine⟨kj,by rw[Sw];lia,aG _ ⟨sh++[(r,decide (f=0),cC (x-40) (y-40) (1+z))],_,_,_,_,by rw[SJ];rfl,by rw[SJ,e];rfl,λt bv=>?_⟩⟩;rcases SR.mp bv with bv|bv
 ·exact st t bv
 ·rw[SO.mp bv];exact g9
theorem Kl :
  bZ P w K mg base "_law_first" ["_law_piece"] 4 (b7 K 1 J9):=by
 refine dr Y.f_law_first n9 rfl (λ_ _ _ _ _ _ _ ak=>⟨_,(a5 (jc (af 0) (gT (n:=3) rfl (c7 (dd 1 n9.nd) (c7 (dd 2 n9.nd) (c7 (dd 3 n9.nd) gF))))) (a5 (cO 4 n9.nd (gb aY (cF aY (Fc (af 2) (by rfl) B.int_)))) (a5 (k7 (i:=5) n9.nd rfl (SA rfl) (fY bY)) (a5 (k8 PassesOwn.never rfl (iv (af 1)) (dd 6 n9.nd) (a5 (cO 7 n9.nd (gb (cF (ei 6) (ei 3)) (cF (ei 3) (ei 6)))) (a5 (cO 8 n9.nd (gb (cF (ei 6) (ei 3)) (cF (ei 3) (ei 6)))) (bB (nJ 5 (a8 (yP B Y) ak (aw (cF (af 4) (af 7)) (aw (cF (af 4) (af 8)) (aw (cF (ei 6) (ei 3)) aX))))))))) (k6 5 (bB (cz (af 5)))))))),?_⟩);rintro as k am ⟨s,rfl,am,ae,al,ag⟩;refine cZ rfl ?_;have f0:75<=TT:=by decide
 have h1:=al.bp.a;have h2:=al.bp.b;have aF:=al.bp.c;refine⟨_,rfl,_,rfl,rfl,_,_,rfl,_,_,rfl,_,_,rfl,rfl,?_⟩;walk_at "w"
 have w9:(if s.2.1=true then(1:Int)else 0)=0\/(if s.2.1=true then(1:Int)else 0)=1:=by
  cases s.2.1<;>simp
 have aeo:wp (if s.2.1=true then(1:Int)else 0)<=9:=by rcases w9 with e|e<;>rw[e]<;>decide
 have iu:wp (1-2*(if s.2.1=true then(1:Int)else 0))<=9:=by rcases w9 with e|e<;>rw[e]<;>decide
 refine .inr ⟨s.2.1,rfl,2,_,rfl,rfl,⟨by decide,aW aeo⟩,1,_,rfl,rfl,?_⟩
 have ag:k (.val (.lst ((s.1.map λp=>cC ((1-2*(if s.2.1=true then 1 else 0))*(p.1*s.2.2.2.2-s.2.2.1*p.2.2)) ((1-2*(if s.2.1=true then 1 else 0))*(p.2.1*s.2.2.2.2-s.2.2.2.1*p.2.2)) (p.2.2*s.2.2.2.2)).map dP))):=by
  rw[pr]at ag;have e:(s.1.map λp=>cC ((1-2*(if s.2.1=true then 1 else 0))*(p.1*s.2.2.2.2-s.2.2.1*p.2.2)) ((1-2*(if s.2.1=true then 1 else 0))*(p.2.1*s.2.2.2.2-s.2.2.2.1*p.2.2)) (p.2.2*s.2.2.2.2))=s.1.map λp=>if s.2.1=true then trn (nP (sld (trn s.2.2) p))else nP (sld (trn s.2.2) p):=TM λp ax=>Sp (ae p ax).pt al.pt s.2.1
  rw[e];exact ag
 dsimp only;generalize(1-2*(if s.2.1=true then(1:Int)else 0))=g at iu ag⊢;refine cZ rfl ?_;walk_at "wd";refine oY (f:=dP) (rs:=s.1) (done:=[]) (λpre ρ=>∃eJ eK ff,ρ=[.val (dS s),.val (.lst (s.1.map dP)),.val (.bl s.2.1),.val (dP s.2.2),.val (.int g),.own ((pre.map λp=>cC (g*(p.1*s.2.2.2.2-s.2.2.1*p.2.2)) (g*(p.2.1*s.2.2.2.2-s.2.2.2.1*p.2.2)) (p.2.2*s.2.2.2.2)).map dP),eJ,eK,ff]) ⟨_,_,_,rfl⟩ ?_ (λρ h=>?_);rotate_left
 ·obtain⟨eJ,eK,ff,rfl⟩:=h;exact⟨_,rfl,_,rfl,ag⟩
 rintro pre p rest ρ aB ⟨eJ,eK,ff,rfl⟩ N aG;have ax:p∈s.1:=by rw[Tc]at aB;rw[aB];simp
 have bb:=(ae p ax).bp.a;have cX:=(ae p ax).bp.b;have fN:=(ae p ax).bp.c;have cp:pre.length<s.1.length:=by rw[Tc]at aB;rw[aB,SH,SN];lia
 walk_at "w";refine⟨_,_,_,rfl,SF (ae p ax).pt.1 al.pt.1,by walk_at "bits",?_⟩;dsimp only[cb];refine⟨by rw[Sw,Sw];lia,aG _ ⟨.val (dP p),.val (.int (p.1*s.2.2.2.2-s.2.2.1*p.2.2)),.val (.int (p.2.1*s.2.2.2.2-s.2.2.2.1*p.2.2)),?_⟩⟩;rw[SJ,SJ];rfl
theorem aep :
  bZ P w K mg base "_law_kept" ["_law_olds","_law_news"] 6 (b7 K 2 ade):=by
 refine dr Y.f_law_kept Dy rfl (λ_ _ _ _ _ _ _ ak=>⟨_,(a5 (k8 PassesOwn.never rfl (Fi (di (a2 i9 (a2 i9 bY)))) (fM (i:=2) Dy.nd rfl (SI rfl)) (a5 (tQ 3 (wT (i:=3) Dy.nd rfl rfl (ts:=["_law_piece"]) (fr:=["_law_flag"]) (js:=[2]) (iv (af 1)) (λ_ _ _ _=>(fM (i:=0) (show S7 (["_law_piece","_law_flag"]:Zm) by decide +kernel) rfl (SA rfl))) (λ_ _ _ _=>(FQ (wH (ak.units) (ei 0) (af 1) (dJ _)))) (λ_ _ _ _=>(a8 (Kl B Y) ak (aw (af 0) aX))) ⟨rfl,by decide +kernel,rfl,by decide +kernel,ib (Tp.mpr ⟨rfl,(S' _)⟩),iw rfl,by walk_at "ffr",rfl⟩)) (bB (fq (hP (hO (a8 (Kf B Y) ak (aw (af 3) (aw (ee (mW (ts:=["_law_piece"]) (fr:=["_law_flag"]) (js:=[2]) (iv (af 0)) (λ_ _ _ _=>(fM (i:=0) (show S7 (["_law_piece","_law_flag"]:Zm) by decide +kernel) rfl (SA rfl))) (λ_ _ _ _=>(FQ (wH (ak.units) (ei 0) (af 1) (dJ _)))) (λ_ _ _ _=>(a8 (Kl B Y) ak (aw (af 0) aX))) ⟨rfl,by decide +kernel,rfl,by decide +kernel,ib (Tp.mpr ⟨rfl,(S' _)⟩),iw rfl,by walk_at "ffr",rfl⟩)) aX))))) (bB (cz i9)) fp)))) (bB (cz i9))),?_⟩);rintro as k am ⟨os,ns,rfl,aA,aM,nB,oy,bal,ag⟩;refine cZ rfl ?_;have f0:1000<=TT:=by decide
 refine dX (λρ=>∃dC af,ρ=[.val (.lst (os.map dS)),.val (.lst (ns.map dS)),dC,af]) ?_ (λN aG=>?_)
 ·rintro ρ ⟨dC,af,rfl⟩;exact ag
 refine⟨f6,_,rfl,?_⟩;refine oY (f:=D.bl) (rs:=[false,true]) (done:=[]) (λ_ ρ=>∃dC af,ρ=[.val (.lst (os.map dS)),.val (.lst (ns.map dS)),dC,af]) ⟨_,_,rfl⟩ ?_ (λρ h=>aG _ h);clear aG;rintro pre b rest ρ aB ⟨dC,af,rfl⟩ N aG
 have flt:∀(L:Ze),(∀s∈L,jK s)->L.length<=110->∀(k:Zh->Prop),k (((L.filter λs=>s.2.1==b).map fP).map fR)->gX (e0 0) (qe (tD false (AK (gD 0) (oE (D.int 1))) (gD 1))) (oI 1 J9 (k5 (gD 0) wq)) (L.map dS) [.no,.val (.bl b)] k:=λL e5 am k ag=>by
  refine B4 (f:=dS) (h:=λs=>fR (fP s)) (P:=λs=>s.2.1==b) (λs ax k ag=>?_) (λs ax k ag=>?_) (by rw[SU]at ag;exact ag)
  ·refine⟨_,rfl,_,_,_,.inl rfl,rfl,rfl,_,rfl,.B,rfl,rfl,by decide,_,rfl,?_⟩;rw[Sq];exact ag
  ·have hH:=e5 s ax;exact⟨_,rfl,rfl,s,rfl,aW hH.ln,λp ae=>(hH.ps p ae),hH.st.mono (by decide),ag⟩
 have sz:∀(L:Ze),(∀s∈L,jK s)->L.length<=110->((((L.filter λs=>s.2.1==b).map fP)).map S0).sum<=2640:=λL e5 am=>by
  rw[SU]
  have:=x5 (f:=S0∘fP) (m:=24) (l:=L.filter λs=>s.2.1==b) λs ax=>by
   show(fP s).length<=24
   rw[H7];exact(e5 s (Uw.mp ax).1).ln
  have bt:=Vp (λs:Piece=>s.2.1==b) L;lia
 have rg:∀(L:Ze),(∀s∈L,jK s)->∀ps∈(L.filter λs=>s.2.1==b).map fP,nZ ps:=λL e5 ps ae=>by
  obtain⟨s,ax,rfl⟩:=SM.mp ae;exact(e5 s (Uw.mp ax).1).first.1
 refine dX (λρ=>ρ=[.val (.lst (os.map dS)),.val (.lst (ns.map dS)),.val (.bl b),.val (.lst (((ns.filter λs=>s.2.1==b).map fP).map fR))]) ?_ (λoe il=>?_);rotate_left
 ·refine⟨_,rfl,_,rfl,by rw[Sw];lia,?_⟩;exact flt ns oy aM _ ⟨_,rfl,il _ rfl⟩
 rintro ρ rfl;refine⟨_,rfl,_,rfl,_,rfl,by rw[Sw];lia,?_⟩;refine flt os nB (by lia) _ ?_
 have z1:((((os.filter λs=>s.2.1==b).map fP)).map S0).sum<=960:=by
  rw[SU]
  have:=x5 (f:=S0∘fP) (m:=24) (l:=os.filter λs=>s.2.1==b) λs ax=>by
   show(fP s).length<=24
   rw[H7];exact(nB s (Uw.mp ax).1).ln
  have bt:=Vp (λs:Piece=>s.2.1==b) os;lia
 have aP:=sz ns oy aM;exact⟨rfl,_,_,rfl,rg ns oy,rg os nB,by lia,bal b,_,rfl,gn (aG _ ⟨_,_,rfl⟩)⟩
theorem aeq :
  bZ P w K mg base "_law_lies" ["_law_sheet_here","_law_ring"] 6 (b7 K 2 adf):=by
 refine dr Y.f_law_lies J' rfl (λ_ _ _ _ _ _ _ ak=>⟨_,(a5 (fq (hP (hO (mS (T:="list") (af 0) (by rfl) B.isinstance_ (mF (v:=.ty "list") (u:=.type "list") (by rfl) B.list_ (by decide +kernel) rfl) rfl rfl rfl))) (bB (cz i9)) fp) (a5 (k8 PassesOwn.never rfl (iv (af 0)) (dd 2 J'.nd) (a5 (fq (lY (w_or (hP (hO (mS (T:="tuple") (af 2) (by rfl) B.isinstance_ (mF (v:=.ty "tuple") (u:=.type "tuple") (by rfl) B.tuple_ (by decide +kernel) rfl) rfl rfl rfl))) (w_or (gc (f:=λi j => !decide (i=j)) ru (ku (af 2) (by rfl) B.len_) aY (dJ _)) (mR (hP (hO (mS (T:="bool") (ei 2) (by rfl) B.isinstance_ (mF (v:=.ty "bool") (u:=.type "bool") (by rfl) B.bool_ (by decide +kernel) rfl) rfl rfl rfl))))))) (bB (cz i9)) fp) (bB (fq (lY (w_or (hP (hO (a8 (ael B Y) ak (aw (ei 2) aX)))) (mR (hP (hO (a8 (Kh B Y) ak (aw (ei 2) aX))))))) (bB (cz i9)) fp)))) (bB (cz (a8 (Kf B Y) ak (aw (ee (mW (ts:=["_law_piece"]) (fr:=[]) (js:=[]) (iv (af 0)) (λ_ _ _ _=>(fM (i:=0) (show S7 (["_law_piece"]:Zm) by decide +kernel) rfl (SA rfl))) (λ_ _ _ _=>jd) (λ_ _ _ _=>(ei 0)) ⟨rfl,by decide +kernel,rfl,by decide +kernel,ib (S' _),iw rfl,by walk_at "ffr",rfl⟩)) (aw (ee (fY (a2 (af 1) bY))) aX))))))),?_⟩);rintro as k am ⟨sh,cl,rfl,am,al,au,bal,ag⟩;refine cZ rfl ?_;have f0:1000<=TT:=by decide
 refine lc (λN aG=>?_) ?_
 ·exact⟨_,rfl,_,_,rfl,λ_=>rfl,_,rfl,gn aG⟩
 refine dX (λρ=>∃dC,ρ=[.val (.lst (sh.map dS)),.val (.lst (cl.map dP)),dC]) ?_ (λN aG=>?_);rotate_left
 ·refine⟨_,rfl,_,rfl,?_⟩;refine oY (f:=dS) (rs:=sh) (done:=[]) (λ_ ρ=>∃dC,ρ=[.val (.lst (sh.map dS)),.val (.lst (cl.map dP)),dC]) ⟨_,rfl⟩ ?_ (λρ h=>aG _ h);rintro pre s rest ρ aB ⟨dC,rfl⟩ N aG;have hH:=al s (by rw[Tc]at aB;rw[aB];simp);refine lc (λoe il=>?_) ?_
  ·refine⟨_,rfl,_,_,rfl,λ_=>rfl,_,rfl,gn ?_⟩;refine⟨_,rfl,_,rfl,_,_,rfl,rfl,_,rfl,gn ?_⟩;exact⟨_,rfl,_,_,_,.inl rfl,rfl,rfl,_,_,rfl,λ_=>rfl,_,rfl,gn il⟩
  refine⟨_,rfl,_,_,_,.inl rfl,rfl,rfl,rfl,s.1,rfl,aW hH.ln,hH.cv,λp ae=>(hH.ps p ae).mono (by decide),_,rfl,gn ?_⟩;exact⟨_,rfl,_,_,_,.inl rfl,rfl,rfl,rfl,s.2.2,rfl,hH.st.pt,_,rfl,gn (aG _ ⟨_,rfl⟩)⟩
 rintro ρ ⟨dC,rfl⟩;refine⟨_,rfl,_,rfl,by rw[Sw];lia,?_⟩;refine lf (f:=dS) (h:=λs=>fR s.1) (λs ax k ag=>⟨_,rfl,_,_,_,.inl rfl,rfl,rfl,ag⟩) ?_;have gk:=x5 (f:=λs:Piece=>s.1.length) (m:=24) (l:=sh) λs ax=>(al s ax).ln;refine⟨_,rfl,q5,rfl,sh.map (λs=>s.1),[cl],by rw[SU];rfl,?_,?_,?_,bal,ag⟩
 ·intro ps ae;obtain⟨s,ax,rfl⟩:=SM.mp ae;exact(al s ax).rg
 ·intro ps ae;rw[SO.mp ae];exact au
 ·rw[SU];have e:(sh.map (S0∘λs=>s.1)).sum=(sh.map λs:Piece=>s.1.length).sum:=rfl;have:=au.1;rw[e];simp only[SG,TG,SQ,UD];lia
theorem aer :
  bZ P w K mg base "_law_copied" ["_law_sheet_here"] 2 (b7 K 1 adh):=by
 refine dr Y.f_law_copied adg rfl (λ_ _ _ _ _ _ _ ak=>⟨_,(bB (AP (mW (ts:=["_law_ring","_law_flag","_law_step"]) (fr:=[]) (js:=[]) (iv (af 0)) (λ_ _ _ _=>(gT (n:=3) rfl (c7 (fM (i:=0) (show S7 (["_law_ring","_law_flag","_law_step"]:Zm) by decide +kernel) rfl (SA rfl)) (c7 (fM (i:=1) (show S7 (["_law_ring","_law_flag","_law_step"]:Zm) by decide +kernel) rfl (SA rfl)) (c7 (fM (i:=2) (show S7 (["_law_ring","_law_flag","_law_step"]:Zm) by decide +kernel) rfl (SA rfl)) gF))))) (λ_ _ _ _=>jd) (λ_ _ _ _=>(di (a2 (ee (N1 (af 0) (by rfl) B.list_)) (a2 (af 1) (a2 (af 2) bY))))) ⟨rfl,by decide +kernel,rfl,by decide +kernel,ib (S' _),iw rfl,by walk_at "ffr",rfl⟩))),?_⟩);rintro as k am ⟨sh,rfl,am,ag⟩;refine cZ rfl ?_;have f0:1000<=TT:=by decide
 refine⟨_,rfl,_,rfl,by rw[Sw];lia,?_⟩;exact Bu (h:=dS) (fs:=[]) (λs al bV m2=>⟨_,rfl,_,.inl rfl,_,rfl,_,rfl,kj,m2⟩) ag
theorem DG :
  bZ P w K mg base "_law_product" ["_law_one","_law_other"] 4 (b7 K 2 adj):=by
 refine dr Y.f_law_product adi rfl (λ_ _ _ _ _ _ _ ak=>⟨_,(bB (cz (a8 (vw B Y) ak (aw (cF (ei 0) (ei 1)) (aw (cF (ei 0) (ei 1)) aX))))),?_⟩);rintro as k am ⟨r,s,rfl,h1,h2,a7,bd,eR,gS,ag⟩;refine cZ rfl ?_;walk_at "w";exact⟨_,_,rfl,SF h1 h2,by walk_at "bits",ag⟩
theorem DH :
  bZ P w K mg base "_law_pin" ["_law_x","_law_y"] 4 (b7 K 2 adl):=by
 refine dr Y.f_law_pin adk rfl (λ_ _ _ _ _ _ _ ak=>⟨_,(bB (cz (a8 (yP B Y) ak (aw (cF (ei 0) (ei 1)) (aw (cF (ei 1) (ei 0)) (aw (cF (ei 0) (ei 1)) aX)))))),?_⟩);rintro as k am ⟨r,s,rfl,h1,h2,a7,bd,eR,gS,ag⟩;refine cZ rfl ?_;walk_at "w";exact⟨_,_,_,rfl,SF h1 h2,by walk_at "bits",ag⟩
theorem Km :
  bZ P w K mg base "_law_box" ["_law_wide","_law_high"] 5 (b7 K 2 adn):=by
 refine dr Y.f_law_box adm rfl (λ_ _ _ _ _ _ _ ak=>⟨_,(bB (cz (ee (fY (a2 (di (a2 aY (a2 aY (a2 aY bY)))) (a2 (a8 (DH B Y) ak (aw (af 0) (aw (di (a2 aY (a2 aY bY))) aX))) (a2 (a8 (DH B Y) ak (aw (af 0) (aw (af 1) aX))) (a2 (a8 (DH B Y) ak (aw (di (a2 aY (a2 aY bY))) (aw (af 1) aX))) bY)))))))),?_⟩);rintro as k am ⟨w,h,rfl,bj,bt,a7,bd,eR,gS,ag⟩;refine cZ rfl ?_;have ex:cC (w.1*1) (0*w.2) (w.2*1)=(w.1,0,w.2):=by rw[U9,TY,U9];exact FZ (Gs bj)
 have fl:cC (0*h.2) (h.1*1) (1*h.2)=(0,h.1,h.2):=by rw[TY,U9,Wf];exact FZ (Gu bt)
 refine⟨kj,?_⟩;refine⟨_,rfl,f6,rfl,w,(0,1),rfl,bj.1,by decide,aW a7,aW bd,by decide,by decide,?_⟩;dsimp only[cb];rw[ex];refine⟨_,rfl,_,rfl,rfl,w,h,rfl,bj.1,bt.1,aW a7,aW bd,aW eR,aW gS,?_⟩;dsimp only[cb];refine⟨f6,_,rfl,rfl,(0,1),h,rfl,by decide,bt.1,by decide,by decide,aW eR,aW gS,?_⟩;dsimp only[cb];rw[fl];exact⟨by show 4<=TT;decide,ag⟩
theorem Kn :
  bZ P w K mg base "_law_is_low" ["_law_found"] 3 (b7 K 1 adp):=by
 refine dr Y.f_law_is_low ado rfl (λ_ _ _ _ _ _ _ ak=>⟨_,(a5 (fq (lY (w_or (hP (hO (mS (T:="tuple") (af 0) (by rfl) B.isinstance_ (mF (v:=.ty "tuple") (u:=.type "tuple") (by rfl) B.tuple_ (by decide +kernel) rfl) rfl rfl rfl))) (w_or (gc (f:=λi j => !decide (i=j)) ru (ku (af 0) (by rfl) B.len_) aY (dJ _)) (w_or (hP (hO (a8 (DF B Y) ak (aw (ei 0) aX)))) (mR (hP (hO (a8 (DF B Y) ak (aw (ei 0) aX))))))))) (bB (cz i9)) fp) (bB (cz (tm (mQ (f:=λi j=>decide (j<i)) rj (ei 0) aY (dJ _)) (tm (mQ (f:=λi j=>decide (j<i)) rj (ei 0) aY (dJ _)) (wn (mQ (f:=λi j=>decide (i=j)) kZ (a8 (pM B Y) ak (aw (ei 0) (aw (ei 0) aX))) aY (dJ _)))))))),?_⟩);rintro as k am ⟨r,rfl,am,h0,ag⟩;refine cZ rfl ?_;have o1:((Hh r.1 r.2:Nat):Int)=1:=by rw[am.2];rfl
 have c0:=am.1;refine lc (λN aG=>?_) ?_
 ·refine⟨_,rfl,_,_,rfl,λ_=>rfl,_,rfl,gn ?_⟩;refine⟨_,rfl,_,rfl,_,_,rfl,rfl,_,rfl,gn ?_⟩;refine⟨_,rfl,_,_,_,.inl rfl,rfl,rfl,rfl,r.1,rfl,_,rfl,gn ?_⟩;exact⟨_,rfl,_,_,_,.inl rfl,rfl,rfl,rfl,r.2,rfl,_,rfl,gn aG⟩
 walk_at "w";rw[SC (Xl h0)];walk_at "w";rw[SC (Xl c0)];walk_at "w";refine⟨_,_,rfl,?_⟩;dsimp only[cb];rw[o1];exact⟨_,_,rfl,rfl,ag⟩
theorem aes :
  bZ P w K mg base "_law_is_box" ["_law_found"] 7 (b7 K 1 ads):=by
 refine dr Y.f_law_is_box adq rfl (λ_ _ _ _ _ _ _ ak=>⟨_,(a5 (fq (lY (w_or (hP (hO (mS (T:="tuple") (af 0) (by rfl) B.isinstance_ (mF (v:=.ty "tuple") (u:=.type "tuple") (by rfl) B.tuple_ (by decide +kernel) rfl) rfl rfl rfl))) (w_or (gc (f:=λi j => !decide (i=j)) ru (ku (af 0) (by rfl) B.len_) aY (dJ _)) (w_or (hP (hO (a8 (Kn B Y) ak (aw (ei 0) aX)))) (mR (hP (hO (a8 (Kn B Y) ak (aw (ei 0) aX))))))))) (bB (cz i9)) fp) (bB (cz (a8 (aeq B Y) ak (aw (ei 0) (aw (a8 (Km B Y) ak (aw (ei 0) (aw (ei 0) aX))) aX)))))),?_⟩);rintro as k am ⟨w,h,sh,rfl,bj,bt,a7,bd,eR,gS,w0,h0,am,al,bal,ag⟩;refine cZ rfl ?_;refine lc (λN aG=>?_) ?_
 ·refine⟨_,rfl,_,_,rfl,λ_=>rfl,_,rfl,gn ?_⟩;refine⟨_,rfl,_,rfl,_,_,rfl,rfl,_,rfl,gn ?_⟩;refine⟨_,rfl,_,_,_,.inl rfl,rfl,rfl,rfl,w,rfl,bj,w0,_,rfl,gn ?_⟩;exact⟨_,rfl,_,_,_,.inl rfl,rfl,rfl,rfl,h,rfl,bt,h0,_,rfl,gn aG⟩
 refine⟨_,rfl,_,_,_,.inl rfl,rfl,rfl,_,rfl,_,_,_,.inl rfl,rfl,rfl,_,rfl,_,_,_,.inl rfl,rfl,rfl,rfl,w,h,rfl,bj,bt,aW a7,aW bd,aW eR,aW gS,?_⟩;dsimp only[cb];exact⟨rfl,sh,iy w h,rfl,am,al,acW ⟨bj,bt,w0,h0⟩ a7 bd eR gS,bal,ag⟩
theorem aet :
  bZ P w K mg base "_law_size" ["_law_bag_here"] 4 (b7 K 1 adu):=by
 refine dr Y.f_law_size adt rfl (λ_ _ _ _ _ _ _ ak=>⟨_,(a5 (fq (gc (f:=λi j=>decide (i=j)) kZ (a8 (hZ B Y) ak (gR 0 (aw aY aX))) aY (dJ _)) (bB (cz (a8 (vw B Y) ak (aw (eQ aY (a8 (hZ B Y) ak (gR 0 (aw aY aX)))) (aw (eQ aY (a8 (hZ B Y) ak (gR 0 (aw aY aX)))) aX))))) fp) (bB (cz (a8 (vw B Y) ak (aw (eQ aY (a8 (hZ B Y) ak (gR 0 (aw aY aX)))) (aw (eQ aY (a8 (hZ B Y) ak (gR 0 (aw aY aX)))) aX)))))),?_⟩);rintro as k am ⟨rfl,ag⟩;refine cZ rfl ?_
 have eL:∀t b:Int,0<t->0<b->wp t<=10->wp b<=10->k (.val (dR (cw t b))):=λt b mc b0 lH xn=>by
  obtain⟨l,e,aR,bK⟩:=hB (t:=t) (b:=b) (SD b0);refine ag _ l ?_ (d6 aR lH) (d6 bK xn);have:0<(cw t b).1*b:=by rw[e];exact SF mc l.1
  exact UO this b0
 have sM:∀x:Int,0<=x->x<=1000->wp x<=10:=λx ce bF=>intBits_le_iff.mpr (by show x.natAbs<1024;lia);walk_at "w";intro c hS c1;walk_at "wd";refine gP (λ_=>?_) (λ_=>?_)
 ·walk_at "w";intro x ce bF;walk_at "w";intro y b8 bI;walk_at "w";exact⟨1+x,1+y,rfl,by lia,SE (sM (1+y) (by lia) (by lia)) (by decide),eL _ _ (by lia) (by lia) (sM _ (by lia) (by lia)) (sM _ (by lia) (by lia))⟩
 ·walk_at "w";intro x ce bF;walk_at "w";intro y b8 bI;walk_at "w";exact⟨1+x,1+y,rfl,by lia,SE (sM (1+y) (by lia) (by lia)) (by decide),eL _ _ (by lia) (by lia) (sM _ (by lia) (by lia)) (sM _ (by lia) (by lia))⟩
theorem aeu :
  bZ P w K mg base "_law_near" ["_law_bag_here","_law_wide"] 5 (b7 K 2 adw):=by
 refine dr Y.f_law_near adv rfl (λ_ _ _ _ _ _ _ ak=>⟨_,(bB (cz (a8 (DG B Y) ak (aw (af 1) (aw (di (a2 (eQ aY (a8 (hZ B Y) ak (gR 0 (aw aY aX)))) (a2 aY bY))) aX))))),?_⟩);rintro as k am ⟨g,rfl,aJ,aV,bC,bD,ag⟩;refine cZ rfl ?_;have m:∀{z:Int}{a b:Nat},wp z<=a->a<=b->wp z<=b:=λh g=>SE h g;walk_at "w";intro d ix bo;walk_at "w";obtain⟨bF,e2,mm,ka,aev,aew⟩:=acV aJ aV bC bD ix bo;exact⟨g,(4+d,11),rfl,aJ.1,show(0:Int)<11 by decide,aW bC,aW bD,SE (intBits_le_iff.mpr (show(4+d).natAbs<2^6 by show(4+d).natAbs<64;lia)) (by decide),show wp 11<=1000 by decide,ag _ bF e2 mm ka aev aew⟩
theorem aex :
  bZ P w K mg base "_law_tall" ["_law_boxes","_law_wide"] 5 (b7 K 2 adx):=by
 refine dr Y.f_law_tall pJ rfl (λ_ _ _ _ _ _ _ ak=>⟨_,(a5 (cO 2 pJ.nd (di (a2 aY (a2 aY bY)))) (a5 (k8 PassesOwn.never rfl (iv (af 0)) (gT (n:=3) rfl (c7 (dd 3 pJ.nd) (c7 (dd 4 pJ.nd) (c7 (dd 5 pJ.nd) gF)))) (a5 (jc (a8 (DG B Y) ak (aw (af 3) (aw (af 4) aX))) (gT (n:=2) rfl (c7 (dd 6 pJ.nd) (c7 (dd 7 pJ.nd) gF)))) (bB (cO 2 pJ.nd (a8 (vw B Y) ak (aw (eQ (cF (ei 2) (af 7)) (cF (af 6) (ei 2))) (aw (cF (ei 2) (af 7)) aX))))))) (bB (cz (a8 (DG B Y) ak (aw (af 2) (aw (di (a2 (ei 1) (a2 (ei 1) bY))) aX))))))),?_⟩);rintro as k am ⟨g,H,bs,rfl,aJ,aV,bC,bD,ab,am,bU,hW,ag⟩;refine cZ rfl ?_;have m:∀{z:Int}{a b:Nat},wp z<=a->a<=b->wp z<=b:=λh g=>SE h g;obtain⟨aey,d1,cY,BM⟩:=Dt ab am;have aez:=acU aJ aV ab am bU hW;refine dX (λρ=>ρ=[.val (.lst (bs.map dBx)),.val (dR g),.val (dR (i0 [])),.no,.no,.no,.no,.no]) ?_ (λN aG=>⟨f6,aG _ rfl⟩);rintro ρ rfl;refine dX (λρ=>∃af fe gx eJ eK:aD,ρ=[.val (.lst (bs.map dBx)),.val (dR g),.val (dR (i0 bs)),af,fe,gx,eJ,eK]) ?_ (λN aG=>?_)
 ·rintro ρ ⟨af,fe,gx,eJ,eK,rfl⟩;refine⟨_,rfl,_,rfl,_,_,_,.inl rfl,rfl,rfl,_,rfl,_,_,_,.inl rfl,rfl,rfl,f6,rfl,i0 bs,(g.2,g.1),rfl,aey.1,aV,aW d1,aW cY,aW bD,aW bC,?_⟩;dsimp only;rw[aez];exact ag
 refine⟨_,rfl,_,rfl,?_⟩;refine J4 (done:=[]) (bs:=bs) (λpre ρ=>∃af fe gx eJ eK:aD,ρ=[.val (.lst (bs.map dBx)),.val (dR g),.val (dR (i0 pre)),af,fe,gx,eJ,eK]) ⟨_,_,_,_,_,rfl⟩ ?_ (λρ h=>?_);rotate_left
 ·obtain⟨af,fe,gx,eJ,eK,rfl⟩:=h;exact aG _ ⟨_,_,_,_,_,rfl⟩
 rintro pre x rest ρ aB ⟨af,fe,gx,eJ,eK,rfl⟩ oe il;rw[Tc]at aB;have hk:=ab x (by rw[aB];simp);have kJ:pre.length<=8:=by rw[aB]at am;simp at am;lia
 obtain⟨kO,cW,cS,_⟩:=Dt (g:=g) (bs:=pre) (λb gw=>ab b (by rw[aB];simp[gw])) kJ;obtain⟨fH,bF,e2,_⟩:=Ds hk;dsimp only;refine⟨_,rfl,_,rfl,rfl,x.1,x.2.1,rfl,hk.lw.1,hk.lh.1,m hk.c1 (by decide),m hk.c2 (by decide),m hk.c3 (by decide),m hk.c4 (by decide),?_⟩;dsimp only[cb];have aR:=m cW (show 170<=4000 by decide);have bK:=m cS (show 170<=4000 by decide);have bI:=m bF (show 20<=4000 by decide);have dD:=m e2 (show 20<=4000 by decide);refine⟨_,rfl,rfl,_,_,rfl,_,_,rfl,rfl,?_⟩;walk_at "w";refine⟨_,_,rfl,SF kO.1 fH.1,SE (TD cS e2) (by decide),?_⟩;exact il _ ⟨_,_,_,_,_,by rw[acT];rfl⟩
theorem aeA :
  bZ P w K mg base "_law_pieces" ["_law_some"] 2 (b7 K 1 ady):=by
 refine dr Y.f_law_pieces Dz rfl (λ_ _ _ _ _ _ _ ak=>⟨_,(a5 (k7 (i:=1) Dz.nd rfl (SA rfl) (fY bY)) (a5 (k8 PassesOwn.never rfl (iv (af 0)) (dd 2 Dz.nd) (bB (A9 1 (hQ (af 2) (i' aY) (λ_ _=>rfl))))) (k6 1 (bB (cz (af 1)))))),?_⟩);rintro as k am ⟨bs,rfl,am,ag⟩;refine cZ rfl ?_;have f0:=jN;refine dX (λρ=>ρ=[.val (.lst (bs.map dBx)),.own (.l ((((([]:Zi).map λb=>b.2.2).flatten)).map dS)),.no]) ?_ (λN aG=>⟨S8 _,aG _ rfl⟩);rintro ρ rfl;refine dX (λρ=>∃dC:aD,ρ=[.val (.lst (bs.map dBx)),.own (.l ((bs.map λb=>b.2.2).flatten.map dS)),dC]) ?_ (λN aG=>?_)
 ·rintro ρ ⟨dC,rfl⟩;exact⟨_,rfl,_,rfl,ag⟩
 refine⟨_,rfl,_,rfl,?_⟩;refine oY (f:=dBx) (rs:=bs) (done:=[]) (λpre ρ=>∃dC:aD,ρ=[.val (.lst (bs.map dBx)),.own (.l ((pre.map λb=>b.2.2).flatten.map dS)),dC]) ⟨_,rfl⟩ ?_ (λρ h=>?_);rotate_left
 ·obtain⟨dC,rfl⟩:=h;exact aG _ ⟨dC,rfl⟩
 rintro pre x rest ρ aB ⟨dC,rfl⟩ oe il;rw[Tc]at aB
 have kJ:(pre.map λb=>b.2.2).flatten.length+x.2.2.length<=400:=by
  rw[VD,SU]
  have e:(pre.map λb=>b.2.2.length).sum+(x.2.2.length+(rest.map λb=>b.2.2.length).sum)<=400:=by
   rw[aB]at am;simpa using am
  have ap:(Ui (S0∘λb:BoxD=>b.2.2) pre).sum=(pre.map λb=>b.2.2.length).sum:=rfl;lia
 refine⟨_,rfl,_,rfl,_,rfl,_,_,_,.inl rfl,rfl,(rfl:dW [dR x.1,dR x.2.1,dSh x.2.2] (-1)=some (dSh x.2.2)),x.2.2.map dS,rfl,by rw[Sw,Sw];lia,?_⟩
 have e:(pre.map λb=>b.2.2).flatten.map dS++x.2.2.map dS=((pre++[x]).map λb=>b.2.2).flatten.map dS:=by
  rw[SJ,List.flatten_append,SJ];simp
 rw[e];exact il _ ⟨_,rfl⟩
theorem aeB :
  bZ P w K mg base "_law_right" ["_law_found","_law_boxes","_law_wide"] 8 (b7 K 3 adA):=by
 refine dr Y.f_law_right adz rfl (λ_ _ _ _ _ _ _ ak=>⟨_,(a5 (fq (lY (w_or (hP (hO (mS (T:="tuple") (af 0) (by rfl) B.isinstance_ (mF (v:=.ty "tuple") (u:=.type "tuple") (by rfl) B.tuple_ (by decide +kernel) rfl) rfl rfl rfl))) (mR (gc (f:=λi j => !decide (i=j)) ru (ku (af 0) (by rfl) B.len_) aY (dJ _))))) (bB (cz i9)) fp) (a5 (fq (wH (ak.units) (af 1) (ee (fY bY)) (dJ _)) (bB (cz (acP (ak.units) (af 0) (di (a2 (af 2) (a2 (di (a2 aY (a2 aY bY))) (a2 (ee (fY bY)) bY)))) (dJ _)))) fp) (a5 (fq (lY (w_or (hP (hO (a8 (aes B Y) ak (aw (af 0) aX)))) (mR (Fv (ak.units) (O6 (af 0) wx (rF aY)) (di (a2 (af 2) (a2 (a8 (aex B Y) ak (aw (af 1) (aw (af 2) aX))) bY))) (dJ _))))) (bB (cz i9)) fp) (bB (cz (a8 (aep B Y) ak (aw (a8 (aeA B Y) ak (aw (af 1) aX)) (aw (ei 0) aX)))))))),?_⟩);rintro as k am ⟨kE,g,H,bs,S,rfl,aJ,aV,bC,bD,ab,iC,a4,bu,cu,ag⟩;refine cZ rfl ?_;have m:∀{z:Int}{a b:Nat},wp z<=a->a<=b->wp z<=b:=λh g=>SE h g;rcases bu with⟨rfl,rfl⟩|⟨ne,rfl⟩
 ·refine lc (λN aG=>?_) ?_
  ·refine⟨_,rfl,_,_,rfl,λ_=>rfl,_,rfl,gn ?_⟩;exact⟨_,rfl,_,rfl,_,_,rfl,rfl,_,rfl,gn aG⟩
  refine⟨_,rfl,S8 _,.L .I,rfl,rfl,by decide,_,rfl,?_⟩;refine FF (λ_=>?_) (λz=>absurd rfl z);exact⟨_,rfl,_,rfl,f6,S8 _,kj,dR g,.T [.I,.I],[0,1],rfl,rfl,rfl,by decide,ag⟩
 obtain⟨rfl,rfl⟩:=cu ne;obtain⟨bU,gg,bo,bG,qX,sz,bal,vr⟩:=J1 ab iC a4 aJ aV bC bD ne
 have k4:D.lst (bs.map dBx)≠.lst []:=λz=>by
  cases bs with
  |nil=>exact ne rfl
  |cons _ _=>cases z
 have kY:∀s∈(bs.map λb=>b.2.2).flatten,jK s:=λs al=>by
  obtain⟨l,mr,eF⟩:=Xc.mp al;obtain⟨b,fK,rfl⟩:=SM.mp mr;exact((ab b fK).px s eF).pcu (by decide) (by decide) (by decide)
 have ln:(bs.map λb=>b.2.2).flatten.length<=9:=by
  rw[VD,SU];exact a4
 have kp:∀b:Bool,fS (((dh (dm g bs) (0,1)).filter λs=>s.2.1==b).map fP) (((bs.map λb=>b.2.2).flatten.filter λs=>s.2.1==b).map fP):=λb φ=>by
  have e:=(De φ b (Ss:=bs.map λb=>b.2.2) λS aeC=>by
   obtain⟨x,cA,rfl⟩:=SM.mp aeC
   exact(ab x cA).kp).1
  exact(vr φ b).trans e.symm
 refine lc (λN aG=>?_) ?_
 ·refine⟨_,rfl,_,_,rfl,λ_=>rfl,_,rfl,gn ?_⟩;exact⟨_,rfl,_,rfl,_,_,rfl,rfl,_,rfl,gn aG⟩
 refine lc (λN aG=>?_) ?_
 ·refine⟨_,rfl,S8 _,_,vt bs,rfl,by decide,_,rfl,?_⟩;exact FF (λz=>absurd z k4) (λ_=>aG)
 have hC:gV [dR g,dR (bN (dm g bs) (0,1)),dSh (dh (dm g bs) (0,1))] none (some 2)=[dR g,dR (bN (dm g bs) (0,1))]:=by
  rw[FS (by decide) (by show(2:Int)<=3;decide)];rfl
 refine lc (λN aG=>?_) ?_
 ·refine⟨_,rfl,rfl,g,bN (dm g bs) (0,1),dh (dm g bs) (0,1),rfl,aJ,bU,aW bC,aW bD,aW bo,aW bG,aV,gg,aW sz.2,λs al=>(sz.1 s al).pcu (by decide) (by decide) (by decide),bal,_,rfl,gn ?_⟩;refine⟨_,rfl,_,rfl,_,rfl,λz=>absurd z.2 (by show ¬(HT.sIx 3 3 (some 2)=3);decide),?_⟩;rw[hC];refine⟨_,rfl,_,rfl,_,rfl,rfl,g,bN (dm g bs) (0,1),bs,rfl,aJ,aV,bC,bD,ab,iC,bU,qX,?_⟩;dsimp only[cb];exact⟨f6,.T [.T [.I,.I],.T [.I,.I]],rfl,rfl,by decide,_,rfl,FG (λh=>absurd rfl h) (λ_=>aG)⟩
 refine⟨_,rfl,rfl,bs,rfl,by lia,?_⟩;dsimp only[cb];refine⟨_,rfl,_,_,_,.inl rfl,rfl,rfl,rfl,(bs.map λb=>b.2.2).flatten,dh (dm g bs) (0,1),rfl,by lia,aW sz.2,kY,λs al=>(sz.1 s al).pcu (by decide) (by decide) (by decide),kp,?_⟩;exact ag
theorem lO :
  bZ P w K mg base "greatest_divisor" ["one","other"] 2 (b7 K 2 adB):=by
 refine dr Y.f_greatest_divisor yN rfl (λ_ _ _ _ _ _ _ ak=>⟨_,(a5 (cO 0 yN.nd (wv (af 0) (by rfl) B.abs_)) (a5 (cO 1 yN.nd (wv (af 1) (by rfl) B.abs_)) (a5 (Fh PassesOwn.never (gc (f:=λi j => !decide (i=j)) ru (af 1) aY (dJ _)) (bB (Fg (i:=0) (j:=1) rfl yN.nd rfl rfl (by decide) rfl rfl (a2 (af 1) (a2 (wm (af 0) (af 1)) bY)) rfl))) (bB (cz (af 0)))))),?_⟩);rintro as k am ⟨a,b,rfl,ag⟩;refine cZ rfl ?_;walk_at "wd";refine⟨λm ρ=>∃(x y:Int),ρ=[.val (.int x),.val (.int y)]/\0<=x/\0<=y/\Hh x y=Hh a b/\m=y.toNat,⟨_,_,_,rfl,?_,?_,EQ a b,rfl⟩,?_⟩
 ·split<;>lia
 ·split<;>lia
 rintro m ρ ⟨x,y,rfl,ce,b8,aC,rfl⟩;walk_at "wd";refine Na (λg=>?_) (λg=>?_)
 ·have g:0<y:=by lia
  walk_at "wd";have dO:=T5 x (show y≠0 by lia);have bf:=Ue x g;exact⟨_,_,rfl,_,by lia,_,_,rfl,b8,dO,by rw[EP ce g];exact aC,rfl⟩
 ·subst g;refine⟨_,rfl,?_⟩;rw[<-ER ce,aC];exact ag
theorem yR :
  bZ P w K mg base "crossed" ["one","other"] 2 (b7 K 2 adC):=by
 refine dr Y.f_crossed q0 rfl (λ_ _ _ _ _ _ _ ak=>⟨_,(a5 (jc (af 0) (gT (n:=3) rfl (c7 (dd 2 q0.nd) (c7 (dd 3 q0.nd) (c7 (dd 4 q0.nd) gF))))) (a5 (jc (af 1) (gT (n:=3) rfl (c7 (dd 5 q0.nd) (c7 (dd 6 q0.nd) (c7 (dd 7 q0.nd) gF))))) (bB (cz (di (a2 (gb (cF (af 3) (af 7)) (cF (af 4) (af 6))) (a2 (gb (cF (af 4) (af 5)) (cF (af 2) (af 7))) (a2 (gb (cF (af 2) (af 6)) (cF (af 3) (af 5))) bY)))))))),?_⟩);rintro as k am ⟨p,q,rfl,bp,h3,ag⟩;refine cZ rfl ?_;have h1:=bp.a;have h2:=bp.b;have aF:=bp.c;have bb:=h3.a;have cX:=h3.b;have fN:=h3.c;walk_at "w";refine⟨_,_,rfl,_,_,rfl,_,_,rfl,rfl,?_⟩;walk_at "w";refine⟨_,_,rfl,_,_,rfl,_,_,rfl,rfl,?_⟩;walk_at "w";exact ag
theorem aeD :
  bZ P w K mg base "hand_of" ["line","p"] 2 (b7 K 2 adD):=by
 refine dr Y.f_hand_of Ka rfl (λ_ _ _ _ _ _ _ ak=>⟨_,(a5 (cO 2 Ka.nd (eQ (eQ (cF (ei 0) (ei 1)) (cF (ei 0) (ei 1))) (cF (ei 0) (ei 1)))) (a5 (fq (gc (f:=λi j=>decide (j<i)) rj (af 2) aY (dJ _)) (bB (cz aY)) fp) (a5 (fq (gc (f:=λi j=>decide (i<j)) mJ (af 2) aY (dJ _)) (bB (cz (i' aY))) fp) (bB (cz aY))))),?_⟩);rintro as k am ⟨c,r,rfl,DI,nl,ag⟩;refine cZ rfl ?_;have h1:=DI.a;have h2:=DI.b;have aF:=DI.c;have bb:=nl.a;have cX:=nl.b;have fN:=nl.c;walk_at "wd";unfold sg at ag;refine gP (λg=>?_) (λg=>?_)
 ·rw[SC g]at ag;exact ag
 rw[SL g]at ag;walk_at "wd";refine gP (λaI=>?_) (λaI=>?_)
 ·rw[SC aI]at ag;walk_at "w";exact ag
 rw[SL aI]at ag;exact ag
theorem aeE :
  bZ P w K mg base "point" ["a","b","n"] 3 (b7 K 3 adE):=by
 refine dr Y.f_point DA rfl (λ_ _ _ _ _ _ _ ak=>⟨_,(a5 (fq (gc (f:=λi j=>decide (i=j)) kZ (af 2) aY (dJ _)) (bB AO) fp) (a5 (cO 3 DA.nd (a8 (lO B Y) ak (aw (a8 (lO B Y) ak (aw (af 2) (aw (af 0) aX))) (aw (af 1) aX)))) (a5 (fq (gc (f:=λi j=>decide (i<j)) mJ (af 2) aY (dJ _)) (bB (cO 3 DA.nd (i' (af 3)))) fp) (bB (cz (di (a2 (el (af 0) (af 3)) (a2 (el (af 1) (af 3)) (a2 (el (af 2) (af 3)) bY))))))))),?_⟩);rintro as k am ⟨a,b,n,rfl,aM,pz,ag⟩;refine cZ rfl ?_;walk_at "wd";refine gP (λg=>absurd g aM) (λ_=>?_);walk_at "w";refine⟨_,_,rfl,?_⟩;walk_at "w";refine⟨_,_,rfl,?_⟩;dsimp only[cb];have gp:=FU (a:=a) (b:=b) aM;have iD:=FV (a:=a) (b:=b) aM pz;rw[O9 a b n];refine dX (λρ=>ρ=[.val (.int a),.val (.int b),.val (.int n),.val (.int (kD a b n))]) ?_ (λN aG=>?_)
 ·rintro ρ rfl;have ix:kD a b n≠0:=by unfold kD;split<;>lia
  have yS:wp (kD a b n)<=9000:=by
   unfold kD;split
   ·exact Xu iD
   ·exact iD
  walk_at "w";exact ag
 ·walk_at "wd";refine gP (λg=>?_) (λg=>?_)
  ·walk_at "w";refine aG _ ?_;unfold kD;rw[SC g];rfl
  ·refine aG _ ?_;unfold kD;rw[SL g];rfl
theorem aeF :
  bZ P w K mg base "meet" ["p","q","r","s"] 4 (b7 K 4 adF):=by
 refine dr Y.f_meet yO rfl (λ_ _ _ _ _ _ _ ak=>⟨_,(a5 (jc (a8 (yR B Y) ak (aw (a8 (yR B Y) ak (aw (af 0) (aw (af 1) aX))) (aw (a8 (yR B Y) ak (aw (af 2) (aw (af 3) aX))) aX))) (gT (n:=3) rfl (c7 (dd 4 yO.nd) (c7 (dd 5 yO.nd) (c7 (dd 6 yO.nd) gF))))) (a5 (fq (gc (f:=λi j=>decide (i=j)) kZ (af 6) aY (dJ _)) (bB AO) fp) (bB (cz (a8 (aeE B Y) ak (aw (af 4) (aw (af 5) (aw (af 6) aX)))))))),?_⟩);rintro as k am ⟨p,q,r,s,rfl,bp,h3,nl,bs,aM,ag⟩;refine cZ rfl ?_;have a7:=bp.crs h3;have bd:=nl.crs bs;have eR:=a7.crs bd;refine⟨_,rfl,_,rfl,rfl,p,q,rfl,bp.mono (by decide),h3.mono (by decide),?_⟩;refine⟨_,rfl,_,rfl,rfl,r,s,rfl,nl.mono (by decide),bs.mono (by decide),?_⟩;refine⟨rfl,_,_,rfl,a7.mono (by decide),bd.mono (by decide),?_⟩;generalize crs (crs p q) (crs r s)=m at *;obtain⟨x,y,z⟩:=m;have aM:z≠0:=aM;have aeG:wp z<=9000:=aW eR.c;refine⟨_,rfl,rfl,_,_,rfl,_,_,rfl,_,_,rfl,rfl,?_⟩;walk_at "wd";refine gP (λg=>absurd g aM) (λ_=>?_);exact⟨_,rfl,_,rfl,_,rfl,rfl,x,y,z,rfl,aM,aeG,ag⟩
theorem aeH :
  bZ P w K mg base "cut_ring" ["ring","p","q"] 5 (b7 K 3 adG):=by
 refine ui [true,false,false] Y.f_cut_ring oa rfl (λ_ _ _ _ _ _ _ ak=>⟨_,(a5 (Ff (i:=3) oa.nd rfl (SI rfl) (a8 (yR B Y) ak (aw (af 1) (aw (af 2) aX)))) (a5 (tQ 5 (Q2 (i:=5) oa.nd rfl rfl (ts:=["corner"]) (fr:=["line"]) (js:=[3]) (iv (af 0)) (λ_ _ _ _=>(fM (i:=0) (show S7 (["corner","line"]:Zm) by decide +kernel) rfl (SA rfl))) (λ_ _ _ _=>jd) (λ_ _ _ _=>(a8 (aeD B Y) ak (aw (af 1) (aw (af 0) aX)))) ⟨rfl,by decide +kernel,rfl,by decide +kernel,ib (Tp.mpr ⟨rfl,(S' _)⟩),iw rfl,by walk_at "ffr",rfl⟩)) (a5 (k7 (i:=6) oa.nd rfl (SA rfl) (fY bY)) (a5 (k7 (i:=7) oa.nd rfl (SA rfl) (fY bY)) (a5 (Q0 0 PassesOwn.never rfl (by rfl) B.enumerate_ (gT (n:=2) rfl (c7 (dd 8 oa.nd) (c7 (dd 4 oa.nd) gF))) (a5 (fq (gc (f:=λi j=>decide (j<=i)) vT (hQ (af 5) (af 8) (λ_ _=>rfl)) aY (dJ _)) (bB (nJ 6 (af 4))) fp) (a5 (fq (gc (f:=λi j=>decide (i<=j)) L1 (hQ (af 5) (af 8) (λ_ _=>rfl)) aY (dJ _)) (bB (nJ 7 (af 4))) fp) (a5 (cO 9 oa.nd (BN (wm (eQ (af 8) aY) (ku (af 0) (by rfl) B.len_)))) (bB (fq (gc (f:=λi j=>decide (i<j)) mJ (cF (hQ (af 5) (af 8) (λ_ _=>rfl)) (hQ (af 5) (af 9) (λ_ _=>rfl))) aY (dJ _)) (a5 (cO 10 oa.nd (BN (a8 (aeF B Y) ak (aw (af 1) (aw (af 2) (aw (af 4) (aw (hQ (af 0) (af 9) (λ_ _=>rfl)) aX))))))) (a5 (nJ 6 (af 10)) (bB (nJ 7 (af 10))))) fp)))))) (k6 7 (k6 6 (bB (cz (di (a2 (E' (Fx (ak.units) aY (af 5) (by rfl)) (af 6) (ee (fY bY))) (a2 (E' (Fx (ak.units) (i' aY) (af 5) (by rfl)) (af 7) (ee (fY bY))) bY)))))))))))),?_⟩);rintro as k am ⟨ps,p,q,rfl,bp,h3,ab,am,ag⟩;refine⟨⟨trivial,rfl,rfl,trivial⟩,cZ (r:=[.new (.lst (ps.map dP)),.val (dP p),.val (dP q),.no,.no,.no,.no,.no,.no,.no,.no]) rfl ?_⟩;have eG:=(bp.crs h3).mono (show 300+300+1<=700 by decide);refine⟨_,rfl,_,rfl,rfl,p,q,rfl,bp.mono (by decide),h3.mono (by decide),?_⟩;dsimp only[cb];refine⟨_,rfl,_,rfl,by rw[Sw];exact aW am,?_⟩;refine lf (f:=dP) (h:=λc=>D.int (sg (ln (crs p q) c))) (fs:=[.val (dP (crs p q))]) (λr ak gG DJ=>⟨_,rfl,_,rfl,rfl,crs p q,r,rfl,eG.mono (by decide),(ab r ak).1.mono (by decide),DJ⟩) ⟨Hk _ _,?_⟩;refine⟨_,rfl,?_⟩;walk_at "wd";refine⟨Gq _,?_⟩;have Ko:ps.headD (ps.headD (0,0,1))=ps.headD (0,0,1):=by cases ps<;>rfl
 refine BJ (f:=dP) (done:=[]) (λpre ρ=>∃fe ff iG v10 rest,ps=pre++rest/\ρ=[.new (.lst (ps.map dP)),.val (dP p),.val (dP q),.val (dP (crs p q)),fe,.val (.lst (ps.map λc=>D.int (sg (ln (crs p q) c)))),.own ((dg (ln (crs p q)) (a0 (crs p q)) pre (rest.headD (ps.headD (0,0,1)))).map dP),.own ((dg (λc => -ln (crs p q) c) (a0 (crs p q)) pre (rest.headD (ps.headD (0,0,1)))).map dP),ff,iG,v10]) ⟨_,_,_,_,ps,rfl,rfl⟩ ?_ ?_
 ·rintro pre c rest ρ eq ⟨fe,ff,iG,v10,aeI,d5,rfl⟩ N aG;have eq:ps=pre++c::rest:=by simpa using eq
  have sr:aeI=c::rest:=by rw[d5]at eq;exact Xf eq
  subst sr;have hc:c∈ps:=by rw[eq];simp
  have n5:dW (ps.map λc=>D.int (sg (ln (crs p q) c))) (pre.length:Int)=some (D.int (sg (ln (crs p q) c))):=by
   have:=QQ (h:=λc=>D.int (sg (ln (crs p q) c))) (pre:=pre) (rest:=rest) (c:=c);rw[<-eq]at this;exact this
  have an:=GW (h:=λc=>D.int (sg (ln (crs p q) c))) eq Ko;have aeJ:=GW (h:=dP) eq Ko;show tu _ _ _ [.new (.lst (ps.map dP)),.val (dP p),.val (dP q),.val (dP (crs p q)),.val (dP c),.val (.lst (ps.map λc=>D.int (sg (ln (crs p q) c)))),.own ((dg (ln (crs p q)) (a0 (crs p q)) pre c).map dP),.own ((dg (λc => -ln (crs p q) c) (a0 (crs p q)) pre c).map dP),.val (.int pre.length),iG,v10]
  have fa:pre.length<=1000:=by rw[eq,SH]at am;lia
  have z1:=BL (f:=ln (crs p q)) (mt:=a0 (crs p q)) (ps:=pre) (w:=c);have aP:=BL (f:=λc => -ln (crs p q) c) (mt:=a0 (crs p q)) (ps:=pre) (w:=c);have f0:5000<=TT:=by decide
  refine dX (λρ=>ρ=[.new (.lst (ps.map dP)),.val (dP p),.val (dP q),.val (dP (crs p q)),.val (dP c),.val (.lst (ps.map λc=>D.int (sg (ln (crs p q) c)))),.own ((dg (ln (crs p q)) (a0 (crs p q)) pre c++kp (ln (crs p q)) c).map dP),.own ((dg (λc => -ln (crs p q) c) (a0 (crs p q)) pre c).map dP),.val (.int pre.length),iG,v10]) ?_ (λN aG=>?_);rotate_left
  ·refine⟨_,rfl,_,rfl,_,_,_,.inr rfl,rfl,n5,_,_,rfl,rfl,_,rfl,gP (λg=>?_) (λg=>?_)⟩
   ·refine⟨_,rfl,_,rfl,by rw[Sw];lia,aG _ ?_⟩;rw[GY (GU.mp g),SJ];rfl
   ·refine aG _ ?_;rw[GZ (λz=>g (GU.mpr z)),SP]
  rintro ρ rfl;refine dX (λρ=>ρ=[.new (.lst (ps.map dP)),.val (dP p),.val (dP q),.val (dP (crs p q)),.val (dP c),.val (.lst (ps.map λc=>D.int (sg (ln (crs p q) c)))),.own ((dg (ln (crs p q)) (a0 (crs p q)) pre c++kp (ln (crs p q)) c).map dP),.own ((dg (λc => -ln (crs p q) c) (a0 (crs p q)) pre c++kp (λc => -ln (crs p q) c) c).map dP),.val (.int pre.length),iG,v10]) ?_ (λN aG=>?_);rotate_left
  ·refine⟨_,rfl,_,rfl,_,_,_,.inr rfl,rfl,n5,_,_,rfl,rfl,_,rfl,gP (λg=>?_) (λg=>?_)⟩
   ·refine⟨_,rfl,_,rfl,by rw[Sw];lia,aG _ ?_⟩;rw[GY (f:=λc => -ln (crs p q) c) (c:=c) (by have:=GV.mp g;show 0 <= -ln (crs p q) c;lia),SJ (l₂:=[c])];rfl
   ·refine aG _ ?_;rw[GZ (f:=λc => -ln (crs p q) c) (c:=c) (λz=>g (GV.mpr (by have z:0 <= -ln (crs p q) c:=z;lia))),SP]
  rintro ρ rfl;have pos:(0:Int)<((ps.map dP).length:Int):=by rw[Sw,eq,SH,SN];lia
  refine⟨_,rfl,_,_,rfl,rfl,_,rfl,_,rfl,_,_,rfl,rfl,pos,rfl,?_⟩;rw[Sw];have bO:(kp (ln (crs p q)) c).length<=1:=by unfold kp;split<;>simp
  have bV:(kp (λc => -ln (crs p q) c) c).length<=1:=by unfold kp;split<;>simp
  refine⟨_,rfl,_,rfl,_,_,_,.inr rfl,rfl,n5,_,rfl,_,rfl,_,_,_,.inr rfl,rfl,an,_,_,rfl,rfl,⟨GX _,GX _⟩,_,_,rfl,rfl,_,rfl,gP (λg=>?_) (λg=>?_)⟩
  ·have lt:=GT.mp g
   have Kp:rest.headD (ps.headD (0,0,1))∈ps:=by
    cases rest with
    |nil=>
     cases ps with
     |nil=>cases hc
     |cons a r=>exact Sx
    |cons d rest=>rw[eq];simp
   have hH:=(ab c hc).2;have pn:=(ab _ Kp).2;refine⟨_,rfl,_,rfl,_,rfl,_,rfl,_,rfl,_,_,_,.inr rfl,rfl,aeJ,rfl,p,q,c,rest.headD (ps.headD (0,0,1)),rfl,bp.mono (by decide),h3.mono (by decide),(ab c hc).1.mono (by decide),(ab _ Kp).1.mono (by decide),kI hH pn lt,?_⟩;dsimp only[cb];refine⟨rfl,?_⟩;rw[kH hH pn];refine⟨_,rfl,_,rfl,by rw[Sw,SH];lia,?_⟩;refine⟨_,rfl,_,rfl,by rw[Sw,SH];lia,aG _ ⟨.val (dP c),.val (.int pre.length),.val (.int (((pre.length:Int)+1)%(ps.length:Int))),.val (dP (a0 (crs p q) c (rest.headD (ps.headD (0,0,1))))),rest,by rw[eq];simp,?_⟩⟩;rw[xj,xj,mb lt,mb (f:=λc => -ln (crs p q) c) (by rw[T3];exact lt),SJ (l₂:=[a0 (crs p q) c (rest.headD (ps.headD (0,0,1)))]),SJ (l₂:=[a0 (crs p q) c (rest.headD (ps.headD (0,0,1)))])];rfl
  ·refine aG _ ⟨.val (dP c),.val (.int pre.length),.val (.int (((pre.length:Int)+1)%(ps.length:Int))),v10,rest,by rw[eq];simp,?_⟩;have rX:¬ln (crs p q) c*ln (crs p q) (rest.headD (ps.headD (0,0,1)))<0:=λz=>g (GT.mpr z);rw[xj,xj,lj rX,lj (by rw[T3];exact rX),SP,SP];rfl
 rintro ρ ⟨fe,ff,iG,v10,rest,d5,rfl⟩
 have sr:rest=[]:=by
  have:ps++[]=ps++rest:=by rw[SP];exact d5
  exact(Xf this).symm
 subst sr
 have DK:∀e∈ps.map (λc=>D.int (sg (ln (crs p q) c))),has .I e=true:=λe aB=>by
  obtain⟨_,_,rfl⟩:=SM.mp aB;rfl
 refine⟨_,rfl,_,rfl,?_⟩;refine⟨_,rfl,.I,_,.inl rfl,rfl,DK,by decide,λa7 qV=>⟨_,rfl,?_⟩⟩;cases a7 with
 |true=>
  rw[xG (G0.mp (qV.mp rfl))]at ag;refine rH rfl ⟨_,rfl,?_⟩;refine⟨_,rfl,_,rfl,.I,_,.inl rfl,rfl,DK,by decide,λbd q3=>⟨_,rfl,?_⟩⟩;cases bd with
  |true=>
   rw[xG (xH.mpr (xk.mp (q3.mp rfl)))]at ag;exact rH rfl ⟨_,rfl,f6,ag⟩
  |false=>
   rw[B3 (λz=>S3 (q3.mpr (xk.mpr (xH.mp z))))]at ag;exact rI rfl ⟨vz,f6,ag⟩
 |false=>
  rw[B3 (λz=>S3 (qV.mpr (G0.mpr z)))]at ag;refine rI rfl ⟨vz,?_⟩;refine⟨_,rfl,_,rfl,.I,_,.inl rfl,rfl,DK,by decide,λbd q3=>⟨_,rfl,?_⟩⟩;cases bd with
  |true=>
   rw[xG (xH.mpr (xk.mp (q3.mp rfl)))]at ag;exact rH rfl ⟨_,rfl,f6,ag⟩
  |false=>
   rw[B3 (λz=>S3 (q3.mpr (xk.mpr (xH.mp z))))]at ag;exact rI rfl ⟨vz,f6,ag⟩
theorem DL :
  bZ P w K mg base "cut_sheet" ["sheet","p","q"] 6 (b7 K 3 adH):=by
 refine ui [true,false,false] Y.f_cut_sheet pK rfl (λ_ _ _ _ _ _ _ ak=>⟨_,(a5 (k7 (i:=3) pK.nd rfl (SA rfl) (fY bY)) (a5 (k7 (i:=4) pK.nd rfl (SA rfl) (fY bY)) (a5 (G9 0 PassesOwn.never rfl (G8 (n:=3) rfl (rY (G6 (i:=5) pK.nd rfl (SA rfl)) (rY (xr (i:=6) pK.nd rfl (SA rfl)) (rY (xr (i:=7) pK.nd rfl (SA rfl)) G7)))) (a5 (jc (xp (xo (qm (aeH B Y) ak (by rfl) (aw (af 5) (aw (af 1) (aw (af 2) aX)))))) (gT (n:=2) rfl (c7 (dd 8 pK.nd) (c7 (dd 9 pK.nd) gF)))) (a5 (fq (BR (af 8)) (bB (nJ 3 (di (a2 (af 8) (a2 (af 6) (a2 (af 7) bY)))))) fp) (bB (fq (BR (af 9)) (bB (nJ 4 (di (a2 (af 9) (a2 (af 6) (a2 (af 7) bY)))))) fp))))) (k6 4 (k6 3 (bB (cz (di (a2 (af 3) (a2 (af 4) bY)))))))))),?_⟩);rintro as k am ⟨sh,p,q,rfl,bp,h3,ab,vx,am,ag⟩;refine⟨⟨trivial,rfl,rfl,trivial⟩,cZ (r:=[.new (.lst (sh.map dS)),.val (dP p),.val (dP q),.no,.no,.no,.no,.no,.no,.no]) rfl ?_⟩;have f0:5000<=TT:=by decide
 walk_at "wd";refine Hi (done:=[]) (λpre ρ=>∃gx eJ eK ff iG,ρ=[.new (.lst (sh.map dS)),.val (dP p),.val (dP q),.own ((ck (ln (crs p q)) (a0 (crs p q)) pre).map dS),.own ((ck (λc => -ln (crs p q) c) (a0 (crs p q)) pre).map dS),gx,eJ,eK,ff,iG]) ⟨_,_,_,_,_,rfl⟩ ?_ ?_
 ·rintro pre x rest ρ lV ⟨gx,eJ,eK,ff,iG,rfl⟩ N aG;have lV:sh=pre++x::rest:=by simpa using lV
  have ao:x∈sh:=by rw[lV];simp
  have fa:pre.length<1000:=by have:=TW S0 lV;simp at this;lia
  have c1:=mi (f:=ln (crs p q)) (mt:=a0 (crs p q)) pre;have c2:=mi (f:=λc => -ln (crs p q) c) (mt:=a0 (crs p q)) pre;refine⟨_,rfl,_,rfl,_,rfl,rfl,x.1,p,q,rfl,bp,h3,ab x ao,vx x ao,_,rfl,?_⟩;refine⟨_,rfl,rfl,_,_,rfl,_,_,rfl,rfl,?_⟩;show tu (AN (BQ (gD 8)) (AS 3 (wo (nG (gD 8) (nG (gD 6) (nG (gD 7) tn))))) AL) (AN (BQ (gD 9)) (AS 4 (wo (nG (gD 9) (nG (gD 6) (nG (gD 7) tn))))) AL) _ [.new (.lst (sh.map dS)),.val (dP p),.val (dP q),.own ((ck (ln (crs p q)) (a0 (crs p q)) pre).map dS),.own ((ck (λc => -ln (crs p q) c) (a0 (crs p q)) pre).map dS),.new (.lst (x.1.map dP)),.val (.bl x.2.1),.val (dP x.2.2),.val (.lst ((c9 (ln (crs p q)) (a0 (crs p q)) x.1).map dP)),.val (.lst ((c9 (λc => -ln (crs p q) c) (a0 (crs p q)) x.1).map dP))]
  refine dX (λρ=>ρ=[.new (.lst (sh.map dS)),.val (dP p),.val (dP q),.own ((ck (ln (crs p q)) (a0 (crs p q)) (pre++[x])).map dS),.own ((ck (λc => -ln (crs p q) c) (a0 (crs p q)) pre).map dS),.new (.lst (x.1.map dP)),.val (.bl x.2.1),.val (dP x.2.2),.val (.lst ((c9 (ln (crs p q)) (a0 (crs p q)) x.1).map dP)),.val (.lst ((c9 (λc => -ln (crs p q) c) (a0 (crs p q)) x.1).map dP))]) ?_ (λN aG=>?_);rotate_left
  ·refine⟨_,rfl,_,rfl,?_⟩;cases c:(c9 (ln (crs p q)) (a0 (crs p q)) x.1).isEmpty with
   |false=>
    refine rH (by rw[VF,c];rfl) ?_;refine⟨_,rfl,_,rfl,_,rfl,_,rfl,kj,by rw[Sw];lia,aG _ ?_⟩;rw[uk,xC c,SJ];rfl
   |true=>
    refine rI (by rw[VF,c];rfl) (aG _ ?_);rw[uk,xD c,SP]
  rintro ρ rfl;refine⟨_,rfl,_,rfl,?_⟩;cases c:(c9 (λc => -ln (crs p q) c) (a0 (crs p q)) x.1).isEmpty with
  |false=>
   refine rH (by rw[VF,c];rfl) ?_;refine⟨_,rfl,_,rfl,_,rfl,_,rfl,kj,by rw[Sw];lia,aG _ ⟨.new (.lst (x.1.map dP)),.val (.bl x.2.1),.val (dP x.2.2),.val (.lst ((c9 (ln (crs p q)) (a0 (crs p q)) x.1).map dP)),.val (.lst ((c9 (λc => -ln (crs p q) c) (a0 (crs p q)) x.1).map dP)),?_⟩⟩;rw[uk (f:=λc => -ln (crs p q) c),xC c,SJ (l₂:=[(c9 (λc => -ln (crs p q) c) (a0 (crs p q)) x.1,x.2)])];rfl
  |true=>
   refine rI (by rw[VF,c];rfl) (aG _ ⟨.new (.lst (x.1.map dP)),.val (.bl x.2.1),.val (dP x.2.2),.val (.lst ((c9 (ln (crs p q)) (a0 (crs p q)) x.1).map dP)),.val (.lst ((c9 (λc => -ln (crs p q) c) (a0 (crs p q)) x.1).map dP)),?_⟩);rw[uk (f:=λc => -ln (crs p q) c),xD c,SP]
 ·rintro ρ ⟨gx,eJ,eK,ff,iG,rfl⟩;refine⟨_,rfl,_,rfl,?_⟩;exact⟨_,rfl,_,rfl,f6,ag⟩
theorem lP :
  bZ P w K mg base "at" ["x","y"] 3 (b7 K 2 adI):=by
 refine dr Y.f_at Kb rfl (λ_ _ _ _ _ _ _ ak=>⟨_,(a5 (cO 2 Kb.nd (a8 (lO B Y) ak (aw (je (af 0) aY (λ_ _=>rfl)) (aw (je (af 1) aY (λ_ _=>rfl)) aX)))) (bB (cz (di (a2 (cF (je (af 0) aY (λ_ _=>rfl)) (el (je (af 1) aY (λ_ _=>rfl)) (af 2))) (a2 (cF (je (af 1) aY (λ_ _=>rfl)) (el (je (af 0) aY (λ_ _=>rfl)) (af 2))) (a2 (cF (el (je (af 0) aY (λ_ _=>rfl)) (af 2)) (je (af 1) aY (λ_ _=>rfl))) bY))))))),?_⟩);rintro as k am ⟨eu,sF,x,y,u,v,rfl,ao,aN,bj,bt,hk,ih,jx,hl,ag⟩;refine cZ rfl ?_;have v0:v≠0:=SD bt.1;have sp:=oA (t:=y) (b:=v) v0;have f':=l5 (a:=y) (b:=v) v0 hl;rw[<-P5 bj bt]at ag;refine⟨_,rfl,_,_,_,ao,rfl,rfl,_,rfl,_,_,_,aN,rfl,rfl,rfl,_,_,rfl,?_⟩;dsimp only[cb];generalize((Hh y v:Nat):Int)=s at *;have a7:wp (v.fdiv s)<=4000:=d6 (Wp _ _) hl;have bd:wp (y.fdiv s)<=4000:=d6 (Wp _ _) ih;have hd:∀z:Int,wp s<=9000->rr z s:=λz _=>⟨by lia,aW f'⟩;refine⟨_,rfl,_,_,_,ao,rfl,rfl,_,rfl,_,_,_,aN,rfl,rfl,_,rfl,_,_,rfl,rfl,hd _ (aW f'),_,_,rfl,rfl,⟨by walk_at "bits",by walk_at "bits"⟩,?_⟩;refine⟨_,rfl,_,_,_,aN,rfl,rfl,_,rfl,_,_,_,ao,rfl,rfl,_,rfl,_,_,rfl,rfl,hd _ (aW f'),_,_,rfl,rfl,⟨by walk_at "bits",by walk_at "bits"⟩,?_⟩;refine⟨_,rfl,_,_,_,ao,rfl,rfl,_,rfl,_,_,rfl,rfl,hd _ (aW f'),_,rfl,_,_,_,aN,rfl,rfl,_,_,rfl,rfl,⟨by walk_at "bits",by walk_at "bits"⟩,kj,?_⟩;exact ag
theorem Kq :
  bZ P w K mg base "cut_upright" ["sheet","place"] 7 (b7 K 2 adK):=by
 refine ui [true,false] Y.f_cut_upright adJ rfl (λ_ _ _ _ _ _ _ ak=>⟨_,(bB (cz (xp (xo (qm (DL B Y) ak (by rfl) (aw (af 0) (aw (a8 (lP B Y) ak (aw (af 1) (aw (di (a2 aY (a2 aY bY))) aX))) (aw (a8 (lP B Y) ak (aw (af 1) (aw (di (a2 aY (a2 aY bY))) aX))) aX)))))))),?_⟩);rintro as k am ⟨sh,x,rfl,bj,a7,bd,ab,vx,am,ag⟩;refine⟨⟨trivial,rfl,trivial⟩,cZ (r:=[.new (.lst (sh.map dS)),.val (dR x)]) rfl ?_⟩;have en:aH 0 1:=⟨by decide,by decide⟩;have hD:aH 1 1:=⟨by decide,by decide⟩;have d7:wp 0<=4000:=by decide
 have mj:wp 1<=4000:=by decide
 have ka:wp x.1<=4000:=aW a7;have nI:wp x.2<=4000:=aW bd;have aE:cD 300 (cC (x.1*1) (0*x.2) (x.2*1)):=(lB (n:=10) a7 bd (by decide) (by decide) bj en).mono (by decide);have aI:cD 300 (cC (x.1*1) (1*x.2) (x.2*1)):=(lB (n:=10) a7 bd (by decide) (by decide) bj hD).mono (by decide);refine⟨_,rfl,_,rfl,f6,rfl,_,_,x.1,x.2,0,1,rfl,rfl,rfl,bj,en,ka,nI,d7,mj,?_⟩;dsimp only[cb];refine⟨_,rfl,f6,rfl,_,_,x.1,x.2,1,1,rfl,rfl,rfl,bj,hD,ka,nI,mj,mj,?_⟩;dsimp only[cb];exact⟨rfl,sh,_,_,rfl,aE,aI,ab,vx,am,_,rfl,ag⟩
theorem aeK :
  bZ P w K mg base "cut_level" ["sheet","height"] 7 (b7 K 2 adL):=by
 refine ui [true,false] Y.f_cut_level DB rfl (λ_ _ _ _ _ _ _ ak=>⟨_,(a5 (jc (xp (xo (qm (DL B Y) ak (by rfl) (aw (af 0) (aw (a8 (lP B Y) ak (aw (di (a2 aY (a2 aY bY))) (aw (af 1) aX))) (aw (a8 (lP B Y) ak (aw (di (a2 aY (a2 aY bY))) (aw (af 1) aX))) aX)))))) (gT (n:=2) rfl (c7 (dd 2 DB.nd) (c7 (dd 3 DB.nd) gF)))) (bB (cz (di (a2 (af 3) (a2 (af 2) bY)))))),?_⟩);rintro as k am ⟨sh,x,rfl,bj,a7,bd,ab,vx,am,ag⟩;refine⟨⟨trivial,rfl,trivial⟩,cZ (r:=[.new (.lst (sh.map dS)),.val (dR x),.no,.no]) rfl ?_⟩;have en:aH 0 1:=⟨by decide,by decide⟩;have hD:aH 1 1:=⟨by decide,by decide⟩;have d7:wp 0<=4000:=by decide
 have mj:wp 1<=4000:=by decide
 have ka:wp x.1<=4000:=aW a7;have nI:wp x.2<=4000:=aW bd;have aE:cD 300 (cC (0*x.2) (x.1*1) (1*x.2)):=(lB (m:=10) (by decide) (by decide) a7 bd en bj).mono (by decide);have aI:cD 300 (cC (1*x.2) (x.1*1) (1*x.2)):=(lB (m:=10) (by decide) (by decide) a7 bd hD bj).mono (by decide);refine⟨_,rfl,f6,_,rfl,rfl,_,_,0,1,x.1,x.2,rfl,rfl,rfl,en,bj,d7,mj,ka,nI,?_⟩;dsimp only[cb];refine⟨f6,_,rfl,rfl,_,_,1,1,x.1,x.2,rfl,rfl,rfl,hD,bj,mj,mj,ka,nI,?_⟩;dsimp only[cb];refine⟨rfl,sh,_,_,rfl,aE,aI,ab,vx,am,_,rfl,?_⟩;refine⟨_,rfl,rfl,_,_,rfl,_,_,rfl,rfl,?_⟩;exact⟨_,rfl,_,rfl,f6,ag⟩
theorem Kr :
  bZ P w K mg base "slid" ["p","step"] 3 (b7 K 2 adM):=by
 refine dr Y.f_slid mz rfl (λ_ _ _ _ _ _ _ ak=>⟨_,(a5 (jc (af 0) (gT (n:=3) rfl (c7 (dd 2 mz.nd) (c7 (dd 3 mz.nd) (c7 (dd 4 mz.nd) gF))))) (a5 (jc (af 1) (gT (n:=3) rfl (c7 (dd 5 mz.nd) (c7 (dd 6 mz.nd) (c7 (dd 7 mz.nd) gF))))) (a5 (cO 8 mz.nd (a8 (lO B Y) ak (aw (af 4) (aw (af 7) aX)))) (a5 (cO 9 mz.nd (eQ (cF (af 2) (el (af 7) (af 8))) (cF (af 5) (el (af 4) (af 8))))) (a5 (cO 10 mz.nd (eQ (cF (af 3) (el (af 7) (af 8))) (cF (af 6) (el (af 4) (af 8))))) (a5 (cO 11 mz.nd (a8 (lO B Y) ak (aw (a8 (lO B Y) ak (aw (af 8) (aw (af 9) aX))) (aw (af 10) aX)))) (bB (cz (di (a2 (el (af 9) (af 11)) (a2 (el (af 10) (af 11)) (a2 (cF (el (af 4) (af 8)) (el (af 7) (af 11))) bY)))))))))))),?_⟩);rintro as k am ⟨p,g,rfl,Ks,bp,Kt,iu,ag⟩;refine cZ rfl ?_;obtain⟨a,b,n⟩:=p;obtain⟨r,w,m⟩:=g;have h1:wp a<=3000:=bp.a;have h2:wp b<=3000:=bp.b;have aF:wp n<=3000:=bp.c;have bb:wp r<=1000:=iu.a;have cX:wp w<=1000:=iu.b;have fN:wp m<=1000:=iu.c;have c0:n≠0:=SD Ks.1;have dO:m≠0:=SD Kt.1;have sp:=oA (t:=n) (b:=m) dO;have f':=l5 (a:=n) (b:=m) dO fN;have cp:=λX Y d=>P6 (a:=a) (b:=b) (n:=n) (r:=r) (w:=w) (m:=m) Ks Kt (s:=((Hh n m:Nat):Int)) (X:=X) (Y:=Y) (d:=d) rfl;have ag:k (.val (dP (cC (a*m+r*n) (b*m+w*n) (n*m)))):=ag;refine⟨_,rfl,_,rfl,rfl,_,_,rfl,_,_,rfl,_,_,rfl,rfl,?_⟩;refine⟨_,rfl,_,rfl,rfl,_,_,rfl,_,_,rfl,_,_,rfl,rfl,?_⟩;walk_at "w";refine⟨_,_,rfl,?_⟩;dsimp only[cb];generalize((Hh n m:Nat):Int)=s at *;have a7:wp (m.fdiv s)<=1000:=d6 (Wp _ _) fN;have bd:wp (n.fdiv s)<=3000:=d6 (Wp _ _) aF;have tb:wp (a*m.fdiv s+r*n.fdiv s)<=4001:=Xr (TD h1 a7) (TD bb bd);have bW:wp (b*m.fdiv s+w*n.fdiv s)<=4001:=Xr (TD h2 a7) (TD cX bd);have cp:=λd=>cp _ _ d rfl rfl;walk_at "w";refine⟨_,_,rfl,?_⟩;dsimp only[cb];walk_at "w";refine⟨_,_,rfl,?_⟩;dsimp only[cb];generalize a*m.fdiv s+r*n.fdiv s=X at *;generalize b*m.fdiv s+w*n.fdiv s=Y at *;have cp:=cp _ rfl;have a3:=l8 (a:=s) (b:=X) (.inl (SD sp))
 have eN:wp ((Hh s X:Nat):Int)<=1000:=by
  rw[TJ];exact l5 (SD sp) f'
 generalize((Hh s X:Nat):Int)=e at *;have dp:=l8 (a:=e) (b:=Y) (.inl (SD a3))
 have yS:wp ((Hh e Y:Nat):Int)<=1000:=by
  rw[TJ];exact l5 (SD a3) eN
 generalize((Hh e Y:Nat):Int)=d at *;have eR:wp (m.fdiv d)<=1000:=d6 (Wp _ _) fN;rw[<-cp]at ag;walk_at "w";exact ag
theorem sN :
  bZ P w K mg base "moved" ["sheet","step"] 4 (b7 K 2 adO):=by
 refine dr Y.f_moved adN rfl (λ_ _ _ _ _ _ _ ak=>⟨_,(bB (wW (Pq (ts:=["ring","is_turned","elder_step"]) (fr:=["step"]) (js:=[1]) (iv (af 0)) (λ_ _ _ _=>(gT (n:=3) rfl (c7 (fM (i:=0) (show S7 (["ring","is_turned","elder_step","step"]:Zm) by decide +kernel) rfl (SA rfl)) (c7 (fM (i:=1) (show S7 (["ring","is_turned","elder_step","step"]:Zm) by decide +kernel) rfl (SA rfl)) (c7 (fM (i:=2) (show S7 (["ring","is_turned","elder_step","step"]:Zm) by decide +kernel) rfl (SA rfl)) gF))))) (λ_ _ _ _=>jd) (λ_ _ _ _=>(F3 (rS (F1 (mW (ts:=["corner"]) (fr:=["step"]) (js:=[3]) (iv (af 0)) (λ_ _ _ _=>(fM (i:=0) (show S7 (["corner","step"]:Zm) by decide +kernel) rfl (SA rfl))) (λ_ _ _ _=>jd) (λ_ _ _ _=>(a8 (Kr B Y) ak (aw (af 0) (aw (af 1) aX)))) ⟨rfl,by decide +kernel,rfl,by decide +kernel,ib (Tp.mpr ⟨rfl,(S' _)⟩),iw rfl,by walk_at "ffr",rfl⟩)) (rS (Bb (af 1)) (rS (Bb (a8 (Kr B Y) ak (aw (af 2) (aw (af 3) aX)))) F2))))) ⟨rfl,by decide +kernel,rfl,by decide +kernel,ib (Tp.mpr ⟨rfl,(S' _)⟩),iw rfl,by walk_at "ffr",rfl⟩))),?_⟩);rintro as k am ⟨sh,g,rfl,am,al,aC,ag⟩;refine cZ rfl ?_;have f0:1000<=TT:=by decide
 refine⟨_,rfl,_,rfl,by rw[Sw];lia,?_⟩;refine Bu (h:=λs=>dS (eU g s)) (fs:=[.val (dP g)]) (λs aeL bV m2=>?_) (by rw[SU]at ag;exact ag);have l:=al s aeL;have ln:=l.ln;refine⟨_,rfl,_,rfl,by rw[Sw];lia,?_⟩;refine lf (f:=dP) (h:=λp=>dP (nP (sld g p))) (fs:=[.val (dP g)]) (λr ak gG DJ=>⟨_,rfl,_,rfl,rfl,r,g,rfl,(l.ps r ak).pt,((l.ps r ak).bp.mono (by decide)),aC.pt,(aC.bp.mono (by decide)),DJ⟩) ⟨Bv (λp=>nP (sld g p)) _,?_⟩;refine⟨_,rfl,rfl,?_⟩;refine⟨_,rfl,_,rfl,rfl,s.2.2,g,rfl,l.st.pt,(l.st.bp.mono (by decide)),aC.pt,(aC.bp.mono (by decide)),rfl,kj,?_⟩;rw[Qe (λp=>nP (sld g p))];exact m2
theorem aeM :
  bZ P w K mg base "under" ["one","other"] 2 (b7 K 2 adQ):=by
 refine dr Y.f_under adP rfl (λ_ _ _ _ _ _ _ ak=>⟨_,(bB (cz (mQ (f:=λi j=>decide (i<j)) mJ (cF (ei 0) (ei 1)) (cF (ei 1) (ei 0)) (dJ _)))),?_⟩);rintro as k am ⟨x,y,u,v,rfl,hk,ih,jx,hl,ag⟩;refine cZ rfl ?_;walk_at "w";exact ag
theorem aeN :
  bZ P w K mg base "least_whole" ["one"] 2 (b7 K 1 adS):=by
 refine dr Y.f_least_whole adR rfl (λ_ _ _ _ _ _ _ ak=>⟨_,(bB (cz (i' (el (i' (ei 0)) (ei 0))))),?_⟩);rintro as k am ⟨x,y,rfl,b8,ih,ag⟩;refine cZ rfl ?_;have bI:y≠0:=by lia
 walk_at "w";exact ag
theorem aeO :
  bZ P w K mg base "most_whole" ["one"] 2 (b7 K 1 adU):=by
 refine dr Y.f_most_whole adT rfl (λ_ _ _ _ _ _ _ ak=>⟨_,(bB (cz (el (ei 0) (ei 0)))),?_⟩);rintro as k am ⟨x,y,rfl,b8,ih,ag⟩;refine cZ rfl ?_;have bI:y≠0:=by lia
 walk_at "w";exact ag
theorem Ku :
  bZ P w K mg base "against" ["one"] 2 (b7 K 1 adW):=by
 refine dr Y.f_against adV rfl (λ_ _ _ _ _ _ _ ak=>⟨_,(bB (cz (di (a2 (i' (ei 0)) (a2 (ei 0) bY))))),?_⟩);rintro as k am ⟨x,y,rfl,ag⟩;refine cZ rfl ?_;walk_at "w";exact ag
theorem aeP :
  bZ P w K mg base "plus" ["one","other"] 3 (b7 K 2 adX):=by
 refine dr Y.f_plus pL rfl (λ_ _ _ _ _ _ _ ak=>⟨_,(a5 (cO 2 pL.nd (a8 (lO B Y) ak (aw (ei 0) (aw (ei 1) aX)))) (a5 (cO 3 pL.nd (eQ (cF (ei 0) (el (ei 1) (af 2))) (cF (ei 1) (el (ei 0) (af 2))))) (a5 (cO 4 pL.nd (a8 (lO B Y) ak (aw (af 2) (aw (af 3) aX)))) (bB (cz (di (a2 (el (af 3) (af 4)) (a2 (cF (el (ei 0) (af 2)) (el (ei 1) (af 4))) bY)))))))),?_⟩);rintro as k am ⟨x,y,u,v,rfl,bj,bt,hk,ih,jx,hl,ag⟩;refine cZ rfl ?_;have v0:v≠0:=SD bt.1;have sp:=oA (t:=y) (b:=v) v0;have f':=l5 (a:=y) (b:=v) v0 hl;have cp:=λtop d=>Gh bj bt (s:=((Hh y v:Nat):Int)) (top:=top) (d:=d) rfl;walk_at "w";refine⟨_,_,rfl,?_⟩;dsimp only[cb];generalize((Hh y v:Nat):Int)=s at *;have a7:wp (v.fdiv s)<=4000:=d6 (Wp _ _) hl;have bd:wp (y.fdiv s)<=4000:=d6 (Wp _ _) ih;have tb:wp (x*v.fdiv s+u*y.fdiv s)<=8001:=Xr (TD hk a7) (TD jx bd);have cp:=λd=>cp _ d rfl;walk_at "w";refine⟨_,_,rfl,?_⟩;dsimp only[cb];generalize x*v.fdiv s+u*y.fdiv s=top at *;have cp:=cp _ rfl;have dp:=l8 (a:=s) (b:=top) (.inl (SD sp))
 have yS:wp ((Hh s top:Nat):Int)<=4000:=by
  rw[TJ];exact l5 (SD sp) f'
 generalize((Hh s top:Nat):Int)=d at *;have eR:wp (v.fdiv d)<=4000:=d6 (Wp _ _) hl;rw[<-cp]at ag;walk_at "w";exact ag
theorem DM :
  bZ P w K mg base "minus" ["one","other"] 4 (b7 K 2 adZ):=by
 refine dr Y.f_minus adY rfl (λ_ _ _ _ _ _ _ ak=>⟨_,(bB (cz (a8 (aeP B Y) ak (aw (af 0) (aw (a8 (Ku B Y) ak (aw (af 1) aX)) aX))))),?_⟩);rintro as k am ⟨x,y,u,v,rfl,bj,bt,hk,ih,jx,hl,ag⟩;refine cZ rfl ?_;refine⟨_,rfl,_,rfl,rfl,u,v,rfl,?_⟩;refine⟨rfl,x,y,-u,v,rfl,bj,⟨bt.1,by rw[U6];exact bt.2⟩,hk,ih,Xu jx,hl,?_⟩;rw[UJ,<-Int.sub_eq_add_neg];exact ag
theorem og :
  bZ P w K mg base "times" ["one","other"] 3 (b7 K 2 ad0):=by
 refine dr Y.f_times DC rfl (λ_ _ _ _ _ _ _ ak=>⟨_,(a5 (cO 2 DC.nd (a8 (lO B Y) ak (aw (ei 0) (aw (ei 1) aX)))) (a5 (cO 3 DC.nd (a8 (lO B Y) ak (aw (ei 1) (aw (ei 0) aX)))) (bB (cz (di (a2 (cF (el (ei 0) (af 2)) (el (ei 1) (af 3))) (a2 (cF (el (ei 0) (af 3)) (el (ei 1) (af 2))) bY))))))),?_⟩);rintro as k am ⟨x,y,u,v,rfl,bj,bt,hk,ih,jx,hl,ag⟩;refine cZ rfl ?_;have v0:v≠0:=SD bt.1;have b8:y≠0:=SD bj.1;have cI:=oA (t:=x) (b:=v) v0;have w9:=l5 (a:=x) (b:=v) v0 hl;have ae:=oA (t:=u) (b:=y) b8;have ab:=l5 (a:=u) (b:=y) b8 ih;rw[<-PZ bj bt]at ag;walk_at "w";refine⟨_,_,rfl,?_⟩;walk_at "w";refine⟨_,_,rfl,?_⟩;dsimp only[cb];generalize((Hh x v:Nat):Int)=f at *;generalize((Hh u y:Nat):Int)=g at *;have a7:wp (x.fdiv f)<=4000:=d6 (Wp _ _) hk;have bd:wp (u.fdiv g)<=4000:=d6 (Wp _ _) jx;have eR:wp (y.fdiv g)<=4000:=d6 (Wp _ _) ih;have gS:wp (v.fdiv f)<=4000:=d6 (Wp _ _) hl;walk_at "w";exact ag
theorem yT :
  bZ P w K mg base "over" ["one","other"] 4 (b7 K 2 ad2):=by
 refine dr Y.f_over ad1 rfl (λ_ _ _ _ _ _ _ ak=>⟨_,(a5 (fq (gc (f:=λi j=>decide (i=j)) kZ (ei 1) aY (dJ _)) (bB AO) fp) (a5 (fq (gc (f:=λi j=>decide (i<j)) mJ (ei 1) aY (dJ _)) (bB (cz (a8 (og B Y) ak (aw (af 0) (aw (di (a2 (i' (ei 1)) (a2 (i' (ei 1)) bY))) aX))))) fp) (bB (cz (a8 (og B Y) ak (aw (af 0) (aw (di (a2 (ei 1) (a2 (ei 1) bY))) aX))))))),?_⟩);rintro as k am ⟨x,y,u,v,rfl,bj,bt,hk,ih,jx,hl,lJ,ag⟩;refine cZ rfl ?_;have aI:Hh v u=1:=by rw[TJ];exact bt.2
 walk_at "wd";refine gP (λg=>absurd g lJ) (λ_=>?_);walk_at "wd";refine gP (λg=>?_) (λg=>?_)
 ·walk_at "w";refine⟨x,y,-v,-u,rfl,bj,⟨by lia,by rw[U6,Int.gcd_neg];exact aI⟩,hk,ih,Xu hl,Xu jx,?_⟩;rw[Vq,Vq,Pe (SY (SD bj.1) lJ)];exact ag
 ·walk_at "w";exact⟨x,y,v,u,rfl,bj,⟨by lia,aI⟩,hk,ih,hl,jx,ag⟩
theorem aeQ :
  bZ P w K mg base "slices" ["sheet","cut","size","first","last"] 2 (b7 K 5 (sL 0 a_cut_upright a_cut_level)):=by
 refine dr Y.f_slices vv rfl (λ_ _ _ _ _ _ _ ak=>⟨_,(a5 (fq (gc (f:=λi j=>decide (i=j)) kZ (gb (af 4) (af 3)) aY (dJ _)) (bB (cz (ee (fY (a2 (af 0) bY))))) fp) NL),?_⟩);rintro as k am ⟨sh,c,w,x,y,bR,n,t,rfl,lw,c1,c2,I0,yl,dD,al,ax,aM,ag⟩;refine cZ rfl ?_;have ah7:y=x+1:=by simp at dD;lia
 refine⟨_,rfl,_,rfl,_,_,rfl,rfl,_,_,rfl,rfl,_,rfl,gP (λg=>?_) (λg=>absurd (show((y:Nat):Int)-(x:Int)=1 by lia) g)⟩;exact⟨_,rfl,q5,ag⟩
theorem DN{N J:Nat}(L:Nat)(a4:N<=8)(e5:7<=L)(Kv:J<=L){a_cut_level:TI}(jL:mg "cut_level"=some (.ref a_cut_level)){a_cut_upright:TI}(jM:mg "cut_upright"=some (.ref a_cut_upright))(S:bZ P w K mg base "slices" ["sheet","cut","size","first","last"] J (b7 K 5 (sL N a_cut_upright a_cut_level))):
  bZ P w K mg base "slices" ["sheet","cut","size","first","last"] (L+1) (b7 K 5 (sL (N+1) a_cut_upright a_cut_level)):=by
 refine dr (lv:=L) Y.f_slices vv rfl (λ_ _ _ _ _ _ _ ak=>⟨_,(a5 (fq (gc (f:=λi j=>decide (i=j)) kZ (gb (af 4) (af 3)) aY (dJ _)) (bB (cz (ee (fY (a2 (af 0) bY))))) fp) (a5 (cO 5 vv.nd (el (eQ (af 3) (af 4)) aY)) (a5 (jc (aa6 (h1:=e5) (h2:=e5) 1 (Kq B Y) jM (aeK B Y) jL ak (aw (af 0) (aw (wt (hjk:=by lia) (og B Y) ak (by rfl) (aw (af 2) (aw (di (a2 (af 5) (a2 aY bY))) aX))) aX))) (gT (n:=2) rfl (c7 (dd 6 vv.nd) (c7 (dd 7 vv.nd) gF)))) (bB (cz (ee (mU (wt (hjk:=Kv) S ak (by rfl) (aw (af 6) (aw (af 1) (aw (af 2) (aw (af 3) (aw (af 5) aX)))))) (wt (hjk:=Kv) S ak (by rfl) (aw (af 7) (aw (af 1) (aw (af 2) (aw (af 5) (aw (af 4) aX))))))))))))),?_⟩);rintro as k am ⟨sh,c,w,x,y,bR,n,t,rfl,lw,c1,c2,I0,yl,dD,al,ax,aM,ag⟩;refine cZ rfl ?_;have cY:2<=TT:=by decide
 have f0:=jN;rw[ho]at ag;refine⟨_,rfl,_,rfl,_,_,rfl,rfl,_,_,rfl,rfl,_,rfl,gP (λg=>?_) (λg=>?_)⟩
 ·rw[SC (by lia)]at ag;exact⟨_,rfl,q5,ag⟩
 rw[SL (by lia)]at ag;have dD:y-x<=2^N*2:=dD
 have uG:((x:Int)+(y:Int)).fdiv 2=(((x+y)/2:Nat):Int):=by
  rw[Wl _ (by decide)];lia
 obtain⟨m,aeR⟩:∃m,m=(x+y)/2:=⟨_,rfl⟩;rw[<-aeR]at ag uG;have Kw:x<m:=by lia
 have vc:m<y:=by lia
 refine⟨_,rfl,_,rfl,_,_,rfl,rfl,_,_,rfl,rfl,⟨by decide,by decide⟩,?_⟩;dsimp only;rw[uG];obtain⟨fH,mq⟩:=hV (w:=w) lw.1 (m:Int);obtain⟨bo,bG⟩:=lK (w:=w) (q:=110) lw.1 c1 c2 (k:=(m:Int)) (by lia);obtain⟨az,a'⟩:=al.cut (c:=c) fH bo bG (by lia) (by lia);have qD:wp (m:Int)<=4000:=SE (oz (by lia) (by lia)) (by decide);have Kx:aH (m:Int) 1:=⟨by decide,by simp⟩;have ae:∀s∈sh,∀c∈s.1,cD 1990 c/\aT c:=λs eF p ae=>⟨((al.1 s eF).rb.pts p ae).bp,((al.1 s eF).rb.pts p ae).pt⟩;have sI:∀s∈sh,s.1.length<=1000:=λs eF=>by have:=(al.1 s eF).ln;lia
 have ls:=al.2
 have eL:∀A B:Ze,A=lowC c (dc w m) sh->B=highC c (dc w m) sh->Fd (AJ (Fk (oI 5 (sL N a_cut_upright a_cut_level) (k5 (gD 6) (k5 (gD 1) (k5 (gD 2) (k5 (gD 3) (k5 (gD 5) wq)))))) (oI 5 (sL N a_cut_upright a_cut_level) (k5 (gD 7) (k5 (gD 1) (k5 (gD 2) (k5 (gD 5) (k5 (gD 4) wq)))))))) {nx:=λx=>k (aD.val D.non),rt:=k} [.val (dSh sh),.val (.kfn (if c=true then a_cut_level else a_cut_upright)),.val (dR w),.val (.int x),.val (.int y),.val (.int m),.val (dSh A),.val (dSh B)]:=by
  rintro A B rfl rfl;refine⟨_,rfl,_,rfl,_,rfl,_,rfl,_,rfl,rfl,_,c,w,x,m,bR,n+1,t,rfl,lw,c1,c2,Kw,by lia,by lia,az,ax,by lia,?_⟩;dsimp only[cb];refine⟨_,rfl,_,rfl,_,rfl,_,rfl,_,rfl,rfl,_,c,w,m,y,bR,n+1,t,rfl,lw,c1,c2,vc,yl,by lia,a',ax,by lia,?_⟩;dsimp only[cb];refine⟨_,_,rfl,rfl,?_,?_⟩
  ·rw[Sw,Sw,n3 c w N _ _ _ Kw (by lia),n3 c w N _ _ _ vc (by lia)];lia
  ·rw[<-SJ];exact ag
 cases c with
 |true=>
  refine .inr ⟨rfl,?_⟩;refine⟨_,rfl,_,rfl,_,rfl,cY,rfl,w.1,w.2,(m:Int),1,rfl,lw,Kx,aW c1,aW c2,qD,by decide,?_⟩;dsimp only[cb];refine⟨rfl,sh,dc w m,rfl,fH,aW bo,aW bG,ae,sI,by lia,?_⟩;dsimp only[cb];exact⟨_,rfl,rfl,_,_,rfl,_,_,rfl,rfl,eL _ _ rfl rfl⟩
 |false=>
  refine .inl ⟨rfl,?_⟩;refine⟨_,rfl,_,rfl,_,rfl,cY,rfl,w.1,w.2,(m:Int),1,rfl,lw,Kx,aW c1,aW c2,qD,by decide,?_⟩;dsimp only[cb];refine⟨rfl,sh,dc w m,rfl,fH,aW bo,aW bG,ae,sI,by lia,?_⟩;dsimp only[cb];exact⟨_,rfl,rfl,_,_,rfl,_,_,rfl,rfl,eL _ _ rfl rfl⟩
theorem Ky{a_cut_level:TI}(jL:mg "cut_level"=some (.ref a_cut_level)){a_cut_upright:TI}(jM:mg "cut_upright"=some (.ref a_cut_upright)):
  bZ P w K mg base "slices" ["sheet","cut","size","first","last"] 10 (b7 K 5 (sL 3 a_cut_upright a_cut_level)):=
 (DN B Y 9 (by decide) (by decide) (by decide) jL jM (DN B Y 8 (by decide) (by decide) (by decide) jL jM (DN B Y 7 (by decide) (by decide) (by decide) jL jM (aeQ B Y (a_cut_upright:=a_cut_upright) (a_cut_level:=a_cut_level)))))
theorem aeS{a_cut_level:TI}(jL:mg "cut_level"=some (.ref a_cut_level)){a_cut_upright:TI}(jM:mg "cut_upright"=some (.ref a_cut_upright)):
  bZ P w K mg base "columns_of" ["sheet","wide","many"] 11 (b7 K 3 ad4):=by
 refine dr Y.f_columns_of ad3 rfl (λ_ _ _ _ _ _ _ ak=>⟨_,(bB (AP (Iz (ts:=["place","part"]) (fr:=["wide"]) (js:=[1]) (IN (a8 (Ky B Y jL jM) ak (aw (af 0) (aw (IL jM (by rfl)) (aw (af 1) (aw aY (aw (eQ (af 2) aY) aX)))))) (by rfl) B.enumerate_) (λ_ _ _ _=>(gT (n:=2) rfl (c7 (fM (i:=0) (show S7 (["place","part","wide"]:Zm) by decide +kernel) rfl (SA rfl)) (c7 (fM (i:=1) (show S7 (["place","part","wide"]:Zm) by decide +kernel) rfl (SA rfl)) gF)))) (λ_ _ _ _=>jd) (λ_ _ _ _=>(a8 (sN B Y) ak (aw (af 1) (aw (a8 (lP B Y) ak (aw (a8 (og B Y) ak (aw (af 2) (aw (di (a2 (i' (af 0)) (a2 aY bY))) aX))) (aw (di (a2 aY (a2 aY bY))) aX))) aX)))) ⟨rfl,by decide +kernel,rfl,by decide +kernel,ib (Tp.mpr ⟨rfl,(S' _)⟩),iw rfl,by walk_at "ffr",rfl⟩))),?_⟩);rintro as k am ⟨sh,w,q,m,bR,n,t,rfl,au,lw,c1,c2,bf,sB,al,ax,aM,bv,ag⟩;refine cZ rfl ?_;have cY:2<=TT:=by decide
 have f0:=jN;have en:aH 0 1:=⟨by decide,by decide⟩;have sz:=u3 (c:=false) (w:=w) (b:=1990) (m:=bR) (t:=t) (N:=400) (q:=110) lw.1 c1 c2 (by lia) (by lia) 3 (n:=n) (sh:=sh) (x:=0) (y:=m) (by lia) sB al;have sl:=n3 false w 3 sh 0 m (by lia) (by lia);refine⟨_,rfl,_,rfl,_,rfl,_,_,rfl,rfl,rfl,sh,false,w,0,m,bR,n,t,by rw[<-au];rfl,lw,c1,c2,by lia,sB,by lia,al,ax,by lia,?_⟩;dsimp only[cb];refine⟨_,rfl,by rw[yi,Sw,sl];lia,?_⟩;refine C2 (f:=dSh) (h:=λj S=>dSh (S.map (eU (kN false w j)))) (λj S DO k ag=>?_) (by rw[et,C0]at ag;exact ag);obtain⟨_,eT,m3⟩:=C3 DO;rw[sl]at eT;have ed:=sz S m3;obtain⟨fH,_⟩:=hV (w:=w) lw.1 (-(j:Int));obtain⟨bo,bG⟩:=lK (w:=w) (q:=110) lw.1 c1 c2 (k :=-(j:Int)) (by lia);have DP:aH (-(j:Int)) 1:=⟨by decide,by simp⟩;have DQ:wp (-(j:Int))<=4000:=SE (oz (by lia) (by lia)) (by decide);have gp:=C4 (c:=false) (w:=w) (q:=110) lw.1 c1 c2 (j:=j) (by lia);refine⟨_,rfl,_,rfl,_,rfl,_,rfl,cY,rfl,w.1,w.2,-(j:Int),1,rfl,lw,DP,aW c1,aW c2,DQ,by decide,?_⟩;dsimp only[cb];refine⟨cY,rfl,_,_,(dc w (-(j:Int))).1,(dc w (-(j:Int))).2,0,1,rfl,rfl,rfl,fH,en,aW bo,aW bG,by decide,by decide,?_⟩;dsimp only[cb];refine⟨rfl,S,kN false w j,rfl,ed.2,λs eF=>(ed.1 s eF).gm (by decide) (by lia) bv,gp.mono (by decide),?_⟩;exact ag
theorem aeT{a_cut_level:TI}(jL:mg "cut_level"=some (.ref a_cut_level)){a_cut_upright:TI}(jM:mg "cut_upright"=some (.ref a_cut_upright)):
  bZ P w K mg base "layers_of" ["sheet","high","many"] 11 (b7 K 3 ad6):=by
 refine dr Y.f_layers_of ad5 rfl (λ_ _ _ _ _ _ _ ak=>⟨_,(bB (AP (Iz (ts:=["place","part"]) (fr:=["high"]) (js:=[1]) (IN (a8 (Ky B Y jL jM) ak (aw (af 0) (aw (IL jL (by rfl)) (aw (af 1) (aw aY (aw (eQ (af 2) aY) aX)))))) (by rfl) B.enumerate_) (λ_ _ _ _=>(gT (n:=2) rfl (c7 (fM (i:=0) (show S7 (["place","part","high"]:Zm) by decide +kernel) rfl (SA rfl)) (c7 (fM (i:=1) (show S7 (["place","part","high"]:Zm) by decide +kernel) rfl (SA rfl)) gF)))) (λ_ _ _ _=>jd) (λ_ _ _ _=>(a8 (sN B Y) ak (aw (af 1) (aw (a8 (lP B Y) ak (aw (di (a2 aY (a2 aY bY))) (aw (a8 (og B Y) ak (aw (af 2) (aw (di (a2 (i' (af 0)) (a2 aY bY))) aX))) aX))) aX)))) ⟨rfl,by decide +kernel,rfl,by decide +kernel,ib (Tp.mpr ⟨rfl,(S' _)⟩),iw rfl,by walk_at "ffr",rfl⟩))),?_⟩);rintro as k am ⟨sh,w,q,m,bR,n,t,rfl,au,lw,c1,c2,bf,sB,al,ax,aM,bv,ag⟩;refine cZ rfl ?_;have cY:2<=TT:=by decide
 have f0:=jN;have en:aH 0 1:=⟨by decide,by decide⟩;have sz:=u3 (c:=true) (w:=w) (b:=1990) (m:=bR) (t:=t) (N:=400) (q:=110) lw.1 c1 c2 (by lia) (by lia) 3 (n:=n) (sh:=sh) (x:=0) (y:=m) (by lia) sB al;have sl:=n3 true w 3 sh 0 m (by lia) (by lia);refine⟨_,rfl,_,rfl,_,rfl,_,_,rfl,rfl,rfl,sh,true,w,0,m,bR,n,t,by rw[<-au];rfl,lw,c1,c2,by lia,sB,by lia,al,ax,by lia,?_⟩;dsimp only[cb];refine⟨_,rfl,by rw[yi,Sw,sl];lia,?_⟩;refine C2 (f:=dSh) (h:=λj S=>dSh (S.map (eU (kN true w j)))) (λj S DO k ag=>?_) (by rw[et,C0]at ag;exact ag);obtain⟨_,eT,m3⟩:=C3 DO;rw[sl]at eT;have ed:=sz S m3;obtain⟨fH,_⟩:=hV (w:=w) lw.1 (-(j:Int));obtain⟨bo,bG⟩:=lK (w:=w) (q:=110) lw.1 c1 c2 (k :=-(j:Int)) (by lia);have DP:aH (-(j:Int)) 1:=⟨by decide,by simp⟩;have DQ:wp (-(j:Int))<=4000:=SE (oz (by lia) (by lia)) (by decide);have gp:=C4 (c:=true) (w:=w) (q:=110) lw.1 c1 c2 (j:=j) (by lia);refine⟨_,rfl,cY,_,rfl,_,rfl,_,rfl,cY,rfl,w.1,w.2,-(j:Int),1,rfl,lw,DP,aW c1,aW c2,DQ,by decide,?_⟩;dsimp only[cb];refine⟨rfl,_,_,0,1,(dc w (-(j:Int))).1,(dc w (-(j:Int))).2,rfl,rfl,rfl,en,fH,by decide,by decide,aW bo,aW bG,?_⟩;dsimp only[cb];refine⟨rfl,S,kN true w j,rfl,ed.2,λs eF=>(ed.1 s eF).gm (by decide) (by lia) bv,gp.mono (by decide),?_⟩;exact ag
theorem aeU :
  bZ P w K mg base "plus" ["one","other"] 3 (b7 K 2 ad7):=by
 refine dr Y.f_plus pL rfl (λ_ _ _ _ _ _ _ ak=>⟨_,(a5 (cO 2 pL.nd (a8 (lO B Y) ak (aw (je (af 0) aY (λ_ _=>rfl)) (aw (je (af 1) aY (λ_ _=>rfl)) aX)))) (a5 (cO 3 pL.nd (eQ (cF (je (af 0) aY (λ_ _=>rfl)) (el (je (af 1) aY (λ_ _=>rfl)) (af 2))) (cF (je (af 1) aY (λ_ _=>rfl)) (el (je (af 0) aY (λ_ _=>rfl)) (af 2))))) (a5 (cO 4 pL.nd (a8 (lO B Y) ak (aw (af 2) (aw (af 3) aX)))) (bB (cz (di (a2 (el (af 3) (af 4)) (a2 (cF (el (je (af 0) aY (λ_ _=>rfl)) (af 2)) (el (je (af 1) aY (λ_ _=>rfl)) (af 4))) bY)))))))),?_⟩);rintro as k am ⟨eu,x,y,u,v,rfl,ao,bj,bt,hk,ih,jx,hl,ag⟩;refine cZ rfl ?_;have v0:v≠0:=SD bt.1;have sp:=oA (t:=y) (b:=v) v0;have f':=l5 (a:=y) (b:=v) v0 hl;have cp:=λtop d=>Gh bj bt (s:=((Hh y v:Nat):Int)) (top:=top) (d:=d) rfl;refine⟨_,rfl,_,_,_,ao,rfl,rfl,_,rfl,_,_,_,rfl,rfl,rfl,rfl,_,_,rfl,?_⟩;dsimp only[cb];generalize((Hh y v:Nat):Int)=s at *;have a7:wp (v.fdiv s)<=4000:=d6 (Wp _ _) hl;have bd:wp (y.fdiv s)<=4000:=d6 (Wp _ _) ih;have tb:wp (x*v.fdiv s+u*y.fdiv s)<=8001:=Xr (TD hk a7) (TD jx bd);have hd:∀z:Int,rr z s:=λz=>⟨by lia,aW f'⟩;have cp:=λd=>cp _ d rfl;refine⟨_,rfl,_,_,_,ao,rfl,rfl,_,rfl,_,_,_,rfl,rfl,rfl,_,rfl,_,_,rfl,rfl,hd _,_,_,rfl,rfl,⟨by walk_at "bits",by walk_at "bits"⟩,?_⟩;refine⟨_,rfl,_,_,_,rfl,rfl,rfl,_,rfl,_,_,_,ao,rfl,rfl,_,rfl,_,_,rfl,rfl,hd _,_,_,rfl,rfl,⟨by walk_at "bits",by walk_at "bits"⟩,_,_,rfl,rfl,?_⟩;dsimp only;generalize x*v.fdiv s+u*y.fdiv s=top at *;refine⟨_,rfl,_,rfl,rfl,_,_,rfl,?_⟩;dsimp only[cb];have cp:=cp _ rfl;have dp:=l8 (a:=s) (b:=top) (.inl (SD sp))
 have yS:wp ((Hh s top:Nat):Int)<=4000:=by
  rw[TJ];exact l5 (SD sp) f'
 generalize((Hh s top:Nat):Int)=d at *;have eR:wp (v.fdiv d)<=4000:=d6 (Wp _ _) hl;have hd2:∀z:Int,rr z d:=λz=>⟨by lia,aW yS⟩;rw[<-cp]at ag;refine⟨_,rfl,_,rfl,_,_,rfl,rfl,hd2 _,?_⟩;refine⟨_,rfl,_,_,_,ao,rfl,rfl,_,rfl,_,_,rfl,rfl,hd _,_,rfl,_,_,_,rfl,rfl,rfl,_,rfl,_,_,rfl,rfl,hd2 _,_,_,rfl,rfl,⟨by walk_at "bits",by walk_at "bits"⟩,f6,?_⟩;exact ag
theorem DR :
  bZ P w K mg base "piled" ["boxes"] 5 (b7 K 1 ad8):=by
 refine ui [true] Y.f_piled q1 rfl (λ_ _ _ _ _ _ _ ak=>⟨_,(a5 (cO 1 q1.nd (tW Y.G_NOTHING (by rfl))) (a5 (k7 (i:=2) q1.nd rfl (SA rfl) (fY bY)) (a5 (G9 0 PassesOwn.never rfl (G8 (n:=3) rfl (rY (xr (i:=3) q1.nd rfl (SA rfl)) (rY (xr (i:=4) q1.nd rfl (SA rfl)) (rY (G6 (i:=5) q1.nd rfl (SA rfl)) G7)))) (a5 (A9 2 (xp (xo (qm (sN B Y) ak (by rfl) (aw (af 5) (aw (a8 (lP B Y) ak (aw (tW Y.G_NOTHING (by rfl)) (aw (af 1) aX))) aX)))))) (bB (cO 1 q1.nd (a8 (aeU B Y) ak (aw (af 1) (aw (af 4) aX))))))) (k6 2 (bB (cz (di (a2 (BN (hQ (ei 0) aY (λ_ _=>rfl))) (a2 (af 1) (a2 (af 2) bY)))))))))),?_⟩);rintro as k am ⟨b0,bs,rfl,eO,ae,am,ag⟩;refine⟨⟨trivial,trivial⟩,cZ (r:=[.new (.lst ((b0::bs).map dBx)),.no,.no,.no,.no,.no]) rfl ?_⟩;have hb:3<=TT:=by decide
 have f0:=jN;have en:aH 0 1:=⟨by decide,by decide⟩;refine dX (λρ=>ρ=[.new (.lst ((b0::bs).map dBx)),.val (.ktup [.int 0,.int 1]),.no,.no,.no,.no]) ?_ (λN aG=>aG _ rfl);rintro ρ rfl;refine dX (λρ=>ρ=[.new (.lst ((b0::bs).map dBx)),.val (.ktup [.int 0,.int 1]),.own (.l ((dh [] (0,1)).map dS)),.no,.no,.no]) ?_ (λN aG=>⟨S8 _,aG _ rfl⟩);rintro ρ rfl;refine dX (λρ=>∃af fe gx:aD,ρ=[.new (.lst ((b0::bs).map dBx)),.val (dR (bN (b0::bs) (0,1))),.own (.l ((dh (b0::bs) (0,1)).map dS)),af,fe,gx]) ?_ (λN aG=>?_)
 ·rintro ρ ⟨af,fe,gx,rfl⟩;refine⟨_,rfl,?_⟩;refine⟨_,rfl,(b0::bs).map dBx,0,dBx b0,.inr rfl,rfl,abk _ _,[dR b0.1,dR b0.2.1,dSh b0.2.2],0,dR b0.1,.inl rfl,rfl,rfl,rfl,?_⟩;exact⟨_,rfl,_,rfl,hb,ag⟩
 refine⟨_,rfl,?_⟩;refine I3 (done:=[]) (bs:=b0::bs) (λpre ρ=>∃(sO:D)(af fe gx:aD),ρ=[.new (.lst ((b0::bs).map dBx)),.val sO,.own (.l ((dh pre (0,1)).map dS)),af,fe,gx]/\tU sO=some [.int (bN pre (0,1)).1,.int (bN pre (0,1)).2]/\(pre≠[]->sO=dR (bN pre (0,1)))) ⟨_,_,_,_,rfl,rfl,λz=>absurd rfl z⟩ ?_ (λρ h=>?_);rotate_left
 ·obtain⟨sO,af,fe,gx,rfl,_,e⟩:=h;rw[e (by simp)];exact aG _ ⟨_,_,_,rfl⟩
 rintro pre x rest ρ aB ⟨sO,af,fe,gx,rfl,ay,_⟩ oe il;rw[Tc]at aB;obtain⟨lh,c1,c2,gm⟩:=eO x (by rw[aB];simp);obtain⟨ah,ap⟩:=ae pre x rest aB;have bU:aH (bN pre (0,1)).1 (bN pre (0,1)).2:=sn en λb ab=>(eO b (by rw[aB];simp[ab])).1.1
 have CY:((pre.map λb=>b.2.2.length).sum+(x.2.2.length+(rest.map λb=>b.2.2.length).sum))<=400:=by
  rw[aB]at am;simpa using am
 have gp:dE 450 (cj (0,1) (bN pre (0,1))):=⟨(ju (n:=1*(bN pre (0,1)).2) (SD (SF (by decide) bU.1))).1,(lB (x:=0) (y:=1) (m:=2) (by decide) (by decide) ah ap en bU).mono (by decide)⟩;dsimp only;refine⟨_,rfl,_,rfl,_,rfl,rfl,_,_,0,1,(bN pre (0,1)).1,(bN pre (0,1)).2,rfl,rfl,ay,en,bU,by decide,by decide,aW ah,aW ap,?_⟩;dsimp only[cb];refine⟨rfl,x.2.2,cj (0,1) (bN pre (0,1)),rfl,by lia,gm,gp,_,rfl,?_⟩;refine⟨_,rfl,by rw[Sw,Sw,Sw,qK];lia,?_⟩
 have es:(dh pre (0,1)).map dS++(x.2.2.map (eU (cj (0,1) (bN pre (0,1))))).map dS=(dh (pre++[x]) (0,1)).map dS:=by
  rw[I1,SJ];show _=_++(x.2.2.map (eU (cj (0,1) (bN pre (0,1))))++[]).map dS
  rw[SP]
 have sb:bN (pre++[x]) (0,1)=ij (bN pre (0,1)) x.2.1:=by rw[yj];rfl
 rw[es];refine⟨_,rfl,_,rfl,rfl,sO,(bN pre (0,1)).1,(bN pre (0,1)).2,x.2.1.1,x.2.1.2,rfl,ay,bU,lh,aW ah,aW ap,aW c1,aW c2,?_⟩;exact il _ ⟨dR (ij (bN pre (0,1)) x.2.1),_,_,_,rfl,by rw[sb];rfl,λ_=>by rw[sb]⟩
theorem aeV :
  bZ P w K mg base "in_columns" ["box","wide"] 12 (b7 K 2 ad9):=by
 obtain⟨a_cut_level,_,jL,_,_⟩:=id Y.f_cut_level.ex;obtain⟨a_cut_upright,_,jM,_,_⟩:=id Y.f_cut_upright.ex;refine dr Y.f_in_columns q2 rfl (λ_ _ _ _ _ _ _ ak=>⟨_,(a5 (jc (af 0) (gT (n:=3) rfl (c7 (dd 2 q2.nd) (c7 (fM (i:=3) q2.nd rfl (SI rfl)) (c7 (dd 4 q2.nd) gF))))) (a5 (cO 5 q2.nd (gb (a8 (aeO B Y) ak (aw (a8 (yT B Y) ak (aw (af 2) (aw (af 1) aX))) aX)) aY)) (a5 (k7 (i:=6) q2.nd rfl (SA rfl) (NB (aeS B Y jL jM) ak (by rfl) (aw (af 4) (aw (af 1) (aw (af 5) aX))))) (a5 (aa9 7 6 (a8 (DM B Y) ak (aw (af 2) (aw (a8 (og B Y) ak (aw (af 1) (aw (di (a2 (af 5) (a2 aY bY))) aX))) aX))) (af 3) q2.nd rfl (SA rfl)) (k6 6 (bB (cz (ee (mU (ee (mW (ts:=["one"]) (fr:=["wide","high"]) (js:=[1,3]) (iv (af 6)) (λ_ _ _ _=>(fM (i:=0) (show S7 (["one","wide","high"]:Zm) by decide +kernel) rfl (SA rfl))) (λ_ _ _ _=>jd) (λ_ _ _ _=>(di (a2 (af 1) (a2 (af 2) (a2 (af 0) bY))))) ⟨rfl,by decide +kernel,rfl,by decide +kernel,ib (Tp.mpr ⟨rfl,(Tp.mpr ⟨rfl,(S' _)⟩)⟩),iw rfl,by walk_at "ffr",rfl⟩)) (ee (fY (a2 (af 7) bY)))))))))))),?_⟩);rintro as k am ⟨w,h,g,sh,N,bR,n,t,rfl,lw,lh,aJ,w0,h0,aV,c1,c2,c3,c4,bC,bD,a4,hD,qM,al,ax,aM,bv,ag⟩;refine cZ rfl ?_;have cY:2<=TT:=by decide
 have hb:3<=TT:=by decide
 have f0:=jN;refine dX (λρ=>ρ=[.val (dBx (w,h,sh)),.val (dR g),.val (dR w),.val (dR h),.val (dSh sh),.no,.no,.no]) ?_ (λN aG=>⟨_,rfl,_,rfl,rfl,_,_,rfl,_,_,rfl,_,_,rfl,rfl,aG _ rfl⟩);rintro ρ rfl;obtain⟨lo,A4⟩:=nf (a:=w) (b:=g) lw.1 aV aJ.1;obtain⟨jC,iU⟩:=so (a:=w) (b:=g) (p:=30) (q:=30) lw.1 aV c1 c2 bC bD;refine dX (λρ=>ρ=[.val (dBx (w,h,sh)),.val (dR g),.val (dR w),.val (dR h),.val (dSh sh),.val (.int ((N:Int)-1)),.no,.no]) ?_ (λN' aG=>?_);rotate_left
 ·refine⟨_,rfl,_,rfl,rfl,w.1,w.2,g.1,g.2,rfl,lw,aJ,aW c1,aW c2,aW bC,aW bD,by lia,?_⟩;dsimp only[cb];refine⟨rfl,(d9 w g).1,(d9 w g).2,rfl,lo.1,aW iU,?_⟩;dsimp only[cb];rw[a4];exact⟨_,_,rfl,rfl,aG _ rfl⟩
 rintro ρ rfl;have bm:=nh (c:=false) (w:=g) (sh:=sh) hD qM
 obtain⟨Ss,Z,g1⟩:∃Ss Z,et false g sh N=Ss++[Z]:=by
  rcases UT (et false g sh N)with z|⟨Ss,Z,z⟩
  ·rw[z]at bm;simp at bm;lia
  ·exact⟨Ss,Z,by rw[z,UU]⟩
 refine dX (λρ=>ρ=[.val (dBx (w,h,sh)),.val (dR g),.val (dR w),.val (dR h),.val (dSh sh),.val (.int ((N:Int)-1)),.own (.l (Ss.map dSh++[dSh Z])),.no]) ?_ (λN' aG=>?_);rotate_left
 ·refine⟨_,rfl,_,rfl,_,rfl,rfl,sh,g,(N:Int)-1,N,bR,n,t,rfl,by lia,aJ,aW bC,aW bD,hD,qM,al.mono (Sy _) (Sy _) (Sy _) (Sy _) (by decide),by lia,by lia,by lia,?_⟩;refine⟨_,rfl,aG _ ?_⟩;rw[g1,SJ];rfl
 rintro ρ rfl;obtain⟨jI,_⟩:=hV (w:=g) aJ.1 ((N:Int)-1);obtain⟨bf,bL⟩:=lK (w:=g) (q:=30) aJ.1 bC bD (k:=(N:Int)-1) (by lia);have qN:wp ((N:Int)-1)<=4000:=SE (oz (by lia) (by lia)) (by decide);have yU:aH ((N:Int)-1) 1:=⟨by decide,by simp⟩;refine dX (λρ=>ρ=[.val (dBx (w,h,sh)),.val (dR g),.val (dR w),.val (dR h),.val (dSh sh),.val (.int ((N:Int)-1)),.own (.l (Ss.map dSh)),.val (.tup [dR (ik w g N),dR h,dSh Z])]) ?_ (λN' aG=>?_);rotate_left
 ·refine⟨Ss.map dSh,dSh Z,rfl,?_⟩;refine⟨_,rfl,_,rfl,_,rfl,cY,rfl,g.1,g.2,(N:Int)-1,1,rfl,aJ,yU,aW bC,aW bD,qN,by decide,?_⟩;dsimp only[cb];refine⟨rfl,w.1,w.2,(dc g ((N:Int)-1)).1,(dc g ((N:Int)-1)).2,rfl,lw,jI,aW c1,aW c2,aW bf,aW bL,?_⟩;exact⟨_,rfl,aG _ rfl⟩
 rintro ρ rfl
 have ll:Ss.length<=8:=by
  have:=TW S0 g1;rw[bm,SH]at this;simp at this;lia
 refine⟨_,rfl,?_⟩;refine⟨_,rfl,_,rfl,by rw[Sw];lia,?_⟩;refine lf (f:=dSh) (h:=λS=>D.tup [dR g,dR h,dSh S]) (λS cu k ag=>⟨_,rfl,_,rfl,_,rfl,hb,ag⟩) ?_;refine⟨_,rfl,q5,_,_,rfl,rfl,by rw[Sw,TA];lia,?_⟩;have:=ag Ss Z g1;rw[SJ,SU]at this;exact this
theorem aeW :
  bZ P w K mg base "in_layers" ["box","wide"] 12 (b7 K 2 ad'):=by
 obtain⟨a_cut_level,_,jL,_,_⟩:=id Y.f_cut_level.ex;obtain⟨a_cut_upright,_,jM,_,_⟩:=id Y.f_cut_upright.ex;refine dr Y.f_in_layers ob rfl (λ_ _ _ _ _ _ _ ak=>⟨_,(a5 (jc (af 0) (gT (n:=3) rfl (c7 (dd 2 ob.nd) (c7 (dd 3 ob.nd) (c7 (dd 4 ob.nd) gF))))) (a5 (cO 5 ob.nd (a8 (aeN B Y) ak (aw (a8 (yT B Y) ak (aw (af 1) (aw (af 2) aX))) aX))) (a5 (cO 6 ob.nd (a8 (yT B Y) ak (aw (af 3) (aw (di (a2 (af 5) (a2 aY bY))) aX)))) (a5 (k7 (i:=7) ob.nd rfl (SA rfl) (fY bY)) (a5 (QO PassesOwn.never rfl (a8 (aeT B Y jL jM) ak (aw (af 4) (aw (af 6) (aw (gb (af 5) aY) aX)))) (by rfl) B.enumerate_ (gT (n:=2) rfl (c7 (dd 8 ob.nd) (c7 (dd 9 ob.nd) gF))) (bB (A9 7 (a8 (sN B Y) ak (aw (af 9) (aw (a8 (lP B Y) ak (aw (a8 (og B Y) ak (aw (af 2) (aw (di (a2 (af 8) (a2 aY bY))) aX))) (aw (tW Y.G_NOTHING (by rfl)) aX))) aX)))))) (k6 7 (bB (cz (di (a2 (a8 (og B Y) ak (aw (af 2) (aw (di (a2 (af 5) (a2 aY bY))) aX))) (a2 (af 6) (a2 (af 7) bY)))))))))))),?_⟩);rintro as k am ⟨w,h,g,sh,N,bR,n,t,rfl,lw,lh,aJ,w0,h0,aV,c1,c2,c3,c4,bC,bD,a4,hD,qM,al,ax,aM,bv,ag⟩;refine cZ rfl ?_;have cY:2<=TT:=by decide
 have hb:3<=TT:=by decide
 have f0:=jN;have en:aH 0 1:=⟨by decide,by decide⟩;refine dX (λρ=>ρ=[.val (dBx (w,h,sh)),.val (dR g),.val (dR w),.val (dR h),.val (dSh sh),.no,.no,.no,.no,.no]) ?_ (λN aG=>⟨_,rfl,_,rfl,rfl,_,_,rfl,_,_,rfl,_,_,rfl,rfl,aG _ rfl⟩);rintro ρ rfl;obtain⟨lo,A4⟩:=nf (a:=g) (b:=w) aJ.1 w0 lw.1;obtain⟨jC,iU⟩:=so (a:=g) (b:=w) (p:=30) (q:=30) aJ.1 w0 bC bD c1 c2;refine dX (λρ=>ρ=[.val (dBx (w,h,sh)),.val (dR g),.val (dR w),.val (dR h),.val (dSh sh),.val (.int N),.no,.no,.no,.no]) ?_ (λN' aG=>?_);rotate_left
 ·refine⟨_,rfl,_,rfl,rfl,g.1,g.2,w.1,w.2,rfl,aJ,lw,aW bC,aW bD,aW c1,aW c2,by lia,?_⟩;dsimp only[cb];refine⟨rfl,(d9 g w).1,(d9 g w).2,rfl,lo.1,aW iU,?_⟩;dsimp only[cb];rw[a4];exact aG _ rfl
 rintro ρ rfl;have qN:wp (N:Int)<=4:=d6 (t:=8) (by lia) (by decide);have yU:aH (N:Int) 1:=⟨by decide,by simp⟩;obtain⟨fy,hX⟩:=nf (a:=h) (b:=((N:Int),1)) lh.1 (by show(0:Int)<N;lia) (show(0:Int)<1 by decide);obtain⟨bj,bt⟩:=so (a:=h) (b:=((N:Int),1)) (p:=100) (q:=4) lh.1 (by show(0:Int)<N;lia) c3 c4 qN (show wp 1<=4 by decide);have aeX:d9 h ((N:Int),1)=f3 h N:=rfl;rw[aeX]at fy bj bt;refine dX (λρ=>ρ=[.val (dBx (w,h,sh)),.val (dR g),.val (dR w),.val (dR h),.val (dSh sh),.val (.int N),.val (dR (f3 h N)),.no,.no,.no]) ?_ (λN' aG=>?_);rotate_left
 ·refine⟨_,rfl,_,rfl,cY,rfl,h.1,h.2,(N:Int),1,rfl,lh,yU,aW c3,aW c4,aW qN,by decide,by lia,?_⟩;exact aG _ rfl
 rintro ρ rfl;refine dX (λρ=>ρ=[.val (dBx (w,h,sh)),.val (dR g),.val (dR w),.val (dR h),.val (dSh sh),.val (.int N),.val (dR (f3 h N)),.own (.l ((fU w 0 []).map dS)),.no,.no]) ?_ (λN aG=>⟨S8 _,aG _ rfl⟩);rintro ρ rfl;obtain⟨L,e5⟩:∃L,L=f3 h N:=⟨_,rfl⟩;rw[<-e5]at fy bj bt ag⊢;have bm:=nh (c:=true) (w:=L) (sh:=sh) hD qM;have ke:=yk (c:=true) (w:=L) (b:=1990) (m:=bR) (t:=t) (N:=130) (q:=104) fy.1 bj bt (by lia) (by lia) hD qM al;obtain⟨ah8,_⟩:=hV (w:=w) lw.1 (N:Int);obtain⟨w1,df⟩:=lK (w:=w) (q:=30) lw.1 c1 c2 (k:=(N:Int)) (by lia);refine dX (λρ=>∃ff iG:aD,ρ=[.val (dBx (w,h,sh)),.val (dR g),.val (dR w),.val (dR h),.val (dSh sh),.val (.int N),.val (dR L),.own (.l ((fU w 0 (et true L sh N)).map dS)),ff,iG]) ?_ (λN' aG=>?_)
 ·rintro ρ ⟨ff,iG,rfl⟩;refine⟨_,rfl,?_⟩;refine⟨_,rfl,_,rfl,cY,rfl,w.1,w.2,(N:Int),1,rfl,lw,yU,aW c1,aW c2,aW qN,by decide,?_⟩;exact⟨_,rfl,_,rfl,hb,ag⟩
 refine⟨_,rfl,_,rfl,_,rfl,_,_,rfl,rfl,rfl,sh,L,(N:Int)-1,N,bR,n,t,rfl,by lia,fy,aW bj,aW bt,hD,qM,al.mono (Sy _) (Sy _) (Sy _) (Sy _) (by decide),by lia,by lia,by lia,?_⟩;dsimp only[cb];refine⟨_,rfl,?_⟩;generalize wc:et true L sh N=Db at bm ke ag aG;refine BJ (f:=dSh) (rs:=Db) (done:=[]) (λpre ρ=>∃ff iG:aD,ρ=[.val (dBx (w,h,sh)),.val (dR g),.val (dR w),.val (dR h),.val (dSh sh),.val (.int N),.val (dR L),.own (.l ((fU w 0 pre).map dS)),ff,iG]/\(fU w 0 pre).length<=130*pre.length) ⟨_,_,rfl,by simp[fU,fI]⟩ ?_ (λρ h=>?_);rotate_left
 ·obtain⟨ff,iG,rfl,_⟩:=h;exact aG _ ⟨ff,iG,rfl⟩
 rintro pre S rest ρ aB ⟨ff,iG,rfl,Df⟩ oe il;rw[Tc]at aB
 have cp:pre.length<8:=by
  have:=TW S0 aB;rw[bm]at this;simp at this;lia
 have Kz:=ke S (by rw[aB];simp);have r8:=Kz.2;obtain⟨fH,_⟩:=hV (w:=w) lw.1 (pre.length:Int);obtain⟨bF,e2⟩:=lK (w:=w) (q:=30) lw.1 c1 c2 (k:=(pre.length:Int)) (by lia);have bp:wp (pre.length:Int)<=4000:=SE (oz (by lia) (by lia)) (by decide);have aeY:aH (pre.length:Int) 1:=⟨by decide,by simp⟩;have gp:=jH (a:=dc w (pre.length:Int)) (b:=(0,1)) (p:=34) (q:=2) fH en bF e2 (by decide) (by decide);dsimp only;refine⟨_,rfl,_,rfl,_,rfl,_,rfl,cY,rfl,w.1,w.2,(pre.length:Int),1,rfl,lw,aeY,aW c1,aW c2,bp,by decide,?_⟩;dsimp only[cb];refine⟨rfl,_,_,(dc w (pre.length:Int)).1,(dc w (pre.length:Int)).2,0,1,rfl,rfl,rfl,fH,en,aW bF,aW e2,by decide,by decide,?_⟩;dsimp only[cb];refine⟨rfl,S,cj (dc w (pre.length:Int)) (0,1),rfl,by lia,λs eF=>(Kz.1 s eF).gm (by decide) (by lia) (by lia),gp.mono (by decide),?_⟩;dsimp only[cb];have es:(fU w 0 pre).map dS++(S.map (eU (cj (dc w (pre.length:Int)) (0,1)))).map dS=(fU w 0 (pre++[S])).map dS:=by rw[C5,SJ,TX]
 refine⟨_,rfl,by rw[Sw,Sw,Sw];lia,il _ ⟨.val (.int pre.length),.val (dSh S),by rw[es];rfl,?_⟩⟩;rw[C5,SH,Sw,SH,TA];lia
theorem aeZ :
  bZ P w K mg base "in_three" ["box","wide"] 8 (b7 K 2 aea):=by
 refine dr Y.f_in_three mA rfl (λ_ _ _ _ _ _ _ ak=>⟨_,(a5 (jc (af 0) (gT (n:=3) rfl (c7 (dd 2 mA.nd) (c7 (dd 3 mA.nd) (c7 (dd 4 mA.nd) gF))))) (a5 (fq (wH (ak.units) (af 2) (af 1) (dJ _)) (bB (cz (af 0))) fp) (a5 (cO 5 mA.nd (a8 (yT B Y) ak (aw (a8 (og B Y) ak (aw (af 2) (aw (af 3) aX))) (aw (af 1) aX)))) (a5 (jc (a8 (DL B Y) ak (aw (af 4) (aw (a8 (lP B Y) ak (aw (af 2) (aw (tW Y.G_NOTHING (by rfl)) aX))) (aw (a8 (lP B Y) ak (aw (tW Y.G_NOTHING (by rfl)) (aw (af 5) aX))) aX)))) (gT (n:=2) rfl (c7 (dd 6 mA.nd) (c7 (dd 7 mA.nd) gF)))) (a5 (jc (a8 (Kq B Y) ak (aw (af 6) (aw (af 1) aX))) (gT (n:=2) rfl (c7 (dd 8 mA.nd) (c7 (dd 9 mA.nd) gF)))) (a5 (cO 10 mA.nd (a8 (sN B Y) ak (aw (af 9) (aw (a8 (lP B Y) ak (aw (a8 (Ku B Y) ak (aw (af 1) aX)) (aw (af 3) aX))) aX)))) (a5 (cO 11 mA.nd (a8 (sN B Y) ak (aw (af 7) (aw (a8 (lP B Y) ak (aw (a8 (DM B Y) ak (aw (af 1) (aw (af 2) aX))) (aw (a8 (DM B Y) ak (aw (af 5) (aw (af 3) aX))) aX))) aX)))) (bB (cz (di (a2 (af 1) (a2 (af 5) (a2 (ee (mU (ee (mU (af 8) (af 10))) (af 11))) bY))))))))))))),?_⟩);rintro as k am ⟨w,h,g,sh,bR,n,t,rfl,lw,lh,aJ,w0,h0,aV,c1,c2,c3,c4,bC,bD,al,ax,aM,bv,ag⟩;refine cZ rfl ?_;have cY:2<=TT:=by decide
 have hb:3<=TT:=by decide
 have f0:=jN;have en:aH 0 1:=⟨by decide,by decide⟩;refine dX (λρ=>ρ=[.val (dBx (w,h,sh)),.val (dR g),.val (dR w),.val (dR h),.val (dSh sh),.no,.no,.no,.no,.no,.no,.no]) ?_ (λN aG=>⟨_,rfl,_,rfl,rfl,_,_,rfl,_,_,rfl,_,_,rfl,rfl,aG _ rfl⟩);rintro ρ rfl;by_cases jV:w=g
 ·rw[SC jV]at ag;subst jV;refine⟨_,rfl,_,rfl,.T [.I,.I],rfl,rfl,by decide,_,rfl,?_⟩;change (if eqD (dR w) (dR w)=true then _ else _);rw[oN];exact rH rfl ⟨_,rfl,ag⟩
 rw[SL jV]at ag
 have ne:eqD (dR w) (dR g)=false:=oO (by
  constructor
  ·intro z;cases z
  ·intro z;exact absurd (Pd z) jV)
 refine lc (λN aG=>?_) ?_
 ·refine⟨_,rfl,_,rfl,.T [.I,.I],rfl,rfl,by decide,_,rfl,?_⟩;change (if eqD (dR w) (dR g)=true then _ else _);rw[ne];exact rI rfl aG
 have lt:=(hB (t:=w.1*h.1) (b:=w.2*h.2) (SD (SF lw.1 lh.1)));have lH:wp (cw (w.1*h.1) (w.2*h.2)).1<=180/\wp (cw (w.1*h.1) (w.2*h.2)).2<=180:=⟨d6 lt.2.2.1 (TD c1 c3),d6 lt.2.2.2 (TD c2 c4)⟩;obtain⟨bU,hW⟩:=nf (a:=cw (w.1*h.1) (w.2*h.2)) (b:=g) lt.1.1 aV aJ.1;obtain⟨bo,bG⟩:=so (a:=cw (w.1*h.1) (w.2*h.2)) (b:=g) (p:=180) (q:=30) lt.1.1 aV lH.1 lH.2 bC bD;have ae0:d9 (cw (w.1*h.1) (w.2*h.2)) g=eD w h g:=rfl;rw[ae0]at bU bo bG;obtain⟨H,dw⟩:∃H,H=eD w h g:=⟨_,rfl⟩;refine dX (λρ=>ρ=[.val (dBx (w,h,sh)),.val (dR g),.val (dR w),.val (dR h),.val (dSh sh),.val (dR H),.no,.no,.no,.no,.no,.no]) ?_ (λN aG=>?_);rotate_left
 ·refine⟨_,rfl,_,rfl,rfl,w.1,w.2,h.1,h.2,rfl,lw,lh,aW c1,aW c2,aW c3,aW c4,?_⟩;dsimp only[cb];refine⟨_,rfl,rfl,(cw (w.1*h.1) (w.2*h.2)).1,(cw (w.1*h.1) (w.2*h.2)).2,g.1,g.2,rfl,lt.1,aJ,aW lH.1,aW lH.2,aW bC,aW bD,by lia,?_⟩;exact aG _ (by rw[dw];rfl)
 rintro ρ rfl;rw[<-dw]at bU bo bG;have BM:mu w h g sh=cL g true (ck (ln (bT w H)) (a0 (bT w H)) sh)++(cL g false (ck (ln (bT w H)) (a0 (bT w H)) sh)).map (eU (cj (-g.1,g.2) h))++(ck (λc => -ln (bT w H) c) (a0 (bT w H)) sh).map (eU (cj (fT g w) (fT H h))):=by rw[dw];rfl
 rw[BM,<-dw]at ag;have cW:=jH (a:=w) (b:=(0,1)) (p:=70) (q:=2) lw en c1 c2 (by decide) (by decide);have cS:=jH (a:=(0,1)) (b:=H) (p:=2) (q:=210) en bU (by decide) (by decide) bo bG;have bl:cD 300 (bT w H):=(cW.bp.crs cS.bp).mono (by decide);have ae:∀s∈sh,∀c∈s.1,cD 1990 c/\aT c:=λs eF p ae=>⟨((al.1 s eF).rb.pts p ae).bp,((al.1 s eF).rb.pts p ae).pt⟩;have sI:∀s∈sh,s.1.length<=1000:=λs eF=>by have:=(al.1 s eF).ln;lia
 have ls:=al.2;have n7:(bT w H).1≠0\/(bT w H).2.1≠0:=u6 lw w0 bU (ym lw w0 lh h0 aJ aV dw);have e:(λc => -ln (bT w H) c)=ln (mh (bT w H)):=funext λc=>(m5 _ _).symm;have z1:cP 1990 bR (n+1) t 130 (ck (ln (bT w H)) (a0 (bT w H)) sh):=⟨pC al.1 bl (by lia) n7 (pf _ _) (by lia) _ (.inl rfl),SE (mi sh) al.2⟩
 have aP:cP 1990 bR (n+1) t 130 (ck (λc => -ln (bT w H) c) (a0 (bT w H)) sh):=by
  rw[e];exact⟨pC al.1 bl (by lia) n7 (pf _ _) (by lia) _ (.inr rfl),SE (mi sh) al.2⟩
 generalize ae1:ck (ln (bT w H)) (a0 (bT w H)) sh=lo at z1 ag;generalize ae2:ck (λc => -ln (bT w H) c) (a0 (bT w H)) sh=me at aP ag;refine dX (λρ=>ρ=[.val (dBx (w,h,sh)),.val (dR g),.val (dR w),.val (dR h),.val (dSh sh),.val (dR H),.val (dSh lo),.val (dSh me),.no,.no,.no,.no]) ?_ (λN aG=>?_);rotate_left
 ·refine⟨_,rfl,_,rfl,rfl,_,_,w.1,w.2,0,1,rfl,rfl,rfl,lw,en,aW c1,aW c2,by decide,by decide,?_⟩;dsimp only[cb];refine⟨_,rfl,rfl,_,_,0,1,H.1,H.2,rfl,rfl,rfl,en,bU,by decide,by decide,aW bo,aW bG,?_⟩;dsimp only[cb];refine⟨rfl,sh,cj w (0,1),cj (0,1) H,rfl,cW.bp.mono (by decide),cS.bp.mono (by decide),ae,sI,by lia,?_⟩;dsimp only[cb];exact⟨_,rfl,rfl,_,_,rfl,_,_,rfl,rfl,aG _ (by rw[<-ae1,<-ae2];rfl)⟩
 rintro ρ rfl;have m4:∀s∈lo,∀c∈s.1,cD 1990 c/\aT c:=λs eF p ae=>⟨((z1.1 s eF).rb.pts p ae).bp,((z1.1 s eF).rb.pts p ae).pt⟩;have v8:∀s∈lo,s.1.length<=1000:=λs eF=>by have:=(z1.1 s eF).ln;lia
 have bj:=z1.2;have bO:=z1.cL (X:=g) (q:=30) true aJ bC bD (by lia) (by lia);have bV:=z1.cL (X:=g) (q:=30) false aJ bC bD (by lia) (by lia);refine dX (λρ=>ρ=[.val (dBx (w,h,sh)),.val (dR g),.val (dR w),.val (dR h),.val (dSh sh),.val (dR H),.val (dSh lo),.val (dSh me),.val (dSh (cL g true lo)),.val (dSh (cL g false lo)),.no,.no]) ?_ (λN aG=>?_);rotate_left
 ·refine⟨_,rfl,_,rfl,rfl,lo,g,rfl,aJ,aW bC,aW bD,m4,v8,by lia,?_⟩;dsimp only[cb];exact⟨_,rfl,rfl,_,_,rfl,_,_,rfl,rfl,aG _ rfl⟩
 rintro ρ rfl;have aR:=jH (a:=(-g.1,g.2)) (b:=h) (p:=30) (q:=110) ⟨aJ.1,by rw[U6];exact aJ.2⟩ lh (Xu bC) bD c3 c4;refine dX (λρ=>ρ=[.val (dBx (w,h,sh)),.val (dR g),.val (dR w),.val (dR h),.val (dSh sh),.val (dR H),.val (dSh lo),.val (dSh me),.val (dSh (cL g true lo)),.val (dSh (cL g false lo)),.val (dSh ((cL g false lo).map (eU (cj (-g.1,g.2) h)))),.no]) ?_ (λN aG=>?_);rotate_left
 ·refine⟨_,rfl,_,rfl,rfl,g.1,g.2,rfl,?_⟩;dsimp only[cb];refine⟨_,rfl,rfl,_,_,-g.1,g.2,h.1,h.2,rfl,rfl,rfl,⟨aJ.1,by rw[U6];exact aJ.2⟩,lh,SE (Xu bC) (by decide),aW bD,aW c3,aW c4,?_⟩;dsimp only[cb];refine⟨rfl,cL g false lo,cj (-g.1,g.2) h,rfl,by have:=bV.2;lia,λs eF=>(bV.1 s eF).gm (by decide) (by lia) (by lia),aR.mono (by decide),?_⟩;exact aG _ rfl
 rintro ρ rfl;obtain⟨su,_⟩:=n6 (a:=g) (b:=w) aJ.1 lw.1;obtain⟨sv,_⟩:=n6 (a:=H) (b:=h) bU.1 lh.1;obtain⟨bF,e2⟩:=u5 (a:=g) (b:=w) (p:=30) (q:=70) aJ.1 lw.1 bC bD c1 c2;obtain⟨mm,ka⟩:=u5 (a:=H) (b:=h) (p:=210) (q:=110) bU.1 lh.1 bo bG c3 c4;have bK:=jH (a:=fT g w) (b:=fT H h) (p:=101) (q:=321) su sv bF e2 mm ka;refine dX (λρ=>ρ=[.val (dBx (w,h,sh)),.val (dR g),.val (dR w),.val (dR h),.val (dSh sh),.val (dR H),.val (dSh lo),.val (dSh me),.val (dSh (cL g true lo)),.val (dSh (cL g false lo)),.val (dSh ((cL g false lo).map (eU (cj (-g.1,g.2) h)))),.val (dSh (me.map (eU (cj (fT g w) (fT H h)))))]) ?_ (λN aG=>?_);rotate_left
 ·refine⟨_,rfl,_,rfl,_,rfl,rfl,g.1,g.2,w.1,w.2,rfl,aJ,lw,aW bC,aW bD,aW c1,aW c2,?_⟩;dsimp only[cb];refine⟨_,rfl,_,rfl,rfl,H.1,H.2,h.1,h.2,rfl,bU,lh,aW bo,aW bG,aW c3,aW c4,?_⟩;dsimp only[cb];refine⟨rfl,_,_,(fT g w).1,(fT g w).2,(fT H h).1,(fT H h).2,rfl,rfl,rfl,su,sv,aW bF,aW e2,aW mm,aW ka,?_⟩;dsimp only[cb];refine⟨rfl,me,cj (fT g w) (fT H h),rfl,by have:=aP.2;lia,λs eF=>(aP.1 s eF).gm (by decide) (by lia) (by lia),bK.mono (by decide),?_⟩;exact aG _ rfl
 rintro ρ rfl;have pj:=bO.2;have wL:=bV.2;have DS:=aP.2;refine⟨_,rfl,_,rfl,_,rfl,_,rfl,_,_,rfl,rfl,by rw[Sw,Sw,Sw];lia,_,rfl,_,_,rfl,rfl,by rw[SH,Sw,Sw,Sw,Sw,Sw];lia,hb,?_⟩;rw[<-SJ,<-SJ];exact ag
theorem ae3 :
  bZ P w K mg base "widened" ["box","wide"] 13 (b7 K 2 aeb):=by
 refine dr Y.f_widened DD rfl (λ_ _ _ _ _ _ _ ak=>⟨_,(a5 (fq (hO (a8 (aeM B Y) ak (aw (ei 0) (aw (af 1) aX)))) (bB (cO 2 DD.nd (ee (fY (a2 (a8 (aeW B Y) ak (aw (af 0) (aw (af 1) aX))) bY))))) (bB (cO 2 DD.nd (a8 (aeV B Y) ak (aw (af 0) (aw (af 1) aX)))))) (bB (wW (qm (DR B Y) ak (by rfl) (aw (ee (mU (ee (wy (af 2) wx (rF (i' aY)))) (ee (fY (a2 (a8 (aeZ B Y) ak (aw (hQ (af 2) (i' aY) (λ_ _=>rfl)) (aw (af 1) aX))) bY))))) aX))))),?_⟩);rintro as k am ⟨w,h,g,sh,B,bR,n,t,rfl,lw,lh,aJ,w0,h0,aV,c1,c2,c3,c4,bC,bD,r1,r2,al,ej,ax,aM,bv,ag⟩;refine cZ rfl ?_;have f0:=jN;obtain⟨bO,bV,gG,hf⟩:=C6 lw w0 lh h0 aJ aV c1 c2 c3 c4 bC bD al ej.1 ax r1 r2;have all1:=abn (w:=w) (h:=h) (g:=g) (sh:=sh)
 have ae:∀bs:Zi,bs=fu w h g sh->bs≠[]->∃b0 r,bs=b0::r/\(∀b∈b0::r,aH b.2.1.1 b.2.1.2/\wp b.2.1.1<=350/\wp b.2.1.2<=350/\∀s∈b.2.2,sm s)/\(∀pre b rest,b0::r=pre++b::rest->wp (bN pre (0,1)).1<=350/\wp (bN pre (0,1)).2<=350)/\((b0::r).map λb=>b.2.2.length).sum<=400/\b0.1=g:=by
  intro bs e ne;cases bs with
  |nil=>exact absurd rfl ne
  |cons b0 r=>
   rw[<-e]at bO bV gG all1;exact⟨b0,r,rfl,λb ab=>⟨(bO b ab).1,SE (bO b ab).2.1 (by decide),SE (bO b ab).2.2.1 (by decide),λs eF=>((bO b ab).2.2.2.1 s eF).gm (by lia) (by lia) (by lia)⟩,λpre b rest aS=>⟨SE (bV pre b rest aS).2.1 (by decide),SE (bV pre b rest aS).2.2 (by decide)⟩,by lia,all1 b0 Sx⟩
 have jV:eqD (dR w) (dR w)=true:=oN _;refine dX (λρ=>∃(bs:Zi)(b:BoxD)(vy n' t':Nat),ρ=[.val (dBx (w,h,sh)),.val (dR g),.val (.lst ((bs++[b]).map dBx))]/\bs++[lastB g b]=fu w h g sh/\bs.length<=8/\aH b.1.1 b.1.2/\aH b.2.1.1 b.2.1.2/\0<b.1.1/\0<b.2.1.1/\wp b.1.1<=70/\wp b.1.2<=70/\wp b.2.1.1<=110/\wp b.2.1.2<=110/\cP 1990 vy n' t' 130 b.2.2/\(350<=vy/\vy<=1600)/\n'<=60/\t'<=2000) ?_ (λN aG=>?_)
 ·rintro ρ ⟨bs,b,vy,n',t',rfl,eN,bl,aR,bK,e7,pY,qJ,z9,mI,tG,rN,ae4,ae5,ae6⟩;have ne:bs++[lastB g b]≠[]:=by simp
  obtain⟨b0,r,d5,aU,a9,bE,db⟩:=ae _ eN ne;have ae7:dW ((bs++[b]).map dBx) (-1)=some (dBx b):=by rw[SJ];exact L2.atI_last _ _
  have ms:gV ((bs++[b]).map dBx) none (some (-1))=bs.map dBx:=by rw[SJ];exact abr _ _
  refine⟨_,rfl,_,rfl,_,rfl,_,rfl,?_⟩;dsimp only;rw[ms];refine⟨_,rfl,_,rfl,_,_,_,.inr rfl,rfl,ae7,_,rfl,rfl,b.1,b.2.1,g,b.2.2,vy,n',t',rfl,aR,bK,aJ,e7,pY,aV,qJ,z9,mI,tG,bC,bD,rN,ae4,ae5,ae6,?_⟩;dsimp only[cb];refine⟨q5,_,_,rfl,rfl,by rw[Sw,TA];lia,?_⟩
  have j1:bs.map dBx++[dBx (if b.1=g then(b.1,b.2.1,b.2.2)else(g,eD b.1 b.2.1 g,mu b.1 b.2.1 g b.2.2))]=(bs++[lastB g b]).map dBx:=by
   rw[SJ];rfl
  rw[j1,d5];refine⟨rfl,b0,r,rfl,aU,a9,bE,?_⟩;refine⟨_,rfl,?_⟩;rw[db,<-d5,eN];exact ag
 by_cases c:w.1*g.2<g.1*w.2
 ·obtain⟨a4,cq,eW,_,_⟩:=u8 lw w0 aJ aV c r2;obtain⟨fy,iE,bj,bt,hX,jI,nR,bf,bL,lL⟩:=vb lw w0 lh h0 c1 c2 c3 c4 cq eW;have r8:=I' lw w0 lh h0 aJ aV c1 c2 c3 c4 bC bD al ej.1 ax cq eW;refine⟨_,rfl,_,_,_,.inl rfl,rfl,rfl,_,rfl,rfl,w.1,w.2,g.1,g.2,rfl,aW c1,aW c2,aW bC,aW bD,?_⟩;dsimp only[cb];refine⟨_,rfl,?_⟩;rw[SC (Xl c)];refine⟨_,rfl,_,rfl,rfl,w,h,g,sh,da w g,bR,n,t,rfl,lw,lh,aJ,w0,h0,aV,c1,c2,c3,c4,bC,bD,a4,cq,eW,al.mono (by lia) (Sy _) (Sy _) (Sy _) (by decide),by lia,by lia,by lia,?_⟩;dsimp only[cb];refine⟨q5,?_⟩;exact aG _ ⟨[],layB w h g sh,bR+150,n+3,t+148,rfl,(u9 c).symm,by simp,jI,fy,nR,iE,aW bf,aW bL,aW bj,aW bt,r8.mono (by lia) (Sy _) (Sy _) (Sy _) (by lia),by lia,by lia,by lia⟩
 ·obtain⟨a4,cq,eW,_,_⟩:=sq lw w0 aJ aV (by lia) r1;obtain⟨fy,iE,bj,bt,hX⟩:=yp lw w0 aJ aV c1 c2 bC bD (by lia) r1;have ke:=yk (c:=false) (w:=g) (b:=B) (m:=bR) (t:=t) (N:=16) (q:=30) aJ.1 bC bD (by lia) (by lia) cq eW al;have bm:=nh (c:=false) (w:=g) (sh:=sh) cq eW
  obtain⟨Ss,Z,g1⟩:∃Ss Z,et false g sh (dx w g)=Ss++[Z]:=by
   rcases UT (et false g sh (dx w g))with z|⟨Ss,Z,z⟩
   ·rw[z]at bm;simp at bm;lia
   ·exact⟨Ss,Z,by rw[z,UU]⟩
  have ll:Ss.length<=8:=by
   have:=TW S0 g1;rw[bm,SH]at this;simp at this;lia
  refine⟨_,rfl,_,_,_,.inl rfl,rfl,rfl,_,rfl,rfl,w.1,w.2,g.1,g.2,rfl,aW c1,aW c2,aW bC,aW bD,?_⟩;dsimp only[cb];refine⟨_,rfl,?_⟩;rw[SL (by simp only[decide_eq_true_eq];exact c)];refine⟨_,rfl,_,rfl,rfl,w,h,g,sh,dx w g,bR,n,t,rfl,lw,lh,aJ,w0,h0,aV,c1,c2,c3,c4,bC,bD,a4,cq,eW,al.mono (by lia) (Sy _) (Sy _) (Sy _) (by decide),by lia,by lia,by lia,?_⟩;intro ah9 ah' ae8;dsimp only[cb];have hA:=g1.symm.trans ae8;obtain⟨dy,hC⟩:=List.append_inj' hA rfl;cases dy;cases hC;exact aG _ ⟨Ss.map (λS=>((g,h,S):BoxD)),(ik w g (dx w g),h,Z),bR+150,n+3,t+148,rfl,(ss c g1).symm,by rw[Sw];exact ll,fy,lh,iE,h0,aW bj,aW bt,aW c3,aW c4,(ke Z (by rw[g1];simp)).mo5,by lia,by lia,by lia⟩
theorem ae9 :
  bZ P w K mg base "piled_by_width" ["boxes"] 6 (b7 K 1 aec):=by
 refine dr Y.f_piled_by_width DE rfl (λ_ _ _ _ _ _ _ ak=>⟨_,(a5 (aaU (b:=false) (i:=1) DE.nd rfl (SA rfl)) (a5 (k8 PassesOwn.never rfl (iv (af 0)) (dd 2 DE.nd) (bB (aaY (b:=false) 1 (r7 ak) (ei 2) (af 2)))) (aa3 1 (bB (cz (ee (mW (ts:=["some"]) (fr:=[]) (js:=[]) (ab7 (af 1)) (λ_ _ _ _=>(fM (i:=0) (show S7 (["some"]:Zm) by decide +kernel) rfl (SA rfl))) (λ_ _ _ _=>jd) (λ_ _ _ _=>(a8 (DR B Y) ak (aw (af 0) aX))) ⟨rfl,by decide +kernel,rfl,by decide +kernel,ib (S' _),iw rfl,by walk_at "ffr",rfl⟩))))))),?_⟩);rintro as k am ⟨bs,rfl,am,aC,ag⟩;refine cZ rfl ?_;have f0:=jN;refine dX (λρ=>∃a,ρ=[.val (.lst (bs.map dBx)),.deep (.dl false a [] [] []),.no]) ?_ (λN aG a=>aG _ ⟨a,rfl⟩);rintro ρ ⟨a,rfl⟩;refine dX (λρ=>∃(as:Zo)(dC:aD),ρ=[.val (.lst (bs.map dBx)),.deep (.dl false a (kg (e3 bs)) as (kh (e3 bs))),dC]) ?_ (λN aG=>?_)
 ·rintro ρ ⟨as,dC,rfl⟩;refine⟨_,_,_,_,_,rfl,?_⟩;have aJ:=yG bs;refine⟨_,rfl,_,_,_,rfl,by unfold kg kh;simp,?_⟩;have em:(kh (e3 bs)).map D.lst=(e3 bs).map λp=>D.lst (p.2.map dBx):=by unfold kh;rw[SU];rfl
  dsimp only;rw[em];refine⟨by rw[Sw];lia,?_⟩;refine lf (f:=λp:gK=>D.lst (p.2.map dBx)) (h:=λp=>dBx (gh p)) (rs:=e3 bs) (λp ae DS q4=>?_) ag;obtain⟨aE,aI,g3⟩:=aC p ae;obtain⟨ne,hw⟩:=yE bs p ae
  match e:p.2,ne,hw,aE,aI,g3 with
  |b0::r,_,hw,aE,aI,g3=>
   refine⟨_,rfl,rfl,b0,r,rfl,aE,aI,g3,?_⟩;unfold gh at q4;rw[e,<-hw b0 Sx]at q4;exact q4
 refine⟨_,rfl,_,rfl,?_⟩;refine oY (f:=dBx) (rs:=bs) (done:=[]) (λpre ρ=>∃(as:Zo)(dC:aD),ρ=[.val (.lst (bs.map dBx)),.deep (.dl false a (kg (e3 pre)) as (kh (e3 pre))),dC]) ⟨_,_,rfl⟩ ?_ (λρ h=>?_);rotate_left
 ·obtain⟨as,dC,rfl⟩:=h;exact aG _ ⟨as,dC,rfl⟩
 rintro pre x rest ρ aB ⟨as,dC,rfl⟩ oe il;rw[Tc]at aB;have kJ:pre.length<=100:=by rw[aB]at am;simp at am;lia
 have aJ:=yG pre;obtain⟨az,a'⟩:=JC (e3 pre) x;refine⟨a,_,as,_,rfl,_,rfl,_,_,_,.inl rfl,rfl,rfl,kf x.1,rfl,λ_=>⟨_,rfl⟩,by unfold kg;rw[Sw];lia,by unfold kg kh;simp,λds hd=>?_,λas1 dss1=>?_⟩
 ·have m:=JK hd;unfold kh at m;obtain⟨p,ae,rfl⟩:=SM.mp m;have:=Di ae;rw[Sw];lia
 ·refine⟨_,rfl,?_⟩;dsimp only;rw[az,a',<-ab'];exact il _ ⟨as1,_,rfl⟩
theorem ae' :
  bZ P w K mg base "column" ["boxes","wide"] 14 (b7 K 2 aee):=by
 refine dr Y.f_column aed rfl (λ_ _ _ _ _ _ _ ak=>⟨_,(a5 (fq (hP (BR (af 0))) (bB (wW (F3 (rS (Bb (af 1)) (rS (ab8 Y.G_NOTHING (by rfl)) (rS (F1 (fY bY)) F2)))))) fp) (bB (wW (qm (DR B Y) ak (by rfl) (aw (ee (mW (ts:=["pile"]) (fr:=["wide"]) (js:=[1]) (iv (a8 (ae9 B Y) ak (aw (af 0) aX))) (λ_ _ _ _=>(fM (i:=0) (show S7 (["pile","wide"]:Zm) by decide +kernel) rfl (SA rfl))) (λ_ _ _ _=>jd) (λ_ _ _ _=>(a8 (ae3 B Y) ak (aw (af 0) (aw (af 1) aX)))) ⟨rfl,by decide +kernel,rfl,by decide +kernel,ib (Tp.mpr ⟨rfl,(S' _)⟩),iw rfl,by walk_at "ffr",rfl⟩)) aX))))),?_⟩);rintro as k am ⟨g,bs,rfl,aJ,aV,bC,bD,ab,am,a4,ag⟩;refine cZ rfl ?_;have f0:=jN;obtain⟨afa,KA⟩:=ag;by_cases e:bs=[]
 ·subst e;refine⟨_,rfl,_,rfl,?_⟩;dsimp only;rw[SC (show(!!(Ui dBx []).isEmpty)=true from rfl)];exact⟨_,rfl,rfl,S8 _,rfl,kj,afa rfl⟩
 refine lc (λN aG=>?_) ?_
 ·refine⟨_,rfl,_,rfl,?_⟩
  have em:(bs.map dBx).isEmpty=false:=by
   cases bs with
   |nil=>exact absurd rfl e
   |cons _ _=>rfl
  dsimp only;rw[em];exact aG
 obtain⟨each,pre,cnt⟩:=J0 ab am a4 aJ aV bC bD;have F6:=yG bs;refine⟨_,rfl,rfl,bs,rfl,by lia,λp ae=>(yL ab am a4 ae).1,?_⟩;dsimp only[cb];refine⟨_,rfl,by rw[Sw];lia,?_⟩;refine lf (f:=λp:gK=>dBx (gh p)) (h:=λp=>dBx (hp g (gh p))) (rs:=e3 bs) (λp ae DS q4=>?_) ?_
 ·obtain⟨_,_,kO,vq,a7,bd,sz,bal,JZ⟩:=yL ab am a4 ae;obtain⟨lw,w0,bo,bG,r1,r2,_,_⟩:=JY ab am a4 aJ aV bC bD ae;have m:∀{z:Int},wp z<=10->wp z<=30:=λh=>aW h;refine⟨_,rfl,_,rfl,rfl,p.1,bN p.2 (0,1),g,dh p.2 (0,1),792,293,6,112,rfl,lw,kO,aJ,w0,vq,aV,m bo,m bG,by lia,by lia,m bC,m bD,r1,r2,sz.md5,by decide,by decide,by decide,by decide,?_⟩;exact q4
 have yM:dm g bs≠[]:=λz=>by
  have pv:e3 bs=[]:=Xd.mp z;have:=(qU bs).length_eq;rw[pv]at this;exact e (Xe.mp this.symm)
 have em:(e3 bs).map (λp=>dBx (hp g (gh p)))=(dm g bs).map dBx:=by unfold dm;rw[SU];rfl
 rw[em]
 have all:∀x∈dm g bs,x.1=g:=λx ao=>by
  obtain⟨p,_,rfl⟩:=SM.mp ao;rfl
 have m2:=KA e;clear KA em;revert each pre cnt all m2;generalize dm g bs=Q at yM
 match Q,yM with
 |b0::r,_=>
  intro each pre cnt all m2;refine⟨rfl,b0,r,rfl,λb gw=>?_,λDr b rest aS=>?_,by lia,?_⟩
  ·obtain⟨aR,bK,e7,pY,qJ,_⟩:=each b gw;exact⟨aR,by lia,by lia,λs al=>(qJ.1 s al).gm (by decide) (by decide) (by decide)⟩
  ·obtain⟨_,a,c⟩:=pre Dr (.inl ⟨b,rest,aS⟩);exact⟨by lia,by lia⟩
  rw[all b0 Sx];exact⟨_,rfl,m2⟩
theorem afb{f:TI}{fd:XI}(F:mK K "law" "law" zT f fd):
  jT P w K mg base ko 15 f fd ["_law_script"] (wI K):=by
 refine jT.imp (sp:=b7 K 1 Fy) ?_ (λvs H Q E h=>Oi h);refine Oh (lv:=14) F ji rfl (λ_ _ _ _ _ _ ak=>⟨_,(a5 (Fo (i:=1) ji.nd rfl (SA rfl) (Fn (Kd B Y) ak (by rfl) (aw (a8 (Kc B Y) ak (aw (af 0) (aw aY aX))) aX))) (a5 (cO 2 ji.nd (a8 (vw B Y) ak (aw (eQ aY (a8 (hZ B Y) ak (gR 1 (aw aY aX)))) (aw (eQ aY (a8 (hZ B Y) ak (gR 1 (aw aY aX)))) aX)))) (a5 (cO 3 ji.nd aY) (a5 (cO 4 ji.nd aY) (a5 (fq (gc (f:=λi j=>decide (i=j)) kZ (a8 (hZ B Y) ak (gR 1 (aw aY aX))) aY (dJ _)) (a5 (cO 3 ji.nd aY) (bB (cO 4 ji.nd aY))) fp) (a5 (k7 (i:=5) ji.nd rfl (SA rfl) (fY bY)) (a5 (k8 PassesOwn.never rfl (tv (a8 (hZ B Y) ak (gR 1 (aw (af 3) aX))) (by rfl) B.range_) (dd 6 ji.nd) (a5 (Fo (i:=1) ji.nd rfl (SA rfl) (Fn (Kd B Y) ak (by rfl) (aw (a8 (Kc B Y) ak (aw (af 0) (aw (eQ aY (af 6)) aX))) aX))) (a5 (cO 7 ji.nd (a8 (aeu B Y) ak (gR 1 (aw (af 2) aX)))) (a5 (cO 8 ji.nd (a8 (aet B Y) ak (gR 1 aX))) (bB (nJ 5 (di (a2 (af 7) (a2 (af 8) (a2 (a8 (aen B Y) ak (gR 1 (aw (a8 (Km B Y) ak (aw (af 7) (aw (af 8) aX))) (aw (af 4) aX)))) bY)))))))))) (k6 5 (a5 (tQ 9 (wT (i:=9) ji.nd rfl rfl (ts:=["_law_one","_law_high","_law_sheet_here"]) (fr:=[]) (js:=[]) (iv (af 5)) (λ_ _ _ _=>(gT (n:=3) rfl (c7 (fM (i:=0) (show S7 (["_law_one","_law_high","_law_sheet_here"]:Zm) by decide +kernel) rfl (SA rfl)) (c7 (fM (i:=1) (show S7 (["_law_one","_law_high","_law_sheet_here"]:Zm) by decide +kernel) rfl (SA rfl)) (c7 (fM (i:=2) (show S7 (["_law_one","_law_high","_law_sheet_here"]:Zm) by decide +kernel) rfl (SA rfl)) gF))))) (λ_ _ _ _=>jd) (λ_ _ _ _=>(di (a2 (af 0) (a2 (af 1) (a2 (a8 (aer B Y) ak (aw (af 2) aX)) bY))))) ⟨rfl,by decide +kernel,rfl,by decide +kernel,ib (S' _),iw rfl,by walk_at "ffr",rfl⟩)) (a5 (k8 PassesOwn.never rfl (tv aY (by rfl) B.range_) (dd 10 ji.nd) (Pw (i:=11) (I:=[11,12]) (by decide) ji.nd rfl (SA rfl) (qm (ae' B Y) ak (by rfl) (aw (af 9) (aw (af 2) aX))) (Pu (lY (w_or (Fv (ak.units) (af 9) (af 5) (dJ _)) (mR (hP (hO (a8 (aeB B Y) ak (aw (af 11) (aw (af 5) (aw (af 2) aX))))))))) (bB (cz i9)) (aci (j:=12) (by decide) ji.nd rfl rfl (SA rfl) (SA rfl) (SA rfl) PassesOwn.never rfl (JM (sE (acg Dk) (sE acf (sE (JM (sE Dj (sE Dj (sE Dj Dk)))) Dk)))) fp)))) (bB (cz (Og (ak.units) (af 9) (af 5) (dJ _)))))))))))))),?_⟩);rintro as k am ⟨ns,rfl,aia,ag⟩;refine cZ rfl ?_;have m:∀{z:Int}{a b:Nat},wp z<=a->a<=b->wp z<=b:=λh g=>SE h g;have f0:=jN;have two:∀{Z:D->Prop}{P Q:Prop}{bo bG:D}(C:D->Prop),(∀kE,C kE->Z kE)->(P->C bo)->(Q->C bG)->(P->∃d,aD.new bo=aD.new d/\Z d)/\(Q->∃d,aD.new bG=aD.new d/\Z d):=λC h c1 c2=>⟨λp=>⟨_,rfl,h _ (c1 p)⟩,λq=>⟨_,rfl,h _ (c2 q)⟩⟩;walk_at "w";refine⟨ns,0,rfl,by decide,λz=>?_⟩;refine⟨rfl,z,rfl,rfl,?_⟩;walk_at "w";intro a e1 cc;walk_at "w";intro b b0 a7;walk_at "w";refine⟨1+a,1+b,rfl,by lia,by walk_at "bits",?_⟩;dsimp only[cb];obtain⟨aJ,aV,bC,bD⟩:=acX e1 cc b0 a7;generalize cw (1+a) (1+b)=g at aJ aV bC bD⊢;have DT:=m (b:=10) bC (by decide);have DU:=m (b:=10) bD (by decide);refine dX (λρ=>ρ=[.val (.scr ns),.bag,.val (dR g),.val (.int (4:Nat)),.no,.no,.no,.no,.no,.no,.no,.no,.no]) ?_ (λN aG=>aG _ rfl);rintro ρ rfl;refine dX (λρ=>ρ=[.val (.scr ns),.bag,.val (dR g),.val (.int (4:Nat)),.val (.int (2:Nat)),.no,.no,.no,.no,.no,.no,.no,.no]) ?_ (λN aG=>aG _ rfl);rintro ρ rfl;refine dX (λρ=>∃M hI:Nat,ρ=[.val (.scr ns),.bag,.val (dR g),.val (.int M),.val (.int hI),.no,.no,.no,.no,.no,.no,.no,.no]/\((M=4/\hI=2)\/(M=9/\hI=0))) ?_ (λN aG=>?_);rotate_left
 ·walk_at "w";intro c hS c1;walk_at "wd";refine gP (λ_=>?_) (λ_=>?_)
  ·exact aG _ ⟨9,0,rfl,.inr ⟨rfl,rfl⟩⟩
  ·exact aG _ ⟨4,2,rfl,.inl ⟨rfl,rfl⟩⟩
 rintro ρ ⟨M,hI,rfl,g5⟩;refine dX (λρ=>ρ=[.val (.scr ns),.bag,.val (dR g),.val (.int M),.val (.int hI),.own (.l ((([]:Zi)).map dBx)),.no,.no,.no,.no,.no,.no,.no]) ?_ (λN aG=>⟨S8 _,aG _ rfl⟩);rintro ρ rfl;refine dX (λρ=>∃(bs:Zi)(eJ eK ff:aD),ρ=[.val (.scr ns),.bag,.val (dR g),.val (.int M),.val (.int hI),.own (.l (bs.map dBx)),eJ,eK,ff,.no,.no,.no,.no]/\bs.length<=8/\(bs.map λb=>b.2.2.length).sum<=9/\∀b∈bs,ki g b) ?_ (λN aG=>?_);rotate_left
 ·have aib:4<=M/\M<=9:=by lia
  walk_at "w";intro n c0 cq;refine⟨n,rfl,by lia,by lia,?_⟩;refine wU (λi ρ=>∃(bs:Zi)(eJ eK ff:aD),ρ=[.val (.scr ns),.bag,.val (dR g),.val (.int M),.val (.int hI),.own (.l (bs.map dBx)),eJ,eK,ff,.no,.no,.no,.no]/\bs.length=i/\(∀b∈bs,ki g b)/\∀b∈bs,b.2.2.length<=hI+1) ⟨[],_,_,_,rfl,rfl,by simp,by simp⟩ ?_ (λρ h=>?_);rotate_left
  ·obtain⟨bs,eJ,eK,ff,rfl,l,ab,hc⟩:=h;have s:=yK (f:=λb:BoxD=>b.2.2.length) (m:=hI+1) hc;refine aG _ ⟨bs,_,_,_,rfl,by lia,?_,ab⟩;rcases g5 with⟨rfl,rfl⟩|⟨rfl,rfl⟩<;>lia
  rintro i ρ ay ⟨bs,eJ,eK,ff,rfl,l,ab,hc⟩ oe il;walk_at "w";refine⟨ns,1+(i:Int),rfl,by lia,λaP=>?_⟩;refine⟨rfl,aP,rfl,rfl,?_⟩;refine⟨rfl,_,rfl,rfl,g,rfl,aJ,aV,bC,bD,λw lw w0 bo bG r1 r2=>?_⟩;dsimp only[cb];refine⟨rfl,rfl,rfl,λh lh h0 f5 kF=>?_⟩;dsimp only[cb];have afc:=abZ lw lh bo bG f5 kF;refine⟨_,rfl,_,rfl,_,rfl,rfl,_,rfl,_,rfl,rfl,w,h,rfl,lw,lh,aW bo,aW bG,aW f5,aW kF,?_⟩;dsimp only[cb];refine⟨_,rfl,rfl,iy w h,hI,rfl,(j'.cvx ⟨lw,lh,w0,h0⟩),afc,(by show 4<=4;decide),by lia,λsh al mr bal=>?_⟩;dsimp only[cb];refine⟨kj,by rw[Sw];lia,il _ ⟨bs++[(w,h,sh)],_,_,_,by rw[SJ];rfl,by rw[SH,l];rfl,λb gw=>?_,λb gw=>?_⟩⟩
  ·rcases SR.mp gw with gw|gw
   ·exact ab b gw
   ·rw[SO.mp gw];have afd:jJ 22 2=97:=rfl;rw[afd]at al;exact⟨lw,w0,bo,bG,lh,h0,f5,kF,r1,r2,λs eF=>((al s eF).px (b:=700) (by decide)).mono (Sy _) (by decide) (Sy _) (Sy _),bal⟩
  ·rcases SR.mp gw with gw|gw
   ·exact hc b gw
   ·rw[SO.mp gw];exact mr
 rintro ρ ⟨bs,eJ,eK,ff,rfl,iC,a4,ab⟩;refine⟨_,rfl,?_⟩;refine dX (λρ=>ρ=[.val (.scr ns),.bag,.val (dR g),.val (.int M),.val (.int hI),.val (.lst (bs.map dBx)),eJ,eK,ff,.val (.lst (bs.map dBx)),.no,.no,.no]) ?_ (λN aG=>?_);rotate_left
 ·refine⟨_,rfl,_,rfl,by rw[Sw];lia,?_⟩;refine J3 (h:=dBx) (λx ao DS q4=>?_) ⟨_,rfl,aG _ rfl⟩
  have AU:x.2.2.length<=9:=by
   have:=vk (l:=bs.map λb=>b.2.2.length) (SM.mpr ⟨x,ao,rfl⟩);lia
  refine⟨_,rfl,_,rfl,_,rfl,rfl,x.2.2,rfl,by lia,?_⟩;dsimp only[cb];exact⟨kj,q4⟩
 rintro ρ rfl;refine dX (λρ=>∃v10 v11 sP:aD,ρ=[.val (.scr ns),.bag,.val (dR g),.val (.int M),.val (.int hI),.val (.lst (bs.map dBx)),eJ,eK,ff,.val (.lst (bs.map dBx)),v10,v11,sP]) ?_ (λN aG=>?_)
 ·rintro ρ ⟨v10,v11,sP,rfl⟩;refine⟨_,rfl,_,rfl,_,vt bs,vt bs,by decide,?_⟩;dsimp only;rw[SL (by decide),oN];exact ag
 refine⟨2,rfl,by decide,by decide,?_⟩;refine wU (λi ρ=>∃v10 v11 sP:aD,ρ=[.val (.scr ns),.bag,.val (dR g),.val (.int M),.val (.int hI),.val (.lst (bs.map dBx)),eJ,eK,ff,.val (.lst (bs.map dBx)),v10,v11,sP]) ⟨_,_,_,rfl⟩ ?_ (λρ h=>?_);rotate_left
 ·obtain⟨v10,v11,sP,rfl⟩:=h;exact aG _ ⟨_,_,_,rfl⟩
 rintro i ρ ay ⟨v10,v11,sP,rfl⟩ oe il;refine⟨by show 11<13;decide,?_⟩;refine⟨_,rfl,_,rfl,rfl,g,bs,rfl,aJ,aV,DT,DU,ab,iC,a4,?_⟩;refine two (λkE=>(bs=[]/\kE=.tup [dR g,.ktup [.int 0,.int 1],.lst []])\/(bs≠[]/\kE=.tup [dR g,dR (bN (dm g bs) (0,1)),dSh (dh (dm g bs) (0,1))])) (λkE hc=>?_) (λe=>.inl ⟨e,rfl⟩) (λne=>.inr ⟨ne,rfl⟩);refine⟨_,rfl,_,rfl,_,vt bs,vt bs,by decide,_,rfl,FG (λh=>absurd rfl h) (λ_=>?_)⟩;refine⟨_,rfl,_,rfl,_,rfl,rfl,kE,g,bN (dm g bs) (0,1),bs,dh (dm g bs) (0,1),rfl,aJ,aV,DT,DU,ab,iC,a4,hc,λ_=>⟨rfl,rfl⟩,?_⟩;dsimp only[cb];refine⟨_,rfl,rfl,?_⟩;refine⟨⟨by show 12<13;decide,?_⟩,il _ ⟨_,_,_,rfl⟩⟩;rcases hc with⟨_,rfl⟩|⟨ne,rfl⟩
 ·exact⟨_,_,_,rfl,show 0<TT by decide,λq au=>absurd au Ug⟩
 ·obtain⟨_,_,_,_,_,sz,_⟩:=J1 ab iC a4 aJ aV DT DU ne;exact⟨_,_,_,rfl,by have:=sz.2;rw[Sw];lia,Qg⟩
end aeg
def all_mk{l:PySem.W.OpenLaw}{w:Xk}{K:Sv}{h:Xx}{mg:Str->Option Tl}{hu:TI}(Y:Tab tabs K)(X:K.In h)(G:h.Ns WP mg)(afe:mg "law"=some (.ref hu))
  : ∃fd:XI,(∀(s:TE)(v:Tl),Y8 s fd ⟨[v],[]⟩ [("_law_script",v)])/\∀base:Xx,K.In base->base.Ns WP mg->jT l.prog w K mg base ko 15 hu fd ["_law_script"] (wI K):=by
 obtain⟨⟨aff,afg,afh,afi,afj,afk,afl,afm,afn,x_point,x_at,afo,afp,afq,afr,afs,aft,afu,afv,afw,afx,afy,afz,afA,afB,afC,afD,afE,afF,afG,afH,afI,afJ,afK,afL,afM,afN,afO,afP,afQ,afR,afS,afT,afU,afV,afW,afX,afY,afZ,af0,af1,af2,af3,af4,af5,af6,af7,af8,af9,af',aga,_⟩,⟨agb,agc,agd,age,agf,agg,agh,agi,agj,agk,agl,agm,agn,ago,agp,agq,agr,ags,agt,_⟩,⟨agu,_⟩,⟨_⟩⟩:=Y;have agv:=aff.fnd (ps:=["one","other"]) X G (by walk_at "b2");have agw:=afg.fnd (ps:=["one","other"]) X G (by walk_at "b2");have agx:=afh.fnd (ps:=["one","other"]) X G (by walk_at "b2");have agy:=afi.fnd (ps:=["one","other"]) X G (by walk_at "b2");have agz:=afj.fnd (ps:=["one","other"]) X G (by walk_at "b2");have agA:=afk.fnd (ps:=["one","other"]) X G (by walk_at "b2");have agB:=afl.fnd (ps:=["one"]) X G (by walk_at "b1");have agC:=afm.fnd (ps:=["one"]) X G (by walk_at "b1");have agD:=afn.fnd (ps:=["one"]) X G (by walk_at "b1");have agE:=x_point.fnd (ps:=["a","b","n"]) X G (by walk_at "b3");have agF:=x_at.fnd (ps:=["x","y"]) X G (by walk_at "b2");have agG:=afo.fnd (ps:=["p","step"]) X G (by walk_at "b2");have agH:=afp.fnd (ps:=["one","other"]) X G (by walk_at "b2");have agI:=afq.fnd (ps:=["line","p"]) X G (by walk_at "b2");have agJ:=afr.fnd (ps:=["p","q","r","s"]) X G (by walk_at "b4");have agK:=afs.fnd (ps:=["ring","p","q"]) X G (by walk_at "b3");have agL:=aft.fnd (ps:=["sheet","p","q"]) X G (by walk_at "b3");have KB:=afu.fnd (ps:=["sheet","place"]) X G (by walk_at "b2");have KC:=afv.fnd (ps:=["sheet","height"]) X G (by walk_at "b2");have agM:=afw.fnd (ps:=["sheet","step"]) X G (by walk_at "b2");have agN:=afx.fnd (ps:=["sheet","cut","size","first","last"]) X G (by walk_at "b5");have agO:=afy.fnd (ps:=["sheet","wide","many"]) X G (by walk_at "b3");have agP:=afz.fnd (ps:=["sheet","high","many"]) X G (by walk_at "b3");have agQ:=afA.fnd (ps:=["boxes"]) X G (by walk_at "b1");have agR:=afB.fnd (ps:=["box","wide"]) X G (by walk_at "b2");have agS:=afC.fnd (ps:=["box","wide"]) X G (by walk_at "b2");have agT:=afD.fnd (ps:=["box","wide"]) X G (by walk_at "b2");have agU:=afE.fnd (ps:=["box","wide"]) X G (by walk_at "b2");have agV:=afF.fnd (ps:=["boxes"]) X G (by walk_at "b1");have agW:=afG.fnd (ps:=["boxes","wide"]) X G (by walk_at "b2");have agX:=afH.fnd (ps:=["_law_script","_law_k"]) X G (by walk_at "b2");have agY:=afI.fnd (ps:=["_law_cell_here"]) X G (by walk_at "b1");have agZ:=afJ.fnd (ps:=["_law_bag_here","_law_many"]) X G (by walk_at "b2");have ag0:=afK.fnd (ps:=["_law_one","_law_other"]) X G (by walk_at "b2");have ag1:=afL.fnd (ps:=["_law_top","_law_bottom"]) X G (by walk_at "b2");have ag2:=afM.fnd (ps:=["_law_x","_law_y","_law_bottom"]) X G (by walk_at "b3");have ag3:=afN.fnd (ps:=["_law_found"]) X G (by walk_at "b1");have ag4:=afO.fnd (ps:=["_law_p","_law_q"]) X G (by walk_at "b2");have ag5:=afP.fnd (ps:=["_law_tally","_law_rings","_law_number"]) X G (by walk_at "b3");have ag6:=afQ.fnd (ps:=["_law_rings","_law_others"]) X G (by walk_at "b2");have ag7:=afR.fnd (ps:=["_law_p","_law_q","_law_r"]) X G (by walk_at "b3");have ag8:=afS.fnd (ps:=["_law_p"]) X G (by walk_at "b1");have ag9:=afT.fnd (ps:=["_law_ring"]) X G (by walk_at "b1");have ag':=afU.fnd (ps:=["_law_p","_law_q","_law_part_here","_law_many"]) X G (by walk_at "b4");have aha:=afV.fnd (ps:=["_law_bag_here","_law_ring"]) X G (by walk_at "b2");have ahb:=afW.fnd (ps:=["_law_bag_here","_law_ring","_law_cuts"]) X G (by walk_at "b3");have ahc:=afX.fnd (ps:=["_law_piece"]) X G (by walk_at "b1");have ahd:=afY.fnd (ps:=["_law_olds","_law_news"]) X G (by walk_at "b2");have ahe:=afZ.fnd (ps:=["_law_sheet_here","_law_ring"]) X G (by walk_at "b2");have ahf:=af0.fnd (ps:=["_law_sheet_here"]) X G (by walk_at "b1");have ahg:=af1.fnd (ps:=["_law_one","_law_other"]) X G (by walk_at "b2");have ahh:=af2.fnd (ps:=["_law_x","_law_y"]) X G (by walk_at "b2");have ahi:=af3.fnd (ps:=["_law_wide","_law_high"]) X G (by walk_at "b2");have ahj:=af4.fnd (ps:=["_law_found"]) X G (by walk_at "b1");have ahk:=af5.fnd (ps:=["_law_found"]) X G (by walk_at "b1");have ahl:=af6.fnd (ps:=["_law_bag_here"]) X G (by walk_at "b1");have ahm:=af7.fnd (ps:=["_law_bag_here","_law_wide"]) X G (by walk_at "b2");have ahn:=af8.fnd (ps:=["_law_boxes","_law_wide"]) X G (by walk_at "b2");have aho:=af9.fnd (ps:=["_law_some"]) X G (by walk_at "b1");have ahp:=af'.fnd (ps:=["_law_found","_law_boxes","_law_wide"]) X G (by walk_at "b3");obtain⟨e9,ahq,dO,KD⟩:=aga;have e:=afe.symm.trans (PySem.W.mg_of X G dO);cases e;have B:J5 mg:=⟨Td X G agb,Td X G agc,Td X G agd,Td X G age,Td X G agf,Td X G agg,Td X G agh,Td X G agi,Td X G agj,Td X G agk,Td X G agl,Td X G agm,Td X G agn,Td X G ago,Td X G agp,Td X G agq,Td X G agr,Td X G ags,Td X G agt⟩;have G_NOTHING:=agu.gtup X G;obtain⟨a_cut_level,_,jL,_,_⟩:=id KC.ex;obtain⟨a_cut_upright,_,jM,_,_⟩:=id KB.ex;refine⟨ahq,λs v=>?_,λbase _ _=>?_⟩
 ·obtain⟨_,_,_,_,_,_,_,_,_,rfl,_⟩:=KD.ex;exact .of_eq rfl
 exact afb B ⟨agv,agw,agx,agy,agz,agA,agB,agC,agD,agE,agF,agG,agH,agI,agJ,agK,agL,KB,KC,agM,agN,agO,agP,agQ,agR,agS,agT,agU,agV,agW,agX,agY,agZ,ag0,ag1,ag2,ag3,ag4,ag5,ag6,ag7,ag8,ag9,ag',aha,ahb,ahc,ahd,ahe,ahf,ahg,ahh,ahi,ahj,ahk,ahl,ahm,ahn,aho,ahp,G_NOTHING⟩ KD
end Cut
open PySem PySem.W PyProof.Rows
set_option maxRecDepth 100000 in
set_option maxHeartbeats 0 in
theorem PySem.Challenge.cw_slidecut_k45_columns_of_boxes_holds : PySem.Challenge.rw_slidecut_k45_columns_of_boxes.Holds := by
 refine holds_law Cut.said fun said => holds_open (XP := XL PySem.Challenge.pw_slidecut_k45_columns_of_boxes []) (YP := L3.saysH Cut.tabs) Cut.left (L3.ofH Cut.tabs) (L3.keepsH Cut.tabs) (fun s e => xl_of s (Xg.mp e).1) XL.keeps (by rfl) (by rfl) (by rfl) (fun s e => recFacts_of (Xg.mp e).2) (by rfl) said (by decide +kernel) ⟨rfl, rfl, rfl, rfl, rfl, by decide +kernel⟩ ?hw ?hc
 case hw => w_witness2
 case hc => exact L3.walkH (k := 15) rfl rfl ⟨rfl, by decide, by decide⟩ fun w K mg hu h Y X G tg => Cut.all_mk Y X G tg
#print axioms PySem.Challenge.cw_slidecut_k45_columns_of_boxes_holds