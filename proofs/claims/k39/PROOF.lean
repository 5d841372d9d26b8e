import PyProof.Rows.All
import Open.Line
import KE.KIsAll
import KE.KItem
import KE.IntBitsLaws
import OpenK.KCls
import OpenK.KList
import OpenK.KWalk
import OpenK.KCall
import OpenK.KMake
import KE.KLam
import KE.KSortKey
import PyProof.ListRange
import Wide.FinOn
import Lean
import PyProof.EqAt
import PyProof.EqKinds
import PyProof.TupleCall
import PyProof.AttrMissHeap
import PyProof.Cells
import PyProof.AutoListH
import PyProof.AutoSeq1
import PyProof.SeqI3
import PyProof.Rows.SortWalk
import PyProof.DictItemsLoops
import PyProof.Rows.Range3
import PyProof.DictRoadsH
import PyProof.DictKinds
import PyProof.DictIter
import PyProof.DictWalks
import PyProof.DictValues
import PyProof.FactsAll.dict_values
import PyProof.FactsAll.dict_valueiterator
import PyProof.NeKinds
import PyProof.ExcBaseAll.ValueError
import PyProof.ZipIter
import PyProof.ListCopy
import PyProof.CollectWalk
import PyProof.SliceStr2
import PyProof.Rows.StrFirst
import PyProof.StrLawsFirst
import PyProof.StrLawsIn
import PyProof.StrBlockI
import PyProof.Rows.StrNews
import PyProof.EnumMake
import PyProof.EnumFor
import PyProof.EnumStmt
import PyProof.Rows.SetFrom
import PyProof.MinMaxWalk
import PyProof.WalkInts
import PyProof.FactsAll.tuple_1
import PyProof.FactsAll.tuple_2
import PySem.Challenge.RW_slidecut_k39_corner_pieces_paired
open PySem renaming wpAny_bind→wp,Value→SC,wpAny_pure→SZ,Shared→Tl,intBits_mul_le→TD,Addr→TE,sizeLine→TI,intBits_neg_le→TT,mainGlobals→Uf,starEach→UF,model→UV,Expr→Wp,foldedSetIterable→WF,Program→WP,wpAny_holding→W1,wpAny_newObj_type→Xv,natAbs_fdiv_le→Xw,World→Xy,Around→Xz,swapsWith→XA,assignEach→XB,intBits_add_le→XC,Stmt→XD,Heap→XE,wpAny_truthy_bool→XF,behindInMarks→XG,wpAny_mono→XH,wpAny_call_entry→XI,sysModules→XJ,wpAny_passesOwn→XK,bootBuiltins→XM,wpAny_typeNameOfWhole_itemiter→XN,sizeLine_eq→XO,cLine→XQ,compareOp→XR,wpAny_typeNameOfWhole_keyiter→XS,wpAny_isOneOf_itemiter→XT,wpAny_Call_Name_kw→XU,wpAny_setField_rec→XV,Scope→XW,builtinsNs→XX,wpAny_standAt→XY,swapsWithSole→XZ,swappedStores→X0,wpAny_dictEntries→X1,Arguments→X2,wpAny_typeNameOf_itemiter→X3,FuncData→X4,wpAny_isInstance→X5,reduceHash→X6,wpAny_typeNameOf_keyiter→X7,importedModules→X8,backTo→X9,wpAny_specialOf→X',wpAny_rule→Yb,wpAny_pyIter_list→Yc,sliceBounds→Yd,atKey_none_of_get→Ye,isSubtype_tuple_tuple→Yg,wpAny_notOrdered_dict→Yh,wpAny_isOneOf_keyiter→Yi,wpAny_forIn_list→Yj,eval→Yk,plainId_quiet→Yl,IsItemIter→Ym,wpAny_execs_nil→Yn,letOwnedTupleGo→Yo,wpAny_dictEpoch→Yp,codeAny_builtin→Yq,wpAny_tupleItemsOf→Ys,holding→Yu,recursionLimit→Yv,Builtin→Yw,wpAny_seqItems→Yx,wpAny_fieldsOf→Yy,firstArgMember→Yz,DictEntry→YA,wpAny_pyIter_slot→YB,assignInOrder→YC,binaryOp→YD,compTurn→YE,Comprehension→YF,wpAny_callSpecial?_slot→YG,wpAny_letGo→YH,wpAny_pyNext_list_item→YI,wpAny_Call_method_late→YK,treeTable→YL,codeAmong→YM,standAt→YO,PassesOwn→YQ,pyNext→YR,wpAny_pyNext_list_end→YS,codeAny_mono→YT,wpAny_updateSeq→YW,bindArgs→YX,call_meets→YY,compEnvC→YZ,wpAny_loadName_local→Y0,intBits_le_of_natAbs→Y1,wpAny_newFunctionEnv→Y2,assign→Y3,rawInt→Y4,intBits_sub_le→Y6,wpAny_setField→Y7,dictSetDefault→Y8,wpAny_tryCatch→Y9,wpAny_loadName_cell→Y',seqIndex_of→Za,wpAny_of_eq→Zb,wpAny_field→Zc,isTrue→Ze,NameKind→Zf,wpAny_pyHash_tuple→Zg,wpAny_eqBool_tuple→Zh,wpAny_attempt→Zi,IsItemIterOut→Zk,hashInt→Zl,entryOfKey→Zm,intKind→Zn,callerA→Zo,closureFor→Zp,IsTupleKey→Zq,seqIndex_neg→Zr,call_meetsIn→Zs,unpackItems→Zw,eqIsQuiet→Zx,atKey→Zy,storedH_new→Zz,truthy→ZA,pyIter→ZB,Result→ZC,bindName→ZD,BindsTo→ZE,setField→ZF
open PySem.Builtin.Int renaming intBits→SB
open PyProof.Rows renaming assignInOrder_cons→Yr,seqObj→Yt,subscriptTail_builtinR→YJ,AllBare→YN,IntsAre→YU,listItems_at→YV,envOfC→Y5,listUpdate_at→Zj
open PySem.W renaming openEnds→Zd,openSeen→Zt,openGood→Zu,Frag→Zv,kla_obj→ZG
abbrev SL:=@if_pos
abbrev Tk:=@if_neg
abbrev TW:=@congrArg
abbrev Xx:=@decide_eq_true
open Int renaming gcd->Ss,ne_of_gt->Sy,mul_pos->SD,mul_zero->SV,mul_ne_zero->S1,mul_neg_of_pos_of_neg->S2,mul_comm->S4,natAbs_mul->S8,mul_eq_zero->Tb,le_of_lt->Ti,dvd_trans->Tj,mul_nonneg->Tw,eq_of_mul_eq_mul_right->TB,natAbs_dvd_natAbs->TK,dvd_mul_of_dvd_right->TN,zero_mul->TR,gcd_comm->TY,neg_gcd->T5,lt_trichotomy->T6,mul_neg_of_neg_of_pos->T7,pos_of_mul_pos_right->Ub,neg_mul->Uc,mul_assoc->Ud,emod_nonneg->Ul,eq_of_mul_eq_mul_left->Uq,neg_mul_neg->Ur,emod_lt_of_pos->Ut,mul_pos_of_neg_of_neg->UB,neg_dvd->UK,mul_fdiv_cancel_left->UL,ofNat_dvd_left->UM,pos_of_mul_pos_left->UO,mul_ediv_cancel'->UT,toNat_of_nonneg->UW,gcd_dvd_right->U1,le_of_dvd->U7,mul_one->Vb,gcd_pos_of_ne_zero_right->Vf,gcd_dvd_left->Vg,lt_or_eq_of_le->Vp,mul_nonneg_of_nonpos_of_nonpos->Vq,toNat->VC,gcd_mul_left->VO,dvd_coe_gcd->V3,dvd_sub->V4,add_comm->V5,neg_neg->V7,toNat_natCast->Wh,one_mul->Wi,mul_le_mul_of_nonneg_right->Wq,fdiv_eq_ediv_of_dvd->Wr,eq_ofNat_of_zero_le->WG,gcd_zero_right->WH,gcd_pos_of_ne_zero_left->WS,natAbs_natCast->WT,mul_ediv_cancel_left->W6
open PySem.W renaming Frag->Su,mg_none_of->Th,kia_one->TP,fnOf->UH,keepIn->Vc,instObj->VE,methodObj->VF,lookIn->VI,kitOne->VJ,codeIn->VM,plainGet->Ww,findIn->Wx,kitx_list->Wy,kitx_dict->Wz,cellsFrom_some->WA
open List renaming length_map->Sv,mem_cons_self->Sw,length_append->Sz,mem_cons_of_mem->SA,map_append->SE,mem_cons->SG,map_cons->SI,mem_map->SJ,length_cons->SK,map_map->SM,mem_append->SO,getElem?_map->SP,mem_singleton->SQ,append_nil->SR,replicate->SS,Nodup->SW,size_toArray->SX,append_assoc->SY,getElem?_eq_getElem->S0,mem_append_right->S3,length->S6,range->S7,forall_mem_nil->S9,mem_of_getElem?->S',getElem?_eq_none->Te,nil_append->Tn,sum_cons->To,length_singleton->Tp,getElem?_append_right->Tq,cons_append->Tr,set->Ts,nodup_cons->Tu,mem_append_left->Tx,getElem?_set_ne->Tz,map_nil->TA,forall_mem_cons->TC,mem_range->TG,getElem?_set_self->TH,getElem?_append_left->TJ,getElem?_eq_some_iff->TM,mem_filter->TO,not_mem_nil->TS,length_take->TV,length_set->TX,set_set->TZ,mem_filterMap->T',length_replicate->Ua,length_nil->Ug,map_congr_left->Uj,sum_append->Uk,getElem?_replicate->Un,ext_getElem?->Uo,drop_eq_getElem_cons->Up,drop_length->Uy,all_eq_true->Uz,length_drop->UI,singleton_sublist->UQ,getElem?_of_mem->U3,length_range->U5,filter_append->U6,isEmpty_map->U9,getElem?_range->Vl,take_of_length_le->Vn,length_filter_le->Vr,zip_cons_cons->Vs,filter_cons->Vu,perm_middle->Vy,sum_nil->Vz,map->VD,filterMap_cons->VH,of_mem_zip->VK,range'->V0,lookup_cons->V1,take_succ_cons->V2,getElem_mem->V6,dropLast_concat_getLast->V9,exists_mem_of_ne_nil->V',nodup_append->Wg,mem_of_mem_take->Wj,isEmpty_iff->Wk,map_inj_right->Wo,eq_nil_or_concat->Ws,concat_eq_append->Wt,eraseIdx_cons_succ->WC,eraseIdxIfInBounds_toArray->WD,getElem?_eq_none_iff->WI,eq_nil_of_length_eq_zero->WJ,getElem?_inj->WL,range_eq_range'->WM,filterMap_cons_none->WQ,filterMap_cons_some->WR,sublist_append_right->WV,length_pos_iff->WW,filter_cons_of_pos->WX,filter_cons_of_neg->WY,getElem?_cons_succ->W5,getElem_take->W7,take_append_drop->W8,mem_of_mem_drop->W9,pairwise_map->Xc,dropLast_concat->Xg,flatMap_cons->Xh,singleton_append->Xi,perm_append_singleton->Xj,length_flatten->Xm,flatten_append->Xn,append_cancel_left->Xo,mem_flatten->Xr
open Nat renaming le_trans->Sx,le_refl->SF,ne_of_lt->S5,lt_of_lt_of_le->Tc,zero_le->Td,gcd->Tf,mod_eq_of_lt->Tg,lt_irrefl->TU,zero_add->T4,ne_of_gt->T9,le_succ->Ux,mod_lt->UA,le_of_lt->UG,add_mod_right->UP,gcd_dvd_left->U2,Coprime->U8,le_of_eq->Ve,gcd_dvd_right->Vh,dvd_trans->Vi,gcd_mul_left->Vj,le_of_ble_eq_true->Vk,dvd_mul_left->VB,gcd_comm->VN,eq_of_mul_eq_mul_left->VP,mul_comm->VR,dvd_gcd->VS,gcd_mul_right->VT,le_of_dvd->VV,mod_self->V8,add_assoc->Wc,lt_or_ge->Wn,lt_of_le_of_lt->W4,lt_succ_of_lt->Xf
open Or renaming inl->SH,inr->Um
open Option.some renaming inj->SN,injEq->Vx
open Bool renaming false_ne_true->SU,false_eq_true->TL,and_eq_true->TQ,not_true->UR,eq_iff_iff->VZ,beq_eq_decide_eq->WE,and_eq_true_iff->Xu
open Ne renaming symm->Ta
open False renaming elim->Tt
open PySem renaming Env->Tv,mem_of_lookup->Uw,sizeLine->U',natAbs_fdiv_le->VQ,Fin->We,sizeLine_eq->Wv,evalArgs_none->WB,compStart->WK
open Prod renaming ext->TF,snd->Us,fst->Vv
open PySem.F renaming plainAttrs_list->T3,plain_max_loop->UX,slot_dict_get->Vt,slot_list_append->VX,type_list_append->VY,plainAttrs_dict->Wf,slot_list_pop->Wl,type_list_pop->Wm,slot_list_extend->WN,type_list_extend->WO,type_dict_get->W2,entry_dict_get->W3,slot_dict_items->W',slot_dict_setdefault->Xa,plain_list_iadd->Xd,entry_max_loop->Xe,slot_list_clear->Xk,type_list_clear->Xl
open Classical renaming byContradiction->T8,propDecidable->Ue
open List.cons renaming inj->Uh,injEq->US
open Rat renaming intCast_mul->Ui,mul_pos->UU,not_lt->VA,intCast_add->Wa
open Sum renaming inl->Uu,inr->Uv
open List.Sublist renaming append->UC,refl->Vo,cons_cons->WU
open Prod.mk renaming injEq->UD
open Option renaming map_eq_some_iff->UE,map_some->UN,getD_none->Vd,isSome_iff_exists->VL,isNone_iff_eq_none->VW,isSome_map->WZ
open Array renaming getElem?_toList->UJ,length_toList->Va,isEmpty_iff->Vw,getElem?_eq_none->VG,forIn_toList->Wb,toList_append->Xb
open Nat.Coprime renaming dvd_of_dvd_mul_left->UY
open PyProof.Rows renaming callWith_type1->UZ,envOfC->U4
open True renaming intro->U0
open ForInStep renaming yield->Vm
open PySem.Builtin.Int renaming intBits->VU
open List.Perm renaming trans->Wu,refl->Xp,append_left->Xq
abbrev ZX:=List (PySem.Addr×PySem.Obj)
abbrev ZW:=List PySem.Stmt
abbrev ZV:=List PySem.Expr
abbrev ZU:=List PySem.Addr
abbrev ZT:=List PySem.Value
abbrev ZS:=List PySem.Str
abbrev ZO:=List Nat
abbrev ZH:=List Int
abbrev ZY:=List ZH
open PySem.Challenge renaming rw_slidecut_k39_corner_pieces_paired->Zrw,pw_slidecut_k39_corner_pieces_paired->Zpw
set_option Elab.async false
set_option linter.all false
set_option genSizeOf false
set_option bootstrap.genMatcherCode false
noncomputable section
local macro_rules | `(tactic| walk_at"v") => `(tactic| first | exact SH rfl | exact Um (SH rfl) | exact Um (Um rfl))
local macro_rules | `(tactic| walk_at"f") => `(tactic| first | exact .inl rfl | exact .inr rfl | assumption)
theorem hO:3<=U':=by decide
theorem e1:2<=U':=by decide
theorem wf:0<=U':=by decide
theorem zt:10000<=U':=by decide
theorem cf{a b c:Nat}(h:a<=b)(g:b<=c:=by decide):a<=c:=Sx h g
namespace L3
open PySem PySem.W PySem.Spec PySem.Calls
open PyProof.Rows hiding K
noncomputable def lO(h:XE)(name:Str):Option (Option SC):=match h.get? Uf with
 |some ⟨_,_,.dict a _,_⟩=>(match a.toList.find? (·.key.isStr name)with
   |some e=>some (some e.val)
   |none=>if a.toList.any (·.refKey)then none else some none)
 |_=>none
def zu(h:XE)(a:SC)(q:Str):Bool:=match a with
 |.ref c=>(match h.get? c with
   |some ⟨_,_,.fields b,_⟩=>(match b.toList with|_::.str n _::_=>n==q|_=>false)
   |_=>false)
 |_=>false
def zv(h:XE)(x:Str):Option (Str×Str×X2×FuncBody×XW×TE×List (Str×TE)×SC×TE×Bool):=match lO h x with
 |some (some (.ref f))=>(match h.get? f with
  |some ⟨_,_,.func a,_⟩=>some (a.name,a.qualname,a.params,a.body,a.scope,a.globals,a.closure,a.defaults,a.builtins,zu h a.code x)
  |_=>none)
 |_=>none
noncomputable def zw(x:Str)(st:XD):Option (Str×Str×X2×FuncBody×XW×TE×List (Str×TE)×SC×TE×Bool):=match st with
 |.FunctionDef _ a b _ _ _ sc _ _ _=>some (x,x,a,.stmts b,sc,Uf,[],.none,XX,true)
 |_=>some (x,x,⟨[],[],none,[],[],none,[]⟩,.stmts [],{kind:=.function,names:=[],isGenerator:=false,isCoroutine:=false},Uf,[],.none,XX,true)
def zx(h:XE)(x:Str):Option (Str×Int×Int):=match lO h x with
 |some (some (.ref p))=>(match h.get? p with
  |some ⟨.type "tuple",_,.seq a _,_⟩=>(match a.toList with|[.int i _,.int j _]=>some (x,i,j)|_=>none)
  |_=>none)
 |_=>none
def zy(h:XE)(x:Str):Option (Str×(Int ⊕ Str)):=match lO h x with
 |some (some (.int i _))=>some (x,.inl i)
 |some (some (.str s _))=>some (x,.inr s)
 |_=>none
abbrev cW(x:Str)(s:XD):Str×XD:=(x,s)
abbrev MD(x:Str)(i j:Int):Str×Int×Int:=(x,i,j)
structure mo where
 fs:List (Str×XD)
 bs:ZS
 ts:List (Str×Int×Int)
 cs:List (Str×(Int ⊕ Str))
abbrev lg:Type:=List (Option (Str×Str×X2×FuncBody×XW×TE×List (Str×TE)×SC×TE×Bool))×List (Option (Option SC))×List (Option (Str×Int×Int))×List (Option (Str×(Int ⊕ Str)))
def zz(t:mo)(s:Tl):lg:=(t.fs.map λp=>zv s.heap p.1,t.bs.map λb=>lO s.heap b,t.ts.map λp=>zx s.heap p.1,t.cs.map λp=>zy s.heap p.1)
def zA(t:mo)(_:Xy):lg:=(t.fs.map λp=>zw p.1 p.2,t.bs.map λ_=>some none,t.ts.map λp=>some p,t.cs.map λp=>some p)
theorem i4{b c d:Type}{E:Option b}{F:b->c×d}{a:c×d}(e:E.map (λs=>(F s).1)=some a.1)(f:E.map (λs=>(F s).2)=some a.2):E.map F=some a:=by
 cases E with
 |none=>cases e
 |some x=>
  have g:=SN e;have h:=SN f;exact TW some (TF g h)
theorem ME{p q:WP}{loose:ZS}{Xt:Tl->Bool}{b:Type}{Yf:Tl->b}{Ya:Xy->b}{N:Nat}(c:∀w:Xy,(Zd YL p w N).map (λs=>(Zt q loose (X8 p.main.body) Xt true s).1)=some (Zu q loose).1)(d:∀w:Xy,(Zd YL p w N).map (λs=>(Zt q loose (X8 p.main.body) Xt true s).2)=some (Zu q loose).2)(e:∀w:Xy,(Zd YL p w N).map Yf=some (Ya w)):LeftO p q loose Xt Yf Ya N:=
 λw=>i4 (F:=λs=>(Zt q loose (X8 p.main.body) Xt true s,Yf s)) (a:=(Zu q loose,Ya w)) (i4 (c w) (d w)) (e w)
def lP(h:XE)(x:Str):Option TE:=match lO h x with
 |some (some (.ref f))=>(match h.get? f with
  |some ⟨_,_,.func b,_⟩=>(match b.code with
   |.ref c=>(match h.get? c with
    |some ⟨.type "code",_,.fields a,_⟩=>(match (a[11]?:Option SC),a.getD 18 .none,a.getD 7 .none,a.getD 9 .none,a.getD 10 .none with
     |some (.ref P),.str _ _,.int _ _,.bool _,.int _ _=>if c=P then none else some P
     |_,_,_,_,_=>none)
    |_=>none)
   |_=>none)
  |_=>none)
 |_=>none
noncomputable def isTab(o:Obj):Bool:=match o.data with
 |.fields a=>a.isEmpty&&o.slots.isEmpty&&(match o.cls,o.dict with|.none,none=>true|_,_=>false)
 |_=>false
def wg(h:XE):Option TE:=match lO h "__builtins__" with
 |some (some (.ref a))=>(match h.get? a with
  |some ⟨.type "module",some d,.plain,_⟩=>if d=XX then some a else none
  |_=>none)
 |_=>none
def Fj(h:XE)(a:ZS)(b:TE)(x:Str):Bool:=(match lP h x with
 |some P=>P != Uf&&P != b&&(match h.get? P with|some o=>isTab o|none=>false)
 |none=>false)&&(a.find? λy=>lP h y==lP h x)==some x
def zB(h:XE)(b:ZS):Bool:=match wg h with
 |some a=>a != XX&&a != Uf&&b.all (Fj h b a)
 |none=>false
def tT(t:mo)(a:ZS)(s:Tl):lg×Bool:=(zz t s,zB s.heap a)
def tU(t:mo)(w:Xy):lg×Bool:=(zA t w,true)
section
noncomputable def d0(i:Nat):XD:=Zpw.main.body.getD i (.Pass ⟨0,0,0,0⟩)
abbrev zC:XD:=d0 5
abbrev zD:XD:=d0 6
abbrev zE:XD:=d0 7
abbrev zF:XD:=d0 8
abbrev zG:XD:=d0 9
abbrev zH:XD:=d0 10
abbrev zI:XD:=d0 11
abbrev zJ:XD:=d0 12
abbrev zK:XD:=d0 14
abbrev zL:XD:=d0 15
abbrev zM:XD:=d0 16
abbrev zN:XD:=d0 17
abbrev zO:XD:=d0 18
abbrev zP:XD:=d0 19
abbrev zQ:XD:=d0 21
abbrev zR:XD:=d0 22
abbrev zS:XD:=d0 23
abbrev zT:XD:=d0 24
abbrev zU:XD:=d0 25
abbrev zV:XD:=d0 26
abbrev zW:XD:=d0 28
abbrev zX:XD:=d0 29
abbrev zY:XD:=d0 30
abbrev zZ:XD:=d0 31
abbrev z0:XD:=d0 32
abbrev z1:XD:=d0 33
abbrev z2:XD:=d0 35
abbrev z3:XD:=d0 36
abbrev z4:XD:=d0 37
abbrev z5:XD:=d0 38
abbrev z6:XD:=d0 39
abbrev z7:XD:=d0 40
abbrev z8:XD:=d0 41
abbrev z9:XD:=d0 42
abbrev z':XD:=d0 43
abbrev Aa:XD:=d0 44
abbrev Ab:XD:=d0 45
abbrev Ac:XD:=d0 46
abbrev Ad:XD:=d0 47
abbrev Ae:XD:=d0 48
abbrev Af:XD:=d0 49
abbrev Ag:XD:=d0 50
abbrev Ah:XD:=d0 51
abbrev Ai:XD:=d0 52
abbrev Aj:XD:=d0 53
abbrev Ak:XD:=d0 54
abbrev Al:XD:=d0 55
abbrev Am:XD:=d0 56
abbrev An:XD:=d0 57
abbrev Ao:XD:=d0 58
abbrev Ap:XD:=d0 59
abbrev Aq:XD:=d0 60
abbrev Ar:XD:=d0 61
abbrev As:XD:=d0 62
abbrev At:XD:=d0 63
abbrev Au:XD:=d0 64
abbrev Av:XD:=d0 65
abbrev Aw:XD:=d0 66
abbrev Ax:XD:=d0 67
abbrev Ay:XD:=d0 68
abbrev Az:XD:=d0 69
abbrev AA:XD:=d0 70
def h4:mo:=⟨[cW "greatest_divisor" zC,cW "plus" zD,cW "minus" zE,cW "times" zF,cW "under" zG,cW "against" zH,cW "unsigned" zI,cW "ranks" zJ,cW "point" zK,cW "at" zL,cW "slid" zM,cW "crossed" zN,cW "hand_of" zO,cW "meet" zP,cW "cut_ring" zQ,cW "cut_sheet" zR,cW "cut_upright" zS,cW "cut_level" zT,cW "copied" zU,cW "moved" zV,cW "split" zW,cW "widest_last" zX,cW "alike" zY,cW "matched" zZ,cW "box_of" z0,cW "paired" z1,cW "_law_cell" z2,cW "_law_bag" z3,cW "_law_draw" z4,cW "_law_measure" z5,cW "_law_low" z6,cW "_law_spot" z7,cW "_law_whole" z8,cW "_law_line" z9,cW "_law_count" z',cW "_law_part" Aa,cW "_law_left" Ab,cW "_law_is_spot" Ac,cW "_law_is_bulging" Ad,cW "_law_between" Ae,cW "_law_cut" Af,cW "_law_sheet" Ag,cW "_law_first" Ah,cW "_law_kept" Ai,cW "_law_lies" Aj,cW "_law_copied" Ak,cW "_law_product" Al,cW "_law_less" Am,cW "_law_pin" An,cW "_law_box" Ao,cW "_law_is_box" Ap,cW "_law_is_low" Aq,cW "_law_size" Ar,cW "_law_high" As,cW "_law_corner" At,cW "_law_slope" Au,cW "_law_some" Av,cW "_law_all_wide" Aw,cW "_law_pieces" Ax,cW "_law_right" Ay,cW "_law_lent" Az,cW "law" AA],["len","abs","int","bool","tuple","isinstance","range","all","sum","list","ValueError","zip","str","enumerate","set","max","min","sorted","dict"],[MD "NOTHING" 0 1],[]⟩
def kG:List Str:=["widest_last"]
set_option maxRecDepth 100000
set_option maxHeartbeats 0
theorem mn:Zrw.wellSaid=true:=by kernel_rfl
theorem MF:∀w:Xy,(Zd YL Zrw.row.prog w 20000).map (λs=>(Zt Zpw [] (X8 Zrw.row.prog.main.body) (λs=>xlAt Zpw [] s&&recOk (RowW.records (OpenRow.toRowW Zrw.row)) s) true s).1)=some (Zu Zpw []).1:=λw=>by kernel_rfl
theorem MG:∀w:Xy,(Zd YL Zrw.row.prog w 20000).map (λs=>(Zt Zpw [] (X8 Zrw.row.prog.main.body) (λs=>xlAt Zpw [] s&&recOk (RowW.records (OpenRow.toRowW Zrw.row)) s) true s).2)=some (Zu Zpw []).2:=λw=>by kernel_rfl
theorem MH:∀w:Xy,(Zd YL Zrw.row.prog w 20000).map (tT h4 kG)=some (tU h4 w):=λw=>by kernel_rfl
theorem left:LeftO Zrw.row.prog Zpw [] (λs=>xlAt Zpw [] s&&recOk (RowW.records (OpenRow.toRowW Zrw.row)) s) (tT h4 kG) (tU h4) 20000:=ME (p:=Zrw.row.prog) (q:=Zpw) (loose:=[]) (Xt:=(λs=>xlAt Zpw [] s&&recOk (RowW.records (OpenRow.toRowW Zrw.row)) s)) (Yf:=tT h4 kG) (Ya:=tU h4) (N:=20000) MF MG MH
end
set_option Elab.async false
set_option linter.all false
set_option maxRecDepth 100000
abbrev iR:=Sum Int Str
def Fk:iR->SC->Bool
 |.inl k,v=>Value.isInt k v
 |.inr x,v=>Value.isStrOf x v
noncomputable def MI(w:Xy):iR->Int
 |.inl k=>Zl k
 |.inr x=>hashStr w x
theorem oA:∀{k:iR}{v:SC},Fk k v=true->(∃i t,k=Uu i/\v=Value.int i t)\/(∃x t,k=Uv x/\v=Value.str x t)
 |.inl i,v,h=>by
  obtain⟨t,e⟩:=Value.isInt_shape (k:=i) (v:=v) h;exact .inl ⟨i,t,rfl,e⟩
 |.inr x,v,h=>by
  obtain⟨t,e⟩:=Value.isStrOf_shape (x:=x) (v:=v) h;exact .inr ⟨x,t,rfl,e⟩
theorem MJ(a b:Int):decide ((Uu a:iR)=Uu b)=(a==b):=by
 by_cases e:a=b
 ·subst e;simp
 have h:¬(Uu a:iR)=Uu b:=λq=>e (Sum.inl.inj q);rw[decide_eq_false h];exact(beq_eq_false_iff_ne.mpr e).symm
theorem MK(a b:Str):decide ((Uv a:iR)=Uv b)=decide (a=b):=by
 by_cases e:a=b
 ·subst e;simp
 have h:¬(Uv a:iR)=Uv b:=λq=>e (Sum.inr.inj q);rw[decide_eq_false h,decide_eq_false e]
theorem ML(a:Int)(b:Str):decide ((Uu a:iR)=Uv b)=false:=decide_eq_false (λq=>nomatch q)
theorem MM(a:Str)(b:Int):decide ((Uv a:iR)=Uu b)=false:=decide_eq_false (λq=>nomatch q)
def AB(c:WP)(w:Xy):PySem.KeyKind c w iR where
 is:=Fk
 hash:=MI w
 inj:=λv a b l g=>by
  rcases oA l with⟨i,t,rfl,rfl⟩|⟨x,t,rfl,rfl⟩
  ·rcases oA g with⟨j,u,rfl,e⟩|⟨y,u,rfl,e⟩
   ·injection e with d _;rw[d]
   exact nomatch e
  rcases oA g with⟨j,u,rfl,e⟩|⟨y,u,rfl,e⟩
  ·exact nomatch e
  injection e with d _;rw[d]
 byValue:=λk v h=>by
  rcases oA h with⟨i,t,rfl,rfl⟩|⟨x,t,rfl,rfl⟩<;>rfl
 pyHash:=λf h=>by
  rcases oA f with⟨i,t,rfl,rfl⟩|⟨x,t,rfl,rfl⟩
  ·exact wpAny_pyHash_int h
  exact wpAny_pyHash_str h
 eqBool:=λm f h=>by
  rcases oA m with⟨i,t,rfl,rfl⟩|⟨x,t,rfl,rfl⟩
  ·rcases oA f with⟨j,u,rfl,rfl⟩|⟨y,u,rfl,rfl⟩
   ·rw[MJ]at h;exact wpAny_eqBool_int h
   rw[ML]at h;exact SeqAt.EqAt.int_str i t y u _ _ _ _ h
  rcases oA f with⟨j,u,rfl,rfl⟩|⟨y,u,rfl,rfl⟩
  ·rw[MM]at h;exact SeqAt.EqAt.str_int x t j u _ _ _ _ h
  rw[MK]at h;exact wpAny_eqBool_str h
 «strs»:=λk x t v h=>by
  rcases oA h with⟨i,u,rfl,e⟩|⟨y,u,rfl,e⟩
  ·exact nomatch e
  injection e with d _
  subst d
  cases v<;>rfl
inductive V where
 |non|bl (b:Bool)|int (i:Int)|str (x:Str)|byt (b:Array UInt8)|flt (b:UInt64)|ref (a:TE)|ty (n:String)
 deriving DecidableEq
abbrev ZL:=List V
def d_:V->SC->Prop
 |.non,u=>u=Value.none
 |.bl b,u=>u=Value.bool b
 |.int i,u=>∃t,u=Value.int i t
 |.str x,u=>∃t,u=Value.str x t
 |.byt b,u=>∃t,u=Value.bytes b t
 |.flt b,u=>∃t,u=Value.float b t
 |.ref a,u=>u=Value.ref a
 |.ty n,u=>u=Value.type n
abbrev bO:ZL->ZT->Prop:=Paired d_
theorem bO.length{a:ZL}{b:ZT}(r:bO a b):a.length=b.length:=Paired.length r
theorem bO.get:∀{a:ZL}{b:ZT}{i:Nat}{x:V},bO a b->a[i]?=some x->∃u,b[i]?=some u/\d_ x u
 |_,_,_,_,.nil,e=>by simp at e
 |_,_,0,_,.cons r _,e=>by simp at e;subst e;exact⟨_,rfl,r⟩
 |_,_,i+1,x,.cons _ t,e=>by
  obtain⟨u,c,d⟩:=bO.get (i:=i) (x:=x) t (by simpa using e);exact⟨u,by simpa using c,d⟩
theorem bO.set{x:V}{u:SC}(r:d_ x u):∀{a:ZL}{b:ZT}(i:Nat),bO a b->bO (a.set i x) (b.set i u)
 |_,_,_,.nil=>.nil
 |_,_,0,.cons _ t=>.cons r t
 |_,_,i+1,.cons q t=>.cons q (bO.set r i t)
theorem bO.append:∀{a b:ZL}{c d:ZT},bO a c->bO b d->bO (a++b) (c++d)
 |_,_,_,_,.nil,s=>s
 |_,_,_,_,.cons r t,s=>.cons r (bO.append t s)
theorem bO.take:∀{a:ZL}{b:ZT}(n:Nat),bO a b->bO (a.take n) (b.take n)
 |_,_,0,_=>.nil
 |_,_,_+1,.nil=>.nil
 |_,_,n+1,.cons r t=>.cons r (bO.take n t)
theorem bO.drop:∀{a:ZL}{b:ZT}(n:Nat),bO a b->bO (a.drop n) (b.drop n)
 |_,_,0,r=>r
 |_,_,_+1,.nil=>.nil
 |_,_,n+1,.cons _ t=>bO.drop n t
def pJ:Option V->Option SC->Prop
 |some v,some u=>d_ v u
 |none,none=>True
 |_,_=>False
def AC{a:Type}:List (a×V)->List (a×SC)->Prop:=Paired λ(p:a×V)(q:a×SC)=>p.1=q.1/\d_ p.2 q.2
def kV:iR->V
 |.inl i=>.int i
 |.inr x=>.str x
inductive eo where
 |lst(xs:ZL)
 |tup(xs:ZL)
 |dK(kvs:List (iR×V))|dT (kvs:List (List iR×V))
 |set(S:Int->Bool)(n:Nat)
 |ins(C fH:TE)(fs:List (Str×V))
 |own(x:TE)
 |xd(fs:List (Str×V))
 |met(f x:TE)
 |rng(lo hi:Int)
 |frz(o:Obj)(u:eo)
 |tbl(ps:Array SC)
 |ext(φ:XE->Prop)
abbrev ak:=TE->Option eo
def ed(H:ak)(a:TE)(o:eo):ak:=λb=>if b=a then some o else H b
theorem dL{H:ak}{a:TE}{o:eo}:ed H a o a=some o:=by unfold ed;rw[SL rfl]
theorem bP{H:ak}{a b:TE}{o:eo}(h:b≠a):ed H a o b=H b:=by unfold ed;rw[Tk h]
theorem hP{H:ak}{a b:TE}{o:eo}(h:H a=some o)(c:H b=none):a≠b:=by
 intro e;subst e;rw[h]at c;cases c
def MN(H:ak)(h:XE)(a:TE)(g:Array SC):Prop:=∃b:Array SC,h.get? a=some {cls:=.none,data:=.fields b}/\TriplesOk b.toList /\
 ∀posQz d,YM posQz b.toList=some d->∃c e u f q t i,d=.ref c/\H c=some (.frz e u)/\e.data=.fields f/\f[1]?=some (.str q t)/\g[0]?=some (.str q i)
noncomputable def AD(K:Su):List (TE×Str):=K.filterMap λp=>match p with
 | (b,⟨.none,_,.fields a,_⟩)=>(match a.toList with|[.ref P,.str q _]=>if b=Uf then some (P,q)else none|_=>none)
 |_=>none
def pK(K:Su)(H:ak):Prop:=∀p∈AD K,∃a t,H p.1=some (.tbl a)/\a[0]?=some (.str p.2 t)
section
variable(P:WP)(w:Xy)
def gG(H:ak)(h:XE)(a:TE):eo->Prop
 |.lst d=>d.length<=TI/\∃(b:ZT)(n:Nat),bO d b/\h.get? a=some {cls:=.type "list",data:=.seq b.toArray n}
 |.tup d=>d.length<=TI/\∃b:ZT,bO d b/\IsTup h a b.toArray
 |.dK c=>c.length<=TI/\(a==XJ)=false/\∃k,AC c k/\h.DictOf (AB P w) a k
 |.dT c=>c.length<=TI/\(a==XJ)=false/\∃d:List (List iR×TE×SC),
   Paired (λ(p:List iR×V)(q:List iR×TE×SC)=>p.1=q.1/\H q.2.1=some (.tup (p.1.map kV))/\d_ p.2 q.2.2) c d /\
   ∃o l s,h.get? a=some o/\o.ExactDict/\o.data=.dict l s/\l.toList=d.map (Zm (tupleKind (AB P w)))/\(d.map (·.1)).Nodup
 |.set S n=>h.SetOf (Zn P w) a S n
 |.ins C i g=>H i=some (.own a)/\g.length<=1000/\i≠a/\h.get? a=some (VE C i) /\
   ∃e,h.Ns1 i e/\(∀f,pJ (g.lookup f) (e f))/\PySem.Within e (g.map (·.1))
 |.own _=>∃o,h.get? a=some o
 |.xd g=>∃e,h.Ns1 a e/\∀f,pJ (g.lookup f) (e f)
 |.rng lo y=>∃t u v,h.get? a=some {cls:=.type "range",data:=.fields #[.int lo t,.int y u,.int 1 v]}
 |.frz o u=>h.get? a=some o/\gG H h a u
 |.tbl z=>MN H h a z
 |.met f x=>h.get? a=some (VF (.ref f) (.ref x))
 |.ext j=>j h/\(∃o,h.get? a=some o)/\∀m r:XE,j m->(∀o,m.get? a=some o->r.get? a=some o)->j r
def fm(H:ak)(h:XE):Prop:=∀a o,H a=some o->gG P w H h a o
end
section
variable{P:WP}{w:Xy}{H i:ak}{h h':XE}{a:TE}{o:eo}
theorem gG.lt(x:gG P w H h a o):a<h.objs.size:=by
 cases o with
 |lst c=>obtain⟨_,_,_,_,e⟩:=x;exact Heap.lt_size e
 |tup c=>obtain⟨_,_,_,p⟩:=x;exact p.lt
 |dK b=>obtain⟨_,_,_,_,o,_,_,e,_⟩:=x;exact Heap.lt_size e
 |dT b=>obtain⟨_,_,_,_,o,_,_,e,_⟩:=x;exact Heap.lt_size e
 |set S n=>obtain⟨o,_,_,_,e,_⟩:=x;exact Heap.lt_size e
 |ins C g d=>obtain⟨_,_,_,e,_⟩:=x;exact Heap.lt_size e
 |own y=>obtain⟨_,e⟩:=x;exact Heap.lt_size e
 |xd d=>obtain⟨_,⟨_,_,_,e,_⟩,_⟩:=x;exact Heap.lt_size e
 |rng lo i=>obtain⟨_,_,_,e⟩:=x;exact Heap.lt_size e
 |frz j u=>obtain⟨e,_⟩:=x;exact Heap.lt_size e
 |tbl k=>obtain⟨_,e,_⟩:=x;exact Heap.lt_size e
 |met f y=>exact Heap.lt_size (show h.get? a=some _ from x)
 |ext l=>obtain⟨_,⟨_,e⟩,_⟩:=x;exact Heap.lt_size e
theorem Paired.mw{d e:Type}{F G:d->e->Prop}:∀{g:List d}{c:List e},Paired F g c->(∀a b,F a b->G a b)->Paired G g c
 |_,_,.nil,_=>.nil
 |_,_,.cons r t,f=>.cons (f _ _ r) (Paired.mw t f)
theorem gG.gj(x:gG P w H h a o)(k:∀b u,(b=a\/H b=some (.own a))->h.get? b=some u->h'.get? b=some u)(J:∀b,H b=some (.own a)->i b=some (.own a))(K:∀b A,H b=some (.tup A)->i b=some (.tup A))(L:∀b j u,H b=some (.frz j u)->i b=some (.frz j u)):gG P w i h' a o:=by
 induction o with
 |lst A=>obtain⟨z,s,n,r,e⟩:=x;exact⟨z,s,n,r,k _ _ (.inl rfl) e⟩
 |tup A=>obtain⟨z,s,r,j,e,c⟩:=x;exact⟨z,s,r,j,k _ _ (.inl rfl) e,c⟩
 |dK B=>obtain⟨z,y,E,r,j,l,m,e,c⟩:=x;exact⟨z,y,E,r,j,l,m,k _ _ (.inl rfl) e,c⟩
 |dT B=>
  obtain⟨z,y,A,r,j,l,m,e,c⟩:=x;exact⟨z,y,A,Paired.mw r λp q z=>⟨z.1,K _ _ z.2.1,z.2.2⟩,j,l,m,k _ _ (.inl rfl) e,c⟩
 |set S n=>obtain⟨j,l,m,t,e,c⟩:=x;exact⟨j,l,m,t,k _ _ (.inl rfl) e,c⟩
 |ins C h1 M=>
  obtain⟨d,z,N,e,F,⟨G,l,m,I,c⟩,r⟩:=x;exact⟨J _ d,z,N,k _ _ (.inl rfl) e,F,⟨G,l,m,k _ _ (.inr d) I,c⟩,r⟩
 |own y=>obtain⟨j,e⟩:=x;exact⟨j,k _ _ (.inl rfl) e⟩
 |xd M=>obtain⟨F,⟨G,l,m,e,c⟩,r⟩:=x;exact⟨F,⟨G,l,m,k _ _ (.inl rfl) e,c⟩,r⟩
 |rng lo aa=>obtain⟨t,u,v,e⟩:=x;exact⟨t,u,v,k _ _ (.inl rfl) e⟩
 |frz j u O=>obtain⟨e,q⟩:=x;exact⟨k _ _ (.inl rfl) e,O q⟩
 |tbl ae=>
  obtain⟨Q,e,R,g⟩:=x;refine⟨Q,k _ _ (.inl rfl) e,R,λposQz T U=>?_⟩;obtain⟨c,W,u,E,q,t,X,Y,I,Z⟩:=g posQz T U;exact⟨c,W,u,E,q,t,X,Y,L _ _ _ I,Z⟩
 |met f y=>
  have e:h.get? a=some (VF (.ref f) (.ref y)):=x;show h'.get? a=some (VF (.ref f) (.ref y))
  exact k a _ (.inl rfl) e
 |ext af=>obtain⟨p,⟨o,e⟩,st⟩:=x;exact⟨st _ _ p λo q=>k _ _ (.inl rfl) q,⟨o,k _ _ (.inl rfl) e⟩,st⟩
theorem fm.lt(x:fm P w H h)(e:H a=some o):a<h.objs.size:=(x a o e).lt
theorem fm.fresh(x:fm P w H h)(e:h.objs.size<=a):H a=none:=by
 cases q:H a with
 |none=>rfl
 |some u=>exact absurd (Tc (x.lt q) e) (TU _)
theorem fm.kept(x:fm P w H h)(k:∀b u,h.get? b=some u->h'.get? b=some u):fm P w H h':=λa o e=>
 (x a o e).gj (λb u _ q=>k b u q) (λ_ q=>q) (λ_ _ q=>q) λ_ _ _ q=>q
theorem fm.laid(x:fm P w H h)(k:∀b u,h.get? b=some u->h'.get? b=some u)(g:h.objs.size<=a)(new:gG P w (ed H a o) h' a o):fm P w (ed H a o) h':=λb u e=>by
 have d:=x.fresh g;by_cases f:b=a
 ·subst f;rw[dL]at e;cases e;exact new
 rw[bP f]at e;exact(x b u e).gj (λc v _ q=>k c v q) (λc q=>by rw[bP (hP q d)];exact q) (λc i q=>by rw[bP (hP q d)];exact q) λc j u q=>by rw[bP (hP q d)];exact q
end
def Rd(H:ak)(a:TE)(u:eo):Prop:=H a=some u\/∃o,H a=some (.frz o u)
theorem Rd.ok{P:WP}{w:Xy}{H:ak}{h:XE}{a:TE}{u:eo}(r:Rd H a u)(x:fm P w H h):gG P w H h a u:=by
 rcases r with r|⟨o,r⟩
 ·exact x a u r
 obtain⟨_,q⟩:=x a _ r;exact q
def wi:Option eo->Prop
 |some (.lst _)=>True
 |some (.dK _)=>True
 |some (.dT _)=>True
 |some (.set _ _)=>True
 |some (.ins _ _ _)=>True
 |some (.ext _)=>True
 |_=>False
section
variable{P:WP}{w:Xy}{H:ak}{h a:XE}{x e:TE}{d:eo}
theorem fm.write(ok:fm P w H h)(m:wi (H x))(n:e=x\/H e=some (.own x))(k:∀b u,b≠e->h.get? b=some u->a.get? b=some u)(s:∃u,a.get? e=some u)(new:gG P w (ed H x d) a x d):fm P w (ed H x d) a:=λb u q=>by
 have o:∀c y,H c=some (.own y)->c≠x:=λc y r z=>by subst z;rwa[r]at m
 have t:∀c f,H c=some (.tup f)->c≠x:=λc f r z=>by subst z;rwa[r]at m
 have A:∀c g u,H c=some (.frz g u)->c≠x:=λc g u r z=>by subst z;rwa[r]at m
 by_cases i:b=x
 ·subst i;rw[dL]at q;cases q;exact new
 rw[bP i]at q;by_cases j:b=e
 ·have p:H b=some (.own x):=by
   rcases n with z|z
   ·exact absurd (j.trans z) i
   rw[j];exact z
  rw[q]at p;cases p;obtain⟨v,B⟩:=s;exact⟨v,by rw[j];exact B⟩
 refine(ok b u q).gj (λc v l r=>k c v ?_ r) (λc r=>by rw[bP (o c b r)];exact r) (λc f r=>by rw[bP (t c f r)];exact r) λc g u r=>by rw[bP (A c g u r)];exact r
 rcases l with rfl|l
 ·exact j
 rintro rfl;rcases n with z|z
 ·exact o c b l z
 rw[l]at z;cases z;exact i rfl
end
structure f7(fs ex:ZU)(H H':ak)(h h':XE):Prop where
 keep:∀b o,h.get? b=some o->H b=none->b∉fs->b∉ex->h'.get? b=some o
 slot:∀b o,h.get? b=some o->H b=none->b∈fs->b∉ex->∃sl,h'.get? b=some {o with slots:=sl}
 free:∀b o,h.get? b=some o->H b=none->b∉ex->H' b=none
 there:∀b o,h.get? b=some o->b∉ex->∃e',h'.get? b=some e'
 ht:∀b xs,H b=some (.tup xs)->H' b=some (.tup xs)
 g7:∀b o u,H b=some (.frz o u)->H' b=some (.frz o u)
 gi:∀b ps,H b=some (.tbl ps)->∃more,H' b=some (.tbl (ps++more))
section
variable{c m d i:ZU}{H g l:ak}{h f j h':XE}{a x e:TE}{o:eo}
theorem f7.any(u:f7 c d H g h f){b:TE}{a:Obj}(q:h.get? b=some a)(n:H b=none)(e:b∉d):∃j,f.get? b=some {a with slots:=j}:=by
 by_cases i:b∈c
 ·exact u.slot b a q n i e
 exact⟨a.slots,u.keep b a q n i e⟩
theorem f7.kept(k:∀b u,h.get? b=some u->h'.get? b=some u):f7 c d H H h h':=
 ⟨λb a q _ _ _=>k b a q,λb a q _ _ _=>⟨a.slots,k b a q⟩,λ_ _ _ n _=>n,λb a q _=>⟨a,k b a q⟩,λ_ _ q=>q,λ_ _ _ q=>q,λ_ e q=>⟨#[],by rw[q];simp⟩⟩
theorem f7.refl:f7 c d H H h h:=f7.kept λ_ _ q=>q
theorem f7.laid(k:∀b u,h.get? b=some u->h'.get? b=some u)(f:h.objs.size<=a)(e:H a=none):f7 c d H (ed H a o) h h' where
 keep:=λb u q _ _ _=>k b u q
 slot:=λb u q _ _ _=>⟨u.slots,k b u q⟩
 free:=λb u q n _=>by rw[bP (S5 (Tc (Heap.lt_size q) f))];exact n
 there:=λb u q _=>⟨u,k b u q⟩
 ht:=λb g q=>by rw[bP (hP q e)];exact q
 g7:=λb u g q=>by rw[bP (hP q e)];exact q
 gi:=λb i q=>⟨#[],by rw[bP (hP q e),q];simp⟩
theorem f7.write(a:wi (H x))(l:e=x\/H e=some (.own x))(k:∀b u,b≠e->h.get? b=some u->h'.get? b=some u)(m:∃u,h'.get? e=some u):f7 c d H (ed H x o) h h':=by
 have g:∀b,H b=none->b≠x:=λb n z=>by subst z;rwa[n]at a
 have i:∀b,H b=none->b≠e:=λb n z=>by
  subst z;rcases l with r|r
  ·exact g b n r
  rw[n]at r;cases r
 have f:∀b u,H b=some u->¬wi (some u)->b≠x:=λb u q p z=>by subst z;rw[q]at a;exact p a
 refine⟨λb u q n _ _=>k b u (i b n) q,λb u q n _ _=>⟨u.slots,k b u (i b n) q⟩,λb u q n _=>by rw[bP (g b n)];exact n,λb u q _=>?_,
  λb s q=>by rw[bP (f b _ q λz=>z)];exact q,λb u s q=>by rw[bP (f b _ q λz=>z)];exact q,λb t q=>⟨#[],by rw[bP (f b _ q λz=>z),q];simp⟩⟩
 by_cases j:b=e
 ·subst j;exact m
 exact⟨u,k b u j q⟩
end
def wj(h:XE)(H:ak):List TE:=(S7 h.objs.size).filter λa=>(H a).isSome
def oB(h:XE)(H:ak):XE:=PySem.W.hideAll h (wj h H)
theorem MR(h:XE)(H:ak):(oB h H).objs.size=h.objs.size:=PySem.W.hideAll_size _ _
theorem MS{h:XE}{H:ak}{b:TE}{o:Obj}(e:h.get? b=some o)(n:H b=none):(oB h H).get? b=some o:=
 PySem.W.hideAll_get _ e λa=>by
  have q:(H b).isSome=true:=(TO.mp a).2;rw[n]at q;simp at q
theorem MT{h:XE}{H:ak}{b:TE}{o:Obj}(e:(oB h H).get? b=some o):h.get? b=some o/\H b=none:=by
 have a:h.get? b=some o:=PySem.W.of_hideAll (wj h H) e;refine⟨a,?_⟩;cases q:H b with
 |none=>rfl
 |some x=>
  have c:b∈wj h H:=TO.mpr ⟨TG.mpr (Heap.lt_size a),by simp[q]⟩;have z:(oB h H).get? b=none:=PySem.W.hideAll_none (wj h H) c;rw[z]at e;cases e
structure Mod(K:Su)(mg:Str->Option SC)(base:XE):Prop where
 nz:K.In base
 glob:base.Ns Uf mg
 blt:∃he,base.Ns XX he/\∀x:Str,x≠"__name__"->he x=XM x
 nolimit:base.NoLimit
structure aT where
 prog:WP
 w:Xy
 K:Su
 mg:Str->Option SC
 base:XE
 A:Xz
 N:ZS
 s₀:Tl
 H₀:ak
 env:Env
 outer:List Env
 stack:List Env
 ex:ZU
 fn:Str->Bool
 calm:Bool
 pn:ZX
 xe:SC->Tl->Prop
abbrev lQ(X:aT)(p:Pos)(a:ZV):Prop:=((X9 p (UF a X.env)).all (λx => !x.1)&&(backToKw p (keywordEach [] X.env)).all (λx=>x.1.isSome)&&decide (a.length+([]:List Keyword).length+(if([]:List Keyword).isEmpty then 0 else 1)<30))=true
abbrev eN(X:aT)(e:Wp)(a:ZV):Prop:=UF (e::a) X.env=(false,Yk e X.env)::UF a X.env
abbrev ec(x:Str):Prop:=(x==("__debug__":Str))=false
abbrev gO(x:Str):Prop:=(x==("__classdict__":Str))=false
abbrev ip(X:aT)(x:Str):Prop:=X.fn x=true\/X.env.scope.names.lookup x=some .local
abbrev iq(X:aT)(o:Wp)(x:Str):Prop:=attributeBase o x X.env (Yk o X.env)=Yk o X.env
abbrev hy(X:aT)(p:Pos)(a:ZV):Prop:=(X9 p (UF a X.env)).any (·.1)=false
abbrev iS(p q:Pos):Prop:=(p.endLine==q.line)=true
abbrev gV(X:aT)(i:Nat)(x:Str):Prop:=X.N[i]?=some x
def frs(l:List Env):List TE:=l.filterMap (·.frame)
abbrev aT.fs(X:aT):List TE:=frs X.outer
def gh(sc:XW)(x:Str):Prop:=sc.names.lookup x=some .local\/sc.names.lookup x=some .cell\/sc.names.lookup x=some .free
def ho(sc:XW)(x:Str):Prop:=sc.names.lookup x=some .local\/sc.names.lookup x=some .cell
def mV(a:Env)(h:XE)(m:Str->Option SC)(x:Str)(u:SC):Prop:=
 (a.kindOf x=some .local/\m x=some u)\/((a.kindOf x=some .cell\/a.kindOf x=some .free)/\∃c,a.cells.lookup x=some c/\h.IsCell c (some u))
structure aT.Ok(X:aT):Prop where
 mod:Mod X.K X.mg X.base
 kind:X.env.scope.kind=.function
 glob:X.env.globals=Uf
 blt:X.env.builtins=XX
 above:X.s₀.heap.objs.size<=X.env.locals
 inj:∀x y c,X.env.cells.lookup x=some c->X.env.cells.lookup y=some c->x=y
 has:∀x,(X.env.kindOf x=some .cell\/X.env.kindOf x=some .free)->∃c,X.env.cells.lookup x=some c
 mU:∀x c,X.fn x=true->X.env.cells.lookup x=some c->X.s₀.heap.objs.size<=c
 hd:X.calm=true->X.A.handled=none
 frames:X.A.frames=some X.stack
 m6:X.stack=X.outer\/(X.stack=X.env::X.outer/\X.env.frame=some X.env.locals)
 m':∀b∈X.ex,b≠X.env.locals/\∀x c,X.env.cells.lookup x=some c->c≠b
 bs:∀b o,X.base.get? b=some o->X.s₀.heap.get? b=some o/\X.H₀ b=none
 kr:X.base.objs.size<=X.s₀.heap.objs.size
 jN:∀b o,X.base.get? b=some o->b∉X.ex
 j_:∀b∈X.ex,b∉X.fs
 gc:X.s₀.heap.FunFrames X.base X.outer
 mc:∀b∈X.fs,X.H₀ b=none
 tab:pK X.K X.H₀
structure c_(X:aT)(aj:ZX)(σ:List (Option V))(H:ak)(s:Tl):Prop where
 ok:X.Ok
 os:s.os=X.s₀.os
 bare:YN s.gens
 base:f7 X.fs X.ex X.H₀ H X.s₀.heap s.heap
 loc:∃m,s.heap.Ns X.env.locals m/\∀(i:Nat)(x:Str)(v:V),X.N[i]?=some x->σ[i]?=some (some v)->gh X.env.scope x->∃u,d_ v u/\mV X.env s.heap m x u
 cell:∀x c,X.env.cells.lookup x=some c->∃v,s.heap.IsCell c v
 free:H X.env.locals=none
 fD:∀x c,X.env.cells.lookup x=some c->H c=none
 pin:∀p∈X.pn++aj,s.heap.get? p.1=some p.2/\H p.1=none/\p.1≠X.env.locals/\p.1∉X.fs/\∀v,p.2.data≠.cell v
 ep:fm X.prog X.w H s.heap
 len:σ.length=X.N.length
section
variable{X:aT}{f:ZX}{B:List (Option V)}{H C:ak}{s:Tl}{h':XE}
theorem aT.Ok.nu(ok:X.Ok){b:TE}{o:Obj}(e:X.base.get? b=some o):b∉X.fs:=λa=>by
 have:=(ok.gc.mem a).1;rw[e]at this;cases this
theorem c_.bs(I:c_ X f B H s):∀b o,X.base.get? b=some o->s.heap.get? b=some o/\H b=none:=λb o e=>
 ⟨I.base.keep b o (I.ok.bs b o e).1 (I.ok.bs b o e).2 (I.ok.nu e) (I.ok.jN b o e),I.base.free b o (I.ok.bs b o e).1 (I.ok.bs b o e).2 (I.ok.jN b o e)⟩
theorem c_.bk(I:c_ X f B H s):∀b o,X.base.get? b=some o->s.heap.get? b=some o:=λb o e=>(I.bs b o e).1
theorem pK.grow{K:Su}{H C:ak}(x:pK K H)(g:∀b c,H b=some (.tbl c)->∃a,C b=some (.tbl (c++a))):pK K C:=λp d=>by
 obtain⟨c,t,e,q⟩:=x p d;obtain⟨a,f⟩:=g _ _ e;refine⟨_,t,f,?_⟩
 have:0<c.size:=by
  rcases Nat.eq_zero_or_pos c.size with z|z
  ·rw[VG (by lia)]at q;cases q
  exact z
 rw[Array.getElem?_append_left this];exact q
theorem c_.tabs(I:c_ X f B H s):pK X.K H:=I.ok.tab.grow I.base.gi
theorem c_.mod(I:c_ X f B H s):Mod X.K X.mg X.base:=I.ok.mod
theorem c_.gY(I:c_ X f B H s):X.K.In s.heap:=I.ok.mod.nz.keeps I.bk
theorem c_.nolimit(I:c_ X f B H s):s.heap.NoLimit:=I.ok.mod.nolimit.keeps I.bk
theorem c_.lt(I:c_ X f B H s):X.env.locals<s.heap.objs.size:=let⟨_,a,_⟩:=I.loc;a.lt
theorem c_.sz(I:c_ X f B H s):X.s₀.heap.objs.size<=s.heap.objs.size:=Sx I.ok.above (UG I.lt)
theorem c_.lU(I:c_ X f B H s){a:TE}(h:s.heap.objs.size<=a):a∉X.fs:=λb=>by
 obtain⟨_,o,c,_⟩:=I.ok.gc.mem b;exact absurd (Tc (Heap.lt_size c) (Sx I.sz h)) (TU _)
theorem c_.nI(I:c_ X f B H s):∀x c,X.env.cells.lookup x=some c->c≠X.env.locals:=λx c e z=>by
 obtain⟨v,o,a,b⟩:=I.cell x c e;obtain⟨m,⟨h,i,j,d,g,_⟩,_⟩:=I.loc;rw[z,d]at a;cases a;rw[g]at b;cases b
theorem c_.gc(I:c_ X f B H s):s.heap.FunFrames X.base X.outer:=by
 have all:∀(l:List Env),(∀b∈frs l,b∈X.fs)->X.s₀.heap.FunFrames X.base l->s.heap.FunFrames X.base l:=by
  intro l;induction l with
  |nil=>intro _ _;trivial
  |cons env r h=>
   intro g i;obtain⟨j,⟨L,o,a,k,m,n⟩,p⟩:=i;have c:L∈X.fs:=g L (by unfold frs;rw[VH,a];exact Sw);obtain⟨q,e⟩:=I.base.slot L o m (I.ok.mc L c) c λz=>I.ok.j_ L z c;exact⟨j,⟨L,_,a,k,e,n⟩,h (λb d=>g b (by unfold frs;rw[VH,a];exact SA _ d)) p⟩
 exact all X.outer (λ_ d=>d) I.ok.gc
theorem c_.stack(I:c_ X f B H s):s.heap.FunFrames X.base X.stack:=by
 rcases I.ok.m6 with e|⟨e,a⟩
 ·rw[e];exact I.gc
 rw[e];obtain⟨m,b,_⟩:=I.loc;refine .cons (by rw[I.ok.kind];decide) a b ?_ I.gc;exact Heap.get?_none_of_le (Sx I.ok.kr I.ok.above)
theorem c_.gQ(I:c_ X f B H s):∀b∈frs X.stack,b∈X.env.locals::X.fs:=λb a=>by
 rcases I.ok.m6 with e|⟨e,c⟩
 ·rw[e]at a;exact SA _ a
 rw[e]at a;unfold frs at a;rwa[VH,c]at a
theorem c_.gR(I:c_ X f B H s):∀b∈frs X.stack,H b=none:=λb a=>by
 rcases SG.mp (I.gQ b a)with e|a
 ·rw[e];exact I.free
 obtain⟨_,o,c,_⟩:=I.ok.gc.mem a;exact I.base.free b o c (I.ok.mc b a) λz=>I.ok.j_ b z a
theorem c_.step{g':Array GenState}{t':Nat}{d':Drawn}{ch:ZU}(I:c_ X f B H s)(F:∀b∈ch,(b∈X.ex\/X.s₀.heap.objs.size<=b)/\b≠X.env.locals/\(∀x c,X.env.cells.lookup x=some c->c≠b)/\∀p∈X.pn++f,p.1≠b)(g:∀b o,b≠X.env.locals->b∉X.fs->b∉ch->s.heap.get? b=some o->H b=none->h'.get? b=some o)(j:∀b o,b≠X.env.locals->b∈X.fs->b∉ch->s.heap.get? b=some o->H b=none->∃Q,h'.get? b=some {o with slots:=Q})(free:∀b o,b∉ch->s.heap.get? b=some o->H b=none->C b=none)(y:∀b o,b∉ch->s.heap.get? b=some o->∃G,h'.get? b=some G)(J:∀b t,H b=some (.tup t)->C b=some (.tup t))(K:∀b o u,H b=some (.frz o u)->C b=some (.frz o u))(L:∀b O,H b=some (.tbl O)->∃more,C b=some (.tbl (O++more)))(Z:∀m,s.heap.Ns X.env.locals m->h'.Ns X.env.locals m)(ep:fm X.prog X.w C h')(h1:YN g'):
  c_ X f B C {s with heap:=h',gens:=g',drawn:=d',toks:=t' }:=by
 have S:∀b o,X.s₀.heap.get? b=some o->b≠X.env.locals:=λb o e=>S5 (Tc (Heap.lt_size e) I.ok.above)
 have P:∀b o,X.s₀.heap.get? b=some o->b∉X.ex->b∉ch:=λb o e a A=>by
  rcases(F b A).1 with z|z
  ·exact a z
  exact absurd (Tc (Heap.lt_size e) z) (TU _)
 have cellK:∀x c,X.env.cells.lookup x=some c->∀v,s.heap.IsCell c v->h'.IsCell c v:=λx c e v ⟨o,E,R⟩=>by
  have M:c∉ch:=λz=>(F c z).2.2.1 x c e rfl;by_cases T:c∈X.fs
  ·obtain⟨Q,q⟩:=j c o (I.nI x c e) T M E (I.fD x c e);exact⟨_,q,R⟩
  exact⟨o,g c o (I.nI x c e) T M E (I.fD x c e),R⟩
 refine⟨I.ok,I.os,h1,⟨λb o e n A a=>?_,λb o e n A a=>?_,λb o e n a=>?_,λb o e a=>?_,λb t e=>J b t (I.base.ht b t e),λb o t e=>K b o t (I.base.g7 b o t e),λb O e=>?_⟩,?_,λx c e=>?_,?_,λx c e=>?_,λp U=>?_,ep,I.len⟩
 ·exact g b o (S b o e) A (P b o e a) (I.base.keep b o e n A a) (I.base.free b o e n a)
 ·obtain⟨Q,h⟩:=I.base.slot b o e n A a;obtain⟨aa,N⟩:=j b _ (S b o e) A (P b o e a) h (I.base.free b o e n a);exact⟨aa,N⟩
 ·obtain⟨G,h⟩:=I.base.there b o e a;exact free b G (P b o e a) h (I.base.free b o e n a)
 ·obtain⟨G,h⟩:=I.base.there b o e a;exact y b G (P b o e a) h
 ·obtain⟨hi,h⟩:=I.base.gi b O e;obtain⟨ai,N⟩:=L b _ h;exact⟨hi++ai,by rw[N,Array.append_assoc]⟩
 ·obtain⟨m,aj,ao⟩:=I.loc;refine⟨m,Z m aj,λi x v h N aq=>?_⟩;obtain⟨u,r,l⟩:=ao i x v h N aq;refine⟨u,r,?_⟩;rcases l with l|⟨k,c,e,z⟩
  ·exact .inl l
  exact .inr ⟨k,c,e,cellK x c e _ z⟩
 ·obtain⟨v,z⟩:=I.cell x c e;exact⟨v,cellK x c e v z⟩
 ·obtain⟨m,⟨o,_,_,E,_⟩,_⟩:=I.loc;exact free _ o (λz=>(F _ z).2.1 rfl) E I.free
 ·obtain⟨v,o,E,R⟩:=I.cell x c e;exact free c o (λz=>(F c z).2.2.1 x c e rfl) E (I.fD x c e)
 obtain⟨e,n,W,Y,d⟩:=I.pin p U;have M:p.1∉ch:=λz=>(F p.1 z).2.2.2 p U rfl;exact⟨g p.1 p.2 W Y M e n,free p.1 p.2 M e n,W,Y,d⟩
theorem c_.un{t':Nat}(I:c_ X f B H s)(u:f7 X.fs [] H C s.heap h')(ep:fm X.prog X.w C h'):c_ X f B C {s with heap:=h',toks:=t' }:=by
 obtain⟨m,⟨o,l,p,c,r⟩,_⟩:=id I.loc;obtain⟨q,g⟩:=u.any c I.free (by simp)
 exact I.step (g':=s.gens) (d':=s.drawn) (ch:=[]) (λ_ z=>nomatch z) (λb o _ a _ e n=>u.keep b o e n a (by simp)) (λb o _ a _ e n=>u.slot b o e n a (by simp)) (λb o _ e n=>u.free b o e n (by simp)) (λb o _ e=>u.there b o e (by simp)) u.ht u.g7 u.gi (λt h=>by
  obtain⟨v,i,j,d,k⟩:=h;rw[c]at d;cases d
  exact⟨_,i,j,g,k⟩) ep I.bare
theorem c_.call{g':Array GenState}{t':Nat}{d':Drawn}{ch:ZU}(I:c_ X f B H s)(u:f7 (frs X.stack) ch H C s.heap h')(ep:fm X.prog X.w C h')(j:YN g')(g:∀b∈ch,(b∈X.ex\/X.s₀.heap.objs.size<=b)/\b≠X.env.locals/\(∀x c,X.env.cells.lookup x=some c->c≠b)/\∀p∈X.pn++f,p.1≠b):
  c_ X f B C {s with heap:=h',gens:=g',drawn:=d',toks:=t' }:=by
 obtain⟨m,⟨o,y,A,h,r⟩,_⟩:=id I.loc;obtain⟨E,d⟩:=u.any h I.free λz=>(g _ z).2.1 rfl
 exact I.step (ch:=ch) g (λb o d k a e n=>u.keep b o e n (λz=>(SG.mp (I.gQ b z)).elim d k) a) (λb o _ _ a e n=>u.any e n a) (λb o a e n=>u.free b o e n a) (λb o a e=>u.there b o e a) u.ht u.g7 u.gi (λF l=>by
  obtain⟨G,q,t,i,v⟩:=l;rw[h]at i;cases i
  exact⟨_,q,t,d,v⟩) ep j
theorem c_.turned{t':Nat}{a:TE}(I:c_ X f B H s)(k:∀b o,b≠a->s.heap.get? b=some o->h'.get? b=some o)(i:H a=none)(g:a≠X.env.locals)(j:a∈X.ex\/X.s₀.heap.objs.size<=a)(l:∀x c,X.env.cells.lookup x=some c->c≠a)(t:∀p∈X.pn++f,p.1≠a):c_ X f B H {s with heap:=h',toks:=t' }:=by
 have h:∀b u,H b=some u->b≠a:=λb u e z=>by rw[z,i]at e;cases e
 refine I.step (g':=s.gens) (d':=s.drawn) (ch:=[a]) (λb w=>?_) (λb o _ _ d e _=>k b o (λz=>d (by simp[z])) e) (λb o _ _ d e _=>⟨o.slots,k b o (λz=>d (by simp[z])) e⟩) (λ_ _ _ _ n=>n)
  (λb o d e=>⟨o,k b o (λz=>d (by simp[z])) e⟩) (λ_ _ e=>e) (λ_ _ _ e=>e) (λb F e=>⟨#[],by rw[e];simp⟩) (λm y=>?_) (λb u e=>?_) I.bare
 ·have e:b=a:=by simpa using w
  subst e;exact⟨j,g,l,t⟩
 ·obtain⟨o,A,C,E,r⟩:=y;exact⟨o,A,C,k _ o (Ta g) E,r⟩
 refine(I.ep b u e).gj (λc v d q=>k c v ?_ q) (λ_ q=>q) (λ_ _ q=>q) λ_ _ _ q=>q;rcases d with z|z
 ·rw[z];exact h b u e
 exact h c _ z
theorem c_.tok(I:c_ X f B H s)(t:Nat):c_ X f B H {s with toks:=t}:=I.un (h':=s.heap) (t':=t) f7.refl I.ep
theorem c_.kept{t':Nat}(I:c_ X f B H s)(k:∀b u,s.heap.get? b=some u->h'.get? b=some u):c_ X f B H {s with heap:=h',toks:=t' }:=I.un (f7.kept k) (I.ep.kept k)
theorem c_.laid{a:TE}{o:eo}{t':Nat}(I:c_ X f B H s)(k:∀b u,s.heap.get? b=some u->h'.get? b=some u)(c:s.heap.objs.size<=a)(new:gG X.prog X.w (ed H a o) h' a o):
  c_ X f B (ed H a o) {s with heap:=h',toks:=t' }:=I.un (f7.laid k c (I.ep.fresh c)) (I.ep.laid k c new)
theorem c_.write{x e:TE}{o:eo}{t':Nat}(I:c_ X f B H s)(a:wi (H x))(c:e=x\/H e=some (.own x))(k:∀b u,b≠e->s.heap.get? b=some u->h'.get? b=some u)(d:∃u,h'.get? e=some u)(new:gG X.prog X.w (ed H x o) h' x o):c_ X f B (ed H x o) {s with heap:=h',toks:=t' }:=I.un (f7.write a c k d) (I.ep.write a c k d new)
theorem c_.gS{a:ZX}(I:c_ X f B H s)(h:∀p∈a,s.heap.get? p.1=some p.2/\H p.1=none/\p.1≠X.env.locals/\p.1∉X.fs/\∀v,p.2.data≠.cell v):c_ X a B H s:=
 ⟨I.ok,I.os,I.bare,I.base,I.loc,I.cell,I.free,I.fD,λp b=>(SO.mp b).elim (λz=>I.pin p (Tx _ z)) (h p),I.ep,I.len⟩
theorem Fp{N:ZS}(c:N.Nodup){i j:Nat}{x:Str}(a:N[i]?=some x)(b:N[j]?=some x):i=j:=by
 obtain⟨f,d⟩:=TM.mp a;obtain⟨g,e⟩:=TM.mp b;exact(List.getElem_inj c).mp (d.trans e.symm)
theorem MV{M:Model}{A:Xz}{E:SC->Tl->Prop}{i:Nat}{x:Str}{v:V}{u:SC}{Q:Unit->Tl->Prop}(I:c_ X f B H s)(ax:X.N.Nodup)(O:X.N[i]?=some x)(C:ho X.env.scope x)(r:d_ v u)(h:∀T,c_ X f (B.set i (some v)) H T->(∃a,Heap.SameBut a s.heap T.heap/\(a=X.env.locals\/X.env.cells.lookup x=some a))->Q () T)(aH:ip X x:=by walk_at"f"):wpAny M A (storeName X.env x u) Q E s:=by
 obtain⟨m,U,ay⟩:=id I.loc;have aI:(X.env.scope.kind==.class||(X.env.scope.kind==.module&&X.env.locals != X.env.globals))=false:=by rw[I.ok.kind];rfl
 have az:i<B.length:=by rw[I.len];exact(TM.mp O).1
 have J:=I.nI
 have tracked:∀{a:TE}{h':XE},(∃o,s.heap.get? a=some o/\H a=none)->Heap.SameBut a s.heap h'->fm X.prog X.w H h':=λ{a h'} aJ g b aK e=>by
  obtain⟨_,_,aB⟩:=aJ;refine(I.ep b aK e).gj (λc P t q=>(g.2 c ?_).trans q) (λ_ q=>q) (λ_ _ q=>q) λ_ _ _ q=>q;rintro rfl;rcases t with rfl|t
  ·rw[aB]at e;cases e
  rw[aB]at t;cases t
 rcases C with G|G
 ·refine wpAny_storeName_local G U (λh' aM g=>?_) aI;obtain⟨aO,_,_,aP,_⟩:=id U;refine h _ ⟨I.ok,I.os,I.bare,⟨λb o e n K C=>?_,λb o e n K C=>?_,I.base.free,λb o e C=>?_,I.base.ht,I.base.g7,I.base.gi⟩,⟨_,aM,λj y W l F Y=>?_⟩,λy c e=>?_,I.free,I.fD,λp Z=>?_,tracked ⟨aO,aP,I.free⟩ g,by simpa using I.len⟩ ⟨_,g,.inl rfl⟩
  ·exact(g.2 b (S5 (Tc (Heap.lt_size e) I.ok.above))).trans (I.base.keep b o e n K C)
  ·obtain⟨h1,l⟩:=I.base.slot b o e n K C;exact⟨h1,(g.2 b (S5 (Tc (Heap.lt_size e) I.ok.above))).trans l⟩
  ·obtain⟨aa,l⟩:=I.base.there b o e C;exact⟨aa,(g.2 b (S5 (Tc (Heap.lt_size e) I.ok.above))).trans l⟩
  ·by_cases L:j=i
   ·subst L;rw[O]at l;cases l;rw[TH az]at F;cases F;exact⟨u,r,.inl ⟨G,by simp⟩⟩
   rw[Tz (Ta L)]at F;obtain⟨aj,ao,q⟩:=ay j y W l F Y;refine⟨aj,ao,?_⟩;rcases q with⟨k,e⟩|⟨k,c,e,z⟩
   ·refine .inl ⟨k,?_⟩;have:y≠x:=λe=>L (Fp ax l (e▸O));simp[this,e]
   exact .inr ⟨k,c,e,z.sameBut g (J y c e)⟩
  ·obtain⟨P,z⟩:=I.cell y c e;exact⟨P,z.sameBut g (J y c e)⟩
  obtain⟨e,n,R,aq,d⟩:=I.pin p Z;exact⟨(g.2 p.1 R).trans e,n,R,aq,d⟩
 have aw:X.fn x=true:=by
  rcases aH with z|z
  ·exact z
  rw[z]at G;cases G
 obtain⟨c,t⟩:=I.ok.has x (.inl G);obtain⟨P,z⟩:=I.cell x c t;refine wpAny_storeName_cell I.ok.kind G t z (λh' aC g=>?_);obtain⟨aD,aE,aQ⟩:=id z;refine h {s with heap:=h' } ⟨I.ok,I.os,I.bare,⟨λb o e n K C=>?_,λb o e n K C=>?_,I.base.free,λb o e C=>?_,I.base.ht,I.base.g7,I.base.gi⟩,⟨m,U.sameBut g (Ta (J x c t)),λj y W l F Y=>?_⟩,λy S e=>?_,I.free,I.fD,λp Z=>?_,tracked ⟨aD,aE,I.fD x c t⟩ g,by simpa using I.len⟩ ⟨c,g,.inr t⟩
 ·exact(g.2 b (S5 (Tc (Heap.lt_size e) (I.ok.mU x c aw t)))).trans (I.base.keep b o e n K C)
 ·obtain⟨h1,l⟩:=I.base.slot b o e n K C;exact⟨h1,(g.2 b (S5 (Tc (Heap.lt_size e) (I.ok.mU x c aw t)))).trans l⟩
 ·obtain⟨aa,l⟩:=I.base.there b o e C;exact⟨aa,(g.2 b (S5 (Tc (Heap.lt_size e) (I.ok.mU x c aw t)))).trans l⟩
 ·by_cases L:j=i
  ·subst L;rw[O]at l;cases l;rw[TH az]at F;cases F;exact⟨u,r,.inr ⟨.inl G,c,t,aC⟩⟩
  rw[Tz (Ta L)]at F;obtain⟨aj,ao,q⟩:=ay j y W l F Y;refine⟨aj,ao,?_⟩;rcases q with q|⟨k,S,e,aS⟩
  ·exact .inl q
  refine .inr ⟨k,S,e,aS.sameBut g ?_⟩;rintro rfl;exact L (Fp ax l (I.ok.inj _ _ _ e t▸O))
 ·by_cases aG:S=c
  ·subst aG;exact⟨_,aC⟩
  obtain⟨aU,aV⟩:=I.cell y S e;exact⟨aU,aV.sameBut g aG⟩
 obtain⟨e,n,R,aq,d⟩:=I.pin p Z;refine⟨(g.2 p.1 ?_).trans e,n,R,aq,d⟩;intro q;rw[q,aE]at e;have a3:aD=p.2:=SN e;exact d P (by rw[<-a3];exact aQ)
theorem sq{M:Model}{A:Xz}{E:SC->Tl->Prop}{i:Nat}{x:Str}{v:V}{u:SC}{Q:Unit->Tl->Prop}(I:c_ X f B H s)(b:X.N.Nodup)(c:X.N[i]?=some x)(d:ho X.env.scope x)(r:d_ v u)(h:∀a,c_ X f (B.set i (some v)) H a->Q () a)(e:ip X x:=by walk_at"f"):wpAny M A (storeName X.env x u) Q E s:=
 MV I b c d r (λa g _=>h a g) e
theorem c_.lC{s':Tl}{ch:ZU}(I:c_ X f B H s)(a:s'.os=s.os)(u:f7 (frs X.stack) ch H C s.heap s'.heap)(ep:fm X.prog X.w C s'.heap)(d:YN s'.gens)(g:∀b∈ch,(b∈X.ex\/X.s₀.heap.objs.size<=b)/\b≠X.env.locals/\(∀x c,X.env.cells.lookup x=some c->c≠b)/\∀p∈X.pn++f,p.1≠b):c_ X f B C s':=by
 obtain⟨h',g',d',t',h⟩:=s';have e:h=s.os:=a;subst e;exact I.call (g':=g') (t':=t') (d':=d') u ep d g
end
abbrev gW:=SC->Option TE->ak->Prop
abbrev St:=List (Option V)
abbrev cr:=V->ak->Prop
abbrev bH:=St->ak->cr->Prop
abbrev ek:=St->ak->(Bool->ak->Prop)->Prop
abbrev e3:=St->ak->(ZL->ak->Prop)->Prop
structure nF where
 nx:St->ak->Prop
 rt:cr
 bk:St->ak->Prop:=λ_ _=>False
 ct:St->ak->Prop:=λ_ _=>False
abbrev gX:=nF->St->ak->Prop
def hf(X:aT)(b:ZX)(c:St)(Q:cr)(u:SC)(d:Tl):Prop:=∃v a,c_ X b c a d/\d_ v u/\Q v a
def wm(X:aT)(c:ZX)(d:St)(Q:Bool->ak->Prop)(b:Bool)(e:Tl):Prop:=∃a,c_ X c d a e/\Q b a
def M0(X:aT)(c:ZX)(d:St)(Q:ZL->ak->Prop)(e:ZT)(f:Tl):Prop:=∃a b,c_ X c d b f/\bO a e/\Q a b
def sr(X:aT)(c:ZX)(D:nF)(f:Flow)(d:Tl):Prop:=
 match f with
 |.next=>∃b a,c_ X c b a d/\D.nx b a
 |.brk=>∃b a,c_ X c b a d/\D.bk b a
 |.cont=>∃b a,c_ X c b a d/\D.ct b a
 |.ret u=>∃v b a,c_ X c b a d/\d_ v u/\D.rt v a
def bQ(X:aT)(e:Wp)(t:bH):Prop:=
 ∀(b:ZX)(s:Tl)(a:St)(H:ak)(Q:cr),c_ X b a H s->t a H Q->wpAny (UV X.prog X.w) X.A (Yk e X.env) (hf X b a Q) X.xe s
def jX(X:aT)(e:Wp)(t:ek):Prop:=
 ∀(b:ZX)(s:Tl)(a:St)(H:ak)(Q:Bool->ak->Prop),c_ X b a H s->t a H Q->wpAny (UV X.prog X.w) X.A (Ze e X.env (Yk e X.env)) (wm X b a Q) X.xe s
def oD(X:aT)(e:Wp)(t:ek):Prop:=
 ∀(whole:Sem SC)(b:ZX)(s:Tl)(a:St)(H:ak)(Q:Bool->ak->Prop),c_ X b a H s->t a H Q->wpAny (UV X.prog X.w) X.A (Ze e X.env whole) (wm X b a Q) X.xe s
theorem oD.pt{X:aT}{e:Wp}{t:ek}(h:oD X e t):jX X e t:=h _
def hg(X:aT)(c:ZV)(t:e3):Prop:=
 ∀(pos:Pos)(b:ZX)(s:Tl)(a:St)(H:ak)(Q:ZL->ak->Prop),c_ X b a H s->t a H Q->wpAny (UV X.prog X.w) X.A (spliced (X9 pos (UF c X.env))) (M0 X b a Q) X.xe s
def jB(X:aT)(st:XD)(t:gX):Prop:=
 ∀(a:ZX)(s:Tl)(b:St)(H:ak)(D:nF),c_ X a b H s->t D b H->wpAny (UV X.prog X.w) X.A (exec st X.env) (sr X a D) X.xe s
def jd(X:aT)(st:ZW)(t:gX):Prop:=
 ∀(a:ZX)(s:Tl)(b:St)(H:ak)(D:nF),c_ X a b H s->t D b H->wpAny (UV X.prog X.w) X.A (execs st X.env) (sr X a D) X.xe s
theorem cq{b:Type}{t:Sem b}{Q c:b->Tl->Prop}{M:Model}{A:Xz}{E:SC->Tl->Prop}{s:Tl}(h:wpAny M A t Q E s)(d:∀a s,Q a s->c a s):wpAny M A t c E s:=XH h d λ_ _ x=>x
section
variable{X:aT}
def AG(i:Nat):bH:=λa H Q=>∃v,a[i]?=some (some v)/\Q v H
def qU(v:V):bH:=λ_ H Q=>Q v H
theorem gZ{i:Nat}{x:Str}{f:Pos}(k:X.N[i]?=some x)(n:gh X.env.scope x)(b:ec x:=by decide)(o:gO x:=by decide):bQ X (.Name x f) (AG i):=by
 intro p s q H Q I h;obtain⟨v,e,h⟩:=h;obtain⟨m,t,w⟩:=I.loc;obtain⟨u,r,l⟩:=w i x v k e n;have d:hf X p q Q u s:=⟨v,H,I,r,h⟩;rcases l with⟨a,y⟩|⟨a,c,g,j⟩
 ·exact wpAny_Name (Y0 I.ok.kind a t y d) b
 rcases a with a|a
 ·exact wpAny_Name (Y' I.ok.kind a g j d) b
 exact wpAny_Name (wpAny_loadName_free I.ok.kind a g j d o) b
theorem fw{i j posQz}:bQ X (.Constant (.int i) j posQz) (qU (.int i)):=λ_ _ _ H _ I h=>wpAny_Constant_int ⟨.int i,H,I.tok _,⟨_,rfl⟩,h⟩
theorem M1{b j posQz}:bQ X (.Constant (.bool b) j posQz) (qU (.bl b)):=λ_ _ _ H _ I h=>Constant_bool ⟨.bl b,H,I,rfl,h⟩
theorem M2{x j posQz}:bQ X (.Constant (.str x) j posQz) (qU (.str x)):=λ_ _ _ H _ I h=>Calls.Constant_str ⟨.str x,H,I.tok _,⟨_,rfl⟩,h⟩
def eG(X:aT)(x:Str):Prop:=X.env.kindOf x=some .globalImplicit
theorem Ft{E:SC->Tl->Prop}{a:ZX}{s:Tl}{b:St}{H:ak}{x:Str}{u:SC}{f:Pos}{Q:SC->Tl->Prop}(I:c_ X a b H s)(c:eG X x)(d:X.mg x=some u)(h:Q u s)(e:ec x:=by decide):wpAny (UV X.prog X.w) X.A (Yk (.Name x f) X.env) Q E s:=
 Calls.Name_function_global I.ok.kind c (Calls.loadGlobal_global (by rw[I.ok.glob];exact I.mod.glob.keeps I.bk) d h) e
theorem oE{E:SC->Tl->Prop}{a:ZX}{s:Tl}{b:St}{H:ak}{x:Str}{u:SC}{f:Pos}{Q:SC->Tl->Prop}(I:c_ X a b H s)(c:eG X x)(d:X.mg x=none)(e:XM x=some u)(h:Q u s)(g:x≠"__name__":=by decide)(i:ec x:=by decide):wpAny (UV X.prog X.w) X.A (Yk (.Name x f) X.env) Q E s:=by
 obtain⟨l,j,k⟩:=I.mod.blt;exact Calls.Name_function_global I.ok.kind c (Calls.loadGlobal_builtin (by rw[I.ok.glob];exact I.mod.glob.keeps I.bk) d (by rw[I.ok.blt];exact j.keeps I.bk) ((k x g).trans e) h) i
theorem M3{x:Str}{v:V}{u:SC}{f:Pos}(a:eG X x)(b:X.mg x=some u)(r:d_ v u)(c:ec x:=by decide):bQ X (.Name x f) (qU v):=
 λ_ _ _ H _ I h=>Ft I a b ⟨v,H,I,r,h⟩ c
theorem k5{x:Str}{v:V}{u:SC}{f:Pos}(a:eG X x)(b:X.mg x=none)(c:XM x=some u)(r:d_ v u)(d:x≠"__name__":=by decide)(e:ec x:=by decide):bQ X (.Name x f) (qU v):=
 λ_ _ _ H _ I h=>oE I a b c ⟨v,H,I,r,h⟩ d e
variable{a b:Wp}{n o:bH}{f:Pos}
def tX(t:bH):ek:=λd H Q=>t d H λx e=>∃c,x=.bl c/\Q c e
theorem M4{e:Wp}{t:bH}(h:bQ X e t)(a:∀whole,Ze e X.env whole=(do let v <-whole;YO e.pos;Yu [v] (ZA v)):=by intro _;rfl):jX X e (tX t):=by
 intro b s c H Q I f;refine isTrue_plain (cq (h b s c H _ I f) λv l ⟨x,g,i,j,k⟩=>?_) (a _);obtain⟨d,rfl,q⟩:=k;cases j;exact XF ⟨g,i,q⟩
variable{k p:ek}{g:ZV}
def Fu(t u:ek):ek:=λd H Q=>t d H λc e=>if c=true then u d e Q else Q false e
def Fv(t u:ek):ek:=λd H Q=>t d H λc e=>if c=true then Q true e else u d e Q
def Fw(t:ek):ek:=λd H Q=>t d H λc e=>Q (!c) e
theorem M5(b:jX X a k):oD X (.BoolOp .And [a] f) k:=by
 intro i d s g H Q I h;refine isTrue_and (cq (b d s g H Q I h) λc j e=>?_);cases c with
 |true=>exact isTrue_and_nil e
 |false=>exact e
theorem M6(b:jX X a k):oD X (.BoolOp .Or [a] f) k:=by
 intro i d s g H Q I h;refine isTrue_or (cq (b d s g H Q I h) λc j e=>?_);cases c with
 |false=>exact isTrue_or_nil e
 |true=>exact e
theorem M7(m:jX X a k)(n:oD X (.BoolOp .And (b::g) f) p):oD X (.BoolOp .And (a::b::g) f) (Fu k p):=by
 intro o d s e H Q I h;refine isTrue_and (cq (m d s e H _ I h) λc q ⟨i,j,l⟩=>?_);cases c with
 |true=>exact n o d q e i Q j l
 |false=>exact⟨i,j,l⟩
theorem M8(m:jX X a k)(n:oD X (.BoolOp .Or (b::g) f) p):oD X (.BoolOp .Or (a::b::g) f) (Fv k p):=by
 intro o d s e H Q I h;refine isTrue_or (cq (m d s e H _ I h) λc q ⟨i,j,l⟩=>?_);cases c with
 |true=>exact⟨i,j,l⟩
 |false=>exact n o d q e i Q j l
theorem M9(b:jX X a k):jX X (.UnaryOp .Not a f) (Fw k):=by
 intro d s e H Q I h;exact isTrue_not (b d s e H (λc g=>Q (!c) g) I h)
def M'(n o:bH):bH:=λd H Q=>n d H λx e=>∃c,x=.bl c/\if c=true then o d e Q else Q (.bl false) e
def Na(n:bH):bH:=λd H Q=>n d H λx e=>∃c,x=.bl c/\Q (.bl (!c)) e
theorem Nb{b}{t:bH}(h:bQ X a t):bQ X (.BoolOp b [a] f) t:=λc s d H Q I e=>BoolOp_one (h c s d H Q I e)
theorem Nc(l:bQ X a n)(m:bQ X (.BoolOp .And (b::g) f) o):bQ X (.BoolOp .And (a::b::g) f) (M' n o):=by
 intro e s i H Q I h;refine BoolOp_and (cq (l e s i H _ I h) λv p ⟨x,j,k,q,d⟩=>?_);obtain⟨c,rfl,d⟩:=d;cases q;refine XF ?_;cases c with
 |true=>exact m e p i j Q k d
 |false=>exact⟨.bl false,j,k,rfl,d⟩
theorem Nd(d:bQ X a n):bQ X (.UnaryOp .Not a f) (Na n):=by
 intro e s g H Q I h;refine UnaryOp_ (cq (d e s g H _ I h) λv l ⟨x,i,j,k,b⟩=>?_);obtain⟨c,rfl,b⟩:=b;cases k;exact not_of (XF ⟨.bl (!c),i,j,rfl,b⟩)
def Nf(t:ek)(n o:bH):bH:=λd H Q=>t d H λc e=>if c=true then n d e Q else o d e Q
theorem Ng{c:Wp}(p:jX X c k)(q:bQ X a n)(r:bQ X b o):bQ X (.IfExp c a b f) (Nf k n o):=by
 intro e s g H Q I h;refine wpAny_IfExp (cq (p e s g H _ I h) λd i ⟨j,l,m⟩=>?_);cases d with
 |true=>exact q e i g j Q l m
 |false=>exact r e i g j Q l m
end
def cE(K:Su)(H:ak)(a:TE)(c:ZL):Prop:=
 Rd H a (.lst c) \/
  ∃(o:Obj)(b:Array SC)(n:Nat),K.lookup a=some o/\o.cls=.type "list"/\o.dict=none/\o.data=.seq b n/\b.size<=TI/\bO c b.toList
def fx(K:Su)(H:ak)(a:TE)(c:ZL):Prop:=
 Rd H a (.tup c) \/
  ∃(o:Obj)(b:Array SC)(n:Nat),K.lookup a=some o/\o.cls=.type "tuple"/\o.data=.seq b n/\b.size<=TI/\bO c b.toList
noncomputable def Nh:SC->Option V
 |.none=>some .non
 |.bool b=>some (.bl b)
 |.int i _=>some (.int i)
 |.str x _=>some (.str x)
 |.bytes b _=>some (.byt b)
 |.float b _=>some (.flt b)
 |.ref a=>some (.ref a)
 |.type n=>some (.ty n)
 |_=>none
theorem d_.abs{x:V}{u:SC}(r:d_ x u):Nh u=some x:=by
 cases x with
 |non=>cases r;rfl
 |bl _=>cases r;rfl
 |int _=>obtain⟨t,rfl⟩:=r;rfl
 |str _=>obtain⟨t,rfl⟩:=r;rfl
 |byt _=>obtain⟨t,rfl⟩:=r;rfl
 |flt _=>obtain⟨t,rfl⟩:=r;rfl
 |ref _=>cases r;rfl
 |ty _=>cases r;rfl
theorem d_.inj{x y:V}{u:SC}(r:d_ x u)(q:d_ y u):x=y:=SN (r.abs.symm.trans q.abs)
theorem bO.inj:∀{a b:ZL}{c:ZT},bO a c->bO b c->a=b
 |_,_,_,.nil,.nil=>rfl
 |_,_,_,.cons r t,.cons d e=>by rw[r.inj d,bO.inj t e]
section
variable{X:aT}{f:ZX}{c:St}{H:ak}{s:Tl}{a:TE}{b g:ZL}
theorem cE.of{K:Su}(h:H a=some (.lst b)):cE K H a b:=.inl (.inl h)
theorem fx.of{K:Su}(h:H a=some (.tup b)):fx K H a b:=.inl (.inl h)
theorem c_.list(I:c_ X f c H s)(h:cE X.K H a b):∃d:ZT,bO b d/\PlainL s.heap a d.toArray/\b.length<=TI:=by
 rcases h with h|⟨o,d,n,g,i,j,k,l,r⟩
 ·obtain⟨z,d,n,r,e⟩:=h.ok I.ep;exact⟨d,r,⟨_,n,e,rfl,rfl,rfl⟩,z⟩
 refine⟨d.toList,r,⟨o,n,I.gY a o g,i,j,by simpa using k⟩,?_⟩;have e:=r.length;simp only[Va]at e;lia
theorem c_.tuple(I:c_ X f c H s)(h:fx X.K H a b):∃d:ZT,bO b d/\IsTup s.heap a d.toArray/\b.length<=TI:=by
 rcases h with h|⟨o,d,n,g,i,j,k,r⟩
 ·obtain⟨z,d,r,p⟩:=h.ok I.ep;exact⟨d,r,p,z⟩
 refine⟨d.toList,r,⟨o,I.gY a o g,i,n,by simpa using j⟩,?_⟩;have e:=r.length;simp only[Va]at e;lia
theorem c_.hu(I:c_ X f c H s)(h:cE X.K H a b)(h':cE X.K H a g):b=g:=by
 obtain⟨j,r,⟨o,n,e,_,_,d⟩,_⟩:=I.list h;obtain⟨i,m,⟨q,t,k,_,_,l⟩,_⟩:=I.list h';rw[e]at k;cases k;rw[d]at l;injection l with p _
 have:j=i:=by simpa using TW Array.toList p
 subst this;exact r.inj m
theorem c_.i'(I:c_ X f c H s)(h:fx X.K H a b)(h':fx X.K H a g):b=g:=by
 obtain⟨j,r,⟨o,e,_,n,d⟩,_⟩:=I.tuple h;obtain⟨i,m,⟨q,k,_,t,l⟩,_⟩:=I.tuple h';rw[e]at k;cases k;rw[d]at l;injection l with p _
 have:j=i:=by simpa using TW Array.toList p
 subst this;exact r.inj m
end
noncomputable abbrev aT.gf(X:aT)(E:SC->Tl->Prop):aT:={X with xe:=E}
abbrev aT.jD(X:aT):aT:=X.gf λ_ _=>False
theorem aT.Ok.gf{X:aT}(ok:X.Ok)(E:SC->Tl->Prop):(X.gf E).Ok:=
 ⟨ok.mod,ok.kind,ok.glob,ok.blt,ok.above,ok.inj,ok.has,ok.mU,ok.hd,ok.frames,ok.m6,ok.m',ok.bs,ok.kr,ok.jN,ok.j_,ok.gc,ok.mc,ok.tab⟩
theorem aT.Ok.ft{X:aT}{E:SC->Tl->Prop}(ok:(X.gf E).Ok):X.Ok:=
 ⟨ok.mod,ok.kind,ok.glob,ok.blt,ok.above,ok.inj,ok.has,ok.mU,ok.hd,ok.frames,ok.m6,ok.m',ok.bs,ok.kr,ok.jN,ok.j_,ok.gc,ok.mc,ok.tab⟩
section
variable{X:aT}{a:ZX}{b:St}{H:ak}{s:Tl}{E:SC->Tl->Prop}
theorem c_.gf(I:c_ X a b H s)(E:SC->Tl->Prop):c_ (X.gf E) a b H s:=⟨I.ok.gf E,I.os,I.bare,I.base,I.loc,I.cell,I.free,I.fD,I.pin,I.ep,I.len⟩
theorem c_.ft(I:c_ (X.gf E) a b H s):c_ X a b H s:=⟨I.ok.ft,I.os,I.bare,I.base,I.loc,I.cell,I.free,I.fD,I.pin,I.ep,I.len⟩
theorem sr.ft{D:nF}{f:Flow}{d:Tl}(h:sr (X.gf E) a D f d):sr X a D f d:=by
 cases f with
 |next=>obtain⟨b,c,I,q⟩:=h;exact⟨b,c,I.ft,q⟩
 |brk=>obtain⟨b,c,I,q⟩:=h;exact⟨b,c,I.ft,q⟩
 |cont=>obtain⟨b,c,I,q⟩:=h;exact⟨b,c,I.ft,q⟩
 |ret u=>obtain⟨v,b,c,I,r,q⟩:=h;exact⟨v,b,c,I.ft,r,q⟩
theorem jd.jD{st:ZW}{t:gX}(h:jd X.jD st t):jd X st t:=λa s b H D I c=>
 XH (h a s b H D (I.gf _) c) (λ_ _ q=>q.ft) λ_ _ z=>Tt z
end
section
variable{X:aT}{st:XD}{i:ZW}{t u:gX}{e:Wp}{j:bH}{g:Pos}
def Ni:gX:=λD a H=>D.nx a H
def Nj(t u:gX):gX:=λD a H=>t {D with nx:=u D} a H
theorem wq:jd X [] Ni:=λ_ _ a H _ I h=>Yn ⟨a,H,I,h⟩
theorem mr(b:jB X st t)(c:jd X i u):jd X (st::i) (Nj t u):=by
 intro a s d H D I h;refine wpAny_execs_cons (cq (b a s d H {D with nx:=u D} I h) λf e q=>?_);cases f with
 |next=>
  obtain⟨g,j,k,q⟩:=q;exact c a e g j D k q
 |ret v=>exact q
 |brk=>exact q
 |cont=>exact q
theorem pM(a:jB X st t):jd X [st] t:=by
 intro b s c H D I h;refine wpAny_execs_cons (cq (a b s c H D I h) λf d q=>?_);cases f with
 |next=>exact Yn q
 |ret v=>exact q
 |brk=>exact q
 |cont=>exact q
theorem c_.quiet{a:ZX}{b:St}{H:ak}{s:Tl}(I:c_ X a b H s):interactive X.env=false:=by simp[interactive,I.ok.kind]
def Nk(j:bH):gX:=λD a H=>j a H λ_ b=>D.nx a b
theorem pN(b:bQ X e j)(c:XA e none g.line X.env=pure false:=by rfl):jB X (.Expr e g) (Nk j):=by
 intro d s a H D I h;exact wpAny_Expr_any (cq (b d s a H _ I h) λv l ⟨x,f,i,m,k⟩=>⟨a,f,i,k⟩) I.quiet c
def Nl(j:bH):gX:=λD a H=>j a H D.rt
theorem ms(b:bQ X e j):jB X (.Return (some e) g) (Nl j):=by
 intro c s a H D I h;exact wpAny_Return_some (cq (b c s a H _ I h) λv l ⟨x,d,f,i,k⟩=>⟨x,a,d,f,i,k⟩)
def Nm(c:ek)(t u:gX):gX:=λD a H=>c a H λb d=>if b=true then t D a d else u D a d
theorem ws{c:Wp}{a b:ZW}{i:ek}(n:jX X c i)(o:jd X a t)(p:jd X b u):jB X (.If c a b g) (Nm i t u):=by
 intro e s f H D I h;refine wpAny_If (cq (n e s f H _ I h) λd j ⟨k,l,m⟩=>?_);cases d with
 |true=>exact o e j f k D l m
 |false=>exact p e j f k D l m
def Nn:gX:=λ_ _ _=>False
theorem No:jB X st Nn:=λ_ _ _ _ _ _ h=>h.elim
end
abbrev fO:=V->St->ak->(St->ak->Prop)->Prop
abbrev nG:=ZL->St->ak->(St->ak->Prop)->Prop
def jf(X:aT)(a:Wp)(t:fO):Prop:=
 ∀(b:ZX)(s:Tl)(c:St)(H:ak)(v:V)(u:SC)(Q:St->ak->Prop),c_ X b c H s->d_ v u->t v c H Q->
  wpAny (UV X.prog X.w) X.A (Y3 a X.env u) (λ_ f=>∃d e,c_ X b d e f/\Q d e) X.xe s
def ss(X:aT)(g:ZV)(t:nG):Prop:=
 ∀(a:ZX)(s:Tl)(b:St)(H:ak)(c:ZL)(d:ZT)(Q:St->ak->Prop),c_ X a b H s->bO c d->t c b H Q->
  wpAny (UV X.prog X.w) X.A (YC ((XB g X.env).map (·.2)) d) (λ_ h=>∃e f,c_ X a e f h/\Q e f) X.xe s
abbrev AH:=V->V->V->ak->(ak->Prop)->Prop
def Fx(X:aT)(t:AH):Prop:=
 ∀(a:ZX)(s:Tl)(b:St)(H:ak)(o i v:V)(c d u:SC)(Q:ak->Prop),c_ X a b H s->d_ o c->d_ i d->d_ v u->t o i v H Q->
  wpAny (UV X.prog X.w) X.A (setItem c d u) (λ_ f=>∃e,c_ X a b e f/\Q e) X.xe s
abbrev wt:=V->V->ak->cr->Prop
def Fy(X:aT)(c:Operator)(t:wt):Prop:=
 ∀(a:ZX)(s:Tl)(b:St)(H:ak)(x y:V)(v u:SC)(Q:cr),c_ X a b H s->d_ x v->d_ y u->t x y H Q->
  wpAny (UV X.prog X.w) X.A (inplaceOp c v u) (hf X a b Q) X.xe s
section
variable{X:aT}{d:Pos}
def tY(i:Nat):fO:=λv a H Q=>Q (a.set i (some v)) H
theorem tZ{i:Nat}{x:Str}(a:X.N.Nodup)(b:X.N[i]?=some x)(c:ho X.env.scope x)(e:ip X x:=by walk_at"f"):jf X (.Name x d) (tY i):=by
 intro g s j H v u Q I r h;exact wpAny_assign_Name (sq I a b c r (λk f=>⟨_,H,f,h⟩) e)
def Np:nG:=λa b H Q=>a=[]/\Q b H
def Nq(t:fO)(u:nG):nG:=λa b H Q=>∃v r,a=v::r/\t v b H λc e=>u r c e Q
theorem Fz:ss X [] Np:=by
 intro b s a H c d Q I r h;obtain⟨e,h⟩:=h;subst e;cases r;exact assignInOrder_nil ⟨a,H,I,h⟩
theorem wu{e:Wp}{a:ZV}{t:fO}{u:nG}(c:jf X e t)(d:ss X a u)(f:(XB (e::a) X.env).map (·.2)=Y3 e X.env::(XB a X.env).map (·.2):=by rfl):ss X (e::a) (Nq t u):=by
 intro b s g H q w Q I r h;obtain⟨v,i,j,h⟩:=h;subst j;cases r with
 |cons r k=>
  rw[f];refine Yr (cq (c b s g H _ _ _ I r h) λ_ l ⟨m,n,o,p⟩=>?_);exact d b l m n _ _ Q o k p
def Nr(K:Su)(n:Nat)(t:nG):fO:=λv c H Q=>∃a b,v=.ref a/\fx K H a b/\b.length=n/\t b c H Q
theorem FA{c:ZV}{k:Nat}{t:nG}{n:Nat}(l:X.calm=true)(h:ss X c t)(m:(XB c X.env).length=n:=by rfl)(p:(XB c X.env).findIdx? (·.1)=none:=by rfl):jf X (.Tuple c k d) (Nr X.K n t):=by
 intro g s i H v u Q I r f;obtain⟨a,q,w,x,y,f⟩:=f;subst w;cases r;obtain⟨z,j,A,F⟩:=I.tuple x;refine assign_Tuple_tuple (I.ok.hd l) A (by simp[m,<-y,j.length]) p λB C=>?_;have E:c_ X g i H {s with heap:=B }:=I.kept (t':=s.toks) λb o e=>C b o (S5 (Heap.lt_size e)) e;exact h g _ i H q _ Q E (by simpa using j) f
def Nt(b c:bH)(t:AH):fO:=λv a H Q=>b a H λo e=>c a e λi f=>t o i v f λg=>Q a g
theorem AI{o i:Wp}{f g:bH}{t:AH}(j:bQ X o f)(k:bQ X i g)(l:Fx X t)(m:∀v,Y3 (.Subscript o i d) X.env v=(do
   let a <-Yu [v] (Yk o X.env)
   let b <-Yu [v,a] (Yk i X.env)
   YO d
   Yu [v,a,b] (setItem a b v)
   release [v,a,b] []):=by intro _;rfl):jf X (.Subscript o i d) (Nt f g t):=by
 intro e s c H v u Q I r h;rw[m];refine wp (W1 (cq (j e s c H _ I h) λa n ⟨x,p,q,w,z⟩=>?_));refine wp (W1 (cq (k e n c p _ q z) λb A ⟨y,B,C,E,F⟩=>?_));refine wp (XY (wp (W1 (cq (l e A c B x y v a b u _ C w E r F) λ_ L ⟨G,J,K⟩=>?_))));exact wpAny_release ⟨c,G,J,K⟩
def wv(b:bH)(g:fO):gX:=λD a H=>b a H λx c=>g x a c D.nx
theorem su{a e:Wp}{b:bH}{g:fO}(i:bQ X e b)(j:jf X a g)(k:XZ [a] e d.line X.env=pure false:=by rfl)(l:X0 [a] e X.env=pure none:=by rfl)(m:(XB [a] X.env).map (·.2)=[Y3 a X.env]:=by rfl):jB X (.Assign [a] e d) (wv b g):=by
 intro c s f H D I h;refine wpAny_Assign_stores (cq (i c s f H _ I h) λv n ⟨x,o,p,r,t⟩=>?_) k l;rw[m];exact cq (j c n f o x v _ p r t) λ_ u q=>q
theorem qW{i:Nat}{x:Str}{e:Wp}{a:bH}{b:Pos}(c:X.N.Nodup)(f:X.N[i]?=some x)(g:ho X.env.scope x)(j:bQ X e a)(k:XA e (some (.Name x b)) d.line X.env=pure false:=by rfl)(l:ip X x:=by walk_at"f"):
  jB X (.Assign [.Name x b] e d) (wv a (tY i)):=by
 intro m s n H D I h;refine wpAny_Assign_Name (cq (j m s n H _ I h) λv u ⟨y,o,p,q,r⟩=>?_) k;exact sq p c f g q (λw t=>⟨_,o,t,r⟩) l
def Nu(i j:Nat)(b:e3):gX:=λD a H=>b a H λc e=>∃v w,c=[v,w]/\D.nx ((a.set i (some v)).set j (some w)) e
theorem FB{i j:Nat}{x y:Str}{a b:Wp}{z:e3}{k l m:Pos}{n r t}(L:X.calm=true)(B:X.N.Nodup)(M:X.N[i]?=some x)(O:X.N[j]?=some y)(P:i≠j)(C:X.env.scope.names.lookup x=some .local)(E:X.env.scope.names.lookup y=some .local)(Q:hg X [a,b] z)(R:X0 [.Tuple [.Name x k,.Name y l] n m] (.Tuple [a,b] r t) X.env=pure (some [x,y]))(S:XZ [.Tuple [.Name x k,.Name y l] n m] (.Tuple [a,b] r t) d.line X.env=pure false:=by rfl):
  jB X (.Assign [.Tuple [.Name x k,.Name y l] n m] (.Tuple [a,b] r t) d) (Nu i j z):=by
 intro F s G H D I h;rw[exec_Assign_arm];refine wp (XY ?_);rw[S];refine wp (SZ ?_);rw[Tk (by decide)];refine wp (Tuple_ (cq (Q _ F s G H _ I h) λT c ⟨ax,J,U,W,u⟩=>?_));obtain⟨v,w,Y,u⟩:=u;subst Y
 obtain⟨f,g,rfl,Z,h1⟩:∃f g,T=[f,g]/\d_ v f/\d_ w g:=by
  cases W with
  |cons p q=>
   cases q with
   |cons aa ae=>
    cases ae;exact⟨_,_,rfl,p,aa⟩
 refine Xv ?_ e1;have af:c_ X F G J {c with heap:=c.heap.push {cls:=.type "tuple",data:=.seq [f,g].toArray} }:=U.kept (t':=c.toks) λb o e=>Heap.get?_push_of_some _ e;rw[R];refine wp (SZ ?_);show wpAny (UV X.prog X.w) X.A (do rule "assign.swapped-stores";let items <-Zw (.ref c.heap.objs.size) 2 none;YC [λv=>ZD X.env y v,λv=>ZD X.env x v] items.reverse;pure Flow.next) _ _ _;refine wp (Yb (wp (unpackItems_tuple (items :=#[f,g]) (I.ok.hd L) (IsTup.new c.heap _) λh' ai=>?_)));have ar:=af.kept (h':=h') (t':=c.toks) λb o e=>ai b o (S5 (Heap.lt_size e)) e;show wpAny _ _ (YC [λv=>ZD X.env y v,λv=>ZD X.env x v] [g,f] >>= λ_=>pure Flow.next) _ _ _
 refine wp (Yr (wpAny_bindName (sq ar B O (.inl E) h1 (λay aw=>?_) (.inr E))));refine Yr (wpAny_bindName (sq aw B M (.inl C) Z (λaz K=>assignInOrder_nil (SZ ?_)) (.inr C)));rw[List.set_comm _ _ (Ta P)]at K;exact⟨_,J,K,u⟩
def Nv(i:Nat)(b:bH)(c:wt):gX:=λD a H=>∃x,a[i]?=some (some x)/\b a H λy e=>c x y e λz f=>D.nx (a.set i (some z)) f
theorem Nw{i:Nat}{x:Str}{e:Wp}{j:bH}{b:Operator}{n:wt}{t:Pos}(B:X.N.Nodup)(o:X.N[i]?=some x)(f:ho X.env.scope x)(C:bQ X e j)(E:Fy X b n)(F:ip X x:=by walk_at"f"):
  jB X (.AugAssign (.Name x t) b e d) (Nv i j n):=by
 intro g s p H D I h;obtain⟨v,G,h⟩:=h;obtain⟨m,J,K⟩:=I.loc;have L:gh X.env.scope x:=by rcases f with k|k;exact .inl k;exact .inr (.inl k)
 obtain⟨u,r,l⟩:=K i x v o G L;refine wpAny_AugAssign_Name ?_
 have q:wpAny (UV X.prog X.w) X.A (Yk e X.env) (λw M=>wpAny (UV X.prog X.w) X.A (inplaceOp b u w) (λr O=>wpAny (UV X.prog X.w) X.A (storeName X.env x r) (λ_=>sr X g D .next) X.xe O) X.xe M) X.xe s:=by
  refine cq (C g s p H _ I h) λw P ⟨y,Q,R,S,T⟩=>?_;refine cq (E g P p Q v y u w _ R r S T) λz av ⟨U,W,Y,Z,h1⟩=>?_;exact sq Y B o f Z (λaw aa=>⟨_,W,aa,h1⟩) F
 rcases l with⟨a,ae⟩|⟨a,c,af,au⟩
 ·exact Y0 I.ok.kind a J ae q
 rcases a with a|a
 ·exact Y' I.ok.kind a af au q
 rcases f with k|k
 ·have:X.env.scope.names.lookup x=some .free:=a;rw[k]at this;cases this
 have:X.env.scope.names.lookup x=some .free:=a;rw[k]at this;cases this
def Nz(f:Int->Int->Int):wt:=λx y H Q=>∃i j,x=.int i/\y=.int j/\Q (.int (f i j)) H
theorem NA:Fy X .Add (Nz λi j=>i+j):=by
 intro e s f H x y v u Q I a b h;obtain⟨i,j,c,d,q⟩:=h;subst c;subst d;obtain⟨t,rfl⟩:=a;obtain⟨g,rfl⟩:=b;exact iadd_int ⟨.int _,H,I.tok _,⟨_,rfl⟩,q⟩
end
section
variable{X:aT}{a:Pos}
def NB(c:ek)(i:gX):gX:=λD d H=>∃W:Nat->St->ak->Prop,(∃m,W m d H)/\∀m d H,W m d H->
 c d H λb e=>if b=true then ∃N:St->ak->Prop,(∀f g,N f g->∃h,h<m/\W h f g)/\i {D with nx:=N,ct:=N,bk:=D.nx} d e else D.nx d e
theorem NC{c:Wp}{d:ZW}{u:ek}{x:gX}(y:YQ (UV X.prog X.w) X.A X.env X.xe)(J:jX X c u)(K:jd X d x):jB X (.While c d [] a) (NB u x):=by
 intro m s L H D I h;obtain⟨W,⟨M,O⟩,e⟩:=h;refine wpAny_While (codeAny_whileLoop (λn P=>∃z B,c_ X m z B P/\W n z B) ?_ M ⟨L,H,I,O⟩);rintro n Q ⟨j,C,R,S⟩;refine XK y (cq (J m Q j C _ R (e n j C S)) λb T ⟨E,F,k⟩=>?_);cases b with
 |true=>
  obtain⟨N,G,k⟩:=k;rw[SL rfl];refine XK y (cq (K m T j E _ F k) λf U l=>?_);cases f with
  |next=>
   obtain⟨g,i,o,p⟩:=l;obtain⟨q,r,t⟩:=G g i p;exact⟨q,r,g,i,o,t⟩
  |cont=>
   obtain⟨g,i,o,p⟩:=l;obtain⟨q,r,t⟩:=G g i p;exact⟨q,r,g,i,o,t⟩
  |brk=>exact l
  |ret v=>exact l
 |false=>
  rw[Tk SU];exact Yn ⟨j,E,F,k⟩
end
structure hA where
 go:Nat->ak->Prop
 lq:Nat->ak->V->ak->Prop
 stop:Nat->ak->Prop
def g0(X:aT)(a:ZX)(H:ak)(b:TE):Prop:=
 H b=none/\b≠X.env.locals/\b∉X.fs/\(b∈X.ex\/X.s₀.heap.objs.size<=b)/\(∀x c,X.env.cells.lookup x=some c->c≠b)/\∀p∈X.pn++a,p.1≠b
theorem c_.hC{X:aT}{d:ZX}{g:St}{H f:ak}{s:Tl}{b:TE}(I:c_ X d g H s)(a:s.heap.objs.size<=b)(h:f b=none):g0 X d f b:=by
 refine⟨h,T9 (Tc I.lt a),I.lU a,.inr (Sx I.sz a),λx c e z=>?_,λp i z=>?_⟩
 ·obtain⟨v,q⟩:=I.cell x c e;exact absurd (Tc q.lt (by rw[z];exact a)) (TU _)
 exact absurd (Tc (Heap.lt_size (I.pin p i).1) (by rw[z];exact a)) (TU _)
structure pP(P:WP)(w:Xy)(K:Su)(bj:Wp)(J:hA)(cF:ZU)(it:TE)(hR:Nat->XE->Prop):Prop where
 mem:it∈cF
 obj:∀i h,hR i h->∀b∈cF,∃o,h.get? b=some o/\∀v,o.data≠.cell v
 keep:∀i h h',hR i h->(∀b∈cF,∀o,h.get? b=some o->h'.get? b=some o)->hR i h'
 item:∀(X:aT),X.prog=P->X.w=w->X.K=K->X.calm=true->∀(i:Nat)(aj:ZX)(s:Tl)(σ:St)(H:ak)(E:SC->Tl->Prop),c_ X aj σ H s->(∀b∈cF,g0 X aj H b)->hR i s.heap->J.go i H->
  wpAny (UV P w) X.A (YR (.ref it)) (λr aD=>∃u,r=some u /\
   wpAny (UV P w) X.A (Yo bj (.ref it) u) (λ_ bg=>∃x H',c_ X aj σ H' bg/\d_ x u/\J.lq i H x H'/\hR (i+1) bg.heap/\∀b∈cF,H' b=none) E aD) E s
 done:∀(X:aT),X.prog=P->X.w=w->X.K=K->X.calm=true->∀(i:Nat)(aj:ZX)(s:Tl)(σ:St)(H:ak)(E:SC->Tl->Prop),c_ X aj σ H s->(∀b∈cF,g0 X aj H b)->hR i s.heap->J.stop i H->
  wpAny (UV P w) X.A (YR (.ref it)) (λr aD=>r=none/\c_ X aj σ H aD) E s
 self:∀(A:Xz)(i:Nat)(s:Tl)(Q:SC->Tl->Prop)(E:SC->Tl->Prop),hR i s.heap->Q (.ref it) s->wpAny (UV P w) A (ZB (.ref it)) Q E s
abbrev gP:=St->ak->(hA->ak->Prop)->Prop
def FC(X:aT)(c:ZX)(h:St)(i:Wp)(R:hA->ak->Prop)(j:SC)(d:Tl):Prop:=
 ∃(e:TE)(f:ZU)(g:Nat->XE->Prop)(J:hA)(a:ak),j=.ref e/\c_ X c h a d/\pP X.prog X.w X.K i J f e g/\g 0 d.heap/\(∀b∈f,g0 X c a b)/\R J a
def iU(X:aT)(c d:Wp)(e:gP):Prop:=
 ∀(b:ZX)(s:Tl)(a:St)(H:ak)(R:hA->ak->Prop),c_ X b a H s->e a H R->
  wpAny (UV X.prog X.w) X.A (Yk d X.env) (λv f=>wpAny (UV X.prog X.w) X.A (ZB v) (FC X b a c R) X.xe f) X.xe s
theorem wx{M:Model}{A:Xz}{E:SC->Tl->Prop}{s:Tl}{b:Wp}{c:TE}{u:SC}{o:Obj}{n:String}{d:Array SC}{Q:Unit->Tl->Prop}(e:s.heap.get? c=some o)(f:o.cls=.type n)(g:o.data=.fields d)(i:["enumerate","zip","dict_itemiterator","dict_reverseitemiterator","odict_iterator","itertools.zip_longest","itertools.pairwise"].contains n=false)(a:Q () s): wpAny M A (Yo b (.ref c) u) Q E s:=by
  unfold Yo
  cases b<;>first
    |exact SZ a
    | (cases u<;>first
        |exact SZ a
        | (refine wp (wpAny_load e ?_)
           rw[f,g];show wpAny M A (if(["enumerate","zip","dict_itemiterator","dict_reverseitemiterator","odict_iterator","itertools.zip_longest","itertools.pairwise"].contains n&&d[0]?==some (Y4 _))=true then _ else _) Q E s
           rw[Tk (by intro h;rw[i,Bool.false_and]at h;cases h)]
           exact SZ a))
def AK(K:Su)(a:TE):hA:=
 ⟨λi H=>∃b x,cE K H a b/\b[i]?=some x,λi H x c=>c=H/\∀b,cE K H a b->b[i]?=some x,λi H=>∃b,cE K H a b/\b.length<=i⟩
def AL(K:Su)(a:TE):hA:=
 ⟨λi H=>∃b x,fx K H a b/\b[i]?=some x,λi H x c=>c=H/\∀b,fx K H a b->b[i]?=some x,λi H=>∃b,fx K H a b/\b.length<=i⟩
def sv(lo:Int)(n:Nat):hA:=⟨λi _=>i<n,λi H x a=>a=H/\x=.int (lo+i),λi _=>n<=i⟩
theorem ND{P:WP}{w:Xy}{K:Su}{R:Wp}(a f:TE):pP P w K R (AK K a) [f] f (λi h=>h.IsListIter f a i) where
 mem:=by simp
 obj:=λi h st b g=>by
  have e:b=f:=by simpa using g
  subst e;obtain⟨o,e,c,d⟩:=st;exact⟨o,e,λv z=>by rw[d]at z;cases z⟩
 keep:=λi h j st k=>st.at λo e=>k f (by simp) o e
 item:=by
  intro X n q r M i N s O H E I l st t;subst n q r;obtain⟨S,x,m,y⟩:=t;obtain⟨A,B,p,T⟩:=I.list m;obtain⟨u,U,W⟩:=B.get y;obtain⟨C,F,Y,G,J,L⟩:=l f (by simp);refine YI st p.isList (x:=u) (by simpa using U) λj Q Z=>?_;have h1:c_ X N O H {s with heap:=j }:=I.turned (t':=s.toks) (λb o g e=>(Z.2 b g).trans e) C F G J L;obtain⟨o,e,c,d⟩:=id Q;exact⟨u,rfl,wx (s:={s with heap:=j }) e c d (by decide) ⟨x,H,h1,W,⟨rfl,λaf aa=>by rw[I.hu aa m];exact y⟩,Q,λb g=>(l b g).1⟩⟩
 done:=by
  intro X n q r M i N s O H E I l st t;subst n q r;obtain⟨S,m,y⟩:=t;obtain⟨A,B,p,T⟩:=I.list m;obtain⟨C,F,Y,G,J,L⟩:=l f (by simp);have ag:=B.length;exact YS (I.ok.hd M) st p.isList (by simp;lia) λj hi=>⟨rfl,I.turned (t':=s.toks) (λb o g e=>hi b o g e) C F G J L⟩
 self:=λ_ _ _ _ _ st h=>wpAny_pyIter_listiter st h
theorem NE{P:WP}{w:Xy}{K:Su}{R:Wp}(a f:TE):pP P w K R (AL K a) [f] f (λi h=>h.IsTupleIter f a i) where
 mem:=by simp
 obj:=λi h st b g=>by
  have e:b=f:=by simpa using g
  subst e;obtain⟨o,e,c,d⟩:=st;exact⟨o,e,λv z=>by rw[d]at z;cases z⟩
 keep:=λi h l st k=>st.at λo e=>k f (by simp) o e
 item:=by
  intro X q r t M i N s O H E I m st y;subst q r t;obtain⟨S,x,n,A⟩:=y;obtain⟨j,B,p,T⟩:=I.tuple n;obtain⟨u,U,W⟩:=B.get A;obtain⟨C,F,Y,G,J,L⟩:=m f (by simp);refine wpAny_pyNext_tuple_item st (show s.heap.IsTuple a j.toArray from p) (x:=u) (by simpa using U) λl Q Z=>?_;have h1:c_ X N O H {s with heap:=l }:=I.turned (t':=s.toks) (λb o g e=>(Z.2 b g).trans e) C F G J L;obtain⟨o,e,c,d⟩:=id Q;exact⟨u,rfl,wx (s:={s with heap:=l }) e c d (by decide) ⟨x,H,h1,W,⟨rfl,λaf aa=>by rw[I.i' aa n];exact A⟩,Q,λb g=>(m b g).1⟩⟩
 done:=by
  intro X q r t M i N s O H E I m st y;subst q r t;obtain⟨S,n,A⟩:=y;obtain⟨j,B,p,T⟩:=I.tuple n;obtain⟨C,F,Y,G,J,L⟩:=m f (by simp);have ag:=B.length;exact wpAny_pyNext_tuple_end (I.ok.hd M) st (show s.heap.IsTuple a j.toArray from p) (by simp;lia) λl hi=>⟨rfl,I.turned (t':=s.toks) (λb o g e=>hi b o g e) C F G J L⟩
 self:=λ_ _ _ _ _ st h=>wpAny_pyIter_tupleiter st h
theorem NF{P:WP}{w:Xy}{K:Su}{G:Wp}(a:TE)(lo:Int)(n:Nat):pP P w K G (sv lo n) [a] a (λi h=>IsRangeIter h a (lo+(i:Nat)*1) ((n:Int)-(i:Nat)) 1) where
 mem:=by simp
 obj:=λi h st b c=>by
  have e:b=a:=by simpa using c
  subst e
  exact⟨_,st,λv z=>by
   have J:Data.fields _=Data.cell v:=z
   cases J⟩
 keep:=λi h d st k=>k a (by simp) _ st
 item:=by
  intro X g j l m i A s B H E I f st p;subst g j l;obtain⟨q,r,L,u,x,y⟩:=f a (by simp);have W:=Walks.range (prog:=X.prog) (w:=X.w) (I.ok.hd m) a lo 1 n;refine W.item i s _ _ p st λv d C M F N=>?_;obtain⟨t,rfl⟩:=M;have O:c_ X A B H {s with heap:=d,toks:=C}:=I.turned (λb o c e=>N b o (by simpa using c) e) q r u x y;refine⟨_,rfl,wx (s:={s with heap:=d,toks:=C}) (n:="range_iterator") F rfl rfl (by decide) ⟨.int (lo+i),H,O,⟨t,?_⟩,⟨rfl,rfl⟩,F,λb c=>(f b c).1⟩⟩;rw[Vb]
 done:=by
  intro X g j l m i A s B H E I f st p;subst g j l;obtain⟨q,r,L,u,x,y⟩:=f a (by simp);exact wpAny_pyNext_range_end (I.ok.hd m) st (by have:n<=i:=p;lia) λd Q=>⟨rfl,I.turned (t':=s.toks) (λb o c e=>Q b o c e) q r u x y⟩
 self:=λ_ _ _ _ _ st h=>wpAny_pyIter_rangeiter st h
section
variable{X:aT}{c:Wp}
def NG(K:Su)(d:bH):gP:=λe H R=>d e H λx b=>∃a,x=.ref a/\(∃f,cE K b a f)/\R (AK K a) b
def NH(K:Su)(d:bH):gP:=λe H R=>d e H λx b=>∃a,x=.ref a/\(∃f,fx K b a f)/\R (AL K a) b
theorem FD{l:Wp}{g:bH}(i:bQ X l g):iU X c l (NG X.K g):=by
 intro j s k H R I h;refine cq (i j s k H _ I h) λv d ⟨x,m,f,n,r⟩=>?_;obtain⟨a,e,⟨y,t⟩,q⟩:=r;subst e;cases n;obtain⟨u,z,p,A⟩:=f.list t;refine Yc p.isList ?_;refine⟨d.heap.objs.size,[d.heap.objs.size],_,_,m,rfl,f.kept (t':=d.toks) λb o e=>Heap.get?_push_of_some _ e,ND a _,⟨_,Heap.get?_push_size _ rfl,rfl,rfl⟩,λb w=>?_,q⟩;have e:b=d.heap.objs.size:=by simpa using w
 subst e;exact f.hC (SF _) (f.ep.fresh (SF _))
theorem NI{l:Wp}{i:bH}(j:bQ X l i):iU X c l (NH X.K i):=by
 intro k s m H R I h;refine cq (j k s m H _ I h) λv d ⟨x,n,f,r,t⟩=>?_;obtain⟨a,e,⟨y,u⟩,q⟩:=t;subst e;cases r;obtain⟨g,z,p,A⟩:=f.tuple u;refine wpAny_pyIter_tuple (show d.heap.IsTuple a g.toArray from p) ?_;refine⟨d.heap.objs.size,[d.heap.objs.size],_,_,n,rfl,f.kept (t':=d.toks) λb o e=>Heap.get?_push_of_some _ e,NE a _,⟨_,Heap.get?_push_size _ rfl,rfl,rfl⟩,λb w=>?_,q⟩;have e:b=d.heap.objs.size:=by simpa using w
 subst e;exact f.hC (SF _) (f.ep.fresh (SF _))
theorem FE{f:ZX}{g:St}{H:ak}{s:Tl}{R:hA->ak->Prop}{E:SC->Tl->Prop}{lo a:Int}{t u v:Tok}{h:Nat}(I:c_ X f g H s)(j : -(2^62)<=lo)(k:lo<2^62)(l : -(2^62)<=a)(m:a<2^62)(q:R (sv lo (a-lo).toNat) H):wpAny (UV X.prog X.w) X.A (ZB (.ref s.heap.objs.size)) (FC X f g c R) E {s with heap:=s.heap.push {cls:=.type "range",data:=.fields #[.int lo t,.int a u,.int 1 v]},toks:=h}:=by
 refine wpAny_pyIter_range (IsRange.new ..) (small_one j k l m) ?_;have i:c_ X f g H {s with heap:=s.heap.push {cls:=.type "range",data:=.fields #[.int lo t,.int a u,.int 1 v]},toks:=h}:=I.kept λb o e=>Heap.get?_push_of_some _ e
 refine⟨(s.heap.push {cls:=.type "range",data:=.fields #[.int lo t,.int a u,.int 1 v]}).objs.size,[(s.heap.push {cls:=.type "range",data:=.fields #[.int lo t,.int a u,.int 1 v]}).objs.size],_,_,H,rfl,
  i.kept (t':=h) λb o e=>Heap.get?_push_of_some _ e,NF _ lo (a-lo).toNat,?_,λb n=>?_,q⟩
 ·have p:lo+((0:Nat):Int)*1=lo:=by simp
  have r:(((a-lo).toNat:Nat):Int)-((0:Nat):Int)=Builtin.Range.rangeSize lo a 1:=by rw[rangeSize_one];split<;>lia
  show IsRangeIter _ _ (lo+((0:Nat):Int)*1) ((((a-lo).toNat:Nat):Int)-((0:Nat):Int)) 1
  rw[p,r];exact Heap.get?_push_size _ rfl
 have e:b=(s.heap.push {cls:=.type "range",data:=.fields #[.int lo t,.int a u,.int 1 v]}).objs.size:=by simpa using n
 subst e;exact i.hC (SF _) (i.ep.fresh (SF _))
def NJ(a:e3):gP:=λb H R=>a b H λd e=>∃j:Int,d=[.int j] /\ -(2^62)<=j/\j<2^62/\R (sv 0 j.toNat) e
def NK(a:e3):gP:=λb H R=>a b H λd e=>∃i j:Int,d=[.int i,.int j]/\(-(2^62)<=i/\i<2^62 /\ -(2^62)<=j/\j<2^62)/\R (sv i (j-i).toNat) e
theorem NL{a:Wp}{f:e3}{p b:Pos}(g:eG X "range")(i:X.mg "range"=none)(k:hg X [a] f)(l:UF [a] X.env=[(false,Yk a X.env)]:=by rfl):iU X c (.Call (.Name "range" p) [a] [] b) (NJ f):=by
 intro m s n H R I h;refine Call_ (oE I g i boot_range (UZ (cq (k b m s n H _ I h) λx y ⟨z,A,o,u,d⟩=>?_) l rfl));obtain⟨j,e,d,v,q⟩:=d;subst e;cases u with
 |cons r w=>
  cases w;obtain⟨t,rfl⟩:=r;exact call_range_1 (FE o (by lia) (by lia) d v (by simpa using q))
theorem NM{a b:Wp}{k:e3}{p d:Pos}(m:eG X "range")(n:X.mg "range"=none)(o:hg X [a,b] k)(u:UF [a,b] X.env=[(false,Yk a X.env),(false,Yk b X.env)]:=by rfl)(l:UF [b] X.env=[(false,Yk b X.env)]:=by rfl):
  iU X c (.Call (.Name "range" p) [a,b] [] d) (NK k):=by
 intro v s w H R I h;refine Call_ (oE I m n boot_range (UZ (cq (o d v s w H _ I h) λE F ⟨G,J,x,y,f⟩=>?_) (by rw[u,l]) (by rw[l];rfl)));obtain⟨i,j,e,⟨f,z,A,B⟩,q⟩:=f;subst e;cases y with
 |cons r g=>
  cases g with
  |cons C g=>
   cases g;obtain⟨t,rfl⟩:=r;obtain⟨K,rfl⟩:=C;exact call_range_2 (FE x f z A B q)
def NN(f:gP)(g:fO)(h:gX):gX:=λD a H=>f a H λJ j=>∃W:Nat->Nat->St->ak->Prop,(∃m,W 0 m a j)/\∀i m a H,W i m a H->
 (J.stop i H/\D.nx a H)\/(J.go i H/\∃N:St->ak->Prop,(∀d b,N d b->∃e,e<m/\W (i+1) e d b)/\∀x b,J.lq i H x b->g x a b λk l=>h {D with nx:=N,ct:=N,bk:=D.nx} k l)
def t1(a:ZU)(h:XE):List (TE×Obj):=a.filterMap λb=>(h.get? b).map λo=>(b,o)
theorem wy{a:ZU}{h:XE}{b:TE}{o:Obj}(c:b∈a)(e:h.get? b=some o):(b,o)∈t1 a h:=T'.mpr ⟨b,c,by rw[e];rfl⟩
theorem NO{a:ZU}{h:XE}{p:TE×Obj}(c:p∈t1 a h):p.1∈a/\h.get? p.1=some p.2:=by
 obtain⟨b,d,e⟩:=T'.mp c;cases q:h.get? b with
 |none=>rw[q]at e;cases e
 |some o=>
  rw[q]at e;have f:(b,o)=p:=SN e;subst f;exact⟨d,q⟩
theorem c_.pinned{a:ZX}{f:St}{H:ak}{s:Tl}{c:ZU}(I:c_ X a f H s)(i:∀b∈c,g0 X a H b)(j:∀b∈c,∃o,s.heap.get? b=some o/\∀v,o.data≠.cell v):c_ X (a++t1 c s.heap) f H s:=
 I.gS λp k=>(SO.mp k).elim (λz=>I.pin p (S3 _ z)) λz=>by
  obtain⟨g,e⟩:=NO z;obtain⟨l,m,n,_⟩:=i p.1 g;obtain⟨o,h,d⟩:=j p.1 g;rw[e]at h;cases h;exact⟨e,l,m,n,d⟩
theorem c_.fu{a c:ZX}{b:St}{H:ak}{s:Tl}(I:c_ X (a++c) b H s):c_ X a b H s:=I.gS λp d=>I.pin p (S3 _ (Tx _ d))
theorem AM{L:Wp}{q:ZW}{S:gP}{g:fO}{U:gX}{M:Pos}(z:YQ (UV X.prog X.w) X.A X.env X.xe)(Y:X.calm=true)(aB:iU X c L S)(aC:jf X c g)(a:jd X q U)(aE:∀x,WF L X.env x=pure x:=by intro _;rfl):jB X (.For c L q [] M) (NN S g U):=by
 intro y s Z H D I h;refine wpAny_For (cq (aB y s Z H _ I h) λv bU aH=>cq aH λbV bX aI=>?_) aE;obtain⟨bY,B,ag,J,aJ,e,aK,T,aM,ai,W,⟨aO,aP⟩,C⟩:=aI;subst e;have O:∀{p:ak},(∀b∈B,p b=none)->∀b∈B,g0 X y p b:=λaQ b a=>⟨aQ b a,(ai b a).2⟩;refine codeAny_forLoop_any (λn ao=>∃i E p,c_ X y E p ao/\ag i ao.heap/\(∀b∈B,p b=none)/\W i n E p) ?_ aO ⟨0,Z,aJ,aK,aM,λb a=>(ai b a).1,aP⟩;rintro n aq ⟨i,F,K,ar,au,aw,aU⟩;rcases C i n F K aU with⟨stop,aV⟩|⟨aX,N,a3,step⟩
 ·refine XK z (cq (T.done X rfl rfl rfl Y i y aq F K X.xe ar (O aw) au stop) λr a4 ⟨P,a5⟩=>?_);subst P;exact Yn ⟨F,K,a5,aV⟩
 refine XK z (cq (T.item X rfl rfl rfl Y i y aq F K X.xe ar (O aw) au aX) λr a4 ⟨u,P,a6⟩=>?_);subst P;refine XK z (cq a6 λ_ ax ⟨x,ay,ba,bb,bc,Q,bf⟩=>?_);have bj:=ba.pinned (O bf) (T.obj _ _ Q);refine XK z (cq (aC _ ax F ay x u _ bj bb (step x ay bc)) λ_ bq ⟨bw,bA,bG,bK⟩=>?_);refine XK z (cq (a _ bq bw bA _ bG bK) λf R t=>?_)
 have again:∀{j:St}{k:ak},c_ X (y++t1 B ax.heap) j k R->N j k->∃m,m<n/\∃i E p,c_ X y E p R/\ag i R.heap/\(∀b∈B,p b=none)/\W i m E p:=λ{j k} l G=>by
  obtain⟨bL,bM,bR⟩:=a3 j k G;refine⟨bL,bM,i+1,j,k,l.fu,T.keep _ _ _ Q λb a o e=>(l.pin (b,o) (S3 _ (S3 _ (wy a e)))).1,λb a=>?_,bR⟩;obtain⟨o,e,d⟩:=T.obj _ _ Q b a;exact(l.pin (b,o) (S3 _ (S3 _ (wy a e)))).2.1
 cases f with
 |next=>obtain⟨j,k,l,G⟩:=t;exact again l G
 |cont=>obtain⟨j,k,l,G⟩:=t;exact again l G
 |brk=>obtain⟨j,k,l,t⟩:=t;exact⟨j,k,l.fu,t⟩
 |ret v=>obtain⟨bS,j,k,l,bT,t⟩:=t;exact⟨bS,j,k,l.fu,bT,t⟩
end
abbrev iV:=V->V->ak->cr->Prop
def g1(X:aT)(f:SC->SC->Sem SC)(r:iV):Prop:=
 ∀(a:ZX)(s:Tl)(b:St)(H:ak)(x y:V)(v u:SC)(Q:cr),c_ X a b H s->d_ x v->d_ y u->r x y H Q->
  wpAny (UV X.prog X.w) X.A (f v u) (hf X a b Q) X.xe s
def AO(X:aT)(f:SC->Sem SC)(r:V->ak->cr->Prop):Prop:=
 ∀(a:ZX)(s:Tl)(b:St)(H:ak)(x:V)(v:SC)(Q:cr),c_ X a b H s->d_ x v->r x H Q->
  wpAny (UV X.prog X.w) X.A (f v) (hf X a b Q) X.xe s
def oK(X:aT)(f:SC)(r:ZL->ak->cr->Prop):Prop:=
 ∀(a:ZX)(s:Tl)(b:St)(H:ak)(c:ZL)(d:ZT)(Q:cr),c_ X a b H s->bO c d->r c H Q->
  wpAny (UV X.prog X.w) X.A (call f d) (hf X a b Q) X.xe s
def NX(X:aT)(r:V->ak->(Bool->ak->Prop)->Prop):Prop:=
 ∀(a:ZX)(s:Tl)(b:St)(H:ak)(x:V)(v:SC)(Q:Bool->ak->Prop),c_ X a b H s->d_ x v->r x H Q->
  wpAny (UV X.prog X.w) X.A (ZA v) (wm X a b Q) X.xe s
def oL(r:iV)(b c:bH):bH:=λa H Q=>b a H λx d=>c a d λy e=>r x y e Q
def AP(r:V->ak->cr->Prop)(a:bH):bH:=λb H Q=>a b H λx c=>r x c Q
def sx(C:Int->Int->Prop)(g:Int->Int->V):iV:=λx y H Q=>∃i j,x=.int i/\y=.int j/\C i j/\Q (g i j) H
def lT(g:Int->Int->V):iV:=λx y H Q=>∃i j,x=.int i/\y=.int j/\Q (g i j) H
def AQ(g:Int->V):V->ak->cr->Prop:=λx H Q=>∃i,x=.int i/\Q (g i) H
section
variable{X:aT}{a b c:Wp}{d k l:bH}{e:Pos}
theorem AR(l:bQ X a d)(m:bQ X b k){g:ZX}{s:Tl}{c:St}{H:ak}{R:V->V->ak->Prop}(I:c_ X g c H s)(h:d c H λx j=>k c j λy e=>R x y e){Q:SC->Tl->Prop}{f:SC->SC->Sem SC}(n:∀v u i x y e,c_ X g c e i->d_ x v->d_ y u->R x y e->wpAny (UV X.prog X.w) X.A (f v u) Q X.xe i):
  wpAny (UV X.prog X.w) X.A (Yk a X.env) (λv o=>wpAny (UV X.prog X.w) X.A (Yk b X.env) (λu p=>wpAny (UV X.prog X.w) X.A (f v u) Q X.xe p) X.xe o) X.xe s:=by
 refine cq (l g s c H _ I h) λv q ⟨x,j,r,t,z⟩=>?_;refine cq (m g q c j _ r z) λu i ⟨y,e,B,C,E⟩=>?_;exact n v u i x y e B t C E
theorem gk{c:Operator}{r:iV}(f:g1 X (YD c) r)(g:bQ X a d)(i:bQ X b k):bQ X (.BinOp a c b e) (oL r d k):=by
 intro j s l H Q I h;exact wpAny_BinOp (AR g i I h λv u m x y n o p t q=>f j m l n x y v u Q o p t q)
theorem NY{b:UnaryOp}{r:V->ak->cr->Prop}(g:AO X (unaryOp b) r)(i:bQ X a d):bQ X (.UnaryOp b a e) (AP r d):=by
 intro c s f H Q I h;exact UnaryOp_ (cq (i c s f H _ I h) λv j ⟨x,k,l,m,n⟩=>g c j f k x v Q l m n)
theorem wA{f:SC->SC->Sem SC}{C:Int->Int->Prop}{g:Int->Int->Int}(rule:∀(i j:Int)(t u:Tok)(s:Tl)(Q E:SC->Tl->Prop),C i j->Q (.int (g i j) s.toks) {s with toks:=s.toks+1}->wpAny (UV X.prog X.w) X.A (f (.int i t) (.int j u)) Q E s):
  g1 X f (sx C λi j=>.int (g i j)):=by
 intro e s k H x y v u Q I a b h;obtain⟨i,j,rfl,rfl,c,q⟩:=h;obtain⟨t,rfl⟩:=a;obtain⟨d,rfl⟩:=b;exact rule i j t d s _ _ c ⟨.int (g i j),H,I.tok _,⟨_,rfl⟩,q⟩
theorem FI{f:SC->SC->Sem SC}{g:Int->Int->Int}(rule:∀(i j:Int)(t u:Tok)(s:Tl)(Q E:SC->Tl->Prop),Q (.int (g i j) s.toks) {s with toks:=s.toks+1}->wpAny (UV X.prog X.w) X.A (f (.int i t) (.int j u)) Q E s):
  g1 X f (lT λi j=>.int (g i j)):=by
 intro d s e H x y v u Q I a b h;obtain⟨i,j,rfl,rfl,q⟩:=h;obtain⟨t,rfl⟩:=a;obtain⟨c,rfl⟩:=b;exact rule i j t c s _ _ ⟨.int (g i j),H,I.tok _,⟨_,rfl⟩,q⟩
theorem sy{f:SC->SC->Sem SC}{g:Int->Int->Bool}(rule:∀(i j:Int)(t u:Tok)(s:Tl)(Q E:SC->Tl->Prop),Q (.bool (g i j)) s->wpAny (UV X.prog X.w) X.A (f (.int i t) (.int j u)) Q E s):
  g1 X f (lT λi j=>.bl (g i j)):=by
 intro d s e H x y v u Q I a b h;obtain⟨i,j,rfl,rfl,q⟩:=h;obtain⟨t,rfl⟩:=a;obtain⟨c,rfl⟩:=b;exact rule i j t c s _ _ ⟨.bl (g i j),H,I,rfl,q⟩
def FJ(i j:Int):Prop:=0<=j/\j<=1000000/\i.natAbs<2^64
theorem wB:g1 X (YD .Add) (lT λi j=>.int (i+j)):=FI λ_ _ _ _ _ _ _ q=>add_int q
theorem NZ:g1 X (YD .Sub) (lT λi j=>.int (i-j)):=FI λ_ _ _ _ _ _ _ q=>sub_int q
theorem oM:g1 X (YD .Mod) (sx (λ_ j=>0<j) λi j=>.int (i%j)):=wA λi j _ _ _ _ _ a q=>by
 have b:(0:Int)<j:=a;exact mod_int' (by lia) (by rw[Int.fmod_eq_emod_of_nonneg i (by lia)];exact q)
theorem AS:g1 X (YD .Pow) (sx FJ λi j=>.int (i^j.toNat)):=wA λ_ _ _ _ _ _ _ a q=>pow_int_small a.1 a.2.1 a.2.2 q
theorem N0{f:SC->Sem SC}{g:Int->Int}(rule:∀(i:Int)(t:Tok)(s:Tl)(Q E:SC->Tl->Prop),Q (.int (g i) s.toks) {s with toks:=s.toks+1}->wpAny (UV X.prog X.w) X.A (f (.int i t)) Q E s):
  AO X f (AQ λi=>.int (g i)):=by
 intro b s c H x v Q I a h;obtain⟨i,rfl,q⟩:=h;obtain⟨t,rfl⟩:=a;exact rule i t s _ _ ⟨.int (g i),H,I.tok _,⟨_,rfl⟩,q⟩
theorem N1:AO X (unaryOp .USub) (AQ λi=>.int (-i)):=N0 λ_ _ _ _ _ q=>neg_int q
end
section
variable{X:aT}{a b c:Wp}{d g l:bH}{f:Pos}
theorem nJ:g1 X (XR .Lt) (lT λi j=>.bl (decide (i<j))):=sy λ_ _ _ _ _ _ _ q=>lt_int q
theorem N2:g1 X (XR .LtE) (lT λi j=>.bl (decide (i<=j))):=sy λ_ _ _ _ _ _ _ q=>le_int q
theorem pR:g1 X (XR .Gt) (lT λi j=>.bl (decide (j<i))):=sy λ_ _ _ _ _ _ _ q=>gt_int q
theorem wC:g1 X (XR .GtE) (lT λi j=>.bl (decide (j<=i))):=sy λ_ _ _ _ _ _ _ q=>ge_int q
theorem dE(b:Wp){a:CmpOp}(h:a≠.In:=by decide)(c:a≠.NotIn:=by decide):XG a b=false:=by
 have d:(a==CmpOp.In)=false:=by cases a<;>first|rfl|exact absurd rfl h
 have e:(a==CmpOp.NotIn)=false:=by cases a<;>first|rfl|exact absurd rfl c
 cases b<;>simp[XG,d,e]
theorem AT{c:CmpOp}{r:iV}(e:g1 X (XR c) r)(i:bQ X a d)(j:bQ X b g)(k:XG c b=false):bQ X (.Compare a [c] [b] f) (oL r d g):=by
 intro l s m H Q I h;exact wpAny_Compare1 (AR i j I h λv u n x y o p t w q=>e l n m o x y v u Q p t w q) k
def N3(t:bH):ek:=λe H Q=>t e H λx h=>∃k,x=.bl k/\Q k h
theorem qY{i:CmpOp}{r:iV}(m:g1 X (XR i) r)(n:bQ X a d)(o:bQ X b g)(p:XG i b=false):jX X (.Compare a [i] [b] f) (N3 (oL r d g)):=by
 intro j s l H Q I h
 refine wpAny_isTrue_Compare1 (cq (n j s l H _ I h) λv q ⟨x,t,w,A,B⟩=>cq (o j q l t _ w B) λu C ⟨y,E,F,G,J⟩=>
  cq (m j C l E x y v u _ F A G J) λc O ⟨z,K,L,M,k,e,N⟩=>?_) p
 subst e;cases M;exact XF ⟨K,L,N⟩
def FK(K:Su)(x:V)(H:ak)(k:Bool):Prop:=
 match x with
 |.non=>k=false
 |.bl b=>k=b
 |.int i=>k=(i != 0)
 |.str y=>y.length<=TI/\k=((y.length:Int) != 0)
 |.byt y=>y.size<=TI/\k=((y.size:Int) != 0)
 |.ref p=>(∃xs,cE K H p xs/\k = !xs.isEmpty)\/(∃xs,fx K H p xs/\k = !xs.isEmpty)\/∃kvs,H p=some (.dK kvs)/\k = !kvs.isEmpty
 |_=>False
theorem N4{a:Type}{kvs:List (a×V)}{vs:List (a×SC)}(r:AC kvs vs):(!vs.isEmpty) = !kvs.isEmpty:=by
 cases r<;>rfl
theorem FL{xs:ZL}{its:ZT}(r:bO xs its):(!its.toArray.isEmpty) = !xs.isEmpty:=by
 cases r<;>simp
theorem t3:(TI:Nat)<2^63:=by rw[XO];decide
theorem N5:NX X (λx H Q=>∃k,FK X.K x H k/\Q k H):=by
 intro z s A H x v Q I c h;obtain⟨k,e,q⟩:=h;have B:=t3;have C:TI=16777216:=XO;cases x with
 |non=>
  cases c;have a:k=false:=e;subst a;exact truthy_none ⟨H,I,q⟩
 |bl b=>
  cases c;have a:k=b:=e;subst a;exact XF ⟨H,I,q⟩
 |int i=>
  obtain⟨t,rfl⟩:=c;have a:k=(i != 0):=e;subst a;exact PySem.P.truthy_int ⟨H,I,q⟩
 |str y=>
  obtain⟨t,rfl⟩:=c;obtain⟨o,a⟩:y.length<=TI/\k=((y.length:Int) != 0):=e;subst a;exact PySem.P.truthy_str (by lia) ⟨H,I.tok _,q⟩
 |byt y=>
  obtain⟨t,rfl⟩:=c;obtain⟨o,a⟩:y.size<=TI/\k=((y.size:Int) != 0):=e;subst a;exact PySem.W.truthy_bytes (by lia) ⟨H,I.tok _,q⟩
 |ref p=>
  cases c;have a:(∃xs,cE X.K H p xs/\k = !xs.isEmpty)\/(∃xs,fx X.K H p xs/\k = !xs.isEmpty)\/∃kvs,H p=some (.dK kvs)/\k = !kvs.isEmpty:=e;rcases a with⟨xs,d,a⟩|⟨xs,d,a⟩|⟨kvs,d,a⟩
  ·subst a;obtain⟨g,r,j,l⟩:=I.list d;have n:=r.length;exact wpAny_truthy_list j.isList (by simp only[SX];lia) ⟨H,I.tok _,by rw[FL r];exact q⟩
  ·subst a;obtain⟨g,r,j,l⟩:=I.tuple d;have n:=r.length;exact truthy_tuple j (by simp only[SX];lia) ⟨H,I.tok _,by rw[FL r];exact q⟩
  subst a;obtain⟨l,u,f,r,m⟩:kvs.length<=TI/\(p==XJ)=false/\∃f,AC kvs f/\s.heap.DictOf (AB X.prog X.w) p f:=I.ep p _ d;have n:kvs.length=f.length:=Paired.length r;exact wpAny_truthy_dict u m (by lia) ⟨H,I.tok _,by rw[N4 r];exact q⟩
 |_=>exact(show False from e).elim
theorem AU(f:bQ X a d)(g:∀whole,Ze a X.env whole=(do let v <-whole;YO a.pos;Yu [v] (ZA v))):
  jX X a (λb H Q=>d b H λx c=>∃k,FK X.K x c k/\Q k c):=by
 intro e s b H Q I h;exact isTrue_plain (cq (f e s b H _ I h) λv i ⟨x,j,l,m,n⟩=>N5 e i b j x v Q l m n) (g _)
theorem fo{x:V}{a:ZT}(r:bO [x] a):∃u,a=[u]/\d_ x u:=by
 cases r with
 |cons b c=>cases c;exact⟨_,rfl,b⟩
theorem mh{x y:V}{a:ZT}(r:bO [x,y] a):∃u b,a=[u,b]/\d_ x u/\d_ y b:=by
 cases r with
 |cons c d=>
  cases d with
  |cons e f=>cases f;exact⟨_,_,rfl,c,e⟩
theorem N6:oK X (.builtin "abs") (λa H Q=>∃i,a=[.int i]/\Q (.int (if i<0 then -i else i)) H):=by
 intro b s c H a d Q I r h;obtain⟨i,rfl,q⟩:=h;obtain⟨u,rfl,t,rfl⟩:=fo r;exact call_abs_int λu e=>⟨.int (if i<0 then -i else i),H,I.tok _,⟨_,rfl⟩,q⟩
theorem N7:oK X (.type "int") (λa H Q=>(∃i,a=[.int i]/\Q (.int i) H)\/∃k,a=[.bl k]/\Q (.int (if k then 1 else 0)) H):=by
 intro c s d H a e Q I r h;rcases h with⟨i,rfl,q⟩|⟨k,rfl,q⟩
 ·obtain⟨u,rfl,t,rfl⟩:=fo r;exact call_int_int ⟨.int i,H,I,⟨_,rfl⟩,q⟩
 obtain⟨u,rfl,b⟩:=fo r;cases b;exact call_int_bool ⟨.int (if k then 1 else 0),H,I.tok _,⟨_,rfl⟩,q⟩
end
structure AV(h:XE)(x fH C:TE)(gN:Str->Option SC):Prop where
 obj:h.get? x=some (VE C fH)
 ns:h.Ns1 fH gN
 ne:fH≠x
theorem N8{h:XE}{b:TE}{c:Str->Option SC}(n:h.Ns1 b c):∃d,h.get? b=some d/\∀name,VI name d=some (c name):=by
 obtain⟨o,f,r,g,i,j,_,k⟩:=n;refine⟨o,g,λname=>?_⟩;have e:=k name;unfold nsFind findBy at e;rw[<-Array.find?_toList]at e;unfold VI;rw[i];dsimp only;split
 ·rename_i y q
  rw[q]at e;exact TW some e
 rename_i q
 rw[q]at e
 have a:f.toList.any (·.refKey)=false:=by
  rw[List.any_eq_false];intro y l;obtain⟨z,t,m⟩:=j y (Array.mem_toList_iff.mp l);simp[DictEntry.refKey,m]
 have p:¬f.toList.any (·.refKey)=true:=by rw[a];exact SU
 rw[Tk p];exact TW some e
theorem AV.look{h:XE}{x b C:TE}{c:Str->Option SC}(I:AV h x b C c):∃a,PySem.W.InstAt h x (VE C b) C (some a)/\∀name,VI name a=some (c name):=
 let⟨a,d,e⟩:=N8 I.ns
 ⟨a,⟨I.obj,rfl,rfl,d⟩,e⟩
theorem pJ.some_of{v:V}{o:Option SC}(r:pJ (some v) o):∃u,o=some u/\d_ v u:=by
 cases o with
 |none=>exact(show False from r).elim
 |some u=>exact⟨u,rfl,r⟩
section
variable{P:WP}{w:Xy}{H j:ak}{h g:XE}{a C c:TE}{b i:List (Str×V)}
theorem N9(i:fm P w H h)(e:H a=some (.ins C c b)):∃g,AV h a c C g/\(∀f,pJ (b.lookup f) (g f))/\PySem.Within g (b.map (·.1))/\b.length<=1000/\H c=some (.own a):=by
 obtain⟨d,z,j,k,g,n,r,q⟩:=(show gG P w H h a (.ins C c b)from i a _ e);exact⟨g,⟨k,n,j⟩,r,q,z,d⟩
end
structure AW(K:Su)(C:TE):Prop where
 pg:Ww K C Str.empty=true
 hd:PySem.W.hasDictIn K C=true
 po:PySem.W.plainOver K C=true
 sa:Wx K (.ref C) "__setattr__"=some (some (.builtin "object.__setattr__"))
theorem AW.get{K:Su}{C:TE}(c:AW K C)(f:Str):Ww K C f=true:=c.pg
section
variable{X:aT}{f:ZX}{d:St}{H:ak}{s:Tl}{A:Xz}{E Q:SC->Tl->Prop}{c:SC}{b:Bool}
inductive kA(K:Su)(H:ak):V->SC->Prop where
 |non:kA K H .non (.type "NoneType")
 |bl(x:Bool):kA K H (.bl x) (.type "bool")
 |int(i:Int):kA K H (.int i) (.type "int")
 |str(x:Str):kA K H (.str x) (.type "str")
 |flt(x:UInt64):kA K H (.flt x) (.type "float")
 |lst{a:TE}{xs:ZL}(e:H a=some (.lst xs)):kA K H (.ref a) (.type "list")
 |frz{a:TE}{o:Obj}{xs:ZL}(e:H a=some (.frz o (.lst xs))):kA K H (.ref a) (.type "list")
 |tup{a:TE}{xs:ZL}(e:H a=some (.tup xs)):kA K H (.ref a) (.type "tuple")
 |dK{a:TE}{kvs:List (iR×V)}(e:H a=some (.dK kvs)):kA K H (.ref a) (.type "dict")
 |dT{a:TE}{kvs:List (List iR×V)}(e:H a=some (.dT kvs)):kA K H (.ref a) (.type "dict")
 |ins{a C fH:TE}{fs:List (Str×V)}(e:H a=some (.ins C fH fs))(bK:AW K C) (au:Wx K (.ref C) "__class__"=some (some (.builtin "object.__class__")))
   (aN:PySem.W.specialIn K (.builtin "object.__class__") "__get__"=some (some (.builtin "getset_descriptor.__get__"))) (FM:PySem.W.takesIn K (.builtin "object.__class__")=some true)
   (az:PySem.W.mroIn K C (.type "object")=some true):kA K H (.ref a) (.ref C)
theorem N'{x:V}{u t:SC}(I:c_ X f d H s)(g:d_ x u)(ty:kA X.K H x t)(e:VJ X.K t c=some b)(h:∀B,Q (.bool b) {s with toks:=B}):
  wpAny (UV X.prog X.w) A (call (.builtin "isinstance") [u,c]) Q E s:=by
 cases ty with
 |non=>cases(show u=Value.none from g);exact TP PySem.W.kitx_none I.gY U0 e (λz=>nomatch z) h
 |bl y=>cases(show u=Value.bool y from g);exact TP PySem.W.kitx_bool I.gY U0 e (λz=>nomatch z) h
 |int i=>obtain⟨t,q⟩:=(show ∃t,u=Value.int i t from g);cases q;exact TP PySem.W.kitx_int I.gY U0 e (λz=>nomatch z) h
 |str y=>obtain⟨t,q⟩:=(show ∃t,u=Value.str y t from g);cases q;exact TP PySem.W.kitx_str I.gY U0 e (λz=>nomatch z) h
 |flt y=>obtain⟨t,q⟩:=(show ∃t,u=Value.float y t from g);cases q;exact TP PySem.W.kitx_float I.gY U0 e (λz=>nomatch z) h
 | @lst a m j=>
  cases(show u=Value.ref a from g);obtain⟨_,_,n,_,k⟩:=(show gG X.prog X.w H s.heap a (.lst m)from I.ep a _ j);exact TP Wy I.gY ⟨_,k,rfl⟩ e (λz=>nomatch z) h
 | @frz a F m j=>
  cases(show u=Value.ref a from g);obtain⟨_,_,_,n,_,k⟩:=(show gG X.prog X.w H s.heap a (.frz F (.lst m))from I.ep a _ j);exact TP Wy I.gY ⟨_,k,rfl⟩ e (λz=>nomatch z) h
 | @tup a m j=>
  cases(show u=Value.ref a from g);obtain⟨_,_,_,p⟩:=(show gG X.prog X.w H s.heap a (.tup m)from I.ep a _ j);obtain⟨o,k,r,_⟩:=p;exact TP PySem.W.kitx_tuple I.gY ⟨o,k,r⟩ e (λz=>nomatch z) h
 | @dK a l j=>
  cases(show u=Value.ref a from g);obtain⟨_,_,S,_,p⟩:=(show gG X.prog X.w H s.heap a (.dK l)from I.ep a _ j);obtain⟨o,G,L,k,r,_⟩:=p;exact TP Wz I.gY ⟨o,k,r.1⟩ e (λz=>nomatch z) h
 | @dT a l j=>
  cases(show u=Value.ref a from g);obtain⟨_,_,m,_,o,G,L,k,r,_⟩:=(show gG X.prog X.w H s.heap a (.dT l)from I.ep a _ j);exact TP Wz I.gY ⟨o,k,r.1⟩ e (λz=>nomatch z) h
 | @ins a C T U j v M N P R=>
  cases(show u=Value.ref a from g);obtain⟨Y,O,_⟩:=N9 I.ep j;obtain⟨Z,J,_⟩:=O.look;exact TP (PySem.W.kitx_own (v.get _) v.hd M N P R) I.gY J e (λz=>nomatch z) h
end
structure ez(k:Nat)(A:Xz):Prop where
 hd:A.handled=none
 dp:A.depth+3*k+5<Yv
 un:A.units+16*k+200<XQ
theorem ez.mono{j k:Nat}{A:Xz}(r:ez k A)(h:j<=k):ez j A:=⟨r.hd,by have:=r.dp;lia,by have:=r.un;lia⟩
theorem ez.deeper{k:Nat}{A:Xz}(r:ez (k+1) A)(a:Env):ez k (A.deeper a):=
 ⟨r.hd,by have:=r.dp;show A.depth+1+3*k+5<_;lia,by have:=r.un;show A.units+3+16*k+200<_;lia⟩
theorem ez.depth{k:Nat}{A:Xz}(r:ez k A):A.depth<Yv:=by have:=r.dp;lia
theorem ez.units{k:Nat}{A:Xz}(r:ez k A):A.units+64<XQ:=by have:=r.un;lia
def wD:e3:=λ_ H Q=>Q [] H
def wE(b:bH)(c:e3):e3:=λa H Q=>b a H λx d=>c a d λe f=>Q (x::e) f
section
variable{X:aT}{e:Wp}{c:ZV}{d:bH}{t:e3}{a:Pos}
theorem fa:hg X [] wD:=λ_ _ _ _ H Q I h=>Calls.spliced_nil ⟨[],H,I,.nil,h⟩
theorem d8(g:bQ X e d)(i:hg X c t)(j:eN X e c:=by rfl):hg X (e::c) (wE d t):=by
 intro a b s f H Q I h;rw[j];show wpAny _ _ (spliced ((false,Yk e X.env)::X9 a (UF c X.env))) _ _ s
 refine Calls.spliced_cons (cq (g b s f H _ I h) λu k ⟨x,l,m,n,o⟩=>?_);exact cq (i a b k f l _ m o) λy z ⟨p,q,r,v,w⟩=>⟨x::p,q,r,.cons n v,w⟩
def Oa(t:e3):bH:=λg H Q=>t g H λb f=>b.length<=TI/\∀p,f p=none->Q (.ref p) (ed f p (.tup b))
def Ob(t:e3):bH:=λg H Q=>t g H λb f=>b.length<=TI/\∀p,f p=none->Q (.ref p) (ed f p (.lst b))
theorem wF{i}(h:hg X c t):bQ X (.Tuple c i a) (Oa t):=by
 intro j s k H Q I l;refine wpAny_Tuple_spliced (cq (h a j s k H _ I l) λm d ⟨n,f,g,r,z,q⟩=>⟨by rw[<-r.length];exact z,?_⟩);have o:f d.heap.objs.size=none:=g.ep.fresh (SF _);refine⟨.ref d.heap.objs.size,ed f d.heap.objs.size (.tup n),g.laid (t':=d.toks) (λb u e=>Heap.get?_push_of_some _ e) (SF _) ?_,rfl,q _ o⟩;exact⟨z,m,r,⟨_,Heap.get?_push_size _ rfl,rfl,_,rfl⟩⟩
theorem t4(h:hg X c t):bQ X (.List c a) (Ob t):=by
 intro i s j H Q I k;refine wpAny_List_spliced (cq (h a i s j H _ I k) λl d ⟨m,f,g,r,z,q⟩=>⟨by rw[<-r.length];exact z,?_⟩);have n:f d.heap.objs.size=none:=g.ep.fresh (SF _);refine⟨.ref d.heap.objs.size,ed f d.heap.objs.size (.lst m),g.laid (t':=d.toks) (λb u e=>Heap.get?_push_of_some _ e) (SF _) ?_,rfl,q _ n⟩;exact⟨z,l,0,r,Heap.get?_push_size _ rfl⟩
end
abbrev iW:=ZL->ak->cr->gW->Prop
abbrev nK:=List Env->ak->Tl->gW->SC->Tl->Prop
structure wG(P:WP)(w:Xy)(K:Su)(mg:Str->Option SC)(base:XE)(A:Xz)(outer:List Env)(s:Tl)(H:ak):Prop where
 frames:A.frames=some outer
 mod:Mod K mg base
 bs:∀b o,base.get? b=some o->s.heap.get? b=some o/\H b=none
 kr:base.objs.size<=s.heap.objs.size
 gc:s.heap.FunFrames base outer
 mc:∀b∈frs outer,H b=none
 ep:fm P w H s.heap
 bare:YN s.gens
 tab:pK K H
def q0(a:List Env)(P:WP)(w:Xy)(H:ak)(s:Tl)(Q:cr)(u:SC)(b:Tl):Prop:=
 ∃v c,b.os=s.os/\YN b.gens/\f7 (frs a) [] H c s.heap b.heap/\fm P w c b.heap/\d_ v u/\Q v c
def Oc(c:nK)(a:List Env)(P:WP)(w:Xy)(H:ak)(s:Tl)(Q:cr)(E:gW)(r:ZC)(b:Tl):Prop:=
 match r with
 |.ok (.ret u)=>q0 a P w H s Q u b
 |.ok _=>False
 |.error e=>c a H s E e b
structure kB(P:WP)(w:Xy)(K:Su)(mg:Str->Option SC)(base:XE)(gn:nK)(k:Nat)(f:TE)(fd:X4)(ps:ZS)(sp:iW):Prop where
 len:∀vs H Q E,sp vs H Q E->vs.length=ps.length
 run:∀(A:Xz)(outer:List Env)(s:Tl)(H:ak)(args:Args)(us:ZT)(vs:ZL)(Q:cr)(E:gW),ez k A->wG P w K mg base A outer s H->ZE s fd args (ps.zip us)->bO vs us->sp vs H Q E->
  codeAny (UV P w) A (.call (.ref f) args) (Oc gn outer P w H s Q E) s
theorem kB.imp{P:WP}{w:Xy}{K:Su}{b:Str->Option SC}{a:XE}{gn:nK}{k:Nat}{f:TE}{c:X4}{d:ZS}{sp e:iW}(F:kB P w K b a gn k f c d sp)(h:∀vs H Q E,e vs H Q E->sp vs H Q E):kB P w K b a gn k f c d e:=
 ⟨λvs H Q E q=>F.len vs H Q E (h _ _ _ _ q),λA outer s H args g vs Q E i j l m n=>F.run A outer s H args g vs Q E i j l m (h _ _ _ _ n)⟩
section
variable{X:aT}{c:ZX}{a:St}{H:ak}{s e:Tl}
theorem c_.nE(I:c_ X c a H s):wG X.prog X.w X.K X.mg X.base X.A X.stack s H:=
 ⟨I.ok.frames,I.ok.mod,I.bs,Sx I.ok.kr I.sz,I.stack,I.gR,I.ep,I.bare,I.tabs⟩
theorem c_.after{Q:cr}{u:SC}(I:c_ X c a H s)(h:q0 X.stack X.prog X.w H s Q u e):hf X c a Q u e:=by
 obtain⟨v,f,os,bare,un,ep,r,q⟩:=h;obtain⟨i,g,d,t,j⟩:=e;obtain rfl:j=s.os:=os;exact⟨v,f,I.call (h':=i) (g':=g) (d':=d) (t':=t) (ch:=[]) un ep bare (λb z=>absurd z (by simp)),r,q⟩
end
def FN(a:iW)(b:ZL)(E:gW)(t:e3):bH:=λc H Q=>t c H λd e=>a (d++b) e Q E
def fU(K:Su)(d:X4)(b:ZS)(c:ZT):Prop:=
 ∀(s:Tl)(a:ZT),K.In s.heap->(a++c).length=b.length->ZE s d ⟨a,[]⟩ (b.zip (a++c))
theorem fU.all{K:Su}{c:X4}{b:ZS}(h:∀a:ZT,a.length=b.length->YX c ⟨a,[]⟩=pure (b.zip a)):fU K c b []:=λs a _ d=>by
 rw[SR]at d⊢;exact .of_eq (h a d)
def AX(b:nK)(X:aT)(E:gW):Prop:=∀(c:ZX)(d:St)(H:ak)(s:Tl)(e:SC)(a:Tl),c_ X c d H s->b X.stack H s E e a->X.xe e a
section
variable{X:aT}{g:nK}{k:Nat}{f C:TE}{j:X4}{d:ZS}{i:iW}{c:ZL}{a:ZT}{E:gW}{x m:Str}{p b n:Pos}{e o:Wp}{l:ZV}{v:bH}{t:e3}
theorem Oe{m:ZX}{n:St}{H:ak}{s:Tl}{Q:cr}{b:ZT}{vs:ZL}(F:kB X.prog X.w X.K X.mg X.base g k f j d i)(p:ez k X.A)(q:fU X.K j d a)(t:bO c a)(v:AX g X E)(I:c_ X m n H s)(r:bO vs b)(h:i (vs++c) H Q E):wpAny (UV X.prog X.w) X.A (call (.ref f) b) (hf X m n Q) X.xe s:=by
 have o:bO (vs++c) (b++a):=r.append t;have x:(b++a).length=d.length:=by rw[<-o.length];exact F.len _ _ _ _ h
 refine wpAny_call (YT (F.run X.A X.stack s H ⟨b,[]⟩ (b++a) (vs++c) Q E p I.nE (q s b I.gY x) o h) λr y l=>?_);cases r with
 |error e=>exact v m n H s e y I l
 |ok z=>
  cases z with
  |ret u=>exact I.after l
  |next=>exact Tt l
  |brk=>exact Tt l
  |cont=>exact Tt l
theorem Of(F:kB X.prog X.w X.K X.mg X.base g k f j d i)(n:ez k X.A)(o:eG X x)(u:X.mg x=some (.ref f))(v:Vc X.K (.ref f)=true)(y:fU X.K j d a)(z:bO c a)(B:AX g X E)(C:hg X (e::l) t)(G:ec x:=by decide)(J:eN X e l:=by rfl)(L:hy X b l:=by rfl):
  bQ X (.Call (.Name x p) (e::l) [] b) (FN i c E t):=by
 intro M s N H Q I h;refine XU (Ft I o u ?_ G);refine PySem.W.callWith_K (h₀:=X.base) I.ok.mod.nz v (cq (C b M s N H _ I h) λO P ⟨R,S,m,r,q⟩=>⟨m.gY,?_⟩) J L;exact Oe F n y z B m r q
end
structure cy(N P:ZS)(sc:XW):Prop where
 kind:sc.kind=.function
 co:sc.isCoroutine=false
 gen:sc.isGenerator=false
 nd:N.Nodup
 pre:N.take P.length=P
 par:∀x∈P,sc.names.lookup x=some .local\/sc.names.lookup x=some .cell
 lV:∀y∈sc.names,y.2≠.free
theorem FO{kindOf:Str->Option Zf}{x:Str}:∀{a:List (Str×SC)}{m:Str->Option SC},(∀v,(x,v)∉a)->bindL kindOf a m x=m x
 |[],_,_=>rfl
 | (n,v)::r,m,h=>by
  unfold bindL;rw[FO λw b=>h w (SA _ b)];split
  ·have:x≠n:=by rintro rfl;exact h v Sw
   simp[this]
  rfl
theorem FP{kindOf:Str->Option Zf}{x:Str}:∀{a:List (Str×SC)}{m:Str->Option SC},(∀v,(x,v)∉a)->bindC kindOf a m x=m x
 |[],_,_=>rfl
 | (n,v)::r,m,h=>by
  unfold bindC;rw[FP λw b=>h w (SA _ b)];split
  ·rfl
  have:x≠n:=by rintro rfl;exact h v Sw
  simp[this]
theorem FQ{kindOf:Str->Option Zf}{x:Str}{v:SC}:∀{P:ZS}{a:ZT}{i:Nat}{m:Str->Option SC},P.Nodup->P[i]?=some x->a[i]?=some v->kindOf x=some .local->
  bindL kindOf (P.zip a) m x=some v
 |[],_,_,_,_,h,_,_=>by simp at h
 |_::_,[],_,_,_,_,h,_=>by simp at h
 |p::P,w::a,0,m,d,b,c,e=>by
  simp at b c;subst b;subst c;show bindL kindOf ((p,w)::P.zip a) m p=_
  unfold bindL;rw[FO λv f=>(Tu.mp d).1 (VK f).1,SL e];simp
 |p::P,w::a,i+1,m,d,b,c,e=>by
  show bindL kindOf ((p,w)::P.zip a) m x=_
  unfold bindL;exact FQ (i:=i) (Tu.mp d).2 (by simpa using b) (by simpa using c) e
theorem FR{kindOf:Str->Option Zf}{x:Str}{v:SC}:∀{P:ZS}{a:ZT}{i:Nat}{m:Str->Option SC},P.Nodup->P[i]?=some x->a[i]?=some v->kindOf x≠some .local->
  bindC kindOf (P.zip a) m x=some v
 |[],_,_,_,_,h,_,_=>by simp at h
 |_::_,[],_,_,_,_,h,_=>by simp at h
 |p::P,w::a,0,m,d,b,c,e=>by
  simp at b c;subst b;subst c;show bindC kindOf ((p,w)::P.zip a) m p=_
  unfold bindC;rw[FP λv f=>(Tu.mp d).1 (VK f).1,Tk e];simp
 |p::P,w::a,i+1,m,d,b,c,e=>by
  show bindC kindOf ((p,w)::P.zip a) m x=_
  unfold bindC;exact FR (i:=i) (Tu.mp d).2 (by simpa using b) (by simpa using c) e
def fP(N:ZS)(a:ZL):St:=a.map some++SS (N.length-a.length) none
noncomputable def k6(g:nK)(P:WP)(w:Xy)(K:Su)(mg:Str->Option SC)(base:XE)(N:ZS)(b:Str)(a:XW)(f:TE)(c:SC)(A:Xz)(outer:List Env)(s:Tl)(H:ak)(E:gW):aT where
 prog:=P
 w:=w
 K:=K
 mg:=mg
 base:=base
 A:=A.deeper (Y5 b a s.heap.objs.size f c)
 N:=N
 s₀:=s
 H₀:=H
 env:=Y5 b a s.heap.objs.size f c
 outer:=outer
 stack:=Y5 b a s.heap.objs.size f c::outer
 ex:=[]
 calm:=true
 fn:=λ_=>true
 pn:=[]
 xe:=λe h=>wpAny (UV P w) (A.deeper (Y5 b a s.heap.objs.size f c)) (leaving (Y5 b a s.heap.objs.size f c) e) (λ_ d=>g outer H s E e d) (λi d=>g outer H s E i d) h
theorem FS{sc:XW}{n:Nat}{x:Str}(h:sc.names.lookup x=some .cell):∃c,(cellsFrom n sc.names []).lookup x=some c:=by
 have q:=WA sc.names n [] (.inl h);exact VL.mp q
theorem Og{O:nK}{P:WP}{w:Xy}{K:Su}{J:Str->Option SC}{m:XE}{N t:ZS}{j:Str}{d:XW}{f:TE}{F:SC}{A:Xz}{g:List Env}{s Q:Tl}{H:ak}{E:gW}{L:ZT}{vs:ZL}(S:cy N t d)(W:A.handled=none)(o:wG P w K J m A g s H)(Z:vs.length=t.length)(r:bO vs L)(x:InCallC s s.heap.objs.size (bindL (Y5 j d s.heap.objs.size f F).kindOf (t.zip L) λ_=>none) (cellsFrom (s.heap.objs.size+1) d.names []) (bindC (Y5 j d s.heap.objs.size f F).kindOf (t.zip L) λ_=>none) Q):
  c_ (k6 O P w K J m N j d f F A g s H E) [] (fP N vs) H Q:=by
 have ae:t.length<=N.length:=by have:=TW S6 S.pre;rw[TV]at this;lia
 obtain⟨G,ag,rfl,R⟩:=x.done;have M:∀b:TE,b∉(k6 O P w K J m N j d f F A g s H E).ex:=λb z=>absurd (show b∈([]:ZU)from z) (by simp)
 refine⟨⟨o.mod,S.kind,rfl,rfl,SF _,λy z c G l=>?_,λy B=>?_,λy c _ h=>?_,λ_=>W,Around.frames_deeper o.frames,.inr ⟨rfl,rfl⟩,λb z=>absurd z (M b),o.bs,o.kr,λb _ _=>M b,λb z=>absurd z (M b),o.gc,o.mc,o.tab⟩,
  rfl,o.bare,f7.kept R,⟨_,x.toInCall.ns,λi y v G l hc=>?_⟩,λy c h=>⟨_,x.cell y c h⟩,o.ep.fresh (SF _),λy c h=>?_,λp C=>absurd (show p∈([]:ZX)from C) (by simp),o.ep.kept R,?_⟩
 ·exact name_of_addr x.apart (Uw G) (Uw l)
 ·have B:d.names.lookup y=some .cell\/d.names.lookup y=some .free:=B;rcases B with B|B
  ·exact FS B
  exact absurd rfl (S.lV _ (Uw B))
 ·exact UG (x.above y c (Uw h))
 ·have I:i<vs.length:=by
   unfold fP at l;by_cases I:i<vs.length
   ·exact I
   rw[Tq (by simpa using I)]at l;rw[Un]at l;split at l<;>cases l
  have X:vs[i]?=some v:=by
   unfold fP at l;rw[TJ (by simpa using I),SP]at l;cases e:vs[i]? with
   |none=>rw[e]at l;cases l
   |some a=>rw[e]at l;cases l;rfl
  obtain⟨u,T,Y⟩:=r.get X
  have C:t[i]?=some y:=by
   rw[<-S.pre,List.getElem?_take_of_lt (by lia)];exact G
  have U:t.Nodup:=by rw[<-S.pre];exact S.nd.sublist (List.take_sublist _ _)
  refine⟨u,Y,?_⟩;rcases S.par y (S' C)with k|k
  ·exact .inl ⟨k,FQ U C T k⟩
  obtain⟨c,e⟩:=FS (n:=s.heap.objs.size+1) k;refine .inr ⟨.inl k,c,e,?_⟩;have q:=x.cell y c e;rwa[FR U C T (by show d.names.lookup y≠_;rw[k];decide)]at q
 ·exact o.ep.fresh (UG (x.above y c (Uw h)))
 unfold fP;show _=N.length
 rw[Sz,Sv,Ua];lia
theorem FU{C:nK}{P:WP}{w:Xy}{K:Su}{F:Str->Option SC}{h:XE}{k:Nat}{f:TE}{name d:Str}{i:X2}{j:ZW}{a:XW}{U kV p X g Y ag:SC}{Z ai:Option TE}{M:Array (Option SC)}{N G:ZS}{sp:iW}(lk:K.lookup f=some ⟨ag,ai,.func (UH name d i j a U kV p X Z g Y),M⟩)(hc:VM K g d=true)(S:cy N G a)(z:∀vs H Q E,sp vs H Q E->vs.length=G.length)(aj:∀(A:Xz)(c:List Env)(s:Tl)(H:ak)(vs:ZL)(Q:cr)(E:gW),ez k (A.deeper (Y5 d a s.heap.objs.size f g))->sp vs H Q E->∃t,jd (k6 C P w K F h N d a f g A c s H E) j t/\t {nx:=λ_ l=>Q .non l,rt:=Q} (fP N vs) H):
  kB P w K F h C (k+1) f (UH name d i j a U kV p X Z g Y) G sp:=by
 refine⟨z,λA c s H args ao vs Q E O B aq r h1=>?_⟩;have au:=z _ _ _ _ h1;have aa:K.In s.heap:=B.mod.nz.keeps λb o e=>(B.bs b o e).1;have lim:s.heap.NoLimit:=B.mod.nolimit.keeps λb o e=>(B.bs b o e).1
 have aw:∀y∈G.zip ao,a.names.lookup y.1=some .local\/(a.names.lookup y.1=some .cell/\((cellsFrom (s.heap.objs.size+1) a.names []).lookup y.1).isSome=true):=λ⟨n,v⟩ ax=>by
  rcases S.par n (VK ax).1 with q|q
  ·exact .inl q
  exact .inr ⟨q,WA _ _ _ (.inl q)⟩
 refine codeAny_call_function O.depth (aa _ _ lk) rfl S.co S.gen rfl (PySem.W.codeRec_of aa hc) (aq _ _ _ _ ?_);refine wpAny_newFunctionEnv_cells S.kind aw λaz aB hi x=>?_;subst aB;refine⟨lim.keeps x.toInCall.keep,codeAny_func ?_⟩;obtain⟨t,aC,aG⟩:=aj A c s H vs Q E (O.deeper _) h1;have I:c_ (k6 C P w K F h N d a f g A c s H E) [] (fP N vs) H hi:=Og S O.hd B au r x;refine XH (aC [] hi (fP N vs) H _ I aG) (λaH R m=>?_) λe R m=>m
 have af:∀{L:St}{l:ak}{v:V}{u:SC},c_ (k6 C P w K F h N d a f g A c s H E) [] L l R->d_ v u->Q v l->q0 c P w H s Q u R:=
  λ{L l v u} J T q=>⟨v,l,J.os,J.bare,J.base,J.ep,T,q⟩
 cases aH with
 |ret u=>
  obtain⟨v,L,l,J,T,q⟩:=m;exact af J T q
 |next=>
  obtain⟨L,l,J,q⟩:=m;exact af (v:=V.non) (u:=Value.none) J rfl q
 |brk=>
  obtain⟨_,_,_,q⟩:=m;exact Tt q
 |cont=>
  obtain⟨_,_,_,q⟩:=m;exact Tt q
section
variable{X:aT}{x:Str}{p a:Pos}{e:Wp}{b:ZV}{t:e3}{id T:String}{r:ZL->ak->cr->Prop}
def AZ(r:ZL->ak->cr->Prop)(t:e3):bH:=λc H Q=>t c H λd f=>r d f Q
theorem q1(f:oK X (.builtin id) r)(g:eG X x)(i:X.mg x=none)(j:XM x=some (.builtin id))(k:hg X (e::b) t)(l:x≠"__name__":=by decide)(m:ec x:=by decide)(n:eN X e b:=by rfl)(o:hy X a b:=by rfl):bQ X (.Call (.Name x p) (e::b) [] a) (AZ r t):=by
 intro c s d H Q I h;refine XU (oE I g i j ?_ l m);exact PyProof.Rows.callWith_builtin1 (cq (k a c s d H _ I h) λq u ⟨v,w,y,z,A⟩=>f c u d w v q Q y z A) n o
theorem FV(f:oK X (.type T) r)(g:eG X x)(i:X.mg x=none)(j:XM x=some (.type T))(k:hg X (e::b) t)(l:x≠"__name__":=by decide)(m:ec x:=by decide)(n:eN X e b:=by rfl)(o:hy X a b:=by rfl):bQ X (.Call (.Name x p) (e::b) [] a) (AZ r t):=by
 intro c s d H Q I h;refine XU (oE I g i j ?_ l m);exact UZ (cq (k a c s d H _ I h) λq u ⟨v,w,y,z,A⟩=>f c u d w v q Q y z A) n o
end
namespace HT
section
variable{a:WP}{w:Xy}{A:Xz}{E:SC->Tl->Prop}{s:Tl}
def sIx(n d:Nat):Option Int->Nat
 |none=>d
 |some v=>if v<0 then(v+(n:Int)).toNat else min v.toNat n
end
end HT
abbrev sA:=St->ak->(Option Int->ak->Prop)->Prop
def Fb(X:aT)(e:Option Wp)(t:sA):Prop:=
 ∀(b:ZX)(s:Tl)(a:St)(H:ak)(Q:Option Int->ak->Prop),c_ X b a H s->t a H Q->
  wpAny (UV X.prog X.w) X.A (evalPart e X.env) (λu d=>∃o c,c_ X b a c d/\IsPart u o/\Q o c) X.xe s
def Oi:sA:=λ_ H Q=>Q none H
def Oj(t:bH):sA:=λa H Q=>t a H λx b=>∃i,x=.int i/\Q (some i) b
theorem h8{a:ZH}:∀{b:ZT},bO (a.map V.int) b->YU b a:=by
 induction a with
 |nil=>intro b r;rw[TA]at r;cases r;exact .nil
 |cons n a c=>
  intro b r;rw[SI]at r;cases r with
  |cons d f=>
   obtain⟨t,e⟩:=d;subst e;exact .cons n t (c f)
section
variable{X:aT}{e:Wp}{c:bH}{lo a:Option Wp}{f d:sA}{g p2:Pos}
theorem Ol:Fb X none Oi:=by
 intro a s b H Q I h;rw[evalPart_none];exact SZ ⟨none,H,I,.none,h⟩
theorem Om(h:bQ X e c):Fb X (some e) (Oj c):=by
 intro a s b H Q I d;rw[evalPart_some];refine cq (h a s b H _ I d) λu l ⟨x,f,g,j,k⟩=>?_;obtain⟨i,rfl,q⟩:=k;obtain⟨t,rfl⟩:=j;exact⟨some i,f,g,.int i t,q⟩
def FW(X:aT)(r:V->Option Int->Option Int->ak->cr->Prop):Prop:=
 ∀(b:ZX)(s:Tl)(h:St)(H:ak)(x:V)(v i j:SC)(lo a:Option Int)(k:TE)(Q:cr),c_ X b h H s->d_ x v->s.heap.IsSliceOf k i j .none->IsPart i lo->IsPart j a->r x lo a H Q->
  ∃T id,typeLookup (.type T) "__getitem__"=pure (some (.builtin id))/\s.TypeIs v T/\wpAny (UV X.prog X.w) X.A (getItem v (.ref k)) (hf X b h Q) X.xe s
def On(r:V->Option Int->Option Int->ak->cr->Prop)(c:bH)(f d:sA):bH:=λb H Q=>c b H λx h=>f b h λl i=>d b i λu j=>r x l u j Q
theorem Oo{r:V->Option Int->Option Int->ak->cr->Prop}(p:FW X r)(t:bQ X e c)(y:Fb X lo f)(z:Fb X a d):bQ X (.Subscript e (.Slice lo a none p2) g) (On r c f d):=by
 intro j s k H Q I h;refine Subscript_ (cq (t j s k H _ I h) λv B ⟨x,C,E,F,G⟩=>?_);refine wpAny_Slice (cq (y j B k C _ E G) λm J ⟨l,K,L,M,N⟩=>cq (z j J k K _ L N) λn i ⟨u,o,O,P,R⟩=>?_);rw[evalPart_none];refine SZ ?_;have S:c_ X j k o {i with heap:=i.heap.push {cls:=.type "slice",data:=.fields #[m,n,.none]} }:=O.kept (t':=i.toks) λb Z q=>Heap.get?_push_of_some _ q;obtain⟨T,id,U,W,Y⟩:=p j {i with heap:=i.heap.push {cls:=.type "slice",data:=.fields #[m,n,.none]} } k o x v m n l u i.heap.objs.size Q S F (Heap.IsSliceOf.new ..) M P R;show wpAny (UV X.prog X.w) X.A (subscriptTail e (.Slice lo a none p2) v (.ref i.heap.objs.size)) (hf X j k Q) X.xe {i with heap:=i.heap.push {cls:=.type "slice",data:=.fields #[m,n,.none]} }
 exact tail_any (ops:=[.ref i.heap.objs.size,v]) W U Y (by with_unfolding_all rfl)
def wJ(b:ZL)(lo a:Option Int):List V:=(b.drop (HT.sIx b.length 0 lo)).take (HT.sIx b.length b.length a-HT.sIx b.length 0 lo)
theorem Op(b:ZL)(lo a:Option Int):(wJ b lo a).length<=b.length:=by
 unfold wJ;rw[TV,UI];lia
end
noncomputable def jg(n:Nat)(i:Int):Option Nat:=if 0<=i then(if i<n then some i.toNat else none)else if -(n:Int)<=i then some (i+n).toNat else none
def eB{a:Type}(b:List a)(i:Int):Option a:=(jg b.length i).bind λj=>b[j]?
theorem FX{n:Nat}{i:Int}{j:Nat}(h:jg n i=some j):seqIndex? i n=some j/\j<n /\ -(n:Int)<=i/\i<n:=by
 unfold jg at h;by_cases b:0<=i
 ·rw[SL b]at h;by_cases a:i<n
  ·rw[SL a]at h;have e:i.toNat=j:=SN h;exact⟨by rw[Za b a,e],by lia,by lia,a⟩
  rw[Tk a]at h;cases h
 rw[Tk b]at h;by_cases a : -(n:Int)<=i
 ·rw[SL a]at h;have e:(i+n).toNat=j:=SN h;exact⟨by rw[Zr (by lia) a,e],by lia,a,by lia⟩
 rw[Tk a]at h;cases h
theorem FY{b:Type}{a:List b}{i:Int}{v:b}(h:eB a i=some v):∃j,seqIndex? i a.length=some j/\a[j]?=some v/\j<a.length /\ -(a.length:Int)<=i/\i<a.length:=by
 unfold eB at h;cases e:jg a.length i with
 |none=>rw[e]at h;cases h
 |some j=>
  rw[e]at h;obtain⟨c,d,f,g⟩:=FX e;exact⟨j,c,h,d,f,g⟩
def q2(b:Wp):Prop:=∀o i,subscripted b false o i=operate [o,i] (getItem o i)
def sB(X:aT)(r:iV):Prop:=
 ∀(value slice:Wp)(a:ZX)(s:Tl)(b:St)(H:ak)(x y:V)(v u:SC)(Q:cr),c_ X a b H s->d_ x v->d_ y u->r x y H Q->
  subscripted slice false v u=operate [v,u] (getItem v u)->wpAny (UV X.prog X.w) X.A (subscriptTail value slice v u) (hf X a b Q) X.xe s
def t7(X:aT)(id:String)(r:V->ZL->ak->cr->Prop):Prop:=
 ∀(a:ZX)(s:Tl)(b:St)(H:ak)(x:V)(c:ZL)(v:SC)(d:ZT)(Q:cr),c_ X a b H s->d_ x v->bO c d->r x c H Q->
  wpAny (UV X.prog X.w) X.A (call (.builtin id) (v::d)) (hf X a b Q) X.xe s
section
variable{X:aT}{a b:Wp}{C E:bH}{B:Pos}
theorem k7{r:iV}(c:sB X r)(d:bQ X a C)(e:bQ X b E)(f:q2 b):bQ X (.Subscript a b B) (oL r C E):=by
 intro g s i H Q I h;exact Subscript_ (AR d e I h λv u j x y k l m n q=>c a b g j i k x y v u Q l m n q (f _ _))
def Oq(K:Su):iV:=λx y H Q=>∃p c i v,x=.ref p/\y=.int i/\cE K H p c/\eB c i=some v/\Q v H
def Os(K:Su):iV:=λx y H Q=>∃p c i v,x=.ref p/\y=.int i/\fx K H p c/\eB c i=some v/\Q v H
theorem A1:sB X (Oq X.K):=by
 intro value b f s g H x y v u Q I o A h k;obtain⟨p,N,i,z,rfl,rfl,B,C,q⟩:=h;cases o;obtain⟨t,rfl⟩:=A;obtain⟨c,r,d,O⟩:=I.list B;obtain⟨j,a,E,P,F,G⟩:=FY C;obtain⟨w,l,J⟩:=r.get E;have L:=r.length;have R:=t3;have m:hf X f g Q w s:=⟨z,H,I,J,q⟩;by_cases n:0<=i
 ·have e:i.toNat=j:=by
   rw[Za n G]at a;exact SN a
  exact item_listR d.isList n (by lia) (by rw[e];simpa using l) m k
 have e:(i+(c.toArray.size:Int)).toNat=j:=by
  rw[Zr (by lia) F]at a;rw[SX,<-L];exact SN a
 exact YJ (x:=w) d.isList.typeIs slot_list_getitem.lookup
  (wpAny_getItem_list_neg (Q:=λr M=>r=w/\hf X f g Q r M) d.isList (by lia) (by rw[SX]<;>lia) (by lia) (by rw[e];simpa using l) ⟨rfl,m⟩) k
theorem FZ:sB X (Os X.K):=by
 intro value a b s c H x y v u Q I e f h g;obtain⟨p,G,i,z,rfl,rfl,k,l,q⟩:=h;cases e;obtain⟨t,rfl⟩:=f;obtain⟨m,r,d,J⟩:=I.tuple k;obtain⟨j,n,o,L,M,N⟩:=FY l;obtain⟨w,A,B⟩:=r.get o;have C:=r.length;have O:=t3;have E:hf X b c Q w s:=⟨z,H,I,B,q⟩
 exact YJ (x:=w) d.typeIs slot_tuple_getitem.lookup
  (getItem_tuple (j:=j) (Q:=λr F=>r=w/\hf X b c Q r F) d (by lia) (by lia) (by rw[SX,<-C];exact n) (by simpa using A) ⟨rfl,E⟩) g
theorem Ot(a:ZT)(n j:Nat)(u:SC):Obj.mapSeq (·.setIfInBounds j u) {cls:=.type "list",data:=.seq a.toArray n}={cls:=.type "list",data:=.seq (a.set j u).toArray n}:=by
 simp[Obj.mapSeq]
theorem c_.lst{c:ZX}{d:St}{H:ak}{s:Tl}{p:TE}{b:ZL}(I:c_ X c d H s)(h:H p=some (.lst b)):
  ∃(a:ZT)(n:Nat),bO b a/\s.heap.get? p=some {cls:=.type "list",data:=.seq a.toArray n}/\b.length<=TI:=by
 obtain⟨z,a,n,r,e⟩:=I.ep p _ h;exact⟨a,n,r,e,z⟩
theorem c_.l6{g:ZX}{i:St}{H:ak}{s:Tl}{p:TE}{k ys:ZL}{c its':ZT}{n d:Nat}{f:Obj->Obj}(I:c_ X g i H s)(h:H p=some (.lst k))(l:s.heap.get? p=some {cls:=.type "list",data:=.seq c.toArray n})(j:f {cls:=.type "list",data:=.seq c.toArray n}={cls:=.type "list",data:=.seq its'.toArray d})(r:bO ys its')(m:ys.length<=TI)(t:Nat):
  c_ X g i (ed H p (.lst ys)) {s with heap:=s.heap.update p f,toks:=t}:=by
 have e:(s.heap.update p f).get? p=some {cls:=.type "list",data:=.seq its'.toArray d}:=by
  rw[Heap.get?_update_self f l (by rw[j]<;>rfl),j]
 refine I.write (x:=p) (e:=p) (by rw[h];trivial) (.inl rfl) (λb u o q=>(Heap.get?_update_other _ _ (Ta o)).trans q) ⟨_,e⟩ ?_;exact⟨m,its',d,r,e⟩
def Ou:V->V->V->ak->(ak->Prop)->Prop:=λo i v H Q=>∃p c k j,o=.ref p/\i=.int k/\H p=some (.lst c)/\jg c.length k=some j/\Q (ed H p (.lst (c.set j v)))
theorem A2:Fx X Ou:=by
 intro x s y H o i v G J u Q I z A B h;obtain⟨p,C,k,j,rfl,rfl,f,E,q⟩:=h;cases z;obtain⟨t,rfl⟩:=A;obtain⟨a,n,r,c,F⟩:=I.lst f;obtain⟨b,K,g,l⟩:=FX E;have d:=r.length;have L:=t3
 have m:c_ X x y (ed H p (.lst (C.set j v))) {s with heap:=s.heap.update p (Obj.mapSeq (·.setIfInBounds j u))}:=
  I.l6 f c (Ot a n j u) (r.set B j) (by rw[TX];exact F) s.toks
 by_cases w:0<=k
 ·have e:k.toNat=j:=by
   rw[Za w l]at b;exact SN b
  exact PySem.W.ki_setAt c w (by lia) (by rw[SX,<-d];exact l) (by rw[e];exact⟨_,m,q⟩)
 have e:(k+(a.toArray.size:Int)).toNat=j:=by
  rw[Zr (by lia) g]at b;rw[SX,<-d];exact SN b
 exact PySem.W.ki_setBack c (by lia) (by rw[SX,<-d];exact g) (by lia) (by rw[e];exact⟨_,m,q⟩)
theorem Ox(lo a:Option Int)(n:Nat):(Yd lo a none n).1=((HT.sIx n 0 lo:Nat):Int)/\(Yd lo a none n).2.1=((HT.sIx n n a:Nat):Int)/\(Yd lo a none n).2.2=1:=by
 refine⟨?_,?_,rfl⟩
 ·cases lo with
  |none=>simp[Yd,HT.sIx]
  |some i=>
   simp only[Yd,HT.sIx,Vd,show(1:Int)>0 by decide,if_true];by_cases h:i<0
   ·simp only[h,if_true]<;>lia
   simp only[h,if_false]<;>lia
 cases a with
 |none=>simp[Yd,HT.sIx]
 |some i=>
  simp only[Yd,HT.sIx,Vd,show(1:Int)>0 by decide,if_true];by_cases h:i<0
  ·simp only[h,if_true]<;>lia
  simp only[h,if_false]<;>lia
theorem Oy(a:ZT)(lo b:Option Int):slicePick a.toArray lo b none=((a.drop (HT.sIx a.length 0 lo)).take (HT.sIx a.length a.length b-HT.sIx a.length 0 lo)).toArray:=by
 obtain⟨c,d,e⟩:=Ox lo b a.toArray.size;unfold slicePick;rw[c,d,e];simp only[sliceRange_one,pick_run,SX]<;>rfl
def Oz(K:Su):V->Option Int->Option Int->ak->cr->Prop:=λx lo d H Q=>∃a c,x=.ref a/\cE K H a c/\∀p,H p=none->Q (.ref p) (ed H p (.lst (wJ c lo d)))
theorem OA:FW X (Oz X.K):=by
 intro p s t H x v u w lo d y Q I f g i j h;obtain⟨a,c,rfl,k,q⟩:=h;cases f;obtain⟨l,r,e,m⟩:=I.list k;have n:=r.length;refine⟨"list",_,slot_list_getitem.lookup,e.isList.typeIs,?_⟩;refine wpAny_getItem_list_slice e.isList g i j .none (by simp) ?_ (by rw[SX]<;>lia);rw[Oy,<-n];refine⟨.ref s.heap.objs.size,_,I.laid (t':=s.toks) (o:=.lst (wJ c lo d)) (λb z q=>Heap.get?_push_of_some _ q) (SF _) ?_,rfl,q _ (I.ep.fresh (SF _))⟩;exact⟨Sx (Op c lo d) m,_,0,(r.drop (HT.sIx c.length 0 lo)).take (HT.sIx c.length c.length d-HT.sIx c.length 0 lo),Heap.get?_push_size _ rfl⟩
theorem A3:oK X (.builtin "len") (λg H Q=>∃p a,g=[.ref p]/\(cE X.K H p a\/fx X.K H p a)/\Q (.int a.length) H):=by
 intro k s l H g m Q I r h;obtain⟨p,a,rfl,b,q⟩:=h;obtain⟨u,rfl,i⟩:=fo r;cases i;have n:=t3;rcases b with b|b
 ·obtain⟨c,d,e,j⟩:=I.list b;have f:=d.length;exact Calls.call_len_list e.isList (by simp only[SX]<;>lia) ⟨.int a.length,H,I.tok _,⟨s.toks+1,by rw[SX,f]⟩,q⟩
 obtain⟨c,d,e,j⟩:=I.tuple b;have f:=d.length;exact len_tuple e (by simp only[SX]<;>lia) ⟨.int a.length,H,I.tok _,⟨s.toks+1,by rw[SX,f]⟩,q⟩
theorem OB:oK X (.type "list") (λx H Q=>∃p d,x=[.ref p]/\(cE X.K H p d\/fx X.K H p d)/\∀l,H l=none->Q (.ref l) (ed H l (.lst d))):=by
 intro A s B H x F Q I r h;obtain⟨p,d,rfl,i,q⟩:=h;obtain⟨u,rfl,C⟩:=fo r;cases C
 have y:∀(a:ZT),bO d a->d.length<=TI->∀(c:XE)(f:Nat),(∀b z,s.heap.get? b=some z->c.get? b=some z)->
   c.get? s.heap.objs.size=some {cls:=.type "list",dict:=none,data:=.seq a.toArray f,slots :=#[]}->hf X A B Q (.ref s.heap.objs.size) {s with heap:=c }:=λa g j c f kp e=>
  ⟨.ref s.heap.objs.size,_,I.laid (t':=s.toks) kp (SF _) (show gG X.prog X.w _ c _ (.lst d)from⟨j,a,f,g,e⟩),rfl,q _ (I.ep.fresh (SF _))⟩
 rcases i with i|i
 ·obtain⟨a,g,k,j⟩:=I.list i;have E:=g.length;obtain⟨o,m,t,n,v⟩:=k.isList;exact call_list_seq p (.inl rfl) m t v (λc f kp e=>y a g j c f kp e) (by simp only[SX]<;>lia)
 obtain⟨a,g,k,j⟩:=I.tuple i;have E:=g.length;obtain⟨o,m,t,n,v⟩:=k;exact call_list_seq p (.inr rfl) m t v (λc f kp e=>y a g j c f kp e) (by simp only[SX]<;>lia)
def wK(K:Su)(T:String)(x:V)(H:ak):Prop:=match x with
 |.str _=>T="str"
 |.int _=>T="int"
 |.ref p=>(T="list"/\∃d,cE K H p d)\/(T="tuple"/\∃o,K.lookup p=some o/\o.cls=.type "tuple"/\o.dict=none) \/
   (T="dict"/\((∃c,H p=some (.dK c))\/∃c,H p=some (.dT c)))\/(T="set"/\∃S n,H p=some (.set S n))
 |_=>False
theorem F0{l:ZX}{m:St}{H:ak}{s:Tl}{T:String}{x:V}{v:SC}(I:c_ X l m H s)(r:d_ x v)(ty:wK X.K T x H):
  s.TypeIs v T/\∀a,v=.ref a->∃j,s.heap.get? a=some j/\j.dict=none:=by
 cases x with
 |str z=>
  obtain⟨t,rfl⟩:=r;cases(show T="str" from ty);exact⟨typeIs_str s z t,λ_ e=>nomatch e⟩
 |int i=>
  obtain⟨t,rfl⟩:=r;cases(show T="int" from ty);exact⟨typeIs_int s i t,λ_ e=>nomatch e⟩
 |ref p=>
  cases r;rcases ty with⟨rfl,y,q⟩|⟨rfl,o,b,u,f⟩|⟨rfl,b⟩|⟨rfl,S,n,b⟩
  ·obtain⟨w,_,k,_⟩:=I.list q;refine⟨k.isList.typeIs,λa e=>?_⟩;cases e;obtain⟨o,n,e,c,f,_⟩:=k;exact⟨o,e,f⟩
  ·refine⟨⟨o,I.gY p o b,u⟩,λa e=>?_⟩;cases e;exact⟨o,I.gY _ o b,f⟩
  ·have z:∃o,s.heap.get? p=some o/\o.ExactDict:=by
    rcases b with⟨g,b⟩|⟨g,b⟩
    ·obtain⟨_,_,_,_,o,_,_,e,d,_⟩:=I.ep p _ b;exact⟨o,e,d⟩
    obtain⟨_,_,_,_,o,_,_,e,d,_⟩:=I.ep p _ b;exact⟨o,e,d⟩
   obtain⟨o,e,d⟩:=z;refine⟨⟨o,e,d.1⟩,λa h=>?_⟩;cases h;exact⟨o,e,d.2.1⟩
  obtain⟨o,_,_,_,e,d,_⟩:=I.ep p _ b;refine⟨⟨o,e,d.1⟩,λa h=>?_⟩;cases h;exact⟨o,e,d.2.1⟩
 |_=>exact Tt ty
def OC(K:Su)(T:String)(r:V->ZL->ak->cr->Prop)(g:bH):bH:=λd H Q=>g d H λx c=>wK K T x c/\r x [] c Q
def OD(K:Su)(T:String)(r:V->ZL->ak->cr->Prop)(g:bH)(t:e3):bH:=λc H Q=>g c H λx d=>wK K T x d/\t c d λe f=>r x e f Q
variable{o e:Wp}{m:ZV}{g:bH}{t:e3}{name:Str}{A d:Pos}{T id:String}{r:V->ZL->ak->cr->Prop}
theorem wL(i:PlainAttrs T)(a:Slot T name id)(j:typeOf (.builtin id)=pure (.type "method_descriptor"))(k:t7 X id r)(l:bQ X o g)(m:iq X o name:=by rfl)(n:iS A d:=by rfl):bQ X (.Call (.Attribute o name A) [] [] d) (OC X.K T r g):=by
 intro b s c H Q I h;refine wpAny_Call_method0_late m n (cq (l b s c H _ I h) λv p ⟨x,q,e,f,ty,t⟩=>?_);obtain⟨u,w⟩:=F0 e f ty;exact⟨T,id,i,a,j,u,w,Calls.callWith_builtin rfl (WB (k b p c q x [] v [] Q e f .nil t))⟩
theorem sC(k:PlainAttrs T)(a:Slot T name id)(l:typeOf (.builtin id)=pure (.type "method_descriptor"))(n:t7 X id r)(p:bQ X o g)(q:hg X (e::m) t)(u:iq X o name:=by rfl)(w:lQ X d (e::m):=by rfl)(y:iS A d:=by rfl)(z:eN X e m:=by rfl)(B:hy X d m:=by rfl):
  bQ X (.Call (.Attribute o name A) (e::m) [] d) (OD X.K T r g t):=by
 intro b s c H Q I h;refine YK u w y rfl (cq (p b s c H _ I h) λv C ⟨x,E,f,i,ty,F⟩=>?_);obtain⟨G,J⟩:=F0 f i ty;refine⟨T,id,k,a,l,G,J,?_⟩;have j:=q d b C c E _ f F;rw[z]at j⊢;refine Calls.callWith_builtin (by show(false||(X9 d (UF m X.env)).any (·.1))=false;rw[B]<;>rfl) (Calls.evalArgs_plain ?_);exact cq j λL M ⟨N,O,P,R,S⟩=>n b M c O x N v L Q P i R S
end
def sD(X:aT)(id:String)(r:V->ZL->ak->cr->Prop):Prop:=
 ∀(a:ZX)(s:Tl)(b:St)(H:ak)(x:V)(c:ZL)(v:SC)(d:ZT)(Q:cr),c_ X a b H s->d_ x v->bO c d->r x c H Q->
  wpAny (UV X.prog X.w) X.A (call (.builtin id) (v::d)) (hf X a b Q) X.xe s
theorem bO.one:∀{x:V}{a:ZT},bO [x] a->∃u,a=[u]/\d_ x u
 |_,_,.cons r .nil=>⟨_,rfl,r⟩
theorem bO.two:∀{x y:V}{a:ZT},bO [x,y] a->∃u v,a=[u,v]/\d_ x u/\d_ y v
 |_,_,_,.cons r (.cons q .nil)=>⟨_,_,rfl,r,q⟩
theorem bO.zero:∀{a:ZT},bO [] a->a=[]
 |_,.nil=>rfl
theorem bO.dropLast{a:ZL}{b:ZT}(h:bO a b):bO a.dropLast b.dropLast:=by
 induction h with
 |nil=>exact .nil
 |cons r t c=>
  cases t with
  |nil=>exact .nil
  |cons q d=>exact .cons r c
theorem bO.eraseIdx:∀{a:ZL}{b:ZT}(i:Nat),bO a b->bO (a.eraseIdx i) (b.eraseIdx i)
 |_,_,_,.nil=>.nil
 |_,_,0,.cons _ t=>t
 |_,_,i+1,.cons r t=>.cons r (bO.eraseIdx i t)
theorem OE{c:Type}(l:List c):l.eraseIdx (l.length-1)=l.dropLast:=by
 induction l with
 |nil=>rfl
 |cons a r d=>
  cases r with
  |nil=>rfl
  |cons b r=>
   have e:(a::b::r).length-1=((b::r).length-1)+1:=by
    have f:(a::b::r).length=r.length+2:=rfl;have g:(b::r).length=r.length+1:=rfl;lia
   rw[e,WC,d]
   all_goals rfl
theorem A4{a:Type}:∀(l:List a)(i:Nat),(l.eraseIdx i).length<=l.length
 |[],_=>SF _
 |_::_,0=>Ux _
 |_::r,i+1=>Nat.succ_le_succ (A4 r i)
section
variable{X:aT}{c:ZX}{a:St}{H:ak}{s:Tl}{l b:TE}{d ys g:ZL}
theorem c_.je{b its':ZT}{n:Nat}{f:Array SC->Array SC}{t':Nat}(I:c_ X c a H s)(g:H l=some (.lst d))(e:s.heap.get? l=some {cls:=.type "list",data:=.seq b.toArray n})(i:f b.toArray=its'.toArray)(j:bO ys its')(k:ys.length<=TI):
  c_ X c a (ed H l (.lst ys)) {s with heap:=s.heap.update l (Obj.mapSeq f),toks:=t' }:=by
 have q:=PySem.IsL.update e f;rw[i]at q;refine I.write (x:=l) (e:=l) (by rw[g];exact trivial) (.inl rfl) (λp u m o=>(Heap.get?_update_other s.heap (Obj.mapSeq f) (Ta m)).trans o) ⟨_,q⟩ ?_;exact⟨k,its',_,j,q⟩
theorem c_.mx{its:ZT}{t':Nat}(I:c_ X c a H s)(b:bO ys its)(d:ys.length<=TI):
  c_ X c a (ed H s.heap.objs.size (.lst ys)) {s with heap:=s.heap.push {cls:=.type "list",data:=.seq its.toArray},toks:=t' }:=
 I.laid (λ_ _ q=>Heap.get?_push_of_some _ q) (SF _) ⟨d,its,0,b,Heap.get?_push_size _ rfl⟩
theorem c_.fresh(I:c_ X c a H s):H s.heap.objs.size=none:=I.ep.fresh (SF _)
theorem c_.gU(I:c_ X c a H s)(f:H l=some (.lst d)):d.length<=TI/\∃(b:ZT)(n:Nat),bO d b/\d.length=b.length/\s.heap.get? l=some {cls:=.type "list",data:=.seq b.toArray n}:=by
 obtain⟨z,b,n,r,e⟩:=I.ep l _ f;exact⟨z,b,n,r,r.length,e⟩
theorem F1{n:Nat}(h:n<=TI):Builtin.List.listTooLong n=false:=by
 unfold Builtin.List.listTooLong;exact decide_eq_false (by lia)
end
section
variable{X:aT}
def F3:V->ZL->ak->cr->Prop:=λx b H Q=>∃l a y,x=.ref l/\b=[y]/\H l=some (.lst a)/\a.length<TI/\Q .non (ed H l (.lst (a++[y])))
theorem wM:sD X "list.append" F3:=by
 intro g s i H x j v k Q I c d h;obtain⟨l,m,y,rfl,rfl,b,o,q⟩:=h;cases c;obtain⟨u,rfl,f⟩:=d.one;obtain⟨z,a,n,r,p,e⟩:=I.gU b;refine YY F.slot_list_append ⟨_,e,rfl⟩ F.entry_list_append (F.args_list_append_2 _ _) (PySem.list_append l a.toArray n u (by rw[SX];lia)) ⟨e,?_⟩;refine⟨.non,_,I.je (its':=a++[u]) b e (by simp) (r.append (.cons f .nil)) ?_,rfl,q⟩;rw[Sz,Tp];lia
def OF:V->ZL->ak->cr->Prop:=λx d H Q=>∃l b a c,x=.ref l/\d=[.ref b]/\H l=some (.lst a)/\H b=some (.lst c)/\a.length+c.length<=TI/\Q .non (ed H l (.lst (a++c)))
theorem OG:sD X "list.extend" OF:=by
 intro t s w H x y v A Q I d f h;obtain⟨l,b,B,C,rfl,rfl,c,g,E,q⟩:=h;cases d;obtain⟨u,rfl,i⟩:=f.one;cases i;obtain⟨z,its,n,r,G,e⟩:=I.gU c;obtain⟨J,a,j,k,K,m⟩:=I.gU g;have o:its.toArray.size+a.toArray.size<=TI:=by rw[SX,SX];lia
 have p:¬(!its.toArray.isEmpty&&Builtin.List.listTooLong (its.toArray.size+a.toArray.size))=true:=by
  rw[F1 o,Bool.and_false];exact SU
 refine YY F.slot_list_extend ⟨_,e,rfl⟩ F.entry_list_extend (F.args_list_extend_2 _ _)
  (AutoSeq1.list_extend_list_list_0 l its.toArray n b a.toArray j p (by rw[SX];lia) (by lia)) ⟨e,m,?_⟩
 refine⟨.non,_,I.je (its':=its++a) c e (by simp) (r.append k) ?_,rfl,q⟩;rw[Sz];lia
def OH:V->ZL->ak->cr->Prop:=λx b H Q=>∃l a y,x=.ref l/\b=[]/\H l=some (.lst a)/\a[a.length-1]?=some y/\Q y (ed H l (.lst a.dropLast))
theorem F4:sD X "list.pop" OH:=by
 intro o s p H x t v w Q I c d h;obtain⟨l,A,y,rfl,rfl,b,f,q⟩:=h;cases c;have g:=d.zero;subst g;obtain⟨z,a,n,r,i,e⟩:=I.gU b;obtain⟨u,j,k⟩:=r.get f
 have m:a.toArray[a.toArray.size-1]?=some u:=by
  show a.toArray[a.length-1]?=some u
  rw[<-UJ,<-i];exact j
 refine YY F.slot_list_pop ⟨_,e,rfl⟩ F.entry_list_pop (F.args_list_pop_1 _) (MeetsSeq.list_pop_last l a.toArray n u m (by rw[SX];lia)) ⟨e,?_⟩;refine⟨y,_,I.je (its':=a.dropLast) b e ?_ r.dropLast ?_,k,q⟩
 ·show a.toArray.eraseIdxIfInBounds (a.toArray.size-1)=a.dropLast.toArray
  rw[SX,WD,OE]
 rw[List.length_dropLast];lia
def OI:V->ZL->ak->cr->Prop:=λx b H Q=>∃l a i k y,x=.ref l/\b=[.int i]/\H l=some (.lst a) /\ -(2^63)<=i/\i<2^63/\seqIndex? i a.length=some k/\a[k]?=some y/\Q y (ed H l (.lst (a.eraseIdx k)))
theorem OJ:sD X "list.pop" OI:=by
 intro E s G H x J v K Q I c d h;obtain⟨l,f,i,k,y,rfl,rfl,b,g,j,m,o,q⟩:=h;cases c;obtain⟨u,rfl,p⟩:=d.one;obtain⟨t,rfl⟩:=p;obtain⟨z,a,n,r,A,e⟩:=I.gU b;obtain⟨w,B,C⟩:=r.get o
 refine YY F.slot_list_pop ⟨_,e,rfl⟩ F.entry_list_pop (F.args_list_pop_2 _ _)
  (MeetsSeq.list_pop_at l a.toArray n i t k w (fitsIndex_both g j) (by rw[SX,<-A];exact m) (by rw[<-UJ];exact B) (by rw[SX];lia)) ⟨e,?_⟩
 refine⟨y,_,I.je (its':=a.eraseIdx k) b e ?_ (r.eraseIdx k) ?_,C,q⟩
 ·show a.toArray.eraseIdxIfInBounds k=(a.eraseIdx k).toArray
  rw[WD]
 have:=A4 f k;lia
def OK:V->ZL->ak->cr->Prop:=λx a H Q=>∃l b,x=.ref l/\a=[]/\H l=some (.lst b)/\Q .non (ed H l (.lst []))
theorem F5:sD X "list.clear" OK:=by
 intro g s i H x j v k Q I c d h;obtain⟨l,m,rfl,rfl,b,q⟩:=h;cases c;have f:=d.zero;subst f;obtain⟨z,a,n,r,o,e⟩:=I.gU b;refine YY F.slot_list_clear ⟨_,e,rfl⟩ F.entry_list_clear (F.args_list_clear_1 _) (AutoSeq1.list_clear_list_0 l a.toArray n (by rw[SX];lia)) ⟨e,?_⟩;exact⟨.non,_,I.je (its':=[]) (ys:=[]) b e rfl .nil (Td _),rfl,q⟩
def OL:iV:=λx y H Q=>∃l b a c,x=.ref l/\y=.ref b/\H l=some (.lst a)/\H b=some (.lst c)/\a.length+c.length<=TI/\∀p,H p=none->Q (.ref p) (ed H p (.lst (a++c)))
theorem OM:g1 X (YD .Add) OL:=by
 intro o s p H x y v u Q I d f h;obtain⟨l,b,t,w,rfl,rfl,g,i,A,q⟩:=h;cases d;cases f;obtain⟨z,a,n,r,B,e⟩:=I.gU g;obtain⟨C,c,E,j,F,k⟩:=I.gU i;refine PySem.P.add_list e k ?_ (by rw[SX,SX];lia);have m:a.toArray++c.toArray=(a++c).toArray:=by simp
 rw[m];exact⟨.ref _,_,I.mx (t':=s.toks) (r.append j) (by rw[Sz];lia),rfl,q _ I.fresh⟩
end
section
variable{a:WP}{w:Xy}{A:Xz}{E:SC->Tl->Prop}{s:Tl}
set_option maxRecDepth 100000 in
end
namespace Att
theorem ON{P:Params}{h:XE}:∀(c:ZH)(d:ZT),WellAll P h d (c.map WData.int)->YU d c:=by
 intro c;induction c with
 |nil=>
  intro d w;rw[TA]at w;cases w;exact .nil
 |cons n c e=>
  intro d w;rw[SI]at w;cases w with
  |cons a b=>
   cases a;exact .cons _ _ (e _ b)
theorem OO{l:OpenLaw}{n:Nat}(m:l.most=some n){P:Params}{h:XE}{args:List WData}{c:ZT}(i:l.row.toRowW.claim.pre args=true)(o:WellAll P h c args):
  ∃a j b,c=[Value.ref a]/\args=[WData.list (b.map WData.int)]/\h.get? a=some {cls:=.type "list",data:=.seq j.toArray}/\YU j b/\b.length<=n:=by
 have f:WShape.hasAll [] args [.list .int]=true:=(pre_splitW i).1;have k:l.pre.holds [] {args:=args}=true:=(pre_splitW i).2;obtain⟨d,r,rfl,s,t⟩:=hasAllW_cons f;obtain rfl:=hasAllW_nil t;obtain⟨B,rfl,u⟩:=hasW_list s;obtain⟨b,rfl⟩:=items_int u
 have v:b.length<=n:=by
  unfold OpenLaw.pre at k
  have g:(WTm.not (.lt (.lit (.int (n:Int))) (.len (.arg 0)))).holds [] {args:=[.list (b.map .int)]}=true:=by
   have g:=(holds_andW k).1;rwa[m]at g
  have e:=condW_of g (w_not (w_lt w_lit (w_len_list (w_arg rfl))));rw[Sv]at e;refine Nat.le_of_not_lt λq=>?_;have w:(n:Int)<((b.length:Nat):Int):=by lia
  first
   | (rw[Xx w]at e;exact absurd e (by decide))
   | (simp at e;lia)
 cases o with
 |cons x y=>
  cases y;cases x with
  |list z A=>exact⟨_,_,b,rfl,rfl,z,ON b _ A,v⟩
theorem OP(l:OpenLaw)(args:List WData):l.row.toRowW.claim.post args (.bool true) args=true:=
 postW_of (r:=l.row.toRowW) (X:=(true==true))
  (show WShape.has [] (.bool true) .bool=true by first|rfl|decide|simp[WShape.has,WShape.arms,WShape.armsAll])
  (show(WTm.eq .res (.lit (.bool true))).value [] {args:=args,res:=some (.bool true),after:=args}=some (.bool (true==true))from w_eq_bool (w_res rfl) w_lit) rfl
theorem attach_call{l:OpenLaw}{n:Nat}{q:WP}{b:ZS}{u:(Str->Option SC)->XE->Prop}{v:Xy->XE->Prop}{d:DefRec}(z:l.most=some n)(A:d.params.defaults=[])(call:∀(w:Xy)(c e:Tl)(j s:Str->Option SC)(i:TE)(o:Obj)(t k g:SC)(a:TE)(vs:ZT)(m:ZH),Ground q b [] u w c j s e.heap->v w e.heap->e.heap.get? i=some o->o.data=.func (docDef d.name d.params d.body d.scope t k g)->e.heap.CodeRec k d.name->j d.name=some (.ref i)->e.heap.get? a=some {cls:=.type "list",data:=.seq vs.toArray}->YU vs m->m.length<=n->e.gens = #[]->codeAny (UV l.prog w) Zo (.call (.ref i) ⟨[.ref a],[]⟩) (λr p=>r=.ok (.ret (.bool true))/\OldK e.heap p.heap/\p.os=e.os/\YN p.gens) e):
  WalkO q b u v l.row.toRowW d [] (λf vs=>PySem.call f vs):=by
 intro w c e j s G Y i o t k g C kV E F H x I J args y X K L M N O;obtain rfl:C=.none:=Dflts.none x A;obtain rfl:kV=.none:=Dflts.noKw x;obtain⟨a,vs,m,rfl,rfl,P,h,Q⟩:=OO z K N;refine enter_call (YT (call w c e j s i o t k g a vs m G Y E (fd_plain F) H I P h Q J) λr p R=>?_);obtain⟨rfl,S,T,U⟩:=R;exact⟨.inl ⟨.bool true,.bool true,[],rfl,λ_=>rfl,.bool true,OP l _,λ_=>⟨List.Pairwise.nil,λ_ W=>(nomatch W)⟩⟩,S,T,U⟩
end Att
theorem A':∀{a:ZT}{b:ZH},YU a b->bO (b.map V.int) a
 |_,_,.nil=>.nil
 |_,_,.cons n t h=>.cons ⟨t,rfl⟩ (A' h)
def F6(H:ak):Prop:=∀b,H b=none\/(∃o a,H b=some (.frz o (.lst a)))\/∃c,H b=some (.tbl c)
theorem OQ{P:WP}{w:Xy}{K:Su}{J T:Str->Option SC}{aq:nK}{k:Nat}{U a:TE}{av:X4}{x:Str}{sp:iW}{c:Tl}{C:ZT}{G:ZH}(aw:K.In c.heap)(ax:c.heap.Ns Uf J)(f:c.heap.Ns XX T)(aN:∀x:Str,x≠"__name__"->T x=XM x)(aO:c.heap.NoLimit)(aP:c.gens = #[])(L:c.heap.get? a=some {cls:=.type "list",data:=.seq C.toArray})(ay:YU C G)(az:G.length<=TI)(aQ:ez k Zo)(F:∀base:XE,K.In base->base.Ns Uf J->kB P w K J base aq k U av [x] sp)(aS:∀(s:Tl)(u:SC),ZE s av ⟨[u],[]⟩ [(x,u)])(Fc:ak)(l:∀b u,Fc b=some u->(∃j,u=eo.tbl j)/\c.heap.get? b=some {cls:=.none,data:=.fields #[]}/\K.lookup b=none/\isCodeTable c.heap b)(aB:pK K Fc)(aU:∀H:ak,F6 H->cE K H a (G.map V.int)->sp [.ref a] H (λv _=>v=.bl true) λ_ _ _=>False)(aV:∀H e g,aq [] H c (λ_ _ _=>False) e g->False):
  codeAny (UV P w) Zo (.call (.ref U) ⟨[.ref a],[]⟩) (λr g=>r=.ok (.ret (.bool true))/\OldK c.heap g.heap/\g.os=c.os/\YN g.gens) c:=by
 have aC:=A' ay;have a4:=ay.length
 have core:∀H:ak,F6 H->cE K H a (G.map V.int)->fm P w H c.heap->(∀b u,H b=some u->(b=a/\∃o B,u=.frz o (.lst B))\/Fc b=some u)->(∀b u,H b=some u->K.lookup b=none)->pK K H->
   codeAny (UV P w) Zo (.call (.ref U) ⟨[.ref a],[]⟩) (λr g=>r=.ok (.ret (.bool true))/\OldK c.heap g.heap/\g.os=c.os/\YN g.gens) c:=by
  intro H a5 a6 M W a' ba;have aD:∀{b:TE}{o:Obj},c.heap.get? b=some o->H b=none->(oB c.heap H).get? b=some o:=λe n=>MS e n
  have bb:∀{b:TE}{o:Obj}{Q:Array YA}{R:Nat},c.heap.get? b=some o->o.data=.dict Q R->H b=none:=λ{b o Q R} e d=>by
   cases q:H b with
   |none=>rfl
   |some u=>
    rcases W b u q with⟨X,_⟩|X
    ·subst X;rw[L]at e;cases e;cases d
    rw[(l b u X).2.1]at e;cases e;cases d
  have S:∀{b:TE}{m:Str->Option SC},c.heap.Ns b m->(oB c.heap H).Ns b m:=λ{b m} ⟨o,Q,R,e,d,r⟩=>⟨o,Q,R,aD e (bb e d),d,r⟩
  have aE:K.In (oB c.heap H):=λb o e=>aD (aw b o e) (by
   cases q:H b with
   |none=>rfl
   |some u=>rw[a' b u q]at e;cases e)
  have bc:Mod K J (oB c.heap H):=⟨aE,S ax,⟨T,S f,aN⟩,let⟨bf,bg,bj⟩:=aO;⟨bf,S bg,bj⟩⟩;have bw:wG P w K J (oB c.heap H) Zo [] c H:=⟨rfl,bc,λb o e=>MT e,Ve (MR _ _),trivial,λb f=>absurd (show b∈([]:ZU)from f) (by simp),M,.of_eq aP,ba⟩;refine YT ((F _ aE (S ax)).run Zo [] c H ⟨[.ref a],[]⟩ [.ref a] [.ref a] _ _ aQ bw (aS c (.ref a)) (.cons rfl .nil) (aU H a5 a6)) λr g h=>?_;cases r with
  |error e=>exact(aV H e g h).elim
  |ok bD=>
   cases bD with
   |next=>exact Tt h
   |brk=>exact Tt h
   |cont=>exact Tt h
   |ret u=>
    obtain⟨v,bT,os,N,Y,aH,bG,q⟩:=h;have bK:v=.bl true:=q;subst bK;obtain rfl:u=Value.bool true:=bG
    have aI:∀b u,H b=some u->Fc b=some u->∃I,g.heap.get? b=some {cls:=.none,data:=.fields I}:=λb u q z=>by
     obtain⟨⟨j,rfl⟩,_⟩:=l b u z;obtain⟨aJ,Z⟩:=Y.gi b j q;obtain⟨I,y,_⟩:=aH b _ Z;exact⟨I,y⟩
    have aK:∀b o E B,c.heap.get? b=some o->H b=some (.frz E (.lst B))->g.heap.get? b=some o:=λb o E B e z=>by
     have Z:=Y.g7 b E _ z;obtain⟨A,_⟩:=M b _ z;obtain⟨y,_⟩:=aH b _ Z;rw[e]at A;cases A;exact y
    have aM:∀b o,c.heap.get? b=some o->H b=none->g.heap.get? b=some o:=λb o e q=>Y.keep b o e q (by intro z;exact absurd (show b∈([]:ZU)from z) (by simp)) (by simp);refine⟨rfl,⟨λb o e=>?_,λb o e=>?_⟩,os,N⟩
    ·cases q:H b with
     |none=>exact .inl (aM b o e q)
     |some u=>
      rcases W b u q with⟨_,E,B,rfl⟩|z
      ·exact .inl (aK b o E B e q)
      obtain⟨I,y⟩:=aI b u q z;obtain⟨_,A,_,bL⟩:=l b u z;rw[e]at A;cases A;exact .inr (.inl ⟨bL,rfl,#[],I,rfl,by rw[y];simp⟩)
    cases q:H b with
    |none=>exact⟨o,aM b o e q⟩
    |some u=>
     rcases W b u q with⟨_,E,B,rfl⟩|z
     ·exact⟨o,aK b o E B e q⟩
     obtain⟨I,y⟩:=aI b u q z;exact⟨_,y⟩
 have tok:∀(H:ak) b u,Fc b=some u->gG P w H c.heap b u:=λH b u z=>by
  obtain⟨⟨j,rfl⟩,e,_⟩:=l b u z;exact⟨#[],e,trivial,λposQz bV bM=>by cases bM⟩
 have bR:Fc a=none:=by
  cases z:Fc a with
  |none=>rfl
  |some u=>have:=(l a u z).2.1;rw[L]at this;cases this
 cases aj:K.lookup a with
 |some o=>
  have e:=aw a o aj;rw[L]at e;cases e;refine core Fc (λb=>?_) (.inr ⟨_,C.toArray,_,aj,rfl,rfl,rfl,by rw[SX,a4];exact az,by simpa using aC⟩) (λb u z=>tok Fc b u z) (λb u z=>.inr z) (λb u z=>(l b u z).2.2.1) aB;cases z:Fc b with
  |none=>exact .inl rfl
  |some u=>obtain⟨⟨j,rfl⟩,_⟩:=l b u z;exact .inr (.inr ⟨j,rfl⟩)
 |none=>
  have O:∀b,b≠a->(if b=a then some (eo.frz {cls:=.type "list",data:=.seq C.toArray} (.lst (G.map V.int)))else Fc b)=Fc b:=λb f=>Tk f;refine core (λb=>if b=a then some (.frz {cls:=.type "list",data:=.seq C.toArray} (.lst (G.map V.int)))else Fc b) (λb=>?_) (.inl (.inr ⟨{cls:=.type "list",data:=.seq C.toArray},SL rfl⟩)) (λb u z=>?_) (λb u z=>?_) (λb u z=>?_) (λp bS=>?_)
  ·by_cases f:b=a
   ·exact .inr (.inl ⟨_,_,SL f⟩)
   dsimp only;rw[O b f];cases z:Fc b with
   |none=>exact .inl rfl
   |some u=>obtain⟨⟨j,rfl⟩,_⟩:=l b u z;exact .inr (.inr ⟨j,rfl⟩)
  ·by_cases f:b=a
   ·have ao:=(SL f).symm.trans z;cases ao;subst f;exact⟨L,by rw[Sv];exact az,C,_,aC,L⟩
   exact tok _ b u ((O b f).symm.trans z)
  ·by_cases f:b=a
   ·have ao:=(SL f).symm.trans z;cases ao;exact .inl ⟨f,_,_,rfl⟩
   exact .inr ((O b f).symm.trans z)
  ·by_cases f:b=a
   ·rw[f];exact aj
   exact(l b u ((O b f).symm.trans z)).2.2.1
  obtain⟨j,t,A,y⟩:=aB p bS;have f:p.1≠a:=λz=>by rw[z,bR]at A;cases A
  exact⟨j,t,(O _ f).trans A,y⟩
def q5(s:XD):X2:=match s with
 |.FunctionDef _ a _ _ _ _ _ _ _ _=>a
 |_=>{posonlyargs:=[],args:=[],vararg:=none,kwonlyargs:=[],kw_defaults:=[],kwarg:=none,defaults:=[]}
def jZ(s:XD):List XD:=match s with
 |.FunctionDef _ _ b _ _ _ _ _ _ _=>b
 |_=>[]
def bN(s:XD):XW:=match s with
 |.FunctionDef _ _ _ _ _ _ sc _ _ _=>sc
 |_=>{kind:=.function,names:=[],isGenerator:=false,isCoroutine:=false}
abbrev j0:nK:=λ_ _ _ _ _ _=>False
abbrev wO:gW:=λ_ _ _=>False
theorem OU{X:aT}:AX j0 X wO:=λ_ _ _ _ _ _ _ h=>h.elim
structure nR(K:Su)(x qual:Str)(st:XD)(f:TE)(fd:X4):Prop where
 ex:∃(oc:SC)(od:Option TE)(kV doc pm:SC)(an:Option TE)(cdv ct:SC)(osl:Array (Option SC)),
  fd=UH x qual (q5 st) (jZ st) (bN st) .none kV doc pm an cdv ct/\K.lookup f=some ⟨oc,od,.func fd,osl⟩/\VM K cdv qual=true
 kp:Vc K (.ref f)=true
section
variable{P:WP}{w:Xy}{K:Su}{b:Str->Option SC}{a:XE}
theorem nR.ok{x qual:Str}{st:XD}{f:TE}{fd:X4}{N d:ZS}{k:Nat}{sp:iW}(F:nR K x qual st f fd)(S:cy N d (bN st))(e:∀vs H Q E,sp vs H Q E->vs.length=d.length)(g:∀(cdv:SC)(A:Xz)(c:List Env)(s:Tl)(H:ak)(vs:ZL)(Q:cr)(E:gW),ez k (A.deeper (Y5 qual (bN st) s.heap.objs.size f cdv))->sp vs H Q E->∃t,jd (k6 j0 P w K b a N qual (bN st) f cdv A c s H E).jD (jZ st) t/\t {nx:=λ_ i=>Q .non i,rt:=Q} (fP N vs) H):kB P w K b a j0 (k+1) f fd d sp:=by
 obtain⟨oc,od,kV,doc,pm,an,cdv,ct,osl,rfl,lk,j⟩:=F.ex;refine FU lk j S e λA c s H vs Q E l m=>?_;obtain⟨t,h,q⟩:=g cdv A c s H vs Q E l m;exact⟨t,h.jD,q⟩
theorem nR.binds{x qual:Str}{st:XD}{f:TE}{fd:X4}{a:ZS}(F:nR K x qual st f fd)(h:∀(kV doc pm:SC)(an:Option TE)(cdv ct:SC)(b:ZT),b.length=a.length->YX (UH x qual (q5 st) (jZ st) (bN st) .none kV doc pm an cdv ct) ⟨b,[]⟩=pure (a.zip b)):fU K fd a []:=by
 obtain⟨oc,od,kV,doc,pm,an,cdv,ct,osl,rfl,lk,c⟩:=F.ex;exact .all (h kV doc pm an cdv ct)
theorem OV{x a:Str}{st:XD}{f:TE}{oc:SC}{od an:Option TE}{osl:Array (Option SC)}{kV doc pm cdv ct:SC}(l:K.lookup f=some ⟨oc,od,.func (UH x a (q5 st) (jZ st) (bN st) .none kV doc pm an cdv ct),osl⟩)(c:VM K cdv a=true)(k:Vc K (.ref f)=true):nR K x a st f (UH x a (q5 st) (jZ st) (bN st) .none kV doc pm an cdv ct):=⟨⟨oc,od,kV,doc,pm,an,cdv,ct,osl,rfl,l,c⟩,k⟩
end
section
variable{X:aT}
theorem f'(i:Nat){x:Str}{a:Pos}(b:gV X i x:=by rfl)(c:gh X.env.scope x:=by walk_at"v")(d:ec x:=by decide)(e:gO x:=by decide):bQ X (.Name x a) (AG i):=gZ b c d e
end
theorem eO{A B:Prop}(h:B):if false=true then A else B:=by
 rw[Tk SU];exact h
theorem Gd{A B:Prop}(h:A):if true=true then A else B:=by
 rw[SL rfl];exact h
def cj(H a:ak):Prop:=∀b o,H b=some o->a b=some o
theorem cj.refl(H:ak):cj H H:=λ_ _ h=>h
theorem cj.trans{H d e:ak}(a:cj H d)(b:cj d e):cj H e:=λc o h=>b c o (a c o h)
theorem cj.free{H H':ak}(e:cj H H'){l:TE}(h:H' l=Option.none):H l=Option.none:=by
 cases q:H l with
 |none=>rfl
 |some o=>
  rw[e l o q]at h;cases h
theorem cj.seq{K:Su}{H H':ak}{a:TE}{b:ZL}(e:cj H H')(h:cE K H a b):cE K H' a b:=by
 rcases h with(h|⟨o,h⟩)|h
 ·exact .inl (.inl (e _ _ h))
 ·exact .inl (.inr ⟨o,e _ _ h⟩)
 exact .inr h
set_option maxHeartbeats 4000000
def Ba(i j:Int):Prop:=SB i<=9000/\SB j<=9000
def wP(_ j:Int):Prop:=j≠0/\SB j<=9000
theorem OW{x y:Int}(h:SB y<=9000):Builtin.divisionGoesByPylong x y=false:=by
 by_cases a:y=0
 ·subst a;exact PyProof.noPylong_small (by decide)
 refine PyProof.noPylong_of_log2 ?_;have q:=intBits_le_iff.mp h;have b:y.natAbs≠0:=by lia
 exact(Nat.log2_lt b).mpr q
section
variable{X:aT}{a b:Wp}{g l:bH}{d:Pos}
theorem ua:g1 X (YD .Mult) (sx Ba λi j=>.int (i*j)):=wA λ_ _ _ _ _ _ _ a q=>mul_int q (IntMulOk.of_le a.1 a.2 (by decide))
theorem wQ:g1 X (YD .FloorDiv) (sx wP λi j=>.int (i.fdiv j)):=wA λ_ _ _ _ _ _ _ a q=>floordiv_int a.1 q (.inl (OW a.2))
theorem oN:g1 X (XR .Eq) (lT λi j=>.bl (decide (i=j))):=sy λ_ _ _ _ _ _ _ q=>eq_int (by rw[WE];exact q)
theorem q6:g1 X (XR .NotEq) (lT λi j=>.bl (!decide (i=j))):=sy λ_ _ _ _ _ _ _ q=>ne_int (by rw[bne,WE];exact q)
def OX(H:ak)(p:TE)(c:ZL):Prop:=H p=some (.tup c)\/H p=some (.lst c)
def OY:iV:=λx y H Q=>∃p c i v,x=.ref p/\y=.int i/\OX H p c/\eB c i=some v/\Q v H
theorem oO:sB X OY:=by
 intro value a c s d H x y v u Q I e f h g;obtain⟨p,j,i,z,k,l,b,m,q⟩:=h;rcases b with b|b
 ·exact FZ value a c s d H x y v u Q I e f ⟨p,j,i,z,k,l,fx.of b,m,q⟩ g
 exact A1 value a c s d H x y v u Q I e f ⟨p,j,i,z,k,l,cE.of b,m,q⟩ g
theorem OZ:oK X (.builtin "isinstance") (λa H Q=>∃x t n b,a=[x,.ty n]/\kA X.K H x t/\VJ X.K t (.type n)=some b/\Q (.bl b) H):=by
 intro f s g H a i Q I r h;obtain⟨x,t,n,b,rfl,ty,e,q⟩:=h;obtain⟨u,j,rfl,c,d⟩:=mh r;cases d;exact N' I c ty e λk=>⟨.bl b,H,I.tok _,rfl,q⟩
structure ca(P:WP)(w:Xy)(K:Su)(mg:Str->Option SC)(base:XE)(x:Str)(ps:ZS)(k:Nat)(sp:iW):Prop where
 ex:∃f fd,mg x=some (.ref f)/\Vc K (.ref f)=true/\fU K fd ps []/\kB P w K mg base j0 k f fd ps sp
structure cG(K:Su)(mg:Str->Option SC)(x:Str)(st:XD)(ps:ZS):Prop where
 ex:∃f fd,mg x=some (.ref f)/\nR K x x st f fd/\fU K fd ps []
theorem ca.imp{P:WP}{w:Xy}{K:Su}{d:Str->Option SC}{a:XE}{x:Str}{e:ZS}{k:Nat}{sp g:iW}(c:ca P w K d a x e k sp)(h:∀i H Q E,g i H Q E->sp i H Q E):ca P w K d a x e k g:=by
 obtain⟨f,j,m,kp,b,F⟩:=c.ex;exact⟨f,j,m,kp,b,F.imp h⟩
theorem oP{x:Str}{g:ZS}{j k:Nat}{sp:iW}{p:Pos}{e:Wp}{a:ZV}{t:e3}(c:ca X.prog X.w X.K X.mg X.base x g j sp)(h:ez k X.A)(i:eG X x)(l:hg X (e::a) t)(n:j<=k:=by decide)(o:ec x:=by decide)(q:eN X e a:=by rfl)(r:hy X d a:=by rfl):
  bQ X (.Call (.Name x p) (e::a) [] d) (FN sp [] wO t):=by
 obtain⟨f,s,m,kp,b,F⟩:=c.ex;exact Of F (h.mono n) i m kp b .nil OU l o q r
theorem cG.ok{P:WP}{w:Xy}{K:Su}{g:Str->Option SC}{a:XE}{x:Str}{st:XD}{N e:ZS}{k:Nat}{sp:iW}(F:cG K g x st e)(S:cy N e (bN st))(h:∀vs H Q E,sp vs H Q E->vs.length=e.length)(j:∀(f:TE)(d:SC)(A:Xz)(c:List Env)(s:Tl)(H:ak)(vs:ZL)(Q:cr)(E:gW),ez k (A.deeper (Y5 x (bN st) s.heap.objs.size f d))->sp vs H Q E->∃t,jd (k6 j0 P w K g a N x (bN st) f d A c s H E).jD (jZ st) t/\t {nx:=λ_ l=>Q .non l,rt:=Q} (fP N vs) H):ca P w K g a x e (k+1) sp:=by
 obtain⟨f,n,m,i,b⟩:=F.ex;exact⟨f,n,m,i.kp,b,i.ok S h (j f)⟩
end
theorem hB{p:Prop}[Decidable p]{A B:Prop}(a:p->A)(b:¬p->B):if decide p=true then A else B:=by
 by_cases h:p
 ·rw[Xx h];exact a h
 rw[decide_eq_false h];exact b h
theorem O0{p:Prop}[Decidable p]{A B:Prop}(a:¬p->A)(b:p->B):if(!decide p)=true then A else B:=by
 by_cases h:p
 ·rw[Xx h];exact b h
 rw[decide_eq_false h];exact a h
def nS(b:TE)(H c:ak):Prop:=∀a o,a≠b->H a=some o->c a=some o
theorem nS.trans{b:TE}{H c d:ak}(e:nS b H c)(f:nS b c d):nS b H d:=λa o n h=>f a o n (e a o n h)
theorem nS.upd(b:TE)(H:ak)(o:eo):nS b H (L3.ed H b o):=λa u n h=>by rw[bP n];exact h
theorem wR{H:ak}{p:TE}(h:H p=none)(o:eo):cj H (L3.ed H p o):=λb u q=>by rw[bP (hP q h)];exact q
theorem fm.but{P:WP}{w:Xy}{H:ak}{h d:XE}{C:TE}(x:fm P w H h)(n:H C=none)(k:∀b u,b≠C->h.get? b=some u->d.get? b=some u):fm P w H d:=λa o e=>
 (x a o e).gj (λb u c q=>k b u (by rcases c with rfl|c;exact hP e n;exact hP c n) q) (λ_ q=>q) (λ_ _ q=>q) λ_ _ _ q=>q
theorem f7.but{c d:ZU}{H g:ak}{h i j:XE}{C:TE}(u:f7 c d H g h i)(a:h.get? C=none)(k:∀b u,b≠C->i.get? b=some u->j.get? b=some u):f7 c d H g h j where
 keep:=λb o q n f e=>k b o (by rintro rfl;rw[a]at q;cases q) (u.keep b o q n f e)
 slot:=λb o q n f e=>by
  obtain⟨l,z⟩:=u.slot b o q n f e;exact⟨l,k b _ (by rintro rfl;rw[a]at q;cases q) z⟩
 free:=u.free
 there:=λb o q e=>by
  obtain⟨m,z⟩:=u.there b o q e;exact⟨m,k b _ (by rintro rfl;rw[a]at q;cases q) z⟩
 ht:=u.ht
 g7:=u.g7
 gi:=u.gi
noncomputable def d7(X:aT)(N:ZS)(a:XW)(e:List (Str×TE))(C:TE)(s:Tl)(H:ak)(b:ZU):aT:=
 {X with N:=N,s₀:=s,H₀:=H,env:=YZ a e C X.env,outer:=X.stack,ex:=b,fn:=λ_=>false,pn:=[],xe:=λ_ _=>False}
def iu(a:St)(b:ZO):St:=b.map λj=>(a[j]?).join
theorem bO.h9:∀{a:ZL}{b:ZT}{i:Nat}{u:SC},bO a b->b[i]?=some u->∃x,a[i]?=some x/\d_ x u
 |_,_,_,_,.nil,e=>by simp at e
 |_,_,0,_,.cons r _,e=>by simp at e;subst e;exact⟨_,rfl,r⟩
 |_,_,i+1,u,.cons _ t,e=>by
  obtain⟨x,c,d⟩:=bO.h9 (i:=i) (u:=u) t (by simpa using e);exact⟨x,by simpa using c,d⟩
section
variable{X:aT}
theorem O1(j:X.calm=true):oK X (.builtin "all") (λg H Q=>∃l c,g=[.ref l]/\H l=some (.lst c)/\(∀y∈c,y=.bl true)/\Q (.bl true) H):=by
 intro J s K H g L Q I r h;obtain⟨l,c,rfl,k,m,q⟩:=h;obtain⟨u,rfl,n⟩:=fo r;cases n;obtain⟨a,p,t,M⟩:=I.list (cE.of k);have d:=t.isList
 have w:l<s.heap.objs.size:=by
  obtain⟨_,e,_⟩:=d;exact Heap.lt_size e
 refine call_all_walk (Yc d ⟨s.heap.objs.size,[s.heap.objs.size,l],[s.heap.objs.size],a.toArray.size,_,_,λ_=>true,rfl,Walks.list (A:=X.A.in1) (I.ok.hd j) _ l (S5 w) a.toArray,?_,?_,?_⟩)
 ·exact⟨⟨_,Heap.get?_push_size _ rfl,rfl,rfl⟩,d.push _⟩
 ·intro i v N O P x z;obtain⟨y,B,C⟩:=p.h9 (i:=i) (u:=v) (by simpa using x);have e:=m y (S' B);subst e;cases C;exact XF z
 intro h' E F;have e:((S7 a.toArray.size).all λ_=>true)=true:=by simp
 rw[e];refine⟨.bl true,H,I.kept (h':=h') (t':=E) λb o f=>?_,rfl,q⟩;refine F b o (λG=>?_) (Heap.get?_push_of_some _ f);rw[SQ.mp G]at f;exact TU _ (Heap.lt_size f)
end
theorem wS{x:Int}(a : -(2^64)<x)(b:x<2^64):SB x<=64:=intBits_le_64 a b
theorem fW{x t:Int}{n:Nat}(h:x.natAbs<=t.natAbs)(a:SB t<=n):SB x<=n:=Y1 h a
def a8(x y:Int):Prop:=0<y/\Ss x y=1
theorem Ge{x y:Int}(a:0<=x)(b:0<y):Ss y (x%y)=Ss x y:=by
 obtain⟨m,rfl⟩:=WG a;obtain⟨n,rfl⟩:=WG (Ti b);have e:((m:Int)%(n:Int))=((m%n:Nat):Int):=rfl;rw[e];show Tf n (m%n)=Tf m n
 rw[VN m n,Nat.gcd_rec n m,VN]
theorem Gf(a b:Int):Ss (if a<0 then -a else a) (if b<0 then -b else b)=Ss a b:=by
 have e:∀z:Int,(if z<0 then -z else z).natAbs=z.natAbs:=λz=>by split<;>lia
 unfold Ss;rw[e,e]
theorem Gg{x:Int}(h:0<=x):((Ss x 0:Nat):Int)=x:=by
 rw[WH];lia
theorem q7{t b:Int}(a:b≠0):0<((Ss t b:Nat):Int):=by
 have:0<Ss t b:=Vf t a;lia
theorem Gh{t b g s:Int}(j:b≠0)(e:g=(Ss t b:Nat))(a:s=g/\0<b\/s = -g/\b<0):
  a8 (t.fdiv s) (b.fdiv s)/\t.fdiv s*b=t*b.fdiv s/\(t.fdiv s).natAbs<=t.natAbs/\(b.fdiv s).natAbs<=b.natAbs:=by
 have k:0<g:=by rw[e];exact q7 j
 have l:g∣t:=by rw[e];exact Vg t b
 have m:g∣b:=by rw[e];exact U1 t b
 have p:s∣t:=by rcases a with⟨h,_⟩|⟨h,_⟩<;>rw[h];exact l;exact UK.mpr l
 have r:s∣b:=by rcases a with⟨h,_⟩|⟨h,_⟩<;>rw[h];exact m;exact UK.mpr m
 have n:s≠0:=by rcases a with⟨h,_⟩|⟨h,_⟩<;>lia
 obtain⟨x,f⟩:=p;obtain⟨y,c⟩:=r;have o:t.fdiv s=x:=by rw[f];exact UL x n
 have i:b.fdiv s=y:=by rw[c];exact UL y n
 have u:(t.fdiv s).natAbs<=t.natAbs:=Xw t s;have v:(b.fdiv s).natAbs<=b.natAbs:=Xw b s;refine⟨⟨?_,?_⟩,?_,u,v⟩
 ·rw[i];rcases a with⟨h,d⟩|⟨h,d⟩
  ·rw[c,h]at d;exact Ub d k
  rw[c,h]at d;have:0<g*y:=by rw[Uc]at d;lia
  exact Ub this k
 ·rw[o,i]
  have q:Ss t b=s.natAbs*Ss x y:=by
   rw[f,c,VO]
  have w:s.natAbs=g.toNat:=by rcases a with⟨h,_⟩|⟨h,_⟩<;>lia
  have z:g.toNat=Ss t b:=by lia
  rw[w,z]at q;have posQz:0<Ss t b:=Vf t j;have:Ss t b*Ss x y=Ss t b*1:=by lia
  exact VP posQz this
 rw[o,i];have:x*b=x*(s*y):=by rw[<-c]
 have A:t*y=s*x*y:=by rw[<-f]
 rw[this,A,<-Ud,S4 x s]
theorem oR{k n m:Int}(h:k∣n*m)(g:Ss k n=1):k∣m:=by
 have q:=Int.dvd_gcd_mul_iff_dvd_mul.mpr h;rw[g]at q;simpa using q
theorem Be{x y b a:Int}(h:a8 x y)(d:a8 b a)(e:x*a=b*y):x=b/\y=a:=by
 obtain⟨p,g⟩:=h;obtain⟨f,i⟩:=d
 have j:y∣a:=by
  have:y∣x*a:=⟨b,by rw[e,S4]⟩;exact oR this (by rw[TY];exact g)
 have k:a∣y:=by
  have:a∣b*y:=⟨x,by rw[<-e,S4]⟩;exact oR this (by rw[TY];exact i)
 have c:y=a:=Int.dvd_antisymm (Ti p) (Ti f) j k;refine⟨?_,c⟩;rw[c]at e;exact TB (by lia) e
def mA(x y z:Int):Prop:=0<z/\Ss (Ss x y:Nat) z=1
theorem wT(a b n:Int):Ss (Ss a n:Nat) b=Tf (Tf a.natAbs b.natAbs) n.natAbs:=by
 show Tf (Tf a.natAbs n.natAbs) b.natAbs=_
 rw[Nat.gcd_assoc,VN n.natAbs,<-Nat.gcd_assoc]
theorem Bf(a b n:Int):Ss (Ss a b:Nat) n=Tf (Tf a.natAbs b.natAbs) n.natAbs:=rfl
theorem O2(a b n:Int):Ss (Ss n a:Nat) b=Ss (Ss a n:Nat) b:=by
 rw[TY n a]
theorem Gj{a b n:Int}(c:n≠0):0<((Ss (Ss a n:Nat) b:Nat):Int):=by
 rw[wT];have:0<Tf (Tf a.natAbs b.natAbs) n.natAbs:=Nat.gcd_pos_of_pos_right _ (by lia);lia
theorem Gk(a b n:Int):((Ss (Ss a n:Nat) b:Nat):Int)∣a/\((Ss (Ss a n:Nat) b:Nat):Int)∣b/\((Ss (Ss a n:Nat) b:Nat):Int)∣n:=by
 rw[wT];have c:=U2 (Tf a.natAbs b.natAbs) n.natAbs;have d:=Vh (Tf a.natAbs b.natAbs) n.natAbs;refine⟨?_,?_,?_⟩
 ·exact UM.mpr (Vi c (U2 _ _))
 ·exact UM.mpr (Vi c (Vh _ _))
 exact UM.mpr d
theorem Gl{a b n g s:Int}(B:n≠0)(i:g=(Ss (Ss a n:Nat) b:Nat))(e:s=g/\0<n\/s = -g/\n<0):
  mA (a.fdiv s) (b.fdiv s) (n.fdiv s)/\a.fdiv s*n=a*n.fdiv s/\b.fdiv s*n=b*n.fdiv s/\(a.fdiv s).natAbs<=a.natAbs/\(b.fdiv s).natAbs<=b.natAbs/\(n.fdiv s).natAbs<=n.natAbs:=by
 have r:0<g:=by rw[i];exact Gj B
 obtain⟨t,u,v⟩:=Gk a b n;rw[<-i]at t u v;have j:s≠0:=by rcases e with⟨h,_⟩|⟨h,_⟩<;>lia
 have k:∀z:Int,g∣z->s∣z:=λz c=>by
  rcases e with⟨h,_⟩|⟨h,_⟩<;>rw[h]
  ·exact c
  exact UK.mpr c
 obtain⟨x,l⟩:=k a t;obtain⟨y,m⟩:=k b u;obtain⟨z,c⟩:=k n v;have w:a.fdiv s=x:=by rw[l];exact UL x j
 have A:b.fdiv s=y:=by rw[m];exact UL y j
 have f:n.fdiv s=z:=by rw[c];exact UL z j
 refine⟨⟨?_,?_⟩,?_,?_,VQ a s,VQ b s,VQ n s⟩
 ·rw[f];rcases e with⟨h,d⟩|⟨h,d⟩
  ·rw[c,h]at d;exact Ub d r
  rw[c,h]at d;have:0<g*z:=by rw[Uc]at d;lia
  exact Ub this r
 ·rw[w,A,f,Bf];rw[wT,l,m,c,S8,S8,S8,Vj,Vj]at i;have C:s.natAbs=g.toNat:=by rcases e with⟨h,_⟩|⟨h,_⟩<;>lia
  have posQz:0<s.natAbs:=by lia
  have q:s.natAbs*Tf (Tf x.natAbs y.natAbs) z.natAbs=s.natAbs*1:=by lia
  exact VP posQz q
 ·rw[w,f];have o:x*n=x*(s*z):=by rw[<-c]
  have p:a*z=s*x*z:=by rw[<-l]
  rw[o,p,<-Ud,S4 x s]
 rw[A,f];have o:y*n=y*(s*z):=by rw[<-c]
 have p:b*z=s*y*z:=by rw[<-m]
 rw[o,p,<-Ud,S4 y s]
theorem Bg{x y z b c a:Int}(g:Ss (Ss x y:Nat) z=1)(d:x*a=b*z)(e:y*a=c*z):z∣a:=by
 have f:z.natAbs∣x.natAbs*a.natAbs:=⟨b.natAbs,by rw[<-S8,d,S8,VR]⟩;have h:z.natAbs∣y.natAbs*a.natAbs:=⟨c.natAbs,by rw[<-S8,e,S8,VR]⟩;have i:z.natAbs∣z.natAbs*a.natAbs:=⟨a.natAbs,rfl⟩;have q:=VS (VS f h) i;rw[VT,VT]at q;rw[Bf]at g;rw[g,Nat.one_mul]at q;exact TK.mp q
theorem wU{x y z b c a:Int}(h:mA x y z)(f:mA b c a)(d:x*a=b*z)(e:y*a=c*z):x=b/\y=c/\z=a:=by
 have i:=Bg h.2 d e;have j:=Bg f.2 d.symm e.symm;have k:z=a:=Int.dvd_antisymm (Ti h.1) (Ti f.1) i j;subst k;have g:z≠0:=Sy h.1;exact⟨TB g d,TB g e,rfl⟩
theorem O3{a b n:Int}{k:Nat}(c:n≠0)(h:VU n<=k):VU ((Ss (Ss a n:Nat) b:Nat):Int)<=k:=by
 refine PySem.intBits_le_of_natAbs ?_ h;exact VV (by lia) (TK.mpr (Gk a b n).2.2)
theorem pW{u v:Int}(a:0<u)(b:0<v):u*v≠0:=Sy (SD a b)
theorem Bh{x y z:Int}(h:mA x y z):mA (-x) (-y) z:=by
 refine⟨h.1,?_⟩;have g:=h.2;rw[Bf]at g⊢;rw[Int.natAbs_neg,Int.natAbs_neg];exact g
inductive D where
 |non|bl (b:Bool)|int (i:Int)|str (x:Str)|ty (n:String)|tup (xs:List D)|lst (xs:List D)|scr (ns:ZH)|ktup (xs:List D)|kfn (f:TE)|dct (b:Bool) (ks:List ZY) (ds:List D)
abbrev ZK:=List D
abbrev ZZ:=List ZK
inductive mB where
 |l(ds:ZK)|d (b:Bool) (t:Option TE) (ks:List ZY) (ds:ZK)
instance:Coe ZK mB:=⟨mB.l⟩
inductive e4 where
 |ll(a:TE)(as:ZU)(hW:ZZ)|dl (b:Bool) (a:TE) (ks:List ZY) (as:ZU) (hW:ZZ)|nl (a:TE) (ds:ZK)
def e4.adr:e4->TE
 |.ll a _ _=>a
 |.dl _ a _ _ _=>a
 |.nl a _=>a
def e4.ins:e4->ZU
 |.ll _ a _=>a
 |.dl _ _ _ a _=>a
 |.nl _ _=>[]
def e4.hW:e4->ZZ
 |.ll _ _ x=>x
 |.dl _ _ _ _ x=>x
 |.nl _ _=>[]
inductive aA where
 |no|val (d:D)|own (c:mB)|bag|new (d:D)|pin (v:V) (d:D)|deep (c:e4)
abbrev ZI:=List aA
noncomputable def pX(b:Bool)(k:ZY):Int:=
 if b then X6 (Builtin.Tuple.tupleHashOf (k.map λa=>X6 (Builtin.Tuple.tupleHashOf (a.map Zl))))else X6 (Builtin.Tuple.tupleHashOf ((k.headD []).map Zl))
noncomputable def gI(b:Bool)(k:ZY):D:=if b then .tup (k.map λa=>.tup (a.map D.int))else .tup ((k.headD []).map D.int)
def lc(b:Bool):List ZY->ZU->ZT->List YA
 |k::c,a::d,u::e=>⟨pX b k,.ref a,u⟩::lc b c d e
 |_,_,_=>[]
def hX(b:Bool)(a:TE)(i:Nat)(c:List ZY)(d:ZU)(e:ZL):eo:=.ext λh=>c.length<=TI/\d.length=c.length/\e.length=c.length/\(a==XJ)=false /\
 ∃f:ZT,bO e f/\∃o g,h.get? a=some o/\o.ExactDict/\o.data=.dict g i/\g.toList=lc b c d f/\c.Nodup
mutual
inductive bE(K:Su)(B:ak):V->D->Prop where
 |non:bE K B .non .non
 |bl(b:Bool):bE K B (.bl b) (.bl b)
 |int(i:Int):bE K B (.int i) (.int i)
 |str(x:Str):bE K B (.str x) (.str x)
 |ty(n:String):bE K B (.ty n) (.ty n)
 |tup{a:TE}{vs:ZL}{ds:ZK}(h:B a=some (.tup vs))(r:b_ K B vs ds):bE K B (.ref a) (.tup ds)
 |lst{a:TE}{vs:ZL}{ds:ZK}(h:B a=some (.lst vs))(r:b_ K B vs ds):bE K B (.ref a) (.lst ds)
 |scr{a:TE}{ns:ZH}(h:cE K B a (ns.map V.int)):bE K B (.ref a) (.scr ns)
 |ktup{a:TE}{vs:ZL}{ds:ZK}(h:fx K B a vs)(r:b_ K B vs ds):bE K B (.ref a) (.ktup ds)
 |kfn(f:TE):bE K B (.ref f) (.kfn f)
 |dct{a:TE}{b:Bool}{a3:Nat}{ks:List ZY}{as:ZU}{vs:ZL}{ds:ZK}(h:B a=some (hX b a a3 ks as vs))(ai:b_ K B (as.map V.ref) (ks.map (gI b)))(ae:b=false->∀k∈ks,∃l,k=[l])(r:b_ K B vs ds):bE K B (.ref a) (.dct b ks ds)
inductive b_(K:Su)(B:ak):ZL->ZK->Prop where
 |nil:b_ K B [] []
 |cons{v:V}{d:D}{vs:ZL}{ds:ZK}(h:bE K B v d)(r:b_ K B vs ds):b_ K B (v::vs) (d::ds)
end
theorem Gm{K:Su}{H H':ak}{a:TE}{b:ZL}(e:cj H H')(h:fx K H a b):fx K H' a b:=by
 rcases h with(h|⟨o,h⟩)|h
 ·exact .inl (.inl (e _ _ h))
 ·exact .inl (.inr ⟨o,e _ _ h⟩)
 exact .inr h
section
variable{K:Su}{B a:ak}
mutual
theorem bE.mono(s:cj B a):∀{v:V}{d:D},bE K B v d->bE K a v d
 |_,_,.non=>.non
 |_,_,.bl b=>.bl b
 |_,_,.int i=>.int i
 |_,_,.str x=>.str x
 |_,_,.ty n=>.ty n
 |_,_,.tup h r=>.tup (s _ _ h) (b_.mono s r)
 |_,_,.lst h r=>.lst (s _ _ h) (b_.mono s r)
 |_,_,.scr h=>.scr (s.seq h)
 |_,_,.ktup h r=>.ktup (Gm s h) (b_.mono s r)
 |_,_,.kfn f=>.kfn f
 |_,_,.dct h ai ae r=>.dct (s _ _ h) (b_.mono s ai) ae (b_.mono s r)
theorem b_.mono(s:cj B a):∀{vs:ZL}{ds:ZK},b_ K B vs ds->b_ K a vs ds
 |_,_,.nil=>.nil
 |_,_,.cons h r=>.cons (bE.mono s h) (b_.mono s r)
end
theorem b_.length:∀{a:ZL}{b:ZK},b_ K B a b->a.length=b.length
 |_,_,.nil=>rfl
 |_,_,.cons _ r=>by rw[SK,SK,r.length]
theorem b_.get:∀{a:ZL}{b:ZK}{i:Nat}{d:D},b_ K B a b->b[i]?=some d->∃v,a[i]?=some v/\bE K B v d
 |_,_,_,_,.nil,e=>by simp at e
 |_,_,0,_,.cons h _,e=>by simp at e;subst e;exact⟨_,rfl,h⟩
 |_,_,i+1,d,.cons _ r,e=>by
  obtain⟨v,c,f⟩:=b_.get (i:=i) (d:=d) r (by simpa using e);exact⟨v,by simpa using c,f⟩
theorem b_.fK:∀{a:ZL}{b:ZK}{i:Nat}{v:V},b_ K B a b->a[i]?=some v->∃d,b[i]?=some d/\bE K B v d
 |_,_,_,_,.nil,e=>by simp at e
 |_,_,0,_,.cons h _,e=>by simp at e;subst e;exact⟨_,rfl,h⟩
 |_,_,i+1,v,.cons _ r,e=>by
  obtain⟨d,c,f⟩:=b_.fK (i:=i) (v:=v) r (by simpa using e);exact⟨d,by simpa using c,f⟩
theorem b_.append:∀{a b:ZL}{c d:ZK},b_ K B a c->b_ K B b d->b_ K B (a++b) (c++d)
 |_,_,_,_,.nil,s=>s
 |_,_,_,_,.cons h r,s=>.cons h (b_.append r s)
theorem b_.take:∀{a:ZL}{b:ZK}(n:Nat),b_ K B a b->b_ K B (a.take n) (b.take n)
 |_,_,0,_=>.nil
 |_,_,_+1,.nil=>.nil
 |_,_,n+1,.cons h r=>.cons h (b_.take n r)
theorem b_.drop:∀{a:ZL}{b:ZK}(n:Nat),b_ K B a b->b_ K B (a.drop n) (b.drop n)
 |_,_,0,r=>r
 |_,_,_+1,.nil=>.nil
 |_,_,n+1,.cons _ r=>b_.drop n r
theorem b_.ints:∀(a:ZH),b_ K B (a.map V.int) (a.map D.int)
 |[]=>.nil
 |n::r=>.cons (.int n) (b_.ints r)
end
def fX(H:ak)(b:TE):Prop:=∃x y:Int,H b=some (.lst [.int x,.int y])/\0<=x/\0<=y/\y<2147483647
def cg(d:St)(b:ZI)(i:Nat)(a:TE):Prop:=(d[i]?=some (some (.ref a))/\(b[i]?=some .bag\/∃e,b[i]?=some (.own e)))\/∃c,b[i]?=some (.deep c)/\a∈c.adr::c.ins
structure Wd(R:ak)(W:TE->Prop)(B H:ak):Prop where
 fr:∀a o,R a=some o->¬W a->H a=some o
 bh:cj B H
 wb:∀a,W a->B a=none
 wh:∀a,W a->fX H a
 wr:∀a,W a->R a≠none
open Classical in
noncomputable def hY(R:ak)(W:TE->Prop)(B:ak):ak:=λa=>match R a with
 |some (.lst b)=>if W a then B a else some (.lst b)
 |_=>B a
theorem wV{R:ak}{W:TE->Prop}{B b:ak}(s:cj B b):cj (hY R W B) (hY R W b):=λa o h=>by
 unfold hY at h⊢;split at h
 ·split at h
  ·rename_i z;rw[SL z];exact s a o h
  rename_i z;rw[Tk z];exact h
 exact s a o h
def lW(K:Su)(B H:ak)(a:TE):mB->Prop
 |.l f=>∃e,H a=some (.lst e)/\b_ K B e f
 |.d b t g f=>∃i h e,(∀c,t=some c->c=a)/\H a=some (hX b a i g h e)/\b_ K B (h.map V.ref) (g.map (gI b))/\(b=false->∀k∈g,∃l,k=[l])/\b_ K B e f
theorem lW.mono{K:Su}{B j H H':ak}{a:TE}{c:mB}(h:lW K B H a c)(s:cj B j)(e:H' a=H a):lW K j H' a c:=by
 cases c with
 |l k=>obtain⟨f,g,i⟩:=h;exact⟨f,by rw[e];exact g,i.mono s⟩
 |d b t r k=>obtain⟨m,n,f,o,g,i,p,q⟩:=h;exact⟨m,n,f,o,by rw[e];exact g,i.mono s,p,q.mono s⟩
theorem lW.ne{K:Su}{B H:ak}{a:TE}{c:mB}(h:lW K B H a c):H a≠none:=by
 cases c with
 |l f=>obtain⟨g,e,i⟩:=h;rw[e];simp
 |d b t j f=>obtain⟨k,m,g,_,e,_⟩:=h;rw[e];simp
structure mC(K:Su)(B H:ak)(as:ZU)(hW:ZZ):Prop where
 len:as.length=hW.length
 at_:∀(i:Nat)(a:TE)(ds:ZK),as[i]?=some a->hW[i]?=some ds->∃vs,H a=some (.lst vs)/\b_ K B vs ds
theorem mC.mono{K:Su}{B d H H':ak}{c:ZU}{b:ZZ}(h:mC K B H c b)(s:cj B d)(e:∀a∈c,H' a=H a):mC K d H' c b:=
 ⟨h.len,λi a g f j=>by
  obtain⟨k,l,m⟩:=h.at_ i a g f j
  exact⟨k,by rw[e a (S' f)];exact l,m.mono s⟩⟩
theorem mC.ne{K:Su}{B H:ak}{b:ZU}{c:ZZ}(h:mC K B H b c){a:TE}(m:a∈b):H a≠none:=by
 obtain⟨i,d⟩:=U3 m
 have lt:i<b.length:=by
  by_cases z:i<b.length
  ·exact z
  rw[Te (by lia)]at d;cases d
 obtain⟨f,e,_⟩:=h.at_ i a _ d (S0 (by rw[<-h.len];exact lt));rw[e];simp
def dN(R B:ak):ak:=λa=>match B a with
 |some (.lst b)=>if(R a).isNone then some (.lst b)else none
 |o=>o
theorem iX{R B:ak}:cj (dN R B) B:=λa o h=>by
 unfold dN at h;split at h
 ·rename_i b e
  split at h
  ·rw[e];exact h
  cases h
 exact h
theorem nT{R B b:ak}(s:cj B b):cj (dN R B) (dN R b):=λa o h=>by
 have d:=s a o (iX a o h);unfold dN at h⊢;rw[d];split at h
 ·rename_i c e
  split at h
  ·rename_i z
   have:=SN h;subst this;dsimp only;rw[SL z]
  cases h
 rename_i f
 cases o with
 |lst c=>exact absurd h (f c)
 |_=>rfl
def uc(R B:ak):e4->ak
 |.nl _ _=>dN R B
 |_=>B
theorem O4{R B b:ak}(s:cj B b)(c:e4):cj (uc R B c) (uc R b c):=by
 cases c with
 |nl a d=>exact nT s
 |_=>exact s
def pY(K:Su)(B H:ak):e4->Prop
 |.ll a d c=>H a=some (.lst (d.map V.ref))/\mC K B H d c
 |.dl b a e d c=>∃h f,H a=some (hX b a h e f (d.map V.ref))/\b_ K B (f.map V.ref) (e.map (gI b))/\(b=false->∀k∈e,∃l,k=[l])/\mC K B H d c
 |.nl a i=>∃g,H a=some (.lst g)/\b_ K B g i
structure Gn(K:Su)(R B H:ak)(c:e4):Prop where
 fr:∀a∈c.adr::c.ins,R a=none/\B a=none
 nd:(c.adr::c.ins).Nodup
 ok:pY K (uc R B c) H c
theorem pY.mono{K:Su}{B i H H':ak}{c:e4}(h:pY K B H c)(s:cj B i)(e:∀a∈c.adr::c.ins,H' a=H a):pY K i H' c:=by
 cases c with
 |ll a j d=>exact⟨by rw[e a Sw];exact h.1,h.2.mono s λx m=>e x (SA _ m)⟩
 |dl b a q j d=>
  obtain⟨k,l,f,g,n,o⟩:=h;exact⟨k,l,by rw[e a Sw];exact f,g.mono s,n,o.mono s λx m=>e x (SA _ m)⟩
 |nl a r=>obtain⟨p,f,g⟩:=h;exact⟨p,by rw[e a Sw];exact f,g.mono s⟩
theorem pY.ne{K:Su}{B H:ak}{c:e4}(h:pY K B H c){a:TE}(m:a∈c.adr::c.ins):H a≠none:=by
 cases c with
 |ll b g d=>
  rcases SG.mp m with e|m
  ·rw[show a=b from e,h.1];simp
  exact h.2.ne m
 |dl b p k g d=>
  obtain⟨l,n,f,i,o,j⟩:=h;rcases SG.mp m with e|m
  ·rw[show a=p from e,f];simp
  exact j.ne m
 |nl b q=>
  obtain⟨r,f,i⟩:=h;rcases SG.mp m with e|m
  ·rw[show a=b from e,f];simp
  simp[e4.ins]at m
def Bi(K:Su)(R:ak)(W:TE->Prop)(B H:ak)(o:Option V):aA->Prop
 |.no=>True
 |.val d=>∃v,o=some v/\bE K B v d
 |.own c=>∃a,o=some (.ref a)/\R a=none/\B a=none/\lW K B H a c
 |.bag=>∃b,o=some (.ref b)/\(W b\/R b=none)/\B b=none/\fX H b
 |.new d=>∃v,o=some v/\bE K (hY R W B) v d
 |.pin v d=>o=some v/\bE K (hY R W B) v d
 |.deep c=>o=some (.ref c.adr)/\Gn K R B H c
structure aL(K:Su)(R:ak)(W:TE->Prop)(B H:ak)(σ:St)(ρ:ZI):Prop extends Wd R W B H where
 len:σ.length=ρ.length
 ok:∀(i:Nat)(k:aA),ρ[i]?=some k->Bi K R W B H (σ[i]?).join k
 sep:∀(i j:Nat)(a:TE),cg σ ρ i a->cg σ ρ j a->i=j
structure bx(R B aw:ak):Prop where
 s:cj B aw
 n:∀a o,aw a=some o->B a=some o\/R a=none
theorem bx.refl(R B:ak):bx R B B:=⟨cj.refl _,λ_ _ h=>.inl h⟩
theorem bx.trans{R B b c:ak}(g:bx R B b)(h:bx R b c):bx R B c:=⟨g.s.trans h.s,λa o e=>(h.n a o e).elim (g.n a o) .inr⟩
theorem Wd.fresh{R:ak}{W:TE->Prop}{B H:ak}(w:Wd R W B H){p:TE}(h:H p=none):R p=none/\¬W p/\B p=none:=by
 have a:¬W p:=λz=>by
  obtain⟨x,y,e,_⟩:=w.wh p z;rw[h]at e;cases e
 refine⟨?_,a,w.bh.free h⟩;cases q:R p with
 |none=>rfl
 |some o=>rw[w.fr p o q a]at h;cases h
theorem gu{a:Type}{o:Option (Option a)}{v:a}(h:o.join=some v):o=some (some v):=by
 cases o with
 |none=>cases h
 |some x=>exact TW some h
section
variable{K:Su}{R:ak}{W:TE->Prop}{B E H F:ak}{A:St}{C:ZI}
theorem aL.val(e:aL K R W B H A C){i:Nat}{d:D}(h:C[i]?=some (.val d)):∃v,A[i]?=some (some v)/\bE K B v d:=by
 obtain⟨v,a,b⟩:=e.ok i _ h;exact⟨v,gu a,b⟩
theorem aL.ownAt(e:aL K R W B H A C){i:Nat}{c:ZK}(h:C[i]?=some (.own c)):∃a b,A[i]?=some (some (.ref a))/\R a=none/\B a=none/\H a=some (.lst b)/\b_ K B b c:=by
 obtain⟨a,d,f,g,b,j,k⟩:=e.ok i _ h;exact⟨a,b,gu d,f,g,j,k⟩
theorem aL.fJ(e:aL K R W B H A C){i:Nat}{c:mB}(h:C[i]?=some (.own c)):∃a,A[i]?=some (some (.ref a))/\R a=none/\B a=none/\lW K B H a c:=by
 obtain⟨a,b,d⟩:=e.ok i _ h;exact⟨a,gu b,d⟩
theorem aL.eQ(e:aL K R W B H A C){i:Nat}(h:C[i]?=some .bag):∃b,A[i]?=some (some (.ref b))/\(W b\/R b=none)/\B b=none/\fX H b:=by
 obtain⟨a,c,d⟩:=e.ok i _ h;exact⟨a,gu c,d⟩
theorem aL.eJ(e:aL K R W B H A C){i:Nat}{c:e4}(h:C[i]?=some (.deep c)):A[i]?=some (some (.ref c.adr))/\Gn K R B H c:=by
 obtain⟨a,b⟩:=e.ok i _ h;exact⟨gu a,b⟩
theorem aL.eP(e:aL K R W B H A C){i:Nat}{a:TE}(m:cg A C i a):B a=none/\H a≠none:=by
 rcases m with⟨g,d|⟨k,d⟩⟩|⟨c,g,d⟩
 ·obtain⟨b,f,_,h,x,y,j,_⟩:=e.eQ d;rw[g]at f;cases f;exact⟨h,by rw[j];simp⟩
 ·obtain⟨b,f,_,h,j⟩:=e.fJ d;rw[g]at f;cases f;exact⟨h,j.ne⟩
 have q:=(e.eJ g).2;exact⟨(q.fr a d).2,q.ok.ne d⟩
theorem Bj{i:Nat}{a:TE}(m:cg A C i a)(n:∀c,C[i]?≠some (.deep c)):A[i]?=some (some (.ref a))/\(C[i]?=some .bag\/∃b,C[i]?=some (.own b)):=by
 rcases m with m|⟨c,h,_⟩
 ·exact m
 exact absurd h (n c)
theorem oS{i:Nat}{a:TE}(m:cg A C i a)(h:C[i]?=some .bag):A[i]?=some (some (.ref a)):=(Bj m λc z=>by rw[h]at z;cases z).1
theorem aL.move(e:aL K R W B H A C)(w:Wd R W E F)(s:cj B E)(m:∀i a,cg A C i a->E a=none/\(C[i]?=some .bag->fX F a)/\(C[i]?≠some .bag->F a=H a)):aL K R W E F A C:=by
 refine⟨w,e.len,λi k h=>?_,e.sep⟩;cases k with
 |no=>trivial
 |new d=>
  obtain⟨v,f,g⟩:=e.ok i _ h;exact⟨v,f,g.mono (wV s)⟩
 |pin v d=>
  obtain⟨f,g⟩:=e.ok i _ h;exact⟨f,g.mono (wV s)⟩
 |val d=>
  obtain⟨v,f,g⟩:=e.ok i _ h;exact⟨v,f,g.mono s⟩
 |own r=>
  obtain⟨a,f,g,t,p⟩:=e.ok i _ h;obtain⟨l,o,n⟩:=m i a (.inl ⟨gu f,.inr ⟨r,h⟩⟩);exact⟨a,f,g,l,p.mono s (n (by rw[h];simp))⟩
 |deep c=>
  obtain⟨f,g⟩:=e.ok i _ h
  have q:∀a∈c.adr::c.ins,E a=none/\F a=H a:=λa j=>by
   obtain⟨l,o,n⟩:=m i a (.inr ⟨c,h,j⟩);exact⟨l,n (by rw[h];simp)⟩
  exact⟨f,λa j=>⟨(g.fr a j).1,(q a j).1⟩,g.nd,g.ok.mono (O4 s c) λa j=>(q a j).2⟩
 |bag=>
  obtain⟨b,f,g,t,p⟩:=e.ok i _ h;obtain⟨l,o,n⟩:=m i b (.inl ⟨gu f,.inl h⟩);exact⟨b,f,g,l,o h⟩
theorem fX.upd{H:ak}{b p:TE}{o:eo}(h:fX H b)(n:b≠p):fX (L3.ed H p o) b:=by
 obtain⟨x,y,e,q⟩:=h;exact⟨x,y,by rw[bP n];exact e,q⟩
theorem Wd.alloc(w:Wd R W B H){p:TE}(h:H p=none)(o:eo):Wd R W (ed B p o) (ed H p o):=by
 obtain⟨c,b,e⟩:=w.fresh h;refine⟨λa u q d=>?_,λa u q=>?_,λa z=>?_,λa z=>?_,w.wr⟩
 ·rw[bP (by rintro rfl;rw[c]at q;cases q)];exact w.fr a u q d
 ·unfold L3.ed at q⊢;split
  ·rename_i z;rwa[SL z]at q
  rename_i z;rw[Tk z]at q;exact w.bh a u q
 ·rw[bP (by rintro rfl;exact b z)];exact w.wb a z
 exact(w.wh a z).upd (by rintro rfl;exact b z)
theorem Wd.e8(w:Wd R W B H){p:TE}(h:H p=none)(o:eo):Wd R W B (ed H p o):=by
 obtain⟨b,c,d⟩:=w.fresh h;refine⟨λa u q e=>?_,λa u q=>?_,w.wb,λa z=>?_,w.wr⟩
 ·rw[bP (by rintro rfl;rw[b]at q;cases q)];exact w.fr a u q e
 ·rw[bP (by rintro rfl;rw[d]at q;cases q)];exact w.bh a u q
 exact(w.wh a z).upd (by rintro rfl;exact c z)
theorem aL.ff(e:aL K R W B H A C){p:TE}(h:H p=none){i:Nat}{a:TE}(m:cg A C i a):a≠p:=by
 rintro rfl;exact(e.eP m).2 h
theorem aL.alloc(e:aL K R W B H A C){p:TE}(h:H p=none)(o:eo):aL K R W (ed B p o) (ed H p o) A C:=by
 obtain⟨g,j,d⟩:=e.toWd.fresh h;refine e.move (e.toWd.alloc h o) (wR d o) λi a m=>?_;have n:=e.ff h m;refine⟨by rw[bP n];exact(e.eP m).1,λz=>?_,λ_=>bP n⟩;obtain⟨b,c,_,_,f⟩:=e.eQ z;rw[oS m z]at c;cases c;exact f.upd n
theorem aL.e8(e:aL K R W B H A C){p:TE}(h:H p=none)(o:eo):aL K R W B (ed H p o) A C:=by
 refine e.move (e.toWd.e8 h o) (cj.refl _) λi a m=>?_;have n:=e.ff h m;refine⟨(e.eP m).1,λz=>?_,λ_=>bP n⟩;obtain⟨b,c,_,_,d⟩:=e.eQ z;rw[oS m z]at c;cases c;exact d.upd n
theorem aL.grow(e:aL K R W B H A C){p:TE}(h:H p=none)(o:eo):bx R B (ed B p o):=by
 obtain⟨b,d,c⟩:=e.toWd.fresh h;refine⟨wR c o,λa u q=>?_⟩;by_cases z:a=p
 ·subst z;exact .inr b
 rw[bP z]at q;exact .inl q
theorem aL.g8(e:aL K R W B H A C){a:TE}{o:eo}(h:H a=some o)(d:R a=none)(f:B a=none)(j:∀i,¬cg A C i a):aL K R W (ed B a o) H A C/\bx R B (ed B a o):=by
 have k:¬W a:=λz=>e.wr a z d;refine⟨e.move ⟨e.fr,λb u q=>?_,λb z=>?_,e.wh,e.wr⟩ (wR f _) (λi b m=>?_),⟨wR f _,λb u q=>?_⟩⟩
 ·by_cases z:b=a
  ·subst z;rw[dL]at q;cases q;exact h
  rw[bP z]at q;exact e.bh b u q
 ·rw[bP (by rintro rfl;exact k z)];exact e.wb b z
 ·have n:b≠a:=by rintro rfl;exact j i m
  refine⟨by rw[bP n];exact(e.eP m).1,λz=>?_,λ_=>rfl⟩;obtain⟨c,g,_,_,l⟩:=e.eQ z;rw[oS m z]at g;cases g;exact l
 by_cases z:b=a
 ·subst z;exact .inr d
 rw[bP z]at q;exact .inl q
theorem aL.freeze(e:aL K R W B H A C){a:TE}{b:ZL}(h:H a=some (.lst b))(c:R a=none)(d:B a=none)(f:∀i,¬cg A C i a):aL K R W (ed B a (.lst b)) H A C/\bx R B (ed B a (.lst b)):=e.g8 h c d f
theorem iY{a:Type}{l:List a}{i j:Nat}{x y:a}(h:(l.set i x)[j]?=some y):(j=i/\y=x)\/(j≠i/\l[j]?=some y):=by
 by_cases e:i=j
 ·subst e;rw[List.getElem?_set_self']at h;cases q:l[i]? with
  |none=>rw[q]at h;cases h
  |some z=>rw[q]at h;exact .inl ⟨rfl,(SN h).symm⟩
 rw[Tz e]at h;exact .inr ⟨λz=>e z.symm,h⟩
def aA.k_:aA->ZU
 |.deep c=>c.adr::c.ins
 |_=>[]
theorem ud{i j:Nat}{v:V}{k:aA}{a:TE}(m:cg (A.set i (some v)) (C.set i k) j a):(j=i/\((v=.ref a/\(k=.bag\/∃f,k=.own f))\/a∈k.k_))\/(j≠i/\cg A C j a):=by
 rcases m with⟨d,b⟩|⟨c,d,b⟩
 ·rcases iY d with⟨e,d⟩|⟨e,d⟩
  ·refine .inl ⟨e,.inl ⟨(SN d).symm,?_⟩⟩;rcases b with b|⟨f,b⟩
   ·rcases iY b with⟨_,b⟩|⟨n,_⟩
    ·exact .inl b.symm
    exact absurd e n
   rcases iY b with⟨_,b⟩|⟨n,_⟩
   ·exact .inr ⟨f,b.symm⟩
   exact absurd e n
  refine .inr ⟨e,.inl ⟨d,?_⟩⟩;rcases b with b|⟨f,b⟩
  ·rcases iY b with⟨n,_⟩|⟨_,b⟩
   ·exact absurd n e
   exact .inl b
  rcases iY b with⟨n,_⟩|⟨_,b⟩
  ·exact absurd n e
  exact .inr ⟨f,b⟩
 rcases iY d with⟨e,d⟩|⟨e,d⟩
 ·exact .inl ⟨e,.inr (by rw[<-d];exact b)⟩
 exact .inr ⟨e,.inr ⟨c,d,b⟩⟩
theorem sH{i j:Nat}{v:V}{k:aA}{a:TE}(m:cg (A.set i (some v)) (C.set i k) j a)(b:k≠.bag)(d:∀c,k≠.own c)(e:k.k_=[]):j≠i/\cg A C j a:=by
 rcases ud m with⟨_,⟨_,z|⟨c,z⟩⟩|z⟩|m
 ·exact absurd z b
 ·exact absurd z (d c)
 ·rw[e]at z;cases z
 exact m
theorem aL.set(e:aL K R W B H A C)(i:Nat){v:V}{k:aA}(s:Bi K R W B H (some v) k)(l:∀a,v=.ref a->(k=.bag\/∃t,k=.own t)->∀j,j≠i->¬cg A C j a)(m:∀a∈k.k_,∀j,j≠i->¬cg A C j a:=by intro _ z;cases z):aL K R W B H (A.set i (some v)) (C.set i k):=by
 refine⟨e.toWd,by rw[TX,TX];exact e.len,λj u h=>?_,λx y a w o=>?_⟩
 ·rcases iY h with⟨rfl,rfl⟩|⟨n,h⟩
  ·have lt:j<A.length:=by
    rw[e.len];by_cases z:j<C.length
    ·exact z
    rw[Te (by rw[TX];lia)]at h;cases h
   have q:((A.set j (some v))[j]?).join=some v:=by rw[TH lt];rfl
   rw[q];exact s
  rw[Tz (λz=>n z.symm)];exact e.ok j u h
 rcases ud w with⟨E,c⟩|⟨p,d⟩
 ·rcases ud o with⟨r,_⟩|⟨f,b⟩
  ·rw[E,r]
  rcases c with⟨F,G⟩|c
  ·exact absurd b (l a F G y f)
  exact absurd b (m a c y f)
 rcases ud o with⟨r,g⟩|⟨f,b⟩
 ·rcases g with⟨I,J⟩|g
  ·exact absurd d (l a I J x p)
  exact absurd d (m a g x p)
 exact e.sep x y a d b
theorem aL.fV(e:aL K R W B H A C)(i:Nat){v:V}{d:D}(r:bE K B v d):aL K R W B H (A.set i (some v)) (C.set i (.val d)):=
 e.set i ⟨v,rfl,r⟩ λ_ _ z=>by rcases z with z|⟨_,z⟩<;>cases z
theorem aL.h5(e:aL K R W B H A C)(i:Nat){a:TE}{c:ZL}{d:ZK}(f:R a=none)(g:B a=none)(h:H a=some (.lst c))(r:b_ K B c d)(k:∀j,j≠i->¬cg A C j a):aL K R W B H (A.set i (some (.ref a))) (C.set i (.own d)):=
 e.set i ⟨a,rfl,f,g,c,h,r⟩ λb z _=>by cases z;exact k
theorem aL.setC(e:aL K R W B H A C)(i:Nat){a:TE}{c:mB}(d:R a=none)(f:B a=none)(g:lW K B H a c)(h:∀j,j≠i->¬cg A C j a):aL K R W B H (A.set i (some (.ref a))) (C.set i (.own c)):=
 e.set i ⟨a,rfl,d,f,g⟩ λb z _=>by cases z;exact h
theorem aL.jE(e:aL K R W B H A C){i:Nat}{a:TE}{c l:mB}{o:eo}(h:A[i]?=some (some (.ref a)))(p:C[i]?=some (.own c))(r:lW K B (ed H a o) a l):aL K R W B (ed H a o) A (C.set i (.own l)):=by
 obtain⟨S,J,s,L,T⟩:=e.fJ p;rw[h]at J;cases J;have M:¬W a:=λz=>e.wr a z s;have t:cg A C i a:=.inl ⟨h,.inr ⟨c,p⟩⟩;refine⟨⟨λb u q z=>?_,λb u q=>?_,e.wb,λb z=>?_,e.wr⟩,by rw[TX];exact e.len,λj k q=>?_,λx y b N O=>?_⟩
 ·rw[bP (by rintro rfl;rw[s]at q;cases q)];exact e.fr b u q z
 ·rw[bP (by rintro rfl;rw[L]at q;cases q)];exact e.bh b u q
 ·exact(e.wh b z).upd (by rintro rfl;exact M z)
 ·rcases iY q with⟨rfl,rfl⟩|⟨n,q⟩
  ·exact⟨a,by rw[h];rfl,s,L,r⟩
  have z:=e.ok j k q;cases k with
  |no=>trivial
  |new d=>exact z
  |pin v d=>exact z
  |val d=>exact z
  |own P=>
   obtain⟨b,g,E,F,G⟩:=z;exact⟨b,g,E,F,G.mono (cj.refl _) (bP (by rintro rfl;exact n (e.sep j i b (.inl ⟨gu g,.inr ⟨P,q⟩⟩) t)))⟩
  |deep d=>
   exact⟨z.1,z.2.fr,z.2.nd,z.2.ok.mono (cj.refl _) λb Q=>bP (by rintro rfl;exact n (e.sep j i b (.inr ⟨d,q,Q⟩) t))⟩
  |bag=>
   obtain⟨b,g,E,F,G⟩:=z;exact⟨b,g,E,F,G.upd (by rintro rfl;exact n (e.sep j i b (.inl ⟨gu g,.inl q⟩) t))⟩
 have back:∀x,cg A (C.set i (.own l)) x b->cg A C x b:=λx m=>by
  rcases m with⟨f,I⟩|⟨d,f,I⟩
  ·by_cases z:x=i
   ·subst z;exact .inl ⟨f,.inr ⟨c,p⟩⟩
   refine .inl ⟨f,?_⟩;rwa[Tz (λw=>z w.symm)]at I
  rcases iY f with⟨_,z⟩|⟨_,f⟩
  ·cases z
  exact .inr ⟨d,f,I⟩
 exact e.sep x y b (back x N) (back y O)
theorem aL.write(e:aL K R W B H A C){i:Nat}{a:TE}{b ds':ZK}{vs:ZL}(h:A[i]?=some (some (.ref a)))(c:C[i]?=some (.own b))(r:b_ K B vs ds'):aL K R W B (ed H a (.lst vs)) A (C.set i (.own ds')):=
 e.jE h c ⟨vs,dL,r⟩
theorem aL.fz(e:aL K R W B H A C){i:Nat}{b:ZK}(k:C[i]?=some (.own b)):∃E,aL K R W E H A (C.set i (.val (.lst b)))/\bx R B E:=by
 obtain⟨a,u,c,l,o,p,r⟩:=e.ownAt k;have t:cg A C i a:=.inl ⟨c,.inr ⟨b,k⟩⟩;have f:=(e.fV (d:=.non) i (v:=.non) .non)
 have h:=f.freeze p l o (λj m=>by
  obtain⟨n,m⟩:=sH m (by simp) (by simp) rfl
  exact n (e.sep j i a m t))
 refine⟨_,?_,h.2⟩;have g:=h.1.fV i (v:=.ref a) (d:=.lst b) (.lst dL (r.mono h.2.s));rw[TZ,TZ]at g
 have q:A.set i (some (.ref a))=A:=by
  apply Uo;intro j;by_cases z:i=j
  ·subst z
   have lt:i<A.length:=by
    by_cases z:i<A.length
    ·exact z
    rw[Te (by lia)]at c;cases c
   rw[TH lt,c]
  rw[Tz z]
 rwa[q]at g
theorem aL.n7(e:aL K R W B H A C){i:Nat}{b:Bool}{t:Option TE}{k:List ZY}{l:ZK}(o:C[i]?=some (.own (.d b t k l))):∃E,aL K R W E H A (C.set i (.val (.dct b k l)))/\bx R B E:=by
 obtain⟨a,c,p,r,G,I,J,_,u,w,x,y⟩:=e.fJ o;have F:cg A C i a:=.inl ⟨c,.inr ⟨_,o⟩⟩;have f:=(e.fV (d:=.non) i (v:=.non) .non)
 have h:=f.g8 u p r (λj m=>by
  obtain⟨n,m⟩:=sH m (by simp) (by simp) rfl
  exact n (e.sep j i a m F))
 refine⟨_,?_,h.2⟩;have g:=h.1.fV i (v:=.ref a) (d:=.dct b k l) (.dct dL (w.mono h.2.s) x (y.mono h.2.s));rw[TZ,TZ]at g
 have q:A.set i (some (.ref a))=A:=by
  apply Uo;intro j;by_cases z:i=j
  ·subst z
   have lt:i<A.length:=by
    by_cases z:i<A.length
    ·exact z
    rw[Te (by lia)]at c;cases c
   rw[TH lt,c]
  rw[Tz z]
 rwa[q]at g
end
abbrev bd:=ZI->(D->Prop)->Prop
abbrev cJ:=ZI->(ZK->Prop)->Prop
abbrev dJ:=ZI->(Bool->Prop)->Prop
inductive gF where
 |val(d:D)|bag (i:Nat)
abbrev ZQ:=List gF
abbrev iZ:=ZI->(ZQ->Prop)->Prop
structure hD where
 nx:ZI->Prop
 rt:aA->Prop
 bk:ZI->Prop:=λ_=>False
 ct:ZI->Prop:=λ_=>False
abbrev cB:=hD->ZI->Prop
abbrev eU:=D->ZI->(ZI->Prop)->Prop
abbrev nV:=ZK->ZI->(ZI->Prop)->Prop
section
variable(K:Su)
def fy(t:bH)(u:bd):Prop:=∀(a:ZI)(k:D->Prop),u a k->∀(R:ak)(W:TE->Prop)(B H:ak)(b:St)(Q:cr),aL K R W B H b a->
 (∀d v c e,k d->aL K R W c e b a->bx R B c->bE K c v d->Q v e)->t b H Q
def Bk(t:bH)(u:cJ):Prop:=∀(b:ZI)(k:ZK->Prop),u b k->∀(R:ak)(W:TE->Prop)(B H:ak)(c:St)(Q:cr),aL K R W B H c b->
 (∀f a g d e,k f->aL K R W d e c b->bx R B d->R a=none->d a=none->e a=some (.lst g)->b_ K d g f->(∀i,¬cg c b i a)->Q (.ref a) e)->t c H Q
def ig(t:ek)(u:dJ):Prop:=∀(a:ZI)(k:Bool->Prop),u a k->∀(R:ak)(W:TE->Prop)(B H:ak)(c:St)(Q:Bool->ak->Prop),aL K R W B H c a->
 (∀b d e,k b->aL K R W d e c a->bx R B d->Q b e)->t c H Q
def wW(t:e3)(u:cJ):Prop:=∀(a:ZI)(k:ZK->Prop),u a k->∀(R:ak)(W:TE->Prop)(B H:ak)(b:St)(Q:ZL->ak->Prop),aL K R W B H b a->
 (∀d e c f,k d->aL K R W c f b a->bx R B c->b_ K c e d->Q e f)->t b H Q
inductive kD(B:ak)(σ:St)(ρ:ZI):ZL->ZQ->Prop where
 |nil:kD B σ ρ [] []
 |val{v:V}{d:D}{vs:ZL}{as:ZQ}(h:bE K B v d)(r:kD B σ ρ vs as):kD B σ ρ (v::vs) (.val d::as)
 |bag{v:V}{i:Nat}{vs:ZL}{as:ZQ}(h:σ[i]?=some (some v))(ae:ρ[i]?=some .bag)(r:kD B σ ρ vs as):kD B σ ρ (v::vs) (.bag i::as)
def O5(t:e3)(u:iZ):Prop:=∀(a:ZI)(k:ZQ->Prop),u a k->∀(R:ak)(W:TE->Prop)(B H:ak)(b:St)(Q:ZL->ak->Prop),aL K R W B H b a->
 (∀d e c f,k d->aL K R W c f b a->bx R B c->kD K c b a e d->Q e f)->t b H Q
def O6(R B:ak):e4->ak
 |.dl _ _ _ _ _=>dN R B
 |_=>B
def Bl(R B H:ak)(v:V):aA->Prop
 |.no=>False
 |.val d=>bE K B v d
 |.own c=>∃a,v=.ref a/\R a=none/\B a=none/\lW K B H a c
 |.bag=>∃b,v=.ref b/\R b=none/\B b=none/\fX H b
 |.new d=>bE K (dN R B) v d
 |.pin _ _=>False
 |.deep c=>v=.ref c.adr/\H c.adr=some (.tup (c.ins.map V.ref))/\mC K (O6 R B c) H c.ins c.hW/\(∀a∈c.ins,R a=none/\B a=none)/\c.ins.Nodup
structure sI(R:ak)(W:TE->Prop)(B:ak)(U:hD)(D:nF):Prop where
 nx:∀ρ σ aw H',U.nx ρ->aL K R W aw H' σ ρ->bx R B aw->D.nx σ H'
 bk:∀ρ σ aw H',U.bk ρ->aL K R W aw H' σ ρ->bx R B aw->D.bk σ H'
 ct:∀ρ σ aw H',U.ct ρ->aL K R W aw H' σ ρ->bx R B aw->D.ct σ H'
 rt:∀r v aw H',U.rt r->Wd R W aw H'->bx R B aw->Bl K R aw H' v r->D.rt v H'
def Gp(t:gX)(u:cB):Prop:=∀(U:hD)(a:ZI),u U a->∀(R:ak)(W:TE->Prop)(B H:ak)(b:St)(D:nF),aL K R W B H b a->sI K R W B U D->t D b H
def oT(g:fO)(u:eU):Prop:=∀(d:D)(b:ZI)(k:ZI->Prop),u d b k->∀(R:ak)(W:TE->Prop)(B H:ak)(c:St)(v:V)(Q:St->ak->Prop),aL K R W B H c b->bE K B v d->
 (∀e f,k e->aL K R W B H f e->(∀j a,cg f e j a->cg c b j a)->Q f H)->g v c H Q
def O7(g:nG)(u:nV):Prop:=∀(f:ZK)(b:ZI)(k:ZI->Prop),u f b k->∀(R:ak)(W:TE->Prop)(B H:ak)(c:St)(h:ZL)(Q:St->ak->Prop),aL K R W B H c b->b_ K B h f->
 (∀d e,k d->aL K R W B H e d->(∀j a,cg e d j a->cg c b j a)->Q e H)->g h c H Q
def kE(B:ak)(J:hA)(a:ZK):Prop:=∀(H:ak),cj B H->∀i,(i<a.length->J.go i H)/\(a.length<=i->J.stop i H)/\∀x b,i<a.length->J.lq i H x b->b=H/\∃d,a[i]?=some d/\bE K B x d
def sJ(t:gP)(u:cJ):Prop:=∀(a:ZI)(k:ZK->Prop),u a k->∀(R:ak)(W:TE->Prop)(B H:ak)(b:St)(Q:hA->ak->Prop),aL K R W B H b a->
 (∀d J c e,k d->aL K R W c e b a->bx R B c->kE K c J d->Q J e)->t b H Q
end
theorem q8{R b B:ak}(w:∀a,b a=none->R a=none):cj (dN b B) (dN R B):=λa o h=>by
 have c:=iX a o h;unfold dN at h⊢;rw[c]at h⊢;cases o with
 |lst d=>
  dsimp only at h⊢;split at h
  ·rename_i z
   rw[SL (by rw[VW]at z⊢;exact w a z)]
  cases h
 |_=>rfl
theorem ue{R B:ak}{a:TE}{b:ZL}(h:B a=some (.lst b))(n:R a=none):dN R B a=some (.lst b):=by
 unfold dN;rw[h];dsimp only;rw[SL (by rw[n];rfl)]
theorem Bm{R B:ak}{a:TE}{b:ZL}(h:dN R B a=some (.lst b)):B a=some (.lst b)/\R a=none:=by
 have c:=iX a _ h;refine⟨c,?_⟩;unfold dN at h;rw[c]at h;dsimp only at h;split at h
 ·rename_i z;rwa[VW]at z
 cases h
theorem sI.grow{K:Su}{R:ak}{W:TE->Prop}{B c:ak}{U:hD}{D:nF}(s:sI K R W B U D)(g:bx R B c):sI K R W c U D:=
 ⟨λa b C H h e q=>s.nx a b C H h e (g.trans q),λa b C H h e q=>s.bk a b C H h e (g.trans q),λa b C H h e q=>s.ct a b C H h e (g.trans q),λr v C H h e q z=>s.rt r v C H h e (g.trans q) z⟩
section
variable(X:aT)
def br(e:Wp)(u:bd):Prop:=∃t,bQ X e t/\fy X.K t u
def j2(e:Wp)(u:cJ):Prop:=∃t,bQ X e t/\Bk X.K t u
def hZ(e:Wp)(u:dJ):Prop:=∃t,jX X e t/\ig X.K t u
def q9(e:Wp)(u:dJ):Prop:=∃t,oD X e t/\ig X.K t u
def pZ(a:ZV)(u:cJ):Prop:=∃t,hg X a t/\wW X.K t u
def mD(a:ZV)(u:iZ):Prop:=∃t,hg X a t/\O5 X.K t u
def eV(s:XD)(u:cB):Prop:=∃t,jB X s t/\Gp X.K t u
def hE(s:ZW)(u:cB):Prop:=∃t,jd X s t/\Gp X.K t u
def j3(e:Wp)(u:eU):Prop:=∃t,jf X e t/\oT X.K t u
def uf(e:ZV)(u:nV):Prop:=∃t,ss X e t/\O7 X.K t u
def mE(a e:Wp)(u:cJ):Prop:=∃t,iU X a e t/\sJ X.K t u
end
def jF(i:Nat):bd:=λa k=>∃d,a[i]?=some (.val d)/\k d
def i0(d:D):bd:=λ_ k=>k d
def wX(C:Int->Int->Prop)(g:Int->Int->D)(b c:bd):bd:=λa k=>b a λx=>c a λy=>∃i j,x=.int i/\y=.int j/\C i j/\k (g i j)
def ug(g:Int->Int->D)(b c:bd):bd:=λa k=>b a λx=>c a λy=>∃i j,x=.int i/\y=.int j/\k (g i j)
def Gr(a:bd):bd:=λb k=>a b λx=>∃i,x=.int i/\k (.int (-i))
section
variable{K:Su}{X:aT}
theorem O8(i:Nat):fy K (AG i) (jF i):=by
 intro b k h R W B H c Q e q;obtain⟨d,h,z⟩:=h;obtain⟨v,a,r⟩:=e.val h;exact⟨v,a,q d v B H z e (bx.refl _ _) r⟩
theorem Bn{v:V}{d:D}(h:∀B,bE K B v d):fy K (qU v) (i0 d):=λa k z R W B H b Q e q=>q d v B H z e (bx.refl _ _) (h B)
theorem sK{g i:bH}{n o:bd}{r:iV}{f:D->D->(D->Prop)->Prop}(m:fy K g n)(p:fy K i o)(t:∀(x y:D)(k:D->Prop),f x y k->∀(R:ak)(W:TE->Prop)(B H:ak)(b:St)(a:ZI)(v w:V)(Q:cr),aL K R W B H b a->bE K B v x->bE K B w y->(∀d v c j,k d->aL K R W c j b a->bx R B c->bE K c v d->Q v j)->r v w H Q):
  fy K (oL r g i) (λa k=>n a λx=>o a λy=>f x y k):=by
 intro a k h R W B H b Q e q;refine m a _ h R W B H b _ e λx v z A C E F G=>?_;refine p a _ C R W z A b _ E λy w I J L M l N=>?_;exact t x y k L R W I J b a v w Q M (G.mono l.s) N λd u O P S T g3 U=>q d u O P S T ((F.trans l).trans g3) U
theorem O9{g:bH}{n:bd}{r:V->ak->cr->Prop}{f:D->(D->Prop)->Prop}(j:fy K g n)(l:∀(x:D)(k:D->Prop),f x k->∀(R:ak)(W:TE->Prop)(B H:ak)(b:St)(a:ZI)(v:V)(Q:cr),aL K R W B H b a->bE K B v x->(∀d v c i,k d->aL K R W c i b a->bx R B c->bE K c v d->Q v i)->r v H Q):
  fy K (AP r g) (λa k=>n a λx=>f x k):=by
 intro a k h R W B H b Q e q;refine j a _ h R W B H b _ e λx v m o p s t w=>?_;exact l x k p R W m o b a v Q s w λd u y z A C g3 E=>q d u y z A C (t.trans g3) E
theorem bE.eX{B:ak}{v:V}{i:Int}(r:bE K B v (.int i)):v=.int i:=by cases r;rfl
theorem bE.kv{B:ak}{v:V}{b:Bool}(r:bE K B v (.bl b)):v=.bl b:=by cases r;rfl
theorem bE.mv{B:ak}{v:V}(r:bE K B v .non):v=.non:=by cases r;rfl
theorem bE.fB{B:ak}{v:V}{b:ZK}(r:bE K B v (.tup b)):∃a c,v=.ref a/\B a=some (.tup c)/\b_ K B c b:=by
 cases r with|tup h r=>exact⟨_,_,rfl,h,r⟩
theorem bE.fk{B:ak}{v:V}{b:ZK}(r:bE K B v (.lst b)):∃a c,v=.ref a/\B a=some (.lst c)/\b_ K B c b:=by
 cases r with|lst h r=>exact⟨_,_,rfl,h,r⟩
theorem bE.lS{B:ak}{v:V}{b:ZH}(r:bE K B v (.scr b)):∃a,v=.ref a/\cE K B a (b.map V.int):=by
 cases r with|scr h=>exact⟨_,rfl,h⟩
theorem Bo{C:Int->Int->Prop}{f:Int->Int->V}{g:Int->Int->D}{a b:bH}{n o:bd}(c:∀B i j,bE K B (f i j) (g i j))(d:fy K a n)(l:fy K b o):fy K (oL (sx C f) a b) (wX C g n o):=
 sK d l λx y k h R W B H t u v w Q e m p q=>by
  obtain⟨i,j,rfl,rfl,r,s⟩:=h;exact⟨i,j,m.eX,p.eX,r,q _ _ B H s e (bx.refl _ _) (c B i j)⟩
theorem wY{f:Int->Int->V}{g:Int->Int->D}{a b:bH}{n o:bd}(c:∀B i j,bE K B (f i j) (g i j))(d:fy K a n)(l:fy K b o):fy K (oL (lT f) a b) (ug g n o):=
 sK d l λx y k h R W B H s t v w Q e m p q=>by
  obtain⟨i,j,rfl,rfl,r⟩:=h;exact⟨i,j,m.eX,p.eX,q _ _ B H r e (bx.refl _ _) (c B i j)⟩
theorem O'{a:bH}{n:bd}(b:fy K a n):fy K (AP (AQ λi=>.int (-i)) a) (Gr n):=
 O9 (f:=λx k=>∃i,x=.int i/\k (.int (-i))) b λx k h R W B H g j v Q e c q=>by
  obtain⟨i,rfl,d⟩:=h;exact⟨i,c.eX,q _ _ B H d e (bx.refl _ _) (.int _)⟩
variable{a b:Wp}{n o:bd}{l:Pos}
theorem ah(i:Nat){x:Str}{l:Pos}(a:gV X i x:=by rfl)(b:gh X.env.scope x:=by walk_at"v")(c:ec x:=by decide)(d:gO x:=by decide):br X (.Name x l) (jF i):=⟨_,gZ a b c d,O8 i⟩
theorem bt{i j l}:br X (.Constant (.int i) j l) (i0 (.int i)):=⟨_,fw,Bn λ_=>.int _⟩
theorem h2{b j l}:br X (.Constant (.bool b) j l) (i0 (.bl b)):=⟨_,M1,Bn λ_=>.bl _⟩
theorem lX{x j l}:br X (.Constant (.str x) j l) (i0 (.str x)):=⟨_,M2,Bn λ_=>.str _⟩
theorem gv(c:br X a n)(d:br X b o):br X (.BinOp a .Add b l) (ug (λi j=>.int (i+j)) n o):=by
 obtain⟨_,e,f⟩:=c;obtain⟨_,g,h⟩:=d;exact⟨_,gk wB e g,wY (λ_ _ _=>.int _) f h⟩
theorem g4(c:br X a n)(d:br X b o):br X (.BinOp a .Sub b l) (ug (λi j=>.int (i-j)) n o):=by
 obtain⟨_,e,f⟩:=c;obtain⟨_,g,h⟩:=d;exact⟨_,gk NZ e g,wY (λ_ _ _=>.int _) f h⟩
theorem cu(c:br X a n)(d:br X b o):br X (.BinOp a .Mult b l) (wX Ba (λi j=>.int (i*j)) n o):=by
 obtain⟨_,e,f⟩:=c;obtain⟨_,g,h⟩:=d;exact⟨_,gk ua e g,Bo (λ_ _ _=>.int _) f h⟩
theorem fE(c:br X a n)(d:br X b o):br X (.BinOp a .FloorDiv b l) (wX wP (λi j=>.int (i.fdiv j)) n o):=by
 obtain⟨_,e,f⟩:=c;obtain⟨_,g,h⟩:=d;exact⟨_,gk wQ e g,Bo (λ_ _ _=>.int _) f h⟩
theorem wZ(c:br X a n)(d:br X b o):br X (.BinOp a .Mod b l) (wX (λ_ j=>0<j) (λi j=>.int (i%j)) n o):=by
 obtain⟨_,e,f⟩:=c;obtain⟨_,g,h⟩:=d;exact⟨_,gk oM e g,Bo (λ_ _ _=>.int _) f h⟩
theorem p3(b:br X a n):br X (.UnaryOp .USub a l) (Gr n):=by
 obtain⟨_,c,d⟩:=b;exact⟨_,NY N1 c,O' d⟩
def Gs(c:CmpOp)(f:Int->Int->Bool)(X:aT):Prop:=g1 X (XR c) (lT λi j=>.bl (f i j))
theorem lY{c:CmpOp}{f:Int->Int->Bool}(d:Gs c f X)(e:br X a n)(g:br X b o)(h:XG c b=false):br X (.Compare a [c] [b] l) (ug (λi j=>.bl (f i j)) n o):=by
 obtain⟨_,k,m⟩:=e;obtain⟨_,p,q⟩:=g;exact⟨_,AT d k p h,wY (λ_ _ _=>.bl _) m q⟩
def jk(n:bd):dJ:=λd k=>n d λx=>∃c,x=.bl c/\k c
def Gu(u:dJ):dJ:=λd k=>u d λc=>k (!c)
def Gv(u w:dJ):dJ:=λd k=>u d λc=>if c=true then w d k else k false
def Gw(u w:dJ):dJ:=λd k=>u d λc=>if c=true then k true else w d k
theorem uh{a:bH}{n:bd}(b:fy K a n):ig K (tX a) (jk n):=by
 intro d k h R W B H f Q e q;refine b d _ h R W B H f _ e λx v g i j l m o=>?_;obtain⟨c,rfl,p⟩:=j;exact⟨c,o.kv,q c g i p l m⟩
theorem fb{e:Wp}{u:bd}(h:br X e u)(a:∀whole,Ze e X.env whole=(do let v <-whole;YO e.pos;Yu [v] (ZA v)):=by intro _;rfl):hZ X e (jk u):=by
 obtain⟨_,b,c⟩:=h;exact⟨_,M4 b a,uh c⟩
theorem g5{c:CmpOp}{f:Int->Int->Bool}(d:Gs c f X)(e:br X a n)(g:br X b o)(h:XG c b=false):hZ X (.Compare a [c] [b] l) (jk (ug (λi j=>.bl (f i j)) n o)):=by
 obtain⟨_,k,m⟩:=e;obtain⟨_,p,q⟩:=g;exact⟨_,qY d k p h,uh (wY (λ_ _ _=>.bl _) m q)⟩
theorem Pa{t:ek}{u:dJ}(h:ig K t u):ig K (Fw t) (Gu u):=λa k z R W B H c Q e q=>h a _ z R W B H c _ e λb d f g i j=>q (!b) d f g i j
theorem Pb{t d:ek}{u f:dJ}(h:ig K t u)(o:ig K d f):ig K (Fu t d) (Gv u f):=by
 intro g k z R W B H i Q e q;refine h g _ z R W B H i _ e λb j l a m n=>?_;cases b with
 |true=>
  rw[SL rfl]at a⊢;exact o g _ a R W j l i _ m λc p r s v w=>q c p r s v (n.trans w)
 |false=>
  rw[Tk SU]at a⊢;exact q false j l a m n
theorem Pc{t d:ek}{u f:dJ}(h:ig K t u)(o:ig K d f):ig K (Fv t d) (Gw u f):=by
 intro g k z R W B H i Q e q;refine h g _ z R W B H i _ e λb j l a m n=>?_;cases b with
 |false=>
  rw[Tk SU]at a⊢;exact o g _ a R W j l i _ m λc p r s v w=>q c p r s v (n.trans w)
 |true=>
  rw[SL rfl]at a⊢;exact q true j l a m n
theorem g6{u:dJ}(h:hZ X a u):hZ X (.UnaryOp .Not a l) (Gu u):=by
 obtain⟨_,b,c⟩:=h;exact⟨_,M9 b,Pa c⟩
theorem Gx{u:dJ}(h:hZ X a u):q9 X (.BoolOp .And [a] l) u:=by
 obtain⟨_,b,c⟩:=h;exact⟨_,M5 b,c⟩
theorem lZ{u:dJ}(h:hZ X a u):q9 X (.BoolOp .Or [a] l) u:=by
 obtain⟨_,b,c⟩:=h;exact⟨_,M6 b,c⟩
theorem lx{c:ZV}{u d:dJ}(h:hZ X a u)(e:q9 X (.BoolOp .And (b::c) l) d):q9 X (.BoolOp .And (a::b::c) l) (Gv u d):=by
 obtain⟨_,f,g⟩:=h;obtain⟨_,i,j⟩:=e;exact⟨_,M7 f i,Pb g j⟩
theorem fg{c:ZV}{u d:dJ}(h:hZ X a u)(e:q9 X (.BoolOp .Or (b::c) l) d):q9 X (.BoolOp .Or (a::b::c) l) (Gw u d):=by
 obtain⟨_,f,g⟩:=h;obtain⟨_,i,j⟩:=e;exact⟨_,M8 f i,Pc g j⟩
theorem kF{u:dJ}(h:q9 X a u):hZ X a u:=by
 obtain⟨_,b,c⟩:=h;exact⟨_,b.pt,c⟩
def Pd(u w:bd):bd:=λd k=>u d λx=>∃c,x=.bl c/\if c=true then w d k else k (.bl false)
def Pe(u:bd):bd:=λd k=>u d λx=>∃c,x=.bl c/\k (.bl (!c))
theorem w1{b:BoolOp}(h:br X a n):br X (.BoolOp b [a] l) n:=by
 obtain⟨_,c,d⟩:=h;exact⟨_,Nb c,d⟩
theorem ui{f:ZV}(h:br X a n)(u:br X (.BoolOp .And (b::f) l) o):br X (.BoolOp .And (a::b::f) l) (Pd n o):=by
 obtain⟨_,y,A⟩:=h;obtain⟨_,i,C⟩:=u;refine⟨_,Nc y i,λj k z R W B H m Q e q=>?_⟩;refine A j _ z R W B H m _ e λx v p r g s t E=>?_;obtain⟨c,rfl,g⟩:=g;refine⟨c,E.kv,?_⟩;cases c with
 |true=>
  rw[SL rfl]at g⊢;exact C j _ g R W p r m _ s λd w F G i I J K=>q d w F G i I (t.trans J) K
 |false=>
  rw[Tk SU]at g⊢;exact q _ _ p r g s t (.bl _)
theorem Pf(h:br X a n):br X (.UnaryOp .Not a l) (Pe n):=by
 obtain⟨_,d,f⟩:=h;refine⟨_,Nd d,λg k z R W B H i Q e q=>?_⟩;refine f g _ z R W B H i _ e λx v j m b o p r=>?_;obtain⟨c,rfl,b⟩:=b;exact⟨c,r.kv,q _ _ j m b o p (.bl _)⟩
def Pg(c:dJ)(u w:bd):bd:=λd k=>c d λb=>if b=true then u d k else w d k
theorem l0{c:Wp}{t:dJ}(A:hZ X c t)(C:br X a n)(E:br X b o):br X (.IfExp c a b l) (Pg t n o):=by
 obtain⟨_,F,G⟩:=A;obtain⟨_,I,J⟩:=C;obtain⟨_,f,K⟩:=E;refine⟨_,Ng F I f,λh k z R W B H i Q e q=>?_⟩;refine G h _ z R W B H i _ e λc u v g x y=>?_;cases c with
 |true=>
  rw[SL rfl]at g⊢;exact J h _ g R W u v i _ x λd w j m f p r s=>q d w j m f p (y.trans r) s
 |false=>
  rw[Tk SU]at g⊢;exact K h _ g R W u v i _ x λd w j m f p r s=>q d w j m f p (y.trans r) s
def sL:cJ:=λ_ k=>k []
def mF(u:bd)(w:cJ):cJ:=λc k=>u c λd=>w c λe=>k (d::e)
variable{e:Wp}{A:ZV}{u:bd}{w:cJ}
theorem Ph:wW K wD sL:=λa k h R W B H b Q e q=>q [] [] B H h e (bx.refl _ _) .nil
theorem Pi{a:bH}{t:e3}(g:fy K a u)(i:wW K t w):wW K (wE a t) (mF u w):=by
 intro b k h R W B H c Q e q;refine g b _ h R W B H c _ e λd v j l m n o p=>?_;refine i b _ m R W j l c _ n λC E r x y z f A=>?_;exact q _ _ r x y z (o.trans f) (.cons (p.mono f.s) A)
theorem cd:pZ X [] sL:=⟨_,fa,Ph⟩
theorem aY(a:br X e u)(b:pZ X A w)(c:eN X e A:=by rfl):pZ X (e::A) (mF u w):=by
 obtain⟨_,d,f⟩:=a;obtain⟨_,g,h⟩:=b;exact⟨_,d8 d g c,Pi f h⟩
def uj(w:cJ):bd:=λd k=>w d λc=>c.length<=TI/\k (.tup c)
theorem dO{g}(h:pZ X A w):br X (.Tuple A g l) (uj w):=by
 obtain⟨_,i,j⟩:=h;refine⟨_,wF i,λm k z R W B H n Q e q=>?_⟩;refine j m _ z R W B H n _ e λt o u v a b r c=>?_;refine⟨by rw[c.length];exact a.1,λp d=>?_⟩;have f:=b.grow d (.tup o);exact q _ _ _ _ a.2 (b.alloc d _) (r.trans f) (.tup dL (c.mono f.s))
def Pj(w:cJ):cJ:=λd k=>w d λc=>c.length<=TI/\k c
theorem gw(h:pZ X A w):j2 X (.List A l) (Pj w):=by
 obtain⟨_,f,g⟩:=h;refine⟨_,t4 f,λj k z R W B H n Q e q=>?_⟩;refine g j _ z R W B H n _ e λo r s x c a t d=>?_;refine⟨by rw[d.length];exact c.1,λp b=>?_⟩;obtain⟨u,y,v⟩:=a.toWd.fresh b;exact q o p r s _ c.2 (a.e8 b _) t u v dL d λi m=>a.ff b m rfl
def Gy(w:cJ):bd:=λc k=>w c λd=>k (.lst d)
theorem Pk{t:bH}(h:Bk K t w):fy K t (Gy w):=by
 intro c k z R W B H d Q e q;refine h c _ z R W B H d _ e λr a u v x f g i j l m n o=>?_;obtain⟨p,b⟩:=g.freeze m j l o;exact q _ _ _ _ f p (i.trans b) (.lst dL (n.mono b.s))
theorem ea(h:j2 X e w):br X e (Gy w):=by
 obtain⟨_,a,b⟩:=h;exact⟨_,a,Pk b⟩
def Bp(n o:bd):bd:=λf k=>n f λx=>o f λy=>∃c i d,(x=.tup c\/x=.lst c)/\y=.int i/\eB c i=some d/\k d
theorem uk{B:ak}{b:ZL}{a:ZK}{i:Int}{d:D}(r:b_ K B b a)(h:eB a i=some d):∃v,eB b i=some v/\bE K B v d:=by
 unfold eB at h⊢;rw[r.length];cases q:jg a.length i with
 |none=>rw[q]at h;cases h
 |some j=>
  rw[q]at h;exact r.get h
theorem hn(c:br X a n)(w:br X b o)(A:q2 b):br X (.Subscript a b l) (Bp n o):=by
 obtain⟨_,C,E⟩:=c;obtain⟨_,F,G⟩:=w;refine⟨_,k7 oO C F A,sK E G λx y k h R W B H J K v L Q e s t q=>?_⟩;obtain⟨M,i,d,I,rfl,c,u⟩:=h;rcases I with rfl|rfl
 ·obtain⟨p,f,rfl,g,j⟩:=s.fB;obtain⟨z,m,r⟩:=uk j c;exact⟨p,f,i,z,rfl,t.eX,.inl (e.bh _ _ g),m,q d z B H u e (bx.refl _ _) r⟩
 obtain⟨p,f,rfl,g,j⟩:=s.fk;obtain⟨z,m,r⟩:=uk j c;exact⟨p,f,i,z,rfl,t.eX,.inr (e.bh _ _ g),m,q d z B H u e (bx.refl _ _) r⟩
end
abbrev cb:=ZI->(aA->Prop)->Prop
def kH:ZI->Nat
 |[]=>0
 |.bag::r=>kH r+1
 |_::r=>kH r
inductive j4(K:Su)(W:TE->Prop)(B:ak):ZL->ZI->Prop where
 |nil:j4 K W B [] []
 |val{v:V}{d:D}{vs:ZL}{as:ZI}(h:bE K B v d)(r:j4 K W B vs as):j4 K W B (v::vs) (.val d::as)
 |bag{b:TE}{vs:ZL}{as:ZI}(h:W b)(r:j4 K W B vs as):j4 K W B (.ref b::vs) (.bag::as)
structure Pl(K:Su)(W:TE->Prop)(B H:ak)(v:V)(r:aA)(aw H':ak):Prop where
 wd:Wd H W aw H'
 g:bx H B aw
 res:Bl K H aw H' v r
def ck(K:Su)(n:Nat)(F:cb):iW:=λd H Q _=>∃(W:TE->Prop)(B:ak)(b:ZI)(k:aA->Prop),F b k/\b.length=n/\Nat.ble (kH b) 1=true/\cj B H/\(∀a,W a->B a=none/\fX H a)/\j4 K W B d b /\
 ∀r v e c,k r->Pl K W B H v r e c->Q v c
section
variable{K:Su}{R:ak}{W:TE->Prop}{B l H p:ak}{C:St}{G:ZI}
theorem j4.length:∀{a:ZL}{b:ZI},j4 K W B a b->a.length=b.length
 |_,_,.nil=>rfl
 |_,_,.val _ r=>by rw[SK,SK,r.length]
 |_,_,.bag _ r=>by rw[SK,SK,r.length]
theorem j4.get:∀{a:ZL}{c:ZI},j4 K W B a c->∀(i:Nat)(k:aA),c[i]?=some k->(∃v d,a[i]?=some v/\k=.val d/\bE K B v d)\/(∃b,a[i]?=some (.ref b)/\k=.bag/\W b)
 |_,_,.nil,i,k,e=>by simp at e
 |_,_,.val h r,0,k,e=>by simp at e;subst e;exact .inl ⟨_,_,rfl,rfl,h⟩
 |_,_,.val h r,i+1,k,e=>by simpa using r.get i k (by simpa using e)
 |_,_,.bag h r,0,k,e=>by simp at e;subst e;exact .inr ⟨_,rfl,rfl,h⟩
 |_,_,.bag h r,i+1,k,e=>by simpa using r.get i k (by simpa using e)
theorem p4:∀{as:ZI}{i:Nat},kH as=0->as[i]?≠some .bag
 |[],i,_=>by simp
 |.bag::r,i,h=>by simp[kH]at h
 |.no::r,0,h=>by simp
 |.no::r,i+1,h=>by simpa using p4 (as:=r) (i:=i) h
 |.val d::r,0,h=>by simp
 |.val d::r,i+1,h=>by simpa using p4 (as:=r) (i:=i) h
 |.new d::r,0,h=>by simp
 |.new d::r,i+1,h=>by simpa using p4 (as:=r) (i:=i) h
 |.pin v d::r,0,h=>by simp
 |.pin v d::r,i+1,h=>by simpa using p4 (as:=r) (i:=i) h
 |.own d::r,0,h=>by simp
 |.own d::r,i+1,h=>by simpa using p4 (as:=r) (i:=i) h
 |.deep d::r,0,h=>by simp
 |.deep d::r,i+1,h=>by simpa using p4 (as:=r) (i:=i) h
theorem p5:∀{as:ZI}{i j:Nat},kH as<=1->as[i]?=some .bag->as[j]?=some .bag->i=j
 |[],i,j,_,e,_=>by simp at e
 |.bag::r,0,0,_,_,_=>rfl
 |.bag::r,0,j+1,h,_,e=>absurd (by simpa using e) (p4 (as:=r) (i:=j) (by simp[kH]at h;exact h))
 |.bag::r,i+1,_,h,e,_=>absurd (by simpa using e) (p4 (as:=r) (i:=i) (by simp[kH]at h;exact h))
 |.no::r,0,_,_,e,_=>by simp at e
 |.no::r,i+1,0,_,_,e=>by simp at e
 |.no::r,i+1,j+1,h,e,a=>by rw[p5 (as:=r) (i:=i) (j:=j) h (by simpa using e) (by simpa using a)]
 |.val d::r,0,_,_,e,_=>by simp at e
 |.val d::r,i+1,0,_,_,e=>by simp at e
 |.val d::r,i+1,j+1,h,e,a=>by rw[p5 (as:=r) (i:=i) (j:=j) h (by simpa using e) (by simpa using a)]
 |.new d::r,0,_,_,e,_=>by simp at e
 |.new d::r,i+1,0,_,_,e=>by simp at e
 |.new d::r,i+1,j+1,h,e,a=>by rw[p5 (as:=r) (i:=i) (j:=j) h (by simpa using e) (by simpa using a)]
 |.pin v d::r,0,_,_,e,_=>by simp at e
 |.pin v d::r,i+1,0,_,_,e=>by simp at e
 |.pin v d::r,i+1,j+1,h,e,a=>by rw[p5 (as:=r) (i:=i) (j:=j) h (by simpa using e) (by simpa using a)]
 |.own d::r,0,_,_,e,_=>by simp at e
 |.own d::r,i+1,0,_,_,e=>by simp at e
 |.own d::r,i+1,j+1,h,e,a=>by rw[p5 (as:=r) (i:=i) (j:=j) h (by simpa using e) (by simpa using a)]
 |.deep d::r,0,_,_,e,_=>by simp at e
 |.deep d::r,i+1,0,_,_,e=>by simp at e
 |.deep d::r,i+1,j+1,h,e,a=>by rw[p5 (as:=r) (i:=i) (j:=j) h (by simpa using e) (by simpa using a)]
theorem aL.after{k:TE->Prop}(e:aL K R W B H C G)(A:∀a,k a->∃i:Nat,C[i]?=some (some (.ref a))/\G[i]?=some .bag)(r:Wd H k l p)(g:bx H B l):aL K R W l p C G/\bx R B l:=by
 have E:∀a,B a=none->H a≠none->l a=none:=λa c v=>by
  cases q:l a with
  |none=>rfl
  |some o=>
   rcases g.n a o q with z|z
   ·rw[c]at z;cases z
   exact absurd z v
 have st:∀a,¬k a->H a≠none->p a=H a:=λa c v=>by
  cases q:H a with
  |none=>exact absurd q v
  |some o=>exact r.fr a o q c
 have F:∀a,fX H a->fX p a:=λa h=>by
  by_cases z:k a
  ·exact r.wh a z
  obtain⟨x,y,t,q⟩:=h;exact⟨x,y,by rw[st a z (by rw[t];simp)];exact t,q⟩
 have J:∀a,fX H a->H a≠none:=λa ⟨x,y,t,_⟩=>by rw[t];simp
 refine⟨e.move ⟨λa o h I=>?_,r.bh,λa h=>E a (e.wb a h) (J a (e.wh a h)),λa h=>F a (e.wh a h),e.wr⟩ g.s (λi a m=>⟨E a (e.eP m).1 (e.eP m).2,λz=>?_,λz=>?_⟩),⟨g.s,λa o h=>?_⟩⟩
 ·have c:=e.fr a o h I;refine r.fr a o c λz=>?_;obtain⟨i,w,u⟩:=A a z;obtain⟨b,d,f,_⟩:=e.eQ u;rw[w]at d;cases d;rcases f with f|f
  ·exact I f
  rw[f]at h;cases h
 ·obtain⟨b,d,_,_,L⟩:=e.eQ z;rw[oS m z]at d;cases d;exact F _ L
 ·refine st a (λq=>?_) (e.eP m).2;obtain⟨j,w,u⟩:=A a q;have:=e.sep i j a m (.inl ⟨w,.inl u⟩);subst this;exact z u
 rcases g.n a o h with z|z
 ·exact .inl z
 exact .inr (e.toWd.fresh z).1
theorem aL.start{N:ZS}{f:ZL}{e:ZI}(o:kH e<=1)(p:cj B H)(g:∀a,W a->B a=none/\fX H a)(l:j4 K W B f e):aL K H W B H (L3.fP N f) (e++SS (N.length-e.length) .no):=by
 have s:=l.length;have t:Wd H W B H:=⟨λ_ _ h _=>h,p,λa h=>(g a h).1,λa h=>(g a h).2,λa h=>by obtain⟨x,y,q,_⟩:=(g a h).2;rw[q];simp⟩
 have lo:∀i k,e[i]?=some k->(L3.fP N f)[i]?=(f[i]?).map some:=λi k h=>by
  have lt:i<e.length:=by
   by_cases z:i<e.length
   ·exact z
   rw[Te (by lia)]at h;cases h
  unfold L3.fP;rw[TJ (by rw[Sv];lia),SP]
 have cs:∀(i:Nat)(k:aA),(e++SS (N.length-e.length) aA.no)[i]?=some k->e[i]?=some k\/k=aA.no:=λi k h=>by
  by_cases z:i<e.length
  ·rw[TJ z]at h;exact .inl h
  rw[Tq (by lia)]at h;rw[Un]at h;split at h
  ·exact .inr (SN h).symm
  cases h
 have u:∀i:Nat,(e++SS (N.length-e.length) aA.no)[i]?=some aA.bag->e[i]?=some aA.bag:=λi h=>by
  rcases cs i _ h with h|h
  ·exact h
  cases h
 refine⟨t,by unfold L3.fP;simp[s],λi k h=>?_,λi j a w A=>?_⟩
 ·rcases cs i k h with h|rfl
  ·rw[lo i k h];rcases l.get i k h with⟨v,d,n,rfl,r⟩|⟨b,n,rfl,r⟩
   ·rw[n];exact⟨v,rfl,r⟩
   rw[n];exact⟨b,rfl,.inl r,(g b r).1,(g b r).2⟩
  trivial
 have one:∀i,cg (L3.fP N f) (e++SS (N.length-e.length) aA.no) i a->e[i]?=some .bag:=λi m=>by
  rcases m with⟨_,z|⟨C,z⟩⟩|⟨c,z,_⟩
  ·exact u i z
  ·rcases cs i _ z with z|z
   ·rcases l.get i _ z with⟨v,d,_,q,_⟩|⟨b,_,q,_⟩<;>cases q
   cases z
  rcases cs i _ z with z|z
  ·rcases l.get i _ z with⟨v,d,_,q,_⟩|⟨b,_,q,_⟩<;>cases q
  cases z
 exact p5 o (one i w) (one j A)
theorem dy{P:WP}{w:Xy}{m:Str->Option SC}{c:XE}{x:Str}{st:XD}{N i:ZS}{y n:Nat}{F:cb}(M:cG K m x st i)(S:cy N i (bN st))(O:i.length=n)(R:∀(f:TE)(b:SC)(A:Xz)(a:List Tv)(s:Tl)(H:ak)(E:gW),ez y (A.deeper (U4 x (bN st) s.heap.objs.size f b))->∃u,hE (k6 j0 P w K m c N x (bN st) f b A a s H E).jD (jZ st) u/\∀d k,d.length=n->F d k->u {nx:=λ_=>k (.val .non),rt:=k} (d++SS (N.length-n) .no)):ca P w K m c x i (y+1) (ck K n F):=by
 refine M.ok S (λJ H Q E h=>?_) (λf b A a s H J Q E T h=>?_)
 ·obtain⟨W,B,d,k,_,j,_,_,_,o,_⟩:=h;rw[o.length,j,O]
 obtain⟨W,B,d,k,U,j,X,Y,Z,o,q⟩:=h;obtain⟨u,⟨t,h1,I⟩,aa⟩:=R f b A a s H E T;have L:=aL.start (N:=N) (Vk X) Y Z o;rw[j]at L;refine⟨t,h1,I _ _ (aa d k j U) H W B H (L3.fP N J) _ L ⟨λG C l p h e g=>?_,λ_ _ _ _ h=>h.elim,λ_ _ _ _ h=>h.elim,λr v l p h e g z=>q r v l p h ⟨e,g,z⟩⟩⟩;exact q _ _ l p h ⟨e.toWd,g,.non⟩
end
def gF.sl:gF->aA
 |.val d=>.val d
 |.bag _=>.bag
@[reducible] def mH:aA->(D->Prop)->Prop
 |.val d,k=>k d
 |.own (.l a),k=>k (.lst a)
 |.new d,k=>k d
 |_,_=>False
def Br:iZ:=λ_ k=>k []
def Bs(u:bd)(w:iZ):iZ:=λa k=>u a λd=>w a λb=>k (.val d::b)
def Pm(i:Nat)(w:iZ):iZ:=λa k=>a[i]?=some .bag/\w a λb=>k (.bag i::b)
def sh(a:ZQ)(n:Nat):Bool:=Nat.beq a.length n&&Nat.ble (kH (a.map gF.sl)) 1
def Bt(n:Nat)(F:cb)(w:iZ):bd:=λb k=>w b λa=>sh a n=true/\F (a.map gF.sl) λr=>mH r k
def Pn(n:Nat)(F:cb)(w:iZ):cJ:=λc k=>w c λa=>sh a n=true/\F (a.map gF.sl) λr=>∃b:ZK,r=.own b/\k b
section
variable{K:Su}{X:aT}{e:Wp}{f:ZV}{u:bd}{w:iZ}{o p:Pos}{n:Nat}{F:cb}
theorem a9:mD X [] Br:=⟨_,fa,λa k h R W B H b Q e q=>q [] [] B H h e (bx.refl _ _) .nil⟩
theorem aF(g:br X e u)(i:mD X f w)(j:eN X e f:=by rfl):mD X (e::f) (Bs u w):=by
 obtain⟨_,l,m⟩:=g;obtain⟨_,n,o⟩:=i;refine⟨_,d8 l n j,λa k h R W B H b Q e q=>?_⟩;refine m a _ h R W B H b _ e λd v p r t x y z=>?_;refine o a _ t R W p r b _ x λI J A C E F c G=>?_;exact q _ _ A C E F (y.trans c) (.val (z.mono c.s) G)
theorem hq(i:Nat){x:Str}{a:Pos}(g:mD X f w)(j:gV X i x:=by rfl)(l:gh X.env.scope x:=by walk_at"v")(m:ec x:=by decide)(n:gO x:=by decide)(o:UF (.Name x a::f) X.env=(false,Yk (.Name x a) X.env)::UF f X.env:=by rfl):mD X (.Name x a::f) (Pm i w):=by
 obtain⟨_,p,r⟩:=g;refine⟨_,d8 (gZ j l m n) p o,λs k h R W B H t Q e q=>?_⟩;obtain⟨c,h⟩:=h;obtain⟨b,d,E⟩:=e.eQ c;refine⟨_,d,?_⟩;refine r s _ h R W B H t _ e λF G u v y z A C=>?_;exact q _ _ u v y z A (.bag d c C)
theorem kD.toIn{B:ak}{d:St}{g:ZI}{W:TE->Prop}{R H:ak}{l:TE->Prop}(e:aL K R l B H d g):∀{j:ZL}{f:ZQ},kD K B d g j f->(∀i b,gF.bag i∈f->d[i]?=some (some (.ref b))->W b)->j4 K W B j (f.map gF.sl)
 |_,_,.nil,_=>.nil
 |_,_,.val h r,a=>.val h (kD.toIn e r λi b m=>a i b (SA _ m))
 |_,_,.bag h n r,a=>by
  obtain⟨b,k,_⟩:=e.eQ n;rw[h]at k;cases k;exact .bag (a _ b Sw h) (kD.toIn e r λi c m=>a i c (SA _ m))
theorem kD.kl{B:ak}{c:St}{a:ZI}:∀{d:ZL}{b:ZQ}{i:Nat},kD K B c a d b->gF.bag i∈b->a[i]?=some .bag
 |_,_,_,.nil,m=>by simp at m
 |_,_,_,.val h r,m=>by
  rcases SG.mp m with m|m
  ·cases m
  exact r.kl m
 |_,_,_,.bag h e r,m=>by
  rcases SG.mp m with m|m
  ·cases m;exact e
  exact r.kl m
theorem q'{R:ak}{W:TE->Prop}{B H:ak}{c:St}{f:ZI}{o:ZL}{as:ZQ}{k:aA->Prop}{Q:cr}{E:gW}(e:aL K R W B H c f)(ok:kD K B c f o as)(j:sh as n=true)(t:F (as.map gF.sl) k)(q:∀r v d H',k r->aL K R W d H' c f->bx R B d->Bl K H d H' v r->Q v H'):ck K n F o H Q E:=by
 rw[sh,TQ]at j;have u:as.length=n:=Nat.eq_of_beq_eq_true j.1;have p:∀a,(∃i:Nat,gF.bag i∈as/\c[i]?=some (some (.ref a)))->∃i:Nat,c[i]?=some (some (.ref a))/\f[i]?=some .bag:=λa ⟨i,m,z⟩=>⟨i,z,ok.kl m⟩;refine⟨λa=>∃i:Nat,gF.bag i∈as/\c[i]?=some (some (.ref a)),B,as.map gF.sl,k,t,by rw[Sv];exact u,j.2,e.bh,λa h=>?_,ok.toIn e λi b m z=>⟨i,m,z⟩,λr v d H' w l=>?_⟩
 ·obtain⟨i,x,y⟩:=p a h;obtain⟨b,s,_,A,C⟩:=e.eQ y;rw[x]at s;cases s;exact⟨A,C⟩
 obtain⟨G,I⟩:=e.after p l.wd l.g;exact q r v d H' w G I l.res
theorem Po{x:Str}{N:ZS}{j C:Nat}(c:ca X.prog X.w X.K X.mg X.base x N j (ck X.K n F))(O:ez C X.A)(P:eG X x)(S:mD X (e::f) w)(T:j<=C:=by decide)(U:ec x:=by decide)(Y:eN X e f:=by rfl)(Z:hy X o f:=by rfl):
  br X (.Call (.Name x p) (e::f) [] o) (Bt n F w):=by
 obtain⟨_,aa,hi⟩:=S;refine⟨_,oP c O P aa T U Y Z,λE k h R W B H G Q e q=>?_⟩;refine hi E _ h R W B H G _ e λaw ax ay az I t u ae=>?_;rw[SR];refine q' t ae I.1 I.2 λr v J L b y z g=>?_;cases r with
 |no=>exact b.elim
 |bag=>exact b.elim
 |pin v d=>exact b.elim
 |deep c=>exact b.elim
 |val d=>exact q d v J L b y (u.trans z) g
 |new d=>exact q d v J L b y (u.trans z) (bE.mono iX g)
 |own c=>
  cases c with
  |d _ _ _ _=>exact b.elim
  |l aI=>
  obtain⟨a,rfl,M,af,aJ,hc,aj⟩:=g
  obtain⟨ar,g3⟩:=y.freeze hc (t.toWd.fresh M).1 af λi m=>absurd M (by
   have av:cg G E i a:=m
   exact(t.eP av).2)
  exact q _ _ _ _ b ar ((u.trans z).trans g3) (.lst dL (aj.mono g3.s))
theorem Bu{x:Str}{u:ZS}{j l:Nat}(c:ca X.prog X.w X.K X.mg X.base x u j (ck X.K n F))(y:ez l X.A)(z:eG X x)(C:mD X (e::f) w)(E:j<=l:=by decide)(G:ec x:=by decide)(I:eN X e f:=by rfl)(J:hy X o f:=by rfl):
  j2 X (.Call (.Name x p) (e::f) [] o) (Pn n F w):=by
 obtain⟨_,L,M⟩:=C;refine⟨_,oP c y z L E G I J,λN k h R W B H O Q e q=>?_⟩;refine M N _ h R W B H O _ e λaj ar av aw s b P S=>?_;rw[SR];refine q' b S s.1 s.2 λr v T U d Y Z g=>?_;obtain⟨aa,rfl,d⟩:=d;obtain⟨a,rfl,t,hi,ae,af,hc⟩:=g;exact q aa a ae T U d Y (P.trans Z) (b.toWd.fresh t).1 hi af hc λi m=>(b.eP m).2 t
end
def sM:D->Option Nat
 |.tup a=>some a.length
 |.lst a=>some a.length
 |.scr b=>some b.length
 |_=>none
def Pp(u:bd):bd:=λa k=>u a λx=>∃n,sM x=some n/\k (.int n)
def Pq(i:Nat):bd:=λb k=>∃a:ZK,b[i]?=some (.own a)/\k (.int a.length)
def Pr(u:bd):bd:=λa k=>u a λx=>∃i,x=.int i/\k (.int (if i<0 then -i else i))
def Ps(u:bd):bd:=λa k=>u a λx=>(∃i,x=.int i/\k (.int i))\/∃c,x=.bl c/\k (.int (if c then 1 else 0))
def Gz:D->Option String
 |.int _=>some "int"
 |.bl _=>some "bool"
 |.tup _=>some "tuple"
 |.lst _=>some "list"
 |.non=>some "NoneType"
 |.str _=>some "str"
 |_=>none
def Pt(u:bd)(n:String):bd:=λa k=>u a λx=>∃t b,Gz x=some t/\(∀K,VJ K (.type t) (.type n)=some b)/\k (.bl b)
section
variable{K:Su}{X:aT}{e:Wp}{j:ZV}{u:bd}{g p:Pos}{n:Nat}
theorem w2{g:bH}{r:ZL->ak->cr->Prop}{f:D->(D->Prop)->Prop}(j:fy K g u)(l:∀(x:D)(k:D->Prop),f x k->∀(R:ak)(W:TE->Prop)(B H:ak)(b:St)(a:ZI)(v:V)(Q:cr),aL K R W B H b a->bE K B v x->(∀d v c i,k d->aL K R W c i b a->bx R B c->bE K c v d->Q v i)->r [v] H Q):
  fy K (AZ r (wE g wD)) (λa k=>u a λx=>f x k):=by
 intro a k h R W B H b Q e q;refine j a _ h R W B H b _ e λx v m n o p s t=>?_;exact l x k o R W m n b a v Q p t λd u w y z A g3 C=>q d u w y z A (s.trans g3) C
theorem j6(b:br X e u)(m:eG X "len")(o:X.mg "len"=none)(l:eN X e []:=by rfl):br X (.Call (.Name "len" p) [e] [] g) (Pp u):=by
 obtain⟨_,s,t⟩:=b;refine⟨_,q1 A3 m o PySem.boot_len (d8 s fa l) (by decide) (by decide) l,w2 (f:=λx k=>∃n,sM x=some n/\k (.int n)) t λx k h R W B H w y v Q e i q=>?_⟩;obtain⟨n,d,c⟩:=h;cases x<;>first|(cases d;done)|skip
 ·obtain⟨a,j,rfl,b,r⟩:=i.fB;cases d;rw[<-r.length]at c;exact⟨a,j,rfl,.inr (fx.of (e.bh _ _ b)),q _ _ B H c e (bx.refl _ _) (.int _)⟩
 ·obtain⟨a,j,rfl,b,r⟩:=i.fk;cases d;rw[<-r.length]at c;exact⟨a,j,rfl,.inl (cE.of (e.bh _ _ b)),q _ _ B H c e (bx.refl _ _) (.int _)⟩
 obtain⟨a,rfl,b⟩:=i.lS;cases d;refine⟨a,_,rfl,.inl (e.bh.seq b),?_⟩;rw[Sv];exact q _ _ B H c e (bx.refl _ _) (.int _)
theorem Pu(i:Nat){x:Str}{b:Pos}(f:eG X "len")(j:X.mg "len"=none)(l:gV X i x:=by rfl)(m:gh X.env.scope x:=by walk_at"v")(n:ec x:=by decide)(o:gO x:=by decide)(c:UF [.Name x b] X.env=(false,Yk (.Name x b) X.env)::UF [] X.env:=by rfl):br X (.Call (.Name "len" p) [.Name x b] [] g) (Pq i):=by
 refine⟨_,q1 A3 f j PySem.boot_len (d8 (gZ l m n o) fa c) (by decide) (by decide) c,λw k h R W B H y Q e q=>?_⟩;obtain⟨z,r,d⟩:=h;obtain⟨a,s,t,A,C,u,v⟩:=e.ownAt r;rw[<-v.length]at d;exact⟨_,t,a,s,rfl,.inl (cE.of u),q _ _ B H d e (bx.refl _ _) (.int _)⟩
theorem ra(b:br X e u)(c:eG X "abs")(d:X.mg "abs"=none)(a:eN X e []:=by rfl):br X (.Call (.Name "abs" p) [e] [] g) (Pr u):=by
 obtain⟨_,j,l⟩:=b;refine⟨_,q1 N6 c d (by decide +kernel) (d8 j fa a) (by decide) (by decide) a,w2 (f:=λx k=>∃i,x=.int i/\k (.int (if i<0 then -i else i))) l λx k h R W B H o r v Q e m q=>?_⟩;obtain⟨i,rfl,n⟩:=h;exact⟨i,by rw[m.eX],q _ _ B H n e (bx.refl _ _) (.int _)⟩
theorem um(j:br X e u)(l:eG X "int")(m:X.mg "int"=none)(b:eN X e []:=by rfl):br X (.Call (.Name "int" p) [e] [] g) (Ps u):=by
 obtain⟨_,n,o⟩:=j;refine⟨_,FV N7 l m (by decide +kernel) (d8 n fa b) (by decide) (by decide) b,w2 (f:=λx k=>(∃i,x=.int i/\k (.int i))\/∃c,x=.bl c/\k (.int (if c then 1 else 0))) o λx k h R W B H r s v Q e d q=>?_⟩;rcases h with⟨i,rfl,a⟩|⟨c,rfl,a⟩
 ·exact .inl ⟨i,by rw[d.eX],q _ _ B H a e (bx.refl _ _) (.int _)⟩
 exact .inr ⟨c,by rw[d.kv],q _ _ B H a e (bx.refl _ _) (.int _)⟩
theorem Pv{B H:ak}{v:V}{x:D}{t:String}(s:cj B H)(r:bE K B v x)(h:Gz x=some t):kA K H v (.type t):=by
 cases r<;>cases h
 ·exact .non
 ·exact .bl _
 ·exact .int _
 ·exact .str _
 ·exact .tup (s _ _ (by assumption))
 exact .lst (s _ _ (by assumption))
theorem lf{T:String}{y:Str}{a:Pos}(i:br X e u)(j:eG X "isinstance")(l:X.mg "isinstance"=none)(m:bQ X (.Name y a) (qU (.ty T)))(d:UF [e,.Name y a] X.env=(false,Yk e X.env)::UF [.Name y a] X.env)(n:UF [.Name y a] X.env=(false,Yk (.Name y a) X.env)::UF [] X.env)(o:(X9 g (UF [.Name y a] X.env)).any (·.1)=false):br X (.Call (.Name "isinstance" p) [e,.Name y a] [] g) (Pt u T):=by
 obtain⟨_,c,r⟩:=i;refine⟨_,q1 OZ j l (by decide +kernel) (d8 c (d8 m fa n) d) (by decide) (by decide) d o,λs k h R W B H w Q e q=>?_⟩;refine r s _ h R W B H w _ e λx v A C c f E F=>?_;obtain⟨t,b,G,I,z⟩:=c;exact⟨v,_,T,b,rfl,Pv f.bh F G,I _,q _ _ A C z f E (.bl _)⟩
end
section
variable{K:Su}{X:aT}{e:Wp}{C:ZV}{u:bd}{w:cJ}{f p:Pos}
def w3:cB:=λU a=>U.nx a
def oV(s t:cB):cB:=λU a=>s {U with nx:=t U} a
def Pw(u:bd):cB:=λU a=>u a λd=>U.rt (.val d)
def Px(w:cJ):cB:=λU a=>w a λb=>U.rt (.own b)
def Py(i:Nat):cB:=λU b=>∃a,b[i]?=some (.own a)/\U.rt (.own a)
def Bv(i:Nat)(u:bd):cB:=λU a=>u a λd=>U.nx (a.set i (.val d))
def GA(i:Nat)(w:cJ):cB:=λU a=>w a λb=>U.nx (a.set i (.own b))
def Bw(c:dJ)(s t:cB):cB:=λU a=>c a λb=>if b=true then s U a else t U a
def Pz(i:Nat)(s:cB):cB:=λU a=>∃b:ZK,a[i]?=some (.own b)/\s U (a.set i (.val (.lst b)))
theorem fA:hE X [] w3:=⟨_,wq,λU a h R W B H b D e s=>s.nx a b B H h e (bx.refl _ _)⟩
theorem bB{st:XD}{s:cB}(h:eV X st s):hE X [st] s:=by
 obtain⟨_,a,b⟩:=h;exact⟨_,pM a,b⟩
theorem aZ{st:XD}{a:ZW}{s t:cB}(h:eV X st s)(c:hE X a t):hE X (st::a) (oV s t):=by
 obtain⟨_,d,f⟩:=h;obtain⟨_,i,j⟩:=c;refine⟨_,mr d i,λU k h R W B H l D e b=>?_⟩;exact f _ k h R W B H l _ e ⟨λm n o p z q g=>j U m z R W o p n D q (b.grow g),b.bk,b.ct,b.rt⟩
theorem kI{st:ZW}{s:cB}(i:Nat)(h:hE X st s):hE X st (Pz i s):=by
 obtain⟨_,a,b⟩:=h;refine⟨_,a,λU l h R W B H c D e d=>?_⟩;obtain⟨m,f,z⟩:=h;obtain⟨j,k,g⟩:=e.fz f;exact b U _ z R W j H c D k (d.grow g)
theorem GB{st:XD}:eV X st (λ_ _=>False):=⟨_,No,λU a h=>h.elim⟩
theorem cz(h:br X e u):eV X (.Return (some e) f) (Pw u):=by
 obtain⟨_,a,b⟩:=h;refine⟨_,ms a,λU c h R W B H g D e s=>?_⟩;exact b c _ h R W B H g _ e λd v i j k l m n=>s.rt _ v i j k l.toWd m n
theorem Bx(h:j2 X e w):eV X (.Return (some e) f) (Px w):=by
 obtain⟨_,b,c⟩:=h;refine⟨_,ms b,λU d h R W B H g D e s=>?_⟩;exact c d _ h R W B H g _ e λi a j k l m n o p q r t u=>s.rt (.own i) _ k l m n.toWd o ⟨a,rfl,p,q,j,r,t⟩
theorem GC(i:Nat){x:Str}{b:Pos}(c:gV X i x:=by rfl)(d:gh X.env.scope x:=by walk_at"v")(g:ec x:=by decide)(j:gO x:=by decide):eV X (.Return (some (.Name x b)) f) (Py i):=by
 refine⟨_,ms (gZ c d g j),λU q h R W B H r D e s=>?_⟩;obtain⟨k,l,z⟩:=h;obtain⟨a,m,n,o,p⟩:=e.fJ l;exact⟨_,m,s.rt (.own k) _ B H z e.toWd (bx.refl _ _) ⟨a,rfl,n,o,p⟩⟩
theorem w4{i:Nat}{x:Str}{a:Pos}(b:X.N.Nodup)(c:X.N[i]?=some x)(g:ho X.env.scope x)(j:br X e u)(k:XA e (some (.Name x a)) f.line X.env=pure false:=by rfl)(l:ip X x:=by walk_at"f"):
  eV X (.Assign [.Name x a] e f) (Bv i u):=by
 obtain⟨_,m,n⟩:=j;refine⟨_,qW b c g m k l,λU o h R W B H p D e s=>?_⟩;exact n o _ h R W B H p _ e λd v q r t w y z=>s.nx _ _ q r t (w.fV i z) y
theorem mI{i:Nat}{x:Str}{b:Pos}(c:X.N.Nodup)(d:X.N[i]?=some x)(g:ho X.env.scope x)(k:j2 X e w)(l:XA e (some (.Name x b)) f.line X.env=pure false:=by rfl)(m:ip X x:=by walk_at"f"):
  eV X (.Assign [.Name x b] e f) (GA i w):=by
 obtain⟨_,n,o⟩:=k;refine⟨_,qW c d g n l m,λU p h R W B H q D e s=>?_⟩;exact o p _ h R W B H q _ e λG a I r t u v y z A C E F=>s.nx _ _ r t u (v.h5 i z A C E λj _=>F j) y
theorem fc{c:Wp}{a b:ZW}{j:dJ}{s t:cB}(p:hZ X c j)(q:hE X a s)(r:hE X b t):eV X (.If c a b f) (Bw j s t):=by
 obtain⟨_,u,v⟩:=p;obtain⟨_,w,x⟩:=q;obtain⟨_,y,z⟩:=r;refine⟨_,ws u w y,λU g h R W B H i D e k=>?_⟩;refine v g _ h R W B H i _ e λc l m d n o=>?_;cases c with
 |true=>
  rw[SL rfl]at d⊢;exact x U g d R W l m i D n (k.grow o)
 |false=>
  rw[Tk SU]at d⊢;exact z U g d R W l m i D n (k.grow o)
def fp(i:Nat):eU:=λd a k=>k (a.set i (.val d))
def mJ:nV:=λa b k=>a=[]/\k b
def hr(g:eU)(a:nV):nV:=λb c k=>∃d r,b=d::r/\g d c λh=>a r h k
def mK(n:Nat)(b:nV):eU:=λd c k=>∃a,d=.tup a/\a.length=n/\b a c k
def PA(u:bd)(g:eU):cB:=λU a=>u a λd=>g d a U.nx
theorem eW{i:Nat}{x:Str}(b:X.N.Nodup)(c:X.N[i]?=some x)(g:ho X.env.scope x)(l:ip X x:=by walk_at"f"):j3 X (.Name x f) (fp i):=
 ⟨_,tZ b c g l,λd n k h R W B H o v Q e r q=>q _ _ h (e.fV i r) λj a m=>by
  exact(sH m (by simp) (by simp) rfl).2⟩
theorem fq:uf X [] mJ:=⟨_,Fz,λa b k h R W B H c d Q e r q=>by
 obtain⟨rfl,h⟩:=h;cases r
 exact⟨rfl,q _ _ h e λ_ _ m=>m⟩⟩
theorem b7{g:eU}{f:nV}(b:j3 X e g)(c:uf X C f)(i:(XB (e::C) X.env).map (·.2)=Y3 e X.env::(XB C X.env).map (·.2):=by rfl):uf X (e::C) (hr g f):=by
 obtain⟨_,b,l⟩:=b;obtain⟨_,c,n⟩:=c;refine⟨_,wu b c i,λJ o k h R W B H p K Q e r q=>?_⟩;obtain⟨d,s,rfl,h⟩:=h;cases r with
 |cons t u=>
  refine⟨_,_,rfl,l d o _ h R W B H p _ _ e t λv w z x y=>?_⟩;exact n s v k z R W B H w _ _ x u λA E F G I=>q A E F G λj a m=>y j a (I j a m)
theorem fF{i:Nat}{b:nV}{n:Nat}(j:X.calm=true)(h:uf X C b)(l:(XB C X.env).length=n:=by rfl)(m:(XB C X.env).findIdx? (·.1)=none:=by rfl):j3 X (.Tuple C i f) (mK n b):=by
 obtain⟨_,o,p⟩:=h;refine⟨_,FA j o l m,λd s k h R W B H t v Q e r q=>?_⟩;obtain⟨u,rfl,w,h⟩:=h;obtain⟨a,c,rfl,x,g⟩:=r.fB;exact⟨a,c,rfl,fx.of (e.bh _ _ x),by rw[g.length];exact w,p u s k h R W B H t c Q e g q⟩
theorem i1{o:Wp}{g:eU}(j:br X e u)(k:j3 X o g)(l:XZ [o] e f.line X.env=pure false:=by rfl)(m:X0 [o] e X.env=pure none:=by rfl)(n:(XB [o] X.env).map (·.2)=[Y3 o X.env]:=by rfl):eV X (.Assign [o] e f) (PA u g):=by
 obtain⟨_,p,q⟩:=j;obtain⟨_,r,t⟩:=k;refine⟨_,su p r l m n,λU a h R W B H b D e s=>?_⟩;refine q a _ h R W B H b _ e λd v c i w x y z=>?_;exact t d a _ w R W c i b v _ x z λE F A C _=>s.nx _ _ c i A C y
def PB(i j:Nat)(w:cJ):cB:=λU a=>w a λb=>∃x y,b=[x,y]/\U.nx ((a.set i (.val x)).set j (.val y))
theorem GD{i j:Nat}{x y:Str}{a b:Wp}{c d g:Pos}{k l m}(p:X.calm=true)(q:X.N.Nodup)(r:X.N[i]?=some x)(t:X.N[j]?=some y)(u:i≠j)(v:X.env.scope.names.lookup x=some .local)(z:X.env.scope.names.lookup y=some .local)(A:pZ X [a,b] w)(C:X0 [.Tuple [.Name x c,.Name y d] k g] (.Tuple [a,b] l m) X.env=pure (some [x,y]))(E:XZ [.Tuple [.Name x c,.Name y d] k g] (.Tuple [a,b] l m) f.line X.env=pure false:=by rfl):
  eV X (.Assign [.Tuple [.Name x c,.Name y d] k g] (.Tuple [a,b] l m) f) (PB i j w):=by
 obtain⟨_,F,G⟩:=A;refine⟨_,FB p q r t u v z F C E,λU I h R W B H J D e s=>?_⟩;refine G I _ h R W B H J _ e λT Y K L n M O P=>?_;obtain⟨x,y,rfl,n⟩:=n;cases P with
 |cons Q o=>cases o with
  |cons o S=>
   cases S;exact⟨_,_,rfl,s.nx _ _ K L n ((M.fV i Q).fV j o) O⟩
def PC(c:dJ)(s:cB):cB:=λU a=>∃M:Nat->ZI->Prop,(∃m,M m a)/\∀m a,M m a->c a λb=>if b=true then s {U with nx:=λg=>∃d,d<m/\M d g,ct:=λg=>∃d,d<m/\M d g,bk:=U.nx} a else U.nx a
theorem Bz{c:Wp}{k:ZW}{E:dJ}{s:cB}(N:YQ (UV X.prog X.w) X.A X.env X.xe)(O:hZ X c E)(P:hE X k s):eV X (.While c k [] f) (PC E s):=by
 obtain⟨_,Q,S⟩:=O;obtain⟨_,T,Y⟩:=P;refine⟨_,NC N Q T,λU Z h R W B H ax D e y=>?_⟩;obtain⟨M,⟨aa,hi⟩,o⟩:=h;refine⟨λm n i=>∃d a,M m d/\aL X.K R W a i n d/\bx R B a,⟨aa,Z,B,hi,e,bx.refl _ _⟩,?_⟩;rintro m C ai ⟨p,aj,ar,au,F⟩;refine S p _ (o m p ar) R W aj ai C _ au λb G I t J L=>?_;cases b with
 |true=>
  rw[SL rfl]at t⊢;refine⟨λn i=>∃d a,(∃u,u<m/\M u d)/\aL X.K R W a i n d/\bx R B a,?_,?_⟩
  ·rintro n i ⟨d,a,⟨u,l,q⟩,j,av⟩;exact⟨u,l,d,a,q,j,av⟩
  have x:=F.trans L;exact Y _ p t R W G I C _ J ⟨λd n a i z j g=>⟨d,a,z,j,x.trans g⟩,λd n a i z j g=>y.nx d n a i z j (x.trans g),λd n a i z j g=>⟨d,a,z,j,x.trans g⟩,λr v a i z j g q=>y.rt r v a i z j (x.trans g) q⟩
 |false=>
  rw[Tk SU]at t⊢;exact y.nx p C G I t J (F.trans L)
theorem kE.list{B:ak}{a:TE}{b:ZL}{d:ZK}(h:B a=some (.lst b))(r:b_ K B b d):kE K B (AK K a) d:=by
 intro H s i;have f:=s _ _ h;have q:cE K H a b:=cE.of f;refine⟨λc=>?_,λc=>⟨b,q,by rw[r.length];exact c⟩,λx k c ⟨g,j⟩=>⟨g,?_⟩⟩
 ·obtain⟨v,e,_⟩:=r.get (S0 c);exact⟨b,v,q,e⟩
 exact r.fK (j b q)
theorem kE.tup{B:ak}{a:TE}{b:ZL}{d:ZK}(h:B a=some (.tup b))(r:b_ K B b d):kE K B (AL K a) d:=by
 intro H s i;have f:=s _ _ h;have q:fx K H a b:=fx.of f;refine⟨λc=>?_,λc=>⟨b,q,by rw[r.length];exact c⟩,λx k c ⟨g,j⟩=>⟨g,?_⟩⟩
 ·obtain⟨v,e,_⟩:=r.get (S0 c);exact⟨b,v,q,e⟩
 exact r.fK (j b q)
theorem kE.rng{B:ak}(n:Nat):kE K B (sv 0 n) ((S7 n).map λi:Nat=>D.int i):=by
 intro H s i;rw[Sv,U5];refine⟨λa=>a,λa=>a,λx d a ⟨b,c⟩=>⟨b,?_⟩⟩;refine⟨.int i,?_,?_⟩
 ·rw[SP,Vl a];rfl
 rw[c,Int.zero_add];exact .int _
def PE(u:bd):cJ:=λb k=>u b λd=>∃a,d=.lst a/\k a
def PF(u:bd):cJ:=λb k=>u b λd=>∃a,d=.tup a/\k a
def PG(u:bd):cJ:=λa k=>u a λd=>∃j,d=.int j /\ -(2^62)<=j/\j<2^62/\k ((S7 j.toNat).map λi:Nat=>D.int i)
variable{o:Wp}
theorem gx{l:Wp}(f:br X l u):mE X o l (PE u):=by
 obtain⟨_,g,i⟩:=f;refine⟨_,FD g,λj k h R W B H m Q e q=>?_⟩;refine i j _ h R W B H m _ e λd v n p r b s t=>?_;obtain⟨w,rfl,z⟩:=r;obtain⟨a,x,rfl,c,y⟩:=t.fk;exact⟨a,rfl,⟨x,cE.of (b.bh _ _ c)⟩,q w _ n p z b s (kE.list c y)⟩
theorem GE{l:Wp}(f:br X l u):mE X o l (PF u):=by
 obtain⟨_,g,i⟩:=f;refine⟨_,NI g,λj k h R W B H m Q e q=>?_⟩;refine i j _ h R W B H m _ e λd v n p r b s t=>?_;obtain⟨w,rfl,z⟩:=r;obtain⟨a,x,rfl,c,y⟩:=t.fB;exact⟨a,rfl,⟨x,fx.of (b.bh _ _ c)⟩,q w _ n p z b s (kE.tup c y)⟩
theorem w6{a:Wp}(c:br X a u)(g:eG X "range")(i:X.mg "range"=none)(b:UF [a] X.env=[(false,Yk a X.env)]:=by rfl):mE X o (.Call (.Name "range" p) [a] [] f) (PG u):=by
 obtain⟨_,l,m⟩:=c;refine⟨_,NL g i (d8 l fa (by exact b)) b,λn k h R W B H r Q e q=>?_⟩;refine m n _ h R W B H r _ e λd v s t w x y A=>?_;obtain⟨j,rfl,C,E,z⟩:=w;exact⟨j,by rw[A.eX],C,E,q _ _ s t z x y (kE.rng _)⟩
def j7(g:eU)(s:cB)(U:hD):ZK->ZI->Prop
 |[],a=>U.nx a
 |d::b,a=>g d a λc=>s {U with nx:=j7 g s U b,ct:=j7 g s U b,bk:=U.nx} c
def PH(w:cJ)(g:eU)(s:cB):cB:=λU a=>w a λb=>j7 g s U b a
theorem kK{E:Wp}{n:ZW}{g:eU}{s:cB}(T:YQ (UV X.prog X.w) X.A X.env X.xe)(Y:X.calm=true)(M:mE X o E w)(Z:j3 X o g)(ai:hE X n s)(aj:∀x,WF E X.env x=pure x:=by intro _;rfl):eV X (.For o E n [] f) (PH w g s):=by
 obtain⟨_,ar,au⟩:=M;obtain⟨_,ax,ay⟩:=Z;obtain⟨_,az,aD⟩:=ai;refine⟨_,AM T Y ar ax az aj,λU N h R W B H aE D e F=>?_⟩;refine au N _ h R W B H aE _ e λk J G ba aI aJ aK aN=>?_;refine⟨λi m l c=>∃b a,m=k.length-i/\i<=k.length/\j7 g s U (k.drop i) b/\aL X.K R W a c l b/\bx R B a/\cj G a,⟨k.length,N,G,by simp,Td _,aI,aJ,aK,cj.refl _⟩,?_⟩;rintro i m O P ⟨Q,I,rfl,M,u,L,p,C⟩;obtain⟨aO,aP,aU⟩:=aN P (C.trans L.bh) i;by_cases t:i<k.length
 ·refine .inr ⟨aO t,λl c=>∃b a,j7 g s U (k.drop (i+1)) b/\aL X.K R W a c l b/\bx R B a/\cj G a,?_,?_⟩
  ·rintro l c ⟨b,a,z,j,aV,a3⟩;exact⟨k.length-(i+1),by lia,b,a,rfl,t,z,j,aV,a3⟩
  intro x c y;obtain⟨rfl,d,S,a4⟩:=aU x c t y
  have a6:k.drop i=d::k.drop (i+1):=by
   rw[Up t];rw[S0 t]at S;rw[SN S]
  rw[a6]at u;refine ay d Q _ u R W I _ O x _ L (a4.mono C) λb l a' j _=>?_;exact aD _ b a' R W I _ l _ j ⟨λb l a c z j g=>⟨b,a,z,j,p.trans g,C.trans g.s⟩,λb l a c z j g=>F.nx b l a c z j (p.trans g),λb l a c z j g=>⟨b,a,z,j,p.trans g,C.trans g.s⟩,λr v a c z j g q=>F.rt r v a c z j (p.trans g) q⟩
 have ei:i=k.length:=by lia
 subst ei;rw[Uy]at u;exact .inl ⟨aP (SF _),F.nx Q O I P u L p⟩
end
section
variable{K:Su}{X:aT}{e:Wp}{C:ZV}{u:bd}{w:cJ}{g p:Pos}
theorem aL.i_{R:ak}{W:TE->Prop}{B H:ak}{b:St}{c:ZI}(e:aL K R W B H b c){q:TE}(d:H q=none){a:ZL}{f:ZK}(r:b_ K B a f):
  aL K R W B (ed H q (.lst a)) b c/\R q=none/\B q=none/\(ed H q (.lst a)) q=some (.lst a)/\∀i,¬cg b c i q:=by
 obtain⟨g,j,h⟩:=e.toWd.fresh d;exact⟨e.e8 d _,g,h,dL,λi m=>e.ff d m rfl⟩
def i3{b:Type}(a:List b)(lo c:Option Int):List b:=(a.drop (HT.sIx a.length 0 lo)).take (HT.sIx a.length a.length c-HT.sIx a.length 0 lo)
theorem b_.cut{B:ak}{a:ZL}{b:ZK}(r:b_ K B a b)(lo c:Option Int):b_ K B (i3 a lo c) (i3 b lo c):=by
 unfold i3;rw[r.length];exact(r.drop _).take _
theorem BA{a d:Type}(f:a->d)(b:List a)(lo c:Option Int):i3 (b.map f) lo c=(i3 b lo c).map f:=by
 unfold i3;rw[Sv,<-List.map_drop,<-List.map_take]
abbrev sN:=ZI->(Option Int->Prop)->Prop
def PI(K:Su)(t:sA)(u:sN):Prop:=∀(a:ZI)(k:Option Int->Prop),u a k->∀(R:ak)(W:TE->Prop)(B H:ak)(b:St)(Q:Option Int->ak->Prop),aL K R W B H b a->
 (∀o c d,k o->aL K R W c d b a->bx R B c->Q o d)->t b H Q
def w7(X:aT)(e:Option Wp)(u:sN):Prop:=∃t,Fb X e t/\PI X.K t u
def PJ:sN:=λ_ k=>k none
def PK(u:bd):sN:=λa k=>u a λd=>∃i,d=.int i/\k (some i)
theorem GF:w7 X none PJ:=⟨_,Ol,λa k h R W B H b Q e q=>q none B H h e (bx.refl _ _)⟩
theorem w8(h:br X e u):w7 X (some e) (PK u):=by
 obtain⟨_,a,b⟩:=h;refine⟨_,Om a,λc k h R W B H f Q e q=>?_⟩;refine b c _ h R W B H f _ e λd v g j l m n o=>?_;obtain⟨i,rfl,z⟩:=l;exact⟨i,o.eX,q _ g j z m n⟩
def GG:D->Option ZK
 |.lst a=>some a
 |.scr b=>some (b.map .int)
 |_=>none
theorem PL{B H:ak}{v:V}{x:D}{d:ZK}(s:cj B H)(r:bE K B v x)(h:GG x=some d):∃a b,v=.ref a/\cE K H a b/\b_ K B b d:=by
 cases x<;>first|(cases h;done)|skip
 ·obtain⟨a,b,rfl,c,e⟩:=r.fk;cases h;exact⟨a,b,rfl,cE.of (s _ _ c),e⟩
 obtain⟨a,rfl,c⟩:=r.lS;cases h;exact⟨a,_,rfl,s.seq c,b_.ints _⟩
def PM(u:bd)(l h:sN):cJ:=λa k=>u a λx=>l a λlo=>h a λc=>∃b,GG x=some b/\k (i3 b lo c)
theorem BB{lo b:Option Wp}{i j:sN}{p2:Pos}(o:br X e u)(r:w7 X lo i)(t:w7 X b j):j2 X (.Subscript e (.Slice lo b none p2) g) (PM u i j):=by
 obtain⟨_,w,x⟩:=o;obtain⟨_,y,A⟩:=r;obtain⟨_,C,E⟩:=t;refine⟨_,Oo OA w y C,λc k h R W B H f Q e q=>?_⟩;refine x c _ h R W B H f _ e λd v F G I J K L=>?_;refine A c _ I R W F G f _ J λlo M N O P l=>?_;refine E c _ O R W M N f _ P λb S ax T m g3=>?_;obtain⟨ay,U,z⟩:=T;obtain⟨a,Y,rfl,Z,n⟩:=PL m.bh (L.mono (l.trans g3).s) U;refine⟨a,Y,rfl,Z,λp ae=>?_⟩;obtain⟨ai,hc,aj,av,aw⟩:=m.i_ ae (n.cut lo b);exact q _ p _ S _ z ai ((K.trans l).trans g3) hc aj av (n.cut lo b) aw
def PN(u v:bd):cJ:=λb k=>u b λx=>v b λy=>∃a C,x=.lst a/\y=.lst C/\a.length+C.length<=TI/\k (a++C)
theorem l2{a b:Wp}{m n:bd}(c:br X a m)(f:br X b n):j2 X (.BinOp a .Add b g) (PN m n):=by
 obtain⟨_,u,w⟩:=c;obtain⟨_,x,y⟩:=f;refine⟨_,gk OM u x,λo k h R W B H r Q e q=>?_⟩;refine w o _ h R W B H r _ e λd v A E F G I J=>?_;refine y o _ F R W A E r _ G λai hc K aj L i t M=>?_;obtain⟨av,C,rfl,rfl,N,z⟩:=L;obtain⟨a,O,rfl,c,j⟩:=(J.mono t.s).fk;obtain⟨b,P,rfl,f,l⟩:=M.fk;refine⟨a,b,O,P,rfl,rfl,i.bh _ _ c,i.bh _ _ f,by rw[j.length,l.length];exact N,λp S=>?_⟩;obtain⟨T,U,Y,Z,hi⟩:=i.i_ S (j.append l);exact q _ p _ K _ z T (I.trans t) U Y Z (j.append l) hi
def PO(u:bd):cJ:=λb k=>u b λx=>∃a,(x=.lst a\/x=.tup a)/\k a
theorem GJ(b:br X e u)(y:eG X "list")(A:X.mg "list"=none)(s:eN X e []:=by rfl):j2 X (.Call (.Name "list" p) [e] [] g) (PO u):=by
 obtain⟨_,C,E⟩:=b;refine⟨_,FV OB y A (by decide +kernel) (d8 C fa s) (by decide) (by decide) s,λF k h R W B H G Q e q=>?_⟩;refine E F _ h R W B H G _ e λd v t K I f w x=>?_;obtain⟨L,J,z⟩:=I;rcases J with rfl|rfl
 ·obtain⟨a,i,rfl,b,c⟩:=x.fk;refine⟨a,i,rfl,.inl (cE.of (f.bh _ _ b)),λp j=>?_⟩;obtain⟨l,m,n,o,r⟩:=f.i_ j c;exact q _ p _ t _ z l w m n o c r
 obtain⟨a,i,rfl,b,c⟩:=x.fB;refine⟨a,i,rfl,.inr (fx.of (f.bh _ _ b)),λp j=>?_⟩;obtain⟨l,m,n,o,r⟩:=f.i_ j c;exact q _ p _ t _ z l w m n o c r
theorem BC{B:ak}:∀{a:ZH}{b:ZL},b_ K B b (a.map D.int)->b=a.map V.int
 |[],_,.nil=>rfl
 |n::r,_,.cons h t=>by rw[h.eX,BC t];rfl
def BD(i:Nat)(u:bd):cB:=λU a=>∃b:ZK,a[i]?=some (.own b)/\u a λd=>b.length<TI/\U.nx (a.set i (.own (b++[d])))
theorem kL(i:Nat){x:Str}{c f b:Pos}(q:br X e u)(r:gV X i x:=by rfl)(t:gh X.env.scope x:=by walk_at"v")(w:ec x:=by decide)(y:gO x:=by decide)(z:iq X (.Name x c) "append":=by rfl)(A:lQ X b [e]:=by rfl)(C:iS f b:=by rfl)(l:eN X e []:=by rfl)(E:hy X b []:=by rfl)(F:XA (.Call (.Attribute (.Name x c) "append" f) [e] [] b) none g.line X.env=pure false:=by rfl):eV X (.Expr (.Call (.Attribute (.Name x c) "append" f) [e] [] b) g) (BD i u):=by
 obtain⟨_,G,I⟩:=q;refine⟨_,pN (sC T3 VX VY wM (gZ r t w y) (d8 G fa l) z A C l E) F,λU J h R W B H K D e s=>?_⟩;obtain⟨T,j,h⟩:=h;obtain⟨a,L,k,Y,Z,M,aa⟩:=e.ownAt j;refine⟨_,k,.inl ⟨rfl,L,cE.of M⟩,?_⟩;refine I J _ h R W B H K _ e λd v N hi m n O P=>?_;obtain⟨ae,Q,o,af,ai,S,p⟩:=n.ownAt j;rw[k]at o;cases o;exact⟨a,Q,v,rfl,rfl,S,by rw[p.length];exact m.1,s.nx _ _ N _ m.2 (n.write k j (p.append (.cons P .nil))) O⟩
def j8(a:ZI)(j:Nat):aA:=match a[j]? with
 |some (.val d)=>.val d
 |some .bag=>.bag
 |_=>.no
theorem aL.gb{R:ak}{W:TE->Prop}{B H:ak}{d:St}{f:ZI}(e:aL K R W B H d f){a:TE}(g:R a=none)(k:B a=none)(l:∀i,¬cg d f i a)(o:eo):aL K R W B (ed H a o) d f:=by
 have p:¬W a:=λz=>e.wr a z g;refine e.move ⟨λb q h z=>?_,λb q h=>?_,e.wb,λb z=>(e.wh b z).upd (by rintro rfl;exact p z),e.wr⟩ (cj.refl _) λi b m=>?_
 ·rw[bP (by rintro rfl;rw[g]at h;cases h)];exact e.fr b q h z
 ·rw[bP (by rintro rfl;rw[k]at h;cases h)];exact e.bh b q h
 have n:b≠a:=by rintro rfl;exact l i m
 refine⟨(e.eP m).1,λz=>?_,λ_=>bP n⟩;obtain⟨c,j,_,_,r⟩:=e.eQ z;rw[oS m z]at j;cases j;exact r.upd n
theorem PP{b:St}{a:ZO}{i:Nat}{o:Option V}(h:(iu b a)[i]?=some o):∃j,a[i]?=some j/\o=(b[j]?).join:=by
 unfold iu at h;rw[SP]at h;cases q:a[i]? with
 |none=>rw[q]at h;cases h
 |some j=>rw[q]at h;exact⟨j,rfl,(SN h).symm⟩
def PQ(K:Su)(t:bH)(u:ZI->Prop->Prop):Prop:=∀(b:ZI)(k:Prop),u b k->∀(R:ak)(W:TE->Prop)(B H:ak)(c:St)(Q:cr),aL K R W B H c b->
 (∀a d f,k->aL K R W d f c b->bx R B d->R a=none->d a=none->fX f a->(∀i,¬cg c b i a)->Q (.ref a) f)->t c H Q
def BE(X:aT)(e:Wp)(u:ZI->Prop->Prop):Prop:=∃t,bQ X e t/\PQ X.K t u
def PR(n:Nat)(F:cb)(w:iZ):ZI->Prop->Prop:=λb k=>w b λa=>sh a n=true/\F (a.map gF.sl) λr=>r=.bag/\k
theorem BF{n:Nat}{F:cb}{w:iZ}{x:Str}{t:ZS}{j l:Nat}(c:ca X.prog X.w X.K X.mg X.base x t j (ck X.K n F))(u:ez l X.A)(y:eG X x)(z:mD X (e::C) w)(E:j<=l:=by decide)(G:ec x:=by decide)(I:eN X e C:=by rfl)(J:hy X g C:=by rfl):
  BE X (.Call (.Name x p) (e::C) [] g) (PR n F w):=by
 obtain⟨_,L,M⟩:=z;refine⟨_,oP c u y L E G I J,λN k h R W B H O Q e q=>?_⟩;refine M N _ h R W B H O _ e λae af hc aj o b P S=>?_;rw[SR];refine q' b S o.1 o.2 λr v T U d Y Z f=>?_;obtain⟨rfl,d⟩:=d;obtain⟨a,rfl,s,aa,hi⟩:=f;exact q a T U d Y (P.trans Z) (b.toWd.fresh s).1 aa hi λi m=>(b.eP m).2 s
def PS(i:Nat)(u:ZI->Prop->Prop):cB:=λU a=>u a (U.nx (a.set i .bag))
theorem PT{i:Nat}{x:Str}{c:Pos}{u:ZI->Prop->Prop}(d:X.N.Nodup)(f:X.N[i]?=some x)(k:ho X.env.scope x)(l:BE X e u)(m:XA e (some (.Name x c)) g.line X.env=pure false:=by rfl)(n:ip X x:=by walk_at"f"):
  eV X (.Assign [.Name x c] e g) (PS i u):=by
 obtain⟨_,o,p⟩:=l;refine⟨_,qW d f k o m n,λU q h R W B H r D e s=>?_⟩;refine p q _ h R W B H r _ e λa t v w y A C E F G=>s.nx _ _ t v w (y.set i ⟨a,rfl,.inr C,E,F⟩ λb z _ j _=>?_) A;cases z;exact G j
end
inductive iv where
 |I|B|N|S|T (dZ:List iv)|L (s:iv)
mutual
def has:iv->D->Bool
 |.I,.int _=>true
 |.B,.bl _=>true
 |.N,.non=>true
 |.S,.str _=>true
 |.T dZ,.tup xs=>hass dZ xs
 |.L s,.lst xs=>xs.all λx=>has s x
 |_,_=>false
def hass:List iv->ZK->Bool
 |[],[]=>true
 |s::dZ,x::xs=>has s x&&hass dZ xs
 |_,_=>false
end
mutual
def jI:iv->Nat
 |.T dZ=>deps dZ+1
 |.L s=>jI s+1
 |_=>0
def deps:List iv->Nat
 |[]=>0
 |s::dZ=>max (jI s) (deps dZ)
end
noncomputable def eqD(x y:D):Bool :=@decide (x=y) (Ue _)
theorem BG{x y:D}:eqD x y=true↔x=y:=by unfold eqD;exact @decide_eq_true_iff _ (Ue _)
theorem lj(x:D):eqD x x=true:=BG.mpr rfl
theorem re{x y:D}{b:Bool}(h:b=true↔x=y):eqD x y=b:=by
 rw[VZ,BG,h]
section
variable{K:Su}{B:ak}
theorem f9{x:D}(h:has .I x=true):∃i,x=.int i:=by cases x<;>first|exact⟨_,rfl⟩|(simp[has]at h)
theorem w9{x:D}(h:has .B x=true):∃i,x=.bl i:=by cases x<;>first|exact⟨_,rfl⟩|(simp[has]at h)
theorem w'{x:D}(h:has .N x=true):x=.non:=by cases x<;>first|rfl|(simp[has]at h)
theorem f6{x:D}(h:has .S x=true):∃i,x=.str i:=by cases x<;>first|exact⟨_,rfl⟩|(simp[has]at h)
theorem xa{x:D}{a:List iv}(h:has (.T a) x=true):∃b,x=.tup b/\hass a b=true:=by
 cases x<;>first|exact⟨_,rfl,by simpa[has]using h⟩|(simp[has]at h)
theorem xb{x:D}{s:iv}(h:has (.L s) x=true):∃a,x=.lst a/\∀y∈a,has s y=true:=by
 cases x<;>first|exact⟨_,rfl,by simpa[has]using h⟩|(simp[has]at h)
theorem uo:∀{a:List iv}{b:ZK},hass a b=true->b.length=a.length
 |[],[],_=>rfl
 |[],_::_,h=>by simp[hass]at h
 |_::_,[],h=>by simp[hass]at h
 |s::a,x::b,h=>by
  simp[hass]at h;simp[uo h.2]
mutual
theorem rf:∀(sh:iv){x y:D}{v:V},has sh x=true->has sh y=true->bE K B v x->bE K B v y->x=y
 |.I,x,y,v,h1,aa,ao,aM=>by
  obtain⟨i,rfl⟩:=f9 h1;obtain⟨j,rfl⟩:=f9 aa
  have e:=ao.eX.symm.trans aM.eX
  cases e;rfl
 |.B,x,y,v,h1,aa,ao,aM=>by
  obtain⟨i,rfl⟩:=w9 h1;obtain⟨j,rfl⟩:=w9 aa
  have e:=ao.kv.symm.trans aM.kv
  cases e;rfl
 |.N,x,y,v,h1,aa,ao,aM=>by rw[w' h1,w' aa]
 |.S,x,y,v,h1,aa,ao,aM=>by
  obtain⟨i,rfl⟩:=f6 h1;obtain⟨j,rfl⟩:=f6 aa
  cases ao;cases aM;rfl
 |.T dZ,x,y,v,h1,aa,ao,aM=>by
  obtain⟨xs,rfl,aO⟩:=xa h1;obtain⟨ys,rfl,bc⟩:=xa aa
  obtain⟨a,vs,rfl,au,l1⟩:=ao.fB
  obtain⟨b,e2,e,ae,rb⟩:=aM.fB
  cases e
  rw[au]at ae;cases ae
  rw[reps_fn dZ aO bc l1 rb]
 |.L s,x,y,v,h1,aa,ao,aM=>by
  obtain⟨xs,rfl,aO⟩:=xb h1;obtain⟨ys,rfl,bc⟩:=xb aa
  obtain⟨a,vs,rfl,au,l1⟩:=ao.fk
  obtain⟨b,e2,e,ae,rb⟩:=aM.fk
  cases e
  rw[au]at ae;cases ae
  have:xs=ys:=by
   apply Uo
   intro i
   cases BH:xs[i]? with
   |none=>
    have:ys[i]?=none:=by
     have h1:=l1.length
     have aa:=rb.length
     have aI:=WI.mp BH
     exact WI.mpr (by lia)
    rw[this]
   |some d=>
    obtain⟨v,ev,b5⟩:=l1.get BH
    obtain⟨d',ga,gJ⟩:=rb.fK ev
    rw[ga,rf s (aO d (S' BH)) (bc d' (S' ga)) b5 gJ]
  rw[this]
theorem reps_fn:∀(dZ:List iv){xs ys:ZK}{vs:ZL},hass dZ xs=true->hass dZ ys=true->b_ K B vs xs->b_ K B vs ys->xs=ys
 |[],xs,ys,vs,h1,aa,ao,aM=>by
  have ag:=uo h1;have ap:=uo aa
  rw[Ug]at ag ap
  rw[WJ ag,WJ ap]
 |s::dZ,[],ys,vs,h1,aa,ao,aM=>by simp[hass]at h1
 |s::dZ,x::xs,[],vs,h1,aa,ao,aM=>by simp[hass]at aa
 |s::dZ,x::xs,y::ys,vs,h1,aa,ao,aM=>by
  simp[hass]at h1 aa
  cases ao with
  |cons bT b1=>cases aM with
   |cons cn b2=>rw[rf s h1.1 aa.1 bT cn,reps_fn dZ h1.2 aa.2 b1 b2]
end
end
section
variable{X:aT}{f:ZX}{c:St}{H B:ak}{s:Tl}
theorem GK{xs ys:ZK}{n:Nat}{e:Nat->Bool}(d:n=xs.length)(f:xs.length=ys.length)(a:∀j,j<n->(e j=true↔xs[j]?=ys[j]?)):((S7 n).all e)=true↔xs=ys:=by
 rw[Uz];constructor
 ·intro h;apply Uo;intro i;by_cases b:i<n
  ·exact(a i b).mp (h i (TG.mpr b))
  rw[Te (by lia),Te (by lia)]
 rintro rfl j c;exact(a j (TG.mp c)).mpr rfl
noncomputable def mL(a b:ZK)(j:Nat):Bool :=@decide (a[j]?=b[j]?) (Ue _)
theorem uq{a b:ZK}{j:Nat}:mL a b j=true↔a[j]?=b[j]?:=by unfold mL;exact @decide_eq_true_iff _ (Ue _)
theorem GL{xs ys:ZK}{j:Nat}{x y:D}(a:xs[j]?=some x)(b:ys[j]?=some y):mL xs ys j=eqD x y:=by
 rw[VZ,uq,BG,a,b];constructor
 ·intro h;exact SN h
 intro h;rw[h]
structure PU(A:Xz)(s:Tl)(u w:SC)(x y:D):Prop where
 rc:SeqAt.RcAt A s u w (eqD x y)
 ne:SeqAt.RcNeAt A s u w (!eqD x y)
 eq:SeqAt.EqAt A s u w (eqD x y)
mutual
theorem ur(I:c_ X f c H s)(dd:cj B H):∀(sh:iv){A:Xz}{x y:D}{v w:V}{u fv:SC},has sh x=true->has sh y=true->bE X.K B v x->bE X.K B w y->d_ v u->d_ w fv->A.units+jI sh<XQ->PU A s u fv x y
 |.I,A,x,y,v,w,u,fv,h1,aa,ao,aM,bY,b8,a6=>by
  obtain⟨i,rfl⟩:=f9 h1;obtain⟨j,rfl⟩:=f9 aa
  cases ao.eX;cases aM.eX
  obtain⟨t,rfl⟩:=bY;obtain⟨t',rfl⟩:=b8
  have e:eqD (.int i) (.int j)=(i==j):=re (by simp)
  refine⟨?_,?_,?_⟩<;>rw[e]
  ·exact SeqAt.RcAt.int_int i t j t'
  ·exact SeqAt.RcNeAt.int_int i t j t'
  exact SeqAt.EqAt.int_int i t j t'
 |.B,A,x,y,v,w,u,fv,h1,aa,ao,aM,bY,b8,a6=>by
  obtain⟨i,rfl⟩:=w9 h1;obtain⟨j,rfl⟩:=w9 aa
  cases ao.kv;cases aM.kv
  cases bY;cases b8
  have e:eqD (.bl i) (.bl j)=(i==j):=re (by simp)
  refine⟨?_,?_,?_⟩<;>rw[e]
  ·exact SeqAt.RcAt.bool_bool i j
  ·exact SeqAt.RcNeAt.bool_bool i j
  exact SeqAt.EqAt.bool_bool i j
 |.N,A,x,y,v,w,u,fv,h1,aa,ao,aM,bY,b8,a6=>by
  cases w' h1;cases w' aa
  cases ao.mv;cases aM.mv
  cases bY;cases b8
  have e:eqD .non .non=true:=lj _
  refine⟨?_,?_,?_⟩<;>rw[e]
  ·exact SeqAt.RcAt.none_none
  ·exact SeqAt.RcNeAt.none_none
  exact SeqAt.EqAt.same _
 |.S,A,x,y,v,w,u,fv,h1,aa,ao,aM,bY,b8,a6=>by
  obtain⟨i,rfl⟩:=f6 h1;obtain⟨j,rfl⟩:=f6 aa
  cases ao;cases aM
  obtain⟨t,rfl⟩:=bY;obtain⟨t',rfl⟩:=b8
  have e:eqD (.str i) (.str j)=(i==j):=re (by simp)
  refine⟨?_,?_,?_⟩<;>rw[e]
  ·exact SeqAt.RcAt.str_str i t j t'
  ·exact SeqAt.RcNeAt.str_str i t j t'
  exact SeqAt.EqAt.str_str i t j t'
 |.T dZ,A,x,y,v,w,u,fv,h1,aa,ao,aM,bY,b8,a6=>by
  have xc:=ao
  have xf:=aM
  obtain⟨xs,rfl,aO⟩:=xa h1;obtain⟨ys,rfl,bc⟩:=xa aa
  obtain⟨a,vs,rfl,au,l1⟩:=ao.fB
  obtain⟨b,e2,rfl,ae,rb⟩:=aM.fB
  cases bY;cases b8
  obtain⟨its,bV,de,_⟩:=I.tuple (fx.of (dd _ _ au))
  obtain⟨hl,cp,cT,_⟩:=I.tuple (fx.of (dd _ _ ae))
  have bX:jI (.T dZ)=deps dZ+1:=by simp[jI]
  have j9:=uo aO
  have mM:=uo bc
  have aB:=l1.length;have aX:=rb.length;have er:=bV.length;have dc:=cp.length
  have nW:=eqs_sh I dd dZ (A:=A.in1) aO bc l1 rb bV cp (by show A.units+1+deps dZ<XQ;lia)
  have aE:∀j (h1:j<its.toArray.size) (aa:j<hl.toArray.size),SeqAt.EqAt A.in1 s its.toArray[j] hl.toArray[j] (mL xs ys j):=λj aC aH=>by
   have:=nW j (by simpa using aC) (by simpa using aH)
   simpa using this
  have e:eqD (.tup xs) (.tup ys)=((S7 (min its.toArray.size hl.toArray.size)).all (mL xs ys)&&its.toArray.size==hl.toArray.size):=by
   refine re ?_
   have aD:its.toArray.size=xs.length:=by simp;lia
   have bg:hl.toArray.size=xs.length:=by simp;lia
   rw[aD,bg,Nat.min_self,TQ]
   have:=GK (xs:=xs) (ys:=ys) (n:=xs.length) (e:=mL xs ys) rfl (by lia) (λj _=>uq)
   constructor
   ·intro h;rw[this.mp h.1]
   intro h;cases h;exact⟨this.mpr rfl,by simp⟩
  have rc:SeqAt.RcAt A s (.ref a) (.ref b) (eqD (.tup xs) (.tup ys)):=by rw[e];exact SeqAt.RcAt.tuples de cT (by lia) aE
  refine⟨rc,by rw[e];exact SeqAt.RcNeAt.tuples de cT (by lia) aE,?_⟩
  by_cases i5:a=b
  ·subst i5
   have:=rf (.T dZ) h1 aa xc xf
   rw[this,lj]
   exact SeqAt.EqAt.same _
  exact SeqAt.EqAt.of_refs i5 rc
 |.L sh,A,x,y,v,w,u,fv,h1,aa,ao,aM,bY,b8,a6=>by
  have xc:=ao
  have xf:=aM
  obtain⟨xs,rfl,aO⟩:=xb h1;obtain⟨ys,rfl,bc⟩:=xb aa
  obtain⟨a,vs,rfl,au,l1⟩:=ao.fk
  obtain⟨b,e2,rfl,ae,rb⟩:=aM.fk
  cases bY;cases b8
  obtain⟨its,bV,p1,_⟩:=I.list (cE.of (dd _ _ au))
  obtain⟨hl,cp,p2,_⟩:=I.list (cE.of (dd _ _ ae))
  have de:=p1.isList
  have cT:=p2.isList
  have bX:jI (.L sh)=jI sh+1:=by simp[jI]
  have aB:=l1.length;have aX:=rb.length;have er:=bV.length;have dc:=cp.length
  have aE:∀j (h1:j<its.toArray.size) (aa:j<hl.toArray.size),SeqAt.EqAt A.in1 s its.toArray[j] hl.toArray[j] (mL xs ys j):=λj aC aH=>by
   have PV:j<its.length:=by simpa using aC
   have PW:j<hl.length:=by simpa using aH
   obtain⟨fY,ag,PX⟩:=bV.h9 (S0 PV)
   obtain⟨dA,ap,PY⟩:=cp.h9 (S0 PW)
   obtain⟨c1,aU,BI⟩:=l1.fK ag
   obtain⟨c2,a',PZ⟩:=rb.fK ap
   rw[GL aU a']
   have:=(ur I dd sh (A:=A.in1) (aO c1 (S' aU)) (bc c2 (S' a')) BI PZ PX PY (by show A.units+1+jI sh<XQ;lia)).eq
   simpa using this
  by_cases k8:its.toArray.size=hl.toArray.size
  ·have aD:its.toArray.size=xs.length:=by simp;lia
   have bg:xs.length=ys.length:=by simp at k8;lia
   have e:eqD (.lst xs) (.lst ys)=(S7 its.toArray.size).all (mL xs ys):=by
    refine re ?_
    rw[GK (xs:=xs) (ys:=ys) aD bg (λj _=>uq)]
    constructor
    ·intro h;rw[h]
    intro h;cases h;rfl
   have rc:SeqAt.RcAt A s (.ref a) (.ref b) (eqD (.lst xs) (.lst ys)):=by rw[e];exact SeqAt.RcAt.lists de cT k8 (by lia) aE
   refine⟨rc,by rw[e];exact SeqAt.RcNeAt.lists de cT k8 (by lia) aE,?_⟩
   by_cases i5:a=b
   ·subst i5
    have:=rf (.L sh) h1 aa xc xf
    rw[this,lj]
    exact SeqAt.EqAt.same _
   exact SeqAt.EqAt.of_refs i5 rc
  have e:eqD (.lst xs) (.lst ys)=false:=re (by
   constructor
   ·intro h;cases h
   intro h;cases h;simp at k8;lia)
  have l3:(its.toArray.size != hl.toArray.size)=true:=by simpa using k8
  have rc:SeqAt.RcAt A s (.ref a) (.ref b) (eqD (.lst xs) (.lst ys)):=by rw[e];exact SeqAt.RcAt.lists_lengths de cT l3 (by lia)
  refine⟨rc,by rw[e];exact SeqAt.RcNeAt.lists_lengths de cT l3 (by lia),?_⟩
  refine SeqAt.EqAt.of_refs (λi5=>?_) rc
  subst i5
  have:=rf (.L sh) h1 aa xc xf
  cases this
  simp at k8;lia
theorem eqs_sh(I:c_ X f c H s)(dd:cj B H):∀(dZ:List iv){A:Xz}{xs ys:ZK}{vs e2:ZL}{us j':ZT},hass dZ xs=true->hass dZ ys=true->b_ X.K B vs xs->b_ X.K B e2 ys->bO vs us->bO e2 j'->A.units+deps dZ<XQ->
  ∀j (h1:j<us.length) (aa:j<j'.length),SeqAt.EqAt A s us[j] j'[j] (mL xs ys j)
 |[],A,[],ys,_,_,_,_,h1,aa,.nil,aM,.nil,b8,a6,j,aC,aH=>absurd aC (by simp)
 |[],A,x::xs,ys,_,_,_,_,h1,aa,ao,aM,bY,b8,a6,j,aC,aH=>by simp[hass]at h1
 |s::dZ,A,[],ys,vs,e2,us,j',h1,aa,ao,aM,bY,b8,a6,j,aC,aH=>by simp[hass]at h1
 |s::dZ,A,x::xs,[],vs,e2,us,j',h1,aa,ao,aM,bY,b8,a6,j,aC,aH=>by simp[hass]at aa
 |s::dZ,A,x::xs,y::ys,v::vs,w::e2,u::us,fv::j',h1,aa,.cons bT b1,.cons cn b2,.cons c1 bX,.cons c2 bZ,a6,0,aC,aH=>by
  have rh:has s x=true:=by simp[hass]at h1;exact h1.1
  have ri:has s y=true:=by simp[hass]at aa;exact aa.1
  have hG:deps (s::dZ)=max (jI s) (deps dZ):=by simp[deps]
  have:=(ur I dd s (A:=A) rh ri bT cn c1 c2 (by lia)).eq
  rw[GL (xs:=x::xs) (ys:=y::ys) (j:=0) rfl rfl]
  exact this
 |s::dZ,A,x::xs,y::ys,v::vs,w::e2,u::us,fv::j',h1,aa,.cons bT b1,.cons cn b2,.cons c1 bX,.cons c2 bZ,a6,j+1,aC,aH=>by
  have rh:hass dZ xs=true:=by simp[hass]at h1;exact h1.2
  have ri:hass dZ ys=true:=by simp[hass]at aa;exact aa.2
  have hG:deps (s::dZ)=max (jI s) (deps dZ):=by simp[deps]
  have:=eqs_sh I dd dZ (A:=A) rh ri b1 b2 bX bZ (by lia) j (by simpa using aC) (by simpa using aH)
  have e:mL (x::xs) (y::ys) (j+1)=mL xs ys j:=by
   rw[VZ,uq,uq];simp
  rw[e]
  exact this
end
def BJ(K:Su)(a:Bool):iV:=λx y H Q=>∃B d e sh,bE K B x d/\bE K B y e/\cj B H/\has sh d=true/\has sh e=true/\jI sh<=50/\Q (.bl (if a then !eqD d e else eqD d e)) H
theorem GM(m:X.A.units+64<XQ):g1 X (XR .Eq) (BJ X.K false):=by
 intro f s c H x y v u Q I a b h;obtain⟨B,d,e,sh,g,i,j,k,l,n,q⟩:=h;exact(ur I j sh (A:=X.A) k l g i a b (by lia)).rc _ _ _ _ ⟨.bl _,H,I,rfl,q⟩
theorem P1(m:X.A.units+64<XQ):g1 X (XR .NotEq) (BJ X.K true):=by
 intro f s c H x y v u Q I a b h;obtain⟨B,d,e,sh,g,i,j,k,l,n,q⟩:=h;exact(ur I j sh (A:=X.A) k l g i a b (by lia)).ne _ _ _ _ ⟨.bl _,H,I,rfl,q⟩
def BK(K:Su)(g:Bool):iV:=λx y H Q=>∃B d a sh,bE K B x d/\(bE K B y (.lst a)\/bE K B y (.tup a))/\cj B H/\has sh d=true/\(∀e∈a,has sh e=true)/\jI sh<=50/\∀b:Bool,(b=true↔d∈a)->Q (.bl (if g then !b else b)) H
noncomputable def mN(K:Su)(B:ak)(sh:iv)(d:D)(u:SC):Bool :=@decide (∃v,d_ v u/\bE K B v d) (Ue _)
theorem BL{K:Su}{sh:iv}{d:D}{u:SC}:mN K B sh d u=true↔∃v,d_ v u/\bE K B v d:=by unfold mN;exact @decide_eq_true_iff _ (Ue _)
theorem GN{v w:V}{u:SC}(a:d_ v u)(b:d_ w u):v=w:=by
 cases v<;>cases w<;>simp only[d_]at a b<;>first
  |rfl
  | (obtain⟨t,rfl⟩:=a;obtain⟨c,e⟩:=b;cases e;rfl)
  | (obtain⟨t,rfl⟩:=a;obtain⟨c,e⟩:=b;cases e;done)
  | (obtain⟨t,rfl⟩:=a;cases b;done)
  | (obtain⟨t,rfl⟩:=b;cases a;done)
  | (subst a;cases b;rfl)
  | (subst a;cases b;done)
theorem xg{K:Su}{sh:iv}{d:D}{g:ZL}{b:ZK}{a:ZT}(i:has sh d=true)(k:∀e∈b,has sh e=true)(r:b_ K B g b)(l:bO g a):a.toArray.any (mN K B sh d)=true↔d∈b:=by
 rw[show a.toArray.any (mN K B sh d)=a.any (mN K B sh d) by simp,List.any_eq_true];constructor
 ·rintro⟨u,n,z⟩;obtain⟨v,o,c⟩:=BL.mp z;obtain⟨j,f⟩:=U3 n;obtain⟨w,p,q⟩:=l.h9 f;cases GN o q;obtain⟨e,s,t⟩:=r.fK p;have h:=S' s;rw[rf sh i (k e h) c t];exact h
 intro m;obtain⟨j,f⟩:=U3 m;obtain⟨v,x,c⟩:=r.get f;obtain⟨u,y,A⟩:=l.get x;exact⟨u,S' y,BL.mpr ⟨v,A,c⟩⟩
theorem xh(I:c_ X f c H s)(m:cj B H){A:Xz}{sh:iv}{d:D}{vs:ZL}{h:ZK}{a:ZT}{x:V}{v:SC}(i:has sh d=true)(n:∀e∈h,has sh e=true)(o:bE X.K B x d)(p:d_ x v)(r:b_ X.K B vs h)(l:bO vs a)(t:A.units+jI sh<XQ):∀y,y∈a.toArray->SeqAt.EqAt A s y v (mN X.K B sh d y):=λy u=>by
 obtain⟨j,C⟩:=U3 (show y∈a by simpa using u);obtain⟨w,E,b⟩:=l.h9 C;obtain⟨e,F,g⟩:=r.fK E;have k:=n e (S' F);have q:=(ur I m sh (A:=A) k i g o b p t).eq
 have z:eqD e d=mN X.K B sh d y:=re (by
  rw[BL];constructor
  ·rintro⟨L,G,J⟩;cases GN G b;exact rf sh k i g J
  rintro rfl
  exact⟨w,b,g⟩)
 rw[<-z];exact q
theorem P3(t:X.A.units+64<XQ):g1 X (XR .In) (BK X.K false):=by
 intro f s c H x y v u Q I n o h;obtain⟨B,d,w,sh,p,b,i,j,k,z,q⟩:=h;rcases b with b|b
 ·obtain⟨a,r,rfl,l,e⟩:=b.fk;cases o;obtain⟨m,g,p1,_⟩:=I.list (cE.of (i _ _ l));exact SeqAt.in_listAt (mN X.K B sh d) p1.isList (xh I i (A:=X.A.in1) j k p n e g (by show X.A.units+1+_<XQ;lia)) ⟨.bl _,H,I,rfl,q _ (xg j k e g)⟩
 obtain⟨a,r,rfl,l,e⟩:=b.fB;cases o;obtain⟨m,g,p1,_⟩:=I.tuple (fx.of (i _ _ l));exact SeqAt.in_tupleAt (mN X.K B sh d) p1 (xh I i (A:=X.A.in1) j k p n e g (by show X.A.units+1+_<XQ;lia)) ⟨.bl _,H,I,rfl,q _ (xg j k e g)⟩
theorem P4(t:X.A.units+64<XQ):g1 X (XR .NotIn) (BK X.K true):=by
 intro f s c H x y v u Q I n o h;obtain⟨B,d,w,sh,p,b,i,j,k,z,q⟩:=h;rcases b with b|b
 ·obtain⟨a,r,rfl,l,e⟩:=b.fk;cases o;obtain⟨m,g,p1,_⟩:=I.list (cE.of (i _ _ l));exact SeqAt.notIn_listAt (mN X.K B sh d) p1.isList (xh I i (A:=X.A.in1) j k p n e g (by show X.A.units+1+_<XQ;lia)) ⟨.bl _,H,I,rfl,q _ (xg j k e g)⟩
 obtain⟨a,r,rfl,l,e⟩:=b.fB;cases o;obtain⟨m,g,p1,_⟩:=I.tuple (fx.of (i _ _ l));exact SeqAt.notIn_tupleAt (mN X.K B sh d) p1 (xh I i (A:=X.A.in1) j k p n e g (by show X.A.units+1+_<XQ;lia)) ⟨.bl _,H,I,rfl,q _ (xg j k e g)⟩
end
section
variable{K:Su}{X:aT}{a b:Wp}{c d:bd}{f:Pos}
def ut(g:Bool)(c d:bd):bd:=λe k=>c e λx=>d e λy=>∃sh,has sh x=true/\has sh y=true/\jI sh<=50/\k (.bl (if g then !eqD x y else eqD x y))
def BM(i:Bool)(c d:bd):bd:=λh k=>c h λx=>d h λy=>∃sh g,(y=.lst g\/y=.tup g)/\has sh x=true/\(∀e∈g,has sh e=true)/\jI sh<=50/\∀b:Bool,(b=true↔x∈g)->k (.bl (if i then !b else b))
theorem BN{a b:bH}{f:Bool}(g:fy K a c)(i:fy K b d):fy K (oL (BJ K f) a b) (ut f c d):=
 sK g i λx y k h R W B H r s v w Q e j l q=>by
  obtain⟨sh,m,n,o,p⟩:=h;exact⟨B,x,y,sh,j,l,e.bh,m,n,o,q _ _ B H p e (bx.refl _ _) (.bl _)⟩
theorem GO{f g:bH}{i:Bool}(l:fy K f c)(a:fy K g d):fy K (oL (BK K i) f g) (BM i c d):=
 sK l a λx y k h R W B H u z v w Q e m j q=>by
  obtain⟨sh,n,o,p,r,s,t⟩:=h;refine⟨B,x,n,sh,m,?_,e.bh,p,r,s,λb a=>q _ _ B H (t b a) e (bx.refl _ _) (.bl _)⟩;rcases o with rfl|rfl
  ·exact .inl j
  exact .inr j
theorem xi(e:X.A.units+64<XQ)(g:br X a c)(h:br X b d)(i:XG .Eq b=false):br X (.Compare a [.Eq] [b] f) (ut false c d):=by
 obtain⟨_,j,k⟩:=g;obtain⟨_,l,m⟩:=h;exact⟨_,AT (GM e) j l i,BN k m⟩
theorem BO(e:X.A.units+64<XQ)(g:br X a c)(h:br X b d)(i:XG .Eq b=false):hZ X (.Compare a [.Eq] [b] f) (jk (ut false c d)):=by
 obtain⟨_,j,k⟩:=g;obtain⟨_,l,m⟩:=h;exact⟨_,qY (GM e) j l i,uh (BN k m)⟩
theorem sO(e:X.A.units+64<XQ)(g:br X a c)(h:br X b d)(i:XG .NotEq b=false):hZ X (.Compare a [.NotEq] [b] f) (jk (ut true c d)):=by
 obtain⟨_,j,k⟩:=g;obtain⟨_,l,m⟩:=h;exact⟨_,qY (P1 e) j l i,uh (BN k m)⟩
theorem GP(e:X.A.units+64<XQ)(g:br X a c)(h:br X b d)(i:XG .NotIn b=false):br X (.Compare a [.NotIn] [b] f) (BM true c d):=by
 obtain⟨_,j,k⟩:=g;obtain⟨_,l,m⟩:=h;exact⟨_,AT (P4 e) j l i,GO k m⟩
theorem GQ(e:X.A.units+64<XQ)(g:br X a c)(h:br X b d)(i:XG .In b=false):hZ X (.Compare a [.In] [b] f) (jk (BM false c d)):=by
 obtain⟨_,j,k⟩:=g;obtain⟨_,l,m⟩:=h;exact⟨_,qY (P3 e) j l i,uh (GO k m)⟩
end
theorem P5{K:Su}{P:WP}{w:Xy}{y:Str->Option SC}{d:XE}{x b:Str}{st:XD}{f:TE}{C:X4}{N l:ZS}{lv n:Nat}{F:cb}(L:nR K x b st f C)(S:cy N l (bN st))(M:l.length=n)(O:∀(c:SC)(A:Xz)(a:List Tv)(s:Tl)(H:ak)(E:gW),ez lv (A.deeper (U4 b (bN st) s.heap.objs.size f c))->∃u,hE (k6 j0 P w K y d N b (bN st) f c A a s H E).jD (jZ st) u/\∀i k,i.length=n->F i k->u {nx:=λ_=>k (.val .non),rt:=k} (i++SS (N.length-n) .no)):kB P w K y d j0 (lv+1) f C l (ck K n F):=by
 refine L.ok S (λI H Q E h=>?_) (λc A a s H I Q E R h=>?_)
 ·obtain⟨W,B,i,k,_,j,_,_,_,m,_⟩:=h;rw[m.length,j,M]
 obtain⟨W,B,i,k,T,j,U,X,Y,m,q⟩:=h;obtain⟨u,⟨t,Z,G⟩,h1⟩:=O c A a s H E R;have J:=aL.start (N:=N) (Vk U) X Y m;rw[j]at J;refine⟨t,Z,G _ _ (h1 i k j T) H W B H (L3.fP N I) _ J ⟨λhi af o p h e g=>?_,λ_ _ _ _ h=>h.elim,λ_ _ _ _ h=>h.elim,λr v o p h e g z=>q r v o p h ⟨e,g,z⟩⟩⟩;exact q _ _ o p h ⟨e.toWd,g,.non⟩
def xj(K:Su):iW:=λc H Q _=>∃(a:TE)(b:ZH),c=[.ref a]/\cE K H a (b.map V.int)/\b.length<=63/\∀d,Q (.bl true) d
def GR:cb:=λb k=>∃a:ZH,b=[.val (.scr a)]/\a.length<=63/\k (.val (.bl true))
theorem P6{K:Su}{b:ZL}{H:ak}{Q:cr}{E:gW}(h:xj K b H Q E):ck K 1 GR b H Q E:=by
 obtain⟨a,c,rfl,d,e,q⟩:=h;refine⟨λ_=>False,H,[.val (.scr c)],λr=>r=.val (.bl true),⟨c,rfl,e,rfl⟩,rfl,rfl,cj.refl _,λ_ z=>z.elim,.val (.scr d) .nil,λr v j f g i=>?_⟩;subst g;have:=i.res;rw[bE.kv this];exact q f
def GS(K:Su):iW:=λb H Q _=>∃(a:TE)(k:Int)(c:ZH),b=[.ref a,.int k]/\cE K H a (c.map V.int)/\0<=k/\∀z,Q (.int z) H
def GT:cb:=λa k=>∃(b:ZH)(i:Int),a=[.val (.scr b),.val (.int i)]/\0<=i/\∀z:Int,k (.val (.int z))
theorem Wd.entry{H B:ak}{W:TE->Prop}(c:cj B H)(b:∀a,W a->B a=none/\fX H a):Wd H W B H:=
 ⟨λ_ _ h _=>h,c,λa h=>(b a h).1,λa h=>(b a h).2,λa h=>by obtain⟨x,y,q,_⟩:=(b a h).2;rw[q];simp⟩
theorem P7{K:Su}{c:ZL}{H:ak}{Q:cr}{E:gW}(h:ck K 2 GT c H Q E):GS K c H Q E:=by
 obtain⟨W,B,o,k,⟨e,i,rfl,f,g⟩,p,r,d,j,b,q⟩:=h;cases b with
 |val l b=>cases b with
  |val m b=>
   cases b;obtain⟨a,rfl,n⟩:=l.lS;cases m.eX;exact⟨a,i,e,rfl,d.seq n,f,λz=>q _ _ B H (g z) ⟨Wd.entry d j,bx.refl _ _,.int z⟩⟩
def GU:iW:=λa H Q _=>∃c:Int,a=[.int c]/\∀(b:TE)(x y:Int),H b=none->0<=x->0<=y->y<2147483647->Q (.ref b) (ed H b (.lst [.int x,.int y]))
def GV:cb:=λa k=>∃c:Int,a=[.val (.int c)]/\k .bag
theorem P8{K:Su}{e:ZL}{H:ak}{Q:cr}{E:gW}(h:ck K 1 GV e H Q E):GU e H Q E:=by
 obtain⟨W,B,p,k,⟨c,rfl,g⟩,r,s,i,j,a,q⟩:=h;cases a with
 |val l a=>
  cases a;cases l.eX;refine⟨c,rfl,λb x y d m n o=>?_⟩;have f:=Wd.entry i j;exact q .bag _ B _ g ⟨f.e8 d _,bx.refl _ _,b,rfl,d,(f.fresh d).2.2,x,y,dL,m,n,o⟩
def GW(a:Nat):iW:=λd H Q _=>∃(b:TE)(m:Int),d=[.ref b,.int m]/\fX H b/\0<m/\SB m<=a/\∀(r:Int)(c:ak),nS b H c->fX c b->0<=r->r<m->Q (.int r) c
def GX(a:Nat):cb:=λb k=>∃m:Int,b=[.bag,.val (.int m)]/\0<m/\SB m<=a/\∀r:Int,0<=r->r<m->k (.val (.int r))
theorem P9{K:Su}{d:Nat}{n:ZL}{H:ak}{Q:cr}{E:gW}(h:ck K 2 (GX d) n H Q E):GW d n H Q E:=by
 obtain⟨W,B,I,k,⟨m,rfl,t,u,v⟩,J,L,p,g,f,q⟩:=h;cases f with
 |bag i f=>cases f with
  |val w f=>
   cases f;cases w.eX
   rename_i b
   refine⟨b,m,rfl,(g b i).2,t,u,λr A j C F G=>?_⟩;have s:=Wd.entry p g;refine q _ _ B A (v r F G) ⟨⟨λa o c l=>j a o (by rintro rfl;exact l i) c,λa o c=>j a o (by rintro rfl;rw[(g _ i).1]at c;cases c) (p a o c),s.wb,λa z=>?_,s.wr⟩,bx.refl _ _,.int r⟩;by_cases e:a=b
   ·subst e;exact C
   obtain⟨x,y,c,l⟩:=(g a z).2;exact⟨x,y,j a _ e c,l⟩
theorem nX{c:Bool}{A B:Prop}(h:c=true)(a:A):if c=true then A else B:=by rw[SL h];exact a
theorem mO{c:Bool}{A B:Prop}(h:c=false)(b:B):if c=true then A else B:=by rw[h,Tk SU];exact b
theorem cZ{u:cB}{U:hD}{a r:ZI}(e:a=r)(h:u U r):u U a:=by rw[e];exact h
theorem mP{s t:cB}{U:hD}{b:ZI}(first:∀N:ZI->Prop,N b->s {U with nx:=N} b)(a:t U b):oV s t U b:=first (t U) a
theorem ix{s t:cB}{U:hD}{c:ZI}(I:ZI->Prop)(a:∀b,I b->t U b)(first:∀N:ZI->Prop,(∀b,I b->N b)->s {U with nx:=N} c):oV s t U c:=first _ a
section
variable{X:aT}
theorem hH{a cs:List (Str×TE)}(h:∀p∈a,cs.lookup p.1=some p.2):∀y c,a.lookup y=some c->cs.lookup y=some c:=λy c e=>h (y,c) (Uw e)
theorem h3{a:List (Str×Zf)}{b:List (Str×TE)}(h:(a.all λp => !(p.2==.cell||p.2==.free)||(b.lookup p.1).isSome)=true):∀y,(a.lookup y=some .cell\/a.lookup y=some .free)->∃c,b.lookup y=some c:=λy e=>by
 have key:∀k:Zf,(k==.cell||k==.free)=true->a.lookup y=some k->∃c,b.lookup y=some c:=λk d e=>by
  have q:=Uz.mp h (y,k) (Uw e);have q:(!(k==.cell||k==.free)||(b.lookup y).isSome)=true:=q;rw[d]at q;exact VL.mp (by simpa using q)
 rcases e with e|e
 ·exact key _ rfl e
 exact key _ rfl e
end
def l4(X:aT)(c:ZV)(d:ek):Prop:=∀(b:ZX)(s:Tl)(a:St)(H:ak)(Q:Bool->ak->Prop),c_ X b a H s->d a H Q->
 wpAny (UV X.prog X.w) X.A (forIn c true λt r=>if r=true then do let z <-Ze t X.env (Yk t X.env);pure (Vm z)else pure (Vm r)) (wm X b a Q) X.xe s
def P':ek:=λ_ H Q=>Q true H
theorem Qa{X:aT}:l4 X [] P':=λ_ _ _ H _ I h=>wpAny_tests_nil ⟨H,I,h⟩
theorem Qb{X:aT}{c:Wp}{a:ek}(h:jX X c a):l4 X [c] a:=λb s d H Q I q=>wpAny_tests_one (h b s d H Q I q)
def Qc(J:hA)(g:fO)(k:ek)(l:bH)(n:St)(D:TE)(o:ak)(Q:cr):Prop:=∃W:Nat->Nat->St->ak->Prop,(∃m,W 0 m n (ed o D (.lst [])))/\∀i m e H,W i m e H->
 (J.stop i H/\Q (.ref D) H)\/(J.go i H/\∀x f,J.lq i H x f->g x e f λc p=>k c p λb h=>if b=true then l c h λy j=>∃d,j D=some (.lst d)/\d.length<TI/\∃a,a<m/\W (i+1) a c (ed j D (.lst (d++[y])))else ∃a,a<m/\W (i+1) a c h)
def xk(c:gP)(g:fO)(d:ek)(e:bH)(f:Nat)(h:ZO):bH:=λa H Q=>c a H λJ b=>∀D,b D=none->Qc J g d e (SS f none++iu a h) D b Q
abbrev jJ:=St->ak->(St->ak->Prop)->Prop
def rj(Y:aT)(f:Sem Fin->Sem Fin)(em:jJ):Prop:=∀(a:ZX)(s:Tl)(b:St)(H:ak)(Q:St->ak->Prop)(k:Sem Fin)(R:Fin->Tl->Prop)(E:SC->Tl->Prop),c_ Y a b H s->em b H Q->
 (∀c d e,c_ Y a d e c->Q d e->wpAny (UV Y.prog Y.w) Y.A k R E c)->wpAny (UV Y.prog Y.w) Y.A (f k) R E s
noncomputable def p6(e:Wp)(d:Nat)(g f:Wp)(h:ZV)(i:Sem Fin->Sem Fin)(c b:SC)(a:Tv):Sem Fin:=
 YO f.pos >>= λ_=>YR c >>= λr=>match r with
  |none=>pure (Fin.done .next)
  |some v=>Yo g c v >>= λ_=>Y3 g a v >>= λ_=>
   (forIn h true λt r=>if r=true then do let z <-Ze t a (Yk t a);pure (Vm z)else pure (Vm r)) >>= λok=>
    if ok=true then i (again (.compLoop e d c b a))else again (.compLoop e d c b a)
def BQ(c:Wp)(a:SC)(b:Tv)(k:Sem Fin):Sem Fin:=(Yk c b >>= λx=>call (.builtin "list.append") [a,x] >>= λ_=>pure ()) >>= λ_=>k
noncomputable def BR(e:Wp)(d:Nat)(b:Wp)(c:SC)(a:Tv)(k:Sem Fin):Sem Fin:=
 Yk b a >>= λx=>YO b.pos >>= λ_=>WF b a x >>= λx=>Yu [x] (ZB x) >>= λi=>runOwn (.compStart e d i c a) a >>= λ_=>k
section
variable{g h e d c n l:Wp}{f i m:ZV}{sc:XW}{j:Pos}{k a:SC}{b:Tv}
theorem Qd:YE (.ListComp g [⟨h,e,f,0⟩,⟨d,c,i,0⟩] sc j) 0 k a b=p6 (.ListComp g [⟨h,e,f,0⟩,⟨d,c,i,0⟩] sc j) 0 h e f (BR (.ListComp g [⟨h,e,f,0⟩,⟨d,c,i,0⟩] sc j) 1 c a b) k a b:=by rfl
theorem Qe:YE (.ListComp g [⟨h,e,f,0⟩,⟨d,c,i,0⟩] sc j) 1 k a b=p6 (.ListComp g [⟨h,e,f,0⟩,⟨d,c,i,0⟩] sc j) 1 d c i (BQ g a b) k a b:=by rfl
end
section
variable{Y:aT}{j p f:Wp}{a:List YF}{t:ZV}{sc:XW}{l:Pos}{d:Nat}{c:SC}{C:gP}{g:fO}{o:ek}{B:bH}{em:jJ}{F:Sem Fin->Sem Fin}
def xl(B:bH)(D:TE):jJ:=λe H Q=>B e H λy h=>∃b,h D=some (.lst b)/\b.length<TI/\Q e (ed h D (.lst (b++[y])))
def uu(J:hA)(g:fO)(o:ek)(em:jJ)(W:Nat->Nat->St->ak->Prop)(r:St->ak->Prop):Prop:=∀i m h H,W i m h H->
 (J.stop i H/\r h H)\/(J.go i H/\∀x n,J.lq i H x n->g x h n λk s=>o k s λb q=>if b=true then em k q λu v=>∃e,e<m/\W (i+1) e u v else ∃e,e<m/\W (i+1) e k q)
def GY(C:gP)(g:fO)(o:ek)(em:jJ):jJ:=λb H Q=>C b H λJ e=>∃W:Nat->Nat->St->ak->Prop,(∃m,W 0 m b e)/\uu J g o em W Q
theorem GZ{G:TE}{J:hA}{x:ZU}{N:Nat->XE->Prop}(aD:YE (.ListComp j a sc l) d (.ref G) c Y.env=p6 (.ListComp j a sc l) d p f t F (.ref G) c Y.env)(T:pP Y.prog Y.w Y.K p J x G N)(aq:∀e s,¬Y.xe e s)(ar:Y.calm=true)(aE:jf Y p g)(aH:l4 Y t o)(aI:rj Y F em){h:ZX}{W:Nat->Nat->St->ak->Prop}{QS:St->ak->Prop}{au:Nat}{s:Tl}{S:St}{H:ak}(I:c_ Y h S H s)(st:N 0 s.heap)(av:∀b∈x,g0 Y h H b)(aJ:W 0 au S H)(L:uu J g o em W QS){R:ZC->Tl->Prop}(aK:∀y k H',c_ Y h k H' y->QS k H'->R (.ok .next) y):
  codeAny (UV Y.prog Y.w) Y.A (.compLoop (.ListComp j a sc l) d (.ref G) c Y.env) R s:=by
 have U:∀{H':ak},(∀b∈x,H' b=none)->∀b∈x,g0 Y h H' b:=λaM b m=>⟨aM b m,(av b m).2⟩;refine codeAny_loop rfl (λn y=>∃i k H',c_ Y h k H' y/\N i y.heap/\(∀b∈x,H' b=none)/\W i n k H') (λn X aO=>?_) au ⟨0,S,H,I,st,λb m=>(av b m).1,aJ⟩;show wpAny _ Y.A (Sem.onRaise (YE (.ListComp j a sc l) d (.ref G) c Y.env) _) _ _ X
 rw[aD];unfold p6;refine wpAny_noted (wp (XY (wp ?_)));obtain⟨i,O,Z,aw,ax,ay,aQ⟩:=aO;rcases L i n O Z aQ with⟨stop,q⟩|⟨aS,step⟩
 ·refine XH (T.done Y rfl rfl rfl ar i h X O Z (λ_ _=>False) aw (U ay) ax stop) (λr aU ⟨h1,aX⟩=>?_) (λ_ _ z=>z.elim);subst h1;exact SZ (aK _ _ _ aX q)
 refine XH (T.item Y rfl rfl rfl ar i h X O Z (λ_ _=>False) aw (U ay) ax aS) (λr aU ⟨u,h1,a3⟩=>?_) (λ_ _ z=>z.elim);subst h1;refine wp (XH a3 (λ_ az ⟨v,aB,a4,a5,a6,aa,a'⟩=>?_) (λ_ _ z=>z.elim));have ba:=a4.pinned (U a') (T.obj _ _ aa)
 have back:∀{B:Tl}{P:St}{C:ak}{hi:Nat},c_ Y (h++t1 x az.heap) P C B->W (i+1) hi P C->∃i k H',c_ Y h k H' B/\N i B.heap/\(∀b∈x,H' b=none)/\W i hi k H':=λ{B P C hi} E M=>by
  refine⟨i+1,P,C,E.fu,T.keep _ _ _ aa λb m af ag=>(E.pin (b,af) (S3 _ (S3 _ (wy m ag)))).1,λb m=>?_,M⟩;obtain⟨af,ag,_⟩:=T.obj _ _ aa b m;exact(E.pin (b,af) (S3 _ (S3 _ (wy m ag)))).2.1
 refine wp (XH (aE _ az O aB v u _ ba a5 (step v aB a6)) (λ_ bb ⟨aC,bc,bf,bg⟩=>?_) (λ_ _ z=>(aq _ _ z).elim));refine wp (XH (aH _ bb aC bc _ bf bg) (λb B ⟨C,E,Q⟩=>?_) (λ_ _ z=>(aq _ _ z).elim));cases b with
 |false=>
  rw[Tk SU]at Q⊢;obtain⟨ai,ao,M⟩:=Q;exact SZ ⟨rfl,ai,ao,back E M⟩
 |true=>
  rw[SL rfl]at Q⊢;refine aI _ B aC C _ _ _ _ E Q λy k H' bj bq=>?_;obtain⟨ai,ao,M⟩:=bq;exact SZ ⟨rfl,ai,ao,back bj M⟩
theorem BU{D:TE}(g:bQ Y j B)(a:∀e s,¬Y.xe e s):rj Y (BQ j (.ref D) Y.env) (xl B D):=by
 intro b s c H Q k R E I h i;unfold BQ;refine wp (wp (XH (g b s c H _ I h) (λl m ⟨y,d,n,o,f,p,q,r⟩=>?_) (λ_ _ z=>(a _ _ z).elim)));have mt:=wM (X:=Y) b m c d (.ref D) [y] (.ref D) [l] (λ_ t=>t=ed d D (.lst (f++[y]))) n rfl (.cons o .nil) ⟨D,f,y,rfl,rfl,p,q,rfl⟩;refine wp (XH mt (λ_ u ⟨_,v,w,_,x⟩=>?_) (λ_ _ z=>(a _ _ z).elim));subst x;exact SZ (i _ _ _ w r)
theorem Qv{R:ZC->Tl->Prop}{s:Tl}{e:SC}{b:Tv}{P:WP}{w:Xy}{A:Xz}(k:a[d]?=some ⟨p,f,t,0⟩)(m:codeAny (UV P w) A (.compLoop (.ListComp j a sc l) d e c b) R s)(h:∀E,wpAny (UV P w) A (ZB e) (λn g=>codeAny (UV P w) A (.compLoop (.ListComp j a sc l) d n c b) R g) E s):
  codeAny (UV P w) A (.compStart (.ListComp j a sc l) d e c b) R s:=by
 apply codeAny_of_tree;show wpAny _ A (Sem.onRaise (WK (.ListComp j a sc l) d e c b) _) _ _ s
 apply wpAny_notedAt;unfold WK;rw[show clausesOf (.ListComp j a sc l)=a from rfl,k];show wpAny _ _ (ask >>= _) _ _ s
 refine wp (wpAny_askSetting (wpAny_ite ?_));split
 ·exact wp (SZ (SZ ⟨rfl,m⟩))
 refine wp (Yb (wp (XY ?_)));exact wp (XH (h _) (λi g q=>SZ ⟨rfl,q⟩) λ_ _ z=>z)
theorem Qx(G:iU Y p f C)(K:jf Y p g)(L:l4 Y t o)(M:rj Y F em)(m:∀e s,¬Y.xe e s)(N:Y.calm=true)(O:∀v,WF f Y.env v=pure v)(P:a[d]?=some ⟨p,f,t,0⟩)(S:∀i,YE (.ListComp j a sc l) d i c Y.env=p6 (.ListComp j a sc l) d p f t F i c Y.env):
  rj Y (BR (.ListComp j a sc l) d f c Y.env) (GY C g o em):=by
 intro n s U H Q k R E I h q;unfold BR;refine wp (XH (G n s U H _ I h) (λv ar X=>?_) (λ_ _ z=>(m _ _ z).elim));refine wp (XY (wp (Zb (O v) (wp (W1 (XH X (λau Z ae=>?_) (λ_ _ z=>(m _ _ z).elim)))))));obtain⟨i,aw,ax,J,ay,rfl,af,T,r,ag,W,⟨az,ao⟩,b⟩:=ae;refine wp (wpAny_runOwn ?_);have u:∀R:ZC->Tl->Prop,(∀x y B,c_ Y n y B x->Q y B->R (.ok .next) x)->codeAny (UV Y.prog Y.w) Y.A (.compLoop (.ListComp j a sc l) d (.ref i) c Y.env) R Z:=λR aq=>GZ (S _) T m N K L M af r ag ao b aq;exact Qv P (u _ q) λE=>T.self _ 0 _ _ _ r (u _ q)
end
section
variable{X:aT}
structure oX(X:aT)(scope:XW)(bK:List (Str×TE))(fr:ZS)(js:ZO):Prop where
 k2:Zp scope X.env=pure bK
 cell:∀y∈scope.names,y.2≠.cell
 kind:scope.kind=.function
 names:∀y∈scope.names,y.2=.local->scope.names.lookup y.1=some .local
 sub:∀y c,bK.lookup y=some c->X.env.cells.lookup y=some c
 has:∀y,((relabel scope X.env).names.lookup y=some .cell\/(relabel scope X.env).names.lookup y=some .free)->∃c,bK.lookup y=some c
 n_:∀(i:Nat)(y:Str),fr[i]?=some y->∃j:Nat,js[i]?=some j/\X.N[j]?=some y/\X.env.kindOf y=some .cell/\((relabel scope X.env).names.lookup y=some .cell\/(relabel scope X.env).names.lookup y=some .free)/\∃c,bK.lookup y=some c
 len:js.length=fr.length
end
def Qy(J:hA)(g:fO)(a:ek)(em:TE->jJ)(b:St)(D:TE)(c:ak)(Q:cr):Prop:=∃W:Nat->Nat->St->ak->Prop,(∃m,W 0 m b (ed c D (.lst [])))/\uu J g a (em D) W λ_ H=>Q (.ref D) H
def xo(c:gP)(g:fO)(d:ek)(em:TE->jJ)(e:Nat)(f:ZO):bH:=λa H Q=>c a H λJ b=>∀D,b D=none->Qy J g d em (SS e none++iu a f) D b Q
section
variable{X:aT}
theorem G2{aC M P:Wp}{n:List YF}{Z:ZV}{G:Pos}{a:XW}{B:List (Str×TE)}{E K:ZS}{aQ:ZO}{bD:gP}{g:fO}{bG:ek}{em:TE->jJ}{bM:SC->Tv->Sem Fin->Sem Fin}{use:Option (SC->Sem Unit)}{RQ:SC->Tl->Prop}{QE:cr}(x1:iU X P M bD)(b':∀C s H aE,jf (d7 X (E++K) a B C s H aE) P g)(cc:∀C s H aE,l4 (d7 X (E++K) a B C s H aE) Z bG)(cn:∀D C s H aE,rj (d7 X (E++K) a B C s H aE) (bM (.ref D) (YZ a B C X.env)) (em D))(cp:∀aH acc env,YE (.ListComp aC (⟨P,M,Z,0⟩::n) a G) 0 aH acc env=p6 (.ListComp aC (⟨P,M,Z,0⟩::n) a G) 0 P M Z (bM acc env) aH acc env)(F:oX X a B K aQ)(cD:X.calm=true)(k':∀v,WF M X.env v=pure v){au:ZX}{s:Tl}{N:St}{H:ak}(I:c_ X au N H s)(h:xo bD g bG em E.length aQ N H QE)(bR:Sem SC)(cK:bR=newList [])(cL:Pos)(cR:∀(D C:TE)(Q:ak)(R:Tl)(m:Str->Option SC),R.heap.Ns C m->Q C=none->C≠X.env.locals->X.s₀.heap.objs.size<=C->(∀x c,X.env.cells.lookup x=some c->c≠C)->(∀p∈X.pn++au,p.1≠C)->C∉X.fs->(∀h':XE,(∀b u,b≠C->R.heap.get? b=some u->h'.get? b=some u)->c_ X au N Q {R with heap:=h' })->QE (.ref D) Q->compPost (UV X.prog X.w) X.A X.xe use RQ (.ref D) C (.ok .next) R):
  wpAny (UV X.prog X.w) X.A (comprehension (.ListComp aC (⟨P,M,Z,0⟩::n) a G) a X.env cL bR false (Yk M X.env) use) RQ X.xe s:=by
 refine wpAny_comprehension_free (use:=use) rfl k' F.k2 F.kind F.names (cq (x1 au s N H _ I h) λdS dU aw=>cq aw λdV L a5=>?_);obtain⟨aH,O,cS,J,a6,rfl,bS,T,aI,bT,a5⟩:=a5;have bU:a6 L.heap.objs.size=none:=bS.fresh;obtain⟨W,⟨dW,bb⟩,S⟩:=a5 _ bU;rw[cK];refine Xv ?_;have d:c_ X au N (ed a6 L.heap.objs.size (.lst [])) {L with heap:=L.heap.push {cls:=.type "list",data:=.seq ([]:ZT).toArray} }:=bS.mx (t':=L.toks) (its:=[]) .nil wf;generalize cT:({L with heap:=L.heap.push {cls:=.type "list",data:=.seq ([]:ZT).toArray} }:Tl)=f at d;have bV:f.heap=L.heap.push {cls:=.type "list",data:=.seq ([]:ZT).toArray}:=by rw[<-cT]
 generalize bX:ed a6 L.heap.objs.size (.lst [])=ao at d bb;generalize cX:L.heap.objs.size=D at bU bX bb S;have bf:∀b o,L.heap.get? b=some o->f.heap.get? b=some o:=λb o e=>by rw[bV];exact Heap.get?_push_of_some _ e
 have ay:∀b∈O,g0 X au ao b:=λb k=>by
  obtain⟨o,aU,_⟩:=T.obj _ _ aI b k;have lt:=Heap.lt_size aU;refine⟨?_,(bT b k).2⟩;rw[<-bX,bP (by rw[<-cX];exact S5 lt)];exact(bT b k).1
 refine Y2 F.cell (by intro y bq;simp at bq) (λaw cY c8=>?_) F.kind;have c9:f.heap.get? f.heap.objs.size=none:=Heap.get?_none_of_le (SF _);have az:∀b o,f.heap.get? b=some o->aw.get? b=some o:=λb o e=>c8.extBut b o (S5 (Heap.lt_size e)) (Heap.get?_push_of_some _ e);show codeAny (UV X.prog X.w) X.A (.compStart (.ListComp aC (⟨P,M,Z,0⟩::n) a G) 0 (.ref aH) (.ref D) (YZ a B f.heap.objs.size X.env)) (compPost (UV X.prog X.w) X.A X.xe use RQ (.ref D) f.heap.objs.size) _
 have ok:(d7 X (E++K) a B f.heap.objs.size f ao O).Ok:=by
  refine⟨d.ok.mod,F.kind,d.ok.glob,d.ok.blt,SF _,λy z c U t=>d.ok.inj y z c (F.sub _ _ U) (F.sub _ _ t),λy bq=>F.has y bq,λy c z=>absurd z SU,d.ok.hd,d.ok.frames,.inl rfl,λb k=>?_,d.bs,Sx d.ok.kr d.sz,
   λb o e k=>?_,λb k dd=>?_,d.stack,d.gR,d.tabs⟩
  ·obtain⟨o,aU,_⟩:=T.obj _ _ aI b k;exact⟨S5 (Heap.lt_size (bf b o aU)),λy c e=>(ay b k).2.2.2.2.1 y c (F.sub _ _ e)⟩
  ·obtain⟨_,_,_,z,_⟩:=ay b k;rcases z with z|z
   ·exact d.ok.jN b o e z
   exact absurd (Tc (Heap.lt_size (d.ok.bs b o e).1) z) (TU _)
  rcases SG.mp (d.gQ b dd)with z|z
  ·exact(ay b k).2.1 z
  exact(ay b k).2.2.1 z
 have de:∀(bA:XE),(∀b u,f.heap.get? b=some u->bA.get? b=some u)->∀(i:Nat)(y:Str)(v:V),K[i]?=some y->(iu N aQ)[i]?=some (some v)->∃u,d_ v u/\∀m,mV (YZ a B f.heap.objs.size X.env) bA m y u:=λbA tb i y v U t=>by
  obtain⟨j,dj,dk,bY,dm,c,bZ⟩:=F.n_ i y U
  have dn:N[j]?=some (some v):=by
   unfold iu at t;rw[SP,dj,UN]at t;have t:=SN t;cases q:N[j]? with
   |none=>rw[q]at t;simp at t
   |some z=>rw[q]at t;simpa using t
  obtain⟨m,aV,dx⟩:=d.loc;obtain⟨u,r,l⟩:=dx j y v dk dn (.inr (.inl bY));refine⟨u,r,λdX=>.inr ⟨dm,c,bZ,?_⟩⟩;rcases l with⟨z,_⟩|⟨_,dY,dz,dA⟩
  ·rw[bY]at z;cases z
  have e:=F.sub _ _ bZ;rw[dz]at e;cases e;obtain⟨aX,aM,a3⟩:=dA;exact⟨aX,tb _ _ aM,a3⟩
 have b0:c_ (d7 X (E++K) a B f.heap.objs.size f ao O) [] (SS E.length none++iu N aQ) ao {f with heap:=aw,toks:=f.toks+([]:List (Str×SC)).length}:=by
  refine⟨ok,rfl,d.bare,f7.kept az,⟨_,cY,λi y v U t bV=>?_⟩,λy c e=>?_,d.fresh,λy c e=>d.fD y c (F.sub _ _ e),λp aP=>absurd (show p∈([]:ZX)from aP) (by simp),d.ep.kept az,?_⟩
  ·by_cases b5:i<E.length
   ·rw[TJ (by simpa using b5),Un,SL b5]at t;cases t
   have U:(E++K)[i]?=some y:=U;rw[Tq (by lia)]at U;rw[Tq (by simp;lia),Ua]at t;obtain⟨u,r,l⟩:=de aw az _ y v U t;exact⟨u,r,l _⟩
  ·obtain⟨v,aX,aM,a3⟩:=d.cell y c (F.sub _ _ e);exact⟨v,aX,az _ _ aM,a3⟩
  show _=(E++K).length
  rw[Sz,Sz,Ua];unfold iu;rw[Sv,F.len]
 have dD:∀{b6:ak},(∀b∈O,b6 b=none)->∀b∈O,g0 (d7 X (E++K) a B f.heap.objs.size f ao O) [] b6 b:=λaV b k=>by
  obtain⟨o,aU,_⟩:=T.obj _ _ aI b k;exact⟨aV b k,(ok.m' b k).1,ok.j_ b k,.inl k,(ok.m' b k).2,λp aP=>absurd (show p∈([]:ZX)from aP) (by simp)⟩
 have loop:∀a4:Tl,a4={f with heap:=aw,toks:=f.toks+([]:List (Str×SC)).length}->
   codeAny (UV X.prog X.w) X.A (.compLoop (.ListComp aC (⟨P,M,Z,0⟩::n) a G) 0 (.ref aH) (.ref D) (YZ a B f.heap.objs.size X.env)) (compPost (UV X.prog X.w) X.A X.xe use RQ (.ref D) f.heap.objs.size) a4:=by
  intro a4 b8;rw[<-b8]at b0;have dF:cS 0 a4.heap:=T.keep _ _ _ aI λb _ o e=>by rw[b8];exact az b o (bf b o e)
  refine GZ (Y:=d7 X (E++K) a B f.heap.objs.size f ao O) (QS:=λ_ Q=>QE (.ref D) Q) (cp _ _ _) T (λ_ _ z=>z) cD (b' _ _ _ _) (cc _ _ _ _) (cn D _ _ _ _) b0 dF (dD λb k=>(ay b k).1) bb S λR dZ Q aq q=>?_;obtain⟨m,aV,_⟩:=id aq.loc;refine cR D f.heap.objs.size Q R m aV aq.free (T9 d.lt) d.sz (λy c e z=>?_) (λp aP z=>?_) (d.lU (SF _)) (λh' b9=>?_) q
  ·obtain⟨v,aX,aM,a3⟩:=d.cell y c e;exact absurd (Heap.lt_size aM) (by rw[z];exact TU _)
  ·exact absurd (Heap.lt_size (d.pin p aP).1) (by rw[z];exact TU _)
  refine d.lC (s':={R with heap:=h' }) (ch:=O) aq.os ((show f7 (frs X.stack) O ao Q f.heap R.heap from aq.base).but c9 b9) (aq.ep.but aq.free b9) aq.bare (λb k=>?_);obtain⟨_,dG,_,dM,dP,dQ⟩:=ay b k;exact⟨dM,dG,dP,dQ⟩
 exact codeAny_compStart_list (loop _ rfl) (T.self _ 0 _ _ _ (T.keep _ _ _ aI λb _ o e=>az b o (bf b o e)) (loop _ rfl))
theorem QI{o d f:Wp}{rest:List YF}{i:ZV}{c:Pos}{a:XW}{j:List (Str×TE)}{l n:ZS}{p:ZO}{r:gP}{g:fO}{t:ek}{em:TE->jJ}{w:SC->Tv->Sem Fin->Sem Fin}(y:iU X f d r)(z:∀C s H k,jf (d7 X (l++n) a j C s H k) f g)(A:∀C s H k,l4 (d7 X (l++n) a j C s H k) i t)(B:∀D C s H k,rj (d7 X (l++n) a j C s H k) (w (.ref D) (YZ a j C X.env)) (em D))(E:∀x acc env,YE (.ListComp o (⟨f,d,i,0⟩::rest) a c) 0 x acc env=p6 (.ListComp o (⟨f,d,i,0⟩::rest) a c) 0 f d i (w acc env) x acc env)(F:oX X a j n p)(G:X.calm=true)(J:∀v,WF d X.env v=pure v):bQ X (.ListComp o (⟨f,d,i,0⟩::rest) a c) (xo r g t em l.length p):=by
 intro R s S H Q I h;rw[eval_ListComp];refine G2 y z A B E F G J I h _ rfl _ λD C K T m L _ _ _ _ _ _ M q=>⟨m,L,λN O=>⟨.ref D,K,M N λb u P e=>O.extBut b u P e,rfl,q⟩⟩
end
section
variable{X:aT}
theorem G5{k d f:Wp}{rest:List YF}{j:ZV}{c:Pos}{a:XW}{l:List (Str×TE)}{t w:ZS}{K:ZO}{M:gP}{g:fO}{O:ek}{em:TE->jJ}{P:SC->Tv->Sem Fin->Sem Fin}{i:Nat}{y:Str}{x Q:Pos}(ao:X.N.Nodup)(ar:X.N[i]?=some y)(R:X.env.scope.names.lookup y=some .local)(au:iU X f d M)(aw:∀C s H n,jf (d7 X (t++w) a l C s H n) f g)(ay:∀C s H n,l4 (d7 X (t++w) a l C s H n) j O)(az:∀D C s H n,rj (d7 X (t++w) a l C s H n) (P (.ref D) (YZ a l C X.env)) (em D))(aB:∀S acc env,YE (.ListComp k (⟨f,d,j,0⟩::rest) a c) 0 S acc env=p6 (.ListComp k (⟨f,d,j,0⟩::rest) a c) 0 f d j (P acc env) S acc env)(F:oX X a l w K)(aC:X.calm=true)(aD:∀v,WF d X.env v=pure v)(aE:XA (.ListComp k (⟨f,d,j,0⟩::rest) a c) (some (.Name y x)) Q.line X.env=pure true):
  jB X (.Assign [.Name y x] (.ListComp k (⟨f,d,j,0⟩::rest) a c) Q) (wv (xo M g O em t.length K) (tY i)):=by
 intro B s E H D I h;rw[exec_Assign_Name_used _ _ _ _ aE];refine wp (XY (wp ?_));show wpAny _ X.A (do let _ <-comprehension (.ListComp k (⟨f,d,j,0⟩::rest) a c) a X.env _ (newList []) false (Yk d X.env) (some (Y3 (.Name y x) X.env))) _ _ s
 refine wp (cq (G2 (RQ:=λ_ T=>∃U W,c_ X B U W T/\D.nx U W) (QE:=λv aH=>tY i v E aH D.nx) au aw ay az aB F aC aD I h _ rfl _ ?_) λ_ T q=>SZ (SZ q));intro L C G J m aI Y Z aJ aM aO aP aQ q;obtain⟨o,aS,aU,aV,h1,r⟩:=id aI;have aa:c_ X B E G J:=aQ J.heap λb u _ e=>e
 have aX:c_ X (B++[(C,o)]) E G J:=aa.gS λp a4=>by
  rcases SO.mp a4 with z|z
  ·exact aa.pin p (S3 _ z)
  have z:p=(C,o):=by simpa using z
  subst z;exact⟨aV,Y,Z,aP,λv z=>by rw[h1]at z;cases z⟩
 show wpAny _ X.A (Y3 (.Name y x) X.env (.ref L)) _ _ _
 refine wpAny_assign_Name (sq aX ao ar (.inl R) (v:=.ref L) rfl (λag ai=>?_) (.inr R));have a5:ag.heap.get? C=some o:=(ai.pin (C,o) (S3 _ (S3 _ (SQ.mpr rfl)))).1;refine⟨m,⟨o,aS,aU,a5,h1,r⟩,λba a6=>⟨_,G,?_,q⟩⟩;exact ai.fu.turned (t':=ag.toks) (λb u a' e=>a6.extBut b u a' e) Y Z (.inr aJ) aM aO
end
section
variable{X:aT}
theorem G6{k f h:Wp}{l:ZV}{i:Pos}{a:XW}{c:List (Str×TE)}{d e:ZS}{m:ZO}{n:gP}{g:fO}{o:ek}{j:bH}(p:iU X h f n)(q:∀C s H b,jf (d7 X (d++e) a c C s H b) h g)(r:∀C s H b,l4 (d7 X (d++e) a c C s H b) l o)(t:∀C s H b,bQ (d7 X (d++e) a c C s H b) k j)(F:oX X a c e m)(u:X.calm=true)(w:∀v,WF f X.env v=pure v):bQ X (.ListComp k [⟨h,f,l,0⟩] a i) (xk n g o j d.length m):=
 QI (rest:=[]) (em:=xl j) p q r (λD C s H b=>BU (Y:=d7 X (d++e) a c C s H b) (t C s H b) λ_ _ z=>z) (λ_ _ _=>rfl) F u w
theorem QM{k h j:Wp}{l:ZV}{c:Pos}{a:XW}{d:List (Str×TE)}{e f:ZS}{n:ZO}{o:gP}{g:fO}{p:ek}{m:bH}{i:Nat}{y:Str}{q r:Pos}(t:X.N.Nodup)(u:X.N[i]?=some y)(w:X.env.scope.names.lookup y=some .local)(x:iU X j h o)(A:∀C s H b,jf (d7 X (e++f) a d C s H b) j g)(B:∀C s H b,l4 (d7 X (e++f) a d C s H b) l p)(E:∀C s H b,bQ (d7 X (e++f) a d C s H b) k m)(F:oX X a d f n)(G:X.calm=true)(I:∀v,WF h X.env v=pure v)(J:XA (.ListComp k [⟨j,h,l,0⟩] a c) (some (.Name y q)) r.line X.env=pure true):
  jB X (.Assign [.Name y q] (.ListComp k [⟨j,h,l,0⟩] a c) r) (wv (xk o g p m e.length n) (tY i)):=
 G5 (rest:=[]) (em:=xl m) t u w x A B (λD C s H b=>BU (Y:=d7 X (e++f) a d C s H b) (E C s H b) λ_ _ z=>z) (λ_ _ _=>rfl) F G I J
end
def hs(g:eU)(c:dJ)(u:bd):ZK->ZI->(ZK->Prop)->Prop
 |[],_,k=>k []
 |d::e,f,k=>g d f λa=>c a λb=>if b=true then u a λy=>hs g c u e a λh=>k (y::h)else hs g c u e a k
def i7:dJ:=λ_ k=>k true
def uy(w:cJ)(g:eU)(c:dJ)(u:bd)(d:Nat)(e:ZO):cJ:=λa k=>w a λb=>b.length<=TI/\hs g c u b (SS d .no++e.map (j8 a)) k
section
variable{K:Su}{X:aT}{e:Wp}{O:ZV}{u:bd}{w:cJ}{S p:Pos}
theorem BZ{ρ:ZI}(j:Nat):j8 ρ j=.no\/(∃d,j8 ρ j=.val d/\ρ[j]?=some (.val d))\/(j8 ρ j=.bag/\ρ[j]?=some .bag):=by
 unfold j8;split
 ·rename_i d a;exact .inr (.inl ⟨d,rfl,a⟩)
 ·rename_i a;exact .inr (.inr ⟨rfl,a⟩)
 exact .inl rfl
theorem aL.within{R:ak}{W:TE->Prop}{B H:ak}{k:St}{ρ:ZI}(e:aL K R W B H k ρ)(d:Nat){g:ZO}(C:g.Nodup):
  aL K H (λa=>∃j,j∈g/\k[j]?=some (some (.ref a))/\ρ[j]?=some .bag) B H (SS d none++iu k g) (SS d .no++g.map (j8 ρ)):=by
 have t:∀(a:TE)(j:Nat),k[j]?=some (some (V.ref a))->ρ[j]?=some aA.bag->B a=none/\fX H a:=λa j o p=>by
  obtain⟨c,s,_,u,w⟩:=e.eQ p;rw[o]at s;cases s;exact⟨u,w⟩
 refine⟨⟨λ_ _ z _=>z,e.bh,λa ⟨j,_,o,p⟩=>(t a j o p).1,λa ⟨j,_,o,p⟩=>(t a j o p).2,λa ⟨j,_,o,p⟩=>?_⟩,?_,λn Q h=>?_,λn m a b r=>?_⟩
 ·obtain⟨x,y,q,_⟩:=(t a j o p).2;rw[q];simp
 ·unfold iu;simp
 ·by_cases l:n<d
  ·rw[TJ (by simpa using l),Un,SL l]at h;cases h;trivial
  rw[Tq (by simp;lia),Ua,SP]at h;cases f:g[n-d]? with
  |none=>rw[f]at h;cases h
  |some j=>
   rw[f]at h;have h:=SN h
   have E:((SS d none++iu k g)[n]?).join=(k[j]?).join:=by
    rw[Tq (by simp;lia),Ua];unfold iu;rw[SP,f];rfl
   rw[E,<-h];rcases BZ (ρ:=ρ) j with z|⟨A,z,i⟩|⟨z,i⟩<;>rw[z]
   ·trivial
   ·obtain⟨v,F,G⟩:=e.ok j _ i;exact⟨v,F,G⟩
   obtain⟨c,s,_,u,w⟩:=e.ok j _ i;exact⟨c,s,.inl ⟨j,S' f,gu s,i⟩,u,w⟩
 have back:∀n,cg (SS d none++iu k g) (SS d .no++g.map (j8 ρ)) n a->∃j,d<=n/\g[n-d]?=some j/\cg k ρ j a:=λn I=>by
  rcases I with⟨b,r⟩|⟨c,b,_⟩
  rotate_left
  ·by_cases l:n<d
   ·rw[TJ (by simpa using l),Un,SL l]at b;cases b
   rw[Tq (by simp;lia),Ua,SP]at b;cases f:g[n-d]? with
   |none=>rw[f]at b;cases b
   |some j=>
    rw[f,UN]at b;rcases BZ (ρ:=ρ) j with z|⟨A,z,i⟩|⟨z,i⟩<;>rw[z]at b<;>cases b
  by_cases l:n<d
  ·rw[TJ (by simpa using l),Un,SL l]at b;cases b
  rw[Tq (by simp;lia),Ua]at b;obtain⟨j,f,J⟩:=PP b;rw[Tq (by simp;lia),Ua,SP,f]at r;refine⟨j,by lia,f,.inl ⟨gu J.symm,.inl ?_⟩⟩;rcases BZ (ρ:=ρ) j with z|⟨A,z,i⟩|⟨z,i⟩
  ·rw[UN,z]at r;rcases r with q|⟨_,q⟩<;>cases q
  ·rw[UN,z]at r;rcases r with q|⟨_,q⟩<;>cases q
  exact i
 obtain⟨j,S,f,L⟩:=back n b;obtain⟨M,T,N,O⟩:=back m r;have:=e.sep j M a L O;subst this
 have P:n-d<g.length:=by
  by_cases z:n-d<g.length
  ·exact z
  rw[Te (by lia)]at f;cases f
 have:=(WL P C).mp (f.trans N.symm);lia
theorem xq{R:ak}{W:TE->Prop}{B:ak}{a:TE}{b:ZL}(h:R a=some (.lst b))(c:¬W a):hY R W B a=some (.lst b):=by
 unfold hY;rw[h];dsimp only;rw[Tk c]
theorem B1{R:ak}{W:TE->Prop}{B:ak}{a:TE}(h:W a):hY R W B a=B a:=by
 unfold hY;split
 ·rw[SL h]
 rfl
theorem xr{R:ak}{W:TE->Prop}{B:ak}{a:TE}(h:∀b,R a≠some (.lst b)):hY R W B a=B a:=by
 unfold hY;split
 ·rename_i b e;exact absurd e (h b)
 rfl
theorem B2{R:ak}{W:TE->Prop}{B:ak}{a:TE}{o:eo}(h:hY R W B a=some o):B a=some o\/(¬W a/\R a=some o/\∃b,o=.lst b):=by
 unfold hY at h;split at h
 ·rename_i b e
  split at h
  ·exact .inl h
  rename_i z;cases h;exact .inr ⟨z,e,b,rfl⟩
 exact .inl h
theorem G7{R:ak}{W:TE->Prop}{B H:ak}(w:Wd R W B H):cj B (hY R W B):=λa o h=>by
 by_cases z:W a
 ·rw[B1 z];exact h
 by_cases q:∃b,R a=some (.lst b)
 ·obtain⟨b,q⟩:=q;have c:=w.fr a _ q z;rw[w.bh a o h]at c;cases c;exact xq q z
 rw[xr λb e=>q ⟨b,e⟩];exact h
theorem G8{R:ak}{W:TE->Prop}{B H:ak}(w:Wd R W B H):cj (hY R W B) H:=λa o h=>by
 rcases B2 h with h|⟨b,c,_⟩
 ·exact w.bh a o h
 exact w.fr a o c b
theorem xt{R:ak}{W c:TE->Prop}{B d H:ak}(w:Wd R W B H)(s:cj B d)(m:cj d H)(i:∀a,c a->R a≠none->W a)(j:∀a,c a->d a=none):cj (hY R W B) (hY H c d):=λa o h=>by
 have f:=G8 w a o h;rcases B2 h with h|⟨k,l,b,rfl⟩
 ·have g:=s a o h;by_cases z:c a
  ·rw[j a z]at g;cases g
  by_cases q:∃b,H a=some (.lst b)
  ·obtain⟨b,q⟩:=q;rw[f]at q;cases q;exact xq f z
  rw[xr λb e=>q ⟨b,e⟩];exact g
 exact xq f λz=>k (i a z (by rw[l];simp))
theorem aL.rebase{R:ak}{W:TE->Prop}{B H:ak}{f:St}{g:ZI}(e:aL K R W B H f g)(h:∀j a,cg f g j a->W a):aL K H W B H f g:=by
 refine⟨⟨λ_ _ z _=>z,e.bh,e.wb,e.wh,λa z=>by obtain⟨t,u,l,_⟩:=e.wh a z;rw[l];simp⟩,e.len,λj i b=>?_,e.sep⟩;have:=e.ok j i b;cases i with
 |no=>trivial
 |new d=>
  obtain⟨v,m,n⟩:=this;exact⟨v,m,n.mono (xt e.toWd (cj.refl _) e.bh (λ_ z _=>z) e.wb)⟩
 |pin v d=>exact⟨this.1,this.2.mono (xt e.toWd (cj.refl _) e.bh (λ_ z _=>z) e.wb)⟩
 |val d=>exact this
 |own o=>
  obtain⟨a,p,q,_⟩:=this;exact absurd q (e.wr a (h j a (.inl ⟨gu p,.inr ⟨o,b⟩⟩)))
 |deep c=>exact absurd (this.2.fr _ Sw).1 (e.wr _ (h j _ (.inr ⟨c,b,Sw⟩)))
 |bag=>
  obtain⟨c,k,w,r,s⟩:=this;exact⟨c,k,.inl (h j c (.inl ⟨gu k,.inl b⟩)),r,s⟩
theorem aL.f_{R:ak}{W:TE->Prop}{B H h H':ak}{i:St}{k:ZI}(e:aL K R W B H i k)(l:∀j a,cg i k j a->W a)(f:aL K H W h H' i k)(g:bx H B h):aL K R W h H' i k/\bx R B h:=by
 refine⟨⟨⟨λa o z r=>f.fr a o (e.fr a o z r) r,f.bh,f.wb,f.wh,e.wr⟩,f.len,λj t b=>?_,f.sep⟩,⟨g.s,λa o z=>?_⟩⟩
 ·have:=f.ok j t b;cases t with
  |no=>trivial
  |new d=>
   obtain⟨v,m,p⟩:=e.ok j _ b;exact⟨v,m,p.mono (wV g.s)⟩
  |pin v d=>
   obtain⟨m,p⟩:=e.ok j _ b;exact⟨m,p.mono (wV g.s)⟩
  |val d=>exact this
  |own w=>
   obtain⟨a,x,y,_⟩:=e.ok j _ b;exact absurd y (e.wr a (l j a (.inl ⟨gu x,.inr ⟨w,b⟩⟩)))
  |deep c=>exact absurd ((e.eJ b).2.fr _ Sw).1 (e.wr _ (l j _ (.inr ⟨c,b,Sw⟩)))
  |bag=>
   obtain⟨c,u,E,A,C⟩:=this;exact⟨c,u,.inl (l j c (.inl ⟨gu u,.inl b⟩)),A,C⟩
 rcases g.n a o z with q|q
 ·exact .inl q
 exact .inr (e.toWd.fresh q).1
theorem G9{a6:gP}{g:fO}{bb:ek}{bg:bH}{E:eU}{l:dJ}{G:Nat}{t:ZO}(bU:sJ K a6 w)(bV:oT K g E)(bX:ig K bb l)(bY:fy K bg u)(bZ:t.Nodup):Bk K (xk a6 g bb bg G t) (uy w E l u G t):=by
 intro I k h R W B H L Q e q;refine bU I _ h R W B H L _ e λf J bj az aD aa b0 b5=>?_;obtain⟨dj,aD⟩:=aD;intro D af;obtain⟨b6,dk,b8⟩:=aa.toWd.fresh af;have bq:∀i,¬cg L I i D:=λi m=>aa.ff af m rfl;have ei:=aa.within G bZ
 have aE:∀j a,cg (SS G none++iu L t) (SS G .no++t.map (j8 I)) j a->∃j,j∈t/\L[j]?=some (some (V.ref a))/\I[j]?=some aA.bag:=λj a m=>by
  have aI:=(ei.eP m).2;rcases m with⟨bA,z|⟨O,z⟩⟩|⟨c,z,b9⟩
  ·obtain⟨c,T,M,_⟩:=ei.eQ z;rw[bA]at T;cases T;rcases M with M|M
   ·exact M
   exact absurd M aI
  ·obtain⟨c,T,M,_⟩:=ei.fJ z;rw[bA]at T;cases T;exact absurd M aI
  exact absurd ((ei.eJ z).2.fr a b9).1 aI
 generalize bD:(λa=>∃j,j∈t/\L[j]?=some (some (V.ref a))/\I[j]?=some aA.bag)=A at ei;have aE:∀j a,cg (SS G none++iu L t) (SS G .no++t.map (j8 I)) j a->A a:=λj a m=>by rw[<-bD];exact aE j a m
 have bG:∀a,A a->∃i:Nat,L[i]?=some (some (.ref a))/\I[i]?=some .bag:=λa z=>by
  rw[<-bD]at z;obtain⟨j,_,z⟩:=z;exact⟨j,z⟩
 have aJ:¬A D:=λz=>by
  obtain⟨x1,cc,cn⟩:=bG D z;exact bq x1 (.inl ⟨cc,.inl cn⟩)
 refine⟨λi m ai C=>∃hc p O U,m=f.length-i/\i<=f.length/\aL K az A hc C ai U/\bx az bj hc/\C D=some (.lst p)/\hc D=none/\(∀j a,cg ai U j a->A a)/\p.length<=i/\b_ K hc p O/\hs E l u (f.drop i) U λr=>k (O++r),
  ⟨f.length,bj,[],[],_,by simp,Td _,ei.e8 af _,bx.refl _ _,dL,b8,aE,SF _,.nil,by simpa using aD⟩,?_⟩
 rintro i m ai bK ⟨aj,p,O,U,rfl,dm,aM,X,ao,bM,cp,dn,aN,au⟩;obtain⟨cw,cD,k'⟩:=b5 bK (X.s.trans aM.bh) i;by_cases P:i<f.length
 ·refine .inr ⟨cw P,λx C y=>?_⟩;obtain⟨rfl,d,bS,cF⟩:=k' x C P y
  have cK:f.drop i=d::f.drop (i+1):=by
   rw[Up P];rw[S0 P]at bS;rw[SN bS]
  rw[cK]at au;refine bV d U _ au az A aj C ai x _ aM (cF.mono X.s) λY aO cL aP cO=>?_;have S:∀j a,cg aO Y j a->A a:=λj a m=>cp j a (cO j a m)
  have a3:∀{N:ak},bx C aj N->N D=none:=λ{N} F=>by
   cases cQ:N D with
   |none=>rfl
   |some o=>
    rcases F.n D o cQ with z|z
    ·rw[bM]at z;cases z
    rw[ao]at z;cases z
  refine bX Y _ cL C A aj C aO _ (aP.rebase S) λb N bT av Z F=>?_;have cR:bT D=some (.lst p):=Z.fr D _ ao aJ;cases b with
  |false=>
   rw[Tk SU]at av⊢;obtain⟨ax,a5⟩:=aP.f_ S Z F;exact⟨f.length-(i+1),by lia,N,p,O,Y,rfl,P,ax,X.trans a5,cR,a3 F,S,by lia,aN.mono F.s,av⟩
  |true=>
   rw[SL rfl]at av⊢;refine bY Y _ av C A N bT aO _ Z λcS v cX cY c7 ax a5 c9=>?_;have ay:=F.trans a5;have da:cY D=some (.lst p):=ax.fr D _ ao aJ;obtain⟨dd,tb⟩:=aP.f_ S ax ay;refine⟨p,da,by lia,f.length-(i+1),by lia,cX,p++[v],O++[cS],Y,rfl,P,dd.gb af (a3 ay) (λj m=>aJ (S j D m)) _,X.trans tb,dL,a3 ay,S,by rw[Sz,Tp];lia,(aN.mono ay.s).append (.cons c9 .nil),?_⟩;simpa[SY]using c7
 have di:i=f.length:=by lia
 subst di;rw[Uy]at au;obtain⟨Z,F⟩:=aa.after bG aM.toWd X;refine .inl ⟨cD (SF _),q _ D p aj bK (by simpa[hs]using au) Z (b0.trans F) b6 bM ao aN bq⟩
def p'(X:aT)(G:ZV)(l:dJ):Prop:=∃t,l4 X G t/\ig X.K t l
theorem ij:p' X [] i7:=⟨_,Qa,λa k h R W B H b Q e q=>q true B H h e (bx.refl _ _)⟩
theorem G'{c:Wp}{l:dJ}(h:hZ X c l):p' X [c] l:=by
 obtain⟨_,a,b⟩:=h;exact⟨_,Qb a,b⟩
theorem Ha{M:Wp}{f:Type}{Xs:f->aT}(g:∀a,(Xs a).K=K)(h:∀a,br (Xs a) M u):∃t,(∀a,bQ (Xs a) M t)/\fy K t u:=by
 refine⟨λb H Q=>∀a,∃t,bQ (Xs a) M t/\fy K t u/\t b H Q,λa i s b H Q I q=>?_,λj k q R W B H b Q e z a=>?_⟩
 ·obtain⟨t,c,_,l⟩:=q a;exact c i s b H Q I l
 obtain⟨t,c,d⟩:=h a;rw[g a]at d;exact⟨t,c,d,d j k q R W B H b Q e z⟩
theorem uB{G:ZV}{l:dJ}{f:Type}{Xs:f->aT}(g:∀a,(Xs a).K=K)(h:∀a,p' (Xs a) G l):∃t,(∀a,l4 (Xs a) G t)/\ig K t l:=by
 refine⟨λb H Q=>∀a,∃t,l4 (Xs a) G t/\ig K t l/\t b H Q,λa i s b H Q I q=>?_,λj k q R W B H b Q e z a=>?_⟩
 ·obtain⟨t,c,_,m⟩:=q a;exact c i s b H Q I m
 obtain⟨t,c,d⟩:=h a;rw[g a]at d;exact⟨t,c,d,d j k q R W B H b Q e z⟩
theorem uC{L:Wp}{E:eU}{g:Type}{Xs:g->aT}(i:∀a,(Xs a).K=K)(h:∀a,j3 (Xs a) L E):∃t,(∀a,jf (Xs a) L t)/\oT K t E:=by
 refine⟨λv b H Q=>∀a,∃t,jf (Xs a) L t/\oT K t E/\t v b H Q,λa j s b H v x Q I r q=>?_,λd l k q R W B H b v Q e r z a=>?_⟩
 ·obtain⟨t,c,_,m⟩:=q a;exact c j s b H v x Q I r m
 obtain⟨t,c,f⟩:=h a;rw[i a]at f;exact⟨t,c,f,f d l k q R W B H b v Q e r z⟩
variable{M P L:Wp}{G:ZV}{f:XW}{A:List (Str×TE)}{ts fr:ZS}{js:ZO}{E:eU}{l:dJ}
theorem kN(c:mE X L P w)(d:∀C s H b,j3 (d7 X (ts++fr) f A C s H b) L E)(e:∀C s H b,p' (d7 X (ts++fr) f A C s H b) G l)(g:∀C s H b,br (d7 X (ts++fr) f A C s H b) M u)(F:oX X f A fr js)(h:js.Nodup:=by decide)(i:X.calm=true:=by rfl)(j:∀v,WF P X.env v=pure v:=by intro _;rfl):j2 X (.ListComp M [⟨L,P,G,0⟩] f S) (uy w E l u ts.length js):=by
 obtain⟨_,k,m⟩:=c;obtain⟨x,n,o⟩:=uC (K:=X.K) (Xs:=λa:TE×Tl×ak×ZU=>d7 X (ts++fr) f A a.1 a.2.1 a.2.2.1 a.2.2.2) (λ_=>rfl) λa=>d a.1 a.2.1 a.2.2.1 a.2.2.2;obtain⟨y,p,q⟩:=uB (K:=X.K) (Xs:=λa:TE×Tl×ak×ZU=>d7 X (ts++fr) f A a.1 a.2.1 a.2.2.1 a.2.2.2) (λ_=>rfl) λa=>e a.1 a.2.1 a.2.2.1 a.2.2.2;obtain⟨z,r,t⟩:=Ha (K:=X.K) (Xs:=λa:TE×Tl×ak×ZU=>d7 X (ts++fr) f A a.1 a.2.1 a.2.2.1 a.2.2.2) (λ_=>rfl) λa=>g a.1 a.2.1 a.2.2.1 a.2.2.2;exact⟨_,G6 k (λC s H b=>n (C,s,H,b)) (λC s H b=>p (C,s,H,b)) (λC s H b=>r (C,s,H,b)) F i j,G9 m o q t h⟩
theorem uF{i:Nat}{y:Str}{c d:Pos}(g:X.N.Nodup)(k:X.N[i]?=some y)(m:X.env.scope.names.lookup y=some .local)(n:mE X L P w)(o:∀C s H b,j3 (d7 X (ts++fr) f A C s H b) L E)(p:∀C s H b,p' (d7 X (ts++fr) f A C s H b) G l)(q:∀C s H b,br (d7 X (ts++fr) f A C s H b) M u)(F:oX X f A fr js)(r:js.Nodup:=by decide)(t:X.calm=true:=by rfl)(x:∀v,WF P X.env v=pure v:=by intro _;rfl)(z:XA (.ListComp M [⟨L,P,G,0⟩] f S) (some (.Name y c)) d.line X.env=pure true:=by rfl):
  eV X (.Assign [.Name y c] (.ListComp M [⟨L,P,G,0⟩] f S) d) (GA i (uy w E l u ts.length js)):=by
 obtain⟨_,I,J⟩:=n;obtain⟨aD,O,Q⟩:=uC (K:=X.K) (Xs:=λa:TE×Tl×ak×ZU=>d7 X (ts++fr) f A a.1 a.2.1 a.2.2.1 a.2.2.2) (λ_=>rfl) λa=>o a.1 a.2.1 a.2.2.1 a.2.2.2;obtain⟨aE,T,Y⟩:=uB (K:=X.K) (Xs:=λa:TE×Tl×ak×ZU=>d7 X (ts++fr) f A a.1 a.2.1 a.2.2.1 a.2.2.2) (λ_=>rfl) λa=>p a.1 a.2.1 a.2.2.1 a.2.2.2;obtain⟨aH,Z,h1⟩:=Ha (K:=X.K) (Xs:=λa:TE×Tl×ak×ZU=>d7 X (ts++fr) f A a.1 a.2.1 a.2.2.1 a.2.2.2) (λ_=>rfl) λa=>q a.1 a.2.1 a.2.2.1 a.2.2.2;refine⟨_,QM g k m I (λC s H b=>O (C,s,H,b)) (λC s H b=>T (C,s,H,b)) (λC s H b=>Z (C,s,H,b)) F t x z,λU aa h R W B H ae D e s=>?_⟩;exact G9 J Q Y h1 r aa _ h R W B H ae _ e λaI a aJ af ai aj ao ar au aw ax ay az=>s.nx _ _ af ai aj (ao.h5 i au aw ax ay λj _=>az j) ar
theorem uG{st:XD}{s:cB}(i:Nat)(h:eV X st s):eV X st (λU b=>s {U with nx:=λc=>∃d:ZK,c[i]?=some (.own d)/\U.nx (c.set i (.val (.lst d)))} b):=by
 obtain⟨_,f,j⟩:=h;refine⟨_,f,λU b h R W B H k D e a=>?_⟩;refine j _ b h R W B H k D e ⟨λc l t m z n g=>?_,a.bk,a.ct,a.rt⟩;obtain⟨d,o,z⟩:=z;obtain⟨p,q,r⟩:=n.fz o;exact a.nx _ l p m z q (g.trans r)
end
theorem qa{b:Type}{f:b->D}{s:cB}{U:hD}{m:Nat}(I:List b->ZI->Prop):∀{rs done:List b}{a:ZI},I done a->
  (∀(pre:List b)(r:b)(c:List b) a,done++rs=pre++r::c->I pre a->∀N:ZI->Prop,(∀g,I (pre++[r]) g->N g)->s {U with nx:=N,ct:=N,bk:=U.nx} (a.set m (.val (f r))))->(∀a,I (done++rs) a->U.nx a)->j7 (fp m) s U (rs.map f) a
 |[],done,a,h,_,d=>d a (by rw[SR];exact h)
 |r::rs,done,a,h,i,d=>by
  refine i done r rs a rfl h _ λg j=>?_;have e:done++r::rs=(done++[r])++rs:=by simp
  rw[e]at i d;exact qa I j i d
theorem Hc{s:cB}{U:hD}{m:Nat}(I:Nat->ZI->Prop):∀{n i:Nat}{a:ZI},I i a->(∀(j:Nat) a,i<=j->j<i+n->I j a->∀N:ZI->Prop,(∀r,I (j+1) r->N r)->s {U with nx:=N,ct:=N,bk:=U.nx} (a.set m (.val (.int j))))->
  (∀a,I (i+n) a->U.nx a)->j7 (fp m) s U ((V0 i n).map λj:Nat=>D.int j) a
 |0,i,a,b,_,c=>c a b
 |n+1,i,a,b,d,c=>by
  show j7 (fp m) s U (D.int i::(V0 (i+1) n).map λj:Nat=>D.int j) a
  refine d i a (SF _) (by lia) b _ λr e=>?_;exact Hc I e (λj a l f=>d j a (by lia) (by lia)) λa h=>c a (by rw[show i+(n+1)=i+1+n by lia];exact h)
theorem B6{s:cB}{U:hD}{m n:Nat}{a:ZI}(I:Nat->ZI->Prop)(b:I 0 a)(c:∀(j:Nat) a,j<n->I j a->∀N:ZI->Prop,(∀r,I (j+1) r->N r)->s {U with nx:=N,ct:=N,bk:=U.nx} (a.set m (.val (.int j))))(d:∀a,I n a->U.nx a):j7 (fp m) s U ((S7 n).map λj:Nat=>D.int j) a:=by
 rw[WM];exact Hc I b (λj a _ g=>c j a (by lia)) λa h=>d a (by rwa[T4]at h)
theorem mW{c:Type}{f h:c->D}{u:bd}{fs:ZI}:∀{rs:List c}{a:aA}{k:ZK->Prop},(∀r∈rs,∀k:D->Prop,k (h r)->u (.val (f r)::fs) k)->k (rs.map h)->hs (fp 0) i7 u (rs.map f) (a::fs) k
 |[],a,k,_,b=>b
 |r::rs,a,k,d,b=>by
  show(if true=true then u (.val (f r)::fs) λy=>hs (fp 0) i7 u (rs.map f) (.val (f r)::fs) λe=>k (y::e)else hs (fp 0) i7 u (rs.map f) (.val (f r)::fs) k)
  rw[SL rfl];exact d r Sw _ (mW (λq g=>d q (SA _ g)) b)
theorem rr{b c:Type}{f:b->c}{a:List b}{i:Int}{r:b}(h:eB a i=some r):eB (a.map f) i=some (f r):=by
 unfold eB at h⊢;rw[Sv];cases q:jg a.length i with
 |none=>rw[q]at h;cases h
 |some j=>
  rw[q]at h;show(a.map f)[j]?=_
  rw[SP,show a[j]?=some r from h];rfl
theorem B7{b:Type}{a:List b}{i:Nat}(h:i<a.length):eB a (i:Int)=some a[i]:=by
 unfold eB jg;rw[SL (by lia),SL (by lia)];show a[((i:Int)).toNat]?=_
 rw[show((i:Int)).toNat=i by lia,S0 h]
theorem QT{a:Type}{rs:List a}{i:Nat}(h:i<rs.length):eB rs (-1-(i:Int))=some (rs[rs.length-1-i]'(by lia)):=by
 unfold eB jg;rw[Tk (by lia),SL (by lia)];show rs[(-1-(i:Int)+(rs.length:Nat)).toNat]?=_
 rw[show(-1-(i:Int)+(rs.length:Nat)).toNat=rs.length-1-i by lia,S0 (by lia)]
theorem QU{a:Type}{xs:List a}{i:Int}(d:0<=i)(e:i<=xs.length):i3 xs (some i) none=xs.drop i.toNat:=by
 unfold i3
 have b:HT.sIx xs.length 0 (some i)=i.toNat:=by
  unfold HT.sIx
  first|lia|(simp only[];split<;>lia)|(split<;>lia)|(dsimp only;split<;>(try split)<;>lia)
 have c:HT.sIx xs.length xs.length none=xs.length:=rfl;rw[b,c];exact Vn (by rw[UI];lia)
theorem QV{a:Type}{xs:List a}{i:Int}(d:0<=i)(e:i<=xs.length):i3 xs none (some i)=xs.take i.toNat:=by
 unfold i3
 have b:HT.sIx xs.length xs.length (some i)=i.toNat:=by
  unfold HT.sIx
  first|lia|(simp only[];split<;>lia)|(split<;>lia)|(dsimp only;split<;>(try split)<;>lia)
 have c:HT.sIx xs.length 0 none=0:=rfl;rw[b,c];rfl
section
variable{K:Su}{R:ak}{W:TE->Prop}{B c H d:ak}{f:St}{j:ZI}
theorem aL.ma{k:TE->Prop}(e:aL K R W B H f j)(p:∀a,k a->R a=none/\∀i,¬cg f j i a)(t:Wd H k c d)(g:bx H B c):aL K R W c d f j/\bx R B c:=by
 have v:∀a,B a=none->H a≠none->c a=none:=λa l u=>by
  cases q:c a with
  |none=>rfl
  |some o=>
   rcases g.n a o q with z|z
   ·rw[l]at z;cases z
   exact absurd z u
 have st:∀a,¬k a->H a≠none->d a=H a:=λa l u=>by
  cases q:H a with
  |none=>exact absurd q u
  |some o=>exact t.fr a o q l
 have w:∀a,¬k a->fX H a->fX d a:=λa l ⟨x,y,r,q⟩=>⟨x,y,by rw[st a l (by rw[r];simp)];exact r,q⟩;have C:∀a,fX H a->H a≠none:=λa ⟨x,y,r,_⟩=>by rw[r];simp
 have E:∀a,W a->¬k a:=λa h z=>e.wr a h (p a z).1;refine⟨e.move ⟨λa o h F=>?_,t.bh,λa h=>v a (e.wb a h) (C a (e.wh a h)),λa h=>w a (E a h) (e.wh a h),e.wr⟩ g.s (λi a m=>⟨v a (e.eP m).1 (e.eP m).2,λz=>?_,λz=>?_⟩),⟨g.s,λa o h=>?_⟩⟩
 ·refine t.fr a o (e.fr a o h F) λz=>?_;rw[(p a z).1]at h;cases h
 ·obtain⟨b,A,_,_,G⟩:=e.eQ z;rw[oS m z]at A;cases A;exact w _ (λq=>(p _ q).2 i m) G
 ·exact st a (λq=>(p a q).2 i m) (e.eP m).2
 rcases g.n a o h with z|z
 ·exact .inl z
 exact .inr (e.toWd.fresh z).1
end
section
variable{X:aT}{e:Wp}{u:bd}{b p:Pos}
def QW(u:bd):bd:=λc k=>u c λx=>∃a,x=.lst a/\(∀d∈a,d=.bl true)/\k (.bl true)
theorem xu(c:br X e u)(l:X.calm=true)(m:eG X "all")(n:X.mg "all"=none)(i:eN X e []:=by rfl):br X (.Call (.Name "all" p) [e] [] b) (QW u):=by
 obtain⟨_,o,r⟩:=c;refine⟨_,q1 (O1 l) m n (by decide +kernel) (d8 o fa i) (by decide) (by decide) i,w2 (f:=λx k=>∃g,x=.lst g/\(∀d∈g,d=.bl true)/\k (.bl true)) r λx k h R W B H I J v Q e s q=>?_⟩;obtain⟨g,rfl,t,w⟩:=h;obtain⟨a,z,rfl,c,A⟩:=s.fk;refine⟨a,z,rfl,e.bh _ _ c,λy C=>?_,q _ _ B H w e (bx.refl _ _) (.bl _)⟩;obtain⟨j,E⟩:=U3 C;obtain⟨d,F,G⟩:=A.fK E;have:=t d (S' F);subst this;exact G.kv
end
section
variable{X:aT}{e:Wp}{u:bd}{c p:Pos}
def QX(i:Nat)(u:bd):cB:=λU a=>∃b:ZK,a[i]?=some (.own b)/\u a λd=>∃f,d=.lst f/\b.length+f.length<=TI/\U.nx (a.set i (.own (b++f)))
theorem QY(i:Nat){x:Str}{g j f:Pos}(r:br X e u)(t:gV X i x:=by rfl)(w:gh X.env.scope x:=by walk_at"v")(y:ec x:=by decide)(A:gO x:=by decide)(C:iq X (.Name x g) "extend":=by rfl)(E:lQ X f [e]:=by rfl)(F:iS j f:=by rfl)(n:eN X e []:=by rfl)(G:hy X f []:=by rfl)(I:XA (.Call (.Attribute (.Name x g) "extend" j) [e] [] f) none c.line X.env=pure false:=by rfl):eV X (.Expr (.Call (.Attribute (.Name x g) "extend" j) [e] [] f) c) (QX i u):=by
 obtain⟨_,J,K⟩:=r;refine⟨_,pN (sC T3 WN WO OG (gZ t w y A) (d8 J fa n) C E F n G) I,λU L h R W B H M D e s=>?_⟩;obtain⟨ai,k,h⟩:=h;obtain⟨a,N,l,hc,aj,O,au⟩:=e.ownAt k;refine⟨_,l,.inl ⟨rfl,N,cE.of O⟩,?_⟩;refine K L _ h R W B H M _ e λd v P aw Q m S T=>?_;obtain⟨ay,Y,o,az,aG,Z,p⟩:=m.ownAt k;rw[l]at o;cases o;obtain⟨aH,rfl,aa,z⟩:=Q;obtain⟨b,hi,rfl,af,q⟩:=T.fk;exact⟨a,b,Y,hi,rfl,rfl,Z,m.bh _ _ af,by rw[p.length,q.length];exact aa,s.nx _ _ P _ z (m.write l k (p.append q)) S⟩
end
section
def dR(r:Int×Int):D:=.tup [.int r.1,.int r.2]
noncomputable def aR(p:Int×Int×Int):D:=.tup [.int p.1,.int p.2.1,.int p.2.2]
noncomputable def uH(t b:Int):Int:=if b<0 then -((Ss t b:Nat):Int)else((Ss t b:Nat):Int)
def d1(t b:Int):Int×Int:=(t.fdiv (uH t b),b.fdiv (uH t b))
theorem kb{t b:Int}(a:b≠0):a8 (d1 t b).1 (d1 t b).2/\(d1 t b).1*b=t*(d1 t b).2/\(d1 t b).1.natAbs<=t.natAbs/\(d1 t b).2.natAbs<=b.natAbs:=by
 unfold d1 uH;split
 ·exact Gh a rfl (.inr ⟨rfl,by assumption⟩)
 exact Gh a rfl (.inl ⟨rfl,by lia⟩)
noncomputable def g3(a b n:Int):Int:=((Ss (Ss a n:Nat) b:Nat):Int)
def lr(a b n:Int):Int:=if n<0 then -g3 a b n else g3 a b n
def cl(a b n:Int):Int×Int×Int:=(a.fdiv (lr a b n),b.fdiv (lr a b n),n.fdiv (lr a b n))
theorem kc{a b n:Int}(c:n≠0):mA (cl a b n).1 (cl a b n).2.1 (cl a b n).2.2/\(cl a b n).1*n=a*(cl a b n).2.2/\(cl a b n).2.1*n=b*(cl a b n).2.2/\(cl a b n).1.natAbs<=a.natAbs/\(cl a b n).2.1.natAbs<=b.natAbs/\(cl a b n).2.2.natAbs<=n.natAbs:=by
 unfold cl lr;split
 ·exact Gl c rfl (.inr ⟨rfl,by assumption⟩)
 exact Gl c rfl (.inl ⟨rfl,by lia⟩)
theorem QZ(a b n:Int):((Ss (Ss a b:Nat) n:Nat):Int)=g3 a b n:=by
 unfold g3;rw[wT];rfl
theorem Q0(a b n:Int):((Ss (Ss n a:Nat) b:Nat):Int)=g3 a b n:=by
 unfold g3;rw[O2]
theorem Hd{a b n:Int}(c:n≠0):0<g3 a b n:=Gj c
theorem He{a b n:Int}{k:Nat}(c:n≠0)(h:SB n<=k):SB (g3 a b n)<=k:=O3 c h
theorem o2{a b:Int}{k:Nat}(c:b≠0)(h:SB b<=k):SB ((Ss a b:Nat):Int)<=k:=by
 refine Y1 ?_ h;exact VV (by lia) (by simpa using TK.mpr (U1 a b))
theorem Q1{x:Int}(a : -(10^30)<x)(b:x<10^30):SB x<=100:=by
 refine intBits_le_iff.mpr ?_;have c:(10:Int)^30=1000000000000000000000000000000:=rfl;have d:(2:Nat)^100=1267650600228229401496703205376:=rfl;rw[c]at a b;rw[d];lia
theorem jo{a s x:Int}(h:a=s*x)(b:s≠0):a.fdiv s=x:=by rw[h];exact UL x b
theorem Q4{a b s x y:Int}(c:a=s*x)(d:b=s*y):Ss a b=s.natAbs*Ss x y:=by rw[c,d,VO]
theorem xv{p q:Int×Int×Int}(h:aR p=aR q):p=q:=by
 obtain⟨a,b,c⟩:=p;obtain⟨d,e,f⟩:=q;unfold aR at h;cases h;rfl
theorem Q5{a b c d:Int}(f:b≠0)(g:d≠0)(h:a*d=c*b):d1 a b=d1 c d:=by
 obtain⟨i,k,_⟩:=kb (t:=a) f;obtain⟨j,l,_⟩:=kb (t:=c) g
 have e:(d1 a b).1*(d1 c d).2=(d1 c d).1*(d1 a b).2:=by
  refine TB (S1 f g) ?_;grind
 obtain⟨x,y⟩:=Be i j e;exact TF x y
theorem Q6{x y:Int}(h:a8 x y):d1 x y=(x,y):=by
 obtain⟨l,e,_⟩:=kb (t:=x) (Sy h.1);obtain⟨a,b⟩:=Be l h e;exact TF a b
abbrev ab:=Int×Int×Int
abbrev ZJ:=List ab
abbrev Z0:=List ZJ
noncomputable def a_(p q:ab):ab:=(p.2.1*q.2.2-p.2.2*q.2.1,p.2.2*q.1-p.1*q.2.2,p.1*q.2.1-p.2.1*q.1)
def sc(c:Int)(p:ab):ab:=(c*p.1,c*p.2.1,c*p.2.2)
noncomputable def gA(a:Int)(p:ab)(b:Int)(q:ab):ab:=(a*p.1+b*q.1,a*p.2.1+b*q.2.1,a*p.2.2+b*q.2.2)
def nP(p:ab):ab:=cl p.1 p.2.1 p.2.2
theorem fh{p q:ab}(a:p.1=q.1)(b:p.2.1=q.2.1)(c:p.2.2=q.2.2):p=q:=TF a (TF b c)
variable{P:WP}{w:Xy}{K:Su}{mg:Str->Option SC}{base:XE}
theorem B9{c d:Int}{p q:ab}(h:sc c p=sc d q):c*p.1=d*q.1/\c*p.2.1=d*q.2.1/\c*p.2.2=d*q.2.2:=
 ⟨TW (·.1) h,TW (·.2.1) h,TW (·.2.2) h⟩
theorem B'(c d:Int)(p q:ab):a_ (sc c p) (sc d q)=sc (c*d) (a_ p q):=by
 refine fh ?_ ?_ ?_<;>simp only[a_,sc]<;>grind
theorem Hf(c d:Int)(p:ab):sc c (sc d p)=sc (c*d) p:=by
 refine fh ?_ ?_ ?_<;>simp only[sc]<;>grind
theorem kd{p:ab}(c:p.2.2≠0):∃g,g≠0/\p=sc g (nP p):=by
 obtain⟨d,e,f,_⟩:=kc (a:=p.1) (b:=p.2.1) c;have h:(nP p).2.2≠0:=Sy d.1;obtain⟨g,i⟩:=Bg d.2 e f;have j:g≠0:=λz=>c (by rw[i,z,SV]);refine⟨g,j,fh ?_ ?_ ?_⟩
 ·refine TB h ?_;show p.1*(cl p.1 p.2.1 p.2.2).2.2=g*(cl p.1 p.2.1 p.2.2).1*(cl p.1 p.2.1 p.2.2).2.2
  rw[<-e];grind
 ·refine TB h ?_;show p.2.1*(cl p.1 p.2.1 p.2.2).2.2=g*(cl p.1 p.2.1 p.2.2).2.1*(cl p.1 p.2.1 p.2.2).2.2
  rw[<-f];grind
 show p.2.2=g*(cl p.1 p.2.1 p.2.2).2.2
 rw[S4];exact i
abbrev aW(p:ab):Prop:=mA p.1 p.2.1 p.2.2
theorem gK{p:ab}(a:p.2.2≠0):aW (nP p):=(kc a).1
theorem ru{M h:ab}{G c:Int}(g:G≠0)(f:c≠0)(i:aW h)(e:sc G M=sc c h):M.2.2≠0/\nP M=h:=by
 obtain⟨p,q,j⟩:=B9 e;have k:h.2.2≠0:=Sy i.1
 have d:M.2.2≠0:=λz=>by
  rw[z,SV]at j;exact S1 f k j.symm
 refine⟨d,?_⟩;obtain⟨l,r,s,_⟩:=kc (a:=M.1) (b:=M.2.1) d;have t:M.1*h.2.2=h.1*M.2.2:=Uq (S1 g f) (by grind);have u:M.2.1*h.2.2=h.2.1*M.2.2:=Uq (S1 g f) (by grind);obtain⟨m,n,o⟩:=wU l i (TB d (by grind)) (TB d (by grind));exact fh m n o
theorem Hh{h:ab}(a:aW h):nP h=h:=(ru (M:=h) (h:=h) (G:=1) (c:=1) (by decide) (by decide) a rfl).2
structure cH(m:Nat)(p:ab):Prop where
 a:SB p.1<=m
 b:SB p.2.1<=m
 c:SB p.2.2<=m
theorem cH.mono{m n:Nat}{p:ab}(h:cH m p)(l:m<=n):cH n p:=⟨Sx h.a l,Sx h.b l,Sx h.c l⟩
theorem cH.nP{m:Nat}{p:ab}(h:cH m p)(d:p.2.2≠0):cH m (L3.nP p):=by
 obtain⟨_,_,_,e,f,g⟩:=kc (a:=p.1) (b:=p.2.1) d;exact⟨fW e h.a,fW f h.b,fW g h.c⟩
theorem cH.crs{m n:Nat}{p q:ab}(f:cH m p)(g:cH n q):cH (m+n+1) (L3.a_ p q):=by
 have e:∀{x y u v:Int},SB x<=m->SB y<=n->SB u<=m->SB v<=n->SB (x*y-u*v)<=m+n+1:=λa b c d=>Sx (Y6 (TD a b) (TD c d)) (by lia);exact⟨e f.b g.c f.c g.b,e f.c g.a f.a g.c,e f.a g.b f.b g.a⟩
end
abbrev F2:=Int×Int
def xw(x:F2):F2:=(-x.1,x.2)
def nY(r s:F2):Prop:=a8 r.1 r.2/\0<s.2/\r.1*s.2=s.1*r.2
theorem nY.uniq{r t s:F2}(h:nY r s)(g:nY t s):r=t:=by
 have a:=Sy h.2.1;have:=Be h.1 g.1 (TB a (by have:=h.2.2;have:=g.2.2;grind));exact TF this.1 this.2
theorem nY.low{c d:Int}(a:0<d):nY (d1 c d) (c,d):=by
 obtain⟨l,e,_⟩:=kb (t:=c) (b:=d) (Sy a);exact⟨l,a,e⟩
theorem nY.neg{r s:F2}(h:nY r s):nY (xw r) (xw s):=⟨⟨h.1.1,by show Ss (-r.1) r.2=1;rw[T5];exact h.1.2⟩,h.2.1,by have:=h.2.2;simp only[xw];grind⟩
theorem Q7{t b:Int}(a:0<b):d1 (-t) b=xw (d1 t b):=(nY.low a).uniq ((nY.low a).neg)
section
variable{K:Su}{R:ak}{W:TE->Prop}{B aw H H':ak}{σ:St}{ρ:ZI}
def xx:aA->aA
 |.own (.l a)=>.val (.lst a)
 |.own (.d b _ c a)=>.val (.dct b c a)
 |.deep _=>.no
 |s=>s
def gL(W:TE->Prop)(σ:St)(ρ:ZI)(a:TE):Prop:=W a\/∃i:Nat,σ[i]?=some (some (.ref a))/\ρ[i]?=some .bag
def nZ(σ:St)(ρ:ZI)(a:TE):Prop:=∃(i:Nat)(b:mB),σ[i]?=some (some (.ref a))/\ρ[i]?=some (.own b)
open Classical in
noncomputable def qb(B H:ak)(σ:St)(ρ:ZI):ak:=λa=>if nZ σ ρ a then H a else B a
theorem sT{a:TE}(h:nZ σ ρ a):qb B H σ ρ a=H a:=by unfold qb;rw[SL h]
theorem sU{a:TE}(h:¬nZ σ ρ a):qb B H σ ρ a=B a:=by unfold qb;rw[Tk h]
theorem aL.hx(e:aL K R W B H σ ρ){a:TE}(h:gL W σ ρ a):B a=none/\fX H a:=by
 rcases h with h|⟨i,d,f⟩
 ·exact⟨e.wb a h,e.wh a h⟩
 obtain⟨b,c,_,g,j⟩:=e.eQ f;rw[d]at c;cases c;exact⟨g,j⟩
theorem aL.gT(e:aL K R W B H σ ρ){a:TE}(h:nZ σ ρ a):R a=none/\B a=none/\H a≠none/\¬gL W σ ρ a:=by
 obtain⟨i,l,f,c⟩:=h;obtain⟨b,g,k,m,n⟩:=e.fJ c;rw[f]at g;cases g;refine⟨k,m,n.ne,λz=>?_⟩;rcases z with z|⟨j,o,d⟩
 ·exact e.wr a z k
 have:=e.sep i j a (.inl ⟨f,.inr ⟨l,c⟩⟩) (.inl ⟨o,.inl d⟩);subst this;rw[c]at d;cases d
theorem aL.ki(e:aL K R W B H σ ρ){i:Nat}{c:e4}(h:ρ[i]?=some (.deep c)){a:TE}(m:a∈c.adr::c.ins):¬gL W σ ρ a:=λz=>by
 rcases z with z|⟨j,d,b⟩
 ·exact e.wr a z ((e.eJ h).2.fr a m).1
 have:=e.sep i j a (.inr ⟨c,h,m⟩) (.inl ⟨d,.inl b⟩);subst this;rw[h]at b;cases b
theorem aL.fl(e:aL K R W B H σ ρ):cj B (qb B H σ ρ):=λa o h=>by
 by_cases z:nZ σ ρ a
 ·rw[(e.gT z).2.1]at h;cases h
 rw[sU z];exact h
theorem aL.frame(e:aL K R W B H σ ρ):aL K H (gL W σ ρ) (qb B H σ ρ) H σ (ρ.map xx):=by
 have u:∀a,gL W σ ρ a->qb B H σ ρ a=none:=λa h=>by
  by_cases z:nZ σ ρ a
  ·exact absurd h (e.gT z).2.2.2
  rw[sU z];exact(e.hx h).1
 refine⟨⟨λ_ _ z _=>z,λa o h=>?_,u,λa h=>(e.hx h).2,λa h=>?_⟩,by rw[Sv];exact e.len,λi k h=>?_,λi j a I J=>?_⟩
 ·by_cases z:nZ σ ρ a
  ·rwa[sT z]at h
  rw[sU z]at h;exact e.bh a o h
 ·obtain⟨x,y,q,_⟩:=(e.hx h).2;rw[q];simp
 ·rw[SP]at h;cases q:ρ[i]? with
  |none=>rw[q]at h;cases h
  |some p=>
   rw[q]at h;have h:=SN h;subst h;have z:=e.ok i _ q;cases p with
   |no=>trivial
   |new d=>
    obtain⟨v,g,f⟩:=z;refine⟨v,g,f.mono (xt e.toWd e.fl (λa o h=>?_) (λa z A=>?_) u)⟩
    ·by_cases z:nZ σ ρ a
     ·rwa[sT z]at h
     rw[sU z]at h;exact e.bh a o h
    rcases z with z|⟨i,C,E⟩
    ·exact z
    obtain⟨b,r,F,_⟩:=e.eQ E;rw[C]at r;cases r;exact F.resolve_right A
   |deep c=>trivial
   |pin v d=>
    obtain⟨g,f⟩:=z;refine⟨g,f.mono (xt e.toWd e.fl (λa o h=>?_) (λa z A=>?_) u)⟩
    ·by_cases z:nZ σ ρ a
     ·rwa[sT z]at h
     rw[sU z]at h;exact e.bh a o h
    rcases z with z|⟨i,C,E⟩
    ·exact z
    obtain⟨b,r,F,_⟩:=e.eQ E;rw[C]at r;cases r;exact F.resolve_right A
   |val d=>
    obtain⟨v,g,f⟩:=z;exact⟨v,g,f.mono e.fl⟩
   |own n=>
    obtain⟨a,g,f,L,z⟩:=z;cases n with
    |l n=>
     obtain⟨M,s,G⟩:=z;exact⟨.ref a,g,.lst (by rw[sT ⟨i,_,gu g,q⟩];exact s) (G.mono e.fl)⟩
    |d b t P n=>
     obtain⟨Q,S,M,_,s,G,N,O⟩:=z;exact⟨.ref a,g,.dct (by rw[sT ⟨i,_,gu g,q⟩];exact s) (G.mono e.fl) N (O.mono e.fl)⟩
   |bag=>
    obtain⟨b,g,f,L,s⟩:=z;have w:gL W σ ρ b:=.inr ⟨i,gu g,q⟩;exact⟨b,g,.inl w,u b w,s⟩
 have back:∀i,cg σ (ρ.map xx) i a->cg σ ρ i a:=λi m=>by
  rcases m with⟨g,f⟩|⟨c,g,_⟩
  rotate_left
  ·rw[SP]at g;cases q:ρ[i]? with
   |none=>rw[q]at g;cases g
   |some p=>
    rw[q]at g;cases p with
    |own n=>cases n<;>cases g
    |_=>cases g
  refine .inl ⟨g,?_⟩;rw[SP]at f;cases q:ρ[i]? with
  |none=>rw[q]at f;rcases f with f|⟨_,f⟩<;>cases f
  |some p=>
   rw[q]at f;cases p with
   |bag=>exact .inl rfl
   |no=>rcases f with f|⟨_,f⟩<;>cases f
   |new d=>rcases f with f|⟨_,f⟩<;>cases f
   |pin v d=>rcases f with f|⟨_,f⟩<;>cases f
   |deep d=>rcases f with f|⟨_,f⟩<;>cases f
   |val d=>rcases f with f|⟨_,f⟩<;>cases f
   |own n=>cases n<;>rcases f with f|⟨_,f⟩<;>cases f
 exact e.sep i j a (back i I) (back j J)
theorem aL.gH(e:aL K R W B H σ ρ)(l:∀a o,H a=some o->¬gL W σ ρ a->H' a=some o)(p:∀a,gL W σ ρ a->fX H' a):aL K R W B H' σ ρ:=by
 have u:∀a,R a≠none->¬W a->¬gL W σ ρ a:=λa f g z=>by
  rcases z with z|⟨i,w,x⟩
  ·exact g z
  obtain⟨b,r,j,_⟩:=e.eQ x;rw[w]at r;cases r;rcases j with j|j
  ·exact g j
  exact f j
 refine⟨⟨λa o h s=>l a o (e.fr a o h s) (u a (by rw[h];simp) s),λa o h=>l a o (e.bh a o h) λz=>?_,e.wb,λa h=>p a (.inl h),e.wr⟩,e.len,λi k h=>?_,e.sep⟩
 ·rw[(e.hx z).1]at h;cases h
 have z:=e.ok i k h;cases k with
 |no=>trivial
 |new d=>exact z
 |pin v d=>exact z
 |val d=>exact z
 |own y=>
  obtain⟨a,f,g,m,n⟩:=z;refine⟨a,f,g,m,n.mono (cj.refl _) ?_⟩;cases q:H a with
  |none=>exact absurd q n.ne
  |some o=>exact l a _ q (e.gT ⟨i,y,gu f,h⟩).2.2.2
 |deep c=>
  refine⟨z.1,z.2.fr,z.2.nd,z.2.ok.mono (cj.refl _) λa t=>?_⟩;cases q:H a with
  |none=>exact absurd q (z.2.ok.ne t)
  |some o=>exact l a _ q (e.ki h t)
 |bag=>
  obtain⟨b,f,g,m,n⟩:=z;exact⟨b,f,g,m,p b (.inr ⟨i,gu f,h⟩)⟩
theorem aL.forget(e:aL K R W B H σ ρ){g:St}{l:ZI}(o:g.length=l.length)(h:∀(i:Nat)(k:aA),l[i]?=some k->k=.no\/(ρ[i]?=some k/\g[i]?=σ[i]?)):aL K R W B H g l:=by
 have back:∀i a,cg g l i a->cg σ ρ i a:=λi a m=>by
  rcases m with⟨n,f|⟨p,f⟩⟩|⟨c,n,f⟩
  ·rcases h i _ f with z|⟨b,d⟩
   ·cases z
   exact .inl ⟨by rw[<-d];exact n,.inl b⟩
  ·rcases h i _ f with z|⟨b,d⟩
   ·cases z
   exact .inl ⟨by rw[<-d];exact n,.inr ⟨p,b⟩⟩
  rcases h i _ n with z|⟨b,d⟩
  ·cases z
  exact .inr ⟨c,b,f⟩
 refine⟨e.toWd,o,λi k q=>?_,λi j a r s=>e.sep i j a (back i a r) (back j a s)⟩;rcases h i k q with rfl|⟨b,d⟩
 ·trivial
 rw[d];exact e.ok i k b
end
section
variable{K:Su}{X:aT}{e:Wp}{E:ZV}{u:bd}{w:cJ}{G p:Pos}
mutual
def ji:D->Bool
 |.tup xs=>flats xs
 |.lst _=>false
 |.scr _=>false
 |.ktup _=>false
 |.kfn _=>false
 |.dct _ _ _=>false
 |.non=>true
 |.bl _=>true
 |.int _=>true
 |.str _=>true
 |.ty _=>true
def flats:ZK->Bool
 |[]=>true
 |x::r=>ji x&&flats r
end
theorem Ca{R B:ak}{a:TE}{b:ZL}(h:B a=some (.tup b)):dN R B a=some (.tup b):=by
 unfold dN;rw[h]
mutual
theorem bE.flat{R B:ak}:∀{v:V}{d:D},bE K B v d->ji d=true->bE K (dN R B) v d
 |_,_,.non,_=>.non
 |_,_,.bl b,_=>.bl b
 |_,_,.int i,_=>.int i
 |_,_,.str x,_=>.str x
 |_,_,.ty n,_=>.ty n
 |_,_,.tup h r,f=>.tup (Ca h) (b_.flat r f)
 |_,_,.lst h r,f=>by simp[L3.ji]at f
 |_,_,.scr h,f=>by simp[L3.ji]at f
 |_,_,.ktup h _,f=>by simp[L3.ji]at f
 |_,_,.kfn _,f=>by simp[L3.ji]at f
 |_,_,.dct _ _ _ _,f=>by simp[L3.ji]at f
theorem b_.flat{R B:ak}:∀{vs:ZL}{ds:ZK},b_ K B vs ds->flats ds=true->b_ K (dN R B) vs ds
 |_,_,.nil,_=>.nil
 |_,_,.cons h r,f=>by
  rw[flats,TQ]at f
  exact .cons (bE.flat h f.1) (b_.flat r f.2)
end
def sV(K:Su)(t:bH)(u:bd):Prop:=∀(a:ZI)(k:D->Prop),u a k->∀(R:ak)(W:TE->Prop)(B H:ak)(b:St)(Q:cr),aL K R W B H b a->
 (∀d v c f,k d->aL K R W c f b a->bx R B c->bE K (dN R c) v d->Q v f)->t b H Q
def Q8(K:Su)(t:e3)(u:cJ):Prop:=∀(a:ZI)(k:ZK->Prop),u a k->∀(R:ak)(W:TE->Prop)(B H:ak)(b:St)(Q:ZL->ak->Prop),aL K R W B H b a->
 (∀d f c g,k d->aL K R W c g b a->bx R B c->b_ K (dN R c) f d->Q f g)->t b H Q
def lu(X:aT)(e:Wp)(u:bd):Prop:=∃t,bQ X e t/\sV X.K t u
def xy(X:aT)(E:ZV)(u:cJ):Prop:=∃t,hg X E t/\Q8 X.K t u
def Hi(u:bd):bd:=λa k=>u a λd=>ji d=true/\k d
def Q9(w:cJ):bd:=λb k=>w b λa=>flats a=true/\k (.lst a)
theorem Cb(h:br X e u):lu X e (Hi u):=by
 obtain⟨_,b,c⟩:=h;refine⟨_,b,λf k h R W B H g Q e q=>?_⟩;exact c f _ h R W B H g _ e λd v i j a l m n=>q d v i j a.2 l m (n.flat a.1)
theorem Q'(h:j2 X e w):lu X e (Q9 w):=by
 obtain⟨_,f,g⟩:=h;refine⟨_,f,λi k h R W B H j Q e q=>?_⟩;refine g i _ h R W B H j _ e λu a v x y b l m c n o p r=>?_;obtain⟨t,d⟩:=l.freeze o c n r;exact q _ _ _ _ b.2 t (m.trans d) (.lst (ue dL c) ((p.mono d.s).flat b.1))
theorem Hj:xy X [] sL:=⟨_,fa,λa k h R W B H b Q e q=>q [] [] B H h e (bx.refl _ _) .nil⟩
theorem uI(f:lu X e u)(g:xy X E w)(i:eN X e E:=by rfl):xy X (e::E) (mF u w):=by
 obtain⟨_,j,l⟩:=f;obtain⟨_,m,n⟩:=g;refine⟨_,d8 j m i,λa k h R W B H b Q e q=>?_⟩;refine l a _ h R W B H b _ e λd v o p r t x y=>?_;refine n a _ r R W o p b _ t λI J z A C F c G=>?_;exact q _ _ z A C F (x.trans c) (.cons (y.mono (nT c.s)) G)
theorem Hk{g}(h:xy X E w):lu X (.Tuple E g G) (uj w):=by
 obtain⟨_,i,j⟩:=h;refine⟨_,wF i,λl k z R W B H m Q e q=>?_⟩;refine j l _ z R W B H m _ e λr n t u a b o c=>?_;refine⟨by rw[c.length];exact a.1,λp d=>?_⟩;have f:=b.grow d (.tup n);exact q _ _ _ _ a.2 (b.alloc d _) (o.trans f) (.tup (Ca dL) (c.mono (nT f.s)))
def Hl(n:Nat)(F:cb)(w:iZ):bd:=λb k=>w b λa=>sh a n=true/\F (a.map gF.sl) λr=>∃d,r=.new d/\k d
theorem Cc{n:Nat}{F:cb}{w:iZ}{x:Str}{o:ZS}{j g:Nat}(c:ca X.prog X.w X.K X.mg X.base x o j (ck X.K n F))(s:ez g X.A)(t:eG X x)(u:mD X (e::E) w)(y:j<=g:=by decide)(C:ec x:=by decide)(I:eN X e E:=by rfl)(J:hy X G E:=by rfl):
  lu X (.Call (.Name x p) (e::E) [] G) (Hl n F w):=by
 obtain⟨_,L,M⟩:=u;refine⟨_,oP c s t L y C I J,λN k h R W B H O Q e q=>?_⟩;refine M N _ h R W B H O _ e λaa hi ae P i l S T=>?_;rw[SR];refine q' l T i.1 i.2 λr v m U f Y Z b=>?_;obtain⟨d,rfl,f⟩:=f;have b:bE X.K (dN P m) v d:=b;exact q d v m U f Y (S.trans Z) (b.mono (q8 λa z=>(l.toWd.fresh z).1))
def Ra(u:bd):cB:=λU a=>u a λd=>U.rt (.new d)
theorem Rb(h:lu X e u):eV X (.Return (some e) G) (Ra u):=by
 obtain⟨_,a,b⟩:=h;refine⟨_,ms a,λU c h R W B H f D e s=>?_⟩;exact b c _ h R W B H f _ e λd v g i j k l m=>s.rt (.new d) v g i j k.toWd l m
theorem Rc{bb:gP}{g:fO}{bg:ek}{bj:bH}{M:eU}{N:dJ}{G:Nat}{l:ZO}(bX:sJ K bb w)(bY:oT K g M)(bZ:ig K bg N)(b0:sV K bj u)(b5:l.Nodup):sV K (xk bb g bg bj G l) (λp k=>uy w M N u G l p λf=>k (.lst f)):=by
 intro p k h R W B H I Q e q;refine bX p _ h R W B H I _ e λf J bq X aE Y b6 b8=>?_;obtain⟨dj,aE⟩:=aE;intro D aj;obtain⟨bA,dk,b9⟩:=Y.toWd.fresh aj;have bD:∀i,¬cg I p i D:=λi m=>Y.ff aj m rfl;have ei:=Y.within G b5
 have aI:∀j a,cg (SS G none++iu I l) (SS G .no++l.map (j8 p)) j a->∃j,j∈l/\I[j]?=some (some (V.ref a))/\p[j]?=some aA.bag:=λj a m=>by
  have aJ:=(ei.eP m).2;rcases m with⟨bG,z|⟨E,z⟩⟩|⟨c,z,x1⟩
  ·obtain⟨c,Z,L,_⟩:=ei.eQ z;rw[bG]at Z;cases Z;rcases L with L|L
   ·exact L
   exact absurd L aJ
  ·obtain⟨c,Z,L,_⟩:=ei.fJ z;rw[bG]at Z;cases Z;exact absurd L aJ
  exact absurd ((ei.eJ z).2.fr a x1).1 aJ
 generalize bK:(λa=>∃j,j∈l/\I[j]?=some (some (V.ref a))/\p[j]?=some aA.bag)=t at ei;have aI:∀j a,cg (SS G none++iu I l) (SS G .no++l.map (j8 p)) j a->t a:=λj a m=>by rw[<-bK];exact aI j a m
 have bM:∀a,t a->∃i:Nat,I[i]?=some (some (.ref a))/\p[i]?=some .bag:=λa z=>by
  rw[<-bK]at z;obtain⟨j,_,z⟩:=z;exact⟨j,z⟩
 have aM:¬t D:=λz=>by
  obtain⟨cc,cn,cp⟩:=bM D z;exact bD cc (.inl ⟨cn,.inl cp⟩)
 refine⟨λi m ao A=>∃au C E aa,m=f.length-i/\i<=f.length/\aL K X t au A ao aa/\bx X bq au/\A D=some (.lst C)/\au D=none/\(∀j a,cg ao aa j a->t a)/\C.length<=i/\b_ K (dN X au) C E/\hs M N u (f.drop i) aa λr=>k (.lst (E++r)),
  ⟨f.length,bq,[],[],_,by simp,Td _,ei.e8 aj _,bx.refl _ _,dL,b9,aI,SF _,.nil,by simpa using aE⟩,?_⟩
 rintro i m ao bS ⟨aN,C,E,aa,rfl,dm,av,af,ax,bT,cw,dn,aO,ay⟩;obtain⟨cD,k',cF⟩:=b8 bS (af.s.trans av.bh) i;by_cases P:i<f.length
 ·refine .inr ⟨cD P,λx A y=>?_⟩;obtain⟨rfl,d,bU,cK⟩:=cF x A P y
  have cL:f.drop i=d::f.drop (i+1):=by
   rw[Up P];rw[S0 P]at bU;rw[SN bU]
  rw[cL]at ay;refine bY d aa _ ay X t aN A ao x _ av (cK.mono af.s) λai aP cO a3 cQ=>?_;have S:∀j a,cg aP ai j a->t a:=λj a m=>cw j a (cQ j a m)
  have a5:∀{O:ak},bx A aN O->O D=none:=λ{O} F=>by
   cases cR:O D with
   |none=>rfl
   |some o=>
    rcases F.n D o cR with z|z
    ·rw[bT]at z;cases z
    rw[ax]at z;cases z
  refine bZ ai _ cO A t aN A aP _ (a3.rebase S) λb O bV az hc F=>?_;have cS:bV D=some (.lst C):=hc.fr D _ ax aM;cases b with
  |false=>
   rw[Tk SU]at az⊢;obtain⟨T,U⟩:=a3.f_ S hc F;exact⟨f.length-(i+1),by lia,O,C,E,ai,rfl,P,T,af.trans U,cS,a5 F,S,by lia,aO.mono (nT F.s),az⟩
  |true=>
   rw[SL rfl]at az⊢;refine b0 ai _ az A t O bV aP _ hc λcX v cY c7 c9 T U a6=>?_;have aD:=F.trans U;have da:c7 D=some (.lst C):=T.fr D _ ax aM;obtain⟨dd,tb⟩:=a3.f_ S T aD;have a6:=a6.mono (q8 (R:=X) λa z=>(av.toWd.fresh z).1);refine⟨C,da,by lia,f.length-(i+1),by lia,cY,C++[v],E++[cX],ai,rfl,P,dd.gb aj (a5 aD) (λj m=>aM (S j D m)) _,af.trans tb,dL,a5 aD,S,by rw[Sz,Tp];lia,(aO.mono (nT aD.s)).append (.cons a6 .nil),?_⟩;simpa[SY]using c9
 have di:i=f.length:=by lia
 subst di;rw[Uy]at ay;obtain⟨hc,F⟩:=Y.after bM av.toWd af;obtain⟨T,U⟩:=hc.freeze ax bA bT bD;refine .inl ⟨k' (SF _),q _ (.ref D) _ bS (by simpa[hs]using ay) T ((b6.trans F).trans U) (.lst (ue dL bA) ?_)⟩;exact(aO.mono (q8 λa z=>(Y.toWd.fresh z).1)).mono (nT U.s)
theorem Hm{O:Wp}{f:Type}{Xs:f->aT}(g:∀a,(Xs a).K=K)(h:∀a,lu (Xs a) O u):∃t,(∀a,bQ (Xs a) O t)/\sV K t u:=by
 refine⟨λb H Q=>∀a,∃t,bQ (Xs a) O t/\sV K t u/\t b H Q,λa i s b H Q I q=>?_,λj k q R W B H b Q e z a=>?_⟩
 ·obtain⟨t,c,_,l⟩:=q a;exact c i s b H Q I l
 obtain⟨t,c,d⟩:=h a;rw[g a]at d;exact⟨t,c,d,d j k q R W B H b Q e z⟩
variable{O P S:Wp}{T:ZV}{l:XW}{L:List (Str×TE)}{ts fr:ZS}{js:ZO}{M:eU}{N:dJ}
def Re(w:cJ):bd:=λa k=>w a λb=>k (.lst b)
theorem Rf(c:mE X S P w)(d:∀C s H b,j3 (d7 X (ts++fr) l L C s H b) S M)(e:∀C s H b,p' (d7 X (ts++fr) l L C s H b) T N)(f:∀C s H b,lu (d7 X (ts++fr) l L C s H b) O u)(F:oX X l L fr js)(g:js.Nodup:=by decide)(h:X.calm=true:=by rfl)(i:∀v,WF P X.env v=pure v:=by intro _;rfl):lu X (.ListComp O [⟨S,P,T,0⟩] l G) (Re (uy w M N u ts.length js)):=by
 obtain⟨_,j,k⟩:=c;obtain⟨t,m,n⟩:=uC (K:=X.K) (Xs:=λa:TE×Tl×ak×ZU=>d7 X (ts++fr) l L a.1 a.2.1 a.2.2.1 a.2.2.2) (λ_=>rfl) λa=>d a.1 a.2.1 a.2.2.1 a.2.2.2;obtain⟨x,o,p⟩:=uB (K:=X.K) (Xs:=λa:TE×Tl×ak×ZU=>d7 X (ts++fr) l L a.1 a.2.1 a.2.2.1 a.2.2.2) (λ_=>rfl) λa=>e a.1 a.2.1 a.2.2.1 a.2.2.2;obtain⟨y,q,r⟩:=Hm (K:=X.K) (Xs:=λa:TE×Tl×ak×ZU=>d7 X (ts++fr) l L a.1 a.2.1 a.2.2.1 a.2.2.2) (λ_=>rfl) λa=>f a.1 a.2.1 a.2.2.1 a.2.2.2;exact⟨_,G6 j (λC s H b=>m (C,s,H,b)) (λC s H b=>o (C,s,H,b)) (λC s H b=>q (C,s,H,b)) F h i,Rc k n p r g⟩
end
section
variable{K:Su}{X:aT}{e:Wp}{j:ZV}{u:bd}{w:cJ}{f p:Pos}{I:ZO}{i:Nat}{c:ZW}{g:hD->ZI->D->ZI->Prop}
theorem bE.jS{B:ak}{v:V}{b:ZK}(r:bE K B v (.lst b)):∃a c,v=.ref a/\B a=some (.lst c)/\b_ K B c b:=by
 cases r with|lst h r=>exact⟨_,_,rfl,h,r⟩
theorem bE.jK{B:ak}{v:V}{b:ZK}(r:bE K B v (.tup b)):∃a c,v=.ref a/\B a=some (.tup c)/\b_ K B c b:=by
 cases r with|tup h r=>exact⟨_,_,rfl,h,r⟩
theorem Rg{a:Type}{x:a}{r:List a}:eB (x::r) 0=some x:=by simp[eB,jg]
structure qc(K:Su)(W:TE->Prop)(σ:St)(ρ:ZI)(H N H':ak):Prop where
 fr:∀a o,H a=some o->¬gL W σ ρ a->H' a=some o
 wh:∀a,gL W σ ρ a->fX H' a
 tp:∀a vs,N a=some (.tup vs)->H' a=some (.tup vs)
 ls:∀a vs,N a=some (.lst vs)->∃e2,H' a=some (.lst e2)
theorem qc.clear{W:TE->Prop}{c:St}{d:ZI}{H N f:ak}(m:qc K W c d H N f)(i:∀a,gL W c d a->H a≠none){b:TE}{j:ZL}(k:N b=some (.lst j))(g:H b=none):qc K W c d H N (ed f b (.lst [])):=by
 refine⟨λa o h l=>?_,λa h=>?_,λa e h=>?_,λa e h=>?_⟩
 ·rw[bP (by rintro rfl;rw[g]at h;cases h)];exact m.fr a o h l
 ·exact(m.wh a h).upd (by rintro rfl;exact i _ h g)
 ·rw[bP (by rintro rfl;rw[k]at h;cases h)];exact m.tp a e h
 by_cases z:a=b
 ·subst z;exact⟨[],dL⟩
 rw[bP z];exact m.ls a e h
theorem qc.start{R:ak}{W:TE->Prop}{B H f g:ak}{c j:St}{d k:ZI}(e:aL K R W B H c d)(b:aL K H (gL W c d) f g j k):qc K W c d H (dN H f) g/\∀a,gL W c d a->H a≠none:=
 ⟨⟨b.fr,b.wh,λa i h=>b.bh a _ (iX a _ h),λa i h=>⟨i,b.bh a _ (iX a _ h)⟩⟩,b.wr⟩
def Cd(d:D):Prop:=∃r m,d=.tup (.lst r::m)/\flats r=true
end
section
variable{X:aT}{a b:Wp}{f l:bd}{c:Pos}
def uJ:D->Option ZK
 |.tup d=>some d
 |.lst d=>some d
 |.ktup d=>some d
 |_=>none
def Rh(K:Su):iV:=λx y H Q=>∃p d i v,x=.ref p/\y=.int i/\(fx K H p d\/cE K H p d)/\eB d i=some v/\Q v H
theorem Ri:sB X (Rh X.K):=by
 intro value a c s d H x y v u Q I e f h g;obtain⟨p,j,i,z,k,l,b,m,q⟩:=h;rcases b with b|b
 ·exact FZ value a c s d H x y v u Q I e f ⟨p,j,i,z,k,l,b,m,q⟩ g
 exact A1 value a c s d H x y v u Q I e f ⟨p,j,i,z,k,l,b,m,q⟩ g
def Rj(f l:bd):bd:=λe k=>f e λx=>l e λy=>∃g i d,uJ x=some g/\y=.int i/\eB g i=some d/\k d
theorem qe(g:br X a f)(t:br X b l)(u:q2 b):br X (.Subscript a b c) (Rj f l):=by
 obtain⟨_,w,A⟩:=g;obtain⟨_,C,E⟩:=t;refine⟨_,k7 Ri w C u,sK A E λx y k h R W B H G I v J Q e F r q=>?_⟩;obtain⟨K,i,d,p,rfl,g,s⟩:=h;cases F with
 |tup j m=>
  cases p;obtain⟨z,n,o⟩:=uk m g;exact⟨_,_,i,z,rfl,r.eX,.inl (fx.of (e.bh _ _ j)),n,q d z B H s e (bx.refl _ _) o⟩
 |lst j m=>
  cases p;obtain⟨z,n,o⟩:=uk m g;exact⟨_,_,i,z,rfl,r.eX,.inr (cE.of (e.bh _ _ j)),n,q d z B H s e (bx.refl _ _) o⟩
 |ktup j m=>
  cases p;obtain⟨z,n,o⟩:=uk m g;exact⟨_,_,i,z,rfl,r.eX,.inl (Gm e.bh j),n,q d z B H s e (bx.refl _ _) o⟩
 |_=>cases p
structure xz(K:Su)(mg:Str->Option SC)(x:Str)(ns:ZH):Prop where
 ex:∃p:TE,mg x=some (.ref p)/\∀H:ak,fx K H p (ns.map V.int)
theorem uK{x:Str}{a:ZH}(g:xz X.K X.mg x a)(b:eG X x)(d:ec x:=by decide):br X (.Name x c) (i0 (.ktup (a.map D.int))):=by
 obtain⟨p,f,i⟩:=g.ex;refine⟨_,M3 (v:=.ref p) b f rfl d,λj k h R W B H l Q e q=>?_⟩;exact q _ _ B H h e (bx.refl _ _) (.ktup (i B) (b_.ints a))
theorem Rk{K:Su}{a:Str->Option SC}{x:Str}{p:TE}{i j:Int}{b c:Tok}{d:Option TE}{e:Array (Option SC)}{n:Nat}(f:a x=some (.ref p))(g:K.lookup p=some ⟨.type "tuple",d,.seq #[.int i b,.int j c] n,e⟩):xz K a x [i,j]:=
 ⟨p,f,λH=>.inr ⟨_,_,_,g,rfl,rfl,e1,.cons ⟨_,rfl⟩ (.cons ⟨_,rfl⟩ .nil)⟩⟩
end
def Rl(h:XE):Zv:=(S7 h.objs.size).filterMap λa=>(h.get? a).map λo=>(a,o)
theorem Hn(g:Nat->Option Obj)(a:Nat):∀l:ZO,(l.filterMap λb=>(g b).map λo=>(b,o)).lookup a=if a∈l then g a else none
 |[]=>rfl
 |b::l=>by
  have c:=Hn g a l;cases q:g b with
  |none=>
   rw[WQ (by rw[q];rfl),c];by_cases e:a=b
   ·subst e;rw[q];simp
   simp[e]
  |some o=>
   rw[WR (b:=(b,o)) (by rw[q];rfl),V1];by_cases e:a=b
   ·subst e;simp[q]
   have:(a==b)=false:=by simpa using e
   simp only[this,c,SG,e,false_or]
def xA(K:Zv)(x:Str)(st:XD):Prop:=∃f a,nsIn K Uf x=some (some (.ref f))/\nR K x x st f a
theorem Ce(x:Str)(st:XD):zw x st=some (x,x,q5 st,.stmts (jZ st),bN st,Uf,[],.none,XX,true):=by cases st<;>rfl
def Ho(K:Zv):List (Str×XD)->Prop
 |[]=>True
 |p::l=>xA K p.1 p.2/\Ho K l
def m5(K:Zv):ZS->Prop
 |[]=>True
 |b::l=>nsIn K Uf b=some none/\m5 K l
def xB(K:Zv)(x:Str)(i j:Int):Prop:=∃p a b n c d,nsIn K Uf x=some (some (.ref p))/\K.lookup p=some ⟨.type "tuple",a,.seq #[.int i c,.int j d] n,b⟩
def Hp(K:Zv):List (Str×Int×Int)->Prop
 |[]=>True
 |p::l=>xB K p.1 p.2.1 p.2.2/\Hp K l
def Hq(K:Zv)(x:Str)(c:Int ⊕ Str):Prop:=match c with
 |.inl i=>∃t,nsIn K Uf x=some (some (.int i t))
 |.inr s=>∃t,nsIn K Uf x=some (some (.str s t))
def Hr(K:Zv):List (Str×(Int ⊕ Str))->Prop
 |[]=>True
 |p::l=>Hq K p.1 p.2/\Hr K l
structure m_(t:mo)(K:Zv):Prop where
 tf:Ho K t.fs
 tb:m5 K t.bs
 tt:Hp K t.ts
 tc:Hr K t.cs
theorem xA.eT{K:Zv}{h:XE}{c:Str->Option SC}{x:Str}{st:XD}{d:ZS}(X:K.In h)(G:h.Ns Uf c)(F:xA K x st)(b:∀f a,nR K x x st f a->fU K a d []):cG K c x st d:=by
 obtain⟨f,a,m,F⟩:=F;exact⟨f,a,mg_of X G m,F,b f a F⟩
abbrev uL(x:Str)(st:XD)(b:ZT)(r:List (Str×SC)):Prop:=∀(kV doc c:SC)(d:Option TE)(a e:SC),YX (fnOf x x (q5 st) (jZ st) (bN st) .none kV doc c d a e) ⟨b,[]⟩=pure r
abbrev uM(x:Str)(st:XD)(c:ZS):Prop:=∀(kV doc d:SC)(e:Option TE)(a f:SC)(b:ZT),b.length=c.length->YX (fnOf x x (q5 st) (jZ st) (bN st) .none kV doc d e a f) ⟨b,[]⟩=pure (c.zip b)
section
variable{x:Str}{st:XD}
theorem i8{p:Str}(b:∀a,uL x st [a] [(p,a)]):uM x st [p]:=λ_ _ _ _ _ _ c d=>match c,d with|[a],_=>b a _ _ _ _ _ _
theorem gB{p q:Str}(c:∀a b,uL x st [a,b] [(p,a),(q,b)]):uM x st [p,q]:=λ_ _ _ _ _ _ d e=>match d,e with|[a,b],_=>c a b _ _ _ _ _ _
theorem o3{p q r:Str}(d:∀a b c,uL x st [a,b,c] [(p,a),(q,b),(r,c)]):uM x st [p,q,r]:=λ_ _ _ _ _ _ e f=>match e,f with|[a,b,c],_=>d a b c _ _ _ _ _ _
theorem xC{p q r s:Str}(e:∀a b c d,uL x st [a,b,c,d] [(p,a),(q,b),(r,c),(s,d)]):uM x st [p,q,r,s]:=λ_ _ _ _ _ _ f g=>match f,g with|[a,b,c,d],_=>e a b c d _ _ _ _ _ _
theorem Cf{p q r s t:Str}(f:∀a b c d e,uL x st [a,b,c,d,e] [(p,a),(q,b),(r,c),(s,d),(t,e)]):uM x st [p,q,r,s,t]:=λ_ _ _ _ _ _ g h=>match g,h with|[a,b,c,d,e],_=>f a b c d e _ _ _ _ _ _
end
theorem xB.nB{K:Zv}{h:XE}{a:Str->Option SC}{x:Str}{i j:Int}(X:K.In h)(G:h.Ns Uf a)(F:xB K x i j):xz K a x [i,j]:=by
 obtain⟨p,b,c,n,d,e,m,l⟩:=F;exact Rk (mg_of X G m) l
section
variable{a:WP}{w:Xy}{A:Xz}{E:SC->Tl->Prop}{s:Tl}
theorem Hs{c t:TE}{b:Array SC}(f:t≠c):∀(n i:Nat)(s:Tl)(Q:ZT->Tl->Prop),s.heap.IsListIter c t i->s.heap.IsList t b->i+n<=b.size->
  (∀d,d.IsListIter c t (i+n)->Heap.SameBut c s.heap d->Q ((b.toList.drop i).take n) {s with heap:=d })->wpAny (UV a w) A (draw (.ref c) n) Q E s
 |0,i,s,Q,hit,_,_,e=>by
  show wpAny _ _ (pure []) Q E s
  exact SZ (by simpa using e s.heap hit (Heap.SameBut.refl ..))
 |n+1,i,s,Q,hit,g,hle,e=>by
  have h:i<b.size:=by lia
  show wpAny _ _ (YR (.ref c) >>= _) Q E s
  refine wp (YI hit g (x:=b[i]) (by simp[h]) λq k j=>?_);refine wp (W1 (Hs f n (i+1) _ _ k (g.extBut j.extBut f) (by lia) λl m o=>SZ ?_));have p:b.toList.drop i=b[i]::b.toList.drop (i+1):=by simp[Up,h]
  have:=e l (by rw[show i+(n+1)=i+1+n by lia];exact m) (j.trans o);rwa[p,V2]at this
theorem Ro{t:TE}{c:Array SC}{Q:ZT->Tl->Prop}(j:A.handled=none)(d:s.heap.IsList t c)(k:∀f,Heap.ExtBut s.heap.objs.size s.heap f->Q c.toList {s with heap:=f }):wpAny (UV a w) A (Zw (.ref t) c.size none) Q E s:=by
 have g:t≠s.heap.objs.size:=by obtain⟨o,l,_⟩:=d;exact S5 (Heap.lt_size l)
 unfold Zw;refine wp ?_
 unfold notIterableAtAll;refine wp (X' d.typeIs F.slot_list_iter.lookup ?_);refine SZ ?_;simp only[TL,if_false];refine wp (W1 (Yc d ?_));refine wp (W1 (Hs g c.size 0 _ _ ⟨_,Heap.get?_push_size _ rfl,rfl,rfl⟩ (d.push _) (by lia) λm n h=>?_))
 have p:List.take c.size (List.drop 0 c.toList)=c.toList:=by
  rw[List.drop_zero];exact Vn (by simp)
 rw[p];rw[Tk (by simp)];have q:m.IsList t c:=(d.push _).extBut h.extBut g;refine wp (W1 (YS j n q (by simp) λr u=>?_));simp only[Option.isSome_none,TL,if_false];refine SZ (k r λb o i e=>u b o i (h.extBut b o i (Heap.get?_push_of_some _ e)))
theorem Rr{c:Tv}{d:ZV}{g}{e:Pos}{t:TE}{b:Array SC}{Q:Unit->Tl->Prop}(i:A.handled=none)(j:s.heap.IsList t b)(k:(XB d c).length=b.size)(l:(XB d c).findIdx? (·.1)=none)(h:∀f,Heap.ExtBut s.heap.objs.size s.heap f->wpAny (UV a w) A (YC ((XB d c).map (·.2)) b.toList) Q E {s with heap:=f }):
  wpAny (UV a w) A (Y3 (.Tuple d g e) c (.ref t)) Q E s:=by
 rw[arm_assign_Tuple];refine wp (XY ?_);unfold unpack;rw[k,l];exact wp (W1 (Ro i j h))
end
section
variable{X:aT}{c:Pos}
def Rt(K:Su)(n:Nat)(t:nG):fO:=λv d H Q=>∃a b,v=.ref a/\cE K H a b/\b.length=n/\t b d H Q
theorem Ru{d:ZV}{k:Nat}{t:nG}{n:Nat}(l:X.calm=true)(h:ss X d t)(m:(XB d X.env).length=n:=by rfl)(p:(XB d X.env).findIdx? (·.1)=none:=by rfl):jf X (.Tuple d k c) (Rt X.K n t):=by
 intro g s i H v u Q I r f;obtain⟨a,q,w,x,y,f⟩:=f;subst w;cases r;obtain⟨z,j,A,F⟩:=I.list x;refine Rr (I.ok.hd l) A.isList (by simp[m,<-y,j.length]) p λB C=>?_;have E:c_ X g i H {s with heap:=B }:=I.kept (t':=s.toks) λb o e=>C b o (S5 (Heap.lt_size e)) e;exact h g _ i H q _ Q E (by simpa using j) f
end
section
variable{X:aT}{b:ZV}{c:Pos}
def Rv(n:Nat)(e:nV):eU:=λd f k=>∃a,d=.lst a/\a.length=n/\e a f k
theorem Hu{j:Nat}{f:nV}{n:Nat}(l:X.calm=true)(h:uf X b f)(m:(XB b X.env).length=n:=by rfl)(o:(XB b X.env).findIdx? (·.1)=none:=by rfl):j3 X (.Tuple b j c) (Rv n f):=by
 obtain⟨_,p,s⟩:=h;refine⟨_,Ru l p m o,λd t k h R W B H u v Q e r q=>?_⟩;obtain⟨w,rfl,x,h⟩:=h;obtain⟨a,g,rfl,y,i⟩:=r.fk;exact⟨a,g,rfl,cE.of (e.bh _ _ y),by rw[i.length];exact x,s w t k h R W B H u g Q e i q⟩
end
noncomputable def ee(g p:ab):ab:=(p.1*g.2.2+g.1*p.2.2,p.2.1*g.2.2+g.2.1*p.2.2,p.2.2*g.2.2)
def fe(p:ab):ab:=(-p.1,-p.2.1,p.2.2)
def Ci(p q r s:ab):ab:=a_ (a_ p q) (a_ r s)
def bm(p q r:ab):Int:=(a_ p q).1*r.1+(a_ p q).2.1*r.2.1+(a_ p q).2.2*r.2.2
def cM(x:Int):Int:=if 0<x then 1 else if x<0 then -1 else 0
theorem Rw{x y c d:Int}(b:0<c)(e:0<d)(h:c*x=d*y):cM x=cM y:=by
 have posQz:0<x↔0<y:=by
  constructor
  ·intro f;have:=SD b f;rw[h]at this;exact Ub this e
  intro g;have:=SD e g;rw[<-h]at this;exact Ub this b
 have i:x=0↔y=0:=by
  constructor
  ·intro f;rw[f,SV]at h;exact(Tb.mp h.symm).resolve_left (Sy e)
  intro g;rw[g,SV]at h;exact(Tb.mp h).resolve_left (Sy b)
 unfold cM;by_cases a:0<x
 ·rw[SL a,SL (posQz.mp a)]
 rw[Tk a,Tk (λz=>a (posQz.mpr z))];by_cases j:x=0
 ·rw[Tk (by lia),Tk (by have:=i.mp j;lia)]
 have:y≠0:=λz=>j (i.mpr z);have:¬0<y:=λz=>a (posQz.mpr z);rw[SL (by lia),SL (by lia)]
structure uO(L:ab->ab):Prop where
 ES:∀c p,L (sc c p)=sc c (L p)
 z:∃k,0<k/\∀p,(L p).2.2=k*p.2.2
 mt:∃d,d≠0/\∀p q r s,Ci (L p) (L q) (L r) (L s)=sc d (L (Ci p q r s))
 dt:∃d,0<d/\∀p q r,bm (L p) (L q) (L r)=d*bm p q r
noncomputable def cs(g c:ab):ab:=(g.2.2*c.1,g.2.2*c.2.1,g.2.2*c.2.2-g.1*c.1-g.2.1*c.2.1)
theorem Cj(g p q:ab):a_ (ee g p) (ee g q)=sc g.2.2 (cs g (a_ p q)):=by
 refine fh ?_ ?_ ?_<;>simp only[a_,sc,ee,cs]<;>grind
theorem Rx(g u v:ab):a_ (cs g u) (cs g v)=sc g.2.2 (ee g (a_ u v)):=by
 refine fh ?_ ?_ ?_<;>simp only[a_,sc,ee,cs]<;>grind
theorem Ry{g:ab}(a:0<g.2.2):uO (ee g):=by
 have b:=Sy a;refine⟨λc p=>by refine fh ?_ ?_ ?_<;>simp only[sc,ee]<;>grind,⟨g.2.2,a,λp=>by simp only[ee];grind⟩,⟨g.2.2*g.2.2*g.2.2,S1 (S1 b b) b,λp q r s=>?_⟩,⟨g.2.2*g.2.2*g.2.2,SD (SD a a) a,λp q r=>?_⟩⟩
 ·unfold Ci;rw[Cj,Cj,B',Rx,Hf]
 unfold bm;rw[Cj];generalize a_ p q=c;simp only[sc,cs,ee];grind
theorem uO.low{L:ab->ab}(l:uO L){p:ab}(b:0<p.2.2):0<(L p).2.2/\∃k,0<k/\L p=sc k (nP (L p)):=by
 obtain⟨k,c,e⟩:=l.z;have posQz:0<(L p).2.2:=by rw[e];exact SD c b
 obtain⟨g,h,a⟩:=kd (Sy posQz);have d:=(gK (Sy posQz)).1;refine⟨posQz,g,?_,a⟩;have f:(L p).2.2=g*(nP (L p)).2.2:=TW (λp:ab=>p.2.2) a;rw[f]at posQz;exact UO posQz d
theorem Rz(a b c:Int)(p q r:ab):bm (sc a p) (sc b q) (sc c r)=a*b*c*bm p q r:=by
 simp only[bm,B'];generalize a_ p q=u;simp only[sc];grind
theorem uO.side{L:ab->ab}(l:uO L){p q r:ab}(e:0<p.2.2)(f:0<q.2.2)(g:0<r.2.2):cM (bm (nP (L p)) (nP (L q)) (nP (L r)))=cM (bm p q r):=by
 obtain⟨_,a,h,i⟩:=l.low e;obtain⟨_,b,j,k⟩:=l.low f;obtain⟨_,c,m,n⟩:=l.low g;obtain⟨d,o,s⟩:=l.dt;refine Rw (SD (SD h j) m) o ?_;rw[<-Rz,<-i,<-k,<-n,s]
theorem ke{a b:Int}(h:∀k:Int,k∣a->k∣b->k∣1):Ss a b=1:=by
 have q:=TK.mpr (h _ (Vg a b) (U1 a b));simpa using q
theorem kP{a b k:Int}(g:Ss a b=1)(c:k∣a)(d:k∣b):k∣1:=by
 have:=V3 c d;rwa[g]at this
theorem qf{k n m:Int}(h:k∣n*m)(g:Ss k m=1):k∣n:=oR (by rw[S4];exact h) g
theorem uP{a b k:Int}(g:Ss a b=1)(h:k∣a):Ss k b=1:=ke λj c d=>kP g (Tj c h) d
theorem xD{x y t b:Int}(l:a8 x y)(a:b≠0)(e:x*b=t*y):d1 t b=(x,y):=by
 rw[<-Q6 l];exact Q5 a (Sy l.1) e.symm
theorem Hw{x y z a b n:Int}(p:mA x y z)(c:n≠0)(g:x*n=a*z)(h:y*n=b*z):cl a b n=(x,y,z):=by
 obtain⟨q,i,j,_⟩:=kc (a:=a) (b:=b) c;obtain⟨d,e,f⟩:=wU q p (TB c (by grind)) (TB c (by grind));exact TF d (TF e f)
theorem qg{a b:Int}(h:a≠0\/b≠0):∃x y:Int,a=((Ss a b:Nat):Int)*x/\b=((Ss a b:Nat):Int)*y/\Ss x y=1:=by
 obtain⟨x,c⟩:=Vg a b;obtain⟨y,d⟩:=U1 a b;refine⟨x,y,c,d,?_⟩
 have posQz:0<Ss a b:=by
  rcases h with h|h
  ·exact WS b h
  exact Vf a h
 have q:Ss a b=(((Ss a b:Nat):Int)).natAbs*Ss x y:=Q4 c d;rw[WT]at q;exact VP posQz (by lia)
theorem Hx{a b:Int}(h:a≠0\/b≠0):((Ss a b:Nat):Int)≠0:=by
 have posQz:0<Ss a b:=by
  rcases h with h|h
  ·exact WS b h
  exact Vf a h
 lia
theorem n2{a b:Int}(h:a≠0\/b≠0):0<((Ss a b:Nat):Int):=by
 have:=Hx h;lia
theorem o4{s y:Int}(a:0<s)(h:0<s*y):0<y:=Ub h a
theorem Hy{x y u k Y V:Int}(g:Ss x y=1)(c:Y∣y)(d:Ss Y V=1)(e:k∣x*V+u*Y)(a:k∣Y):k∣1:=by
 have f:k∣x*V:=by
  have:=V4 e (TN a (b:=u));simpa using this
 exact kP g (qf f (uP d a)) (Tj a c)
theorem RB{x y u v:Int}(B:a8 x y)(C:a8 u v){s top d:Int}(o:s=(Ss y v:Nat))(g:top=x*v.fdiv s+u*y.fdiv s)(p:d=(Ss s top:Nat)):
  (top.fdiv d,y.fdiv s*v.fdiv d)=d1 (x*v+u*y) (y*v):=by
 obtain⟨h,E⟩:=B;obtain⟨F,G⟩:=C;obtain⟨Y,V,e,f,q⟩:=qg (a:=y) (b:=v) (.inl (Sy h));have i:0<s:=by rw[o];exact n2 (.inl (Sy h))
 rw[<-o]at e f;have c:=Sy i;rw[jo f c,jo e c]at g;obtain⟨S,T,r,l,H⟩:=qg (a:=s) (b:=top) (.inl c);have t:0<d:=by rw[p];exact n2 (.inl c)
 rw[<-p]at r l;have w:=Sy t;have I:v=d*(S*V):=by rw[f,r,Ud]
 rw[jo l w,jo e c,jo I w];have J:0<Y:=o4 i (by lia);have K:0<V:=o4 i (by lia);have L:0<S:=o4 t (by lia);refine(xD ⟨SD J (SD L K),?_⟩ (Sy (SD h F)) ?_).symm
 ·refine ke λk z M=>?_;have A:k∣top:=by rw[l];exact TN z
  have N:Ss k Y=1:=ke λj m n=>Hy E ⟨s,by rw[e,S4]⟩ q (by rw[<-g];exact Tj m A) n;have O:Ss k V=1:=ke λj m n=>Hy (x:=u) (u:=x) (Y:=V) (V:=Y) G ⟨s,by rw[f,S4]⟩ (by rw[TY];exact q) (by rw[V5,<-g];exact Tj m A) n;exact kP H (qf (oR M N) O) z
 grind
theorem RD{x y u v:Int}(z:a8 x y)(A:a8 u v):
  (x.fdiv ((Ss x v:Nat):Int)*u.fdiv ((Ss u y:Nat):Int),y.fdiv ((Ss u y:Nat):Int)*v.fdiv ((Ss x v:Nat):Int))=d1 (x*u) (y*v):=by
 obtain⟨e,B⟩:=z;obtain⟨g,C⟩:=A;obtain⟨X,V,p,q,E⟩:=qg (a:=x) (b:=v) (.inr (Sy g));obtain⟨U,Y,r,s,F⟩:=qg (a:=u) (b:=y) (.inr (Sy e));have l:=n2 (a:=x) (b:=v) (.inr (Sy g));have m:=n2 (a:=u) (b:=y) (.inr (Sy e));generalize((Ss x v:Nat):Int)=f at *;generalize((Ss u y:Nat):Int)=h at *;rw[jo p (Sy l),jo q (Sy l),jo r (Sy m),jo s (Sy m)];have G:0<Y:=o4 m (by lia);have H:0<V:=o4 l (by lia);refine(xD ⟨SD G H,?_⟩ (Sy (SD e g)) ?_).symm
 ·refine ke λk t I=>?_;have J:Ss X Y=1:=ke λj d c=>kP B (by rw[p];exact TN d) (by rw[s];exact TN c);have K:Ss U V=1:=ke λj d c=>kP C (by rw[r];exact TN d) (by rw[q];exact TN c)
  have L:Ss k Y=1:=ke λj d c=>by
   have M:j∣X*U:=Tj d t;have N:j∣U:=oR M (ke λi n o=>kP J o (Tj n c));exact kP F N c
  have w:k∣V:=oR I L;have O:k∣U:=oR t (ke λi n o=>kP E o (Tj n w));exact kP K O w
 grind
theorem HA{x y z:Int}(h:∀k:Int,k∣x->k∣y->k∣z->k∣1):Ss (Ss x y:Nat) z=1:=
 ke λk a b=>h k (Tj a (Vg x y)) (Tj a (U1 x y)) b
theorem RI{x y z k:Int}(g:Ss (Ss x y:Nat) z=1)(a:k∣x)(b:k∣y)(c:k∣z):k∣1:=kP g (V3 a b) c
theorem RJ{x y u v:Int}(p:a8 x y)(q:a8 u v):
  (x*v.fdiv ((Ss y v:Nat):Int),u*y.fdiv ((Ss y v:Nat):Int),y.fdiv ((Ss y v:Nat):Int)*v)=cl (x*v) (u*y) (y*v):=by
 obtain⟨d,r⟩:=p;obtain⟨g,h⟩:=q;obtain⟨Y,V,i,l,m⟩:=qg (a:=y) (b:=v) (.inl (Sy d));have e:=n2 (a:=y) (b:=v) (.inl (Sy d));generalize((Ss y v:Nat):Int)=s at *;rw[jo l (Sy e),jo i (Sy e)];have t:0<Y:=o4 e (by lia);refine(Hw ⟨SD t g,?_⟩ (Sy (SD d g)) ?_ ?_).symm
 ·refine HA λk w n z=>?_;have o:Ss k Y=1:=ke λj f c=>kP r (qf (Tj f w) (uP m c)) (by rw[i];exact TN c);have C:Ss k V=1:=ke λj f c=>kP h (qf (Tj f n) (uP (by rw[TY];exact m) c)) (by rw[l];exact TN c);have A:k∣u:=qf n o;have B:k∣v:=oR z o;exact kP h A B
 ·grind
 grind
theorem HB{a b n r w k N M:Int}(g:Ss (Ss a b:Nat) n=1)(e:N∣n)(d:Ss N M=1)(f:k∣a*M+r*N)(h:k∣b*M+w*N)(c:k∣N):k∣1:=by
 have i:k∣a*M:=by
  have:=V4 f (TN c (b:=r));simpa using this
 have j:k∣b*M:=by
  have:=V4 h (TN c (b:=w));simpa using this
 exact RI g (qf i (uP d c)) (qf j (uP d c)) (Tj c e)
theorem RK{a b n r w m:Int}(p1:mA a b n)(p2:mA r w m){s X Y d:Int}(x:s=(Ss n m:Nat))(i:X=a*m.fdiv s+r*n.fdiv s)(l:Y=b*m.fdiv s+w*n.fdiv s)(y:d=(Ss ((Ss s X:Nat):Int) Y:Nat)):
  (X.fdiv d,Y.fdiv d,n.fdiv s*m.fdiv d)=cl (a*m+r*n) (b*m+w*n) (n*m):=by
 obtain⟨o,K⟩:=p1;obtain⟨L,O⟩:=p2;obtain⟨N,M,f,g,A⟩:=qg (a:=n) (b:=m) (.inl (Sy o));have p:0<s:=by rw[x];exact n2 (.inl (Sy o))
 rw[<-x]at f g;have c:=Sy p;rw[jo f c,jo g c]at i l;obtain⟨h,P,Q,R,S⟩:=qg (a:=s) (b:=X) (.inl c);have B:=Hx (a:=s) (b:=X) (.inl c);obtain⟨E,aq,q,t,T⟩:=qg (a:=((Ss s X:Nat):Int)) (b:=Y) (.inl B);have C:0<d:=by rw[y];exact n2 (.inl B)
 rw[<-y]at q t;have u:=Sy C
 have U:s=d*(E*h):=by
  rw[Q]
  conv=>lhs;rw[q]
  rw[Ud]
 have F:X=d*(E*P):=by
  rw[R]
  conv=>lhs;rw[q]
  rw[Ud]
 have W:m=d*(E*h*M):=by rw[g,U,Ud]
 rw[jo F u,jo t u,jo f c,jo W u];have Z:0<N:=o4 p (by lia);have hi:0<M:=o4 p (by lia);have ae:0<E*h:=o4 C (by lia);refine(Hw ⟨SD Z (SD ae hi),?_⟩ (Sy (SD o L)) ?_ ?_).symm
 ·refine HA λk G H af=>?_;have I:k∣X:=by rw[F];exact TN G
  have J:k∣Y:=by rw[t];exact TN H
  have ai:Ss k N=1:=ke λj e v=>HB K ⟨s,by rw[f,S4]⟩ A (by rw[<-i];exact Tj e I) (by rw[<-l];exact Tj e J) v;have hc:Ss k M=1:=ke λj e v=>HB (a:=r) (b:=w) (n:=m) (r:=a) (w:=b) (N:=M) (M:=N) O ⟨s,by rw[g,S4]⟩ (by rw[TY];exact A) (by rw[V5,<-i];exact Tj e I) (by rw[V5,<-l];exact Tj e J) v;have aj:k∣E*h:=qf (oR af ai) hc
  have ao:k∣E:=by
   have z:=V3 aj G;rw[VO,S,Nat.mul_one]at z;exact Tj z (Int.natAbs_dvd.mpr (Int.dvd_refl E))
  exact kP T ao H
 ·grind
 grind
theorem cH.sld{m n:Nat}{g p:ab}(d:cH m g)(e:cH n p):cH (n+m+1) (L3.ee g p):=by
 refine⟨?_,?_,?_⟩
 ·exact Sx (XC (TD e.a d.c) (TD d.a e.c)) (by lia)
 ·exact Sx (XC (TD e.b d.c) (TD d.b e.c)) (by lia)
 exact Sx (TD e.c d.c) (by lia)
theorem cH.trn{m:Nat}{p:ab}(d:cH m p):cH m (L3.fe p):=⟨TT d.a,TT d.b,d.c⟩
theorem aW.trn{p:ab}(h:aW p):aW (L3.fe p):=Bh h
theorem sW{g p:ab}(a:aW g)(b:aW p):(ee g p).2.2≠0:=pW b.1 a.1
theorem aW.sld{g p:ab}(a:aW g)(b:aW p):aW (nP (L3.ee g p)):=gK (sW a b)
theorem cH.nj{m n:Nat}{g p:ab}(a:cH m g)(b:cH n p)(c:aW g)(d:aW p):cH (n+m+1) (L3.nP (L3.ee g p)):=(a.sld b).nP (sW c d)
theorem sX(p q:ab):bm p q q=0:=by unfold bm a_;grind
def bC(a:ZJ)(n:Nat):ab:=(a[n]?).getD (0,0,1)
theorem mX{a:ZJ}{n:Nat}(h:n<a.length):bC a n=a[n]:=by unfold bC;rw[S0 h];rfl
theorem Cs{f:ab->ab}{a:ZJ}{n:Nat}(h:n<a.length):bC (a.map f) n=f (bC a n):=by
 rw[mX h,mX (by rw[Sv];exact h),List.getElem_map]
theorem o6{a:ZJ}{n:Nat}(h:n<a.length):bC a n∈a:=by rw[mX h];exact V6 h
theorem n4{a:ZJ}{n:Nat}(h:n<a.length):eB (a.map aR) (n:Int)=some (aR (bC a n)):=by rw[mX h];exact rr (B7 h)
def fi(a:ZJ):Prop:=3<=a.length/\∀k j,k<a.length->j<a.length->j≠k->j≠(k+1)%a.length->cM (bm (bC a k) (bC a ((k+1)%a.length)) (bC a j))=1
theorem fi.map{f:ab->ab}{a:ZJ}(g:∀p q r,p∈a->q∈a->r∈a->cM (bm (f p) (f q) (f r))=cM (bm p q r))(h:fi a):fi (a.map f):=by
 refine⟨by rw[Sv];exact h.1,λk j b c i d=>?_⟩;rw[Sv]at b c d⊢;have e:(k+1)%a.length<a.length:=UA _ (by lia);rw[Cs b,Cs c,Cs e,g _ _ _ (o6 b) (o6 e) (o6 c)];exact h.2 k j b c i d
theorem xF{p q r:ab}(h:cM (bm p q r)=1):fi [p,q,r]:=by
 refine⟨by simp,λk j a b f c=>?_⟩;have l:[p,q,r].length=3:=rfl;rw[l]at a b c⊢;have d:bm q r p=bm p q r:=by unfold bm a_;grind
 have e:bm r p q=bm p q r:=by unfold bm a_;grind
 have:k=0\/k=1\/k=2:=by lia
 rcases this with rfl|rfl|rfl
 ·have:j=2:=by lia
  subst this;exact h
 ·have:j=0:=by lia
  subst this;show cM (bm q r p)=1
  rw[d];exact h
 have:j=1:=by lia
 subst this;show cM (bm r p q)=1
 rw[e];exact h
abbrev a7:=ZJ×Bool×ab
abbrev ZM:=List a7
def bI(s:a7):D:=.tup [.lst (s.1.map aR),.bl s.2.1,aR s.2.2]
structure du(m:Nat)(p:ab):Prop where
 pt:aW p
 bp:cH m p
theorem du.mono{m n:Nat}{p:ab}(h:du m p)(l:m<=n):du n p:=⟨h.pt,h.bp.mono l⟩
def l7(g:ab)(s:a7):a7:=(s.1.map (λp=>nP (ee g p)),s.2.1,nP (ee g s.2.2))
theorem du.trn{m:Nat}{p:ab}(h:du m p):du m (L3.fe p):=⟨h.pt.trn,h.bp.trn⟩
theorem du.sl{m n:Nat}{g p:ab}(a:du m g)(h:du n p):du (n+m+1) (nP (ee g p)):=⟨a.pt.sld h.pt,a.bp.nj h.bp a.pt h.pt⟩
theorem HH(p:ab):has (.T [.I,.I,.I]) (aR p)=true:=rfl
theorem RT(a:ZJ):has (.L (.T [.I,.I,.I])) (.lst (a.map aR))=true:=by
 simp only[has,Uz];intro x b;obtain⟨p,_,rfl⟩:=SJ.mp b;exact HH p
abbrev Ct:eU:=mK 3 (hr (fp 0) (hr (fp 1) (hr (fp 2) mJ)))
theorem xG{u:bd}{fs:ZI}{h:a7->D}:∀{sh:ZM}{b c d:aA}{k:ZK->Prop},(∀s∈sh,∀k:D->Prop,k (h s)->u (.val (.lst (s.1.map aR))::.val (.bl s.2.1)::.val (aR s.2.2)::fs) k)->k (sh.map h)->hs Ct i7 u (sh.map bI) (b::c::d::fs) k
 |[],_,_,_,_,_,a=>a
 |s::sh,b,c,d,k,e,a=>by
  refine⟨_,rfl,rfl,_,_,rfl,_,_,rfl,_,_,rfl,rfl,?_⟩;show(if true=true then u (.val (.lst (s.1.map aR))::.val (.bl s.2.1)::.val (aR s.2.2)::fs) λy=>hs Ct i7 u (sh.map bI) (.val (.lst (s.1.map aR))::.val (.bl s.2.1)::.val (aR s.2.2)::fs) λf=>k (y::f)else hs Ct i7 u (sh.map bI) (.val (.lst (s.1.map aR))::.val (.bl s.2.1)::.val (aR s.2.2)::fs) k)
  rw[SL rfl];refine e s Sw _ ?_;exact xG (λx g=>e x (SA _ g)) a
theorem Cu(f:ab->ab):∀a:ZJ,flats (a.map λp=>aR (f p))=true
 |[]=>rfl
 |p::r=>by
  rw[SI,flats,Cu f r];rfl
theorem RU(a:ZJ):flats (a.map aR)=true:=Cu id a
theorem RV(f:ab->ab)(a:ZJ):(a.map λp=>aR (f p))=(a.map f).map aR:=by rw[SM];rfl
theorem RW(s:a7):Cd (bI s):=⟨_,_,rfl,RU _⟩
theorem RX{sh:ZM}:∀q∈sh.map bI,Cd q:=λq a=>by
 obtain⟨s,_,rfl⟩:=SJ.mp a;exact RW s
noncomputable abbrev Cv:iv:=.L (.T [.L (.T [.I,.I,.I]),.B,.T [.I,.I,.I]])
theorem RY(sh:ZM):has Cv (.lst (sh.map bI))=true:=by
 simp only[has,Uz];intro x c;obtain⟨s,_,rfl⟩:=SJ.mp c;have a:=RT s.1;have b:=HH s.2.2;simp only[bI,hass,has]at a b⊢;rw[a];simpa using b
theorem HI{a b c:Nat}{s:cB}{U:hD}(I:ZM->ZI->Prop):∀{sh done:ZM}{d:ZI},I done d->
  (∀pre x f d,done++sh=pre++x::f->I pre d->∀N:ZI->Prop,(∀r,I (pre++[x]) r->N r)->s {U with nx:=N,ct:=N,bk:=U.nx} (((d.set a (.val (.lst (x.1.map aR)))).set b (.val (.bl x.2.1))).set c (.val (aR x.2.2))))->
  (∀d,I (done++sh) d->U.nx d)->j7 (mK 3 (hr (fp a) (hr (fp b) (hr (fp c) mJ)))) s U (sh.map bI) d
 |[],done,d,g,_,i=>i d (by rw[SR];exact g)
 |x::sh,done,d,g,j,i=>by
  refine⟨_,rfl,rfl,_,_,rfl,_,_,rfl,_,_,rfl,rfl,?_⟩;refine j done x sh d rfl g _ λr k=>?_;refine HI I k (λpre y f d e=>j pre y f d (by rw[<-e];simp)) λd h=>i d ?_;have e:done++[x]++sh=done++x::sh:=by simp
  rw[<-e];exact h
def f0(s:a7):List ab:=if s.2.1=true then(s.1.map λp=>nP (ee (fe s.2.2) p)).map fe else s.1.map λp=>nP (ee (fe s.2.2) p)
theorem Cw{b:Type}(a:List b)(lo c:Option Int):(i3 a lo c).length<=a.length:=by
 unfold i3;rw[TV,UI];lia
theorem HJ(x y:Int):Ss (Ss x 0:Nat) y=Ss x y:=by rw[WH];show Tf (Int.natAbs (x.natAbs:Int)) y.natAbs=_;rw[WT];rfl
theorem RZ(x y:Int):Ss (Ss 0 x:Nat) y=Ss x y:=by rw[TY 0 x,HJ]
theorem xH{w:Int×Int}(l:a8 w.1 w.2):aW (w.1,0,w.2):=⟨l.1,(HJ _ _).trans l.2⟩
theorem xI{w:Int×Int}(l:a8 w.1 w.2):aW (0,w.1,w.2):=⟨l.1,(RZ _ _).trans l.2⟩
def dg(w h:Int×Int):ab:=cl (w.1*h.2) (h.1*w.2) (w.2*h.2)
def kQ(w h:Int×Int):List ab:=[(0,0,1),(w.1,0,w.2),dg w h,(0,h.1,h.2)]
structure kf(w h:Int×Int):Prop where
 lw:a8 w.1 w.2
 lh:a8 h.1 h.2
 w0:0<w.1
 h0:0<h.1
theorem kf.top{w h:Int×Int}(b:kf w h):aW (dg w h)/\(dg w h).1*w.2=w.1*(dg w h).2.2/\(dg w h).2.1*h.2=h.1*(dg w h).2.2/\0<(dg w h).1/\0<(dg w h).2.1:=by
 have g:w.2*h.2≠0:=pW b.lw.1 b.lh.1;obtain⟨p,c,d,_⟩:=kc (a:=w.1*h.2) (b:=h.1*w.2) g;have p:aW (dg w h):=p;have c:(dg w h).1*(w.2*h.2)=w.1*h.2*(dg w h).2.2:=c;have d:(dg w h).2.1*(w.2*h.2)=h.1*w.2*(dg w h).2.2:=d;have e:(dg w h).1*w.2=w.1*(dg w h).2.2:=TB (Sy b.lh.1) (by grind);have f:(dg w h).2.1*h.2=h.1*(dg w h).2.2:=TB (Sy b.lw.1) (by grind);refine⟨p,e,f,?_,?_⟩
 ·have:0<(dg w h).1*w.2:=by rw[e];exact SD b.w0 p.1
  exact UO this b.lw.1
 have:0<(dg w h).2.1*h.2:=by rw[f];exact SD b.h0 p.1
 exact UO this b.lh.1
theorem qh{x:Int}(h:0<x):cM x=1:=by unfold cM;rw[SL h]
section
variable{w h:Int×Int}
theorem kf.mT(b:kf w h):cM (bm (0,0,1) (w.1,0,w.2) (dg w h))=1:=by
 obtain⟨_,_,_,c,a⟩:=b.top;have e:bm (0,0,1) (w.1,0,w.2) (dg w h)=w.1*(dg w h).2.1:=by unfold bm a_;simp
 rw[e];exact qh (SD b.w0 a)
theorem kf.mS(b:kf w h):cM (bm (0,0,1) (w.1,0,w.2) (0,h.1,h.2))=1:=by
 have e:bm (0,0,1) (w.1,0,w.2) (0,h.1,h.2)=w.1*h.1:=by unfold bm a_;simp
 rw[e];exact qh (SD b.w0 b.h0)
theorem kf.mR(b:kf w h):cM (bm (0,0,1) (dg w h) (0,h.1,h.2))=1:=by
 obtain⟨_,_,_,a,c⟩:=b.top;have e:bm (0,0,1) (dg w h) (0,h.1,h.2)=(dg w h).1*h.1:=by unfold bm a_;simp
 rw[e];exact qh (SD a b.h0)
theorem kf.mQ(b:kf w h):cM (bm (0,h.1,h.2) (w.1,0,w.2) (dg w h))=1:=by
 obtain⟨p,a,c,d,f⟩:=b.top;have e:bm (0,h.1,h.2) (w.1,0,w.2) (dg w h)=h.1*w.1*(dg w h).2.2:=by unfold bm a_;simp;grind
 rw[e];exact qh (SD (SD b.h0 b.w0) p.1)
end
theorem R1{p q r s:ab}(e:cM (bm p q r)=1)(f:cM (bm p q s)=1)(g:cM (bm q r s)=1)(h:cM (bm p r s)=1):fi [p,q,r,s]:=by
 have d:∀a b c:ab,bm b c a=bm a b c:=λa b c=>by unfold bm a_;grind
 refine⟨by simp,λk j i m o n=>?_⟩;have l:[p,q,r,s].length=4:=rfl;rw[l]at i m n⊢;have:k=0\/k=1\/k=2\/k=3:=by lia
 rcases this with rfl|rfl|rfl|rfl
 ·have:j=2\/j=3:=by lia
  rcases this with rfl|rfl
  ·exact e
  exact f
 ·have:j=0\/j=3:=by lia
  rcases this with rfl|rfl
  ·show cM (bm q r p)=1
   rw[d p q r];exact e
  exact g
 ·have:j=0\/j=1:=by lia
  rcases this with rfl|rfl
  ·show cM (bm r s p)=1
   rw[d p r s];exact h
  show cM (bm r s q)=1
  rw[d q r s];exact g
 have:j=1\/j=2:=by lia
 rcases this with rfl|rfl
 ·show cM (bm s p q)=1
  rw[<-d s p q];exact f
 show cM (bm s p r)=1
 rw[<-d s p r];exact h
theorem kf.mf{w h:Int×Int}(b:kf w h):fi (kQ w h):=by
 refine R1 b.mT b.mS ?_ b.mR;have:bm (w.1,0,w.2) (dg w h) (0,h.1,h.2)=bm (0,h.1,h.2) (w.1,0,w.2) (dg w h):=by unfold bm a_;grind
 rw[this];exact b.mQ
def bJ(s w:Int×Int):Int×Int:=d1 ((if s.1<0 then -s.1 else s.1)*w.1) (s.2*w.2)
def dh(s:Int×Int)(a:Bool)(w:Int×Int):List ab:=
 if 0<s.1 then(if a=true then[(0,0,1),dg w (bJ s w),(0,(bJ s w).1,(bJ s w).2)]else[(0,0,1),(w.1,0,w.2),dg w (bJ s w)])
 else(if a=true then[(0,(bJ s w).1,(bJ s w).2),(w.1,0,w.2),dg w (bJ s w)]else[(0,0,1),(w.1,0,w.2),(0,(bJ s w).1,(bJ s w).2)])
theorem uT{s w:Int×Int}(d:a8 s.1 s.2)(a:a8 w.1 w.2)(g:s.1≠0)(b:0<w.1):kf w (bJ s w):=by
 have c:0<s.2*w.2:=SD d.1 a.1;obtain⟨l,e,_,_⟩:=kb (t:=(if s.1<0 then -s.1 else s.1)*w.1) (Sy c);refine⟨a,l,b,?_⟩;have f:0<(if s.1<0 then -s.1 else s.1):=by split<;>lia
 have:0<(bJ s w).1*(s.2*w.2):=by
  show 0<(d1 _ _).1*(s.2*w.2)
  rw[e];exact SD (SD f b) l.1
 exact UO this c
theorem R2{s w:Int×Int}(h:0<s.1):d1 (s.1*w.1) (s.2*w.2)=bJ s w:=by unfold bJ;rw[Tk (by lia)]
theorem R3{s w:Int×Int}(a:a8 s.1 s.2)(b:a8 w.1 w.2)(h:s.1<0):d1 (s.1*w.1) (s.2*w.2)=(-(bJ s w).1,(bJ s w).2):=by
 unfold bJ;rw[SL h];have e:s.1*w.1 = -(-s.1*w.1):=by rw[Uc,V7]
 rw[e,Q7 (SD a.1 b.1)];rfl
theorem HK{a:ZJ}{k:Nat}(h:k<a.length):eB (a.map aR) ((k:Int)-1)=some (aR (bC a ((k+a.length-1)%a.length))):=by
 cases k with
 |zero=>
  have e:((0:Nat)+a.length-1)%a.length=a.length-1:=by rw[T4];exact Tg (by lia)
  rw[e,mX (by lia)];unfold eB jg;rw[Tk (by lia),SL (by rw[Sv];lia)];show(a.map aR)[_]?=_
  rw[SP,Sv,show(((0:Nat):Int)-1+(a.length:Int)).toNat=a.length-1 by lia,S0 (by lia)];rfl
 |succ k=>
  have e:(k+1+a.length-1)%a.length=k:=by
   rw[show k+1+a.length-1=k+a.length by lia,UP];exact Tg (by lia)
  rw[e,show(((k+1:Nat):Int)-1)=(k:Int) by lia];exact n4 (by lia)
theorem HL:eqD (.str "high") (.str "high")=true:=lj _
theorem HM:eqD (.str "low") (.str "high")=false:=by
 unfold eqD;exact @decide_eq_false _ (Ue _) λh=>absurd (D.str.inj h) (by decide)
section
variable{s w h:Int×Int}
theorem HN(a:Bool):(dh s a w).length=3:=by unfold dh;split<;>split<;>rfl
theorem HO(b:kf w (bJ s w))(a:Bool):fi (dh s a w):=by
 unfold dh;split<;>split
 ·exact xF b.mR
 ·exact xF b.mT
 ·exact xF b.mQ
 exact xF b.mS
end
theorem kg(p q r:ab):bm q r p=bm p q r:=by unfold bm a_;grind
theorem uU(p q:ab):bm p p q=0:=by unfold bm a_;grind
theorem R4(o u a b c:ab):bm o u b*bm o a c=bm o u a*bm o b c+bm o u c*bm o a b:=by
 unfold bm a_;grind
theorem HP{x:Int}(h:cM x=1):0<x:=by
 unfold cM at h;split at h
 ·assumption
 split at h<;>lia
def qi(a:ZJ):Prop:=∀i j k,i<j->j<k->k<a.length->0<bm (bC a i) (bC a j) (bC a k)
theorem fi.ka{a:ZJ}(h:fi a){k j:Nat}(b:k+1<a.length)(c:j<a.length)(d:j≠k)(e:j≠k+1):0<bm (bC a k) (bC a (k+1)) (bC a j):=by
 have:=h.2 k j (by lia) c d (by rw[Tg b];exact e);rw[Tg b]at this;exact HP this
theorem fi.ni{a:ZJ}(h:fi a):qi a:=by
 intro i j k n o b;induction k with
 |zero=>lia
 |succ k c=>
  by_cases e:j=k
  ·subst e;rw[<-kg];exact h.ka b (by lia) (by lia) (by lia)
  have d:=c (by lia) (by lia)
  have f:0<bm (bC a i) (bC a k) (bC a (k+1)):=by
   rw[<-kg];exact h.ka b (by lia) (by lia) (by lia)
  have g:=h.ka (k:=i) (j:=k) (by lia) (by lia) (by lia) (by lia);have l:=h.ka (k:=i) (j:=k+1) (by lia) (by lia) (by lia) (by lia)
  have m:0<=bm (bC a i) (bC a (i+1)) (bC a j):=by
   by_cases z:j=i+1
   ·subst z;have:bm (bC a i) (bC a (i+1)) (bC a (i+1))=0:=sX _ _;lia
   exact Ti (h.ka (by lia) (by lia) (by lia) z)
  have p:=R4 (bC a i) (bC a (i+1)) (bC a j) (bC a k) (bC a (k+1));have q:=Tw m (Ti f);have r:=SD l d;have:0<bm (bC a i) (bC a (i+1)) (bC a k)*bm (bC a i) (bC a j) (bC a (k+1)):=by lia
  exact Ub this g
theorem qi.mf{a:ZJ}(c:3<=a.length)(h:qi a):fi a:=by
 refine⟨c,λk j d f i b=>qh ?_⟩;by_cases e:k+1<a.length
 ·rw[Tg e]at b⊢;by_cases z:k<j
  ·exact h k (k+1) j (by lia) (by lia) f
  rw[kg];exact h j k (k+1) (by lia) (by lia) e
 have g:k+1=a.length:=by lia
 rw[g,V8]at b⊢;rw[<-kg];exact h 0 j k (by lia) (by lia) d
def T1(a:ab):ZJ->Prop
 |[]=>True
 |b::r=>(∀c∈r,0<bm a b c)/\T1 a r
def T0:ZJ->Prop
 |[]=>True
 |a::r=>T1 a r/\T0 r
theorem T1.sub{a:ab}{l m:ZJ}(s:l.Sublist m):T1 a m->T1 a l:=by
 induction s with
 |slnil=>exact id
 |cons b s d=>exact λh=>d h.2
 |cons_cons b s d=>exact λh=>⟨λc e=>h.1 c (s.subset e),d h.2⟩
theorem T0.sub{l m:ZJ}(s:l.Sublist m):T0 m->T0 l:=by
 induction s with
 |slnil=>exact id
 |cons b s a=>exact λh=>a h.2
 |cons_cons b s a=>exact λh=>⟨T1.sub s h.1,a h.2⟩
theorem HQ(a:ab)(r:ZJ)(i:Nat):bC (a::r) (i+1)=bC r i:=rfl
theorem R5(a:ab)(r:ZJ):bC (a::r) 0=a:=rfl
theorem R6{r:ZJ}{i:Nat}(h:i<r.length):bC r i∈r:=by
 induction r generalizing i with
 |nil=>exact absurd h (by simp)
 |cons a r b=>
  cases i with
  |zero=>exact Sw
  |succ i=>exact SA _ (b (by simpa using h))
theorem R7{r:ZJ}{c:ab}(h:c∈r):∃i,i<r.length/\bC r i=c:=by
 induction r with
 |nil=>cases h
 |cons a r b=>
  rcases SG.mp h with rfl|h
  ·exact⟨0,by simp,rfl⟩
  obtain⟨i,d,e⟩:=b h;exact⟨i+1,by simpa using d,e⟩
theorem xJ(a:ab):∀r:ZJ,T1 a r↔∀j k,j<k->k<r.length->0<bm a (bC r j) (bC r k)
 |[]=>⟨λ_ j k _ h=>absurd h (by simp),λ_=>trivial⟩
 |b::r=>by
  constructor
  ·rintro⟨e,f⟩ j k g d;cases k with
   |zero=>lia
   |succ k=>
    have d:k<r.length:=by simpa using d
    cases j with
    |zero=>exact e _ (R6 d)
    |succ j=>exact(xJ a r).mp f j k (by lia) d
  intro h;refine⟨λc l=>?_,(xJ a r).mpr λj k g d=>h (j+1) (k+1) (by lia) (by simpa using d)⟩;obtain⟨i,m,rfl⟩:=R7 l;exact h 0 (i+1) (by lia) (by simpa using m)
theorem o7:∀c:ZJ,T0 c↔qi c
 |[]=>⟨λ_ i j k _ _ h=>absurd h (by simp),λ_=>trivial⟩
 |a::r=>by
  constructor
  ·rintro⟨d,e⟩ i j k g f b;cases k with
   |zero=>lia
   |succ k=>
    cases j with
    |zero=>lia
    |succ j=>
     have b:k<r.length:=by simpa using b
     cases i with
     |zero=>exact(xJ a r).mp d j k (by lia) b
     |succ i=>exact(o7 r).mp e i j k (by lia) (by lia) b
  intro h;exact⟨(xJ a r).mpr λj k f b=>h 0 (j+1) (k+1) (by lia) (by lia) (by simpa using b),(o7 r).mpr λi j k d e b=>h (i+1) (j+1) (k+1) (by lia) (by lia) (by simpa using b)⟩
theorem uV(c a b:ab):a_ c (a_ a b)=gA (c.1*b.1+c.2.1*b.2.1+c.2.2*b.2.2) a (-(c.1*a.1+c.2.1*a.2.1+c.2.2*a.2.2)) b:=by
 unfold a_ gA;refine fh ?_ ?_ ?_<;>dsimp only<;>grind
theorem HR(s t:Int)(a b q r:ab):bm (gA s a t b) q r=s*bm a q r+t*bm b q r:=by unfold bm a_ gA;dsimp only;grind
theorem HS(s:Int)(a q r:ab):bm (sc s a) q r=s*bm a q r:=by unfold bm a_ sc;dsimp only;grind
section
theorem HU{b a:ab}:∀{r:ZJ},T1 b r->(∀c∈r,0<bm b c a)->T1 b (r++[a])
 |[],_,_=>⟨λc e=>absurd e (by simp),trivial⟩
 |d::r,h,k=>⟨λc e=>by
   rcases SO.mp e with e|e
   ·exact h.1 c e
   rw[SQ.mp e];exact k d Sw,HU h.2 λc e=>k c (SA _ e)⟩
theorem HV{a:ab}:∀{r:ZJ},T0 r->T1 a r->T0 (r++[a])
 |[],_,_=>⟨trivial,trivial⟩
 |b::r,h,k=>⟨HU h.1 λc d=>by rw[kg];exact k.1 c d,HV h.2 k.2⟩
theorem T0.m9{a:ab}{r:ZJ}(h:T0 (a::r)):T0 (r++[a]):=HV h.2 h.1
def uW:ZJ->ZJ->Prop
 |[],_=>True
 |x::a,b=>(∀y∈a,∀z∈b,0<bm x y z)/\uW a b
theorem xK{x:ab}:∀{e b:ZJ},T1 x (e++b)↔T1 x e/\T1 x b/\∀y∈e,∀z∈b,0<bm x y z
 |[],b=>⟨λh=>⟨trivial,h,λy k=>absurd k (by simp)⟩,λh=>h.2.1⟩
 |y::e,b=>by
  constructor
  ·rintro⟨f,i⟩;obtain⟨l,m,n⟩:=xK.mp i;refine⟨⟨λc a=>f c (Tx _ a),l⟩,m,λw d z g=>?_⟩;rcases SG.mp d with rfl|d
   ·exact f z (S3 _ g)
   exact n w d z g
  rintro⟨⟨f,i⟩,o,j⟩;refine⟨λc a=>?_,xK.mpr ⟨i,o,λw d z g=>j w (SA _ d) z g⟩⟩;rcases SO.mp a with a|a
  ·exact f c a
  exact j y Sw c a
theorem mY:∀{xs a:ZJ},T0 (xs++a)↔T0 xs/\T0 a/\(∀x∈xs,T1 x a)/\uW xs a
 |[],a=>⟨λh=>⟨trivial,h,λy f=>absurd f (by simp),trivial⟩,λh=>h.2.1⟩
 |x::xs,a=>by
  constructor
  ·rintro⟨c,d⟩;obtain⟨g,i,j,k⟩:=mY.mp d;obtain⟨l,m,n⟩:=xK.mp c;refine⟨⟨l,g⟩,i,λw b=>?_,⟨n,k⟩⟩;rcases SG.mp b with rfl|b
   ·exact m
   exact j w b
  rintro⟨⟨c,d⟩,o,e,p,q⟩;exact⟨xK.mpr ⟨c,e x Sw,p⟩,mY.mpr ⟨d,o,λw b=>e w (SA _ b),q⟩⟩
theorem xL{b c:ZJ}(h:∀x y,(∀z∈b,0<bm x y z)->∀z∈c,0<bm x y z):∀{a:ZJ},uW a b->uW a c
 |[],_=>trivial
 |x::a,k=>⟨λy d=>h x y (k.1 y d),xL h k.2⟩
def hJ(p q m:ab):Prop:=∃s a b:Int,0<s/\0<a/\0<b/\sc s m=gA a p b q
theorem R8{s x y:Int}(b:0<s)(e:s*x=y)(a:0<y):0<x:=by
 rw[<-e]at a;exact Ub a b
theorem uX{p q m u v:ab}(h:hJ p q m)(g:0<=bm p u v)(i:0<=bm q u v)(c:0<bm p u v\/0<bm q u v):0<bm m u v:=by
 obtain⟨s,a,b,j,d,f,e⟩:=h;have k:s*bm m u v=a*bm p u v+b*bm q u v:=by rw[<-HS,e,HR]
 refine R8 j k ?_;have l:=Tw (Ti d) g;have n:=Tw (Ti f) i;rcases c with c|c
 ·have:=SD d c;lia
 have:=SD f c;lia
theorem ry{p q m u v:ab}(h:hJ p q m)(a:0<=bm u p v)(b:0<=bm u q v)(c:0<bm u p v\/0<bm u q v):0<bm u m v:=by
 rw[<-kg]at a b⊢;rw[<-kg u p v,<-kg u q v]at c;exact uX h a b c
theorem rz{p q m u v:ab}(h:hJ p q m)(a:0<=bm u v p)(b:0<=bm u v q)(c:0<bm u v p\/0<bm u v q):0<bm u v m:=by
 rw[kg]at a b⊢;rw[kg p u v,kg q u v]at c;exact uX h a b c
theorem Cx{p q m:ab}(h:hJ p q m):∀{a:ZJ},T1 p a->T1 q a->T1 m a
 |[],_,_=>trivial
 |y::a,b,e=>⟨λc d=>uX h (Ti (b.1 c d)) (Ti (e.1 c d)) (.inl (b.1 c d)),Cx h b.2 e.2⟩
theorem fR{x:Int}(z:0<x):0<=x:=Ti z
theorem o8{x:Int}(z:x=0):0<=x:=by lia
theorem T0.back{xs ys:ZJ}{p q m:ab}(h:T0 (xs++p::q::ys))(b:hJ p q m):T0 (xs++p::m::ys):=by
 obtain⟨i,⟨⟨p1,p2⟩,j,k⟩,l,n⟩:=mY.mp h;refine mY.mpr ⟨i,⟨⟨λc a=>?_,p2⟩,Cx b p2 j,k⟩,λx o=>?_,xL (λx y d z e=>?_) n⟩
 ·exact ry b (o8 (uU p c)) (fR (p1 c a)) (.inr (p1 c a))
 ·obtain⟨f,g,r⟩:=l x o;refine⟨λc a=>?_,λc a=>?_,r⟩
  ·rcases SG.mp a with rfl|a
   ·exact rz b (o8 (sX x p)) (fR (f q Sw)) (.inr (f q Sw))
   exact f c (SA _ a)
  exact ry b (fR (f c (SA _ a))) (fR (g c a)) (.inr (g c a))
 rcases SG.mp e with rfl|e
 ·exact d _ Sw
 rcases SG.mp e with rfl|e
 ·exact rz b (fR (d p Sw)) (fR (d q (SA _ Sw))) (.inl (d p Sw))
 exact d z (SA _ (SA _ e))
theorem T0.on{xs ys:ZJ}{p q m:ab}(h:T0 (xs++p::q::ys))(b:hJ p q m):T0 (xs++m::q::ys):=by
 obtain⟨j,⟨⟨p1,p2⟩,i,k⟩,l,n⟩:=mY.mp h;refine mY.mpr ⟨j,⟨⟨λc a=>?_,Cx b p2 i⟩,i,k⟩,λx o=>?_,xL (λx y d z e=>?_) n⟩
 ·exact uX b (fR (p1 c a)) (o8 (uU q c)) (.inl (p1 c a))
 ·obtain⟨f,g,r⟩:=l x o;refine⟨λc a=>?_,g,r⟩;rcases SG.mp a with rfl|a
  ·exact ry b (fR (f c Sw)) (o8 (sX x c)) (.inl (f c Sw))
  exact ry b (fR (f c (SA _ a))) (fR (g c a)) (.inr (g c a))
 rcases SG.mp e with rfl|e
 ·exact rz b (fR (d p Sw)) (fR (d q (SA _ Sw))) (.inl (d p Sw))
 exact d z (SA _ e)
theorem T0.off{xs ys:ZJ}{p q r m n:ab}(h:T0 (xs++p::q::r::ys))(i:hJ p q m)(g:hJ q r n):T0 (xs++p::m::n::r::ys):=by
 have v:=T0.on (xs:=xs++[p]) (p:=q) (q:=r) (by rw[SY];exact h) g;rw[SY]at v;obtain⟨F,⟨⟨p1,p2⟩,w,W⟩,G,H⟩:=mY.mp h;obtain⟨_,⟨⟨l,I⟩,J,K⟩,L,X⟩:=mY.mp (show T0 (xs++p::n::r::ys)from v);have M:T0 (xs++p::m::r::ys):=h.back i;obtain⟨_,⟨⟨N,Y⟩,O,Z⟩,g3,aa⟩:=mY.mp M;have A:0<bm p q n:=rz g (o8 (sX p q)) (fR (p1 r Sw)) (.inr (p1 r Sw))
 have P:∀c∈r::ys,0<bm m n c:=λc d=>by
  refine uX i (fR (l c d)) ?_ (.inl (l c d));rcases SG.mp d with rfl|d
  ·exact o8 (by
    obtain⟨s,a,b,hi,_,_,e⟩:=g
    have k:s*bm q n c=a*bm q q c+b*bm q c c:=by
     rw[<-kg q n c,<-kg q q c,<-kg q c c,<-HS,e,HR]
    rw[uU,sX,SV,SV]at k;rcases Tb.mp k with z|z
    ·lia
    exact z)
  exact fR (ry g (o8 (uU q c)) (fR (w.1 c d)) (.inr (w.1 c d)))
 refine mY.mpr ⟨F,⟨⟨λc d=>?_,l,I⟩,⟨P,O⟩,J,K⟩,λx o=>?_,xL (λx y j z f=>?_) H⟩
 ·rcases SG.mp d with rfl|d
  ·exact ry i (o8 (uU p c)) (fR A) (.inr A)
  exact N c d
 ·obtain⟨ae,B,af⟩:=G x o;obtain⟨C,Q,R⟩:=L x o;obtain⟨S,T,ai⟩:=g3 x o;refine⟨λc d=>?_,λc d=>?_,Q,R⟩
  ·rcases SG.mp d with rfl|d
   ·exact S c Sw
   exact C c d
  rcases SG.mp d with rfl|d
  ·have E:0<bm x q c:=rz g (o8 (sX x q)) (fR (B r Sw)) (.inr (B r Sw));exact ry i (fR (C c Sw)) (fR E) (.inr E)
  exact T c d
 have t:=j q (SA _ Sw);have u:=j p Sw;have U:=j r (SA _ (SA _ Sw));rcases SG.mp f with rfl|f
 ·exact u
 rcases SG.mp f with rfl|f
 ·exact rz i (fR u) (fR t) (.inl u)
 rcases SG.mp f with rfl|f
 ·exact rz g (fR t) (fR U) (.inl t)
 exact j z (SA _ (SA _ f))
def ln(l p:ab):Int:=l.1*p.1+l.2.1*p.2.1+l.2.2*p.2.2
theorem Sb(l p q r s:ab):bm q r s*ln l p-bm p r s*ln l q+bm p q s*ln l r-bm p q r*ln l s=0:=by
 unfold bm a_ ln;grind
theorem T1.one{a:ab}:∀{b:ZJ},uW b [a]->T1 a b
 |[],_=>trivial
 |x::b,h=>⟨λc d=>by rw[<-kg];exact h.1 c d a Sw,T1.one h.2⟩
theorem T0.jG{a:ab}{r:ZJ}(h:T0 (r++[a])):T0 (a::r):=by
 obtain⟨b,_,_,c⟩:=mY.mp h;exact⟨T1.one c,b⟩
theorem T0.turn:∀{xs ys:ZJ},T0 (xs++ys)->T0 (ys++xs)
 |[],ys,h=>by rw[SR];exact h
 |x::xs,ys,h=>by
  have a:T0 (xs++(ys++[x])):=by rw[<-SY];exact T0.m9 h
  have b:=T0.turn a;rwa[SY]at b
section
variable(f:ab->Int)(mt:ab->ab->ab)
def kp(p:ab):List ab:=if 0<=f p then[p]else[]
def cI(p q:ab):List ab:=if f p*f q<0 then[mt p q]else[]
def dw:ZJ->ab->ZJ
 |[],_=>[]
 |p::r,w=>kp f p++cI f mt p (r.headD w)++dw r w
def dB(a:ZJ):List ab:=dw f mt a (a.headD (0,0,1))
end
variable{f:ab->Int}{mt:ab->ab->ab}
theorem Sc(a b:ZJ)(w:ab):(a++b).headD w=a.headD (b.headD w):=by
 cases a<;>rfl
theorem uY(w:ab):∀b a:ZJ,dw f mt (b++a) w=dw f mt b (a.headD w)++dw f mt a w
 |[],_=>rfl
 |p::b,a=>by
  show kp f p++cI f mt p ((b++a).headD w)++dw f mt (b++a) w=kp f p++cI f mt p (b.headD (a.headD w))++dw f mt b (a.headD w)++dw f mt a w
  rw[uY w b a,Sc,SY,SY,SY]
theorem Sd(a b:ZJ):∃P Q,dB f mt (a++b)=P++Q/\dB f mt (b++a)=Q++P:=by
 cases a with
 |nil=>exact⟨[],dB f mt b,rfl,by rw[SR,SR]⟩
 |cons x a=>
  cases b with
  |nil=>exact⟨dB f mt (x::a),[],by rw[SR,SR],rfl⟩
  |cons y b=>
   refine⟨dw f mt (x::a) y,dw f mt (y::b) x,?_,?_⟩
   ·unfold dB;rw[uY];rfl
   unfold dB;rw[uY];rfl
theorem HY{xs ys:ZJ}(h:T0 (dB f mt (ys++xs))/\3<=(dB f mt (ys++xs)).length):T0 (dB f mt (xs++ys))/\3<=(dB f mt (xs++ys)).length:=by
 obtain⟨P,Q,a,b⟩:=Sd (f:=f) (mt:=mt) xs ys;rw[a];rw[b]at h;refine⟨T0.turn h.1,?_⟩;have:=h.2;rw[Sz]at this⊢;lia
theorem CA{w:ab}:∀{a:ab}{A:ZJ},(∀p∈A++[a],0<=f p)->dw f mt (A++[a]) w=A++[a]++cI f mt a w
 |a,[],h=>by
  show kp f a++cI f mt a w++[]=[a]++cI f mt a w
  unfold kp;rw[SL (h a (by simp)),SR]
 |a,p::A,h=>by
  show kp f p++cI f mt p ((A++[a]).headD w)++dw f mt (A++[a]) w=p::A++[a]++cI f mt a w
  rw[CA λq c=>h q (SA _ c)];have d:=h p Sw
  have c:0<=f ((A++[a]).headD w):=by
   cases A with
   |nil=>exact h a (by simp)
   |cons b A=>exact h b (by simp)
  unfold kp cI;rw[SL d,Tk (by have:=Tw d c;lia)];simp
theorem HZ{w:ab}:∀{s:ab}{N:ZJ},(∀p∈N++[s],f p<0)->dw f mt (N++[s]) w=cI f mt s w
 |s,[],h=>by
  show kp f s++cI f mt s w++[]=cI f mt s w
  unfold kp;rw[Tk (by have:=h s (by simp);lia),SR,Tn]
 |s,p::N,h=>by
  show kp f p++cI f mt p ((N++[s]).headD w)++dw f mt (N++[s]) w=cI f mt s w
  rw[HZ λq a=>h q (SA _ a)];have c:=h p Sw
  have a:f ((N++[s]).headD w)<0:=by
   cases N with
   |nil=>exact h s (by simp)
   |cons b N=>exact h b (by simp)
  unfold kp cI;rw[Tk (by lia),Tk (by have:=UB c a;lia)];rfl
def kn(f:ab->Int)(mt:ab->ab->ab):Prop:=∀p q,f p*f q<0->hJ p q (mt p q)
theorem mZ{p q:ab}(h:f p*f q<0):cI f mt p q=[mt p q]:=by unfold cI;rw[SL h]
theorem l8{p q:ab}(h:¬f p*f q<0):cI f mt p q=[]:=by unfold cI;rw[Tk h]
theorem neg_mul{a b:Int}(c:0<a)(d:b<0):a*b<0:=S2 c d
theorem Se{b:ab}{A N:ZJ}{s:ab}(v:kn f mt)(h:T0 ((A++[b])++(N++[s])))(w:∀p∈A++[b],0<=f p)(x:∀p∈N++[s],f p<0)(O:3<=((A++[b])++(N++[s])).length)(P:∃p∈A++[b],0<f p):
  T0 (dB f mt ((A++[b])++(N++[s])))/\3<=(dB f mt ((A++[b])++(N++[s]))).length:=by
 obtain⟨a,d,c⟩:∃a d,A++[b]=a::d:=by
  cases A with
  |nil=>exact⟨b,[],rfl⟩
  |cons a A=>exact⟨a,A++[b],rfl⟩
 obtain⟨n,I,i⟩:∃n I,N++[s]=n::I:=by
  cases N with
  |nil=>exact⟨s,[],rfl⟩
  |cons n N=>exact⟨n,N++[s],rfl⟩
 have Y:0<=f a:=w a (by rw[c];exact Sw);have Z:0<=f b:=w b (by simp);have Q:f n<0:=x n (by rw[i];exact Sw);have J:f s<0:=x s (by simp)
 have e:dB f mt ((A++[b])++(N++[s]))=(A++[b])++cI f mt b n++cI f mt s a:=by
  unfold dB;rw[uY,CA w,HZ x,c,i];rfl
 rw[e]
 have two:N≠[]->T0 ((A++[b])++[n,s]):=λz=>by
  refine T0.sub (UC (Vo _) ?_) h;cases N with
  |nil=>exact absurd rfl z
  |cons m N=>
   have:m=n:=(Uh i).1;subst this;exact WU _ (WV N [s])
 have R:T0 ((A++[b])++[n]):=T0.sub (UC (Vo _) (UQ.mpr (by rw[i];exact Sw))) h;have K:T0 ((A++[b])++[s]):=T0.sub (UC (Vo _) (UQ.mpr (by simp))) h;by_cases y:0<f b
 ·have L:f b*f n<0:=neg_mul y Q;have B:=v b n L;rw[mZ L];by_cases j:0<f a
  ·have k:f s*f a<0:=by rw[S4];exact neg_mul j J
   have o:=v s a k;rw[mZ k];refine⟨?_,by simp⟩;by_cases z:N=[]
   ·subst z;have S:s=n:=(Uh i).1;subst S;cases A with
    |nil=>simp at O
    |cons g u=>
     have:g=a:=(Uh c).1;subst this
     have l:T0 (u++b::s::g::[]):=by
      have:=T0.m9 (a:=g) (r:=u++[b]++[s]) K;simpa using this
     have C:=T0.jG (a:=g) (r:=u++[b,mt b s,mt s g]) (by simpa using l.off B o);simpa using C
   have t:=two z;have l:T0 (A++b::mt b n::[s]):=T0.back (by simpa using t) B
   have C:T0 (a::(d++[mt b n,s])):=by
    have:T0 ((A++[b])++[mt b n,s]):=by simpa using l
    rwa[c]at this
   have E:T0 ((d++[mt b n])++s::a::[]):=by simpa using T0.m9 C
   have F:=T0.jG (a:=a) (r:=d++[mt b n,mt s a]) (by simpa using E.on o);rw[c];simpa using F
  have G:f a=0:=by lia
  have H:A≠[]:=by
   rintro rfl;have:b=a:=(Uh c).1;subst this;exact j y
  rw[l8 (by rw[G,SV];lia),SR];refine⟨?_,?_⟩
  ·have r:=T0.back (xs:=A) (p:=b) (q:=n) (ys:=[]) (by simpa using R) B;simpa using r
  have:=WW.mpr H;simp;lia
 have T:f b=0:=by lia
 rw[l8 (by rw[T,TR];lia),SR];by_cases j:0<f a
 ·have k:f s*f a<0:=by rw[S4];exact neg_mul j J
  have o:=v s a k
  have H:A≠[]:=by
   rintro rfl;have:b=a:=(Uh c).1;subst this;exact y j
  rw[mZ k];refine⟨?_,?_⟩
  ·have l:T0 (a::(d++[s])):=by rwa[c]at K
   have E:T0 (d++s::a::[]):=by simpa using T0.m9 l
   have F:=T0.jG (a:=a) (r:=d++[mt s a]) (by simpa using E.on o);rw[c];exact F
  have:=WW.mpr H;simp;lia
 have G:f a=0:=by lia
 rw[l8 (by rw[G,SV];lia),SR];refine⟨T0.sub (List.sublist_append_left _ _) h,?_⟩;obtain⟨p,U,h1⟩:=P;have W:p≠b:=by rintro rfl;lia
 have X:p≠a:=by rintro rfl;lia
 have M:p∈A:=by
  rcases SO.mp U with q|q
  ·exact q
  exact absurd (SQ.mp q) W
 cases A with
 |nil=>cases M
 |cons g u=>
  have:g=a:=(Uh c).1;subst this;rcases SG.mp M with q|q
  ·exact absurd q X
  have:=List.length_pos_of_mem q;simp;lia
theorem xO{P:ab->Prop}:∀a:ZJ,(∀p,P p\/¬P p)->∃A r,a=A++r/\(∀p∈A,P p)/\(r=[]\/∃x c,r=x::c/\¬P x)
 |[],_=>⟨[],[],rfl,λp d=>absurd d (by simp),.inl rfl⟩
 |p::a,em=>by
  rcases em p with h|h
  ·obtain⟨A,r,e,f,g⟩:=xO a em;refine⟨p::A,r,by rw[e];rfl,λq b=>?_,g⟩;rcases SG.mp b with rfl|b
   ·exact h
   exact f q b
  exact⟨[],p::a,rfl,λq b=>absurd b (by simp),.inr ⟨p,a,rfl,h⟩⟩
theorem H1{l p q r s:ab}(h:T0 [p,q,r,s]):¬(0<=ln l p/\ln l q<0/\0<=ln l r/\ln l s<0)/\¬(ln l p<0/\0<=ln l q/\ln l r<0/\0<=ln l s):=by
 obtain⟨⟨e,m,_⟩,⟨n,_⟩,_⟩:=h;have f:=e r (by simp);have g:=e s (by simp);have i:=m s (by simp);have j:=n s (by simp);have k:=Sb l p q r s;constructor
 ·rintro⟨a,b,c,d⟩;have o:=Tw (fR j) a;have t:=S2 i b;have u:=Tw (fR g) c;have v:=S2 f d;lia
 rintro⟨a,b,c,d⟩;have o:=S2 j a;have t:=Tw (fR i) b;have u:=S2 g c;have v:=Tw (fR f) d;lia
theorem H2{a b c d:ab}{A B C D:ZJ}(e:a∈A)(f:b∈B)(g:c∈C)(h:d∈D):[a,b,c,d].Sublist (A++(B++(C++D))):=
 UC (UQ.mpr e) (UC (UQ.mpr f) (UC (UQ.mpr g) (UQ.mpr h)))
theorem H3{l:ab}{o:ZJ}(aq:kn (ln l) mt)(h:T0 o)(i:3<=o.length)(f:∃p∈o,0<ln l p):T0 (dB (ln l) mt o)/\3<=(dB (ln l) mt o).length:=by
 have em:∀p,0<=ln l p\/¬0<=ln l p:=λp=>by lia
 have norm:∀A N:ZJ,A≠[]->N≠[]->T0 (A++N)->3<=(A++N).length->(∀p∈A,0<=ln l p)->(∀p∈N,ln l p<0)->(∃p∈A,0<ln l p)->T0 (dB (ln l) mt (A++N))/\3<=(dB (ln l) mt (A++N)).length:=λA N au av aw M ax ay az=>by
  obtain⟨g,b,rfl⟩:∃g b,A=g++[b]:=⟨_,_,(V9 au).symm⟩;obtain⟨T,s,rfl⟩:∃T s,N=T++[s]:=⟨_,_,(V9 av).symm⟩;exact Se aq aw ax ay M az
 obtain⟨u,r,rfl,E,aB⟩:=xO (P:=λp=>0<=ln l p) o em;rcases aB with rfl|⟨x,aC,rfl,aD⟩
 ·rw[SR]at h i f⊢;have aE:u≠[]:=by rintro rfl;simp at i
  obtain⟨g,b,rfl⟩:∃g b,u=g++[b]:=⟨_,_,(V9 aE).symm⟩
  have e:dB (ln l) mt (g++[b])=g++[b]:=by
   unfold dB;rw[CA E,l8,SR];have U:=E b (by simp)
   have aG:0<=ln l ((g++[b]).headD (0,0,1)):=by
    cases g with
    |nil=>exact U
    |cons a g=>exact E a (by simp)
   have:=Tw U aG;lia
  rw[e];exact⟨h,i⟩
 obtain⟨m,W,F,aH,O⟩:=xO (P:=λp=>¬0<=ln l p) (x::aC) (λp=>by lia)
 have Q:m≠[]:=by
  rintro rfl;rcases O with rfl|⟨y,q,e,k⟩
  ·cases F
  rw[e]at F;have:x=y:=(Uh F).1;subst this;exact k aD
 have n:∀p∈m,ln l p<0:=λp f=>by have:=aH p f;lia
 obtain⟨G,H⟩:=V' m Q;rw[F]at h i f⊢;by_cases R:u=[]
 ·subst R;simp only[Tn]at h i f⊢;rcases O with rfl|⟨y,q,rfl,k⟩
  ·obtain⟨p,v,I⟩:=f;rw[SR]at v;have:=n p v;lia
  have k:0<=ln l y:=by lia
  obtain⟨J,X,K,Y,Z⟩:=xO (P:=λp=>0<=ln l p) (y::q) em
  have hi:J≠[]:=by
   rintro rfl;rcases Z with rfl|⟨z,ae,e,S⟩
   ·cases K
   rw[e]at K;have:y=z:=(Uh K).1;subst this;exact S k
  rw[K]at h i f⊢
  have ag:∀w∈X,ln l w<0:=λw j=>by
   rcases Z with rfl|⟨z,ae,rfl,S⟩
   ·cases j
   by_cases L:0<=ln l w
   ·rcases SG.mp j with rfl|j
    ·exact absurd L S
    obtain⟨ai,hc⟩:=V' J hi;have t:=T0.sub (H2 (a:=G) (b:=ai) (c:=z) (d:=w) (A:=m) (B:=J) (C:=[z]) (D:=ae) H hc Sw j) (by simpa using h);exact absurd ⟨n G H,Y ai hc,by lia,L⟩ (H1 t).2
   lia
  refine HY ?_;rw[SY];refine norm J (X++m) hi (by simp[Q]) (by rw[<-SY];exact T0.turn h) (by simp at i⊢;lia) Y (λp f=>?_) ?_
  ·rcases SO.mp f with z|z
   ·exact ag p z
   exact n p z
  obtain⟨p,v,I⟩:=f;refine⟨p,?_,I⟩;rcases SO.mp v with z|z
  ·have:=n p z;lia
  rcases SO.mp z with z|z
  ·exact z
  have:=ag p z;lia
 obtain⟨aj,ao⟩:=V' u R
 have aI:∀w∈W,0<=ln l w:=λw j=>by
  rcases O with rfl|⟨y,q,rfl,k⟩
  ·cases j
  by_cases L:0<=ln l w
  ·exact L
  have k:0<=ln l y:=by lia
  rcases SG.mp j with rfl|j
  ·exact k
  have t:=T0.sub (H2 (a:=aj) (b:=G) (c:=y) (d:=w) (A:=u) (B:=m) (C:=[y]) (D:=q) ao H Sw j) (by simpa using h);exact absurd ⟨E aj ao,n G H,k,by lia⟩ (H1 t).1
 rw[<-SY]at h i f⊢;refine HY ?_;rw[<-SY];refine norm (W++u) m (by simp[R]) Q (by rw[SY];exact T0.turn h) (by simp at i⊢;lia) (λp f=>?_) n ?_
 ·rcases SO.mp f with z|z
  ·exact aI p z
  exact E p z
 obtain⟨p,v,I⟩:=f;refine⟨p,?_,I⟩;rcases SO.mp v with z|z
 ·rcases SO.mp z with z|z
  ·exact S3 _ z
  have:=n p z;lia
 exact Tx _ z
end
def a0(l p q:ab):ab:=if 0<p.2.2/\0<q.2.2 then nP (a_ l (a_ p q))else if 0<ln l q then gA (ln l q) p (-ln l p) q else gA (-ln l q) p (ln l p) q
theorem m1{x y:Int}(h:x*y<0):(0<x/\y<0)\/(x<0/\0<y):=by
 rcases T6 x 0 with z|z|z
 ·rcases T6 y 0 with w|w|w
  ·have:=UB z w;lia
  ·rw[w,SV]at h;lia
  exact .inr ⟨z,w⟩
 ·rw[z,TR]at h;lia
 rcases T6 y 0 with w|w|w
 ·exact .inl ⟨z,w⟩
 ·rw[w,SV]at h;lia
 have:=SD z w;lia
theorem H8(p:ab):sc 1 p=p:=by unfold sc;simp
theorem Sk{g a b:Int}{m p q:ab}(h:gA a p b q=sc g m):sc (-g) m=gA (-a) p (-b) q:=by
 have c:=TW (λx:ab=>x.1) h;have d:=TW (λx:ab=>x.2.1) h;have e:=TW (λx:ab=>x.2.2) h;unfold sc gA at *;dsimp only at c d e⊢;refine fh ?_ ?_ ?_<;>dsimp only<;>grind
theorem sZ{l p q:ab}(h:ln l p*ln l q<0):hJ p q (a0 l p q):=by
 unfold a0;by_cases w:0<p.2.2/\0<q.2.2
 ·rw[SL w];have e:a_ l (a_ p q)=gA (ln l q) p (-ln l p) q:=uV l p q;have n:(a_ l (a_ p q)).2.2=ln l q*p.2.2 + -ln l p*q.2.2:=by rw[e];rfl
  rcases m1 h with⟨c,a⟩|⟨c,a⟩
  ·have j:ln l q*p.2.2<0:=by rw[S4];exact S2 w.1 a
   have k : -ln l p*q.2.2<0:=by rw[S4];exact S2 w.2 (by lia)
   have d:(a_ l (a_ p q)).2.2≠0:=by lia
   obtain⟨g,_,b⟩:=kd d;have f:=(gK d).1;have m:(a_ l (a_ p q)).2.2=g*(nP (a_ l (a_ p q))).2.2:=TW (λx:ab=>x.2.2) b
   have i:g<0:=by
    by_cases z:g<0
    ·exact z
    have:=Tw (show 0<=g by lia) (fR f);lia
   rw[e]at b;refine⟨-g,-ln l q,ln l p,by lia,by lia,c,?_⟩;have:=Sk b;rwa[V7,<-e]at this
  have j:0<ln l q*p.2.2:=SD a w.1;have k:0 < -ln l p*q.2.2:=SD (by lia) w.2;have d:(a_ l (a_ p q)).2.2≠0:=by lia
  obtain⟨g,_,b⟩:=kd d;have f:=(gK d).1;have m:(a_ l (a_ p q)).2.2=g*(nP (a_ l (a_ p q))).2.2:=TW (λx:ab=>x.2.2) b
  have i:0<g:=by
   by_cases z:0<g
   ·exact z
   have:=Tw (show 0 <= -g by lia) (fR f);rw[Uc]at this;lia
  refine⟨g,ln l q,-ln l p,i,a,by lia,?_⟩;rw[<-b,e]
 rw[Tk w];rcases m1 h with⟨c,a⟩|⟨c,a⟩
 ·rw[Tk (by lia)];exact⟨1,_,_,by decide,by lia,c,H8 _⟩
 rw[SL a];exact⟨1,_,_,by decide,a,by lia,H8 _⟩
theorem xR(l p q:ab)(a b:Int):ln l (gA a p b q)=a*ln l p+b*ln l q:=by unfold ln gA;dsimp only;grind
theorem CG(l p:ab)(s:Int):ln l (sc s p)=s*ln l p:=by unfold ln sc;dsimp only;grind
theorem H9{f:ab->Int}{mt:ab->ab->ab}{x:ab}:∀{b:ZJ}{w:ab},x∈dw f mt b w->(x∈b/\0<=f x)\/∃p∈b,∃q,(q∈b\/q=w)/\f p*f q<0/\x=mt p q
 |[],_,h=>by cases h
 |p::r,w,h=>by
  have h:x∈kp f p++cI f mt p (r.headD w)++dw f mt r w:=h;rcases SO.mp h with h|h
  ·rcases SO.mp h with h|h
   ·unfold kp at h;split at h
    ·rename_i z
     rw[SQ.mp h];exact .inl ⟨Sw,z⟩
    cases h
   unfold cI at h;split at h
   ·rename_i z
    refine .inr ⟨p,Sw,r.headD w,?_,z,SQ.mp h⟩;cases r with
    |nil=>exact .inr rfl
    |cons y r=>exact .inl (SA _ Sw)
   cases h
  rcases H9 h with⟨c,a⟩|⟨d,c,q,a,e,g⟩
  ·exact .inl ⟨SA _ c,a⟩
  refine .inr ⟨d,SA _ c,q,?_,e,g⟩;rcases a with a|a
  ·exact .inl (SA _ a)
  exact .inr a
theorem xS{f:ab->Int}{mt:ab->ab->ab}{x:ab}{b:ZJ}(h:x∈dB f mt b):(x∈b/\0<=f x)\/∃p∈b,∃q∈b,f p*f q<0/\x=mt p q:=by
 rcases H9 h with h|⟨p,d,q,c,e⟩
 ·exact .inl h
 refine .inr ⟨p,d,q,?_,e⟩;rcases c with c|c
 ·exact c
 cases b with
 |nil=>cases d
 |cons a r=>rw[c];exact Sw
section
variable{X:aT}{a:ZX}{d:St}{H:ak}{s:Tl}{h':XE}
theorem c_.ky{t':Nat}{it e:TE}(I:c_ X a d H s)(k:∀b o,b≠it->b≠e->s.heap.get? b=some o->h'.get? b=some o)(p:g0 X a H it)(t:g0 X a H e):c_ X a d H {s with heap:=h',toks:=t' }:=by
 obtain⟨w,j,N,x,A,B⟩:=p;obtain⟨C,l,O,E,F,G⟩:=t;have g:∀b u,H b=some u->b≠it/\b≠e:=λb u q=>⟨(λz=>by rw[z,w]at q;cases q),(λz=>by rw[z,C]at q;cases q)⟩;have h:∀b o,b∉[it,e]->s.heap.get? b=some o->h'.get? b=some o:=λb o f q=>k b o (λz=>f (by simp[z])) (λz=>f (by simp[z])) q
 refine I.step (g':=s.gens) (d':=s.drawn) (ch:=[it,e]) (λb i=>?_) (λb o _ _ f q _=>h b o f q) (λb o _ _ f q _=>⟨o.slots,h b o f q⟩) (λ_ _ _ _ n=>n)
  (λb o f q=>⟨o,h b o f q⟩) (λ_ _ e=>e) (λ_ _ _ e=>e) (λb P q=>⟨#[],by rw[q];simp⟩) (λm J=>?_) (λb u q=>?_) I.bare
 ·rcases SG.mp i with rfl|i
  ·exact⟨x,j,A,B⟩
  rw[SQ.mp i];exact⟨E,l,F,G⟩
 ·obtain⟨o,K,L,M,r⟩:=J;exact⟨o,K,L,k _ o (Ta j) (Ta l) M,r⟩
 refine(I.ep b u q).gj (λc v f y=>k c v ?_ ?_ y) (λ_ q=>q) (λ_ _ q=>q) λ_ _ _ q=>q
 ·rcases f with z|z
  ·rw[z];exact(g b u q).1
  exact(g c _ z).1
 rcases f with z|z
 ·rw[z];exact(g b u q).2
 exact(g c _ z).2
end
def Ia(K:Su)(a:TE):hA:=
 ⟨λi H=>∃b x,cE K H a b/\b[i]?=some x,λi H x c=>∃p y,H p=none/\x=.ref p/\c=ed H p (.tup [.int i,y])/\∀b,cE K H a b->b[i]?=some y,λi H=>∃b,cE K H a b/\b.length<=i⟩
theorem Sl{P:WP}{w:Xy}{K:Su}{ai:ZV}{k:Nat}{B:Pos}(a it e:TE)(R:e≠it):pP P w K (.Tuple ai k B) (Ia K a) [e,it] e (λi h=>(∃g,IsEnum h e it (i:Nat) g)/\h.IsListIter it a i) where
 mem:=by simp
 obj:=λi h st b l=>by
  obtain⟨⟨g,j⟩,o,C,c,d⟩:=st;rcases SG.mp l with rfl|l
  ·exact⟨_,j,λv z=>by cases z⟩
  rw[SQ.mp l];exact⟨o,C,λv z=>by rw[d]at z;cases z⟩
 keep:=λi h h' st kp=>by
  obtain⟨⟨g,j⟩,m⟩:=st;exact⟨⟨g,kp e (by simp) _ j⟩,m.at λo q=>kp it (by simp) o q⟩
 item:=by
  intro X F G J S i r s T H E I t st L;subst F G J;obtain⟨ao,x,y,M⟩:=L;obtain⟨⟨g,j⟩,m⟩:=st;obtain⟨N,O,p,aq⟩:=I.list y;obtain⟨u,au,av⟩:=O.get M;have U:=t e (by simp);have W:=t it (by simp);have aw:e<s.heap.objs.size:=Heap.lt_size j;have az:it<s.heap.objs.size:=by obtain⟨o,C,_⟩:=id m;exact Heap.lt_size C
  refine wpAny_pyNext_enum_item j m p.isList (x:=u) (by simpa using au) R λa4 Q aB aC a5 kp=>⟨_,rfl,wpAny_letOwnedTupleGo_enum Q λaD aH Y=>?_⟩;have Z:s.heap.objs.size≠e:=T9 aw;have af:s.heap.objs.size≠it:=T9 az
  have aI:c_ X r T (ed H s.heap.objs.size (.tup [.int i,x])) {s with heap:=s.heap.push {cls:=.type "tuple",data:=.seq #[.int i s.toks,u]},toks:=s.toks+1}:=
   I.laid (t':=s.toks+1) (λ_ _ q=>Heap.get?_push_of_some _ q) (SF _) ⟨e1,[.int i s.toks,u],.cons ⟨_,rfl⟩ (.cons av .nil),⟨_,Heap.get?_push_size _ rfl,rfl,_,rfl⟩⟩
  have A:∀b,g0 X r H b->b≠s.heap.objs.size->g0 X r (ed H s.heap.objs.size (.tup [.int i,x])) b:=λb f n=>⟨by rw[bP n];exact f.1,f.2⟩
  have aJ:=aI.ky (h':=aD) (t':=s.toks+1) (it:=it) (e:=e) (λb o aM ag q=>by
   rw[Y.2 b ag];by_cases z:b=s.heap.objs.size
   ·subst z;rw[Heap.get?_push_size _ rfl]at q;rw[<-q];exact aC
   refine kp b o ag aM ?_;rw[<-q]
   exact(Heap.get?_push_ne s.heap b _ z).symm) (A it W (Ta af)) (A e U (Ta Z))
  refine⟨.ref s.heap.objs.size,_,aJ,rfl,⟨s.heap.objs.size,x,I.fresh,rfl,rfl,λba aN=>by rw[I.hu aN y];exact M⟩,⟨⟨_,aH⟩,aB.at λo q=>(Y.2 it (Ta R)).trans q⟩,λb l=>?_⟩;rcases SG.mp l with rfl|l
  ·exact(A _ U (Ta Z)).1
  rw[SQ.mp l];exact(A it W (Ta af)).1
 done:=by
  intro X F G J S i r s T H E I t st L;subst F G J;obtain⟨ao,y,M⟩:=L;obtain⟨⟨g,j⟩,m⟩:=st;obtain⟨N,O,p,aq⟩:=I.list y;obtain⟨aO,aP,bc,aQ,aS,aX⟩:=t it (by simp);have bf:=O.length;exact wpAny_pyNext_enum_end (I.ok.hd S) j m p.isList (by simp;lia) λh' a3=>⟨rfl,I.turned (t':=s.toks) (λb o l q=>a3 b o l q) aO aP aQ aS aX⟩
 self:=λ_ _ _ _ _ st h=>by
  obtain⟨⟨g,j⟩,_⟩:=st;exact wpAny_pyIter_enum j h
def Sn(K:Su)(c:e3):gP:=λd H R=>c d H λe b=>∃a,e=[.ref a]/\(∃f,cE K b a f)/\R (Ia K a) b
theorem So{X:aT}{m:ZV}{k:Nat}{n:Pos}{a:Wp}{i:e3}{p f:Pos}(o:eG X "enumerate")(t:X.mg "enumerate"=none)(v:hg X [a] i)(w:UF [a] X.env=[(false,Yk a X.env)]:=by rfl):iU X (.Tuple m k n) (.Call (.Name "enumerate" p) [a] [] f) (Sn X.K i):=by
 intro x s y H R I h;refine Call_ (oE I o t (by decide +kernel:XM "enumerate"=some (.type "enumerate")) (UZ (cq (v f x s y H _ I h) λJ c ⟨L,z,d,A,B⟩=>?_) w rfl));obtain⟨l,e,⟨M,C⟩,q⟩:=B;subst e;obtain⟨u,rfl,r⟩:=fo A;cases r;obtain⟨E,N,F,O⟩:=d.list C;refine call_enumerate_list F.isList λP j G Q kp=>wpAny_pyIter_enum j ?_;refine⟨c.heap.objs.size+1,[c.heap.objs.size+1,c.heap.objs.size],_,_,z,rfl,d.kept (t':=c.toks) kp,Sl l c.heap.objs.size (c.heap.objs.size+1) (Nat.succ_ne_self _),⟨⟨_,j⟩,G⟩,λb g=>?_,q⟩;rcases SG.mp g with rfl|g
 ·exact d.hC (Ux _) (d.ep.fresh (Ux _))
 rw[SQ.mp g];exact d.hC (SF _) (d.ep.fresh (SF _))
def u2:Nat->ZK->ZK
 |_,[]=>[]
 |n,d::r=>.tup [.int (n:Nat),d]::u2 (n+1) r
def Sp(u:bd)(g:eU)(s:cB):cB:=λU a=>u a λd=>∃b,d=.lst b/\j7 g s U (u2 0 b) a
section
variable{X:aT}{a:Wp}{u:bd}{b p:Pos}
theorem Sq{T:ZV}{k:Nat}{Y:Pos}{C:ZW}{g:eU}{s:cB}(aU:YQ (UV X.prog X.w) X.A X.env X.xe)(aV:X.calm=true)(a3:br X a u)(a4:eG X "enumerate")(a6:X.mg "enumerate"=none)(a':j3 X (.Tuple T k Y) g)(bb:hE X C s)(Z:UF [a] X.env=[(false,Yk a X.env)]:=by rfl)(bc:∀x,WF (.Call (.Name "enumerate" p) [a] [] b) X.env x=pure x:=by intro _;rfl){bj:Pos}:
  eV X (.For (.Tuple T k Y) (.Call (.Name "enumerate" p) [a] [] b) C [] bj) (Sp u g s):=by
 obtain⟨_,bw,bA⟩:=a3;obtain⟨_,bD,bG⟩:=a';obtain⟨_,bK,bL⟩:=bb;refine⟨_,AM aU aV (So a4 a6 (d8 bw fa (by rw[eN,Z];rfl)) Z) bD bK bc,λU ai h R W B H bM D e L=>?_⟩;refine bA ai _ h R W B H bM _ e λd v M b8 N aj bR bS=>?_;obtain⟨o,rfl,N⟩:=N;obtain⟨l,E,rfl,ax,O⟩:=bS.fk;refine⟨l,rfl,⟨E,cE.of (aj.bh _ _ ax)⟩,?_⟩;refine⟨λi m t j=>∃f c,m=o.length-i/\i<=o.length/\j7 g s U (u2 i (o.drop i)) f/\aL X.K R W c j t f/\bx R B c/\cj M c,⟨o.length,ai,M,by simp,Td _,N,aj,bR,cj.refl _⟩,?_⟩;rintro i m aD aE ⟨aI,bT,rfl,b9,F,G,aJ,P⟩;have Q:cE X.K aE l E:=cE.of (G.bh _ _ (P _ _ ax));by_cases I:i<o.length
 ·have S:i<E.length:=by rw[O.length];exact I
  refine .inr ⟨⟨E,E[i],Q,S0 S⟩,λt j=>∃f c,j7 g s U (u2 (i+1) (o.drop (i+1))) f/\aL X.K R W c j t f/\bx R B c/\cj M c,?_,?_⟩
  ·rintro t j ⟨f,c,z,n,bU,bV⟩;exact⟨o.length-(i+1),by lia,f,c,rfl,I,z,n,bU,bV⟩
  rintro x j ⟨q,y,aN,rfl,rfl,bX⟩;obtain⟨d,aO,bY⟩:=O.fK (bX E Q)
  have bZ:o.drop i=d::o.drop (i+1):=by
   rw[Up I];rw[S0 I]at aO;rw[SN aO]
  rw[bZ]at F;have g3:=G.grow aN (.tup [.int i,y]);have b0:=G.alloc aN (.tup [.int i,y]);refine bG _ aI _ F R W _ _ aD (.ref q) _ b0 (.tup dL (.cons (.int _) (.cons (bY.mono (P.trans g3.s)) .nil))) λf t b6 n _=>?_;have J:=aJ.trans g3;have aP:=P.trans g3.s;exact bL _ f b6 R W _ _ t _ n ⟨λf t c j z n g=>⟨f,c,z,n,J.trans g,aP.trans g.s⟩,λf t c j z n g=>L.nx f t c j z n (J.trans g),λf t c j z n g=>⟨f,c,z,n,J.trans g,aP.trans g.s⟩,λr v c j z n g q=>L.rt r v c j z n (J.trans g) q⟩
 have ei:i=o.length:=by lia
 subst ei;rw[Uy]at F;exact .inl ⟨⟨E,Q,by rw[O.length];exact SF _⟩,L.nx aI aD bT aE F G aJ⟩
end
theorem Ie{c:Type}{f:c->D}{s:cB}{U:hD}{i j:Nat}(I:List c->ZI->Prop):∀{b done:List c}{a:ZI},I done a->
  (∀(pre:List c)(r:c)(d:List c) a,done++b=pre++r::d->I pre a->∀N:ZI->Prop,(∀h,I (pre++[r]) h->N h)->s {U with nx:=N,ct:=N,bk:=U.nx} ((a.set i (.val (.int pre.length))).set j (.val (f r))))->(∀a,I (done++b) a->U.nx a)->
  j7 (mK 2 (hr (fp i) (hr (fp j) mJ))) s U (u2 done.length (b.map f)) a
 |[],done,a,k,_,g=>g a (by rw[SR];exact k)
 |r::b,done,a,k,l,g=>by
  refine⟨_,rfl,rfl,_,_,rfl,_,_,rfl,rfl,l done r b a rfl k _ λh m=>?_⟩;have e:done++r::b=(done++[r])++b:=by simp
  rw[e]at l g;have:=Ie I m l g;rwa[Sz]at this
theorem Ig{x y:Int}:cM x*cM y<0↔x*y<0:=by
 constructor
 ·intro h;rcases m1 h with⟨a,b⟩|⟨a,b⟩
  ·have c:0<x:=by unfold cM at a;split at a<;>first|assumption|(split at a<;>lia)
   have d:y<0:=by unfold cM at b;split at b<;>first|lia|(split at b<;>first|assumption|lia)
   exact S2 c d
  have c:x<0:=by unfold cM at a;split at a<;>first|lia|(split at a<;>first|assumption|lia)
  have d:0<y:=by unfold cM at b;split at b<;>first|assumption|(split at b<;>lia)
  rw[S4];exact S2 d c
 intro h;rcases m1 h with⟨a,b⟩|⟨a,b⟩
 ·have e:cM x=1:=qh a;have f:cM y = -1:=by unfold cM;rw[Tk (by lia),SL b]
  rw[e,f];decide
 have e:cM x = -1:=by unfold cM;rw[Tk (by lia),SL a]
 have f:cM y=1:=qh b;rw[e,f];decide
theorem Ih{x:Int}:0<=cM x↔0<=x:=by unfold cM;split<;>first|lia|(split<;>lia)
theorem Ii{x:Int}:cM x<=0↔x<=0:=by unfold cM;split<;>first|lia|(split<;>lia)
theorem DH{pre a:ZJ}{c b:ab}(h:(pre++c::a).headD b=b):bC (pre++c::a) ((pre.length+1)%(pre++c::a).length)=a.headD b:=by
 cases a with
 |nil=>
  have e:(pre.length+1)%(pre++[c]).length=0:=by rw[Sz];simp
  rw[e];cases pre with
  |nil=>exact h
  |cons p pre=>exact h
 |cons d a=>
  rw[Tg (by simp)];unfold bC;rw[Tq (by lia)];simp
theorem CJ{b:Type}{a:List b}{i:Nat}{x:b}(h:a[i]?=some x):eB a (i:Int)=some x:=by
 have lt:i<a.length:=(TM.mp h).1;unfold eB
 have e:L3.jg a.length (i:Int)=some i:=by
  unfold L3.jg;rw[SL (by lia)];simp[lt]
 rw[e];exact h
theorem DG{a:Type}{h:ab->a}{pre rest:ZJ}{c:ab}:eB ((pre++c::rest).map h) (pre.length:Int)=some (h c):=by
 refine CJ ?_;rw[SP,Tq (SF _)];simp
theorem Ij{f:Type}{h:ab->f}{b pre a:ZJ}{c d:ab}(e:b=pre++c::a)(g:b.headD d=d):eB (b.map h) (((pre.length:Int)+1)%(b.length:Int))=some (h (a.headD d)):=by
 subst e;have i:0<(pre++c::a).length:=by rw[Sz,SK];lia
 have lt:=UA (pre.length+1) i;have j:((pre.length:Int)+1)%((pre++c::a).length:Int)=(((pre.length+1)%(pre++c::a).length:Nat):Int):=by rw[Int.natCast_emod];rfl
 rw[j];refine CJ ?_;rw[SP];have:=DH g;unfold bC at this;rw[S0 lt]at this⊢;simp at this;simp[this]
theorem xW{f:ab->Int}{mt:ab->ab->ab}{pre:ZJ}{c w:ab}:dw f mt (pre++[c]) w=dw f mt pre c++kp f c++cI f mt c w:=by
 rw[uY];show dw f mt pre c++(kp f c++cI f mt c w++[])=_
 rw[SR,SY]
theorem CK{f:ab->Int}{mt:ab->ab->ab}:∀{ps:ZJ}{w:ab},(dw f mt ps w).length<=2*ps.length
 |[],_=>SF _
 |p::r,w=>by
  show(kp f p++cI f mt p (r.headD w)++dw f mt r w).length<=_
  have h:=CK (f:=f) (mt:=mt) (ps:=r) (w:=w);have a:(kp f p).length<=1:=by unfold kp;split<;>simp
  have b:(cI f mt p (r.headD w)).length<=1:=by unfold cI;split<;>simp
  rw[Sz,Sz,SK];lia
theorem DF(x:Int): -1<=cM x/\cM x<=1:=by unfold cM;split<;>first|lia|(split<;>lia)
theorem Ik(x:Int):VU (cM x)<=9000:=by
 have:=DF x;have a:(10:Int)^30=1000000000000000000000000000000:=rfl;exact Sx (Q1 (by lia) (by lia)) (by decide)
theorem Il{f:ab->Int}{c:ab}(h:0<=f c):kp f c=[c]:=by unfold kp;rw[SL h]
theorem Im{f:ab->Int}{c:ab}(h:¬0<=f c):kp f c=[]:=by unfold kp;rw[Tk h]
theorem n8{l p q:ab}(a:aW p)(b:aW q):nP (a_ l (a_ p q))=a0 l p q:=by unfold a0;rw[SL ⟨a.1,b.1⟩]
theorem n9{l p q:ab}(e:aW p)(f:aW q)(h:ln l p*ln l q<0):(a_ l (a_ p q)).2.2≠0:=by
 rw[show(a_ l (a_ p q)).2.2=ln l q*p.2.2 + -ln l p*q.2.2 by rw[uV l p q];rfl];have c:=e.1;have d:=f.1;rcases m1 h with⟨a,b⟩|⟨a,b⟩
 ·have g:ln l q*p.2.2<0:=by rw[S4];exact S2 c b
  have i : -ln l p*q.2.2<0:=by rw[S4];exact S2 d (by lia)
  lia
 have g:0<ln l q*p.2.2:=SD b c;have i:0 < -ln l p*q.2.2:=SD (by lia) d;lia
theorem Io{l:ab}{b:ZJ}:D.int 1∈b.map (λc=>D.int (cM (ln l c)))↔∃c∈b,0<ln l c:=by
 rw[SJ];constructor
 ·rintro⟨c,a,e⟩;exact⟨c,a,HP (D.int.inj e)⟩
 rintro⟨c,a,h⟩;exact⟨c,a,by rw[qh h]⟩
theorem xX{l:ab}{b:ZJ}:D.int (-1)∈b.map (λc=>D.int (cM (ln l c)))↔∃c∈b,ln l c<0:=by
 rw[SJ];constructor
 ·rintro⟨c,a,e⟩;refine⟨c,a,?_⟩;have:=D.int.inj e;unfold cM at this;split at this
  ·lia
  split at this<;>lia
 rintro⟨c,a,h⟩;exact⟨c,a,by unfold cM;rw[Tk (by lia),SL h]⟩
def lz:aA->aA
 |.new d=>.val d
 |.pin _ d=>.val d
 |.own (.d _ _ _ _)=>.no
 |.deep _=>.no
 |s=>s
def fZ(s:aA):aA:=xx (lz s)
section
variable{K:Su}{R:ak}{W:TE->Prop}{B r H t:ak}{p:St}{f:ZI}
theorem DE:(f.map lz).map xx=f.map fZ:=by rw[SM];rfl
theorem Ip{i:Nat}{a:TE}(m:cg p (f.map lz) i a):cg p f i a:=by
 rcases m with⟨e,b⟩|⟨c,e,_⟩
 rotate_left
 ·rw[SP]at e;cases q:f[i]? with
  |none=>rw[q]at e;cases e
  |some g=>
   rw[q]at e;cases g with
   |own h=>cases h<;>cases e
   |_=>cases e
 refine .inl ⟨e,?_⟩;rw[SP]at b;cases q:f[i]? with
 |none=>rw[q]at b;rcases b with b|⟨_,b⟩<;>cases b
 |some g=>
  rw[q]at b;cases g with
  |bag=>exact .inl rfl
  |own h=>exact .inr ⟨h,rfl⟩
  |no=>rcases b with b|⟨_,b⟩<;>cases b
  |new d=>rcases b with b|⟨_,b⟩<;>cases b
  |pin v d=>rcases b with b|⟨_,b⟩<;>cases b
  |deep d=>rcases b with b|⟨_,b⟩<;>cases b
  |val d=>rcases b with b|⟨_,b⟩<;>cases b
theorem Iq{i:Nat}:(f.map lz)[i]?=some .bag↔f[i]?=some .bag:=by
 rw[SP];constructor
 ·intro h;cases q:f[i]? with
  |none=>rw[q]at h;cases h
  |some a=>
   rw[q]at h;cases a with
   |bag=>rfl
   |own b=>cases b<;>cases h
   |no=>cases h
   |new d=>cases h
   |pin v d=>cases h
   |deep d=>cases h
   |val d=>cases h
 intro h;rw[h];rfl
theorem CL{a:TE}:gL W p (f.map lz) a↔gL W p f a:=by
 unfold gL;constructor
 ·rintro(h|⟨i,b,c⟩)
  ·exact .inl h
  exact .inr ⟨i,b,Iq.mp c⟩
 rintro(h|⟨i,b,c⟩)
 ·exact .inl h
 exact .inr ⟨i,b,Iq.mpr c⟩
theorem aL.wide(e:aL K R W B H p f):aL K R W (hY R W B) H p (f.map lz):=by
 have r:∀a,R a=none->hY R W B a=B a:=λa h=>xr λx z=>by rw[h]at z;cases z
 refine⟨⟨e.fr,G8 e.toWd,λa z=>by rw[B1 z];exact e.wb a z,e.wh,e.wr⟩,by rw[Sv];exact e.len,λi k h=>?_,λi j a t u=>e.sep i j a (Ip t) (Ip u)⟩;rw[SP]at h;cases q:f[i]? with
 |none=>rw[q]at h;cases h
 |some w=>
  rw[q]at h;have h:=SN h;subst h;have z:=e.ok i _ q;cases w with
  |no=>trivial
  |new d=>exact z
  |pin v d=>exact⟨v,z⟩
  |deep c=>trivial
  |val d=>
   obtain⟨v,m,g⟩:=z;exact⟨v,m,g.mono (G7 e.toWd)⟩
  |own s=>
   cases s with
   |d _ _ _ _=>trivial
   |l s=>
   obtain⟨a,m,g,n,o⟩:=z;exact⟨a,m,g,by rw[r a g];exact n,o.mono (G7 e.toWd) rfl⟩
  |bag=>
   obtain⟨b,m,g,n,o⟩:=z;refine⟨b,m,g,?_,o⟩;rcases g with g|g
   ·rw[B1 g];exact n
   rw[r b g];exact n
theorem u4{a:TE}{o:eo}(h:B a=some o)(n:∀b,o≠.lst b):dN R B a=some o:=by
 unfold dN;rw[h];cases o with
 |lst b=>exact absurd rfl (n b)
 |_=>rfl
noncomputable abbrev u5(R:ak)(W:TE->Prop)(B H:ak)(p:St)(f:ZI):ak:=qb (hY R W B) H p (f.map lz)
theorem aL.looked(e:aL K R W B H p f){t E:ak}(F:Wd H (gL W p (f.map lz)) t E)(g:bx H (u5 R W B H p f) t):
  ∃r,aL K R W r E p f/\bx R B r/\cj (dN H t) (dN R r)/\∀a,H a=none->r a=t a:=by
 have u:=e.gH (H':=E) (λa o h N=>F.fr a o h λz=>N (CL.mp z)) (λa h=>F.wh a (CL.mpr h))
 obtain⟨v,G,A⟩:∃v:ak,(∀a,H a=none->v a=t a)/\∀a,H a≠none->v a=B a:=
  ⟨λa=>match H a with|none=>t a|some _=>B a,λa h=>by dsimp only;rw[h],λa h=>by
   dsimp only;cases q:H a with
   |none=>exact absurd q h
   |some o=>rfl⟩
 have s:cj B v:=λa o h=>by rw[A a (by rw[e.bh a o h];simp)];exact h
 refine⟨v,u.move ⟨u.fr,λa o h=>?_,λa z=>?_,u.wh,u.wr⟩ s λi a m=>⟨?_,λz=>?_,λ_=>rfl⟩,⟨s,λa o h=>?_⟩,λa o h=>?_,G⟩
 ·by_cases q:H a=none
  ·rw[G a q]at h;exact F.bh a o h
  rw[A a q]at h;exact u.bh a o h
 ·obtain⟨x,y,q,_⟩:=e.wh a z;rw[A a (by rw[q];simp)];exact e.wb a z
 ·rw[A a (e.eP m).2];exact(e.eP m).1
 ·obtain⟨b,C,_,_,I⟩:=u.eQ z;rw[oS m z]at C;cases C;exact I
 ·by_cases q:H a=none
  ·exact .inr (e.toWd.fresh q).1
  rw[A a q]at h;exact .inl h
 have J:=iX a o h;by_cases q:H a=none
 ·have L:v a=some o:=by rw[G a q];exact J
  cases o with
  |lst k=>exact ue L (e.toWd.fresh q).1
  |_=>exact u4 L (λ_ z=>by cases z)
 have nl:∀k,o≠.lst k:=λk z=>by
  subst z;exact q (Bm h).2
 refine u4 ?_ nl;rw[A a q];rcases g.n a o J with z|z
 ·by_cases w:nZ p (f.map lz) a
  ·obtain⟨i,M,O,j⟩:=id w;cases M with
   |d Q S T U=>
    rw[SP]at j;cases q:f[i]? with
    |none=>rw[q]at j;cases j
    |some P=>
     rw[q]at j;have j:=SN j;cases P with
     |own c=>cases c<;>simp[lz]at j
     |_=>simp[lz]at j
   |l M=>
   obtain⟨b,k,C,_,_,I,_⟩:=e.wide.ownAt j;rw[O]at C;cases C;rw[u5,sT w,I]at z;cases z;exact absurd rfl (nl k)
  rw[u5,sU w]at z;rcases B2 z with z|⟨_,_,k,z⟩
  ·exact z
  exact absurd z (nl k)
 exact absurd z q
theorem aL.i6(e:aL K R W B H p f):aL K H (gL W p (f.map lz)) (u5 R W B H p f) H p (f.map fZ):=by
 have:=e.wide.frame;rwa[DE]at this
end
section
variable{K:Su}{X:aT}{e:Wp}{y:ZV}{u:bd}{w:cJ}{i p:Pos}
theorem DD{c:Wp}{a:dJ}(h:hZ X c a):hZ X c (λd k=>a (d.map fZ) k):=by
 obtain⟨_,f,i⟩:=h;refine⟨_,f,λd k h R W B H p Q e q=>?_⟩;refine i _ _ h _ _ _ _ _ _ e.i6 λb r j z l g=>?_;obtain⟨m,n,o,_⟩:=e.looked l.toWd g;exact q b m j z n o
def DC(u:bd):bd:=λa k=>u (a.map fZ) k
theorem Ir(h:lu X e u):lu X e (DC u):=by
 obtain⟨_,a,b⟩:=h;refine⟨_,a,λn k h R W B H o Q e q=>?_⟩;refine b _ _ h _ _ _ _ _ _ e.i6 λd v p c z f g s=>?_;obtain⟨i,j,l,m,_⟩:=e.looked f.toWd g;exact q d v i c z j l (s.mono m)
theorem Is(h:lu X e u):br X e u:=by
 obtain⟨_,a,b⟩:=h;refine⟨_,a,λc k h R W B H f Q e q=>?_⟩;exact b c k h R W B H f _ e λd v g i z j l m=>q d v g i z j l (m.mono iX)
variable{E:Wp}
def CM(u:bd):dJ:=λa k=>u a λx=>∃ds,x=.lst ds/\k (!ds.isEmpty)
theorem CN{a:Wp}{f:bd}(c:br X a f)(j:∀whole,Ze a X.env whole=(do let v <-whole;YO a.pos;Yu [v] (ZA v)):=by intro _;rfl):hZ X a (CM f):=by
 obtain⟨_,l,m⟩:=c;refine⟨_,AU l j,λn k h R W B H o Q e q=>?_⟩;refine m n _ h R W B H o _ e λx v p r s g t u=>?_;obtain⟨b,rfl,w⟩:=s;obtain⟨a,vs,rfl,c,y⟩:=u.fk;refine⟨!vs.isEmpty,.inl ⟨vs,cE.of (g.bh _ _ c),rfl⟩,q _ p r ?_ g t⟩
 have:vs.isEmpty=b.isEmpty:=by
  have i:=y.length;cases vs with
  |nil=>cases b with
   |nil=>rfl
   |cons d b=>simp at i
  |cons v vs=>cases b with
   |nil=>simp at i
   |cons d b=>rfl
 rw[this];exact w
variable{r C:Wp}{l:ZV}{f:XW}{A:List (Str×TE)}{t n:ZS}{o:ZO}{j:eU}{m:dJ}
end
section
variable{K:Su}
def xY:Bool->aA->aA
 |true,.val d=>.new d
 |_,x=>x
def Dy:Bool->aA->Prop
 |false,.val d=>ji d=true
 |_,_=>True
def jM:List Bool->ZI->ZI
 |b::m,x::r=>xY b x::jM m r
 |_,r=>r
def xZ:List Bool->ZI->Prop
 |b::m,x::r=>Dy b x/\xZ m r
 |[],[]=>True
 |_,_=>False
theorem It:∀(m:List Bool)(a:ZI),(jM m a).length=a.length
 |[],[]=>rfl
 |[],_::_=>rfl
 |_::_,[]=>rfl
 |b::m,x::r=>by rw[jM,SK,SK,It m r]
theorem s2{W:TE->Prop}{B:ak}:∀{c:ZL}{f:ZI},j4 K W B c f->∀(m:List Bool),xZ m f->∀(i:Nat)(k:aA),(jM m f)[i]?=some k->
  (∃v d,c[i]?=some v/\k=.new d/\bE K B v d)\/(∃v d,c[i]?=some v/\k=.val d/\bE K B v d/\ji d=true)\/(∃b,c[i]?=some (.ref b)/\k=.bag/\W b/\f[i]?=some .bag)
 |_,_,.nil,[],_,i,k,e=>by simp[jM]at e
 |_,_,.nil,_::_,a,i,k,e=>by cases a
 |_,_,.val h r,[],a,i,k,e=>by cases a
 |_,_,.bag h r,[],a,i,k,e=>by cases a
 |_,_,.val h r,b::m,a,i+1,k,e=>by
  simpa using s2 r m a.2 i k (by simpa[jM]using e)
 |_,_,.bag h r,b::m,a,i+1,k,e=>by
  simpa using s2 r m a.2 i k (by simpa[jM]using e)
 |_,_,.val h r,true::m,a,0,k,e=>by
  simp[jM,xY]at e;subst e;exact .inl ⟨_,_,rfl,rfl,h⟩
 |_,_,.val h r,false::m,a,0,k,e=>by
  simp[jM,xY]at e;subst e;exact .inr (.inl ⟨_,_,rfl,rfl,h,a.1⟩)
 |_,_,.bag h r,b::m,a,0,k,e=>by
  have e:k=.bag:=by cases b<;>(simp[jM,xY]at e;exact e.symm)
  subst e;exact .inr (.inr ⟨_,rfl,rfl,h,rfl⟩)
theorem CO{W:TE->Prop}{B H:ak}(d:cj B H)(f:∀a,W a->B a=none):cj B (hY H W (dN H B)):=λa o h=>by
 have c:=d a o h;have g:¬W a:=λz=>by rw[f a z]at h;cases h
 by_cases q:∃b,o=.lst b
 ·obtain⟨b,rfl⟩:=q;exact xq c g
 rw[xr λb e=>q ⟨b,by rw[c]at e;exact SN e⟩];exact u4 h λb e=>q ⟨b,e⟩
theorem aL.lM{N:ZS}{W:TE->Prop}{B H:ak}{e:ZL}{c:ZI}{m:List Bool}(u:kH c<=1)(s:cj B H)(g:∀a,W a->B a=none/\fX H a)(l:j4 K W B e c)(p:xZ m c):aL K H W (dN H B) H (L3.fP N e) (jM m c++SS (N.length-c.length) .no):=by
 have w:=l.length;have A:=It m c
 have C:∀a,W a->dN H B a=none:=λa h=>by
  cases q:dN H B a with
  |none=>rfl
  |some o=>have:=iX a o q;rw[(g a h).1]at this;cases this
 have t:Wd H W (dN H B) H:=⟨λ_ _ h _=>h,iX.trans s,C,λa h=>(g a h).2,λa h=>by obtain⟨x,y,q,_⟩:=(g a h).2;rw[q];simp⟩
 have lo:∀i,i<c.length->(L3.fP N e)[i]?=(e[i]?).map some:=λi lt=>by
  unfold L3.fP;rw[TJ (by rw[Sv];lia),SP]
 have cs:∀(i:Nat)(k:aA),(jM m c++SS (N.length-c.length) aA.no)[i]?=some k->(i<c.length/\(jM m c)[i]?=some k)\/k=aA.no:=λi k h=>by
  by_cases z:i<(jM m c).length
  ·rw[TJ z]at h;exact .inl ⟨by lia,h⟩
  rw[Tq (by lia)]at h;rw[Un]at h;split at h
  ·exact .inr (SN h).symm
  cases h
 refine⟨t,by unfold L3.fP;simp[w,A],λi k h=>?_,λi j a E F=>?_⟩
 ·rcases cs i k h with⟨lt,h⟩|rfl
  ·rw[lo i lt];rcases s2 l m p i k h with⟨v,d,n,rfl,r⟩|⟨v,d,n,rfl,r,f⟩|⟨b,n,rfl,r,_⟩
   ·rw[n];exact⟨v,rfl,r.mono (CO s λa z=>(g a z).1)⟩
   ·rw[n];exact⟨v,rfl,r.flat f⟩
   rw[n];exact⟨b,rfl,.inl r,t.wb b r,(g b r).2⟩
  trivial
 have one:∀i,cg (L3.fP N e) (jM m c++SS (N.length-c.length) aA.no) i a->c[i]?=some .bag:=λi G=>by
  rcases G with⟨_,z|⟨I,z⟩⟩|⟨_,z,_⟩
  rotate_right
  ·rcases cs i _ z with⟨_,z⟩|z
   ·rcases s2 l m p i _ z with⟨v,d,_,q,_⟩|⟨v,d,_,q,_⟩|⟨b,_,q,_⟩<;>cases q
   cases z
  ·rcases cs i _ z with⟨_,z⟩|z
   ·rcases s2 l m p i _ z with⟨v,d,_,q,_⟩|⟨v,d,_,q,_⟩|⟨b,_,_,_,q⟩
    ·cases q
    ·cases q
    exact q
   cases z
  rcases cs i _ z with⟨_,z⟩|z
  ·rcases s2 l m p i _ z with⟨v,d,_,q,_⟩|⟨v,d,_,q,_⟩|⟨b,_,q,_⟩<;>cases q
  cases z
 exact p5 u (one i E) (one j F)
def Dx(k:aA->Prop):aA->Prop
 |.val d=>k (.new d)
 |.own (.l a)=>k (.new (.lst a))
 |.new d=>k (.new d)
 |_=>False
theorem Iu{P:WP}{w:Xy}{ai:Str->Option SC}{J:XE}{x:Str}{st:XD}{N X:ZS}{aq n:Nat}{F:cb}(m:List Bool)(aD:cG K ai x st X)(S:cy N X (bN st))(aE:X.length=n)(aG:∀(f:TE)(I:SC)(A:Xz)(p:List Tv)(s:Tl)(H:ak)(E:gW),ez aq (A.deeper (U4 x (bN st) s.heap.objs.size f I))->∃u,hE (k6 j0 P w K ai J N x (bN st) f I A p s H E).jD (jZ st) u/\∀L k,L.length=n->F L k->xZ m L/\u {nx:=λ_=>k (.val .non),rt:=Dx k} (jM m L++SS (N.length-n) .no)):ca P w K ai J x X (aq+1) (ck K n F):=by
 refine aD.ok S (λM H Q E h=>?_) (λf I A p s H M Q E aI h=>?_)
 ·obtain⟨W,B,L,k,_,Y,_,_,_,hc,_⟩:=h;rw[hc.length,Y,aE]
 obtain⟨W,B,L,k,aJ,Y,aK,av,aj,hc,q⟩:=h;obtain⟨u,⟨t,aM,au⟩,ao⟩:=aG f I A p s H E aI;obtain⟨aO,ao⟩:=ao L k Y aJ;have ay:=aL.lM (N:=N) (m:=m) (Vk aK) av aj hc aO;rw[Y]at ay
 have Z:∀G C,Wd H W G C->bx H (dN H B) G->∃b,Wd H W b C/\bx H B b/\cj G (dN H b):=λG C O g=>by
  have az:cj B C:=λa o h=>O.fr a o (av a o h) λz=>by rw[(aj a z).1]at h;cases h
  obtain⟨b,h1,hi⟩:∃b:ak,(∀a o,B a=some o->b a=some o)/\∀a,B a=none->b a=G a:=
   ⟨λa=>match B a with|some o=>some o|none=>G a,λa o h=>by dsimp only;rw[h],λa h=>by dsimp only;rw[h]⟩
  refine⟨b,⟨O.fr,λa o h=>?_,λa z=>?_,O.wh,O.wr⟩,⟨h1,λa o h=>?_⟩,λa o h=>?_⟩
  ·cases z:B a with
   |none=>rw[hi a z]at h;exact O.bh a o h
   |some af=>rw[h1 a af z]at h;cases h;exact az a _ z
  ·rw[hi a (aj a z).1];exact O.wb a z
  ·cases z:B a with
   |none=>
    rw[hi a z]at h;rcases g.n a o h with y|y
    ·rw[iX a o y]at z;cases z
    exact .inr y
   |some af=>rw[h1 a af z]at h;cases h;exact .inl rfl
  have aB:b a=some o:=by
   cases z:B a with
   |none=>rw[hi a z];exact h
   |some af=>
    have aC:=az a _ z;rw[O.bh a o h]at aC;cases aC;exact h1 a _ z
  by_cases y:∃M,o=.lst M
  ·obtain⟨M,rfl⟩:=y;refine ue aB ?_;rcases g.n a _ h with y|y
   ·exact(Bm y).2
   exact y
  exact u4 aB λM e=>y ⟨M,e⟩
 refine⟨t,aM,au _ _ ao H W _ H (L3.fP N M) _ ay ⟨λbc bj G C h e g=>?_,λ_ _ _ _ h=>h.elim,λ_ _ _ _ h=>h.elim,λr v G C h e g z=>?_⟩⟩
 ·obtain⟨b,R,T,_⟩:=Z G C e.toWd g;exact q _ _ b C h ⟨R,T,.non⟩
 cases r with
 |no=>exact h.elim
 |bag=>exact h.elim
 |pin v d=>exact h.elim
 |deep c=>exact h.elim
 |val d=>
  obtain⟨b,R,T,U⟩:=Z G C e g;exact q (.new d) v b C h ⟨R,T,bE.mono U z⟩
 |new d=>
  obtain⟨b,R,T,U⟩:=Z G C e g;exact q (.new d) v b C h ⟨R,T,bE.mono U (bE.mono iX z)⟩
 |own c=>
  cases c with
  |d _ _ _ _=>exact h.elim
  |l aP=>
  obtain⟨a,rfl,aQ,aS,bq,aX,a3⟩:=z;have a4:aL K H W G C [] []:=⟨e,rfl,λi k h=>by simp at h,λi j a m=>by rcases m with⟨z,_⟩|⟨_,z,_⟩<;>simp at z⟩;obtain⟨a5,g3⟩:=a4.freeze aX aQ aS λi m=>by rcases m with⟨z,_⟩|⟨_,z,_⟩<;>simp at z
  obtain⟨b,R,T,U⟩:=Z _ C a5.toWd (g.trans g3);exact q (.new (.lst aP)) _ b C h ⟨R,T,bE.mono U (.lst dL (a3.mono g3.s))⟩
end
def c0:ab->ZJ->List (ab×ab)
 |_,[]=>[]
 |z,p::r=>(z,p)::c0 p r
def bW:ab->ZJ->ab
 |z,[]=>z
 |_,p::r=>bW p r
def dv(a:ZJ):List (ab×ab):=c0 (bW (0,0,1) a) a
theorem qo:∀(z:ab)(A B:ZJ),c0 z (A++B)=c0 z A++c0 (bW z A) B
 |_,[],_=>rfl
 |z,p::A,B=>by
  show(z,p)::c0 p (A++B)=(z,p)::(c0 p A++c0 (bW p A) B)
  rw[qo p A B]
theorem qp:∀(z:ab)(A B:ZJ),bW z (A++B)=bW (bW z A) B
 |_,[],_=>rfl
 |_,p::A,B=>qp p A B
theorem s3{z a:ab}{L:ZJ}(h:L≠[]):bW z L=bW a L:=by
 cases L with
 |nil=>exact absurd rfl h
 |cons p r=>rfl
theorem CQ:∀{z:ab}{L:ZJ},L≠[]->bW z L∈L
 |_,[],h=>absurd rfl h
 |z,[p],_=>Sw
 |z,p::q::r,_=>SA _ (CQ (z:=p) (L:=q::r) (by simp))
theorem Iw:∀{z:ab}{L:ZJ}{e:ab×ab},e∈c0 z L->(e.1=z\/e.1∈L)/\e.2∈L
 |_,[],_,h=>by cases h
 |z,p::r,e,h=>by
  rcases SG.mp h with rfl|h
  ·exact⟨.inl rfl,Sw⟩
  obtain⟨a,b⟩:=Iw h;refine⟨.inr ?_,SA _ b⟩;rcases a with a|a
  ·rw[a];exact Sw
  exact SA _ a
theorem lA{L:ZJ}{e:ab×ab}(h:e∈dv L):e.1∈L/\e.2∈L:=by
 have n:L≠[]:=by rintro rfl;cases h
 obtain⟨a,b⟩:=Iw h;refine⟨?_,b⟩;rcases a with a|a
 ·rw[a];exact CQ n
 exact a
section
variable{f:ab->Int}{mt:ab->ab->ab}
theorem x0{C:ab->ab->Prop}(m:∀u v,f u=0->f v=0->C u v):∀{ps:ZJ}{w z:ab},
  (∀p q,(p,q)∈c0 (ps.headD w) (ps.tail++[w])->0<=f p->0<=f q->C p q)->
  (∀p q,(p,q)∈c0 (ps.headD w) (ps.tail++[w])->f p*f q<0->f (mt p q)=0/\(0<f p->C p (mt p q))/\(0<f q->C (mt p q) q))->
  (0<=f (ps.headD w)->C z (ps.headD w))->(f (ps.headD w)<0->f z=0)->ps≠[]->
  (∀e∈c0 z (dw f mt ps w),C e.1 e.2)/\(0<=f w->C (bW z (dw f mt ps w)) w)/\(f w<0->f (bW z (dw f mt ps w))=0)
 |[],_,_,_,_,_,_,G=>absurd rfl G
 |p::r,w,z,j,i,k,n,_=>by
  have k:0<=f p->C z p:=k;have n:f p<0->f z=0:=n
  have l:(p,r.headD w)∈c0 p (r++[w]):=by
   cases r with
   |nil=>exact Sw
   |cons q r=>exact Sw
  have j:∀a b,(a,b)∈c0 p (r++[w])->0<=f a->0<=f b->C a b:=j;have i:∀a b,(a,b)∈c0 p (r++[w])->f a*f b<0->f (mt a b)=0/\(0<f a->C a (mt a b))/\(0<f b->C (mt a b) b):=i
  have step:(∀e∈c0 z (kp f p++cI f mt p (r.headD w)),C e.1 e.2)/\(0<=f (r.headD w)->C (bW z (kp f p++cI f mt p (r.headD w))) (r.headD w))/\(f (r.headD w)<0->f (bW z (kp f p++cI f mt p (r.headD w)))=0):=by
   generalize r.headD w=q at l;by_cases g:0<=f p
   ·rw[show kp f p=[p] by unfold kp;rw[SL g]];by_cases c:f p*f q<0
    ·rw[mZ c];obtain⟨o,x,y⟩:=i p q l c
     have H:0<f p:=by
      rcases m1 c with⟨a,_⟩|⟨a,_⟩
      ·exact a
      lia
     have A:f q<0:=by
      rcases m1 c with⟨_,a⟩|⟨a,_⟩
      ·exact a
      lia
     refine⟨λe d=>?_,λh=>absurd h (by lia),λ_=>o⟩;rcases SG.mp d with rfl|d
     ·exact k g
     rcases SG.mp d with rfl|d
     ·exact x H
     cases d
    rw[l8 c];refine⟨λe d=>?_,λh=>j p q l g h,λh=>?_⟩
    ·rcases SG.mp d with rfl|d
     ·exact k g
     cases d
    show f p=0
    rcases Vp g with a|a
    ·exact absurd (S2 a h) c
    exact a.symm
   rw[show kp f p=[] by unfold kp;rw[Tk g]];have s:=n (by lia);by_cases c:f p*f q<0
   ·rw[mZ c];obtain⟨o,x,y⟩:=i p q l c
    have A:0<f q:=by
     rcases m1 c with⟨a,_⟩|⟨_,a⟩
     ·lia
     exact a
    refine⟨λe d=>?_,λ_=>y A,λh=>absurd h (by lia)⟩;rcases SG.mp d with rfl|d
    ·exact m _ _ s o
    cases d
   rw[l8 c];refine⟨λe d=>(by cases d),λh=>m _ _ s ?_,λ_=>s⟩;rcases Vp h with a|a
   ·exact absurd (by rw[S4];exact S2 a (by lia)) c
   exact a.symm
  obtain⟨B,E,F⟩:=step;show(∀e∈c0 z (kp f p++cI f mt p (r.headD w)++dw f mt r w),C e.1 e.2)/\(0<=f w->C (bW z (kp f p++cI f mt p (r.headD w)++dw f mt r w)) w)/\(f w<0->f (bW z (kp f p++cI f mt p (r.headD w)++dw f mt r w))=0)
  rw[qo z (kp f p++cI f mt p (r.headD w)),qp z (kp f p++cI f mt p (r.headD w))];cases r with
  |nil=>exact⟨λe d=>by rw[show c0 _ (dw f mt [] w)=[]from rfl,SR]at d;exact B e d,E,F⟩
  |cons q r=>
   obtain⟨I,J,K⟩:=x0 m (ps:=q::r) (w:=w) (z:=bW z (kp f p++cI f mt p q)) (λa b t=>j a b (SA _ t)) (λa b t=>i a b (SA _ t)) E F (by simp);refine⟨λe d=>?_,J,K⟩;rcases SO.mp d with d|d
   ·exact B e d
   exact I e d
theorem CR{a:ab}{r:ZJ}{e:ab×ab}:e∈c0 a (r++[a])↔e∈dv (a::r):=by
 have:dv (a::r)=(bW a r,a)::c0 a r:=rfl;rw[this,qo];simp[c0,or_comm]
theorem Ix{C:ab->ab->Prop}{ps:ZJ}(d:∀u v,f u=0->f v=0->C u v)(o:ab)(g:f o=0)(A:∀e∈dv ps,0<=f e.1->0<=f e.2->C e.1 e.2)(B:∀e∈dv ps,f e.1*f e.2<0->f (mt e.1 e.2)=0/\(0<f e.1->C e.1 (mt e.1 e.2))/\(0<f e.2->C (mt e.1 e.2) e.2)):
  ∀e∈dv (dB f mt ps),C e.1 e.2:=by
 cases ps with
 |nil=>intro e c;cases c
 |cons a r=>
  intro e c;have n:dB f mt (a::r)≠[]:=by intro z;rw[z]at c;cases c
  have i:∀p q,(p,q)∈c0 ((a::r).headD a) ((a::r).tail++[a])->0<=f p->0<=f q->C p q:=λp q h=>A (p,q) (CR.mp h);have b:∀p q,(p,q)∈c0 ((a::r).headD a) ((a::r).tail++[a])->f p*f q<0->f (mt p q)=0/\(0<f p->C p (mt p q))/\(0<f q->C (mt p q) q):=λp q h=>B (p,q) (CR.mp h);have first:=x0 (f:=f) (mt:=mt) (C:=λu v=>u=o\/C u v) (λu v j k=>.inr (d u v j k)) (ps:=a::r) (w:=a) (z:=o) (λp q h x y=>.inr (i p q h x y)) (λp q h x=>⟨(b p q h x).1,λy=>.inr ((b p q h x).2.1 y),λy=>.inr ((b p q h x).2.2 y)⟩) (λ_=>.inl rfl) (λ_=>g) (by simp)
  have l:bW o (dw f mt (a::r) a)=bW (0,0,1) (dB f mt (a::r)):=s3 n;have E:f a<0->f (bW (0,0,1) (dB f mt (a::r)))=0:=λh=>by rw[<-l];exact first.2.2 h
  have F:0<=f a->C (bW (0,0,1) (dB f mt (a::r))) a:=λh=>by
   by_cases m:bW o (dw f mt (a::r) a)=o
   ·
    have:=x0 (f:=f) (mt:=mt) (C:=λu v=>(u=a/\v=a)\/C u v) (λu v j k=>.inr (d u v j k)) (ps:=a::r) (w:=a) (z:=a) (λp q h x y=>.inr (i p q h x y)) (λp q h x=>⟨(b p q h x).1,λy=>.inr ((b p q h x).2.1 y),λy=>.inr ((b p q h x).2.2 y)⟩) (λ_=>.inl ⟨rfl,rfl⟩) (λy=>absurd y (show ¬f a<0 by lia)) (by simp);have t:bW a (dw f mt (a::r) a)=bW (0,0,1) (dB f mt (a::r)):=s3 n;rcases this.2.1 h with⟨s,_⟩|q
    ·rw[t]at s;rw[s];rw[l,s]at m;rw[m];exact d o o g g
    rw[<-t];exact q
   rcases first.2.1 h with q|q
   ·exact absurd q m
   rw[<-l];exact q
  exact(x0 d i b F E (by simp)).1 e c
end
def n'(l:ab)(mt:ab->ab->ab):Prop:=∀p q,ln l p*ln l q<0->hJ p q (mt p q)/\ln l (mt p q)=0
theorem u6{l p q:ab}(h:ln l p*ln l q<0):ln l (a0 l p q)=0:=by
 unfold a0;by_cases w:0<p.2.2/\0<q.2.2
 ·rw[SL w]
  have d:(a_ l (a_ p q)).2.2≠0:=by
   rw[show(a_ l (a_ p q)).2.2=ln l q*p.2.2 + -ln l p*q.2.2 by rw[uV l p q];rfl];rcases m1 h with⟨a,b⟩|⟨a,b⟩
   ·have e:ln l q*p.2.2<0:=by rw[S4];exact S2 w.1 b
    have f : -ln l p*q.2.2<0:=by rw[S4];exact S2 w.2 (by lia)
    lia
   have e:0<ln l q*p.2.2:=SD b w.1;have f:0 < -ln l p*q.2.2:=SD (by lia) w.2;lia
  obtain⟨g,i,j⟩:=kd d;have z:ln l (a_ l (a_ p q))=0:=by rw[show a_ l (a_ p q)=gA (ln l q) p (-ln l p) q from uV l p q,xR];grind
  rw[j,CG]at z;rcases Tb.mp z with y|y
  ·exact absurd y i
  exact y
 rw[Tk w];by_cases c:0<ln l q
 ·rw[SL c,xR];grind
 rw[Tk c,xR];grind
theorem s4(l:ab):n' l (a0 l):=λ_ _ h=>⟨sZ h,u6 h⟩
def iI(l:ab):ab:=sc (-1) l
theorem oa(l p:ab):ln (iI l) p = -ln l p:=by unfold iI ln sc;dsimp only;grind
theorem s5(l:ab):ln (iI l)=λc => -ln l c:=by funext c;exact oa l c
theorem n'.ng{l:ab}{mt:ab->ab->ab}(h:n' l mt):n' (iI l) mt:=λp q c=>by
 rw[oa,oa,Ur]at c;refine⟨(h p q c).1,?_⟩;rw[oa,(h p q c).2];rfl
theorem n'.meets{l:ab}{mt:ab->ab->ab}(h:n' l mt):kn (ln l) mt:=λp q c=>(h p q c).1
theorem hJ.my{p q m g:ab}(h:hJ p q m)(c:L3.ln g p=0)(d:L3.ln g q=0):L3.ln g m=0:=by
 obtain⟨s,a,b,f,i,j,e⟩:=h;have k:s*L3.ln g m=a*L3.ln g p+b*L3.ln g q:=by rw[<-CG,e,xR]
 rw[c,d,SV,SV]at k;rcases Tb.mp k with z|z
 ·lia
 exact z
section
variable{l:ab}{mt:ab->ab->ab}{a:ZJ}
theorem x2:∀{z:ab}{r:ZJ},r≠[]->∃A,r=A++[bW z r]
 |_,[],h=>absurd rfl h
 |z,[p],_=>⟨[],rfl⟩
 |z,p::q::r,_=>by
  obtain⟨A,e⟩:=x2 (z:=p) (r:=q::r) (by simp);exact⟨p::A,TW (p :: ·) e⟩
end
def e5(T:ab->ab->Rat)(a:List (ab×ab)):Rat:=(a.map λe=>T e.1 e.2).sum
theorem i9(T:ab->ab->Rat):e5 T []=0:=rfl
theorem h6(T:ab->ab->Rat)(e:ab×ab)(a:List (ab×ab)):e5 T (e::a)=T e.1 e.2+e5 T a:=by unfold e5;rw[SI,To]
theorem x3(T:ab->ab->Rat):∀b a:List (ab×ab),e5 T (b++a)=e5 T b+e5 T a
 |[],a=>by rw[Tn,i9];grind
 |e::b,a=>by rw[Tr,h6,h6,x3 T b a];grind
section
variable{f:ab->Int}{mt:ab->ab->ab}{T:ab->ab->Rat}{V:ab->Prop}
def ju(f:ab->Int)(mt:ab->ab->ab)(T:ab->ab->Rat)(p q:ab):Rat:=
 if 0<=f p then(if 0<=f q then T p q else if f p*f q<0 then T p (mt p q)else 0)else(if f p*f q<0 then T (mt p q) q else 0)
def ob(f:ab->Int)(T:ab->ab->Rat)(z p:ab):Rat:=if 0<=f p then T z p else 0
theorem x4{z p:ab}(h:0<=f p):ob f T z p=T z p:=by unfold ob;rw[SL h]
theorem x5{z p:ab}(h:¬0<=f p):ob f T z p=0:=by unfold ob;rw[Tk h]
theorem Dw(l:∀u v,V u->V v->f u=0->f v=0->T u v=0){p q z:ab}(m:V z)(n:V q)(j:f p*f q<0->V (mt p q)/\f (mt p q)=0)(o:f p<0->f z=0):
  e5 T (c0 z (kp f p++cI f mt p q))+ob f T (bW z (kp f p++cI f mt p q)) q=ob f T z p+ju f mt T p q/\(f q<0->f (bW z (kp f p++cI f mt p q))=0):=by
 by_cases b:0<=f p
 ·rw[show kp f p=[p] by unfold kp;rw[SL b],x4 b];by_cases c:f p*f q<0
  ·rw[mZ c]
   have i:¬0<=f q:=by
    rcases m1 c with⟨_,a⟩|⟨a,_⟩<;>lia
   have d:bW z ([p]++[mt p q])=mt p q:=rfl;have g:c0 z ([p]++[mt p q])=[(z,p),(p,mt p q)]:=rfl;refine⟨?_,λ_=>by rw[d];exact(j c).2⟩;rw[d,g,x5 i,h6,h6,i9];unfold ju;rw[SL b,Tk i,SL c];dsimp only;grind
  rw[l8 c];have d:bW z ([p]++[])=p:=rfl;have g:c0 z ([p]++[])=[(z,p)]:=rfl;rw[d,g,h6,i9];refine⟨?_,λh=>?_⟩
  ·unfold ju;rw[SL b];by_cases e:0<=f q
   ·rw[x4 e,SL e];dsimp only;grind
   rw[x5 e,Tk e,Tk c];dsimp only;grind
  rcases Vp b with a|a
  ·exact absurd (S2 a h) c
  exact a.symm
 rw[show kp f p=[] by unfold kp;rw[Tk b],x5 b,Tn];have k:=o (by lia);unfold ju;rw[Tk b];by_cases c:f p*f q<0
 ·rw[mZ c,SL c]
  have i:0<=f q:=by
   rcases m1 c with⟨a,_⟩|⟨_,a⟩<;>lia
  have d:bW z [mt p q]=mt p q:=rfl;have g:c0 z [mt p q]=[(z,mt p q)]:=rfl;have r:T z (mt p q)=0:=l _ _ m (j c).1 k (j c).2;rw[d,g,h6,i9,x4 i];refine⟨?_,λh=>absurd h (by lia)⟩;dsimp only;rw[r];grind
 rw[l8 c,Tk c];have d:bW z []=z:=rfl;have g:c0 z []=[]:=rfl;rw[d,g,i9];refine⟨?_,λ_=>k⟩;by_cases e:0<=f q
 ·have s:f q=0:=by
   rcases Vp e with a|a
   ·exact absurd (by rw[S4];exact S2 a (by lia)) c
   exact a.symm
  rw[x4 e,l _ _ m n k s]
 rw[x5 e]
theorem CT(l:∀u v,V u->V v->f u=0->f v=0->T u v=0)(a:∀p q,V p->V q->f p*f q<0->V (mt p q)/\f (mt p q)=0):∀{ps:ZJ}{w z:ab},(∀p∈ps,V p)->V w->V z->(f (ps.headD w)<0->f z=0)->ps≠[]->
  e5 T (c0 z (dw f mt ps w))+ob f T (bW z (dw f mt ps w)) w=ob f T z (ps.headD w)+e5 (ju f mt T) (c0 (ps.headD w) (ps.tail++[w]))/\(f w<0->f (bW z (dw f mt ps w))=0)
 |[],_,_,_,_,_,_,t=>absurd rfl t
 |p::r,w,z,g,m,n,h,_=>by
  have h:f p<0->f z=0:=h;have b:=g p Sw
  have d:V (r.headD w):=by
   cases r with
   |nil=>exact m
   |cons q r=>exact g q (by simp)
  obtain⟨o,i⟩:=Dw (f:=f) (mt:=mt) (T:=T) (V:=V) l n d (a p _ b d) h;show e5 T (c0 z (kp f p++cI f mt p (r.headD w)++dw f mt r w))+ob f T (bW z (kp f p++cI f mt p (r.headD w)++dw f mt r w)) w=ob f T z p+e5 (ju f mt T) (c0 p (r++[w]))/\(f w<0->f (bW z (kp f p++cI f mt p (r.headD w)++dw f mt r w))=0)
  rw[qo z (kp f p++cI f mt p (r.headD w)),qp z (kp f p++cI f mt p (r.headD w)),x3]
  have y:V (bW z (kp f p++cI f mt p (r.headD w))):=by
   by_cases s:0<=f p
   ·rw[show kp f p=[p] by unfold kp;rw[SL s]];by_cases c:f p*f (r.headD w)<0
    ·rw[mZ c];exact(a _ _ b d c).1
    rw[l8 c];exact b
   rw[show kp f p=[] by unfold kp;rw[Tk s]];by_cases c:f p*f (r.headD w)<0
   ·rw[mZ c];exact(a _ _ b d c).1
   rw[l8 c];exact n
  cases r with
  |nil=>
   have A:c0 (bW z (kp f p++cI f mt p (([]:ZJ).headD w))) (dw f mt [] w)=[]:=rfl;have j:c0 p ([]++[w])=[(p,w)]:=rfl;have e:([]:ZJ).headD w=w:=rfl;have k:bW (bW z (kp f p++cI f mt p (([]:ZJ).headD w))) (dw f mt [] w)=bW z (kp f p++cI f mt p w):=rfl;rw[A,j,k,i9,h6,i9];rw[e]at o i⊢;refine⟨?_,i⟩;dsimp only;grind
  |cons q r=>
   obtain⟨B,C⟩:=CT l a (ps:=q::r) (w:=w) (z:=bW z (kp f p++cI f mt p q)) (λx E=>g x (SA _ E)) m y i (by simp);refine⟨?_,C⟩;have j:c0 p (q::r++[w])=(p,q)::c0 q (r++[w]):=rfl;have e:(q::r).headD w=q:=rfl;have k:(q::r).tail=r:=rfl;rw[j,h6];rw[e,k]at B;rw[e]at o⊢;dsimp only;grind
theorem CU(T:ab->ab->Rat)(a:ab)(r:ZJ):e5 T (c0 a (r++[a]))=e5 T (dv (a::r)):=by
 have:dv (a::r)=(bW a r,a)::c0 a r:=rfl;rw[this,qo,x3,h6];have:c0 (bW a r) [a]=[(bW a r,a)]:=rfl;rw[this,h6,i9];dsimp only;grind
theorem Iz(k:∀u v,V u->V v->f u=0->f v=0->T u v=0)(d:∀p q,V p->V q->f p*f q<0->V (mt p q)/\f (mt p q)=0)(o:ab)(g:V o)(t:f o=0){ps:ZJ}(b:∀p∈ps,V p):
  e5 T (dv (dB f mt ps))=e5 (ju f mt T) (dv ps):=by
 cases ps with
 |nil=>rfl
 |cons a r=>
  have l:=b a Sw;have first:=CT k d (ps:=a::r) (w:=a) (z:=o) b l g (λ_=>t) (by simp)
  have m:(a::r).headD a=a:=rfl;have s:(a::r).tail=r:=rfl;rw[m,s,CU]at first
  by_cases n:dB f mt (a::r)=[]
  ·have x:dw f mt (a::r) a=[]:=n;rw[x]at first
   have i:c0 o []=[]:=rfl;have j:bW o []=o:=rfl;rw[i,j,i9]at first
   rw[n];have y:dv []=[]:=rfl;rw[y,i9];have:=first.1
   grind
  have i:bW o (dw f mt (a::r) a)=bW (0,0,1) (dB f mt (a::r)):=s3 n;have A:f a<0->f (bW (0,0,1) (dB f mt (a::r)))=0:=λh=>by rw[<-i];exact first.2 h
  have B:V (bW (0,0,1) (dB f mt (a::r))):=by
   rcases xS (CQ (z:=(0,0,1)) n)with⟨h,_⟩|⟨p,C,q,E,c,e⟩
   ·exact b _ h
   rw[e];exact(d p q (b p C) (b q E) c).1
  have snd:=CT k d (ps:=a::r) (w:=a) (z:=bW (0,0,1) (dB f mt (a::r))) b l B A (by simp);rw[m,s,CU]at snd;have j:bW (bW (0,0,1) (dB f mt (a::r))) (dw f mt (a::r) a)=bW (0,0,1) (dB f mt (a::r)):=s3 n;rw[j]at snd;have:=snd.1;show e5 T (c0 (bW (0,0,1) (dB f mt (a::r))) (dw f mt (a::r) a))=_
  grind
theorem IA{T1 a b:ab->ab->Rat}:∀{es:List (ab×ab)},(∀e∈es,T1 e.1 e.2+a e.1 e.2=b e.1 e.2)->e5 T1 es+e5 a es=e5 b es
 |[],_=>by rw[i9,i9,i9];grind
 |e::es,h=>by
  have d:=h e Sw;have f:=IA (es:=es) λe c=>h e (SA _ c);rw[h6,h6,h6];grind
theorem Dv(e:∀u v,V u->V v->f u=0->f v=0->T u v=0){p q:ab}(g:V p)(h:V q)(d:f p*f q<0->T p (mt p q)+T (mt p q) q=T p q):ju f mt T p q+ju (λc => -f c) mt T p q=T p q:=by
 have i:(-f p)*(-f q)=f p*f q:=Ur _ _;unfold ju;dsimp only;rw[i];rcases T6 (f p) 0 with a|a|a
 ·rw[Tk (show ¬0<=f p by lia),SL (show 0 <= -f p by lia)];rcases T6 (f q) 0 with b|b|b
  ·have c:¬f p*f q<0:=by have:=UB a b;lia
   rw[Tk c,SL (show 0 <= -f q by lia)];grind
  ·have c:¬f p*f q<0:=by rw[b,SV];lia
   rw[Tk c,SL (show 0 <= -f q by lia)];grind
  have c:f p*f q<0:=by rw[S4];exact S2 b a
  rw[SL c,Tk (show ¬0 <= -f q by lia),SL c];have:=d c;grind
 ·have c:¬f p*f q<0:=by rw[a,TR];lia
  rw[SL (show 0<=f p by lia),SL (show 0 <= -f p by lia),Tk c];rcases T6 (f q) 0 with b|b|b
  ·rw[Tk (show ¬0<=f q by lia),SL (show 0 <= -f q by lia)];grind
  ·rw[SL (show 0<=f q by lia),SL (show 0 <= -f q by lia)];have:=e p q g h a b;grind
  rw[SL (show 0<=f q by lia),Tk (show ¬0 <= -f q by lia)];grind
 rw[SL (show 0<=f p by lia),Tk (show ¬0 <= -f p by lia)];rcases T6 (f q) 0 with b|b|b
 ·have c:f p*f q<0:=S2 a b;rw[Tk (show ¬0<=f q by lia),SL c,SL c];exact d c
 ·have c:¬f p*f q<0:=by rw[b,SV];lia
  rw[SL (show 0<=f q by lia),Tk c];grind
 have c:¬f p*f q<0:=by have:=SD a b;lia
 rw[SL (show 0<=f q by lia),Tk c];grind
theorem CW(d:∀u v,V u->V v->f u=0->f v=0->T u v=0):∀{es:List (ab×ab)},(∀e∈es,V e.1/\V e.2/\f e.1<=0/\f e.2<=0)->e5 (ju f mt T) es=0
 |[],_=>rfl
 |e::es,h=>by
  obtain⟨g,i,j,k⟩:=h e Sw;have l:=CW d (es:=es) λe m=>h e (SA _ m);rw[h6,l];have c:¬f e.1*f e.2<0:=by have:=Vq j k;lia
  have:ju f mt T e.1 e.2=0:=by
   unfold ju;rw[Tk c,Tk c];by_cases a:0<=f e.1
   ·rw[SL a];by_cases b:0<=f e.2
    ·rw[SL b];exact d _ _ g i (by lia) (by lia)
    rw[Tk b]
   rw[Tk a]
  rw[this];grind
end
def kY(p:ab):Rat:=(p.1:Rat)/(p.2.2:Rat)
def kZ(p:ab):Rat:=(p.2.1:Rat)/(p.2.2:Rat)
theorem eY{x:Int}(h:0<x):(x:Rat)≠0:=λz=>by
 have:=Rat.intCast_eq_zero_iff.mp z;lia
theorem IC{p q m:ab}(h:hJ p q m)(f:0<p.2.2)(g:0<q.2.2)(i:0<m.2.2):∃a b:Rat,a+b=1/\kY m=a*kY p+b*kY q/\kZ m=a*kZ p+b*kZ q:=by
 obtain⟨s,a,b,j,v,w,e⟩:=h;have k:s*m.1=a*p.1+b*q.1:=TW (λx:ab=>x.1) e;have l:s*m.2.1=a*p.2.1+b*q.2.1:=TW (λx:ab=>x.2.1) e;have n:s*m.2.2=a*p.2.2+b*q.2.2:=TW (λx:ab=>x.2.2) e;have y:=eY j;have z:=eY i;have A:=eY f;have B:=eY g;have C:(s:Rat)*m.1=a*p.1+b*q.1:=by rw[<-Ui,k,Wa,Ui,Ui]
 have E:(s:Rat)*m.2.1=a*p.2.1+b*q.2.1:=by rw[<-Ui,l,Wa,Ui,Ui]
 have F:(s:Rat)*m.2.2=a*p.2.2+b*q.2.2:=by rw[<-Ui,n,Wa,Ui,Ui]
 unfold kY kZ;generalize(s:Rat)=c at *;generalize(a:Rat)=o at *;generalize(b:Rat)=r at *;generalize(m.1:Rat)=G at *;generalize(m.2.1:Rat)=H at *;generalize(m.2.2:Rat)=d at *;generalize(p.1:Rat)=p1 at *;generalize(p.2.1:Rat)=p2 at *;generalize(p.2.2:Rat)=t at *;generalize(q.1:Rat)=I at *;generalize(q.2.1:Rat)=J at *;generalize(q.2.2:Rat)=u at *;refine⟨o*t/(c*d),r*u/(c*d),?_,?_,?_⟩<;>grind
theorem ID(h:ab->Rat):∀(z:ab)(L:ZJ),e5 (λp q=>h p-h q) (c0 z L)=h z-h (bW z L)
 |z,[]=>by rw[show c0 z []=[]from rfl,i9,show bW z []=z from rfl];grind
 |z,p::L=>by
  rw[show c0 z (p::L)=(z,p)::c0 p L from rfl,h6,ID h p L,show bW z (p::L)=bW p L from rfl];dsimp only;grind
open Classical in
noncomputable def df(f:ab->Int)(mt:ab->ab->ab)(a:ZJ):List ab:=if ∃c∈a,0<f c then dB f mt a else[]
def IE(v:V):aA->aA
 |.val d=>.pin v d
 |.own (.l a)=>.pin v (.lst a)
 |.own (.d _ _ _ _)=>.no
 |.deep _=>.no
 |.new d=>.pin v d
 |s=>s
def mb(f:Nat->V):Nat->ZI->ZI
 |_,[]=>[]
 |i,s::r=>IE (f i) s::mb f (i+1) r
theorem u7(f:Nat->V):∀(i n:Nat)(a:ZI),(mb f i a)[n]?=(a[n]?).map (IE (f (i+n)))
 |_,_,[]=>by simp[mb]
 |i,0,s::r=>by simp[mb]
 |i,n+1,s::r=>by
  have:=u7 f (i+1) n r;rw[show i+1+n=i+(n+1) by lia]at this;simpa[mb]using this
inductive e_(f:Nat->V):Nat->ZI->ZI->ZI->Prop where
 |nil{i:Nat}:e_ f i [] [] []
 |pin{i:Nat}{s:aA}{d:D}{r c9 q:ZI}(h:e_ f (i+1) r c9 q):e_ f i (s::r) (.pin (f i) d::c9) (s::q)
 |no{i:Nat}{s x:aA}{r c9 q:ZI}(h:e_ f (i+1) r c9 q):e_ f i (s::r) (x::c9) (.no::q)
theorem e_.length{f:Nat->V}:∀{i:Nat}{c d q:ZI},e_ f i c d q->q.length=c.length/\q.length=d.length
 |_,_,_,_,.nil=>⟨rfl,rfl⟩
 |_,_,_,_,.pin h=>by obtain⟨a,b⟩:=h.length;rw[SK,SK,SK];lia
 |_,_,_,_,.no h=>by obtain⟨a,b⟩:=h.length;rw[SK,SK,SK];lia
theorem e_.get{f:Nat->V}:∀{i:Nat}{b c q:ZI},e_ f i b c q->∀(n:Nat)(k:aA),q[n]?=some k->k=.no\/(b[n]?=some k/\∃d,c[n]?=some (.pin (f (i+n)) d))
 |_,_,_,_,.nil,n,k,h=>by simp at h
 |_,_,_,_,.pin (d:=d) a,0,k,h=>by simp at h;subst h;exact .inr ⟨rfl,d,rfl⟩
 |_,_,_,_,.no a,0,k,h=>by simp at h;exact .inl h.symm
 |i,_,_,_,.pin a,n+1,k,h=>by
  have:=a.get n k (by simpa using h);rw[show i+1+n=i+(n+1) by lia]at this;simpa using this
 |i,_,_,_,.no a,n+1,k,h=>by
  have:=a.get n k (by simpa using h);rw[show i+1+n=i+(n+1) by lia]at this;simpa using this
abbrev u8:=hD->ZI->(Nat->V)->ZI->Prop
section
variable{K:Su}{X:aT}{e:Wp}{F:ZV}{u:bd}{w:cJ}{C p:Pos}{A:ZW}{x:u8}
def Du(K:Su)(t:gX)(x:u8):Prop:=
 ∀(U:hD)(b:ZI)(f:Nat->V)(d:ZI),x U b f d->∀(R:ak)(W:TE->Prop)(B H:ak)(c:St)(E:nF),aL K R W B H c b->sI K R W B U E->(∀(i:Nat)(v:V),c[i]?=some (some v)->f i=v)->
  ∀(g h:ak)(j:St),aL K H (gL W c b) g h j d->(∀a k,g a=some (.lst k)->H a=none)->t E j h
def x6(X:aT)(st:ZW)(x:u8):Prop:=∃t,jd X st t/\Du X.K t x
theorem IF{a:XD}{s:cB}(i:eV X a s)(j:x6 X A x):x6 X (a::A) (λU b f c=>s {nx:=x U b f,rt:=λ_=>False} c):=by
 obtain⟨_,k,l⟩:=i;obtain⟨_,m,o⟩:=j;refine⟨_,mr k m,λU b f c h R W B H d E e p q r t u v nl=>?_⟩;refine l _ c h H (gL W d b) r t u _ v ⟨λw y C F z G g=>?_,λ_ _ _ _ z=>z.elim,λ_ _ _ _ z=>z.elim,λ_ _ _ _ z=>z.elim⟩;exact o U b f w z R W B H d E e p q C F y G λa I h=>(g.n a _ h).elim (nl a I) id
theorem aL.pinned{R:ak}{W:TE->Prop}{B H:ak}{w:St}{u:ZI}(e:aL K R W B H w u){f:Nat->V}(P:∀(i:Nat)(v:V),w[i]?=some (some v)->f i=v):
  ∃G,aL K H (gL W w u) G H w (mb f 0 u)/\∀a vs,G a=some (.lst vs)->H a=none:=by
 have x:=e.i6;have C:gL W w (u.map lz)=gL W w u:=by funext a;exact propext CL
 rw[C]at x;generalize u5 R W B H w u=A at x
 have I:∀a,A a=none->dN H A a=none:=λa h=>by
  cases q:dN H A a with
  |none=>rfl
  |some o=>have:=iX a o q;rw[h]at this;cases this
 have Q:Wd H (gL W w u) (dN H A) H:=⟨λ_ _ h _=>h,iX.trans x.bh,λa h=>I a (x.wb a h),x.wh,x.wr⟩;refine⟨dN H A,⟨Q,?_,λi k h=>?_,λi j a J L=>?_⟩,λa vs h=>(Bm h).2⟩
 ·have:(mb f 0 u).length=u.length:=by
   have:∀(n:Nat)(l:ZI),(mb f n l).length=l.length:=λn l=>by
    induction l generalizing n with
    |nil=>rfl
    |cons s r S=>simp[mb,S]
   exact this 0 u
  rw[this];exact e.len
 ·rw[u7,T4]at h;cases q:u[i]? with
  |none=>rw[q]at h;cases h
  |some y=>
   rw[q]at h;have h:=SN h;subst h;have E:(u.map fZ)[i]?=some (fZ y):=by rw[SP,q];rfl
   have z:=x.ok i _ E
   have F:∀d,(∃v,(w[i]?).join=some v/\bE K A v d)->Bi K H (gL W w u) (dN H A) H (w[i]?).join (.pin (f i) d):=λd ⟨v,g,p⟩=>by
    rw[P i v (gu g)];exact⟨g,p.mono (CO x.bh x.wb)⟩
   cases y with
   |no=>trivial
   |deep c=>trivial
   |val d=>exact F d z
   |own c=>
    cases c with
    |l M=>exact F (.lst M) z
    |d b t X M=>trivial
   |new d=>exact F d z
   |pin v d=>
    obtain⟨Y,g,p⟩:=z;have N:=(e.ok i _ q).1;rw[g]at N;cases N;exact⟨g,p.mono (CO x.bh x.wb)⟩
   |bag=>
    obtain⟨b,g,p,T,U⟩:=z;exact⟨b,g,p,I b T,U⟩
 have back:∀i,cg w (mb f 0 u) i a->u[i]?=some .bag:=λi m=>by
  rcases m with⟨_,p⟩|⟨c,g,_⟩
  rotate_left
  ·rw[u7,T4]at g;cases q:u[i]? with
   |none=>rw[q]at g;cases g
   |some y=>
    rw[q]at g;cases y with
    |own c=>cases c<;>cases g
    |_=>cases g
  rw[u7,T4]at p;cases q:u[i]? with
  |none=>rw[q]at p;rcases p with p|⟨_,p⟩<;>cases p
  |some y=>
   rw[q]at p;cases y with
   |bag=>rfl
   |own c=>cases c<;>rcases p with p|⟨_,p⟩<;>cases p
   |_=>rcases p with p|⟨_,p⟩<;>cases p
 have O:∀(i:Nat)(c:e4),(mb f 0 u)[i]?≠some (aA.deep c):=λi c g=>by
  rw[u7,T4]at g;cases q:u[i]? with
  |none=>rw[q]at g;cases g
  |some y=>
   rw[q]at g;cases y with
   |own c=>cases c<;>cases g
   |_=>cases g
 exact e.sep i j a (.inl ⟨(Bj J (O i)).1,.inl (back i J)⟩) (.inl ⟨(Bj L (O j)).1,.inl (back j L)⟩)
theorem Dt{st:ZW}(h:x6 X st x):hE X st (λU a=>∀f:Nat->V,x U a f (mb f 0 a)):=by
 obtain⟨_,d,g⟩:=h;refine⟨_,d,λU a h R W B H b E e j=>?_⟩
 have c:∀(i:Nat)(v:V),b[i]?=some (some v)->(λi=>match b[i]? with|some (some v)=>v|_=>V.non) i=v:=λi v h=>by
  dsimp only;rw[h]
 obtain⟨k,l,nl⟩:=e.pinned c;exact g U a _ _ (h _) R W B H b E e j c k H b l nl
theorem e_.same{R:ak}{W:TE->Prop}{B H:ak}{l m:St}{o p q:ZI}{f:Nat->V}(s:e_ f 0 o p q)(e:aL K R W B H l o)(t:∀(i:Nat)(v:V),l[i]?=some (some v)->f i=v)(u:∀(n:Nat)(v:V)(d:D),p[n]?=some (.pin v d)->m[n]?=some (some v)):
  ∀(n:Nat)(k:aA),q[n]?=some k->k=.no\/(o[n]?=some k/\m[n]?=l[n]?):=λn k w=>by
 rcases s.get n k w with z|⟨g,d,r⟩
 ·exact .inl z
 rw[T4]at r;have y:=u n _ d r;have ok:=e.ok n k g
 have j:(∃v,(l[n]?).join=some v)->m[n]?=l[n]?:=λ⟨v,h⟩=>by
  have h:=gu h;rw[y,h,t n v h]
 cases k with
 |no=>exact .inl rfl
 |val d=>obtain⟨v,h,_⟩:=ok;exact .inr ⟨g,j ⟨v,h⟩⟩
 |new d=>obtain⟨v,h,_⟩:=ok;exact .inr ⟨g,j ⟨v,h⟩⟩
 |pin v d=>exact .inr ⟨g,j ⟨v,ok.1⟩⟩
 |deep c=>exact .inr ⟨g,j ⟨_,ok.1⟩⟩
 |own x=>obtain⟨a,h,_⟩:=ok;exact .inr ⟨g,j ⟨_,h⟩⟩
 |bag=>obtain⟨b,h,_⟩:=ok;exact .inr ⟨g,j ⟨_,h⟩⟩
theorem aL.mq{R:ak}{W:TE->Prop}{B H:ak}{a:St}{b:ZI}(e:aL K R W B H a b):∀(n:Nat)(v:V)(d:D),b[n]?=some (.pin v d)->a[n]?=some (some v):=λn v d h=>gu (e.ok n _ h).1
end
section
variable{X:aT}{e:Wp}{u:bd}{a:Pos}
def Dr(i:Nat)(u:bd):cB:=λU b=>∃m,b[i]?=some (.val (.int m))/\u b λd=>∃n,d=.int n/\U.nx (b.set i (.val (.int (m+n))))
theorem Dk{i:Nat}{x:Str}{b:Pos}(c:X.N.Nodup)(f:X.N[i]?=some x)(g:ho X.env.scope x)(j:br X e u)(k:ip X x:=by walk_at"f"):
  eV X (.AugAssign (.Name x b) .Add e a) (Dr i u):=by
 obtain⟨_,l,o⟩:=j;refine⟨_,Nw c f g l NA k,λU p h R W B H q D e s=>?_⟩;obtain⟨m,r,h⟩:=h;obtain⟨v,t,y⟩:=e.val r;refine⟨v,t,?_⟩;refine o p _ h R W B H q _ e λd w A C E F G I=>?_;obtain⟨n,rfl,z⟩:=E;exact⟨m,n,y.eX,I.eX,s.nx _ _ A C z (F.fV i (.int _)) G⟩
end
noncomputable def dH(f:ab->Int)(mt:ab->ab->ab)(sh:ZM):List a7:=(sh.map λs=>(df f mt s.1,s.2)).filter λs => !s.1.isEmpty
theorem u9{f:ab->Int}{mt:ab->ab->ab}(a b:ZM):dH f mt (a++b)=dH f mt a++dH f mt b:=by unfold dH;rw[SE,U6]
theorem x8{f:ab->Int}{mt:ab->ab->ab}{s:a7}(h:(df f mt s.1).isEmpty=false):dH f mt [s]=[(df f mt s.1,s.2)]:=by unfold dH;simp[h]
theorem x9{f:ab->Int}{mt:ab->ab->ab}{s:a7}(h:(df f mt s.1).isEmpty=true):dH f mt [s]=[]:=by unfold dH;simp[h]
theorem s6{f:ab->Int}{mt:ab->ab->ab}(sh:ZM):(dH f mt sh).length<=sh.length:=by
 unfold dH;refine Sx (Vr _ _) ?_;rw[Sv];exact SF _
theorem IG{f:ab->Int}{mt:ab->ab->ab}{sh:ZM}{s:a7}(h:s∈dH f mt sh):∃t∈sh,s=(dB f mt t.1,t.2)/\∃c∈t.1,0<f c:=by
 unfold dH at h;obtain⟨b,a⟩:=TO.mp h;obtain⟨t,d,rfl⟩:=SJ.mp b;refine⟨t,d,?_⟩;unfold df at a⊢;split at a
 ·rename_i c;rw[SL c];exact⟨rfl,c⟩
 simp at a
theorem IH:∀(z:ab)(L:ZJ)(k:Nat),k<L.length->(c0 z L)[k]?=some (bC (z::L) k,bC L k)
 |_,[],_,h=>absurd h (by simp)
 |z,p::L,0,_=>rfl
 |z,p::L,k+1,h=>by
  have:=IH p L k (by simpa using h);simpa[c0,HQ]using this
theorem CX:∀(z:ab)(L:ZJ),(c0 z L).length=L.length
 |_,[]=>rfl
 |z,p::L=>by simp[c0,CX p L]
theorem x':∀(z:ab)(L:ZJ),L≠[]->bW z L=bC L (L.length-1)
 |_,[],h=>absurd rfl h
 |z,[p],_=>rfl
 |z,p::q::L,_=>by
  have:=x' p (q::L) (by simp);show bW p (q::L)=_
  rw[this];rfl
theorem ya(a:ZJ):dv a=(S7 a.length).map λk=>(bC a ((k+a.length-1)%a.length),bC a k):=by
 apply Uo;intro k;by_cases h:k<a.length
 ·have b:a≠[]:=by rintro rfl;simp at h
  rw[SP,Vl h];unfold dv;rw[IH _ _ _ h];simp only[UN];congr 2;cases k with
  |zero=>
   rw[R5,x' _ _ b,T4,Tg (by lia)]
  |succ k=>
   rw[HQ,show k+1+a.length-1=k+a.length by lia,UP,Tg (by lia)]
 rw[Te (by unfold dv;rw[CX];lia),Te (by simp;lia)]
theorem yb{f:ab->Int}{mt:ab->ab->ab}{a:ZJ}(h:∃c∈a,0<f c):df f mt a=dB f mt a:=by unfold df;rw[SL h]
theorem CY{f:ab->Int}{mt:ab->ab->ab}{a:ZJ}(h:¬∃c∈a,0<f c):df f mt a=[]:=by unfold df;rw[Tk h]
theorem yc{l:ab}{a:ZJ}:(∃c∈a,0<(λc => -ln l c) c)↔∃c∈a,ln l c<0:=
 ⟨λ⟨c,h,z⟩=>⟨c,h,by have z:0 < -ln l c:=z;lia⟩,λ⟨c,h,z⟩=>⟨c,h,by show 0 < -ln l c;lia⟩⟩
theorem CZ{e:Type}{f h:e->D}{P:e->Bool}{l:dJ}{u:bd}{g:ZI}:∀{b:List e}{m:aA}{k:ZK->Prop},(∀r∈b,∀k:Bool->Prop,k (P r)->l (.val (f r)::g) k)->(∀r∈b,∀k:D->Prop,k (h r)->u (.val (f r)::g) k)->k ((b.filter P).map h)->hs (fp 0) l u (b.map f) (m::g) k
 |[],_,_,_,_,d=>d
 |r::b,m,k,i,j,d=>by
  refine i r Sw _ ?_;cases c:P r with
  |true=>
   rw[SL rfl];refine j r Sw _ ?_;refine CZ (P:=P) (λx a=>i x (SA _ a)) (λx a=>j x (SA _ a)) ?_;rwa[WX c]at d
  |false=>
   rw[Tk SU];refine CZ (P:=P) (λx a=>i x (SA _ a)) (λx a=>j x (SA _ a)) ?_;rwa[WY (by rw[c];decide)]at d
theorem C_{a:ZJ}{i:Nat}(h:i<a.length):(dv a).take (i+1)=(dv a).take i++[(bC a ((i+a.length-1)%a.length),bC a i)]:=by
 rw[List.take_succ,ya,SP,Vl h];rfl
theorem C'(a:ZJ):(dv a).take a.length=dv a:=Vn (by unfold dv;rw[CX];exact SF _)
theorem C9(p q:ab):ln (a_ p q) p=0:=by show bm p q p=0;unfold bm a_;grind
theorem II{f:ab->Int}{mt:ab->ab->ab}{x:ab}:∀{a:ZJ}{w:ab},x∈dw f mt a w->(x∈a/\0<=f x)\/∃e∈c0 (a.headD w) (a.tail++[w]),f e.1*f e.2<0/\x=mt e.1 e.2
 |[],_,h=>by cases h
 |p::r,w,h=>by
  have h:x∈kp f p++cI f mt p (r.headD w)++dw f mt r w:=h;rcases SO.mp h with h|h
  ·rcases SO.mp h with h|h
   ·unfold kp at h;split at h
    ·rename_i z
     rw[SQ.mp h];exact .inl ⟨Sw,z⟩
    cases h
   unfold cI at h;split at h
   ·rename_i z
    refine .inr ⟨(p,r.headD w),?_,z,SQ.mp h⟩;cases r<;>exact Sw
   cases h
  rcases II h with⟨b,c⟩|⟨e,b,c⟩
  ·exact .inl ⟨SA _ b,c⟩
  refine .inr ⟨e,?_,c⟩;cases r with
  |nil=>cases h
  |cons q r=>exact SA _ b
theorem C0{f:ab->Int}{mt:ab->ab->ab}{x:ab}{b:ZJ}(h:x∈dB f mt b):(x∈b/\0<=f x)\/∃e∈dv b,f e.1*f e.2<0/\x=mt e.1 e.2:=by
 cases b with
 |nil=>cases h
 |cons a r=>
  rcases II h with h|⟨e,c,d⟩
  ·exact .inl h
  exact .inr ⟨e,CR.mp c,d⟩
structure yd(b m:Nat)(ps:ZJ):Prop where
 kq:∀x∈ps,du b x
 jV:∀e∈dv ps,∃g:ab,cH m g/\(g.1≠0\/g.2.1≠0\/g.2.2≠0)/\ln g e.1=0/\ln g e.2=0
theorem par{g u v:ab}(j:g.1≠0\/g.2.1≠0\/g.2.2≠0)(k:ln g u=0)(l:ln g v=0)(n:(a_ u v).1≠0\/(a_ u v).2.1≠0\/(a_ u v).2.2≠0):∃a b:Int,a≠0/\b≠0/\sc a (a_ u v)=sc b g:=by
 have t:a_ g (a_ u v)=gA (ln g v) u (-ln g u) v:=uV g u v;rw[k,l]at t;generalize a_ u v=w at *
 have d:g.2.1*w.2.2-g.2.2*w.2.1=0:=by
  have:=TW (λx:ab=>x.1) t;unfold a_ gA at this;dsimp only at this;grind
 have f:g.2.2*w.1-g.1*w.2.2=0:=by
  have:=TW (λx:ab=>x.2.1) t;unfold a_ gA at this;dsimp only at this;grind
 have i:g.1*w.2.1-g.2.1*w.1=0:=by
  have:=TW (λx:ab=>x.2.2) t;unfold a_ gA at this;dsimp only at this;grind
 have c:∀{x y:Int},x≠0->x*y=0->y=0:=λh e=>(Tb.mp e).resolve_left h;rcases j with h|h|h
 ·refine⟨g.1,w.1,h,λz=>?_,?_⟩
  ·rw[z]at f i;have a:=c h (show g.1*w.2.2=0 by grind);have b:=c h (show g.1*w.2.1=0 by grind);rcases n with n|n|n<;>contradiction
  unfold sc;refine fh ?_ ?_ ?_<;>dsimp only<;>grind
 ·refine⟨g.2.1,w.2.1,h,λz=>?_,?_⟩
  ·rw[z]at d i;have a:=c h (show g.2.1*w.2.2=0 by grind);have b:=c h (show g.2.1*w.1=0 by grind);rcases n with n|n|n<;>contradiction
  unfold sc;refine fh ?_ ?_ ?_<;>dsimp only<;>grind
 refine⟨g.2.2,w.2.2,h,λz=>?_,?_⟩
 ·rw[z]at d f;have a:=c h (show g.2.2*w.2.1=0 by grind);have b:=c h (show g.2.2*w.1=0 by grind);rcases n with n|n|n<;>contradiction
 unfold sc;refine fh ?_ ?_ ?_<;>dsimp only<;>grind
theorem IJ(c:Int)(p q:ab):a_ p (sc c q)=sc c (a_ p q):=by
 refine fh ?_ ?_ ?_<;>simp only[a_,sc]<;>grind
theorem C8{l w g:ab}{a b:Int}(i:a≠0)(m:b≠0)(e:sc a w=sc b g)(n:(a_ l w).2.2≠0):(a_ l g).2.2≠0/\nP (a_ l w)=nP (a_ l g):=by
 have f:sc a (a_ l w)=sc b (a_ l g):=by rw[<-IJ,e,IJ]
 have h:a*(a_ l w).2.2=b*(a_ l g).2.2:=TW (λx:ab=>x.2.2) f
 have d:(a_ l g).2.2≠0:=λz=>by
  rw[z,SV]at h;rcases Tb.mp h with y|y<;>contradiction
 refine⟨d,?_⟩;obtain⟨c,o,j⟩:=kd d;have k:sc a (a_ l w)=sc (b*c) (nP (a_ l g)):=by rw[f,<-Hf,<-j]
 exact(ru i (λz=>by rcases Tb.mp z with y|y<;>contradiction) (gK d) k).2
theorem fi.sl{g:ab}{d:ZJ}(f:aW g)(e:∀p∈d,aW p)(h:fi d):fi (d.map λp=>nP (ee g p)):=h.map λp q r a b c=>(Ry f.1).side (e p a).1 (e q b).1 (e r c).1
section
variable{K:Su}{X:aT}{c p:Pos}{f:Wp}
theorem kE.nk{B:ak}(b:Int)(n:Nat):kE K B (sv b n) ((S7 n).map λi:Nat=>D.int (b+i)):=by
 intro H s i;rw[Sv,U5];refine⟨λa=>a,λa=>a,λx e a ⟨c,d⟩=>⟨c,?_⟩⟩;refine⟨.int (b+i),?_,?_⟩
 ·rw[SP,Vl a];rfl
 rw[d];exact .int _
def C7(u b:bd):cJ:=λa k=>u a λd=>b a λe=>∃i j,d=.int i/\e=.int j/\(-(2^62)<=i/\i<2^62 /\ -(2^62)<=j/\j<2^62)/\k ((S7 (j-i).toNat).map λt:Nat=>D.int (i+t))
theorem C5{a b:Wp}{u l:bd}(r:br X a u)(s:br X b l)(t:eG X "range")(w:X.mg "range"=none)(m:UF [a,b] X.env=[(false,Yk a X.env),(false,Yk b X.env)]:=by rfl)(g:UF [b] X.env=[(false,Yk b X.env)]:=by rfl):mE X f (.Call (.Name "range" p) [a,b] [] c) (C7 u l):=by
 obtain⟨_,x,y⟩:=r;obtain⟨_,A,C⟩:=s;refine⟨_,NM t w (d8 x (d8 A fa (by rw[eN,g];rfl)) (by rw[eN,m,g])) m g,λn k h R W B H o Q e q=>?_⟩;refine y n _ h R W B H o _ e λd v E F G I J K=>?_;refine C n _ G R W E F o _ I λU Y L M N O P S=>?_;obtain⟨i,j,rfl,rfl,T,z⟩:=N;exact⟨i,j,by rw[K.eX,S.eX],T,q _ _ L M z O (J.trans P) (kE.nk _ _)⟩
end
section
variable{P:WP}{w:Xy}{A:Xz}{E:SC->Tl->Prop}{s:Tl}
inductive jv(h:XE):ZY->ZT->Prop
 |nil:jv h [] []
 |cons{l:ZH}{a:TE}{ks:ZY}{us:ZT}(k:Zq (Zn P w) h l a)(r:jv h ks us):jv h (l::ks) (.ref a::us)
def kh(P:WP)(w:Xy)(h:XE)(d:ZY)(a:TE):Prop:=∃b c n,h.get? a=some b/\b.cls=.type "tuple"/\b.data=.seq c n/\jv (P:=P) (w:=w) h d c.toList
theorem jv.kJ{h:XE}{a:ZT}:∀{x y:ZY},jv (P:=P) (w:=w) h x a->jv (P:=P) (w:=w) h y a->x=y:=by
 intro x y p;induction p generalizing y with
 |nil=>intro q;cases q;rfl
 |cons k r b=>
  intro q;cases q with
  |cons c d=>rw[k.inj c,b d]
theorem kh.ty{b:ZY}{a:TE}(x:kh P w s.heap b a):s.TypeIs (.ref a) "tuple":=let⟨c,_,_,d,e,_⟩:=x;⟨c,d,e⟩
theorem kh.kJ{h:XE}{a:TE}{x y:ZY}(p:kh P w h x a)(q:kh P w h y a):x=y:=by
 obtain⟨i,j,k,d,_,e,f⟩:=p;obtain⟨l,m,n,b,_,c,g⟩:=q;rw[d]at b;cases b;rw[e]at c;cases c;exact f.kJ g
theorem jv.keep{h a:XE}{d:TE}{b:Obj}{j:Array YA}{l:Nat}(c:h.get? d=some b)(e:b.data=.dict j l)(f:Heap.SameBut d h a):∀{g:ZY}{i:ZT},jv (P:=P) (w:=w) h g i->jv (P:=P) (w:=w) a g i
 |_,_,.nil=>.nil
 |_,_,.cons k r=>.cons (k.keeps c e f) (jv.keep c e f r)
theorem kh.keep{h e:XE}{f:ZY}{a d:TE}{g:Obj}{l:Array YA}{m:Nat}(x:kh P w h f a)(i:h.get? d=some g)(j:g.data=.dict l m)(k:Heap.SameBut d h e):kh P w e f a:=by
 obtain⟨n,o,p,b,q,c,r⟩:=x;refine⟨n,o,p,?_,q,c,r.keep i j k⟩
 have s:a≠d:=by
  rintro rfl;rw[i]at b;cases b;rw[j]at c;cases c
 exact(k.2 a s).trans b
def yf(a:ZY):Nat:=(a.map λl=>l.length+1).sum+1
theorem C3{e:ZY}{a:TE}{Q:Int->Tl->Prop}(H:A.units+3<XQ)(o:kh P w s.heap e a)(h:Q (pX true e) {s with toks:=s.toks+yf e}):wpAny (UV P w) A (pyHash (.ref a)) Q E s:=by
 have f:=o.ty;obtain⟨I,J,n,t,_,u,v⟩:=o;unfold pyHash
 first|unfold pyHashByItsType|skip
 first|refine wp (wpAny_cRoomFor_or (.inr (by lia)) ?_)|skip
 refine wp (X' f F.slot_tuple_hash.lookup ?_);show wpAny (UV P w) A (if(some (Value.builtin "tuple.__hash__")==some Value.none)=true then _ else _) Q E s
 rw[Tk (by rw[beq_builtin_none];exact SU)];refine wp (X' f F.slot_tuple_hash.lookup ?_);show wpAny (UV P w) A (callSpecialIfBoundUnlessNone? (.ref a) "__hash__" _ >>= _) Q E s
 refine wp (wpAny_callSpecialIfBoundUnlessNone?_slot f F.slot_tuple_hash (XI F.slot_tuple_hash f F.entry_tuple_hash ?_ (F.args_tuple_hash_1 _)));show wpAny (UV P w) _ (Builtin.Tuple.tupleItemsOf (.ref a) >>= _) _ _ s
 refine wp (Ys t u ?_);refine wp ?_;rw[<-Wb]
 refine Yj _
  (λd (b:Array Int) i=>∃done left,e=done++left/\jv (P:=P) (w:=w) s.heap left d/\b.toList=done.map (λl=>X6 (Builtin.Tuple.tupleHashOf (l.map Zl)))/\i={s with toks:=s.toks+(done.map λl=>l.length+1).sum})
  _ ?_ ?_ _ _ ⟨[],e,rfl,v,rfl,rfl⟩
 ·rintro x d b i ⟨done,left,rfl,j,k,rfl⟩;cases j with
  | @cons l c p _ y B=>
   have q:∃m r,done++l::p=m++r/\jv (P:=P) (w:=w) s.heap r d/\(b.push (X6 (Builtin.Tuple.tupleHashOf (l.map Zl)))).toList=m.map (λl=>X6 (Builtin.Tuple.tupleHashOf (l.map Zl))) /\
     ({s with toks:=s.toks+(done.map λl=>l.length+1).sum+(l.length+1)}:Tl)={s with toks:=s.toks+(m.map λl=>l.length+1).sum}:=⟨done++[l],p,by simp,B,by simp[k],by simp[Wc]⟩
   refine wp (Zg (s:={s with toks:=s.toks+(done.map λl=>l.length+1).sum}) (by show A.units+_<XQ;lia) y ?_)
   first
    |exact SZ q
    |exact wp (SZ (SZ q))
 rintro b i ⟨done,left,rfl,j,k,rfl⟩;cases j;rw[SR]at h;show wpAny (UV P w) _ (retInt (Builtin.Tuple.tupleHashOf b.toList)) _ _ _
 rw[k];refine wpAny_ret_mkInt ?_;generalize C:Builtin.Tuple.tupleHashOf (done.map λl=>X6 (Builtin.Tuple.tupleHashOf (l.map Zl)))=z;have G:pX true done=X6 z:=by rw[<-C];rfl
 rw[G]at h;show wpAny (UV P w) _ (if(decide (-(2:Int)^63<=z)&&decide (z<2^63))=true then _ else _) Q E _
 unfold X6 at h;by_cases g:(decide (-(2:Int)^63<=z)&&decide (z<2^63))=true
 ·rw[SL g];rw[SL g]at h;exact SZ (by simpa[Wc,yf]using h)
 rw[Tk g];rw[Tk g]at h;exact wp (Yb (SZ (by simpa[Wc,yf]using h)))
theorem C2{x y:ZY}{a b:TE}{R:We->Tl->Prop}(ag:A.units+2<XQ)(K:kh P w s.heap x a)(H:kh P w s.heap y b)(h:R (.done (.ret (.bool (decide (x=y))))) s):
  wpAny (UV P w) A (Yw.«tuple.__eq__» ⟨[.ref a,.ref b],[]⟩) R E s:=by
 have L:=H.ty;obtain⟨hc,g,aj,M,_,N,O⟩:=K;obtain⟨aq,i,ar,Q,_,S,T⟩:=H;show wpAny (UV P w) A (isInstance (.ref b) (.type "tuple") >>= _) _ _ s
 refine wp (X5 L Yg ?_);simp only[UR,TL,if_false];refine wp (Ys M N (wp (Ys Q S (wp ?_))))
 refine Yj _
  (λc r j=>r.1=none/\j=s/\∃k l e f,c=List.zip e f/\jv (P:=P) (w:=w) s.heap k e/\jv (P:=P) (w:=w) s.heap l f/\decide (k=l)=decide (x=y)/\(e.length==f.length)=(g.size==i.size))
  _ ?_ ?_ _ _ ⟨rfl,rfl,x,y,g.toList,i.toList,rfl,O,T,rfl,by simp⟩
 ·rintro⟨u,v⟩ c r j ⟨o,rfl,k,l,e,f,d,p,m,n,q⟩;cases p with
  |nil=>simp at d
  | @cons U W I t X z=>
   cases m with
   |nil=>simp at d
   | @cons Y Z J B hi C=>
    rw[Vs,US,UD]at d;obtain⟨⟨rfl,rfl⟩,rfl⟩:=d;refine wp (Zh (by lia) X hi ?_);by_cases F:U=Y
    ·subst F;rw[Xx rfl];simp only[UR,TL,if_false];refine SZ ⟨rfl,rfl,I,J,t,B,rfl,z,C,?_,by simpa using q⟩;rw[<-n];by_cases ae:I=J<;>simp[ae]
    rw[decide_eq_false F];simp only[Bool.not_false,if_true];have af:decide (x=y)=false:=by rw[<-n];simp[F]
    rw[af]at h;exact wp (SZ (SZ (SZ h)))
 rintro⟨au,av⟩ j ⟨o,rfl,k,l,e,f,d,p,m,n,q⟩;simp only at o;subst o;refine SZ ?_
 have G:(g.size==i.size)=decide (x=y):=by
  rw[<-n,<-q];cases p with
  |nil=>cases m<;>simp
  |cons _ _=>
   cases m with
   |nil=>simp
   |cons _ _=>simp at d
 show R (.done (.ret (.bool (g.size==i.size)))) j
 rw[G];exact h
theorem D3{x y:ZY}{a b:TE}{Q:Bool->Tl->Prop}(g:A.units+3<XQ)(c:kh P w s.heap x a)(d:kh P w s.heap y b)(h:Q (decide (x=y)) s):wpAny (UV P w) A (eqBool (.ref a) (.ref b)) Q E s:=by
 unfold eqBool
 try with_reducible refine W1 ?_
 show wpAny (UV P w) A (if(Value.ref a==Value.ref b)=true then _ else _) Q E s
 by_cases f:(Value.ref a==Value.ref b)=true
 ·rw[SL f];obtain rfl:a=b:=by have:=eq_of_beq f;injection this
  obtain rfl:=c.kJ d;exact wp (Yb (SZ (by simpa using h)))
 rw[Tk f]
 exact wp (wpAny_richCompare_same_room (op:=.Eq) c.ty d.ty F.slot_tuple_eq
  (XI F.slot_tuple_eq c.ty F.entry_tuple_eq (C2 (by show A.units+_+2<XQ;lia) c d ⟨_,rfl,(λe=>nomatch e),XF h⟩) (F.args_tuple_eq_2 _ _)) (by lia))
theorem D2(n:Nat){l:ZH}{a:TE}{Q:Bool->Tl->Prop}(e:Zq (Zn P w) s.heap l a)(h:Q true s):wpAny (UV P w) A (Zx (n+1) (.ref a)) Q E s:=by
 have f:=e.typeIs;obtain⟨q,i,m,j,_,k,o⟩:=e;unfold Zx;refine wp (X' f F.slot_tuple_eq.lookup ?_);show wpAny (UV P w) A (isInstance (.ref a) (.type "tuple") >>= _) _ _ s
 refine wp (X5 f Yg ?_);simp only[UR,TL,if_false];refine wp (Yx j k (wp ?_));show wpAny (UV P w) A (forIn i _ _) _ _ s
 rw[<-Wb];refine Yj _ (λb r c=>r.1=none/\c=s/\∀v∈b,carriedByValue v=true) _ ?_ ?_ _ _ ⟨rfl,rfl,o.byValue⟩
 ·rintro v b r c ⟨d,rfl,g⟩;rw[eqIsQuiet_byValue _ (g v Sw)];refine wp (SZ ?_);simp only[UR,TL,if_false];exact SZ ⟨rfl,rfl,λu p=>g u (SA _ p)⟩
 rintro⟨t,x⟩ c ⟨d,rfl,_⟩;simp only at d;subst d;exact SZ h
theorem D1{f:ZY}{a:TE}{Q:Bool->Tl->Prop}(g:kh P w s.heap f a)(h:Q true s):wpAny (UV P w) A (Zx 8 (.ref a)) Q E s:=by
 have i:=g.ty;obtain⟨x,k,m,n,_,o,p⟩:=g;unfold Zx;refine wp (X' i F.slot_tuple_eq.lookup ?_);show wpAny (UV P w) A (isInstance (.ref a) (.type "tuple") >>= _) _ _ s
 refine wp (X5 i Yg ?_);simp only[UR,TL,if_false];refine wp (Yx n o (wp ?_));show wpAny (UV P w) A (forIn k _ _) _ _ s
 rw[<-Wb];refine Yj _ (λb r d=>r.1=none/\d=s/\∃left,jv (P:=P) (w:=w) s.heap left b) _ ?_ ?_ _ _ ⟨rfl,rfl,f,p⟩
 ·rintro v b r d ⟨e,rfl,left,q⟩;cases q with
  | @cons l c t _ u j=>
   refine wp (D2 6 u ?_);simp only[UR,TL,if_false];exact SZ ⟨rfl,rfl,t,j⟩
 rintro⟨j,y⟩ d ⟨e,rfl,_⟩;simp only at e;subst e;exact SZ h
end
def lB(P:WP)(w:Xy):Bool->HeapKind P w ZY
 |false=>{
  is:=λh k a=>∃l,k=[l]/\Zq (Zn P w) h l a
  hash:=pX false
  draws:=λk=>(k.headD []).length+1
  room:=λA=>A.units+3<XQ
  inj:=by rintro h a x y ⟨l,rfl,p⟩ ⟨m,rfl,q⟩;rw[p.inj q]
  keeps:=λ⟨l,e,p⟩ c d f=>⟨l,e,p.keeps c d f⟩
  pyHash:=λb ⟨l,e,p⟩ h=>by subst e;exact Zg (by lia) p h
  eqBool:=λb ⟨l,e,p⟩ ⟨m,g,q⟩ h=>by subst e g;exact Zh (by lia) p q (by simpa using h)
  quiet:=λ⟨l,e,p⟩ h=>wpAny_eqIsQuiet_tuple p h}
 |true=>{
  is:=kh P w
  hash:=pX true
  draws:=yf
  room:=λA=>A.units+3<XQ
  inj:=λp q=>p.kJ q
  keeps:=λp c d f=>p.keep c d f
  pyHash:=λb p h=>C3 b p h
  eqBool:=λb p q h=>D3 b p q h
  quiet:=λp h=>D1 p h}
theorem D0(P:WP)(w:Xy)(b:Bool)(k:ZY):(lB P w b).hash k=pX b k:=by cases b<;>rfl
theorem vb{P:WP}{w:Xy}{b:Bool}{A:Xz}(h:A.units+4<XQ):(lB P w b).room A.in1:=by
 cases b<;>exact(show A.units+1+3<XQ by lia)
noncomputable def bo{a:Type}:List ZY->List a->ZY->Option a
 |b::c,d::e,k=>if b=k then some d else bo c e k
 |_,_,_=>none
noncomputable def f1{a:Type}:List ZY->List a->ZY->a->List a
 |c::e,d::b,k,x=>(if c=k then x else d)::f1 e b k x
 |_,b,_,_=>b
def eZ(a:List ZY)(k:ZY):List ZY:=if k∈a then a else a++[k]
def g9{a:Type}(b:List ZY)(c:List a)(k:ZY)(x:a):List a:=if k∈b then f1 b c k x else c++[x]
def eC:List ZY->ZU->ZT->List (ZY×TE×SC)
 |k::b,a::c,u::d=>(k,a,u)::eC b c d
 |_,_,_=>[]
section
variable{P:WP}{w:Xy}{b:Bool}
theorem yh:∀(c:List ZY)(d:ZU)(e:ZT),lc b c d e=(eC c d e).map (Zm (lB P w b))
 |k::c,a::d,u::e=>by
  rw[lc,eC,SI,<-yh c d e];unfold Zm;rw[D0]
 |[],_,_=>by simp[lc,eC]
 |_::_,[],_=>by simp[lc,eC]
 |_::_,_::_,[]=>by simp[lc,eC]
theorem yi:∀{b:List ZY}{as:ZU}{us:ZT},as.length=b.length->us.length=b.length->(eC b as us).map (·.1)=b
 |[],_,_,_,_=>by simp[eC]
 |k::b,[],_,h,_=>by simp at h
 |k::b,_::_,[],_,h=>by simp at h
 |k::b,a::as,u::us,c,d=>by
  rw[eC,SI,yi (by simpa using c) (by simpa using d)]
theorem s8:∀{ks:List ZY}{as:ZU}{us:ZT}(k:ZY),as.length=ks.length->us.length=ks.length->(Zy (eC ks as us) k).map (·.2)=bo ks us k
 |[],_,_,_,_,_=>by simp[eC,Zy,bo]
 |k::ks,[],_,_,h,_=>by simp at h
 |k::ks,_::_,[],_,_,h=>by simp at h
 |b::ks,a::as,u::us,k,c,d=>by
  have f:=s8 (ks:=ks) (as:=as) (us:=us) k (by simpa using c) (by simpa using d);by_cases e:b=k
  ·simp[eC,Zy,bo,e]
  rw[bo,Tk e,<-f];simp[eC,Zy,List.find?_cons,e]
theorem qs{b:Type}:∀{ks:List ZY}{ds:List b}{k:ZY},ds.length=ks.length->(bo ks ds k=none↔k∉ks)
 |[],_,_,_=>by simp[bo]
 |a::ks,[],_,h=>by simp at h
 |a::ks,d::ds,k,h=>by
  have c:=qs (ks:=ks) (ds:=ds) (k:=k) (by simpa using h);rw[bo];by_cases e:a=k
  ·simp[e]
  rw[Tk e,c,SG];constructor
  ·intro z w;rcases w with w|w
   ·exact e w.symm
   exact z w
  exact λz w=>z (.inr w)
theorem C1{c:Type}{x:c}:∀(a:List ZY)(b:List c)(k:ZY),(f1 a b k x).length=b.length
 |[],_,_=>by simp[f1]
 |e::a,[],_=>by simp[f1]
 |e::a,d::b,k=>by rw[f1,SK,C1 a b k,SK]
theorem IL:∀{b:List ZY}{c:ZU}{d:ZT}(k:ZY)(u:SC),(eC b c d).map (putAt k u)=eC b c (f1 b d k u)
 |[],_,_,_,_=>by simp[eC]
 |k::b,[],_,_,_=>by simp[eC]
 |k::b,_::_,[],_,_=>by simp[eC,f1]
 |f::b,a::c,v::d,k,u=>by
  rw[eC,SI,IL k u,f1,eC];unfold putAt;by_cases e:f=k
  ·rw[SL e,SL e]
  rw[Tk e,Tk e]
theorem IM:∀{b:List ZY}{c:ZU}{d:ZT}(k:ZY)(a:TE)(u:SC),c.length=b.length->d.length=b.length->eC (b++[k]) (c++[a]) (d++[u])=eC b c d++[(k,a,u)]
 |[],[],[],_,_,_,_,_=>rfl
 |[],_::_,_,_,_,_,h,_=>by simp at h
 |[],[],_::_,_,_,_,_,h=>by simp at h
 |k::b,[],_,_,_,_,h,_=>by simp at h
 |k::b,_::_,[],_,_,_,_,h=>by simp at h
 |g::b,i::c,j::d,k,a,u,e,f=>by
  rw[Tr,Tr,Tr,eC,IM k a u (by simpa using e) (by simpa using f),eC,Tr]
theorem IN{b:List ZY}{as:ZU}{us:ZT}(k:ZY)(a:TE)(u:SC)(d:as.length=b.length)(c:us.length=b.length):
  storedH (eC b as us) k a u=eC (eZ b k) (if k∈b then as else as++[a]) (g9 b us k u):=by
 have g:=s8 (as:=as) (us:=us) k d c;unfold storedH eZ g9;by_cases m:k∈b
 ·have s:(Zy (eC b as us) k).isSome=true:=by
   have z:((Zy (eC b as us) k).map (·.2)).isSome=true:=by
    rw[g];cases q:bo b us k with
    |none=>exact absurd m ((qs c).mp q)
    |some x=>rfl
   rwa [WZ]at z
  rw[SL s,SL m,SL m,SL m,IL]
 have s:¬(Zy (eC b as us) k).isSome=true:=by
  have z:((Zy (eC b as us) k).map (·.2)).isSome=false:=by
   rw[g,(qs c).mpr m];rfl
  rw[WZ]at z;rw[z];simp
 rw[Tk s,Tk m,Tk m,Tk m,IM k a u d c]
def m2(H:ak)(b:Bool)(k:ZY)(a:TE):Prop:=match b with
 |false=>∃l:ZH,k=[l]/\H a=some (.tup (l.map V.int))
 |true=>∃d:ZU,H a=some (.tup (d.map V.ref))/\Paired (λ(l:ZH) c=>H c=some (.tup (l.map V.int))) k d
theorem IP:∀{l:ZH}{a:ZT},bO (l.map V.int) a->ItemsAre (Zn P w) l a
 |[],_,r=>by rw[TA]at r;cases r;exact .nil
 |i::l,_,r=>by
  rw[SI]at r;cases r with
  |cons h t=>
   obtain⟨b,e⟩:=(show ∃t,_=Value.int i t from h);subst e;exact .cons (by simp[Zn,Value.isInt]) (IP t)
theorem IQ{H:ak}{h:XE}{l:ZH}{a:TE}(ok:fm P w H h)(e:H a=some (.tup (l.map V.int))):Zq (Zn P w) h l a:=by
 obtain⟨_,b,r,o,c,d,n,f⟩:=(show gG P w H h a (.tup (l.map V.int))from ok a _ e);exact⟨o,b.toArray,n,c,d,f,by simpa using IP r⟩
theorem IR{H:ak}{h:XE}(ok:fm P w H h):∀{d:ZY}{b:ZU}{e:ZT},Paired (λ(l:ZH) c=>H c=some (.tup (l.map V.int))) d b->bO (b.map V.ref) e->jv (P:=P) (w:=w) h d e
 |[],[],_,.nil,r=>by rw[TA]at r;cases r;exact .nil
 |_::_,a::b,_,.cons p q,r=>by
  rw[SI]at r;cases r with
  |cons h t=>
   cases(show _=Value.ref a from h);exact .cons (IQ ok p) (IR ok q t)
theorem m2.is{H:ak}{h:XE}{k:ZY}{a:TE}(x:m2 H b k a)(ok:fm P w H h):(lB P w b).is h k a:=by
 cases b with
 |false=>
  obtain⟨l,rfl,e⟩:=x;exact⟨l,rfl,IQ ok e⟩
 |true=>
  obtain⟨d,e,p⟩:=x;obtain⟨_,c,r,o,f,g,n,i⟩:=(show gG P w H h a (.tup (d.map V.ref))from ok a _ e);exact⟨o,c.toArray,n,f,g,i,by simpa using IR ok p r⟩
structure m3(H:ak)(b:Bool)(a:TE)(a3:Nat)(ks:List ZY)(as:ZU)(vs:ZL):Prop where
 h:H a=some (hX b a a3 ks as vs)
 k:Paired (m2 H b) ks as
theorem IS{H:ak}{h:XE}(ok:fm P w H h):∀{c:List ZY}{d:ZU}{f:ZT},Paired (m2 H b) c d->∀x∈eC c d f,(lB P w b).is h x.1 x.2.1
 |_,_,[],p,x,m=>by cases p<;>simp[eC]at m
 |[],[],_::_,.nil,x,m=>by simp[eC]at m
 |k::c,a::d,u::f,.cons p q,x,m=>by
  rw[eC]at m;rcases SG.mp m with e|m
  ·subst e;exact p.is ok
  exact IS ok q x m
theorem m3.raw{H:ak}{h:XE}{a:TE}{i:Nat}{c:List ZY}{e:ZU}{f:ZL}(d:m3 H b a i c e f)(ok:fm P w H h):
  c.length<=TI/\e.length=c.length/\f.length=c.length/\(a==XJ)=false/\∃g,bO f g/\h.DictOfH (lB P w b) a (eC c e g)/\c.Nodup:=by
 obtain⟨⟨n,j,p,q,g,l,o,r,s,t,u,v,m⟩,_⟩:=(show gG P w H h a (hX b a i c e f)from ok a _ d.h);have x:=l.length;exact⟨n,j,p,q,g,l,⟨o,r,i,s,t,u,by rw[v,yh (P:=P) (w:=w)],IS ok d.k,by rw[yi j (by lia)];exact m⟩,m⟩
theorem ta:∀{ks:List ZY}{a:ZL}{b:ZT}(k:ZY),bO a b->pJ (bo ks a k) (bo ks b k)
 |[],_,_,_,_=>by simp[bo];trivial
 |_::_,_,_,_,.nil=>by simp[bo];trivial
 |c::ks,_,_,k,.cons r t=>by
  rw[bo,bo];by_cases e:c=k
  ·rw[SL e,SL e];exact r
  rw[Tk e,Tk e];exact ta k t
theorem IT{v:V}{u:SC}(r:d_ v u):∀{a:List ZY}{b:ZL}{c:ZT}(k:ZY),bO b c->bO (f1 a b k v) (f1 a c k u)
 |[],_,_,_,t=>by simp only[f1];exact t
 |_::_,_,_,_,.nil=>by simp only[f1];exact .nil
 |d::a,_,_,k,.cons q t=>by
  rw[f1,f1];refine .cons ?_ (IT r k t);by_cases e:d=k
  ·rw[SL e,SL e];exact r
  rw[Tk e,Tk e];exact q
theorem DY{v:V}{u:SC}(r:d_ v u){a:List ZY}{b:ZL}{c:ZT}(k:ZY)(t:bO b c):bO (g9 a b k v) (g9 a c k u):=by
 unfold g9;by_cases m:k∈a
 ·rw[SL m,SL m];exact IT r k t
 rw[Tk m,Tk m];exact Paired.snoc t r
end
theorem IU{o:Option V}{u:Option SC}{d:V}{a:SC}(r:pJ o u)(b:d_ d a):d_ (o.getD d) (u.getD a):=by
 cases o<;>cases u<;>first|exact b|exact r|exact r.elim
def DU(b:Bool):iV:=λx y H Q=>∃a c f d g e k v,x=.ref a/\y=.ref c/\m3 H b a f d g e/\m2 H b k c/\bo d e k=some v/\Q v H
def IV(H:ak)(a:TE):Prop:=∃b c d e f,m3 H b a c d e f
def DT(b:Bool):bH:=λ_ H Q=>∀p,H p=none->Q (.ref p) (ed H p (hX b p 0 [] [] []))
def DS(b:Bool)(i ty j:bH):bH:=λd H Q=>i d H λx f=>∃a,x=.ref a/\IV f a/\ty d f λy l=>j d l λz e=>∃c m g n h k,y=.ref c/\m3 e b a m g n h/\m2 e b k c/\Q ((bo g h k).getD z) e
def DR(b:Bool)(i ty j:bH):gX:=λD e H=>j e H λv l=>i e l λx m=>ty e m λy f=>∃a c n d g h k,x=.ref a/\y=.ref c/\m3 f b a n d g h/\m2 f b k c/\d.length<TI /\
 ∀o,D.nx e (ed f a (hX b a o (eZ d k) (if k∈d then g else g++[c]) (g9 d h k v)))
section
variable{X:aT}{b:Bool}{j B C n:Pos}{o e f i value:Wp}{t ty G E:bH}
theorem m3.typ{H:ak}{s:Tl}{g:ZX}{h:St}{a:TE}{i:Nat}{j:List ZY}{k:ZU}{l:ZL}(I:c_ X g h H s)(d:m3 H b a i j k l):
  s.TypeIs (.ref a) "dict"/\∀c,Value.ref a=.ref c->∃e,s.heap.get? c=some e/\e.dict=none:=by
 obtain⟨_,_,_,_,o,_,f,_⟩:=d.raw I.ep;refine⟨f.typeIs,λc q=>?_⟩;cases q;obtain⟨e,_,_,m,n,_⟩:=f;exact⟨e,m,n.2.1⟩
theorem IW(m:X.A.units+4<XQ):sB X (DU b):=by
 intro O P n s t H x y v u Q I w B h C;obtain⟨a,c,R,E,as,S,k,z,rfl,rfl,d,G,l,q⟩:=h;cases w;cases(show u=Value.ref c from B);obtain⟨T,J,U,W,us,e,f,Y⟩:=d.raw I.ep;have Z:=e.length;have g:=s8 (as:=as) (us:=us) k J (by lia);obtain⟨i,K,L⟩:=pJ.some_of (v:=z) (o:=bo E us k) (by rw[<-l];exact ta k e);rw[K]at g;obtain⟨p,M,j⟩:=UE.mp g
 exact PyProof.Rows.subscriptTail_builtinR (x:=i) f.typeIs PySem.F.slot_dict_getitem.lookup
  (wpAny_getItem_heap (Q:=λr N=>r=i/\hf X n t Q r N) (vb m) (G.is I.ep) f M ⟨j,by rw[j];exact⟨z,H,I.tok _,L,q⟩⟩) C
theorem DQ(r:X.A.units+4<XQ)(v:bQ X o t)(B:bQ X e ty)(E:bQ X f G)(J:iq X o "get":=by rfl)(K:lQ X n [e,f]:=by rfl)(L:iS C n:=by rfl)(M:X9 n (UF [e,f] X.env)=[(false,Yk e X.env),(false,Yk f X.env)]:=by rfl):
  bQ X (.Call (.Attribute o "get" C) [e,f] [] n) (DS b t ty G):=by
 intro g s i H Q I h;refine wpAny_Call_method J K L Wf Vt W2 (cq (v g s i H _ I h) λu N ⟨x,O,m,P,a,R,j,S⟩=>?_);obtain⟨aJ,aK,T,U,aM,d⟩:=j;subst R;obtain rfl:u=Value.ref a:=P;obtain⟨W,Y⟩:=d.typ m;refine⟨W,Y,?_⟩;rw[M]
 refine Calls.callWith_builtin rfl (Calls.evalArgs_plain (Calls.spliced_cons (cq (B g N i O _ m S) λZ hi ⟨y,ae,af,ag,ai⟩=>
  Calls.spliced_cons (cq (E g hi i ae _ af ai) λhc aN ⟨z,ao,l,ar,c,aP,au,av,aQ,k,aw,ay,az,aB⟩=>Calls.spliced_nil ?_))))
 subst aw;obtain rfl:Z=Value.ref c:=ag;obtain⟨aU,aC,aV,aG,aH,p,q,aX⟩:=ay.raw l.ep;have a4:=p.length;refine Zs Vt q.typeIs W3 (PySem.F.args_dict_get_3 _ _ _) (meetsH_dict_get_default (lB X.prog X.w b) a c aG hc) ⟨vb r,k,eC au av aH,az.is l.ep,q,?_⟩;rw[s8 k aC (by lia)];exact⟨_,ao,l.tok _,IU (ta k p) ar,aB⟩
theorem IZ{a:List ZY}{k:ZY}(h:a.Nodup):(eZ a k).Nodup:=by
 unfold eZ;by_cases m:k∈a
 ·rw[SL m];exact h
 rw[Tk m];refine Wg.mpr ⟨h,by simp,λx b y c=>?_⟩;rw[SQ.mp c];rintro rfl;exact m b
theorem DP(N:X.A.units+4<XQ)(O:bQ X o t)(Q:bQ X i ty)(R:bQ X value E)(S:XA value (some (.Subscript o i B)) j.line X.env=pure false:=by rfl):
  jB X (.Assign [.Subscript o i B] value j) (DR b t ty E):=by
 intro g s f H D I h;refine wpAny_Assign_Subscript (cq (R g s f H _ I h) λr T ⟨v,U,W,Y,Z⟩=>cq (O g T f U _ W Z) λu af ⟨x,ag,hc,ao,au⟩=>cq (Q g af f ag _ hc au) λaw C ⟨y,ay,m,az,a,c,b8,d,as,F,k,aE,aG,G,aJ,b9,aK⟩=>?_) S;subst aE aG;obtain rfl:u=Value.ref a:=ao;obtain rfl:aw=Value.ref c:=az;obtain⟨aM,l,J,aN,us,K,aQ,aU⟩:=G.raw m.ep;have x1:=K.length
 have le:(eC d as us).length=d.length:=by
  have:=TW S6 (yi (as:=as) (us:=us) l (by lia))
  rwa [Sv]at this
 refine wpAny_setItem_heap (vb N) (aJ.is m.ep) aQ (λaV L a4=>?_) (by lia);rw[IN k c r l (by lia)]at L
 have lk:(eZ d k).length<=TI:=by
  unfold eZ;split
  ·exact aM
  rw[Sz,Tp];lia
 have a5:(if k∈d then as else as++[c]).length=(eZ d k).length:=by
  unfold eZ;split
  ·exact l
  rw[Sz,Sz,l];rfl
 have a':(g9 d F k v).length=(eZ d k).length:=by
  unfold eZ g9;split
  ·rw[C1];exact J
  rw[Sz,Sz,J];rfl
 obtain⟨n,ba,M,p,bf,bj,bq,bw,bA⟩:=L
 have bD:c_ X g f (ed ay a (hX b a M (eZ d k) (if k∈d then as else as++[c]) (g9 d F k v))) {C with heap:=aV,toks:=C.toks+(lB X.prog X.w b).draws k}:=by
  refine m.write (x:=a) (e:=a) (by rw[G.h];trivial) (.inl rfl) (λbG q bK z=>(a4.2 bG bK).trans z) ⟨n,p⟩ ?_;refine⟨⟨lk,a5,a',aN,_,DY Y k K,n,ba,p,bf,bj,?_,IZ aU⟩,⟨n,p⟩,?_⟩
  ·rw[bq,yh (P:=X.prog) (w:=X.w)]
  rintro cc cn ⟨bL,bM,bR,bS,bT,bV,bX,bY,bZ,b0⟩ b6;exact⟨bL,bM,bR,bS,bT,bV,bX,bY,b6 _ bZ,b0⟩
 exact⟨f,_,bD,aK M⟩
theorem I1:bQ X (.Dict [] [] j) (DT b):=λt s u H Q I h=>by
 have c:XJ<s.heap.objs.size:=Nat.lt_trans (by decide) ((I.mod.glob.keeps I.bk).lt:Uf<s.heap.objs.size);refine wpAny_Dict_empty ⟨.ref s.heap.objs.size,_,I.laid (a:=s.heap.objs.size) (o:=hX b s.heap.objs.size 0 [] [] []) (t':=s.toks) (λ_ _ q=>Heap.get?_push_of_some _ q) (SF _) ?_,rfl,h _ (I.ep.fresh (SF _))⟩;refine⟨⟨Td _,rfl,rfl,beq_eq_false_iff_ne.mpr (Ta (S5 c)),[],.nil,_,#[],Heap.get?_push_size _ rfl,⟨rfl,rfl,rfl⟩,rfl,rfl,List.nodup_nil⟩,⟨_,Heap.get?_push_size _ rfl⟩,?_⟩;rintro v w ⟨d,e,f,g,i,k,l,m,n,p⟩ r;exact⟨d,e,f,g,i,k,l,m,r _ n,p⟩
end
def pd(h:XE)(d:TE)(a:Array YA)(b:Nat):Prop:=∃o,h.get? d=some o/\o.ExactDict/\o.data=.dict a b
section
variable{g:WP}{w:Xy}{A:Xz}{E:SC->Tl->Prop}{s:Tl}{d f:TE}{i h:Nat}{c:Array YA}
theorem DO{Q:SC->Tl->Prop}(e:(d==XJ)=false)(f:pd s.heap d c h)(i:Q (.ref s.heap.objs.size) {s with heap:=s.heap.push {cls:=.type "dict_keyiterator",data:=.fields #[.ref d,.int 0 0,.int c.size 0,.int h 0]} }):wpAny (UV g w) A (ZB (.ref d)) Q E s:=by
 obtain⟨o,a,k,b⟩:=f;have ty:s.TypeIs (.ref d) "dict":=⟨o,a,k.1⟩;have no:¬(d==XJ)=true:=λz=>by rw[e]at z;cases z
 refine YB ty F.slot_dict_iter (XI F.slot_dict_iter ty F.entry_dict_iter ?_ (F.args_dict_iter_1 _));unfold Yw.«dict.__iter__» Builtin.Dict.dictSlotNone;refine wp (wp (Yh ty (show wpAny _ _ (pure (Value.ref d)) _ _ s from SZ ?_)));show wpAny _ _ (Builtin.Dict.showsAll d >>= _) _ _ s
 unfold Builtin.Dict.showsAll;rw[Tk no];refine wp (SZ (wp (X1 a b (wp (Yp a b (wp (Xv (SZ ?_))))))));exact⟨_,rfl,"dict_keyiterator",_,⟨_,Heap.get?_push_size _ rfl,rfl⟩,F.slot_dict_keyiterator_next.lookup,by simpa[Y4]using i⟩
theorem I2{Q:Option SC->Tl->Prop}(y:A.handled=none)(l:s.heap.IsKeyIter f d i c.size h)(z:pd s.heap d c h)(n:∀e j,c[i]?=some e->j.IsKeyIter f d (i+1) c.size h->Heap.SameBut f s.heap j->Q (some e.key) {s with heap:=j })(done:∀j,c[i]?=none->Heap.ExtBut f s.heap j->Q none {s with heap:=j }):wpAny (UV g w) A (YR (.ref f)) Q E s:=by
 have ty:=l.typeIs;obtain⟨B,p,r,k⟩:=l;obtain⟨o,u,G,v⟩:=z;have own:Builtin.Dict_items.ownsTuple "dict_keyiterator"=false:=by decide
 have C:¬((i:Int)<0):=by lia
 have none_:¬(Value.ref d==Value.none)=true:=SU;unfold YR;refine wp (Zi (YG (name:="__next__") ty F.slot_dict_keyiterator_next (XI F.slot_dict_keyiterator_next ty F.entry_dict_keyiterator_next ?_ (F.args_dict_keyiterator_next_1 _))));refine wp (SZ (wp (wp ?_)))
 first|refine wp (XS ty (SZ (wp (Yy p k ?_))))|refine wp (X7 ty (SZ (wp (Yy p k ?_))))
 rw[own];show wpAny _ _ (if(Value.ref d==Value.none)=true then _ else _) _ _ s
 rw[Tk none_];refine wp (SZ (wp (X1 u v ?_)));rw[Tk (by simp)];refine wp (SZ (wp (Yp u v ?_)));rw[Tk (by simp)];refine SZ ?_;simp only[C,if_false,Wh];cases q:c[i]? with
 |some e=>
  let t:=s.heap.update f (Obj.mapFields (·.setIfInBounds 1 (Y4 ((i:Int)+1))))
  have x:t.IsKeyIter f d (i+1) c.size h:=by
   refine⟨_,Heap.get?_update_self _ p ?_,(Obj.cls_mapFields ..).trans r,?_⟩
   ·exact Obj.isFreed_of_fields (Obj.data_mapFields k _)
   rw[Obj.data_mapFields k];simp[Y4]
  refine wp ?_
  first|refine wp (XS ty (SZ (wp (Yi ty ?_))))|refine wp (X7 ty (SZ (wp (Yi ty ?_))))
  show wpAny _ _ (ZF (.ref f) 1 (Y4 ((i:Int)+1)) >>= _) _ _ s
  refine wp (Y7 p k (by simp) (wp (W1 (wp (Yi (s:={s with heap:=t}) x.typeIs ?_)))));exact SZ (SZ ⟨_,rfl,SZ (n e t q x (Heap.SameBut.update ..))⟩)
 |none=>
  refine wp ?_
  first|refine wp (XS ty (SZ ?_))|refine wp (X7 ty (SZ ?_))
  show wpAny _ _ (ZF (.ref f) 0 .none >>= _) _ _ s
  refine wp (Y7 p k (by simp) ?_);show wpAny _ _ (newExc (.type "StopIteration") [] >>= _) _ _ _
  unfold newExc newTuple;refine wp (wp (Xv (wp (m:=Yz _ _) (Zb (a:=Value.none) (by first|rfl|(unfold Yz;rfl)) (Xv ?_ (by size_fits)))) (by size_fits)));unfold raiseNew;refine wp (wpAny_handled ?_);rw[show A.in1.handled=none from y];refine wp (SZ (wpAny_throw ?_));refine wp (X5 (T:="StopIteration") (b:=true) (by exact⟨_,Heap.get?_push_size _ rfl,rfl⟩) isSubtype_stop ?_);exact SZ (done _ q (((Heap.SameBut.update ..).extBut.push _).push _))
theorem DM{k v:SC}{hsh:Int}{Q:Option SC->Tl->Prop}(n:A.handled=none)(l:s.heap.IsKeyIter f d i c.size h)(o:pd s.heap d c h)(m:c[i]?=some ⟨hsh,k,v⟩)(p:∀j,j.IsKeyIter f d (i+1) c.size h->Heap.SameBut f s.heap j->Q (some k) {s with heap:=j }):wpAny (UV g w) A (YR (.ref f)) Q E s:=
 I2 n l o (λe j q a b=>by rw[m]at q;cases q;exact p j a b) λj q _=>by rw[m]at q;cases q
theorem DL{Q:Option SC->Tl->Prop}(j:A.handled=none)(b:s.heap.IsKeyIter f d i c.size h)(k:pd s.heap d c h)(l:c.size<=i)(m:∀a,Heap.ExtBut f s.heap a->Q none {s with heap:=a }):wpAny (UV g w) A (YR (.ref f)) Q E s:=
 I2 j b k (λe a q _ _=>by rw[VG l]at q;cases q) λa _ n=>m a n
end
def I3(b:Bool)(a:TE)(f:Nat)(d:List ZY)(e:ZU)(g:ZL):hA where
 go:=λi H=>H a=some (hX b a f d e g)/\i<d.length
 lq:=λi H x h=>h=H/\∃c,e[i]?=some c/\x=.ref c
 stop:=λi H=>H a=some (hX b a f d e g)/\d.length<=i
theorem I4{b:Bool}:∀{c:List ZY}{d:ZU}{e:ZT},d.length=c.length->e.length=c.length->(lc b c d e).length=c.length
 |[],_,_,_,_=>by simp[lc]
 |k::c,[],_,h,_=>by simp at h
 |k::c,_::_,[],_,h=>by simp at h
 |k::c,a::d,u::e,f,g=>by rw[lc,SK,SK,I4 (by simpa using f) (by simpa using g)]
theorem C4{b:Bool}:∀{ks:List ZY}{as:ZU}{us:ZT}{i:Nat},as.length=ks.length->us.length=ks.length->i<ks.length->∃k c u,as[i]?=some c/\us[i]?=some u/\(lc b ks as us)[i]?=some ⟨pX b k,.ref c,u⟩
 |[],_,_,i,_,_,h=>by simp at h
 |k::ks,[],_,_,h,_,_=>by simp at h
 |k::ks,_::_,[],_,_,h,_=>by simp at h
 |k::ks,a::as,u::us,0,_,_,_=>⟨k,a,u,rfl,rfl,rfl⟩
 |k::ks,a::as,u::us,i+1,d,e,f=>by
  obtain⟨g,c,j,l,m,n⟩:=C4 (b:=b) (ks:=ks) (as:=as) (us:=us) (i:=i) (by simpa using d) (by simpa using e) (by simpa using f);exact⟨g,c,j,by simpa using l,by simpa using m,by simpa[lc]using n⟩
section
variable{P:WP}{w:Xy}{K:Su}{m:Wp}{b:Bool}{a:TE}{j:Nat}{f:List ZY}{g:ZU}{l:ZL}
theorem tg{H:ak}{h:XE}(ok:fm P w H h)(e:H a=some (hX b a j f g l)):∃c d,pd h a d j/\d.toList=lc b f g c/\g.length=f.length/\c.length=f.length/\d.size=f.length/\bO l c/\(a==XJ)=false:=by
 obtain⟨⟨s,i,t,n,c,k,o,d,p,q,r,m,u⟩,_⟩:=(show gG P w H h a (hX b a j f g l)from ok a _ e);have v:=k.length;exact⟨c,d,⟨o,p,q,r⟩,m,i,by lia,by rw[<-Va,m,I4 i (by lia)],k,n⟩
theorem DK(n:TE):pP P w K m (I3 b a j f g l) [n] n (λi h=>h.IsKeyIter n a i f.length j) where
 mem:=by simp
 obj:=λi h st c p=>by
  have e:c=n:=by simpa using p
  subst e;obtain⟨o,e,_,d⟩:=st;exact⟨o,e,λv z=>by rw[d]at z;cases z⟩
 keep:=λi h r st k=>st.at λo e=>k n (by simp) o e
 item:=by
  intro X y A B p i S s T H E I t st C;subst y A B;obtain⟨F,U⟩:=C;obtain⟨h1,aa,G,W,Y,Z,x,_⟩:=tg I.ep F;obtain⟨k,c,u,af,aw,ag⟩:=C4 (b:=b) Y Z U;obtain⟨J,L,ai,M,N,O⟩:=t n (by simp);refine DM (I.ok.hd p) (by rw[x];exact st) G (hsh:=pX b k) (k:=.ref c) (v:=u) (by rw[<-UJ,W];exact ag) λr Q ao=>?_;rw[x]at Q;have aq:c_ X S T H {s with heap:=r }:=I.turned (t':=s.toks) (λR o q e=>(ao.2 R q).trans e) J L M N O;obtain⟨o,e,ar,d⟩:=id Q;exact⟨.ref c,rfl,wx (s:={s with heap:=r }) e ar d (by decide) ⟨.ref c,H,aq,rfl,⟨rfl,c,af,rfl⟩,Q,λau q=>(t au q).1⟩⟩
 done:=by
  intro X y A B p i S s T H E I t st C;subst y A B;obtain⟨F,U⟩:=C;obtain⟨h1,aa,G,W,Y,Z,x,_⟩:=tg I.ep F;obtain⟨J,L,ai,M,N,O⟩:=t n (by simp);exact DL (I.ok.hd p) (by rw[x];exact st) G (by lia) λr av=>⟨rfl,I.turned (t':=s.toks) (λR o q e=>av R o q e) J L M N O⟩
 self:=λ_ _ _ _ _ st h=>wpAny_pyIter_keyiter st h
end
def DJ(h:bH):gP:=λi H R=>h i H λx c=>∃b a d e f g,x=.ref a/\c a=some (hX b a d e f g)/\R (I3 b a d e f g) c
section
variable{X:aT}{d:Wp}
theorem DI{l:Wp}{i:bH}(j:bQ X l i):iU X d l (DJ i):=by
 intro k s m H R I h;refine cq (j k s m H _ I h) λv f ⟨x,n,g,p,r⟩=>?_;obtain⟨b,a,A,B,C,E,e,t,q⟩:=r;subst e;cases p;obtain⟨F,G,u,J,K,L,w,_,y⟩:=tg g.ep t;refine DO y u ?_;refine⟨f.heap.objs.size,[f.heap.objs.size],_,_,n,rfl,g.kept (t':=f.toks) λb o e=>Heap.get?_push_of_some _ e,DK _,⟨_,Heap.get?_push_size _ rfl,rfl,by rw[w];rfl⟩,λc z=>?_,q⟩;have e:c=f.heap.objs.size:=by simpa using z
 subst e;exact g.hC (SF _) (g.ep.fresh (SF _))
end
section
variable{K:Su}{B H:ak}
theorem C6:∀{a:ZL}{l:ZH},b_ K B a (l.map D.int)->a=l.map V.int
 |_,[],r=>by cases r;rfl
 |_,i::l,r=>by
  rw[SI]at r;cases r with
  |cons h t=>rw[h.eX,C6 t];rfl
theorem I5(s:cj B H):∀{b:ZL}{k:ZY},b_ K B b (k.map λe=>.tup (e.map D.int))->∃a:ZU,b=a.map V.ref/\Paired (λ(l:ZH) c=>H c=some (.tup (l.map V.int))) k a
 |_,[],r=>by cases r;exact⟨[],rfl,.nil⟩
 |_,l::k,r=>by
  rw[SI]at r;cases r with
  |cons h t=>
   obtain⟨c,g,rfl,d,f⟩:=h.fB;rw[C6 f]at d;obtain⟨a,rfl,p⟩:=I5 s t;exact⟨c::a,rfl,.cons (s _ _ d) p⟩
theorem th{b:Bool}{k:ZY}{v:V}(r:bE K B v (gI b k)):∃c,v=.ref c:=by
 unfold gI at r;split at r
 ·obtain⟨c,_,rfl,_⟩:=r.fB;exact⟨c,rfl⟩
 obtain⟨c,_,rfl,_⟩:=r.fB;exact⟨c,rfl⟩
theorem rI{b:Bool}{k:ZY}{c:TE}(s:cj B H)(f:b=false->∃l,k=[l])(r:bE K B (.ref c) (gI b k)):m2 H b k c:=by
 cases b with
 |false=>
  obtain⟨l,rfl⟩:=f rfl;obtain⟨g,h,e,a,d⟩:=(show bE K B (.ref c) (.tup (l.map D.int))from r).fB;cases e;rw[C6 d]at a;exact⟨l,rfl,s _ _ a⟩
 |true=>
  obtain⟨g,h,e,a,d⟩:=(show bE K B (.ref c) (.tup (k.map λi=>.tup (i.map D.int)))from r).fB;cases e;obtain⟨j,rfl,p⟩:=I5 s d;exact⟨j,s _ _ a,p⟩
theorem m4{b:Bool}(s:cj B H):∀{c:List ZY}{d:ZU},(b=false->∀k∈c,∃l,k=[l])->b_ K B (d.map V.ref) (c.map (gI b))->Paired (m2 H b) c d
 |[],[],_,_=>.nil
 |[],_::_,_,r=>by cases r
 |_::_,[],_,r=>by cases r
 |k::c,a::d,e,r=>by
  rw[SI,SI]at r;cases r with
  |cons h t=>exact .cons (rI s (λz=>e z k Sw) h) (m4 s (λz f m=>e z f (SA _ m)) t)
theorem I6{b:Bool}{z:V}{d:D}(a:bE K B z d)(k:ZY):∀{c:List ZY}{f:ZL}{g:ZK},b_ K B f g->bE K B ((bo c f k).getD z) ((bo c g k).getD d)
 |[],_,_,_=>by simp only[bo,Vd];exact a
 |_::_,_,_,.nil=>by simp only[bo,Vd];exact a
 |i::c,_,_,.cons h t=>by
  rw[bo,bo];by_cases e:i=k
  ·rw[SL e,SL e];exact h
  rw[Tk e,Tk e];exact I6 (b:=b) a k t
theorem I7{d:D}(k:ZY):∀{a:List ZY}{b:ZL}{c:ZK},b_ K B b c->bo a c k=some d->∃v,bo a b k=some v/\bE K B v d
 |[],_,_,_,e=>by simp[bo]at e
 |_::_,_,_,.nil,e=>by simp[bo]at e
 |f::a,_,_,.cons h t,e=>by
  rw[bo]at e⊢;by_cases z:f=k
  ·rw[SL z]at e⊢;cases e;exact⟨_,rfl,h⟩
  rw[Tk z]at e⊢;exact I7 k t e
theorem I8{v:V}{d:D}(r:bE K B v d)(k:ZY):∀{a:List ZY}{b:ZL}{c:ZK},b_ K B b c->b_ K B (f1 a b k v) (f1 a c k d)
 |[],_,_,t=>by simp only[f1];exact t
 |_::_,_,_,.nil=>by simp only[f1];exact .nil
 |f::a,_,_,.cons h t=>by
  rw[f1,f1];refine .cons ?_ (I8 r k t);by_cases e:f=k
  ·rw[SL e,SL e];exact r
  rw[Tk e,Tk e];exact h
theorem En{v:V}{d:D}(r:bE K B v d)(k:ZY){a:List ZY}{b:ZL}{c:ZK}(t:b_ K B b c):b_ K B (g9 a b k v) (g9 a c k d):=by
 unfold g9;by_cases m:k∈a
 ·rw[SL m,SL m];exact I8 r k t
 rw[Tk m,Tk m];exact t.append (.cons r .nil)
theorem Em{b:Bool}{c:TE}{k:ZY}{a:List ZY}{d:ZU}(r:bE K B (.ref c) (gI b k))(t:b_ K B (d.map V.ref) (a.map (gI b))):
  b_ K B ((if k∈a then d else d++[c]).map V.ref) ((eZ a k).map (gI b)):=by
 unfold eZ;by_cases m:k∈a
 ·rw[SL m,SL m];exact t
 rw[Tk m,Tk m,SE,SE];exact t.append (.cons r .nil)
end
def rJ(b:Bool)(k:ZY):Prop:=b=false->∃l,k=[l]
theorem Eg{b:Bool}{k:ZY}{c:List ZY}(h:b=false->∀k∈c,∃l,k=[l])(d:rJ b k):b=false->∀a∈eZ c k,∃l,a=[l]:=λz a m=>by
 unfold eZ at m;split at m
 ·exact h z a m
 rcases SO.mp m with m|m
 ·exact h z a m
 rw[SQ.mp m];exact d z
def Ef(b:Bool)(i:Nat):cB:=λU a=>U.nx (a.set i (.own (.d b none [] [])))
def Ed(b:Bool)(n:Nat)(g h:bd):bd:=λa k=>∃t e f,a[n]?=some (.own (.d b t e f))/\g a λy=>h a λz=>∃c,y=gI b c/\rJ b c/\k ((bo e f c).getD z)
def Eb(b:Bool)(n:Nat)(g h:bd):cB:=λU a=>h a λd=>∃t c f,a[n]?=some (.own (.d b t c f))/\g a λy=>∃e,y=gI b e/\rJ b e/\c.length<TI/\U.nx (a.set n (.own (.d b t (eZ c e) (g9 c f e d))))
def D_(b:Bool)(g h:bd):bd:=λc k=>g c λx=>h c λy=>∃e f a d,x=.dct b e f/\y=gI b a/\rJ b a/\bo e f a=some d/\k d
def D7(u:bd):cJ:=λc k=>u c λx=>∃b a d,x=.dct b a d/\k (a.map (gI b))
def D6(i:Nat)(s:cB):cB:=λU a=>∃b t c e,a[i]?=some (.own (.d b t c e))/\s U (a.set i (.val (.dct b c e)))
section
variable{X:aT}{b:Bool}{n:Nat}{x:Str}{w r C J E K:Pos}{o e f i value:Wp}{F u I G:bd}{L:Wp}
theorem D5{i:Nat}(c:X.N.Nodup)(d:X.N[i]?=some x)(f:ho X.env.scope x)(g:XA (.Dict [] [] K) (some (.Name x C)) r.line X.env=pure false:=by rfl)(k:ip X x:=by walk_at"f"):
  eV X (.Assign [.Name x C] (.Dict [] [] K) r) (Ef b i):=by
 refine⟨_,qW c d f (I1 (b:=b)) g k,λU o h R W B H q D e s=>?_⟩;intro p a;obtain⟨l,t,n⟩:=e.toWd.fresh a;exact s.nx _ _ B _ h ((e.e8 a _).setC i l n ⟨0,[],[],(λ_ z=>nomatch z),dL,.nil,λ_ _ z=>by simp at z,.nil⟩ λj _ m=>e.ff a m rfl) (bx.refl _ _)
theorem I9(n:Nat)(F:X.A.units+4<XQ)(G:br X e u)(K:br X f I)(L:gV X n x:=by rfl)(M:gh X.env.scope x:=by walk_at"v")(N:ec x:=by decide)(O:gO x:=by decide)(P:iq X (.Name x w) "get":=by rfl)(S:lQ X E [e,f]:=by rfl)(T:iS J E:=by rfl)(U:X9 E (UF [e,f] X.env)=[(false,Yk e X.env),(false,Yk f X.env)]:=by rfl):
  br X (.Call (.Attribute (.Name x w) "get" J) [e,f] [] E) (Ed b n u I):=by
 obtain⟨_,Y,Z⟩:=G;obtain⟨_,hi,ae⟩:=K;refine⟨_,DQ (b:=b) F (gZ L M N O) Y hi P S T U,λh k z R W B H i Q g q=>?_⟩;obtain⟨t,j,bM,l,z⟩:=z;obtain⟨a,m,bR,bS,af,hc,aj,_,ar,au,av,bT⟩:=g.fJ l;refine⟨_,m,a,rfl,⟨b,af,j,hc,aj,ar,m4 g.bh av au⟩,?_⟩;refine Z h _ z R W B H i _ g λy v aw az aG aI aK o=>?_;refine ae h _ aG R W aw az i _ aI λbU bV aN aO aV d p a4=>?_;obtain⟨r,rfl,a5,bb⟩:=aV;obtain⟨c,rfl⟩:=th o;obtain⟨bX,C,bY,bZ,bc,bj,bq,_,bw,bA,bG,bK⟩:=d.fJ l;rw[m]at C;cases C;exact⟨c,bc,j,bj,bq,r,rfl,⟨bw,m4 d.bh bG bA⟩,rI d.bh a5 (o.mono p.s),q _ _ aN aO bb d (aK.trans p) (I6 (b:=b) a4 r bK)⟩
theorem Eo(b:Bool)(m:X.A.units+4<XQ)(n:br X o F)(p:br X e u)(t:q2 e):br X (.Subscript o e r) (D_ b F u):=by
 obtain⟨_,w,C⟩:=n;obtain⟨_,E,G⟩:=p;refine⟨_,k7 (IW (b:=b) m) w E t,λg k z R W B H h Q I q=>?_⟩;refine C g _ z R W B H h _ I λx v J K L M N O=>?_;refine G g _ L R W J K h _ M λy aI P S T f i j=>?_;obtain⟨U,aK,l,d,rfl,rfl,Y,Z,hi⟩:=T;obtain⟨c,rfl⟩:=th j;cases O.mono i.s with
 | @dct a _ ae _ af ag _ hc aj au aw=>
  obtain⟨v,az,aG⟩:=I7 l aw Z;exact⟨a,c,ae,U,af,ag,l,v,rfl,rfl,⟨f.bh _ _ hc,m4 f.bh au aj⟩,rI f.bh Y j,az,q _ _ P S hi f (N.trans i) aG⟩
theorem I'(n:Nat)(K:X.A.units+4<XQ)(L:br X e u)(M:br X value G)(N:gV X n x:=by rfl)(g:gh X.env.scope x:=by walk_at"v")(O:ec x:=by decide)(P:gO x:=by decide)(Q:XA value (some (.Subscript (.Name x w) e C)) r.line X.env=pure false:=by rfl):
  eV X (.Assign [.Subscript (.Name x w) e C] value r) (Eb b n u G):=by
 obtain⟨_,S,T⟩:=M;obtain⟨_,Y,Z⟩:=L;refine⟨_,DP (b:=b) K (gZ N g O P) Y S Q,λU l z R W B H m D hi ae=>?_⟩;refine T l _ z R W B H m _ hi λd v af hc h o aj au=>?_;obtain⟨t,aw,bj,i,h⟩:=h;obtain⟨a,j,bq,bw,_⟩:=o.fJ i;refine⟨_,j,?_⟩;refine Z l _ h R W af hc m _ o λy bA az bG aG f p k=>?_;obtain⟨q,rfl,E,aI,aK⟩:=aG;obtain⟨c,rfl⟩:=th k;obtain⟨bK,F,bL,bM,aN,aO,aV,a4,a5,I,J,bb⟩:=f.fJ i;rw[j]at F;cases F;refine⟨a,c,aN,aw,aO,aV,q,rfl,rfl,⟨a5,m4 f.bh J I⟩,rI f.bh E k,aI,λbc=>?_⟩;exact ae.nx _ _ az _ aK (f.jE j i ⟨bc,_,_,a4,dL,Em k I,Eg J E,En (au.mono p.s) q bb⟩) (aj.trans p)
theorem BV{st:ZW}{s:cB}(i:Nat)(h:hE X st s):hE X st (D6 i s):=by
 obtain⟨_,a,c⟩:=h;refine⟨_,a,λU m h R W B H d D e f=>?_⟩;obtain⟨b,t,n,o,j,z⟩:=h;obtain⟨k,l,g⟩:=e.n7 j;exact c U _ z R W k H d D l (f.grow g)
theorem BS{l:Wp}(n:br X l F):mE X L l (D7 F):=by
 obtain⟨_,o,p⟩:=n;refine⟨_,DI o,λr k h R W B H s Q e q=>?_⟩;refine p r _ h R W B H s _ e λd v t u w j A C=>?_;obtain⟨b,E,P,rfl,z⟩:=w;cases C with
 | @dct a _ G _ I J _ g K S T=>
  refine⟨b,a,G,E,I,J,rfl,j.bh _ _ g,q _ _ t u z j A λU m i=>⟨λf=>⟨m _ _ g,by simpa using f⟩,λf=>⟨m _ _ g,by simpa using f⟩,λx Y f y=>?_⟩⟩;obtain⟨rfl,c,M,rfl⟩:=y;obtain⟨d,N,O⟩:=K.fK (i:=i) (v:=.ref c) (by rw[SP,M];rfl);exact⟨rfl,d,N,O⟩
end
theorem qt{A:Xz}{k:Nat}(a:ez k A):A.units+4<XQ:=W4 (Nat.add_le_add_left (by decide:4<=64) _) a.units
abbrev vi:=Bool->List ZY->ZK->ZK->(List ZY->ZK->Prop)->Prop
def yn(K:Su)(n:Nat)(F:vi):iW:=λp H Q _=>∃(B:ak)(a:TE)(i:ZL)(h:ZK)(b:Bool)(j:List ZY)(l:ZK)(k:List ZY->ZK->Prop),
 p=.ref a::i/\F b j l h k/\h.length+1=n/\cj B H/\B a=none/\lW K B H a (.d b none j l)/\b_ K B i h /\
 ∀m e f g,k m e->(∀c o,c≠a->H c=some o->g c=some o)->cj f g->cj B f->(∀c o,f c=some o->B c=some o\/c=a\/H c=none)->f a=none->lW K f g a (.d b none m e)->Q .non g
def BP(m n:Nat)(F:vi)(w:cJ):cB:=λU a=>∃b t e f,a[m]?=some (.own (.d b t e f))/\w a λg=>g.length+1=n/\F b e f g λh c=>U.nx (a.set m (.own (.d b t h c)))
section
variable{K:Su}
theorem By{P:WP}{w:Xy}{X:Str->Option SC}{J:XE}{x:Str}{st:XD}{N M:ZS}{hi n:Nat}{F:vi}(ao:cG K X x st M)(S:cy N M (bN st))(aq:M.length=n)(au:∀(f:TE)(C:SC)(A:Xz)(l:List Tv)(s:Tl)(H:ak)(E:gW),ez hi (A.deeper (U4 x (bN st) s.heap.objs.size f C))->∃u,hE (k6 j0 P w K X J N x (bN st) f C A l s H E).jD (jZ st) u/\∀b t G I p k,p.length+1=n->F b G I p k->u {nx:=λaf=>∃O ds',af[0]?=some (.own (.d b t O ds'))/\k O ds',rt:=λ_=>False} (.own (.d b t G I)::p.map aA.val++SS (N.length-n) .no)):ca P w K X J x M (hi+1) (yn K n F):=by
 refine ao.ok S (λY H Q E h=>?_) (λf C A l s H Y Q E av h=>?_)
 ·obtain⟨B,a,r,p,b,G,I,k,rfl,_,Z,_,_,_,T,_⟩:=h;rw[SK,T.length,Z,aq]
 obtain⟨B,a,r,p,b,G,I,k,rfl,ay,Z,az,aB,h1,T,q⟩:=h;obtain⟨u,⟨t,aC,ag⟩,aD⟩:=au f C A l s H E av;obtain⟨aE,aG,Y,_,aH,aI,aK,aM⟩:=h1;have bV:=T.length;have aa:(λc=>if c=a then none else H c:ak) a=none:=SL rfl;have U:∀c,c≠a->(λc=>if c=a then none else H c:ak) c=H c:=λc z=>Tk z;generalize bY:(λc=>if c=a then none else H c:ak)=R at aa U;have aO:(p.map aA.val).length=r.length:=by rw[Sv];lia
 have aQ:(L3.fP N (.ref a::r))[0]?=some (some (.ref a)):=rfl
 have atS:∀i v,r[i]?=some v->(L3.fP N (.ref a::r))[i+1]?=some (some v):=λi v h=>by
  have lt:i<r.length:=by
   by_cases z:i<r.length
   ·exact z
   rw[Te (by lia)]at h;cases h
  unfold L3.fP;rw[TJ (by rw[Sv,SK];lia),SP,W5,h];rfl
 have fZ:∀(i:Nat)(L:aA),(aA.own (.d b (some a) G I)::p.map aA.val++SS (N.length-n) aA.no)[i]?=some L->(i=0/\L=.own (.d b (some a) G I))\/(∃j d,i=j+1/\p[j]?=some d/\L=.val d)\/L=.no:=λi L h=>by
  cases i with
  |zero=>exact .inl ⟨rfl,(SN h).symm⟩
  |succ j=>
   rw[Tr,W5]at h;by_cases z:j<(p.map aA.val).length
   ·rw[TJ z,SP]at h;cases y:p[j]? with
    |none=>rw[y]at h;cases h
    |some d=>rw[y]at h;exact .inr (.inl ⟨j,d,rfl,y,(SN h).symm⟩)
   rw[Tq (by lia),Un]at h;split at h
   ·exact .inr (.inr (SN h).symm)
   cases h
 have aS:aL K R (λ_=>False) B H (L3.fP N (.ref a::r)) (.own (.d b (some a) G I)::p.map aA.val++SS (N.length-n) .no):=by
  refine⟨⟨λc o h _=>?_,az,λ_ z=>z.elim,λ_ z=>z.elim,λ_ z=>z.elim⟩,?_,λi L h=>?_,λi j c aU a5=>?_⟩
  ·by_cases z:c=a
   ·subst z;rw[aa]at h;cases h
   rwa[U c z]at h
  ·unfold L3.fP;simp only[Sz,Sv,SK,Ua];lia
  ·rcases fZ i L h with⟨rfl,rfl⟩|⟨j,d,rfl,W,rfl⟩|rfl
   ·exact⟨a,by rw[aQ];rfl,aa,aB,aE,aG,Y,λc z=>by cases z;rfl,aH,aI,aK,aM⟩
   ·obtain⟨v,a',ba⟩:=T.get W;exact⟨v,by rw[atS j v a'];rfl,ba⟩
   trivial
  have one:∀i,cg (L3.fP N (.ref a::r)) (.own (.d b (some a) G I)::p.map aA.val++SS (N.length-n) .no) i c->i=0:=λi m=>by
   rcases m with⟨_,z|⟨_,z⟩⟩|⟨_,z,_⟩
   rotate_right
   ·rcases fZ i _ z with⟨rfl,y⟩|⟨j,d,rfl,W,y⟩|y<;>cases y
   ·rcases fZ i _ z with⟨rfl,y⟩|⟨j,d,rfl,W,y⟩|y<;>cases y
   rcases fZ i _ z with⟨rfl,y⟩|⟨j,d,rfl,W,y⟩|y
   ·rfl
   ·cases y
   cases y
  rw[one i aU,one j a5]
 refine⟨t,aC,ag _ _ (aD b (some a) G I p k Z ay) R (λ_=>False) B H (L3.fP N (.ref a::r)) _ aS ⟨λaf b0 bb bc h e g=>?_,λ_ _ _ _ h=>h.elim,λ_ _ _ _ h=>h.elim,λ_ _ _ _ h=>h.elim⟩⟩;obtain⟨O,ds',bf,bg⟩:=h;obtain⟨bj,b6,b8,bq,bw,bA,bD,bG,bK,bL,bM,bR⟩:=e.fJ bf;have bS:a=bj:=bG a rfl;subst bS;refine q O ds' bb bc bg (λc o h1 bT=>e.fr c o (by rw[U c h1];exact bT) λz=>z) e.bh g.s (λc o z=>?_) bq ⟨bw,bA,bD,(λ_ z=>nomatch z),bK,bL,bM,bR⟩;rcases g.n c o z with y|y
 ·exact .inl y
 by_cases aj:c=a
 ·exact .inr (.inl aj)
 rw[U c aj]at y;exact .inr (.inr y)
end
section
variable{X:aT}{m n:Nat}{x:Str}{l p g r:Pos}{e:Wp}{k:ZV}{F:vi}{w:cJ}
theorem Ja{f:Str}{a5:ZS}{j az:Nat}(m:Nat)(c:ca X.prog X.w X.K X.mg X.base f a5 j (yn X.K n F))(a6:ez az X.A)(bb:eG X f)(bc:pZ X k w)(bf:gV X m x:=by rfl)(bj:gh X.env.scope x:=by walk_at"v")(bq:ec x:=by decide)(bA:gO x:=by decide)(bK:j<=az:=by decide)(bL:ec f:=by decide)(aH:UF (.Name x l::k) X.env=(false,Yk (.Name x l) X.env)::UF k X.env:=by rfl)(bM:hy X g k:=by rfl)(bR:XA (.Call (.Name f p) (.Name x l::k) [] g) none r.line X.env=pure false:=by rfl):
  eV X (.Expr (.Call (.Name f p) (.Name x l::k) [] g) r) (BP m n F w):=by
 obtain⟨_,N,bS⟩:=bc;refine⟨_,pN (oP c a6 bb (d8 (gZ bf bj bq bA) N aH) bK bL aH bM) bR,λU I h R W B H u D aI bT=>?_⟩;obtain⟨b,t,bU,bV,O,h⟩:=h;obtain⟨a,v,dk,dm,_⟩:=aI.fJ O;refine⟨_,v,?_⟩;refine bS I _ h R W B H u _ aI λbX aJ P C Q e bY bZ=>?_;obtain⟨S,Q⟩:=Q;obtain⟨dn,aK,J,b0,b5,b6,b8,b9,b',cc,cn,cp⟩:=e.fJ O;rw[v]at aK;cases aK;show yn X.K n F ((.ref a::aJ)++[]) C _ _
 rw[SR];refine⟨P,a,aJ,bX,b,bU,bV,_,rfl,Q,S,e.bh,b0,⟨b5,b6,b8,(λ_ z=>nomatch z),b',cc,cn,cp⟩,bZ,λcw T G L cD Y k' aM aO Z cF=>?_⟩;have aS:¬W a:=λz=>e.wr a z J;have aV:cg u I m a:=.inl ⟨v,.inr ⟨_,O⟩⟩
 have aX:∀c,c≠a->P c=none->C c≠none->G c=none:=λc hi N cK=>by
  cases z:G c with
  |none=>rfl
  |some o=>
   rcases aO c o z with y|y|y
   ·rw[N]at y;cases y
   ·exact absurd y hi
   exact absurd y cK
 have ae:aL X.K R W P C (u.set m (some .non)) (I.set m .no):=e.set m trivial λ_ _ z=>by rcases z with z|⟨_,z⟩<;>cases z
 have cL:Wd R W G L:=by
  refine⟨λc o h cO=>Y c o (by rintro rfl;rw[J]at h;cases h) (e.fr c o h cO),k',λc z=>?_,λc z=>?_,e.wr⟩
  ·obtain⟨M,E,af,_⟩:=e.wh c z;exact aX c (by rintro rfl;exact aS z) (e.wb c z) (by rw[af];simp)
  obtain⟨M,E,af,cP⟩:=e.wh c z;exact⟨M,E,Y c _ (by rintro rfl;exact aS z) af,cP⟩
 have keep:∀c,c≠a->C c≠none->L c=C c:=λc hi cQ=>by
  cases z:C c with
  |none=>exact absurd z cQ
  |some o=>exact Y c o hi z
 have cR:aL X.K R W G L (u.set m (some .non)) (I.set m .no):=ae.move cL aM λi c s=>by
  have aj:c≠a:=by
   rintro rfl;obtain⟨ar,s⟩:=sH s (by simp) (by simp) rfl;exact ar (e.sep i m c s aV)
  obtain⟨M,E⟩:=ae.eP s;refine⟨aX c aj M E,λz=>?_,λ_=>keep c aj E⟩;obtain⟨dq,a4,_,_,cS⟩:=ae.eQ z;rw[oS s z]at a4;cases a4;obtain⟨cT,cX,cY,c7⟩:=cS;exact⟨cT,cX,by rw[keep c aj E];exact cY,c7⟩
 obtain⟨c9,da,dc,_,de,tb,di,dj⟩:=cF
 have ay:=cR.setC m (c:=.d b t cw T) J Z ⟨c9,da,dc,b9,de,tb,di,dj⟩ λj dx s=>by
  obtain⟨ar,s⟩:=sH s (by simp) (by simp) rfl;exact ar (e.sep j m a s aV)
 rw[TZ,TZ]at ay
 have q:u.set m (some (.ref a))=u:=by
  apply Uo;intro j;by_cases z:m=j
  ·subst z
   have lt:m<u.length:=by
    by_cases z:m<u.length
    ·exact z
    rw[Te (by lia)]at v;cases v
   rw[TH lt,v]
  rw[Tz z]
 rw[q]at ay;refine bT.nx _ _ G L cD ay (bY.trans ⟨aM,λc o z=>?_⟩);rcases aO c o z with y|y|y
 ·exact .inl y
 ·subst y;exact .inr J
 exact .inr (e.toWd.fresh y).1
end
abbrev f2(a:ZJ):D:=.lst (a.map aR)
theorem Jc{a c:Type}{f:a->c}{L:List a}{i:Int}(d : -(L.length:Int)<=i)(g:i<L.length):∃x∈L,eB (L.map f) i=some (f x):=by
 have e:∃j,L3.jg (L.map f).length i=some j/\j<L.length:=by
  unfold L3.jg;rw[Sv];by_cases b:0<=i
  ·rw[SL b,SL g];exact⟨_,rfl,by lia⟩
  rw[Tk b,SL d];exact⟨_,rfl,by lia⟩
 obtain⟨j,e,h⟩:=e;refine⟨L[j],V6 _,?_⟩;unfold eB;rw[e];simp[h]
abbrev Jd:=Z0
theorem yp{c:Type}{f g:c->D}{s:cB}{U:hD}{i j:Nat}(I:List c->ZI->Prop):∀{rs done:List c}{a:ZI},I done a->
  (∀(pre:List c)(e:c)(b:List c) a,done++rs=pre++e::b->I pre a->∀N:ZI->Prop,(∀d,I (pre++[e]) d->N d)->s {U with nx:=N,ct:=N,bk:=U.nx} ((a.set i (.val (f e))).set j (.val (g e))))->(∀a,I (done++rs) a->U.nx a)->
  j7 (mK 2 (hr (fp i) (hr (fp j) mJ))) s U (rs.map λe=>.tup [f e,g e]) a
 |[],done,a,k,_,l=>l a (by rw[SR];exact k)
 |e::rs,done,a,k,m,l=>by
  refine⟨_,rfl,rfl,_,_,rfl,_,_,rfl,rfl,m done e rs a rfl k _ λd o=>?_⟩;have n:done++e::rs=(done++[e])++rs:=by simp
  exact yp I o (λpre p b a h=>m pre p b a (by rw[n];exact h)) λa h=>l a (by rw[n];exact h)
def fL(p:ab):List Int:=[p.1,p.2.1,p.2.2]
def lD(l:ab):Int:=(Tf (Tf l.1.natAbs l.2.1.natAbs) l.2.2.natAbs:Nat)
def m7(l:ab):Prop:=l.1<0\/(l.1=0/\l.2.1<0)
instance(l:ab):Decidable (m7 l):=by unfold m7;infer_instance
def hK(l:ab):Int:=if m7 l then -lD l else lD l
def iL(l:ab):ab:=(l.1/hK l,l.2.1/hK l,l.2.2/hK l)
theorem Je(l:ab):lD l∣l.1/\lD l∣l.2.1/\lD l∣l.2.2:=by
 unfold lD;refine⟨?_,?_,?_⟩
 ·exact UM.mpr (Vi (U2 _ _) (U2 _ _))
 ·exact UM.mpr (Vi (U2 _ _) (Vh _ _))
 exact UM.mpr (Vh _ _)
theorem vj(l:ab):hK l∣l.1/\hK l∣l.2.1/\hK l∣l.2.2:=by
 obtain⟨a,b,c⟩:=Je l;unfold hK;split
 ·exact⟨UK.mpr a,UK.mpr b,UK.mpr c⟩
 exact⟨a,b,c⟩
theorem Bq(c:Int)(l:ab):lD (sc c l)=c.natAbs*lD l:=by
 unfold lD sc;dsimp only;rw[S8,S8,S8,Vj,Vj,Int.natCast_mul]
theorem Bd{c:Int}{l:ab}(a:c≠0)(b:l.1≠0\/l.2.1≠0):hK (sc c l)=c*hK l:=by
 have down:m7 (sc c l)↔(if 0<c then m7 l else ¬m7 l):=by
  unfold m7 sc;dsimp only;split
  ·rename_i h
   constructor
   ·rintro(z|⟨z,y⟩)
    ·exact .inl (by
      by_cases q:l.1<0
      ·exact q
      have:=Tw (Ti h) (show 0<=l.1 by lia)
      lia)
    have z:=(Tb.mp z).resolve_left a;refine .inr ⟨z,?_⟩;by_cases q:l.2.1<0
    ·exact q
    have:=Tw (Ti h) (show 0<=l.2.1 by lia);lia
   rintro(z|⟨z,y⟩)
   ·exact .inl (S2 h z)
   exact .inr ⟨by rw[z,SV],S2 h y⟩
  rename_i h
  have h:c<0:=by lia
  constructor
  ·rintro(z|⟨z,y⟩) (q|⟨q,r⟩)
   ·have:=UB h q;lia
   ·rw[q,SV]at z;lia
   ·have z:=(Tb.mp z).resolve_left a;lia
   have:=UB h r;lia
  intro z;have f:¬l.1<0:=λq=>z (.inl q);by_cases q:l.1=0
  ·refine .inr ⟨by rw[q,SV],T7 h ?_⟩;have g:¬l.2.1<0:=λr=>z (.inr ⟨q,r⟩);rcases b with w|w
   ·exact absurd q w
   lia
  exact .inl (T7 h (by lia))
 unfold hK;rw[Bq];by_cases h:0<c
 ·rw[SL h]at down;have e:((c.natAbs:Nat):Int)=c:=by lia
  by_cases d:m7 l
  ·rw[SL (down.mpr d),SL d,e,Int.mul_neg]
  rw[Tk (λz=>d (down.mp z)),Tk d,e]
 rw[Tk h]at down;have e:((c.natAbs:Nat):Int) = -c:=by lia
 by_cases d:m7 l
 ·rw[Tk (λz=>down.mp z d),SL d,e,Int.mul_neg,Uc]
 rw[SL (down.mpr d),Tk d,e,Uc,V7]
theorem yq{l:ab}(c:l.1≠0\/l.2.1≠0):hK l≠0:=by
 have g:lD l≠0:=λz=>by
  obtain⟨a,b,_⟩:=Je l;rw[z]at a b;have a:=Int.zero_dvd.mp a;have b:=Int.zero_dvd.mp b;rcases c with h|h<;>contradiction
 unfold hK;split
 ·lia
 exact g
theorem Db{c x g:Int}(b:c≠0)(a:g≠0)(h:g∣x):c*x/(c*g)=x/g:=by
 obtain⟨k,rfl⟩:=h;rw[W6 _ a,<-Ud,W6 _ (S1 b a)]
theorem qu{c:Int}{l:ab}(e:c≠0)(f:l.1≠0\/l.2.1≠0):iL (sc c l)=iL l:=by
 obtain⟨a,b,d⟩:=vj l;have g:=yq f;unfold iL;rw[Bd e f];unfold sc;dsimp only;rw[Db e g a,Db e g b,Db e g d]
def e6(p q:ab):ab:=iL (a_ p q)
def eK(p q x:ab):List ZH:=[fL (e6 p q),fL x]
def fG(a:ZY->Int)(p q:ab):Rat:=((a (eK p q p):Int):Rat)-((a (eK p q q):Int):Rat)
def eL(a:ZY->Int)(b:ZJ):Rat:=e5 (fG a) (dv b)
def f3(a:ZY->Int)(rs:Z0):Rat:=(rs.map (eL a)).sum
def cU(b c:Z0):Prop:=∀a,f3 a b=f3 a c
theorem Bc{l w:ab}(f:l.1≠0\/l.2.1≠0)(c:w.1≠0\/w.2.1≠0)(h:a_ l w=(0,0,0)):iL l=iL w:=by
 have j:l.2.1*w.2.2-l.2.2*w.2.1=0:=TW (·.1) h;have k:l.2.2*w.1-l.1*w.2.2=0:=TW (·.2.1) h;have g:l.1*w.2.1-l.2.1*w.1=0:=TW (·.2.2) h;by_cases a:l.1=0
 ·have b:l.2.1≠0:=f.resolve_left λz=>z a
  have d:w.1=0:=by
   rw[a]at g;have:l.2.1*w.1=0:=by lia
   exact(Tb.mp this).resolve_left b
  have i:w.2.1≠0:=c.resolve_left λz=>z d;have e:sc w.2.1 l=sc l.2.1 w:=fh (by show w.2.1*l.1=l.2.1*w.1;rw[a,d];simp) (by show w.2.1*l.2.1=l.2.1*w.2.1;rw[S4]) (by show w.2.1*l.2.2=l.2.1*w.2.2;grind);rw[<-qu i f,e,qu b c]
 have d:w.1≠0:=λz=>by
  rw[z]at g;have:l.1*w.2.1=0:=by lia
  have:=(Tb.mp this).resolve_left a;rcases c with q|q
  ·exact q z
  exact q this
 have e:sc w.1 l=sc l.1 w:=fh (by show w.1*l.1=l.1*w.1;rw[S4]) (by show w.1*l.2.1=l.1*w.2.1;grind) (by show w.1*l.2.2=l.1*w.2.2;grind);rw[<-qu d f,e,qu a c]
theorem m8{u v:ab}(c:aW u)(d:aW v)(h:u≠v):(a_ u v).1≠0\/(a_ u v).2.1≠0:=by
 by_cases a:(a_ u v).1=0
 ·right;intro b;have a:u.2.1*v.2.2-u.2.2*v.2.1=0:=a;have b:u.2.2*v.1-u.1*v.2.2=0:=b;obtain⟨e,f,g⟩:=wU c d (by grind) (by grind);exact h (fh e f g)
 exact .inl a
theorem Bb{l u v:ab}(a:ln l u=0)(b:ln l v=0):a_ l (a_ u v)=(0,0,0):=by
 unfold ln at a b;refine fh ?_ ?_ ?_<;>simp only[a_]<;>grind
theorem A_{l u v:ab}(a:l.1≠0\/l.2.1≠0)(b:aW u)(c:aW v)(h:u≠v)(d:ln l u=0)(e:ln l v=0):e6 u v=iL l:=(Bc a (m8 b c h) (Bb d e)).symm
theorem A9(u v:ab):a_ v u=sc (-1) (a_ u v):=by refine fh ?_ ?_ ?_<;>simp only[a_,sc]<;>grind
theorem Jf{u v:ab}(a:aW u)(b:aW v):e6 v u=e6 u v:=by
 by_cases h:u=v
 ·rw[h]
 unfold e6;rw[A9,qu (by decide) (m8 a b h)]
theorem Dc{s b:Int}{x w:ab}(g:s≠0)(a:b≠0)(c:w.1≠0\/w.2.1≠0)(e:sc s x=sc b w):iL x=iL w:=by
 obtain⟨d,f,_⟩:=B9 e
 have i:x.1≠0\/x.2.1≠0:=by
  rcases c with h|h
  ·left;intro z;rw[z,SV]at d;exact S1 a h d.symm
  right;intro z;rw[z,SV]at f;exact S1 a h f.symm
 rw[<-qu g i,e,qu a c]
theorem yr{p q m:ab}(d:aW p)(f:aW q)(h:p≠q)(b:hJ p q m):e6 p m=e6 p q/\e6 m q=e6 p q:=by
 obtain⟨s,a,c,g,i,j,e⟩:=b;obtain⟨k,l,n⟩:s*m.1=a*p.1+c*q.1/\s*m.2.1=a*p.2.1+c*q.2.1/\s*m.2.2=a*p.2.2+c*q.2.2:=⟨TW (·.1) e,TW (·.2.1) e,TW (·.2.2) e⟩;have w:=m8 d f h;constructor
 ·refine Dc (s:=s) (b:=c) (by lia) (by lia) w ?_;refine fh ?_ ?_ ?_<;>simp only[a_,sc]<;>grind
 refine Dc (s:=s) (b:=a) (by lia) (by lia) w ?_;refine fh ?_ ?_ ?_<;>simp only[a_,sc]<;>grind
section
variable(a:ZY->Int)(l:ab)
def og(x:ab):Rat:=((a [fL (iL l),fL x]:Int):Rat)
def iM(p q:ab):Rat:=fG a p q-(og a l p-og a l q)
end
theorem Jg{T1 T2:ab->ab->Rat}:∀(a:List (ab×ab)),e5 (λp q=>T1 p q-T2 p q) a=e5 T1 a-e5 T2 a
 |[]=>by rw[i9,i9,i9];grind
 |e::a=>by rw[h6,h6,h6,Jg a];grind
theorem yt{T1 b:ab->ab->Rat}:∀{a:List (ab×ab)},(∀e∈a,T1 e.1 e.2=b e.1 e.2)->e5 T1 a=e5 b a
 |[],_=>rfl
 |e::a,h=>by rw[h6,h6,h e Sw,yt λe c=>h e (SA _ c)]
theorem A8(h:ab->Rat)(b:ZJ):e5 (λp q=>h p-h q) (dv b)=0:=by
 cases b with
 |nil=>rfl
 |cons a r=>
  have e:bW (bW (0,0,1) (a::r)) (a::r)=bW (0,0,1) (a::r):=s3 (by simp);unfold dv;rw[ID,e];grind
theorem Dd(a:ZY->Int)(l:ab)(b:ZJ):e5 (iM a l) (dv b)=eL a b:=by
 unfold iM eL;rw[Jg (T1:=fG a) (T2:=λp q=>og a l p-og a l q),A8];grind
theorem De(a:ZY->Int)(u:ab):fG a u u=0:=by unfold fG;grind
theorem yu{a:ZY->Int}{l u v:ab}(b:l.1≠0\/l.2.1≠0)(c:aW u)(d:aW v)(e:ln l u=0)(f:ln l v=0):iM a l u v=0:=by
 by_cases h:u=v
 ·subst h;unfold iM;rw[De];grind
 unfold iM fG og eK;rw[A_ b c d h e f];grind
section
variable{l o:ab}{d:ZJ}
theorem Jh(g:ZY->Int)(r:l.1≠0\/l.2.1≠0)(s:aW o)(lo:ln l o=0)(f:∀p∈d,aW p):eL g (df (ln l) (a0 l) d)=e5 (ju (ln l) (a0 l) (iM g l)) (dv d):=by
 have t:∀p q,aW p->aW q->ln l p*ln l q<0->aW (a0 l p q):=λp q h i c=>by
  rw[<-n8 h i];exact gK (n9 h i c)
 have j:∀u v,aW u->aW v->ln l u=0->ln l v=0->iM g l u v=0:=λu v w f a b=>yu r w f a b;unfold df;split
 ·rw[<-Dd g l];exact Iz (V:=aW) j (λp q h i c=>⟨t p q h i c,u6 c⟩) o s lo f
 rename_i n
 rw[CW (V:=aW) j λe x=>?_]
 ·rfl
 obtain⟨k,m⟩:=lA x;have a:¬0<ln l e.1:=λz=>n ⟨_,k,z⟩;have b:¬0<ln l e.2:=λz=>n ⟨_,m,z⟩;exact⟨f _ k,f _ m,by lia,by lia⟩
theorem Ji(h:ZY->Int)(s:l.1≠0\/l.2.1≠0)(t:aW o)(lo:ln l o=0)(g:∀p∈d,aW p):eL h (df (λc => -ln l c) (a0 l) d)=e5 (ju (λc => -ln l c) (a0 l) (iM h l)) (dv d):=by
 have w:∀p q,aW p->aW q->ln l p*ln l q<0->aW (a0 l p q):=λp q i j c=>by
  rw[<-n8 i j];exact gK (n9 i j c)
 have k:∀u v,aW u->aW v -> -ln l u=0 -> -ln l v=0->iM h l u v=0:=λu v x g a b=>yu s x g (by lia) (by lia);unfold df;split
 ·rw[<-Dd h l];refine Iz (f:=λc => -ln l c) (V:=aW) k (λp q i j c=>?_) o t (by show -ln l o=0;lia) g;have c:ln l p*ln l q<0:=by rwa[Ur]at c
  exact⟨w p q i j c,by show -ln l (a0 l p q)=0;rw[u6 c];rfl⟩
 rename_i n
 rw[CW (f:=λc => -ln l c) (V:=aW) k λe y=>?_]
 ·rfl
 obtain⟨m,r⟩:=lA y;have a:¬0 < -ln l e.1:=λz=>n ⟨_,m,z⟩;have b:¬0 < -ln l e.2:=λz=>n ⟨_,r,z⟩;exact⟨g _ m,g _ r,by show -ln l e.1<=0;lia,by show -ln l e.2<=0;lia⟩
theorem Df{p q:ab}(c:ln l p*ln l q<0):p≠q:=by
 rintro rfl
 have:0<=ln l p*ln l p:=by
  rcases Int.le_total 0 (ln l p)with h|h
  ·exact Tw h h
  exact Vq h h
 lia
theorem A7{a:ZY->Int}{p q m:ab}(c:aW p)(d:aW q)(h:p≠q)(b:hJ p q m):iM a l p m+iM a l m q=iM a l p q:=by
 obtain⟨e,f⟩:=yr c d h b;unfold iM fG eK;rw[e,f];grind
theorem A6(g:ZY->Int)(h:l.1≠0\/l.2.1≠0)(i:aW o)(lo:ln l o=0)(f:∀p∈d,aW p):eL g (df (ln l) (a0 l) d)+eL g (df (λc => -ln l c) (a0 l) d)=eL g d:=by
 rw[Jh g h i lo f,Ji g h i lo f,<-Dd g l];refine IA λe m=>?_;obtain⟨j,k⟩:=lA m;exact Dv (V:=aW) (λu v n f a b=>yu h n f a b) (f _ j) (f _ k) λc=>A7 (f _ j) (f _ k) (Df c) (sZ c)
end
noncomputable def k0:ZH->ab
 |[a,b,c]=>(a,b,c)
 |_=>(0,0,0)
theorem yv(p:ab):k0 (fL p)=p:=rfl
def md(s:Int)(a:ZY->Int)(l:ab):ZY->Int
 |[k,x]=>if 0<s*ln l (k0 x)then a [k,x]-a [fL (iL l),x]-(a [k,fL (nP (a_ l (k0 k)))]-a [fL (iL l),fL (nP (a_ l (k0 k)))])else 0
 |_=>0
theorem Dg{l p q:ab}(b:aW p)(d:aW q)(h:p≠q)(a:(a_ l (a_ p q)).2.2≠0):nP (a_ l (e6 p q))=nP (a_ l (a_ p q)):=by
 have w:=m8 b d h;have g:=yq w;obtain⟨f,i,j⟩:=vj (a_ p q)
 have e:a_ p q=sc (hK (a_ p q)) (e6 p q):=by
  unfold e6 iL sc;refine fh ?_ ?_ ?_
  ·exact(UT f).symm
  ·exact(UT i).symm
  exact(UT j).symm
 have k:a_ l (a_ p q)=sc (hK (a_ p q)) (a_ l (e6 p q)):=by
  conv=>lhs;rw[e]
  refine fh ?_ ?_ ?_<;>simp only[a_,sc]<;>grind
 have m:=gK a;obtain⟨c,n,o⟩:=kd a;exact(ru (M:=a_ l (e6 p q)) (h:=nP (a_ l (a_ p q))) g n m (by rw[<-k];exact o)).2
theorem Jj{l p q:ab}(d:aW p)(b:aW q)(g:ln l p≠0)(f:ln l q=0):nP (a_ l (e6 p q))=q/\nP (a_ l (e6 q p))=q:=by
 have h:p≠q:=by rintro rfl;exact g f
 have e:a_ l (a_ p q)=sc (-ln l p) q:=by
  unfold ln at f⊢;refine fh ?_ ?_ ?_<;>simp only[a_,sc]<;>grind
 have j:=b.1
 have i:(a_ l (a_ p q)).2.2≠0:=by
  rw[e];exact S1 (by lia) (by lia)
 have a:nP (a_ l (e6 p q))=q:=by
  rw[Dg d b h i];exact(ru (M:=a_ l (a_ p q)) (G:=1) (c :=-ln l p) (by decide) (by lia) b (by rw[e];unfold sc;simp)).2
 exact⟨a,by rw[Jf d b];exact a⟩
theorem yw(a b:Int):((a-b:Int):Rat)=(a:Rat)-(b:Rat):=by grind
section
variable{l:ab}{φ:ZY->Int}
theorem yx{s:Int}{k:ZH}{x:ab}(h:0<s*ln l x):((md s φ l [k,fL x]:Int):Rat)=((φ [k,fL x]:Int):Rat)-og φ l x-(((φ [k,fL (nP (a_ l (k0 k)))]:Int):Rat)-og φ l (nP (a_ l (k0 k)))):=by
 have e:md s φ l [k,fL x]=φ [k,fL x]-φ [fL (iL l),fL x]-(φ [k,fL (nP (a_ l (k0 k)))]-φ [fL (iL l),fL (nP (a_ l (k0 k)))]):=by
  show(if 0<s*ln l x then _ else _)=_
  rw[SL h]
 rw[e,yw,yw,yw];rfl
theorem rM{s:Int}{k:ZH}{x:ab}(h:¬0<s*ln l x):((md s φ l [k,fL x]:Int):Rat)=0:=by
 have e:md s φ l [k,fL x]=0:=by
  show(if 0<s*ln l x then _ else _)=_
  rw[Tk h]
 rw[e];rfl
theorem Jk(o:l.1≠0\/l.2.1≠0){p q:ab}(d:aW p)(e:aW q){s:Int}(k:s=1\/s = -1):ju (λc=>s*ln l c) (a0 l) (iM φ l) p q=fG (md s φ l) p q:=by
 have i:∀a b:Int,(s*a)*(s*b)=a*b:=λa b=>by rcases k with rfl|rfl<;>grind
 unfold ju;dsimp only;rw[i];have j:∀x:Int,s*x=0->x=0:=λx h=>by rcases k with rfl|rfl<;>lia
 have key:fG (md s φ l) p q=((md s φ l [fL (e6 p q),fL p]:Int):Rat)-((md s φ l [fL (e6 p q),fL q]:Int):Rat):=rfl;rw[key];rcases T6 (s*ln l p) 0 with a|a|a
 ·rw[Tk (show ¬0<=s*ln l p by lia),rM (show ¬0<s*ln l p by lia)];by_cases b:0<s*ln l q
  ·have c:ln l p*ln l q<0:=by rw[<-i];exact T7 a b
   have f:=Df c;obtain⟨m,n⟩:=yr d e f (sZ c);have em:nP (a_ l (k0 (fL (e6 p q))))=a0 l p q:=by rw[yv,Dg d e f (n9 d e c),n8 d e]
   rw[SL c,yx b,em];unfold iM fG eK;rw[n];grind
  have c:¬ln l p*ln l q<0:=by rw[<-i];have:=Vq (show s*ln l p<=0 by lia) (show s*ln l q<=0 by lia);lia
  rw[Tk c,rM b];grind
 ·have g:=j _ a;have c:¬ln l p*ln l q<0:=by rw[g,TR];lia
  rw[SL (show 0<=s*ln l p by lia),rM (show ¬0<s*ln l p by lia),Tk c];rcases T6 (s*ln l q) 0 with b|b|b
  ·rw[Tk (show ¬0<=s*ln l q by lia),rM (show ¬0<s*ln l q by lia)];grind
  ·rw[SL (show 0<=s*ln l q by lia),rM (show ¬0<s*ln l q by lia),yu o d e g (j _ b)];grind
  have r:ln l q≠0:=λz=>by rw[z,SV]at b;lia
  have em:nP (a_ l (k0 (fL (e6 p q))))=p:=by rw[yv];exact(Jj e d r g).2
  rw[SL (show 0<=s*ln l q by lia),yx b,em];unfold iM fG eK;grind
 have g:ln l p≠0:=λz=>by rw[z,SV]at a;lia
 rw[SL (show 0<=s*ln l p by lia),yx a];rcases T6 (s*ln l q) 0 with b|b|b
 ·have c:ln l p*ln l q<0:=by rw[<-i];exact S2 a b
  have f:=Df c;obtain⟨m,n⟩:=yr d e f (sZ c);have em:nP (a_ l (k0 (fL (e6 p q))))=a0 l p q:=by rw[yv,Dg d e f (n9 d e c),n8 d e]
  rw[Tk (show ¬0<=s*ln l q by lia),SL c,rM (show ¬0<s*ln l q by lia),em];unfold iM fG eK;rw[m];grind
 ·have em:nP (a_ l (k0 (fL (e6 p q))))=q:=by rw[yv];exact(Jj d e g (j _ b)).1
  rw[SL (show 0<=s*ln l q by lia),rM (show ¬0<s*ln l q by lia),em];unfold iM fG eK;grind
 rw[SL (show 0<=s*ln l q by lia),yx b];unfold iM fG eK;grind
theorem Jl{o:ab}{b:ZJ}(d:l.1≠0\/l.2.1≠0)(i:aW o)(lo:ln l o=0)(a:∀p∈b,aW p):eL φ (df (ln l) (a0 l) b)=eL (md 1 φ l) b/\eL φ (df (λc => -ln l c) (a0 l) b)=eL (md (-1) φ l) b:=by
 rw[Jh φ d i lo a,Ji φ d i lo a];constructor
 ·refine yt λe f=>?_;obtain⟨g,h⟩:=lA f;have:=Jk (φ:=φ) d (a _ g) (a _ h) (s:=1) (.inl rfl);rw[<-this];congr 1;funext c;rw[Wi]
 refine yt λe f=>?_;obtain⟨g,h⟩:=lA f;have:=Jk (φ:=φ) d (a _ g) (a _ h) (s :=-1) (.inr rfl);rw[<-this];congr 1;funext c;rw[Int.neg_one_mul]
end
theorem cU.keep{l o:ab}{d e:Z0}(h:cU d e)(i:l.1≠0\/l.2.1≠0)(j:aW o)(lo:ln l o=0)(k:∀b∈d,∀p∈b,aW p)(m:∀b∈e,∀p∈b,aW p):
  cU (d.map (df (ln l) (a0 l))) (e.map (df (ln l) (a0 l)))/\cU (d.map (df (λc => -ln l c) (a0 l))) (e.map (df (λc => -ln l c) (a0 l))):=by
 have one:∀(L:Z0) a,(∀b∈L,∀p∈b,aW p)->f3 a (L.map (df (ln l) (a0 l)))=f3 (md 1 a l) L:=λL a f=>by
  unfold f3;rw[SM];congr 1;exact Uj λb g=>(Jl i j lo (f b g)).1
 have two:∀(L:Z0) a,(∀b∈L,∀p∈b,aW p)->f3 a (L.map (df (λc => -ln l c) (a0 l)))=f3 (md (-1) a l) L:=λL a f=>by
  unfold f3;rw[SM];congr 1;exact Uj λb g=>(Jl i j lo (f b g)).2
 exact⟨λa=>by rw[one d a k,one e a m];exact h _,λa=>by rw[two d a k,two e a m];exact h _⟩
theorem Jm(m:ab->ab):∀(z:ab)(L:ZJ),c0 (m z) (L.map m)=(c0 z L).map λe=>(m e.1,m e.2)
 |_,[]=>rfl
 |z,p::L=>by
  show(m z,m p)::c0 (m p) (L.map m)=_
  rw[Jm m p L];rfl
theorem Jn(m:ab->ab):∀(z:ab)(L:ZJ),bW (m z) (L.map m)=m (bW z L)
 |_,[]=>rfl
 |z,p::L=>Jn m p L
theorem Dh(m:ab->ab)(b:ZJ):dv (b.map m)=(dv b).map λe=>(m e.1,m e.2):=by
 cases b with
 |nil=>rfl
 |cons a r=>
  unfold dv
  have e:bW (0,0,1) ((a::r).map m)=m (bW (0,0,1) (a::r)):=by
   rw[<-Jn m (0,0,1) (a::r)];exact s3 (by simp)
  rw[e,Jm]
theorem A5{T:ab->ab->Rat}(m:ab->ab)(a:List (ab×ab)):e5 T (a.map λe=>(m e.1,m e.2))=e5 (λp q=>T (m p) (m q)) a:=by
 unfold e5;rw[SM];rfl
structure lE(m A:ab->ab):Prop where
 jV:∀c l,A (sc c l)=sc c (A l)
 ne:∀l:ab,(l.1≠0\/l.2.1≠0)->(A l).1≠0\/(A l).2.1≠0
 pt:∀p,aW p->aW (m p)
 ln:∀p q,aW p->aW q->∃g h:Int,g≠0/\h≠0/\sc g (a_ (m p) (m q))=sc h (A (a_ p q))
def Di(m A:ab->ab)(a:ZY->Int):ZY->Int
 |[k,x]=>a [fL (iL (A (k0 k))),fL (m (k0 x))]
 |_=>0
theorem Jo{p q:ab}:a_ p q=sc (hK (a_ p q)) (e6 p q):=by
 obtain⟨a,b,c⟩:=vj (a_ p q);unfold e6 iL sc;refine fh ?_ ?_ ?_
 ·exact(UT a).symm
 ·exact(UT b).symm
 exact(UT c).symm
theorem A0{p q:ab}(a:aW p)(b:aW q)(h:p≠q):(e6 p q).1≠0\/(e6 p q).2.1≠0:=by
 have w:=m8 a b h;rw[Jo]at w;rcases w with w|w
 ·exact .inl λz=>w (by show _*(e6 p q).1=0;rw[z,SV])
 exact .inr λz=>w (by show _*(e6 p q).2.1=0;rw[z,SV])
theorem lE.line{m A:ab->ab}(M:lE m A){p q:ab}(a:aW p)(b:aW q)(h:p≠q):e6 (m p) (m q)=iL (A (e6 p q)):=by
 obtain⟨g,c,d,f,e⟩:=M.ln p q a b;have w:=m8 a b h;have i:e6 (m p) (m q)=iL (A (a_ p q)):=Dc d f (M.ne _ w) e;rw[i]
 conv=>lhs;rw[Jo,M.jV]
 exact qu (yq w) (M.ne _ (A0 a b h))
theorem lE.side{m A:ab->ab}(M:lE m A)(a:ZY->Int){p q:ab}(b:aW p)(c:aW q):fG a (m p) (m q)=fG (Di m A a) p q:=by
 by_cases h:p=q
 ·subst h;rw[De,De]
 unfold fG eK;rw[M.line b c h];rfl
theorem lE.ring{m A:ab->ab}(M:lE m A)(a:ZY->Int){b:ZJ}(c:∀p∈b,aW p):eL a (b.map m)=eL (Di m A a) b:=by
 unfold eL;rw[Dh,A5];refine yt λe d=>?_;obtain⟨f,g⟩:=lA d;exact M.side a (c _ f) (c _ g)
theorem lE.hp{m A:ab->ab}(M:lE m A){b c:Z0}(h:cU b c)(e:∀a∈b,∀p∈a,aW p)(f:∀a∈c,∀p∈a,aW p):cU (b.map λa=>a.map m) (c.map λa=>a.map m):=λd=>by
 have one:∀(L:Z0),(∀a∈L,∀p∈a,aW p)->f3 d (L.map λa=>a.map m)=f3 (Di m A d) L:=λL g=>by
  unfold f3;rw[SM];congr 1;exact Uj λa i=>M.ring d (g a i)
 rw[one b e,one c f];exact h _
noncomputable def tk(v l:ab):ab:=(l.1*v.2.2,l.2.1*v.2.2,l.2.2*v.2.2-l.1*v.1-l.2.1*v.2.1)
def tl(l:ab):ab:=(-l.1,-l.2.1,l.2.2)
theorem Dj{v:ab}(n:0<v.2.2):lE (λp=>nP (ee v p)) (tk v):=by
 refine⟨λc l=>?_,λl h=>?_,λp a=>gK ?_,λp q a b=>?_⟩
 ·refine fh ?_ ?_ ?_<;>simp only[tk,sc]<;>grind
 ·rcases h with h|h
  ·exact .inl (S1 h (by lia))
  exact .inr (S1 h (by lia))
 ·have:=a.1;show p.2.2*v.2.2≠0
  exact S1 (by lia) (by lia)
 have d:(ee v p).2.2≠0:=S1 (by have:=a.1;lia) (by lia);have e:(ee v q).2.2≠0:=S1 (by have:=b.1;lia) (by lia);obtain⟨f,g,i⟩:=kd d;obtain⟨j,k,m⟩:=kd e;refine⟨f*j,v.2.2,S1 g k,by lia,?_⟩;rw[<-B',<-i,<-m];refine fh ?_ ?_ ?_<;>simp only[a_,sc,tk,ee]<;>grind
theorem rN:lE fe tl:=by
 refine⟨λc l=>?_,λl h=>?_,λp a=>Bh a,λp q a b=>⟨1,1,by decide,by decide,?_⟩⟩
 ·refine fh ?_ ?_ ?_<;>simp only[tl,sc]<;>grind
 ·rcases h with h|h
  ·exact .inl (by show -l.1≠0;lia)
  exact .inr (by show -l.2.1≠0;lia)
 refine fh ?_ ?_ ?_<;>simp only[a_,sc,tl,fe]<;>grind
theorem Jp(b:ZY->Int)(a:ab)(r:ZJ):eL b (r++[a])=eL b (a::r):=by
 unfold eL;rw[<-CU]
 have e:dv (r++[a])=c0 a (r++[a]):=by
  unfold dv;rw[qp];rfl
 rw[e]
theorem AY{a:ZJ}{i:Nat}(h:i<a.length):∃p q,p∈a/\q∈a/\eB (a.map aR) ((i:Int)-1)=some (aR p)/\eB (a.map aR) (i:Int)=some (aR q)/\(p,q)∈dv a/\(dv a).take (i+1)=(dv a).take i++[(p,q)]:=by
 obtain⟨p,e,b⟩:=Jc (f:=id) (L:=a) (i:=(i:Int)-1) (by lia) (by lia);obtain⟨q,g,c⟩:=Jc (f:=id) (L:=a) (i:=(i:Int)) (by lia) (by lia);rw[List.map_id]at b c;have j:bC a ((i+a.length-1)%a.length)=p:=xv (SN ((HK h).symm.trans (rr b)));have k:bC a i=q:=xv (SN ((n4 h).symm.trans (rr c)));have d:(dv a).take (i+1)=(dv a).take i++[(p,q)]:=by rw[C_ h,j,k]
 exact⟨p,q,e,g,rr b,rr c,Wj (i:=i+1) (by rw[d];simp),d⟩
theorem Jq{g:Type}(k:ZY)(x:g):∀{b:List ZY}{ds:List g}(a:ZY),ds.length=b.length->bo (eZ b k) (g9 b ds k x) a=if a=k then some x else bo b ds a:=by
 have j:∀{b:List ZY}{ds:List g}(a:ZY),ds.length=b.length->bo b (f1 b ds k x) a=if a=k/\k∈b then some x else bo b ds a:=by
  intro b;induction b with
  |nil=>intro ds a h;simp[bo]
  |cons i b c=>
   intro ds a h;cases ds with
   |nil=>simp at h
   |cons d ds=>
    have c:=c (ds:=ds) a (by simpa using h);rw[f1,bo,bo];by_cases e:i=a
    ·rw[SL e,SL e];by_cases f:i=k
     ·rw[SL f,SL ⟨by rw[<-e,f],by rw[f];simp⟩]
     rw[Tk f,Tk (λz=>f (e.trans z.1))]
    rw[Tk e,Tk e,c];by_cases z:a=k/\k∈b
    ·rw[SL z,SL ⟨z.1,SA _ z.2⟩]
    rw[Tk z,Tk (λy=>z ⟨y.1,by
     rcases SG.mp y.2 with q|q
     ·exact absurd (q.symm.trans y.1.symm) e
     exact q⟩)]
 have l:∀{b:List ZY}{ds:List g}(a:ZY),ds.length=b.length->bo (b++[k]) (ds++[x]) a=(bo b ds a).or (if k=a then some x else none):=by
  intro b;induction b with
  |nil=>
   intro ds a h;cases ds with
   |nil=>simp[bo]
   |cons d ds=>simp at h
  |cons i b c=>
   intro ds a h;cases ds with
   |nil=>simp at h
   |cons d ds=>
    have c:=c (ds:=ds) a (by simpa using h);rw[Tr,Tr,bo,bo];by_cases e:i=a
    ·rw[SL e,SL e];rfl
    rw[Tk e,Tk e,c]
 intro b ds a h;unfold eZ g9;by_cases m:k∈b
 ·rw[SL m,SL m,j a h];by_cases e:a=k
  ·rw[SL ⟨e,m⟩,SL e]
  rw[Tk (λz=>e z.1),Tk e]
 rw[Tk m,Tk m,l a h];by_cases e:a=k
 ·subst e;rw[(qs h).mpr m,SL rfl];rfl
 rw[Tk e,Tk (λz=>e z.symm)];cases bo b ds a<;>rfl
theorem Jr{b:Type}{k:ZY}{x:b}{a:List ZY}{c:List b}(h:c.length=a.length):(g9 a c k x).length=(eZ a k).length/\(eZ a k).length<=a.length+1:=by
 unfold eZ g9;by_cases m:k∈a
 ·rw[SL m,SL m,C1];exact⟨h,by lia⟩
 rw[Tk m,Tk m,Sz,Sz,h];exact⟨rfl,SF _⟩
theorem h7{g h:Type}(f:g->h):∀(b:List ZY)(c:List g)(a:ZY),bo b (c.map f) a=(bo b c a).map f
 |[],_,_=>by simp[bo]
 |_::_,[],_=>by simp[bo]
 |i::b,d::c,a=>by
  rw[SI,bo,bo];by_cases e:i=a
  ·rw[SL e,SL e];rfl
  rw[Tk e,Tk e,h7 f b c a]
theorem Js{c g:Type}(f:c->g)(k:ZY)(x:c)(a:List ZY)(b:List c):(g9 a b k x).map f=g9 a (b.map f) k (f x):=by
 have h:∀(a:List ZY)(b:List c),(f1 a b k x).map f=f1 a (b.map f) k (f x):=by
  intro a;induction a with
  |nil=>intro b;simp[f1]
  |cons i a j=>
   intro b;cases b with
   |nil=>simp[f1]
   |cons d b=>
    rw[f1,SI,j,SI,f1];by_cases e:i=k
    ·rw[SL e,SL e]
    rw[Tk e,Tk e]
 unfold g9;by_cases m:k∈a
 ·rw[SL m,SL m,h]
 rw[Tk m,Tk m,SE];rfl
def vm(a:ZY)(e:ab×ab):Int:=(if a=eK e.1 e.2 e.1 then 1 else 0)-(if a=eK e.1 e.2 e.2 then 1 else 0)
def qv(a:ZY)(b:List (ab×ab)):Int:=(b.map (vm a)).sum
def qw(a:ZY)(b:Z0):Int:=(b.map λc=>qv a (dv c)).sum
theorem Dl:∀(l:ZH),((l.sum:Int):Rat)=(l.map λx:Int=>(x:Rat)).sum
 |[]=>by simp
 |a::l=>by
  rw[To,SI,To,<-Dl l];grind
theorem AN{b c:Z0}(h:cU b c)(a:ZY):qw a b=qw a c:=by
 have one:∀L:Z0,((qw a L:Int):Rat)=f3 (λk=>if a=k then 1 else 0) L:=λL=>by
  unfold qw f3;rw[Dl,SM];congr 1;refine Uj λd _=>?_;show((qv a (dv d):Int):Rat)=_
  unfold qv eL e5;rw[Dl,SM];congr 1;refine Uj λe _=>?_;show((vm a e:Int):Rat)=_
  unfold vm fG;rw[yw]
 have:=h (λk=>if a=k then 1 else 0);rw[<-one,<-one]at this;exact_mod_cast this
def oh(a:ZJ):Prop:=a.length<=75/\(∀e∈dv a,(a_ e.1 e.2).1≠0\/(a_ e.1 e.2).2.1≠0)/\∀p∈a,cH 4000 p
theorem Jt{g x:Int}{n:Nat}(h:g∣x)(a:x≠0)(b:SB x<=n):SB g<=n:=by
 refine intBits_le_iff.mpr (W4 ?_ (intBits_le_iff.mp b));exact VV (by lia) (TK.mpr h)
theorem AJ{l:ab}{n:Nat}(a:SB l.1<=n)(b:SB l.2.1<=n)(w:l.1≠0\/l.2.1≠0):SB (hK l)<=n:=by
 obtain⟨c,d,_⟩:=vj l;rcases w with h|h
 ·exact Jt c h a
 exact Jt d h b
theorem Ju(b:List ZY)(c:ZH)(a:ZY):(bo b (c.map D.int) a).getD (.int 0)=.int ((bo b c a).getD 0):=by
 rw[h7];cases bo b c a<;>rfl
def kk(p q:ab)(t:Int):ab:=cl (p.1*q.2.2*(3-t)+q.1*p.2.2*t) (p.2.1*q.2.2*(3-t)+q.2.1*p.2.2*t) (p.2.2*q.2.2*3)
theorem Jv:eqD (.str "high") (.str "low")=false:=by
 unfold eqD;exact @decide_eq_false _ (Ue _) λh=>absurd (D.str.inj h) (by decide)
theorem Jw:eqD (.str "low") (.str "low")=true:=lj _
theorem AF{a:ZJ}{k:Nat}(h:k<a.length)(b:2<=a.length):eB (a.map aR) ((k:Int)-2)=some (aR (bC a ((k+a.length-2)%a.length))):=by
 by_cases z:2<=k
 ·have e:(k+a.length-2)%a.length=k-2:=by
   rw[show k+a.length-2=(k-2)+a.length by lia,UP,Tg (by lia)]
  rw[e,show((k:Int)-2)=((k-2:Nat):Int) by lia];exact n4 (by lia)
 have e:(k+a.length-2)%a.length=k+a.length-2:=Tg (by lia);rw[e,mX (by lia)];unfold eB jg;rw[Tk (by lia),SL (by rw[Sv];lia)];show(a.map aR)[_]?=_
 rw[SP,Sv,show((k:Int)-2+(a.length:Int)).toNat=k+a.length-2 by lia,S0 (by lia)];rfl
theorem Jx{x:Int}(h:cM x=1):0<x:=by
 unfold cM at h;split at h
 ·assumption
 split at h<;>lia
theorem fi.turn{a:ZJ}(h:fi a){k:Nat}(c:k<a.length):0<bm (bC a ((k+a.length-2)%a.length)) (bC a ((k+a.length-1)%a.length)) (bC a k):=by
 have f:=h.1
 have e:((k+a.length-2)%a.length+1)%a.length=(k+a.length-1)%a.length:=by
  rw[Nat.mod_add_mod];congr 1;lia
 have b:∀d,0<d->d<a.length->k≠(k+a.length-d)%a.length:=λd g i z=>by
  by_cases y:d<=k
  ·rw[show k+a.length-d=(k-d)+a.length by lia,UP,Tg (by lia)]at z;lia
  rw[Tg (by lia)]at z;lia
 have:=h.2 ((k+a.length-2)%a.length) k (UA _ (by lia)) c (b 2 (by decide) (by lia)) (by rw[e];exact b 1 (by decide) (by lia));rw[e]at this;exact Jx this
theorem AE(p q r:ab):bm p q r=bm q r p:=by unfold bm a_;grind
theorem fi.oe{a:ZJ}(h:fi a){k:Nat}(c:0<k)(b:k+1<a.length):0<bm (bC a 0) (bC a k) (bC a (k+1)):=by
 have:=h.2 k 0 (by lia) (by lia) (by lia) (by rw[Tg b];lia);rw[Tg b]at this;rw[AE];exact Jx this
theorem z_{p s:ab}(f:aW p)(i:aW s)(a:Bool):cl ((1-2*(if a then 1 else 0))*(p.1*s.2.2-s.1*p.2.2)) ((1-2*(if a then 1 else 0))*(p.2.1*s.2.2-s.2.1*p.2.2)) (p.2.2*s.2.2)=if a=true then fe (nP (ee (fe s) p))else nP (ee (fe s) p):=by
 have e:ee (fe s) p=(p.1*s.2.2-s.1*p.2.2,p.2.1*s.2.2-s.2.1*p.2.2,p.2.2*s.2.2):=by
  refine fh ?_ ?_ ?_<;>simp only[ee,fe]<;>grind
 have d:(ee (fe s) p).2.2≠0:=by
  rw[e];exact S1 (Sy f.1) (Sy i.1)
 cases a with
 |false=>
  simp only[TL,if_false,SV,Int.sub_zero,Wi];unfold nP;rw[e]
 |true=>
  simp only[if_true];obtain⟨g,j,b⟩:=kd d;refine(ru (M:=((1-2*1)*(p.1*s.2.2-s.1*p.2.2),(1-2*1)*(p.2.1*s.2.2-s.2.1*p.2.2),p.2.2*s.2.2)) (h:=fe (nP (ee (fe s) p))) (G:=1) (c:=g) (by decide) j (Bh (gK d)) ?_).2;rw[e]at b⊢;obtain⟨k,l,m⟩:p.1*s.2.2-s.1*p.2.2=g*(nP (p.1*s.2.2-s.1*p.2.2,p.2.1*s.2.2-s.2.1*p.2.2,p.2.2*s.2.2)).1/\p.2.1*s.2.2-s.2.1*p.2.2=g*(nP (p.1*s.2.2-s.1*p.2.2,p.2.1*s.2.2-s.2.1*p.2.2,p.2.2*s.2.2)).2.1/\p.2.2*s.2.2=g*(nP (p.1*s.2.2-s.1*p.2.2,p.2.1*s.2.2-s.2.1*p.2.2,p.2.2*s.2.2)).2.2:=⟨TW (·.1) b,TW (·.2.1) b,TW (·.2.2) b⟩;refine fh ?_ ?_ ?_
  ·show 1*((1-2*1)*(p.1*s.2.2-s.1*p.2.2))=g * -(nP _).1;grind
  ·show 1*((1-2*1)*(p.2.1*s.2.2-s.2.1*p.2.2))=g * -(nP _).2.1;grind
  show 1*(p.2.2*s.2.2)=g*(nP _).2.2;grind
theorem qx(s:a7):f0 s=s.1.map λp=>if s.2.1=true then fe (nP (ee (fe s.2.2) p))else nP (ee (fe s.2.2) p):=by
 unfold f0;by_cases h:s.2.1=true
 ·rw[SL h,SM];refine Uj λp _=>?_;rw[SL h];rfl
 rw[Tk h];refine Uj λp _=>?_;rw[Tk h]
theorem Jz(a p:ab):bm a p p=0:=by unfold bm a_;grind
theorem fi.side{b:ZJ}(h:fi b){p q:ab}(c:(p,q)∈dv b):p≠q:=by
 rw[ya]at c;obtain⟨i,a,e⟩:=SJ.mp c;have a:=TG.mp a;have t:=h.turn a;obtain⟨rfl,rfl⟩:=Prod.mk.inj e;intro z;rw[z,Jz]at t;lia
theorem lE.rg{m A:ab->ab}(M:lE m A){a:ZJ}(b:∀p∈a,aW p)(j:∀e∈dv a,(a_ e.1 e.2).1≠0\/(a_ e.1 e.2).2.1≠0):∀e∈dv (a.map m),(a_ e.1 e.2).1≠0\/(a_ e.1 e.2).2.1≠0:=λe h=>by
 rw[Dh]at h;obtain⟨d,f,rfl⟩:=SJ.mp h;obtain⟨k,l⟩:=lA f;obtain⟨g,c,r,i,q⟩:=M.ln d.1 d.2 (b _ k) (b _ l);obtain⟨n,o,_⟩:=B9 q;rcases M.ne _ (j d f)with w|w
 ·exact .inl λz=>S1 i w (by rw[<-n];show g*(a_ (m d.1) (m d.2)).1=0;rw[show(a_ (m d.1) (m d.2)).1=0 from z,SV])
 exact .inr λz=>S1 i w (by rw[<-o];show g*(a_ (m d.1) (m d.2)).2.1=0;rw[show(a_ (m d.1) (m d.2)).2.1=0 from z,SV])
theorem JA(s:a7):(f0 s).length=s.1.length:=by rw[qx,Sv]
theorem pf{a:Type}{f:a->Nat}{m:Nat}:∀{l:List a},(∀x∈l,f x<=m)->(l.map f).sum<=l.length*m
 |[],_=>by simp
 |x::l,h=>by
  rw[SI,To,SK];have c:=h x Sw;have d:=pf (l:=l) λy b=>h y (SA _ b);rw[Nat.add_mul,Nat.one_mul];lia
theorem JB(a b:Bool):eqD (.bl a) (.bl b)=(a==b):=by
 by_cases h:a=b
 ·subst h;rw[lj];simp
 have:eqD (.bl a) (.bl b)=false:=by
  unfold eqD;exact @decide_eq_false _ (Ue _) λz=>h (D.bl.inj z)
 rw[this];cases a<;>cases b<;>first|rfl|exact absurd rfl h
theorem JC{a:ZJ}(d:fi a)(b:∀p∈a,du 4000 p)(f:a.length<=75):oh a:=⟨f,λe c=>by
 obtain⟨g,i⟩:=lA c
 exact m8 (b _ g).pt (b _ i).pt (d.side c),λp h=>(b p h).bp⟩
def ce(x:Int×Int):ab:=a_ (cl (x.1*1) (0*x.2) (x.2*1)) (cl (x.1*1) (1*x.2) (x.2*1))
def cC(x:Int×Int):ab:=a_ (cl (0*x.2) (x.1*1) (1*x.2)) (cl (1*x.2) (x.1*1) (1*x.2))
theorem me{x y u v:Int}{m n:Nat}(c:SB x<=m)(a:SB y<=m)(d:SB u<=n)(b:SB v<=n)(e:a8 x y)(f:a8 u v):cH (m+n) (cl (x*v) (u*y) (y*v)):=
 cH.nP (p:=(x*v,u*y,y*v)) ⟨TD c b,by rw[Nat.add_comm];exact TD d a,TD a b⟩ (S1 (Sy e.1) (Sy f.1))
def cm(w a:Int×Int):Int×Int:=d1 (w.1*a.2-a.1*w.2) (w.2*a.2)
noncomputable def d2(x:Int×Int)(b:Bool)(sh:ZM):List a7:=if b then dH (ln (ce x)) (a0 (ce x)) sh else dH (λc => -ln (ce x) c) (a0 (ce x)) sh
noncomputable def f4(x:Int×Int)(b:Bool)(sh:ZM):List a7:=if b then dH (ln (cC x)) (a0 (cC x)) sh else dH (λc => -ln (cC x) c) (a0 (cC x)) sh
def spL(s:Int×Int)(hi:Bool):Bool:=(!hi)==decide (0<s.1)
def bu(s w a:Int×Int)(b:Bool):Int×Int:=bJ s (if b then cm w a else a)
def bz(s w a:Int×Int)(b:Bool):Int×Int:=if spL s b then a else cm w a
def iQ(s w a:Int×Int)(b:Bool):ab:=dg (if spL s b then(0,1)else(-(cm w a).1,(cm w a).2)) (if b then(-(bu s w a b).1,(bu s w a b).2)else(0,1))
def jC(s w a:Int×Int)(b:Bool):ab:=dg (if spL s b then(-a.1,a.2)else(0,1)) (if b then(0,1)else(-(bu s w a b).1,(bu s w a b).2))
def jL(s w a:Int×Int)(b:Bool):ab:=dg (if spL s b then(-a.1,a.2)else(0,1)) (if b then(-(bu s w a b).1,(bu s w a b).2)else(0,1))
noncomputable def jw(s w b:Int×Int)(a:Bool)(sh:ZM):List a7:=(d2 (bz s w b a) (spL s a) sh).map (l7 (iQ s w b a))
noncomputable def iN(s w a:Int×Int)(hi:Bool)(sh:ZM):List a7:=(f4 (bu s w a hi) (!hi) (d2 (bz s w a hi) (!spL s hi) sh)).map (l7 (jC s w a hi))
noncomputable def il(s w b:Int×Int)(a:Bool)(sh:ZM):List a7:=(f4 (bu s w b a) a (d2 (bz s w b a) (!spL s a) sh)).map (l7 (jL s w b a))
section
variable{s w a:Int×Int}
theorem JD(x:Int×Int)(b:Bool)(sh:ZM):(d2 x b sh).length<=sh.length:=by
 unfold d2;cases b
 ·exact s6 _
 exact s6 _
theorem JE(x:Int×Int)(b:Bool)(sh:ZM):(f4 x b sh).length<=sh.length:=by
 unfold f4;cases b
 ·exact s6 _
 exact s6 _
end
theorem ph{b:Bool}{A B:Prop}(a:b=true->A)(c:b=false->B):if b=true then A else B:=by
 cases b with
 |true=>rw[SL rfl];exact a rfl
 |false=>rw[Tk SU];exact c rfl
theorem km(a:ZY->Int)(b:ZJ)(rs:Z0):f3 a (b::rs)=eL a b+f3 a rs:=by unfold f3;rw[SI,To]
theorem vn(b:ZY->Int):∀rs a:Z0,f3 b (rs++a)=f3 b rs+f3 b a
 |[],a=>by rw[Tn];show _=(0:Rat)+_;grind
 |c::rs,a=>by rw[Tr,km,km,vn b rs a];grind
theorem rP(a:ZY->Int)(b:ZJ):f3 a [b]=eL a b:=by rw[km];show _+(0:Rat)=_;grind
theorem Dm(a:ZY->Int)(f:ab->Int)(mt:ab->ab->ab):∀sh:ZM,f3 a ((dH f mt sh).map λs=>s.1)=f3 a (sh.map λs=>df f mt s.1)
 |[]=>rfl
 |s::sh=>by
  have b:=Dm a f mt sh
  have e:dH f mt (s::sh)=dH f mt [s]++dH f mt sh:=by
   unfold dH;rw[<-U6,<-SE];rfl
  rw[e,SE,vn,b,SI,km];congr 1;cases c:(df f mt s.1).isEmpty with
  |true=>
   rw[x9 c,Wk.mp c];rfl
  |false=>
   rw[x8 c];exact rP a _
section
variable{l o:ab}{sh:ZM}{d:ZJ}
theorem qy(h:cU (sh.map λs=>s.1) [d])(g:l.1≠0\/l.2.1≠0)(i:aW o)(lo:ln l o=0)(j:∀s∈sh,∀p∈s.1,aW p)(k:∀p∈d,aW p):
  cU ((dH (ln l) (a0 l) sh).map λs=>s.1) [df (ln l) (a0 l) d]/\cU ((dH (λc => -ln l c) (a0 l) sh).map λs=>s.1) [df (λc => -ln l c) (a0 l) d]:=by
 obtain⟨a,b⟩:=h.keep g i lo (λm e=>by
  obtain⟨s,n,rfl⟩:=SJ.mp e
  exact j s n) (λm e=>by rw[SQ.mp e];exact k)
 rw[SM]at a b;exact⟨λf=>by rw[Dm];exact a f,λf=>by rw[Dm];exact b f⟩
theorem zr{g:ab}(b:0<g.2.2)(h:cU (sh.map λs=>s.1) [d])(c:∀s∈sh,∀p∈s.1,aW p)(e:∀p∈d,aW p):cU ((sh.map (l7 g)).map λs=>s.1) [d.map λp=>nP (ee g p)]:=by
 have:=(Dj b).hp h (λf a=>by
  obtain⟨s,i,rfl⟩:=SJ.mp a
  exact c s i) (λf a=>by rw[SQ.mp a];exact e)
 rw[SM]at this;rw[SM];exact this
end
theorem CD{s:a7}(r:aW s.2.2):∃A,lE (λp=>if s.2.1=true then fe (nP (ee (fe s.2.2) p))else nP (ee (fe s.2.2) p)) A:=by
 have d:=Dj (v:=fe s.2.2) r.1;by_cases h:s.2.1=true
 ·refine⟨λl=>tl (tk (fe s.2.2) l),⟨λc l=>by rw[d.jV,rN.jV],λl t=>rN.ne _ (d.ne l t),λp f=>by rw[SL h];exact rN.pt _ (d.pt p f),λp q f i=>?_⟩⟩;simp only[SL h];obtain⟨g,c,u,w,e⟩:=d.ln p q f i;obtain⟨y,n,j,k,z⟩:=rN.ln _ _ (d.pt p f) (d.pt q i);refine⟨g*y,c*n,S1 u j,S1 w k,?_⟩
  have B:sc g (tl (a_ (nP (ee (fe s.2.2) p)) (nP (ee (fe s.2.2) q))))=sc c (tl (tk (fe s.2.2) (a_ p q))):=by
   rw[<-rN.jV,e,rN.jV]
  have o:∀(a b:Int)(x:ab),sc (a*b) x=sc a (sc b x):=λa b x=>by refine fh ?_ ?_ ?_<;>simp only[sc]<;>grind
  have m:∀(a b:Int)(x:ab),sc a (sc b x)=sc b (sc a x):=λa b x=>by refine fh ?_ ?_ ?_<;>simp only[sc]<;>grind
  rw[o,z,m,B,<-o,S4 n]
 refine⟨tk (fe s.2.2),⟨d.jV,d.ne,λp f=>by rw[Tk h];exact d.pt p f,λp q f i=>?_⟩⟩;simp only[Tk h];exact d.ln p q f i
theorem CC{l o:ab}{s:a7}(g:ZY->Int)(k:aW s.2.2)(m:l.1≠0\/l.2.1≠0)(n:aW o)(lo:ln l o=0)(i:∀p∈s.1,aW p):eL g (f0 (df (ln l) (a0 l) s.1,s.2))+eL g (f0 (df (λc => -ln l c) (a0 l) s.1,s.2))=eL g (f0 s):=by
 obtain⟨A,M⟩:=CD k
 have r:∀p q,aW p->aW q->ln l p*ln l q<0->aW (a0 l p q):=λp q d j c=>by
  rw[<-n8 d j];exact gK (n9 d j c)
 have kp:∀f:ab->Int,(∀p q,f p*f q<0->ln l p*ln l q<0)->∀p∈df f (a0 l) s.1,aW p:=λf t p d=>by
  unfold df at d;split at d
  ·rcases xS d with⟨h,_⟩|⟨a,u,b,v,c,e⟩
   ·exact i p h
   rw[e];exact r a b (i a u) (i b v) (t a b c)
  cases d
 have w:=M.ring g (kp (ln l) λp q h=>h);have x:=M.ring g (kp (λc => -ln l c) λp q h=>by rwa[Ur]at h);have y:=M.ring g i;rw[qx,qx,qx,w,x,y];exact A6 _ m n lo i
theorem CB{g p q:ab}(i:aW g)(m:aW p)(n:aW q):nP (ee (fe (nP (ee g q))) (nP (ee g p)))=nP (ee (fe q) p):=by
 have j:∀{a b:ab},aW a->aW b->(ee a b).2.2≠0:=λA B=>S1 (Sy B.1) (Sy A.1);obtain⟨d,C,o⟩:=kd (j i m);obtain⟨e,E,r⟩:=kd (j i n);obtain⟨f,F,s⟩:=kd (j n.trn m);have H:aW (nP (ee (fe q) p)):=gK (j n.trn m);obtain⟨t,u,k⟩:(ee g p).1=d*(nP (ee g p)).1/\(ee g p).2.1=d*(nP (ee g p)).2.1/\(ee g p).2.2=d*(nP (ee g p)).2.2:=⟨TW (·.1) o,TW (·.2.1) o,TW (·.2.2) o⟩;obtain⟨v,w,l⟩:(ee g q).1=e*(nP (ee g q)).1/\(ee g q).2.1=e*(nP (ee g q)).2.1/\(ee g q).2.2=e*(nP (ee g q)).2.2:=⟨TW (·.1) r,TW (·.2.1) r,TW (·.2.2) r⟩;obtain⟨x,y,z⟩:(ee (fe q) p).1=f*(nP (ee (fe q) p)).1/\(ee (fe q) p).2.1=f*(nP (ee (fe q) p)).2.1/\(ee (fe q) p).2.2=f*(nP (ee (fe q) p)).2.2:=⟨TW (·.1) s,TW (·.2.1) s,TW (·.2.2) s⟩;generalize nP (ee g p)=a at *;generalize nP (ee g q)=b at *;generalize nP (ee (fe q) p)=h at *;simp only[ee,fe]at t u k v w l x y z;refine(ru (M:=ee (fe b) a) (h:=h) (G:=d*e) (c:=g.2.2*g.2.2*f) (S1 C E) (S1 (S1 (Sy i.1) (Sy i.1)) F) H ?_).2;refine fh ?_ ?_ ?_<;>simp only[sc,ee,fe]
 ·have:d*e*(a.1*b.2.2 + -b.1*a.2.2)=(d*a.1)*(e*b.2.2)-(e*b.1)*(d*a.2.2):=by grind
  rw[this,<-t,<-l,<-v,<-k];have:g.2.2*g.2.2*f*h.1=g.2.2*g.2.2*(f*h.1):=by grind
  rw[this,<-x];grind
 ·have:d*e*(a.2.1*b.2.2 + -b.2.1*a.2.2)=(d*a.2.1)*(e*b.2.2)-(e*b.2.1)*(d*a.2.2):=by grind
  rw[this,<-u,<-l,<-w,<-k];have:g.2.2*g.2.2*f*h.2.1=g.2.2*g.2.2*(f*h.2.1):=by grind
  rw[this,<-y];grind
 have:d*e*(a.2.2*b.2.2)=(d*a.2.2)*(e*b.2.2):=by grind
 rw[this,<-k,<-l];have:g.2.2*g.2.2*f*h.2.2=g.2.2*g.2.2*(f*h.2.2):=by grind
 rw[this,<-z];grind
theorem Cz{g:ab}{s:a7}(a:aW g)(b:aW s.2.2)(c:∀p∈s.1,aW p):f0 (l7 g s)=f0 s:=by
 rw[qx,qx];unfold l7;dsimp only;rw[SM];refine Uj λp d=>?_;show(if s.2.1=true then fe (nP (ee (fe (nP (ee g s.2.2))) (nP (ee g p))))else nP (ee (fe (nP (ee g s.2.2))) (nP (ee g p))))=_
 rw[CB a (c p d) b]
def ew(a:ZY->Int)(b:Bool)(L:ZM):Rat:=f3 a ((L.filter λs=>s.2.1==b).map f0)
theorem pi(a:ZY->Int)(b:Bool)(L M:ZM):ew a b (L++M)=ew a b L+ew a b M:=by unfold ew;rw[U6,SE,vn]
theorem JF(a:ZY->Int)(b:Bool):ew a b []=0:=rfl
theorem yz(a:ZY->Int)(b:Bool)(s:a7):ew a b [s]=if s.2.1==b then eL a (f0 s)else 0:=by
 unfold ew;by_cases h:(s.2.1==b)=true
 ·rw[SL h,WX (by exact h)];exact rP a _
 rw[Tk h,WY (by exact h)];rfl
theorem Dn(a:ZY->Int)(b:Bool)(s:a7)(L:ZM):ew a b (s::L)=ew a b [s]+ew a b L:=by rw[<-pi];rfl
theorem yA(a:ZY->Int)(b:Bool){g:ab}(c:aW g):∀{L:ZM},(∀s∈L,aW s.2.2/\∀p∈s.1,aW p)->ew a b (L.map (l7 g))=ew a b L
 |[],_=>rfl
 |s::L,h=>by
  obtain⟨d,e⟩:=h s Sw;rw[SI,Dn,Dn a b s,yA a b c λt f=>h t (SA _ f),yz,yz,Cz c d e];rfl
theorem Do(a:ZY->Int)(b:Bool){l o:ab}(d:l.1≠0\/l.2.1≠0)(g:aW o)(lo:ln l o=0):∀{L:ZM},(∀s∈L,aW s.2.2/\∀p∈s.1,aW p)->ew a b (dH (ln l) (a0 l) L)+ew a b (dH (λc => -ln l c) (a0 l) L)=ew a b L
 |[],_=>by show ew a b []+ew a b []=_;rw[JF];grind
 |s::L,h=>by
  obtain⟨i,j⟩:=h s Sw;have k:=Do a b d g lo λt m=>h t (SA _ m);have e:∀f:ab->Int,dH f (a0 l) (s::L)=dH f (a0 l) [s]++dH f (a0 l) L:=λf=>u9 (f:=f) [s] L
  have one:∀f:ab->Int,ew a b (dH f (a0 l) [s])=if s.2.1==b then eL a (f0 (df f (a0 l) s.1,s.2))else 0:=λf=>by
   cases c:(df f (a0 l) s.1).isEmpty with
   |true=>
    rw[x9 c,JF,Wk.mp c,qx];split
    ·rfl
    rfl
   |false=>rw[x8 c,yz]
  have n:=CC a i d g lo j;rw[e,e,pi,pi,one,one,Dn,yz,<-k];by_cases c:(s.2.1==b)=true
  ·rw[SL c,SL c,SL c,<-n];grind
  rw[Tk c,Tk c,Tk c];grind
theorem pj{x:Int×Int}(l:a8 x.1 x.2):((ce x).1≠0\/(ce x).2.1≠0)/\aW (cl (x.1*1) (0*x.2) (x.2*1))/\ln (ce x) (cl (x.1*1) (0*x.2) (x.2*1))=0:=by
 have c:x.2*1≠0:=by have:=l.1;lia
 have p1:aW (cl (x.1*1) (0*x.2) (x.2*1)):=gK (p:=(x.1*1,0*x.2,x.2*1)) c;have p2:aW (cl (x.1*1) (1*x.2) (x.2*1)):=gK (p:=(x.1*1,1*x.2,x.2*1)) c
 have e:cl (x.1*1) (0*x.2) (x.2*1)≠cl (x.1*1) (1*x.2) (x.2*1):=λz=>by
  obtain⟨_,h,d,_⟩:=kc (a:=x.1*1) (b:=0*x.2) c;obtain⟨q,i,f,_⟩:=kc (a:=x.1*1) (b:=1*x.2) c;rw[z,f]at d;have g:=q.1;have j:=l.1;have:1*x.2*(cl (x.1*1) (1*x.2) (x.2*1)).2.2=0:=by rw[d];simp
  have:=SD (show 0<1*x.2 by lia) g;lia
 refine⟨m8 p1 p2 e,p1,?_⟩;unfold ce ln a_;grind
theorem pk{x:Int×Int}(l:a8 x.1 x.2):((cC x).1≠0\/(cC x).2.1≠0)/\aW (cl (0*x.2) (x.1*1) (1*x.2))/\ln (cC x) (cl (0*x.2) (x.1*1) (1*x.2))=0:=by
 have c:1*x.2≠0:=by have:=l.1;lia
 have p1:aW (cl (0*x.2) (x.1*1) (1*x.2)):=gK (p:=(0*x.2,x.1*1,1*x.2)) c;have p2:aW (cl (1*x.2) (x.1*1) (1*x.2)):=gK (p:=(1*x.2,x.1*1,1*x.2)) c
 have e:cl (0*x.2) (x.1*1) (1*x.2)≠cl (1*x.2) (x.1*1) (1*x.2):=λz=>by
  obtain⟨_,d,h,_⟩:=kc (a:=0*x.2) (b:=x.1*1) c;obtain⟨q,f,i,_⟩:=kc (a:=1*x.2) (b:=x.1*1) c;rw[z,f]at d;have g:=q.1;have j:=l.1;have:1*x.2*(cl (1*x.2) (x.1*1) (1*x.2)).2.2=0:=by rw[d];simp
  have:=SD (show 0<1*x.2 by lia) g;lia
 refine⟨m8 p1 p2 e,p1,?_⟩;unfold cC ln a_;grind
theorem Cy(a:ZY->Int)(b c:Bool){x:Int×Int}(l:a8 x.1 x.2){L:ZM}(h:∀s∈L,aW s.2.2/\∀p∈s.1,aW p):ew a b (d2 x c L)+ew a b (d2 x (!c) L)=ew a b L:=by
 obtain⟨d,e,f⟩:=pj l;have:=Do a b d e f h;cases c with
 |true=>exact this
 |false=>rw[<-this];show ew a b (dH _ _ L)+ew a b (dH _ _ L)=_;grind
theorem Cr(a:ZY->Int)(b c:Bool){x:Int×Int}(l:a8 x.1 x.2){L:ZM}(h:∀s∈L,aW s.2.2/\∀p∈s.1,aW p):ew a b (f4 x c L)+ew a b (f4 x (!c) L)=ew a b L:=by
 obtain⟨d,e,f⟩:=pk l;have:=Do a b d e f h;cases c with
 |true=>exact this
 |false=>rw[<-this];show ew a b (dH _ _ L)+ew a b (dH _ _ L)=_;grind
theorem qA(a:Rat):(0:Rat)/a=0:=by grind
theorem JG(d:Rat):d<0\/d=0\/0<d:=by grind
def cN(p:ab)(x y:Rat):Prop:=aW p/\kY p=x/\kZ p=y
theorem Dp{a b c d:Int}(e:0<b)(f:0<d)(h:(a:Rat)/b=(c:Rat)/d):a*d=c*b:=by
 have g:=eY e;have i:=eY f;have:(a:Rat)*d=c*b:=by grind
 exact_mod_cast this
theorem cN.eq{p q:ab}{x y:Rat}(h:cN p x y)(g:cN q x y):p=q:=by
 obtain⟨a,c,d⟩:=h;obtain⟨b,e,f⟩:=g;obtain⟨i,j,k⟩:=wU a b (Dp a.1 b.1 (c.trans e.symm)) (Dp a.1 b.1 (d.trans f.symm));exact fh i j k
theorem cN.to{p:ab}{x y a b:Rat}(h:cN p x y)(c:x=a)(d:y=b):cN p a b:=by subst c d;exact h
def bF(r:Int×Int):Rat:=(r.1:Rat)/r.2
theorem tn{a b n:Int}(c:0<n):cN (cl a b n) ((a:Rat)/n) ((b:Rat)/n):=by
 obtain⟨p,d,e,_⟩:=kc (a:=a) (b:=b) (Sy c);have f:=eY c;have g:=eY p.1;have h:(((cl a b n).1:Int):Rat)*n=a*((cl a b n).2.2:Int):=by exact_mod_cast d
 have i:(((cl a b n).2.1:Int):Rat)*n=b*((cl a b n).2.2:Int):=by exact_mod_cast e
 refine⟨p,?_,?_⟩
 ·unfold kY;grind
 unfold kZ;grind
theorem vo{w h:Int×Int}(a:0<w.2)(b:0<h.2):cN (dg w h) (bF w) (bF h):=by
 have c:=eY a;have d:=eY b;refine(tn (SD a b)).to ?_ ?_<;>(unfold bF;push_cast;grind)
theorem vp{w:Int×Int}(l:a8 w.1 w.2):cN (w.1,0,w.2) (bF w) 0:=⟨xH l,rfl,by unfold kZ;show((0:Int):Rat)/_=0;exact qA _⟩
theorem vq{w:Int×Int}(l:a8 w.1 w.2):cN (0,w.1,w.2) 0 (bF w):=⟨xI l,by unfold kY;show((0:Int):Rat)/_=0;exact qA _,rfl⟩
theorem yB:cN (0,0,1) 0 0:=⟨⟨by decide,by decide⟩,by unfold kY;exact qA _,by unfold kZ;exact qA _⟩
theorem eD{g p:ab}{a b x y:Rat}(d:cN g a b)(e:cN p x y):cN (nP (ee g p)) (x+a) (y+b):=by
 obtain⟨c,f,g3⟩:=d;obtain⟨p1,p2,h⟩:=e;have i:=eY c.1;have j:=eY p1.1;refine(tn (a:=(ee g p).1) (b:=(ee g p).2.1) (n:=(ee g p).2.2) (SD p1.1 c.1)).to ?_ ?_
 ·rw[<-f,<-p2];unfold kY ee;dsimp only;push_cast;grind
 rw[<-g3,<-h];unfold kZ ee;dsimp only;push_cast;grind
theorem JH{p q r:ab}{a b c d e f:Rat}(i:cN p a b)(j:cN q c d)(l:cN r e f):∃k:Rat,0<k/\((bm p q r:Int):Rat)=k*((c-a)*(f-b)-(d-b)*(e-a)):=by
 obtain⟨p1,p2,m⟩:=i;obtain⟨g,n,o⟩:=j;obtain⟨h,s,t⟩:=l;have v:=eY p1.1;have u:=eY g.1;have w:=eY h.1;refine⟨((p.2.2*q.2.2*r.2.2:Int):Rat),?_,?_⟩
 ·have:=SD (SD p1.1 g.1) h.1;exact_mod_cast this
 rw[<-p2,<-m,<-n,<-o,<-s,<-t];unfold bm a_ kY kZ;dsimp only;push_cast;grind
section
variable{X:Int×Int}{c:ab}{x y:Rat}
theorem vr(l:a8 X.1 X.2)(d:cN c x y):∃k:Rat,0<k/\((ln (ce X) c:Int):Rat)=k*(bF X-x):=by
 have g:=eY l.1;have a:cN (cl (X.1*1) (0*X.2) (X.2*1)) (bF X) 0:=(tn (by have:=l.1;lia)).to (by unfold bF;simp) (by simp;exact qA _);have b:cN (cl (X.1*1) (1*X.2) (X.2*1)) (bF X) 1:=(tn (by have:=l.1;lia)).to (by unfold bF;simp) (by simp;grind);obtain⟨k,f,e⟩:=JH a b d;exact⟨k,f,by show((bm _ _ c:Int):Rat)=_;rw[e];grind⟩
theorem tq(l:a8 X.1 X.2)(d:cN c x y):∃k:Rat,0<k/\((ln (cC X) c:Int):Rat)=k*(y-bF X):=by
 have g:=eY l.1;have a:cN (cl (0*X.2) (X.1*1) (1*X.2)) 0 (bF X):=(tn (by have:=l.1;lia)).to (by simp;exact qA _) (by unfold bF;simp);have b:cN (cl (1*X.2) (X.1*1) (1*X.2)) 1 (bF X):=(tn (by have:=l.1;lia)).to (by simp;grind) (by unfold bF;simp);obtain⟨k,f,e⟩:=JH a b d;exact⟨k,f,by show((bm _ _ c:Int):Rat)=_;rw[e];grind⟩
end
theorem rQ{n:Int}{k d:Rat}(a:0<k)(e:(n:Rat)=k*d)(h:0<d):0<n:=by
 have:(0:Rat)<n:=by rw[e];exact UU a h
 exact_mod_cast this
theorem tr{n:Int}{k d:Rat}(a:0<k)(e:(n:Rat)=k*d)(h:d<0):n<0:=by
 have:0 < -n:=rQ a (d :=-d) (by push_cast;rw[e];grind) (by grind);lia
theorem Dq{n:Int}{k d:Rat}(e:(n:Rat)=k*d)(h:d=0):n=0:=by
 rw[h]at e;have:(n:Rat)=0:=by rw[e];grind
 exact_mod_cast this
section
variable{X:Int×Int}{c p q:ab}{x y f g j i:Rat}
theorem tu(l:a8 X.1 X.2)(a:cN c x y)(h:x<bF X):0<ln (ce X) c:=by
 obtain⟨k,b,e⟩:=vr l a;exact rQ b e (by grind)
theorem tv(l:a8 X.1 X.2)(a:cN c x y)(h:bF X<x):ln (ce X) c<0:=by
 obtain⟨k,b,e⟩:=vr l a;exact tr b e (by grind)
theorem tw(l:a8 X.1 X.2)(a:cN c x y)(h:bF X<y):0<ln (cC X) c:=by
 obtain⟨k,b,e⟩:=tq l a;exact rQ b e (by grind)
theorem tx(l:a8 X.1 X.2)(a:cN c x y)(h:y<bF X):ln (cC X) c<0:=by
 obtain⟨k,b,e⟩:=tq l a;exact tr b e (by grind)
theorem yC(l:a8 X.1 X.2)(a:cN c x y)(h:y=bF X):ln (cC X) c=0:=by
 obtain⟨k,b,e⟩:=tq l a;exact Dq e (by grind)
theorem qC(l:a8 X.1 X.2)(c:cN p f g)(m:cN q j i)(h:ln (ce X) p*ln (ce X) q<0)(G:(y-g)*(j-f)=(bF X-f)*(i-g)):cN (a0 (ce X) p q) (bF X) y:=by
 have t:aW (a0 (ce X) p q):=by rw[<-n8 c.1 m.1];exact gK (n9 c.1 m.1 h)
 obtain⟨a,b,H,B,C⟩:=IC (sZ h) c.1.1 m.1.1 t.1;have u:cN (a0 (ce X) p q) (kY (a0 (ce X) p q)) (kZ (a0 (ce X) p q)):=⟨t,rfl,rfl⟩;obtain⟨k,v,e⟩:=vr l u;rw[u6 h]at e
 have w:kY (a0 (ce X) p q)=bF X:=by
  have I:k≠0:=by intro z;rw[z]at v;exact absurd v (by decide)
  have:k*(bF X-kY (a0 (ce X) p q))=0:=by rw[<-e];rfl
  grind
 have J:j-f≠0:=λz=>by
  obtain⟨K,x,o⟩:=vr l c;obtain⟨L,A,r⟩:=vr l m;have E:j=f:=by grind
  rw[E]at r;rcases JG (bF X-f)with d|d|d
  ·have n:=tr x o d;have s:=tr A r d;have:=UB n s;lia
  ·have n:=Dq o d;rw[n,TR]at h;lia
  have n:=rQ x o d;have s:=rQ A r d;have:=SD n s;lia
 refine u.to w ?_;rw[C,c.2.2,m.2.2];rw[B,c.2.1,m.2.1]at w;have F:a=1-b:=by grind
 subst F;grind
theorem yD(l:a8 X.1 X.2)(c:cN p f g)(m:cN q j i)(h:ln (cC X) p*ln (cC X) q<0)(G:(x-f)*(i-g)=(bF X-g)*(j-f)):cN (a0 (cC X) p q) x (bF X):=by
 have t:aW (a0 (cC X) p q):=by rw[<-n8 c.1 m.1];exact gK (n9 c.1 m.1 h)
 obtain⟨a,b,H,B,C⟩:=IC (sZ h) c.1.1 m.1.1 t.1;have u:cN (a0 (cC X) p q) (kY (a0 (cC X) p q)) (kZ (a0 (cC X) p q)):=⟨t,rfl,rfl⟩;obtain⟨k,v,e⟩:=tq l u;rw[u6 h]at e
 have w:kZ (a0 (cC X) p q)=bF X:=by
  have I:k≠0:=by intro z;rw[z]at v;exact absurd v (by decide)
  have:k*(kZ (a0 (cC X) p q)-bF X)=0:=by rw[<-e];rfl
  grind
 have J:i-g≠0:=λz=>by
  obtain⟨K,y,o⟩:=tq l c;obtain⟨L,A,r⟩:=tq l m;have E:i=g:=by grind
  rw[E]at r;rcases JG (g-bF X)with d|d|d
  ·have n:=tr y o d;have s:=tr A r d;have:=UB n s;lia
  ·have n:=Dq o d;rw[n,TR]at h;lia
  have n:=rQ y o d;have s:=rQ A r d;have:=SD n s;lia
 refine u.to ?_ w;rw[B,c.2.1,m.2.1];rw[C,c.2.2,m.2.2]at w;have F:a=1-b:=by grind
 subst F;grind
end
section
variable{f:ab->Int}{mt:ab->ab->ab}{a b c d:ab}
theorem yE:dB f mt [a,b,c]=kp f a++cI f mt a b++(kp f b++cI f mt b c++(kp f c++cI f mt c a++[])):=rfl
theorem qD:dB f mt [a,b,c,d]=kp f a++cI f mt a b++(kp f b++cI f mt b c++(kp f c++cI f mt c d++(kp f d++cI f mt d a++[]))):=rfl
theorem gM(h:0<=f a):kp f a=[a]:=by unfold kp;rw[SL h]
theorem ja(h:f a<0):kp f a=[]:=by unfold kp;rw[Tk (by lia)]
theorem jP(h:(0<f a/\f b<0)\/(f a<0/\0<f b)):cI f mt a b=[mt a b]:=by
 unfold cI;rcases h with⟨c,d⟩|⟨c,d⟩
 ·rw[SL (S2 c d)]
 rw[SL (T7 c d)]
theorem ge(h:(0<=f a/\0<=f b)\/(f a<=0/\f b<=0)):cI f mt a b=[]:=by
 unfold cI;rcases h with⟨c,d⟩|⟨c,d⟩
 ·rw[Tk (by have:=Tw c d;lia)]
 rw[Tk (by have:=Vq c d;lia)]
theorem mi{a:ZJ}(p:ab)(b:p∈a)(h:0<f p):df f mt a=dB f mt a:=yb ⟨p,b,h⟩
theorem JJ(d:0<f a)(e:f b<0)(g:f c<0):df f mt [a,b,c]=[a,mt a b,mt c a]:=by
 rw[mi a (by simp) d,yE,gM (by lia),jP (.inl ⟨d,e⟩),ja e,ge (.inr ⟨by lia,by lia⟩),ja g,jP (.inr ⟨g,d⟩)];rfl
theorem JK(d:f a<0)(e:0<f b)(g:0<f c):df f mt [a,b,c]=[mt a b,b,c,mt c a]:=by
 rw[mi b (by simp) e,yE,ja d,jP (.inr ⟨d,e⟩),gM (by lia),ge (.inl ⟨by lia,by lia⟩),gM (by lia),jP (.inl ⟨g,d⟩)];rfl
theorem JL(e:f a<0)(d:0<f b)(g:f c<0):df f mt [a,b,c]=[mt a b,b,mt b c]:=by
 rw[mi b (by simp) d,yE,ja e,jP (.inr ⟨e,d⟩),gM (by lia),jP (.inl ⟨d,g⟩),ja g,ge (.inr ⟨by lia,by lia⟩)];rfl
theorem JM(e:0<f a)(d:f b<0)(g:0<f c):df f mt [a,b,c]=[a,mt a b,mt b c,c]:=by
 rw[mi a (by simp) e,yE,gM (by lia),jP (.inl ⟨e,d⟩),ja d,jP (.inr ⟨d,g⟩),gM (by lia),ge (.inl ⟨by lia,by lia⟩)];rfl
theorem Cq(h:f a<0)(e:f b<0)(g:0<f c)(i:f d=0):df f mt [a,b,c,d]=[mt b c,c,d]:=by
 rw[mi c (by simp) g,qD,ja h,ge (.inr ⟨by lia,by lia⟩),ja e,jP (.inr ⟨e,g⟩),gM (by lia),ge (.inl ⟨by lia,by lia⟩),gM (by lia),ge (.inr ⟨by lia,by lia⟩)];rfl
theorem Cp(g:0<f a)(h:0<f b)(e:f c<0)(i:f d=0):df f mt [a,b,c,d]=[a,b,mt b c,d]:=by
 rw[mi a (by simp) g,qD,gM (by lia),ge (.inl ⟨by lia,by lia⟩),gM (by lia),jP (.inl ⟨h,e⟩),ja e,ge (.inr ⟨by lia,by lia⟩),gM (by lia),ge (.inl ⟨by lia,by lia⟩)];rfl
theorem Co(e:0<f a)(i:f b=0)(h:f c<0)(g:f d<0):df f mt [a,b,c,d]=[a,b,mt d a]:=by
 rw[mi a (by simp) e,qD,gM (by lia),ge (.inl ⟨by lia,by lia⟩),gM (by lia),ge (.inr ⟨by lia,by lia⟩),ja h,ge (.inr ⟨by lia,by lia⟩),ja g,jP (.inr ⟨g,e⟩)];rfl
theorem Cn(e:f a<0)(i:f b=0)(g:0<f c)(h:0<f d):df f mt [a,b,c,d]=[b,c,d,mt d a]:=by
 rw[mi c (by simp) g,qD,ja e,ge (.inr ⟨by lia,by lia⟩),gM (by lia),ge (.inl ⟨by lia,by lia⟩),gM (by lia),ge (.inl ⟨by lia,by lia⟩),gM (by lia),jP (.inl ⟨h,e⟩)];rfl
theorem Cm(e:f a<0)(h:f b<0)(i:f c=0)(g:0<f d):df f mt [a,b,c,d]=[c,d,mt d a]:=by
 rw[mi d (by simp) g,qD,ja e,ge (.inr ⟨by lia,by lia⟩),ja h,ge (.inr ⟨by lia,by lia⟩),gM (by lia),ge (.inl ⟨by lia,by lia⟩),gM (by lia),jP (.inl ⟨g,e⟩)];rfl
theorem Ck(e:0<f a)(h:0<f b)(i:f c=0)(g:f d<0):df f mt [a,b,c,d]=[a,b,c,mt d a]:=by
 rw[mi a (by simp) e,qD,gM (by lia),ge (.inl ⟨by lia,by lia⟩),gM (by lia),ge (.inl ⟨by lia,by lia⟩),gM (by lia),ge (.inr ⟨by lia,by lia⟩),ja g,jP (.inr ⟨g,e⟩)];rfl
theorem Cg(i:f a=0)(e:0<f b)(g:f c<0)(h:f d<0):df f mt [a,b,c,d]=[a,b,mt b c]:=by
 rw[mi b (by simp) e,qD,gM (by lia),ge (.inl ⟨by lia,by lia⟩),gM (by lia),jP (.inl ⟨e,g⟩),ja g,ge (.inr ⟨by lia,by lia⟩),ja h,ge (.inr ⟨by lia,by lia⟩)];rfl
theorem B_(h:f a=0)(e:f b<0)(g:0<f c)(i:0<f d):df f mt [a,b,c,d]=[a,mt b c,c,d]:=by
 rw[mi c (by simp) g,qD,gM (by lia),ge (.inr ⟨by lia,by lia⟩),ja e,jP (.inr ⟨e,g⟩),gM (by lia),ge (.inl ⟨by lia,by lia⟩),gM (by lia),ge (.inl ⟨by lia,by lia⟩)];rfl
end
theorem vw{t b:Int}(a:0<b):bF (d1 t b)=(t:Rat)/b:=by
 obtain⟨l,e,_,_⟩:=kb (t:=t) (b:=b) (Sy a);have c:=eY a;have d:=eY l.1;have f:(((d1 t b).1:Int):Rat)*b=t*((d1 t b).2:Int):=by exact_mod_cast e
 unfold bF;grind
theorem B8(a b:Int):bF (-a,b) = -bF (a,b):=by unfold bF;push_cast;grind
theorem rS{r:Int×Int}(h:0<r.1)(c:0<r.2):0<bF r:=by
 have a:(0:Rat)<r.1:=by exact_mod_cast h
 have b:(0:Rat)<r.2:=by exact_mod_cast c
 unfold bF;rw[Rat.div_def];exact UU a (Rat.inv_pos.mpr b)
section
variable{g:ab}{L:ZM}{ring:ZJ}
theorem om{a:ZJ}(b:aW g)(h:cU (L.map λs=>s.1) [ring])(c:∀s∈L,∀p∈s.1,aW p)(d:∀p∈ring,aW p)(e:ring.map (λp=>nP (ee g p))=a):cU ((L.map (l7 g)).map λs=>s.1) [a]:=by
 rw[<-e];exact zr b.1 h c d
theorem Ds{a:ab}{r:ZJ}(b:aW g)(h:cU (L.map λs=>s.1) [ring])(c:∀s∈L,∀p∈s.1,aW p)(d:∀p∈ring,aW p)(e:ring.map (λp=>nP (ee g p))=r++[a]):cU ((L.map (l7 g)).map λs=>s.1) [a::r]:=λf=>by
 have:=om b h c d e f;rw[this,rP,rP,Jp]
end
theorem qE{a b c d e f:ab}(g:a=d)(h:b=e)(i:c=f):[a,b,c]=[d,e,f]:=by rw[g,h,i]
theorem yF{a b c d e f g h:ab}(i:a=e)(j:b=f)(k:c=g)(l:d=h):[a,b,c,d]=[e,f,g,h]:=by rw[i,j,k,l]
theorem mj{a b c:ab}{P:ab->Prop}(d:P a)(e:P b)(f:P c):∀p∈[a,b,c],P p:=by simp;exact⟨d,e,f⟩
theorem qF{a b c d:ab}{P:ab->Prop}(e:P a)(f:P b)(g:P c)(h:P d):∀p∈[a,b,c,d],P p:=by simp;exact⟨e,f,g,h⟩
section
variable{X:aT}
theorem B5:oK X (.builtin "sorted") (λf H Q=>∃(p:TE)(c:ZH),f=[.ref p]/\H p=some (.lst (c.map V.int))/\c.length<64/\∀a:ZH,a.Perm c->a.Pairwise (· <= ·)->∀l,H l=none->Q (.ref l) (ed H l (.lst (a.map V.int)))):=by
 intro x s y H f z Q I r h;obtain⟨p,c,rfl,j,A,q⟩:=h;obtain⟨u,rfl,k⟩:=fo r;cases k;obtain⟨d,g,m,B⟩:=I.list (cE.of j);have n:=g.length;rw[Sv]at n;refine sorted_ints m.isList (h8 g) (by lia) λb a o i t=>?_;obtain⟨e,v⟩:=sortedAll_at s.heap d b;have C:=i.length_eq;exact⟨.ref (s.heap.objs.size+1),_,I.laid (t':=s.toks) (λ_ _=>sortedAll_old) (Ux _) (show gG X.prog X.w _ _ _ (.lst (a.map V.int))from⟨by rw[Sv,XO];lia,b.toList,e,A' o,v⟩),rfl,q a i t _ (I.ep.fresh (Ux _))⟩
end
section
variable{X:aT}{e:Wp}{u:bd}{p pos:Pos}
def B4(u:bd):cJ:=λc k=>u c λx=>∃a:ZH,x=.lst (a.map D.int)/\a.length<64/\∀b:ZH,b.Perm a->b.Pairwise (· <= ·)->k (b.map D.int)
theorem B3(b:br X e u)(i:eG X "sorted")(j:X.mg "sorted"=none)(f:eN X e []:=by rfl):j2 X (.Call (.Name "sorted" p) [e] [] pos) (B4 u):=by
 obtain⟨_,l,m⟩:=b;refine⟨_,q1 B5 i j (by decide +kernel) (d8 l fa f) (by decide) (by decide) f rfl,λn k h R W B H o Q e q=>?_⟩;refine m n _ h R W B H o _ e λd v r L s g t w=>?_;obtain⟨x,rfl,y,z⟩:=s;obtain⟨a,M,rfl,b,A⟩:=w.fk;have C:=BC A;subst C;refine⟨a,x,rfl,g.bh _ _ b,y,λc p1 p2 p E=>?_⟩;obtain⟨F,G,I,J,K⟩:=g.i_ E (b_.ints c);exact q _ p _ r _ (z c p1 p2) F t G I J (b_.ints c) K
end
section
variable{X:aT}
def B0:V->ZL->ak->cr->Prop:=λx d H Q=>∃l b a c,x=.ref l/\d=[.ref b]/\H l=some (.lst a)/\H b=some (.tup c)/\a.length+c.length<=TI/\Q .non (ed H l (.lst (a++c)))
theorem BY:sD X "list.extend" B0:=by
 intro A s B H x C v E Q I i j h;obtain⟨l,b,G,J,rfl,rfl,d,k,K,q⟩:=h;cases i;obtain⟨u,rfl,m⟩:=j.one;cases m;obtain⟨z,its,n,r,L,e⟩:=I.gU d;obtain⟨M,a,f,o⟩:=I.ep b _ k;have N:=f.length;obtain⟨p,g,t,O,c⟩:=o;have w:its.toArray.size+a.toArray.size<=TI:=by rw[SX,SX];lia
 have y:¬(!its.toArray.isEmpty&&Builtin.List.listTooLong (its.toArray.size+a.toArray.size))=true:=by
  rw[F1 w,Bool.and_false];exact SU
 refine XI F.slot_list_extend ⟨_,e,rfl⟩ F.entry_list_extend ?_ (F.args_list_extend_2 _ _);show wpAny _ _ (Builtin.List.listExtendWith (.ref l) (.ref b) .none) _ _ s
 unfold Builtin.List.listExtendWith;refine wp (wpAny_typeOf (T:="tuple") ⟨p,g,t⟩ ?_);rw[SL (by rw[show(Value.type "tuple"==Value.type "tuple")=true from rfl];simp)];refine wp (YV g c ?_);refine wp (YV e rfl ?_);rw[Tk y];refine wp (Zj e rfl ?_ (by rw[SX];lia) (by rw[Array.size_append];lia));refine SZ ⟨_,rfl,?_⟩;refine⟨.non,_,I.je (t':=s.toks) (its':=its++a) d e (by simp) (r.append f) ?_,rfl,q⟩;rw[Sz];lia
end
section
section
variable{K:Su}{B:ak}
theorem b_.eraseIdx:∀{a:ZL}{b:ZK}(i:Nat),b_ K B a b->b_ K B (a.eraseIdx i) (b.eraseIdx i)
 |_,_,_,.nil=>.nil
 |_,_,0,.cons _ t=>t
 |_,_,i+1,.cons r t=>.cons r (b_.eraseIdx i t)
end
variable{X:aT}{e:Wp}{u:bd}{F:cb}{pos:Pos}
def BX(i j:Nat)(F:cb)(u:bd):cB:=λU a=>∃b:ZK,a[i]?=some (.own b)/\a[j]?=some .bag/\u a λd=>∃(n:Nat)(z:D),d=.int n/\n<1000/\b[n]?=some z/\F [.bag,.val z] λr=>∃c,r=.val (.tup c)/\b.length+c.length<=TI/\U.nx (a.set i (.own (b.eraseIdx n++c)))
theorem BW(i j:Nat){f x y:Str}{bg:ZS}{aj au:Nat}{M k m G N I l g t:Pos}(c:ca X.prog X.w X.K X.mg X.base f bg aj (ck X.K 2 F))(bj:ez au X.A)(bq:eG X f)(bA:br X e u)(bG:aj<=au:=by decide)(aw:gV X i x:=by rfl)(ay:gh X.env.scope x:=by walk_at"v")(az:ec x:=by decide)(aH:gO x:=by decide)(O:gV X j y:=by rfl)(bK:gh X.env.scope y:=by walk_at"v")(P:ec y:=by decide)(Q:gO y:=by decide)(bM:ec f:=by decide)(bR:iq X (.Name x M) "extend":=by rfl)(bS:iq X (.Name x k) "pop":=by rfl)(bT:lQ X I [.Call (.Name f G) [.Name y m,.Call (.Attribute (.Name x k) "pop" l) [e] [] g] [] t]:=by rfl)(bU:lQ X g [e]:=by rfl)(bX:iS N I:=by rfl)(bY:iS l g:=by rfl)(aI:UF [.Call (.Name f G) [.Name y m,.Call (.Attribute (.Name x k) "pop" l) [e] [] g] [] t] X.env=(false,Yk (.Call (.Name f G) [.Name y m,.Call (.Attribute (.Name x k) "pop" l) [e] [] g] [] t) X.env)::UF [] X.env:=by rfl)(aJ:UF [.Name y m,.Call (.Attribute (.Name x k) "pop" l) [e] [] g] X.env=(false,Yk (.Name y m) X.env)::UF [.Call (.Attribute (.Name x k) "pop" l) [e] [] g] X.env:=by rfl)(bZ:UF [.Call (.Attribute (.Name x k) "pop" l) [e] [] g] X.env=(false,Yk (.Call (.Attribute (.Name x k) "pop" l) [e] [] g) X.env)::UF [] X.env:=by rfl)(aK:eN X e []:=by rfl)(b0:hy X I []:=by rfl)(b5:hy X g []:=by rfl)(b6:(X9 t (UF [.Call (.Attribute (.Name x k) "pop" l) [e] [] g] X.env)).any (·.1)=false:=by rfl)(b8:XA (.Call (.Attribute (.Name x M) "extend" N) [.Call (.Name f G) [.Name y m,.Call (.Attribute (.Name x k) "pop" l) [e] [] g] [] t] [] I) none pos.line X.env=pure false:=by rfl):
  eV X (.Expr (.Call (.Attribute (.Name x M) "extend" N) [.Call (.Name f G) [.Name y m,.Call (.Attribute (.Name x k) "pop" l) [e] [] g] [] t] [] I) pos) (BX i j F u):=by
 obtain⟨_,b9,x1⟩:=bA;refine⟨_,pN (sC T3 WN WO BY (gZ aw ay az aH) (d8 (oP c bj bq (d8 (gZ O bK P Q) (d8 (sC T3 Wl Wm OJ (gZ aw ay az aH) (d8 b9 fa aK) bS bU bY aK b5) fa bZ) aJ) bG bM aJ b6) fa aI) bR bT bX aI b0) b8,λU J h R W B H b' D e s=>?_⟩;obtain⟨L,o,S,h⟩:=h;obtain⟨a,aM,C,de,tb,aO,di⟩:=e.ownAt o;obtain⟨b,aV,dj⟩:=e.eQ S;refine⟨_,C,.inl ⟨rfl,aM,cE.of aO⟩,?_⟩;refine⟨_,aV,?_⟩;refine⟨_,C,.inl ⟨rfl,aM,cE.of aO⟩,?_⟩;refine x1 J _ h R W B H b' _ e λd v dk dm cc aX cn cw=>?_;obtain⟨n,z,rfl,dq,cD,k'⟩:=cc;obtain⟨cF,T,a3,dx,dz,cK,a4⟩:=aX.ownAt o;rw[C]at a3;cases a3;obtain⟨w,Y,cL⟩:=a4.get cD
 have dA:n<T.length:=by
  rcases Wn n T.length with q|q
  ·exact q
  rw[Te q]at Y;cases Y
 cases cw;refine⟨a,T,n,n,w,rfl,rfl,cK,by lia,by lia,?_,Y,?_⟩
 ·rw[Za (by lia) (by lia)];rfl
 have cO:=aX.write C o (a4.eraseIdx n);have cQ:i≠j:=λq=>by rw[q,S]at o;cases o
 have cR:i<J.length:=by
  rcases Wn i J.length with q|q
  ·exact q
  rw[Te q]at o;cases o
 have cS:(J.set i (.own (L.eraseIdx n)))[j]?=some .bag:=by rw[Tz cQ];exact S
 refine q' (E:=wO) (as:=[.bag j,.val z]) cO (.bag aV cS (.val cL .nil)) rfl k' λr v cT dD cX Z g3 aa=>?_;obtain⟨dG,rfl,dI,c7⟩:=cX;obtain⟨p,c8,rfl,c9,og⟩:=bE.fB aa;have a5:(J.set i (.own (L.eraseIdx n)))[i]?=some (.own (L.eraseIdx n)):=TH cR;obtain⟨cF,da,a6,dc,dd,hc,bb⟩:=Z.ownAt a5;rw[C]at a6;cases a6;have bc:=Z.write C a5 (bb.append og);rw[TZ]at bc;refine⟨a,p,da,c8,rfl,rfl,hc,Z.bh _ _ c9,?_,s.nx _ _ cT _ c7 bc (cn.trans g3)⟩;rw[bb.length,og.length];have:=A4 L n;lia
end
theorem JQ{p q:ab}{t:Int}(a:0<p.2.2)(b:0<q.2.2)(i:1<=t)(j:t<=2):hJ p q (kk p q t):=by
 have c:0<p.2.2*q.2.2*3:=SD (SD a b) (by decide);obtain⟨g,k,d⟩:=kd (p:=(p.1*q.2.2*(3-t)+q.1*p.2.2*t,p.2.1*q.2.2*(3-t)+q.2.1*p.2.2*t,p.2.2*q.2.2*3)) (Sy c);have e:=(gK (p:=(p.1*q.2.2*(3-t)+q.1*p.2.2*t,p.2.1*q.2.2*(3-t)+q.2.1*p.2.2*t,p.2.2*q.2.2*3)) (Sy c)).1;have l:p.2.2*q.2.2*3=g*(kk p q t).2.2:=TW (·.2.2) d
 have f:0<g:=by
  rcases Int.lt_or_le 0 g with h|h
  ·exact h
  have:g*(kk p q t).2.2<=0:=Int.mul_nonpos_of_nonpos_of_nonneg h (Ti e);lia
 refine⟨g,q.2.2*(3-t),p.2.2*t,f,SD b (by lia),SD a (by lia),?_⟩;show sc g (kk p q t)=_
 rw[show sc g (kk p q t)=_ from d.symm];refine fh ?_ ?_ ?_<;>simp only[gA]<;>grind
theorem JR{m:Nat}{p q:ab}{t:Int}(d:du m p)(f:du m q)(j:1<=t)(k:t<=2):du (2*m+3) (kk p q t):=by
 have g:0<p.2.2*q.2.2*3:=SD (SD d.pt.1 f.pt.1) (by decide);have h:SB (3-t)<=2:=intBits_le_iff.mpr (by have e:(2:Nat)^2=4:=rfl;rw[e];lia);have i:SB t<=2:=intBits_le_iff.mpr (by have e:(2:Nat)^2=4:=rfl;rw[e];lia);refine⟨gK (p:=(p.1*q.2.2*(3-t)+q.1*p.2.2*t,p.2.1*q.2.2*(3-t)+q.2.1*p.2.2*t,p.2.2*q.2.2*3)) (Sy g),cH.nP (p:=(p.1*q.2.2*(3-t)+q.1*p.2.2*t,p.2.1*q.2.2*(3-t)+q.2.1*p.2.2*t,p.2.2*q.2.2*3)) ⟨?_,?_,?_⟩ (Sy g)⟩
 ·exact Sx (XC (TD (TD d.bp.a f.bp.c) h) (TD (TD f.bp.a d.bp.c) i)) (by lia)
 ·exact Sx (XC (TD (TD d.bp.b f.bp.c) h) (TD (TD f.bp.b d.bp.c) i)) (by lia)
 exact Sx (TD (TD d.bp.c f.bp.c) (show SB 3<=2 by decide)) (by lia)
theorem T0.half{B D:ZJ}{a b c d m n:ab}(h:T0 (b::B++(d::D)))(w:3<=(b::B).length+(d::D).length)(g:bW b B=a)(f:bW d D=c)(t:hJ c b m)(u:hJ a d n):T0 (m::(b::B)++[n]):=by
 obtain⟨X,v⟩:∃X,b::B=X++[a]:=by
  obtain⟨X,e⟩:=x2 (z:=b) (r:=b::B) (by simp);exact⟨X,by rw[e];show _=X++[a];rw[<-g];rfl⟩
 cases D with
 |nil=>
  have f:d=c:=f;subst f;cases B with
  |nil=>simp at w
  |cons i B=>
   have g:bW i B=a:=g
   obtain⟨Y,l⟩:∃Y,i::B=Y++[a]:=by
    obtain⟨Y,e⟩:=x2 (z:=i) (r:=i::B) (by simp);exact⟨Y,by rw[e];show _=Y++[a];rw[<-g];rfl⟩
   rw[l]at h⊢;have j:T0 ((b::(Y++[a]))++[d]):=h
   have o:T0 (Y++a::d::b::[]):=by
    have:=T0.turn (xs:=[b]) (ys:=(Y++[a])++[d]) j;simpa using this
   have p:=T0.off o u t;have q:T0 ((Y++[a,n])++[m,b]):=by simpa using p
   have s:=T0.turn q;simpa using s
 |cons k D=>
  have f:bW k D=c:=f
  obtain⟨Y,l⟩:∃Y,k::D=Y++[c]:=by
   obtain⟨Y,e⟩:=x2 (z:=k) (r:=k::D) (by simp);exact⟨Y,by rw[e];show _=Y++[c];rw[<-f];rfl⟩
  have j:T0 ((b::B)++[d,c]):=by
   refine T0.sub ?_ h;refine UC (Vo _) (WU _ ?_);rw[l];exact WV _ _
  rw[v]at j;have o:T0 (X++a::d::[c]):=by simpa using j
  have p:=T0.back o u;have q:T0 ((b::B)++([n]++[c])):=by rw[v];simpa using p
  have s:T0 ([c]++((b::B)++[n])):=T0.turn (ys:=[c]) (xs:=(b::B)++[n]) (by simpa using q);have x:T0 ([]++c::b::(B++[n])):=by simpa using s
  have y:=T0.on x t;simpa using y
theorem Dz(a:ZY->Int){p q:ab}(b:aW p)(c:aW q):fG a p q+fG a q p=0:=by
 unfold fG eK;rw[Jf b c];grind
theorem JT(a:ZY->Int){p q m:ab}(c:aW p)(d:aW q)(h:p≠q)(b:hJ p q m):fG a p m+fG a m q=fG a p q:=by
 obtain⟨e,f⟩:=yr c d h b;unfold fG eK;rw[e,f];grind
theorem CS(e:ZY->Int){B D:ZJ}{a b c d m n:ab}(f:bW b B=a)(g:bW d D=c)(h:hJ c b m)(i:hJ a d n)(j:aW a)(k:aW b)(l:aW c)(o:aW d)(p:aW m)(q:aW n)(r:c≠b)(s:a≠d):
  eL e (m::(b::B)++[n])+eL e (n::(d::D)++[m])=eL e (b::B++(d::D)):=by
 have t:dv (m::(b::B)++[n])=(n,m)::(m,b)::(c0 b B++[(a,n)]):=by
  unfold dv;rw[show bW (0,0,1) (m::(b::B)++[n])=n from by rw[qp];rfl];show(n,m)::(m,b)::c0 b (B++[n])=_
  rw[qo,f];rfl
 have u:dv (n::(d::D)++[m])=(m,n)::(n,d)::(c0 d D++[(c,m)]):=by
  unfold dv;rw[show bW (0,0,1) (n::(d::D)++[m])=m from by rw[qp];rfl];show(m,n)::(n,d)::c0 d (D++[m])=_
  rw[qo,g];rfl
 have v:dv (b::B++(d::D))=(c,b)::(c0 b B++((a,d)::c0 d D)):=by
  unfold dv;rw[show bW (0,0,1) (b::B++(d::D))=c from by rw[qp];exact g];show(c,b)::c0 b (B++(d::D))=_
  rw[qo,f];rfl
 unfold eL;rw[t,u,v];simp only[h6,x3,i9];have w:=Dz e q p;have x:=JT e l k r h;have y:=JT e j o s i;grind
theorem JU(b:ZY->Int):∀A B:ZJ,eL b (A++B)=eL b (B++A)
 |[],B=>by rw[SR];rfl
 |a::A,B=>by
  have h:=JU b A (B++[a]);rw[show a::A++B=a::(A++B)from rfl,<-Jp,SY,h,SY];rfl
def tB(a:ZJ)(i j:Nat)(p q:ab):List ab:=[p]++(a.drop (i+1)).take (j-i)++[q]
def tC(a:ZJ)(i j:Nat)(p q:ab):List ab:=[q]++a.drop (j+1)++a.take (i+1)++[p]
theorem DA{a:ZJ}{i:Nat}(h:i<a.length):a.drop i=bC a i::a.drop (i+1):=by
 rw[Up h,mX h]
structure DB(m n:Nat)(ps bA rs:ZJ):Prop where
 a:fi bA
 b:fi rs
 la:bA.length<=n
 lb:rs.length<=n
 pa:∀x∈bA,du m x
 pb:∀x∈rs,du m x
 hp:∀φ,eL φ bA+eL φ rs=eL φ ps
theorem CP{m:Nat}{a:ZJ}{i j:Nat}{t u:Int}(g:fi a)(f:∀x∈a,du m x)(Z:i<j)(r:j<a.length)(H:1<=t)(I:t<=2)(J:1<=u)(K:u<=2):
  DB (2*m+3) (a.length+1) a (tB a i j (kk (bC a i) (bC a (i+1)) t) (kk (bC a j) (bC a ((j+1)%a.length)) u)) (tC a i j (kk (bC a i) (bC a (i+1)) t) (kk (bC a j) (bC a ((j+1)%a.length)) u)):=by
 have h1:=g.1;have L:(j+1)%a.length<a.length:=UA _ (by lia);have s:=f _ (o6 (show i<a.length by lia));have v:=f _ (o6 (show i+1<a.length by lia));have w:=f _ (o6 r);have y:=f _ (o6 L);have k:=JQ s.pt.1 v.pt.1 H I;have l:=JQ w.pt.1 y.pt.1 J K;have n:=JR s v H I;have o:=JR w y J K;generalize kk (bC a i) (bC a (i+1)) t=M at k n⊢;generalize kk (bC a j) (bC a ((j+1)%a.length)) u=N at l o⊢
 obtain⟨B,c⟩:∃B,(a.drop (i+1)).take (j-i)=bC a (i+1)::B:=by
  rw[DA (show i+1<a.length by lia),show j-i=(j-i-1)+1 by lia,V2];exact⟨_,rfl⟩
 have A:(bC a (i+1)::B).length=j-i:=by rw[<-c,TV,UI];lia
 have C:bW (bC a (i+1)) B=bC a j:=by
  have:=x' (bC a (i+1)) (bC a (i+1)::B) (by simp);rw[show bW (bC a (i+1)) (bC a (i+1)::B)=bW (bC a (i+1)) B from rfl]at this;rw[this,A,<-c];have b:j-i-1<((a.drop (i+1)).take (j-i)).length:=by rw[TV,UI];lia
  rw[mX b,mX r,W7,List.getElem_drop];congr 1;lia
 obtain⟨D,d⟩:∃D,a.drop (j+1)++a.take (i+1)=bC a ((j+1)%a.length)::D:=by
  by_cases z:j+1<a.length
  ·rw[Tg z,DA z];exact⟨_,rfl⟩
  have e:j+1=a.length:=by lia
  rw[e,V8,Uy,Tn];have:=DA (show 0<a.length by lia);rw[List.drop_zero]at this;rw[this,V2];exact⟨_,rfl⟩
 have sM:(bC a ((j+1)%a.length)::D).length=a.length-(j-i):=by rw[<-d,Sz,TV,UI];lia
 have E:bW (bC a ((j+1)%a.length)) D=bC a i:=by
  have Q:bW (bC a ((j+1)%a.length)) D=bW (0,0,1) (bC a ((j+1)%a.length)::D):=rfl;have R:a.take (i+1)≠[]:=λz=>by have:=TW S6 z;rw[TV,Ug]at this;lia
  rw[Q,<-d,qp,x' _ _ R];have b:(a.take (i+1)).length-1<(a.take (i+1)).length:=by rw[TV];lia
  rw[mX b,mX (show i<a.length by lia),W7];congr 1;rw[TV];lia
 have whole:a=a.take (i+1)++((a.drop (i+1)).take (j-i)++a.drop (j+1)):=by
  conv=>lhs;rw[<-W8 (i+1) a]
  congr 1
  conv=>lhs;rw[<-W8 (j-i) (a.drop (i+1))]
  rw[List.drop_drop];congr 2;lia
 have S:T0 a:=(o7 a).mpr g.ni
 have tX:T0 (bC a (i+1)::B++(bC a ((j+1)%a.length)::D)):=by
  rw[<-c,<-d,<-SY];refine T0.turn (xs:=a.take (i+1)) ?_;rwa[whole]at S
 have T:3<=(bC a (i+1)::B).length+(bC a ((j+1)%a.length)::D).length:=by rw[A,sM];lia
 have U:=T0.half tX T C E k l;have W:=T0.half (T0.turn tX) (by lia) E C l k;have p:tB a i j M N=M::(bC a (i+1)::B)++[N]:=by unfold tB;rw[c];rfl
 have q:tC a i j M N=N::(bC a ((j+1)%a.length)::D)++[M]:=by unfold tC;rw[SY [N],d];rfl
 have O:∀x∈a,du (2*m+3) x:=λx h=>(f x h).mono (by lia);have F:∀x∈bC a (i+1)::B,x∈a:=λx h=>by rw[<-c]at h;exact W9 (Wj h)
 have G:∀x∈bC a ((j+1)%a.length)::D,x∈a:=λx h=>by
  rw[<-d]at h;rcases SO.mp h with h|h
  ·exact W9 h
  exact Wj h
 have X:bC a i≠bC a (i+1):=g.side (by
  rw[ya];refine SJ.mpr ⟨i+1,TG.mpr (by lia),?_⟩
  rw[show i+1+a.length-1=i+a.length by lia,UP,Tg (by lia)])
 have Y:bC a j≠bC a ((j+1)%a.length):=g.side (by
  rw[ya];refine SJ.mpr ⟨(j+1)%a.length,TG.mpr L,?_⟩;congr 1;by_cases z:j+1<a.length
  ·rw[Tg z,show j+1+a.length-1=j+a.length by lia,UP,Tg r]
  rw[show j+1=a.length by lia,V8,T4,Tg (by lia)];congr 1
  lia)
 refine⟨?_,?_,?_,?_,?_,?_,λP=>?_⟩
 ·rw[p];refine qi.mf ?_ ((o7 _).mp U)
  first|(simp;done)|(simp;lia)
 ·rw[q];refine qi.mf ?_ ((o7 _).mp W)
  first|(simp;done)|(simp;lia)
 ·rw[p,Tr,SK,Sz,A]
  first|(simp;done)|(simp;lia)
 ·rw[q,Tr,SK,Sz,sM]
  first|(simp;done)|(simp;lia)
 ·rw[p];intro x b;rcases SO.mp b with b|b
  ·rcases SG.mp b with rfl|b
   ·exact n
   exact O x (F x b)
  rw[SQ.mp b];exact o
 ·rw[q];intro x b;rcases SO.mp b with b|b
  ·rcases SG.mp b with rfl|b
   ·exact o
   exact O x (G x b)
  rw[SQ.mp b];exact n
 rw[p,q,CS P C E k l w.pt v.pt s.pt y.pt n.pt o.pt X Y,<-c,<-d,<-SY,<-JU P (a.take (i+1))];rw[<-whole]
theorem CI{c:ZH}{x y:Int}(h:c.Perm [x,y])(s:c.Pairwise (· <= ·)):(c=[x,y]/\x<=y)\/(c=[y,x]/\y<=x):=by
 match c,h.length_eq with
 |[a,b],_=>
  have d:a<=b:=by simpa using s
  have e:a∈[x,y]:=h.mem_iff.mp (by simp);have f:b∈[x,y]:=h.mem_iff.mp (by simp);have g:x∈[a,b]:=h.mem_iff.mpr (by simp);have i:y∈[a,b]:=h.mem_iff.mpr (by simp);simp at e f g i;rcases e with rfl|rfl
  ·have:b=y:=by lia
   subst this;exact .inl ⟨rfl,d⟩
  have:b=x:=by lia
  subst this;exact .inr ⟨rfl,d⟩
theorem CH{d:ZH}{a b:Int}{n:Nat}(e:0<=a)(k:a<n)(m:0<=b)(o:b<(n:Int)-1)(f:d.Perm [a,b+if decide (a<=b)=true then 1 else 0])(i:d.Pairwise (· <= ·)):∃I J:Nat,d=[(I:Int),(J:Int)]/\I<J/\J<n:=by
 obtain⟨c,j,p,g,q⟩:∃c:Int,(b+if decide (a<=b)=true then 1 else 0)=c/\a≠c/\0<=c/\c<n:=by
  by_cases h:a<=b
  ·rw[Xx h,SL rfl];exact⟨b+1,rfl,by lia,by lia,by lia⟩
  rw[decide_eq_false h,Tk SU];exact⟨b+0,rfl,by lia,by lia,by lia⟩
 rw[j]at f;rcases CI f i with⟨rfl,l⟩|⟨rfl,l⟩
 ·exact⟨a.toNat,c.toNat,by rw[UW e,UW g],by lia,by lia⟩
 exact⟨c.toNat,a.toNat,by rw[UW e,UW g],by lia,by lia⟩
theorem CF{a:Type}{xs:List a}{i j:Nat}(h:i<=j)(d:j<=xs.length):i3 xs (some ((i:Nat):Int)) (some ((j:Nat):Int))=(xs.drop i).take (j-i):=by
 have b:HT.sIx xs.length 0 (some ((i:Nat):Int))=i:=by
  unfold HT.sIx
  first|lia|(simp only[];split<;>lia)|(split<;>lia)|(dsimp only;split<;>(try split)<;>lia)
 have c:HT.sIx xs.length xs.length (some ((j:Nat):Int))=j:=by
  unfold HT.sIx
  first|lia|(simp only[];split<;>lia)|(split<;>lia)|(dsimp only;split<;>(try split)<;>lia)
 unfold i3;rw[b,c]
theorem CE{a:ZJ}{i j:Nat}{p q:ab}(h:i<j)(b:j<a.length):f2 (tB a i j p q)=.lst ([aR p]++i3 (a.map aR) (some ((i:Int)+1)) (some ((j:Int)+1))++[aR q]):=by
 have e:=CF (xs:=a) (i:=i+1) (j:=j+1) (by lia) (by lia);rw[show((i:Int)+1)=((i+1:Nat):Int) by lia,show((j:Int)+1)=((j+1:Nat):Int) by lia,BA,e,show j+1-(i+1)=j-i by lia];show D.lst ((tB a i j p q).map aR)=_
 unfold tB;rw[SE,SE];rfl
theorem CV{a:ZJ}{i j:Nat}{p q:ab}(h:i<j)(d:j<a.length):f2 (tC a i j p q)=.lst ([aR q]++i3 (a.map aR) (some ((j:Int)+1)) none++i3 (a.map aR) none (some ((i:Int)+1))++[aR p]):=by
 have b:=QU (xs:=a) (i:=(j:Int)+1) (by lia) (by lia);have c:=QV (xs:=a) (i:=(i:Int)+1) (by lia) (by lia);rw[BA,BA,b,c,show((j:Int)+1).toNat=j+1 by lia,show((i:Int)+1).toNat=i+1 by lia];show D.lst ((tC a i j p q).map aR)=_
 unfold tC;rw[SE,SE,SE];rfl
theorem JV(a:ZY->Int):∀{rs:Z0}{n:Nat}{r:ZJ},rs[n]?=some r->f3 a (rs.eraseIdx n)+eL a r=f3 a rs
 |[],_,_,h=>by simp at h
 |q::rs,0,r,h=>by
  have e:q=r:=by simpa using h
  subst e;rw[List.eraseIdx_cons_zero,km];grind
 |q::rs,n+1,r,h=>by
  have:=JV a (rs:=rs) (n:=n) (r:=r) (by simpa using h);rw[WC,km,km];grind
theorem JW{a b:Type}(f:a->b):∀(l:List a)(n:Nat),(l.map f).eraseIdx n=(l.eraseIdx n).map f
 |[],_=>rfl
 |_::_,0=>rfl
 |x::l,n+1=>by
  show f x::(l.map f).eraseIdx n=f x::(l.eraseIdx n).map f
  rw[JW f l n]
section
variable{a:WP}{w:Xy}{A:Xz}{E:SC->Tl->Prop}{s:Tl}{c:ZT}{R:Nat->Int}{d:SortKind}
theorem yQ{l:TE}{Q:ZT->Tl->Prop}(e:s.heap.IsList l c.toArray)(f:c.length<=TI)(h:∀d:XE,s.heap.objs.size<=d.objs.size->(∀b o,s.heap.get? b=some o->d.get? b=some o)->Q c {s with heap:=d }):wpAny (UV a w) A (collect (.ref l)) Q E s:=by
 refine collect_list e (h _ ?_ λb o z=>?_) f
 ·rw[Heap.size_update,size_push'];exact Ux _
 exact(Heap.SameBut.update _ _ _).extBut b o (S5 (Heap.lt_size z)) (Heap.get?_push_of_some _ z)
end
section
variable{k:WP}{w:Xy}{A:Xz}{E:SC->Tl->Prop}{s:Tl}{d c:TE}{i j:Nat}{f:Array YA}{ok l:SC}
theorem JX{Q:Option SC->Tl->Prop}(hi:A.handled=none)(h:Ym s.heap c d i f.size j ok l)(ae:pd s.heap d f j)(y:∀e t,f[i]?=some e->Zk t c d (i+1) f.size j e.key e.val s.heap.objs.size->t.get? s.heap.objs.size=some {cls:=.type "tuple",data:=.seq #[e.key,e.val]}->(∀b o,b≠c->s.heap.get? b=some o->t.get? b=some o)->Q (some (.ref s.heap.objs.size)) {s with heap:=t })(done:∀t,f[i]?=none->Heap.ExtBut c s.heap t->Q none {s with heap:=t }):wpAny (UV k w) A (YR (.ref c)) Q E s:=by
 obtain⟨p,g,u,v,os⟩:=s;have ty:Shared.TypeIs ⟨p,g,u,v,os⟩ (.ref c) "dict_itemiterator":=⟨_,h,rfl⟩;obtain⟨o,O,au,P⟩:=ae;have own:Builtin.Dict_items.ownsTuple "dict_itemiterator"=true:=by decide
 have ag:¬((i:Int)<0):=by lia
 have none_:¬(Value.ref d==Value.none)=true:=SU;unfold YR;refine wp (Zi (YG (name:="__next__") ty F.slot_dict_itemiterator_next (XI F.slot_dict_itemiterator_next ty F.entry_dict_itemiterator_next ?_ (F.args_dict_itemiterator_next_1 _))));refine wp (SZ (wp (wp ?_)))
 first|refine wp (XN ty (SZ (wp (Yy h rfl ?_))))|refine wp (X3 ty (SZ (wp (Yy h rfl ?_))))
 simp only[own,if_true];show wpAny _ _ (if(Value.ref d==Value.none)=true then _ else _) _ _ ⟨p,g,u,v,os⟩
 rw[Tk none_];refine wp (SZ (wp (X1 O P ?_)));rw[Tk (by simp)];refine wp (SZ (wp (Yp O P ?_)));rw[Tk (by simp)];refine SZ ?_;simp only[ag,if_false,Wh];cases q:f[i]? with
 |some e=>
  dsimp only;refine wp ?_
  first|refine wp (XN ty (SZ (wp (XT ty ?_))))|refine wp (X3 ty (SZ (wp (XT ty ?_))))
  show wpAny _ _ (ZF (.ref c) 3 (Y4 ((i:Int)+1)) >>= _) _ _ ⟨p,g,u,v,os⟩
  refine wp (XV h (by simp) λr B (R:Heap.SameBut c p r)=>?_)
  replace B:Ym r c d (i+1) f.size j ok l:=by
   unfold Ym;rw[show((i+1:Nat):Int)=(i:Int)+1 by lia];simpa[Y4]using B
  have S:Shared.TypeIs ⟨r,g,u,v,os⟩ (.ref c) "dict_itemiterator":=⟨_,B,rfl⟩;refine wp (W1 (wp (XT S (wp (XT S ?_)))));show wpAny _ _ (Builtin.Dict_items.pairFromOwner (.ref c) 6 e.key e.val) _ _ ⟨r,g,u,v,os⟩
  unfold Builtin.Dict_items.pairFromOwner;refine wp (wpAny_newTuple ?_);have U:r.objs.size=p.objs.size:=R.1;have ai:c<p.objs.size:=Heap.lt_size h;let T:Obj:={cls:=.type "tuple",data:=.seq #[e.key,e.val]}
  have z:Ym (r.push T) c d (i+1) f.size j ok l:=Heap.get?_push_of_some _ B;have W:(r.push T).get? p.objs.size=some T:=by rw[<-U];exact Heap.get?_push_size _ rfl
  have X:∀b o,b≠c->p.get? b=some o->(r.push T).get? b=some o:=λb o n x=>Heap.get?_push_of_some _ (R.extBut b o n x);show wpAny _ _ (Builtin.Dict_items.ownedTupleIsFree (.ref c) >>= _) _ _ ⟨r.push T,g,u,v,os⟩
  rw[U];generalize r.push T=Y at z W X;refine wp ?_;unfold Builtin.Dict_items.ownedTupleIsFree;refine wp (Zc z rfl (x:=.none) rfl (SZ ?_));simp only[if_true];refine wp (Zc z rfl (x:=ok) rfl (wp (Zc z rfl (x:=l) rfl (wp (XV z (by simp) λH I (aj:Heap.SameBut c Y H)=>?_)))));replace I:Ym H c d (i+1) f.size j e.key l:=I;refine wp (XV I (by simp) λJ K (ao:Heap.SameBut c H J)=>?_);replace K:Ym J c d (i+1) f.size j e.key e.val:=K;refine wp (XV K (by simp) λL M (aq:Heap.SameBut c J L)=>?_);replace M:Zk L c d (i+1) f.size j e.key e.val p.objs.size:=M;refine wp (XV M (by simp) λC N (ar:Heap.SameBut c L C)=>?_);replace N:Zk C c d (i+1) f.size j e.key e.val p.objs.size:=N;have Z:∀b o,b≠c->Y.get? b=some o->C.get? b=some o:=λb o n x=>ar.extBut b o n (aq.extBut b o n (ao.extBut b o n (aj.extBut b o n x)));exact wp (YH (SZ (SZ ⟨_,rfl,SZ (y e C q N (Z _ _ (T9 ai) W) λb o n x=>Z b o n (X b o n x))⟩)))
 |none=>
  refine wp ?_
  first|refine wp (XN ty (SZ ?_))|refine wp (X3 ty (SZ ?_))
  show wpAny _ _ (ZF (.ref c) 2 .none >>= _) _ _ ⟨p,g,u,v,os⟩
  refine wp (Y7 h rfl (by simp) ?_);show wpAny _ _ (newExc (.type "StopIteration") [] >>= _) _ _ _
  unfold newExc newTuple;refine wp (wp (Xv (wp (m:=Yz _ _) (Zb (a:=Value.none) (by first|rfl|(unfold Yz;rfl)) (Xv ?_ (by size_fits)))) (by size_fits)));unfold raiseNew;refine wp (wpAny_handled ?_);rw[show A.in1.handled=none from hi];refine wp (SZ (wpAny_throw ?_));refine wp (X5 (T:="StopIteration") (b:=true) (by exact⟨_,Heap.get?_push_size _ rfl,rfl⟩) isSubtype_stop ?_);exact SZ (done _ q (((Heap.SameBut.update ..).extBut.push _).push _))
theorem yP{v:TE}{Q:SC->Tl->Prop}(a:s.heap.IsItemsView v d)(g:pd s.heap d f j)(h:Q (.ref s.heap.objs.size) {s with heap:=s.heap.push {cls:=.type "dict_itemiterator",data:=.fields #[.none,.bool false,.ref d,.int 0 0,.int f.size 0,.int j 0,.none,.none]} }):wpAny (UV k w) A (ZB (.ref v)) Q E s:=by
 have b:=a.typeIs;obtain⟨p,l,n,m⟩:=a;obtain⟨o,c,q,e⟩:=g;have own:Builtin.Dict_items.ownsTuple "dict_itemiterator"=true:=by decide
 refine YB b F.slot_dict_items_iter (XI F.slot_dict_items_iter b F.entry_dict_items_iter ?_ (F.args_dict_items_iter_1 _));unfold Yw.«dict_items.__iter__»;refine wp (SZ (wp ?_));unfold Builtin.Dict_items.dictOf;refine wp (Zc l m (x:=.ref d) rfl (SZ (wp ?_)));unfold Builtin.Dict_items.newIterator;refine wp (X1 c e (wp (Yp c e ?_)));simp only[own,if_true];refine Xv (SZ ⟨_,rfl,"dict_itemiterator",_,⟨_,Heap.get?_push_size _ rfl,rfl⟩,F.slot_dict_itemiterator_next.lookup,?_⟩) (by simp only[sizeOk,Builtin.Dict_items.ownedTupleFields,SX,Sz,SK,Ug,XO];lia);simpa[Y4,Builtin.Dict_items.ownedTupleFields]using h
theorem yO(d:TE)(a:(d==XJ)=false):
  MeetsIn k w (Yw.«dict.items» ⟨[.ref d],[]⟩) (λ_ R s=>(∃f j,pd s.heap d f j)/\R (.ok (.ret (.ref s.heap.objs.size))) {s with heap:=s.heap.push {cls:=.type "dict_items",data:=.fields #[.ref d]} }):=
 .of_wp λA R s ⟨⟨f,j,c⟩,h⟩=>by
  obtain⟨o,e,g,i⟩:=c;have ty:s.TypeIs (.ref d) "dict":=⟨o,e,g.1⟩;have no:¬(d==XJ)=true:=λz=>by rw[a]at z;cases z
  unfold Yw.«dict.items» Builtin.Dict.noArgs;refine wp (wp (Yh ty (show wpAny _ _ (pure d) _ _ s from SZ ?_)));show wpAny _ _ (Builtin.Dict.showsAll d >>= _) _ _ s
  unfold Builtin.Dict.showsAll;rw[Tk no];exact wp (SZ (wp (Xv (SZ ⟨_,rfl,h⟩))))
end
def J0(b:Bool)(a:TE)(g:Nat)(d:List ZY)(e:ZU)(f:ZL):hA where
 go:=λi H=>H a=some (hX b a g d e f)/\i<d.length
 lq:=λi H x h=>∃p c y,H p=none/\x=.ref p/\h=ed H p (.tup [.ref c,y])/\e[i]?=some c/\f[i]?=some y
 stop:=λi H=>H a=some (hX b a g d e f)/\d.length<=i
section
variable{P:WP}{w:Xy}{K:Su}{b:Bool}{a:TE}{d:Nat}{g:List ZY}{j:ZU}{f:ZL}{p:ZV}{k:Nat}{m:Pos}
theorem yN:entryFor table "dict_itemiterator.__iter__"=some Yw.«dict_keyiterator.__iter__»:=entryFor_alias (id':="dict_keyiterator.__iter__") (by kernel_rfl) rfl (by decide +kernel) (by kernel_rfl)
theorem yL(l:TE):pP P w K (.Tuple p k m) (J0 b a d g j f) [l] l (λi h=>∃x y,Ym h l a i g.length d x y) where
 mem:=by simp
 obj:=λi h st c t=>by
  have e:c=l:=by simpa using t
  subst e;obtain⟨x,y,st⟩:=st;exact⟨_,st,λv z=>by cases z⟩
 keep:=λi h az st kp=>by
  obtain⟨x,y,st⟩:=st;exact⟨x,y,kp l (by simp) _ st⟩
 item:=by
  intro X G J L t i A s M H E I N st O;subst G J L;obtain⟨Q,ag⟩:=O;obtain⟨aB,aC,st⟩:=st;obtain⟨aD,aH,R,S,ai,ao,B,aq,_⟩:=tg I.ep Q;obtain⟨bg,c,u,aI,aJ,ar⟩:=C4 (b:=b) ai ao ag
  obtain⟨y,aM,aN⟩:∃y,f[i]?=some y/\d_ y u:=by
   have lt:i<f.length:=by rw[aq.length];lia
   obtain⟨bj,au,aO⟩:=aq.get (S0 lt);rw[aJ]at au;cases au;exact⟨_,S0 lt,aO⟩
  have av:=N l (by simp);have aP:l<s.heap.objs.size:=Heap.lt_size st;have aQ:s.heap.objs.size≠l:=T9 aP;refine JX (I.ok.hd t) (by rw[B];exact st) R (λe aw q T aS kp=>⟨_,rfl,wpAny_letOwnedTupleGo_items T λaX ax a3=>?_⟩) (λaw q _=>?_)
  ·rw[<-UJ,S,ar]at q;cases q;rw[B]at ax
   have a4:c_ X A M (ed H s.heap.objs.size (.tup [.ref c,y])) {s with heap:=s.heap.push {cls:=.type "tuple",data:=.seq #[.ref c,u]} }:=
    I.laid (t':=s.toks) (λ_ _ q=>Heap.get?_push_of_some _ q) (SF _) ⟨e1,[.ref c,u],.cons rfl (.cons aN .nil),⟨_,Heap.get?_push_size _ rfl,rfl,_,rfl⟩⟩
   have a5:g0 X A (ed H s.heap.objs.size (.tup [.ref c,y])) l:=⟨by rw[bP (Ta aQ)];exact av.1,av.2⟩;obtain⟨C,U,a6,W,Y,Z⟩:=id a5
   have ba:c_ X A M (ed H s.heap.objs.size (.tup [.ref c,y])) {s with heap:=aX}:=a4.turned (t':=s.toks) (λr o n q=>by
    rw[a3.2 r n];by_cases z:r=s.heap.objs.size
    ·subst z;rw[Heap.get?_push_size _ rfl]at q;rw[<-q];exact aS
    refine kp r o n ?_;rw[<-q]
    exact(Heap.get?_push_ne s.heap r _ z).symm) C U W Y Z
   refine⟨.ref s.heap.objs.size,_,ba,rfl,⟨s.heap.objs.size,c,y,I.fresh,rfl,rfl,aI,aM⟩,⟨_,_,ax⟩,λr af=>?_⟩;have:r=l:=by simpa using af
   subst this;exact C
  rw[<-UJ,S,ar]at q;cases q
 done:=by
  intro X G J L t i A s M H E I N st O;subst G J L;obtain⟨Q,ag⟩:=O;obtain⟨aB,aC,st⟩:=st;obtain⟨aD,aH,R,S,ai,ao,B,_⟩:=tg I.ep Q;obtain⟨C,U,a6,W,Y,Z⟩:=N l (by simp);refine JX (I.ok.hd t) (by rw[B];exact st) R (λe aw q _ _ _=>?_) λaz _ bc=>⟨rfl,I.turned (t':=s.toks) (λbf o af e=>bc bf o af e) C U W Y Z⟩;rw[VG (by lia)]at q;cases q
 self:=λ_ _ _ _ _ st h=>by
  obtain⟨x,y,st⟩:=st;have ty:Shared.TypeIs _ (.ref l) "dict_itemiterator":=⟨_,st,rfl⟩;refine YB ty F.slot_dict_itemiterator_iter (XI F.slot_dict_itemiterator_iter ty yN ?_ (F.args_dict_itemiterator_iter_1 _));show wpAny _ _ (ret (.ref l)) _ _ _
  exact SZ ⟨_,rfl,"dict_itemiterator",_,ty,F.slot_dict_itemiterator_next.lookup,h⟩
def yK(e:bH):gP:=λh H R=>e h H λx c=>∃b a d g j f,x=.ref a/\m3 c b a d g j f/\R (J0 b a d g j f) c
theorem yJ{X:aT}{J t m:Pos}{l:Wp}{u:bH}(K:bQ X l u)(L:iq X l "items":=by rfl)(M:iS t m:=by rfl):iU X (.Tuple p k J) (.Call (.Attribute l "items" t) [] [] m) (yK u):=by
 intro w s y H R I h;refine wpAny_Call_method (T:="dict") (id:="dict.items") L rfl M Wf W' PySem.F.type_dict_items (cq (K w s y H _ I h) λv i ⟨x,A,n,N,b,a,d,g,j,f,e,B,q⟩=>?_);subst e;obtain rfl:v=Value.ref a:=N;obtain⟨C,O⟩:=B.typ n;refine⟨C,O,?_⟩;obtain⟨Y,E,G,Z,h1,aa,P,_,Q⟩:=tg n.ep B.h;show wpAny _ _ (callWith m (.builtin "dict.items") [.ref a] [] []) _ _ i
 refine method_meetsIn W' PySem.F.entry_dict_items rfl (WB ⟨rfl,C,PySem.F.args_dict_items_1 _,_,yO a Q,⟨E,d,G⟩,?_⟩)
 have S:pd (i.heap.push {cls:=.type "dict_items",data:=.fields #[.ref a]}) a E d:=by
  obtain⟨o,U,z⟩:=G;exact⟨o,Heap.get?_push_of_some _ U,z⟩
 have r:c_ X w y A {i with heap:=i.heap.push {cls:=.type "dict_items",data:=.fields #[.ref a]} }:=n.kept (t':=i.toks) λb o e=>Heap.get?_push_of_some _ e;refine yP (s:={i with heap:=i.heap.push {cls:=.type "dict_items",data:=.fields #[.ref a]} }) ⟨_,Heap.get?_push_size _ rfl,rfl,rfl⟩ S ?_;refine⟨_,[_],_,_,A,rfl,r.kept (t':=i.toks) λb o e=>Heap.get?_push_of_some _ e,yL _,⟨_,_,by rw[P];exact Heap.get?_push_size _ rfl⟩,λc W=>?_,q⟩;rw[SQ.mp W];exact r.hC (SF _) (r.ep.fresh (SF _))
end
section
variable{K:Su}{u:bd}{w:cJ}
def J2(K:Su)(B:ak)(J:hA)(a:ZK):Prop:=∀(H:ak),cj B H->∀i,(i<a.length->J.go i H)/\(a.length<=i->J.stop i H)/\∀x b,i<a.length->J.lq i H x b->∃q c d,H q=none/\x=.ref q/\b=ed H q (.tup c)/\a[i]?=some (.tup d)/\b_ K B c d
def J3(K:Su)(t:gP)(u:cJ):Prop:=∀(a:ZI)(k:ZK->Prop),u a k->∀(R:ak)(W:TE->Prop)(B H:ak)(b:St)(Q:hA->ak->Prop),aL K R W B H b a->
 (∀d J c e,k d->aL K R W c e b a->bx R B c->J2 K c J d->Q J e)->t b H Q
def J4(X:aT)(g e:Wp)(u:cJ):Prop:=∃t,iU X g e t/\J3 X.K t u
variable{X:aT}{F E g:Wp}{s:ZV}{f:XW}{r:List (Str×TE)}{m C:ZS}{n:ZO}{o:eU}{A:dJ}{j:Pos}
def pl(b:Bool):List ZY->ZK->ZK
 |k::a,d::c=>.tup [gI b k,d]::pl b a c
 |_,_=>[]
theorem J5{b:Bool}:∀{ks:List ZY}{ds:ZK},ds.length=ks.length->(pl b ks ds).length=ks.length
 |[],_,_=>by simp[pl]
 |_::_,[],h=>by simp at h
 |k::ks,d::ds,h=>by simp[pl,J5 (b:=b) (ks:=ks) (ds:=ds) (by simpa using h)]
theorem J6{b:Bool}:∀{ks:List ZY}{ds:ZK}{i:Nat}{k:ZY}{d:D},ks[i]?=some k->ds[i]?=some d->(pl b ks ds)[i]?=some (.tup [gI b k,d])
 |[],_,_,_,_,h,_=>by simp at h
 |_::_,[],_,_,_,_,h=>by simp at h
 |k::ks,d::ds,0,_,_,a,c=>by simp at a c;subst a c;rfl
 |k::ks,d::ds,i+1,_,_,a,c=>by
  have:=J6 (b:=b) (ks:=ks) (ds:=ds) (i:=i) (by simpa using a) (by simpa using c);simpa[pl]using this
def yI(u:bd):cJ:=λd k=>u d λx=>∃b a c,x=.dct b a c/\c.length=a.length/\k (pl b a c)
theorem yH{F r s:Pos}{G:ZV}{I:Nat}{l:Wp}{t:bd}(J:br X l t)(K:iq X l "items":=by rfl)(L:iS r s:=by rfl):J4 X (.Tuple G I F) (.Call (.Attribute l "items" r) [] [] s) (yI t):=by
 obtain⟨_,M,N⟩:=J;refine⟨_,yJ M K L,λO k h R W B H P Q e q=>?_⟩;refine N O _ h R W B H P _ e λd v S T U j Y Z=>?_;obtain⟨b,g,ay,rfl,ld,z⟩:=U;cases Z with
 | @dct a _ aa _ u ae _ m n ai w=>
  have az:u.length=g.length:=by have:=n.length;simpa using this
  have aE:=w.length;refine⟨b,a,aa,g,u,ae,rfl,⟨j.bh _ _ m,m4 j.bh ai n⟩,?_⟩;refine q _ _ S T z j Y λaG A i=>?_;rw[J5 ld];refine⟨λf=>⟨A _ _ m,f⟩,λf=>⟨A _ _ m,f⟩,λx aH f y=>?_⟩;obtain⟨p,c,y,aj,rfl,rfl,au,av⟩:=y;obtain⟨d,aw,ax⟩:=w.fK av;obtain⟨lB,C,o⟩:=n.fK (i:=i) (v:=.ref c) (by rw[SP,au];rfl);have E:g[i]?=some g[i]:=S0 f;rw[SP,E]at C;cases C;exact⟨p,_,_,aj,rfl,rfl,J6 E aw,.cons o (.cons ax .nil)⟩
end
theorem DN{h:L3.F2->D}{u:bd}{b:ZI}:∀{a:List L3.F2}{d e:aA}{k:ZK->Prop},(∀r∈a,∀k:D->Prop,k (h r)->u (.val (.int r.1)::.val (.int r.2)::b) k)->k (a.map h)->hs (mK 2 (hr (fp 0) (hr (fp 1) mJ))) i7 u (a.map L3.dR) (d::e::b) k
 |[],_,_,_,_,c=>c
 |r::a,d,e,k,f,c=>by
  refine⟨_,rfl,rfl,_,_,rfl,_,_,rfl,rfl,?_⟩;show(if true=true then u (.val (.int r.1)::.val (.int r.2)::b) λy=>hs (mK 2 (hr (fp 0) (hr (fp 1) mJ))) i7 u (a.map L3.dR) (.val (.int r.1)::.val (.int r.2)::b) λg=>k (y::g)else hs (mK 2 (hr (fp 0) (hr (fp 1) mJ))) i7 u (a.map L3.dR) (.val (.int r.1)::.val (.int r.2)::b) k)
  rw[SL rfl];exact f r Sw _ (DN (λq i=>f q (SA _ i)) c)
section
variable{c:WP}{w:Xy}{K:Type}[DecidableEq K]{b:HeapKind c w K}{A:Xz}{E:SC->Tl->Prop}{s:Tl}
theorem yG{d a:TE}{h:List (K×TE×SC)}{k:K}{v:SC}{Q:SC->Tl->Prop}(u:b.room A)(n:b.is s.heap k a)(F:s.heap.DictOfH b d h)(G:∀p,Zy h k=some p->Q p.2 {s with toks:=s.toks+b.draws k})(H:Zy h k=none->∀q,q.DictOfH b d (storedH h k a v)->Heap.SameBut d s.heap q->Q v {s with heap:=q,toks:=s.toks+b.draws k})(L:h.length<=TI):wpAny (UV c w) A (Y8 d (.ref a) v) Q E s:=by
 obtain⟨o,M,I,i,J,g,m,z,r⟩:=F;unfold Y8
 try with_reducible refine W1 ?_
 refine wp (b.pyHash u n ?_);refine wp (wpAny_dictFind_heap (s:={s with toks:=s.toks+b.draws k}) u n i g m z r ?_ ?_)
 ·intro l;have t:k∉h.map (·.1):=not_mem_keys_of_get l
  refine wp (Yb (wp (wpAny_updateDictKeys (hz:=by have e:=size_of_entries m;lia) (s:={s with toks:=s.toks+b.draws k}) i g (SZ (H (Ye l) _ ⟨_,_,I+1,Heap.get?_update_self _ i (Obj.isFreed_of_dict (Obj.data_mapDictKeys g _)),
   J.mapDictKeys _,Obj.data_mapDictKeys g _,?_,?_,?_⟩ (Heap.SameBut.update ..))))))
  ·rw[Zz (Ye l)];simp[m,Zm]
  ·rw[Zz (Ye l)];intro x f;rcases SO.mp f with f|f
   ·exact b.keeps (z x f) i g (Heap.SameBut.update ..)
   simp only[SQ]at f;subst f;exact b.keeps n i g (Heap.SameBut.update ..)
  rw[Zz (Ye l)];rw[SE,Wg];refine⟨r,by simp,?_⟩;intro x f y B;simp only[SI,TA,SQ]at B;subst B;exact λe=>t (e▸f)
 intro j p C;refine wp (X1 (s:={s with toks:=s.toks+b.draws k}) i g ?_);rw[entry_at m j,C];exact wp (Yb (SZ (G p (atKey_of_get r C))))
theorem yy(b:HeapKind c w K)(d a:TE)(h:(d==XJ)=false)(v:SC):
  MeetsIn c w (Yw.«dict.setdefault» ⟨[.ref d,.ref a,v],[]⟩) (λA R s=>b.room A.in1/\∃k e,b.is s.heap k a/\s.heap.DictOfH b d e/\e.length<=TI /\
   (∀p,Zy e k=some p->R (.ok (.ret p.2)) {s with toks:=s.toks+b.draws k}) /\
   (Zy e k=none->∀f,f.DictOfH b d (storedH e k a v)->Heap.SameBut d s.heap f->R (.ok (.ret v)) {s with heap:=f,toks:=s.toks+b.draws k})):=
 .of_wp λA R s ⟨i,k,e,j,g,l,m,n⟩=>by
  unfold Yw.«dict.setdefault»;refine wp ?_;unfold Builtin.Dict.keyAndDefault;refine wp (Yh g.typeIs ?_);show wpAny _ _ (pure (d,Value.ref a,some v)) _ _ s
  refine SZ ?_;show wpAny _ _ (if(d==XJ)=true then _ else(Y8 d (.ref a) v >>= _)) _ _ s
  rw[Tk (by rw[h];exact SU)];exact wp (yG i j g (λp o=>SZ ⟨p.2,rfl,m p o⟩) (λq f r t=>SZ ⟨v,rfl,n q f r t⟩) l)
end
def yo(b:Bool):V->ZL->ak->cr->Prop:=λx g H Q=>∃a c z h d f e k,x=.ref a/\g=[.ref c,z]/\m3 H b a h d f e/\m2 H b k c/\d.length<TI /\
 (∀v,bo d e k=some v->Q v H)/\(bo d e k=none->∀i,Q z (ed H a (hX b a i (d++[k]) (f++[c]) (e++[z]))))
section
variable{X:aT}{b:Bool}
theorem ym(K:X.A.units+4<XQ):t7 X "dict.setdefault" (yo b):=by
 intro ba s bb H x bf v us Q I L M h;obtain⟨a,c,z,bg,ks,as,l,k,rfl,rfl,u,N,bj,O,R⟩:=h;obtain rfl:v=Value.ref a:=L;obtain⟨S,f,rfl,T,y⟩:=M.two;obtain rfl:S=Value.ref c:=T;obtain⟨bq,i,B,C,us,j,E,U⟩:=u.raw I.ep;have bw:=j.length
 have le:(eC ks as us).length=ks.length:=by
  have:=TW S6 (yi (as:=as) (us:=us) i (by lia))
  rwa [Sv]at this
 have g:=s8 (as:=as) (us:=us) k i (by lia);refine Zs Xa E.typeIs PySem.F.entry_dict_setdefault (PySem.F.args_dict_setdefault_3 _ _ _) (yy (lB X.prog X.w b) a c C f) ⟨vb K,k,eC ks as us,N.is I.ep,E,by lia,λp W=>?_,λY bA m Z=>?_⟩
 ·rw[W]at g;have d:=ta (ks:=ks) k j;rw[<-g]at d;cases q:bo ks l k with
  |none=>rw[q]at d;exact d.elim
  |some n=>rw[q]at d;exact⟨n,H,I.tok _,d,O n q⟩
 rw[Y]at g;have d:=ta (ks:=ks) k j;rw[<-g]at d
 have G:bo ks l k=none:=by
  cases q:bo ks l k with
  |none=>rfl
  |some n=>rw[q]at d;exact d.elim
 have o:k∉ks:=(qs B).mp G;rw[IN k c f i (by lia),Tk o]at m;have J:eZ ks k=ks++[k]:=Tk o;have hi:g9 ks us k f=us++[f]:=Tk o;rw[J,hi]at m;obtain⟨r,hc,aq,t,au,av,aw,ax,ay⟩:=m;refine⟨z,_,?_,y,R G aq⟩;refine I.write (x:=a) (e:=a) (by rw[u.h];trivial) (.inl rfl) (λaz q aD z=>(Z.2 az aD).trans z) ⟨r,t⟩ ?_;have aE:(ks++[k]).Nodup:=by have:=IZ (k:=k) U;rwa [J]at this
 refine⟨⟨by rw[Sz,Tp];lia,by rw[Sz,Sz,i];rfl,by rw[Sz,Sz,B];rfl,C,_,Paired.snoc j y,r,hc,t,au,av,?_,aE⟩,⟨r,t⟩,?_⟩
 ·rw[aw,yh (P:=X.prog) (w:=X.w)]
 rintro bD bG ⟨aG,aJ,aK,aP,aQ,aS,aU,aV,a4,a5⟩ a';exact⟨aG,aJ,aK,aP,aQ,aS,aU,aV,a' _ a4,a5⟩
end
noncomputable def nc:List ZY->ZZ->ZY->D->ZZ
 |c::e,b::a,k,d=>if c=k then(b++[d])::a else b::nc e a k d
 |_,a,_,_=>a
def qG(b:List ZY)(a:ZZ)(k:ZY)(d:D):List ZK:=if k∈b then nc b a k d else a++[[d]]
theorem vD{i:Type}:∀{g:List ZY}{c:List i}{k:ZY}{x:i},bo g c k=some x->∃j:Nat,c[j]?=some x/\∀{l:Type}(b:List l),b.length=c.length->bo g b k=b[j]?
 |[],_,_,_,h=>by simp[bo]at h
 |_::_,[],_,_,h=>by simp[bo]at h
 |m::g,a::c,k,x,h=>by
  rw[bo]at h;by_cases e:m=k
  ·rw[SL e]at h;cases h;refine⟨0,rfl,λb f=>?_⟩;cases b with
   |nil=>simp at f
   |cons d b=>rw[bo,SL e];rfl
  rw[Tk e]at h;obtain⟨j,n,o⟩:=vD h;refine⟨j+1,by simpa using n,λb f=>?_⟩;cases b with
  |nil=>simp at f
  |cons d b=>rw[bo,Tk e,o b (by simpa using f)];rfl
theorem J'{m:Type}:∀{f:List ZY}{g:List m}{k:ZY}{x:m},bo f g k=some x->∃j:Nat,g[j]?=some x/\∀(b:ZZ)(c:ZK)(d:D),b.length=g.length->b[j]?=some c->bo f b k=some c/\nc f b k d=b.set j (c++[d])
 |[],_,_,_,h=>by simp[bo]at h
 |_::_,[],_,_,h=>by simp[bo]at h
 |n::f,a::g,k,x,h=>by
  rw[bo]at h;by_cases e:n=k
  ·rw[SL e]at h;cases h;refine⟨0,rfl,λb c d i l=>?_⟩;cases b with
   |nil=>simp at i
   |cons y b=>
    cases(show y=c by simpa using l);exact⟨by rw[bo,SL e],by rw[nc,SL e];rfl⟩
  rw[Tk e]at h;obtain⟨j,o,p⟩:=J' h;refine⟨j+1,by simpa using o,λb c d i l=>?_⟩;cases b with
  |nil=>simp at i
  |cons y b=>
   obtain⟨q,r⟩:=p b c d (by simpa using i) (by simpa using l);exact⟨by rw[bo,Tk e,q],by rw[nc,Tk e,r];rfl⟩
theorem Ka:∀(b:List ZY)(a:ZZ)(k:ZY)(d:D),(nc b a k d).length=a.length
 |[],_,_,_=>by simp[nc]
 |_::_,[],_,_=>by simp[nc]
 |c::b,y::a,k,d=>by
  rw[nc];split
  ·rfl
  rw[SK,Ka b a k d,SK]
theorem yl{b:List ZY}{a:ZZ}{k:ZY}{d:D}(h:a.length=b.length):(qG b a k d).length=(eZ b k).length:=by
 unfold eZ qG;split
 ·rw[Ka];exact h
 rw[Sz,Sz,h];rfl
section
variable{K:Su}{R:ak}{W:TE->Prop}{B l H r:ak}{g:St}{f:ZI}
theorem yk{i:Nat}{v:V}(h:g[i]?=some (some v)):g.set i (some v)=g:=by
 apply Uo;intro j;by_cases z:i=j
 ·subst z
  have lt:i<g.length:=by
   by_cases z:i<g.length
   ·exact z
   rw[Te (by lia)]at h;cases h
  rw[TH lt,h]
 rw[Tz z]
theorem yj{i:Nat}{k:aA}(h:f[i]?=some k):f.set i k=f:=by
 apply Uo;intro j;by_cases z:i=j
 ·subst z
  have lt:i<f.length:=by
   by_cases z:i<f.length
   ·exact z
   rw[Te (by lia)]at h;cases h
  rw[TH lt,h]
 rw[Tz z]
theorem aL.kj(e:aL K R W B H g f){i:Nat}{c c':e4}{x:TE}{o:eo}(s:f[i]?=some (.deep c))(G:x∈c.adr::c.ins)(I:c'.adr=c.adr)(sub:∀y∈c'.ins,y∈c.ins)(M:(c'.adr::c'.ins).Nodup)(ok:pY K (uc R B c') (ed H x o) c'):aL K R W B (ed H x o) g (f.set i (.deep c')):=by
 obtain⟨N,J⟩:=e.eJ s;have t:=J.fr x G;have O:¬W x:=λz=>e.wr x z t.1;have P:cg g f i x:=.inr ⟨c,s,G⟩
 have L:∀y∈c'.adr::c'.ins,y∈c.adr::c.ins:=λy l=>by
  rcases SG.mp l with z|z
  ·rw[z,I];exact Sw
  exact SA _ (sub y z)
 refine⟨⟨λb u q z=>?_,λb u q=>?_,e.wb,λb z=>?_,e.wr⟩,by rw[TX];exact e.len,λj k q=>?_,λa b y l Q=>?_⟩
 ·rw[bP (by rintro rfl;rw[t.1]at q;cases q)];exact e.fr b u q z
 ·rw[bP (by rintro rfl;rw[t.2]at q;cases q)];exact e.bh b u q
 ·exact(e.wh b z).upd (by rintro rfl;exact O z)
 ·rcases iY q with⟨rfl,rfl⟩|⟨n,q⟩
  ·exact⟨by rw[I,N];rfl,λy l=>J.fr y (L y l),M,ok⟩
  have z:=e.ok j k q;have w:∀y,cg g f j y->y≠x:=λy m=>by rintro rfl;exact n (e.sep j i y m P)
  cases k with
  |no=>trivial
  |new d=>exact z
  |pin v d=>exact z
  |val d=>exact z
  |own A=>
   obtain⟨b,p,C,E,F⟩:=z;exact⟨b,p,C,E,F.mono (cj.refl _) (bP (w b (.inl ⟨gu p,.inr ⟨A,q⟩⟩)))⟩
  |deep d=>exact⟨z.1,z.2.fr,z.2.nd,z.2.ok.mono (cj.refl _) λb S=>bP (w b (.inr ⟨d,q,S⟩))⟩
  |bag=>
   obtain⟨b,p,C,E,F⟩:=z;exact⟨b,p,C,E,F.upd (w b (.inl ⟨gu p,.inl q⟩))⟩
 have back:∀a,cg g (f.set i (.deep c')) a y->cg g f a y:=λa m=>by
  rcases m with⟨r,h⟩|⟨d,r,h⟩
  ·refine .inl ⟨r,?_⟩;rcases h with h|⟨A,h⟩
   ·rcases iY h with⟨_,z⟩|⟨_,h⟩
    ·cases z
    exact .inl h
   rcases iY h with⟨_,z⟩|⟨_,h⟩
   ·cases z
   exact .inr ⟨A,h⟩
  rcases iY r with⟨rfl,z⟩|⟨_,r⟩
  ·cases z;exact .inr ⟨c,s,L y h⟩
  exact .inr ⟨d,r,h⟩
 exact e.sep a b y (back a l) (back b Q)
theorem aL.mG(e:aL K R W B H g f){i:Nat}{c c':e4}{p:TE}{vs:ZL}{o:eo}(x:f[i]?=some (.deep c))(ag:H p=some (.lst vs))(P:R p=none)(Q:B p=none)(J:∀j,¬cg g f j p)(L:c'.adr=c.adr)(sub:∀y∈c'.ins,y∈c.ins\/y=p)(S:(c'.adr::c'.ins).Nodup)(ok:pY K (uc R B c') (ed H c.adr o) c'):aL K R W B (ed H c.adr o) g (f.set i (.deep c')):=by
 obtain⟨T,M⟩:=e.eJ x;have A:=M.fr c.adr Sw;have U:¬W c.adr:=λz=>e.wr _ z A.1;have X:cg g f i c.adr:=.inr ⟨c,x,Sw⟩
 have N:∀y∈c'.adr::c'.ins,y∈c.adr::c.ins\/y=p:=λy r=>by
  rcases SG.mp r with z|z
  ·rw[z,L];exact .inl Sw
  exact(sub y z).imp (SA _) id
 refine⟨⟨λb u q z=>?_,λb u q=>?_,e.wb,λb z=>?_,e.wr⟩,by rw[TX];exact e.len,λj k q=>?_,λa b y r O=>?_⟩
 ·rw[bP (by rintro rfl;rw[A.1]at q;cases q)];exact e.fr b u q z
 ·rw[bP (by rintro rfl;rw[A.2]at q;cases q)];exact e.bh b u q
 ·exact(e.wh b z).upd (by rintro rfl;exact U z)
 ·rcases iY q with⟨rfl,rfl⟩|⟨n,q⟩
  ·exact⟨by rw[L,T];rfl,λy r=>by
    rcases N y r with z|rfl
    ·exact M.fr y z
    exact⟨P,Q⟩,S,ok⟩
  have z:=e.ok j k q;have C:∀y,cg g f j y->y≠c.adr:=λy m=>by rintro rfl;exact n (e.sep j i _ m X)
  cases k with
  |no=>trivial
  |new d=>exact z
  |pin v d=>exact z
  |val d=>exact z
  |own E=>
   obtain⟨b,s,F,G,I⟩:=z;exact⟨b,s,F,G,I.mono (cj.refl _) (bP (C b (.inl ⟨gu s,.inr ⟨E,q⟩⟩)))⟩
  |deep d=>exact⟨z.1,z.2.fr,z.2.nd,z.2.ok.mono (cj.refl _) λb Y=>bP (C b (.inr ⟨d,q,Y⟩))⟩
  |bag=>
   obtain⟨b,s,F,G,I⟩:=z;exact⟨b,s,F,G,I.upd (C b (.inl ⟨gu s,.inl q⟩))⟩
 have back:∀a,cg g (f.set i (.deep c')) a y->cg g f a y\/(a=i/\y=p):=λa m=>by
  rcases m with⟨t,h⟩|⟨d,t,h⟩
  ·refine .inl (.inl ⟨t,?_⟩);rcases h with h|⟨E,h⟩
   ·rcases iY h with⟨_,z⟩|⟨_,h⟩
    ·cases z
    exact .inl h
   rcases iY h with⟨_,z⟩|⟨_,h⟩
   ·cases z
   exact .inr ⟨E,h⟩
  rcases iY t with⟨rfl,z⟩|⟨_,t⟩
  ·cases z;rcases N y h with z|z
   ·exact .inl (.inr ⟨c,x,z⟩)
   exact .inr ⟨rfl,z⟩
  exact .inl (.inr ⟨d,t,h⟩)
 rcases back a r with w|⟨w,Z⟩
 ·rcases back b O with l|⟨l,hi⟩
  ·exact e.sep a b y w l
  subst hi;exact absurd w (J a)
 rcases back b O with l|⟨l,_⟩
 ·subst Z;exact absurd l (J b)
 rw[w,l]
end
def yg(r:V->ZL->ak->cr->Prop)(d:bH)(t:e3):bH:=λb H Q=>d b H λx c=>(∃a,x=.ref a/\IV c a)/\t b c λe f=>r x e f Q
theorem Kb{X:aT}{o e:Wp}{b:ZV}{i:bH}{t:e3}{name:Str}{j c:Pos}{id:String}{r:V->ZL->ak->cr->Prop}(d:Slot "dict" name id)(m:typeOf (.builtin id)=pure (.type "method_descriptor"))(n:t7 X id r)(p:bQ X o i)(q:hg X (e::b) t)(u:iq X o name:=by rfl)(w:lQ X c (e::b):=by rfl)(y:iS j c:=by rfl)(z:eN X e b:=by rfl)(A:hy X c b:=by rfl):
  bQ X (.Call (.Attribute o name j) (e::b) [] c) (yg r i t):=by
 intro f s g H Q I h;refine YK u w y rfl (cq (p f s g H _ I h) λv B ⟨x,C,k,E,⟨a,F,Y,Z,G,J,hi,K⟩,L⟩=>?_);subst F;obtain rfl:v=Value.ref a:=E;obtain⟨M,N⟩:=K.typ k;refine⟨"dict",id,Wf,d,m,M,N,?_⟩;have l:=q c f B g C _ k L;rw[z]at l⊢;refine Calls.callWith_builtin (by show(false||(X9 c (UF b X.env)).any (·.1))=false;rw[A]<;>rfl) (Calls.evalArgs_plain ?_);exact cq l λO P ⟨R,S,T,U,W⟩=>n f P g S (.ref a) R (.ref a) O Q T rfl U W
def ye(b:Bool)(i:Nat):cB:=λU c=>∀a,U.nx (c.set i (.deep (.dl b a [] [] [])))
def x_(b:Bool)(n:Nat)(j k:bd):cB:=λU h=>∃a e l c,h[n]?=some (.deep (.dl b a e l c))/\j h λy=>∃f,y=gI b f/\rJ b f/\e.length<TI/\c.length=e.length/\(∀i,bo e c f=some i->i.length<TI) /\
 ∀g dss1,k (h.set n (.deep (.dl b a (eZ e f) g dss1))) λd=>U.nx (h.set n (.deep (.dl b a (eZ e f) g (qG e c f d))))
section
variable{X:aT}{b:Bool}{n:Nat}{x:Str}{G l L I u J C O r:Pos}{e f:Wp}{M E:bd}
theorem x7{i:Nat}(f:X.N.Nodup)(g:X.N[i]?=some x)(k:ho X.env.scope x)(n:XA (.Dict [] [] O) (some (.Name x L)) l.line X.env=pure false:=by rfl)(o:ip X x:=by walk_at"f"):
  eV X (.Assign [.Name x L] (.Dict [] [] O) l) (ye b i):=by
 refine⟨_,qW f g k (I1 (b:=b)) n o,λU t h R W B H u D e s=>?_⟩;intro p c;obtain⟨q,v,r⟩:=e.toWd.fresh c;refine s.nx _ _ B _ (h p) ((e.e8 c _).set i ⟨rfl,λa d=>?_,by simp[e4.adr,e4.ins],0,[],dL,.nil,λ_ _ z=>by simp at z,rfl,λj a w z=>by simp at z⟩ (λa _ z=>by rcases z with z|⟨_,z⟩<;>cases z) λa d j _ m=>?_) (bx.refl _ _)
 ·have:a=p:=by simpa[e4.adr,e4.ins]using d
  subst this;exact⟨q,r⟩
 have:a=p:=by simpa[aA.k_,e4.adr,e4.ins]using d
 subst this;exact e.ff c m rfl
theorem Kc{b:Type}:∀{a:List ZY}{c:List b}{k:ZY}{x:b},bo a c k=some x->k∈a
 |[],_,_,_,h=>by simp[bo]at h
 |_::_,[],_,_,h=>by simp[bo]at h
 |f::a,d::c,k,x,h=>by
  rw[bo]at h;by_cases e:f=k
  ·rw[e];exact Sw
  rw[Tk e]at h;exact SA _ (Kc h)
theorem Kd{K:Su}{t:bH}{U:hD}{D:nF}{e k:ZI}{R:ak}{W:TE->Prop}{B C H:ak}{l:St}{a x:TE}{ks1 X:List ZY}{Y as1:ZU}{m dss1:List (List L3.D)}{j:Nat}{ds:List L3.D}{F:L3.D->List (List L3.D)}(Z:fy K t E)(G:aL K R W B H l k)(I:e[n]?=some (.deep (.dl b a X Y m)))(p:e.set n (.deep (.dl b a ks1 as1 dss1))=k)(f:as1[j]?=some x)(q:dss1[j]?=some ds)(h1:ds.length<TI)(g:bx R C B)(aa:sI K R W C U D)(J:E (e.set n (.deep (.dl b a ks1 as1 dss1))) λd=>U.nx (e.set n (.deep (.dl b a ks1 as1 (F d)))))(L:∀d,F d=dss1.set j (ds++[d])):
  wK K "list" (.ref x) H/\wE t wD l H λhi ae=>F3 (.ref x) hi ae λ_ af=>D.nx l af:=by
 have ai:n<e.length:=by
  by_cases z:n<e.length
  ·exact z
  rw[Te (by lia)]at I;cases I
 have r:k[n]?=some (.deep (.dl b a ks1 as1 dss1)):=by rw[<-p,TH ai]
 obtain⟨_,hc⟩:=G.eJ r;obtain⟨_,_,_,_,_,aj⟩:=hc.ok;obtain⟨ao,aq,_⟩:=aj.at_ j x ds f q;refine⟨.inl ⟨rfl,ao,cE.of aq⟩,?_⟩;rw[p]at J;refine Z k _ J R W B H l _ G λd v au av aw M az aB=>?_;obtain⟨aU,N⟩:=M.eJ r;obtain⟨O,P,aC,aD,aE,s⟩:=N.ok;have aG:av a=some (hX b a O ks1 P (as1.map V.ref)):=aC;obtain⟨Q,aI,S⟩:=s.at_ j x ds f q;have u:(a::as1).Nodup:=N.nd;have cI:x∈as1:=S' f;have w:a≠x:=λz=>(Tu.mp u).1 (by rw[z];exact cI);refine⟨x,Q,v,rfl,rfl,aI,by rw[S.length];exact h1,?_⟩;have T:=M.kj (c':=.dl b a ks1 as1 (F d)) (x:=x) (o:=.lst (Q++[v])) r (SA _ cI) rfl (λy c=>c) u ⟨O,P,by rw[bP w];exact aG,aD,aE,by rw[L,TX];exact s.len,λi y aJ c h=>?_⟩
 ·rw[<-p,TZ]at T;exact aa.nx _ _ au _ aw T (g.trans az)
 rw[L]at h;by_cases z:j=i
 ·subst z;rw[f]at c;cases c;rw[TH (by have:=TM.mp q;exact this.1)]at h;cases h;exact⟨_,dL,S.append (.cons aB .nil)⟩
 rw[Tz z]at h;obtain⟨aN,aO,A⟩:=s.at_ i y aJ c h;refine⟨aN,?_,A⟩;rw[bP ?_]
 ·exact aO
 rintro rfl;have aQ:i<as1.length:=(TM.mp c).1;exact z ((WL aQ (Tu.mp u).2).mp (c.trans f.symm)).symm
theorem xV(n:Nat)(b0:X.A.units+4<XQ)(b5:br X e M)(b6:br X f E)(b8:gV X n x:=by rfl)(Q:gh X.env.scope x:=by walk_at"v")(b9:ec x:=by decide)(b':gO x:=by decide)(cc:iq X (.Name x G) "setdefault":=by rfl)(cn:lQ X u [e,.List [] r]:=by rfl)(cp:iS I u:=by rfl)(ba:UF [e,.List [] r] X.env=(false,Yk e X.env)::UF [.List [] r] X.env:=by rfl)(cw:UF [.List [] r] X.env=(false,Yk (.List [] r) X.env)::UF [] X.env:=by rfl)(cD:(X9 u (UF [.List [] r] X.env)).any (·.1)=false:=by rfl)(cF:iq X (.Call (.Attribute (.Name x G) "setdefault" I) [e,.List [] r] [] u) "append":=by rfl)(cK:lQ X C [f]:=by rfl)(cL:iS J C:=by rfl)(bb:eN X f []:=by rfl)(cO:hy X C []:=by rfl)(cP:XA (.Call (.Attribute (.Call (.Attribute (.Name x G) "setdefault" I) [e,.List [] r] [] u) "append" J) [f] [] C) none l.line X.env=pure false:=by rfl):
  eV X (.Expr (.Call (.Attribute (.Call (.Attribute (.Name x G) "setdefault" I) [e,.List [] r] [] u) "append" J) [f] [] C) l) (x_ b n M E):=by
 obtain⟨_,cQ,cR⟩:=b5;obtain⟨_,cS,bf⟩:=b6
 refine⟨_,pN (sC T3 VX VY wM
  (Kb Xa PySem.F.type_dict_setdefault (ym (b:=b) b0) (gZ b8 Q b9 b') (d8 cQ (d8 (t4 fa) fa cw) ba) cc cn cp ba cD)
  (d8 cS fa bb) cF cK cL bb cO) cP,λU aj h R W B H au D av bg=>?_⟩
 obtain⟨a,k,s,g,N,h⟩:=h;obtain⟨cT,bj⟩:=av.eJ N;obtain⟨cX,cY,c7,c8,c9,dU⟩:=bj.ok;refine⟨_,cT,⟨a,rfl,b,cX,k,cY,_,c7,m4 av.bh c9 c8⟩,?_⟩;refine cR aj _ h R W B H au _ av λy v da bq dc S bA aw=>?_;obtain⟨t,rfl,bG,dd,de,tb,bK⟩:=dc;obtain⟨c,rfl⟩:=th aw;refine⟨Td _,λp T=>?_⟩;obtain⟨di,dV,dk⟩:=S.toWd.fresh T;have Y:=S.e8 T (.lst []);have dn:∀j,¬cg au aj j p:=λj m=>S.ff T m rfl;obtain⟨_,bM⟩:=Y.eJ N;obtain⟨bR,Z,dq,bS,bT,bU⟩:=bM.ok;have dx:(ed bq p (.lst [])) a=some (hX b a bR k Z (s.map V.ref)):=dq;have ae:s.length=g.length:=bU.len;have dz:(a::s).Nodup:=bM.nd;have dA:bo k g t=none\/∃ds,bo k g t=some ds:=by cases bo k g t with|none=>exact .inl rfl|some ds=>exact .inr ⟨ds,rfl⟩
 refine⟨a,c,.ref p,bR,k,Z,s.map V.ref,t,rfl,rfl,⟨dx,m4 Y.bh bT bS⟩,rI Y.bh bG aw,dd,λv Q=>?_,λdD az=>?_⟩
 ·
  obtain⟨j,O,aG⟩:=J' Q
  have dG:j<g.length:=by
   have:=TM.mp O;obtain⟨z,_⟩:=this;rw[Sv]at z;lia
  have ag:=S0 dG
  obtain⟨hi,aH,rfl⟩:∃hi,s[j]?=some hi/\v=.ref hi:=by
   rw[SP]at O;cases q:s[j]? with
   |none=>rw[q]at O;cases O
   |some hi=>rw[q]at O;exact⟨hi,rfl,(SN O).symm⟩
  have m:t∈k:=by
   by_cases z:t∈k
   ·exact z
   have hc:(s.map V.ref).length=k.length:=by
    have:=(aG g g[j] .non (by rw[Sv];lia) ag).1;obtain⟨_,dI,_⟩:=vD this
    exact absurd dI (by
     have:=Kc Q
     exact absurd this z)
   exact absurd ((qs hc).mpr z) (by rw[Q];simp)
  have aS:eZ k t=k:=SL m;refine Kd (ds:=g[j]) bf Y N (by rw[aS];exact yj N) aH ag (tb _ (aG g g[j] .non (by rw[Sv];lia) ag).1) bA bg (bK s g) λd=>?_;rw[<-(aG g g[j] d (by rw[Sv];lia) ag).2];unfold qG;rw[SL m]
 have hc:(s.map V.ref).length=k.length:=by
  rw[Sv];lia
 have m:t∉k:=(qs hc).mp dD;have aS:eZ k t=k++[t]:=Tk m;rw[Sv]at hc
 have dM:a≠p:=λz=>by
  have:=bj.ok;obtain⟨_,aV⟩:=S.eJ N;exact aV.ok.ne (a:=a) Sw (by rw[z];exact T)
 have pin:p∉s:=λz=>by
  obtain⟨_,aV⟩:=S.eJ N;exact aV.ok.ne (a:=p) (SA _ z) T
 have bV:(a::(s++[p])).Nodup:=by
  rw[<-Tr,Wg];refine⟨dz,by simp,λx dP y L=>?_⟩;rw[SQ.mp L];rcases SG.mp dP with z|z
  ·rw[z];exact dM
  rintro rfl;exact pin z
 have aX:=Y.mG (c':=.dl b a (k++[t]) (s++[p]) (g++[[]])) (p:=p) (vs:=[]) (o:=hX b a az (k++[t]) (Z++[c]) (s.map V.ref++[.ref p])) N dL di dk dn rfl (λy L=>by
   rcases SO.mp L with z|z
   ·exact .inl z
   exact .inr (SQ.mp z)) bV ⟨az,Z++[c],by
   show ed _ a _ a=_
   rw[dL,SE];rfl,?_,?_,by rw[Sz,Sz,ae];rfl,λi y dQ L P=>?_⟩
 ·have aX:aL X.K R W da (ed (ed bq p (.lst [])) a (hX b a az (k++[t]) (Z++[c]) (s.map V.ref++[.ref p]))) au (aj.set n (.deep (.dl b a (eZ k t) (s++[p]) (g++[[]])))):=by rw[aS];exact aX
  refine Kd (F:=λd=>qG k g t d) (ds:=[]) (j:=s.length) (x:=p) (as1:=s++[p]) (dss1:=g++[[]]) (ks1:=eZ k t) bf aX N rfl (by rw[Tq (SF _)];simp) (by rw[ae,Tq (SF _)];simp) (by decide) bA bg (bK _ _) λd=>?_;unfold qG;rw[Tk m,ae,List.set_append_right _ _ (SF _)];simp
 ·rw[SE,SE];exact bS.append (.cons aw .nil)
 ·intro z dS a4;rcases SO.mp a4 with w|w
  ·exact bT z dS w
  rw[SQ.mp w];exact bG z
 have a5:y≠a:=by
  rintro rfl;have:y∈s++[p]:=S' L;exact(Tu.mp bV).1 this
 show ∃vs,ed _ a _ y=_/\_
 rw[bP a5];by_cases z:i<s.length
 ·rw[TJ z]at L;rw[TJ (by lia)]at P;exact bU.at_ i y dQ L P
 rw[Tq (by lia)]at L P
 have bY:i-s.length=0:=by
  by_cases q:i-s.length=0
  ·exact q
  rw[Te (by simp;lia)]at L;cases L
 rw[bY]at L;rw[<-ae,bY]at P;simp at L P;subst L P;exact⟨[],dL,.nil⟩
end
section
variable{K:Su}{R:ak}{W:TE->Prop}{B g H p:ak}{l:St}{k:ZI}
theorem aL.mz:∀{c:ZU}{b:ZZ}{B:ak},aL K R W B H l k->c.Nodup->mC K B H c b->(∀a∈c,R a=none/\B a=none/\∀i,¬cg l k i a)->∃g,aL K R W g H l k/\bx R B g/\b_ K g (c.map V.ref) (b.map D.lst)/\∀a,a∉c->g a=B a
 |[],[],B,e,_,_,_=>⟨B,e,bx.refl _ _,.nil,λ_ _=>rfl⟩
 |[],_::_,_,_,_,h,_=>by have:=h.len;simp at this
 |_::_,[],_,_,_,h,_=>by have:=h.len;simp at this
 |a::c,n::b,B,e,o,h,m=>by
  obtain⟨p,q,r⟩:=h.at_ 0 a n rfl rfl;obtain⟨t,u,v⟩:=m a Sw;obtain⟨w,f⟩:=e.freeze q t u v;obtain⟨y,A⟩:=Tu.mp o
  have C:mC K (ed B a (.lst p)) H c b:=⟨by have:=h.len;simpa using this,λi x E d F=>by
   obtain⟨G,I,J⟩:=h.at_ (i+1) x E (by simpa using d) (by simpa using F)
   exact⟨G,I,J.mono f.s⟩⟩
  obtain⟨L,M,j,N,O⟩:=aL.mz w A C λx d=>by
   obtain⟨P,Q,S⟩:=m x (SA _ d);exact⟨P,by rw[bP (by rintro rfl;exact y d)];exact Q,S⟩
  refine⟨L,M,f.trans j,.cons (.lst (j.s _ _ dL) (r.mono (f.trans j).s)) N,λx d=>?_⟩;rw[O x λz=>d (SA _ z),bP (by rintro rfl;exact d Sw)]
theorem aL.nC(e:aL K R W B H l k){i:Nat}{c:e4}(A:k[i]?=some (.deep c)):∃g,bx R B g/\aL K R W g H l (k.set i (.val (match c with|.ll _ _ p=>.lst (p.map D.lst)|.dl b _ G _ p=>.dct b G (p.map D.lst)|.nl _ C=>.lst C))):=by
 obtain⟨L,q⟩:=e.eJ A;have f:=e.fV (d:=.non) i (v:=.non) .non
 have I:∀x∈c.adr::c.ins,∀j,¬cg (l.set i (some V.non)) (k.set i (.val .non)) j x:=λx u j m=>by
  obtain⟨n,m⟩:=sH m (by simp) (by simp) rfl;exact n (e.sep j i x m (.inr ⟨c,A,u⟩))
 have hi:i<k.length:=by
  by_cases z:i<k.length
  ·exact z
  rw[Te (by lia)]at A;cases A
 have E:∀(o:eo)(p:ZZ)(d:D),H c.adr=some o->mC K B H c.ins p->(∀t,cj B t->t c.adr=some o->b_ K t (c.ins.map V.ref) (p.map D.lst)->bE K t (.ref c.adr) d)->∃g,bx R B g/\aL K R W g H l (k.set i (.val d)):=λo p d w y F=>by
  obtain⟨M,N⟩:=Tu.mp q.nd;obtain⟨t,O,J,P,Q⟩:=f.mz N y λx u=>⟨(q.fr x (SA _ u)).1,(q.fr x (SA _ u)).2,I x (SA _ u)⟩;obtain⟨S,T⟩:=q.fr c.adr Sw;obtain⟨U,g3⟩:=O.g8 w S (by rw[Q _ M];exact T) (I _ Sw);refine⟨_,J.trans g3,?_⟩;have X:=U.fV i (F _ (J.trans g3).s dL (P.mono g3.s));rwa[TZ,TZ,yk L]at X
 cases c with
 |ll a Y p=>exact E _ p _ q.ok.1 q.ok.2 λt s h r=>.lst h r
 |dl b a G Y p=>
  obtain⟨ae,af,w,y,F,Z⟩:=q.ok;exact E _ p _ w Z λt s h r=>.dct h (y.mono s) F r
 |nl a C=>
  obtain⟨ag,w,y⟩:=q.ok;exact E _ [] _ w ⟨rfl,λi a C z=>by simp[e4.ins]at z⟩ λt s h r=>.lst h ((y.mono iX).mono s)
end
def zh(i:Nat)(s:cB):cB:=λU d=>∃b a e f c,d[i]?=some (.deep (.dl b a e f c))/\s U (d.set i (.val (.dct b e (c.map D.lst))))
section
variable{X:aT}{d:Wp}{w:cJ}{c:Pos}
theorem zc{st:ZW}{s:cB}(i:Nat)(h:hE X st s):hE X st (zh i s):=by
 obtain⟨_,c,d⟩:=h;refine⟨_,c,λU o h R W B H f D e j=>?_⟩;obtain⟨b,a,p,q,k,l,z⟩:=h;obtain⟨m,g,n⟩:=e.nC l;exact d U _ z R W m H f D n (j.grow g)
end
theorem yM{n N:Int}{m:Nat}(c:0<n)(a:0<N)(h:n∣N)(b:SB N<=m):SB n<=m:=by
 have:=U7 a h;rw[intBits_le_iff]at b⊢;lia
theorem Kh{d:Type}{f g h:d->D}{u:bd}{b:ZI}:∀{a:List d}{e i:aA}{k:ZK->Prop},(∀r∈a,∀k:D->Prop,k (h r)->u (.val (f r)::.val (g r)::b) k)->k (a.map h)->hs (mK 2 (hr (fp 0) (hr (fp 1) mJ))) i7 u (a.map λr=>.tup [f r,g r]) (e::i::b) k
 |[],_,_,_,_,c=>c
 |r::a,e,i,k,j,c=>by
  refine⟨_,rfl,rfl,_,_,rfl,_,_,rfl,rfl,?_⟩;show(if true=true then u (.val (f r)::.val (g r)::b) λy=>hs (mK 2 (hr (fp 0) (hr (fp 1) mJ))) i7 u (a.map λr=>.tup [f r,g r]) (.val (f r)::.val (g r)::b) λl=>k (y::l)else hs (mK 2 (hr (fp 0) (hr (fp 1) mJ))) i7 u (a.map λr=>.tup [f r,g r]) (.val (f r)::.val (g r)::b) k)
  rw[SL rfl];exact j r Sw _ (Kh (λq m=>j q (SA _ m)) c)
section
variable{X:aT}{e:Wp}{f:ZV}{w:cJ}{u c d:bd}{p a:Pos}{n:Nat}{b F2:cb}
theorem b_.dropLast{K:Su}{B:ak}:∀{a:ZL}{b:ZK},b_ K B a b->b_ K B a.dropLast b.dropLast
 |_,_,.nil=>.nil
 |_,_,.cons r .nil=>.nil
 |_,_,.cons r (.cons c t)=>.cons r (b_.dropLast (.cons c t))
end
theorem zb{l a b c:ab}(g:l.1≠0\/l.2.1≠0)(d:ln l a=0)(e:ln l b=0)(f:ln l c=0)(k:0<c.2.2):bm a b c=0:=by
 have i:l.1*bm a b c=0:=by
  unfold ln at d e f;unfold bm a_;grind
 have j:l.2.1*bm a b c=0:=by
  unfold ln at d e f;unfold bm a_;grind
 rcases g with h|h
 ·exact(Tb.mp i).resolve_left h
 exact(Tb.mp j).resolve_left h
theorem za{l:ab}{d:ZJ}(g:l.1≠0\/l.2.1≠0)(t:T0 d)(i:∀p∈d,0<p.2.2):(d.filter λx=>decide (ln l x=0)).length<=2:=by
 have f:=t.sub (List.filter_sublist (p:=λx=>decide (ln l x=0)))
 have z:∀x∈d.filter λx=>decide (ln l x=0),ln l x=0/\0<x.2.2:=λx j=>by
  have:=TO.mp j;exact⟨by simpa using this.2,i x this.1⟩
 match h:d.filter λx=>decide (ln l x=0),f,z with
 |[],_,_=>simp
 |[_],_,_=>simp
 |[_,_],_,_=>simp
 |a::b::c::r,f,z=>
  exfalso
  have:=f.1.1 c (by simp);have e:=zb g (z a (by simp)).1 (z b (by simp)).1 (z c (by simp)).1 (z c (by simp)).2;lia
def posQz(f:ab->Int)(a:ZJ):Nat:=(a.filter λx=>decide (0<f x)).length
theorem Ki{f:ab->Int}{mt:ab->ab->ab}(a:∀p q,f p*f q<0->f (mt p q)=0):∀(ps:ZJ)(w:ab),posQz f (dw f mt ps w)<=posQz f ps
 |[],_=>SF _
 |p::r,w=>by
  have b:=Ki a r w;show posQz f (kp f p++cI f mt p (r.headD w)++dw f mt r w)<=_
  unfold posQz at b⊢;rw[U6,U6,Sz,Sz]
  have c:((kp f p).filter λx=>decide (0<f x)).length=if 0<f p then 1 else 0:=by
   unfold kp;by_cases z:0<f p
   ·rw[SL (by lia),SL z];simp[z]
   rw[Tk z];by_cases y:0<=f p
   ·rw[SL y];simp[z]
   rw[Tk y];rfl
  have d:((cI f mt p (r.headD w)).filter λx=>decide (0<f x)).length=0:=by
   unfold cI;by_cases z:f p*f (r.headD w)<0
   ·rw[SL z,Vu,Tk (by rw[a _ _ z];decide)];rfl
   rw[Tk z];rfl
  rw[c,d,Vu];by_cases z:0<f p
  ·rw[SL z,SL (by simpa using z),SK];lia
  rw[Tk z,Tk (by simpa using z)];lia
theorem Kj{l:ab}{mt:ab->ab->ab}{c:ZJ}(k:n' l mt)(m:l.1≠0\/l.2.1≠0)(t:T0 (dB (ln l) mt c))(n:∀p∈dB (ln l) mt c,0<p.2.2):(dB (ln l) mt c).length<=c.length+1:=by
 have y:=za m t n;have o:posQz (ln l) (dB (ln l) mt c)<=posQz (ln l) c:=Ki (λp q h=>(k p q h).2) c _
 have r:∀d:ZJ,(∀x∈d,0<=ln l x)->d.length=posQz (ln l) d+(d.filter λx=>decide (ln l x=0)).length:=by
  intro d;induction d with
  |nil=>intro _;rfl
  |cons q d s=>
   intro h;have i:=s λx f=>h x (SA _ f);have A:=h q Sw;unfold posQz at i⊢;rw[Vu,Vu];by_cases z:ln l q=0
   ·rw[Tk (by simp[z]),SL (by simp[z]),SK,SK];lia
   rw[SL (by simp;lia),Tk (by simp[z]),SK,SK];lia
 have u:∀x∈dB (ln l) mt c,0<=ln l x:=λx f=>by
  rcases xS f with⟨_,h⟩|⟨p,_,q,_,h,rfl⟩
  ·exact h
  have:=(k p q h).2;lia
 have e:=r _ u;have le:posQz (ln l) c<=c.length:=Vr _ _;by_cases all:posQz (ln l) c=c.length
 ·
  have g:∀x∈c,0<ln l x:=λx f=>by
   have:=List.length_filter_eq_length_iff.mp all x f;simpa using this
  have j:(dB (ln l) mt c).filter (λx=>decide (ln l x=0))=[]:=by
   rw[List.filter_eq_nil_iff];intro x f;rcases xS f with⟨h,_⟩|⟨p,v,q,w,h,rfl⟩
   ·have:=g x h;simp;lia
   have a:=g p v;have b:=g q w;have:=SD a b;lia
  rw[j]at e;simp at e;lia
 lia
structure lH(b m n t:Nat)(s:a7):Prop where
 cv:fi s.1
 rb:yd b m s.1
 ln:s.1.length<=n
 st:du t s.2.2
theorem lH.mono{b m n t d f i j:Nat}{s:a7}(h:lH b m n t s)(k:b<=d)(l:m<=f)(o:n<=i)(p:t<=j):lH d f i j s:=
 ⟨h.cv,⟨λx q=>(h.rb.kq x q).mono k,λe r=>by obtain⟨g,a,c⟩:=h.rb.jV e r;exact⟨g,a.mono l,c⟩⟩,Sx h.ln o,h.st.mono p⟩
theorem yd.nH{b c m:Nat}{l:ab}{ps:ZJ}(h:yd b m ps)(bl:cH c l)(F:c<=m)(G:l.1≠0\/l.2.1≠0\/l.2.2≠0)(o:ab)(H:L3.ln l o=0)(I:c+m+1<=b)(d:ab)(e:d=l\/d=iI l):yd b m (dB (L3.ln d) (a0 l) ps):=by
 have J:n' d (a0 l):=by
  rcases e with rfl|rfl
  ·exact s4 _
  exact(s4 _).ng
 have s:∀u,L3.ln d u=0↔L3.ln l u=0:=λu=>by
  rcases e with rfl|rfl
  ·exact Iff.rfl
  rw[oa];lia
 have K:∀p q,L3.ln d p*L3.ln d q<0->L3.ln l p*L3.ln l q<0:=λp q z=>by
  rcases e with rfl|rfl
  ·exact z
  rwa[oa,oa,Ur]at z
 refine⟨λx L=>?_,Ix (f:=L3.ln d) (mt:=a0 l) (ps:=ps) (C:=λu v=>∃g:ab,cH m g/\(g.1≠0\/g.2.1≠0\/g.2.2≠0)/\L3.ln g u=0/\L3.ln g v=0) (λu v M N=>⟨l,bl.mono F,G,(s u).mp M,(s v).mp N⟩) o ((s o).mpr H) (λe i _ _=>h.jV e i) λe i c=>?_⟩
 ·rcases C0 L with⟨O,_⟩|⟨e,i,c,rfl⟩
  ·exact h.kq x O
  have c:=K _ _ c;obtain⟨P,Q⟩:=lA i;have t:=(h.kq _ P).pt;have w:=(h.kq _ Q).pt;have A:=n9 t w c;obtain⟨g,n,r,j,k⟩:=h.jV e i
  have R:(a_ e.1 e.2).1≠0\/(a_ e.1 e.2).2.1≠0\/(a_ e.1 e.2).2.2≠0:=by
   apply T8;intro z;refine A ?_;have S:(a_ e.1 e.2).1=0:=T8 λy=>z (.inl y);have T:(a_ e.1 e.2).2.1=0:=T8 λy=>z (.inr (.inl y));show l.1*(a_ e.1 e.2).2.1-l.2.1*(a_ e.1 e.2).1=0
   rw[S,T];grind
  obtain⟨a,Z,U,W,X⟩:=par r j k R;obtain⟨B,Y⟩:=C8 (l:=l) U W X A;rw[<-n8 t w,Y];exact⟨gK B,(cH.nP (bl.crs n) B).mono I⟩
 obtain⟨g,n,r,j,k⟩:=h.jV e i;obtain⟨E,z⟩:=J _ _ c;exact⟨z,λ_=>⟨g,n,r,j,E.my j k⟩,λ_=>⟨g,n,r,E.my j k,k⟩⟩
theorem Kl{b c m n t:Nat}{l o:ab}{sh:ZM}(h:∀s∈sh,lH b m n t s)(bl:cH c l)(k:c<=m)(d:l.1≠0\/l.2.1≠0)(r:L3.ln l o=0)(u:c+m+1<=b)(a:ab)(e:a=l\/a=iI l):∀s∈dH (L3.ln a) (a0 l) sh,lH b m (n+1) t s:=λs v=>by
 obtain⟨q,w,rfl,c⟩:=IG v;have g:=h q w
 have f:n' a (a0 l):=by
  rcases e with rfl|rfl
  ·exact s4 _
  exact(s4 _).ng
 have x:a.1≠0\/a.2.1≠0:=by
  rcases e with rfl|rfl
  ·exact d
  rcases d with z|z
  ·exact .inl (by unfold iI sc;dsimp only;lia)
  exact .inr (by unfold iI sc;dsimp only;lia)
 obtain⟨i,y⟩:=H3 f.meets ((o7 q.1).mpr g.cv.ni) g.cv.1 c;have j:=g.rb.nH bl k (d.imp id .inl) o r u a e;refine⟨qi.mf y ((o7 _).mp i),j,?_,g.st⟩;have:=Kj f x i λp A=>(j.kq p A).pt.1;have:=g.ln;show(dB (L3.ln a) (a0 l) q.1).length<=n+1
 lia
structure DV(s:a7):Prop where
 ps:∀p∈s.1,du 2770 p
 ln:s.1.length<=75
 st:du 2770 s.2.2
theorem lH.gm{b m n t:Nat}{s:a7}(h:lH b m n t s)(a:b<=2770)(c:n<=75)(d:t<=2770):DV s:=⟨λp e=>(h.rb.kq p e).mono a,Sx h.ln c,h.st.mono d⟩
def y_(sh:ZM):D:=.lst (sh.map bI)
theorem Km{X:Int×Int}{q:Nat}(l:a8 X.1 X.2)(a:SB X.1<=q)(b:SB X.2<=q):cH (2*q+5) (ce X):=by
 have c:=me (x:=X.1) (y:=X.2) (u:=0) (v:=1) (n:=2) a b (by decide) (by decide) l ⟨by decide,by decide⟩;have d:=me (x:=X.1) (y:=X.2) (u:=1) (v:=1) (n:=2) a b (by decide) (by decide) l ⟨by decide,by decide⟩;exact(c.crs d).mono (by lia)
theorem Kn{X:Int×Int}{q:Nat}(l:a8 X.1 X.2)(a:SB X.1<=q)(b:SB X.2<=q):cH (2*q+5) (cC X):=by
 have c:=me (x:=0) (y:=1) (u:=X.1) (v:=X.2) (m:=2) (by decide) (by decide) a b ⟨by decide,by decide⟩ l;have d:=me (x:=1) (y:=1) (u:=X.1) (v:=X.2) (m:=2) (by decide) (by decide) a b ⟨by decide,by decide⟩ l;exact(c.crs d).mono (by lia)
abbrev ha:=F2×F2×ZM
abbrev ZP:=List ha
def f5(b:ha):D:=.tup [dR b.1,dR b.2.1,y_ b.2.2]
theorem y9{a b:F2}{p q:Nat}(c:a8 a.1 a.2)(d:a8 b.1 b.2)(e:SB a.1<=p)(f:SB a.2<=p)(g:SB b.1<=q)(h:SB b.2<=q):du (p+q) (dg a b):=⟨(kc (n:=a.2*b.2) (Sy (SD c.1 d.1))).1,me e f g h c d⟩
theorem y8{a b:F2}(d:a8 a.1 a.2)(f:a8 b.1 b.2)(e:bF a=bF b):a=b:=by
 have c:=Dp d.1 f.1 e;have g:=xD (t:=a.1) (b:=a.2) d (Sy d.1) rfl;have h:=xD (t:=a.1) (b:=a.2) f (Sy d.1) c.symm;exact g.symm.trans h
def gg(a:ZY->Int)(b:Bool)(c:List ZM):Rat:=(c.map (ew a b)).sum
theorem rV(a:ZY->Int)(b:Bool)(S:ZM)(c:List ZM):gg a b (S::c)=ew a b S+gg a b c:=by unfold gg;rw[SI,To]
theorem nf(a:ZY->Int)(b:Bool):∀(A B:List ZM),gg a b (A++B)=gg a b A+gg a b B
 |[],B=>by show _=(0:Rat)+_;rw[Tn];grind
 |S::A,B=>by rw[Tr,rV,rV,nf a b A B];grind
theorem yY(a:ZY->Int)(b:Bool)(S:ZM):gg a b [S]=ew a b S:=by rw[rV];show _+(0:Rat)=_;grind
def ko(m:Nat):Nat->Nat
 |0=>m
 |s+1=>2*ko m s+3
structure rW(m n:Nat)(ps:ZJ)(s:Nat)(rs:Z0):Prop where
 ln:rs.length=s+1
 cv:∀r∈rs,fi r
 le:∀r∈rs,r.length<=n+s
 gp:∀r∈rs,∀p∈r,du (ko m s) p
 hp:∀φ,f3 φ rs=eL φ ps
theorem yX{m n:Nat}{a:ZJ}(c:fi a)(d:∀p∈a,du m p)(e:a.length<=n):rW m n a 0 [a]:=
 ⟨rfl,λr b=>by rw[SQ.mp b];exact c,λr b=>by rw[SQ.mp b];exact e,λr b=>by rw[SQ.mp b];exact d,λf=>rP f a⟩
theorem Ko(m s:Nat):ko m s<=ko m (s+1):=by show ko m s<=2*ko m s+3;lia
theorem rW.step{l g i:ZJ}{m o s n:Nat}{f:Z0}{r:ZJ}(h:rW m o l s f)(j:f[n]?=some r)(ok:DB (2*ko m s+3) (r.length+1) r g i):rW m o l (s+1) (f.eraseIdx n++[g,i]):=by
 have u:r∈f:=S' j
 have v:n<f.length:=by
  rcases Wn n f.length with q|q
  ·exact q
  rw[Te q]at j;cases j
 have y:=h.le r u
 have mem:∀{P:ZJ->Prop},(∀x∈f,P x)->P g->P i->∀x∈f.eraseIdx n++[g,i],P x:=λa b c x d=>by
  rcases SO.mp d with d|d
  ·exact a x (List.mem_of_mem_eraseIdx d)
  simp at d;rcases d with rfl|rfl
  ·exact b
  exact c
 refine⟨?_,mem h.cv ok.a ok.b,mem (λx d=>Nat.le_succ_of_le (h.le x d)) (Sx ok.la (by lia)) (Sx ok.lb (by lia)),mem (λx d p w=>(h.gp x d p w).mono (Ko m s)) ok.pa ok.pb,λk=>?_⟩
 ·rw[Sz,List.length_eraseIdx_of_lt v,h.ln];show _+2=_;have:=h.ln;lia
 have e:=JV k j;have b:=ok.hp k;have t:=h.hp k;rw[vn,km,rP];grind
structure vH(m n:Nat)(s:a7):Prop where
 ps:∀p∈s.1,du m p
 cv:fi s.1
 ln:s.1.length<=n
 st:du 20 s.2.2
theorem yW(p q:ab):ln (a_ p q) q=0:=by show bm p q q=0;exact Jz _ _
theorem rW.ml{m n:Nat}{ps:ZJ}{s c:Nat}{sh:ZM}(h:rW m n ps s (sh.map λt=>t.1))(g:s<=c)(d:ko m s<=ko m c)(st:∀t∈sh,du 20 t.2.2):(∀t∈sh,vH (ko m c) (n+c) t)/\sh.length<=c+1/\cU (sh.map λt=>t.1) [ps]:=by
 refine⟨λt b=>?_,?_,λe=>by rw[h.hp e,rP]⟩
 ·have a:t.1∈sh.map λt=>t.1:=SJ.mpr ⟨t,b,rfl⟩;exact⟨λp f=>(h.gp _ a p f).mono d,h.cv _ a,Sx (h.le _ a) (by lia),st t b⟩
 have:=h.ln;rw[Sv]at this;lia
theorem DW{m:Nat}:∀{s c:Nat},s<=c->ko m s<=ko m c
 |s,0,h=>by rw[show s=0 by lia];exact SF _
 |s,c+1,h=>by
  by_cases e:s=c+1
  ·rw[e];exact SF _
  exact Sx (DW (s:=s) (c:=c) (by lia)) (Ko m c)
theorem yV{x y n:Int}(c : -40<=x)(d:x<=40)(e : -40<=y)(f:y<=40)(a:0<n)(g:n<=3):du 20 (cl x y n):=by
 have b:∀z:Int,-40<=z->z<=40->SB z<=20:=λz h i=>Sx (intBits_le_iff.mpr (show z.natAbs<2^6 by show z.natAbs<64;lia)) (by decide);exact⟨gK (p:=(x,y,n)) (Sy a),cH.nP (p:=(x,y,n)) ⟨b x c d,b y e f,b n (by lia) (by lia)⟩ (Sy a)⟩
section
variable{X:aT}{a:ZX}{d:St}{H:ak}{s:Tl}{g:XE}
theorem c_.kx{t':Nat}{fs:ZU}(I:c_ X a d H s)(k:∀b o,b∉fs->s.heap.get? b=some o->g.get? b=some o)(f:∀b∈fs,g0 X a H b):c_ X a d H {s with heap:=g,toks:=t' }:=by
 have j:∀b u,H b=some u->b∉fs:=λb u q m=>by rw[(f b m).1]at q;cases q
 refine I.step (g':=s.gens) (d':=s.drawn) (ch:=fs) (λb l=>?_) (λb o _ _ h q _=>k b o h q) (λb o _ _ h q _=>⟨o.slots,k b o h q⟩) (λ_ _ _ _ n=>n)
  (λb o h q=>⟨o,k b o h q⟩) (λ_ _ e=>e) (λ_ _ _ e=>e) (λb E q=>⟨#[],by rw[q];simp⟩) (λm p=>?_) (λb u q=>?_) I.bare
 ·obtain⟨F,i,G,t,w,x⟩:=f b l;exact⟨t,i,w,x⟩
 ·obtain⟨o,A,B,C,r⟩:=p;refine⟨o,A,B,k _ o (λm=>?_) C,r⟩;obtain⟨_,i,_⟩:=f _ m;exact i rfl
 refine(I.ep b u q).gj (λc v h y=>k c v ?_ y) (λ_ q=>q) (λ_ _ q=>q) λ_ _ _ q=>q;rcases h with z|z
 ·rw[z];exact j b u q
 exact j c _ z
end
def oq:eo:=.ext λ_=>True
theorem DX{P:WP}{w:Xy}{H:ak}{h:XE}{a:TE}{o:Obj}(e:h.get? a=some o):gG P w H h a (.frz o oq):=⟨e,trivial,⟨o,e⟩,λ_ _ _ _=>trivial⟩
def tG(K:Zv)(b:Str->Option SC)(a:SC)(q:Str):Prop:=
 ∃c P,a=.ref c/\(P,q)∈AD K/\Uf≠P/\(∀h,K.In h->CodeHd h c P)/\∀h,K.In h->h.BuiltinsAt b P
def tH(H:ak)(f:TE)(b:Str)(a:X2)(e:Wp)(d:XW)(g:List (Str×TE)):Prop:=
 ∃j c k h u i t,H f=some (.frz (ZG "<lambda>" b a e d g j c k) oq)/\H c=some (.frz h u)/\h.data=.fields i/\i[1]?=some (.str b t)
theorem yU{d p:Pos}{c f:SC}:∀(l:ZT),TriplesOk l->YM d (l++[Y4 p.line,Y4 p.col,c])=some f->YM d l=some f\/f=c:=λl=>by
 fun_induction TriplesOk l with
 |case1=>
  intro _ h;simp only[Tn,YM,Y4]at h;split at h
  ·exact .inr (SN h).symm
  cases h
 |case2 a t b u x rest i=>
  intro h e;simp only[Tr,YM]at e⊢;split at e
  ·rename_i g;rw[SL g];exact .inl e
  rename_i g;rw[Tk g];exact i h e
 |case3 l j k=>intro h;exact h.elim
section
variable{X:aT}{g:X2}{j:Wp}{i:XW}{l:Pos}{k:List (Str×TE)}
theorem yT(LT:tG X.K X.mg X.env.code (X.env.qual++"<lambda>"))(aQ:defaultsOf g X.env=([],[]))(af:Zp i X.env=pure k){R:ZX}{s:Tl}{S:St}{H:ak}{Q:cr}(I:c_ X R S H s)(h:∀(f:TE)(J:ak),(∀b o,H b=some o->J b=some o)->(∀b,J b=none->H b=none)->tH J f (X.env.qual++"<lambda>") g j i k->Q (.ref f) J):
  wpAny (UV X.prog X.w) X.A (Yk (.Lambda g j i l) X.env) (hf X R S Q) X.xe s:=by
 obtain⟨c,P,ai,aS,T,aU,aV⟩:=LT;obtain⟨bZ,t,F,ao⟩:=I.tabs _ aS;obtain⟨a3,aq,L,x⟩:=I.ep P _ F;have C:=aU _ I.gY;have G:s.heap.Ns Uf X.mg:=I.mod.glob.keeps I.bk;have ar:=aV _ I.gY;refine kla_eval aQ ?_;cases U:YM l a3.toList with
 |some W=>
  obtain⟨m,B,u,M,a5,a6,b0,rfl,au,a',bc,av⟩:=x l W U
  have bf:a5=X.env.qual++"<lambda>":=by
   rw[ao]at av;have:=SN av;injection this with z _
   exact z.symm
  subst bf;refine kla_makeFunctionHit af I.ok.glob G ai C aq L U ar λE h' N kp aw=>?_;have r:H h'.objs.size=none:=I.ep.fresh aw;have Y:=I.laid (t':=N) (a:=h'.objs.size) (o:=.frz (ZG "<lambda>" (X.env.qual++"<lambda>") g j i k ((X.mg "__name__").getD .none) m E) oq) (h':=h'.push (ZG "<lambda>" (X.env.qual++"<lambda>") g j i k ((X.mg "__name__").getD .none) m E)) (λb o e=>Heap.get?_push_of_some _ (kp b o e)) aw (DX (Heap.get?_push_size _ rfl));refine⟨.ref h'.objs.size,_,Y,rfl,h _ _ (λb o e=>by rw[bP (hP e r)];exact e) (λb e=>?_) ⟨_,m,E,B,u,M,a6,dL,by rw[bP (hP au r)];exact au,a',bc⟩⟩;by_cases z:b=h'.objs.size
  ·rw[z];exact r
  rwa[bP z]at e
 |none=>
  refine kla_makeFunction af I.ok.glob G ai C aq L U T ar λm E h' N O aB lt bg aC=>?_;obtain⟨b5,B,M,aD,Z,bj,aE,aG⟩:=bg;cases Z;have r:H m=none:=I.ep.fresh aB;have bq:P≠m:=λz=>by rw[z,r]at F;cases F
  have aH:∀b,H b=none->b≠P:=λb n z=>by rw[z,F]at n;cases n
  have bw:f7 X.fs [] H (ed H m (.frz B oq)) s.heap h':=by
   refine⟨λb o e n _ _=>O b o (aH b n) e,λb o e n _ _=>⟨o.slots,O b o (aH b n) e⟩,λb o e n _=>?_,λb o e _=>?_,λb bD q=>by rw[bP (hP q r)];exact q,λb o u q=>by rw[bP (hP q r)];exact q,λb p q=>⟨#[],by rw[bP (hP q r),q];simp⟩⟩
   ·rw[bP (S5 (Tc (Heap.lt_size e) aB))];exact n
   by_cases z:b=P
   ·rw[z];exact⟨_,aC⟩
   exact⟨o,O b o z e⟩
  have bG:fm X.prog X.w (ed H m (.frz B oq)) h':=λb u q=>by
   by_cases z:b=m
   ·subst z;rw[dL]at q;cases q;exact DX bj
   rw[bP z]at q;by_cases aI:b=P
   ·subst aI;rw[F]at q;cases q;refine⟨_,aC,by rw[Xb];exact TriplesOk_snoc _ _ _ _ L,λp W aJ=>?_⟩;rw[Xb]at aJ;rcases yU _ L aJ with y|rfl
    ·obtain⟨bK,bM,bR,bS,bT,h1,aa,bX,aK,bY⟩:=x p W y;exact⟨bK,bM,bR,bS,bT,h1,aa,bX,by rw[bP (hP aK r)];exact aK,bY⟩
    exact⟨m,B,oq,M,_,aD,t,rfl,dL,aE,aG,ao⟩
   refine(I.ep b u q).gj (λd v hi y=>O d v ?_ y) (λd y=>by rw[bP (hP y r)];exact y) (λd bD y=>by rw[bP (hP y r)];exact y) λd b6 u y=>by rw[bP (hP y r)];exact y
   rcases hi with y|y
   ·rw[y];exact aI
   intro w;rw[w,F]at y;cases y
  have aM:c_ X R S (ed H m (.frz B oq)) {s with heap:=h',toks:=N}:=I.un bw bG;have aN:ed H m (.frz B oq) h'.objs.size=none:=aM.ep.fresh (SF _);have Y:=aM.laid (t':=N) (a:=h'.objs.size) (o:=.frz (ZG "<lambda>" (X.env.qual++"<lambda>") g j i k ((X.mg "__name__").getD .none) m E) oq) (h':=h'.push (ZG "<lambda>" (X.env.qual++"<lambda>") g j i k ((X.mg "__name__").getD .none) m E)) (λb o e=>Heap.get?_push_of_some _ e) (SF _) (DX (Heap.get?_push_size _ rfl));have aO:m≠h'.objs.size:=S5 lt;refine⟨.ref h'.objs.size,_,Y,rfl,h _ _ (λb o e=>by rw[bP (hP (o:=o) (by rw[bP (hP e r)];exact e) aN),bP (hP e r)];exact e) (λb e=>?_) ⟨_,m,E,B,oq,M,aD,dL,by rw[bP aO];exact dL,aE,aG⟩⟩;by_cases z:b=h'.objs.size
  ·rw[z];rwa[bP (Ta aO)]at aN
  rw[bP z]at e;by_cases aP:b=m
  ·rw[aP];exact r
  rwa[bP aP]at e
end
noncomputable def DZ(b:Str)(a:XW)(c:List (Str×TE))(L f:TE)(d:SC):Env:=newEnv a L Uf c (b++".<locals>.") (some f) d none XX
def vK(X:aT)(A:Xz)(N:ZS)(b:Str)(a:XW)(c:List (Str×TE))(f:TE)(d:SC)(s:Tl)(H:ak):aT:=
 {X with A:=A.deeper (DZ b a c s.heap.objs.size f d),N:=N,s₀:=s,H₀:=H,env:=DZ b a c s.heap.objs.size f d,outer:=X.stack,stack:=DZ b a c s.heap.objs.size f d::X.stack,ex:=[],fn:=λ_=>false,calm:=true,pn:=[],xe:=λ_ _=>False}
structure yR(X:aT)(x:Str)(fr:ZS)(js:ZO)(scope:XW)(k2:List (Str×TE)):Prop where
 kind:scope.kind=.function
 co:scope.isCoroutine=false
 gen:scope.isGenerator=false
 par:scope.names.lookup x=some .local
 jO:∀y∈scope.names,y.2≠.cell
 free:∀y,scope.names.lookup y=some .free->∃c,k2.lookup y=some c
 sub:∀y c,k2.lookup y=some c->X.env.cells.lookup y=some c
 len:fr.length=js.length
 nd:(x::fr).Nodup
 frs:∀(i:Nat)(y:Str)(j:Nat),fr[i]?=some y->js[i]?=some j->X.N[j]?=some y/\scope.names.lookup y=some .free/\(X.env.kindOf y=some .cell\/X.env.kindOf y=some .free)
theorem yS{X:aT}{A:Xz}{aG:ZX}{s:Tl}{C:St}{H:ak}{Q:cr}{f:TE}{h x:Str}{k:X2}{n:Wp}{a:XW}{g:List (Str×TE)}{G:ZS}{K:ZO}{u:SC}{v:V}{E:SC->Tl->Prop}(aH:A.frames=some X.stack)(aI:A.handled=none)(T:A.depth<Yv)(I:c_ X aG C H s)(F:tH H f h k n a g)(S:yR X x G K a g)(aJ:d_ v u)(aN:∀U c W,YX (kla_fn "<lambda>" h k n a g U (.ref c) W) ⟨[u],[]⟩=pure [(x,u)])(aO:∀aP,∃Y,bQ (vK X A (x::G) h a g f aP s H) n Y/\Y (some v::K.map λj=>(C[j]?).join) H Q):
  wpAny (UV X.prog X.w) A (call (.ref f) [u]) (q0 X.stack X.prog X.w H s Q) E s:=by
 obtain⟨U,c,W,aQ,bL,aS,t,Z,aU,dC,aa⟩:=F;obtain⟨aX,_⟩:=I.ep f _ Z;obtain⟨a3,_⟩:=I.ep c _ aU;obtain⟨Y,a4,a5⟩:=aO (.ref c);refine wpAny_call (YT (R:=λr N=>match r with|.ok (.ret w)=>q0 X.stack X.prog X.w H s Q w N|_=>False) ?_ λr N L=>?_);rotate_left
 ·cases r with
  |error e=>exact Tt L
  |ok a6=>
   cases a6 with
   |ret w=>exact L
   |next=>exact Tt L
   |brk=>exact Tt L
   |cont=>exact Tt L
 refine kla_callFunE T aX rfl S.co S.gen rfl ⟨c,aQ,aS,t,rfl,a3,dC,aa⟩ ?_;rw[aN U c W];refine SZ (Y2 S.jO (λy q=>by rw[SQ.mp q];exact S.par) (λaz a' aB=>⟨I.nolimit.fresh _ aB,?_⟩) S.kind);have O:∀b o,s.heap.get? b=some o->az.get? b=some o:=λb o e=>aB.extBut b o (S5 (Heap.lt_size e)) (Heap.get?_push_of_some _ e)
 have ok:(vK X A (x::G) h a g f (.ref c) s H).Ok:=by
  refine⟨I.ok.mod,S.kind,rfl,rfl,SF _,λy z d B l=>I.ok.inj y z d (S.sub _ _ B) (S.sub _ _ l),λy q=>?_,λy d z=>absurd z SU,λ_=>aI,Around.frames_deeper aH,.inr ⟨rfl,rfl⟩,λb M=>absurd (show b∈([]:ZU)from M) (by simp),I.bs,Sx I.ok.kr I.sz,λb _ _ M=>absurd (show b∈([]:ZU)from M) (by simp),λb M=>absurd (show b∈([]:ZU)from M) (by simp),I.stack,I.gR,I.tabs⟩;have q:a.names.lookup y=some .cell\/a.names.lookup y=some .free:=q;rcases q with q|q
  ·exact absurd rfl (S.jO _ (mem_of_lookup q))
  exact S.free y q
 have J:c_ (vK X A (x::G) h a g f (.ref c) s H) [] (some v::K.map λj=>(C[j]?).join) H {s with heap:=az,toks:=s.toks+[(x,u)].length}:=by
  refine⟨ok,rfl,I.bare,f7.kept O,⟨_,a',λi y w B l hi=>?_⟩,λy d e=>?_,I.fresh,λy d e=>I.fD y d (S.sub _ _ e),λp bb=>absurd (show p∈([]:ZX)from bb) (by simp),I.ep.kept O,?_⟩
  ·cases i with
   |zero=>
    have B:some x=some y:=B;have l:some (some v)=some (some w):=l;cases B;cases l;exact⟨u,aJ,.inl ⟨S.par,by simp⟩⟩
   |succ i=>
    have B:G[i]?=some y:=B;have l:(K.map λj=>(C[j]?).join)[i]?=some (some w):=l;rw[SP]at l;obtain⟨j,bc,l⟩:=UE.mp l;obtain⟨bf,aC,aD⟩:=S.frs i y j B bc
    have ai:C[j]?=some (some w):=by
     cases z:C[j]? with
     |none=>rw[z]at l;cases l
     |some bM=>rw[z]at l;cases l;rfl
    obtain⟨m,_,lk⟩:=I.loc;obtain⟨bg,bj,bq⟩:=lk j y w bf ai (by rcases aD with z|z;exact .inr (.inl z);exact .inr (.inr z));refine⟨bg,bj,.inr ⟨.inr aC,?_⟩⟩;obtain⟨d,aE⟩:=S.free y aC;have bw:=S.sub _ _ aE;rcases bq with⟨z,_⟩|⟨_,bS,hi,ao⟩
    ·rcases aD with aq|aq<;>rw[z]at aq<;>cases aq
    rw[bw]at hi;cases hi;obtain⟨o,ar,au⟩:=ao;exact⟨d,aE,o,O _ _ ar,au⟩
  ·obtain⟨w,o,ar,r⟩:=I.cell y d (S.sub _ _ e);exact⟨w,o,O _ _ ar,r⟩
  show(some v::K.map λj=>(C[j]?).join).length=(x::G).length
  simp[S.len]
 refine kla_codeExpr (XH (a4 [] _ _ H _ J a5) (λw N aw=>?_) λe N aw=>Tt aw);obtain⟨bA,bD,P,bG,bK⟩:=aw;exact⟨bA,bD,P.os,P.bare,P.base,P.ep,bG,bK⟩
theorem tJ{d f:Type}{g:d->f}{m n:List f}(p:m.Perm n):∀{l:List d},n=l.map g->∃c:List d,c.Perm l/\c.map g=m:=by
 induction p with
 |nil=>intro l e;exact⟨[],by rw[List.map_eq_nil_iff.mp e.symm],rfl⟩
 |cons x _ h=>
  intro l e;cases l with
  |nil=>cases e
  |cons a l=>
   rw[SI]at e;obtain⟨rfl,i⟩:=Uh e;obtain⟨c,j,rfl⟩:=h i;exact⟨a::c,j.cons a,rfl⟩
 |swap x y _=>
  intro l e
  match l,e with
  |a::b::l,e=>
   simp only[SI,US]at e;obtain⟨rfl,rfl,rfl⟩:=e;exact⟨b::a::l,List.Perm.swap _ _ _,rfl⟩
 |trans _ _ k o=>
  intro l e;obtain⟨t,p2,q⟩:=o e;obtain⟨r,p1,s⟩:=k q.symm;exact⟨r,p1.trans p2,s⟩
theorem zp{kz:ZH}:∀{c:ZL}{d:ZT},bO c d->∃b:List (Int×V×SC),b.map (λt=>(t.1,t.2.1))=kz.zip c/\b.map (λt=>(t.1,t.2.2))=kz.zip d/\∀t∈b,d_ t.2.1 t.2.2:=by
 induction kz with
 |nil=>intro c d _;exact⟨[],rfl,rfl,λt h=>absurd h TS⟩
 |cons k kz f=>
  intro c d r;cases r with
  |nil=>exact⟨[],rfl,rfl,λt h=>absurd h TS⟩
  |cons a r=>
   obtain⟨b,g,i,h⟩:=f r
   exact⟨(k,_,_)::b,by rw[SI,g];rfl,by rw[SI,i];rfl,λt e=>by
    rcases SG.mp e with rfl|e
    ·exact a
    exact h t e⟩
theorem Ky:∀{a:List (Int×V×SC)},(∀t∈a,d_ t.2.1 t.2.2)->bO (a.map λt=>t.2.1) (a.map λt=>t.2.2)
 |[],_=>.nil
 |t::a,h=>.cons (h t Sw) (Ky λx b=>h x (SA _ b))
def jb(H a:ak):Prop:=∀b o,H b=some o->a b=some o
section
variable{X:aT}{k:ZX}{B:St}{H:ak}{s:Tl}{a g f:TE}{l:ZT}{C:ZL}{j:ZH}{r:Nat}{P:We->Tl->Prop}{E:SC->Tl->Prop}
theorem zk{K:Array SC}{e:Nat}{A:Xz}(I:c_ X k B H s)(R:g0 X k H a)(M:g0 X k H g)(aH:g≠a)(aI:s.heap.get? g=some (Yt "list" K e))(aJ:s.heap.get? a=some (Yt "list" #[] r))(aK:X.base.get? a=none)(aN:X.base.get? g=none)(aP:YU K.toList j)(aQ:j.length=l.length)(aS:l.length<64)(aU:bO C l)(h:∀(aj:Tl)(U:List (Int×V)),U.Perm (j.zip C)->U.Pairwise (λp q=>p.1<=q.1)->c_ X k B (ed H a (.lst (U.map Us))) aj->P (.done (.ret .none)) aj):
  wpAny (UV X.prog X.w) A (ksk_end a false l.toArray r (.ref g) K) P E s:=by
 obtain⟨m,aq,bD⟩:=I.loc;let news:=(Rl s.heap).filter λp=>(X.base.get? p.1).isNone&&(p.1 != X.env.locals&&(p.1 != g&&p.1 != a))
 have W:∀b o,s.heap.get? b=some o->X.base.get? b=none->b≠X.env.locals->b≠g->b≠a->(b,o)∈news:=λb o q G f J O=>by
  refine TO.mpr ⟨?_,?_⟩
  ·exact T'.mpr ⟨b,TG.mpr (Heap.lt_size q),by rw[q];rfl⟩
  simp[G,f,J,O]
 have Y:∀p∈news,s.heap.get? p.1=some p.2/\p.1≠X.env.locals/\X.base.get? p.1=none/\p.1≠g/\p.1≠a:=λp L=>by
  obtain⟨G,f⟩:=TO.mp L;simp only[TQ,VW,bne_iff_ne,ne_eq]at f;refine⟨?_,f.2.1,f.1,f.2.2.1,f.2.2.2⟩;obtain⟨i,_,J⟩:=T'.mp G;obtain⟨o,O,rfl⟩:=UE.mp J;exact O
 have F:Fr X.base X.env.locals s.heap m:=⟨aq,I.bk,Sx I.ok.kr I.ok.above⟩
 have N:News X.base X.env.locals s.heap (news++[(g,Yt "list" K e),(a,Yt "list" #[] r)]):=λp L=>by
  rcases SO.mp L with L|L
  ·obtain⟨G,f,J,_⟩:=Y p L;exact⟨G,f,J⟩
  simp only[SG,TS,or_false]at L;rcases L with rfl|rfl
  ·exact⟨aI,M.2.1,aN⟩
  exact⟨aJ,R.2.1,aK⟩
 refine ksk_end_ F N aH (λp L=>(Y p L).2.2.2.1) (λp L=>(Y p L).2.2.2.2) aP aQ aS λh' av T c Z aw h1=>?_;obtain⟨bG,aX,a4,hi⟩:=h1;obtain⟨bK,a5,ax,a6⟩:=zp (kz:=j) aU;obtain⟨S,ag,ay⟩:=tJ aX ax.symm
 have kept:∀b o,b≠X.env.locals->b∉[g,a]->s.heap.get? b=some o->h'.get? b=some o:=λb o G f J=>by
  simp only[SG,TS,or_false,not_or]at f;cases z:X.base.get? b with
  |some aB=>
   have:=I.bk b aB z;rw[J]at this;cases this;exact Z.keep b _ z
  |none=>exact(aw (b,o) (SA _ (W b o J z G f.1 f.2))).1
 have a':h'.get? a=some (Yt "list" T c):=(aw _ Sw).1;have Q:∀b u,H b=some u->b≠a:=λb u q z=>by rw[z,R.1]at q;cases q
 have ch:∀b∈[g,a],(b∈X.ex\/X.s₀.heap.objs.size<=b)/\b≠X.env.locals/\(∀x c,X.env.cells.lookup x=some c->c≠b)/\∀p∈X.pn++k,p.1≠b:=λb aC=>by
  simp only[SG,TS,or_false]at aC;rcases aC with rfl|rfl
  ·exact⟨M.2.2.2.1,M.2.1,M.2.2.2.2.1,M.2.2.2.2.2⟩
  exact⟨R.2.2.2.1,R.2.1,R.2.2.2.2.1,R.2.2.2.2.2⟩
 refine h {s with heap:=h',toks:=av} (S.map λt=>(t.1,t.2.1)) (by rw[<-a5];exact ag.map _) ?_ ?_
 ·rw[<-ay]at hi;rw[Xc]at hi⊢;exact hi.imp λ{x y} z=>by simpa using z
 have em:(S.map λt=>(t.1,t.2.1)).map Us=S.map λt=>t.2.1:=by rw[SM];rfl
 have hc:T.toList=S.map λt=>t.2.2:=by rw[a4,<-ay,SM];rfl
 have ln:S.length<=TI:=by
  have G:=ag.length_eq;have f:=TW S6 ax;rw[Sv,List.length_zip]at f;rw[XO];lia
 rw[em];refine I.step (ch:=[g,a]) (h':=h') (g':=s.gens) (d':=s.drawn) (t':=av) ch (λb o G _ J O _=>kept b o G J O) (λb o G _ J O _=>⟨o.slots,kept b o G J O⟩) (λb o G _ J=>?_) (λb o G f=>?_) (λb x q=>by rw[bP (Q _ _ q)];exact q) (λb o u q=>by rw[bP (Q _ _ q)];exact q) (λb p q=>⟨#[],by rw[bP (Q _ _ q),q];simp⟩) (λba bb=>?_) (λb u q=>?_) I.bare
 ·rw[bP (λz=>G (by rw[z];simp))];exact J
 ·by_cases z:b=X.env.locals
  ·rw[z];obtain⟨bf,bL,bM,q,_⟩:=Z.ns;exact⟨bf,q⟩
  exact⟨o,kept b o z G f⟩
 ·have:ba=m:=by
   obtain⟨bR,bg,bS,G,f,_,J⟩:=bb;obtain⟨bT,bj,bV,aD,aE,_,bq⟩:=aq;rw[G]at aD;cases aD;rw[f]at aE;cases aE;funext n;rw[<-J,<-bq]
  rw[this];exact Z.ns
 by_cases z:b=a
 ·subst z;rw[dL]at q;cases q;exact⟨by rw[Sv];exact ln,S.map λt=>t.2.2,c,Ky λt bw=>a6 t (ag.mem_iff.mp bw),by rw[<-hc];simpa using a'⟩
 rw[bP z]at q;refine(I.ep b u q).gj (λd v aG y=>kept d v ?_ ?_ y) (λd y=>by rw[bP (Q _ _ y)];exact y) (λd x y=>by rw[bP (Q _ _ y)];exact y) λd aB u y=>by rw[bP (Q _ _ y)];exact y
 ·intro w;rcases aG with y|y
  ·rw[<-y,w,I.free]at q;cases q
  rw[w,I.free]at y;cases y
 simp only[SG,TS,or_false,not_or];rcases aG with y|y
 ·subst y;exact⟨λw=>(by rw[w,M.1]at q;cases q),z⟩
 exact⟨λw=>(by rw[w,M.1]at y;cases y),Q _ _ y⟩
end
theorem g0.at{X:aT}{a:ZX}{H c:ak}{b:TE}(f:g0 X a H b)(n:c b=none):g0 X a c b:=⟨n,f.2⟩
section
variable{X:aT}{A:Xz}{g:ZX}{l:St}{H:ak}{s:Tl}{a kS f:TE}{d:ZT}{n:ZL}{c:ZH}{m:Nat}{P:We->Tl->Prop}{E:SC->Tl->Prop}
theorem zj(I:c_ X g l H s)(af:g0 X g H a)(Y:g0 X g H kS)(ag:kS≠a)(ay:s.heap.get? kS=some (Yt "list" #[] 0))(az:s.heap.get? a=some (Yt "list" #[] m))(aB:X.base.get? a=none)(aG:X.base.get? kS=none)(aI:a∉frs X.stack)(aJ:kS∉frs X.stack)(aK:c.length=d.length)(aM:d.length<64)(aN:bO n d)(F:∀(i:Nat)(v:SC)(k:Int),d[i]?=some v->c[i]?=some k->∀(t:ak)(x:Tl),c_ X g l t x->jb H t->wpAny (UV X.prog X.w) A (call (.ref f) [v]) (q0 X.stack X.prog X.w t x λy R=>y=.int k/\jb t R) (λ_ _=>False) x)(h:∀(x:Tl)(t:ak)(G:List (Int×V)),jb H t->t a=none->G.Perm (c.zip n)->G.Pairwise (λp q=>p.1<=q.1)->c_ X g l (ed t a (.lst (G.map Us))) x->P (.done (.ret .none)) x):
  wpAny (UV X.prog X.w) A (ksk_rest a (.ref f) false d.toArray m (.ref kS)) P E s:=by
 unfold ksk_rest;refine wp (Yb ?_);rw[List.forIn_toArray]
 refine wp (ksk_fold (λi x=>∃t B e,c_ X g l t x/\jb H t/\t a=none/\t kS=none/\x.heap.get? kS=some (Yt "list" B e)/\x.heap.get? a=some (Yt "list" #[] m)/\YU B.toList (c.take i)) d 0 s
  ⟨H,#[],0,I,λ_ _ q=>q,af.1,Y.1,ay,az,by simpa using IntsAre.nil⟩ ?step ?done)
 case step=>
  rintro j v hc aj ⟨Z,B,e,S,T,K,U,L,W,M⟩;simp only[T4]at M⊢;have bf:j<d.length:=(TM.mp aj).1;obtain⟨k,ao⟩:∃k,c[j]?=some k:=⟨_,S0 (by lia)⟩
  have bj:B.size<=d.length:=by
   have q:=M.length;rw[Va,TV]at q;lia
  refine wp (Zi (XH (F j v k aj ao Z hc S T) (λu N aO=>?_) λ_ _ q=>q.elim));obtain⟨y,R,os,O,Q,aQ,r,rfl,aU⟩:=aO;obtain⟨C,rfl⟩:=r;have aV:=S.lC (ch:=[]) os Q aQ O (λb z=>absurd z (by simp));have ar:=Q.keep kS _ L U aJ (by simp);have aX:=Q.keep a _ W K aI (by simp);have av:=Q.free kS _ L U (by simp);have a3:=Q.free a _ W K (by simp)
  try dsimp only
  have aw:=Heap.SameBut.update N.heap kS (Obj.mapSeq (·.push (.int k C)));obtain⟨h1,a5⟩:∃h1,(N.heap.update kS (Obj.mapSeq (·.push (.int k C)))).get? kS=some (Yt "list" (B.push (.int k C)) h1):=⟨_,get?_update_seq ar (·.push (.int k C))⟩;have a6:c.take (j+1)=c.take j++[k]:=by rw[List.take_add_one,ao];simp
  have a':(B.push (Value.int k C)).toList=B.toList++[Value.int k C]:=by simp
  refine wp (Zj ar rfl ?_ (by rw[XO];lia) (Sx (Ve (Array.size_push ..)) (by rw[XO];lia)));have ba:c_ X g l R {N with heap:=N.heap.update kS (Obj.mapSeq (·.push (.int k C))),toks:=N.toks}:=aV.kx (fs:=[kS]) (λb o q z=>(aw.2 b (λw=>q (by rw[w];simp))).trans z) (λb bc=>by rw[SQ.mp bc];exact Y.at av);exact SZ ⟨rfl,R,_,h1,ba,λb o q=>aU b o (T b o q),a3,av,a5,(aw.2 a ag.symm).trans aX,by rw[a',a6];exact ksk_snoc M⟩
 case done=>
  rintro hc ⟨Z,B,e,S,T,K,U,L,W,M⟩
  have aa:YU B.toList c:=by
   have z:c.take (0+d.length)=c:=Vn (by lia);rwa[z]at M
  try dsimp only
  refine wp (YV L rfl ?_);exact zk S (af.at K) (Y.at U) ag L W aB aG aa aK aM aN λx G p1 p2 J=>h x Z G T K p1 p2 J
end
section
variable{d:WP}{w:Xy}{A:Xz}{E:SC->Tl->Prop}{s:Tl}
theorem zq{R:ZC->Tl->Prop}{r S:TE}{a b c:Int}{t u v:Tok}{n:Nat}(j:A.handled=none)(k:IsRange s.heap r a b c t u v)(l:Builtin.Range.small a b c=true)(m:Builtin.Range.rangeSize a b c=n)(p:n<=2^24)(q:s.heap.get? S=some {cls:=.type "list",data:=.seq #[]})(h:∀(g:XE)(x:Nat)(e:Array SC)(y:Nat),(∀b o,b≠S->s.heap.get? b=some o->g.get? b=some o)->g.get? S=some {cls:=.type "list",dict:=none,data:=.seq e y,slots :=#[]}->ItemsOf (λi v=>∃t,v=.int (a+i*c) t) e n->R (.ok (.ret (.ref S))) {s with heap:=g,toks:=x}):
  codeAny (UV d w) A (.builtin "list.__iadd__" ⟨[.ref S,.ref r],[]⟩) R s:=by
 refine Yq PySem.F.entry_list_iadd ?_;rw[Around.under_plainId Xd _];exact wpAny_extend_range j k l m p S _ 0 q h
theorem vQ{r:TE}{a b c:Int}{t u v:Tok}{n:Nat}{Q:ZT->Tl->Prop}(p:A.handled=none)(q:IsRange s.heap r a b c t u v)(x:Builtin.Range.small a b c=true)(y:Builtin.Range.rangeSize a b c=n)(z:n<=2^24)(h:∀(f:XE)(j:Nat)(g:Array SC),s.heap.objs.size<=f.objs.size->(∀b o,s.heap.get? b=some o->f.get? b=some o)->ItemsOf (λi v=>∃t,v=.int (a+i*c) t) g n->Q g.toList {s with heap:=f,toks:=j}):
  wpAny (UV d w) A (collect (.ref r)) Q E s:=by
 unfold collect;refine wp (wpAny_runValue (Yq PySem.F.entry_proto_collect ?_));rw[Around.under_plainId PySem.F.plain_proto_collect _];show wpAny _ A.in1 (newList [] >>= λl=>again (.builtin "list.__iadd__" ⟨[l,.ref r],[]⟩)) _ _ s
 refine wp (Xv ?_);refine SZ ⟨Yl Xd _,?_⟩;refine zq (s:={s with heap:=s.heap.push {cls:=.type "list",data:=.seq #[]} }) p (Heap.get?_push_of_some _ q) x y z (Heap.get?_push_size _ rfl) λf j k C kp m B=>?_;show wpAny _ A (load s.heap.objs.size >>= _) _ _ _
 refine wp (wpAny_load m ?_);exact SZ (h f j k (UG (Heap.lt_size m)) (λb o e=>kp b o (S5 (Heap.lt_size e)) (Heap.get?_push_of_some _ e)) B)
end
theorem vN{n:Nat}{a:Array SC}(h:ItemsOf (λi v=>∃t,v=.int ((0:Int)+i*1) t) a n):bO ((S7 n).map λi:Nat=>V.int i) a.toList:=by
 obtain⟨d,f⟩:=h
 have key:∀(l:ZT)(k:Nat),(∀(j:Nat)(v:SC),l[j]?=some v->∃t,v=.int ((0:Int)+((k+j:Nat):Int)*1) t)->bO ((V0 k l.length).map λi:Nat=>V.int i) l:=by
  intro l;induction l with
  |nil=>exact λk _=>.nil
  |cons v l g=>
   intro k c;rw[SK,List.range'_succ,SI];refine .cons ?_ (g (k+1) λj m b=>?_)
   ·obtain⟨t,e⟩:=c 0 v rfl;exact⟨t,by rw[e];congr 1;lia⟩
   obtain⟨t,e⟩:=c (j+1) m (by simpa using b);exact⟨t,by rw[e];congr 1;lia⟩
 have:=key a.toList 0 λj v b=>by
  rw[UJ]at b;simpa using f j v b
 rwa [show a.toList.length=n from by simpa using d,<-WM]at this
def vL(b:e3):bH:=λc H Q=>b c H λd a=>∃j:Int,d=[.int j]/\∀p,a p=none->Q (.ref p) (ed a p (.rng 0 j))
section
variable{X:aT}
theorem vJ{a:Wp}{d:e3}{p c:Pos}(g:eG X "range")(i:X.mg "range"=none)(k:hg X [a] d)(l:UF [a] X.env=[(false,Yk a X.env)]:=by rfl):bQ X (.Call (.Name "range" p) [a] [] c) (vL d):=by
 intro m s n H Q I h;refine Call_ (oE I g i boot_range (UZ (cq (k c m s n H _ I h) λw x ⟨y,z,f,r,v⟩=>?_) l rfl));obtain⟨j,e,q⟩:=v;subst e;obtain⟨u,rfl,t,rfl⟩:=fo r;refine call_range_1 ⟨.ref _,_,f.laid (o:=.rng 0 j) (λb o e=>Heap.get?_push_of_some _ e) (SF _) ⟨_,_,_,Heap.get?_push_size _ rfl⟩,rfl,q _ (f.ep.fresh (SF _))⟩
end
section
variable{X:aT}{c:ZX}{d:St}{H:ak}{s:Tl}{l f:TE}{xs:ZL}{kz:ZH}{Q:cr}
theorem vI(I:c_ X c d H s)(L:∀(Y:SC->Tl->Prop)(O:ZT->Tl->Prop),(∀(h':XE)(r:Nat)(vs:ZT),s.heap.objs.size<=h'.objs.size->(∀b o,s.heap.get? b=some o->h'.get? b=some o)->bO xs vs->O vs {s with heap:=h',toks:=r})->wpAny (UV X.prog X.w) X.A.in1 (collect (.ref l)) O Y s)(Z:kz.length=xs.length)(aD:xs.length<64)(u:∀(i:Nat)(x:V)(v:SC)(k:Int),xs[i]?=some x->d_ x v->kz[i]?=some k->∀(j:ak)(E:Tl),c_ X c d j E->jb H j->wpAny (UV X.prog X.w) X.A.in1.in1 (call (.ref f) [v]) (q0 X.stack X.prog X.w j E λy hi=>y=.int k/\jb j hi) (λ_ _=>False) E)(q:∀(j:ak)(p:TE)(B:List (Int×V)),jb H j->j p=none->B.Perm (kz.zip xs)->B.Pairwise (λp q=>p.1<=q.1)->Q (.ref p) (ed j p (.lst (B.map Us)))):
  wpAny (UV X.prog X.w) X.A (call (.builtin "sorted") [.ref l] [(Str.ofString "key",.ref f)]) (hf X c d Q) X.xe s:=by
 refine call_function_entry_kw kind_sorted plain_sorted entry_sorted (ksk_s1 _ _) ?_;unfold Yw.«sorted»;refine wp (m:=checkCount "sorted" 1 1 _) (SZ (wp (L _ _ λh r vs M af F=>wp (wpAny_newList ?_ (by rw[XO,<-F.length];lia)))));have ln:=F.length;have P:vs.length<=TI:=by rw[XO];lia
 let t:=h.push (Yt "list" vs.toArray 0)
 have G:t.get? h.objs.size=some (Yt "list" vs.toArray 0):=Heap.get?_push_size _ rfl;show wpAny (UV X.prog X.w) X.A.in1 _ _ _ {s with toks:=r,heap:=t}
 refine wp (W1 (wpAny_call_entry_kw (s:={s with toks:=r,heap:=t}) slot_list_sort ⟨_,G,rfl⟩ entry_list_sort ?body (ksk_l1 _ _)))
 case body=>
  show wpAny (UV X.prog X.w) X.A.in1.in1 (Yw.«list.sort» ⟨[.ref h.objs.size],[(Str.ofString "key",.ref f)]⟩) _ _ _
  rw[ksk_t1];unfold ksk_tree;refine wp (YV (s:={s with toks:=r,heap:=t}) G rfl ?_);refine wp (Zj (s:={s with toks:=r,heap:=t}) G rfl ?_ (by rw[SX];exact P) (Td _));obtain⟨R,S⟩:∃R,(t.update h.objs.size (Obj.mapSeq λ_=>(#[]:Array SC))).get? h.objs.size=some (Yt "list" #[] R):=⟨_,get?_update_seq G λ_ => #[]⟩;have hc:=Heap.SameBut.update t h.objs.size (Obj.mapSeq λ_=>(#[]:Array SC));refine wp (seqEpoch_at (s:={s with toks:=r,heap:=t.update h.objs.size (Obj.mapSeq λ_=>(#[]:Array SC))}) S rfl ?_);refine wp (wpAny_newTuple ?_ (by show vs.length<=_;exact P));refine wp (wpAny_newList ?_ (Td _));refine W1 ?_;let T:=t.update h.objs.size (Obj.mapSeq λ_=>(#[]:Array SC))
  let K:=T.push (Yt "tuple" vs.toArray 0)
  let N:=K.push (Yt "list" #[] 0)
  have kp:∀b o,s.heap.get? b=some o->N.get? b=some o:=λb o e=>by
   have lt:=Tc (Heap.lt_size e) M;exact Heap.get?_push_of_some _ (Heap.get?_push_of_some _ ((hc.2 b (S5 lt)).trans (Heap.get?_push_of_some _ (af b o e))))
  have U:h.objs.size<K.objs.size:=by
   show _<(T.push _).objs.size
   rw[Heap.size_push,Heap.size_update,Heap.size_push];lia
  have aj:c_ X c d H {s with toks:=r,heap:=N}:=I.kept kp
  have W:∀b,s.heap.objs.size<=b->g0 X c H b/\X.base.get? b=none/\b∉frs X.stack:=λb C=>by
   refine⟨I.hC C (I.ep.fresh C),Heap.get?_none_of_le (Sx (Sx I.ok.kr I.sz) C),λz=>?_⟩;rcases SG.mp (I.gQ b z)with y|y
   ·exact absurd (Tc I.lt C) (by rw[y];exact TU _)
   exact I.lU C y
  obtain⟨ao,aq,ar⟩:=W h.objs.size M;obtain⟨au,av,aw⟩:=W K.objs.size (Sx M (UG U))
  refine zj (s:={s with toks:=r,heap:=N}) (a:=h.objs.size) (kS:=K.objs.size) aj ao au (T9 U) (Heap.get?_push_size _ rfl) (Heap.get?_push_of_some _ (Heap.get?_push_of_some _ S)) aq av ar aw (Z.trans ln) (by lia) F (λi v k ax ay=>by
   obtain⟨x,az,aC⟩:=F.h9 ax
   exact u i x v k az aC ay) λE j B g n p1 p2 J=>⟨_,rfl,SZ ⟨_,rfl,.ref h.objs.size,_,J,rfl,q j _ B g n p1 p2⟩⟩
end
theorem tH.grow{H i:ak}{f:TE}{d:Str}{a:X2}{e:Wp}{b:XW}{h:List (Str×TE)}(F:tH H f d a e b h)(g:jb H i):tH i f d a e b h:=by
 obtain⟨j,c,k,l,u,m,t,n,o,r⟩:=F;exact⟨j,c,k,l,u,m,t,g _ _ n,g _ _ o,r⟩
theorem jb.trans{H c d:ak}(a:jb H c)(b:jb c d):jb H d:=λx o q=>b x o (a x o q)
def vM(H:ak)(l:TE)(a:ZL):Prop:=H l=some (.lst a)\/∃n:Nat,n<64/\H l=some (.rng 0 n)/\a=(S7 n).map λi:Nat=>V.int i
theorem vM.grow{H a:ak}{l:TE}{b:ZL}(h:vM H l b)(g:jb H a):vM a l b:=by
 rcases h with h|⟨n,z,h,e⟩
 ·exact .inl (g _ _ h)
 exact .inr ⟨n,z,g _ _ h,e⟩
def KB(Rd:bH->Prop)(m:St)(e:ak)(n:ZO)(Q:cr)(o:ZL):Prop:=∃(l:TE)(d:ZL)(f:ZH),o=[.ref l]/\vM e l d/\d.length<64/\f.length=d.length /\
 (∀(i:Nat)(x:V)(k:Int),d[i]?=some x->f[i]?=some k->∀c,jb e c->∀h:bH,Rd h->h (some x::n.map λj=>(m[j]?).join) c λy q=>y=.int k/\jb c q) /\
 ∀(c:ak)(p:TE)(g:List (Int×V)),jb e c->c p=none->g.Perm (f.zip d)->g.Pairwise (λa b=>a.1<=b.1)->Q (.ref p) (ed c p (.lst (g.map Us)))
def vG(Rd:bH->Prop)(b:e3)(c:ZO):bH:=λa H Q=>b a H λd e=>KB Rd a e c Q d
section
variable{X:aT}{a:Wp}{C:e3}{p o E kp:Pos}{d:X2}{m:Wp}{b:XW}{j:List (Str×TE)}{x:Str}{r:ZS}{B:ZO}{Rd:bH->Prop}{k:Nat}
theorem vF(M:ez k X.A)(ax:eG X "sorted")(aB:X.mg "sorted"=none)(aC:hg X [a] C)(LT:tG X.K X.mg X.env.code (X.env.qual++"<lambda>"))(aE:defaultsOf d X.env=([],[]))(aI:Zp b X.env=pure j)(S:yR X x r B b j)(aK:∀u N c O,YX (kla_fn "<lambda>" (X.env.qual++"<lambda>") d m b j N (.ref c) O) ⟨[u],[]⟩=pure [(x,u)])(aM:∀f P s H,∃G,bQ (vK X X.A.in1.in1 (x::r) (X.env.qual++"<lambda>") b j f P s H) m G/\Rd G)(aP:X9 o (UF [a] X.env)=(false,Yk a X.env)::X9 o (UF [] X.env):=by rfl)(aQ:(X9 o (UF [a] X.env)).any (·.1)=false:=by rfl):
  bQ X (.Call (.Name "sorted" p) [a] [⟨some "key",.Lambda d m b E,kp⟩] o) (vG Rd C B):=by
 intro aa s ae H Q I h;refine XU (oE I ax aB (by decide +kernel:XM "sorted"=some (.builtin "sorted")) ?_);refine callWith_kw (cq (aC o aa s ae H _ I h) λbV bX ⟨bY,aU,aX,a3,a4⟩=>?_) aP aQ;obtain⟨l,xs,kz,rfl,R,a5,a6,ask,q⟩:=a4;obtain⟨u,rfl,a'⟩:=fo a3;cases a';refine kws_cons (cq (yT (Q:=λy J=>∃f,y=.ref f/\jb aU J/\tH J f (X.env.qual++"<lambda>") d m b j) LT aE aI aX λf J g _ F=>⟨f,rfl,g,F⟩) λu af ⟨y,J,T,ba,f,bc,U,F⟩=>?_);subst bc;cases ba;refine kws_nil ?_;show wpAny (UV X.prog X.w) X.A (call (.builtin "sorted") [.ref l] [(Str.ofString "key",.ref f)]) (hf X aa ae Q) X.xe af
 refine vI (xs:=xs) (kz:=kz) T (λbZ b0 ag=>?_) a6 a5 (λi x v bf bj bq W L bw hc g3=>?_) λL bD bG g3 bK p1 p2=>q L bD bG (U.trans g3) bK p1 p2
 ·rcases R.grow U with R|⟨n,b6,W,rfl⟩
  ·obtain⟨Y,aw,bL,_⟩:=T.list (cE.of R);exact yQ bL.isList (by rw[XO,<-aw.length];lia) λZ z kp=>ag Z af.toks Y z kp aw
  obtain⟨t,u,v,e⟩:=T.ep _ _ W;exact vQ (n:=n) (show X.A.handled=none from M.hd) e (small_one (by lia) (by lia) (by lia) (by lia)) (by rw[rangeSize_one];split<;>lia) (by lia) λZ bM h1 z kp bS=>ag Z bM h1.toList z kp (vN bS)
 refine yS (A:=X.A.in1.in1) (show X.A.frames=some X.stack from hc.ok.frames) (show X.A.handled=none from M.hd) (show X.A.depth<Yv from M.depth) hc (F.grow g3) S bq (λN c O=>aK v N c O) λP=>?_;obtain⟨G,bT,bU⟩:=aM f P bw L;exact⟨G,bT,ask i _ bf bj W L (U.trans g3) G bU⟩
end
def KC(h:bd)(f:ZO)(e:ZK)(g:ZI)(k:ZK->Prop):Prop:=∃key:D->Int,e.length<64/\(∀j∈f,g[j]?≠some .bag)/\(∀d∈e,h (.val d::f.map (j8 g)) λy=>y=.int (key d)) /\
 ∀c:ZK,c.Perm e->c.Pairwise (λa b=>key a<=key b)->k c
def vE(u b:bd)(c:ZO):cJ:=λa k=>u a λx=>∃n:Nat,x=.int n/\KC b c ((S7 n).map λi:Nat=>D.int i) a k
theorem aL.grown{K:Zv}{R:ak}{W:TE->Prop}{B H H':ak}{b:St}{c:ZI}(e:aL K R W B H b c)(g:jb H H'):aL K R W B H' b c:=
 e.gH (λa o h _=>g a o h) λa h=>by
  obtain⟨x,y,q,r⟩:=(e.hx h).2;exact⟨x,y,g _ _ q,r⟩
theorem KD{K:Zv}{B:ak}:∀{c:ZL}{d:ZK},b_ K B c d->∀p∈d.zip c,bE K B p.2 p.1
 |_,_,.nil,p,b=>by cases b
 |_,_,.cons a r,p,b=>by
  rw[Vs]at b;rcases SG.mp b with rfl|b
  ·exact a
  exact KD r p b
theorem D4{K:Zv}{B:ak}:∀{a:List (D×V)},(∀p∈a,bE K B p.2 p.1)->b_ K B (a.map Us) (a.map Vv)
 |[],_=>.nil
 |p::a,h=>.cons (h p Sw) (D4 λq b=>h q (SA _ b))
theorem KF(a:D->Int):∀(b:ZK)(c:ZL),(b.map a).zip c=(b.zip c).map λp=>(a p.1,p.2)
 |[],_=>by simp
 |_::_,[]=>by simp
 |d::b,v::c=>by rw[SI,Vs,Vs,SI,KF a b c]
theorem vC{K:Zv}{B:ak}(n:Nat):b_ K B ((S7 n).map λi:Nat=>V.int i) ((S7 n).map λi:Nat=>D.int i):=by
 induction S7 n with
 |nil=>exact .nil
 |cons a l b=>exact .cons (.int _) b
theorem vB{K:Zv}{w:bd}{m:ZO}{R:ak}{W:TE->Prop}{c n:ak}{g:St}{h:ZI}{d:ZK}{e:ZL}{l:TE}{x:ZK->Prop}{Q:cr}(H:m.Nodup)(y:aL K R W c n g h)(I:vM n l e)(r:b_ K c e d)(J:KC w m d h x)(q:∀d a e s,x d->aL K R W c s g h->R a=none->c a=none->s a=some (.lst e)->b_ K c e d->(∀i,¬cg g h i a)->Q (.ref a) s):KB (λA=>fy K A w) g n m Q [.ref l]:=by
 obtain⟨f,aC,L,M,N⟩:=J;have ln:=r.length;refine⟨l,e,d.map f,rfl,I,by lia,by rw[Sv];lia,λi aD O P B S t A T=>?_,λS U aE t X p1 p2=>?_⟩
 ·rw[SP]at B;obtain⟨Y,C,rfl⟩:=UE.mp B;obtain⟨aG,E,Z⟩:=r.fK P;rw[C]at E;cases E;have u:=y.grown t;have h1:=(u.within 1 H).fV 0 Z;refine T _ _ (M Y (S' C)) _ _ _ _ _ _ h1 λaI ah aK aM aa hi g3 af=>?_;subst aa;refine⟨by cases af;rfl,λb o hc=>?_⟩;refine hi.fr b o hc λ⟨j,aj,_,v⟩=>L j aj v
 rw[KF]at p1;obtain⟨k,F,rfl⟩:=tJ p1 rfl;have G:∀z∈k,bE K c z.2 z.1:=λz ao=>KD r z (F.mem_iff.mp ao);have au:(k.map λp=>(f p.1,p.2)).map Us=k.map Us:=by rw[SM];rfl
 rw[au];have u:=y.grown t;obtain⟨av,aw,ax,az,aB⟩:=u.i_ X (D4 G);refine q _ U _ _ (N (k.map Vv) ?_ ?_) av aw ax az (D4 G) aB
 ·have:=F.map Vv;rwa[List.map_fst_zip (by lia)]at this
 rw[Xc]at p2⊢;exact p2
section
variable{X:aT}{a:Wp}{u l:bd}{p t o m r kp:Pos}{g:X2}{j:Wp}{b:XW}{i:List (Str×TE)}{x:Str}{fr:ZS}{js:ZO}{k:Nat}
theorem vA(F:ez k X.A)(G:br X a u)(w:eG X "range")(y:X.mg "range"=none)(I:eG X "sorted")(J:X.mg "sorted"=none)(LT:tG X.K X.mg X.env.code (X.env.qual++"<lambda>"))(L:defaultsOf g X.env=([],[]))(M:Zp b X.env=pure i)(S:yR X x fr js b i)(N:js.Nodup)(O:∀u P c T,YX (kla_fn "<lambda>" (X.env.qual++"<lambda>") g j b i P (.ref c) T) ⟨[u],[]⟩=pure [(x,u)])(U:∀f C s H,br (vK X X.A.in1.in1 (x::fr) (X.env.qual++"<lambda>") b i f C s H) j l)(Y:eN X a []:=by rfl)(Z:UF [a] X.env=[(false,Yk a X.env)]:=by rfl):
  j2 X (.Call (.Name "sorted" p) [.Call (.Name "range" t) [a] [] o] [⟨some "key",.Lambda g j b r,kp⟩] m) (vE u l js):=by
 obtain⟨_,aa,hi⟩:=G;refine⟨_,vF (Rd:=λae=>fy X.K ae l) F I J (d8 (vJ w y (d8 aa fa Y) Z) fa rfl) LT L M S O (λf C s H=>U f C s H) rfl rfl,λhc a3 h R W B H aj Q e q=>?_⟩;refine hi hc _ h R W B H aj _ e λd v ar a4 av aw ax ay=>?_;obtain⟨n,rfl,E⟩:=av;refine⟨n,by rw[ay.eX],λp aE=>?_⟩;have aH:=aw.e8 aE (.rng 0 n);refine vB N aH (.inr ⟨n,?_,dL,rfl⟩) (vC n) E λaI a aK aM z e aN aO aP aS aV=>q aI a aK ar aM z e ax aN aO aP aS aV;obtain⟨_,aX,_⟩:=E;simpa using aX
end
section
variable{j:WP}{w:Xy}{A:Xz}{E:SC->Tl->Prop}{s:Tl}
theorem vz(a v:SC):argsOk "max" ⟨[a],[(Str.ofString "default",v)]⟩:=by unfold argsOk;kernel_rfl
theorem vy{id:String}{b:Yw}{args:ZT}{c:List (Str×SC)}{Q:SC->Tl->Prop}(h:builtinKind id=none)(i:plainId id=true)(k:entryFor table id=some b)(l:argsOk id ⟨args,c⟩)(d:wpAny (UV j w) A.in1 (b ⟨args,c⟩) (λm a=>match m with
   |.done f=>(match (Except.ok f:ZC)with|.ok (.ret v)=>Q v a|.ok _=>False|.error e=>E e a)
   |.again g=>g.quiet=true/\codeAny (UV j w) A g (λr a=>match r with|.ok (.ret v)=>Q v a|.ok _=>False|.error e=>E e a) a) E s):wpAny (UV j w) A (call (.builtin id) args c) Q E s:=by
 refine wpAny_call (codeAny_call_builtin i k ?_);simp only[checkBuiltinCall,h];cases q:Manifest.signature? id with
 |none=>exact SZ d
 |some sig=>
  have z:Bind.checkArgs id sig ⟨args,c⟩=pure ():=by simpa only[argsOk,q]using l
  simp only[z];exact SZ d
def KH(G:Int->Prop)(a:Array SC):Prop:=a = #[]\/∃m t,a = #[.int m t,.int m t]/\G m
theorem vx{I S:TE}{M C:ZU}{n:Nat}{P:Nat->SC->Prop}{St:Nat->XE->Prop}{R:ZC->Tl->Prop}{G:Int->Prop}{d:SC}(W:Walks j w A.in1 I M C n P St)(U:∀i v,P i v->∃m t,v=.int m t/\G m)(N:S∉M):
  ∀(k i:Nat)(s:Tl)(a:Array SC)(c:Nat),n-i=k->i<=n->St i s.heap->KH G a->s.heap.get? S=some {cls:=.type "list",dict:=none,data:=.seq a c,slots :=#[]}->
  (∀v h' f,(v=d\/∃m t,v=.int m t/\G m)->(∀b o,b∉C->b≠S->s.heap.get? b=some o->h'.get? b=some o)->R (.ok (.ret v)) {s with heap:=h',toks:=f})->
  codeAny (UV j w) A (.builtin "max.loop" ⟨[.ref I,.none,.ref S],[(Str.ofString "default",d)]⟩) R s:=by
 have O:S∉C:=λh=>N (W.sub _ h);have E:(toString "max"++toString ".loop":String)="max.loop":=by decide
 intro k;induction k with
 |zero=>
  intro i s a c Y Z st p q r;have e:i=n:=by lia
  subst e;refine Yq Xe ?_;rw[Around.under_plainId UX _];show wpAny _ A.in1 (seqItems? (.ref S) >>= _) _ _ s
  refine wp (Yx q rfl ?_);show wpAny _ A.in1 (tryCatch (YR (.ref I)) _ >>= _) _ _ s
  refine wp (Y9 (W.done s _ _ st λh' f kp=>?_));have l:=kp S _ O q;rcases p with rfl|⟨m,t,rfl,g⟩
  ·exact wp (Yb (SZ (r d h' f (.inl rfl) λb o x _ z=>kp b o x z)))
  show wpAny _ A.in1 (updateSeq S (λ_ => #[]) >>= _) _ _ _
  refine wp (YW l rfl (wp (YH (SZ ?_))));exact r _ _ f (.inr ⟨m,t,rfl,g⟩) λb o x y z=>(Heap.get?_update_other _ _ (Ta y)).trans (kp b o x z)
 |succ k Q=>
  intro i s a c Y Z st p q r;have lt:i<n:=by lia
  refine Yq Xe ?_;rw[Around.under_plainId UX _];show wpAny _ A.in1 (seqItems? (.ref S) >>= _) _ _ s
  refine wp (Yx q rfl ?_);show wpAny _ A.in1 (tryCatch (YR (.ref I)) _ >>= _) _ _ s
  refine wp (Y9 (W.item i s _ _ lt st λv h' f f' T kp=>?_));have l:=kp S _ O q;obtain⟨m,t,rfl,g⟩:=U i v f'
  have put:∀u:Array SC,KH G u->codeAny (UV j w) A (.builtin "max.loop" ⟨[.ref I,.none,.ref S],[(Str.ofString "default",d)]⟩) R {s with heap:=h'.update S (Obj.mapSeq λ_=>u),toks:=f}:=λu h1=>
   Q (i+1) _ u _ (by lia) lt (W.frame _ _ _ T λb p o e=>(Heap.get?_update_other _ _ (λh:S=b=>N (by rw[h];exact p))).trans e) h1 (Heap.get?_update_self _ l rfl) λv F H J K=>r v F H J λb o x y z=>K b o x y ((Heap.get?_update_other _ _ (Ta y)).trans (kp b o x z))
  rcases p with rfl|⟨B,L,rfl,af⟩
  ·show wpAny _ A.in1 (updateSeq S (λ_ => #[.int m t,.int m t]) >>= _) _ _ _
   refine wp (YW l rfl ?_);rw[E];exact SZ ⟨Yl UX _,put _ (.inr ⟨m,t,rfl,g⟩)⟩
  show wpAny _ A.in1 (tryCatch (Yu [.int m t,.int m t] (richCompare .Gt (.int m t) (.int B L) >>= _)) _ >>= _) _ _ _
  refine wp (Y9 (W1 (wp (CmpOf.ints_gt (P:=λi v=>∃t,v=.int (if i=0 then m else B) t) (λi=>if i=0 then m else B) (λ_ _ h=>h) 0 1 _ _ _ _ _ ⟨t,rfl⟩ ⟨L,rfl⟩ ?_))));refine wp (W1 (XF ?_));refine wp (YH (SZ ?_));refine wpAny_ite_split (λ_=>?_) λ_=>?_
  ·refine wp (YW l rfl (wp (YH ?_)));rw[E];exact SZ ⟨Yl UX _,put _ (.inr ⟨m,t,rfl,g⟩)⟩
  refine wp (YH ?_);rw[E];exact SZ ⟨Yl UX _,Q (i+1) _ _ c (by lia) lt T (.inr ⟨B,L,rfl,af⟩) l λv F H J K=>r v F H J λb o x y z=>K b o x y (kp b o x z)⟩
theorem vv{l:TE}{c:ZT}{d:SC}{G:Int->Prop}{Q:SC->Tl->Prop}(q:A.handled=none)(f:s.heap.IsList l c.toArray)(r:∀v∈c,∃m t,v=.int m t/\G m)(h:∀v h' g,(v=d\/∃m t,v=.int m t/\G m)->(∀b o,s.heap.get? b=some o->h'.get? b=some o)->Q v {s with heap:=h',toks:=g}):
  wpAny (UV j w) A (call (.builtin "max") [.ref l] [(Str.ofString "default",d)]) Q E s:=by
 have u:(toString "max"++toString ".loop":String)="max.loop":=by decide
 refine vy PySem.F.kind_max PySem.F.plain_max PySem.F.entry_max (vz _ _) ?_;show wpAny _ A.in1 (Builtin.Builtins.bindParams "max" ["key","default"] 0 ⟨[],[(Str.ofString "default",d)]⟩ >>= _) _ _ s
 refine wp (Zb (show Builtin.Builtins.bindParams "max" ["key","default"] 0 ⟨[],[(Str.ofString "default",d)]⟩=pure [none,some d]from rfl) ?_);refine wp (SZ ?_);have k:l<s.heap.objs.size:=by obtain⟨_,e,_⟩:=f;exact Heap.lt_size e
 refine wp (Yc f ?_);refine wp (Xv ?_);rw[u];let a:=s.heap.push {cls:=.type "list_iterator",data:=.fields #[.ref l,.int 0 0]}
 have W:=Walks.list (prog:=j) (w:=w) (A:=A.in1) q s.heap.objs.size l (S5 k) c.toArray;have st:a.IsListIter s.heap.objs.size l 0/\a.IsList l c.toArray:=⟨⟨_,Heap.get?_push_size _ rfl,rfl,rfl⟩,f.push _⟩;have n:a.objs.size=s.heap.objs.size+1:=Heap.size_push _ _
 have x:a.objs.size∉[s.heap.objs.size,l]:=by
  intro m;rw[n]at m;rcases SG.mp m with e|m
  ·exact absurd e (T9 (Nat.lt_succ_self _))
  rcases SG.mp m with e|m
  ·exact absurd e (T9 (Xf k))
  cases m
 refine SZ ⟨Yl UX _,vx (G:=G) (S:=a.objs.size) W (λi v e=>?_) x _ 0 _ #[] _ rfl (Td _) (W.frame _ _ _ st λb _ o e=>Heap.get?_push_of_some _ e) (.inl rfl) (Heap.get?_push_size _ rfl) λv h' g f' kp=>?_⟩
 ·rw[List.getElem?_toArray]at e;exact r v (S' e)
 refine h v h' g f' λb o e=>?_;have p:=Heap.lt_size e
 exact kp b o (λm=>by
  rcases SG.mp m with e|m
  ·exact absurd e (S5 p)
  cases m) (by rw[n];exact S5 (Xf p)) (Heap.get?_push_of_some _ (Heap.get?_push_of_some _ e))
end
def vu(f:e3)(g:bH):bH:=λb H Q=>f b H λh c=>∃(l:TE)(a:ZH),h=[.ref l]/\c l=some (.lst (a.map V.int))/\g b c λy e=>∃d,y=.int d/\e l=some (.lst (a.map V.int))/\∀m,(m=d\/m∈a)->Q (.int m) e
theorem KL:∀{a:ZH}{b:ZT},bO (a.map V.int) b->∀v∈b,∃m t,v=.int m t/\m∈a
 |[],_,.nil,v,h=>by cases h
 |n::a,_,.cons r t,v,h=>by
  rcases SG.mp h with rfl|h
  ·obtain⟨t,e⟩:=r;exact⟨n,t,e,Sw⟩
  obtain⟨m,t,e,q⟩:=KL t v h;exact⟨m,t,e,SA _ q⟩
section
variable{X:aT}{a d:Wp}{c:e3}{e:bH}{p b kp:Pos}{k:Nat}
theorem vt(r:ez k X.A)(x:eG X "max")(z:X.mg "max"=none)(B:hg X [a] c)(C:bQ X d e)(E:X9 b (UF [a] X.env)=(false,Yk a X.env)::X9 b (UF [] X.env):=by rfl)(F:(X9 b (UF [a] X.env)).any (·.1)=false:=by rfl):
  bQ X (.Call (.Name "max" p) [a] [⟨some "default",d,kp⟩] b) (vu c e):=by
 intro f s g H Q I h;refine XU (oE I x z (by decide +kernel:XM "max"=some (.builtin "max")) ?_);refine callWith_kw (cq (B b f s g H _ I h) λZ J ⟨h1,K,L,M,i⟩=>?_) E F;obtain⟨l,N,rfl,aa,i⟩:=i;obtain⟨u,rfl,O⟩:=fo M;cases O;refine kws_cons (cq (C f J g K _ L i) λu P ⟨y,o,j,R,d,S,T,q⟩=>?_);subst S;obtain⟨t,rfl⟩:=R;refine kws_nil ?_;obtain⟨U,W,Y,_⟩:=j.list (cE.of T);show wpAny (UV X.prog X.w) X.A (call (.builtin "max") [.ref l] [(Str.ofString "default",.int d t)]) (hf X f g Q) X.xe P
 refine vv (G:=λm=>m∈N) (show X.A.handled=none from r.hd) Y.isList (KL W) λv hi ae f' kp=>?_;rcases f' with rfl|⟨m,af,rfl,n⟩
 ·exact⟨.int d,o,j.kept kp,⟨_,rfl⟩,q d (.inl rfl)⟩
 exact⟨.int m,o,j.kept kp,⟨_,rfl⟩,q m (.inr n)⟩
end
def vl(u c:bd):bd:=λa k=>u a λx=>∃b:ZH,x=.lst (b.map D.int)/\c a λy=>∃d,y=.int d/\∀m,(m=d\/m∈b)->k (.int m)
theorem vk{X:aT}{a d:Wp}{u i:bd}{p b kp:Pos}{k:Nat}(z:ez k X.A)(C:br X a u)(E:br X d i)(F:eG X "max")(c:X.mg "max"=none)(G:eN X a []:=by rfl)(I:X9 b (UF [a] X.env)=(false,Yk a X.env)::X9 b (UF [] X.env):=by rfl)(J:(X9 b (UF [a] X.env)).any (·.1)=false:=by rfl):
  br X (.Call (.Name "max" p) [a] [⟨some "default",d,kp⟩] b) (vl u i):=by
 obtain⟨_,K,L⟩:=C;obtain⟨_,M,N⟩:=E;refine⟨_,vt z F c (d8 K fa G) M I J,λj ai h R W B H n Q e q=>?_⟩;refine L j _ h R W B H n _ e λx v O P f o S T=>?_;obtain⟨U,rfl,f⟩:=f;obtain⟨l,hc,rfl,r,Y⟩:=T.fk;have Z:=BC Y;subst Z;refine⟨l,U,rfl,o.bh _ _ r,N j _ f R W O P n _ o λy v hi ae g t w af=>?_⟩;obtain⟨d,rfl,g⟩:=g;exact⟨d,by rw[af.eX],t.bh _ _ (w.s _ _ r),λm c=>q _ _ hi ae (g m c) t (S.trans w) (.int m)⟩
def yZ(K:Zv)(a:Str->Option SC)(x:Str):Prop:=∀f o b,a x=some (.ref f)->K.lookup f=some o->o.data=.func b->tG K a b.code (x++".<locals>."++"<lambda>")
section
variable{P:WP}{w:Xy}{K:Zv}{c:Str->Option SC}{a:XE}{x:Str}{st:XD}{N d:ZS}
theorem xm{k:Nat}{sp:iW}(F:cG K c x st d)(L:yZ K c x)(S:cy N d (bN st))(i:∀vs H Q E,sp vs H Q E->vs.length=d.length)(l:∀(f:TE)(g:SC)(A:Xz)(e:List Tv)(s:Tl)(H:ak)(vs:ZL)(Q:cr)(E:gW),tG K c g (x++".<locals>."++"<lambda>")->ez k (A.deeper (Y5 x (bN st) s.heap.objs.size f g))->sp vs H Q E->∃t,jd (k6 j0 P w K c a N x (bN st) f g A e s H E).jD (jZ st) t/\t {nx:=λ_ n=>Q .non n,rt:=Q} (L3.fP N vs) H):ca P w K c a x d (k+1) sp:=by
 obtain⟨f,o,m,j,b⟩:=F.ex;refine⟨f,o,m,j.kp,b,?_⟩;obtain⟨C,G,kV,p,I,J,g,M,r,rfl,lk,u⟩:=j.ex;refine FU lk u S i λA e s H vs Q E v y=>?_;obtain⟨t,h,q⟩:=l f g A e s H vs Q E (L f _ _ m lk rfl) v y;exact⟨t,h.jD,q⟩
theorem w_{y n:Nat}{F:cb}(J:cG K c x st d)(L:yZ K c x)(S:cy N d (bN st))(M:d.length=n)(O:∀(f:TE)(i:SC)(A:Xz)(b:List Tv)(s:Tl)(H:ak)(E:gW),tG K c i (x++".<locals>."++"<lambda>")->ez y (A.deeper (U4 x (bN st) s.heap.objs.size f i))->∃u,hE (k6 j0 P w K c a N x (bN st) f i A b s H E).jD (jZ st) u/\∀j k,j.length=n->F j k->u {nx:=λ_=>k (.val .non),rt:=k} (j++SS (N.length-n) .no)):ca P w K c a x d (y+1) (ck K n F):=by
 refine xm J L S (λG H Q E h=>?_) (λf i A b s H G Q E LT R h=>?_)
 ·obtain⟨W,B,j,k,_,l,_,_,_,m,_⟩:=h;rw[m.length,l,M]
 obtain⟨W,B,j,k,T,l,U,X,Y,m,q⟩:=h;obtain⟨u,⟨t,Z,C⟩,h1⟩:=O f i A b s H E LT R;have I:=aL.start (N:=N) (Vk U) X Y m;rw[l]at I;refine⟨t,Z,C _ _ (h1 j k l T) H W B H (L3.fP N G) _ I ⟨λhi af o p h e g=>?_,λ_ _ _ _ h=>h.elim,λ_ _ _ _ h=>h.elim,λr v o p h e g z=>q r v o p h ⟨e,g,z⟩⟩⟩;exact q _ _ o p h ⟨e.toWd,g,.non⟩
end
theorem D8{a:Type}{y:Str}{v:a}:∀{l:List (Str×a)},l.lookup y=some v->(y,v)∈l
 |[],h=>by cases h
 |p::l,h=>by
  rw[V1]at h;by_cases e:(y==p.1)=true
  ·rw[e]at h;have:=SN h;have b:y=p.1:=by simpa using e
   rw[b,<-this];exact Sw
  rw[show(y==p.1)=false from by simpa using e]at h;exact SA _ (D8 h)
theorem w5{X:aT}{x:Str}{k:ZS}{o:ZO}{b:XW}{d:List (Str×TE)}(t:b.kind=.function)(u:b.isCoroutine=false)(v:b.isGenerator=false)(w:b.names.lookup x=some .local)(z:(b.names.all λp=>match p.2 with|.cell=>false|.free=>(d.lookup p.1).isSome|_=>true)=true)(A:(d.map λp=>X.env.cells.lookup p.1)=d.map λp=>some p.2)(B:(x::k).Nodup)(q:(o.map λj=>X.N[j]?)=k.map some)(C:(k.map λy=>b.names.lookup y)=k.map λ_=>some .free)(E:(k.map λy=>X.env.kindOf y)=k.map λ_=>some .cell):yR X x k o b d:=by
 have all:=Uz.mp z;have at_:∀{r F:Type}{f g:r->F}{l:List r},l.map f=l.map g->∀a∈l,f a=g a:=λh a m=>List.map_inj_left.mp h a m;refine⟨t,u,v,w,λy n e=>?_,λy n=>?_,λy c G=>at_ A _ (D8 G),?_,B,λi y j n H=>?_⟩
 ·have:=all y n;rw[e]at this;cases this
 ·have:=all _ (D8 n);exact VL.mp this
 ·have:=TW S6 q;simpa using this.symm
 have s:=S' n;refine⟨?_,at_ C y s,.inl (at_ E y s)⟩;have:=TW (λl=>l[i]?) q;simp only[SP,H,n,UN]at this;exact SN this
def lJ(h:XE)(a:TE):Option Obj:=(h.get? a).filter λo => !isTab o
def KN(h:XE):Zv:=(S7 h.objs.size).filterMap λa=>(lJ h a).map λo=>(a,o)
def rX(x:Str):Str:=x++".<locals>."++"<lambda>"
def vO(P:TE)(q:Str):Obj:=⟨.none,none,.fields #[.ref P,.str q 0],#[]⟩
def D9(h:XE)(a:ZS):Zv:=a.filterMap λx=>(lP h x).map λP=>(Uf,vO P (rX x))
def ot(h:XE)(a:ZS):Zv:=KN h++D9 h a
theorem rY{h:XE}{a:TE}{o:Obj}(e:h.get? a=some o)(n:isTab o=false):lJ h a=some o:=by simp[lJ,e,n,Option.filter]
theorem D'{h:XE}{a:TE}{o:Obj}(e:lJ h a=some o):h.get? a=some o:=by
 unfold lJ at e;exact(Option.filter_eq_some_iff.mp e).1
theorem wN(h:XE)(a:TE):(KN h).lookup a=lJ h a:=by
 refine(Hn (lJ h) a _).trans ?_;by_cases e:a<h.objs.size
 ·rw[SL (TG.mpr e)]
 rw[Tk (λz=>e (TG.mp z))];simp[lJ,Heap.get?_none_of_le (Nat.le_of_not_lt e)]
theorem Ea{h:XE}{a:TE}(n:a≠Uf):∀c:ZS,(D9 h c).lookup a=none
 |[]=>rfl
 |x::c=>by
  unfold D9;cases q:lP h x with
  |none=>
   rw[WQ (by rw[q];rfl)];exact Ea n c
  |some P=>
   rw[WR (b:=(Uf,vO P (rX x))) (by rw[q];rfl),V1];have:(a==Uf)=false:=by simpa using n
   rw[this];exact Ea n c
theorem wI{h:XE}{b:ZS}{c:Obj}(d:lJ h Uf=some c)(a:TE):(ot h b).lookup a=lJ h a:=by
 unfold ot;rw[List.lookup_append,wN];by_cases e:a=Uf
 ·subst e;rw[d];rfl
 rw[Ea e];simp
section
variable{h:XE}{K:Zv}(b:∀a,K.lookup a=lJ h a)
include b
theorem rZ{name:Str}{r:Option SC}(e:lO h name=some r):nsIn K Uf name=some r:=by
 unfold lO at e;split at e
 ·rename_i c d f a
  unfold nsIn;rw[b,rY a rfl];exact e
 cases e
theorem wH{f:SC}{q:Str}(e:zu h f q=true):codeIn K f q=true:=by
 unfold zu at e;split at e
 ·split at e
  ·rename_i c g i a j k
   split at e
   ·rename_i x n t r d
    have l:isTab ⟨g,i,.fields a,j⟩=false:=by
     have:a.isEmpty=false:=by
      cases z:a.isEmpty with
      |false=>rfl
      |true=>
       rw[Vw]at z;rw[z]at d;cases d
     unfold isTab;simp only[this];rfl
    unfold codeIn;simp only[b,rY k l,d];exact e
   cases e
  cases e
 cases e
theorem wz{x:Str}{st:XD}(e:zv h x=zw x st):xA K x st:=by
 unfold zv at e;split at e
 ·rename_i f a
  split at e
  ·rename_i oc od c osl d
   obtain⟨j,k,l,g,sc,m,n,i,lB,doc,pm,an,cdv,ct,o⟩:=c;rw[Ce]at e;simp only[Vx,UD]at e;obtain⟨rfl,rfl,rfl,rfl,rfl,rfl,rfl,rfl,rfl,e⟩:=e;have lk:=(b f).trans (rY d rfl);refine⟨f,_,rZ b a,OV (oc:=oc) (od:=od) (osl:=osl) (kV:=lB) (doc:=doc) (pm:=pm) (an:=an) (cdv:=cdv) (ct:=ct) lk (wH b e) ?_⟩;unfold keepIn;simp only[lk]
  rw[Ce]at e;cases e
 rw[Ce]at e;cases e
theorem wo{x:Str}{i j:Int}(e:zx h x=some (x,i,j)):xB K x i j:=by
 unfold zx at e;split at e
 ·rename_i p f
  split at e
  ·rename_i g a n k l
   split at e
   ·rename_i m c o d q
    simp only[Vx,UD]at e;obtain⟨_,rfl,rfl⟩:=e;have r:a = #[.int m c,.int o d]:=Array.toList_inj.mp q;subst r;exact⟨p,g,k,n,c,d,rZ b f,(b p).trans (rY l rfl)⟩
   cases e
  cases e
 cases e
theorem wk{x:Str}{c:Int ⊕ Str}(e:zy h x=some (x,c)):Hq K x c:=by
 unfold zy at e;split at e
 ·rename_i i t a
  simp only[Vx,UD]at e;obtain⟨_,rfl⟩:=e;exact⟨t,rZ b a⟩
 ·rename_i i t a
  simp only[Vx,UD]at e;obtain⟨_,rfl⟩:=e;exact⟨t,rZ b a⟩
 cases e
theorem lI{t:mo}{w:Xy}{s:Tl}(i:s.heap=h)(e:zz t s=zA t w):m_ t K:=by
 subst i;simp only[zz,zA,UD]at e;obtain⟨c,d,f,g⟩:=e;refine⟨?_,?_,?_,?_⟩
 ·generalize t.fs=l at c;induction l with
  |nil=>trivial
  |cons p l a=>
   simp only[SI,US]at c;exact⟨wz b c.1,a c.2⟩
 ·generalize t.bs=l at d;induction l with
  |nil=>trivial
  |cons p l a=>
   simp only[SI,US]at d;exact⟨rZ b d.1,a d.2⟩
 ·generalize t.ts=l at f;induction l with
  |nil=>trivial
  |cons p l a=>
   simp only[SI,US]at f;exact⟨wo b f.1,a f.2⟩
 generalize t.cs=l at g;induction l with
 |nil=>trivial
 |cons p l a=>
  simp only[SI,US]at g;exact⟨wk b g.1,a g.2⟩
end
theorem we{o:Obj}(e:isTab o=true):o={cls:=.none,data:=.fields #[]}:=by
 obtain⟨d,f,g,h⟩:=o;unfold isTab at e;split at e
 ·rename_i i j
  have k:g=.fields i:=j;subst k;rw[TQ,TQ]at e;obtain⟨⟨a,l⟩,b⟩:=e;rw[Vw]at a;have m:h = #[]:=Vw.mp l;subst a m;split at b
  ·rename_i n p
   have q:d=.none:=n;have r:f=none:=p;subst q r;rfl
  cases b
 cases e
theorem KP{h:XE}{x:Str}{P:TE}(e:lP h x=some P):∃f o g c j,lO h x=some (some (.ref f))/\h.get? f=some o/\o.data=.func g/\g.code=.ref c/\h.get? c=some j/\isTab j=false /\
  ∀i:XE,i.get? c=some j->CodeHd i c P/\isCodeTable i P:=by
 unfold lP at e;split at e
 ·rename_i f p
  split at e
  ·rename_i I J g K r
   split at e
   ·rename_i c s
    split at e
    ·rename_i t a u v
     split at e
     ·rename_i w y A k B b C E d l F m G
      split at e
      ·cases e
      rename_i H
      cases e;have n:a.getD 11 .none=.ref P:=by rw[Array.getD_eq_getD_getElem?,d];rfl
      refine⟨f,_,g,c,_,p,r,rfl,s,v,?_,λi q=>⟨⟨_,a,y,A,k,B,b,C,E,q,rfl,rfl,d,n,l,F,m,G,H⟩,c,_,a,q,rfl,rfl,d⟩⟩
      have:a.isEmpty=false:=by
       cases z:a.isEmpty with
       |false=>rfl
       |true=>
        rw[Vw]at z;rw[z]at d;cases d
      unfold isTab;simp only[this];rfl
     cases e
    cases e
   cases e
  cases e
 cases e
theorem Ec{h:XE}{a:TE}(e:wg h=some a):∃o,lO h "__builtins__"=some (some (.ref a))/\h.get? a=some o/\isTab o=false/\o.cls=.type "module"/\o.dict=some XX/\o.data=.plain:=by
 unfold wg at e;split at e
 ·rename_i b c
  split at e
  ·rename_i d g f
   split at e
   ·rename_i z
    cases e;subst z;exact⟨_,c,f,rfl,rfl,rfl,rfl⟩
   cases e
  cases e
 cases e
structure r0(h:XE)(ls:ZS)(eE:TE):Prop where
 m:wg h=some eE
 b:eE≠XX
 g:eE≠Uf
 t:∀x∈ls,∃P,lP h x=some P/\P≠Uf/\P≠eE/\h.get? P=some {cls:=.none,data:=.fields #[]}/\(ls.find? λy=>lP h y==some P)=some x
theorem wc{h:XE}{f:ZS}(e:zB h f=true):∃b,r0 h f b:=by
 unfold zB at e;split at e
 ·rename_i b j
  rw[TQ,TQ]at e;obtain⟨⟨k,l⟩,m⟩:=e;refine⟨b,j,by simpa using k,by simpa using l,λx n=>?_⟩;have c:=Uz.mp m x n;unfold Fj at c;rw[TQ]at c;obtain⟨a,g⟩:=c;split at a
  ·rename_i P i
   rw[TQ,TQ]at a;obtain⟨⟨p,q⟩,d⟩:=a;split at d
   ·rename_i o r
    refine⟨P,i,by simpa using p,by simpa using q,by rw[r,we d],?_⟩;rw[i]at g;exact eq_of_beq g
   cases d
  cases a
 cases e
theorem KQ{h:XE}{x:Str}{r:Option SC}(e:lO h x=some r):∃o,h.get? Uf=some o/\isTab o=false/\∀a,o.data≠.fields a:=by
 unfold lO at e;split at e
 ·rename_i b
  exact⟨_,b,rfl,λa z=>by cases z⟩
 cases e
def Ee(K:Zv)(x:Str):Prop:=∀(h:XE)(a:Str->Option SC),K.In h->h.Ns Uf a->yZ K a x
section
variable{h:XE}{d:ZS}{i:TE}(L:r0 h d i)
include L
theorem r0.at(a:TE):(ot h d).lookup a=lJ h a:=by
 obtain⟨o,b,_⟩:=Ec L.m;obtain⟨c,e,n,_⟩:=KQ b;exact wI (rY e n) a
theorem r0.n6:(ot h d).In h:=λa o e=>D' ((L.at a).symm.trans e)
theorem r0.n5{x:Str}(k:x∈d):Ee (ot h d) x:=by
 intro a R X G f o S r lk l;obtain⟨P,n,nP,s,T,_⟩:=L.t x k;obtain⟨U,W,u,c,v,w,y,A,B,C,E,F⟩:=KP n;obtain⟨H,I,J,K,M,N,O⟩:=Ec L.m;have p:=mg_of X G (rZ L.at w);have Q:=mg_of X G (rZ L.at I);rw[r]at p;cases p;have q:=D' ((L.at f).symm.trans lk);rw[y]at q;cases q;rw[A]at l;cases l;have gA:∀a:XE,(ot h d).In a->a.get? c=some v:=λa X=>X _ _ ((L.at c).trans (rY C E));refine⟨c,P,B,?_,λz=>nP z.symm,λe j=>(F e (gA e j)).1,λe j=>⟨i,H,Q,L.b,L.g,λz=>s z.symm,j _ _ ((L.at i).trans (rY J K)),M,N,O⟩⟩;refine T'.mpr ⟨(Uf,vO P (rX x)),S3 _ (T'.mpr ⟨x,k,by rw[n];rfl⟩),?_⟩;simp[vO,rX]
theorem r0.marked{p:TE×Str}(i:p∈AD (ot h d)):∃x∈d,lP h x=some p.1/\p.2=rX x:=by
 obtain⟨⟨b,j⟩,mem,e⟩:=T'.mp i;rcases SO.mp mem with m|m
 ·obtain⟨a,_,q⟩:=T'.mp m;obtain⟨s,c,f⟩:=UE.mp q;cases f;have g:=D' c;obtain⟨_,k,_⟩:=Ec L.m;obtain⟨t,l,_,n⟩:=KQ k;obtain⟨u,v,w,y⟩:=j;split at e
  ·rename_i o
   cases o;split at e
   ·split at e
    ·rename_i z
     rw[z,l]at g;cases g;exact absurd rfl (n _)
    cases e
   cases e
  cases e
 obtain⟨x,r,q⟩:=T'.mp m;obtain⟨P,c,f⟩:=UE.mp q;cases f;simp[vO]at e;exact⟨x,r,by rw[c,<-e],by rw[<-e]⟩
end
def Fc(h:XE)(a:ZS):ak:=λb=>(a.find? λy=>lP h y==some b).map λx=>.tbl #[.str (rX x) 0]
def i2(t:mo)(c:ZS)(_:Xy)(h:XE):Prop:=∃(a:XE)(d:TE),(∀b o,a.get? b=some o->h.get? b=some o)/\r0 a c d/\m_ t (ot a c)
theorem Ex(t:mo)(a:ZS)(w:Xy)(s:Tl)(e:tT t a s=tU t w):i2 t a w s.heap:=by
 simp only[tT,tU,UD]at e;obtain⟨b,L⟩:=wc e.2;exact⟨s.heap,b,λ_ _ e=>e,L,lI L.at rfl e.1⟩
theorem nA(t:mo)(a:ZS)(w:Xy)(h c:XE)(y:i2 t a w h)(k:∀b o,h.get? b=some o->c.get? b=some o):i2 t a w c:=by
 obtain⟨d,f,x,r⟩:=y;exact⟨d,f,λb o e=>k _ _ (x _ _ e),r⟩
theorem nN{l:OpenLaw}{k:Nat}{q:WP}{i:ZS}{Q:(Str->Option SC)->XE->Prop}{t:mo}{n:ZS}{d:DefRec}(R:l.most=some 63)(S:d.params.defaults=[])(U:ez k Zo)(F:∀(w:Xy)(K:Zv)(m:Str->Option SC)(y:TE)(h:XE),(∀x∈n,Ee K x)->m_ t K->K.In h->h.Ns Uf m->m d.name=some (.ref y)->∃C:X4,(∀(s:Tl)(u:SC),ZE s C ⟨[u],[]⟩ [("_law_script",u)])/\∀base:XE,K.In base->base.Ns Uf m->kB l.prog w K m base j0 k y C ["_law_script"] (xj K)):
  WalkO q i Q (i2 t n) l.row.toRowW d [] (λf vs=>PySem.call f vs):=by
 refine Att.attach_call R S λw I W m ay y o az aB X a vs Z G Y aC aD aE aa hi j J ai=>?_;obtain⟨A,aH,E,L,T⟩:=Y;have M:(ot A n).In W.heap:=L.n6.keeps E;obtain⟨C,hc,aj⟩:=F w (ot A n) m y _ (λx r=>L.n5 r) T M G.T.g aa;refine OQ M G.T.g G.T.b G.T.builtins G.T.nolimit ai hi j (cf J) U aj hc (Fc A n) (λb u z=>?_) (λp ao=>?_) (λH aI aq=>⟨a,Z,rfl,aq,J,λ_=>rfl⟩) λH e aJ z=>z
 ·obtain⟨x,B,rfl⟩:=UE.mp z;have r:=List.mem_of_find?_eq_some B;have N:lP A x=some b:=by simpa using List.find?_some B
  obtain⟨P,v,_,_,O,_⟩:=L.t x r;rw[N]at v;cases v;obtain⟨_,_,_,c,aK,_,_,_,_,ar,_,au⟩:=KP N;refine⟨⟨_,rfl⟩,E _ _ O,?_,(au _ (E _ _ ar)).2⟩;rw[L.at];unfold lJ;rw[O];rfl
 obtain⟨x,r,B,av⟩:=L.marked ao;obtain⟨P,v,_,_,_,aw⟩:=L.t x r;rw[B]at v;cases v;refine⟨#[.str (rX x) 0],0,?_,by rw[av];rfl⟩;unfold Fc;rw[aw];rfl
def wa(b:Bool):V->ZL->ak->cr->Prop:=λx f H Q=>∃a c g d h e k,x=.ref a/\f=[.ref c]/\m3 H b a g d h e/\m2 H b k c/\Q ((bo d e k).getD .non) H
section
variable{X:aT}{b:Bool}
theorem v_(i:X.A.units+4<XQ):t7 X "dict.get" (wa b):=by
 intro z s B H x C v e Q I j l h;obtain⟨a,c,E,m,n,G,k,rfl,rfl,o,p,q⟩:=h;obtain rfl:v=Value.ref a:=j;obtain⟨r,rfl,t⟩:=l.one;obtain rfl:r=Value.ref c:=t;obtain⟨J,u,K,y,e,f,g,L⟩:=o.raw I.ep;have M:=f.length;refine Zs Vt g.typeIs W3 (PySem.F.args_dict_get_2 _ _) (meetsH_dict_get (lB X.prog X.w b) a c y) ⟨vb i,k,eC m n e,p.is I.ep,g,?_⟩;rw[s8 k u (by lia)];exact⟨_,H,I.tok _,IU (d:=.non) (ta k f) rfl,q⟩
end
def v'(b:Bool)(n:Nat)(g:bd):dJ:=λe k=>∃a f h c,e[n]?=some (.deep (.dl b a f h c))/\g e λy=>∃d,y=gI b d/\rJ b d/\k (match bo f c d with|some ds => !ds.isEmpty|none=>false)
section
variable{X:aT}{b:Bool}{e:Wp}{i:bd}{x:Str}{f g d:Pos}
theorem v5(n:Nat)(O:X.A.units+4<XQ)(P:br X e i)(S:gV X n x:=by rfl)(T:gh X.env.scope x:=by walk_at"v")(U:ec x:=by decide)(Y:gO x:=by decide)(Z:iq X (.Name x f) "get":=by rfl)(aa:lQ X d [e]:=by rfl)(hi:iS g d:=by rfl)(G:eN X e []:=by rfl)(ae:hy X d []:=by rfl)(ag:∀whole,Ze (.Call (.Attribute (.Name x f) "get" g) [e] [] d) X.env whole=(do let v <-whole;YO (Expr.Call (.Attribute (.Name x f) "get" g) [e] [] d).pos;Yu [v] (ZA v)):=by intro _;rfl):
  hZ X (.Call (.Attribute (.Name x f) "get" g) [e] [] d) (v' b n i):=by
 obtain⟨_,hc,aj⟩:=P;refine⟨_,AU (Kb Vt W2 (v_ (b:=b) O) (gZ S T U Y) (d8 hc fa G) Z aa hi G ae) ag,λau k h R W B H aw Q E q=>?_⟩;obtain⟨a,o,t,m,I,h⟩:=h;obtain⟨az,aG⟩:=E.eJ I;obtain⟨aH,aI,aK,aM,aN,bj⟩:=aG.ok;refine⟨_,az,⟨a,rfl,b,aH,o,aI,_,aK,m4 E.bh aN aM⟩,?_⟩;refine aj au _ h R W B H aw _ E λy v J K aO r L M=>?_;obtain⟨s,rfl,aS,u⟩:=aO;obtain⟨c,rfl⟩:=th M;obtain⟨_,aX⟩:=r.eJ I;obtain⟨a4,a5,a',ba,bb,N⟩:=aX.ok;refine⟨a,c,a4,o,a5,t.map V.ref,s,rfl,rfl,⟨a',m4 r.bh bb ba⟩,rI r.bh aS M,?_⟩;have ln:t.length=m.length:=N.len;rw[L3.h7];cases l:bo o t s with
 |none=>
  have ld:bo o m s=none:=by
   cases bc:bo o m s with
   |none=>rfl
   |some bq=>
    obtain⟨j,w,F⟩:=vD bc;have:=F t ln;have lt:=(TM.mp w).1;rw[l,S0 (by lia)]at this;cases this
  rw[ld]at u;exact⟨false,rfl,q _ J K u r L⟩
 |some p=>
  obtain⟨j,w,F⟩:=vD l;have lt:=(TM.mp w).1;have ld:bo o m s=some (m[j]'(by lia)):=by rw[F m ln.symm,S0]
  rw[ld]at u;obtain⟨vs,bf,bg⟩:=N.at_ j p _ w (S0 (by lia));refine⟨!vs.isEmpty,.inl ⟨vs,cE.of bf,rfl⟩,q _ J K ?_ r L⟩;have C:=bg.length
  have:vs.isEmpty=(m[j]'(by lia)).isEmpty:=by
   cases vs with
   |nil=>cases z:m[j]'(by lia)with
    |nil=>rfl
    |cons _ _=>rw[z]at C;cases C
   |cons _ _=>cases z:m[j]'(by lia)with
    |nil=>rw[z]at C;cases C
    |cons _ _=>rfl
  rw[this];exact u
end
abbrev jR:=ZI->(D->ZI->Prop)->Prop
def v3(K:Su)(t:bH)(u:jR):Prop:=∀(c:ZI)(k:D->ZI->Prop),u c k->∀(R:ak)(W:TE->Prop)(B H:ak)(a:St)(Q:cr),aL K R W B H a c->
 (∀d v e b f,k d e->aL K R W b f a e->bx R B b->bE K b v d->Q v f)->t a H Q
def vP(X:aT)(e:Wp)(u:jR):Prop:=∃t,bQ X e t/\v3 X.K t u
def vY(u:bd):jR:=λa k=>u a λd=>k d a
theorem KR{X:aT}{e:Wp}{u:bd}(h:br X e u):vP X e (vY u):=by
 obtain⟨t,h,r⟩:=h;exact⟨t,h,λa k z R W B H b Q e q=>r a _ z R W B H b Q e λd v c f z e g s=>q d v a c f z e g s⟩
theorem KS{f:Type}:∀{l:List f}{i j:Nat}{a:f},l.Nodup->l[i]?=some a->l[j]?=some a->i=j
 |[],_,_,_,_,h,_=>by simp at h
 |b::l,0,0,_,_,_,_=>rfl
 |b::l,0,j+1,a,e,c,d=>by
  simp at c d;subst c;exact absurd (S' d) (Tu.mp e).1
 |b::l,i+1,0,a,e,c,d=>by
  simp at c d;subst d;exact absurd (S' c) (Tu.mp e).1
 |b::l,i+1,j+1,a,e,c,d=>by
  simp at c d;rw[KS (Tu.mp e).2 c d]
def lK:List ZY->ZZ->ZY->ZK->ZZ
 |c::d,y::a,k,b=>if c=k then b::a else y::lK d a k b
 |_,a,_,_=>a
theorem Eh{i:Type}:∀{d:List ZY}{f:List i}{k:ZY}{x:i},bo d f k=some x->∃j:Nat,f[j]?=some x/\∀(b:ZZ)(c:ZK),b.length=f.length->bo d b k=b[j]?/\lK d b k c=b.set j c
 |[],_,_,_,h=>by simp[bo]at h
 |_::_,[],_,_,h=>by simp[bo]at h
 |l::d,a::f,k,x,h=>by
  rw[bo]at h;by_cases e:l=k
  ·rw[SL e]at h;cases h;refine⟨0,rfl,λb c g=>?_⟩;cases b with
   |nil=>simp at g
   |cons y b=>exact⟨by rw[bo,SL e];rfl,by rw[lK,SL e];rfl⟩
  rw[Tk e]at h;obtain⟨j,m,n⟩:=Eh h;refine⟨j+1,by simpa using m,λb c g=>?_⟩;cases b with
  |nil=>simp at g
  |cons y b=>
   obtain⟨o,p⟩:=n b c (by simpa using g);exact⟨by rw[bo,Tk e,o];rfl,by rw[lK,Tk e,p];rfl⟩
theorem KT:∀(b:List ZY)(a:ZZ)(k:ZY)(c:ZK),(lK b a k c).length=a.length
 |[],_,_,_=>by simp[lK]
 |_::_,[],_,_=>by simp[lK]
 |d::b,y::a,k,c=>by
  rw[lK];split
  ·rfl
  rw[SK,KT b a k c,SK]
def vX(b:Bool)(n:Nat)(j:bd):jR:=λg k=>∃a e h c,g[n]?=some (.deep (.dl b a e h c))/\j g λy=>∃f i d,y=gI b f/\rJ b f/\bo e c f=some (i++[d])/\k d (g.set n (.deep (.dl b a e h (lK e c f i))))
section
variable{X:aT}{b:Bool}{e:Wp}{g:bd}{x:Str}{f r m l:Pos}
theorem vW(n:Nat)(aG:X.A.units+4<XQ)(aH:br X e g)(aI:q2 e)(aM:gV X n x:=by rfl)(aN:gh X.env.scope x:=by walk_at"v")(aO:ec x:=by decide)(aS:gO x:=by decide)(aV:iq X (.Subscript (.Name x f) e r) "pop":=by rfl)(aX:iS m l:=by rfl):
  vP X (.Call (.Attribute (.Subscript (.Name x f) e r) "pop" m) [] [] l) (vX b n g):=by
 obtain⟨_,a3,a4⟩:=aH;refine⟨_,wL T3 Wl Wm F4 (k7 (IW (b:=b) aG) (gZ aM aN aO aS) a3 aI) aV aX,λa5 k h R W B H ba Q Y q=>?_⟩;obtain⟨a,C,t,s,J,h⟩:=h;obtain⟨bb,b6⟩:=Y.eJ J;refine⟨_,bb,?_⟩;refine a4 a5 _ h R W B H ba _ Y λy v bc b8 bf E bg Z=>?_;obtain⟨K,F,d,rfl,bj,L,bq⟩:=bf;obtain⟨c,rfl⟩:=th Z;obtain⟨_,G⟩:=E.eJ J;obtain⟨aa,hi,ae,ag,hc,M⟩:=G.ok;have ln:t.length=s.length:=M.len;obtain⟨b9,x1,cc⟩:=Eh L
 obtain⟨p,aj⟩:∃p,bo C t K=some p:=by
  obtain⟨j,u,N⟩:=vD L;rw[N t ln];exact⟨_,S0 (by have:=(TM.mp u).1;lia)⟩
 obtain⟨j,u,N⟩:=Eh aj;obtain⟨bw,O⟩:=N s F ln.symm;have aw:s[j]?=some (F++[d]):=bw.symm.trans L;obtain⟨P,az,S⟩:=M.at_ j p _ u aw;have ll:=S.length;rw[Sz,Tp]at ll;obtain⟨bA,bG,bK⟩:=S.get (i:=F.length) (d:=d) (by simp);have mem:p∈t:=S' u;have bM:p≠a:=λz=>(Tu.mp G.nd).1 (z▸mem);refine⟨a,c,aa,C,hi,t.map V.ref,K,.ref p,rfl,rfl,⟨ae,m4 E.bh hc ag⟩,rI E.bh bj Z,by rw[L3.h7,aj];rfl,.inl ⟨rfl,P,cE.of az⟩,p,P,bA,rfl,rfl,az,by rw[ll];exact bG,?_⟩;have bR:t.Nodup:=(Tu.mp G.nd).2;have bS:=E.kj (c':=.dl b a C t (lK C s K F)) (x:=p) (o:=.lst P.dropLast) J (SA _ mem) rfl (λy bT=>bT) G.nd ⟨aa,hi,by rw[bP (Ta bM)];exact ae,ag,hc,by rw[KT];exact ln,λi bU T I w=>?_⟩
 ·exact q _ _ _ bc _ bq bS bg bK
 rw[O]at w;by_cases U:i=j
 ·subst U;rw[u]at I;cases I;rw[TH (by have:=(TM.mp aw).1;lia)]at w;cases w;have:=S.dropLast;rw[Xg]at this;exact⟨_,dL,this⟩
 rw[Tz (Ta U)]at w;obtain⟨bY,b0,b5⟩:=M.at_ i bU T I w;refine⟨bY,?_,b5⟩;rw[bP]
 ·exact b0
 intro z;subst z;exact U (KS bR I u)
end
def vV(j:Nat):jR:=λa k=>∃(b:ZK)(z:D),a[j]?=some (.own (b++[z]))/\k z (a.set j (.own b))
section
variable{X:aT}{e:Wp}{u:jR}{b:Pos}
theorem KW(j:Nat){x:Str}{c e g:Pos}(p:gV X j x:=by rfl)(r:gh X.env.scope x:=by walk_at"v")(s:ec x:=by decide)(t:gO x:=by decide)(u:iq X (.Name x c) "pop":=by rfl)(v:iS e g:=by rfl):vP X (.Call (.Attribute (.Name x c) "pop" e) [] [] g) (vV j):=by
 refine⟨_,wL T3 Wl Wm F4 (gZ p r s t) u v,λE k h R W B H F Q f q=>?_⟩;obtain⟨l,z,m,h⟩:=h;obtain⟨a,vs,n,G,I,o,b⟩:=f.ownAt m;have ll:=b.length;rw[Sz,Tp]at ll;obtain⟨w,y,A⟩:=b.get (i:=l.length) (d:=z) (by simp);refine⟨_,n,.inl ⟨rfl,vs,cE.of o⟩,a,vs,w,rfl,rfl,o,by rw[ll];exact y,?_⟩
 have C:=f.write n m (ds':=l) (vs:=vs.dropLast) (by
  have:=b.dropLast
  rwa [Xg]at this)
 exact q _ _ _ B _ h C (bx.refl _ _) A
end
def vS(u:jR)(g:eU):cB:=λU a=>u a λd b=>g d b U.nx
abbrev nh:=ZI->(ZK->ZI->Prop)->Prop
def xU(K:Su)(t:e3)(u:nh):Prop:=∀(c:ZI)(k:ZK->ZI->Prop),u c k->∀(R:ak)(W:TE->Prop)(B H:ak)(a:St)(Q:ZL->ak->Prop),aL K R W B H a c->
 (∀d e f b g,k d f->aL K R W b g a f->bx R B b->b_ K b e d->Q e g)->t a H Q
def y0(X:aT)(a:ZV)(u:nh):Prop:=∃t,hg X a t/\xU X.K t u
def KX:nh:=λa k=>k [] a
def KY(u:jR)(w:nh):nh:=λa k=>u a λd b=>w b λc e=>k (d::c) e
def xT(w:nh):jR:=λb k=>w b λa c=>a.length<=TI/\k (.tup a) c
section
variable{X:aT}{e:Wp}{c:ZV}{u:jR}{w:nh}{b p:Pos}{n:Nat}{F:cb}
theorem KZ{a:Wp}{g:eU}(j:vP X e u)(k:j3 X a g)(l:XZ [a] e b.line X.env=pure false:=by rfl)(m:X0 [a] e X.env=pure none:=by rfl)(n:(XB [a] X.env).map (·.2)=[Y3 a X.env]:=by rfl):eV X (.Assign [a] e b) (vS u g):=by
 obtain⟨_,o,p⟩:=j;obtain⟨_,q,r⟩:=k;refine⟨_,su o q l m n,λU t h R W B H c D e s=>?_⟩;refine p t _ h R W B H c _ e λd v w f i x y z A=>?_;exact r d w _ x R W f i c v _ y A λF G C E _=>s.nx _ _ f i C E z
theorem Ei:y0 X [] KX:=⟨_,fa,λa k h R W B H b Q e q=>q [] [] a B H h e (bx.refl _ _) .nil⟩
theorem Ej(f:vP X e u)(g:y0 X c w)(i:eN X e c:=by rfl):y0 X (e::c) (KY u w):=by
 obtain⟨_,j,l⟩:=f;obtain⟨_,m,n⟩:=g;refine⟨_,d8 j m i,λo k h R W B H a Q e q=>?_⟩;refine l o _ h R W B H a _ e λd v p r t x y z A=>?_;exact n p _ x R W r t a _ y λK L C E F G I b J=>q _ _ C E F G I (z.trans b) (.cons (A.mono b.s) J)
theorem K0{K:Su}{B:ak}{d:St}{e:ZI}:∀{b:ZL}{c:ZK},b_ K B b c->kD K B d e b (c.map gF.val)
 |_,_,.nil=>.nil
 |_,_,.cons a r=>.val a (K0 r)
theorem Ek:∀a:ZK,(a.map gF.val).map gF.sl=a.map aA.val
 |[]=>rfl
 |_::a=>by rw[SI,SI,SI,Ek a];rfl
theorem K1:∀a:ZK,kH (a.map aA.val)=0
 |[]=>rfl
 |_::a=>K1 a
end
def xQ(i:Nat):dJ:=λa k=>∃ds:ZK,a[i]?=some (.own ds)/\k (!ds.isEmpty)
section
variable{X:aT}
theorem K2(i:Nat){x:Str}{c:Pos}(g:gV X i x:=by rfl)(j:gh X.env.scope x:=by walk_at"v")(l:ec x:=by decide)(m:gO x:=by decide)(n:∀whole,Ze (.Name x c) X.env whole=(do let v <-whole;YO (Expr.Name x c).pos;Yu [v] (ZA v)):=by intro _;rfl):hZ X (.Name x c) (xQ i):=by
 refine⟨_,AU (gZ g j l m) n,λu k h R W B H w Q e q=>?_⟩;obtain⟨b,o,p⟩:=h;obtain⟨a,vs,r,y,z,s,t⟩:=e.ownAt o;refine⟨_,r,!vs.isEmpty,.inl ⟨vs,cE.of s,rfl⟩,q _ B H ?_ e (bx.refl _ _)⟩
 have:vs.isEmpty=b.isEmpty:=by
  have f:=t.length;cases vs with
  |nil=>cases b with
   |nil=>rfl
   |cons d b=>simp at f
  |cons v vs=>cases b with
   |nil=>simp at f
   |cons d b=>rfl
 rw[this];exact p
end
abbrev mm:=Nat->ZI->(ZI->ZK->Prop)->Prop
def El(u:bd):mm:=λn a k=>n<TI/\u a λy=>k a [y]
def lL(g:eU)(a:dJ)(c:mm):ZK->mm
 |[],_,e,k=>k e []
 |d::h,n,e,k=>g d e λf=>a f λb=>if b=true then c n f λj i=>lL g a c h (n+i.length) j λl m=>k l (i++m)else lL g a c h n f k
def K3(w:cJ)(g:eU)(b:dJ)(c:mm):mm:=λn a k=>w a λd=>lL g b c d n a k
def K4(w:cJ)(g:eU)(b:dJ)(c:mm)(d:Nat)(e:ZO):cJ:=λa k=>w a λf=>lL g b c f 0 (SS d .no++e.map (j8 a)) λ_ r=>k r
section
variable{K:Su}{X:aT}{u:bd}{w:cJ}{c p:Pos}
variable{n L N x o A f:Wp}{l r M:ZV}{b:XW}{E:List (Str×TE)}{y j:ZS}{m:ZO}{G v F:eU}{J d g:dJ}{i C:cJ}
theorem xP{c d:Wp}{i:Type}{Xs:i->aT}(j:∀a,(Xs a).K=K)(h:∀a,mE (Xs a) c d w):∃t,(∀a,iU (Xs a) c d t)/\sJ K t w:=by
 refine⟨λb H Q=>∀a,∃t,iU (Xs a) c d t/\sJ K t w/\t b H Q,λa l s b H Q I q=>?_,λm k q R W B H b Q e z a=>?_⟩
 ·obtain⟨t,f,_,n⟩:=q a;exact f l s b H Q I n
 obtain⟨t,f,g⟩:=h a;rw[j a]at g;exact⟨t,f,g,g m k q R W B H b Q e z⟩
abbrev xN:=TE×Tl×ak×ZU
end
section
variable{K:Su}{R:ak}{W:TE->Prop}{B p H r:ak}{l:St}{f:ZI}
theorem y1{i j:Nat}{b a:TE}{c:mB}(m:cg (l.set i (some (.ref b))) (f.set i (.own c)) j a):(j=i/\a=b)\/(j≠i/\cg l f j a):=by
 rcases ud m with⟨e,⟨z,_⟩|z⟩|m
 ·cases z;exact .inl ⟨e,rfl⟩
 ·cases z
 exact .inr m
def vR:aA->aA
 |.val d=>.val d
 |_=>.no
theorem xM{i:Nat}{a:TE}(m:cg l (f.map vR) i a):False:=by
 have key:∀k,(f.map vR)[i]?=some k->k=.no\/∃d,k=.val d:=λk h=>by
  rw[SP]at h;cases q:f[i]? with
  |none=>rw[q]at h;cases h
  |some s=>
   rw[q]at h;have h:=SN h;subst h;cases s<;>first|exact .inl rfl|exact .inr ⟨_,rfl⟩
 rcases m with⟨_,h|⟨b,h⟩⟩|⟨c,h,_⟩
 ·rcases key _ h with z|⟨d,z⟩<;>cases z
 ·rcases key _ h with z|⟨d,z⟩<;>cases z
 rcases key _ h with z|⟨d,z⟩<;>cases z
theorem aL.hide(e:aL K R W B H l f):aL K H (λ_=>False) B H l (f.map vR):=by
 refine⟨⟨λ_ _ z _=>z,e.bh,λ_ z=>z.elim,λ_ z=>z.elim,λ_ z=>z.elim⟩,by rw[Sv];exact e.len,λi k h=>?_,λi j a m _=>(xM m).elim⟩;rw[SP]at h;cases q:f[i]? with
 |none=>rw[q]at h;cases h
 |some s=>
  rw[q]at h;have h:=SN h;subst h;have z:=e.ok i _ q;cases s with
  |val d=>exact z
  |_=>trivial
theorem aL.jH{A:ZI}{C:St}(e:aL K R W B H l f)(k:aL K H (λ_=>False) p r C A)(g:bx H B p):aL K R W p r l f/\bx R B p:=by
 have st:∀a o,H a=some o->r a=some o:=λa o h=>k.fr a o h λz=>z
 have t:∀a,B a=none->H a≠none->p a=none:=λa c d=>by
  cases q:p a with
  |none=>rfl
  |some o=>
   rcases g.n a o q with z|z
   ·rw[c]at z;cases z
   exact absurd z d
 have j:∀a,H a≠none->r a=H a:=λa h=>by
  cases q:H a with
  |none=>exact absurd q h
  |some o=>exact st a o q
 have u:∀a,fX H a->fX r a:=λa ⟨x,y,c,d⟩=>⟨x,y,st _ _ c,d⟩;have E:∀a,fX H a->H a≠none:=λa ⟨x,y,c,_⟩=>by rw[c];simp
 refine⟨e.move ⟨λa o h F=>st a o (e.fr a o h F),k.bh,λa z=>t a (e.wb a z) (E a (e.wh a z)),λa z=>u a (e.wh a z),e.wr⟩ g.s λi a m=>?_,g.s,λa o h=>?_⟩
 ·obtain⟨G,v⟩:=e.eP m;refine⟨t a G v,λz=>?_,λ_=>j a v⟩;obtain⟨b,w,_,_,I⟩:=e.eQ z;rw[oS m z]at w;cases w;exact u _ I
 rcases g.n a o h with z|z
 ·exact .inl z
 exact .inr (e.toWd.fresh z).1
end
section
variable{X:aT}{e:Wp}{d:ZV}{w:iZ}{c:Pos}{n:Nat}{F:cb}
def xE(i j:Nat)(b f:cJ):cB:=λU a=>b a λg=>f (a.map vR) λh=>U.nx ((a.set i (.own (.l g))).set j (.own (.l h)))
theorem xp{i j:Nat}{x y:Str}{a b:Wp}{C E:cJ}{k l p:Pos}{r t u}(J:X.calm=true)(K:X.N.Nodup)(L:X.N[i]?=some x)(M:X.N[j]?=some y)(O:i≠j)(P:X.env.scope.names.lookup x=some .local)(Q:X.env.scope.names.lookup y=some .local)(S:j2 X a C)(T:j2 X b E)(Y:X0 [.Tuple [.Name x k,.Name y l] r p] (.Tuple [a,b] t u) X.env=pure (some [x,y]))(Z:UF [a,b] X.env=(false,Yk a X.env)::UF [b] X.env:=by rfl)(af:eN X b []:=by rfl)(ai:XZ [.Tuple [.Name x k,.Name y l] r p] (.Tuple [a,b] t u) c.line X.env=pure false:=by rfl):
  eV X (.Assign [.Tuple [.Name x k,.Name y l] r p] (.Tuple [a,b] t u) c) (xE i j C E):=by
 obtain⟨_,p1,aj⟩:=S;obtain⟨_,p2,ar⟩:=T;refine⟨_,FB J K L M O P Q (d8 p1 (d8 p2 fa af) Z) Y ai,λU aw h R W B H F D e s=>?_⟩;refine aj aw _ h R W B H F _ e λbq d bA ax G ay f az aD aE v aG aI=>?_;refine ar _ _ ay G (λ_=>False) ax G F _ f.hide λbK aJ bL w aN aP I A g aV a3 a4 bM=>?_;obtain⟨a5,g3⟩:=f.jH I A;have a6:aJ≠d:=by rintro rfl;rw[v]at g;cases g
 have bb:w d=none:=by
  cases z:w d with
  |none=>rfl
  |some o=>
   rcases A.n d o z with y|y
   ·rw[aE]at y;cases y
   rw[v]at y;cases y
 have bg:=a5.h5 i aD bb (I.fr d _ v λz=>z) (aG.mono A.s) λq _=>aI q
 have bj:=bg.h5 j (f.toWd.fresh g).1 aV a3 a4 λq _ m=>by
  rcases y1 m with⟨_,z⟩|⟨_,m⟩
  ·exact a6 z
  exact(f.eP m).2 g
 exact⟨_,_,rfl,s.nx _ _ w aN aP bj (az.trans g3)⟩
end
section
variable{K:Su}{B:ak}
theorem K5:∀{a:ZL}{b:ZK}{W:TE->Prop},b_ K B a b->j4 K W B a (b.map aA.val)
 |_,_,_,.nil=>.nil
 |_,_,_,.cons h r=>.val h (K5 r)
theorem K6:∀a:ZK,kH (a.map aA.val)=0
 |[]=>rfl
 |_::r=>K6 r
end
section
variable{X:aT}{C:Wp}{t:ZV}{w:cJ}{F:cb}{f p:Pos}
def xn(n:Nat)(F:cb)(u:ZI->Prop->Prop)(w:cJ):bd:=λa k=>u a (w (a.map vR) λb=>b.length+1=n/\F (.bag::b.map aA.val) λr=>mH r k)
theorem K7{n:Nat}{x:Str}{az:ZS}{j S:Nat}{T:ZI->Prop->Prop}(c:ca X.prog X.w X.K X.mg X.base x az j (ck X.K n F))(aD:ez S X.A)(aI:eG X x)(aJ:BE X C T)(E:pZ X t w)(aK:j<=S:=by decide)(aN:ec x:=by decide)(U:eN X C t:=by rfl)(aP:hy X f t:=by rfl):
  br X (.Call (.Name x p) (C::t) [] f) (xn n F T w):=by
 obtain⟨_,aV,a3⟩:=aJ;obtain⟨_,a4,a5⟩:=E;refine⟨_,oP c aD aI (d8 aV a4 U) aK aN U aP,λY k h R W B H I Q e q=>?_⟩;refine a3 Y _ h R W B H I _ e λa a6 J bb Z bj bq bA hi bD=>?_;refine a5 _ _ bb J (λ_=>False) a6 J I _ Z.hide λL bG M af bK hc aj bM=>?_;obtain⟨bR,bS⟩:=bK;obtain⟨G,g3⟩:=Z.jH hc aj;have bT:J a≠none:=by obtain⟨_,_,q,_⟩:=hi;rw[q];simp
 have bU:M a=none:=by
  cases z:M a with
  |none=>rfl
  |some o=>
   rcases aj.n a o z with y|y
   ·rw[bA]at y;cases y
   exact absurd y bT
 have bX:fX af a:=by
  obtain⟨bY,bZ,b0,b5⟩:=hi;exact⟨bY,bZ,hc.fr a _ b0 λz=>z,b5⟩
 show ck X.K n F ((.ref a::bG)++[]) af Q wO
 rw[SR];refine⟨λb=>b=a,M,.bag::L.map aA.val,_,bS,by rw[SK,Sv];exact bR,by show Nat.ble (kH (L.map aA.val)+1) 1=true;rw[K6];rfl,G.bh,λb E=>by subst E;exact⟨bU,bX⟩,.bag rfl (K5 bM),λr v av aw u N=>?_⟩;obtain⟨O,b6⟩:=G.ma (λb E=>by subst E;exact⟨bq,bD⟩) N.wd N.g;have res:=N.res;have P:=(bj.trans g3).trans b6;cases r with
 |no=>exact u.elim
 |bag=>exact u.elim
 |pin v d=>exact u.elim
 |deep c=>exact u.elim
 |val d=>exact q d v av aw u O P res
 |new d=>exact q d v av aw u O P (bE.mono iX res)
 |own c=>
  cases c with
  |d _ _ _ _=>exact u.elim
  |l L=>
  obtain⟨c,rfl,ax,b8,cn,b9,b'⟩:=res;obtain⟨cc,ay⟩:=O.freeze b9 (G.toWd.fresh ax).1 b8 λi m=>absurd ax (G.eP (show cg I Y i c from m)).2;exact q _ _ _ _ u cc (P.trans ay) (.lst dL (b'.mono ay.s))
end
theorem Ep{c:Type}{f:c->D}{h:c->ZK}{g:eU}{d:mm}{I:ZI->Prop}{L:Nat}:∀{xs:List c}{n:Nat}{a:ZI}{k:ZI->ZK->Prop},(∀x∈xs,∀n a (k:ZI->ZK->Prop),I a->n+(h x).length<=L->(∀b,I b->k b (h x))->g (f x) a λo=>d n o k)->I a->n+(xs.flatMap h).length<=L->(∀b,I b->k b (xs.flatMap h))->lL g i7 d (xs.map f) n a k
 |[],n,a,k,_,i,_,e=>e a i
 |x::xs,n,a,k,l,i,p,e=>by
  rw[Xh,Sz]at p
  have:=l x Sw n a (λq m=>lL g i7 d (xs.map f) (n+m.length) q λr s=>k r (m++s)) i (by lia) λb t=>Ep (λy u=>l y (SA _ u)) t (by lia) λv j=>by
   have:=e v j
   rwa [Xh]at this
  exact this
theorem Er{j:Type}{f h:j->D}{g:eU}{u:bd}{I:ZI->Prop}:∀{b:List j}{a:ZI}{k:ZK->Prop},(∀x∈b,∀a (l:D->ZI->Prop),I a->(∀d,I d->l (h x) d)->g (f x) a λc=>u c λy=>l y c)->I a->k (b.map h)->hs g i7 u (b.map f) a k
 |[],_,_,_,_,e=>e
 |x::b,a,k,m,i,e=>m x Sw a (λy c=>hs g i7 u (b.map f) c λn=>k (y::n)) i λd o=>Er (λy p=>m y (SA _ p)) o e
def jx(x:a7):Prop:=∃b m n t,lH b m n t x
theorem jx.ps{x:a7}(h:jx x):∀p∈x.1,aW p:=λp a=>by
 obtain⟨_,_,_,_,h⟩:=h;exact(h.rb.kq p a).pt
theorem jx.st{x:a7}(h:jx x):aW x.2.2:=by
 obtain⟨_,_,_,_,h⟩:=h;exact h.st.pt
theorem K8{f:ab->Int}{mt:ab->ab->ab}{sh:ZM}{s:a7}(h:s∈dH f mt sh):∃t∈sh,s∈dH f mt [t]:=by
 unfold dH at h⊢;obtain⟨a,b⟩:=TO.mp h;obtain⟨t,c,rfl⟩:=SJ.mp a;exact⟨t,c,TO.mpr ⟨by simp,b⟩⟩
theorem y2{c:Nat}{l o:ab}{sh:ZM}(h:∀s∈sh,jx s)(bl:cH c l)(f:l.1≠0\/l.2.1≠0)(g:L3.ln l o=0)(a:ab)(e:a=l\/a=iI l):∀s∈dH (L3.ln a) (a0 l) sh,jx s:=λs d=>by
 obtain⟨t,i,j⟩:=K8 d;obtain⟨b,m,n,u,k⟩:=h t i;have q:=Kl (b:=b+c+m+c+1) (m:=m+c) (sh:=[t]) (λs d=>by rw[SQ.mp d];exact k.mono (by lia) (by lia) (SF n) (SF u)) bl (by lia) f g (by lia) a e;exact⟨_,_,_,_,q s j⟩
structure e0(s w pt:Int×Int):Prop where
 ls:a8 s.1 s.2
 lw:a8 w.1 w.2
 lp:a8 pt.1 pt.2
 s0:s.1≠0
 w0:0<w.1
 p0:0<pt.1
 lt:pt.1*w.2<w.1*pt.2
 c1:SB s.1<=21
 c2:SB s.2<=21
 c3:SB w.1<=175
 c4:SB w.2<=175
 c5:SB pt.1<=175
 c6:SB pt.2<=175
 d3:SB (cm w pt).1<=175
 d4:SB (cm w pt).2<=175
section
variable{s w c:Int×Int}
theorem e0.r(h:e0 s w c):a8 (cm w c).1 (cm w c).2/\0<(cm w c).1/\SB (cm w c).1<=175/\SB (cm w c).2<=175:=by
 have a:0<w.2*c.2:=SD h.lw.1 h.lp.1;obtain⟨l,e,d,f⟩:=kb (t:=w.1*c.2-c.1*w.2) (b:=w.2*c.2) (Sy a);refine⟨l,?_,h.d3,h.d4⟩
 have:0<(cm w c).1*(w.2*c.2):=by
  show 0<(d1 _ _).1*(w.2*c.2)
  rw[e];have:=h.lt;exact SD (by lia) l.1
 exact UO this a
theorem qJ{x:Int×Int}(a:a8 s.1 s.2)(f:s.1≠0)(c:SB s.1<=21)(g:SB s.2<=21)(d:a8 x.1 x.2)(h:0<x.1)(i:SB x.1<=175)(j:SB x.2<=175):a8 (bJ s x).1 (bJ s x).2/\0<(bJ s x).1/\SB (bJ s x).1<=196/\SB (bJ s x).2<=196:=by
 have e:=uT a d f h;obtain⟨_,_,k,l⟩:=kb (t:=(if s.1<0 then -s.1 else s.1)*x.1) (b:=s.2*x.2) (pW a.1 d.1)
 have m:SB (if s.1<0 then -s.1 else s.1)<=21:=by
  split
  ·exact TT c
  exact c
 exact⟨e.lh,e.h0,fW k (TD m i),fW l (TD g j)⟩
theorem e0.h(h:e0 s w c)(a:Bool):a8 (bu s w c a).1 (bu s w c a).2/\0<(bu s w c a).1/\SB (bu s w c a).1<=196/\SB (bu s w c a).2<=196:=by
 obtain⟨b,d,e,f⟩:=h.r;unfold bu;cases a with
 |true=>exact qJ h.ls h.s0 h.c1 h.c2 b d e f
 |false=>exact qJ h.ls h.s0 h.c1 h.c2 h.lp h.p0 (cf h.c5) (cf h.c6)
theorem e0.x(h:e0 s w c)(a:Bool):a8 (bz s w c a).1 (bz s w c a).2/\0<(bz s w c a).1/\SB (bz s w c a).1<=175/\SB (bz s w c a).2<=175:=by
 unfold bz;cases spL s a with
 |true=>exact⟨h.lp,h.p0,cf h.c5,cf h.c6⟩
 |false=>exact h.r
theorem Es{x y:Int×Int}(a:a8 x.1 x.2)(b:a8 y.1 y.2)(c:SB x.1<=196)(d:SB x.2<=196)(e:SB y.1<=196)(f:SB y.2<=196):du 392 (dg x y):=⟨gK (p:=(x.1*y.2,y.1*x.2,x.2*y.2)) (pW a.1 b.1),me c d e f a b⟩
theorem e0.stA(h:e0 s w c)(a:Bool):du 400 (iQ s w c a):=by
 obtain⟨e,_,f,g⟩:=h.r;obtain⟨i,_,j,k⟩:=h.h a;have b:∀{x y:Int},a8 x y->a8 (-x) y:=λl=>⟨l.1,by rw[T5];exact l.2⟩;have d:a8 0 1:=⟨by decide,by decide⟩;unfold L3.iQ;refine(Es ?_ ?_ ?_ ?_ ?_ ?_).mono (by decide)
 ·split
  ·exact d
  exact b e
 ·split
  ·exact b i
  exact d
 ·split
  ·show SB 0<=196;decide
  exact Sx (TT f) (by decide)
 ·split
  ·show SB 1<=196;decide
  exact cf g
 ·split
  ·exact TT j
  show SB 0<=196;decide
 split
 ·exact k
 show SB 1<=196;decide
theorem e0.stB(h:e0 s w c)(a:Bool):du 400 (jC s w c a):=by
 obtain⟨e,_,f,g⟩:=h.h a;have b:∀{x y:Int},a8 x y->a8 (-x) y:=λl=>⟨l.1,by rw[T5];exact l.2⟩;have d:a8 0 1:=⟨by decide,by decide⟩;unfold L3.jC;refine(Es ?_ ?_ ?_ ?_ ?_ ?_).mono (by decide)
 ·split
  ·exact b h.lp
  exact d
 ·split
  ·exact d
  exact b e
 ·split
  ·exact Sx (TT h.c5) (by decide)
  show SB 0<=196;decide
 ·split
  ·exact cf h.c6
  show SB 1<=196;decide
 ·split
  ·show SB 0<=196;decide
  exact TT f
 split
 ·show SB 1<=196;decide
 exact g
theorem e0.stC(h:e0 s w c)(a:Bool):du 400 (jL s w c a):=by
 obtain⟨e,_,f,g⟩:=h.h a;have b:∀{x y:Int},a8 x y->a8 (-x) y:=λl=>⟨l.1,by rw[T5];exact l.2⟩;have d:a8 0 1:=⟨by decide,by decide⟩;unfold L3.jL;refine(Es ?_ ?_ ?_ ?_ ?_ ?_).mono (by decide)
 ·split
  ·exact b h.lp
  exact d
 ·split
  ·exact b e
  exact d
 ·split
  ·exact Sx (TT h.c5) (by decide)
  show SB 0<=196;decide
 ·split
  ·exact cf h.c6
  show SB 1<=196;decide
 ·split
  ·exact TT f
  show SB 0<=196;decide
 split
 ·exact g
 show SB 1<=196;decide
theorem e0.rR(h:e0 s w c):bF (cm w c)=bF w-bF c:=by
 have a:=eY h.lw.1;have b:=eY h.lp.1;unfold cm;rw[vw (SD h.lw.1 h.lp.1)];unfold bF;push_cast;grind
theorem e0.rH(h:e0 s w c):∃k:Rat,0<k/\∀x:Int×Int,0<x.2->bF (bJ s x)=k*bF x:=by
 have d:=h.ls.1;have a:=eY d;have f:0<(if s.1<0 then -s.1 else s.1):=by have:=h.s0;split<;>lia
 refine⟨bF (if s.1<0 then -s.1 else s.1,s.2),rS f d,λx e=>?_⟩;have b:=eY e;unfold bJ;rw[vw (SD d e)];unfold bF;push_cast;grind
end
theorem vT{s w a:Int×Int}(h:e0 s w a)(c b:Bool){sh:ZM}(d:∀x∈sh,jx x):∀x∈d2 (bz s w a c) b sh,jx x:=by
 obtain⟨e,_,j,k⟩:=h.x c;obtain⟨f,l,g⟩:=pj e;have i:=Km e j k;unfold d2;cases b with
 |true=>exact y2 d i f g _ (.inl rfl)
 |false=>
  have:=y2 d i f g (iI (ce (bz s w a c))) (.inr rfl);rwa[s5]at this
theorem vU{s w a:Int×Int}(h:e0 s w a)(c b:Bool){sh:ZM}(d:∀x∈sh,jx x):∀x∈f4 (bu s w a c) b sh,jx x:=by
 obtain⟨e,_,j,k⟩:=h.h c;obtain⟨f,l,g⟩:=pk e;have i:=Kn e j k;unfold f4;cases b with
 |true=>exact y2 d i f g _ (.inl rfl)
 |false=>
  have:=y2 d i f g (iI (cC (bu s w a c))) (.inr rfl);rwa[s5]at this
theorem uE{s w d:Int×Int}(e:e0 s w d)(a:Bool){sh:ZM}(i:∀x∈sh,jx x)(b:Bool):cU (((jw s w d a sh++iN s w d a sh++il s w d a sh).filter λs=>s.2.1==b).map f0) ((sh.filter λs=>s.2.1==b).map f0):=λf=>by
 show ew f b _=ew f b _
 have n:∀x∈sh,aW x.2.2/\∀p∈x.1,aW p:=λx h=>⟨(i x h).st,λp g=>(i x h).ps p g⟩;have j:=λc=>vT e a c i;have k:=λc=>vU e a c (j (!spL s a));have l:∀c,∀x∈d2 (bz s w d a) c sh,aW x.2.2/\∀p∈x.1,aW p:=λc x h=>⟨(j c x h).st,λp g=>(j c x h).ps p g⟩;have m:∀c,∀x∈f4 (bu s w d a) c (d2 (bz s w d a) (!spL s a) sh),aW x.2.2/\∀p∈x.1,aW p:=λc x h=>⟨(k c x h).st,λp g=>(k c x h).ps p g⟩;rw[pi,pi];unfold jw iN il;rw[yA f b (e.stA a).pt (l _),yA f b (e.stB a).pt (m _),yA f b (e.stC a).pt (m _)];have o:=Cr f b a (e.h a).1 (l (!spL s a));have q:=Cy f b (spL s a) (e.x a).1 n;rw[<-q,<-o];grind
structure uD(s w pt:Int×Int)(hi:Bool)(k W P R:Rat):Prop where
 P0:0<P
 R0:0<R
 W0:0<W
 eR:R=W-P
 ED:0<k*P
 EA:0<k*R
 Ey:k*W=k*P+k*R
 x1:a8 (bz s w pt hi).1 (bz s w pt hi).2
 h1:a8 (bu s w pt hi).1 (bu s w pt hi).2
 iB:cN (w.1,0,w.2) W 0
 iC:cN (dg w (bJ s w)) W (k*W)
 iD:cN (0,(bJ s w).1,(bJ s w).2) 0 (k*W)
 Eu:bF (bz s w pt hi)=if spL s hi then P else R
 Ew:bF (bu s w pt hi)=k*if hi then R else P
 EG:cN (iQ s w pt hi) (if spL s hi then 0 else -R) (if hi then -(k*if hi then R else P)else 0)
 EF:cN (jC s w pt hi) (if spL s hi then -P else 0) (if hi then 0 else -(k*if hi then R else P))
 EE:cN (jL s w pt hi) (if spL s hi then -P else 0) (if hi then -(k*if hi then R else P)else 0)
 EO:cN (pt.1,0,pt.2) P 0
 EN:cN (dg pt (bJ s pt)) P (k*P)
 ER:cN (0,(bJ s pt).1,(bJ s pt).2) 0 (k*P)
 EM:cN ((cm w pt).1,0,(cm w pt).2) R 0
 EK:cN (dg (cm w pt) (bJ s (cm w pt))) R (k*R)
 EP:cN (0,(bJ s (cm w pt)).1,(bJ s (cm w pt)).2) 0 (k*R)
 EL:cN (dg (cm w pt) (bJ s pt)) R (k*P)
theorem Et{x y:Int×Int}{X Y:Rat}(a b:Bool)(d:a8 x.1 x.2)(f:a8 y.1 y.2)(g:bF x=X)(i:bF y=Y):cN (dg (if a then(-x.1,x.2)else(0,1)) (if b then(-y.1,y.2)else(0,1))) (if a then -X else 0) (if b then -Y else 0):=by
 have n:∀(c:Bool)(z:Int×Int)(Z:Rat),a8 z.1 z.2->bF z=Z->0<(if c then(-z.1,z.2)else(0,1):Int×Int).2/\bF (if c then(-z.1,z.2)else(0,1))=if c then -Z else 0:=λc z Z h e=>by
  cases c with
  |true=>exact⟨h.1,(B8 _ _).trans (TW _ e)⟩
  |false=>exact⟨(by decide:(0:Int)<1),qA _⟩
 exact(vo (n a _ _ d g).1 (n b _ _ f i).1).to (n a _ _ d g).2 (n b _ _ f i).2
theorem y3{s w c:Int×Int}(a:e0 s w c)(d:Bool):∃k W P R:Rat,uD s w c d k W P R:=by
 obtain⟨k,l,f⟩:=a.rH;obtain⟨e,m,z,A⟩:=a.r;have n:=qJ a.ls a.s0 a.c1 a.c2 e m z A;have j:=qJ a.ls a.s0 a.c1 a.c2 a.lp a.p0 a.c5 a.c6;have o:=qJ a.ls a.s0 a.c1 a.c2 a.lw a.w0 a.c3 a.c4;have p:=a.rR;have q:=rS a.p0 a.lp.1;have t:=rS m e.1;have g:=(a.h d).1;have i:bF (bu s w c d)=k*if d then bF (cm w c)else bF c:=by cases d<;>exact f _ (by first|exact a.lp.1|exact e.1)
 have u:∀(b:Bool)(x y:Int×Int),(if b then x else y)=if !b then y else x:=λb x y=>by cases b<;>rfl
 have v:∀(b:Bool)(x y:Rat),(if b then x else y)=if !b then y else x:=λb x y=>by cases b<;>rfl
 refine⟨k,bF w,bF c,bF (cm w c),q,t,rS a.w0 a.lw.1,p,UU l q,UU l t,by rw[p];grind,(a.x d).1,g,vp a.lw,(vo a.lw.1 o.1.1).to rfl (f w a.lw.1),(vq o.1).to rfl (f w a.lw.1),by unfold bz;split<;>rfl,i,?_,?_,?_,vp a.lp,(vo a.lp.1 j.1.1).to rfl (f c a.lp.1),(vq j.1).to rfl (f c a.lp.1),vp e,(vo e.1 n.1.1).to rfl (f _ e.1),(vq n.1).to rfl (f _ e.1),(vo e.1 j.1.1).to rfl (f c a.lp.1)⟩
 ·unfold iQ;rw[u (spL s d),v (spL s d)];exact Et _ _ e g rfl i
 ·unfold jC;rw[u d (0,1),v d 0];exact Et _ _ a.lp g rfl i
 exact Et _ _ a.lp g rfl i
theorem uA{s w a:Int×Int}(v:e0 s w a)(G:0<s.1){sh:ZM}(X:∀x∈sh,jx x)(h:cU (sh.map λs=>s.1) [dh s false w]):cU ((jw s w a false sh).map λs=>s.1) [dh s false a]/\cU ((iN s w a false sh).map λs=>s.1) [dh s false (cm w a)]/\cU ((il s w a false sh).map λs=>s.1) [kQ (cm w a) (bJ s a)]:=by
 obtain⟨k,W,P,R,aM,aN,aO,aP,aj,ao,aq,y,E,i,j,ar,d,e,l,m,g,I,J,K,F,L,au,M⟩:=y3 v false;have N:spL s false=true:=by unfold spL;rw[Xx G];rfl
 simp only[N,TL,if_true,if_false]at d e l m g;have O:=λb=>vT v false b X;have Y:=λb=>vU v false b (O (!spL s false));have aw:=(v.stA false).pt;have ax:=(v.stB false).pt;have ay:=(v.stC false).pt;have H:cN (0,0,1) 0 0:=yB;have r:=H;have az:dh s false w=[(0,0,1),(w.1,0,w.2),dg w (bJ s w)]:=by unfold dh;rw[SL G];rfl
 rw[az]at h;generalize aQ:((0,0,1):ab)=A at r h;generalize aS:((w.1,0,w.2):ab)=B at i h;generalize aU:dg w (bJ s w)=C at j h;generalize aX:((0,(bJ s w).1,(bJ s w).2):ab)=D at ar h;obtain⟨aB,aD,aE⟩:=pj y;obtain⟨aG,aI,ah⟩:=pk E;have Q:=tu y r (by rw[d];grind);have jk:=tv y i (by rw[d];grind);have i0:=tv y j (by rw[d];grind);have u:cN (a0 (ce (bz s w a false)) A B) (P) (0):=(qC y r i (S2 Q jk) (by rw[d];grind)).to d rfl;have n:cN (a0 (ce (bz s w a false)) C A) (P) (k*P):=(qC y j r (T7 i0 Q) (by rw[d];grind)).to d rfl;have Z:=qy h aB aD aE (λt o p q=>(X t o).ps p q) (mj r.1 i.1 j.1)
 have S:cU ((d2 (bz s w a false) (spL s false) sh).map λs=>s.1) [[A,a0 (ce (bz s w a false)) A B,a0 (ce (bz s w a false)) C A]]:=by
  rw[N];have z:=Z.1;rwa[JJ (f:=ln (ce (bz s w a false))) Q jk i0]at z
 have T:cU ((d2 (bz s w a false) (!spL s false) sh).map λs=>s.1) [[a0 (ce (bz s w a false)) A B,B,C,a0 (ce (bz s w a false)) C A]]:=by
  rw[N];have z:=Z.2;rwa[JK (f:=λc => -ln (ce (bz s w a false)) c) (by show -ln (ce (bz s w a false)) A<0;lia) (by show 0 < -ln (ce (bz s w a false)) B;lia) (by show 0 < -ln (ce (bz s w a false)) C;lia)]at z
 generalize a0 (ce (bz s w a false)) A B=aa at u S T;generalize a0 (ce (bz s w a false)) C A=U at n S T;have aJ:=tx E u (by rw[e]<;>grind);have hi:=tx E i (by rw[e]<;>grind);have ae:=tw E j (by rw[e]<;>grind);have aK:=yC E n (by rw[e]<;>grind);have in1:cN (a0 (cC (bu s w a false)) B C) (W) (k*P):=(yD E i j (T7 hi ae) (by rw[e];grind)).to rfl e;have ag:=qy T aG aI ah (λt o p q=>(O _ t o).ps p q) (qF u.1 i.1 j.1 n.1)
 have ai:cU ((f4 (bu s w a false) (!false) (d2 (bz s w a false) (!spL s false) sh)).map λs=>s.1) [[a0 (cC (bu s w a false)) B C,C,U]]:=by
  have z:=ag.1;rwa[Cq (f:=ln (cC (bu s w a false))) aJ hi ae aK]at z
 have hc:cU ((f4 (bu s w a false) false (d2 (bz s w a false) (!spL s false) sh)).map λs=>s.1) [[aa,B,a0 (cC (bu s w a false)) B C,U]]:=by
  have z:=ag.2;rwa[Cp (f:=λc => -ln (cC (bu s w a false)) c) (by show 0 < -ln (cC (bu s w a false)) aa;lia) (by show 0 < -ln (cC (bu s w a false)) B;lia) (by show -ln (cC (bu s w a false)) C<0;lia) (by show -ln (cC (bu s w a false)) U=0;lia)]at z
 generalize a0 (cC (bu s w a false)) B C=a3 at in1 ai hc;refine⟨?_,?_,?_⟩
 ·rw[show dh s false a=_ from by unfold dh;rw[SL G]];exact om aw S (λt o p q=>(O _ t o).ps p q) (mj r.1 u.1 n.1) (qE (((eD l r).to (by grind) (by grind)).eq H) (((eD l u).to (by grind) (by grind)).eq I) (((eD l n).to (by grind) (by grind)).eq J))
 ·rw[show dh s false (cm w a)=_ from by unfold dh;rw[SL G]];exact Ds ax ai (λt o p q=>(Y _ t o).ps p q) (mj in1.1 j.1 n.1) (qE (((eD m in1).to (by grind) (by grind)).eq F) (((eD m j).to (by grind) (by grind)).eq L) (((eD m n).to (by grind) (by grind)).eq H))
 exact om ay hc (λt o p q=>(Y _ t o).ps p q) (qF u.1 i.1 in1.1 n.1) (yF (((eD g u).to (by grind) (by grind)).eq H) (((eD g i).to (by grind) (by grind)).eq F) (((eD g in1).to (by grind) (by grind)).eq M) (((eD g n).to (by grind) (by grind)).eq K))
theorem uz{s w a:Int×Int}(v:e0 s w a)(G:0<s.1){sh:ZM}(U:∀x∈sh,jx x)(h:cU (sh.map λs=>s.1) [dh s true w]):cU ((jw s w a true sh).map λs=>s.1) [dh s true a]/\cU ((iN s w a true sh).map λs=>s.1) [dh s true (cm w a)]/\cU ((il s w a true sh).map λs=>s.1) [kQ (cm w a) (bJ s a)]:=by
 obtain⟨k,W,P,R,aN,aO,aP,aQ,ao,aq,ar,y,E,au,r,i,d,e,j,l,g,aw,I,F,J,K,L,M⟩:=y3 v true;have N:spL s true=false:=by unfold spL;rw[Xx G];rfl
 simp only[N,TL,if_true,if_false]at d e j l g;have O:=λb=>vT v true b U;have X:=λb=>vU v true b (O (!spL s true));have ax:=(v.stA true).pt;have ay:=(v.stB true).pt;have az:=(v.stC true).pt;have H:cN (0,0,1) 0 0:=yB;have m:=H;have aB:dh s true w=[(0,0,1),dg w (bJ s w),(0,(bJ s w).1,(bJ s w).2)]:=by unfold dh;rw[SL G];rfl
 rw[aB]at h;generalize aS:((0,0,1):ab)=A at m h;generalize aU:((w.1,0,w.2):ab)=B at au h;generalize aX:dg w (bJ s w)=C at r h;generalize a3:((0,(bJ s w).1,(bJ s w).2):ab)=D at i h;obtain⟨aD,aE,aG⟩:=pj y;obtain⟨aI,aJ,ah⟩:=pk E;have Y:=tu y m (by rw[d];grind);have i0:=tv y r (by rw[d];grind);have Z:=tu y i (by rw[d];grind);have n:cN (a0 (ce (bz s w a true)) A C) (R) (k*R):=(qC y m r (S2 Y i0) (by rw[d];grind)).to d rfl;have u:cN (a0 (ce (bz s w a true)) C D) (R) (k*W):=(qC y r i (T7 i0 Z) (by rw[d];grind)).to d rfl;have aa:=qy h aD aE aG (λt o p q=>(U t o).ps p q) (mj m.1 r.1 i.1)
 have Q:cU ((d2 (bz s w a true) (spL s true) sh).map λs=>s.1) [[a0 (ce (bz s w a true)) A C,C,a0 (ce (bz s w a true)) C D]]:=by
  rw[N];have z:=aa.2;rwa[JL (f:=λc => -ln (ce (bz s w a true)) c) (by show -ln (ce (bz s w a true)) A<0;lia) (by show 0 < -ln (ce (bz s w a true)) C;lia) (by show -ln (ce (bz s w a true)) D<0;lia)]at z
 have S:cU ((d2 (bz s w a true) (!spL s true) sh).map λs=>s.1) [[A,a0 (ce (bz s w a true)) A C,a0 (ce (bz s w a true)) C D,D]]:=by
  rw[N];have z:=aa.1;rwa[JM (f:=ln (ce (bz s w a true))) Y i0 Z]at z
 generalize a0 (ce (bz s w a true)) A C=T at n Q S;generalize a0 (ce (bz s w a true)) C D=hi at u Q S;have ae:=tx E m (by rw[e]<;>grind);have aK:=yC E n (by rw[e]<;>grind);have aM:=tw E u (by rw[e]<;>grind);have ag:=tw E i (by rw[e]<;>grind);have in1:cN (a0 (cC (bu s w a true)) D A) (0) (k*R):=(yD E i m (S2 ag ae) (by rw[e];grind)).to rfl e;have ai:=qy S aI aJ ah (λt o p q=>(O _ t o).ps p q) (qF m.1 n.1 u.1 i.1)
 have hc:cU ((f4 (bu s w a true) (!true) (d2 (bz s w a true) (!spL s true) sh)).map λs=>s.1) [[A,T,a0 (cC (bu s w a true)) D A]]:=by
  have z:=ai.2;rwa[Co (f:=λc => -ln (cC (bu s w a true)) c) (by show 0 < -ln (cC (bu s w a true)) A;lia) (by show -ln (cC (bu s w a true)) T=0;lia) (by show -ln (cC (bu s w a true)) hi<0;lia) (by show -ln (cC (bu s w a true)) D<0;lia)]at z
 have aj:cU ((f4 (bu s w a true) true (d2 (bz s w a true) (!spL s true) sh)).map λs=>s.1) [[T,hi,D,a0 (cC (bu s w a true)) D A]]:=by
  have z:=ai.1;rwa[Cn (f:=ln (cC (bu s w a true))) ae aK aM ag]at z
 generalize a0 (cC (bu s w a true)) D A=a5 at in1 hc aj;refine⟨?_,?_,?_⟩
 ·rw[show dh s true a=_ from by unfold dh;rw[SL G]];exact om ax Q (λt o p q=>(O _ t o).ps p q) (mj n.1 r.1 u.1) (qE (((eD j n).to (by grind) (by grind)).eq H) (((eD j r).to (by grind) (by grind)).eq I) (((eD j u).to (by grind) (by grind)).eq F))
 ·rw[show dh s true (cm w a)=_ from by unfold dh;rw[SL G]];exact om ay hc (λt o p q=>(X _ t o).ps p q) (mj m.1 n.1 in1.1) (qE (((eD l m).to (by grind) (by grind)).eq H) (((eD l n).to (by grind) (by grind)).eq K) (((eD l in1).to (by grind) (by grind)).eq L))
 exact Ds az aj (λt o p q=>(X _ t o).ps p q) (qF n.1 u.1 i.1 in1.1) (yF (((eD g n).to (by grind) (by grind)).eq J) (((eD g u).to (by grind) (by grind)).eq M) (((eD g i).to (by grind) (by grind)).eq F) (((eD g in1).to (by grind) (by grind)).eq H))
theorem ux{s w a:Int×Int}(v:e0 s w a)(H:¬0<s.1){sh:ZM}(T:∀x∈sh,jx x)(h:cU (sh.map λs=>s.1) [dh s false w]):cU ((jw s w a false sh).map λs=>s.1) [dh s false a]/\cU ((iN s w a false sh).map λs=>s.1) [dh s false (cm w a)]/\cU ((il s w a false sh).map λs=>s.1) [kQ (cm w a) (bJ s a)]:=by
 obtain⟨k,W,P,R,aN,aO,aP,aQ,aj,ao,aq,y,E,r,ar,i,d,e,j,l,g,J,au,F,G,aw,K,L⟩:=y3 v false;have M:spL s false=false:=by unfold spL;rw[decide_eq_false H];rfl
 simp only[M,TL,if_true,if_false]at d e j l g;have N:=λb=>vT v false b T;have U:=λb=>vU v false b (N (!spL s false));have ax:=(v.stA false).pt;have ay:=(v.stB false).pt;have az:=(v.stC false).pt;have I:cN (0,0,1) 0 0:=yB;have m:=I;have aB:dh s false w=[(0,0,1),(w.1,0,w.2),(0,(bJ s w).1,(bJ s w).2)]:=by unfold dh;rw[Tk H];rfl
 rw[aB]at h;generalize aS:((0,0,1):ab)=A at m h;generalize aU:((w.1,0,w.2):ab)=B at r h;generalize aX:dg w (bJ s w)=C at ar h;generalize a3:((0,(bJ s w).1,(bJ s w).2):ab)=D at i h;obtain⟨aD,aE,aG⟩:=pj y;obtain⟨aI,aJ,ah⟩:=pk E;have X:=tu y m (by rw[d];grind);have jk:=tv y r (by rw[d];grind);have Y:=tu y i (by rw[d];grind);have u:cN (a0 (ce (bz s w a false)) A B) (R) (0):=(qC y m r (S2 X jk) (by rw[d];grind)).to d rfl;have n:cN (a0 (ce (bz s w a false)) B D) (R) (k*P):=(qC y r i (T7 jk Y) (by rw[d];grind)).to d rfl;have Z:=qy h aD aE aG (λt o p q=>(T t o).ps p q) (mj m.1 r.1 i.1)
 have O:cU ((d2 (bz s w a false) (spL s false) sh).map λs=>s.1) [[a0 (ce (bz s w a false)) A B,B,a0 (ce (bz s w a false)) B D]]:=by
  rw[M];have z:=Z.2;rwa[JL (f:=λc => -ln (ce (bz s w a false)) c) (by show -ln (ce (bz s w a false)) A<0;lia) (by show 0 < -ln (ce (bz s w a false)) B;lia) (by show -ln (ce (bz s w a false)) D<0;lia)]at z
 have Q:cU ((d2 (bz s w a false) (!spL s false) sh).map λs=>s.1) [[A,a0 (ce (bz s w a false)) A B,a0 (ce (bz s w a false)) B D,D]]:=by
  rw[M];have z:=Z.1;rwa[JM (f:=ln (ce (bz s w a false))) X jk Y]at z
 generalize a0 (ce (bz s w a false)) A B=aa at u O Q;generalize a0 (ce (bz s w a false)) B D=S at n O Q;have hi:=tx E m (by rw[e]<;>grind);have aK:=tx E u (by rw[e]<;>grind);have aM:=yC E n (by rw[e]<;>grind);have ae:=tw E i (by rw[e]<;>grind);have in1:cN (a0 (cC (bu s w a false)) D A) (0) (k*P):=(yD E i m (S2 ae hi) (by rw[e];grind)).to rfl e;have ag:=qy Q aI aJ ah (λt o p q=>(N _ t o).ps p q) (qF m.1 u.1 n.1 i.1)
 have ai:cU ((f4 (bu s w a false) (!false) (d2 (bz s w a false) (!spL s false) sh)).map λs=>s.1) [[S,D,a0 (cC (bu s w a false)) D A]]:=by
  have z:=ag.1;rwa[Cm (f:=ln (cC (bu s w a false))) hi aK aM ae]at z
 have hc:cU ((f4 (bu s w a false) false (d2 (bz s w a false) (!spL s false) sh)).map λs=>s.1) [[A,aa,S,a0 (cC (bu s w a false)) D A]]:=by
  have z:=ag.2;rwa[Ck (f:=λc => -ln (cC (bu s w a false)) c) (by show 0 < -ln (cC (bu s w a false)) A;lia) (by show 0 < -ln (cC (bu s w a false)) aa;lia) (by show -ln (cC (bu s w a false)) S=0;lia) (by show -ln (cC (bu s w a false)) D<0;lia)]at z
 generalize a0 (cC (bu s w a false)) D A=a5 at in1 ai hc;refine⟨?_,?_,?_⟩
 ·rw[show dh s false a=_ from by unfold dh;rw[Tk H]];exact om ax O (λt o p q=>(N _ t o).ps p q) (mj u.1 r.1 n.1) (qE (((eD j u).to (by grind) (by grind)).eq I) (((eD j r).to (by grind) (by grind)).eq J) (((eD j n).to (by grind) (by grind)).eq F))
 ·rw[show dh s false (cm w a)=_ from by unfold dh;rw[Tk H]];exact Ds ay ai (λt o p q=>(U _ t o).ps p q) (mj n.1 i.1 in1.1) (qE (((eD l n).to (by grind) (by grind)).eq G) (((eD l i).to (by grind) (by grind)).eq K) (((eD l in1).to (by grind) (by grind)).eq I))
 exact om az hc (λt o p q=>(U _ t o).ps p q) (qF m.1 u.1 n.1 in1.1) (yF (((eD g m).to (by grind) (by grind)).eq I) (((eD g u).to (by grind) (by grind)).eq G) (((eD g n).to (by grind) (by grind)).eq L) (((eD g in1).to (by grind) (by grind)).eq F))
theorem uw{s w a:Int×Int}(v:e0 s w a)(H:¬0<s.1){sh:ZM}(X:∀x∈sh,jx x)(h:cU (sh.map λs=>s.1) [dh s true w]):cU ((jw s w a true sh).map λs=>s.1) [dh s true a]/\cU ((iN s w a true sh).map λs=>s.1) [dh s true (cm w a)]/\cU ((il s w a true sh).map λs=>s.1) [kQ (cm w a) (bJ s a)]:=by
 obtain⟨k,W,P,R,aM,aN,aO,aP,ao,aq,ar,y,E,i,j,r,d,e,l,m,g,I,J,F,G,K,L,M⟩:=y3 v true;have N:spL s true=true:=by unfold spL;rw[decide_eq_false H];rfl
 simp only[N,TL,if_true,if_false]at d e l m g;have O:=λb=>vT v true b X;have Y:=λb=>vU v true b (O (!spL s true));have au:=(v.stA true).pt;have aw:=(v.stB true).pt;have ax:=(v.stC true).pt;have Z:cN (0,0,1) 0 0:=yB;have ay:=Z;have az:dh s true w=[(0,(bJ s w).1,(bJ s w).2),(w.1,0,w.2),dg w (bJ s w)]:=by unfold dh;rw[Tk H];rfl
 rw[az]at h;generalize aQ:((0,0,1):ab)=A at ay h;generalize aS:((w.1,0,w.2):ab)=B at i h;generalize aU:dg w (bJ s w)=C at j h;generalize aX:((0,(bJ s w).1,(bJ s w).2):ab)=D at r h;obtain⟨aB,aD,aE⟩:=pj y;obtain⟨aG,aI,ah⟩:=pk E;have Q:=tu y r (by rw[d];grind);have jk:=tv y i (by rw[d];grind);have i0:=tv y j (by rw[d];grind);have n:cN (a0 (ce (bz s w a true)) D B) (P) (k*R):=(qC y r i (S2 Q jk) (by rw[d];grind)).to d rfl;have u:cN (a0 (ce (bz s w a true)) C D) (P) (k*W):=(qC y j r (T7 i0 Q) (by rw[d];grind)).to d rfl;have aa:=qy h aB aD aE (λt o p q=>(X t o).ps p q) (mj r.1 i.1 j.1)
 have S:cU ((d2 (bz s w a true) (spL s true) sh).map λs=>s.1) [[D,a0 (ce (bz s w a true)) D B,a0 (ce (bz s w a true)) C D]]:=by
  rw[N];have z:=aa.1;rwa[JJ (f:=ln (ce (bz s w a true))) Q jk i0]at z
 have T:cU ((d2 (bz s w a true) (!spL s true) sh).map λs=>s.1) [[a0 (ce (bz s w a true)) D B,B,C,a0 (ce (bz s w a true)) C D]]:=by
  rw[N];have z:=aa.2;rwa[JK (f:=λc => -ln (ce (bz s w a true)) c) (by show -ln (ce (bz s w a true)) D<0;lia) (by show 0 < -ln (ce (bz s w a true)) B;lia) (by show 0 < -ln (ce (bz s w a true)) C;lia)]at z
 generalize a0 (ce (bz s w a true)) D B=U at n S T;generalize a0 (ce (bz s w a true)) C D=hi at u S T;have aJ:=yC E n (by rw[e]<;>grind);have ae:=tx E i (by rw[e]<;>grind);have ag:=tw E j (by rw[e]<;>grind);have aK:=tw E u (by rw[e]<;>grind);have in1:cN (a0 (cC (bu s w a true)) B C) (W) (k*R):=(yD E i j (T7 ae ag) (by rw[e];grind)).to rfl e;have ai:=qy T aG aI ah (λt o p q=>(O _ t o).ps p q) (qF n.1 i.1 j.1 u.1)
 have hc:cU ((f4 (bu s w a true) (!true) (d2 (bz s w a true) (!spL s true) sh)).map λs=>s.1) [[U,B,a0 (cC (bu s w a true)) B C]]:=by
  have z:=ai.2;rwa[Cg (f:=λc => -ln (cC (bu s w a true)) c) (by show -ln (cC (bu s w a true)) U=0;lia) (by show 0 < -ln (cC (bu s w a true)) B;lia) (by show -ln (cC (bu s w a true)) C<0;lia) (by show -ln (cC (bu s w a true)) hi<0;lia)]at z
 have aj:cU ((f4 (bu s w a true) true (d2 (bz s w a true) (!spL s true) sh)).map λs=>s.1) [[U,a0 (cC (bu s w a true)) B C,C,hi]]:=by
  have z:=ai.1;rwa[B_ (f:=ln (cC (bu s w a true))) aJ ae ag aK]at z
 generalize a0 (cC (bu s w a true)) B C=a3 at in1 hc aj;refine⟨?_,?_,?_⟩
 ·rw[show dh s true a=_ from by unfold dh;rw[Tk H]];exact om au S (λt o p q=>(O _ t o).ps p q) (mj r.1 n.1 u.1) (qE (((eD l r).to (by grind) (by grind)).eq F) (((eD l n).to (by grind) (by grind)).eq I) (((eD l u).to (by grind) (by grind)).eq J))
 ·rw[show dh s true (cm w a)=_ from by unfold dh;rw[Tk H]];exact om aw hc (λt o p q=>(Y _ t o).ps p q) (mj n.1 i.1 in1.1) (qE (((eD m n).to (by grind) (by grind)).eq L) (((eD m i).to (by grind) (by grind)).eq G) (((eD m in1).to (by grind) (by grind)).eq K))
 exact om ax aj (λt o p q=>(Y _ t o).ps p q) (qF n.1 in1.1 j.1 u.1) (yF (((eD g n).to (by grind) (by grind)).eq Z) (((eD g in1).to (by grind) (by grind)).eq G) (((eD g j).to (by grind) (by grind)).eq M) (((eD g u).to (by grind) (by grind)).eq F))
theorem uv{s w a:Int×Int}(c:e0 s w a)(b:Bool){sh:ZM}(d:∀x∈sh,jx x)(h:cU (sh.map λs=>s.1) [dh s b w]):cU ((jw s w a b sh).map λs=>s.1) [dh s b a]/\cU ((iN s w a b sh).map λs=>s.1) [dh s b (cm w a)]/\cU ((il s w a b sh).map λs=>s.1) [kQ (cm w a) (bJ s a)]:=by
 by_cases e:0<s.1
 ·cases b with
  |false=>exact uA c e d h
  |true=>exact uz c e d h
 cases b with
 |false=>exact ux c e d h
 |true=>exact uw c e d h
abbrev cV:=F2×ZM
abbrev ZN:=List cV
abbrev ou:=F2×ZM×ZM
abbrev ZR:=List ou
def dC(c:cV):D:=.tup [dR c.1,.lst (c.2.map bI)]
def ov(p:ou):D:=.tup [dR p.1,.lst (p.2.1.map bI),.lst (p.2.2.map bI)]
def r3(w:F2):List ZH:=[[w.1,w.2]]
def jz(k:ZY)(d:D):D:=.tup [gI false k,d]
def fN:List ZY->ZZ->ZK
 |k::b,c::a=>c.map (jz k)++fN b a
 |_,_=>[]
theorem La{k:ZY}{d:D}:∀{b:List ZY}{a:ZZ},a.length=b.length->k∈b->(fN b (nc b a k d)).Perm (jz k d::fN b a)
 |[],_,_,m=>by cases m
 |c::b,[],h,_=>by simp at h
 |c::b,f::a,h,m=>by
  rw[nc];by_cases e:c=k
  ·rw[SL e,fN,fN,SE,e];simp only[SI,TA,SY,Xi];exact Vy
  rw[Tk e,fN,fN];have m:k∈b:=(SG.mp m).resolve_left λz=>e z.symm;exact((La (by simpa using h) m).append_left _).trans Vy
theorem Lb{k:ZY}{d:D}:∀{b:List ZY}{a:ZZ},a.length=b.length->fN (b++[k]) (a++[[d]])=fN b a++[jz k d]
 |[],[],_=>rfl
 |[],_::_,h=>by simp at h
 |_::_,[],h=>by simp at h
 |c::b,e::a,h=>by
  rw[Tr,Tr,fN,fN,Lb (by simpa using h),SY]
theorem ub{b:List ZY}{a:ZZ}{k:ZY}{d:D}(h:a.length=b.length):(fN (eZ b k) (qG b a k d)).Perm (jz k d::fN b a):=by
 unfold eZ qG;by_cases m:k∈b
 ·rw[SL m,SL m];exact La h m
 rw[Tk m,Tk m,Lb h];exact Xj _ _
theorem Lc{k:ZY}{d:D}{c:ZK}:∀{b:List ZY}{a:ZZ},bo b a k=some (c++[d])->(fN b a).Perm (jz k d::fN b (lK b a k c))/\(lK b a k c).length=a.length
 |[],_,h=>by simp[bo]at h
 |_::_,[],h=>by simp[bo]at h
 |f::b,g::a,h=>by
  rw[bo]at h;rw[lK];by_cases e:f=k
  ·rw[SL e]at h⊢;have h:=SN h;subst h;refine⟨?_,rfl⟩;rw[fN,fN,SE,e];simp only[SI,TA,SY,Xi];exact Vy
  rw[Tk e]at h⊢;obtain⟨p,l⟩:=Lc h;refine⟨?_,by rw[SK,SK,l]⟩;rw[fN,fN];exact(p.append_left _).trans Vy
theorem Ez{k:ZY}{g:ZK}:∀{f:List ZY}{c:ZZ},bo f c k=some g->(∀d∈g,jz k d∈fN f c)/\g.length<=(fN f c).length
 |[],_,h=>by simp[bo]at h
 |_::_,[],h=>by simp[bo]at h
 |j::f,l::c,h=>by
  rw[bo]at h;rw[fN,Sz,Sv];by_cases e:j=k
  ·rw[SL e]at h;have h:=SN h;subst h;subst e;exact⟨λd i=>Tx _ (SJ.mpr ⟨d,i,rfl⟩),by lia⟩
  rw[Tk e]at h;obtain⟨a,b⟩:=Ez h;exact⟨λd i=>S3 _ (a d i),by lia⟩
theorem Ld{w:F2}{d:D}{c:cV}(h:dC c=jz (r3 w) d):c.1=w/\d=.lst (c.2.map bI):=by
 unfold dC jz at h;have e:gI false (r3 w)=dR w:=rfl;rw[e]at h;injection h with h
 injection h with f g
 injection g with g _
 refine⟨?_,g.symm⟩;unfold dR at f;injection f with f
 injection f with a b
 injection b with b _
 injection a with a
 injection b with b
 exact TF a b
theorem t_{k:ZY}{d:D}{c:cV}(h:dC c=jz k d):d=.lst (c.2.map bI):=by
 unfold dC jz at h;injection h with h
 injection h with b a
 injection a with a _
 exact a.symm
theorem vZ:∀{ks:List ZY}{hW:ZZ},pl false ks (hW.map D.lst)=(ks.zip hW).map (λx=>D.tup [gI false x.1,.lst x.2])/\fN ks hW=(ks.zip hW).flatMap λx=>x.2.map (jz x.1)
 |[],hW=>by cases hW<;>exact⟨rfl,rfl⟩
 |_::_,[]=>⟨rfl,rfl⟩
 |k::ks,c::hW=>by
  obtain⟨a,b⟩:=vZ (ks:=ks) (hW:=hW);refine⟨?_,?_⟩
  ·rw[SI,pl,a];rfl
  rw[fN,b];rfl
theorem Le{a b:Type}{f:a->b}:∀{l:List b},(∀x∈l,∃c,x=f c)->∃cs:List a,l=cs.map f
 |[],_=>⟨[],rfl⟩
 |x::l,h=>by
  obtain⟨c,rfl⟩:=h x Sw;obtain⟨cs,rfl⟩:=Le λy d=>h y (SA _ d);exact⟨c::cs,rfl⟩
theorem t8{s o:a7}(h:bI s=bI o):s=o:=by
 unfold bI at h;injection h with h
 injection h with a h
 injection h with b h
 injection h with c _
 injection a with a
 injection b with b
 exact TF ((Wo λ_ _ h=>xv h).mp a) (TF b (xv c))
theorem t6{c e:cV}(h:dC c=dC e):c=e:=by
 obtain⟨a,b⟩:=Ld (w:=e.1) (d:=.lst (e.2.map bI)) h;injection b with b
 exact TF a ((Wo λ_ _ h=>t8 h).mp b).symm
def jT(N:Nat)(x:a7):Prop:=∃b m n t,lH b m n t x/\400<=m/\m+401<=b/\b<=1990/\n<=N/\t<=2000
theorem jT.gz{N:Nat}{x:a7}(h:jT N x):jx x:=by
 obtain⟨b,m,n,t,h,_⟩:=h;exact⟨b,m,n,t,h⟩
theorem jT.bp{N:Nat}{x:a7}(h:jT N x):∀c∈x.1,cH 1990 c/\aW c:=λc a=>by
 obtain⟨b,m,n,t,h,_,_,d,_⟩:=h;exact⟨(h.rb.kq c a).bp.mono d,(h.rb.kq c a).pt⟩
theorem jT.ln{N:Nat}{x:a7}(h:jT N x):x.1.length<=N:=by
 obtain⟨b,m,n,t,h,_,_,_,a,_⟩:=h;exact Sx h.ln a
theorem jT.gm{N:Nat}{x:a7}(h:jT N x)(a:N<=75):DV x:=by
 obtain⟨b,m,n,t,h,_,_,c,d,e⟩:=h;exact h.gm (by lia) (by lia) (by lia)
theorem y4{c N:Nat}{l o:ab}{sh:ZM}(h:∀s∈sh,jT N s)(bl:cH c l)(x:c<=400)(f:l.1≠0\/l.2.1≠0)(g:L3.ln l o=0)(a:ab)(e:a=l\/a=iI l):∀s∈dH (L3.ln a) (a0 l) sh,jT (N+1) s:=λs d=>by
 obtain⟨t,i,j⟩:=K8 d;obtain⟨b,m,n,u,k,p,r,v,y,w⟩:=h t i;have q:=Kl (sh:=[t]) (λs d=>by rw[SQ.mp d];exact k) bl (by lia) f g (by lia) a e;exact⟨b,m,n+1,u,q s j,p,r,v,by lia,w⟩
section
variable{s w a:Int×Int}
theorem e0.up(h:e0 s w a)(b:Bool):cH 355 (ce (bz s w a b)):=by
 obtain⟨c,_,d,e⟩:=h.x b;exact Km c d e
theorem e0.lv(h:e0 s w a)(b:Bool):cH 397 (cC (bu s w a b)):=by
 obtain⟨c,_,d,e⟩:=h.h b;exact Kn c d e
theorem t5(h:e0 s w a)(c b:Bool){N:Nat}{sh:ZM}(d:∀x∈sh,jT N x):∀x∈d2 (bz s w a c) b sh,jT (N+1) x:=by
 obtain⟨e,g,f⟩:=pj (h.x c).1;unfold d2;cases b with
 |true=>exact y4 d (h.up c) (by decide) e f _ (.inl rfl)
 |false=>
  have:=y4 d (h.up c) (by decide) e f (iI (ce (bz s w a c))) (.inr rfl);rwa[s5]at this
theorem t2(h:e0 s w a)(c b:Bool){N:Nat}{sh:ZM}(d:∀x∈sh,jT N x):∀x∈f4 (bu s w a c) b sh,jT (N+1) x:=by
 obtain⟨e,g,f⟩:=pk (h.h c).1;unfold f4;cases b with
 |true=>exact y4 d (h.lv c) (by decide) e f _ (.inl rfl)
 |false=>
  have:=y4 d (h.lv c) (by decide) e f (iI (cC (bu s w a c))) (.inr rfl);rwa[s5]at this
end
structure ku(s:F2)(Wd:F2->Prop)(L:Nat->a7->Prop)(ey:Nat):Prop where
 ls:a8 s.1 s.2
 s0:s.1≠0
 c1:SB s.1<=21
 c2:SB s.2<=21
 lw:∀v,Wd v->a8 v.1 v.2/\0<v.1/\SB v.1<=175/\SB v.2<=175
 sub:∀v u,Wd v->Wd u->u.1*v.2<v.1*u.2->Wd (cm v u)
 fit:∀k x,k<=ey->L k x->jT 60 x
 cut:∀k hi v u sh,k<ey->e0 s v u->Wd v->Wd u->Wd (cm v u)->(∀x∈sh,L k x)->∀x∈jw s v u hi sh++iN s v u hi sh++il s v u hi sh,L (k+1) x
 mono:∀k x,L k x->L (k+1) x
section
variable{s:F2}{Wd:F2->Prop}{L:Nat->a7->Prop}{a:Nat}
theorem ku.sp(h:ku s Wd L a){v u:F2}(b:Wd v)(c:Wd u)(lt:u.1*v.2<v.1*u.2):e0 s v u:=by
 obtain⟨d,e,f,g⟩:=h.lw v b;obtain⟨i,j,k,l⟩:=h.lw u c;obtain⟨_,_,m,n⟩:=h.lw _ (h.sub v u b c lt);exact⟨h.ls,d,i,h.s0,e,j,lt,h.c1,h.c2,f,g,k,l,m,n⟩
theorem ku.up(h:ku s Wd L a){k j:Nat}{x:a7}(b:L k x)(le:k<=j):L j x:=by
 obtain⟨d,rfl⟩:=Nat.le.dest le;clear le;induction d with
 |zero=>exact b
 |succ d c=>exact h.mono _ _ c
structure ia(s:F2)(Wd:F2->Prop)(L:Nat->a7->Prop)(hi:Bool)(k:Nat)(c:cV):Prop where
 w:Wd c.1
 px:∀x∈c.2,L k x
 ln:c.2.length<=3
 hp:cU (c.2.map λx=>x.1) [dh s hi c.1]
structure ow(L:Nat->a7->Prop)(k n:Nat)(b:ha):Prop where
 lw:a8 b.1.1 b.1.2
 w0:0<b.1.1
 lh:a8 b.2.1.1 b.2.1.2
 h0:0<b.2.1.1
 b1:SB b.1.1<=175
 b2:SB b.1.2<=175
 b3:SB b.2.1.1<=196
 b4:SB b.2.1.2<=196
 px:∀x∈b.2.2,L k x
 ln:b.2.2.length<=n
 hp:cU (b.2.2.map λx=>x.1) [kQ b.1 b.2.1]
theorem ia.up{d:Bool}(h:ku s Wd L a){k j:Nat}{c:cV}(b:ia s Wd L d k c)(le:k<=j):ia s Wd L d j c:=⟨b.w,λx e=>h.up (b.px x e) le,b.ln,b.hp⟩
theorem ow.up(h:ku s Wd L a){k j n:Nat}{b:ha}(c:ow L k n b)(le:k<=j):ow L j n b:=⟨c.lw,c.w0,c.lh,c.h0,c.b1,c.b2,c.b3,c.b4,λx d=>h.up (c.px x d) le,c.ln,c.hp⟩
theorem ia.split(h:ku s Wd L a){c:Bool}{k:Nat}{v u:F2}{sh:ZM}(m:k<a)(d:ia s Wd L c k (v,sh))(f:Wd u)(lt:u.1*v.2<v.1*u.2):
  ia s Wd L c (k+1) (u,jw s v u c sh)/\ia s Wd L c (k+1) (cm v u,iN s v u c sh)/\ow L (k+1) 3 (cm v u,bJ s u,il s v u c sh):=by
 have z:=h.sp d.w f lt;have g:=h.sub v u d.w f lt;have px:=h.cut k c v u sh m z d.w f g d.px;obtain⟨n,o,p⟩:=uv z c (λx e=>(h.fit k x (by lia) (d.px x e)).gz) d.hp;have q:sh.length<=3:=d.ln;have j:∀b,(d2 (bz s v u c) b sh).length<=3:=λb=>Sx (JD _ _ _) q;have l:∀b,(f4 (bu s v u c) b (d2 (bz s v u c) (!spL s c) sh)).length<=3:=λb=>Sx (JE _ _ _) (j _);obtain⟨r,t,y,A⟩:=h.lw _ g;obtain⟨B,C,E,i⟩:=h.lw _ f;obtain⟨F,G,g3,H⟩:=qJ h.ls h.s0 h.c1 h.c2 B C E i;refine⟨⟨f,λx e=>px x (Tx _ (Tx _ e)),?_,n⟩,⟨g,λx e=>px x (Tx _ (S3 _ e)),?_,o⟩,⟨r,t,F,G,y,A,g3,H,λx e=>px x (S3 _ e),?_,p⟩⟩
 ·show(jw s v u c sh).length<=3
  unfold jw;rw[Sv];exact j _
 ·show(iN s v u c sh).length<=3
  unfold iN;rw[Sv];exact l _
 show(il s v u c sh).length<=3
 unfold il;rw[Sv];exact l _
end
theorem Lf{c:Type}{f:c->Rat}{a b:List c}(h:a.Perm b):(a.map f).sum=(b.map f).sum:=by
 induction h with
 |nil=>rfl
 |cons x _ d=>rw[SI,SI,To,To,d]
 |swap x y l=>rw[SI,SI,SI,SI,To,To,To,To];grind
 |trans _ _ i j=>rw[i,j]
def e7(cs:ZN):Rat:=(cs.map λc=>bF c.1).sum
theorem r4(a b:ZN):e7 (a++b)=e7 a+e7 b:=by unfold e7;rw[SE,Uk]
theorem y5(c:cV):e7 [c]=bF c.1:=by unfold e7;rw[SI,To,TA,Vz,Rat.add_zero]
theorem tW{a b:ZN}(h:a.Perm b):e7 a=e7 b:=Lf h
theorem tV(d:ZY->Int)(c:Bool){a b:List ZM}(h:a.Perm b):gg d c a=gg d c b:=Lf h
theorem tS{a b:F2}(c:a8 a.1 a.2)(d:a8 b.1 b.2)(h:a.1*b.2=b.1*a.2):a=b:=by
 refine y8 c d ?_;have e:(a.1:Rat)*b.2=b.1*a.2:=by exact_mod_cast h
 have f:=eY c.1;have g:=eY d.1;unfold bF;grind
def ib(cs:ZN):List ZM:=cs.map λc=>c.2
def nn(a:ZP):List ZM:=a.map λb=>b.2.2
noncomputable def p1(a:ZR):List cV:=a.map λp=>(p.1,p.2.1)
def p2(a:ZR):List cV:=a.map λp=>(p.1,p.2.2)
structure hv(s:F2)(Wd:F2->Prop)(L:Nat->a7->Prop)(hi:Bool)(k:Nat)(os dQ ps:ZN)(dx:ZP):Prop where
 o:∀c∈dQ,ia s Wd L hi k c
 p:∀c∈ps,ia s Wd L hi k c
 b:∀b∈dx,ow L k 3 b
 f:∀φ c,gg φ c (ib dQ)+gg φ c (ib ps)+gg φ c (nn dx)=gg φ c (ib os)
 w:e7 dQ+e7 ps=e7 os
section
variable{s:F2}{Wd:F2->Prop}{L:Nat->a7->Prop}{i:Nat}{a:Bool}{k:Nat}{os d e:ZN}{g:ZP}
theorem hv.up(h:ku s Wd L i){j:Nat}(m:hv s Wd L a k os d e g)(le:k<=j):hv s Wd L a j os d e g:=⟨λc l=>(m.o c l).up h le,λc l=>(m.p c l).up h le,λb n=>(m.b b n).up h le,m.f,m.w⟩
theorem hv.start(g:∀c∈os,ia s Wd L a k c)(p:(e++d).Perm os):hv s Wd L a k os d e []:=by
 refine⟨λc f=>g c (p.mem_iff.mp (S3 _ f)),λc f=>g c (p.mem_iff.mp (Tx _ f)),(λb i=>by cases i),λh c=>?_,?_⟩
 ·unfold ib nn;rw[<-tV h c (p.map λc=>c.2),SE,nf,TA,show gg h c []=0 from rfl];grind
 rw[<-tW p,r4];grind
theorem hv.whole{c:cV}(m:hv s Wd L a k os (d++[c]) e g):hv s Wd L a k os d (e++[c]) g:=by
 have i:=m.o c (by simp);refine⟨λx h=>m.o x (Tx _ h),λx h=>?_,m.b,λj b=>?_,?_⟩
 ·rcases SO.mp h with z|z
  ·exact m.p x z
  rw[SQ.mp z];exact i
 ·have:=m.f j b;unfold ib at this⊢;rw[SE,nf]at this⊢;grind
 have:=m.w;rw[r4]at this⊢;grind
theorem hv.split(h:ku s Wd L i){v u:F2}{sh:ZM}(m:hv s Wd L a k os (d++[(v,sh)]) e g)(t:k<i)(q:Wd u)(lt:u.1*v.2<v.1*u.2):hv s Wd L a (k+1) os (d++[(cm v u,iN s v u a sh)]) (e++[(u,jw s v u a sh)]) (g++[(cm v u,bJ s u,il s v u a sh)]):=by
 have l:=m.o (v,sh) (by simp);obtain⟨A,B,C⟩:=l.split h t q lt;have z:=h.sp l.w q lt;have n:=m.up h (Ux k);refine⟨λx c=>?_,λx c=>?_,λb E=>?_,λj b=>?_,?_⟩
 ·rcases SO.mp c with y|y
  ·exact n.o x (Tx _ y)
  rw[SQ.mp y];exact B
 ·rcases SO.mp c with y|y
  ·exact n.p x y
  rw[SQ.mp y];exact A
 ·rcases SO.mp E with y|y
  ·exact n.b b y
  rw[SQ.mp y];exact C
 ·have f:=m.f j b;have F:ew j b (jw s v u a sh++iN s v u a sh++il s v u a sh)=ew j b sh:=uE z a (λx c=>(h.fit k x (by lia) (l.px x c)).gz) b j;rw[pi,pi]at F;unfold ib nn at f⊢;rw[SE,SE,SE,nf,nf,nf];rw[SE,nf]at f;simp only[SI,TA,yY]at f⊢;grind
 have w:=m.w;have r:=z.rR;rw[r4,y5]at w;rw[r4,y5,r4,y5];show e7 d+bF (cm v u)+(e7 e+bF u)=_
 rw[r];have w:e7 d+bF v+e7 e=e7 os:=w;grind
end
theorem tR{s w:F2}(n:a8 s.1 s.2)(o:s.1≠0)(k:a8 w.1 w.2)(p:0<w.1):cU [dh s false w,dh s true w] [kQ w (bJ s w)]:=λe=>by
 have l:=uT n k o p;have q:aW ((0,0,1):ab):=⟨(show(0:Int)<1 by decide),by decide⟩;have h:=l.top.1;have i:aW ((w.1,0,w.2):ab):=(vp k).1;have j:aW ((0,(bJ s w).1,(bJ s w).2):ab):=(vq l.lh).1;unfold dh kQ;generalize((0,0,1):ab)=A at *;generalize((w.1,0,w.2):ab)=r at *;generalize dg w (bJ s w)=t at *;generalize((0,(bJ s w).1,(bJ s w).2):ab)=u at *;have v:f3 e []=0:=rfl;have f:∀a b c:ab,eL e [a,b,c]=fG e c a+(fG e a b+(fG e b c+0)):=λa b c=>rfl;have m:∀a b c d:ab,eL e [a,b,c,d]=fG e d a+(fG e a b+(fG e b c+(fG e c d+0))):=λa b c d=>rfl;rw[km,km,km,v];by_cases g:0<s.1
 ·rw[SL g,SL g,Tk SU,SL rfl,f,f,m];have:=Dz e h q;grind
 rw[Tk g,Tk g,Tk SU,SL rfl,f,f,m];have:=Dz e j i;grind
structure nL(s:F2)(Wd:F2->Prop)(L:Nat->a7->Prop)(ey:Nat)(os ts:ZN)(hd:Bool)(rs:ZN)(bs:ZP):Prop where
 r:∀c∈rs,ia s Wd L hd ey c
 b:∀b∈bs,ow L ey 6 b
 nb:bs.length<=2*(os.length+ts.length)
 np:(bs.map λb=>b.2.2.length).sum<=9*(os.length+ts.length)
 nr:rs.length<=os.length+ts.length
 f:∀φ c,gg φ c (ib rs)+gg φ c (nn bs)=gg φ c (ib os)+gg φ c (ib ts)
 w:e7 rs=if hd=true then e7 ts-e7 os else e7 os-e7 ts
 h:hd=true->rs≠[]
section
variable{s:F2}{Wd:F2->Prop}{L:Nat->a7->Prop}{d:Nat}
theorem ow.more{k n m:Nat}{b:ha}(h:ow L k n b)(le:n<=m):ow L k m b:=⟨h.lw,h.w0,h.lh,h.h0,h.b1,h.b2,h.b3,h.b4,h.px,Sx h.ln le,h.hp⟩
theorem Lg(c:ku s Wd L d){k:Nat}{w:F2}{e f:ZM}(a:ia s Wd L false k (w,e))(b:ia s Wd L true k (w,f)):ow L k 6 (w,bJ s w,e++f):=by
 obtain⟨h,i,j,l⟩:=c.lw _ a.w;obtain⟨m,n,g3,o⟩:=qJ c.ls c.s0 c.c1 c.c2 h i j l;refine⟨h,i,m,n,j,l,g3,o,λx p=>?_,?_,λg=>?_⟩
 ·rcases SO.mp p with z|z
  ·exact a.px x z
  exact b.px x z
 ·have r:e.length<=3:=a.ln;have t:f.length<=3:=b.ln;show(e++f).length<=6
  rw[Sz];lia
 show f3 g ((e++f).map λx=>x.1)=_
 rw[SE,vn,a.hp g,b.hp g,<-tR c.ls c.s0 h i g,km,km,km,km];have q:f3 g []=0:=rfl;rw[q];grind
theorem tQ(G:ku s Wd L d){os u t ots:ZN}{i:ZR}{A B:ZP}(j:hv s Wd L false d os t (p1 i) A)(k:hv s Wd L true d u ots (p2 i) B)(z:t=[]\/ots=[])(n:i.length<=os.length+u.length)(H:A.length+B.length<=os.length+u.length)(I:t.length+ots.length<=os.length+u.length):nL s Wd L d os u (!ots.isEmpty) (t++ots) (A++B++i.map λp=>(p.1,bJ s p.1,p.2.1++p.2.2)):=by
 have C:=j.w;have E:=k.w;have J:e7 (p1 i)=e7 (p2 i):=by unfold e7 p1 p2;rw[SM,SM];rfl
 have made:∀g c,gg g c (nn (i.map λp=>(p.1,bJ s p.1,p.2.1++p.2.2)))=gg g c (ib (p1 i))+gg g c (ib (p2 i)):=λg c=>by
  clear j k C E J n H;unfold nn ib p1 p2;rw[SM,SM,SM];induction i with
  |nil=>show(0:Rat)=0+0;grind
  |cons p i K=>
   rw[SI,SI,SI,rV,rV,rV,K];show ew g c (p.2.1++p.2.2)+_=ew g c p.2.1+_+(ew g c p.2.2+_)
   rw[pi];grind
 refine⟨λc v=>?_,λb r=>?_,?_,?_,by rw[Sz];exact I,λg c=>?_,?_,λh q=>?_⟩
 ·rcases z with rfl|rfl
  ·rw[Tn]at v;have:ots.isEmpty=false:=by cases ots with|nil=>cases v|cons _ _=>rfl
   rw[this];exact k.o c v
  rw[SR]at v;exact j.o c v
 ·rcases SO.mp r with y|y
  ·rcases SO.mp y with y|y
   ·exact(j.b b y).more (by decide)
   exact(k.b b y).more (by decide)
  obtain⟨p,x,rfl⟩:=SJ.mp y;exact Lg G (j.p _ (SJ.mpr ⟨p,x,rfl⟩)) (k.p _ (SJ.mpr ⟨p,x,rfl⟩))
 ·rw[Sz,Sz,Sv];lia
 ·rw[SE,SE,Uk,Uk];have O:=pf (f:=λb:ha=>b.2.2.length) (m:=3) (l:=A) λb r=>(j.b b r).ln;have P:=pf (f:=λb:ha=>b.2.2.length) (m:=3) (l:=B) λb r=>(k.b b r).ln
  have M:=pf (f:=λb:ha=>b.2.2.length) (m:=6) (l:=i.map λp=>(p.1,bJ s p.1,p.2.1++p.2.2)) λb r=>by
   obtain⟨p,x,rfl⟩:=SJ.mp r;exact(Lg G (j.p _ (SJ.mpr ⟨p,x,rfl⟩)) (k.p _ (SJ.mpr ⟨p,x,rfl⟩))).ln
  rw[Sv]at M;lia
 ·have Q:=j.f g c;have R:=k.f g c;have e:∀a b:ZP,gg g c (nn (a++b))=gg g c (nn a)+gg g c (nn b):=λa b=>by unfold nn;rw[SE,nf]
  have N:gg g c (ib (t++ots))=gg g c (ib t)+gg g c (ib ots):=by unfold ib;rw[SE,nf]
  rw[e,e,made,N];grind
 ·rw[r4];have F:e7 []=0:=rfl;rcases z with rfl|rfl
  ·cases q:ots.isEmpty with
   |true=>
    have q:=Wk.mp q;subst q;rw[F]at C E⊢;show(0:Rat)+0=if(!true)=true then _ else _
    rw[Tk (by decide)];grind
   |false=>
    rw[F]at C⊢;rw[SL (show(!false)=true from rfl)];grind
  rw[F]at E⊢;rw[Tk (by decide)];grind
 have q:=List.append_eq_nil_iff.mp q;rw[q.2]at h;cases h
end
structure jc(s:a7):Prop where
 ln:s.1.length<=34
 cv:fi s.1
 ps:∀p∈s.1,du 2600 p
 st:du 1200 s.2.2
theorem jc.side{s:a7}(h:jc s):∀e∈dv s.1,(a_ e.1 e.2).1≠0\/(a_ e.1 e.2).2.1≠0:=λe a=>by
 obtain⟨b,c⟩:=lA a;exact m8 (h.ps _ b).pt (h.ps _ c).pt (h.cv.side a)
theorem jc.rg{s:a7}(h:jc s):oh s.1:=⟨cf h.ln,h.side,λp a=>(h.ps p a).bp.mono (by decide)⟩
theorem jc.first{s:a7}(h:jc s):oh (f0 s)/\∀p∈f0 s,aW p:=by
 have st:=h.st;have c:∀p∈s.1,du 3801 (nP (ee (fe s.2.2) p)):=λp a=>(st.trn.sl (h.ps p a)).mono (by decide);have f:∀p∈s.1,aW p:=λp a=>(h.ps p a).pt;have e:=(Dj (v:=fe s.2.2) st.pt.1).rg f h.side;unfold f0;split
 ·have g:∀p∈s.1.map (λp=>nP (ee (fe s.2.2) p)),aW p:=λp a=>by
   obtain⟨q,d,rfl⟩:=SJ.mp a;exact(c q d).pt
  refine⟨⟨by rw[Sv,Sv];exact cf h.ln,rN.rg g e,λp a=>?_⟩,λp a=>?_⟩
  ·obtain⟨q,d,rfl⟩:=SJ.mp a;obtain⟨r,b,rfl⟩:=SJ.mp d;exact(c r b).trn.bp.mono (by decide)
  obtain⟨q,d,rfl⟩:=SJ.mp a;obtain⟨r,b,rfl⟩:=SJ.mp d;exact(c r b).trn.pt
 refine⟨⟨by rw[Sv];exact cf h.ln,e,λp a=>?_⟩,λp a=>?_⟩
 ·obtain⟨r,b,rfl⟩:=SJ.mp a;exact(c r b).bp.mono (by decide)
 obtain⟨r,b,rfl⟩:=SJ.mp a;exact(c r b).pt
theorem lH.kC{b m n t:Nat}{s:a7}(h:lH b m n t s)(a:b<=2600)(c:n<=34)(d:t<=1200):jc s:=⟨Sx h.ln c,h.cv,λp e=>(h.rb.kq p e).mono a,h.st.mono d⟩
def pB(w:F2)(N:Nat)(v:F2):Prop:=a8 v.1 v.2/\∃j:Nat,0<j/\j<=N/\bF v*(N:Rat)=bF w*(j:Rat)
theorem pB.pos{w v:F2}{N:Nat}(c:a8 w.1 w.2)(d:0<w.1)(h:pB w N v):0<v.1:=by
 obtain⟨l,j,b,f,e⟩:=h;have p:=rS d c.1;have a:(0:Rat)<(j:Rat):=by exact_mod_cast b
 have g:(0:Rat)<(N:Rat):=by exact_mod_cast Tc b f
 have q:0<bF v*(N:Rat):=by rw[e];exact UU p a
 have i:0<bF v:=by
  apply T8;intro z;have z:bF v<=0:=VA.mp z;have:=Rat.mul_le_mul_of_nonneg_right z (Rat.le_of_lt g);rw[Rat.zero_mul]at this;exact absurd q (VA.mpr this)
 have k:(0:Rat)<(v.2:Rat):=by exact_mod_cast l.1
 have m:(v.1:Rat)=bF v*v.2:=by unfold bF;have:=eY l.1;grind
 have:(0:Rat)<(v.1:Rat):=by rw[m];exact UU i k
 exact_mod_cast this
theorem tM{u v:F2}(d:a8 u.1 u.2)(f:a8 v.1 v.2)(lt:u.1*v.2<v.1*u.2):bF u<bF v:=by
 have a:(0:Rat)<(u.2:Rat):=by exact_mod_cast d.1
 have b:(0:Rat)<(v.2:Rat):=by exact_mod_cast f.1
 have c:(u.1:Rat)*v.2<v.1*u.2:=by exact_mod_cast lt
 unfold bF;rw[Rat.div_lt_iff a];have e:(v.1:Rat)/v.2*u.2=v.1*u.2/v.2:=by grind
 rw[e,Rat.lt_div_iff b];exact c
theorem pB.sub{w v u:F2}{N:Nat}(k:a8 w.1 w.2)(l:0<w.1)(m:pB w N v)(n:pB w N u)(lt:u.1*v.2<v.1*u.2):pB w N (cm v u):=by
 obtain⟨d,j,o,s,x⟩:=m;obtain⟨e,i,C,E,y⟩:=n;have f:0<v.2*u.2:=SD d.1 e.1
 have r:bF (cm v u)=bF v-bF u:=by
  unfold cm;rw[vw f];have a:=eY d.1;have b:=eY e.1;unfold bF;push_cast;grind
 have p:=rS l k.1;have A:(0:Rat)<(N:Rat):=by exact_mod_cast Tc o s
 have B:i<j:=by
  have q:=tM e d lt;have g:bF u*(N:Rat)<bF v*(N:Rat):=Rat.mul_lt_mul_of_pos_right q A;rw[x,y]at g;apply T8;intro z;have z:(j:Rat)<=(i:Rat):=by exact_mod_cast Nat.not_lt.mp z
  have:=Rat.mul_le_mul_of_nonneg_left z (Rat.le_of_lt p);exact absurd g (VA.mpr this)
 refine⟨(kb (t:=v.1*u.2-u.1*v.2) (b:=v.2*u.2) (Sy f)).1,j-i,by lia,by lia,?_⟩
 have c:((j-i:Nat):Rat)=(j:Rat)-(i:Rat):=by
  have h:((j-i:Nat):Rat)+(i:Rat)=(j:Rat):=by exact_mod_cast Nat.sub_add_cancel (UG B)
  grind
 rw[r,c];grind
theorem tL{w h:F2}(b:kf w h)(c:SB w.1<=270)(d:SB w.2<=270)(e:SB h.1<=270)(f:SB h.2<=270):oh (kQ w h):=JC b.mf (λp a=>by
 have z:SB 0<=4000:=by decide
 have m:∀{z:Int},SB z<=270->SB z<=4000:=λh=>cf h;unfold kQ at a;simp only[SG,TS,or_false]at a;rcases a with rfl|rfl|rfl|rfl
 ·exact⟨⟨by decide,by decide⟩,⟨by decide,by decide,by decide⟩⟩
 ·exact⟨(vp b.lw).1,⟨m c,z,m d⟩⟩
 ·exact(y9 b.lw b.lh c d e f).mono (by decide)
 exact⟨(vq b.lh).1,⟨z,m e,m f⟩⟩) (by show 4<=75;decide)
theorem tK{v u:F2}(c:a8 v.1 v.2)(d:a8 u.1 u.2):a8 (cm v u).1 (cm v u).2/\bF (cm v u)=bF v-bF u:=by
 have e:0<v.2*u.2:=SD c.1 d.1;refine⟨(kb (t:=v.1*u.2-u.1*v.2) (b:=v.2*u.2) (Sy e)).1,?_⟩;unfold cm;rw[vw e];have a:=eY c.1;have b:=eY d.1;unfold bF;push_cast;grind
theorem vh{cs:ZN}(h:∀c∈cs,0<bF c.1):0<=e7 cs/\(cs≠[]->0<e7 cs):=by
 induction cs with
 |nil=>exact⟨Rat.le_refl,λz=>absurd rfl z⟩
 |cons c r a=>
  have i:=(a λx b=>h x (SA _ b)).1;have p:=h c Sw;have e:e7 (c::r)=bF c.1+e7 r:=by unfold e7;rw[SI,To]
  rw[e];constructor
  ·grind
  intro _;grind
theorem EB(a:ZY->Int)(b:Bool):∀L:List ZM,ew a b L.flatten=gg a b L
 |[]=>rfl
 |S::L=>by rw[List.flatten_cons,pi,rV,EB a b L]
theorem nq{s t:cB}{U:hD}{b:ZI}(i:Nat)(v:aA)(first:∀N:ZI->Prop,(∀c,c=b.set i v->N c)->s {U with nx:=N} b)(a:t U (b.set i v)):oV s t U b:=first _ λ_ e=>by rw[e];exact a
theorem y6{s t:cB}{U:hD}{b:ZI}(i j:Nat)(v w:aA)(first:∀N:ZI->Prop,(∀c,c=(b.set i v).set j w->N c)->s {U with nx:=N} b)(a:t U ((b.set i v).set j w)):oV s t U b:=first _ λ_ e=>by rw[e];exact a
theorem Lh{s t:cB}{U:hD}{c:ZI}(I:ZI->Prop)(first:∀N:ZI->Prop,(∀a,I a->N a)->s {U with nx:=N} c)(b:∀a,I a->t U a):oV s t U c:=first _ b
section
variable{K:Su}{R:ak}{W:TE->Prop}{B g H l:ak}{c:St}{f:ZI}
def Li(K:Su)(t:bH)(u:cJ):Prop:=∀(f:ZI)(k:ZK->Prop),u f k->∀(R:ak)(W:TE->Prop)(B H:ak)(c:St)(Q:cr),aL K R W B H c f->
 (∀b a d g l,k b->aL K R W g l c f->bx R B g->R a=none->g a=none->l a=some (.lst d)->b_ K (dN R g) d b->(∀i,¬cg c f i a)->Q (.ref a) l)->t c H Q
def Lj(X:aT)(e:Wp)(u:cJ):Prop:=∃t,bQ X e t/\Li X.K t u
def vg(K:Su)(t:bH)(u:jR):Prop:=∀(f:ZI)(k:D->ZI->Prop),u f k->∀(R:ak)(W:TE->Prop)(B H:ak)(c:St)(Q:cr),aL K R W B H c f->
 (∀d v a g l,k d a->aL K R W g l c a->bx R B g->bE K (dN R g) v d->Q v l)->t c H Q
def v0(X:aT)(e:Wp)(u:jR):Prop:=∃t,bQ X e t/\vg X.K t u
def vf(K:Su)(t:e3)(u:nh):Prop:=∀(f:ZI)(k:ZK->ZI->Prop),u f k->∀(R:ak)(W:TE->Prop)(B H:ak)(c:St)(Q:ZL->ak->Prop),aL K R W B H c f->
 (∀a b d g l,k a d->aL K R W g l c d->bx R B g->b_ K (dN R g) b a->Q b l)->t c H Q
def y7(X:aT)(a:ZV)(u:nh):Prop:=∃t,hg X a t/\vf X.K t u
theorem aL.jQ(e:aL K R W B H c f){i:Nat}{a:TE}{d:ZK}(h:f[i]?=some (.deep (.nl a d))):c[i]?=some (some (.ref a))/\R a=none/\B a=none/\∃vs,H a=some (.lst vs)/\b_ K (dN R B) vs d:=by
 obtain⟨g,b⟩:=e.eJ h;exact⟨g,(b.fr a Sw).1,(b.fr a Sw).2,b.ok⟩
theorem aL.ly(e:aL K R W B H c f)(i:Nat){a:TE}{vs:ZL}{d:ZK}(k:R a=none)(g:B a=none)(l:H a=some (.lst vs))(m:b_ K (dN R B) vs d)(o:∀j,j≠i->¬cg c f j a):aL K R W B H (c.set i (some (.ref a))) (f.set i (.deep (.nl a d))):=by
 have one:∀b∈(e4.nl a d).adr::(e4.nl a d).ins,b=a:=λb g=>by simpa[e4.adr,e4.ins]using g
 exact e.set i ⟨rfl,λb h=>by rw[one b h];exact⟨k,g⟩,by simp[e4.adr,e4.ins],vs,l,m⟩ (λb _ z=>by rcases z with z|⟨_,z⟩<;>cases z) λb h j n=>by rw[one b h];exact o j n
end
def ve:cJ:=λ_ k=>k []
def Lk(i:Nat)(w:cJ):cB:=λU b=>w b λc=>∀a,U.nx (b.set i (.deep (.nl a c)))
def vd(i:Nat)(u:jR):cB:=λU c=>(∃a b,c[i]?=some (.deep (.nl a b)))/\u c λd e=>∃a b,e[i]?=some (.deep (.nl a b))/\b.length<TI/\U.nx (e.set i (.deep (.nl a (b++[d]))))
def vc(u:bd):jR:=λa k=>u a λd=>ji d=true/\k d a
def va(n:Nat)(F:cb)(w:nh):jR:=λb k=>w b λa c=>a.length=n/\F (a.map aA.val) λr=>∃d,r=.new d/\k d c
section
variable{X:aT}{e:Wp}{C:ZV}{u:jR}{w:nh}{o p:Pos}{n:Nat}{F:cb}
theorem Ll:Lj X (.List [] o) ve:=by
 refine⟨_,t4 fa,λd k h R W B H f Q e q=>?_⟩;refine⟨Td _,λp a=>?_⟩;obtain⟨b,g,c⟩:=e.toWd.fresh a;exact q [] p [] B _ h (e.e8 a _) (bx.refl _ _) b c dL .nil λi m=>e.ff a m rfl
theorem Lm{i:Nat}{x:Str}{b:cJ}{c:Pos}(d:X.N.Nodup)(f:X.N[i]?=some x)(g:ho X.env.scope x)(h:Lj X e b)(k:XA e (some (.Name x c)) o.line X.env=pure false:=by rfl)(l:ip X x:=by walk_at"f"):
  eV X (.Assign [.Name x c] e o) (Lk i b):=by
 obtain⟨_,m,n⟩:=h;refine⟨_,qW d f g m k l,λU p h R W B H q D e s=>?_⟩;exact n p _ h R W B H q _ e λF a G r t u v w y z A C E=>s.nx _ _ r t (u a) (v.ly i y z A C λj _=>E j) w
theorem Ln{a:bd}(h:br X e a):v0 X e (vc a):=by
 obtain⟨t,h,r⟩:=h;exact⟨t,h,λb k z R W B H c Q e q=>r b _ z R W B H c Q e λd v f i z e g s=>q d v b f i z.2 e g (s.flat z.1)⟩
theorem EC{x:Str}{t:ZS}{j i:Nat}(c:ca X.prog X.w X.K X.mg X.base x t j (ck X.K n F))(u:ez i X.A)(y:eG X x)(E:y0 X (e::C) w)(G:j<=i:=by decide)(I:ec x:=by decide)(J:eN X e C:=by rfl)(L:hy X o C:=by rfl):
  v0 X (.Call (.Name x p) (e::C) [] o) (va n F w):=by
 obtain⟨_,M,N⟩:=E;refine⟨_,oP c u y M G I J L,λO k h R W B H P Q e q=>?_⟩;refine N O _ h R W B H P _ e λS af T hc U l m Y Z=>?_;rw[SR]
 have f:sh (S.map gF.val) n=true:=by
  unfold sh;rw[Ek,K1,Sv,l.1];simp
 refine q' m (K0 Z) f (by rw[Ek];exact l.2) λr v s aa g hi ae b=>?_;obtain⟨d,rfl,g⟩:=g;have b:bE X.K (dN U s) v d:=b;exact q d v T s aa g hi (Y.trans ae) (b.mono (q8 λa z=>(m.toWd.fresh z).1))
theorem Lo:y7 X [] KX:=⟨_,fa,λa k h R W B H b Q e q=>q [] [] a B H h e (bx.refl _ _) .nil⟩
theorem v1(c:v0 X e u)(f:y7 X C w)(g:eN X e C:=by rfl):y7 X (e::C) (KY u w):=by
 obtain⟨_,i,j⟩:=c;obtain⟨_,l,m⟩:=f;refine⟨_,d8 i l g,λn k h R W B H a Q e q=>?_⟩;refine j n _ h R W B H a _ e λd v o p r t x y z=>?_;exact m o _ t R W p r a _ x λK L A E F G I b J=>q _ _ A E F G I (y.trans b) (.cons (z.mono (nT b.s)) J)
theorem Lp{g}(h:y7 X C w):v0 X (.Tuple C g o) (xT w):=by
 obtain⟨_,i,j⟩:=h;refine⟨_,wF i,λl k z R W B H m Q e q=>?_⟩;refine j l _ z R W B H m _ e λu n r v x a b t c=>?_;refine⟨by rw[c.length];exact a.1,λp d=>?_⟩;have f:=b.grow d (.tup n);exact q _ _ r _ _ a.2 (b.alloc d _) (t.trans f) (.tup (Ca dL) (c.mono (nT f.s)))
theorem Lq(i:Nat){x:Str}{c f b:Pos}(r:v0 X e u)(t:gV X i x:=by rfl)(w:gh X.env.scope x:=by walk_at"v")(z:ec x:=by decide)(A:gO x:=by decide)(C:iq X (.Name x c) "append":=by rfl)(E:lQ X b [e]:=by rfl)(F:iS f b:=by rfl)(k:eN X e []:=by rfl)(G:hy X b []:=by rfl)(I:XA (.Call (.Attribute (.Name x c) "append" f) [e] [] b) none o.line X.env=pure false:=by rfl):eV X (.Expr (.Call (.Attribute (.Name x c) "append" f) [e] [] b) o) (vd i u):=by
 obtain⟨_,J,K⟩:=r;refine⟨_,pN (sC T3 VX VY wM (gZ t w z A) (d8 J fa k) C E F k G) I,λU L h R W B H M D e s=>?_⟩;obtain⟨⟨a,ae,N⟩,h⟩:=h;obtain⟨l,af,ai,O,P,hc⟩:=e.jQ N;refine⟨_,l,.inl ⟨rfl,O,cE.of P⟩,?_⟩;refine K L _ h R W B H M _ e λd v aj Q au g m S T=>?_;obtain⟨aw,j,n,Y,g⟩:=g;obtain⟨p,ay,az,Z,aa,q⟩:=m.jQ n;rw[l]at p;cases p;refine⟨a,Z,v,rfl,rfl,aa,by rw[q.length];exact Y,s.nx _ _ Q _ g (m.kj (c':=.nl a (j++[d])) n Sw rfl (λy hi=>hi) (by simp[e4.adr,e4.ins]) ⟨_,dL,q.append (.cons T .nil)⟩) S⟩
def u_(i j k:Nat):cB:=λU a=>∃(f g h:TE)(b c d:ZK),a[i]?=some (.deep (.nl f b))/\a[j]?=some (.deep (.nl g c))/\a[k]?=some (.deep (.nl h d))/\∀p l,U.rt (.deep (.dl false p [] l [b,c,d]))
theorem u'(i j k:Nat){x y z:Str}{M N O P:Pos}{Q}(S:i≠j)(T:i≠k)(Y:j≠k)(Z:gV X i x:=by rfl)(ae:gV X j y:=by rfl)(ag:gV X k z:=by rfl)(g:gh X.env.scope x:=by walk_at"v")(l:gh X.env.scope y:=by walk_at"v")(hc:gh X.env.scope z:=by walk_at"v")(aj:ec x:=by decide)(aq:ec y:=by decide)(ar:ec z:=by decide)(m:gO x:=by decide)(av:gO y:=by decide)(n:gO z:=by decide):
  eV X (.Return (some (.Tuple [.Name x M,.Name y N,.Name z O] Q P)) o) (u_ i j k):=by
 refine⟨_,ms (wF (d8 (gZ Z g aj m) (d8 (gZ ae l aq av) (d8 (gZ ag hc ar n) fa rfl) rfl) rfl)),λU G h R W B H bf D e s=>?_⟩;obtain⟨q,r,t,bg,bj,bq,u,v,w,aw⟩:=h;obtain⟨ax,ay,az,aB,I,aD⟩:=e.jQ u;obtain⟨aE,aG,aJ,aK,J,aP⟩:=e.jQ v;obtain⟨aQ,aS,aV,ah,K,aX⟩:=e.jQ w
 have A:∀{i j:Nat}{a b:TE}{d a3:List L3.D},i≠j->G[i]?=some (.deep (.nl a d))->G[j]?=some (.deep (.nl b a3))->a≠b:=λa4 p2 C z=>by
  subst z;exact a4 (e.sep _ _ _ (.inr ⟨_,p2,Sw⟩) (.inr ⟨_,C,Sw⟩))
 have a5:=A S u v;have a6:=A T u w;have ba:=A Y v w;refine⟨_,ax,_,aE,_,aQ,hO,λp L=>?_⟩;have E:∀{a:TE}{bb:ZL},H a=some (.lst bb)->a≠p:=λh z=>by rw[z,L]at h;cases h
 refine s.rt _ _ B _ (aw p [q,r,t]) (e.toWd.e8 L _) (bx.refl _ _) ⟨rfl,dL,⟨rfl,λi a bA c F=>?_⟩,λa f=>?_,?_⟩
 ·match i with
  |0=>cases c;cases F;exact⟨aB,by rw[bP (E I)];exact I,aD⟩
  |1=>cases c;cases F;exact⟨aK,by rw[bP (E J)];exact J,aP⟩
  |2=>cases c;cases F;exact⟨ah,by rw[bP (E K)];exact K,aX⟩
  |i+3=>cases c
 ·have f:a∈[q,r,t]:=f;simp only[SG,TS,or_false]at f;rcases f with rfl|rfl|rfl
  ·exact⟨ay,az⟩
  ·exact⟨aG,aJ⟩
  exact⟨aS,aV⟩
 show[q,r,t].Nodup
 simp[a5,a6,ba]
def u3(i j k n:Nat)(F:cb)(w:iZ):cB:=λU a=>w (a.map fZ) λc=>sh c n=true/\F (c.map gF.sl) λr=>∃b p h m d f g,r=.deep (.dl b p h m [d,f,g])/\U.nx (((a.set i (.own (.l d))).set j (.own (.l f))).set k (.own (.l g)))
theorem u1{f:Str}{a3:ZS}{aM aN i j k:Nat}{x y z:Str}{w:iZ}{L M O P Q u:Pos}{S:Nat}(c:ca X.prog X.w X.K X.mg X.base f a3 aM (ck X.K n F))(a4:ez aN X.A)(a5:eG X f)(a6:X.calm=true)(E:mD X (e::C) w)(T:X.N.Nodup)(dk:i≠j)(dm:i≠k)(dn:j≠k)(ba:X.N[i]?=some x)(bb:X.N[j]?=some y)(t:X.N[k]?=some z)(bc:ho X.env.scope x)(bg:ho X.env.scope y)(bW:ho X.env.scope z)(bj:aM<=aN:=by decide)(bq:ec f:=by decide)(bw:eN X e C:=by rfl)(bA:hy X u C:=by rfl)(bK:ip X x:=by walk_at"f")(bL:ip X y:=by walk_at"f")(bM:ip X z:=by walk_at"f")(bR:XZ [.Tuple [.Name x L,.Name y M,.Name z O] S P] (.Call (.Name f Q) (e::C) [] u) o.line X.env=pure false:=by rfl)(bS:X0 [.Tuple [.Name x L,.Name y M,.Name z O] S P] (.Call (.Name f Q) (e::C) [] u) X.env=pure none:=by rfl):
  eV X (.Assign [.Tuple [.Name x L,.Name y M,.Name z O] S P] (.Call (.Name f Q) (e::C) [] u) o) (u3 i j k n F w):=by
 obtain⟨_,bT,bU⟩:=E;refine⟨_,su (oP c a4 a5 bT bj bq bw bA) (FA a6 (wu (tZ T ba bc bK) (wu (tZ T bb bg bL) (wu (tZ T t bW bM) Fz rfl) rfl) rfl) rfl rfl) bR bS rfl,λU bV h R W B H bY D e s=>?_⟩;refine bU _ _ h _ _ _ _ _ _ e.i6 λdq Y dx Z aO aP b0 b5=>?_;rw[SR];refine q' aP b5 aO.1 aO.2 λr v aU b6 t b8 b9 aa=>?_;obtain⟨b,p,dz,ae,b',cc,cn,rfl,t⟩:=t;obtain⟨rfl,cp,G,I,J⟩:=aa;obtain⟨aj,cw,cD,k',cF⟩:=e.looked b8.toWd (b0.trans b9);have len:ae.length=3:=G.len
 obtain⟨d,g,l,rfl⟩:∃d g l,ae=[d,g,l]:=by
  match ae,len with
  |[d,g,l],_=>exact⟨d,g,l,rfl⟩
 have aV:∀a,Z a=none->H a=none:=λa h=>(aP.toWd.fresh h).1;have ax:∀{Y:ZL}{aX:List L3.D},b_ X.K (dN Z aU) Y aX->b_ X.K aj Y aX:=λr=>((r.mono (q8 aV)).mono k').mono iX;obtain⟨dD,cK,ay⟩:=G.at_ 0 d b' rfl rfl;obtain⟨dF,cL,az⟩:=G.at_ 1 g cc rfl rfl;obtain⟨ah,cO,aI⟩:=G.at_ 2 l cn rfl rfl;have ay:=ax ay;have az:=ax az;have aI:=ax aI;have I:∀a∈[d,g,l],Z a=none/\aU a=none:=I;have J:[d,g,l].Nodup:=J;simp only[Tu,SG,TS,or_false,not_or]at J;obtain⟨⟨cP,cQ⟩,cR,_⟩:=J
 have aJ:∀a∈[d,g,l],R a=none/\aj a=none/\∀i,¬cg bY bV i a:=λa E=>by
  have z:=aV a (I a E).1;exact⟨(e.toWd.fresh z).1,by rw[cF a z];exact(I a E).2,λi m=>(e.eP m).2 z⟩
 obtain⟨cS,cX,cY⟩:=aJ d (by simp);obtain⟨c7,c9,da⟩:=aJ g (by simp);obtain⟨dc,dd,tb⟩:=aJ l (by simp);have di:=cw.h5 i cS cX cK ay λq _=>cY q
 have dj:=di.h5 j c7 c9 cL az λq _ m=>by
  rcases y1 m with⟨_,z⟩|⟨_,m⟩
  ·exact cP z.symm
  exact da _ m
 have aK:=dj.h5 k dc dd cO aI λq _ m=>by
  rcases y1 m with⟨_,z⟩|⟨_,m⟩
  ·exact cR z.symm
  rcases y1 m with⟨_,z⟩|⟨_,m⟩
  ·exact cQ z.symm
  exact tb _ m
 exact⟨p,[.ref d,.ref g,.ref l],rfl,fx.of cp,rfl,_,_,rfl,_,_,rfl,_,_,rfl,rfl,s.nx _ _ aj b6 t aK cD⟩
end
theorem Lu:∀l:ZH,flats (l.map D.int)=true
 |[]=>rfl
 |a::l=>by rw[SI,flats,Lu l];rfl
section
variable{K:Su}{X:aT}{u:bd}{w:cJ}{I p:Pos}
structure jU(K:Su)(R:ak)(W:TE->Prop)(D:TE)(B H:ak)(σ:St)(ρ:ZI)(es:List L3.D):Prop where
 ev:aL K R W B H σ ρ
 r:R D=none
 b:B D=none
 nw:¬W D
 mu:∀j a,cg σ ρ j a->W a
 l:∃ys,H D=some (.lst ys)/\b_ K (dN R B) ys es
def tN(K:Su)(em:TE->jJ)(i:mm):Prop:=∀(n:Nat)(b:ZI)(k:ZI->List L3.D->Prop),i n b k->∀(R:ak)(W:TE->Prop)(D:TE)(B H:ak)(c:St)(a:List L3.D)(Q:St->ak->Prop),jU K R W D B H c b a->a.length=n->
 (∀d e f g h,k d h->jU K R W D e f g d (a++h)->bx R B e->Q g f)->em D c H Q
theorem jU.same{R:ak}{W:TE->Prop}{D:TE}{B H a H':ak}{c:St}{d:ZI}{f:List L3.D}(m:jU K R W D B H c d f)(e:aL K H W a H' c d)(g:bx H B a):jU K R W D a H' c d f/\bx R B a:=by
 obtain⟨i,h,j⟩:=m.l;obtain⟨k,p⟩:=m.ev.f_ m.mu e g;refine⟨⟨k,m.r,?_,m.nw,m.mu,i,e.fr D _ h m.nw,j.mono (nT g.s)⟩,p⟩;cases q:a D with
 |none=>rfl
 |some o=>
  rcases g.n D o q with z|z
  ·rw[m.b]at z;cases z
  rw[h]at z;cases z
theorem u0{d:bH}(o:sV K d u):tN K (xl d) (El u):=by
 intro n e k h R W D B H f p Q m G q;obtain⟨I,h⟩:=h;refine o e _ h H W B H f _ (m.ev.rebase m.mu) λy v s J t w x A=>?_;obtain⟨c,C⟩:=m.same w x;obtain⟨g,E,i⟩:=c.l;have L:g.length=p.length:=i.length;refine⟨g,E,by lia,q e s _ f [y] t ⟨c.ev.gb c.r c.b (λj F=>c.nw (c.mu j D F)) _,c.r,c.b,c.nw,c.mu,_,dL,i.append (.cons (A.mono (q8 λa z=>(m.ev.toWd.fresh z).1)) .nil)⟩ C⟩
theorem uZ{g:fO}{P:ek}{em:TE->jJ}{I:eU}{L:dJ}{M:mm}(hc:oT K g I)(aj:ig K P L)(ao:tN K em M){R:ak}{W:TE->Prop}{D:TE}{q S:ak}{T:St}{N:ZI}{o:List L3.D}{J:hA}{c:List L3.D}(ar:kE K q J c)(m:jU K R W D q S T N o){k:ZI->List L3.D->Prop}(z:lL I L M c o.length N k){Q:St->ak->Prop}(au:∀B t f U e,k B e->jU K R W D t f U B (o++e)->bx R q t->Q U f):∃V:Nat->Nat->St->ak->Prop,(∃n,V 0 n T S)/\uu J g P (em D) V Q:=by
 refine⟨λi n C f=>∃t e u,n=c.length-i/\i<=c.length/\jU K R W D t f C u (o++e)/\bx R q t/\lL I L M (c.drop i) (o++e).length u λB r=>k B (e++r),⟨c.length,q,[],N,by simp,Td _,by simpa using m,bx.refl _ _,by simpa using z⟩,?_⟩;rintro i n C X ⟨E,e,u,rfl,a3,h,v,F⟩;obtain⟨A,av,ax⟩:=ar X (v.s.trans h.ev.bh) i;by_cases p:i<c.length
 ·refine .inr ⟨A p,λx f y=>?_⟩;obtain⟨rfl,d,Y,aB⟩:=ax x f p y
  have aC:c.drop i=d::c.drop (i+1):=by
   rw[Up p];rw[S0 p]at Y;rw[SN Y]
  rw[aC]at F;refine hc d u _ F R W E f C x _ h.ev (aB.mono v.s) λG O aD Z aE=>?_;have h1:jU K R W D E f O G (o++e):=⟨Z,h.r,h.b,h.nw,λj a w=>h.mu j a (aE j a w),h.l⟩;refine aj G _ aD f W E f O _ (Z.rebase h1.mu) λb aa aI H aJ aK=>?_;obtain⟨ae,af⟩:=h1.same aJ aK;cases b with
  |false=>
   rw[Tk SU]at H⊢;exact⟨c.length-(i+1),by lia,aa,e,G,rfl,p,ae,v.trans af,H⟩
  |true=>
   rw[SL rfl]at H⊢;refine ao _ G _ H R W D aa aI O _ _ ae rfl λaM aN a4 a6 ag aO ai aP=>?_;rw[SY]at ai;refine⟨c.length-(i+1),by lia,aN,e++ag,aM,rfl,p,ai,(v.trans af).trans aP,?_⟩;rw[<-SY,Sz (bs:=ag)];simpa[SY]using aO
 have aU:i=c.length:=by lia
 subst aU;rw[Uy]at F;exact .inl ⟨av (SF _),au u E X C e (by simpa[lL]using F) h v⟩
theorem uS{d:gP}{g:fO}{e:ek}{em:TE->jJ}{f:eU}{i:dJ}{j:mm}(l:sJ K d w)(o:oT K g f)(p:ig K e i)(r:tN K em j):tN K (λD=>GY d g e (em D)) (K3 w f i j):=by
 intro n s k h R W D B H u M Q m v q;subst v;refine l s _ h H W B H u _ (m.ev.rebase m.mu) λN J O P x y t z=>?_;obtain⟨A,C⟩:=m.same y t;exact uZ o p r z A x λE F G I L a b c=>q E F G I L a b (C.trans c)
theorem jU.alloc{R:ak}{W:TE->Prop}{D:TE}{B H:ak}{d:St}{e:ZI}{f:List L3.D}(m:jU K R W D B H d e f){q:TE}(a:H q=none)(o:eo):jU K R W D (ed B q o) (ed H q o) d e f/\bx R B (ed B q o):=by
 obtain⟨h,c,i⟩:=m.l;have n:D≠q:=λz=>by rw[z,a]at c;cases c
 have g:=m.ev.grow a o;exact⟨⟨m.ev.alloc a o,m.r,by rw[bP n];exact m.b,m.nw,m.mu,h,by rw[bP n];exact c,i.mono (nT g.s)⟩,g⟩
theorem uR{g:fO}{T:ek}{em:TE->jJ}{I:eU}{L:dJ}{M:mm}(ar:oT K g I)(au:ig K T L)(av:tN K em M){R:ak}{W:TE->Prop}{D:TE}{q U:ak}{X:St}{N:ZI}{es:List L3.D}{J:hA}{c:List L3.D}(ax:J2 K q J c)(m:jU K R W D q U X N es){k:ZI->List L3.D->Prop}(z:lL I L M c es.length N k){Q:St->ak->Prop}(aB:∀v t e Y f,k v f->jU K R W D t e Y v (es++f)->bx R q t->Q Y e):∃V:Nat->Nat->St->ak->Prop,(∃n,V 0 n X U)/\uu J g T (em D) V Q:=by
 refine⟨λi n B e=>∃t f u,n=c.length-i/\i<=c.length/\jU K R W D t e B u (es++f)/\bx R q t/\lL I L M (c.drop i) (es++f).length u λv r=>k v (f++r),⟨c.length,q,[],N,by simp,Td _,by simpa using m,bx.refl _ _,by simpa using z⟩,?_⟩;rintro i n B O ⟨o,f,u,rfl,bb,d,h,C⟩;obtain⟨A,aC,aD⟩:=ax O (h.s.trans d.ev.bh) i;by_cases p:i<c.length
 ·refine .inr ⟨A p,λx e y=>?_⟩;obtain⟨E,F,Z,aE,rfl,rfl,h1,aI⟩:=aD x e p y
  have aJ:c.drop i=.tup Z::c.drop (i+1):=by
   rw[Up p];rw[S0 p]at h1;rw[SN h1]
  rw[aJ]at C;obtain⟨d,P⟩:=d.alloc aE (.tup F);have h:=h.trans P;have aa:bE K (ed o E (.tup F)) (.ref E) (.tup Z):=.tup dL (aI.mono h.s);generalize ed O E (.tup F)=e at d;generalize ed o E (.tup F)=o at d h aa;refine ar _ u _ C R W o e B _ _ d.ev aa λG S aK ae aM=>?_;have af:jU K R W D o e S G (es++f):=⟨ae,d.r,d.b,d.nw,λj a w=>d.mu j a (aM j a w),d.l⟩;refine au G _ aK e W o e S _ (ae.rebase af.mu) λb ag aN H aO aP=>?_;obtain⟨ai,hc⟩:=af.same aO aP;cases b with
  |false=>
   rw[Tk SU]at H⊢;exact⟨c.length-(i+1),by lia,ag,f,G,rfl,p,ai,h.trans hc,H⟩
  |true=>
   rw[SL rfl]at H⊢;refine av _ G _ H R W D ag aN S _ _ ai rfl λaU a3 bc bg aj a4 ao a6=>?_;rw[SY]at ao;refine⟨c.length-(i+1),by lia,a3,f++aj,aU,rfl,p,ao,(h.trans hc).trans a6,?_⟩;rw[<-SY,Sz (bs:=aj)];simpa[SY]using a4
 have a':i=c.length:=by lia
 subst a';rw[Uy]at C;exact .inl ⟨aC (SF _),aB u o O B f (by simpa[lL]using C) d h⟩
theorem uQ{C:gP}{g:fO}{E:ek}{em:TE->jJ}{F:eU}{I:dJ}{L:mm}{f:Nat}{d:ZO}(S:J3 K C w)(T:oT K g F)(U:ig K E I)(X:tN K em L)(Y:d.Nodup):Li K (xo C g E em f d) (K4 w F I L f d):=by
 intro n k h R W B H o Q e q;refine S n _ h R W B H o _ e λaD J aE Z h1 r t aa=>?_;intro D u;obtain⟨G,aI,hi⟩:=r.toWd.fresh u;have M:∀i,¬cg o n i D:=λi m=>r.ff u m rfl;have ei:=r.within f Y
 have x:∀j a,cg (SS f none++iu o d) (SS f .no++d.map (j8 n)) j a->∃j,j∈d/\o[j]?=some (some (V.ref a))/\n[j]?=some aA.bag:=λj a m=>by
  have y:=(ei.eP m).2;rcases m with⟨N,z|⟨es,z⟩⟩|⟨c,z,ae⟩
  ·obtain⟨c,s,p,_⟩:=ei.eQ z;rw[N]at s;cases s;rcases p with p|p
   ·exact p
   exact absurd p y
  ·obtain⟨c,s,p,_⟩:=ei.fJ z;rw[N]at s;cases s;exact absurd p y
  exact absurd ((ei.eJ z).2.fr a ae).1 y
 generalize O:(λa=>∃j,j∈d/\o[j]?=some (some (V.ref a))/\n[j]?=some aA.bag)=v at ei;have x:∀j a,cg (SS f none++iu o d) (SS f .no++d.map (j8 n)) j a->v a:=λj a m=>by rw[<-O];exact x j a m
 have P:∀a,v a->∃i:Nat,o[i]?=some (some (.ref a))/\n[i]?=some .bag:=λa z=>by
  rw[<-O]at z;obtain⟨j,_,z⟩:=z;exact⟨j,z⟩
 have af:¬v D:=λz=>by
  obtain⟨ai,hc,aj⟩:=P D z;exact M ai (.inl ⟨hc,.inl aj⟩)
 refine uR T U X (R:=Z) (W:=v) (es:=[]) aa ⟨ei.e8 u _,u,hi,af,x,[],dL,.nil⟩ h1 λaJ ao ar aM aN a A au=>?_;obtain⟨av,aw,ax⟩:=A.l;obtain⟨ay,aC⟩:=r.after P A.ev.toWd au;exact q _ D av ao ar a ay (t.trans aC) G A.b aw (ax.mono (q8 λa z=>(r.toWd.fresh z).1)) M
variable{S M O L A:Wp}{P G:ZV}{f:XW}{E:List (Str×TE)}{ts fr:ZS}{js:ZO}{aa t:eU}{ae T:dJ}{Z:cJ}
theorem uN{i:Nat}{y:Str}{J Q:Pos}(af:X.N.Nodup)(ai:X.N[i]?=some y)(aj:X.env.scope.names.lookup y=some .local)(ar:J4 X L M w)(c:∀C s H b,j3 (d7 X (ts++fr) f E C s H b) L aa)(d:∀C s H b,p' (d7 X (ts++fr) f E C s H b) P ae)(au:∀C s H b,mE (d7 X (ts++fr) f E C s H b) A O Z)(g:∀C s H b,j3 (d7 X (ts++fr) f E C s H b) A t)(k:∀C s H b,p' (d7 X (ts++fr) f E C s H b) G T)(av:∀C s H b,lu (d7 X (ts++fr) f E C s H b) S u)(F:oX X f E fr js)(aw:js.Nodup:=by decide)(hi:X.calm=true:=by rfl)(ax:∀v,WF M X.env v=pure v:=by intro _;rfl)(ay:∀env v,WF O env v=pure v:=by intro _ _;rfl)(az:XA (.ListComp S [⟨L,M,P,0⟩,⟨A,O,G,0⟩] f I) (some (.Name y J)) Q.line X.env=pure true:=by rfl):
  eV X (.Assign [.Name y J] (.ListComp S [⟨L,M,P,0⟩,⟨A,O,G,0⟩] f I) Q) (Lk i (K4 w aa ae (K3 Z t T (El u)) ts.length js)):=by
 obtain⟨_,aC,aD⟩:=ar;let Xs:xN->aT:=λa=>d7 X (ts++fr) f E a.1 a.2.1 a.2.2.1 a.2.2.2
 obtain⟨_,l,m⟩:=uC (K:=X.K) (Xs:=Xs) (λ_=>rfl) λa=>c a.1 a.2.1 a.2.2.1 a.2.2.2;obtain⟨_,n,o⟩:=uB (K:=X.K) (Xs:=Xs) (λ_=>rfl) λa=>d a.1 a.2.1 a.2.2.1 a.2.2.2;obtain⟨_,p1,aE⟩:=xP (K:=X.K) (Xs:=Xs) (λ_=>rfl) λa=>au a.1 a.2.1 a.2.2.1 a.2.2.2;obtain⟨_,p,q⟩:=uC (K:=X.K) (Xs:=Xs) (λ_=>rfl) λa=>g a.1 a.2.1 a.2.2.1 a.2.2.2;obtain⟨_,r,x⟩:=uB (K:=X.K) (Xs:=Xs) (λ_=>rfl) λa=>k a.1 a.2.1 a.2.2.1 a.2.2.2;obtain⟨_,aG,aH⟩:=Hm (K:=X.K) (Xs:=Xs) (λ_=>rfl) λa=>av a.1 a.2.1 a.2.2.1 a.2.2.2;refine⟨_,G5 af ai aj aC (λC s H b=>l (C,s,H,b)) (λC s H b=>n (C,s,H,b)) (λD C s H b=>?_) (λ_ _ _=>Qd) F hi ax az,λU aI h R W B H aJ D e s=>uQ aD m o (uS aE q x (u0 aH)) aw aI _ h R W B H aJ _ e λa3 a a4 aM aN aO aP t G aS aU aV aX=>s.nx _ _ aM aN (aO a) (aP.ly i G aS aU aV λj _=>aX j) t⟩;exact Qx (Y:=Xs (C,s,H,b)) (p1 _) (p _) (r _) (BU (Y:=Xs (C,s,H,b)) (aG _) λ_ _ z=>z) (λ_ _ z=>z) hi (ay _) rfl λ_=>Qe
end
section
variable{s w v:F2}{N:Nat}
theorem sg(f:a8 s.1 s.2)(g:a8 w.1 w.2)(n:s.1≠0)(o:0<w.1)(i:SB s.1<=10)(q:SB s.2<=10)(d:SB w.1<=16)(e:SB w.2<=16)(a:Bool):fi (dh s a w)/\(∀p∈dh s a w,du 42 p)/\(dh s a w).length<=3:=by
 have b:=uT f g n o;obtain⟨_,_,r,u⟩:=kb (t:=(if s.1<0 then -s.1 else s.1)*w.1) (b:=s.2*w.2) (pW f.1 g.1)
 have v:SB (if s.1<0 then -s.1 else s.1)<=10:=by
  split
  ·exact TT i
  exact i
 have j:SB (bJ s w).1<=26:=fW r (TD v d);have k:SB (bJ s w).2<=26:=fW u (TD q e);have m:∀{x:Int},SB x<=16->SB x<=42:=λh=>cf h;have l:∀{x:Int},SB x<=26->SB x<=42:=λh=>cf h;have z:SB 0<=42:=by decide
 have y:du 42 (0,0,1):=⟨⟨(show(0:Int)<1 by decide),(show Ss (Ss 0 0:Nat) 1=1 by decide)⟩,z,z,(show SB 1<=42 by decide)⟩;have A:du 42 (w.1,0,w.2):=⟨xH b.lw,m d,z,m e⟩;have B:du 42 (dg w (bJ s w)):=⟨b.top.1,(me d e j k b.lw b.lh).mono (by decide)⟩;have g3:du 42 (0,(bJ s w).1,(bJ s w).2):=⟨xI b.lh,z,l j,l k⟩;refine⟨HO b a,λp c=>?_,Ve (HN a)⟩;unfold dh at c;split at c<;>split at c<;>(simp only[SG,TS,or_false]at c;rcases c with rfl|rfl|rfl<;>assumption)
end
theorem r_{a:Type}(l:List a)(x:a):eB (l++[x]) (-1)=some x:=by
 have:=QT (rs:=l++[x]) (i:=0) (by rw[Sz];simp);rw[show((-1:Int)-((0:Nat):Int)) = -1 from rfl]at this;rw[this];simp
abbrev qK(g:ZK×ZM):D:=.tup (g.1++[.lst (g.2.map bI)])
theorem EH{i:Nat}{d:D}{t:cB}{U:hD}{a:ZI}(h:t U (a.set i (.val d))):oV (Bv i (i0 d)) t U a:=h
abbrev v4:iv:=.L (.T [.T [.I,.I],Cv])
theorem qL(cs:ZN):has v4 (.lst (cs.map dC))=true:=by
 show(cs.map dC).all _=true
 rw[Uz];intro d a;obtain⟨c,_,rfl⟩:=SJ.mp a;show(has (.T [.I,.I]) (dR c.1)&&(has Cv (.lst (c.2.map bI))&&true))=true
 rw[RY];rfl
def eM(M:Int)(g:ab):ab:=(g.1*M,g.2.1*M,g.2.2)
structure k3(m c:Nat)(g:ab):Prop where
 a:SB g.1<=m
 b:SB g.2.1<=m
 c:SB g.2.2<=c
 n:g.1≠0\/g.2.1≠0
def l5(M:Int)(B:Nat)(v:ab):Prop:=∃r u:Int,v.1*M=r*v.2.2/\v.2.1*M=u*v.2.2/\SB r<=B/\SB u<=B
structure hL(M:Int)(m c n t:Nat)(x:a7):Prop where
 cv:fi x.1
 pt:∀p∈x.1,aW p
 co:∀p∈x.1,∃g h q,k3 m c g/\k3 m c h/\ln (eM M g) p=0/\ln (eM M h) p=0/\ln (eM M g) q=0/\ln (eM M h) q≠0
 li:∀e∈dv x.1,∃g,k3 m c g/\ln (eM M g) e.1=0/\ln (eM M g) e.2=0
 le:x.1.length<=n
 sp:aW x.2.2
 st:∃K:Int,0<K/\SB K<=20/\l5 (K*M) t x.2.2
theorem k3.mono{m c d:Nat}{g:ab}(h:k3 m c g)(l:c<=d):k3 m d g:=⟨h.a,h.b,Sx h.c l,h.n⟩
theorem hL.mono{M:Int}{m c n t d i j:Nat}{x:a7}(h:hL M m c n t x)(f:c<=d)(l:n<=i)(k:t<=j):hL M m d i j x:=
 ⟨h.cv,h.pt,λp o=>by obtain⟨g,s,q,a,b,z⟩:=h.co p o;exact⟨g,s,q,a.mono f,b.mono f,z⟩,λe v=>by obtain⟨g,a,z⟩:=h.li e v;exact⟨g,a.mono f,z⟩,Sx h.le l,h.sp,by
  obtain⟨K,w,y,r,u,A,B,C,E⟩:=h.st
  exact⟨K,w,y,r,u,A,B,Sx C k,Sx E k⟩⟩
theorem r'{a b n N:Int}(h:mA a b n)(d:n∣a*N)(f:n∣b*N):n∣N:=by
 have e:Ss (Ss a b:Nat) n=1:=h.2;have g:n.natAbs∣a.natAbs*N.natAbs:=by rw[<-S8];exact TK.mpr d
 have i:n.natAbs∣b.natAbs*N.natAbs:=by rw[<-S8];exact TK.mpr f
 have j:n.natAbs∣Tf a.natAbs b.natAbs*N.natAbs:=by
  rw[<-VT];exact VS g i
 have c:U8 n.natAbs (Tf a.natAbs b.natAbs):=Nat.Coprime.symm e;exact TK.mp (UY c j)
theorem EI{v N r d:Int}(c:0<d)(a:d<=N)(e:v*N=r*d):v.natAbs<=r.natAbs:=by
 have b:v.natAbs*N.natAbs=r.natAbs*d.natAbs:=by rw[<-S8,e,S8]
 have l:d.natAbs<=N.natAbs:=by lia
 have p:0<N.natAbs:=by lia
 have:v.natAbs*N.natAbs<=r.natAbs*N.natAbs:=by rw[b];exact Nat.mul_le_mul_left _ l
 exact Nat.le_of_mul_le_mul_right this p
theorem hL.px{M:Int}{k m c n t:Nat}{x:a7}(h:hL M m c n t x)(j:0<M)(l:SB M<=k)(F:m+k<=c)(ai:k+20<=t):lH (c+c+1) c n t x:=by
 have bl:∀g,k3 m c g->cH c (eM M g)/\((eM M g).1≠0\/(eM M g).2.1≠0):=λg d=>
  ⟨⟨Sx (TD d.a l) F,Sx (TD d.b l) F,d.c⟩,d.n.imp (λz=>S1 z (Sy j)) (λz=>S1 z (Sy j))⟩
 refine⟨h.cv,⟨λp o=>⟨h.pt p o,?_⟩,λe U=>?_⟩,h.le,⟨h.sp,?_⟩⟩
 ·obtain⟨g,I,q,d,W,s,v,A,B⟩:=h.co p o;have P:=h.pt p o;obtain⟨f,C⟩:=bl g d;obtain⟨E,hc⟩:=bl I W;generalize eM M g=G at *;generalize eM M I=H at *
  have X:(a_ G H).1≠0\/(a_ G H).2.1≠0\/(a_ G H).2.2≠0:=by
   apply T8;intro z;have J:(a_ G H).1=0:=T8 λy=>z (.inl y);have L:(a_ G H).2.1=0:=T8 λy=>z (.inr (.inl y));have O:(a_ G H).2.2=0:=T8 λy=>z (.inr (.inr y));unfold L3.ln at A B;unfold a_ at J L O;dsimp only at J L O;rcases C with w|w
   ·have:G.1*(H.1*q.1+H.2.1*q.2.1+H.2.2*q.2.2)=0:=by
     have:G.1*(H.1*q.1+H.2.1*q.2.1+H.2.2*q.2.2)=H.1*(G.1*q.1+G.2.1*q.2.1+G.2.2*q.2.2):=by grind
     rw[this,A,SV]
    exact B ((Tb.mp this).resolve_left w)
   have:G.2.1*(H.1*q.1+H.2.1*q.2.1+H.2.2*q.2.2)=0:=by
    have:G.2.1*(H.1*q.1+H.2.1*q.2.1+H.2.2*q.2.2)=H.2.1*(G.1*q.1+G.2.1*q.2.1+G.2.2*q.2.2):=by grind
    rw[this,A,SV]
   exact B ((Tb.mp this).resolve_left w)
  have Q:∀a b:ab,L3.ln a b=L3.ln b a:=λa b=>by unfold L3.ln;grind
  obtain⟨a,b,Y,Z,e⟩:=par (g:=p) (.inr (.inr (Sy P.1))) (by rw[Q];exact s) (by rw[Q];exact v) X;obtain⟨h1,i⟩:=ru Y Z P e;rw[<-i];exact cH.nP (f.crs E) h1
 ·obtain⟨g,d,s,v⟩:=h.li e U;obtain⟨f,C⟩:=bl g d;exact⟨_,f,C.imp id .inl,s,v⟩
 obtain⟨K,aa,hi,r,u,R,i,f,E⟩:=h.st;have P:=h.sp;have S:0<K*M:=SD aa j;have T:=r' P (N:=K*M) ⟨r,by rw[R,S4]⟩ ⟨u,by rw[i,S4]⟩;have le:=U7 S T;exact⟨fW (EI P.1 le R) f,fW (EI P.1 le i) E,yM P.1 S T (Sx (TD hi l) (by lia))⟩
theorem y'{M:Int}{m c n t:Nat}{l o j:ab}{sh:ZM}(h:∀s∈sh,hL M m c n t s)(N:l.1≠0\/l.2.1≠0)(S:ln l o=0)(O:k3 m c j)(T:∃a b:Int,a≠0/\b≠0/\sc a l=sc b (eM M j))(i:ab)(e:i=l\/i=iI l):∀s∈dH (ln i) (a0 l) sh,hL M m c (n+1) t s:=λs U=>by
 obtain⟨q,W,rfl,X⟩:=IG U;have g:=h q W
 have F:n' i (a0 l):=by
  rcases e with rfl|rfl
  ·exact s4 _
  exact(s4 _).ng
 have Y:i.1≠0\/i.2.1≠0:=by
  rcases e with rfl|rfl
  ·exact N
  rcases N with z|z
  ·exact .inl (by unfold iI sc;dsimp only;lia)
  exact .inr (by unfold iI sc;dsimp only;lia)
 have w:∀u,ln i u=0↔ln l u=0:=λu=>by
  rcases e with rfl|rfl
  ·exact Iff.rfl
  rw[oa];lia
 have H:∀u,ln l u=0↔ln (eM M j) u=0:=λu=>by
  obtain⟨a,b,Z,aa,e⟩:=T
  have:a*ln l u=b*ln (eM M j) u:=by
   generalize eM M j=G at *;have aw:a*l.1=b*G.1:=TW (λx:ab=>x.1) e;have az:a*l.2.1=b*G.2.1:=TW (λx:ab=>x.2.1) e;have aB:a*l.2.2=b*G.2.2:=TW (λx:ab=>x.2.2) e;unfold ln;grind
  constructor
  ·intro z;rw[z,SV]at this;exact(Tb.mp this.symm).resolve_left aa
  intro z;rw[z,SV]at this;exact(Tb.mp this).resolve_left Z
 have hi:∀p q,ln i p*ln i q<0->ln l p*ln l q<0:=λp q z=>by
  rcases e with rfl|rfl
  ·exact z
  rwa[oa,oa,Ur]at z
 obtain⟨P,ai⟩:=H3 F.meets ((o7 q.1).mpr g.cv.ni) g.cv.1 X
 have hc:∀d∈dv q.1,ln i d.1*ln i d.2<0->aW (a0 l d.1 d.2):=λd k z=>by
  obtain⟨Q,R⟩:=lA k;rw[<-n8 (g.pt _ Q) (g.pt _ R)];exact gK (n9 (g.pt _ Q) (g.pt _ R) (hi _ _ z))
 have A:∀p∈dB (ln i) (a0 l) q.1,aW p:=λp B=>by
  rcases C0 B with⟨L,_⟩|⟨d,k,z,rfl⟩
  ·exact g.pt p L
  exact hc d k z
 refine⟨qi.mf ai ((o7 _).mp P),A,λp B=>?_,?_,?_,g.sp,g.st⟩
 ·rcases C0 B with⟨L,_⟩|⟨d,k,z,rfl⟩
  ·exact g.co p L
  obtain⟨I,J,r,E⟩:=g.li d k;obtain⟨K,y⟩:=F _ _ z;refine⟨I,j,d.1,J,O,K.my r E,(H _).mp ((w _).mp y),r,λy=>?_⟩;have:=(w _).mpr ((H _).mpr y);rw[this,TR]at z;exact absurd z (by decide)
 ·refine Ix (f:=ln i) (mt:=a0 l) (ps:=q.1) (C:=λu v=>∃g:ab,k3 m c g/\ln (eM M g) u=0/\ln (eM M g) v=0) (λu v aj ao=>⟨j,O,(H u).mp ((w u).mp aj),(H v).mp ((w v).mp ao)⟩) o ((w o).mpr S) (λe aq _ _=>g.li e aq) λd k z=>?_;obtain⟨I,J,r,E⟩:=g.li d k;obtain⟨K,y⟩:=F _ _ z;exact⟨y,λ_=>⟨I,J,r,K.my r E⟩,λ_=>⟨I,J,K.my r E,E⟩⟩
 have:=Kj F Y P λp B=>(A p B).1;have:=g.le;show(dB (ln i) (a0 l) q.1).length<=n+1
 lia
def r6(r u:Int)(g:ab):ab:=(g.1,g.2.1,g.2.2-(g.1*r+g.2.1*u))
theorem EJ{M r u:Int}{v g p:ab}(c:v.1*M=r*v.2.2)(d:v.2.1*M=u*v.2.2):ln (eM M (r6 r u g)) (ee v p)=v.2.2*ln (eM M g) p:=by
 unfold eM r6 ln ee;dsimp only;have a:g.1*M*(p.1*v.2.2+v.1*p.2.2)=g.1*M*p.1*v.2.2+g.1*r*v.2.2*p.2.2:=by grind
 have b:g.2.1*M*(p.2.1*v.2.2+v.2.1*p.2.2)=g.2.1*M*p.2.1*v.2.2+g.2.1*u*v.2.2*p.2.2:=by grind
 rw[a,b];grind
theorem k3.sl{m c B:Nat}{r u:Int}{g:ab}(h:k3 m c g)(d:SB r<=B)(e:SB u<=B)(f:m+B+1<=c):k3 m (c+1) (r6 r u g):=by
 refine⟨h.a,h.b,?_,h.n⟩;have a:=XC (TD h.a d) (TD h.b e);rw[Nat.max_self]at a;have b:=Y6 h.c (Sx a f);rwa[Nat.max_self]at b
theorem hL.lR{M:Int}{m c n t B:Nat}{v:ab}{x:a7}(h:hL M m c n t x)(a:aW v)(W:l5 M B v)(G:m+B+1<=c)(au:B+20<=t):hL M m (c+1) n (t+1) (l7 v x):=by
 obtain⟨r,u,o,s,A,C⟩:=W;have X:v.2.2≠0:=Sy a.1
 have E:∀g p,aW p->ln (eM M g) p=0->ln (eM M (r6 r u g)) (nP (ee v p))=0:=λg p f z=>by
  have e:=EJ (p:=p) (g:=g) o s;rw[z,SV]at e;obtain⟨k,H,b⟩:=kd (sW a f);rw[b,CG]at e;exact(Tb.mp e).resolve_left H
 refine⟨h.cv.sl a h.pt,λp f=>?_,λp f=>?_,λe F=>?_,?_,gK (sW a h.sp),?_⟩
 ·obtain⟨w,l,rfl⟩:=SJ.mp f;exact gK (sW a (h.pt w l))
 ·obtain⟨w,l,rfl⟩:=SJ.mp f;obtain⟨g,Y,q,I,Z,J,L,h1,aa⟩:=h.co w l;refine⟨r6 r u g,r6 r u Y,ee v q,I.sl A C G,Z.sl A C G,E _ _ (h.pt w l) J,E _ _ (h.pt w l) L,?_,?_⟩
  ·rw[EJ o s,h1,SV]
  rw[EJ o s];exact S1 X aa
 ·have F:e∈dv (x.1.map λp=>nP (ee v p)):=F;rw[Dh]at F;obtain⟨d,T,rfl⟩:=SJ.mp F;obtain⟨g,I,J,L⟩:=h.li d T;obtain⟨hi,ae⟩:=lA T;exact⟨r6 r u g,I.sl A C G,E _ _ (h.pt _ hi) J,E _ _ (h.pt _ ae) L⟩
 ·show(x.1.map _).length<=n
  rw[Sv];exact h.le
 obtain⟨K,H,N,i,j,aj,ao,aq,ar⟩:=h.st;obtain⟨k,U,b⟩:=kd (sW a h.sp);refine⟨K,H,N,i+K*r,j+K*u,?_,?_,Sx (XC aq (Sx (TD N A) (by lia:20+B<=t))) (by lia),Sx (XC ar (Sx (TD N C) (by lia:20+B<=t))) (by lia)⟩
 ·show(nP (ee v x.2.2)).1*(K*M)=(i+K*r)*(nP (ee v x.2.2)).2.2
  generalize nP (ee v x.2.2)=y at *;have O:x.2.2.1*v.2.2+v.1*x.2.2.2.2=k*y.1:=TW (λp:ab=>p.1) b;have P:x.2.2.2.2*v.2.2=k*y.2.2:=TW (λp:ab=>p.2.2) b;refine Uq U ?_;have Q:k*(y.1*(K*M))=(x.2.2.1*v.2.2+v.1*x.2.2.2.2)*(K*M):=by rw[O];grind
  have R:k*((i+K*r)*y.2.2)=(i+K*r)*(x.2.2.2.2*v.2.2):=by rw[P];grind
  rw[Q,R];have S:(x.2.2.1*v.2.2+v.1*x.2.2.2.2)*(K*M)=(x.2.2.1*(K*M))*v.2.2+K*x.2.2.2.2*(v.1*M):=by grind
  rw[S,aj,o];grind
 show(nP (ee v x.2.2)).2.1*(K*M)=(j+K*u)*(nP (ee v x.2.2)).2.2
 generalize nP (ee v x.2.2)=y at *;have O:x.2.2.2.1*v.2.2+v.2.1*x.2.2.2.2=k*y.2.1:=TW (λp:ab=>p.2.1) b;have P:x.2.2.2.2*v.2.2=k*y.2.2:=TW (λp:ab=>p.2.2) b;refine Uq U ?_;have Q:k*(y.2.1*(K*M))=(x.2.2.2.1*v.2.2+v.2.1*x.2.2.2.2)*(K*M):=by rw[O];grind
 have R:k*((j+K*u)*y.2.2)=(j+K*u)*(x.2.2.2.2*v.2.2):=by rw[P];grind
 rw[Q,R];have S:(x.2.2.2.1*v.2.2+v.2.1*x.2.2.2.2)*(K*M)=(x.2.2.2.1*(K*M))*v.2.2+K*x.2.2.2.2*(v.2.1*M):=by grind
 rw[S,ao,s];grind
theorem r9{X:F2}{M i:Int}(m:M≠0)(l:a8 X.1 X.2)(e:X.1*M=i*X.2):∃a b:Int,a≠0/\b≠0/\sc a (ce X)=sc b (eM M (1,0,-i)):=by
 have c:X.2*1≠0:=by have:=l.1;lia
 have d:X.2≠0:=Sy l.1
 have z:∀y:Int,ln (eM M (1,0,-i)) (cl (X.1*1) y (X.2*1))=0:=λy=>by
  obtain⟨_,f,_⟩:=kc (a:=X.1*1) (b:=y) c;generalize cl (X.1*1) y (X.2*1)=p at *;unfold eM ln;dsimp only
  have:X.2*(1*M*p.1+0*M*p.2.1 + -i*p.2.2)=0:=by
   have:X.2*(1*M*p.1+0*M*p.2.1 + -i*p.2.2)=(p.1*(X.2*1))*M-i*X.2*p.2.2:=by grind
   rw[this,f,<-e];grind
  exact(Tb.mp this).resolve_left d
 obtain⟨a,b,j,k,h⟩:=par (g:=eM M (1,0,-i)) (.inl (by show 1*M≠0;lia)) (z (0*X.2)) (z (1*X.2)) ((pj l).1.imp id .inl);exact⟨a,b,j,k,h⟩
theorem r7{X:F2}{M i:Int}(m:M≠0)(l:a8 X.1 X.2)(e:X.1*M=i*X.2):∃a b:Int,a≠0/\b≠0/\sc a (cC X)=sc b (eM M (0,1,-i)):=by
 have c:1*X.2≠0:=by have:=l.1;lia
 have d:X.2≠0:=Sy l.1
 have z:∀y:Int,ln (eM M (0,1,-i)) (cl y (X.1*1) (1*X.2))=0:=λy=>by
  obtain⟨_,_,f,_⟩:=kc (a:=y) (b:=X.1*1) c;generalize cl y (X.1*1) (1*X.2)=p at *;unfold eM ln;dsimp only
  have:X.2*(0*M*p.1+1*M*p.2.1 + -i*p.2.2)=0:=by
   have:X.2*(0*M*p.1+1*M*p.2.1 + -i*p.2.2)=(p.2.1*(1*X.2))*M-i*X.2*p.2.2:=by grind
   rw[this,f,<-e];grind
  exact(Tb.mp this).resolve_left d
 obtain⟨a,b,j,k,h⟩:=par (g:=eM M (0,1,-i)) (.inr (.inl (by show 1*M≠0;lia))) (z (0*X.2)) (z (1*X.2)) ((pk l).1.imp id .inl);exact⟨a,b,j,k,h⟩
theorem r5{x y:F2}{M i j:Int}{B:Nat}(d:a8 x.1 x.2)(e:a8 y.1 y.2)(f:x.1*M=i*x.2)(g:y.1*M=j*y.2)(h:SB i<=B)(k:SB j<=B):aW (dg x y)/\l5 M B (dg x y):=by
 have c:x.2*y.2≠0:=pW d.1 e.1;obtain⟨p,l,m,_⟩:=kc (a:=x.1*y.2) (b:=y.1*x.2) c;refine⟨p,i,j,?_,?_,h,k⟩
 ·show(cl (x.1*y.2) (y.1*x.2) (x.2*y.2)).1*M=i*(cl (x.1*y.2) (y.1*x.2) (x.2*y.2)).2.2
  generalize cl (x.1*y.2) (y.1*x.2) (x.2*y.2)=v at *;refine Uq c ?_;have a:x.2*y.2*(v.1*M)=(v.1*(x.2*y.2))*M:=by grind
  have b:x.2*y.2*(i*v.2.2)=y.2*v.2.2*(i*x.2):=by grind
  rw[a,l,b,<-f];grind
 show(cl (x.1*y.2) (y.1*x.2) (x.2*y.2)).2.1*M=j*(cl (x.1*y.2) (y.1*x.2) (x.2*y.2)).2.2
 generalize cl (x.1*y.2) (y.1*x.2) (x.2*y.2)=v at *;refine Uq c ?_;have a:x.2*y.2*(v.2.1*M)=(v.2.1*(x.2*y.2))*M:=by grind
 have b:x.2*y.2*(j*v.2.2)=x.2*v.2.2*(j*y.2):=by grind
 rw[a,m,b,<-g];grind
section
variable{s v u:F2}{M:Int}{m k n t:Nat}{sh:ZM}
theorem r2(z:e0 s v u)(a c:Bool){i:Int}(l:0<M)(b:1<=m)(e:(bz s v u a).1*M=i*(bz s v u a).2)(o:SB i<=k)(h:∀x∈sh,hL M m k n t x):∀x∈d2 (bz s v u a) c sh,hL M m k (n+1) t x:=by
 obtain⟨d,p,f⟩:=pj (z.x a).1;have g:k3 m k (1,0,-i):=⟨Sx (show SB 1<=1 by decide) b,Sx (show SB 0<=1 by decide) b,TT o,.inl (show(1:Int)≠0 by decide)⟩;have j:=r9 (Sy l) (z.x a).1 e;unfold d2;cases c with
 |true=>exact y' h d f g j _ (.inl rfl)
 |false=>
  have:=y' h d f g j (iI (ce (bz s v u a))) (.inr rfl);rwa[s5]at this
theorem r1(z:e0 s v u)(a c:Bool){i:Int}(l:0<M)(b:1<=m)(e:(bu s v u a).1*M=i*(bu s v u a).2)(o:SB i<=k)(h:∀x∈sh,hL M m k n t x):∀x∈f4 (bu s v u a) c sh,hL M m k (n+1) t x:=by
 obtain⟨d,p,f⟩:=pk (z.h a).1;have g:k3 m k (0,1,-i):=⟨Sx (show SB 0<=1 by decide) b,Sx (show SB 1<=1 by decide) b,TT o,.inr (show(1:Int)≠0 by decide)⟩;have j:=r7 (Sy l) (z.h a).1 e;unfold f4;cases c with
 |true=>exact y' h d f g j _ (.inl rfl)
 |false=>
  have:=y' h d f g j (iI (cC (bu s v u a))) (.inr rfl);rwa[s5]at this
theorem rU(z:e0 s v u)(e:Bool){a b d:Int}{B:Nat}(H:0<M)(I:1<=m)(J:(cm v u).1*M=a*(cm v u).2)(K:u.1*M=b*u.2)(C:(bu s v u e).1*M=d*(bu s v u e).2)(L:SB a<=B)(N:SB b<=B)(O:SB d<=B)(E:m+B+1<=k)(F:B+20<=t)(h:∀x∈sh,hL M m k n t x):
  ∀x∈jw s v u e sh++iN s v u e sh++il s v u e sh,hL M m (k+1) (n+2) (t+1) x:=by
 have o:SB 0<=B:=Sx (Ve rfl) (Td _)
 obtain⟨i,Y,aq⟩:∃i:Int,(bz s v u e).1*M=i*(bz s v u e).2/\SB i<=B:=by
  unfold bz;split
  ·exact⟨b,K,N⟩
  exact⟨a,J,L⟩
 have p:∀{x y:Int},a8 x y->a8 (-x) y:=λl=>⟨l.1,by rw[T5];exact l.2⟩;have q:a8 0 1:=⟨by decide,by decide⟩;have Z:=z.r.1;have P:=(z.h e).1;have w:∀{x y i:Int},x*M=i*y -> -x*M = -i*y:=λh=>by rw[Uc,h,Uc]
 have A:(0:Int)*M=0*1:=by rw[TR,TR]
 have h1:∀c:Bool,∃j:Int,a8 (if c=true then(0,1)else(-(cm v u).1,(cm v u).2):F2).1 (if c=true then(0,1)else(-(cm v u).1,(cm v u).2):F2).2/\(if c=true then(0,1)else(-(cm v u).1,(cm v u).2):F2).1*M=j*(if c=true then(0,1)else(-(cm v u).1,(cm v u).2):F2).2/\SB j<=B:=λc=>by
  cases c with
  |true=>exact⟨0,q,A,o⟩
  |false=>exact⟨-a,p Z,w J,TT L⟩
 have Q:∀c:Bool,∃j:Int,a8 (if c=true then(-u.1,u.2)else(0,1):F2).1 (if c=true then(-u.1,u.2)else(0,1):F2).2/\(if c=true then(-u.1,u.2)else(0,1):F2).1*M=j*(if c=true then(-u.1,u.2)else(0,1):F2).2/\SB j<=B:=λc=>by
  cases c with
  |true=>exact⟨-b,p z.lp,w K,TT N⟩
  |false=>exact⟨0,q,A,o⟩
 have R:∀c:Bool,∃j:Int,a8 (if c=true then(-(bu s v u e).1,(bu s v u e).2)else(0,1):F2).1 (if c=true then(-(bu s v u e).1,(bu s v u e).2)else(0,1):F2).2/\(if c=true then(-(bu s v u e).1,(bu s v u e).2)else(0,1):F2).1*M=j*(if c=true then(-(bu s v u e).1,(bu s v u e).2)else(0,1):F2).2/\SB j<=B:=λc=>by
  cases c with
  |true=>exact⟨-d,p P,w C,TT O⟩
  |false=>exact⟨0,q,A,o⟩
 have G:∀c:Bool,∃j:Int,a8 (if c=true then(0,1)else(-(bu s v u e).1,(bu s v u e).2):F2).1 (if c=true then(0,1)else(-(bu s v u e).1,(bu s v u e).2):F2).2/\(if c=true then(0,1)else(-(bu s v u e).1,(bu s v u e).2):F2).1*M=j*(if c=true then(0,1)else(-(bu s v u e).1,(bu s v u e).2):F2).2/\SB j<=B:=λc=>by
  cases c with
  |true=>exact⟨0,q,A,o⟩
  |false=>exact⟨-d,p P,w C,TT O⟩
 have d0:∀{x y:F2},(∃j:Int,a8 x.1 x.2/\x.1*M=j*x.2/\SB j<=B)->(∃j:Int,a8 y.1 y.2/\y.1*M=j*y.2/\SB j<=B)->aW (dg x y)/\l5 M B (dg x y):=λ⟨i,aa,ae,af⟩ ⟨j,hc,aj,ao⟩=>r5 aa hc ae aj af ao;have S:aW (iQ s v u e)/\l5 M B (iQ s v u e):=d0 (h1 (spL s e)) (R e);have T:aW (jC s v u e)/\l5 M B (jC s v u e):=d0 (Q (spL s e)) (G e);have U:aW (jL s v u e)/\l5 M B (jL s v u e):=d0 (Q (spL s e)) (R e);have W:=λc=>r2 z e c H I Y (by lia) h;have X:=λc=>r1 z e c H I C (by lia) (W (!spL s e));intro x f;rcases SO.mp f with f|f
 ·rcases SO.mp f with f|f
  ·obtain⟨y,g,rfl⟩:=SJ.mp f;exact((W _ y g).lR S.1 S.2 E F).mono (SF _) (by lia) (SF _)
  obtain⟨y,g,rfl⟩:=SJ.mp f;exact(X _ y g).lR T.1 T.2 E F
 obtain⟨y,g,rfl⟩:=SJ.mp f;exact(X _ y g).lR U.1 U.2 E F
end
theorem vH.pm{M:Int}{a m c n t k:Nat}{x:a7}(h:vH a n x)(s:0<M)(d:SB M<=k)(u:a+a+1<=m)(v:m+k<=c)(j:20+k<=t):hL M m c n t x:=by
 refine⟨h.cv,λp f=>(h.ps p f).pt,λp f=>?_,λe o=>?_,h.ln,h.st.pt,x.2.2.2.2,h.st.pt.1,h.st.bp.c,x.2.2.1*M,x.2.2.2.1*M,by grind,by grind,Sx (TD h.st.bp.a d) j,Sx (TD h.st.bp.b d) j⟩
 ·have g:=h.ps p f;have i:p.2.2≠0:=Sy g.pt.1;have z:SB 0<=m:=Sx (show SB 0<=0 by decide) (Td _);refine⟨(p.2.2,0,-(p.1*M)),(0,p.2.2,-(p.2.1*M)),(p.1,p.2.1+1,p.2.2),⟨Sx g.bp.c (by lia),z,TT (Sx (TD g.bp.a d) (by lia)),.inl i⟩,⟨z,Sx g.bp.c (by lia),TT (Sx (TD g.bp.b d) (by lia)),.inr i⟩,?_,?_,?_,?_⟩
  ·unfold eM L3.ln;dsimp only;grind
  ·unfold eM L3.ln;dsimp only;grind
  ·unfold eM L3.ln;dsimp only;grind
  have:L3.ln (eM M (0,p.2.2,-(p.2.1*M))) (p.1,p.2.1+1,p.2.2)=p.2.2*M:=by unfold eM L3.ln;dsimp only;grind
  rw[this];exact S1 i (Sy s)
 obtain⟨q,r⟩:=lA o;have b:=((h.ps _ q).bp.crs (h.ps _ r).bp).mono u;have w:=m8 (h.ps _ q).pt (h.ps _ r).pt (h.cv.side o);have y:=C9 e.1 e.2;have A:=yW e.1 e.2;generalize a_ e.1 e.2=l at *;refine⟨(l.1,l.2.1,l.2.2*M),⟨b.a,b.b,Sx (TD b.c d) v,w⟩,?_,?_⟩
 ·have:L3.ln (eM M (l.1,l.2.1,l.2.2*M)) e.1=M*L3.ln l e.1:=by unfold eM L3.ln;dsimp only;grind
  rw[this,y,SV]
 have:L3.ln (eM M (l.1,l.2.1,l.2.2*M)) e.2=M*L3.ln l e.2:=by unfold eM L3.ln;dsimp only;grind
 rw[this,A,SV]
abbrev hM(Q:Nat):F2->Prop:=pB (1023,1) (1023*Q)
theorem hM.mk{Q:Nat}{v:F2}(l:a8 v.1 v.2){j:Int}(c:0<j)(d:j<=1023*Q)(e:v.1*Q=j*v.2):hM Q v:=by
 refine⟨l,j.toNat,by lia,by lia,?_⟩;have b:((j.toNat:Nat):Rat)=(j:Rat):=by rw[<-Rat.intCast_natCast,UW (by lia)]
 rw[b];have a:=eY l.1;have:(v.1:Rat)*(Q:Rat)=(j:Rat)*(v.2:Rat):=by exact_mod_cast e
 unfold bF;push_cast;grind
theorem hM.out{Q:Nat}{v:F2}(h:hM Q v):∃j:Int,0<j/\j<=1023*Q/\v.1*Q=j*v.2:=by
 obtain⟨l,j,b,c,e⟩:=h;refine⟨j,by lia,by lia,?_⟩;have a:=eY l.1
 have:(v.1:Rat)*(Q:Rat)=(j:Rat)*(v.2:Rat):=by
  unfold bF at e;push_cast at e;grind
 exact_mod_cast this
theorem hM.bits{Q:Nat}{v:F2}(h:hM Q v)(a:SB (Q:Int)<=161):0<v.1/\SB v.1<=171/\SB v.2<=161:=by
 have b:=pB.pos (w:=(1023,1)) ⟨by decide,by decide⟩ (by decide) h;obtain⟨j,f,n,e⟩:=h.out;have l:=h.1;have c:U8 v.1.natAbs v.2.natAbs:=l.2;have g:(0:Int)<Q:=by lia
 have i:v.2∣(Q:Int):=by
  have d:v.2.natAbs∣v.1.natAbs*(Q:Int).natAbs:=by rw[<-S8,e,S8];exact VB _ _
  exact TK.mp (UY c.symm d)
 have k:v.1∣j:=by
  have d:v.1.natAbs∣v.2.natAbs*j.natAbs:=by rw[VR,<-S8,<-e,S8];exact Nat.dvd_mul_right _ _
  exact TK.mp (UY c d)
 have m:SB j<=171:=fW (t:=1023*(Q:Int)) (by lia) (TD (show SB 1023<=10 by decide) a);exact⟨b,yM b f k m,yM l.1 g i a⟩
def lN(M:Int)(k:Nat)(x:a7):Prop:=hL M 400 (620+k) (6+2*k) (212+k) x
section
variable{s:F2}{Q:Nat}
theorem LB(l:a8 s.1 s.2)(M:s.1≠0)(r:SB s.1<=10)(m:SB s.2<=10)(Y:0<Q)(n:SB (Q:Int)<=161):ku s (hM Q) (lN (Q*s.2)) 8:=by
 have w:0<(Q:Int)*s.2:=SD (by lia) l.1;have N:SB ((Q:Int)*s.2)<=171:=TD n m;have o:a8 (1023:Int) 1:=⟨by decide,by decide⟩
 have A:SB (if s.1<0 then -s.1 else s.1)<=10:=by
  split
  ·exact TT r
  exact r
 have h:∀{j:Int},0<j->j<=1023*Q->SB j<=171:=λZ h1=>fW (t:=1023*(Q:Int)) (by lia) (TD (show SB 1023<=10 by decide) n);have em:∀{y:F2}{j:Int},y.1*Q=j*y.2->y.1*(Q*s.2)=j*s.2*y.2:=λe=>by rw[<-Ud,e];grind
 have C:∀{y:F2}{j:Int},a8 y.1 y.2->y.1*Q=j*y.2->(bJ s y).1*(Q*s.2)=(if s.1<0 then -s.1 else s.1)*j*(bJ s y).2:=λ{y j} E e=>by
  have O:s.2*y.2≠0:=pW l.1 E.1;obtain⟨_,f,_,_⟩:=kb (t:=(if s.1<0 then -s.1 else s.1)*y.1) (b:=s.2*y.2) O;show(d1 ((if s.1<0 then -s.1 else s.1)*y.1) (s.2*y.2)).1*_=_*_*(d1 ((if s.1<0 then -s.1 else s.1)*y.1) (s.2*y.2)).2
  generalize d1 ((if s.1<0 then -s.1 else s.1)*y.1) (s.2*y.2)=H at *;generalize(if s.1<0 then -s.1 else s.1)=a at *;refine Uq (show y.2≠0 from Sy E.1) ?_;have P:y.2*(H.1*(Q*s.2))=(H.1*(s.2*y.2))*Q:=by grind
  rw[P,f];have R:a*y.1*H.2*Q=a*H.2*(y.1*Q):=by grind
  rw[R,e];grind
 refine⟨l,M,by lia,by lia,λv c=>?_,λv u c i lt=>pB.sub o (by decide) c i lt,λk x S g=>?_,λk p v u sh S z c i F g x T=>?_,λk x g=>hL.mono g (by lia) (by lia) (by lia)⟩
 ·obtain⟨U,q,aa⟩:=hM.bits c n;exact⟨c.1,U,by lia,by lia⟩
 ·exact⟨_,_,_,_,hL.px g w N (by lia) (by lia),by lia,by lia,by lia,by lia,by lia⟩
 obtain⟨a,G,I,J⟩:=hM.out F;obtain⟨b,K,q,L⟩:=hM.out i
 obtain⟨d,W,X⟩:∃d:Int,SB d<=181/\(bu s v u p).1*(Q*s.2)=d*(bu s v u p).2:=by
  unfold bu;split
  ·exact⟨_,TD A (h G I),C F.1 J⟩
  exact⟨_,TD A (h K q),C i.1 L⟩
 exact hL.mono (rU z p (B:=181) w (by decide) (em J) (em L) X (TD (h G I) m) (TD (h K q) m) W (by lia) (by lia) g x T) (by lia) (by lia) (by lia)
theorem lN.kC{k:Nat}{x:a7}(a:0<s.2)(b:SB s.2<=10)(d:0<Q)(c:SB (Q:Int)<=161)(h:lN (Q*s.2) k x)(e:k<=8):jc x:=lH.kC (hL.px (k:=171) h (SD (by lia) a) (TD c b) (by lia) (by lia)) (by lia) (by lia) (by lia)
end
theorem rT{s x:F2}(f:a8 s.1 s.2)(g:s.1≠0)(q:SB s.1<=21)(r:SB s.2<=21)(i:a8 x.1 x.2)(j:0<x.1)(d:SB x.1<=175)(e:SB x.2<=175)(k:Bool):oh (dh s k x):=by
 obtain⟨_,_,n,o⟩:=qJ f g q r i j d e;have b:=uT f i g j;refine JC (HO b k) (λp c=>?_) (by rw[HN];decide);have z:SB 0<=4000:=by decide
 have m:∀{z:Int}{a:Nat},SB z<=a->a<=4000->SB z<=4000:=λh l=>Sx h l;have t:du 4000 (0,0,1):=⟨⟨(show(0:Int)<1 by decide),(show Ss (Ss 0 0:Nat) 1=1 by decide)⟩,z,z,(show SB 1<=4000 by decide)⟩;have u:du 4000 (x.1,0,x.2):=⟨xH b.lw,m d (by decide),z,m e (by decide)⟩;have v:du 4000 (dg x (bJ s x)):=⟨b.top.1,(me d e n o b.lw b.lh).mono (by decide)⟩;have g3:du 4000 (0,(bJ s x).1,(bJ s x).2):=⟨xI b.lh,z,m n (by decide),m o (by decide)⟩;unfold dh at c;split at c<;>split at c<;>(simp only[SG,TS,or_false]at c;rcases c with rfl|rfl|rfl<;>assumption)
structure r8(s:F2)(hi:Bool)(c:cV):Prop where
 lw:a8 c.1.1 c.1.2
 w0:0<c.1.1
 b1:SB c.1.1<=10
 b2:SB c.1.2<=10
 dr:∀t∈c.2,vH (ko 42 2) 6 t
 ln:c.2.length<=3
 hp:cU (c.2.map λx=>x.1) [dh s hi c.1]
section
variable{s:F2}{k:Bool}{c:cV}{Q:Nat}
theorem r8.co(h:r8 s k c)(m:0<s.2)(n:SB s.2<=10)(r:0<Q)(o:SB (Q:Int)<=161)(d:c.1.2∣(Q:Int)):ia s (hM Q) (lN (Q*s.2)) k 0 c:=by
 have p:0<(Q:Int)*s.2:=SD (by lia) m;obtain⟨e,g⟩:=d;have l:=h.lw.1
 have f:0<e:=by
  apply T8;intro z;have:c.1.2*e<=0:=Int.mul_nonpos_of_nonneg_of_nonpos (by lia) (by lia);lia
 have w0:=h.w0;refine⟨hM.mk h.lw (j:=c.1.1*e) (SD w0 f) ?_ (by rw[g];grind),λx q=>(h.dr x q).pm p (TD o n) (by decide) (by lia) (by lia),h.ln,h.hp⟩
 have a:c.1.1<=1023:=by
  have:=intBits_le_iff.mp h.b1;have:c.1.1.natAbs<1024:=this;lia
 have b:e<=(Q:Int):=by rw[g];have:=Wq (show 1<=c.1.2 by lia) (Ti f);lia
 have i:=Wq a (Ti f);lia
theorem r8.kC(h:r8 s k c):∀x∈c.2,jc x/\x.1.length<=6:=λx a=>by
 have d:=h.dr x a;exact⟨⟨cf d.ln,d.cv,λp b=>(d.ps p b).mono (by decide),d.st.mono (by decide)⟩,d.ln⟩
def qM:ZN->Nat
 |[]=>1
 |c::r=>c.1.2.toNat*qM r
theorem LC:∀{cs:ZN},(∀c∈cs,0<c.1.2/\SB c.1.2<=10)->0<qM cs/\SB (qM cs:Int)<=10*cs.length+1/\∀c∈cs,c.1.2∣(qM cs:Int)
 |[],_=>⟨by decide,by decide,λc f=>by cases f⟩
 |c::r,h=>by
  obtain⟨a,b⟩:=h c Sw;obtain⟨g,i,j⟩:=LC λx d=>h x (SA _ d)
  have e:((qM (c::r):Nat):Int)=c.1.2*(qM r:Int):=by
   show((c.1.2.toNat*qM r:Nat):Int)=_
   rw[Int.natCast_mul,UW (by lia)]
  refine⟨Nat.mul_pos (by lia) g,?_,λx d=>?_⟩
  ·rw[e,SK];exact Sx (TD b i) (by lia)
  rw[e];rcases SG.mp d with rfl|d
  ·exact Int.dvd_mul_right _ _
  exact Tj (j x d) (Int.dvd_mul_left _ _)
def nt(Q n:Nat)(g:F2):Prop:=a8 g.1 g.2/\∃j:Int,0<=j/\j<=n*(1023*Q)/\g.1*Q=j*g.2
theorem nt.zero:nt Q 0 (0,1):=⟨⟨by decide,by decide⟩,0,by decide,by lia,by show(0:Int)*_=0*1;lia⟩
theorem nt.bits{n:Nat}{g:F2}(h:nt Q n g)(k:0<Q)(a:SB (Q:Int)<=161)(m:n<=16):SB g.1<=176/\SB g.2<=161:=by
 obtain⟨l,j,o,p,e⟩:=h;have f:U8 g.1.natAbs g.2.natAbs:=l.2;have b:(0:Int)<Q:=by lia
 have c:g.2∣(Q:Int):=by
  have d:g.2.natAbs∣g.1.natAbs*(Q:Int).natAbs:=by rw[<-S8,e,S8];exact VB _ _
  exact TK.mp (UY f.symm d)
 have le:=U7 b c;have i:SB j<=176:=fW (t:=16*(1023*(Q:Int))) (by have:=Wq (show(n:Int)<=16 by lia) (show 0<=1023*(Q:Int) by lia);lia) (Sx (TD (show SB 16<=5 by decide) (TD (show SB 1023<=10 by decide) a)) (by decide));exact⟨fW (EI l.1 le e) i,yM l.1 b c a⟩
theorem nt.add{n:Nat}{g v:F2}(h:nt Q n g)(c:hM Q v):nt Q (n+1) (d1 (g.1*v.2+v.1*g.2) (g.2*v.2))/\bF (d1 (g.1*v.2+v.1*g.2) (g.2*v.2))=bF g+bF v:=by
 obtain⟨l,j,p,q,e⟩:=h;obtain⟨i,r,s,k⟩:=c.out;have d:0<g.2*v.2:=SD l.1 c.1.1;have a:=eY l.1;have b:=eY c.1.1;obtain⟨lo,f,_,_⟩:=kb (t:=g.1*v.2+v.1*g.2) (b:=g.2*v.2) (Sy d);refine⟨⟨lo,j+i,by lia,?_,?_⟩,?_⟩
 ·have:((n+1:Nat):Int)*(1023*(Q:Int))=n*(1023*(Q:Int))+1023*Q:=by push_cast;grind
  lia
 ·generalize d1 (g.1*v.2+v.1*g.2) (g.2*v.2)=y at *;refine Uq (Sy d) ?_;have m:g.2*v.2*(y.1*Q)=(y.1*(g.2*v.2))*Q:=by grind
  rw[m,f];have o:(g.1*v.2+v.1*g.2)*y.2*Q=(g.1*Q)*(v.2*y.2)+(v.1*Q)*(g.2*y.2):=by grind
  rw[o,e,k];grind
 rw[vw d];unfold bF;push_cast;grind
theorem rO{u v:F2}(c:a8 u.1 u.2)(g:a8 v.1 v.2)(e:bF u=bF v):u=v:=by
 have a:=eY c.1;have b:=eY g.1
 have f:u.1*v.2=v.1*u.2:=by
  have:(u.1:Rat)*v.2=v.1*u.2:=by unfold bF at e;grind
  exact_mod_cast this
 have j:U8 u.1.natAbs u.2.natAbs:=c.2;have k:U8 v.1.natAbs v.2.natAbs:=g.2;have l:=c.1;have h:=g.1
 have m:u.2∣v.2:=by
  have d:u.2.natAbs∣u.1.natAbs*v.2.natAbs:=by rw[<-S8,f,S8];exact VB _ _
  exact TK.mp (UY j.symm d)
 have n:v.2∣u.2:=by
  have d:v.2.natAbs∣v.1.natAbs*u.2.natAbs:=by rw[<-S8,<-f,S8];exact VB _ _
  exact TK.mp (UY k.symm d)
 have i:u.2=v.2:=Int.le_antisymm (U7 h m) (U7 l n)
 have o:u.1=v.1:=by
  rw[i]at f;exact TB (Sy h) f
 exact TF o i
theorem LF{v:F2}(l:a8 v.1 v.2):v.1<0↔bF v<0:=by
 have a:(0:Rat)<(v.2:Rat):=by exact_mod_cast l.1
 unfold bF;rw[Rat.div_lt_iff a,Rat.zero_mul];constructor
 ·intro h;exact_mod_cast h
 intro h;exact_mod_cast h
end
theorem rL{s:F2}{Wd:F2->Prop}{L:Nat->a7->Prop}{j:Nat}{os k f:ZN}{n:ZP}{g:Bool}{m:F2}(o:ku s Wd L j)(p:nL s Wd L j os k g f n)(i:a8 m.1 m.2)(e:bF m=e7 os-e7 k):g=decide (m.1<0)/\e7 f=bF (if m.1<0 then -m.1 else m.1,m.2):=by
 have posQz:=vh (cs:=f) λc t=>by
  obtain⟨a,b,_,_⟩:=o.lw _ (p.r c t).w;exact rS b a.1
 have d:=p.w;have a:=eY i.1;have u:bF (-m.1,m.2) = -bF m:=by unfold bF;push_cast;grind
 cases g with
 |true=>
  rw[SL rfl]at d;have q:=posQz.2 (p.h rfl);have lt:m.1<0:=(LF i).mpr (by rw[e];grind);rw[SL lt,u,d,e];exact⟨(Xx lt).symm,by grind⟩
 |false=>
  rw[Tk SU]at d;have q:=posQz.1
  have l:¬m.1<0:=λz=>by
   have:=(LF i).mp z;rw[e,<-d]at this;exact absurd this (VA.mpr q)
  rw[Tk l,d,<-e];exact⟨(decide_eq_false l).symm,rfl⟩
section
variable{K:Su}{X:aT}{e:Wp}{s:ZV}{u:bd}{w:cJ}{k p:Pos}{g:ZW}{l:u8}
theorem rK{a:Type}{x y z:a}:eB [x,y,z] 2=some z:=by
 simp[eB,jg]
def rG(j i:Nat)(w:cJ)(h:cB):u8:=λU m f d=>w d λn=>(∀q∈n,Cd q)/\j<d.length/\i≠j/\(∃a b c,d[i]?=some (.val (.tup [a,b,.lst c])))/\∃q,e_ f 0 m (d.set j .no) q/\h U q
theorem rF{j i:Nat}{x y:Str}{S G T Y Z bj:Pos}{I:Nat}{h1:Wp}{k' aa J ag ai aj bq cF:Pos}{L:Nat}{bw:cB}(cK:X.N.Nodup)(bK:X.N[j]?=some y)(cL:X.N[i]?=some x)(cO:gh X.env.scope x)(cR:ho X.env.scope y)(ao:gh X.env.scope y)(cS:YQ (UV X.prog X.w) X.A X.env X.xe)(cT:X.calm=true)(ar:j2 X h1 w)(cX:hE X g bw)(au:ip X y:=by walk_at"f")(aw:ec x:=by decide)(ax:gO x:=by decide)(cY:iq X (.Subscript (.Name x S) (.Constant (.int 2) I G) T) "clear":=by rfl)(c7:(Y.endLine==Z.line)=true:=by rfl)(aD:XA (.Call (.Attribute (.Subscript (.Name x S) (.Constant (.int 2) I G) T) "clear" Y) [] [] Z) none bj.line X.env=pure false:=by rfl)(c8:q2 (.Constant (.int 2) I G):=by exact λ_ _=>rfl)(aE:ec y:=by decide)(aG:gO y:=by decide)(c9:∀v,WF h1 X.env v=pure v:=by intro _;rfl)(da:iq X (.Subscript (.Name y aa) (.Constant (.int 0) L J) ag) "clear":=by rfl)(aH:iS ai aj:=by rfl)(aJ:XA (.Call (.Attribute (.Subscript (.Name y aa) (.Constant (.int 0) L J) ag) "clear" ai) [] [] aj) none bq.line X.env=pure false:=by rfl)(dc:q2 (.Constant (.int 0) L J):=by exact λ_ _=>rfl):
  x6 X (.For (.Name y k') h1 [.Expr (.Call (.Attribute (.Subscript (.Name y aa) (.Constant (.int 0) L J) ag) "clear" ai) [] [] aj) bq] [] cF::.Expr (.Call (.Attribute (.Subscript (.Name x S) (.Constant (.int 2) I G) T) "clear" Y) [] [] Z) bj::g) (rG j i w bw):=by
 obtain⟨_,dd,de⟩:=ar;obtain⟨_,tb,di⟩:=cX;refine⟨_,mr (AM cS cT (FD dd) (tZ cK bK cR au) (pM (pN (wL T3 Xk Xl F5 (k7 oO (gZ bK ao aE aG) fw dc) da aH) aJ)) c9) (mr (pN (wL T3 Xk Xl F5 (k7 oO (gZ cL cO aw ax) fw c8) cY c7) aD) tb),λU bL f bM h R W B H bR E e dj dk dm aM t dq aO=>?_⟩;refine de bM _ h _ _ dm aM t _ dq λl a c p en dx M dz er dA bT aP dD=>?_;have nl:∀a c,p a=some (.lst c)->H a=none:=λa c h=>(dz.n a _ h).elim (aO a c) id;obtain⟨aQ,aS,aU,⟨dF,et,eu,aV⟩,dG,bU,h⟩:=dx;obtain⟨ey,aX,a3⟩:=M.val aV
 have dM:dN H p=p:=by
  funext b;cases q:p b with
  |none=>
   cases dP:dN H p b with
   |none=>rfl
   |some o=>have:=iX b o dP;rw[q]at this;cases this
  |some o=>
   by_cases y:∃c,o=.lst c
   ·obtain⟨c,rfl⟩:=y;exact ue q (nl b c q)
   exact u4 q λc z=>y ⟨c,z⟩
 obtain⟨bX,bZ⟩:=qc.start e M;rw[dM]at bX;have b0:t.length=bM.length:=M.len;refine⟨a,rfl,⟨c,cE.of bT⟩,?_⟩;refine⟨λn m u a4=>m=l.length-n/\n<=l.length/\(∀q,q≠j->u[q]?=t[q]?)/\u.length=t.length/\a4 a=some (.lst c)/\qc X.K W bR bL H p a4,⟨l.length,rfl,Td _,λ_ _=>rfl,rfl,bT,bX⟩,?_⟩;rintro n m u a4 ⟨rfl,eA,a5,a6,O,k⟩;by_cases b5:n<l.length
 ·refine .inr ⟨?_,λb6 b9=>∃x1,x1<l.length-n/\(x1=l.length-(n+1)/\n+1<=l.length/\(∀q,q≠j->b6[q]?=t[q]?)/\b6.length=t.length/\b9 a=some (.lst c)/\qc X.K W bR bL H p b9),λ_ _ z=>z,?_⟩
  ·obtain⟨b',C,_⟩:=aP.get (S0 b5);exact⟨c,b',cE.of O,C⟩
  rintro b' eE ⟨rfl,C⟩;have C:=C c (cE.of O);obtain⟨dQ,a',dS⟩:=aP.fK C;obtain⟨r,m,rfl,dV⟩:=aQ dQ (S' a');obtain⟨q,eF,rfl,P,cc⟩:=dS.jK;cases cc with
  |cons dW cc=>
   obtain⟨b,eH,rfl,F,dX⟩:=dW.jS;have ba:a≠b:=by rintro rfl;rw[dA]at F;cases F
   obtain⟨cn,cp⟩:=k.ls b _ F;have dY:j<u.length:=by rw[a6,b0];exact aS
   refine⟨.ref q,by rw[TH dY],?_⟩;refine⟨q,_,0,.ref b,rfl,rfl,.inl (k.tp q _ P),Rg,?_⟩;refine⟨.inl ⟨rfl,cn,cE.of cp⟩,b,cn,rfl,rfl,cp,?_⟩;refine⟨_,by lia,rfl,b5,λq P=>?_,by rw[TX];exact a6,by rw[bP ba];exact O,k.clear bZ F (nl b _ F)⟩;rw[Tz (λz=>P z.symm)];exact a5 q P
 have dZ:n=l.length:=by lia
 subst dZ;refine .inl ⟨⟨c,cE.of O,by rw[aP.length];exact SF _⟩,?_⟩;obtain⟨eI,d5⟩:=bU.length;obtain⟨bb,d6,rfl,bf,s⟩:=a3.jK;cases s with
 |cons d9 s=>
 cases s with
 |cons ef s=>
 cases s with
 |cons eg s=>
 cases s;obtain⟨Q,eh,rfl,bg,_⟩:=eg.jS;obtain⟨cw,cD⟩:=k.ls Q _ bg;refine⟨.ref bb,by rw[a5 i aU];exact aX,?_⟩;refine⟨bb,_,2,.ref Q,rfl,rfl,.inl (k.tp bb _ bf),rK,?_⟩;refine⟨.inl ⟨rfl,cw,cE.of cD⟩,Q,cw,rfl,rfl,cD,?_⟩;have k:=k.clear bZ bg (nl Q _ bg);refine di U _ h R W B _ u E ((e.gH k.fr k.wh).forget ?_ (bU.same e dk λn v d ej=>?_)) dj
 ·rw[a6,b0,d5,TX]
 rcases iY ej with⟨_,z⟩|⟨el,z⟩
 ·cases z
 rw[a5 n el];exact M.mq n v d z
end
section
variable{X:aT}
theorem ei(i:Nat){x:Str}{n:Int}{j:Nat}{p1 p2 a:Pos}(b:gV X i x:=by rfl)(c:gh X.env.scope x:=by walk_at"v")(d:ec x:=by decide)(e:gO x:=by decide):br X (.Subscript (.Name x p1) (.Constant (.int n) j p2) a) (Bp (jF i) (i0 (.int n))):=hn (ah i b c d e) bt (λ_ _=>rfl)
theorem cA(i:Nat){x:Str}{e:Wp}{u:bd}{a b:Pos}(c:X.N.Nodup)(d:br X e u)(f:gV X i x:=by rfl)(g:ho X.env.scope x:=by exact SH rfl)(h:XA e (some (.Name x b)) a.line X.env=pure false:=by rfl)(j:ip X x:=by walk_at"f"):eV X (.Assign [.Name x b] e a) (Bv i u):=w4 c f g d h j
theorem cx(i:Nat){x:Str}{a:Pos}(b:X.N.Nodup)(c:gV X i x:=by rfl)(d:ho X.env.scope x:=by exact SH rfl)(e:ip X x:=by walk_at"f"):j3 X (.Name x a) (fp i):=eW b c d e
theorem bi{n:Nat}{F:cb}{w:iZ}{e:Wp}{b:ZV}{p a:Pos}{x:Str}{f:ZS}{j d:Nat}(c:ca X.prog X.w X.K X.mg X.base x f j (ck X.K n F))(g:ez d X.A)(h:mD X (e::b) w)(i:eG X x:=by rfl)(k:j<=d:=by decide)(l:ec x:=by decide)(m:eN X e b:=by rfl)(o:hy X a b:=by rfl):br X (.Call (.Name x p) (e::b) [] a) (Bt n F w):=Po c g i h k l m o
end
section
structure LM(mg:Str->Option SC):Prop where
 fC:mg "len"=none
 iO:mg "abs"=none
 jh:mg "int"=none
 lF:mg "bool"=none
 fQ:mg "tuple"=none
 eb:mg "isinstance"=none
 fS:mg "range"=none
 k9:mg "all"=none
 nU:mg "sum"=none
 gE:mg "list"=none
 lG:mg "ValueError"=none
 nQ:mg "zip"=none
 n0:mg "str"=none
 iK:mg "enumerate"=none
 n1:mg "set"=none
 ny:mg "max"=none
 n3:mg "min"=none
 iT:mg "sorted"=none
 nO:mg "dict"=none
local macro_rules | `(tactic| walk_at"bu") => `(tactic| first | assumption | exact Y6 (by walk_at"bu") (by walk_at"bu") | exact XC (by walk_at"bu") (by walk_at"bu") | exact TD (by walk_at"bu") (by walk_at"bu") | exact TT (by walk_at"bu") | exact intBits_fdiv_le (by walk_at"bu") | exact wS (by omega) (by omega) | fail)
local macro_rules | `(tactic| walk_at"bits") => `(tactic| ((with_reducible show SB _ ≤ _); first | assumption | exact Sx (wS (by omega) (by omega)) (by decide) | decide +kernel | exact Sx (by walk_at"bu") (by first | omega | decide) | fail))
local macro_rules | `(tactic| walk_at"sd") => `(tactic| first | ((with_reducible show SB _ ≤ _); walk_at"bits") | ((with_reducible show Ba _ _); exact ⟨by walk_at"bits", by walk_at"bits"⟩) | ((with_reducible show wP _ _); exact ⟨by omega, by walk_at"bits"⟩) | ((with_reducible show (_ : Int) < _); first | omega | decide +kernel) | ((with_reducible show (_ : Int) ≤ _); first | omega | decide +kernel) | ((with_reducible show FJ _ _); exact ⟨by decide, by decide, by decide⟩) | ((with_reducible show S6 _ ≤ TI); first | (show 2 ≤ TI; decide) | (show 3 ≤ TI; decide) | (show 1 ≤ TI; decide) | (show 0 ≤ TI; decide) | (show 4 ≤ TI; decide)) | fail)
local macro_rules | `(tactic| walk_at"w1") => `(tactic| first | refine ⟨_, rfl, ?_⟩ | refine ⟨_, _, rfl, rfl, ?_⟩ | refine ⟨_, _, rfl, rfl, by walk_at"sd", ?_⟩ | refine ⟨_, _, _, .inl rfl, rfl, rfl, ?_⟩ | refine ⟨_, _, _, .inr rfl, rfl, rfl, ?_⟩ | refine ⟨_, _, rfl, fun _ => rfl, ?_⟩ | refine ⟨by walk_at"sd", ?_⟩ | refine ⟨rfl, ?_⟩)
local macro_rules | `(tactic| walk_at"w") => `(tactic| repeat walk_at"w1")
local macro_rules | `(tactic| walk_at"wd") => `(tactic| (walk_at"w"; try dsimp only [mH]))
local macro_rules | `(tactic| walk_at"it") => `(tactic| first | exact .inl (by assumption) | exact .inr (by assumption))
local macro_rules | `(tactic| walk_at"r0") => `(tactic| repeat (first | refine ⟨_, rfl, ?_⟩ | refine ⟨_, _, rfl, rfl, ?_⟩ | refine ⟨_, _, _, _, rfl, rfl, by walk_at"it", rfl, ?_⟩ | refine ⟨by walk_at"sd", ?_⟩))
local macro_rules | `(tactic| walk_at"rd") => `(tactic| (walk_at"r0"; try dsimp only))
local macro_rules | `(tactic| walk_at"fall") => `(tactic| first | exact TC.mpr ⟨rfl, by walk_at"fall"⟩ | exact S9 _)
local macro_rules | `(tactic| walk_at"fal2") => `(tactic| first | exact S9 _ | exact TC.mpr ⟨fun h => absurd h (by decide), by walk_at"fal2"⟩ | exact TC.mpr ⟨fun _ => ⟨_, rfl⟩, by walk_at"fal2"⟩)
local macro_rules | `(tactic| walk_at"fsub") => `(tactic| exact hH (by walk_at"fall"))
local macro_rules | `(tactic| walk_at"fhas") => `(tactic| exact ajL (by walk_at"fal2"))
local macro_rules | `(tactic| walk_at"ffr") => `(tactic| (intro i y e; rcases i with _ | _ | _ | _ | _ | i <;> first | (cases e; done) | (cases e; exact ⟨_, rfl, rfl, rfl, SH rfl, _, rfl⟩)))
local macro_rules | `(tactic| walk_at"sc") => `(tactic| exact ⟨rfl, rfl, rfl, by decide +kernel, rfl, by decide +kernel, by decide +kernel⟩)
local macro_rules | `(tactic| walk_at"b") => `(tactic| exact fun _ _ F => F.binds (by first | exact i8 fun _ _ _ _ _ _ _ => rfl | exact gB fun _ _ _ _ _ _ _ _ => rfl | exact o3 fun _ _ _ _ _ _ _ _ _ => rfl | exact xC fun _ _ _ _ _ _ _ _ _ _ => rfl | exact Cf fun _ _ _ _ _ _ _ _ _ _ _ => rfl))
abbrev eS(N:List Str)(k:Nat)(s:Scope):=cy N (N.take k) s
theorem s9:eS ["_law_script","_law_k"] 2 (bN z2):=by walk_at"sc"
theorem s7:eS ["_law_cell_here"] 1 (bN z3):=by walk_at"sc"
theorem LN:eS ["_law_bag_here","_law_many","_law_found"] 2 (bN z4):=by walk_at"sc"
theorem tO:eS ["_law_one","_law_other","_law_rest"] 2 (bN z5):=by walk_at"sc"
def sY  : cb:=λc k=>∃(a b:Int),c=[.val (.int a),.val (.int b)]/\k (.val (.int (Ss a b:Nat)))
theorem ET:eS ["_law_top","_law_bottom","_law_often"] 2 (bN z6):=by walk_at"sc"
def sS  : cb:=λa k=>∃(t b:Int),a=[.val (.int t),.val (.int b)]/\(0<b)/\(SB b<=9000)/\k (.val (dR (d1 t b)))
theorem LO:eS ["_law_x","_law_y","_law_bottom","_law_often"] 3 (bN z7):=by walk_at"sc"
def sR  : cb:=λa k=>∃(x y n:Int),a=[.val (.int x),.val (.int y),.val (.int n)]/\(0<n)/\(SB n<=9000)/\k (.val (aR (cl x y n)))
theorem sQ:eS ["_law_found"] 1 (bN z8):=by walk_at"sc"
def sP  : cb:=λa k=>∃(i:Int),a=[.val (.int i)]/\k (.val (.bl true))
theorem tP:eS ["_law_p","_law_q","_law_a","_law_b","_law_c","_law_often"] 2 (bN z9):=by walk_at"sc"
def sG  : cb:=λa k=>∃(p q:ab),a=[.val (aR p),.val (aR q)]/\((a_ p q).1≠0\/(a_ p q).2.1≠0)/\(cH 4000 p)/\(cH 4000 q)/\k (.val (aR (e6 p q)))
theorem v6:eS ["_law_tally","_law_rings","_law_number","_law_ring","_law_k","_law_p","_law_q","_law_line_here"] 3 (bN z'):=by walk_at"sc"
def sF:vi:=λb c g h k=>∃(e:ZH)(a:Jd)(m:Int),  b=true/\h=[(.lst (a.map f2)),(.int m)]/\(g=e.map D.int)/\(e.length=c.length)/\(∀i∈a,oh i)/\(m=1\/m = -1)/\(c.length+2*(a.map S6).sum<=16000)/\∀d f,f.length=d.length->d.length<=c.length+2*(a.map S6).sum->(∀key,(bo d f key).getD 0=(bo c e key).getD 0+m*qw key a)->k d (f.map D.int)
theorem LP:eS ["_law_rings","_law_others","_law_tally"] 2 (bN Aa):=by walk_at"sc"
def sE  : cb:=λd k=>∃(a b:Jd),d=[.val (.lst (a.map f2)),.val (.lst (b.map f2))]/\(∀c∈a,oh c)/\(∀c∈b,oh c)/\((a.map S6).sum+(b.map S6).sum<=7000)/\(cU a b)/\k (.val (.bl true))
theorem EU:eS ["_law_p","_law_q","_law_r","_law_found"] 3 (bN Ab):=by walk_at"sc"
def so  : cb:=λa k=>∃(p q r:ab),a=[.val (aR p),.val (aR q),.val (aR r)]/\(cH 2950 p)/\(cH 2950 q)/\(cH 2950 r)/\k (.val (.bl (decide (0<bm p q r))))
theorem sm:eS ["_law_p"] 1 (bN Ac):=by walk_at"sc"
def sk  : cb:=λa k=>∃(p:ab),a=[.val (aR p)]/\(aW p)/\k (.val (.bl true))
theorem EV:eS ["_law_ring","_law_turns","_law_fans"] 1 (bN Ad):=by walk_at"sc"
def sj  : cb:=λb k=>∃(a:ZJ),b=[.val (.lst (a.map aR))]/\(a.length<=75)/\(fi a)/\(∀p∈a,du 2950 p)/\k (.val (.bl true))
theorem EW:eS ["_law_p","_law_q","_law_part_here","_law_many","_law_x","_law_y"] 4 (bN Ae):=by walk_at"sc"
def tF  : cb:=λa k=>∃(p q:ab)(t:Int),a=[.val (aR p),.val (aR q),.val (.int t),.val (.int 3)]/\(du 2000 p)/\(du 2000 q)/\(1<=t)/\(t<=2)/\k (.val (aR (kk p q t)))
theorem sb:eS ["_law_bag_here","_law_ring","_law_i","_law_j","_law_p","_law_q"] 2 (bN Af):=by walk_at"sc"
def tE  : cb:=λd k=>∃(a:ZJ)(m:Nat),d=[.bag,.val (f2 a)]/\(fi a)/\(∀x∈a,du m x)/\(m<=700)/\(a.length<=50)/\∀b c,DB (2*m+3) (a.length+1) a b c->k (.val (.tup [f2 b,f2 c]))
theorem sd:eS ["_law_bag_here","_law_ring","_law_cuts","_law_parts","_law_k","_law_made","_law_part_here","_law_flag","_law_x"] 3 (bN Ag):=by walk_at"sc"
def tD  : cb:=λc k=>∃(a:ZJ)(b:Nat),c=[.bag,.val (f2 a),.val (.int (b:Int))]/\(fi a)/\(∀x∈a,du 42 x)/\(a.length<=4)/\(b<=2)/\∀sh:ZM,(∀t∈sh,vH (ko 42 2) 6 t)->sh.length<=3->cU (sh.map λt=>t.1) [a]->k (.val (.lst (sh.map bI)))
theorem pE:eS ["_law_piece","_law_ring","_law_flag","_law_step","_law_sign","_law_made","_law_p","_law_x","_law_y"] 1 (bN Ah):=by walk_at"sc"
def LQ  : cb:=λa k=>∃(s:a7),a=[.val (bI s)]/\(s.1.length<=75)/\(∀p∈s.1,du 2600 p)/\(du 1200 s.2.2)/\k (.val (.lst ((f0 s).map aR)))
theorem EX:eS ["_law_olds","_law_news","_law_flag","_law_near"] 2 (bN Ai):=by walk_at"sc"
def tA  : cb:=λc k=>∃(os a:ZM),c=[.val (.lst (os.map bI)),.val (.lst (a.map bI))]/\(os.length<=48)/\(a.length<=192)/\(∀s∈os,jc s)/\(∀s∈a,jc s)/\(∀b:Bool,cU ((a.filter λs=>s.2.1==b).map f0) ((os.filter λs=>s.2.1==b).map f0))/\(∀s∈os,s.1.length<=6)/\k (.val (.bl true))
theorem LR:eS ["_law_sheet_here","_law_ring","_law_piece"] 2 (bN Aj):=by walk_at"sc"
def tm  : cb:=λb k=>∃(sh:ZM)(a:ZJ),b=[.val (.lst (sh.map bI)),.val (.lst (a.map aR))]/\(sh.length<=100)/\(∀s∈sh,jc s)/\(oh a)/\(cU (sh.map λs=>s.1) [a])/\k (.val (.bl true))
theorem tj:eS ["_law_sheet_here"] 1 (bN Ak):=by walk_at"sc"
def ti  : cb:=λa k=>∃(sh:ZM),a=[.val (.lst (sh.map bI))]/\(sh.length<=100)/\k (.own (sh.map bI))
theorem te:eS ["_law_one","_law_other"] 2 (bN Al):=by walk_at"sc"
def td  : cb:=λa k=>∃(r s:F2),a=[.val (dR r),.val (dR s)]/\(0<r.2)/\(0<s.2)/\(SB r.1<=1000)/\(SB r.2<=1000)/\(SB s.1<=1000)/\(SB s.2<=1000)/\k (.val (dR (d1 (r.1*s.1) (r.2*s.2))))
theorem s_:eS ["_law_one","_law_other"] 2 (bN Am):=by walk_at"sc"
def tI  : cb:=λa k=>∃(r s:F2),a=[.val (dR r),.val (dR s)]/\(0<r.2)/\(0<s.2)/\(SB r.1<=1000)/\(SB r.2<=1000)/\(SB s.1<=1000)/\(SB s.2<=1000)/\k (.val (dR (d1 (r.1*s.2-s.1*r.2) (r.2*s.2))))
theorem qk:eS ["_law_x","_law_y"] 2 (bN An):=by walk_at"sc"
def qj  : cb:=λa k=>∃(r s:F2),a=[.val (dR r),.val (dR s)]/\(0<r.2)/\(0<s.2)/\(SB r.1<=1000)/\(SB r.2<=1000)/\(SB s.1<=1000)/\(SB s.2<=1000)/\k (.val (aR (cl (r.1*s.2) (s.1*r.2) (r.2*s.2))))
theorem qd:eS ["_law_wide","_law_high_here"] 2 (bN Ao):=by walk_at"sc"
def p_  : cb:=λa k=>∃(w h:F2),a=[.val (dR w),.val (dR h)]/\(a8 w.1 w.2)/\(a8 h.1 h.2)/\(SB w.1<=400)/\(SB w.2<=400)/\(SB h.1<=400)/\(SB h.2<=400)/\k (.val (.lst ((kQ w h).map aR)))
theorem p9:eS ["_law_found"] 1 (bN Aq):=by walk_at"sc"
def p8  : cb:=λa k=>∃(r:F2),a=[.val (dR r)]/\(a8 r.1 r.2)/\(0<r.1)/\k (.val (.bl true))
theorem p7:eS ["_law_found"] 1 (bN Ap):=by walk_at"sc"
def pV  : cb:=λa k=>∃(w h:F2)(sh:ZM),a=[.val (.tup [dR w,dR h,.lst (sh.map bI)])]/\(a8 w.1 w.2)/\(a8 h.1 h.2)/\(SB w.1<=270)/\(SB w.2<=270)/\(SB h.1<=270)/\(SB h.2<=270)/\(0<w.1)/\(0<h.1)/\(sh.length<=100)/\(∀s∈sh,jc s)/\(cU (sh.map λs=>s.1) [kQ w h])/\k (.val (.bl true))
theorem pU:eS ["_law_bag_here"] 1 (bN Ar):=by walk_at"sc"
def pT  : cb:=λa k =>  a=[.bag]/\∀r:F2,a8 r.1 r.2->0<r.1->SB r.1<=10->SB r.2<=10->k (.val (dR r))
theorem pS:eS ["_law_slope_here","_law_wide"] 2 (bN As):=by walk_at"sc"
def pQ  : cb:=λa k=>∃(s w:F2),a=[.val (dR s),.val (dR w)]/\(a8 s.1 s.2)/\(a8 w.1 w.2)/\(s.1≠0)/\(0<w.1)/\(SB s.1<=64)/\(SB s.2<=64)/\(SB w.1<=175)/\(SB w.2<=175)/\k (.val (dR (bJ s w)))
theorem v7:eS ["_law_slope_here","_law_hand","_law_wide","_law_one","_law_two","_law_three","_law_four"] 3 (bN At):=by walk_at"sc"
def pO  : cb:=λb k=>∃(s w:Int×Int)(a:Bool),b=[.val (dR s),.val (.str (if a=true then"high" else"low")),.val (dR w)]/\(a8 s.1 s.2)/\(a8 w.1 w.2)/\(s.1≠0)/\(0<w.1)/\(SB s.1<=64)/\(SB s.2<=64)/\(SB w.1<=175)/\(SB w.2<=175)/\k (.val (.lst ((dh s a w).map aR)))
theorem EY:eS ["_law_bag_here","_law_top","_law_bottom"] 1 (bN Au):=by walk_at"sc"
def pL  : cb:=λa k =>  a=[.bag]/\∀s:F2,a8 s.1 s.2->s.1≠0->SB s.1<=10->SB s.2<=10->k (.val (dR s))
theorem EZ:eS ["_law_some_here","_law_made","_law_one"] 1 (bN Ax):=by walk_at"sc"
def pI  : cb:=λb k=>∃(a:List (ZK×ZM)),b=[.val (.lst (a.map qK))]/\((a.map λg=>g.2.length).sum<=400)/\k (.own ((a.map λg=>g.2).flatten.map bI))
theorem pH:eS ["_law_some_here"] 1 (bN Az):=by walk_at"sc"
def pD  : cb:=λa k=>∃(cs:ZN),a=[.val (.lst (cs.map dC))]/\(cs.length<=8)/\(∀c∈cs,c.2.length<=3)/\k (.val (.lst (cs.map dC)))
theorem zd:eS ["_law_bag_here","_law_slope_here","_law_hand","_law_many","_law_cuts","_law_made","_law_k","_law_wide"] 5 (bN Av):=by walk_at"sc"
def pC  : cb:=λd k=>∃(s:F2)(a:Bool)(n b:Nat),d=[.bag,.val (dR s),.val (.str (if a=true then"high" else"low")),.val (.int (n:Int)),.val (.int (b:Int))]/\(a8 s.1 s.2)/\(s.1≠0)/\(SB s.1<=10)/\(SB s.2<=10)/\(n<=8)/\(b<=2)/\∀cs:ZN,cs.length=n->(∀c∈cs,r8 s a c)->k (.own (cs.map dC))
theorem v8:eS ["_law_some_here","_law_found","_law_wide","_law_sheet_here"] 1 (bN Aw):=by walk_at"sc"
def pA  : cb:=λa k=>∃(Q:Nat)(cs:ZN),a=[.val (.lst (cs.map dC))]/\(0<Q)/\(SB (Q:Int)<=161)/\(∀c∈cs,hM Q c.1)/\(cs.length<=16)/\∀g:F2,nt Q cs.length g->bF g=e7 cs->k (.val (dR g))
theorem ze:eS ["one","other"] 2 (bN zC):=by walk_at"sc"
def pz  : cb:=λc k=>∃(a b:Int),c=[.val (.int a),.val (.int b)]/\k (.val (.int (Ss a b:Nat)))
theorem se:eS ["one","other","a","b","n","c","d","m"] 2 (bN zN):=by walk_at"sc"
def pw  : cb:=λa k=>∃(p q:ab),a=[.val (aR p),.val (aR q)]/\(cH 4000 p)/\(cH 4000 q)/\k (.val (aR (a_ p q)))
theorem LS:eS ["line","p","turn"] 2 (bN zO):=by walk_at"sc"
def pv  : cb:=λa k=>∃(c r:ab),a=[.val (aR c),.val (aR r)]/\(cH 2000 c)/\(cH 2000 r)/\k (.val (.int (cM (c.1*r.1+c.2.1*r.2.1+c.2.2*r.2.2))))
theorem E0:eS ["a","b","n","divisor"] 3 (bN zK):=by walk_at"sc"
def pq  : cb:=λc k=>∃(a b n:Int),c=[.val (.int a),.val (.int b),.val (.int n)]/\(n≠0)/\(SB n<=9000)/\k (.val (aR (cl a b n)))
theorem zf:eS ["p","q","r","s","a","b","n"] 4 (bN zP):=by walk_at"sc"
def pe  : cb:=λa k=>∃(p q r s:ab),a=[.val (aR p),.val (aR q),.val (aR r),.val (aR s)]/\(cH 700 p)/\(cH 700 q)/\(cH 1990 r)/\(cH 1990 s)/\((a_ (a_ p q) (a_ r s)).2.2≠0)/\k (.val (aR (nP (a_ (a_ p q) (a_ r s)))))
theorem pF:eS ["ring","p","q","line","corner","hands","left","right","place","after","between"] 3 (bN zQ):=by walk_at"sc"
def o_  : cb:=λb k=>∃(a:ZJ)(p q:ab),b=[.val (.lst (a.map aR)),.val (aR p),.val (aR q)]/\(cH 300 p)/\(cH 300 q)/\(∀c∈a,cH 1990 c/\aW c)/\(a.length<=1000)/\k (.val (.tup [.lst ((df (ln (a_ p q)) (a0 (a_ p q)) a).map aR),.lst ((df (λc => -ln (a_ p q) c) (a0 (a_ p q)) a).map aR)]))
theorem qN:eS ["sheet","p","q","left","right","ring","is_turned","step","left_ring","right_ring"] 3 (bN zR):=by walk_at"sc"
def o'  : cb:=λa k=>∃(sh:ZM)(p q:ab),a=[.val (.lst (sh.map bI)),.val (aR p),.val (aR q)]/\(cH 300 p)/\(cH 300 q)/\(∀s∈sh,∀c∈s.1,cH 1990 c/\aW c)/\(∀s∈sh,s.1.length<=1000)/\(sh.length<=1000)/\k (.val (.tup [.lst ((dH (ln (a_ p q)) (a0 (a_ p q)) sh).map bI),.lst ((dH (λc => -ln (a_ p q) c) (a0 (a_ p q)) sh).map bI)]))
theorem LU:eS ["x","y","shared"] 2 (bN zL):=by walk_at"sc"
def rq  : cb:=λc k=>∃(a b:D)(x y u v:Int),c=[.val a,.val b]/\(uJ a=some [.int x,.int y])/\(uJ b=some [.int u,.int v])/\(a8 x y)/\(a8 u v)/\(SB x<=4000)/\(SB y<=4000)/\(SB u<=4000)/\(SB v<=4000)/\k (.val (aR (cl (x*v) (u*y) (y*v))))
theorem rp:eS ["sheet","place"] 2 (bN zS):=by walk_at"sc"
def ro  : cb:=λa k=>∃(sh:ZM)(x:F2),a=[.val (.lst (sh.map bI)),.val (dR x)]/\(a8 x.1 x.2)/\(SB x.1<=200)/\(SB x.2<=200)/\(∀s∈sh,∀c∈s.1,cH 1990 c/\aW c)/\(∀s∈sh,s.1.length<=1000)/\(sh.length<=1000)/\k (.val (.tup [.lst ((dH (ln (ce x)) (a0 (ce x)) sh).map bI),.lst ((dH (λc => -ln (ce x) c) (a0 (ce x)) sh).map bI)]))
theorem E1:eS ["sheet","height","above","below"] 2 (bN zT):=by walk_at"sc"
def rn  : cb:=λa k=>∃(sh:ZM)(x:F2),a=[.val (.lst (sh.map bI)),.val (dR x)]/\(a8 x.1 x.2)/\(SB x.1<=200)/\(SB x.2<=200)/\(∀s∈sh,∀c∈s.1,cH 1990 c/\aW c)/\(∀s∈sh,s.1.length<=1000)/\(sh.length<=1000)/\k (.val (.tup [.lst ((dH (λc => -ln (cC x) c) (a0 (cC x)) sh).map bI),.lst ((dH (ln (cC x)) (a0 (cC x)) sh).map bI)]))
theorem nv:eS ["p","step","a","b","n","right","up","parts","shared","x","y","divisor"] 2 (bN zM):=by walk_at"sc"
def rm  : cb:=λa k=>∃(p g:ab),a=[.val (aR p),.val (aR g)]/\(aW p)/\(cH 3000 p)/\(aW g)/\(cH 1000 g)/\k (.val (aR (nP (ee g p))))
theorem rl:eS ["sheet","step"] 2 (bN zV):=by walk_at"sc"
def rk  : cb:=λa k=>∃(sh:ZM)(g:ab),a=[.val (.lst (sh.map bI)),.val (aR g)]/\(sh.length<=400)/\(∀s∈sh,DV s)/\(du 450 g)/\k (.val (.lst ((sh.map (l7 g)).map bI)))
theorem q_:eS ["one","other"] 2 (bN zG):=by walk_at"sc"
def q4  : cb:=λa k=>∃(x y u v:Int),a=[.val (dR (x,y)),.val (dR (u,v))]/\(SB x<=4000)/\(SB y<=4000)/\(SB u<=4000)/\(SB v<=4000)/\k (.val (.bl (decide (x*v<u*y))))
theorem q3:eS ["one"] 1 (bN zH):=by walk_at"sc"
def qZ  : cb:=λa k=>∃(x y:Int),a=[.val (dR (x,y))]/\k (.val (dR (-x,y)))
theorem zg:eS ["one","other","shared","top","divisor"] 2 (bN zD):=by walk_at"sc"
def qX  : cb:=λa k=>∃(x y u v:Int),a=[.val (dR (x,y)),.val (dR (u,v))]/\(a8 x y)/\(a8 u v)/\(SB x<=4000)/\(SB y<=4000)/\(SB u<=4000)/\(SB v<=4000)/\k (.val (dR (d1 (x*v+u*y) (y*v))))
theorem qV:eS ["one","other"] 2 (bN zE):=by walk_at"sc"
def qT  : cb:=λa k=>∃(x y u v:Int),a=[.val (dR (x,y)),.val (dR (u,v))]/\(a8 x y)/\(a8 u v)/\(SB x<=4000)/\(SB y<=4000)/\(SB u<=4000)/\(SB v<=4000)/\k (.val (dR (d1 (x*v-u*y) (y*v))))
theorem E2:eS ["one","other","first","second"] 2 (bN zF):=by walk_at"sc"
def qS  : cb:=λa k=>∃(x y u v:Int),a=[.val (dR (x,y)),.val (dR (u,v))]/\(a8 x y)/\(a8 u v)/\(SB x<=4000)/\(SB y<=4000)/\(SB u<=4000)/\(SB v<=4000)/\k (.val (dR (d1 (x*u) (y*v))))
theorem qR:eS ["one"] 1 (bN zI):=by walk_at"sc"
def qQ  : cb:=λa k=>∃(x y:Int),a=[.val (dR (x,y))]/\k (.val (dR (if x<0 then -x else x,y)))
theorem im:eS ["slope","hand","wide","sheet","part","rest","steep","is_low","part_is_left","height","left","right","part_sheet","others","below","above","rest_sheet","box","down","part_step","aside","rest_step","box_step","told_box"] 5 (bN zW):=by walk_at"sc"
def qI  : cb:=λc k=>∃(s w a:F2)(b:Bool)(sh:ZM),c=[.val (dR s),.val (.str (if b=true then"high" else"low")),.val (dR w),.val (.lst (sh.map bI)),.val (dR a)]/\(e0 s w a)/\(∀x∈sh,jT 60 x)/\(sh.length<=20)/\k (.val (.tup [.lst ((jw s w a b sh).map bI),.lst ((iN s w a b sh).map bI),.tup [dR (cm w a),dR (bJ s a),.lst ((il s w a b sh).map bI)]]))
theorem qH:eS ["sheet"] 1 (bN zU):=by walk_at"sc"
def LV  : cb:=λa k=>∃(sh:ZM),a=[.val (.lst (sh.map bI))]/\(sh.length<=100)/\k (.new (.lst (sh.map bI)))
theorem pG:eS ["ones","others","waiting","wide","sheet","pairs","ones_left","others_left"] 2 (bN zY):=by walk_at"sc"
def qB  : cb:=λb k=>∃(os a:ZN),b=[.val (.lst (os.map dC)),.val (.lst (a.map dC))]/\(os.length<=40)/\(a.length<=40)/\(∀c∈os++a,c.2.length<=100)/\∀(d:ZR)(e f:ZN),(d.map (λp=>(p.1,p.2.1))++e).Perm os->(d.map (λp=>(p.1,p.2.2))++f).Perm a->∀p b,k (.deep (.dl false p [] b [d.map ov,e.map dC,f.map dC]))
theorem LW:eS ["ratios","most"] 1 (bN zJ):=by walk_at"sc"
def qz  : cb:=λb k=>∃(cs:List F2),b=[.val (.lst (cs.map dR))]/\(cs.length<64)/\(∀c∈cs,0<c.2/\SB c.1<=900/\SB c.2<=900)/\∀a:ZH,a.length=cs.length->k (.own (a.map D.int))
theorem E3:eS ["corners","places","order"] 1 (bN zX):=by walk_at"sc"
def sf(c:F2×D):D:=.tup [dR c.1,c.2]
def qr  : cb:=λb k=>∃(cs:List (F2×D)),b=[.val (.lst (cs.map sf))]/\(cs.length<64)/\(∀c∈cs,0<c.1.2/\SB c.1.1<=900/\SB c.1.2<=900)/\∀a:List (F2×D),a.Perm cs->k (.own (a.map sf))
theorem jW:eS ["slope","hand","ones","other_hand","others","pairs","boxes","other_boxes","wide","sheet","other_wide","other_sheet","rest","box"] 5 (bN zZ):=by walk_at"sc"
def qq  : cb:=λm k=>∃(s:F2)(Wd:F2->Prop)(L:Nat->a7->Prop)(d e:Nat)(h i:Bool)(os b:ZN),m=[.val (dR s),.val (.str (if h=true then"high" else"low")),.val (.lst (os.map dC)),.val (.str (if i=true then"high" else"low")),.val (.lst (b.map dC))]/\(ku s Wd L d)/\(e+os.length<=d/\e+b.length<=d)/\(os.length+b.length<=40)/\(∀c∈os,ia s Wd L h e c)/\(∀c∈b,ia s Wd L i e c)/\∀(f:ZR)(j l:ZP)(g a:ZN),hv s Wd L h d os g (p1 f) j->hv s Wd L i d b a (p2 f) l->(g=[]\/a=[])->f.length<=os.length+b.length->j.length+l.length<=os.length+b.length->g.length+a.length<=os.length+b.length->k (.new (.tup [.lst (f.map ov),.lst (j.map f5),.lst (l.map f5),.lst (g.map dC),.lst (a.map dC)]))
theorem qn:eS ["slope","wide","low","high"] 4 (bN z0):=by walk_at"sc"
def qm  : cb:=λc k=>∃(s w:F2)(a b:ZM),c=[.val (dR s),.val (dR w),.val (.lst (a.map bI)),.val (.lst (b.map bI))]/\(a8 s.1 s.2)/\(a8 w.1 w.2)/\(SB s.1<=21)/\(SB s.2<=21)/\(SB w.1<=175)/\(SB w.2<=175)/\(a.length+b.length<=1000)/\k (.val (f5 (w,bJ s w,a++b)))
theorem qO:eS ["slope","low","high","pairs","boxes","other_boxes","low_rest","high_rest","made","hand"] 3 (bN z1):=by walk_at"sc"
def ql  : cb:=λh k=>∃(s:F2)(Wd:F2->Prop)(L:Nat->a7->Prop)(b d:Nat)(os a:ZN),h=[.val (dR s),.val (.lst (os.map dC)),.val (.lst (a.map dC))]/\(ku s Wd L b)/\(d+os.length<=b/\d+a.length<=b)/\(os.length+a.length<=40)/\(∀c∈os,ia s Wd L false d c)/\(∀c∈a,ia s Wd L true d c)/\∀(e:Bool)(f:ZN)(g:ZP),nL s Wd L b os a e f g->k (.new (.tup [.str (if e=true then"high" else"low"),.lst (f.map dC),.lst (g.map f5)]))
theorem E4:eS ["_law_found","_law_slope_here","_law_low_here","_law_high_here","_law_more","_law_one"] 4 (bN Ay):=by walk_at"sc"
def rD  : cb:=λf k=>∃(s:F2)(Q:Nat)(b:Bool)(os a d:ZN)(e:ZP),f=[.val (.tup [.str (if b=true then"high" else"low"),.lst (d.map dC),.lst (e.map f5)]),.val (dR s),.val (.lst (os.map dC)),.val (.lst (a.map dC))]/\(a8 s.1 s.2)/\(s.1≠0)/\(SB s.1<=10)/\(SB s.2<=10)/\(0<Q)/\(SB (Q:Int)<=161)/\(nL s (hM Q) (lN (Q*s.2)) 8 os a b d e)/\(os.length<=8)/\(a.length<=8)/\(∀c∈os++a,hM Q c.1/\c.2.length<=3/\∀x∈c.2,jc x/\x.1.length<=6)/\k (.val (.bl true))
theorem k4:eS ["_law_script","_law_bag_here","_law_slope_here","_law_most","_law_cuts","_law_many","_law_low_here","_law_high_here","_law_lows","_law_highs","_law_found","_law_piece"] 1 (bN AA):=by walk_at"sc"
structure rC(K:Su)(mg:Str->Option SC):Prop where
 fM:cG K mg "greatest_divisor" zC ["one","other"]
 l':cG K mg "plus" zD ["one","other"]
 kX:cG K mg "minus" zE ["one","other"]
 kO:cG K mg "times" zF ["one","other"]
 kM:cG K mg "under" zG ["one","other"]
 jA:cG K mg "against" zH ["one"]
 h_:cG K mg "unsigned" zI ["one"]
 kT:cG K mg "ranks" zJ ["ratios"]
 kU:cG K mg "point" zK ["a","b","n"]
 nD:cG K mg "at" zL ["x","y"]
 l9:cG K mg "slid" zM ["p","step"]
 jy:cG K mg "crossed" zN ["one","other"]
 jt:cG K mg "hand_of" zO ["line","p"]
 l_:cG K mg "meet" zP ["p","q","r","s"]
 iJ:cG K mg "cut_ring" zQ ["ring","p","q"]
 hU:cG K mg "cut_sheet" zR ["sheet","p","q"]
 gD:cG K mg "cut_upright" zS ["sheet","place"]
 hV:cG K mg "cut_level" zT ["sheet","height"]
 j1:cG K mg "copied" zU ["sheet"]
 kW:cG K mg "moved" zV ["sheet","step"]
 kR:cG K mg "split" zW ["slope","hand","wide","sheet","part"]
 gq:cG K mg "widest_last" zX ["corners"]
 k1:cG K mg "alike" zY ["ones","others"]
 jj:cG K mg "matched" zZ ["slope","hand","ones","other_hand","others"]
 j5:cG K mg "box_of" z0 ["slope","wide","low","high"]
 jY:cG K mg "paired" z1 ["slope","low","high"]
 iH:cG K mg "_law_cell" z2 ["_law_script","_law_k"]
 jr:cG K mg "_law_bag" z3 ["_law_cell_here"]
 iG:cG K mg "_law_draw" z4 ["_law_bag_here","_law_many"]
 gs:cG K mg "_law_measure" z5 ["_law_one","_law_other"]
 jm:cG K mg "_law_low" z6 ["_law_top","_law_bottom"]
 ic:cG K mg "_law_spot" z7 ["_law_x","_law_y","_law_bottom"]
 hF:cG K mg "_law_whole" z8 ["_law_found"]
 ir:cG K mg "_law_line" z9 ["_law_p","_law_q"]
 hT:cG K mg "_law_count" z' ["_law_tally","_law_rings","_law_number"]
 ik:cG K mg "_law_part" Aa ["_law_rings","_law_others"]
 iA:cG K mg "_law_left" Ab ["_law_p","_law_q","_law_r"]
 gy:cG K mg "_law_is_spot" Ac ["_law_p"]
 fT:cG K mg "_law_is_bulging" Ad ["_law_ring"]
 gC:cG K mg "_law_between" Ae ["_law_p","_law_q","_law_part_here","_law_many"]
 jn:cG K mg "_law_cut" Af ["_law_bag_here","_law_ring"]
 hN:cG K mg "_law_sheet" Ag ["_law_bag_here","_law_ring","_law_cuts"]
 hS:cG K mg "_law_first" Ah ["_law_piece"]
 iE:cG K mg "_law_kept" Ai ["_law_olds","_law_news"]
 iw:cG K mg "_law_lies" Aj ["_law_sheet_here","_law_ring"]
 hk:cG K mg "_law_copied" Ak ["_law_sheet_here"]
 gr:cG K mg "_law_product" Al ["_law_one","_law_other"]
 iy:cG K mg "_law_less" Am ["_law_one","_law_other"]
 jl:cG K mg "_law_pin" An ["_law_x","_law_y"]
 jq:cG K mg "_law_box" Ao ["_law_wide","_law_high_here"]
 hh:cG K mg "_law_is_box" Ap ["_law_found"]
 hb:cG K mg "_law_is_low" Aq ["_law_found"]
 ih:cG K mg "_law_size" Ar ["_law_bag_here"]
 iF:cG K mg "_law_high" As ["_law_slope_here","_law_wide"]
 hj:cG K mg "_law_corner" At ["_law_slope_here","_law_hand","_law_wide"]
 hI:cG K mg "_law_slope" Au ["_law_bag_here"]
 ie:cG K mg "_law_some" Av ["_law_bag_here","_law_slope_here","_law_hand","_law_many","_law_cuts"]
 gd:cG K mg "_law_all_wide" Aw ["_law_some_here"]
 g_:cG K mg "_law_pieces" Ax ["_law_some_here"]
 hQ:cG K mg "_law_right" Ay ["_law_found","_law_slope_here","_law_low_here","_law_high_here"]
 iz:cG K mg "_law_lent" Az ["_law_some_here"]
 e9:xz K mg "NOTHING" [0,1]
 fj:yZ K mg "widest_last"
section ag2
variable(B:LM mg)(Y:rC K mg)
include B Y
theorem E5 :
  ca P w K mg base "_law_cell" ["_law_script","_law_k"] 1 (ck K 2 GT):=by
 refine ca.imp (sp:=GS K) ?_ (λg H Q E h=>P7 h);refine Y.iH.ok (k:=0) s9 (λg H Q E h=>?_) (λf i A d s H g Q E n h=>?_)
 ·obtain⟨a,k,b,rfl,e,j,q⟩:=h;rfl
 obtain⟨a,k,b,rfl,e,j,q⟩:=h;refine⟨_,(mr (ws (qY nJ (f' 1) (q1 A3 (by rfl) B.fC (by decide +kernel) (d8 (f' 0) fa)) (dE _)) (pM (ms (k7 A1 (f' 0) (f' 1) (λ_ _=>rfl)))) wq) (pM (ms fw))),?_⟩;refine⟨_,rfl,_,rfl,a,_,rfl,.inl e,_,_,rfl,rfl,_,rfl,?_⟩;refine hB (λc=>?_) (λc=>?_)
 ·rw[Sv]at c;have l:k.toNat<b.length:=by lia
  have m:k=((k.toNat:Nat):Int):=by lia
  have z:eB (b.map V.int) ((k.toNat:Nat):Int)=some (.int b[k.toNat]):=CJ (by rw[SP,S0 l]<;>rfl);rw[<-m]at z;exact⟨_,rfl,_,rfl,a,_,_,_,rfl,rfl,e,z,q _⟩
 exact q _
theorem E6 :
  ca P w K mg base "_law_bag" ["_law_cell_here"] 1 (ck K 1 GV):=by
 refine ca.imp (sp:=GU) ?_ (λd H Q E h=>P8 h);refine Y.jr.ok (k:=0) s7 (λd H Q E h=>?_) (λf e A a s H d Q E i h=>?_)
 ·obtain⟨c,rfl,q⟩:=h;rfl
 obtain⟨c,rfl,q⟩:=h;refine⟨_,(mr (ws (qY wC (f' 0) (gk AS fw fw) (dE _)) (pM (ms (t4 (d8 (gk oM (f' 0) (gk ua (gk AS fw fw) (gk AS fw fw))) (d8 (gk oM (f' 0) fw) fa))))) wq) (pM (ms (t4 (d8 fw (d8 (gk oM (gk wB (gk ua (gk oM (f' 0) fw) fw) fw) fw) fa)))))),?_⟩;walk_at"rd";refine hB (λg=>?_) (λg=>?_)
 ·walk_at"rd";refine(λp b=>q p _ _ b (Ul _ (by decide +kernel)) (Ul _ (by decide)) (Ut _ (by decide)))
 have j:=Ul c (show(2147483647:Int)≠0 by decide);have l:=Ut c (show(0:Int)<2147483647 by decide);walk_at"rd";refine(λp b=>q p _ _ b (by decide) (Ul _ (by decide)) (Ut _ (by decide)))
theorem iP :
  ca P w K mg base "_law_draw" ["_law_bag_here","_law_many"] 1 (ck K 2 (GX 400)):=by
 refine ca.imp (sp:=GW 400) ?_ (λj H Q E h=>P9 h);refine Y.iG.ok (k:=0) LN (λj H Q E h=>?_) (λf v A d s H j Q E G h=>?_)
 ·obtain⟨b,m,rfl,⟨x,y,e,l,n,o⟩,a,B,q⟩:=h;rfl
 obtain⟨b,m,rfl,⟨x,y,e,l,n,o⟩,a,B,q⟩:=h;refine⟨_,(mr (ws (qY wC (k7 oO (f' 0) fw (λ_ _=>rfl)) (f' 1) (dE _)) (mr (qW (i:=2) LN.nd rfl (SH rfl) (gk oM (k7 oO (f' 0) fw (λ_ _=>rfl)) (f' 1))) (mr (su (gk wQ (k7 oO (f' 0) fw (λ_ _=>rfl)) (f' 1)) (AI (f' 0) fw A2)) (pM (ms (f' 2))))) wq) (mr (su fw (AI (f' 0) fw A2)) (mr (su (gk oM (gk wB (gk ua (k7 oO (f' 0) fw (λ_ _=>rfl)) fw) fw) fw) (AI (f' 0) fw A2)) (pM (ms (gk oM (gk wQ (gk oM (gk ua (k7 oO (f' 0) fw (λ_ _=>rfl)) (gk wB (gk wQ (k7 oO (f' 0) fw (λ_ _=>rfl)) fw) fw)) fw) fw) (f' 1))))))),?_⟩;walk_at"rd";refine hB (λg=>?_) (λg=>?_)
 ·walk_at"rd";refine⟨b,_,_,_,rfl,rfl,e,rfl,?_⟩;refine⟨_,rfl,?_⟩;refine q _ _ (nS.upd b H _) ⟨_,_,dL,?_,n,o⟩ (Ul _ (by lia)) (Ut _ a);exact Int.fdiv_nonneg l (Ti a)
 walk_at"rd";refine⟨b,_,_,_,rfl,rfl,e,rfl,?_⟩;have p:(ed H b (.lst ([V.int x,V.int y].set (VC 0) (V.int 0)))) b=some (.lst [.int 0,.int y]):=dL;have r:=nS.upd b H (.lst ([V.int x,V.int y].set (VC 0) (V.int 0)));generalize ed H b (.lst ([V.int x,V.int y].set (VC 0) (V.int 0)))=t at p r⊢;have c:=Ul (y*48271+4099) (show(2147483647:Int)≠0 by decide);have u:=Ut (y*48271+4099) (show(0:Int)<2147483647 by decide);walk_at"rd";refine⟨b,_,_,_,rfl,rfl,p,rfl,?_⟩;generalize(y*48271+4099)%2147483647=z at c u⊢;have C:(ed t b (.lst ([V.int 0,V.int y].set (VC 1) (V.int z)))) b=some (.lst [.int 0,.int z]):=dL;have I:=Int.ediv_nonneg c (show(0:Int)<=65536 by decide);have J:z/65536<=z:=Int.ediv_le_self _ c;have F:Int.fdiv z 65536=z/65536:=Int.fdiv_eq_ediv_of_nonneg z (by decide);have L:SB (Int.fdiv z 65536+7)<=64:=by rw[F];exact wS (by lia) (by lia)
 walk_at"rd";refine q _ _ (r.trans (nS.upd b t _)) ⟨_,_,C,by decide,c,u⟩ (Ul _ (by lia)) (Ut _ a)
theorem qP :
  ca P w K mg base "_law_measure" ["_law_one","_law_other"] 2 (ck K 2 sY):=by
 refine dy Y.gs tO rfl (λ_ _ _ _ _ _ _ p=>⟨_,(aZ (cA 0 tO.nd (ra (ah 0) (by rfl) B.iO)) (aZ (cA 1 tO.nd (ra (ah 1) (by rfl) B.iO)) (aZ (Bz PassesOwn.never (g5 (f:=λi j=>decide (j<i)) pR (ah 1) bt (dE _)) (aZ (cA 2 tO.nd (wZ (ah 0) (ah 1))) (aZ (cA 0 tO.nd (ah 1)) (bB (cA 1 tO.nd (ah 2)))))) (bB (cz (ah 0)))))),?_⟩);rintro q k r ⟨a,b,rfl,l⟩;refine cZ rfl ?_;walk_at"wd";refine⟨λm c=>∃(x y:Int)(v:aA),c=[.val (.int x),.val (.int y),v]/\0<=x/\0<=y/\Ss x y=Ss a b/\m=y.toNat,⟨_,_,_,_,rfl,?_,?_,Gf a b,rfl⟩,?_⟩
 ·split<;>lia
 ·split<;>lia
 rintro m c ⟨x,y,v,rfl,d,n,h,rfl⟩;walk_at"wd";refine hB (λg=>?_) (λg=>?_)
 ·walk_at"wd";have o:=Ul x (show y≠0 by lia);have s:=Ut x g;exact⟨_,by lia,_,_,_,rfl,n,o,by rw[Ge d g];exact h,rfl⟩
 have e:y=0:=by lia
 subst e;refine⟨_,rfl,?_⟩;rw[<-Gg d,h];exact l
theorem v9 :
  ca P w K mg base "_law_low" ["_law_top","_law_bottom"] 3 (ck K 2 sS):=by
 refine dy Y.jm ET rfl (λ_ _ _ _ _ _ _ d=>⟨_,(aZ (cA 2 ET.nd (bi (qP B Y) d (aF (ah 0) (aF (ah 1) a9)))) (aZ (fc (g5 (f:=λi j=>decide (i<j)) nJ (ah 1) bt (dE _)) (bB (cA 2 ET.nd (p3 (ah 2)))) fA) (bB (cz (dO (aY (fE (ah 0) (ah 2)) (aY (fE (ah 1) (ah 2)) cd))))))),?_⟩);rintro m k n ⟨t,b,rfl,o,l,c⟩;refine cZ rfl ?_;have p:=q7 (t:=t) (b:=b) (by lia);have q:=o2 (a:=t) (b:=b) (by lia) l;have e:uH t b=((Ss t b:Nat):Int):=by unfold uH;rw[Tk (by lia)]
 have c:k (.val (.tup [.int (t.fdiv ((Ss t b:Nat):Int)),.int (b.fdiv ((Ss t b:Nat):Int))])):=by
  have h:=c;unfold dR d1 at h;rwa[e]at h
 walk_at"w";refine⟨_,_,rfl,?_⟩;walk_at"wd";refine hB (λg=>absurd g (by lia)) (λ_=>?_);walk_at"w";exact c
theorem zi :
  ca P w K mg base "_law_spot" ["_law_x","_law_y","_law_bottom"] 3 (ck K 3 sR):=by
 refine dy Y.ic LO rfl (λ_ _ _ _ _ _ _ d=>⟨_,(aZ (cA 3 LO.nd (bi (qP B Y) d (aF (bi (qP B Y) d (aF (ah 0) (aF (ah 1) a9))) (aF (ah 2) a9)))) (bB (cz (dO (aY (fE (ah 0) (ah 3)) (aY (fE (ah 1) (ah 3)) (aY (fE (ah 2) (ah 3)) cd))))))),?_⟩);rintro o k p ⟨x,y,n,rfl,q,i,c⟩;refine cZ rfl ?_;walk_at"w";refine⟨_,_,rfl,?_⟩;walk_at"w";refine⟨_,_,rfl,?_⟩;have f:n≠0:=by lia
 have j:=Hd (a:=x) (b:=y) f;have l:=He (a:=x) (b:=y) f i;have e:lr x y n=g3 x y n:=by unfold lr;rw[Tk (by lia)]
 have m:((Ss ((Ss x y:Nat):Int) n:Nat):Int)=g3 x y n:=QZ x y n
 have c:k (.val (.tup [.int (x.fdiv (g3 x y n)),.int (y.fdiv (g3 x y n)),.int (n.fdiv (g3 x y n))])):=by
  have h:=c;unfold aR cl at h;rwa[e]at h
 rw[m];generalize g3 x y n=g at j l c⊢;walk_at"w";exact c
theorem E7 :
  ca P w K mg base "_law_whole" ["_law_found"] 2 (ck K 1 sP):=by
 refine dy Y.hF sQ rfl (λ_ _ _ _ _ _ _ b=>⟨_,(bB (cz (ui (lf (T:="int") (ah 0) (by rfl) B.eb (k5 (v:=.ty "int") (u:=.type "int") (by rfl) B.jh (by decide +kernel) rfl) rfl rfl rfl) (w1 (Pf (lf (T:="bool") (ah 0) (by rfl) B.eb (k5 (v:=.ty "bool") (u:=.type "bool") (by rfl) B.lF (by decide +kernel) rfl) rfl rfl rfl)))))),?_⟩);rintro c k d ⟨i,rfl,a⟩;refine cZ rfl ?_;refine⟨_,rfl,_,_,rfl,λ_=>rfl,_,rfl,Gd ?_⟩;exact⟨_,rfl,_,_,rfl,λ_=>rfl,_,rfl,a⟩
theorem rB :
  ca P w K mg base "_law_line" ["_law_p","_law_q"] 3 (ck K 2 sG):=by
 refine dy Y.ir tP rfl (λ_ _ _ _ _ _ _ o=>⟨_,(aZ (cA 2 tP.nd (g4 (cu (ei 0) (ei 1)) (cu (ei 0) (ei 1)))) (aZ (cA 3 tP.nd (g4 (cu (ei 0) (ei 1)) (cu (ei 0) (ei 1)))) (aZ (cA 4 tP.nd (g4 (cu (ei 0) (ei 1)) (cu (ei 0) (ei 1)))) (aZ (cA 5 tP.nd (bi (qP B Y) o (aF (bi (qP B Y) o (aF (ah 2) (aF (ah 3) a9))) (aF (ah 4) a9)))) (aZ (fc (kF (fg (g5 (f:=λi j=>decide (i<j)) nJ (ah 2) bt (dE _)) (lZ (kF (lx (g5 (f:=λi j=>decide (i=j)) oN (ah 2) bt (dE _)) (Gx (g5 (f:=λi j=>decide (i<j)) nJ (ah 3) bt (dE _)))))))) (bB (cA 5 tP.nd (p3 (ah 5)))) fA) (bB (cz (dO (aY (fE (ah 2) (ah 5)) (aY (fE (ah 3) (ah 5)) (aY (fE (ah 4) (ah 5)) cd))))))))))),?_⟩);rintro I k J ⟨p,q,rfl,w,h,m,e⟩;refine cZ (r:=[.val (aR p),.val (aR q),.no,.no,.no,.no]) rfl ?_;have L:=h.a;have M:=h.b;have O:=h.c;have Q:=m.a;have R:=m.b;have S:=m.c;have s:SB (a_ p q).1<=8500:=by show SB (p.2.1*q.2.2-p.2.2*q.2.1)<=_;walk_at"bits"
 have t:SB (a_ p q).2.1<=8500:=by show SB (p.2.2*q.1-p.1*q.2.2)<=_;walk_at"bits"
 have x:SB (a_ p q).2.2<=8500:=by show SB (p.1*q.2.1-p.2.1*q.1)<=_;walk_at"bits"
 walk_at"w";refine⟨(a_ p q).1,(a_ p q).2.1,rfl,?_⟩;walk_at"wd";refine⟨((Ss (a_ p q).1 (a_ p q).2.1:Nat):Int),(a_ p q).2.2,rfl,?_⟩;dsimp only[mH];refine cZ (r:=[.val (aR p),.val (aR q),.val (.int (a_ p q).1),.val (.int (a_ p q).2.1),.val (.int (a_ p q).2.2),.val (.int (lD (a_ p q)))]) rfl ?_;unfold e6 at e;generalize a_ p q=l at w s t x e;refine ix (λu=>u=[.val (aR p),.val (aR q),.val (.int l.1),.val (.int l.2.1),.val (.int l.2.2),.val (.int (hK l))]) ?_ (λN v=>?_);rotate_left
 ·have yes:m7 l->N [.val (aR p),.val (aR q),.val (.int l.1),.val (.int l.2.1),.val (.int l.2.2),.val (.int (-lD l))]:=λd=>v _ (by unfold hK;rw[SL d]);have no:¬m7 l->N [.val (aR p),.val (aR q),.val (.int l.1),.val (.int l.2.1),.val (.int l.2.2),.val (.int (lD l))]:=λd=>v _ (by unfold hK;rw[Tk d]);refine⟨_,rfl,_,_,rfl,rfl,_,rfl,hB (λg=>?_) (λg=>?_)⟩
  ·exact⟨_,rfl,_,rfl,yes (.inl g)⟩
  refine⟨_,rfl,_,_,rfl,rfl,_,rfl,hB (λn=>?_) (λn=>no λd=>d.elim g λz=>n z.1)⟩;refine⟨_,rfl,_,_,rfl,rfl,_,rfl,hB (λg3=>?_) (λg3=>no λd=>d.elim g λz=>g3 z.2)⟩;exact⟨_,rfl,_,rfl,yes (.inr ⟨n,g3⟩)⟩
 rintro u rfl;have y:=yq w;have T:=AJ s t w;obtain⟨A,C,E⟩:=vj l;have F:=Wr A;have G:=Wr C;have H:=Wr E;have e:k (.val (.tup [.int (l.1.fdiv (hK l)),.int (l.2.1.fdiv (hK l)),.int (l.2.2.fdiv (hK l))])):=by rw[F,G,H];exact e
 walk_at"w";exact e
theorem LX :
  ca P w K mg base "_law_count" ["_law_tally","_law_rings","_law_number"] 4 (yn K 3 sF):=by
 refine By Y.hT v6 rfl (λ_ _ _ _ _ _ _ v=>⟨_,(bB (kK PassesOwn.never rfl (gx (ah 1)) (cx 3 v6.nd) (bB (kK PassesOwn.never rfl (w6 (j6 (ah 3) (by rfl) B.fC) (by rfl) B.fS) (cx 4 v6.nd) (aZ (GD (i:=5) (j:=6) rfl v6.nd rfl rfl (by decide) rfl rfl (aY (hn (ah 3) (g4 (ah 4) bt) (λ_ _=>rfl)) (aY (hn (ah 3) (ah 4) (λ_ _=>rfl)) cd)) rfl) (aZ (cA 7 v6.nd (bi (rB B Y) v (aF (ah 5) (aF (ah 6) a9)))) (aZ (I' (b:=true) 0 (qt v) (dO (aY (ah 7) (aY (ah 5) cd))) (gv (I9 (b:=true) 0 (qt v) (dO (aY (ah 7) (aY (ah 5) cd))) bt) (ah 2))) (bB (I' (b:=true) 0 (qt v) (dO (aY (ah 7) (aY (ah 6) cd))) (g4 (I9 (b:=true) 0 (qt v) (dO (aY (ah 7) (aY (ah 6) cd))) bt) (ah 2))))))))))),?_⟩);rintro b t M aK aM k X ⟨U,rs,m,rfl,rfl,Z,ae,v,aN,X,af⟩;refine cZ rfl ?_;subst Z;have aO:40000<=TI:=by decide
 refine⟨_,rfl,_,rfl,?_⟩;refine qa (f:=f2) (rs:=rs) (done:=[]) (λpre r=>∃(c:List ZY)(s:ZH)(ah y A C E:aA),r=[.own (.d true t c (s.map D.int)),.val (.lst (rs.map f2)),.val (.int m),ah,y,A,C,E]/\s.length=c.length/\c.length<=M.length+2*(pre.map S6).sum/\∀a,(bo c s a).getD 0=(bo M U a).getD 0+m*qw a pre) ⟨M,U,_,_,_,_,_,rfl,ae,by simp,λa=>by simp[qw]⟩ ?_ (λr h=>?_);rotate_left
 ·obtain⟨c,s,ah,y,A,C,E,rfl,O,Q,G⟩:=h;rw[Tn]at Q G;exact⟨c,_,rfl,af c s O Q G⟩
 rintro pre l F r R ⟨c,s,ah,y,A,C,E,rfl,O,Q,G⟩ N H;rw[Tn]at R;have mem:l∈rs:=by rw[R];simp
 obtain⟨aQ,ag,W⟩:=v l mem;have aS:(rs.map S6).sum=(pre.map S6).sum+(l.length+(F.map S6).sum):=by rw[R,SE,Uk,SI,To]
 have len:(l.map aR).length=l.length:=Sv ..;refine⟨_,rfl,_,rfl,_,rfl,by lia,by rw[len];lia,?_⟩;rw[len,show((l.length:Nat):Int).toNat=l.length by lia];refine B6 (λi r=>∃(g:List ZY)(n:ZH)(y A C E:aA),r=[.own (.d true t g (n.map D.int)),.val (.lst (rs.map f2)),.val (.int m),.val (f2 l),y,A,C,E]/\n.length=g.length/\g.length<=c.length+2*i/\∀a,(bo g n a).getD 0=(bo c s a).getD 0+m*qv a ((dv l).take i)) ⟨c,s,_,_,_,_,rfl,O,by lia,λa=>by simp[qv]⟩ ?_ (λr h=>?_);rotate_left
 ·obtain⟨g,n,y,A,C,E,rfl,I,hc,J⟩:=h;have aj:=C' l;rw[aj]at J;refine H _ ⟨g,n,_,_,_,_,_,rfl,I,?_,λa=>?_⟩
  ·rw[SE,Uk];simp only[SI,TA,To,Vz];lia
  rw[J a,G a];unfold qw;rw[SE,Uk];simp only[SI,TA,To,Vz];grind
 clear H;rintro i r ao ⟨g,n,y,A,C,E,rfl,I,hc,J⟩ N H;obtain⟨p,q,aq,au,av,aw,ax,ay⟩:=AY ao;refine⟨_,rfl,_,rfl,_,_,rfl,rfl,_,_,_,.inr rfl,rfl,av,_,rfl,_,rfl,_,_,_,.inr rfl,rfl,aw,aR p,aR q,rfl,?_⟩;refine⟨_,rfl,_,rfl,rfl,p,q,rfl,ag _ ax,W p aq,W q au,?_⟩;dsimp only[mH];obtain⟨L,aB⟩:=Jr (k:=eK p q p) (x:=(bo g n (eK p q p)).getD 0+m) I;refine ix (λr=>r=[.own (.d true t (eZ g (eK p q p)) ((g9 g n (eK p q p) ((bo g n (eK p q p)).getD 0+m)).map D.int)),.val (.lst (rs.map f2)),.val (.int m),.val (f2 l),.val (.int i),.val (aR p),.val (aR q),.val (aR (e6 p q))]) ?_ (λaU aC=>?_);rotate_left
 ·refine⟨t,g,_,rfl,_,rfl,_,rfl,e1,eK p q p,rfl,(λz=>nomatch z),_,rfl,(bo g n (eK p q p)).getD 0,m,Ju _ _ _,rfl,?_⟩;refine⟨t,g,_,rfl,_,rfl,_,rfl,e1,eK p q p,rfl,(λz=>nomatch z),by lia,?_⟩;exact aC _ (by rw[Js];rfl)
 rintro r rfl;generalize S:eZ g (eK p q p)=o at L aB;generalize T:g9 g n (eK p q p) ((bo g n (eK p q p)).getD 0+m)=u at L
 have g3:∀a,(bo o u a).getD 0=(bo g n a).getD 0+(if a=eK p q p then m else 0):=λa=>by
  rw[<-S,<-T,Jq _ _ a I];by_cases e:a=eK p q p
  ·rw[SL e,SL e,e];rfl
  rw[Tk e,Tk e];lia
 obtain⟨aD,aV⟩:=Jr (k:=eK p q q) (x:=(bo o u (eK p q q)).getD 0-m) L;refine⟨t,o,_,rfl,_,rfl,_,rfl,e1,eK p q q,rfl,(λz=>nomatch z),_,rfl,(bo o u (eK p q q)).getD 0,m,Ju _ _ _,rfl,?_⟩;refine⟨t,o,_,rfl,_,rfl,_,rfl,e1,eK p q q,rfl,(λz=>nomatch z),by lia,?_⟩;refine H _ ⟨eZ o (eK p q q),g9 o u (eK p q q) ((bo o u (eK p q q)).getD 0-m),.val (.int i),.val (aR p),.val (aR q),.val (aR (e6 p q)),by rw[Js];rfl,aD,by lia,λa=>?_⟩;rw[Jq _ _ a L,ay]
 have aG:qv a ((dv l).take i++[(p,q)])=qv a ((dv l).take i)+vm a (p,q):=by
  unfold qv;rw[SE,Uk];simp
 have aH:((if a=eK p q q then some ((bo o u (eK p q q)).getD 0-m)else bo o u a).getD 0:Int)=(bo o u a).getD 0-(if a=eK p q q then m else 0):=by
  by_cases e:a=eK p q q
  ·rw[SL e,SL e,e];rfl
  rw[Tk e,Tk e];lia
 rw[aH,g3 a,J a,aG];unfold vm;dsimp only;split<;>split<;>grind
theorem LZ :
  ca P w K mg base "_law_part" ["_law_rings","_law_others"] 5 (ck K 2 sE):=by
 refine dy Y.ik LP rfl (λ_ _ _ _ _ _ _ g=>⟨_,(aZ (D5 (b:=true) (i:=2) LP.nd rfl (Um rfl)) (aZ (Ja 2 (LX B Y) g (by rfl) (aY (ah 0) (aY bt cd))) (aZ (Ja 2 (LX B Y) g (by rfl) (aY (ah 1) (aY (p3 bt) cd))) (BV 2 (bB (cz (xu (ea (kN (ts:=["_law_key"]) (fr:=["_law_tally"]) (js:=[2]) (BS (ah 2)) (λ_ _ _ _=>(eW (i:=0) (show SW (["_law_key","_law_tally"]:ZS) by decide +kernel) rfl (SH rfl))) (λ_ _ _ _=>ij) (λ_ _ _ _=>(lY (f:=λi j=>decide (i=j)) oN (Eo true (qt g) (ah 1) (ah 0) (λ_ _=>rfl)) bt (dE _))) ⟨rfl,by decide +kernel,rfl,by decide +kernel,hH (TC.mpr ⟨rfl,(S9 _)⟩),h3 rfl,by walk_at"ffr",rfl⟩)) rfl (by rfl) B.k9))))))),?_⟩);rintro H k r ⟨s,t,rfl,g,u,r,l,m⟩;refine cZ rfl ?_;have I:40000<=TI:=by decide
 refine⟨true,none,[],[],rfl,_,rfl,rfl,[],s,1,rfl,rfl,rfl,rfl,g,.inl rfl,by simp;lia,λn x y p A=>?_⟩;refine⟨true,none,n,_,rfl,_,rfl,1,rfl,rfl,x,t,-1,rfl,rfl,rfl,y,u,.inr rfl,?_,λc o C J E=>?_⟩
 ·simp at p;lia
 have z:∀a,(bo c o a).getD 0=0:=λa=>by
  rw[E a,A a,AN l a];simp[bo];lia
 simp at p;refine⟨true,none,c,_,rfl,_,rfl,true,c,_,rfl,by rw[Sv];lia,?_⟩;refine mW (f:=gI true) (h:=λ_=>D.bl true) (λa F k m=>?_) ?_
 ·have some:bo c (o.map D.int) a=some (.int 0):=by
   have e:=z a;rw[h7];cases q:bo c o a with
   |none=>exact absurd F ((qs C).mp q)
   |some v=>rw[q]at e;rw[show v=0 from e];rfl
  exact⟨_,rfl,_,rfl,c,_,a,_,rfl,rfl,(λz=>nomatch z),some,_,_,rfl,rfl,m⟩
 refine⟨_,rfl,λd G=>?_,m⟩;obtain⟨_,_,e⟩:=SJ.mp G;exact e.symm
theorem L0 :
  ca P w K mg base "_law_left" ["_law_p","_law_q","_law_r"] 2 (ck K 3 so):=by
 refine dy Y.iA EU rfl (λ_ _ _ _ _ _ _ m=>⟨_,(aZ (cA 3 EU.nd (cu (ei 0) (g4 (cu (ei 1) (ei 2)) (cu (ei 1) (ei 2))))) (aZ (Dk (i:=3) EU.nd rfl (SH rfl) (cu (ei 0) (g4 (cu (ei 1) (ei 2)) (cu (ei 1) (ei 2))))) (bB (cz (lY (f:=λi j=>decide (j<i)) pR (gv (ah 3) (cu (ei 0) (g4 (cu (ei 1) (ei 2)) (cu (ei 1) (ei 2))))) bt (dE _)))))),?_⟩);rintro n k o ⟨p,q,r,rfl,d,g,h,l⟩;refine cZ rfl ?_;have s:=d.a;have t:=d.b;have u:=d.c;have v:=g.a;have x:=g.b;have y:=g.c;have z:=h.a;have A:=h.b;have B:=h.c;have e:bm p q r=p.1*(q.2.1*r.2.2-q.2.2*r.2.1)+p.2.1*(q.2.2*r.1-q.1*r.2.2)+p.2.2*(q.1*r.2.1-q.2.1*r.1):=by unfold bm a_;grind
 rw[e]at l;walk_at"w";exact l
theorem L1 :
  ca P w K mg base "_law_is_spot" ["_law_p"] 3 (ck K 1 sk):=by
 refine dy Y.gy sm rfl (λ_ _ _ _ _ _ _ a=>⟨_,(aZ (fc (kF (fg (g6 (fb (lf (T:="tuple") (ah 0) (by rfl) B.eb (k5 (v:=.ty "tuple") (u:=.type "tuple") (by rfl) B.fQ (by decide +kernel) rfl) rfl rfl rfl))) (fg (g5 (f:=λi j => !decide (i=j)) q6 (j6 (ah 0) (by rfl) B.fC) bt (dE _)) (lZ (g6 (fb (xu (ea (kN (ts:=["_law_number"]) (fr:=[]) (js:=[]) (GE (ah 0)) (λ_ _ _ _=>(eW (i:=0) (show SW (["_law_number"]:ZS) by decide +kernel) rfl (SH rfl))) (λ_ _ _ _=>ij) (λ_ _ _ _=>(bi (E7 B Y) a (aF (ah 0) a9))) ⟨rfl,by decide +kernel,rfl,by decide +kernel,hH (S9 _),h3 rfl,by walk_at"ffr",rfl⟩)) rfl (by rfl) B.k9))))))) (bB (cz h2)) fA) (bB (cz (ui (lY (f:=λi j=>decide (j<i)) pR (ei 0) bt (dE _)) (w1 (lY (f:=λi j=>decide (i=j)) oN (bi (qP B Y) a (aF (bi (qP B Y) a (aF (ei 0) (aF (ei 0) a9))) (aF (ei 0) a9))) bt (dE _))))))),?_⟩);rintro n k o ⟨p,rfl,c,b⟩;refine cZ rfl ?_;have g:((Ss ((Ss p.1 p.2.1:Nat):Int) p.2.2:Nat):Int)=1:=by rw[c.2];rfl
 have l:=c.1;refine mP (λN m=>?_) ?_
 ·refine⟨_,rfl,_,_,rfl,λ_=>rfl,_,rfl,eO ?_⟩;refine⟨_,rfl,_,rfl,_,_,rfl,rfl,_,rfl,eO ?_⟩;refine⟨_,rfl,_,rfl,hO,?_⟩;refine mW (f:=D.int) (h:=λ_=>D.bl true) (rs:=[p.1,p.2.1,p.2.2]) (λi q k b=>⟨_,rfl,rfl,i,rfl,b⟩) ?_;exact⟨_,rfl,λd e=>by simp at e;exact e,_,rfl,eO m⟩
 walk_at"w";rw[SL (Xx l)];walk_at"w";refine⟨_,_,rfl,?_⟩;walk_at"w";refine⟨_,_,rfl,?_⟩;rw[g];exact⟨_,_,rfl,rfl,b⟩
theorem rA :
  ca P w K mg base "_law_is_bulging" ["_law_ring"] 4 (ck K 1 sj):=by
 refine dy Y.fT EV rfl (λ_ _ _ _ _ _ _ o=>⟨_,(aZ (fc (kF (fg (g6 (fb (lf (T:="list") (ah 0) (by rfl) B.eb (k5 (v:=.ty "list") (u:=.type "list") (by rfl) B.gE (by decide +kernel) rfl) rfl rfl rfl))) (fg (g5 (f:=λi j=>decide (i<j)) nJ (j6 (ah 0) (by rfl) B.fC) bt (dE _)) (lZ (g6 (fb (xu (ea (kN (ts:=["_law_p"]) (fr:=[]) (js:=[]) (gx (ah 0)) (λ_ _ _ _=>(eW (i:=0) (show SW (["_law_p"]:ZS) by decide +kernel) rfl (SH rfl))) (λ_ _ _ _=>ij) (λ_ _ _ _=>(bi (L1 B Y) o (aF (ah 0) a9))) ⟨rfl,by decide +kernel,rfl,by decide +kernel,hH (S9 _),h3 rfl,by walk_at"ffr",rfl⟩)) rfl (by rfl) B.k9))))))) (bB (cz h2)) fA) (aZ (uG 1 (uF (i:=1) EV.nd rfl rfl (ts:=["_law_k"]) (fr:=["_law_ring"]) (js:=[0]) (w6 (j6 (ah 0) (by rfl) B.fC) (by rfl) B.fS) (λ_ _ _ _=>(eW (i:=0) (show SW (["_law_k","_law_ring"]:ZS) by decide +kernel) rfl (SH rfl))) (λ_ _ _ _=>ij) (λ_ _ _ _=>(bi (L0 B Y) o (aF (hn (ah 1) (g4 (ah 0) bt) (λ_ _=>rfl)) (aF (hn (ah 1) (g4 (ah 0) bt) (λ_ _=>rfl)) (aF (hn (ah 1) (ah 0) (λ_ _=>rfl)) a9))))) ⟨rfl,by decide +kernel,rfl,by decide +kernel,hH (TC.mpr ⟨rfl,(S9 _)⟩),h3 rfl,by walk_at"ffr",rfl⟩)) (aZ (uG 2 (uF (i:=2) EV.nd rfl rfl (ts:=["_law_k"]) (fr:=["_law_ring"]) (js:=[0]) (C5 bt (g4 (j6 (ah 0) (by rfl) B.fC) bt) (by rfl) B.fS) (λ_ _ _ _=>(eW (i:=0) (show SW (["_law_k","_law_ring"]:ZS) by decide +kernel) rfl (SH rfl))) (λ_ _ _ _=>ij) (λ_ _ _ _=>(bi (L0 B Y) o (aF (ei 1) (aF (hn (ah 1) (ah 0) (λ_ _=>rfl)) (aF (hn (ah 1) (gv (ah 0) bt) (λ_ _=>rfl)) a9))))) ⟨rfl,by decide +kernel,rfl,by decide +kernel,hH (TC.mpr ⟨rfl,(S9 _)⟩),h3 rfl,by walk_at"ffr",rfl⟩)) (bB (cz (ui (GP (o.units) h2 (ah 1) (by rfl)) (w1 (GP (o.units) h2 (ah 2) (by rfl))))))))),?_⟩);rintro I k F ⟨a,rfl,F,s,z,l⟩;refine cZ rfl ?_;have J:75<=TI:=by decide
 have L:=s.1;have len:(a.map aR).length=a.length:=Sv ..;have m:∀n,n<a.length->du 2950 (bC a n):=λn h=>z _ (o6 h);refine mP (λN q=>?_) ?_
 ·refine⟨_,rfl,_,_,rfl,λ_=>rfl,_,rfl,eO ?_⟩;refine⟨_,rfl,_,rfl,_,_,rfl,rfl,_,rfl,hB (λg=>by rw[len]at g;lia) (λ_=>?_)⟩;refine⟨_,rfl,_,rfl,by rw[len];lia,?_⟩;refine mW (f:=aR) (h:=λ_=>D.bl true) (λp G k l=>⟨_,rfl,rfl,p,rfl,(z p G).pt,l⟩) ?_;exact⟨_,rfl,λd H=>by obtain⟨_,_,e⟩:=SJ.mp H;exact e.symm,_,rfl,eO q⟩
 refine ix (λr=>r=[.val (.lst (a.map aR)),.val (.lst ((S7 a.length).map λ_=>D.bl true)),.no]) ?_ (λN q=>?_);rotate_left
 ·refine⟨_,rfl,_,rfl,_,rfl,by lia,by rw[len];lia,by rw[Sv,U5];lia,?_⟩;rw[len,show((a.length:Nat):Int).toNat=a.length by lia];refine mW (f:=λt:Nat=>D.int t) (h:=λ_=>D.bl true) (λi c k l=>?_) ⟨_,rfl,q _ rfl⟩;have c:=TG.mp c;refine⟨_,rfl,_,rfl,_,_,rfl,rfl,_,_,_,.inr rfl,rfl,AF c (by lia),_,rfl,_,rfl,_,_,rfl,rfl,_,_,_,.inr rfl,rfl,HK c,_,rfl,_,rfl,_,_,_,.inr rfl,rfl,n4 c,rfl,_,_,_,rfl,(m _ (UA _ (by lia))).bp,(m _ (UA _ (by lia))).bp,(m _ c).bp,?_⟩;rw[Xx (s.turn c)];exact l
 rintro r rfl;refine ix (λr=>r=[.val (.lst (a.map aR)),.val (.lst ((S7 a.length).map λ_=>D.bl true)),.val (.lst ((S7 (a.length-2)).map λ_=>D.bl true))]) ?_ (λN q=>?_);rotate_left
 ·walk_at"w"
  have A:∀t:Nat,t+1<a.length->eB (a.map aR) (1+(t:Int))=some (aR (bC a (t+1))):=λt h=>by
   rw[show(1+(t:Int))=((t+1:Nat):Int) by lia];exact n4 h
  refine⟨⟨by decide,by decide,by rw[len];lia,by rw[len];lia⟩,by rw[Sv,U5,len];lia,?_⟩;rw[len,show((a.length:Int)-1-1).toNat=a.length-2 by lia];refine mW (f:=λt:Nat=>D.int (1+t)) (h:=λ_=>D.bl true) (λi c k l=>?_) ⟨_,rfl,q _ rfl⟩;have c:=TG.mp c;refine⟨_,rfl,_,_,_,.inr rfl,rfl,n4 (n:=0) (by lia),_,rfl,_,rfl,_,_,_,.inr rfl,rfl,A i (by lia),_,rfl,_,rfl,_,_,rfl,rfl,_,_,_,.inr rfl,rfl,by rw[show(1+(i:Int)+1)=(1+((i+1:Nat):Int)) by lia];exact A (i+1) (by lia),rfl,_,_,_,rfl,(m 0 (by lia)).bp,(m (i+1) (by lia)).bp,(m (i+2) (by lia)).bp,?_⟩;rw[Xx (s.oe (k:=i+1) (by lia) (by lia))];exact l
 rintro r rfl
 have C:∀n:Nat,¬D.bl false∈(S7 n).map λ_=>D.bl true:=λn h=>by
  obtain⟨_,_,e⟩:=SJ.mp h;cases e
 have E:∀n:Nat,∀e∈(S7 n).map (λ_=>D.bl true),has .B e=true:=λn e h=>by
  obtain⟨_,_,rfl⟩:=SJ.mp h;rfl
 refine⟨_,rfl,.B,_,.inl rfl,rfl,E _,by decide,λb x=>?_⟩
 have y:b=false:=by
  cases b with
  |false=>rfl
  |true=>exact absurd (x.mp rfl) (C _)
 subst y;refine⟨_,rfl,?_⟩;rw[SL rfl];refine⟨_,rfl,.B,_,.inl rfl,rfl,E _,by decide,λb x=>?_⟩
 have y:b=false:=by
  cases b with
  |false=>rfl
  |true=>exact absurd (x.mp rfl) (C _)
 subst y;exact l
theorem L6 :
  ca P w K mg base "_law_between" ["_law_p","_law_q","_law_part_here","_law_many"] 4 (ck K 4 tF):=by
 refine dy Y.gC EW rfl (λ_ _ _ _ _ _ _ f=>⟨_,(aZ (cA 4 EW.nd (gv (cu (cu (ei 0) (ei 1)) (g4 (ah 3) (ah 2))) (cu (cu (ei 1) (ei 0)) (ah 2)))) (aZ (cA 5 EW.nd (gv (cu (cu (ei 0) (ei 1)) (g4 (ah 3) (ah 2))) (cu (cu (ei 1) (ei 0)) (ah 2)))) (bB (cz (bi (zi B Y) f (aF (ah 4) (aF (ah 5) (aF (cu (cu (ei 0) (ei 1)) (ah 3)) a9)))))))),?_⟩);rintro i k j ⟨p,q,t,rfl,d,e,l,m,g⟩;refine cZ rfl ?_;have n:=d.bp.a;have o:=d.bp.b;have r:=d.bp.c;have s:=e.bp.a;have u:=e.bp.b;have v:=e.bp.c;have h:0<p.2.2*q.2.2*3:=SD (SD d.pt.1 e.pt.1) (by decide);walk_at"w";exact⟨_,_,_,rfl,h,by walk_at"bits",g⟩
theorem rx :
  ca P w K mg base "_law_cut" ["_law_bag_here","_law_ring"] 5 (ck K 2 tE):=by
 refine dy Y.jn sb rfl (λ_ _ _ _ _ _ _ g=>⟨_,(aZ (cA 2 sb.nd (bi (iP B Y) g (hq 0 (aF (j6 (ah 1) (by rfl) B.fC) a9)))) (aZ (cA 3 sb.nd (bi (iP B Y) g (hq 0 (aF (g4 (j6 (ah 1) (by rfl) B.fC) bt) a9)))) (aZ (i1 (ea (B3 (ea (gw (aY (ah 2) (aY (gv (ah 3) (um (lY (f:=λi j=>decide (j<=i)) wC (ah 3) (ah 2) (dE _)) (by rfl) B.jh)) cd)))) (by rfl) B.iT)) (Hu (n:=2) rfl (b7 (cx 2 sb.nd) (b7 (cx 3 sb.nd) fq)))) (aZ (cA 4 sb.nd (bi (L6 B Y) g (aF (hn (ah 1) (ah 2) (λ_ _=>rfl)) (aF (hn (ah 1) (gv (ah 2) bt) (λ_ _=>rfl)) (aF (gv bt (bi (iP B Y) g (hq 0 (aF bt a9)))) (aF bt a9)))))) (aZ (cA 5 sb.nd (bi (L6 B Y) g (aF (hn (ah 1) (ah 3) (λ_ _=>rfl)) (aF (hn (ah 1) (wZ (gv (ah 3) bt) (j6 (ah 1) (by rfl) B.fC)) (λ_ _=>rfl)) (aF (gv bt (bi (iP B Y) g (hq 0 (aF bt a9)))) (aF bt a9)))))) (bB (cz (dO (aY (ea (l2 (ea (l2 (ea (gw (aY (ah 4) cd))) (ea (BB (ah 1) (w8 (gv (ah 2) bt)) (w8 (gv (ah 3) bt)))))) (ea (gw (aY (ah 5) cd))))) (aY (ea (l2 (ea (l2 (ea (l2 (ea (gw (aY (ah 5) cd))) (ea (BB (ah 1) (w8 (gv (ah 3) bt)) GF)))) (ea (BB (ah 1) GF (w8 (gv (ah 2) bt)))))) (ea (gw (aY (ah 4) cd))))) cd)))))))))),?_⟩);rintro H k C ⟨e,m,rfl,r,s,L,C,l⟩;refine cZ rfl ?_;have O:=r.1;have len:(e.map aR).length=e.length:=Sv ..;have Q:=zt;have o:∀n,n<e.length->du 2000 (bC e n):=λn h=>(s _ (o6 h)).mono (by lia);walk_at"w";intro a E v;walk_at"w";intro b F x;rw[len]at v x;walk_at"w";refine .inr ⟨_,rfl,_,_,rfl,rfl,e1,[a,_],rfl,by show 2<64;decide,λR y z=>?_⟩;obtain⟨I,J,rfl,q,p⟩:=CH E v F x y z;clear y z;refine⟨_,rfl,rfl,_,_,rfl,_,_,rfl,rfl,_,rfl,_,rfl,_,_,_,.inr rfl,rfl,n4 (show I<e.length by lia),_,rfl,_,rfl,_,_,rfl,rfl,_,_,_,.inr rfl,rfl,n4 (n:=I+1) (show I+1<e.length by lia),?_⟩;walk_at"w";intro c S T;walk_at"w";refine⟨bC e I,bC e (I+1),1+c,rfl,o _ (by lia),o _ (by lia),by lia,by lia,?_⟩;have A:(J+1)%e.length<e.length:=UA _ (by lia)
 have G:eB (e.map aR) (((J:Int)+1)%((e.map aR).length:Int))=some (aR (bC e ((J+1)%e.length))):=by
  rw[len,show((J:Int)+1)%(e.length:Int)=(((J+1)%e.length:Nat):Int) by push_cast;rfl];exact n4 A
 refine⟨_,rfl,_,rfl,_,_,_,.inr rfl,rfl,n4 (n:=J) p,_,rfl,_,rfl,_,_,rfl,rfl,_,rfl,_,rfl,_,_,rfl,rfl,by rw[len];lia,_,_,_,.inr rfl,rfl,G,?_⟩;walk_at"w";intro d U W;walk_at"w";refine⟨bC e J,bC e ((J+1)%e.length),1+d,rfl,o _ (by lia),o _ A,by lia,by lia,?_⟩;have ok:=CP (t:=1+c) (u:=1+d) r s q p (by lia) (by lia) (by lia) (by lia);generalize kk (bC e I) (bC e (I+1)) (1+c)=M at ok⊢;generalize kk (bC e J) (bC e ((J+1)%e.length)) (1+d)=N at ok⊢;have X:=Cw (e.map aR) (some ((I:Int)+1)) (some ((J:Int)+1));have Z:=Cw (e.map aR) (some ((J:Int)+1)) none;have h1:=Cw (e.map aR) none (some ((I:Int)+1));have l:=l _ _ ok;rw[CE q p,CV q p]at l;walk_at"w";refine⟨by simp only[Sz,SK,Ug];lia,?_⟩;walk_at"w";refine⟨by simp only[Sz,SK,Ug];lia,?_⟩;walk_at"w";refine⟨by simp only[Sz,SK,Ug];lia,?_⟩;walk_at"w";refine⟨by simp only[Sz,SK,Ug];lia,?_⟩;walk_at"w";refine⟨by simp only[Sz,SK,Ug];lia,?_⟩;walk_at"w";exact l
theorem rv :
  ca P w K mg base "_law_sheet" ["_law_bag_here","_law_ring","_law_cuts"] 6 (ck K 3 tD):=by
 refine dy Y.hN sd rfl (λ_ _ _ _ _ _ _ a=>⟨_,(aZ (mI (i:=3) sd.nd rfl (SH rfl) (gw (aY (ah 1) cd))) (aZ (kK PassesOwn.never rfl (w6 (bi (iP B Y) a (hq 0 (aF (gv (ah 2) bt) a9))) (by rfl) B.fS) (cx 4 sd.nd) (bB (BW 3 0 (rx B Y) a (by rfl) (bi (iP B Y) a (hq 0 (aF (Pu 3 (by rfl) B.fC) a9)))))) (aZ (mI (i:=5) sd.nd rfl (SH rfl) (gw cd)) (kI 3 (aZ (kK PassesOwn.never rfl (gx (ah 3)) (cx 6 sd.nd) (aZ (cA 7 sd.nd (lY (f:=λi j=>decide (i=j)) oN (bi (iP B Y) a (hq 0 (aF bt a9))) bt (dE _))) (aZ (cA 8 sd.nd (g4 (bi (iP B Y) a (hq 0 (aF bt a9))) bt)) (bB (kL 5 (dO (aY (ah 6) (aY (ah 7) (aY (bi (zi B Y) a (aF (ah 8) (aF (g4 (bi (iP B Y) a (hq 0 (aF bt a9))) bt) (aF (gv bt (bi (iP B Y) a (hq 0 (aF bt a9)))) a9)))) cd))))))))) (kI 5 (bB (cz (ah 5))))))))),?_⟩);rintro X k A ⟨m,C,rfl,I,J,A,Z,L⟩;refine cZ rfl ?_;have ae:=zt;walk_at"w";intro c ag hc;refine⟨_,rfl,by lia,by lia,?_⟩;refine B6 (λi b=>∃(rs:Z0)(d:aA),b=[.bag,.val (f2 m),.val (.int (C:Int)),.own (.l (rs.map f2)),d,.no,.no,.no,.no]/\rW 42 4 m i rs) ⟨[m],_,rfl,yX I J A⟩ ?_ (λb h=>?_)
 ·rintro i b aj ⟨rs,d,rfl,ok⟩ N p;have M:=ok.ln;have len:(rs.map f2).length=rs.length:=Sv ..;refine⟨rs.map f2,rfl,rfl,?_⟩;walk_at"w";intro n ao aq;obtain⟨j,rfl⟩:∃j:Nat,n=j:=⟨n.toNat,by lia⟩;have E:j<rs.length:=by lia
  have a:rs[j]?=some rs[j]:=S0 E;have o:rs[j]∈rs:=V6 E;generalize rs[j]=r at a o;have le:=ok.le r o;refine⟨j,f2 r,rfl,by lia,by rw[SP,a];rfl,?_⟩;refine⟨r,ko 42 i,rfl,ok.cv r o,ok.gp r o,Sx (DW (c:=2) (by lia)) (by decide),by lia,λF G O=>?_⟩;refine⟨[f2 F,f2 G],rfl,by rw[len];show rs.length+2<=_;lia,p _ ⟨rs.eraseIdx j++[F,G],.val (.int i),?_,ok.step a O⟩⟩;rw[SE,JW];rfl
 obtain⟨rs,d,rfl,ok⟩:=h;walk_at"w";have M:=ok.ln;refine qa (f:=f2) (rs:=rs) (done:=[]) (λpre b=>∃(sh:ZM)(d s u v:aA),b=[.bag,.val (f2 m),.val (.int (C:Int)),.val (.lst (rs.map f2)),d,.own (.l (sh.map bI)),s,u,v]/\(sh.map λt=>t.1)=pre/\∀t∈sh,du 20 t.2.2) ⟨[],_,_,_,_,rfl,rfl,λt g=>absurd g (by simp)⟩ ?_ (λb h=>?_);rotate_left
 ·obtain⟨sh,d,s,u,v,rfl,e,st⟩:=h;rw[Tn]at e;rw[<-e]at ok;obtain⟨Q,R,S⟩:=ok.ml (c:=2) (by lia) (DW (by lia)) st;exact⟨_,rfl,_,rfl,L sh Q R S⟩
 rintro pre r H b T ⟨sh,d,s,u,v,rfl,e,st⟩ N p;walk_at"w";intro f au av;walk_at"w";intro x aw ax;walk_at"w";intro y ay aC;walk_at"w";intro z aD aG;walk_at"w";refine⟨x-40,y-40,1+z,rfl,by lia,by walk_at"bits",?_⟩;have U:=yV (x:=x-40) (y:=y-40) (n:=1+z) (by lia) (by lia) (by lia) (by lia) (by lia) (by lia)
 have W:sh.length<=rs.length:=by
  have q:=TW S6 T;rw[Tn,Sz,SK,<-e,Sv]at q;lia
 refine⟨hO,by rw[Sv];lia,p _ ⟨sh++[(r,decide (f=0),cl (x-40) (y-40) (1+z))],_,_,_,_,by rw[SE];rfl,by rw[SE,e];rfl,λt g=>?_⟩⟩;rcases SO.mp g with g|g
 ·exact st t g
 rw[SQ.mp g];exact U
theorem L7 :
  ca P w K mg base "_law_first" ["_law_piece"] 4 (ck K 1 LQ):=by
 refine dy Y.hS pE rfl (λ_ _ _ _ _ _ _ z=>⟨_,(aZ (i1 (ah 0) (fF (n:=3) rfl (b7 (cx 1 pE.nd) (b7 (cx 2 pE.nd) (b7 (cx 3 pE.nd) fq))))) (aZ (cA 4 pE.nd (g4 bt (cu bt (um (ah 2) (by rfl) B.jh)))) (aZ (mI (i:=5) pE.nd rfl (SH rfl) (gw cd)) (aZ (kK PassesOwn.never rfl (gx (ah 1)) (cx 6 pE.nd) (aZ (cA 7 pE.nd (g4 (cu (ei 6) (ei 3)) (cu (ei 3) (ei 6)))) (aZ (cA 8 pE.nd (g4 (cu (ei 6) (ei 3)) (cu (ei 3) (ei 6)))) (bB (kL 5 (bi (zi B Y) z (aF (cu (ah 4) (ah 7)) (aF (cu (ah 4) (ah 8)) (aF (cu (ei 6) (ei 3)) a9))))))))) (kI 5 (bB (cz (ah 5)))))))),?_⟩);rintro F k A ⟨s,rfl,A,j,l,m⟩;refine cZ rfl ?_;have G:75<=TI:=by decide
 have H:=l.bp.a;have I:=l.bp.b;have J:=l.bp.c;refine⟨_,rfl,_,rfl,rfl,_,_,rfl,_,_,rfl,_,_,rfl,rfl,?_⟩;walk_at"w"
 have x:(if s.2.1=true then(1:Int)else 0)=0\/(if s.2.1=true then(1:Int)else 0)=1:=by
  cases s.2.1<;>simp
 have q:SB (if s.2.1=true then(1:Int)else 0)<=9:=by rcases x with e|e<;>rw[e]<;>decide
 have C:SB (1-2*(if s.2.1=true then(1:Int)else 0))<=9:=by rcases x with e|e<;>rw[e]<;>decide
 refine .inr ⟨s.2.1,rfl,2,_,rfl,rfl,⟨by decide,cf q⟩,1,_,rfl,rfl,?_⟩
 have m:k (.val (.lst ((s.1.map λp=>cl ((1-2*(if s.2.1=true then 1 else 0))*(p.1*s.2.2.2.2-s.2.2.1*p.2.2)) ((1-2*(if s.2.1=true then 1 else 0))*(p.2.1*s.2.2.2.2-s.2.2.2.1*p.2.2)) (p.2.2*s.2.2.2.2)).map aR))):=by
  rw[qx]at m;have e:(s.1.map λp=>cl ((1-2*(if s.2.1=true then 1 else 0))*(p.1*s.2.2.2.2-s.2.2.1*p.2.2)) ((1-2*(if s.2.1=true then 1 else 0))*(p.2.1*s.2.2.2.2-s.2.2.2.1*p.2.2)) (p.2.2*s.2.2.2.2))=s.1.map λp=>if s.2.1=true then fe (nP (ee (fe s.2.2) p))else nP (ee (fe s.2.2) p):=Uj λp d=>z_ (j p d).pt l.pt s.2.1
  rw[e];exact m
 dsimp only;generalize(1-2*(if s.2.1=true then(1:Int)else 0))=g at C m⊢;refine cZ rfl ?_;walk_at"wd";refine qa (f:=aR) (rs:=s.1) (done:=[]) (λpre r=>∃t u v,r=[.val (bI s),.val (.lst (s.1.map aR)),.val (.bl s.2.1),.val (aR s.2.2),.val (.int g),.own ((pre.map λp=>cl (g*(p.1*s.2.2.2.2-s.2.2.1*p.2.2)) (g*(p.2.1*s.2.2.2.2-s.2.2.2.1*p.2.2)) (p.2.2*s.2.2.2.2)).map aR),t,u,v]) ⟨_,_,_,rfl⟩ ?_ (λr h=>?_);rotate_left
 ·obtain⟨t,u,v,rfl⟩:=h;exact⟨_,rfl,_,rfl,m⟩
 rintro pre p y r o ⟨t,u,v,rfl⟩ N E;have d:p∈s.1:=by rw[Tn]at o;rw[o];simp
 have L:=(j p d).bp.a;have M:=(j p d).bp.b;have O:=(j p d).bp.c;have Q:pre.length<s.1.length:=by rw[Tn]at o;rw[o,Sz,SK];lia
 walk_at"w";refine⟨_,_,_,rfl,SD (j p d).pt.1 l.pt.1,by walk_at"bits",by rw[Sv,Sv];lia,E _ ⟨.val (aR p),.val (.int (p.1*s.2.2.2.2-s.2.2.1*p.2.2)),.val (.int (p.2.1*s.2.2.2.2-s.2.2.2.1*p.2.2)),?_⟩⟩;rw[SE,SE];rfl
theorem rE :
  ca P w K mg base "_law_kept" ["_law_olds","_law_news"] 6 (ck K 2 tA):=by
 refine dy Y.iE EX rfl (λ_ _ _ _ _ _ _ g=>⟨_,(aZ (kK PassesOwn.never rfl (GE (dO (aY h2 (aY h2 cd)))) (eW (i:=2) EX.nd rfl (Um rfl)) (aZ (uG 3 (uF (i:=3) EX.nd rfl rfl (ts:=["_law_piece"]) (fr:=["_law_flag"]) (js:=[2]) (gx (ah 1)) (λ_ _ _ _=>(eW (i:=0) (show SW (["_law_piece","_law_flag"]:ZS) by decide +kernel) rfl (SH rfl))) (λ_ _ _ _=>(G' (BO (g.units) (ei 0) (ah 1) (dE _)))) (λ_ _ _ _=>(bi (L7 B Y) g (aF (ah 0) a9))) ⟨rfl,by decide +kernel,rfl,by decide +kernel,hH (TC.mpr ⟨rfl,(S9 _)⟩),h3 rfl,by walk_at"ffr",rfl⟩)) (bB (fc (g6 (fb (bi (LZ B Y) g (aF (ah 3) (aF (ea (kN (ts:=["_law_piece"]) (fr:=["_law_flag"]) (js:=[2]) (gx (ah 0)) (λ_ _ _ _=>(eW (i:=0) (show SW (["_law_piece","_law_flag"]:ZS) by decide +kernel) rfl (SH rfl))) (λ_ _ _ _=>(G' (BO (g.units) (ei 0) (ah 1) (dE _)))) (λ_ _ _ _=>(bi (L7 B Y) g (aF (ah 0) a9))) ⟨rfl,by decide +kernel,rfl,by decide +kernel,hH (TC.mpr ⟨rfl,(S9 _)⟩),h3 rfl,by walk_at"ffr",rfl⟩)) a9))))) (bB (cz h2)) fA)))) (bB (cz h2))),?_⟩);rintro I k v ⟨os,d,rfl,J,x,y,q,r,E,e⟩;refine cZ rfl ?_;have M:1000<=TI:=by decide
 refine ix (λa=>∃j ah,a=[.val (.lst (os.map bI)),.val (.lst (d.map bI)),j,ah]) ?_ (λN o=>?_)
 ·rintro a ⟨j,ah,rfl⟩;exact e
 refine⟨e1,_,rfl,?_⟩;refine qa (f:=D.bl) (rs:=[false,true]) (done:=[]) (λ_ a=>∃j ah,a=[.val (.lst (os.map bI)),.val (.lst (d.map bI)),j,ah]) ⟨_,_,rfl⟩ ?_ (λa h=>o _ h);clear o;rintro pre b z a O ⟨j,ah,rfl⟩ N o
 have flt:∀(L:ZM),(∀s∈L,jc s)->L.length<=192->∀(k:ZK->Prop),k (((L.filter λs=>s.2.1==b).map f0).map f2)->hs (fp 0) (jk (ut false (Bp (jF 0) (i0 (D.int 1))) (jF 1))) (Bt 1 LQ (Bs (jF 0) Br)) (L.map bI) [.no,.val (.bl b)] k:=λL n v k e=>by
  refine CZ (f:=bI) (h:=λs=>f2 (f0 s)) (P:=λs=>s.2.1==b) (λs c k e=>?_) (λs c k e=>?_) (by rwa[SM]at e)
  ·refine⟨_,rfl,_,_,_,.inl rfl,rfl,rfl,_,rfl,.B,rfl,rfl,by decide,_,rfl,?_⟩;rw[JB];exact e
  have t:=n s c;exact⟨_,rfl,rfl,s,rfl,cf t.ln,λp u=>(t.ps p u),t.st.mono (by decide),e⟩
 have F:∀(L:ZM),(∀s∈L,jc s)->L.length<=192->((((L.filter λs=>s.2.1==b).map f0)).map S6).sum<=6528:=λL n v=>by
  rw[SM]
  have:=pf (f:=S6∘f0) (m:=34) (l:=L.filter λs=>s.2.1==b) λs c=>by
   show(f0 s).length<=34
   rw[JA];exact(n s (TO.mp c).1).ln
  have G:=Vr (λs:a7=>s.2.1==b) L;lia
 have A:∀(L:ZM),(∀s∈L,jc s)->∀C∈(L.filter λs=>s.2.1==b).map f0,oh C:=λL n C u=>by
  obtain⟨s,c,rfl⟩:=SJ.mp u;exact(n s (TO.mp c).1).first.1
 refine ix (λa=>a=[.val (.lst (os.map bI)),.val (.lst (d.map bI)),.val (.bl b),.val (.lst (((d.filter λs=>s.2.1==b).map f0).map f2))]) ?_ (λQ H=>?_);rotate_left
 ·refine⟨_,rfl,_,rfl,by rw[Sv];lia,?_⟩;exact flt d q x _ ⟨_,rfl,H _ rfl⟩
 rintro a rfl;refine⟨_,rfl,_,rfl,_,rfl,by rw[Sv];lia,?_⟩;refine flt os y (by lia) _ ?_
 have R:((((os.filter λs=>s.2.1==b).map f0)).map S6).sum<=288:=by
  rw[SM]
  have:=pf (f:=S6∘f0) (m:=6) (l:=os.filter λs=>s.2.1==b) λs c=>by
   show(f0 s).length<=6
   rw[JA];exact E s (TO.mp c).1
  have G:=Vr (λs:a7=>s.2.1==b) os;lia
 have S:=F d q x;exact⟨rfl,_,_,rfl,A d q,A os y,by lia,r b,_,rfl,eO (o _ ⟨_,_,rfl⟩)⟩
theorem L9 :
  ca P w K mg base "_law_lies" ["_law_sheet_here","_law_ring"] 6 (ck K 2 tm):=by
 refine dy Y.iw LR rfl (λ_ _ _ _ _ _ _ o=>⟨_,(aZ (fc (g6 (fb (lf (T:="list") (ah 0) (by rfl) B.eb (k5 (v:=.ty "list") (u:=.type "list") (by rfl) B.gE (by decide +kernel) rfl) rfl rfl rfl))) (bB (cz h2)) fA) (aZ (kK PassesOwn.never rfl (gx (ah 0)) (cx 2 LR.nd) (aZ (fc (kF (fg (g6 (fb (lf (T:="tuple") (ah 2) (by rfl) B.eb (k5 (v:=.ty "tuple") (u:=.type "tuple") (by rfl) B.fQ (by decide +kernel) rfl) rfl rfl rfl))) (fg (g5 (f:=λi j => !decide (i=j)) q6 (j6 (ah 2) (by rfl) B.fC) bt (dE _)) (lZ (g6 (fb (lf (T:="bool") (ei 2) (by rfl) B.eb (k5 (v:=.ty "bool") (u:=.type "bool") (by rfl) B.lF (by decide +kernel) rfl) rfl rfl rfl))))))) (bB (cz h2)) fA) (bB (fc (kF (fg (g6 (fb (bi (rA B Y) o (aF (ei 2) a9)))) (lZ (g6 (fb (bi (L1 B Y) o (aF (ei 2) a9))))))) (bB (cz h2)) fA)))) (bB (cz (bi (LZ B Y) o (aF (ea (kN (ts:=["_law_piece"]) (fr:=[]) (js:=[]) (gx (ah 0)) (λ_ _ _ _=>(eW (i:=0) (show SW (["_law_piece"]:ZS) by decide +kernel) rfl (SH rfl))) (λ_ _ _ _=>ij) (λ_ _ _ _=>(ei 0)) ⟨rfl,by decide +kernel,rfl,by decide +kernel,hH (S9 _),h3 rfl,by walk_at"ffr",rfl⟩)) (aF (ea (gw (aY (ah 1) cd))) a9))))))),?_⟩);rintro G k C ⟨sh,q,rfl,C,r,y,t,x⟩;refine cZ rfl ?_;have H:1000<=TI:=by decide
 refine mP (λN b=>?_) ?_
 ·exact⟨_,rfl,_,_,rfl,λ_=>rfl,_,rfl,eO b⟩
 refine ix (λa=>∃c,a=[.val (.lst (sh.map bI)),.val (.lst (q.map aR)),c]) ?_ (λN b=>?_);rotate_left
 ·refine⟨_,rfl,_,rfl,?_⟩;refine qa (f:=bI) (rs:=sh) (done:=[]) (λ_ a=>∃c,a=[.val (.lst (sh.map bI)),.val (.lst (q.map aR)),c]) ⟨_,rfl⟩ ?_ (λa h=>b _ h);rintro pre s z a A ⟨c,rfl⟩ N b;have g:=r s (by rw[Tn]at A;rw[A];simp);refine mP (λI E=>?_) ?_
  ·refine⟨_,rfl,_,_,rfl,λ_=>rfl,_,rfl,eO ?_⟩;refine⟨_,rfl,_,rfl,_,_,rfl,rfl,_,rfl,eO ?_⟩;exact⟨_,rfl,_,_,_,.inl rfl,rfl,rfl,_,_,rfl,λ_=>rfl,_,rfl,eO E⟩
  refine⟨_,rfl,_,_,_,.inl rfl,rfl,rfl,rfl,s.1,rfl,cf g.ln,g.cv,λp d=>(g.ps p d).mono (by decide),_,rfl,eO ?_⟩;exact⟨_,rfl,_,_,_,.inl rfl,rfl,rfl,rfl,s.2.2,rfl,g.st.pt,_,rfl,eO (b _ ⟨_,rfl⟩)⟩
 rintro a ⟨c,rfl⟩;refine⟨_,rfl,_,rfl,by rw[Sv];lia,?_⟩;refine mW (f:=bI) (h:=λs=>f2 s.1) (λs n k x=>⟨_,rfl,_,_,_,.inl rfl,rfl,rfl,x⟩) ?_;have J:=pf (f:=λs:a7=>s.1.length) (m:=34) (l:=sh) λs n=>(r s n).ln;refine⟨_,rfl,by show 1<=TI;decide,rfl,sh.map (λs=>s.1),[q],by rw[SM];rfl,?_,?_,?_,t,x⟩
 ·intro F d;obtain⟨s,n,rfl⟩:=SJ.mp d;exact(r s n).rg
 ·intro F d;rw[SQ.mp d];exact y
 rw[SM];have e:(sh.map (S6∘λs=>s.1)).sum=(sh.map λs:a7=>s.1.length).sum:=rfl;have:=y.1;rw[e];simp only[SI,TA,To,Vz];lia
theorem o1 :
  ca P w K mg base "_law_copied" ["_law_sheet_here"] 2 (ck K 1 ti):=by
 refine dy Y.hk tj rfl (λ_ _ _ _ _ _ _ d=>⟨_,(bB (Bx (kN (ts:=["_law_ring","_law_flag","_law_step"]) (fr:=[]) (js:=[]) (gx (ah 0)) (λ_ _ _ _=>(fF (n:=3) rfl (b7 (eW (i:=0) (show SW (["_law_ring","_law_flag","_law_step"]:ZS) by decide +kernel) rfl (SH rfl)) (b7 (eW (i:=1) (show SW (["_law_ring","_law_flag","_law_step"]:ZS) by decide +kernel) rfl (SH rfl)) (b7 (eW (i:=2) (show SW (["_law_ring","_law_flag","_law_step"]:ZS) by decide +kernel) rfl (SH rfl)) fq))))) (λ_ _ _ _=>ij) (λ_ _ _ _=>(dO (aY (ea (GJ (ah 0) (by rfl) B.gE)) (aY (ah 1) (aY (ah 2) cd))))) ⟨rfl,by decide +kernel,rfl,by decide +kernel,hH (S9 _),h3 rfl,by walk_at"ffr",rfl⟩))),?_⟩);rintro e k a ⟨sh,rfl,a,b⟩;refine cZ rfl ?_;have f:1000<=TI:=by decide
 refine⟨_,rfl,_,rfl,by rw[Sv];lia,?_⟩;exact xG (h:=bI) (fs:=[]) (λs g j c=>⟨_,rfl,_,.inl rfl,_,rfl,_,rfl,hO,c⟩) b
theorem oZ :
  ca P w K mg base "_law_product" ["_law_one","_law_other"] 4 (ck K 2 td):=by
 refine dy Y.gr te rfl (λ_ _ _ _ _ _ _ a=>⟨_,(bB (cz (bi (v9 B Y) a (aF (cu (ei 0) (ei 1)) (aF (cu (ei 0) (ei 1)) a9))))),?_⟩);rintro e k f ⟨r,s,rfl,b,c,g,h,i,j,d⟩;refine cZ rfl ?_;walk_at"w";exact⟨_,_,rfl,SD b c,by walk_at"bits",d⟩
theorem oY :
  ca P w K mg base "_law_less" ["_law_one","_law_other"] 4 (ck K 2 tI):=by
 refine dy Y.iy s_ rfl (λ_ _ _ _ _ _ _ a=>⟨_,(bB (cz (bi (v9 B Y) a (aF (g4 (cu (ei 0) (ei 1)) (cu (ei 1) (ei 0))) (aF (cu (ei 0) (ei 1)) a9))))),?_⟩);rintro e k f ⟨r,s,rfl,b,c,g,h,i,j,d⟩;refine cZ rfl ?_;walk_at"w";exact⟨_,_,rfl,SD b c,by walk_at"bits",d⟩
theorem E8 :
  ca P w K mg base "_law_pin" ["_law_x","_law_y"] 4 (ck K 2 qj):=by
 refine dy Y.jl qk rfl (λ_ _ _ _ _ _ _ a=>⟨_,(bB (cz (bi (zi B Y) a (aF (cu (ei 0) (ei 1)) (aF (cu (ei 1) (ei 0)) (aF (cu (ei 0) (ei 1)) a9)))))),?_⟩);rintro e k f ⟨r,s,rfl,b,c,g,h,i,j,d⟩;refine cZ rfl ?_;walk_at"w";exact⟨_,_,_,rfl,SD b c,by walk_at"bits",d⟩
theorem L' :
  ca P w K mg base "_law_box" ["_law_wide","_law_high_here"] 5 (ck K 2 p_):=by
 refine dy Y.jq qd rfl (λ_ _ _ _ _ _ _ a=>⟨_,(bB (cz (ea (gw (aY (dO (aY bt (aY bt (aY bt cd)))) (aY (bi (E8 B Y) a (aF (ah 0) (aF (dO (aY bt (aY bt cd))) a9))) (aY (bi (E8 B Y) a (aF (ah 0) (aF (ah 1) a9))) (aY (bi (E8 B Y) a (aF (dO (aY bt (aY bt cd))) (aF (ah 1) a9))) cd)))))))),?_⟩);rintro m k n ⟨w,h,rfl,b,c,d,e,f,g,i⟩;refine cZ rfl ?_;have j:cl (w.1*1) (0*w.2) (w.2*1)=(w.1,0,w.2):=by rw[Vb,TR,Vb];exact Hh (xH b)
 have l:cl (0*h.2) (h.1*1) (1*h.2)=(0,h.1,h.2):=by rw[TR,Vb,Wi];exact Hh (xI c)
 refine⟨hO,_,rfl,e1,rfl,w,(0,1),rfl,b.1,by decide,cf d,cf e,by decide,by decide,?_⟩;rw[j];refine⟨_,rfl,_,rfl,rfl,w,h,rfl,b.1,c.1,cf d,cf e,cf f,cf g,e1,_,rfl,rfl,(0,1),h,rfl,by decide,c.1,by decide,by decide,cf f,cf g,?_⟩;rw[l];exact⟨by show 4<=TI;decide,i⟩
theorem E9 :
  ca P w K mg base "_law_is_low" ["_law_found"] 3 (ck K 1 p8):=by
 refine dy Y.hb p9 rfl (λ_ _ _ _ _ _ _ a=>⟨_,(aZ (fc (kF (fg (g6 (fb (lf (T:="tuple") (ah 0) (by rfl) B.eb (k5 (v:=.ty "tuple") (u:=.type "tuple") (by rfl) B.fQ (by decide +kernel) rfl) rfl rfl rfl))) (fg (g5 (f:=λi j => !decide (i=j)) q6 (j6 (ah 0) (by rfl) B.fC) bt (dE _)) (fg (g6 (fb (bi (E7 B Y) a (aF (ei 0) a9)))) (lZ (g6 (fb (bi (E7 B Y) a (aF (ei 0) a9))))))))) (bB (cz h2)) fA) (bB (cz (ui (lY (f:=λi j=>decide (j<i)) pR (ei 0) bt (dE _)) (ui (lY (f:=λi j=>decide (j<i)) pR (ei 0) bt (dE _)) (w1 (lY (f:=λi j=>decide (i=j)) oN (bi (qP B Y) a (aF (ei 0) (aF (ei 0) a9))) bt (dE _)))))))),?_⟩);rintro l k b ⟨r,rfl,b,c,d⟩;refine cZ rfl ?_;have e:((Ss r.1 r.2:Nat):Int)=1:=by rw[b.2];rfl
 have g:=b.1;refine mP (λN h=>?_) ?_
 ·refine⟨_,rfl,_,_,rfl,λ_=>rfl,_,rfl,eO ?_⟩;refine⟨_,rfl,_,rfl,_,_,rfl,rfl,_,rfl,eO ?_⟩;refine⟨_,rfl,_,_,_,.inl rfl,rfl,rfl,rfl,r.1,rfl,_,rfl,eO ?_⟩;exact⟨_,rfl,_,_,_,.inl rfl,rfl,rfl,rfl,r.2,rfl,_,rfl,eO h⟩
 walk_at"w";rw[SL (Xx c)];walk_at"w";rw[SL (Xx g)];walk_at"w";refine⟨_,_,rfl,?_⟩;rw[e];exact⟨_,_,rfl,rfl,d⟩
theorem oW :
  ca P w K mg base "_law_is_box" ["_law_found"] 7 (ck K 1 pV):=by
 refine dy Y.hh p7 rfl (λ_ _ _ _ _ _ _ a=>⟨_,(aZ (fc (kF (fg (g6 (fb (lf (T:="tuple") (ah 0) (by rfl) B.eb (k5 (v:=.ty "tuple") (u:=.type "tuple") (by rfl) B.fQ (by decide +kernel) rfl) rfl rfl rfl))) (fg (g5 (f:=λi j => !decide (i=j)) q6 (j6 (ah 0) (by rfl) B.fC) bt (dE _)) (fg (g6 (fb (bi (E9 B Y) a (aF (ei 0) a9)))) (lZ (g6 (fb (bi (E9 B Y) a (aF (ei 0) a9))))))))) (bB (cz h2)) fA) (bB (cz (bi (L9 B Y) a (aF (ei 0) (aF (bi (L' B Y) a (aF (ei 0) (aF (ei 0) a9))) a9)))))),?_⟩);rintro t k e ⟨w,h,sh,rfl,b,c,g,l,m,n,o,p,e,q,d,r⟩;refine cZ rfl ?_;refine mP (λN s=>?_) ?_
 ·refine⟨_,rfl,_,_,rfl,λ_=>rfl,_,rfl,eO ?_⟩;refine⟨_,rfl,_,rfl,_,_,rfl,rfl,_,rfl,eO ?_⟩;refine⟨_,rfl,_,_,_,.inl rfl,rfl,rfl,rfl,w,rfl,b,o,_,rfl,eO ?_⟩;exact⟨_,rfl,_,_,_,.inl rfl,rfl,rfl,rfl,h,rfl,c,p,_,rfl,eO s⟩
 exact⟨_,rfl,_,_,_,.inl rfl,rfl,rfl,_,rfl,_,_,_,.inl rfl,rfl,rfl,_,rfl,_,_,_,.inl rfl,rfl,rfl,rfl,w,h,rfl,b,c,cf g,cf l,cf m,cf n,rfl,sh,kQ w h,rfl,e,q,tL ⟨b,c,o,p⟩ g l m n,d,r⟩
theorem Ma :
  ca P w K mg base "_law_size" ["_law_bag_here"] 4 (ck K 1 pT):=by
 refine dy Y.ih pU rfl (λ_ _ _ _ _ _ _ a=>⟨_,(aZ (fc (g5 (f:=λi j=>decide (i=j)) oN (bi (iP B Y) a (hq 0 (aF bt a9))) bt (dE _)) (bB (cz (bi (v9 B Y) a (aF (gv bt (bi (iP B Y) a (hq 0 (aF bt a9)))) (aF (gv bt (bi (iP B Y) a (hq 0 (aF bt a9)))) a9))))) fA) (bB (cz (bi (v9 B Y) a (aF (gv bt (bi (iP B Y) a (hq 0 (aF bt a9)))) (aF (gv bt (bi (iP B Y) a (hq 0 (aF bt a9)))) a9)))))),?_⟩);rintro A k C ⟨rfl,o⟩;refine cZ rfl ?_
 have g:∀t b:Int,0<t->0<b->SB t<=10->SB b<=10->k (.val (dR (d1 t b))):=λt b p h q r=>by
  obtain⟨l,e,s,u⟩:=kb (t:=t) (b:=b) (Sy h);refine o _ l ?_ (fW s q) (fW u r);have:0<(d1 t b).1*b:=by rw[e];exact SD p l.1
  exact UO this h
 have d:∀x:Int,0<=x->x<=1000->SB x<=10:=λx m n=>intBits_le_iff.mpr (by show x.natAbs<1024;lia);walk_at"w";intro c E F;walk_at"wd";refine hB (λ_=>?_) (λ_=>?_)
 ·walk_at"w";intro x m n;walk_at"w";intro y v z;walk_at"w";exact⟨1+x,1+y,rfl,by lia,Sx (d (1+y) (by lia) (by lia)) (by decide),g _ _ (by lia) (by lia) (d _ (by lia) (by lia)) (d _ (by lia) (by lia))⟩
 walk_at"w";intro x m n;walk_at"w";intro y v z;walk_at"w";exact⟨1+x,1+y,rfl,by lia,Sx (d (1+y) (by lia) (by lia)) (by decide),g _ _ (by lia) (by lia) (d _ (by lia) (by lia)) (d _ (by lia) (by lia))⟩
theorem oU :
  ca P w K mg base "_law_high" ["_law_slope_here","_law_wide"] 5 (ck K 2 pQ):=by
 refine dy Y.iF pS rfl (λ_ _ _ _ _ _ _ b=>⟨_,(bB (cz (bi (oZ B Y) b (aF (dO (aY (ra (ei 0) (by rfl) B.iO) (aY (ei 0) cd))) (aF (ah 1) a9))))),?_⟩);rintro j k l ⟨s,w,rfl,c,d,m,n,a,e,f,g,h⟩;refine cZ rfl ?_
 have i:SB (if s.1<0 then -s.1 else s.1)<=64:=by
  split
  ·exact TT a
  exact a
 walk_at"w";exact⟨(if s.1<0 then -s.1 else s.1,s.2),w,rfl,c.1,d.1,cf i,cf e,cf f,cf g,h⟩
theorem Mb :
  ca P w K mg base "_law_corner" ["_law_slope_here","_law_hand","_law_wide"] 6 (ck K 3 pO):=by
 refine dy Y.hj v7 rfl (λ_ _ _ _ _ _ _ b=>⟨_,(aZ (i1 (bi (L' B Y) b (aF (ah 2) (aF (bi (oU B Y) b (aF (ah 0) (aF (ah 2) a9))) a9))) (Hu (n:=4) rfl (b7 (cx 3 v7.nd) (b7 (cx 4 v7.nd) (b7 (cx 5 v7.nd) (b7 (cx 6 v7.nd) fq)))))) (aZ (fc (g5 (f:=λi j=>decide (j<i)) pR (ei 0) bt (dE _)) (bB (cz (ea (gw (aY (ah 3) (aY (hn (ea (gw (aY (ah 4) (aY (ah 5) cd)))) (um (xi (b.units) (ah 1) lX (dE _)) (by rfl) B.jh) (λ_ _=>rfl)) (aY (hn (ea (gw (aY (ah 5) (aY (ah 6) cd)))) (um (xi (b.units) (ah 1) lX (dE _)) (by rfl) B.jh) (λ_ _=>rfl)) cd))))))) fA) (aZ (fc (BO (b.units) (ah 1) lX (dE _)) (bB (cz (ea (gw (aY (ah 3) (aY (ah 4) (aY (ah 6) cd))))))) fA) (bB (cz (ea (gw (aY (ah 6) (aY (ah 4) (aY (ah 5) cd)))))))))),?_⟩);rintro J k L ⟨s,w,p,rfl,d,c,q,r,e,u,g,l,a⟩;refine cZ rfl ?_;have v:=uT d c q r;have m:s.2*w.2≠0:=pW d.1 c.1
 have x:SB (bJ s w).1<=240/\SB (bJ s w).2<=240:=by
  obtain⟨_,_,y,A⟩:=kb (t:=(if s.1<0 then -s.1 else s.1)*w.1) m
  have C:SB (if s.1<0 then -s.1 else s.1)<=64:=by
   split
   ·exact TT e
   exact e
  exact⟨Sx (fW y (TD C g)) (by decide),Sx (fW A (TD u l)) (by decide)⟩
 obtain⟨E,F⟩:=x;have M:0<s.1->d1 (s.1*w.1) (s.2*w.2)=bJ s w:=R2;have G:s.1<0->d1 (s.1*w.1) (s.2*w.2)=(-(bJ s w).1,(bJ s w).2):=R3 d c;have H:∀{z:Int},SB z<=64->SB z<=4000:=λh=>cf h;have I:∀{z:Int},SB z<=240->SB z<=4000:=λh=>cf h;walk_at"w";refine⟨s,w,rfl,d,c,q,r,e,u,g,l,rfl,w,bJ s w,rfl,c,v.lh,cf g,cf l,cf E,cf F,_,rfl,rfl,_,_,rfl,_,_,rfl,_,_,rfl,_,_,rfl,rfl,?_⟩;unfold dh at a;refine⟨_,rfl,_,_,_,.inl rfl,rfl,rfl,_,_,rfl,rfl,_,rfl,?_⟩;refine hB (λo=>?_) (λo=>?_)
 ·rw[SL o]at a;cases p with
  |true=>
   rw[SL rfl]at a;walk_at"w";refine⟨.S,rfl,rfl,by decide,.inr ⟨_,rfl,?_⟩⟩;rw[show eqD (D.str (if true=true then Str.ofString "high" else Str.ofString "low")) (D.str (Str.ofString "high"))=true from HL];refine⟨_,_,_,.inr rfl,rfl,rfl,?_⟩;walk_at"w";refine⟨.S,rfl,rfl,by decide,.inr ⟨_,rfl,?_⟩⟩;rw[show eqD (D.str (if true=true then Str.ofString "high" else Str.ofString "low")) (D.str (Str.ofString "high"))=true from HL];exact⟨_,_,_,.inr rfl,rfl,rfl,hO,a⟩
  |false=>
   rw[Tk SU]at a;walk_at"w";refine⟨.S,rfl,rfl,by decide,.inr ⟨_,rfl,?_⟩⟩;rw[show eqD (D.str (if false=true then Str.ofString "high" else Str.ofString "low")) (D.str (Str.ofString "high"))=false from HM];refine⟨_,_,_,.inr rfl,rfl,rfl,?_⟩;walk_at"w";refine⟨.S,rfl,rfl,by decide,.inr ⟨_,rfl,?_⟩⟩;rw[show eqD (D.str (if false=true then Str.ofString "high" else Str.ofString "low")) (D.str (Str.ofString "high"))=false from HM];exact⟨_,_,_,.inr rfl,rfl,rfl,hO,a⟩
 rw[Tk o]at a;cases p with
 |true=>
  rw[SL rfl]at a;refine⟨_,rfl,.S,rfl,rfl,by decide,_,rfl,?_⟩;rw[show eqD (D.str (if true=true then Str.ofString "high" else Str.ofString "low")) (D.str (Str.ofString "low"))=false from Jv];exact⟨_,rfl,_,rfl,_,rfl,hO,a⟩
 |false=>
  rw[Tk SU]at a;refine⟨_,rfl,.S,rfl,rfl,by decide,_,rfl,?_⟩;rw[show eqD (D.str (if false=true then Str.ofString "high" else Str.ofString "low")) (D.str (Str.ofString "low"))=true from Jw];exact⟨_,rfl,_,rfl,_,rfl,hO,a⟩
theorem oQ :
  ca P w K mg base "_law_slope" ["_law_bag_here"] 5 (ck K 1 pL):=by
 refine dy Y.hI EY rfl (λ_ _ _ _ _ _ _ b=>⟨_,(aZ (i1 (bi (Ma B Y) b (hq 0 a9)) (fF (n:=2) rfl (b7 (cx 1 EY.nd) (b7 (cx 2 EY.nd) fq)))) (bB (cz (dO (aY (cu (g4 bt (cu bt (bi (iP B Y) b (hq 0 (aF bt a9))))) (ah 1)) (aY (ah 2) cd)))))),?_⟩);rintro g k h ⟨rfl,d⟩;refine cZ rfl ?_;walk_at"w";intro r a i e f;refine⟨_,rfl,rfl,_,_,rfl,_,_,rfl,rfl,?_⟩;walk_at"w";intro c j l;walk_at"w";obtain rfl|rfl:c=0\/c=1:=by lia
 ·exact d ((1-2*0)*r.1,r.2) (by show a8 ((1-2*0)*r.1) r.2;rw[show(1-2*0:Int)*r.1=r.1 by lia];exact a) (by show(1-2*0:Int)*r.1≠0;lia) (by show SB ((1-2*0)*r.1)<=10;rw[show(1-2*0:Int)*r.1=r.1 by lia];exact e) f
 exact d ((1-2*1)*r.1,r.2) (by show a8 ((1-2*1)*r.1) r.2;rw[show(1-2*1:Int)*r.1 = -r.1 by lia];exact⟨a.1,by rw[T5];exact a.2⟩) (by show(1-2*1:Int)*r.1≠0;lia) (by show SB ((1-2*1)*r.1)<=10;rw[show(1-2*1:Int)*r.1 = -r.1 by lia];exact TT e) f
theorem E' :
  ca P w K mg base "_law_pieces" ["_law_some_here"] 2 (ck K 1 pI):=by
 refine dy Y.g_ EZ rfl (λ_ _ _ _ _ _ _ q=>⟨_,(aZ (mI (i:=1) EZ.nd rfl (SH rfl) (gw cd)) (aZ (kK PassesOwn.never rfl (gx (ah 0)) (cx 2 EZ.nd) (bB (QY 1 (hn (ah 2) (p3 bt) (λ_ _=>rfl))))) (bB (GC 1)))),?_⟩);rintro r k j ⟨d,rfl,j,o⟩;refine cZ rfl ?_;have s:=zt;refine ix (λa=>a=[.val (.lst (d.map qK)),.own (.l ((((([]:List (ZK×ZM)).map λb=>b.2).flatten)).map bI)),.no]) ?_ (λN m=>⟨Td _,m _ rfl⟩);rintro a rfl;refine ix (λa=>∃c:aA,a=[.val (.lst (d.map qK)),.own (.l ((d.map λb=>b.2).flatten.map bI)),c]) ?_ (λN m=>?_)
 ·rintro a ⟨c,rfl⟩;exact⟨_,rfl,o⟩
 refine⟨_,rfl,_,rfl,?_⟩;refine qa (f:=qK) (rs:=d) (done:=[]) (λpre a=>∃c:aA,a=[.val (.lst (d.map qK)),.own (.l ((pre.map λb=>b.2).flatten.map bI)),c]) ⟨_,rfl⟩ ?_ (λa h=>?_);rotate_left
 ·obtain⟨c,rfl⟩:=h;exact m _ ⟨c,rfl⟩
 rintro pre x g a n ⟨c,rfl⟩ t p;rw[Tn]at n
 have u:(pre.map λb=>b.2).flatten.length+x.2.length<=400:=by
  rw[Xm,SM]
  have e:(pre.map λb=>b.2.length).sum+(x.2.length+(g.map λb=>b.2.length).sum)<=400:=by
   rw[n]at j;simpa using j
  have v:(VD (S6∘λb:ZK×ZM=>b.2) pre).sum=(pre.map λb=>b.2.length).sum:=rfl;lia
 refine⟨_,rfl,_,rfl,_,rfl,_,_,_,.inl rfl,rfl,r_ _ _,x.2.map bI,rfl,by rw[Sv,Sv];lia,?_⟩
 have e:(pre.map λb=>b.2).flatten.map bI++x.2.map bI=((pre++[x]).map λb=>b.2).flatten.map bI:=by
  rw[SE,Xn,SE];simp
 rw[e];exact p _ ⟨_,rfl⟩
theorem Mc :
  ca P w K mg base "_law_lent" ["_law_some_here"] 3 (ck K 1 pD):=by
 refine dy Y.iz pH rfl (λ_ _ _ _ _ _ _ e=>⟨_,(bB (cz (ea (kN (ts:=["_law_wide","_law_sheet_here"]) (fr:=[]) (js:=[]) (gx (ah 0)) (λ_ _ _ _=>(fF (n:=2) rfl (b7 (eW (i:=0) (show SW (["_law_wide","_law_sheet_here"]:ZS) by decide +kernel) rfl (SH rfl)) (b7 (eW (i:=1) (show SW (["_law_wide","_law_sheet_here"]:ZS) by decide +kernel) rfl (SH rfl)) fq)))) (λ_ _ _ _=>ij) (λ_ _ _ _=>(dO (aY (ah 0) (aY (bi (o1 B Y) e (aF (ah 1) a9)) cd)))) ⟨rfl,by decide +kernel,rfl,by decide +kernel,hH (S9 _),h3 rfl,by walk_at"ffr",rfl⟩)))),?_⟩);rintro p k g ⟨cs,rfl,g,j,l⟩;refine cZ rfl ?_;have q:5000<=TI:=by decide
 refine⟨_,rfl,_,rfl,by rw[Sv];lia,?_⟩;refine Er (f:=dC) (h:=dC) (I:=λd=>∃a b,d=[a,b]) (λc m d r i o=>?_) ⟨_,_,rfl⟩ l;obtain⟨a,b,rfl⟩:=i;exact⟨_,rfl,rfl,_,_,rfl,_,_,rfl,rfl,_,rfl,_,rfl,rfl,c.2,rfl,by have:=j c m;lia,e1,o _ ⟨_,_,rfl⟩⟩
theorem Md :
  ca P w K mg base "_law_some" ["_law_bag_here","_law_slope_here","_law_hand","_law_many","_law_cuts"] 7 (ck K 5 pC):=by
 refine dy Y.ie zd rfl (λ_ _ _ _ _ _ _ q=>⟨_,(aZ (mI (i:=5) zd.nd rfl (SH rfl) (gw cd)) (aZ (kK PassesOwn.never rfl (w6 (ah 3) (by rfl) B.fS) (cx 6 zd.nd) (aZ (cA 7 zd.nd (bi (Ma B Y) q (hq 0 a9))) (bB (kL 5 (dO (aY (ah 7) (aY (bi (rv B Y) q (hq 0 (aF (bi (Mb B Y) q (aF (ah 1) (aF (ah 2) (aF (ah 7) a9)))) (aF (ah 4) a9)))) cd))))))) (bB (GC 5)))),?_⟩);rintro S k T ⟨s,d,n,r,rfl,A,C,E,F,U,G,H⟩;refine cZ rfl ?_;have W:5000<=TI:=by decide
 refine⟨Td _,?_⟩;dsimp only;refine Lh (λl=>∃(cs:ZN)(f j:aA),l=[.bag,.val (dR s),.val (.str (if d=true then"high" else"low")),.val (.int n),.val (.int r),.own (cs.map dC),f,j]/\cs.length=n/\∀c∈cs,r8 s d c) (λN t=>?_) ?_;rotate_left
 ·rintro l ⟨cs,f,j,rfl,p,o⟩;exact⟨_,rfl,H cs p o⟩
 refine⟨_,rfl,_,rfl,by lia,by lia,?_⟩;rw[Wh];refine B6 (λi l=>∃(cs:ZN)(f j:aA),l=[.bag,.val (dR s),.val (.str (if d=true then"high" else"low")),.val (.int n),.val (.int r),.own (cs.map dC),f,j]/\cs.length=i/\∀c∈cs,r8 s d c) ⟨[],_,_,rfl,rfl,by simp⟩ ?_ (λl ⟨cs,f,j,e,p,o⟩=>t _ ⟨cs,f,j,e,by lia,o⟩);rintro i l I ⟨cs,f,j,rfl,p,o⟩ X t;have le:cs.length<8:=by lia
 refine⟨rfl,rfl,rfl,λw u v x y=>?_⟩;obtain⟨J,L,Z⟩:=sg A u C v E F (cf x) (cf y) d;have m:∀{z:Int}{a b:Nat},SB z<=a->a<=b->SB z<=b:=λh g=>Sx h g;refine⟨_,rfl,_,rfl,rfl,_,rfl,_,rfl,_,rfl,rfl,s,w,d,rfl,A,u,C,v,cf E,cf F,cf x,cf y,_,rfl,rfl,dh s d w,r,rfl,J,L,by lia,G,λsh M O Q=>?_⟩;refine⟨e1,by rw[Sv];lia,t _ ⟨cs++[(w,sh)],_,_,by rw[SE];rfl,by rw[Sz,p];rfl,λc R=>?_⟩⟩;rcases SO.mp R with z|z
 ·exact o c z
 rw[SQ.mp z];exact⟨u,v,x,y,M,O,Q⟩
theorem Fa :
  ca P w K mg base "_law_all_wide" ["_law_some_here"] 4 (ck K 1 pA):=by
 refine dy Y.gd v8 rfl (λ_ _ _ _ _ _ _ t=>⟨_,(aZ (cA 1 v8.nd (dO (aY bt (aY bt cd)))) (aZ (kK PassesOwn.never rfl (gx (ah 0)) (fF (n:=2) rfl (b7 (cx 2 v8.nd) (b7 (cx 3 v8.nd) fq))) (bB (cA 1 v8.nd (bi (v9 B Y) t (aF (gv (cu (ei 1) (ei 2)) (cu (ei 2) (ei 1))) (aF (cu (ei 1) (ei 2)) a9)))))) (bB (cz (ah 1))))),?_⟩);rintro E k u ⟨Q,cs,rfl,v,o,x,u,y⟩;refine cZ rfl ?_;have F:5000<=TI:=by decide
 refine⟨e1,?_⟩;dsimp only;refine ix (λd=>∃(g:F2)(a ah:aA),d=[.val (.lst (cs.map dC)),.val (dR g),a,ah]/\nt Q cs.length g/\bF g=e7 cs) ?_ (λN l=>?_)
 ·rintro d ⟨g,a,ah,rfl,b,h⟩;exact⟨_,rfl,y g b h⟩
 refine⟨_,rfl,_,rfl,?_⟩;refine yp (f:=λc:cV=>dR c.1) (g:=λc:cV=>.lst (c.2.map bI)) (rs:=cs) (done:=[]) (λpre d=>∃(g:F2)(a ah:aA),d=[.val (.lst (cs.map dC)),.val (dR g),a,ah]/\nt Q pre.length g/\bF g=e7 pre) ⟨(0,1),_,_,rfl,nt.zero,by show bF (0,1)=0;exact qA _⟩ ?_ (λd ⟨g,a,ah,e,b,h⟩=>l _ ⟨g,a,ah,e,b,h⟩);rintro pre c i d j ⟨g,a,ah,rfl,b,h⟩ G l;have j:cs=pre++c::i:=by simpa using j
 have m:=x c (by rw[j];simp);have z:pre.length<=16:=by have:=TW S6 j;rw[Sz,SK]at this;lia
 obtain⟨p,q⟩:=b.bits v o z;obtain⟨_,r,s⟩:=hM.bits m o;obtain⟨A,C⟩:=b.add m;have p:SB g.1<=1000:=cf p;have q:SB g.2<=1000:=cf q;have r:SB c.1.1<=1000:=cf r;have s:SB c.1.2<=1000:=cf s;walk_at"w";refine⟨_,_,rfl,SD b.1.1 m.1.1,by walk_at"bits",l _ ⟨_,_,_,rfl,by rw[Sz];exact A,?_⟩⟩;rw[C,h,r4,y5]
theorem oz :
  ca P w K mg base "greatest_divisor" ["one","other"] 2 (ck K 2 pz):=by
 refine dy Y.fM ze rfl (λ_ _ _ _ _ _ _ o=>⟨_,(aZ (cA 0 ze.nd (ra (ah 0) (by rfl) B.iO)) (aZ (cA 1 ze.nd (ra (ah 1) (by rfl) B.iO)) (aZ (Bz PassesOwn.never (g5 (f:=λi j => !decide (i=j)) q6 (ah 1) bt (dE _)) (bB (GD (i:=0) (j:=1) rfl ze.nd rfl rfl (by decide) rfl rfl (aY (ah 1) (aY (wZ (ah 0) (ah 1)) cd)) rfl))) (bB (cz (ah 0)))))),?_⟩);rintro p k q ⟨a,b,rfl,h⟩;refine cZ rfl ?_;walk_at"wd";refine⟨λm c=>∃(x y:Int),c=[.val (.int x),.val (.int y)]/\0<=x/\0<=y/\Ss x y=Ss a b/\m=y.toNat,⟨_,_,_,rfl,?_,?_,Gf a b,rfl⟩,?_⟩
 ·split<;>lia
 ·split<;>lia
 rintro m c ⟨x,y,rfl,d,l,e,rfl⟩;walk_at"wd";refine O0 (λg=>?_) (λg=>?_)
 ·have g:0<y:=by lia
  walk_at"wd";have n:=Ul x (show y≠0 by lia);have r:=Ut x g;exact⟨_,_,rfl,_,by lia,_,_,rfl,l,n,by rw[Ge d g];exact e,rfl⟩
 subst g;refine⟨_,rfl,?_⟩;rw[<-Gg d,e];exact h
theorem zl :
  ca P w K mg base "crossed" ["one","other"] 2 (ck K 2 pw):=by
 refine dy Y.jy se rfl (λ_ _ _ _ _ _ _ g=>⟨_,(aZ (i1 (ah 0) (fF (n:=3) rfl (b7 (cx 2 se.nd) (b7 (cx 3 se.nd) (b7 (cx 4 se.nd) fq))))) (aZ (i1 (ah 1) (fF (n:=3) rfl (b7 (cx 5 se.nd) (b7 (cx 6 se.nd) (b7 (cx 7 se.nd) fq))))) (bB (cz (dO (aY (g4 (cu (ah 3) (ah 7)) (cu (ah 4) (ah 6))) (aY (g4 (cu (ah 4) (ah 5)) (cu (ah 2) (ah 7))) (aY (g4 (cu (ah 2) (ah 6)) (cu (ah 3) (ah 5))) cd)))))))),?_⟩);rintro h k i ⟨p,q,rfl,d,e,f⟩;refine cZ rfl ?_;have j:=d.a;have l:=d.b;have m:=d.c;have o:=e.a;have r:=e.b;have s:=e.c;walk_at"w";refine⟨_,_,rfl,_,_,rfl,_,_,rfl,rfl,?_⟩;walk_at"w";refine⟨_,_,rfl,_,_,rfl,_,_,rfl,rfl,?_⟩;walk_at"w";exact f
theorem oJ :
  ca P w K mg base "hand_of" ["line","p"] 2 (ck K 2 pv):=by
 refine dy Y.jt LS rfl (λ_ _ _ _ _ _ _ m=>⟨_,(aZ (cA 2 LS.nd (gv (gv (cu (ei 0) (ei 1)) (cu (ei 0) (ei 1))) (cu (ei 0) (ei 1)))) (aZ (fc (g5 (f:=λi j=>decide (j<i)) pR (ah 2) bt (dE _)) (bB (cz bt)) fA) (aZ (fc (g5 (f:=λi j=>decide (i<j)) nJ (ah 2) bt (dE _)) (bB (cz (p3 bt))) fA) (bB (cz bt))))),?_⟩);rintro n k o ⟨c,r,rfl,e,h,d⟩;refine cZ rfl ?_;have p:=e.a;have q:=e.b;have s:=e.c;have t:=h.a;have u:=h.b;have v:=h.c;walk_at"wd";unfold cM at d;refine hB (λg=>?_) (λg=>?_)
 ·rwa[SL g]at d
 rw[Tk g]at d;walk_at"wd";refine hB (λl=>?_) (λl=>?_)
 ·rw[SL l]at d;walk_at"w";exact d
 rwa[Tk l]at d
theorem oI :
  ca P w K mg base "point" ["a","b","n"] 3 (ck K 3 pq):=by
 refine dy Y.kU E0 rfl (λ_ _ _ _ _ _ _ d=>⟨_,(aZ (fc (g5 (f:=λi j=>decide (i=j)) oN (ah 2) bt (dE _)) (bB GB) fA) (aZ (cA 3 E0.nd (bi (oz B Y) d (aF (bi (oz B Y) d (aF (ah 2) (aF (ah 0) a9))) (aF (ah 1) a9)))) (aZ (fc (g5 (f:=λi j=>decide (i<j)) nJ (ah 2) bt (dE _)) (bB (cA 3 E0.nd (p3 (ah 3)))) fA) (bB (cz (dO (aY (fE (ah 0) (ah 3)) (aY (fE (ah 1) (ah 3)) (aY (fE (ah 2) (ah 3)) cd))))))))),?_⟩);rintro p k q ⟨a,b,n,rfl,c,m,o⟩;refine cZ rfl ?_;walk_at"wd";refine hB (λg=>absurd g c) (λ_=>?_);walk_at"w";refine⟨_,_,rfl,?_⟩;walk_at"w";refine⟨_,_,rfl,?_⟩;dsimp only[mH];have r:=Hd (a:=a) (b:=b) c;have e:=He (a:=a) (b:=b) c m;rw[Q0 a b n];refine ix (λh=>h=[.val (.int a),.val (.int b),.val (.int n),.val (.int (lr a b n))]) ?_ (λN l=>?_)
 ·rintro h rfl;have s:lr a b n≠0:=by unfold lr;split<;>lia
  have t:SB (lr a b n)<=9000:=by
   unfold lr;split
   ·exact TT e
   exact e
  walk_at"w";exact o
 walk_at"wd";refine hB (λg=>?_) (λg=>?_)
 ·walk_at"w";refine l _ ?_;unfold lr;rw[SL g];rfl
 refine l _ ?_;unfold lr;rw[Tk g];rfl
theorem oH :
  ca P w K mg base "meet" ["p","q","r","s"] 4 (ck K 4 pe):=by
 refine dy Y.l_ zf rfl (λ_ _ _ _ _ _ _ a=>⟨_,(aZ (i1 (bi (zl B Y) a (aF (bi (zl B Y) a (aF (ah 0) (aF (ah 1) a9))) (aF (bi (zl B Y) a (aF (ah 2) (aF (ah 3) a9))) a9))) (fF (n:=3) rfl (b7 (cx 4 zf.nd) (b7 (cx 5 zf.nd) (b7 (cx 6 zf.nd) fq))))) (aZ (fc (g5 (f:=λi j=>decide (i=j)) oN (ah 6) bt (dE _)) (bB GB) fA) (bB (cz (bi (oI B Y) a (aF (ah 4) (aF (ah 5) (aF (ah 6) a9)))))))),?_⟩);rintro C k E ⟨p,q,r,s,rfl,e,h,l,o,b,v⟩;refine cZ rfl ?_;have t:=e.crs h;have u:=l.crs o;have A:=t.crs u;refine⟨_,rfl,_,rfl,rfl,p,q,rfl,e.mono (by decide),h.mono (by decide),_,rfl,_,rfl,rfl,r,s,rfl,l.mono (by decide),o.mono (by decide),rfl,_,_,rfl,t.mono (by decide),u.mono (by decide),?_⟩;generalize a_ (a_ p q) (a_ r s)=m at *;obtain⟨x,y,z⟩:=m;have b:z≠0:=b;have d:SB z<=9000:=cf A.c;refine⟨_,rfl,rfl,_,_,rfl,_,_,rfl,_,_,rfl,rfl,?_⟩;walk_at"wd";refine hB (λg=>absurd g b) (λ_=>?_);exact⟨_,rfl,_,rfl,_,rfl,rfl,x,y,z,rfl,b,d,v⟩
theorem oG :
  ca P w K mg base "cut_ring" ["ring","p","q"] 5 (ck K 3 o_):=by
 refine dy Y.iJ pF rfl (λ_ _ _ _ _ _ _ t=>⟨_,(aZ (w4 (i:=3) pF.nd rfl (Um rfl) (bi (zl B Y) t (aF (ah 1) (aF (ah 2) a9)))) (aZ (uG 5 (uF (i:=5) pF.nd rfl rfl (ts:=["corner"]) (fr:=["line"]) (js:=[3]) (gx (ah 0)) (λ_ _ _ _=>(eW (i:=0) (show SW (["corner","line"]:ZS) by decide +kernel) rfl (SH rfl))) (λ_ _ _ _=>ij) (λ_ _ _ _=>(bi (oJ B Y) t (aF (ah 1) (aF (ah 0) a9)))) ⟨rfl,by decide +kernel,rfl,by decide +kernel,hH (TC.mpr ⟨rfl,(S9 _)⟩),h3 rfl,by walk_at"ffr",rfl⟩)) (aZ (mI (i:=6) pF.nd rfl (SH rfl) (gw cd)) (aZ (mI (i:=7) pF.nd rfl (SH rfl) (gw cd)) (aZ (Sq PassesOwn.never rfl (ah 0) (by rfl) B.iK (fF (n:=2) rfl (b7 (cx 8 pF.nd) (b7 (cx 4 pF.nd) fq))) (aZ (fc (g5 (f:=λi j=>decide (j<=i)) wC (hn (ah 5) (ah 8) (λ_ _=>rfl)) bt (dE _)) (bB (kL 6 (ah 4))) fA) (aZ (fc (g5 (f:=λi j=>decide (i<=j)) N2 (hn (ah 5) (ah 8) (λ_ _=>rfl)) bt (dE _)) (bB (kL 7 (ah 4))) fA) (aZ (cA 9 pF.nd (wZ (gv (ah 8) bt) (j6 (ah 0) (by rfl) B.fC))) (bB (fc (g5 (f:=λi j=>decide (i<j)) nJ (cu (hn (ah 5) (ah 8) (λ_ _=>rfl)) (hn (ah 5) (ah 9) (λ_ _=>rfl))) bt (dE _)) (aZ (cA 10 pF.nd (bi (oH B Y) t (aF (ah 1) (aF (ah 2) (aF (ah 4) (aF (hn (ah 0) (ah 9) (λ_ _=>rfl)) a9)))))) (aZ (kL 6 (ah 10)) (bB (kL 7 (ah 10))))) fA)))))) (kI 7 (kI 6 (bB (cz (dO (aY (l0 (GQ (t.units) bt (ah 5) (by rfl)) (ah 6) (ea (gw cd))) (aY (l0 (GQ (t.units) (p3 bt) (ah 5) (by rfl)) (ah 7) (ea (gw cd))) cd)))))))))))),?_⟩);rintro ag k y ⟨ps,p,q,rfl,A,C,v,y,m⟩;refine cZ rfl ?_;have Z:=(A.crs C).mono (show 300+300+1<=700 by decide);refine⟨_,rfl,_,rfl,rfl,p,q,rfl,A.mono (by decide),C.mono (by decide),_,rfl,_,rfl,by rw[Sv];exact cf y,?_⟩;refine mW (f:=aR) (h:=λc=>D.int (cM (ln (a_ p q) c))) (fs:=[.val (aR (a_ p q))]) (λr t aj h1=>⟨_,rfl,_,rfl,rfl,a_ p q,r,rfl,Z.mono (by decide),(v r t).1.mono (by decide),h1⟩) ?_;refine⟨_,rfl,?_⟩;walk_at"wd";have S:ps.headD (ps.headD (0,0,1))=ps.headD (0,0,1):=by cases ps<;>rfl
 refine Ie (f:=aR) (done:=[]) (λpre o=>∃E F u b rest,ps=pre++rest/\o=[.val (.lst (ps.map aR)),.val (aR p),.val (aR q),.val (aR (a_ p q)),E,.val (.lst (ps.map λc=>D.int (cM (ln (a_ p q) c)))),.own ((dw (ln (a_ p q)) (a0 (a_ p q)) pre (rest.headD (ps.headD (0,0,1)))).map aR),.own ((dw (λc => -ln (a_ p q) c) (a0 (a_ p q)) pre (rest.headD (ps.headD (0,0,1)))).map aR),F,u,b]) ⟨_,_,_,_,ps,rfl,rfl⟩ ?_ ?_
 ·rintro pre c rest o l ⟨E,F,u,b,G,H,rfl⟩ N s;have l:ps=pre++c::rest:=by simpa using l
  have J:G=c::rest:=by rw[H]at l;exact Xo l
  subst J;have L:c∈ps:=by rw[l];simp
  have M:eB (ps.map λc=>D.int (cM (ln (a_ p q) c))) (pre.length:Int)=some (D.int (cM (ln (a_ p q) c))):=by
   have:=DG (h:=λc=>D.int (cM (ln (a_ p q) c))) (pre:=pre) (rest:=rest) (c:=c);rwa[<-l]at this
  have aa:=Ij (h:=λc=>D.int (cM (ln (a_ p q) c))) l S;have O:=Ij (h:=aR) l S;show oV _ _ _ [.val (.lst (ps.map aR)),.val (aR p),.val (aR q),.val (aR (a_ p q)),.val (aR c),.val (.lst (ps.map λc=>D.int (cM (ln (a_ p q) c)))),.own ((dw (ln (a_ p q)) (a0 (a_ p q)) pre c).map aR),.own ((dw (λc => -ln (a_ p q) c) (a0 (a_ p q)) pre c).map aR),.val (.int pre.length),u,b]
  have ao:pre.length<=1000:=by rw[l,Sz]at y;lia
  have aq:=CK (f:=ln (a_ p q)) (mt:=a0 (a_ p q)) (ps:=pre) (w:=c);have au:=CK (f:=λc => -ln (a_ p q) c) (mt:=a0 (a_ p q)) (ps:=pre) (w:=c);have av:5000<=TI:=by decide
  refine ix (λo=>o=[.val (.lst (ps.map aR)),.val (aR p),.val (aR q),.val (aR (a_ p q)),.val (aR c),.val (.lst (ps.map λc=>D.int (cM (ln (a_ p q) c)))),.own ((dw (ln (a_ p q)) (a0 (a_ p q)) pre c++kp (ln (a_ p q)) c).map aR),.own ((dw (λc => -ln (a_ p q) c) (a0 (a_ p q)) pre c).map aR),.val (.int pre.length),u,b]) ?_ (λN s=>?_);rotate_left
  ·refine⟨_,rfl,_,rfl,_,_,_,.inr rfl,rfl,M,_,_,rfl,rfl,_,rfl,hB (λg=>?_) (λg=>?_)⟩
   ·refine⟨_,rfl,_,rfl,by rw[Sv];lia,s _ ?_⟩;rw[Il (Ih.mp g),SE];rfl
   refine s _ ?_;rw[Im (λz=>g (Ih.mpr z)),SR]
  rintro o rfl;refine ix (λo=>o=[.val (.lst (ps.map aR)),.val (aR p),.val (aR q),.val (aR (a_ p q)),.val (aR c),.val (.lst (ps.map λc=>D.int (cM (ln (a_ p q) c)))),.own ((dw (ln (a_ p q)) (a0 (a_ p q)) pre c++kp (ln (a_ p q)) c).map aR),.own ((dw (λc => -ln (a_ p q) c) (a0 (a_ p q)) pre c++kp (λc => -ln (a_ p q) c) c).map aR),.val (.int pre.length),u,b]) ?_ (λN s=>?_);rotate_left
  ·refine⟨_,rfl,_,rfl,_,_,_,.inr rfl,rfl,M,_,_,rfl,rfl,_,rfl,hB (λg=>?_) (λg=>?_)⟩
   ·refine⟨_,rfl,_,rfl,by rw[Sv];lia,s _ ?_⟩;rw[Il (f:=λc => -ln (a_ p q) c) (c:=c) (by have:=Ii.mp g;show 0 <= -ln (a_ p q) c;lia),SE (l₂:=[c])];rfl
   refine s _ ?_;rw[Im (f:=λc => -ln (a_ p q) c) (c:=c) (λz=>g (Ii.mpr (by have z:0 <= -ln (a_ p q) c:=z;lia))),SR]
  rintro o rfl;have posQz:(0:Int)<((ps.map aR).length:Int):=by rw[Sv,l,Sz,SK];lia
  refine⟨_,rfl,_,_,rfl,rfl,_,rfl,_,rfl,_,_,rfl,rfl,posQz,?_⟩;rw[Sv];have aw:(kp (ln (a_ p q)) c).length<=1:=by unfold kp;split<;>simp
  have ax:(kp (λc => -ln (a_ p q) c) c).length<=1:=by unfold kp;split<;>simp
  refine⟨_,rfl,_,rfl,_,_,_,.inr rfl,rfl,M,_,rfl,_,rfl,_,_,_,.inr rfl,rfl,aa,_,_,rfl,rfl,⟨Ik _,Ik _⟩,_,_,rfl,rfl,_,rfl,hB (λg=>?_) (λg=>?_)⟩
  ·have lt:=Ig.mp g
   have T:rest.headD (ps.headD (0,0,1))∈ps:=by
    cases rest with
    |nil=>
     cases ps with
     |nil=>cases L
     |cons a r=>exact Sw
    |cons d rest=>rw[l];simp
   have U:=(v c L).2;have W:=(v _ T).2;refine⟨_,rfl,_,rfl,_,rfl,_,rfl,_,rfl,_,_,_,.inr rfl,rfl,O,rfl,p,q,c,rest.headD (ps.headD (0,0,1)),rfl,A.mono (by decide),C.mono (by decide),(v c L).1.mono (by decide),(v _ T).1.mono (by decide),n9 U W lt,?_⟩;rw[n8 U W];refine⟨_,rfl,_,rfl,by rw[Sv,Sz];lia,_,rfl,_,rfl,by rw[Sv,Sz];lia,s _ ⟨.val (aR c),.val (.int pre.length),.val (.int (((pre.length:Int)+1)%(ps.length:Int))),.val (aR (a0 (a_ p q) c (rest.headD (ps.headD (0,0,1))))),rest,by rw[l];simp,?_⟩⟩;rw[xW,xW,mZ lt,mZ (f:=λc => -ln (a_ p q) c) (by rw[Ur];exact lt),SE (l₂:=[a0 (a_ p q) c (rest.headD (ps.headD (0,0,1)))]),SE (l₂:=[a0 (a_ p q) c (rest.headD (ps.headD (0,0,1)))])];rfl
  refine s _ ⟨.val (aR c),.val (.int pre.length),.val (.int (((pre.length:Int)+1)%(ps.length:Int))),b,rest,by rw[l];simp,?_⟩;have nl:¬ln (a_ p q) c*ln (a_ p q) (rest.headD (ps.headD (0,0,1)))<0:=λz=>g (Ig.mpr z);rw[xW,xW,l8 nl,l8 (by rw[Ur];exact nl),SR,SR];rfl
 rintro o ⟨E,F,u,b,rest,H,rfl⟩
 have J:rest=[]:=by
  have:ps++[]=ps++rest:=by rw[SR];exact H
  exact(Xo this).symm
 subst J
 have Q:∀e∈ps.map (λc=>D.int (cM (ln (a_ p q) c))),has .I e=true:=λe hi=>by
  obtain⟨_,_,rfl⟩:=SJ.mp hi;rfl
 refine⟨_,rfl,_,rfl,_,rfl,.I,_,.inl rfl,rfl,Q,by decide,λaf X=>⟨_,rfl,?_⟩⟩;cases af with
 |true=>
  rw[yb (Io.mp (X.mp rfl))]at m;refine nX rfl ⟨_,rfl,?_⟩;refine⟨_,rfl,_,rfl,.I,_,.inl rfl,rfl,Q,by decide,λR x=>⟨_,rfl,?_⟩⟩;cases R with
  |true=>
   rw[yb (yc.mpr (xX.mp (x.mp rfl)))]at m;exact nX rfl ⟨_,rfl,e1,m⟩
  |false=>
   rw[CY (λz=>SU (x.mpr (xX.mpr (yc.mp z))))]at m;exact mO rfl ⟨wf,e1,m⟩
 |false=>
  rw[CY (λz=>SU (X.mpr (Io.mpr z)))]at m;refine mO rfl ⟨wf,?_⟩;refine⟨_,rfl,_,rfl,.I,_,.inl rfl,rfl,Q,by decide,λR x=>⟨_,rfl,?_⟩⟩;cases R with
  |true=>
   rw[yb (yc.mpr (xX.mp (x.mp rfl)))]at m;exact nX rfl ⟨_,rfl,e1,m⟩
  |false=>
   rw[CY (λz=>SU (x.mpr (xX.mpr (yc.mp z))))]at m;exact mO rfl ⟨wf,e1,m⟩
theorem Mg :
  ca P w K mg base "cut_sheet" ["sheet","p","q"] 6 (ck K 3 o'):=by
 refine dy Y.hU qN rfl (λ_ _ _ _ _ _ _ r=>⟨_,(aZ (mI (i:=3) qN.nd rfl (SH rfl) (gw cd)) (aZ (mI (i:=4) qN.nd rfl (SH rfl) (gw cd)) (aZ (kK PassesOwn.never rfl (gx (ah 0)) (fF (n:=3) rfl (b7 (cx 5 qN.nd) (b7 (cx 6 qN.nd) (b7 (cx 7 qN.nd) fq)))) (aZ (i1 (bi (oG B Y) r (aF (ah 5) (aF (ah 1) (aF (ah 2) a9)))) (fF (n:=2) rfl (b7 (cx 8 qN.nd) (b7 (cx 9 qN.nd) fq)))) (aZ (fc (CN (ah 8)) (bB (kL 3 (dO (aY (ah 8) (aY (ah 6) (aY (ah 7) cd)))))) fA) (bB (fc (CN (ah 9)) (bB (kL 4 (dO (aY (ah 9) (aY (ah 6) (aY (ah 7) cd)))))) fA))))) (kI 4 (kI 3 (bB (cz (dO (aY (ah 3) (aY (ah 4) cd)))))))))),?_⟩);rintro A k s ⟨sh,p,q,rfl,t,u,v,y,s,z⟩;refine cZ rfl ?_;have C:5000<=TI:=by decide
 walk_at"wd";refine HI (done:=[]) (λpre a=>∃g h j l m,a=[.val (.lst (sh.map bI)),.val (aR p),.val (aR q),.own ((dH (ln (a_ p q)) (a0 (a_ p q)) pre).map bI),.own ((dH (λc => -ln (a_ p q) c) (a0 (a_ p q)) pre).map bI),g,h,j,l,m]) ⟨_,_,_,_,_,rfl⟩ ?_ ?_
 ·rintro pre x b a e ⟨g,h,j,l,m,rfl⟩ N d;have e:sh=pre++x::b:=by simpa using e
  have o:x∈sh:=by rw[e];simp
  have E:pre.length<1000:=by have:=TW S6 e;simp at this;lia
  have F:=s6 (f:=ln (a_ p q)) (mt:=a0 (a_ p q)) pre;have G:=s6 (f:=λc => -ln (a_ p q) c) (mt:=a0 (a_ p q)) pre;refine⟨_,rfl,_,rfl,_,rfl,rfl,x.1,p,q,rfl,t,u,v x o,y x o,_,rfl,rfl,_,_,rfl,_,_,rfl,rfl,?_⟩;show oV (Bw (CM (jF 8)) (BD 3 (uj (mF (jF 8) (mF (jF 6) (mF (jF 7) sL))))) w3) (Bw (CM (jF 9)) (BD 4 (uj (mF (jF 9) (mF (jF 6) (mF (jF 7) sL))))) w3) _ [.val (.lst (sh.map bI)),.val (aR p),.val (aR q),.own ((dH (ln (a_ p q)) (a0 (a_ p q)) pre).map bI),.own ((dH (λc => -ln (a_ p q) c) (a0 (a_ p q)) pre).map bI),.val (.lst (x.1.map aR)),.val (.bl x.2.1),.val (aR x.2.2),.val (.lst ((df (ln (a_ p q)) (a0 (a_ p q)) x.1).map aR)),.val (.lst ((df (λc => -ln (a_ p q) c) (a0 (a_ p q)) x.1).map aR))]
  refine ix (λa=>a=[.val (.lst (sh.map bI)),.val (aR p),.val (aR q),.own ((dH (ln (a_ p q)) (a0 (a_ p q)) (pre++[x])).map bI),.own ((dH (λc => -ln (a_ p q) c) (a0 (a_ p q)) pre).map bI),.val (.lst (x.1.map aR)),.val (.bl x.2.1),.val (aR x.2.2),.val (.lst ((df (ln (a_ p q)) (a0 (a_ p q)) x.1).map aR)),.val (.lst ((df (λc => -ln (a_ p q) c) (a0 (a_ p q)) x.1).map aR))]) ?_ (λN d=>?_);rotate_left
  ·refine⟨_,rfl,_,rfl,?_⟩;cases c:(df (ln (a_ p q)) (a0 (a_ p q)) x.1).isEmpty with
   |false=>
    refine nX (by rw[U9,c];rfl) ?_;refine⟨_,rfl,_,rfl,_,rfl,_,rfl,hO,by rw[Sv];lia,d _ ?_⟩;rw[u9,x8 c,SE];rfl
   |true=>
    refine mO (by rw[U9,c];rfl) (d _ ?_);rw[u9,x9 c,SR]
  rintro a rfl;refine⟨_,rfl,_,rfl,?_⟩;cases c:(df (λc => -ln (a_ p q) c) (a0 (a_ p q)) x.1).isEmpty with
  |false=>
   refine nX (by rw[U9,c];rfl) ?_;refine⟨_,rfl,_,rfl,_,rfl,_,rfl,hO,by rw[Sv];lia,d _ ⟨.val (.lst (x.1.map aR)),.val (.bl x.2.1),.val (aR x.2.2),.val (.lst ((df (ln (a_ p q)) (a0 (a_ p q)) x.1).map aR)),.val (.lst ((df (λc => -ln (a_ p q) c) (a0 (a_ p q)) x.1).map aR)),?_⟩⟩;rw[u9 (f:=λc => -ln (a_ p q) c),x8 c,SE (l₂:=[(df (λc => -ln (a_ p q) c) (a0 (a_ p q)) x.1,x.2)])];rfl
  |true=>
   refine mO (by rw[U9,c];rfl) (d _ ⟨.val (.lst (x.1.map aR)),.val (.bl x.2.1),.val (aR x.2.2),.val (.lst ((df (ln (a_ p q)) (a0 (a_ p q)) x.1).map aR)),.val (.lst ((df (λc => -ln (a_ p q) c) (a0 (a_ p q)) x.1).map aR)),?_⟩);rw[u9 (f:=λc => -ln (a_ p q) c),x9 c,SR]
 rintro a ⟨g,h,j,l,m,rfl⟩;exact⟨_,rfl,_,rfl,_,rfl,_,rfl,e1,z⟩
theorem si :
  ca P w K mg base "at" ["x","y"] 3 (ck K 2 rq):=by
 refine dy Y.nD LU rfl (λ_ _ _ _ _ _ _ l=>⟨_,(aZ (cA 2 LU.nd (bi (oz B Y) l (aF (qe (ah 0) bt (λ_ _=>rfl)) (aF (qe (ah 1) bt (λ_ _=>rfl)) a9)))) (bB (cz (dO (aY (cu (qe (ah 0) bt (λ_ _=>rfl)) (fE (qe (ah 1) bt (λ_ _=>rfl)) (ah 2))) (aY (cu (qe (ah 1) bt (λ_ _=>rfl)) (fE (qe (ah 0) bt (λ_ _=>rfl)) (ah 2))) (aY (cu (fE (qe (ah 0) bt (λ_ _=>rfl)) (ah 2)) (qe (ah 1) bt (λ_ _=>rfl))) cd))))))),?_⟩);rintro o k p ⟨q,r,x,y,u,v,rfl,c,d,m,g,A,n,C,h,i⟩;refine cZ rfl ?_;have j:v≠0:=Sy g.1;have E:=q7 (t:=y) (b:=v) j;have e:=o2 (a:=y) (b:=v) j h;rw[<-RJ m g]at i;refine⟨_,rfl,_,_,_,c,rfl,rfl,_,rfl,_,_,_,d,rfl,rfl,rfl,_,_,rfl,?_⟩;generalize((Ss y v:Nat):Int)=s at *;have F:SB (v.fdiv s)<=4000:=fW (Xw _ _) h;have G:SB (y.fdiv s)<=4000:=fW (Xw _ _) n;have f:∀z:Int,SB s<=9000->wP z s:=λz _=>⟨by lia,cf e⟩;refine⟨_,rfl,_,_,_,c,rfl,rfl,_,rfl,_,_,_,d,rfl,rfl,_,rfl,_,_,rfl,rfl,f _ (cf e),_,_,rfl,rfl,⟨by walk_at"bits",by walk_at"bits"⟩,_,rfl,_,_,_,d,rfl,rfl,_,rfl,_,_,_,c,rfl,rfl,_,rfl,_,_,rfl,rfl,f _ (cf e),_,_,rfl,rfl,⟨by walk_at"bits",by walk_at"bits"⟩,_,rfl,_,_,_,c,rfl,rfl,_,rfl,_,_,rfl,rfl,f _ (cf e),_,rfl,_,_,_,d,rfl,rfl,_,_,rfl,rfl,⟨by walk_at"bits",by walk_at"bits"⟩,hO,?_⟩;exact i
theorem oF :
  ca P w K mg base "cut_upright" ["sheet","place"] 7 (ck K 2 ro):=by
 refine dy Y.gD rp rfl (λ_ _ _ _ _ _ _ b=>⟨_,(bB (cz (bi (Mg B Y) b (aF (ah 0) (aF (bi (si B Y) b (aF (ah 1) (aF (dO (aY bt (aY bt cd))) a9))) (aF (bi (si B Y) b (aF (ah 1) (aF (dO (aY bt (aY bt cd))) a9))) a9)))))),?_⟩);rintro s k f ⟨sh,x,rfl,a,c,d,l,m,f,o⟩;refine cZ rfl ?_;have g:a8 0 1:=⟨by decide,by decide⟩;have h:a8 1 1:=⟨by decide,by decide⟩;have p:SB 0<=4000:=by decide
 have e:SB 1<=4000:=by decide
 have i:SB x.1<=4000:=cf c;have j:SB x.2<=4000:=cf d;have q:cH 300 (cl (x.1*1) (0*x.2) (x.2*1)):=(me (n:=10) c d (by decide) (by decide) a g).mono (by decide);have r:cH 300 (cl (x.1*1) (1*x.2) (x.2*1)):=(me (n:=10) c d (by decide) (by decide) a h).mono (by decide);exact⟨_,rfl,_,rfl,e1,rfl,_,_,x.1,x.2,0,1,rfl,rfl,rfl,a,g,i,j,p,e,_,rfl,e1,rfl,_,_,x.1,x.2,1,1,rfl,rfl,rfl,a,h,i,j,e,e,rfl,sh,_,_,rfl,q,r,l,m,f,o⟩
theorem oC :
  ca P w K mg base "cut_level" ["sheet","height"] 7 (ck K 2 rn):=by
 refine dy Y.hV E1 rfl (λ_ _ _ _ _ _ _ b=>⟨_,(aZ (i1 (bi (Mg B Y) b (aF (ah 0) (aF (bi (si B Y) b (aF (dO (aY bt (aY bt cd))) (aF (ah 1) a9))) (aF (bi (si B Y) b (aF (dO (aY bt (aY bt cd))) (aF (ah 1) a9))) a9)))) (fF (n:=2) rfl (b7 (cx 2 E1.nd) (b7 (cx 3 E1.nd) fq)))) (bB (cz (dO (aY (ah 3) (aY (ah 2) cd)))))),?_⟩);rintro t k f ⟨sh,x,rfl,a,c,d,l,o,f,p⟩;refine cZ rfl ?_;have g:a8 0 1:=⟨by decide,by decide⟩;have h:a8 1 1:=⟨by decide,by decide⟩;have q:SB 0<=4000:=by decide
 have e:SB 1<=4000:=by decide
 have i:SB x.1<=4000:=cf c;have j:SB x.2<=4000:=cf d;have r:cH 300 (cl (0*x.2) (x.1*1) (1*x.2)):=(me (m:=10) (by decide) (by decide) c d g a).mono (by decide);have s:cH 300 (cl (1*x.2) (x.1*1) (1*x.2)):=(me (m:=10) (by decide) (by decide) c d h a).mono (by decide);exact⟨_,rfl,e1,_,rfl,rfl,_,_,0,1,x.1,x.2,rfl,rfl,rfl,g,a,q,e,i,j,e1,_,rfl,rfl,_,_,1,1,x.1,x.2,rfl,rfl,rfl,h,a,e,e,i,j,rfl,sh,_,_,rfl,r,s,l,o,f,_,rfl,rfl,_,_,rfl,_,_,rfl,rfl,_,rfl,_,rfl,e1,p⟩
theorem Mh :
  ca P w K mg base "slid" ["p","step"] 3 (ck K 2 rm):=by
 refine dy Y.l9 nv rfl (λ_ _ _ _ _ _ _ i=>⟨_,(aZ (i1 (ah 0) (fF (n:=3) rfl (b7 (cx 2 nv.nd) (b7 (cx 3 nv.nd) (b7 (cx 4 nv.nd) fq))))) (aZ (i1 (ah 1) (fF (n:=3) rfl (b7 (cx 5 nv.nd) (b7 (cx 6 nv.nd) (b7 (cx 7 nv.nd) fq))))) (aZ (cA 8 nv.nd (bi (oz B Y) i (aF (ah 4) (aF (ah 7) a9)))) (aZ (cA 9 nv.nd (gv (cu (ah 2) (fE (ah 7) (ah 8))) (cu (ah 5) (fE (ah 4) (ah 8))))) (aZ (cA 10 nv.nd (gv (cu (ah 3) (fE (ah 7) (ah 8))) (cu (ah 6) (fE (ah 4) (ah 8))))) (aZ (cA 11 nv.nd (bi (oz B Y) i (aF (bi (oz B Y) i (aF (ah 8) (aF (ah 9) a9))) (aF (ah 10) a9)))) (bB (cz (dO (aY (fE (ah 9) (ah 11)) (aY (fE (ah 10) (ah 11)) (aY (cu (fE (ah 4) (ah 8)) (fE (ah 7) (ah 11))) cd)))))))))))),?_⟩);rintro L k M ⟨p,g,rfl,q,j,u,l,h⟩;refine cZ rfl ?_;obtain⟨a,b,n⟩:=p;obtain⟨r,w,m⟩:=g;have C:SB a<=3000:=j.a;have E:SB b<=3000:=j.b;have F:SB n<=3000:=j.c;have G:SB r<=1000:=l.a;have H:SB w<=1000:=l.b;have o:SB m<=1000:=l.c;have N:n≠0:=Sy q.1;have v:m≠0:=Sy u.1;have x:=q7 (t:=n) (b:=m) v;have I:=o2 (a:=n) (b:=m) v o;have f:=λX Y d=>RK (a:=a) (b:=b) (n:=n) (r:=r) (w:=w) (m:=m) q u (s:=((Ss n m:Nat):Int)) (X:=X) (Y:=Y) (d:=d) rfl;have h:k (.val (aR (cl (a*m+r*n) (b*m+w*n) (n*m)))):=h;refine⟨_,rfl,_,rfl,rfl,_,_,rfl,_,_,rfl,_,_,rfl,rfl,?_⟩;refine⟨_,rfl,_,rfl,rfl,_,_,rfl,_,_,rfl,_,_,rfl,rfl,?_⟩;walk_at"w";refine⟨_,_,rfl,?_⟩;dsimp only[mH];generalize((Ss n m:Nat):Int)=s at *;have y:SB (m.fdiv s)<=1000:=fW (Xw _ _) o;have z:SB (n.fdiv s)<=3000:=fW (Xw _ _) F;have O:SB (a*m.fdiv s+r*n.fdiv s)<=4001:=XC (TD C y) (TD G z);have Q:SB (b*m.fdiv s+w*n.fdiv s)<=4001:=XC (TD E y) (TD H z);have f:=λd=>f _ _ d rfl rfl;walk_at"w";refine⟨_,_,rfl,?_⟩;dsimp only[mH];walk_at"w";refine⟨_,_,rfl,?_⟩;dsimp only[mH];generalize a*m.fdiv s+r*n.fdiv s=X at *;generalize b*m.fdiv s+w*n.fdiv s=Y at *;have f:=f _ rfl;have A:=n2 (a:=s) (b:=X) (.inl (Sy x))
 have J:SB ((Ss s X:Nat):Int)<=1000:=by
  rw[TY];exact o2 (Sy x) I
 generalize((Ss s X:Nat):Int)=e at *;have R:=n2 (a:=e) (b:=Y) (.inl (Sy A))
 have S:SB ((Ss e Y:Nat):Int)<=1000:=by
  rw[TY];exact o2 (Sy A) J
 generalize((Ss e Y:Nat):Int)=d at *;have T:SB (m.fdiv d)<=1000:=fW (Xw _ _) o;rw[<-f]at h;walk_at"w";exact h
theorem Ff :
  ca P w K mg base "moved" ["sheet","step"] 4 (ck K 2 rk):=by
 refine dy Y.kW rl rfl (λ_ _ _ _ _ _ _ a=>⟨_,(bB (cz (ea (kN (ts:=["ring","is_turned","elder_step"]) (fr:=["step"]) (js:=[1]) (gx (ah 0)) (λ_ _ _ _=>(fF (n:=3) rfl (b7 (eW (i:=0) (show SW (["ring","is_turned","elder_step","step"]:ZS) by decide +kernel) rfl (SH rfl)) (b7 (eW (i:=1) (show SW (["ring","is_turned","elder_step","step"]:ZS) by decide +kernel) rfl (SH rfl)) (b7 (eW (i:=2) (show SW (["ring","is_turned","elder_step","step"]:ZS) by decide +kernel) rfl (SH rfl)) fq))))) (λ_ _ _ _=>ij) (λ_ _ _ _=>(dO (aY (ea (kN (ts:=["corner"]) (fr:=["step"]) (js:=[3]) (gx (ah 0)) (λ_ _ _ _=>(eW (i:=0) (show SW (["corner","step"]:ZS) by decide +kernel) rfl (SH rfl))) (λ_ _ _ _=>ij) (λ_ _ _ _=>(bi (Mh B Y) a (aF (ah 0) (aF (ah 1) a9)))) ⟨rfl,by decide +kernel,rfl,by decide +kernel,hH (TC.mpr ⟨rfl,(S9 _)⟩),h3 rfl,by walk_at"ffr",rfl⟩)) (aY (ah 1) (aY (bi (Mh B Y) a (aF (ah 2) (aF (ah 3) a9))) cd))))) ⟨rfl,by decide +kernel,rfl,by decide +kernel,hH (TC.mpr ⟨rfl,(S9 _)⟩),h3 rfl,by walk_at"ffr",rfl⟩)))),?_⟩);rintro q k d ⟨sh,g,rfl,d,e,b,j⟩;refine cZ rfl ?_;have t:1000<=TI:=by decide
 refine⟨_,rfl,_,rfl,by rw[Sv];lia,?_⟩;refine xG (h:=λs=>bI (l7 g s)) (fs:=[.val (aR g)]) (λs c u m=>?_) (by rwa[SM]at j);have l:=e s c;have ln:=l.ln;refine⟨_,rfl,_,rfl,by rw[Sv];lia,?_⟩;refine mW (f:=aR) (h:=λp=>aR (nP (ee g p))) (fs:=[.val (aR g)]) (λr a v o=>⟨_,rfl,_,rfl,rfl,r,g,rfl,(l.ps r a).pt,((l.ps r a).bp.mono (by decide)),b.pt,(b.bp.mono (by decide)),o⟩) ?_;refine⟨_,rfl,_,rfl,_,rfl,rfl,s.2.2,g,rfl,l.st.pt,(l.st.bp.mono (by decide)),b.pt,(b.bp.mono (by decide)),hO,?_⟩;rw[RV (λp=>nP (ee g p))];exact m
theorem Mk :
  ca P w K mg base "under" ["one","other"] 2 (ck K 2 q4):=by
 refine dy Y.kM q_ rfl (λ_ _ _ _ _ _ _ b=>⟨_,(bB (cz (lY (f:=λi j=>decide (i<j)) nJ (cu (ei 0) (ei 1)) (cu (ei 1) (ei 0)) (dE _)))),?_⟩);rintro c k d ⟨x,y,u,v,rfl,e,g,h,l,a⟩;refine cZ rfl ?_;walk_at"w";exact a
theorem zm :
  ca P w K mg base "against" ["one"] 2 (ck K 1 qZ):=by
 refine dy Y.jA q3 rfl (λ_ _ _ _ _ _ _ b=>⟨_,(bB (cz (dO (aY (p3 (ei 0)) (aY (ei 0) cd))))),?_⟩);rintro c k d ⟨x,y,rfl,a⟩;refine cZ rfl ?_;walk_at"w";exact a
theorem oy :
  ca P w K mg base "plus" ["one","other"] 3 (ck K 2 qX):=by
 refine dy Y.l' zg rfl (λ_ _ _ _ _ _ _ f=>⟨_,(aZ (cA 2 zg.nd (bi (oz B Y) f (aF (ei 0) (aF (ei 1) a9)))) (aZ (cA 3 zg.nd (gv (cu (ei 0) (fE (ei 1) (ah 2))) (cu (ei 1) (fE (ei 0) (ah 2))))) (aZ (cA 4 zg.nd (bi (oz B Y) f (aF (ah 2) (aF (ah 3) a9)))) (bB (cz (dO (aY (fE (ah 3) (ah 4)) (aY (cu (fE (ei 0) (ah 2)) (fE (ei 1) (ah 4))) cd)))))))),?_⟩);rintro z k A ⟨x,y,u,v,rfl,l,g,m,n,o,e,h⟩;refine cZ rfl ?_;have i:v≠0:=Sy g.1;have j:=q7 (t:=y) (b:=v) i;have p:=o2 (a:=y) (b:=v) i e;have c:=λtop d=>RB l g (s:=((Ss y v:Nat):Int)) (top:=top) (d:=d) rfl;walk_at"w";refine⟨_,_,rfl,?_⟩;dsimp only[mH];generalize((Ss y v:Nat):Int)=s at *;have q:SB (v.fdiv s)<=4000:=fW (Xw _ _) e;have r:SB (y.fdiv s)<=4000:=fW (Xw _ _) n;have C:SB (x*v.fdiv s+u*y.fdiv s)<=8001:=XC (TD m q) (TD o r);have c:=λd=>c _ d rfl;walk_at"w";refine⟨_,_,rfl,?_⟩;dsimp only[mH];generalize x*v.fdiv s+u*y.fdiv s=top at *;have c:=c _ rfl;have E:=n2 (a:=s) (b:=top) (.inl (Sy j))
 have F:SB ((Ss s top:Nat):Int)<=4000:=by
  rw[TY];exact o2 (Sy j) p
 generalize((Ss s top:Nat):Int)=d at *;have G:SB (v.fdiv d)<=4000:=fW (Xw _ _) e;rw[<-c]at h;walk_at"w";exact h
theorem ox :
  ca P w K mg base "minus" ["one","other"] 4 (ck K 2 qT):=by
 refine dy Y.kX qV rfl (λ_ _ _ _ _ _ _ a=>⟨_,(bB (cz (bi (oy B Y) a (aF (ah 0) (aF (bi (zm B Y) a (aF (ah 1) a9)) a9))))),?_⟩);rintro i k j ⟨x,y,u,v,rfl,c,b,d,e,f,g,h⟩;refine cZ rfl ?_;refine⟨_,rfl,_,rfl,rfl,u,v,rfl,rfl,x,y,-u,v,rfl,c,⟨b.1,by rw[T5];exact b.2⟩,d,e,TT f,g,?_⟩;rw[Uc,<-Int.sub_eq_add_neg];exact h
theorem Fg :
  ca P w K mg base "times" ["one","other"] 3 (ck K 2 qS):=by
 refine dy Y.kO E2 rfl (λ_ _ _ _ _ _ _ c=>⟨_,(aZ (cA 2 E2.nd (bi (oz B Y) c (aF (ei 0) (aF (ei 1) a9)))) (aZ (cA 3 E2.nd (bi (oz B Y) c (aF (ei 1) (aF (ei 0) a9)))) (bB (cz (dO (aY (cu (fE (ei 0) (ah 2)) (fE (ei 1) (ah 3))) (aY (cu (fE (ei 0) (ah 3)) (fE (ei 1) (ah 2))) cd))))))),?_⟩);rintro p k q ⟨x,y,u,v,rfl,d,e,n,h,o,i,j⟩;refine cZ rfl ?_;have l:v≠0:=Sy e.1;have m:y≠0:=Sy d.1;have r:=q7 (t:=x) (b:=v) l;have s:=o2 (a:=x) (b:=v) l i;have z:=q7 (t:=u) (b:=y) m;have A:=o2 (a:=u) (b:=y) m h;rw[<-RD d e]at j;walk_at"w";refine⟨_,_,rfl,?_⟩;walk_at"w";refine⟨_,_,rfl,?_⟩;generalize((Ss x v:Nat):Int)=f at *;generalize((Ss u y:Nat):Int)=g at *;have C:SB (x.fdiv f)<=4000:=fW (Xw _ _) n;have E:SB (u.fdiv g)<=4000:=fW (Xw _ _) o;have F:SB (y.fdiv g)<=4000:=fW (Xw _ _) h;have G:SB (v.fdiv f)<=4000:=fW (Xw _ _) i;walk_at"w";exact j
theorem Ml :
  ca P w K mg base "unsigned" ["one"] 2 (ck K 1 qQ):=by
 refine dy Y.h_ qR rfl (λ_ _ _ _ _ _ _ b=>⟨_,(bB (cz (dO (aY (ra (ei 0) (by rfl) B.iO) (aY (ei 0) cd))))),?_⟩);rintro c k d ⟨x,y,rfl,a⟩;refine cZ rfl ?_;walk_at"w";exact a
theorem Mm :
  ca P w K mg base "split" ["slope","hand","wide","sheet","part"] 8 (ck K 5 qI):=by
 refine dy Y.kR im rfl (λ_ _ _ _ _ _ _ p=>⟨_,(aZ (cA 5 im.nd (bi (ox B Y) p (aF (ah 2) (aF (ah 4) a9)))) (aZ (cA 6 im.nd (bi (Ml B Y) p (aF (ah 0) a9))) (aZ (cA 7 im.nd (xi (p.units) (ah 1) lX (dE _))) (aZ (cA 8 im.nd (xi (p.units) (ah 7) (lY (f:=λi j=>decide (j<i)) pR (ei 0) bt (dE _)) (dE _))) (aZ (cA 9 im.nd (bi (Fg B Y) p (aF (ah 6) (aF (l0 (fb (ah 7)) (ah 4) (ah 5)) a9)))) (aZ (i1 (bi (oF B Y) p (aF (ah 3) (aF (l0 (fb (ah 8)) (ah 4) (ah 5)) a9))) (fF (n:=2) rfl (b7 (cx 10 im.nd) (b7 (cx 11 im.nd) fq)))) (aZ (i1 (l0 (fb (ah 8)) (dO (aY (ah 10) (aY (ah 11) cd))) (dO (aY (ah 11) (aY (ah 10) cd)))) (fF (n:=2) rfl (b7 (cx 12 im.nd) (b7 (cx 13 im.nd) fq)))) (aZ (i1 (bi (oC B Y) p (aF (ah 13) (aF (ah 9) a9))) (fF (n:=2) rfl (b7 (cx 14 im.nd) (b7 (cx 15 im.nd) fq)))) (aZ (i1 (l0 (fb (ah 7)) (dO (aY (ah 15) (aY (ah 14) cd))) (dO (aY (ah 14) (aY (ah 15) cd)))) (fF (n:=2) rfl (b7 (cx 16 im.nd) (b7 (cx 17 im.nd) fq)))) (aZ (cA 18 im.nd (bi (zm B Y) p (aF (ah 9) a9))) (aZ (cA 19 im.nd (bi (si B Y) p (aF (l0 (fb (ah 8)) (uK Y.e9 (by rfl)) (bi (zm B Y) p (aF (ah 5) a9))) (aF (l0 (fb (ah 7)) (uK Y.e9 (by rfl)) (ah 18)) a9)))) (aZ (cA 20 im.nd (l0 (fb (ah 8)) (bi (zm B Y) p (aF (ah 4) a9)) (uK Y.e9 (by rfl)))) (aZ (cA 21 im.nd (bi (si B Y) p (aF (ah 20) (aF (l0 (fb (ah 7)) (ah 18) (uK Y.e9 (by rfl))) a9)))) (aZ (cA 22 im.nd (bi (si B Y) p (aF (ah 20) (aF (l0 (fb (ah 7)) (uK Y.e9 (by rfl)) (ah 18)) a9)))) (aZ (cA 23 im.nd (dO (aY (ah 5) (aY (bi (Fg B Y) p (aF (ah 6) (aF (ah 4) a9))) (aY (bi (Ff B Y) p (aF (ah 17) (aF (ah 22) a9))) cd))))) (bB (cz (dO (aY (bi (Ff B Y) p (aF (ah 12) (aF (ah 19) a9))) (aY (bi (Ff B Y) p (aF (ah 16) (aF (ah 21) a9))) (aY (ah 23) cd))))))))))))))))))))),?_⟩);rintro aP k M ⟨s,w,d,hi,sh,rfl,m,hc,M,aO⟩;refine cZ (r:=[.val (dR s),.val (.str (if hi=true then"high" else"low")),.val (dR w),.val (.lst (sh.map bI)),.val (dR d),.no,.no,.no,.no,.no,.no,.no,.no,.no,.no,.no,.no,.no,.no,.no,.no,.no,.no,.no]) rfl ?_;have aQ:1000<=TI:=by decide
 obtain⟨O,aS,Q,R⟩:=m.r;obtain⟨H,aU,I,J⟩:=m.h hi;obtain⟨aX,a3,a4,a5⟩:=m.x hi;have G:uJ (.ktup ([0,1].map D.int))=some [.int 0,.int 1]:=rfl;have A:a8 0 1:=⟨by decide,by decide⟩;have C:SB 0<=4000:=by decide
 have E:SB 1<=4000:=by decide
 have o:∀{z:Int}{n:Nat},SB z<=n->n<=4000->SB z<=4000:=λh l=>Sx h l;have v:∀{x y:Int},a8 x y->a8 (-x) y:=λl=>⟨l.1,by rw[T5];exact l.2⟩;have T:=λb=>t5 m hi b hc;have aE:=λb=>t2 m hi b (T (!spL s hi));have aj:∀b,(d2 (bz s w d hi) b sh).length<=20:=λb=>Sx (JD _ _ _) M;have aG:∀b,(f4 (bu s w d hi) b (d2 (bz s w d hi) (!spL s hi) sh)).length<=20:=λb=>Sx (JE _ _ _) (aj _)
 have aq:SB (if s.1<0 then -s.1 else s.1)<=21:=by
  split
  ·exact TT m.c1
  exact m.c1
 have au:a8 (if s.1<0 then -s.1 else s.1) s.2:=by
  split
  ·exact v m.ls
  exact m.ls
 refine nq 5 (.val (dR (cm w d))) (λN g=>?_) ?_
 ·exact⟨_,rfl,_,rfl,rfl,w.1,w.2,d.1,d.2,rfl,m.lw,m.lp,o m.c3 (by decide),o m.c4 (by decide),o m.c5 (by decide),o m.c6 (by decide),g _ rfl⟩
 dsimp only[Ts];refine nq 6 (.val (dR (if s.1<0 then -s.1 else s.1,s.2))) (λN g=>?_) ?_
 ·exact⟨_,rfl,rfl,s.1,s.2,rfl,g _ rfl⟩
 dsimp only[Ts];refine nq 7 (.val (.bl (!hi))) (λN g=>?_) ?_
 ·refine⟨_,rfl,.S,rfl,rfl,by decide,g _ ?_⟩;cases hi with
  |true=>rw[show eqD (D.str (if true=true then Str.ofString "high" else Str.ofString "low")) (D.str (Str.ofString "low"))=false from Jv];rfl
  |false=>rw[show eqD (D.str (if false=true then Str.ofString "high" else Str.ofString "low")) (D.str (Str.ofString "low"))=true from Jw];rfl
 dsimp only[Ts];refine nq 8 (.val (.bl (spL s hi))) (λN g=>?_) ?_
 ·refine⟨_,rfl,_,rfl,_,_,_,.inl rfl,rfl,rfl,_,_,rfl,rfl,.B,rfl,rfl,by decide,g _ ?_⟩;rw[JB];rfl
 dsimp only[Ts];refine nq 9 (.val (dR (bu s w d hi))) (λN g=>?_) ?_
 ·refine⟨_,rfl,_,rfl,_,rfl,?_⟩;unfold bu at g;cases hi with
  |true=>
   exact eO ⟨_,rfl,rfl,_,_,_,_,rfl,au,O,o aq (by decide),o m.c2 (by decide),o Q (by decide),o R (by decide),g _ rfl⟩
  |false=>
   exact Gd ⟨_,rfl,rfl,_,_,_,_,rfl,au,m.lp,o aq (by decide),o m.c2 (by decide),o m.c5 (by decide),o m.c6 (by decide),g _ rfl⟩
 dsimp only[Ts];refine y6 10 11 (.val (.lst ((d2 (bz s w d hi) true sh).map bI))) (.val (.lst ((d2 (bz s w d hi) false sh).map bI))) (λN g=>?_) ?_
 ·have aK:∀t∈sh,∀c∈t.1,cH 1990 c/\aW c:=λt F=>(hc t F).bp;have aN:∀t∈sh,t.1.length<=1000:=λt F=>Sx (hc t F).ln (by decide);refine⟨_,rfl,_,rfl,_,rfl,ph (λc=>?_) (λc=>?_)⟩
  ·have aw:bz s w d hi=d:=by unfold bz;rw[c];rfl
   exact⟨_,rfl,rfl,sh,d,rfl,m.lp,cf m.c5,cf m.c6,aK,aN,cf M,_,rfl,rfl,_,_,rfl,_,_,rfl,rfl,g _ (by rw[aw];rfl)⟩
  have aw:bz s w d hi=cm w d:=by unfold bz;rw[c];rfl
  exact⟨_,rfl,rfl,sh,cm w d,rfl,O,cf Q,cf R,aK,aN,cf M,_,rfl,rfl,_,_,rfl,_,_,rfl,rfl,g _ (by rw[aw];rfl)⟩
 dsimp only[Ts];refine y6 12 13 (.val (.lst ((d2 (bz s w d hi) (spL s hi) sh).map bI))) (.val (.lst ((d2 (bz s w d hi) (!spL s hi) sh).map bI))) (λN g=>?_) ?_
 ·refine⟨_,rfl,_,rfl,ph (λc=>?_) (λc=>?_)⟩
  ·exact⟨_,rfl,_,rfl,e1,_,rfl,rfl,_,_,rfl,_,_,rfl,rfl,g _ (by rw[c];rfl)⟩
  exact⟨_,rfl,_,rfl,e1,_,rfl,rfl,_,_,rfl,_,_,rfl,rfl,g _ (by rw[c];rfl)⟩
 dsimp only[Ts];refine y6 14 15 (.val (.lst ((f4 (bu s w d hi) false (d2 (bz s w d hi) (!spL s hi) sh)).map bI))) (.val (.lst ((f4 (bu s w d hi) true (d2 (bz s w d hi) (!spL s hi) sh)).map bI))) (λN g=>?_) ?_
 ·exact⟨_,rfl,_,rfl,rfl,d2 (bz s w d hi) (!spL s hi) sh,bu s w d hi,rfl,H,cf I,cf J,λt F=>(T _ t F).bp,λt F=>Sx (T _ t F).ln (by decide),Sx (aj _) (by decide),_,rfl,rfl,_,_,rfl,_,_,rfl,rfl,g _ rfl⟩
 dsimp only[Ts];refine y6 16 17 (.val (.lst ((f4 (bu s w d hi) (!hi) (d2 (bz s w d hi) (!spL s hi) sh)).map bI))) (.val (.lst ((f4 (bu s w d hi) hi (d2 (bz s w d hi) (!spL s hi) sh)).map bI))) (λN g=>?_) ?_
 ·refine⟨_,rfl,_,rfl,ph (λc=>?_) (λc=>?_)⟩
  ·have q:hi=false:=by cases hi<;>first|rfl|cases c
   exact⟨_,rfl,_,rfl,e1,_,rfl,rfl,_,_,rfl,_,_,rfl,rfl,g _ (by subst q;rfl)⟩
  have u:hi=true:=by cases hi<;>first|rfl|cases c
  exact⟨_,rfl,_,rfl,e1,_,rfl,rfl,_,_,rfl,_,_,rfl,rfl,g _ (by subst u;rfl)⟩
 dsimp only[Ts];refine nq 18 (.val (dR (-(bu s w d hi).1,(bu s w d hi).2))) (λN g=>?_) ?_
 ·exact⟨_,rfl,rfl,(bu s w d hi).1,(bu s w d hi).2,rfl,g _ rfl⟩
 dsimp only[Ts];refine nq 19 (.val (aR (iQ s w d hi))) (λN g=>?_) ?_
 ·refine⟨_,rfl,_,rfl,ph (λc=>?_) (λc=>?_)⟩
  ·refine⟨_,rfl,_,rfl,ph (λe=>?_) (λe=>?_)⟩
   ·have q:hi=false:=by cases hi<;>first|rfl|cases e
    exact⟨rfl,_,_,0,1,0,1,rfl,G,G,A,A,C,E,C,E,g _ (by unfold iQ;rw[c,q];rfl)⟩
   have u:hi=true:=by cases hi<;>first|rfl|cases e
   exact⟨_,rfl,rfl,_,_,0,1,-(bu s w d hi).1,(bu s w d hi).2,rfl,G,rfl,A,v H,C,E,o (TT I) (by decide),o J (by decide),g _ (by rw[show iQ s w d hi=_ from by unfold iQ;rw[c,SL u]];rfl)⟩
  refine⟨_,rfl,rfl,(cm w d).1,(cm w d).2,rfl,_,rfl,_,rfl,ph (λe=>?_) (λe=>?_)⟩
  ·have q:hi=false:=by cases hi<;>first|rfl|cases e
   exact⟨rfl,_,_,-(cm w d).1,(cm w d).2,0,1,rfl,rfl,G,v O,A,o (TT Q) (by decide),o R (by decide),C,E,g _ (by unfold iQ;rw[c,q];rfl)⟩
  have u:hi=true:=by cases hi<;>first|rfl|cases e
  exact⟨_,rfl,rfl,_,_,-(cm w d).1,(cm w d).2,-(bu s w d hi).1,(bu s w d hi).2,rfl,rfl,rfl,v O,v H,o (TT Q) (by decide),o R (by decide),o (TT I) (by decide),o J (by decide),g _ (by rw[show iQ s w d hi=_ from by unfold iQ;rw[c,SL u]];rfl)⟩
 dsimp only[Ts];refine nq 20 (.val (if spL s hi=true then dR (-d.1,d.2)else .ktup ([0,1].map D.int))) (λN g=>?_) ?_
 ·refine⟨_,rfl,_,rfl,ph (λc=>?_) (λc=>?_)⟩
  ·exact⟨_,rfl,rfl,d.1,d.2,rfl,g _ (by rw[SL c])⟩
  exact g _ (by rw[c];rfl)
 dsimp only[Ts]
 have ax:∃a b:Int,uJ (if spL s hi=true then dR (-d.1,d.2)else .ktup ([0,1].map D.int))=some [.int a,.int b]/\a8 a b/\SB a<=4000/\SB b<=4000/\(if spL s hi=true then(-d.1,d.2)else(0,1))=(a,b):=by
  by_cases c:spL s hi=true
  ·rw[SL c,SL c];exact⟨-d.1,d.2,rfl,v m.lp,o (TT m.c5) (by decide),o m.c6 (by decide),rfl⟩
  rw[Tk c,Tk c];exact⟨0,1,rfl,A,C,E,rfl⟩
 obtain⟨U,W,X,Z,ae,af,ag⟩:=ax;refine nq 21 (.val (aR (jC s w d hi))) (λN g=>?_) ?_
 ·refine⟨_,rfl,_,rfl,_,rfl,ph (λe=>?_) (λe=>?_)⟩
  ·have q:hi=false:=by cases hi<;>first|rfl|cases e
   exact⟨_,rfl,rfl,_,_,U,W,-(bu s w d hi).1,(bu s w d hi).2,rfl,X,rfl,Z,v H,ae,af,o (TT I) (by decide),o J (by decide),g _ (by rw[show jC s w d hi=_ from by unfold jC;rw[ag,Tk (by rw[q];exact SU)]];rfl)⟩
  have u:hi=true:=by cases hi<;>first|rfl|cases e
  exact⟨rfl,_,_,U,W,0,1,rfl,X,G,Z,A,ae,af,C,E,g _ (by rw[show jC s w d hi=_ from by unfold jC;rw[ag,SL u]];rfl)⟩
 dsimp only[Ts];refine nq 22 (.val (aR (jL s w d hi))) (λN g=>?_) ?_
 ·refine⟨_,rfl,_,rfl,_,rfl,ph (λe=>?_) (λe=>?_)⟩
  ·have q:hi=false:=by cases hi<;>first|rfl|cases e
   exact⟨rfl,_,_,U,W,0,1,rfl,X,G,Z,A,ae,af,C,E,g _ (by rw[show jL s w d hi=_ from by unfold jL;rw[ag,Tk (by rw[q];exact SU)]];rfl)⟩
  have u:hi=true:=by cases hi<;>first|rfl|cases e
  exact⟨_,rfl,rfl,_,_,U,W,-(bu s w d hi).1,(bu s w d hi).2,rfl,X,rfl,Z,v H,ae,af,o (TT I) (by decide),o J (by decide),g _ (by rw[show jL s w d hi=_ from by unfold jL;rw[ag,SL u]];rfl)⟩
 dsimp only[Ts];have ay:=(m.stA hi).mono (show 400<=450 by decide);have aB:=(m.stB hi).mono (show 400<=450 by decide);have aD:=(m.stC hi).mono (show 400<=450 by decide);refine nq 23 (.val (.tup [dR (cm w d),dR (bJ s d),.lst ((il s w d hi sh).map bI)])) (λN g=>?_) ?_
 ·exact⟨_,rfl,_,rfl,_,rfl,rfl,_,_,d.1,d.2,rfl,au,m.lp,o aq (by decide),o m.c2 (by decide),o m.c5 (by decide),o m.c6 (by decide),_,rfl,_,rfl,rfl,f4 (bu s w d hi) hi (d2 (bz s w d hi) (!spL s hi) sh),jL s w d hi,rfl,Sx (aG _) (by decide),(λx L=>(aE _ x L).gm (by decide)),aD,hO,g _ rfl⟩
 dsimp only[Ts];exact⟨_,rfl,_,rfl,rfl,d2 (bz s w d hi) (spL s hi) sh,iQ s w d hi,rfl,Sx (aj _) (by decide),λx L=>(T _ x L).gm (by decide),ay,_,rfl,_,rfl,rfl,f4 (bu s w d hi) (!hi) (d2 (bz s w d hi) (!spL s hi) sh),jC s w d hi,rfl,Sx (aG _) (by decide),(λx L=>(aE _ x L).gm (by decide)),aB,_,rfl,hO,aO⟩
theorem zo :
  ca P w K mg base "copied" ["sheet"] 2 (ck K 1 LV):=by
 refine dy Y.j1 qH rfl (λ_ _ _ _ _ _ _ d=>⟨_,(bB (Rb (Rf (ts:=["ring","is_turned","step"]) (fr:=[]) (js:=[]) (gx (ah 0)) (λ_ _ _ _=>(fF (n:=3) rfl (b7 (eW (i:=0) (show SW (["ring","is_turned","step"]:ZS) by decide +kernel) rfl (SH rfl)) (b7 (eW (i:=1) (show SW (["ring","is_turned","step"]:ZS) by decide +kernel) rfl (SH rfl)) (b7 (eW (i:=2) (show SW (["ring","is_turned","step"]:ZS) by decide +kernel) rfl (SH rfl)) fq))))) (λ_ _ _ _=>ij) (λ_ _ _ _=>(Hk (uI (Q' (GJ (ah 0) (by rfl) B.gE)) (uI (Cb (ah 1)) (uI (Cb (ah 2)) Hj))))) ⟨rfl,by decide +kernel,rfl,by decide +kernel,hH (S9 _),h3 rfl,by walk_at"ffr",rfl⟩))),?_⟩);rintro e k a ⟨sh,rfl,a,b⟩;refine cZ rfl ?_;have f:1000<=TI:=by decide
 refine⟨_,rfl,_,rfl,by rw[Sv];lia,?_⟩;refine xG (h:=bI) (fs:=[]) (λs g j c=>?_) b;exact⟨_,rfl,_,.inl rfl,Cu id _,_,rfl,rfl,_,rfl,rfl,hO,c⟩
theorem oo :
  ca P w K mg base "alike" ["ones","others"] 3 (ck K 2 qB):=by
 refine dy Y.k1 pG rfl (λ_ _ _ _ _ _ _ F=>⟨_,(aZ (x7 (b:=false) (i:=2) pG.nd rfl (SH rfl)) (aZ (kK PassesOwn.never rfl (gx (ah 1)) (fF (n:=2) rfl (b7 (cx 3 pG.nd) (b7 (cx 4 pG.nd) fq))) (bB (xV (b:=false) 2 (qt F) (ah 3) (ah 4)))) (aZ (Lm (i:=5) pG.nd rfl (SH rfl) Ll) (aZ (Lm (i:=6) pG.nd rfl (SH rfl) Ll) (aZ (kK PassesOwn.never rfl (gx (ah 0)) (fF (n:=2) rfl (b7 (cx 3 pG.nd) (b7 (cx 4 pG.nd) fq))) (bB (fc (v5 (b:=false) 2 (qt F) (ah 3)) (bB (Lq 5 (Lp (v1 (Ln (ah 3)) (v1 (EC (zo B Y) F (by rfl) (Ej (KR (ah 4)) Ei)) (v1 (EC (zo B Y) F (by rfl) (Ej (vW (b:=false) 2 (qt F) (ah 3) (λ_ _=>rfl)) Ei)) Lo)))))) (bB (Lq 6 (Lp (v1 (Ln (ah 3)) (v1 (EC (zo B Y) F (by rfl) (Ej (KR (ah 4)) Ei)) Lo)))))))) (zc 2 (aZ (uN (i:=7) pG.nd rfl rfl (ts:=["wide","sheets","sheet"]) (fr:=[]) (js:=[]) (yH (ah 2)) (λ_ _ _ _=>(fF (n:=2) rfl (b7 (eW (i:=0) (show SW (["wide","sheets","sheet"]:ZS) by decide +kernel) rfl (SH rfl)) (b7 (eW (i:=1) (show SW (["wide","sheets","sheet"]:ZS) by decide +kernel) rfl (SH rfl)) fq)))) (λ_ _ _ _=>ij) (λ_ _ _ _=>(gx (ah 1))) (λ_ _ _ _=>(eW (i:=2) (show SW (["wide","sheets","sheet"]:ZS) by decide +kernel) rfl (SH rfl))) (λ_ _ _ _=>ij) (λ_ _ _ _=>(Hk (uI (Cb (ah 0)) (uI (Cc (zo B Y) F (by rfl) (aF (ah 2) a9)) Hj)))) ⟨rfl,by decide +kernel,rfl,by decide +kernel,hH (S9 _),h3 rfl,by walk_at"ffr",rfl⟩) (bB (u' 5 6 7 (by decide) (by decide) (by decide)))))))))),?_⟩);rintro o k aP ⟨os,ts,rfl,aQ,aw,U,M⟩;refine cZ rfl ?_;have aS:5000<=TI:=by decide
 intro a;dsimp only;refine ix (λr=>∃(m:List ZY)(o:ZU)(j:ZZ)(ah v:aA),r=[.val (.lst (os.map dC)),.val (.lst (ts.map dC)),.deep (.dl false a m o j),ah,v,.no,.no,.no]/\j.length=m.length/\(fN m j).Perm (ts.map dC)/\m.length<=40) ?_ (λN C=>?_);rotate_left
 ·refine⟨_,rfl,_,rfl,?_⟩;refine yp (f:=λc:cV=>dR c.1) (g:=λc:cV=>.lst (c.2.map bI)) (rs:=ts) (done:=[]) (λpre r=>∃(m:List ZY)(o:ZU)(j:ZZ)(ah v:aA),r=[.val (.lst (os.map dC)),.val (.lst (ts.map dC)),.deep (.dl false a m o j),ah,v,.no,.no,.no]/\j.length=m.length/\(fN m j).Perm (pre.map dC)/\m.length<=pre.length) ⟨[],[],[],_,_,rfl,rfl,Xp _,SF _⟩ ?_ (λr ⟨m,o,j,ah,v,e,y,s,O⟩=>C _ ⟨m,o,j,ah,v,e,y,s,Sx O aw⟩);rintro pre c E r H ⟨m,o,j,ah,v,rfl,y,s,O⟩ N C;have ay:pre.length<40:=by have:=TW S6 H;rw[Tn,Sz,SK]at this;lia
  have ae:=s.length_eq;rw[Sv]at ae;refine⟨a,m,o,j,rfl,_,rfl,r3 c.1,rfl,λ_=>⟨_,rfl⟩,by lia,y,λag W=>by have:=(Ez W).2;lia,λX aj=>⟨_,rfl,?_⟩⟩;refine C _ ⟨_,X,_,_,_,rfl,yl y,?_,?_⟩
  ·rw[SE];exact(ub y).trans ((s.cons _).trans (Xj _ _).symm)
  rw[Sz,Tp];unfold eZ;split
  ·lia
  rw[Sz,Tp];lia
 rintro r ⟨m,o,j,ah,v,rfl,y,s,O⟩;intro b;dsimp only;intro Z;dsimp only;refine ix (λr=>∃(m:List ZY)(o:ZU)(j:ZZ)(u:ZR)(A:ZN)(ah v:aA),r=[.val (.lst (os.map dC)),.val (.lst (ts.map dC)),.deep (.dl false a m o j),ah,v,.deep (.nl b (u.map ov)),.deep (.nl Z (A.map dC)),.no]/\j.length=m.length/\((u.map λp=>dC (p.1,p.2.2))++fN m j).Perm (ts.map dC)/\(u.map (λp=>(p.1,p.2.1))++A).Perm os) ?_ (λN C=>?_);rotate_left
 ·refine⟨_,rfl,_,rfl,?_⟩;refine yp (f:=λc:cV=>dR c.1) (g:=λc:cV=>.lst (c.2.map bI)) (rs:=os) (done:=[]) (λpre r=>∃(o:ZU)(j:ZZ)(u:ZR)(A:ZN)(ah v:aA),r=[.val (.lst (os.map dC)),.val (.lst (ts.map dC)),.deep (.dl false a m o j),ah,v,.deep (.nl b (u.map ov)),.deep (.nl Z (A.map dC)),.no]/\j.length=m.length/\((u.map λp=>dC (p.1,p.2.2))++fN m j).Perm (ts.map dC)/\(u.map (λp=>(p.1,p.2.1))++A).Perm pre) ⟨o,j,[],[],_,_,rfl,y,s,Xp _⟩ ?_ (λr ⟨o,j,u,A,ah,v,e,y,s,O⟩=>C _ ⟨m,o,j,u,A,ah,v,e,y,s,O⟩);clear y s o j ah v;rintro pre c E r H ⟨o,j,u,A,ah,v,rfl,y,s,Q⟩ N C;have H:os=pre++c::E:=by simpa using H
  have az:c∈os:=by rw[H];simp
  have hi:=U c (Tx _ az);have ay:pre.length<40:=by have:=TW S6 H;rw[Sz,SK]at this;lia
  have aB:=Q.length_eq;rw[Sz,Sv]at aB;have no:A.length<40/\u.length<40:=by lia
  refine⟨a,m,o,j,rfl,_,rfl,r3 c.1,rfl,λ_=>⟨_,rfl⟩,?_⟩;have left:=C [.val (.lst (os.map dC)),.val (.lst (ts.map dC)),.deep (.dl false a m o j),.val (dR c.1),.val (.lst (c.2.map bI)),.deep (.nl b (u.map ov)),.deep (.nl Z (A.map dC++[dC c])),.no] ⟨o,j,u,A++[c],_,_,by rw[SE];rfl,y,s,by rw[<-SY];exact Q.append_right _⟩;cases q:bo m j (r3 c.1)with
  |none=>exact mO rfl ⟨⟨_,_,rfl⟩,_,rfl,rfl,_,rfl,rfl,c.2,rfl,hi,_,rfl,e1,_,_,rfl,by rw[Sv];lia,left⟩
  |some ag=>
   rcases Ws ag with rfl|⟨ao,d,rfl⟩
   ·exact mO rfl ⟨⟨_,_,rfl⟩,_,rfl,rfl,_,rfl,rfl,c.2,rfl,hi,_,rfl,e1,_,_,rfl,by rw[Sv];lia,left⟩
   rw[Wt]at q⊢;obtain⟨t,R,G⟩:=SJ.mp (s.mem_iff.mp (S3 _ ((Ez q).1 d (by simp))));obtain⟨aU,aC⟩:=Ld G;subst aC;have J:=U t (S3 _ R);obtain⟨p1,p2⟩:=Lc q;refine nX (by cases ao<;>rfl) ⟨⟨_,_,rfl⟩,_,rfl,rfl,_,rfl,rfl,c.2,rfl,hi,_,rfl,?_⟩;refine⟨a,m,o,j,rfl,_,rfl,r3 c.1,ao,_,rfl,λ_=>⟨_,rfl⟩,q,rfl,t.2,rfl,J,_,rfl,hO,_,_,rfl,by rw[Sv];lia,C _ ⟨o,_,u++[(c.1,c.2,t.2)],A,_,_,by rw[SE];rfl,by rw[p2];exact y,?_,?_⟩⟩
   ·rw[SE,SY];refine Wu (Xq _ ?_) s;have e:jz (r3 c.1) (.lst (t.2.map bI))=dC (c.1,t.2):=rfl;rw[e]at p1;exact p1.symm
   rw[SE,SY];refine Wu (Xq _ ?_) (Wu (by rw[<-SY]) (Q.append_right [c]));exact List.perm_append_comm
 rintro r ⟨m,o,j,u,A,ah,v,rfl,y,s,Q⟩;refine⟨_,_,_,_,_,rfl,_,rfl,false,m,_,rfl,by rw[Sv];exact y,?_⟩;rw[vZ.1]
 have aq:∀x∈fN m j,∃t:cV,t∈ts/\dC t=x:=λx S=>by
  obtain⟨t,R,G⟩:=SJ.mp (s.mem_iff.mp (S3 _ S));exact⟨t,R,G⟩
 have ae:(fN m j).length<=40:=by have:=s.length_eq;rw[Sz,Sv,Sv]at this;lia
 refine Ep (xs:=m.zip j) (f:=λx=>D.tup [gI false x.1,.lst x.2]) (h:=λx=>x.2.map (jz x.1)) (I:=λr=>∃a b c,r=[a,b,c]) (n:=0) (L:=4096) (λx S n r k i T M=>?_) ⟨_,_,_,rfl⟩ (by rw[<-vZ.2];lia) (λau _=>?_)
 ·obtain⟨a,b,c,rfl⟩:=i;refine⟨_,rfl,rfl,_,_,rfl,_,_,rfl,rfl,_,rfl,_,rfl,?_⟩;have av:(x.2.flatMap λd=>[jz x.1 d])=x.2.map (jz x.1):=by rw[List.map_eq_flatMap]
  suffices z:lL (fp 2) i7 (El (uj (mF (Hi (jF 0)) (mF (Hl 1 LV (Bs (jF 2) Br)) sL)))) (x.2.map id) n [.val (gI false x.1),.val (.lst x.2),c] k by rwa [List.map_id]at z
  refine Ep (f:=id) (h:=λd=>[jz x.1 d]) (I:=λr=>∃c,r=[.val (gI false x.1),.val (.lst x.2),c]) (L:=4096) (λd W n r k i T M=>?_) ⟨_,rfl⟩ (by rw[av];exact T) (λau ⟨c,e⟩=>by rw[av];exact M au ⟨_,_,_,e⟩);obtain⟨c,rfl⟩:=i;obtain⟨t,R,G⟩:=aq (jz x.1 d) (by rw[vZ.2];exact List.mem_flatMap.mpr ⟨x,S,SJ.mpr ⟨d,W,rfl⟩⟩);have aD:=t_ G;subst aD;have T:n+1<=4096:=T;exact⟨by lia,_,rfl,Lu _,_,rfl,rfl,t.2,rfl,U t (S3 _ R),_,rfl,e1,M _ ⟨_,rfl⟩⟩
 rw[<-vZ.2]
 obtain⟨J,aE⟩:=Le (f:=dC) (l:=fN m j) λx S=>by
  obtain⟨t,_,G⟩:=aq x S;exact⟨t,G.symm⟩
 rw[aE]at s⊢
 have aG:(u.map (λp=>(p.1,p.2.2))++J).Perm ts:=by
  have aH:(u.map λp=>dC (p.1,p.2.2))++J.map dC=((u.map λp=>(p.1,p.2.2))++J).map dC:=by rw[SE,SM];rfl
  rw[aH]at s;obtain⟨aX,aK,aM⟩:=tJ s rfl;rwa[(Wo λ_ _ h=>t6 h).mp aM]at aK
 exact λa3=>⟨_,_,_,_,_,_,rfl,rfl,rfl,λp o=>M u A J Q aG p o⟩
theorem oj :
  ca P w K mg base "ranks" ["ratios"] 2 (ck K 1 qz):=by
 refine dy Y.kT LW rfl (λ_ _ _ _ _ _ _ e=>⟨_,(aZ (w4 (i:=1) LW.nd rfl (Um rfl) (vk e (ea (kN (ts:=["top","bottom"]) (fr:=[]) (js:=[]) (gx (ah 0)) (λ_ _ _ _=>(fF (n:=2) rfl (b7 (eW (i:=0) (show SW (["top","bottom"]:ZS) by decide +kernel) rfl (SH rfl)) (b7 (eW (i:=1) (show SW (["top","bottom"]:ZS) by decide +kernel) rfl (SH rfl)) fq)))) (λ_ _ _ _=>ij) (λ_ _ _ _=>(ah 1)) ⟨rfl,by decide +kernel,rfl,by decide +kernel,hH (S9 _),h3 rfl,by walk_at"ffr",rfl⟩)) bt (by rfl) B.ny)) (bB (Bx (kN (ts:=["top","bottom"]) (fr:=["most"]) (js:=[1]) (gx (ah 0)) (λ_ _ _ _=>(fF (n:=2) rfl (b7 (eW (i:=0) (show SW (["top","bottom","most"]:ZS) by decide +kernel) rfl (SH rfl)) (b7 (eW (i:=1) (show SW (["top","bottom","most"]:ZS) by decide +kernel) rfl (SH rfl)) fq)))) (λ_ _ _ _=>ij) (λ_ _ _ _=>(fE (cu (cu (ah 0) (ah 2)) (ah 2)) (ah 1))) ⟨rfl,by decide +kernel,rfl,by decide +kernel,hH (TC.mpr ⟨rfl,(S9 _)⟩),h3 rfl,by walk_at"ffr",rfl⟩)))),?_⟩);rintro o k f ⟨cs,rfl,f,d,a⟩;refine cZ rfl ?_;have bW:(cs.map dR).length<=TI:=by rw[Sv,Wv];lia
 refine⟨_,rfl,_,rfl,bW,?_⟩;refine DN (h:=λr=>.int r.2) (λr _ k a=>⟨_,rfl,a⟩) ?_;refine⟨cs.map (·.2),by rw[SM];rfl,1,rfl,λm b=>?_⟩
 have g:SB m<=900:=by
  rcases b with rfl|b
  ·decide
  obtain⟨c,h,rfl⟩:=SJ.mp b;exact(d c h).2.2
 refine⟨_,rfl,_,rfl,bW,?_⟩;refine DN (h:=λr=>.int ((r.1*m*m).fdiv r.2)) (λr h k a=>?_) ?_
 ·obtain⟨p,j,q⟩:=d r h;have l:SB (r.1*m)<=9000:=Sx (TD j g) (by decide);exact⟨_,rfl,_,rfl,r.1,m,rfl,rfl,⟨by lia,by lia⟩,_,rfl,r.1*m,m,rfl,rfl,⟨l,by lia⟩,_,rfl,r.1*m*m,r.2,rfl,rfl,⟨by lia,by lia⟩,a⟩
 have:=a (cs.map λr=>(r.1*m*m).fdiv r.2) (by simp)
 rwa [SM]at this
theorem Mp :
  ca P w K mg base "widest_last" ["corners"] 3 (ck K 1 qr):=by
 refine w_ Y.gq Y.fj E3 rfl (λf u A l s H E LT q=>⟨_,(aZ (w4 (i:=2) E3.nd rfl (Um rfl) (bi (oj B Y) q (aF (ea (kN (ts:=["wide","sheet"]) (fr:=[]) (js:=[]) (gx (ah 0)) (λ_ _ _ _=>(fF (n:=2) rfl (b7 (eW (i:=0) (show SW (["wide","sheet"]:ZS) by decide +kernel) rfl (SH rfl)) (b7 (eW (i:=1) (show SW (["wide","sheet"]:ZS) by decide +kernel) rfl (SH rfl)) fq)))) (λ_ _ _ _=>ij) (λ_ _ _ _=>(ah 0)) ⟨rfl,by decide +kernel,rfl,by decide +kernel,hH (S9 _),h3 rfl,by walk_at"ffr",rfl⟩)) a9))) (aZ (cA 1 E3.nd (ea (vA (x:="place") (fr:=["order"]) (js:=[2]) q (j6 (ah 0) (by rfl) B.fC) (by rfl) B.fS (by rfl) B.iT LT rfl rfl (w5 rfl rfl rfl rfl rfl rfl (by decide) rfl rfl rfl) (by decide) (λ_ _ _ _=>rfl) (λ_ _ _ _=>(hn (ah 1) (ah 0) (λ_ _=>rfl)))))) (bB (Bx (kN (ts:=["place"]) (fr:=["corners"]) (js:=[0]) (gx (ah 1)) (λ_ _ _ _=>(eW (i:=0) (show SW (["place","corners"]:ZS) by decide +kernel) rfl (SH rfl))) (λ_ _ _ _=>ij) (λ_ _ _ _=>(hn (ah 1) (ah 0) (λ_ _=>rfl))) ⟨rfl,by decide +kernel,rfl,by decide +kernel,hH (TC.mpr ⟨rfl,(S9 _)⟩),h3 rfl,by walk_at"ffr",rfl⟩))))),?_⟩);rintro L k m ⟨cs,rfl,m,v,a⟩;refine cZ rfl ?_;have bW:(cs.map sf).length<=TI:=by rw[Sv,Wv];lia
 refine⟨_,rfl,_,rfl,bW,?_⟩;refine Kh (f:=λc:F2×D=>dR c.1) (g:=λc=>c.2) (h:=λc=>dR c.1) (λr _ k a=>⟨_,rfl,a⟩) ?_;refine⟨rfl,cs.map Vv,by rw[SM];rfl,by rw[Sv];exact m,λc h=>?_,λb t=>?_⟩
 ·obtain⟨z,y,rfl⟩:=SJ.mp h;exact v z y
 rw[Sv]at t;refine⟨_,rfl,cs.length,by simp[sM],cs.length,rfl,λd=>match d with|.int i=>b.getD i.toNat 0|_=>0,by simpa using m,λj C=>?_,λd F=>?_,λG p1 _=>?_⟩
 ·rcases SQ.mp C with rfl
  intro z;cases z
 ·obtain⟨i,o,rfl⟩:=SJ.mp F;have lt:i<b.length:=by rw[t];exact TG.mp o
  refine⟨_,rfl,_,rfl,b.map D.int,i,.int (b[i]),.inr rfl,rfl,rr (B7 lt),?_⟩;simp[List.getD,lt]
 obtain⟨I,p,rfl⟩:=tJ p1 rfl;refine⟨_,rfl,_,rfl,?_,?_⟩
 ·rw[Sv,p.length_eq,U5,Wv];lia
 refine mW (f:=λi:Nat=>D.int i) (h:=λi=>sf ((cs[i]?).getD ((0,0),.non))) (λi o k a=>?_) ?_
 ·have lt:i<cs.length:=TG.mp (p.mem_iff.mp o);refine⟨_,rfl,_,rfl,cs.map sf,i,sf cs[i],.inr rfl,rfl,rr (B7 lt),?_⟩;rwa[S0 lt]at a
 have:=a (I.map λi=>(cs[i]?).getD ((0,0),.non)) ?_
 ·rwa [SM]at this
 have e:(S7 cs.length).map (λi=>(cs[i]?).getD ((0,0),.non))=cs:=by
  refine List.ext_getElem (by simp) λi M J=>?_;simp[J]
 have:=p.map λi=>(cs[i]?).getD ((0,0),D.non)
 rwa [e]at this
theorem oi :
  ca P w K mg base "matched" ["slope","hand","ones","other_hand","others"] 9 (ck K 5 qq):=by
 refine Iu [false,false,true,false,true] Y.jj jW rfl (λ_ _ _ _ _ _ _ R=>⟨_,(aZ (u1 (i:=5) (j:=2) (k:=4) (oo B Y) R (by rfl) rfl (aF (ah 2) (aF (ah 4) a9)) jW.nd (by decide) (by decide) (by decide) rfl rfl rfl (SH rfl) (SH rfl) (SH rfl)) (kI 4 (kI 2 (aZ (xp (i:=2) (j:=4) rfl jW.nd rfl rfl (by decide) rfl rfl (Bu (Mp B Y) R (by rfl) (aF (ah 2) a9)) (Bu (Mp B Y) R (by rfl) (aF (ah 4) a9)) rfl) (aZ (mI (i:=6) jW.nd rfl (SH rfl) (gw cd)) (aZ (mI (i:=7) jW.nd rfl (SH rfl) (gw cd)) (aZ (Bz PassesOwn.never (kF (lx (K2 2) (Gx (K2 4)))) (aZ (KZ (KW 2) (fF (n:=2) rfl (b7 (cx 8 jW.nd) (b7 (cx 9 jW.nd) fq)))) (aZ (KZ (KW 4) (fF (n:=2) rfl (b7 (cx 10 jW.nd) (b7 (cx 11 jW.nd) fq)))) (aZ (fc (fb (bi (Mk B Y) R (aF (ah 10) (aF (ah 8) a9)))) (aZ (i1 (bi (Mm B Y) R (aF (ah 0) (aF (ah 1) (aF (ah 8) (aF (ah 9) (aF (ah 10) a9)))))) (fF (n:=3) rfl (b7 (cx 9 jW.nd) (b7 (cx 12 jW.nd) (b7 (cx 13 jW.nd) fq))))) (aZ (kL 2 (dO (aY (ei 13) (aY (ah 12) cd)))) (aZ (kL 6 (ah 13)) (bB (cA 8 jW.nd (ah 10)))))) (bB (fc (fb (bi (Mk B Y) R (aF (ah 8) (aF (ah 10) a9)))) (aZ (i1 (bi (Mm B Y) R (aF (ah 0) (aF (ah 3) (aF (ah 10) (aF (ah 11) (aF (ah 8) a9)))))) (fF (n:=3) rfl (b7 (cx 11 jW.nd) (b7 (cx 12 jW.nd) (b7 (cx 13 jW.nd) fq))))) (aZ (kL 4 (dO (aY (ei 13) (aY (ah 12) cd)))) (bB (kL 7 (ah 13))))) fA))) (bB (kL 5 (dO (aY (ah 8) (aY (ah 9) (aY (ah 11) cd)))))))))) (kI 4 (kI 2 (kI 7 (kI 6 (kI 5 (bB (cz (dO (aY (ah 5) (aY (ah 6) (aY (ah 7) (aY (ah 2) (aY (ah 4) cd)))))))))))))))))))),?_⟩);rintro bq k b5 ⟨s,Wd,L,aU,T,E,F,os,y,rfl,G,b6,b9,aB,aC,bw⟩;refine⟨⟨rfl,rfl,trivial,rfl,trivial,trivial⟩,cZ (r:=[.val (dR s),.val (.str (if E=true then"high" else"low")),.new (.lst (os.map dC)),.val (.str (if F=true then"high" else"low")),.new (.lst (y.map dC)),.no,.no,.no,.no,.no,.no,.no,.no,.no]) rfl ?_⟩;have x1:5000<=TI:=by decide
 have aV:∀{bA:Bool}{j:Nat}{c:cV},ia s Wd L bA j c->0<c.1.2/\SB c.1.1<=900/\SB c.1.2<=900:=λh=>by
  obtain⟨a,b,c,d⟩:=G.lw _ h.w;exact⟨a.1,by lia,by lia⟩
 have aj:∀l:ZN,(l.map λc=>(c.1,D.lst (c.2.map bI))).map sf=l.map dC:=λl=>by rw[SM];rfl
 refine⟨_,rfl,_,rfl,rfl,os,y,rfl,by lia,by lia,λc C=>?_,λg bD bG ao aq p bq=>⟨_,_,_,_,_,_,_,rfl,?_⟩⟩
 ·rcases SO.mp C with z|z
  ·have:=(aB c z).ln;lia
  have:=(aC c z).ln;lia
 have aD:=ao.length_eq;have aE:=aq.length_eq;rw[Sz,Sv]at aD aE;refine⟨_,rfl,_,rfl,_,rfl,rfl,bD.map (λc=>(c.1,D.lst (c.2.map bI))),by rw[aj];rfl,by rw[Sv];lia,λc C=>?_,λbK aG=>⟨_,rfl,?_⟩⟩
 ·obtain⟨c,z,rfl⟩:=SJ.mp C;exact aV (aB c (ao.mem_iff.mp (S3 _ z)))
 obtain⟨aH,aI,rfl⟩:=tJ aG rfl;refine⟨_,rfl,rfl,bG.map (λc=>(c.1,D.lst (c.2.map bI))),by rw[aj];rfl,by rw[Sv];lia,λc C=>?_,λbK aG=>⟨_,rfl,?_⟩⟩
 ·obtain⟨c,z,rfl⟩:=SJ.mp C;exact aV (aC c (aq.mem_iff.mp (S3 _ z)))
 obtain⟨aK,aM,rfl⟩:=tJ aG rfl;rw[aj,aj];have H:=hv.start aB ((aI.append_left (p1 g)).trans ao);have I:=hv.start aC ((aM.append_left (p2 g)).trans aq);have bL:=aI.length_eq;have bM:=aM.length_eq;refine⟨Td _,Td _,?_⟩;dsimp only;generalize aP:D.str (if E=true then Str.ofString "high" else Str.ofString "low")=au at *;generalize aQ:D.str (if F=true then Str.ofString "high" else Str.ofString "low")=eo at *;refine ix (λO=>∃(q f:ZN)(g:ZR)(u v:ZP)(U W t A J M:aA),O=[.val (dR s),.val au,.own (q.map dC),.val eo,.own (f.map dC),.own (g.map ov),.own (u.map f5),.own (v.map f5),U,W,t,A,J,M]/\hv s Wd L E aU os q (p1 g) u/\hv s Wd L F aU y f (p2 g) v/\(q=[]\/f=[])/\g.length<=os.length+y.length/\u.length+v.length<=os.length+y.length/\q.length+f.length<=os.length+y.length) ?_ (λN aa=>?_)
 ·rintro O ⟨q,f,g,u,v,U,W,t,A,J,M,rfl,a,b,c,d,bR,e⟩;exact⟨_,rfl,_,rfl,_,rfl,_,rfl,_,rfl,_,rfl,_,rfl,_,rfl,_,rfl,_,rfl,show 5<=TI by decide,bw g u v q f a b c d bR e⟩
 refine⟨λm O=>∃(j S:Nat)(q f:ZN)(g:ZR)(u v:ZP)(U W t A J M:aA),O=[.val (dR s),.val au,.own (q.map dC),.val eo,.own (f.map dC),.own (g.map ov),.own (u.map f5),.own (v.map f5),U,W,t,A,J,M]/\hv s Wd L E j os q (p1 g) u/\hv s Wd L F S y f (p2 g) v/\m=q.length+f.length/\j+f.length<=T+y.length/\S+q.length<=T+os.length/\g.length+m<=os.length+y.length/\u.length+v.length+m<=os.length+y.length/\m<=os.length+y.length,⟨_,T,T,aH,aK,g,[],[],_,_,_,_,_,_,rfl,H,I,rfl,by lia,by lia,by lia,by rw[Ug];lia,by lia⟩,?_⟩;clear H I ao aq aD aE bL bM aI aM;rintro m O ⟨j,S,q,f,g,u,v,U,W,t,A,J,M,rfl,H,I,rfl,aX,a3,a5,a6,a'⟩;have done:(q=[]\/f=[])->N [.val (dR s),.val au,.own (q.map dC),.val eo,.own (f.map dC),.own (g.map ov),.own (u.map f5),.own (v.map f5),U,W,t,A,J,M]:=λz=>aa _ ⟨q,f,g,u,v,_,_,_,_,_,_,rfl,H.up G (by lia),I.up G (by lia),z,by lia,by lia,by lia⟩;rcases Ws q with rfl|⟨q,c,rfl⟩
 ·exact⟨_,rfl,mO rfl (mO rfl (done (.inl rfl)))⟩
 rcases Ws f with rfl|⟨f,d,rfl⟩
 ·exact⟨_,rfl,nX (by rw[Wt];simp) ⟨_,rfl,mO rfl (done (.inr rfl))⟩⟩
 clear done;simp only[Wt]at H I aX a3 a5 a6 a'⊢;simp only[SE,SI,TA,Sz,Tp]at aX a3 a5 a6 a'⊢;refine⟨_,rfl,nX (by simp) ⟨_,rfl,nX (by simp) ?_⟩⟩;have C:=H.o c (by simp);have X:=I.o d (by simp);obtain⟨bT,b',ba,bb⟩:=G.lw _ C.w;obtain⟨bU,cc,bf,bg⟩:=G.lw _ X.w;have Q:∀{z:Int},SB z<=175->SB z<=4000:=λh=>cf h;have bj:∀l:ZN,(l.map dC).length=l.length:=λl=>Sv ..;refine⟨_,_,rfl,_,rfl,rfl,_,_,rfl,_,_,rfl,rfl,?_⟩;dsimp only;refine⟨_,_,rfl,_,rfl,rfl,_,_,rfl,_,_,rfl,rfl,?_⟩;dsimp only;refine ix (λO=>∃(av aw:Nat)(Z h1:ZN)(w:F2)(ay az:ZM)(ae af:ZP)(t J M:aA),O=[.val (dR s),.val au,.own (Z.map dC),.val eo,.own (h1.map dC),.own (g.map ov),.own (ae.map f5),.own (af.map f5),.val (dR w),.val (.lst (ay.map bI)),t,.val (.lst (az.map bI)),J,M]/\hv s Wd L E av os Z (p1 g++[(w,ay)]) ae/\hv s Wd L F aw y h1 (p2 g++[(w,az)]) af/\av+h1.length<=T+y.length/\aw+Z.length<=T+os.length/\Z.length+h1.length<=q.length+f.length+1/\ae.length+af.length<=u.length+v.length+1) ?_ (λN aa=>?_)
 ·rintro O ⟨av,aw,Z,h1,w,ay,az,ae,af,t,J,M,rfl,a,b,bV,b0,cn,cp⟩;refine⟨_,rfl,_,rfl,_,rfl,_,rfl,hO,by rw[Sv];lia,_,?_,av,aw,Z,h1,g++[(w,ay,az)],ae,af,_,_,_,_,_,_,by rw[SE];rfl,?_,?_,rfl,bV,b0,?_,?_,?_⟩
  ·lia
  ·unfold p1 at a⊢;rw[SE];exact a
  ·unfold p2 at b⊢;rw[SE];exact b
  ·rw[Sz,Tp];lia
  ·lia
  lia
 refine⟨_,rfl,_,rfl,rfl,d.1.1,d.1.2,c.1.1,c.1.2,rfl,Q bf,Q bg,Q ba,Q bb,_,rfl,hB (λlt=>?_) (λaD=>?_)⟩
 ·subst aP;refine⟨_,rfl,_,rfl,_,rfl,_,rfl,_,rfl,rfl,s,c.1,d.1,E,c.2,rfl,G.sp C.w X.w lt,λx aS=>G.fit j x (by lia) (C.px x aS),by have:=C.ln;lia,_,rfl,rfl,_,_,rfl,_,_,rfl,_,_,rfl,rfl,_,rfl,_,rfl,_,0,_,.inl rfl,rfl,rfl,_,rfl,e1,by rw[bj];lia,_,rfl,_,rfl,by rw[Sv];lia,_,rfl,aa _ ⟨j+1,S,q++[(cm c.1 d.1,iN s c.1 d.1 E c.2)],f,d.1,jw s c.1 d.1 E c.2,d.2,u++[(cm c.1 d.1,bJ s d.1,il s c.1 d.1 E c.2)],v,.val (dR d.1),.val (.lst ((iN s c.1 d.1 E c.2).map bI)),.val (f5 (cm c.1 d.1,bJ s d.1,il s c.1 d.1 E c.2)),?_,H.split G (by lia) X.w lt,I.whole,by lia,by rw[Sz,Tp];lia,?_,?_⟩⟩
  ·rw[SE,SE];rfl
  ·rw[Sz,Tp];lia
  rw[Sz,Tp];lia
 refine⟨_,rfl,_,rfl,rfl,c.1.1,c.1.2,d.1.1,d.1.2,rfl,Q ba,Q bb,Q bf,Q bg,_,rfl,hB (λlt=>?_) (λaE=>?_)⟩
 ·subst aQ;refine⟨_,rfl,_,rfl,_,rfl,_,rfl,_,rfl,rfl,s,d.1,c.1,F,d.2,rfl,G.sp X.w C.w lt,λx aS=>G.fit S x (by lia) (X.px x aS),by have:=X.ln;lia,_,rfl,rfl,_,_,rfl,_,_,rfl,_,_,rfl,rfl,_,rfl,_,rfl,_,0,_,.inl rfl,rfl,rfl,_,rfl,e1,by rw[bj];lia,_,rfl,_,rfl,by rw[Sv];lia,aa _ ⟨j,S+1,q,f++[(cm d.1 c.1,iN s d.1 c.1 F d.2)],c.1,c.2,jw s d.1 c.1 F d.2,u,v++[(cm d.1 c.1,bJ s c.1,il s d.1 c.1 F d.2)],.val (dR d.1),.val (.lst ((iN s d.1 c.1 F d.2).map bI)),.val (f5 (cm d.1 c.1,bJ s c.1,il s d.1 c.1 F d.2)),?_,H.whole,I.split G (by lia) C.w lt,by rw[Sz,Tp];lia,by lia,?_,?_⟩⟩
  ·rw[SE,SE];rfl
  ·rw[Sz,Tp];lia
  rw[Sz,Tp];lia
 have e:c.1=d.1:=tS bT bU (by lia);refine aa _ ⟨j,S,q,f,c.1,c.2,d.2,u,v,_,_,_,rfl,H.whole,?_,by lia,by lia,by lia,by lia⟩;rw[e];exact I.whole
theorem o9 :
  ca P w K mg base "box_of" ["slope","wide","low","high"] 4 (ck K 4 qm):=by
 refine dy Y.j5 qn rfl (λ_ _ _ _ _ _ _ d=>⟨_,(bB (cz (dO (aY (ah 1) (aY (bi (Fg B Y) d (aF (bi (Ml B Y) d (aF (ah 0) a9)) (aF (ah 1) a9))) (aY (ea (l2 (ah 2) (ah 3))) cd)))))),?_⟩);rintro o k f ⟨s,w,a,b,rfl,c,g,e,h,i,j,f,l⟩;refine cZ rfl ?_;have p:5000<=TI:=by decide
 have m:SB (if s.1<0 then -s.1 else s.1)<=4000:=by
  split
  ·exact Sx (TT e) (by decide)
  exact cf e
 have n:a8 (if s.1<0 then -s.1 else s.1) s.2:=by
  split
  ·exact⟨c.1,by rw[T5];exact c.2⟩
  exact c
 refine⟨_,rfl,_,rfl,rfl,s.1,s.2,rfl,_,rfl,rfl,_,_,w.1,w.2,rfl,n,g,m,cf h,cf i,cf j,_,rfl,_,rfl,_,_,rfl,rfl,by rw[Sv,Sv];lia,hO,?_⟩;rw[<-SE];exact l
theorem Mu :
  ca P w K mg base "paired" ["slope","low","high"] 10 (ck K 3 ql):=by
 refine Iu [false,true,true] Y.jY qO rfl (λ_ _ _ _ _ _ _ u=>⟨_,(aZ (i1 (Is (Ir (Cc (oi B Y) u (by rfl) (aF (ah 0) (aF lX (aF (ah 1) (aF lX (aF (ah 2) a9)))))))) (fF (n:=5) rfl (b7 (cx 3 qO.nd) (b7 (cx 4 qO.nd) (b7 (cx 5 qO.nd) (b7 (cx 6 qO.nd) (b7 (cx 7 qO.nd) fq))))))) (aZ (uG 8 (uF (i:=8) qO.nd rfl rfl (ts:=["wide","low_sheet","high_sheet"]) (fr:=["slope"]) (js:=[0]) (gx (ah 3)) (λ_ _ _ _=>(fF (n:=3) rfl (b7 (eW (i:=0) (show SW (["wide","low_sheet","high_sheet","slope"]:ZS) by decide +kernel) rfl (SH rfl)) (b7 (eW (i:=1) (show SW (["wide","low_sheet","high_sheet","slope"]:ZS) by decide +kernel) rfl (SH rfl)) (b7 (eW (i:=2) (show SW (["wide","low_sheet","high_sheet","slope"]:ZS) by decide +kernel) rfl (SH rfl)) fq))))) (λ_ _ _ _=>ij) (λ_ _ _ _=>(bi (o9 B Y) u (aF (ah 3) (aF (ah 0) (aF (ah 1) (aF (ah 2) a9)))))) ⟨rfl,by decide +kernel,rfl,by decide +kernel,hH (TC.mpr ⟨rfl,(S9 _)⟩),h3 rfl,by walk_at"ffr",rfl⟩)) (aZ (cA 9 qO.nd (l0 (CN (ah 7)) lX lX)) (bB (cz (dO (aY (ah 9) (aY (ea (l2 (ah 6) (ah 7))) (aY (ea (l2 (ea (l2 (ah 4) (ah 5))) (ah 8))) cd))))))))),?_⟩);rintro ae k ag ⟨s,Wd,L,F,G,os,ts,rfl,g,H,J,M,N,j⟩;refine⟨⟨rfl,trivial,trivial,trivial⟩,cZ (r:=[.val (dR s),.new (.lst (os.map dC)),.new (.lst (ts.map dC)),.no,.no,.no,.no,.no,.no,.no]) rfl ?_⟩;have hc:5000<=TI:=by decide
 refine⟨_,rfl,_,rfl,_,rfl,rfl,s,Wd,L,F,G,false,true,os,ts,rfl,g,H,J,M,N,λm O Q R ots v y z n S T=>⟨_,rfl,?_⟩⟩;refine⟨_,rfl,rfl,_,_,rfl,_,_,rfl,_,_,rfl,_,_,rfl,_,_,rfl,rfl,_,rfl,_,rfl,by rw[Sv];lia,?_⟩;refine Er (f:=ov) (h:=λp=>f5 (p.1,bJ s p.1,p.2.1++p.2.2)) (I:=λA=>∃a b c,A=[a,b,c,.val (dR s)]) (λp C A aj i U=>?_) ⟨_,_,_,rfl⟩ ?_
 ·obtain⟨a,b,c,rfl⟩:=i;have E:=v.p (p.1,p.2.1) (SJ.mpr ⟨p,C,rfl⟩);have W:=y.p (p.1,p.2.2) (SJ.mpr ⟨p,C,rfl⟩);obtain⟨X,ao,Z,h1⟩:=g.lw _ E.w;have aq:p.2.1.length<=3:=E.ln;have au:p.2.2.length<=3:=W.ln;exact⟨_,rfl,rfl,_,_,rfl,_,_,rfl,_,_,rfl,rfl,_,rfl,_,rfl,_,rfl,_,rfl,rfl,s,p.1,p.2.1,p.2.2,rfl,g.ls,X,g.c1,g.c2,Z,h1,by lia,U _ ⟨_,_,_,rfl⟩⟩
 refine⟨_,rfl,?_⟩;have ok:=tQ g v y z n S T;have em:(m.map λp=>f5 (p.1,bJ s p.1,p.2.1++p.2.2))=(m.map λp=>(p.1,bJ s p.1,p.2.1++p.2.2)).map f5:=by rw[SM];rfl
 have o:∀l:ZN,(l.map dC).length=l.length:=λl=>Sv ..;have d:∀l:ZP,(l.map f5).length=l.length:=λl=>Sv ..;rw[em];have hi:(m.map λp=>(p.1,bJ s p.1,p.2.1++p.2.2)).length=m.length:=Sv ..;have j:=j _ _ _ ok;generalize(m.map λp=>(p.1,bJ s p.1,p.2.1++p.2.2))=made at j hi⊢;rw[SE,SE,SE]at j;refine⟨_,rfl,_,rfl,?_⟩;rw[U9];have t:∀x:D,x=.str (if(!ots.isEmpty)=true then Str.ofString "high" else Str.ofString "low")->k (.new (.tup [x,.lst (R.map dC++ots.map dC),.lst (O.map f5++Q.map f5++made.map f5)])):=λx e=>by rw[e];exact j
 cases q:ots.isEmpty with
 |true=>
  rw[q]at t;exact mO rfl ⟨_,rfl,_,rfl,_,rfl,_,_,rfl,rfl,by rw[o,o];lia,_,rfl,_,rfl,_,_,rfl,rfl,by rw[d,d];lia,_,rfl,_,_,rfl,rfl,by rw[Sz,d,d,d];lia,hO,t _ rfl⟩
 |false=>
  rw[q]at t;exact nX rfl ⟨_,rfl,_,rfl,_,rfl,_,_,rfl,rfl,by rw[o,o];lia,_,rfl,_,rfl,_,_,rfl,rfl,by rw[d,d];lia,_,rfl,_,_,rfl,rfl,by rw[Sz,d,d,d];lia,hO,t _ rfl⟩
theorem Mv :
  ca P w K mg base "_law_right" ["_law_found","_law_slope_here","_law_low_here","_law_high_here"] 8 (ck K 4 rD):=by
 refine dy Y.hQ E4 rfl (λ_ _ _ _ _ _ _ p=>⟨_,(aZ (fc (kF (fg (g6 (fb (lf (T:="tuple") (ah 0) (by rfl) B.eb (k5 (v:=.ty "tuple") (u:=.type "tuple") (by rfl) B.fQ (by decide +kernel) rfl) rfl rfl rfl))) (fg (g5 (f:=λi j => !decide (i=j)) q6 (j6 (ah 0) (by rfl) B.fC) bt (dE _)) (lZ (g6 (fb (lf (T:="list") (ei 0) (by rfl) B.eb (k5 (v:=.ty "list") (u:=.type "list") (by rfl) B.gE (by decide +kernel) rfl) rfl rfl rfl))))))) (bB (cz h2)) fA) (aZ (cA 4 E4.nd (bi (oY B Y) p (aF (bi (Fa B Y) p (aF (ah 2) a9)) (aF (bi (Fa B Y) p (aF (ah 3) a9)) a9)))) (aZ (fc (sO (p.units) (ei 0) (hn (ea (gw (aY lX (aY lX cd)))) (um (lY (f:=λi j=>decide (i<j)) nJ (ei 4) bt (dE _)) (by rfl) B.jh) (λ_ _=>rfl)) (dE _)) (bB (cz h2)) fA) (aZ (kK PassesOwn.never rfl (gx (ei 0)) (cx 5 E4.nd) (aZ (fc (kF (fg (g6 (fb (lf (T:="tuple") (ah 5) (by rfl) B.eb (k5 (v:=.ty "tuple") (u:=.type "tuple") (by rfl) B.fQ (by decide +kernel) rfl) rfl rfl rfl))) (fg (g5 (f:=λi j => !decide (i=j)) q6 (j6 (ah 5) (by rfl) B.fC) bt (dE _)) (lZ (g6 (fb (bi (E9 B Y) p (aF (ei 5) a9)))))))) (bB (cz h2)) fA) (bB (fc (g6 (fb (bi (L9 B Y) p (aF (ei 5) (aF (bi (Mb B Y) p (aF (ah 1) (aF (ei 0) (aF (ei 5) a9)))) a9))))) (bB (cz h2)) fA)))) (aZ (fc (kF (fg (sO (p.units) (bi (Fa B Y) p (aF (ei 0) a9)) (dO (aY (ra (ei 4) (by rfl) B.iO) (aY (ei 4) cd))) (dE _)) (lZ (g6 (fb (lf (T:="list") (ei 0) (by rfl) B.eb (k5 (v:=.ty "list") (u:=.type "list") (by rfl) B.gE (by decide +kernel) rfl) rfl rfl rfl)))))) (bB (cz h2)) fA) (aZ (fc (g6 (fb (xu (ea (kN (ts:=["_law_box_here"]) (fr:=[]) (js:=[]) (gx (ei 0)) (λ_ _ _ _=>(eW (i:=0) (show SW (["_law_box_here"]:ZS) by decide +kernel) rfl (SH rfl))) (λ_ _ _ _=>ij) (λ_ _ _ _=>(bi (oW B Y) p (aF (ah 0) a9))) ⟨rfl,by decide +kernel,rfl,by decide +kernel,hH (S9 _),h3 rfl,by walk_at"ffr",rfl⟩)) rfl (by rfl) B.k9))) (bB (cz h2)) fA) (bB (cz (bi (rE B Y) p (aF (bi (E' B Y) p (aF (ea (l2 (ah 2) (ah 3))) a9)) (aF (bi (E' B Y) p (aF (ea (l2 (ei 0) (ei 0))) a9)) a9))))))))))),?_⟩);rintro b5 k b6 ⟨s,Q,G,os,ts,rs,J,rfl,L,aq,aQ,R,A,C,t,no,b8,X,a5⟩;refine cZ rfl ?_;have b9:5000<=TI:=by decide
 have hi:=LB L aq aQ R A C;have m:∀{z:Int}{a b:Nat},SB z<=a->a<=b->SB z<=b:=λh g=>Sx h g;have a6:rs.length<=16:=by have:=t.nr;lia
 have x1:J.length<=32:=by have:=t.nb;lia
 refine mP (λaf E=>?_) ?_
 ·refine⟨_,rfl,_,_,rfl,λ_=>rfl,_,rfl,eO ?_⟩;refine⟨_,rfl,_,rfl,_,_,rfl,rfl,_,rfl,eO ?_⟩;exact⟨_,rfl,_,_,_,.inl rfl,rfl,rfl,_,_,rfl,λ_=>rfl,_,rfl,eO E⟩
 refine⟨_,rfl,rfl,Q,os,rfl,A,C,λc n=>(X c (Tx _ n)).1,by lia,λZ av a'=>?_⟩;refine⟨_,rfl,rfl,Q,ts,rfl,A,C,λc n=>(X c (S3 _ n)).1,by lia,λh1 aw bb=>?_⟩;obtain⟨bf,bg⟩:=av.bits A C (by lia);obtain⟨bj,bq⟩:=aw.bits A C (by lia);refine⟨rfl,Z,h1,rfl,av.1.1,aw.1.1,cf bf,cf bg,cf bj,cf bq,?_⟩;have M:=tK av.1 aw.1;obtain⟨o,ax⟩:∃o,o=d1 (Z.1*h1.2-h1.1*Z.2) (Z.2*h1.2):=⟨_,rfl⟩;rw[<-ax];rw[show cm Z h1=o from ax.symm]at M;clear ax;obtain⟨M,em⟩:=M;rw[a',bb]at em;obtain⟨ay,bw⟩:=rL hi t M em;dsimp only;refine mP (λaf E=>?_) ?_
 ·walk_at"w";refine .inr ⟨_,rfl,?_⟩;have aS:decide (o.1<0)=G:=ay.symm;simp only[aS];clear aS ay t;cases G with
  |true=>
   refine⟨_,1,_,.inr rfl,rfl,rfl,.S,rfl,rfl,by decide,_,rfl,?_⟩;rw[SL trivial,show eqD (D.str (if true=true then Str.ofString "high" else Str.ofString "low")) (D.str (Str.ofString "high"))=true from lj _];exact eO E
  |false=>
   refine⟨_,0,_,.inr rfl,rfl,rfl,.S,rfl,rfl,by decide,_,rfl,?_⟩;rw[SL trivial,show eqD (D.str (if false=true then Str.ofString "high" else Str.ofString "low")) (D.str (Str.ofString "low"))=true from lj _];exact eO E
 clear ay;refine ix (λU=>∃N,U=[.val (.tup [.str (if G=true then"high" else"low"),.lst (rs.map dC),.lst (J.map f5)]),.val (dR s),.val (.lst (os.map dC)),.val (.lst (ts.map dC)),.val (dR o),N]) ?_ (λaf E=>?_);rotate_left
 ·refine⟨_,rfl,_,1,_,.inl rfl,rfl,rfl,_,rfl,?_⟩;refine qa (f:=dC) (rs:=rs) (done:=[]) (λpre U=>∃N,U=[.val (.tup [.str (if G=true then"high" else"low"),.lst (rs.map dC),.lst (J.map f5)]),.val (dR s),.val (.lst (os.map dC)),.val (.lst (ts.map dC)),.val (dR o),N]) ⟨_,rfl⟩ ?_ (λU ⟨N,e⟩=>E _ ⟨N,e⟩);rintro pre c aa U az ⟨N,rfl⟩ bA aB;have az:rs=pre++c::aa:=by simpa using az
  have n:=t.r c (by rw[az];simp);obtain⟨aD,aE,W,aU⟩:=hi.lw _ n.w;refine mP (λbD aG=>?_) ?_
  ·refine⟨_,rfl,_,_,rfl,λ_=>rfl,_,rfl,eO ?_⟩;refine⟨_,rfl,_,rfl,_,_,rfl,rfl,_,rfl,eO ?_⟩;exact⟨_,rfl,_,_,_,.inl rfl,rfl,rfl,rfl,c.1,rfl,aD,aE,_,rfl,eO aG⟩
  exact⟨_,rfl,_,_,_,.inl rfl,rfl,rfl,_,rfl,_,rfl,_,_,_,.inl rfl,rfl,rfl,_,rfl,_,_,_,.inl rfl,rfl,rfl,rfl,s,c.1,G,rfl,L,aD,aq,aE,cf aQ,cf R,W,aU,rfl,c.2,dh s G c.1,rfl,cf n.ln,λx aI=>lN.kC L.1 R A C (n.px x aI) (SF _),rT L aq hi.c1 hi.c2 aD aE W aU G,n.hp,_,rfl,eO (aB _ ⟨_,rfl⟩)⟩
 rintro U ⟨N,rfl⟩;refine mP (λaf E=>?_) ?_
 ·refine⟨_,rfl,_,1,_,.inl rfl,rfl,rfl,rfl,Q,rs,rfl,A,C,λc n=>(t.r c n).w,a6,λg3 bG bK=>?_⟩
  have bM:g3=(if o.1<0 then -o.1 else o.1,o.2):=rO bG.1 (by
   refine⟨M.1,?_⟩;show Ss (if o.1<0 then -o.1 else o.1) o.2=1
   split
   ·rw[T5];exact M.2
   exact M.2) (bK.trans bw)
  subst bM;refine⟨_,rfl,_,_,_,.inl rfl,rfl,rfl,_,rfl,_,rfl,_,_,_,.inl rfl,rfl,rfl,e1,.T [.I,.I],rfl,rfl,by decide,_,rfl,?_⟩;rw[SL rfl,show eqD (dR (if o.1<0 then -o.1 else o.1,o.2)) (.tup [.int (if o.1<0 then -o.1 else o.1),.int o.2])=true from lj _];refine eO ?_;exact⟨_,rfl,_,_,_,.inl rfl,rfl,rfl,_,_,rfl,λ_=>rfl,_,rfl,eO E⟩
 have aV:∀l:ZP,(l.map f5).length=l.length:=λl=>Sv ..;have gA:∀l:ZN,(l.map dC).length=l.length:=λl=>Sv ..;refine mP (λaf E=>?_) ?_
 ·refine⟨_,rfl,_,_,_,.inl rfl,rfl,rfl,_,rfl,by rw[aV];lia,?_⟩;refine mW (f:=f5) (h:=λ_=>.bl true) (λb O bR bT=>?_) ?_
  ·have q:=t.b b O;exact⟨_,rfl,rfl,b.1,b.2.1,b.2.2,rfl,q.lw,q.lh,m q.b1 (by decide),m q.b2 (by decide),m q.b3 (by decide),m q.b4 (by decide),q.w0,q.h0,cf q.ln,λx aI=>lN.kC L.1 R A C (q.px x aI) (SF _),q.hp,bT⟩
  exact⟨_,rfl,(λd G=>by obtain⟨_,_,rfl⟩:=SJ.mp G;rfl),_,rfl,eO E⟩
 obtain⟨g3,aj⟩:∃g3:ZN->List (ZK×ZM),g3=λl=>l.map λc=>([dR c.1],c.2):=⟨_,rfl⟩;obtain⟨H,ao⟩:∃H:List (ZK×ZM),H=J.map λb=>([dR b.1,dR b.2.1],b.2.2):=⟨_,rfl⟩;have aX:∀l:ZN,l.map dC=(g3 l).map qK:=λl=>by rw[aj];show _=(VD _ l).map _;rw[SM];rfl
 have bU:J.map f5=H.map qK:=by rw[ao,SM];rfl
 have a3:∀aM:List (ZK×ZM),(aM.map λg=>g.2).flatten.length=(aM.map λg=>g.2.length).sum:=λaM=>by rw[Xm,SM];rfl
 have a4:∀l:ZN,(∀c∈l,c.2.length<=3)->((g3 l).map λg=>g.2.length).sum<=l.length*3:=λl h=>by
  rw[aj];show((VD _ l).map _).sum<=_
  rw[SM];have:=pf (f:=(λg:ZK×ZM=>g.2.length)∘λc:cV=>([dR c.1],c.2)) (m:=3) (l:=l) h;lia
 have bX:=a4 (os++ts) λc n=>(X c n).2.1;have b':=a4 rs λc n=>(t.r c n).ln
 have bR:(H.map λg=>g.2.length).sum<=144:=by
  rw[ao,SM];have:=t.np;show(J.map λb=>b.2.2.length).sum<=144
  lia
 rw[Sz]at bX;have bY:((g3 rs++H).map λg=>g.2.length).sum<=192:=by rw[SE,Uk];lia
 refine⟨_,rfl,_,rfl,_,_,rfl,rfl,by rw[gA,gA];lia,?_⟩;rw[<-SE];refine⟨rfl,g3 (os++ts),by rw[<-aX];rfl,by lia,_,rfl,_,_,_,.inl rfl,rfl,rfl,_,rfl,_,_,_,.inl rfl,rfl,rfl,_,_,rfl,rfl,by rw[gA,aV];lia,rfl,g3 rs++H,by rw[SE,<-aX,<-bU];rfl,by lia,?_⟩
 have W:∀l:ZN,∀y∈((g3 l).map λx=>x.2).flatten,∃c∈l,y∈c.2:=λl y F=>by
  obtain⟨a,aN,F⟩:=Xr.mp F;obtain⟨b,O,rfl⟩:=SJ.mp aN;rw[aj]at O;obtain⟨c,n,rfl⟩:=SJ.mp O;exact⟨c,n,F⟩
 refine⟨rfl,((g3 (os++ts)).map λx=>x.2).flatten,((g3 rs++H).map λx=>x.2).flatten,rfl,by rw[a3];lia,by rw[a3];exact bY,λy F=>?_,λy F=>?_,λb aP=>?_,λy F=>?_,a5⟩
 ·obtain⟨c,n,h⟩:=W _ y F;exact((X c n).2.2 y h).1
 ·rw[SE,Xn]at F;rcases SO.mp F with z|z
  ·obtain⟨c,n,h⟩:=W _ y z;exact lN.kC L.1 R A C ((t.r c n).px y h) (SF _)
  obtain⟨a,aN,h⟩:=Xr.mp z;obtain⟨b,O,rfl⟩:=SJ.mp aN;rw[ao]at O;obtain⟨c,n,rfl⟩:=SJ.mp O;exact lN.kC L.1 R A C ((t.b c n).px y h) (SF _)
 ·show ew aP b _=ew aP b _
  have f:=t.f aP b;have e:∀l:ZN,((g3 l).map λx=>x.2)=ib l:=λl=>by rw[aj];show(VD _ l).map _=_;rw[SM];rfl
  have bZ:(H.map λx=>x.2)=nn J:=by rw[ao,SM];rfl
  have b0:ib (os++ts)=ib os++ib ts:=by unfold ib;rw[SE]
  rw[SE,e,e,bZ,EB,EB,nf,b0,nf];exact f
 obtain⟨c,n,h⟩:=W _ y F;exact((X c n).2.2 y h).2
theorem o5{f:TE}{hi:X4}(F:nR K "law" "law" AA f hi):
  kB P w K mg base j0 11 f hi ["_law_script"] (xj K):=by
 refine kB.imp (sp:=ck K 1 GR) ?_ (λa3 H Q E h=>P6 h);refine P5 (lv:=10) F k4 rfl (λ_ _ _ _ _ _ d=>⟨_,(aZ (PT (i:=1) k4.nd rfl (SH rfl) (BF (E6 B Y) d (by rfl) (aF (bi (E5 B Y) d (aF (ah 0) (aF bt a9))) a9))) (aZ (cA 2 k4.nd (bi (oQ B Y) d (hq 1 a9))) (aZ (cA 3 k4.nd bt) (aZ (cA 4 k4.nd bt) (aZ (fc (g5 (f:=λi j=>decide (i=j)) oN (bi (iP B Y) d (hq 1 (aF bt a9))) bt (dE _)) (aZ (cA 3 k4.nd bt) (bB (cA 4 k4.nd bt))) fA) (aZ (cA 5 k4.nd (ea (gw (aY (bi (iP B Y) d (hq 1 (aF (ah 3) a9))) (aY (bi (iP B Y) d (hq 1 (aF (ah 3) a9))) cd))))) (aZ (cA 6 k4.nd (K7 (Md B Y) d (by rfl) (BF (E6 B Y) d (by rfl) (aF (bi (E5 B Y) d (aF (ah 0) (aF bt a9))) a9)) (aY (ah 2) (aY lX (aY (ei 5) (aY (ah 4) cd)))))) (aZ (cA 7 k4.nd (K7 (Md B Y) d (by rfl) (BF (E6 B Y) d (by rfl) (aF (bi (E5 B Y) d (aF (ah 0) (aF bt a9))) a9)) (aY (ah 2) (aY lX (aY (ei 5) (aY (ah 4) cd)))))) (aZ (cA 8 k4.nd (bi (Mc B Y) d (aF (ah 6) a9))) (aZ (cA 9 k4.nd (bi (Mc B Y) d (aF (ah 7) a9))) (Dt (IF (cA 10 k4.nd (Is (Ir (Cc (Mu B Y) d (by rfl) (aF (ah 2) (aF (ah 8) (aF (ah 9) a9))))))) (IF (fc (DD (kF (fg (sO (d.units) (ah 8) (ah 6) (dE _)) (fg (sO (d.units) (ah 9) (ah 7) (dE _)) (lZ (g6 (fb (bi (Mv B Y) d (aF (ah 10) (aF (ah 2) (aF (ah 6) (aF (ah 7) a9)))))))))))) (bB (cz h2)) fA) (rF (j:=11) (i:=10) k4.nd rfl rfl (by walk_at"v") (SH rfl) (SH rfl) PassesOwn.never rfl (Bu (E' B Y) d (by rfl) (aF (ea (l2 (ei 10) (ei 10))) a9)) (aZ (fc (kF (fg (sO (d.units) (ah 8) (ah 6) (dE _)) (lZ (sO (d.units) (ah 9) (ah 7) (dE _))))) (bB (cz h2)) fA) (bB (cz (bi (Mv B Y) d (aF (bi (Mu B Y) d (aF (ah 2) (aF (ah 8) (aF (ah 9) a9)))) (aF (ah 2) (aF (ah 6) (aF (ah 7) a9)))))))))))))))))))))),?_⟩);rintro a4 k a5 ⟨S,rfl,aD,aE⟩;refine cZ rfl ?_;have a6:5000<=TI:=by decide
 have m:∀{z:Int}{a b:Nat},SB z<=a->a<=b->SB z<=b:=λh g=>Sx h g;walk_at"w";refine⟨S,0,rfl,by decide,λz=>?_⟩;refine⟨rfl,z,rfl,rfl,rfl,rfl,rfl,λs q G I t=>?_⟩
 try dsimp only
 refine EH (EH ?_)
 try dsimp only[Ts]
 refine Lh (λae=>∃u J:Nat,ae=[.val (.scr S),.bag,.val (dR s),.val (.int u),.val (.int J),.no,.no,.no,.no,.no,.no,.no]/\1<=u/\u<=9/\J<=2) (λN af=>?_) ?_
 ·walk_at"w";intro aG a' ba;refine⟨_,_,rfl,rfl,_,rfl,hB (λ_=>?_) (λ_=>?_)⟩
  ·exact EH (af _ ⟨9,0,rfl,by decide,by decide,by decide⟩)
  exact af _ ⟨4,2,rfl,by decide,by decide,by decide⟩
 rintro ae ⟨u,J,rfl,aI,aK,aj⟩;have ao:SB (u:Int)<=400:=Sx (wS (by lia) (by lia)) (by decide);refine⟨rfl,_,rfl,rfl,(u:Int),rfl,by lia,ao,λaq bb bc=>?_⟩;refine⟨rfl,_,rfl,rfl,(u:Int),rfl,by lia,ao,λau bf g3=>?_⟩;refine⟨e1,?_⟩;obtain⟨aM,rfl⟩:∃n:Nat,aq=n:=⟨aq.toNat,by lia⟩;obtain⟨aN,rfl⟩:∃n:Nat,au=n:=⟨au.toNat,by lia⟩;refine⟨_,rfl,rfl,S,1,rfl,by decide,λaO=>?_⟩;refine⟨rfl,aO,rfl,rfl,_,rfl,_,rfl,_,_,_,.inr rfl,rfl,rfl,_,rfl,rfl,s,false,aM,J,rfl,q,G,I,t,by lia,aj,λcs bg v=>?_⟩;refine⟨_,rfl,rfl,S,2,rfl,by decide,λaP=>?_⟩;refine⟨rfl,aP,rfl,rfl,_,rfl,_,rfl,_,_,_,.inr rfl,rfl,rfl,_,rfl,rfl,s,true,aN,J,rfl,q,G,I,t,by lia,aj,λp bj y=>?_⟩;refine⟨_,rfl,rfl,cs,rfl,by lia,λc o=>(v c o).ln,_,rfl,rfl,p,rfl,by lia,λc o=>(y c o).ln,?_⟩;obtain⟨Q,av⟩:∃Q:Nat,Q=qM (cs++p):=⟨_,rfl⟩
 have aw:=LC (cs:=cs++p) λc o=>by
  rcases SO.mp o with z|z
  ·exact⟨(v c z).lw.1,(v c z).b2⟩
  exact⟨(y c z).lw.1,(y c z).b2⟩
 rw[<-av,Sz]at aw;obtain⟨L,A,T⟩:=aw;have A:SB (Q:Int)<=161:=by lia
 clear av;have U:∀c∈cs,ia s (hM Q) (lN (Q*s.2)) false 0 c:=λc o=>(v c o).co q.1 t L A (T c (Tx _ o));have W:∀c∈p,ia s (hM Q) (lN (Q*s.2)) true 0 c:=λc o=>(y c o).co q.1 t L A (T c (S3 _ o));have ax:=LB q G I t L A
 have ay:∀c∈cs++p,hM Q c.1/\c.2.length<=3/\∀x∈c.2,jc x/\x.1.length<=6:=λc o=>by
  rcases SO.mp o with z|z
  ·exact⟨(U c z).w,(v c z).ln,(v c z).kC⟩
  exact⟨(W c z).w,(y c z).ln,(y c z).kC⟩
 clear v y T;intro f;refine⟨_,rfl,_,rfl,_,rfl,rfl,s,hM Q,lN (Q*s.2),8,0,cs,p,rfl,ax,⟨by lia,by lia⟩,by lia,U,W,λaQ M C O=>⟨_,rfl,?_⟩⟩;refine⟨_,rfl,_,rfl,v4,qL cs,qL cs,by decide,_,rfl,?_⟩;rw[SL rfl,lj];refine eO ?_;refine⟨_,rfl,_,rfl,v4,qL p,qL p,by decide,_,rfl,?_⟩;rw[SL rfl,lj];refine eO ?_;refine⟨_,rfl,_,rfl,_,rfl,_,rfl,rfl,s,Q,aQ,cs,p,M,C,rfl,q,G,I,t,L,A,O,by lia,by lia,ay,_,rfl,eO ?_⟩;dsimp only[w3];have aS:∀l:ZP,(l.map f5).length=l.length:=λl=>Sv ..;have gA:∀l:ZN,(l.map dC).length=l.length:=λl=>Sv ..;have bq:M.length<=16:=by have:=O.nr;lia
 have bw:C.length<=32:=by have:=O.nb;lia
 obtain⟨R,az⟩:∃R:List (ZK×ZM),R=(M.map λc=>([dR c.1],c.2))++C.map λb=>([dR b.1,dR b.2.1],b.2.2):=⟨_,rfl⟩;have aU:M.map dC++C.map f5=R.map qK:=by rw[az,SE,SM,SM];rfl
 have aV:(R.map λg=>g.2.length).sum<=400:=by
  rw[az,SE,Uk,SM,SM];have a:=pf (f:=(λg:ZK×ZM=>g.2.length)∘λc:cV=>([dR c.1],c.2)) (m:=3) (l:=M) λc o=>(O.r c o).ln;have b:=O.np;have e:(C.map ((λg:ZK×ZM=>g.2.length)∘λb:ha=>([dR b.1,dR b.2.1],b.2.2))).sum=(C.map λb=>b.2.2.length).sum:=rfl;lia
 refine⟨_,rfl,_,_,_,.inl rfl,rfl,rfl,_,rfl,_,_,_,.inl rfl,rfl,rfl,_,_,rfl,rfl,by rw[gA,aS];lia,rfl,R,by rw[<-aU];rfl,aV,_,rfl,RX,by show 11<12;decide,by decide,⟨_,_,_,rfl⟩,_,e_.pin (e_.no (e_.pin (e_.pin (e_.pin (e_.pin (e_.pin (e_.pin (e_.pin (e_.pin (e_.no (e_.no e_.nil))))))))))),_,rfl,_,rfl,v4,qL cs,qL cs,by decide,_,rfl,?_⟩;rw[SL rfl,lj];refine eO ?_;refine⟨_,rfl,_,rfl,v4,qL p,qL p,by decide,_,rfl,?_⟩;rw[SL rfl,lj];refine eO ?_;refine⟨_,rfl,_,rfl,_,rfl,rfl,s,hM Q,lN (Q*s.2),8,0,cs,p,rfl,ax,⟨by lia,by lia⟩,by lia,U,W,λX Z h1 aa=>?_⟩;exact⟨_,rfl,_,rfl,_,rfl,rfl,s,Q,X,cs,p,Z,h1,rfl,q,G,I,t,L,A,aa,by lia,by lia,ay,aE⟩
end ag2
theorem nM{l:PySem.W.OpenLaw}{w:Xy}{K:Su}{h:XE}{c:Str->Option SC}{bD:TE}(Z:∀x∈kG,Ee K x)(Y:m_ h4 K)(X:K.In h)(G:h.Ns Uf c)(f:c "law"=some (.ref bD))
  : ∃bG:X4,(∀(s:Tl)(v:SC),ZE s bG ⟨[v],[]⟩ [("_law_script",v)])/\∀a:XE,K.In a->a.Ns Uf c->kB l.prog w K c a j0 11 bD bG ["_law_script"] (xj K):=by
 obtain⟨⟨g,i,j,k,m,n,o,p,b,d,q,r,t,u,y,z,A,C,E,F,H,I,J,L,M,N,O,P,Q,R,S,T,U,h1,aa,hi,ae,af,ag,ai,hc,aj,ao,aq,ar,au,av,aw,ax,ay,az,aB,aC,aD,aE,aG,aH,aI,aJ,aK,aM,aN,_⟩,⟨aO,aP,aQ,aS,aU,aV,aX,a3,a4,a5,a6,a',ba,bb,bc,bf,bg,bj,bq,_⟩,⟨bw,_⟩,⟨_⟩⟩:=Y;obtain⟨bM,bA,bL,bK⟩:=aN;have e:=f.symm.trans (PySem.W.mg_of X G bL);cases e;have B:LM c:=⟨Th X G aO,Th X G aP,Th X G aQ,Th X G aS,Th X G aU,Th X G aV,Th X G aX,Th X G a3,Th X G a4,Th X G a5,Th X G a6,Th X G a',Th X G ba,Th X G bb,Th X G bc,Th X G bf,Th X G bg,Th X G bj,Th X G bq⟩;have e9:=bw.nB X G;have fj:=Z "widest_last" (by decide) h c X G;refine⟨bA,λs v=>?_,λa _ _=>?_⟩
 ·obtain⟨_,_,_,_,_,_,_,_,_,rfl,_⟩:=bK.ex;exact .of_eq rfl
 exact o5 B ⟨g.eT X G (by walk_at"b"),i.eT X G (by walk_at"b"),j.eT X G (by walk_at"b"),k.eT X G (by walk_at"b"),m.eT X G (by walk_at"b"),n.eT X G (by walk_at"b"),o.eT X G (by walk_at"b"),p.eT X G (by walk_at"b"),b.eT X G (by walk_at"b"),d.eT X G (by walk_at"b"),q.eT X G (by walk_at"b"),r.eT X G (by walk_at"b"),t.eT X G (by walk_at"b"),u.eT X G (by walk_at"b"),y.eT X G (by walk_at"b"),z.eT X G (by walk_at"b"),A.eT X G (by walk_at"b"),C.eT X G (by walk_at"b"),E.eT X G (by walk_at"b"),F.eT X G (by walk_at"b"),H.eT X G (by walk_at"b"),I.eT X G (by walk_at"b"),J.eT X G (by walk_at"b"),L.eT X G (by walk_at"b"),M.eT X G (by walk_at"b"),N.eT X G (by walk_at"b"),O.eT X G (by walk_at"b"),P.eT X G (by walk_at"b"),Q.eT X G (by walk_at"b"),R.eT X G (by walk_at"b"),S.eT X G (by walk_at"b"),T.eT X G (by walk_at"b"),U.eT X G (by walk_at"b"),h1.eT X G (by walk_at"b"),aa.eT X G (by walk_at"b"),hi.eT X G (by walk_at"b"),ae.eT X G (by walk_at"b"),af.eT X G (by walk_at"b"),ag.eT X G (by walk_at"b"),ai.eT X G (by walk_at"b"),hc.eT X G (by walk_at"b"),aj.eT X G (by walk_at"b"),ao.eT X G (by walk_at"b"),aq.eT X G (by walk_at"b"),ar.eT X G (by walk_at"b"),au.eT X G (by walk_at"b"),av.eT X G (by walk_at"b"),aw.eT X G (by walk_at"b"),ax.eT X G (by walk_at"b"),ay.eT X G (by walk_at"b"),az.eT X G (by walk_at"b"),aB.eT X G (by walk_at"b"),aC.eT X G (by walk_at"b"),aD.eT X G (by walk_at"b"),aE.eT X G (by walk_at"b"),aG.eT X G (by walk_at"b"),aH.eT X G (by walk_at"b"),aI.eT X G (by walk_at"b"),aJ.eT X G (by walk_at"b"),aK.eT X G (by walk_at"b"),aM.eT X G (by walk_at"b"),e9,fj⟩ bK
end
end L3
open PySem PySem.W PyProof.Rows
set_option maxRecDepth 100000 in
set_option maxHeartbeats 0 in
theorem PySem.Challenge.cw_slidecut_k39_corner_pieces_paired_holds : PySem.Challenge.rw_slidecut_k39_corner_pieces_paired.Holds := by
 refine holds_law L3.mn fun mn => holds_open (XP := XL Zpw []) (YP := L3.i2 L3.h4 L3.kG) L3.left (L3.Ex L3.h4 L3.kG) (L3.nA L3.h4 L3.kG) (fun s e => xl_of s (Xu.mp e).1) XL.keeps (by rfl) (by rfl) (by rfl) (fun s e => recFacts_of (Xu.mp e).2) (by rfl) mn (by decide +kernel) ⟨rfl, rfl, rfl, rfl, rfl, by decide +kernel⟩ ?hw ?hc
 case hw => w_witness2
 case hc => exact L3.nN (k := 11) rfl rfl ⟨rfl, by decide, by decide⟩ fun w K mg fI h Z Y X G t9 => L3.nM Z Y X G t9
#print axioms PySem.Challenge.cw_slidecut_k39_corner_pieces_paired_holds