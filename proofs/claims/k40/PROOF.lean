import PyProof.Rows.All
import Open.Line
import KE.KIsAll
import KE.KItem
import KE.IntBitsLaws
import OpenK.KCls
import OpenK.KList
import OpenK.KWalk
import OpenK.KCall
import OpenK.KMake
import KE.KLam
import KE.KSortKey
import PyProof.ListRange
import Wide.FinOn
import Lean
import PyProof.EqAt
import PyProof.EqKinds
import PyProof.TupleCall
import PyProof.AttrMissHeap
import PyProof.Cells
import PyProof.AutoListH
import PyProof.AutoSeq1
import PyProof.SeqI3
import PyProof.Rows.SortWalk
import PyProof.DictItemsLoops
import PyProof.Rows.Range3
import PyProof.DictRoadsH
import PyProof.DictKinds
import PyProof.DictIter
import PyProof.DictWalks
import PyProof.DictValues
import PyProof.FactsAll.dict_values
import PyProof.FactsAll.dict_valueiterator
import PyProof.NeKinds
import PyProof.ExcBaseAll.ValueError
import PyProof.ZipIter
import PyProof.ListCopy
import PyProof.CollectWalk
import PyProof.SliceStr2
import PyProof.Rows.StrFirst
import PyProof.StrLawsFirst
import PyProof.StrLawsIn
import PyProof.StrBlockI
import PyProof.Rows.StrNews
import PyProof.EnumMake
import PyProof.EnumFor
import PyProof.EnumStmt
import PyProof.Rows.SetFrom
import PyProof.MinMaxWalk
import PyProof.WalkInts
import PyProof.FactsAll.tuple_1
import PyProof.FactsAll.tuple_2
import PySem.Challenge.RW_slidecut_k40_rests_evened
open PySem renaming wpAny_bind→wp,wpAny_pure→SC,Value→SL,Shared→Tk,Addr→TD,intBits_mul_le→TE,sizeLine→TI,intBits_neg_le→TT,mainGlobals→TW,starEach→UF,model→UV,Expr→Wp,foldedSetIterable→WF,Program→WP,wpAny_newObj_type→W1,wpAny_holding→Xy,natAbs_fdiv_le→Xz,World→XB,Around→XC,assignEach→XD,swapsWith→XE,Stmt→XF,Heap→XG,wpAny_call_entry→XH,wpAny_truthy_bool→XI,behindInMarks→XJ,wpAny_mono→XK,sysModules→XM,intBits_add_le→XN,wpAny_passesOwn→XO,bootBuiltins→XQ,wpAny_typeNameOfWhole_itemiter→XR,sizeLine_eq→XS,cLine→XT,compareOp→XU,wpAny_typeNameOfWhole_keyiter→XV,wpAny_isOneOf_itemiter→XW,wpAny_Call_Name_kw→XX,wpAny_setField_rec→XY,Scope→XZ,builtinsNs→X0,wpAny_standAt→X1,swapsWithSole→X2,swappedStores→X3,wpAny_dictEntries→X4,Arguments→X5,wpAny_typeNameOf_itemiter→X6,FuncData→X7,wpAny_isInstance→X8,reduceHash→X9,wpAny_typeNameOf_keyiter→X',importedModules→Yb,backTo→Yc,wpAny_callSpecial?_slot→Yd,wpAny_specialOf→Ye,wpAny_rule→Yg,wpAny_pyIter_list→Yh,wpAny_field→Yi,sliceBounds→Yj,atKey_none_of_get→Yk,isSubtype_tuple_tuple→Yl,wpAny_notOrdered_dict→Ym,wpAny_isOneOf_keyiter→Yn,wpAny_forIn_list→Yo,eval→Yp,plainId_quiet→Yq,IsItemIter→Yr,wpAny_execs_nil→Ys,letOwnedTupleGo→Yt,wpAny_dictEpoch→Yu,codeAny_builtin→Yv,wpAny_tupleItemsOf→Yx,holding→Yz,recursionLimit→YA,intBits_sub_le→YB,Builtin→YC,wpAny_seqItems→YD,wpAny_fieldsOf→YE,firstArgMember→YF,DictEntry→YG,wpAny_pyIter_slot→YH,assignInOrder→YI,binaryOp→YJ,compTurn→YK,Comprehension→YL,wpAny_letGo→YM,wpAny_pyNext_list_item→YN,wpAny_Call_method_late→YQ,treeTable→YR,codeAmong→YS,standAt→YU,PassesOwn→YV,pyNext→YW,wpAny_pyNext_list_end→YX,codeAny_mono→YY,wpAny_updateSeq→Y1,bindArgs→Y2,call_meets→Y3,compEnvC→Y4,wpAny_loadName_local→Y5,intBits_le_of_natAbs→Y6,wpAny_newFunctionEnv→Y7,assign→Y8,rawInt→Y9,wpAny_setField→Za,dictSetDefault→Zb,wpAny_tryCatch→Zc,wpAny_loadName_cell→Zd,seqIndex_of→Ze,wpAny_of_eq→Zf,isTrue→Zh,NameKind→Zi,wpAny_pyHash_tuple→Zj,wpAny_eqBool_tuple→Zk,wpAny_attempt→Zl,IsItemIterOut→Zn,hashInt→Zo,entryOfKey→Zp,intKind→Zq,callerA→Zr,closureFor→Zs,IsTupleKey→Zt,seqIndex_neg→Zu,call_meetsIn→Zv,unpackItems→Zz,IsPart→ZA,eqIsQuiet→ZB,atKey→ZC,storedH_new→ZD,truthy→ZE,pyIter→ZF,Result→ZG,bindName→ZH,BindsTo→ZI,getItem→ZJ,setField→ZK
open PySem.Builtin.Int renaming intBits→SB
open PyProof.Rows renaming assignInOrder_cons→Yw,seqObj→Yy,subscriptTail_builtinR→YO,AllBare→YT,IntsAre→YZ,listItems_at→Y0,envOfC→Y',listUpdate_at→Zm
open PySem.W renaming openEnds→Zg,openSeen→Zw,openGood→Zx,Frag→Zy,kla_obj→ZL
abbrev SZ:=@if_pos
abbrev Tl:=@if_neg
abbrev Uf:=@congrArg
abbrev XA:=@decide_eq_true
open Int renaming gcd->Ss,ne_of_gt->SA,mul_pos->SE,mul_ne_zero->S0,mul_neg_of_pos_of_neg->S1,mul_zero->S4,mul_comm->S8,dvd_trans->Tn,le_of_lt->Tp,mul_eq_zero->Tv,mul_nonneg->Tw,natAbs_mul->TB,eq_of_mul_eq_mul_right->TK,dvd_mul_of_dvd_right->TN,gcd_comm->TX,zero_mul->T3,lt_trichotomy->T4,mul_neg_of_neg_of_pos->T5,pos_of_mul_pos_right->T9,emod_nonneg->Ug,mul_assoc->Uj,neg_gcd->Um,emod_lt_of_pos->Uo,neg_mul->Ut,natAbs_dvd_natAbs->Uu,mul_pos_of_neg_of_neg->Uz,neg_mul_neg->UB,neg_dvd->UI,mul_fdiv_cancel_left->UJ,ofNat_dvd_left->UK,pos_of_mul_pos_left->UM,mul_ediv_cancel'->UR,toNat_of_nonneg->UT,gcd_dvd_right->U1,mul_one->U9,gcd_pos_of_ne_zero_right->Vb,gcd_dvd_left->Vc,lt_or_eq_of_le->Vl,mul_nonneg_of_nonpos_of_nonpos->Vm,toNat->Vx,le_refl->Vy,gcd_mul_left->VN,dvd_coe_gcd->V0,dvd_sub->V1,add_comm->V2,neg_neg->V4,toNat_natCast->Wc,one_mul->We,sub_zero->Wg,fdiv_eq_ediv_of_dvd->Wn,eq_ofNat_of_zero_le->WE,gcd_zero_right->WG,eq_of_mul_eq_mul_left->WO,gcd_pos_of_ne_zero_left->WS,natAbs_natCast->WT,mul_ediv_cancel_left->W7
open PySem.W renaming Frag->Su,mg_none_of->Tg,kia_one->TP,fnOf->UG,keepIn->U',instObj->VB,methodObj->VC,lookIn->VF,kitOne->VG,codeIn->VJ,plainGet->Wv,findIn->Ww,kitx_list->Wx,kitx_dict->Wy,cellsFrom_some->Wz
open List renaming length_map->Sv,mem_cons_self->Sw,mem_cons_of_mem->Sx,length_append->Sz,map_append->SF,mem_cons->SH,mem_map->SI,map_cons->SJ,length_cons->SK,map_map->SM,mem_append->SO,getElem?_map->SP,mem_singleton->SQ,replicate->SR,Nodup->SS,append_nil->SU,size_toArray->SV,append_assoc->SX,getElem?_eq_getElem->SY,mem_append_right->S2,length->S3,forall_mem_nil->S5,range->S7,sum_cons->S',mem_of_getElem?->Tb,getElem?_eq_none->Td,nil_append->Tf,forall_mem_cons->Th,length_singleton->Ti,getElem?_append_right->To,cons_append->Tq,set->Tr,nodup_cons->Tt,mem_append_left->Tx,getElem?_set_ne->Tz,map_nil->TA,mem_range->TF,getElem?_set_self->TG,getElem?_append_left->TH,getElem?_eq_some_iff->TM,mem_filter->TO,length_take->TQ,not_mem_nil->TR,length_set->TV,set_set->TY,mem_filterMap->T7,length_replicate->T8,length_nil->Ub,map_congr_left->Ue,getElem?_replicate->Uh,ext_getElem?->Uk,drop_eq_getElem_cons->Ul,length_drop->Us,length_range->Uv,drop_length->Uw,all_eq_true->Ux,singleton_sublist->UO,take_of_length_le->U0,getElem?_of_mem->U3,eq_nil_of_length_eq_zero->U5,filter_append->U6,sum_append->U7,getElem?_range->Vi,length_filter_le->Vo,zip_cons_cons->Vp,filter_cons->Vr,perm_middle->Vv,sum_nil->Vw,map->Vz,isEmpty_map->VA,filterMap_cons->VE,of_mem_zip->VH,range'->VX,lookup_cons->VY,take_succ_cons->VZ,getElem_mem->V3,dropLast_concat_getLast->V6,exists_mem_of_ne_nil->V7,nodup_append->Wb,mem_of_mem_take->Wf,map_inj_right->Wk,mem_flatten->Wo,eq_nil_or_concat->Wq,concat_eq_append->Wr,eraseIdx_cons_succ->WB,eraseIdxIfInBounds_toArray->WC,getElem?_eq_none_iff->WI,getElem?_inj->WK,range_eq_range'->WL,filterMap_cons_none->WQ,filterMap_cons_some->WR,sublist_append_right->WV,length_pos_iff->WW,length_pos_of_mem->WX,filter_cons_of_pos->WY,filter_cons_of_neg->WZ,getElem?_cons_succ->W6,isEmpty_iff->W8,getElem_take->W9,take_append_drop->W',mem_of_mem_drop->Xa,pairwise_map->Xe,dropLast_concat->Xi,flatMap_cons->Xj,singleton_append->Xk,perm_append_singleton->Xl,length_flatten->Xq,append_cancel_left->Xr
open Nat renaming le_trans->Sy,le_refl->SD,ne_of_lt->S6,zero_le->S9,lt_of_lt_of_le->Ta,mod_eq_of_lt->Te,gcd->Tj,lt_irrefl->TS,ne_of_gt->TU,zero_add->TZ,le_succ->Ui,mod_lt->Uy,le_of_lt->UE,add_mod_right->UN,gcd_dvd_left->U2,gcd_dvd_right->Vd,dvd_trans->Ve,gcd_mul_left->Vf,mul_comm->Vg,le_of_ble_eq_true->Vh,le_of_eq->VL,gcd_comm->VM,eq_of_mul_eq_mul_left->VO,one_mul->VQ,le_of_dvd->VS,mod_self->V5,add_assoc->V9,lt_or_ge->Wj,eq_zero_or_pos->Wu,gcd_mul_right->WH,lt_of_le_of_lt->W5,lt_succ_of_lt->Xh,sub_add_cancel->Xn
open Or renaming inl->SG,inr->T6
open Option.some renaming inj->SN,injEq->Vu
open Bool renaming false_ne_true->SW,and_eq_true->TJ,false_eq_true->TL,not_true->UP,eq_iff_iff->VW,beq_eq_decide_eq->WD,and_eq_true_iff->Xx
open Ne renaming symm->Tc
open False renaming elim->Ts
open PySem renaming Env->Tu,mem_of_lookup->Ur,sizeLine->U8,natAbs_fdiv_le->VP,Fin->V',sizeLine_eq->Wt,evalArgs_none->WA,compStart->WJ
open Prod renaming ext->TC,snd->Un,fst->Vs
open PySem.F renaming plainAttrs_list->T',plain_max_loop->UW,slot_dict_get->Vq,slot_list_append->VU,type_list_append->VV,plainAttrs_dict->Wa,slot_list_pop->Wh,type_list_pop->Wi,slot_list_extend->WM,type_list_extend->WN,type_dict_get->W3,entry_dict_get->W4,slot_dict_items->Xb,slot_dict_setdefault->Xc,plain_list_iadd->Xf,entry_max_loop->Xg
open Classical renaming propDecidable->Ua,byContradiction->UU
open List.cons renaming inj->Uc,injEq->UQ
open Rat renaming intCast_mul->Ud,mul_pos->US,intCast_add->Vn,not_lt->Wl,le_of_lt->Wm,mul_le_mul_of_nonneg_right->Xm,intCast_natCast->Xp
open Sum renaming inl->Up,inr->Uq
open List.Sublist renaming append->UA,refl->Vk,cons_cons->WU
open Prod.mk renaming injEq->UC
open Option renaming map_eq_some_iff->UD,map_some->UL,getD_none->Va,isSome_iff_exists->VI,isNone_iff_eq_none->VT,isSome_map->W2
open Array renaming getElem?_toList->UH,length_toList->UX,isEmpty_iff->Vt,getElem?_eq_none->VD,forIn_toList->V8,toList_append->Xd
open PyProof.Rows renaming callWith_type1->UY,envOfC->U4,slot_tuple_getitem->VK
open True renaming intro->UZ
open ForInStep renaming yield->Vj
open PySem.Builtin.Int renaming intBits->VR
open List.Perm renaming trans->Ws,refl->Xu,append_left->Xv
open Nat.Coprime renaming dvd_of_dvd_mul_left->Xo
open Decidable renaming byContradiction->Xw
abbrev Z2:=List (PySem.Addr×PySem.Obj)
abbrev Z1:=List PySem.Stmt
abbrev Z0:=List PySem.Expr
abbrev ZZ:=List PySem.Addr
abbrev ZY:=List PySem.Value
abbrev ZX:=List PySem.Str
abbrev ZT:=List Nat
abbrev ZM:=List Int
abbrev Z3:=List ZM
open PySem.Challenge renaming rw_slidecut_k40_rests_evened->Zrw,pw_slidecut_k40_rests_evened->Zpw
set_option Elab.async false
set_option linter.all false
set_option genSizeOf false
set_option bootstrap.genMatcherCode false
noncomputable section
local macro_rules | `(tactic| lia) => `(tactic| with_reducible first | assumption | rfl | exact Nat.le_refl _ | exact Nat.le_trans ‹_› (by decide) | exact Nat.le_trans (Nat.le_of_eq ‹_›) ‹_› | exact Nat.le_trans (Nat.le_of_eq (Eq.symm ‹_›)) ‹_› | exact Nat.lt_of_lt_of_le ‹_› (by decide) | exact Nat.lt_of_le_of_lt ‹_› (by decide) | exact Nat.le_of_lt ‹_› | exact Int.le_of_lt ‹_› | exact Int.ne_of_gt ‹_› | exact Int.not_lt.mp ‹_› | exact Int.not_lt.mpr ‹_› | exact Int.not_le.mpr ‹_› | exact Int.natCast_nonneg _ | contradiction)
local macro_rules | `(tactic| walk_at"v") => `(tactic| first | exact SG rfl | exact T6 (SG rfl) | exact T6 (T6 rfl))
local macro_rules | `(tactic| walk_at"f") => `(tactic| first | exact .inl rfl | exact .inr rfl | assumption)
theorem h6:3<=U8:=by decide
theorem e7:2<=U8:=by decide
theorem v3:0<=U8:=by decide
theorem zu:10000<=U8:=by decide
theorem cb{a b c:Nat}(h:a<=b)(g:b<=c:=by decide):a<=c:=Sy h g
namespace L3
open PySem PySem.W PySem.Spec PySem.Calls
open PyProof.Rows hiding K
noncomputable def lz(h:XG)(name:Str):Option (Option SL):=match h.get? TW with
 |some ⟨_,_,.dict a _,_⟩=>(match a.toList.find? (·.key.isStr name)with
   |some e=>some (some e.val)
   |none=>if a.toList.any (·.refKey)then none else some none)
 |_=>none
noncomputable def zv(h:XG)(a:SL)(q:Str):Bool:=match a with
 |.ref c=>(match h.get? c with
   |some ⟨_,_,.fields b,_⟩=>(match b.toList with|_::.str n _::_=>n==q|_=>false)
   |_=>false)
 |_=>false
def zw(h:XG)(x:Str):Option (Str×Str×X5×FuncBody×XZ×TD×List (Str×TD)×SL×TD×Bool):=match lz h x with
 |some (some (.ref f))=>(match h.get? f with
  |some ⟨_,_,.func a,_⟩=>some (a.name,a.qualname,a.params,a.body,a.scope,a.globals,a.closure,a.defaults,a.builtins,zv h a.code x)
  |_=>none)
 |_=>none
noncomputable def zx(x:Str)(st:XF):Option (Str×Str×X5×FuncBody×XZ×TD×List (Str×TD)×SL×TD×Bool):=match st with
 |.FunctionDef _ a b _ _ _ sc _ _ _=>some (x,x,a,.stmts b,sc,TW,[],.none,X0,true)
 |_=>some (x,x,⟨[],[],none,[],[],none,[]⟩,.stmts [],{kind:=.function,names:=[],isGenerator:=false,isCoroutine:=false},TW,[],.none,X0,true)
def zy(h:XG)(x:Str):Option (Str×Int×Int):=match lz h x with
 |some (some (.ref p))=>(match h.get? p with
  |some ⟨.type "tuple",_,.seq a _,_⟩=>(match a.toList with|[.int i _,.int j _]=>some (x,i,j)|_=>none)
  |_=>none)
 |_=>none
def zz(h:XG)(x:Str):Option (Str×(Int ⊕ Str)):=match lz h x with
 |some (some (.int i _))=>some (x,.inl i)
 |some (some (.str s _))=>some (x,.inr s)
 |_=>none
abbrev cV(x:Str)(s:XF):Str×XF:=(x,s)
abbrev MJ(x:Str)(i j:Int):Str×Int×Int:=(x,i,j)
structure mc where
 fs:List (Str×XF)
 bs:ZX
 ts:List (Str×Int×Int)
 cs:List (Str×(Int ⊕ Str))
abbrev kK:Type:=List (Option (Str×Str×X5×FuncBody×XZ×TD×List (Str×TD)×SL×TD×Bool))×List (Option (Option SL))×List (Option (Str×Int×Int))×List (Option (Str×(Int ⊕ Str)))
def zA(t:mc)(s:Tk):kK:=(t.fs.map λp=>zw s.heap p.1,t.bs.map λb=>lz s.heap b,t.ts.map λp=>zy s.heap p.1,t.cs.map λp=>zz s.heap p.1)
def zB(t:mc)(_:XB):kK:=(t.fs.map λp=>zx p.1 p.2,t.bs.map λ_=>some none,t.ts.map λp=>some p,t.cs.map λp=>some p)
theorem iH{b c d:Type}{E:Option b}{F:b->c×d}{a:c×d}(e:E.map (λs=>(F s).1)=some a.1)(f:E.map (λs=>(F s).2)=some a.2):E.map F=some a:=by
 cases E with
 |none=>cases e
 |some x=>
  have g:=SN e;have h:=SN f;exact Uf some (TC g h)
theorem MK{p q:WP}{loose:ZX}{Xt:Tk->Bool}{b:Type}{Yf:Tk->b}{Ya:XB->b}{N:Nat}(c:∀w:XB,(Zg YR p w N).map (λs=>(Zw q loose (Yb p.main.body) Xt true s).1)=some (Zx q loose).1)(d:∀w:XB,(Zg YR p w N).map (λs=>(Zw q loose (Yb p.main.body) Xt true s).2)=some (Zx q loose).2)(e:∀w:XB,(Zg YR p w N).map Yf=some (Ya w)):LeftO p q loose Xt Yf Ya N:=
 λw=>iH (F:=λs=>(Zw q loose (Yb p.main.body) Xt true s,Yf s)) (a:=(Zx q loose,Ya w)) (iH (c w) (d w)) (e w)
def lA(h:XG)(x:Str):Option TD:=match lz h x with
 |some (some (.ref f))=>(match h.get? f with
  |some ⟨_,_,.func b,_⟩=>(match b.code with
   |.ref c=>(match h.get? c with
    |some ⟨.type "code",_,.fields a,_⟩=>(match (a[11]?:Option SL),a.getD 18 .none,a.getD 7 .none,a.getD 9 .none,a.getD 10 .none with
     |some (.ref P),.str _ _,.int _ _,.bool _,.int _ _=>if c=P then none else some P
     |_,_,_,_,_=>none)
    |_=>none)
   |_=>none)
  |_=>none)
 |_=>none
noncomputable def isTab(o:Obj):Bool:=match o.data with
 |.fields a=>a.isEmpty&&o.slots.isEmpty&&(match o.cls,o.dict with|.none,none=>true|_,_=>false)
 |_=>false
def v4(h:XG):Option TD:=match lz h "__builtins__" with
 |some (some (.ref a))=>(match h.get? a with
  |some ⟨.type "module",some d,.plain,_⟩=>if d=X0 then some a else none
  |_=>none)
 |_=>none
def Fi(h:XG)(a:ZX)(b:TD)(x:Str):Bool:=(match lA h x with
 |some P=>P != TW&&P != b&&(match h.get? P with|some o=>isTab o|none=>false)
 |none=>false)&&(a.find? λy=>lA h y==lA h x)==some x
def zC(h:XG)(b:ZX):Bool:=match v4 h with
 |some a=>a != X0&&a != TW&&b.all (Fi h b a)
 |none=>false
def tM(t:mc)(a:ZX)(s:Tk):kK×Bool:=(zA t s,zC s.heap a)
def tN(t:mc)(w:XB):kK×Bool:=(zB t w,true)
section
noncomputable def d_(i:Nat):XF:=Zpw.main.body.getD i (.Pass ⟨0,0,0,0⟩)
abbrev zD:XF:=d_ 5
abbrev zE:XF:=d_ 6
abbrev zF:XF:=d_ 7
abbrev zG:XF:=d_ 8
abbrev zH:XF:=d_ 9
abbrev zI:XF:=d_ 10
abbrev zJ:XF:=d_ 11
abbrev zK:XF:=d_ 12
abbrev zL:XF:=d_ 14
abbrev zM:XF:=d_ 15
abbrev zN:XF:=d_ 16
abbrev zO:XF:=d_ 17
abbrev zP:XF:=d_ 18
abbrev zQ:XF:=d_ 19
abbrev zR:XF:=d_ 21
abbrev zS:XF:=d_ 22
abbrev zT:XF:=d_ 23
abbrev zU:XF:=d_ 24
abbrev zV:XF:=d_ 25
abbrev zW:XF:=d_ 26
abbrev zX:XF:=d_ 28
abbrev zY:XF:=d_ 29
abbrev zZ:XF:=d_ 30
abbrev z0:XF:=d_ 31
abbrev z1:XF:=d_ 32
abbrev z2:XF:=d_ 34
abbrev z3:XF:=d_ 35
abbrev z4:XF:=d_ 36
abbrev z5:XF:=d_ 37
abbrev z6:XF:=d_ 38
abbrev z7:XF:=d_ 39
abbrev z8:XF:=d_ 40
abbrev z9:XF:=d_ 41
abbrev z':XF:=d_ 42
abbrev Aa:XF:=d_ 43
abbrev Ab:XF:=d_ 44
abbrev Ac:XF:=d_ 45
abbrev Ad:XF:=d_ 46
abbrev Ae:XF:=d_ 47
abbrev Af:XF:=d_ 48
abbrev Ag:XF:=d_ 49
abbrev Ah:XF:=d_ 50
abbrev Ai:XF:=d_ 51
abbrev Aj:XF:=d_ 52
abbrev Ak:XF:=d_ 53
abbrev Al:XF:=d_ 54
abbrev Am:XF:=d_ 55
abbrev An:XF:=d_ 56
abbrev Ao:XF:=d_ 57
abbrev Ap:XF:=d_ 58
abbrev Aq:XF:=d_ 59
abbrev Ar:XF:=d_ 60
abbrev As:XF:=d_ 61
abbrev At:XF:=d_ 62
abbrev Au:XF:=d_ 63
abbrev Av:XF:=d_ 64
abbrev Aw:XF:=d_ 65
abbrev Ax:XF:=d_ 66
abbrev Ay:XF:=d_ 67
abbrev Az:XF:=d_ 68
abbrev AA:XF:=d_ 69
abbrev AB:XF:=d_ 70
def hR:mc:=⟨[cV "greatest_divisor" zD,cV "plus" zE,cV "minus" zF,cV "times" zG,cV "under" zH,cV "against" zI,cV "unsigned" zJ,cV "ranks" zK,cV "point" zL,cV "at" zM,cV "slid" zN,cV "crossed" zO,cV "hand_of" zP,cV "meet" zQ,cV "cut_ring" zR,cV "cut_sheet" zS,cV "cut_upright" zT,cV "cut_level" zU,cV "copied" zV,cV "moved" zW,cV "split" zX,cV "widest_last" zY,cV "alike" zZ,cV "matched" z0,cV "evened" z1,cV "_law_cell" z2,cV "_law_bag" z3,cV "_law_draw" z4,cV "_law_measure" z5,cV "_law_low" z6,cV "_law_spot" z7,cV "_law_whole" z8,cV "_law_line" z9,cV "_law_count" z',cV "_law_part" Aa,cV "_law_left" Ab,cV "_law_is_spot" Ac,cV "_law_is_bulging" Ad,cV "_law_between" Ae,cV "_law_cut" Af,cV "_law_sheet" Ag,cV "_law_first" Ah,cV "_law_kept" Ai,cV "_law_lies" Aj,cV "_law_copied" Ak,cV "_law_product" Al,cV "_law_less" Am,cV "_law_pin" An,cV "_law_box" Ao,cV "_law_is_box" Ap,cV "_law_is_low" Aq,cV "_law_size" Ar,cV "_law_high" As,cV "_law_corner" At,cV "_law_slope" Au,cV "_law_shares" Av,cV "_law_rest" Aw,cV "_law_pieces" Ax,cV "_law_right_pair" Ay,cV "_law_right" Az,cV "_law_lent" AA,cV "law" AB],["len","abs","int","bool","tuple","isinstance","range","all","sum","list","ValueError","zip","str","enumerate","set","max","min","sorted","dict"],[MJ "NOTHING" 0 1],[]⟩
def kf:List Str:=["widest_last"]
set_option maxRecDepth 100000
set_option maxHeartbeats 0
theorem l4:Zrw.wellSaid=true:=by kernel_rfl
theorem ML:∀w:XB,(Zg YR Zrw.row.prog w 20000).map (λs=>(Zw Zpw [] (Yb Zrw.row.prog.main.body) (λs=>xlAt Zpw [] s&&recOk (RowW.records (OpenRow.toRowW Zrw.row)) s) true s).1)=some (Zx Zpw []).1:=λw=>by kernel_rfl
theorem MM:∀w:XB,(Zg YR Zrw.row.prog w 20000).map (λs=>(Zw Zpw [] (Yb Zrw.row.prog.main.body) (λs=>xlAt Zpw [] s&&recOk (RowW.records (OpenRow.toRowW Zrw.row)) s) true s).2)=some (Zx Zpw []).2:=λw=>by kernel_rfl
theorem MN:∀w:XB,(Zg YR Zrw.row.prog w 20000).map (tM hR kf)=some (tN hR w):=λw=>by kernel_rfl
theorem left:LeftO Zrw.row.prog Zpw [] (λs=>xlAt Zpw [] s&&recOk (RowW.records (OpenRow.toRowW Zrw.row)) s) (tM hR kf) (tN hR) 20000:=MK (p:=Zrw.row.prog) (q:=Zpw) (loose:=[]) (Xt:=(λs=>xlAt Zpw [] s&&recOk (RowW.records (OpenRow.toRowW Zrw.row)) s)) (Yf:=tM hR kf) (Ya:=tN hR) (N:=20000) ML MM MN
end
set_option Elab.async false
set_option linter.all false
set_option maxRecDepth 100000
abbrev iN:=Sum Int Str
def Fj:iN->SL->Bool
 |.inl k,v=>Value.isInt k v
 |.inr x,v=>Value.isStrOf x v
noncomputable def MO(w:XB):iN->Int
 |.inl k=>Zo k
 |.inr x=>hashStr w x
theorem n7:∀{k:iN}{v:SL},Fj k v=true->(∃i t,k=Up i/\v=Value.int i t)\/(∃x t,k=Uq x/\v=Value.str x t)
 |.inl i,v,h=>by
  obtain⟨t,e⟩:=Value.isInt_shape (k:=i) (v:=v) h;exact .inl ⟨i,t,rfl,e⟩
 |.inr x,v,h=>by
  obtain⟨t,e⟩:=Value.isStrOf_shape (x:=x) (v:=v) h;exact .inr ⟨x,t,rfl,e⟩
theorem MP(a b:Int):decide ((Up a:iN)=Up b)=(a==b):=by
 by_cases e:a=b
 ·subst e;simp
 have h:¬(Up a:iN)=Up b:=λq=>e (Sum.inl.inj q);rw[decide_eq_false h];exact(beq_eq_false_iff_ne.mpr e).symm
theorem MQ(a b:Str):decide ((Uq a:iN)=Uq b)=decide (a=b):=by
 by_cases e:a=b
 ·subst e;simp
 have h:¬(Uq a:iN)=Uq b:=λq=>e (Sum.inr.inj q);rw[decide_eq_false h,decide_eq_false e]
theorem MR(a:Int)(b:Str):decide ((Up a:iN)=Uq b)=false:=decide_eq_false (λq=>nomatch q)
theorem MS(a:Str)(b:Int):decide ((Uq a:iN)=Up b)=false:=decide_eq_false (λq=>nomatch q)
def AC(c:WP)(w:XB):PySem.KeyKind c w iN where
 is:=Fj
 hash:=MO w
 inj:=λv a b l g=>by
  rcases n7 l with⟨i,t,rfl,rfl⟩|⟨x,t,rfl,rfl⟩
  ·rcases n7 g with⟨j,u,rfl,e⟩|⟨y,u,rfl,e⟩
   ·injection e with d _;rw[d]
   exact nomatch e
  rcases n7 g with⟨j,u,rfl,e⟩|⟨y,u,rfl,e⟩
  ·exact nomatch e
  injection e with d _;rw[d]
 byValue:=λk v h=>by
  rcases n7 h with⟨i,t,rfl,rfl⟩|⟨x,t,rfl,rfl⟩<;>rfl
 pyHash:=λf h=>by
  rcases n7 f with⟨i,t,rfl,rfl⟩|⟨x,t,rfl,rfl⟩
  ·exact wpAny_pyHash_int h
  exact wpAny_pyHash_str h
 eqBool:=λm f h=>by
  rcases n7 m with⟨i,t,rfl,rfl⟩|⟨x,t,rfl,rfl⟩
  ·rcases n7 f with⟨j,u,rfl,rfl⟩|⟨y,u,rfl,rfl⟩
   ·rw[MP]at h;exact wpAny_eqBool_int h
   rw[MR]at h;exact SeqAt.EqAt.int_str i t y u _ _ _ _ h
  rcases n7 f with⟨j,u,rfl,rfl⟩|⟨y,u,rfl,rfl⟩
  ·rw[MS]at h;exact SeqAt.EqAt.str_int x t j u _ _ _ _ h
  rw[MQ]at h;exact wpAny_eqBool_str h
 «strs»:=λk x t v h=>by
  rcases n7 h with⟨i,u,rfl,e⟩|⟨y,u,rfl,e⟩
  ·exact nomatch e
  injection e with d _
  subst d
  cases v<;>rfl
inductive V where
 |non|bl (b:Bool)|int (i:Int)|str (x:Str)|byt (b:Array UInt8)|flt (b:UInt64)|ref (a:TD)|ty (n:String)
 deriving DecidableEq
abbrev ZQ:=List V
def eb:V->SL->Prop
 |.non,u=>u=Value.none
 |.bl b,u=>u=Value.bool b
 |.int i,u=>∃t,u=Value.int i t
 |.str x,u=>∃t,u=Value.str x t
 |.byt b,u=>∃t,u=Value.bytes b t
 |.flt b,u=>∃t,u=Value.float b t
 |.ref a,u=>u=Value.ref a
 |.ty n,u=>u=Value.type n
abbrev bN:ZQ->ZY->Prop:=Paired eb
theorem bN.length{a:ZQ}{b:ZY}(r:bN a b):a.length=b.length:=Paired.length r
theorem bN.get:∀{a:ZQ}{b:ZY}{i:Nat}{x:V},bN a b->a[i]?=some x->∃u,b[i]?=some u/\eb x u
 |_,_,_,_,.nil,e=>by simp at e
 |_,_,0,_,.cons r _,e=>by simp at e;subst e;exact⟨_,rfl,r⟩
 |_,_,i+1,x,.cons _ t,e=>by
  obtain⟨u,c,d⟩:=bN.get (i:=i) (x:=x) t (by simpa using e);exact⟨u,by simpa using c,d⟩
theorem bN.set{x:V}{u:SL}(r:eb x u):∀{a:ZQ}{b:ZY}(i:Nat),bN a b->bN (a.set i x) (b.set i u)
 |_,_,_,.nil=>.nil
 |_,_,0,.cons _ t=>.cons r t
 |_,_,i+1,.cons q t=>.cons q (bN.set r i t)
theorem bN.append:∀{a b:ZQ}{c d:ZY},bN a c->bN b d->bN (a++b) (c++d)
 |_,_,_,_,.nil,s=>s
 |_,_,_,_,.cons r t,s=>.cons r (bN.append t s)
theorem bN.take:∀{a:ZQ}{b:ZY}(n:Nat),bN a b->bN (a.take n) (b.take n)
 |_,_,0,_=>.nil
 |_,_,_+1,.nil=>.nil
 |_,_,n+1,.cons r t=>.cons r (bN.take n t)
theorem bN.drop:∀{a:ZQ}{b:ZY}(n:Nat),bN a b->bN (a.drop n) (b.drop n)
 |_,_,0,r=>r
 |_,_,_+1,.nil=>.nil
 |_,_,n+1,.cons _ t=>bN.drop n t
def pf:Option V->Option SL->Prop
 |some v,some u=>eb v u
 |none,none=>True
 |_,_=>False
def AD{a:Type}:List (a×V)->List (a×SL)->Prop:=Paired λ(p:a×V)(q:a×SL)=>p.1=q.1/\eb p.2 q.2
def kV:iN->V
 |.inl i=>.int i
 |.inr x=>.str x
inductive el where
 |lst(xs:ZQ)
 |tup(xs:ZQ)
 |dK(kvs:List (iN×V))|dT (kvs:List (List iN×V))
 |set(S:Int->Bool)(n:Nat)
 |ins(C fE:TD)(fs:List (Str×V))
 |own(x:TD)
 |xd(fs:List (Str×V))
 |met(f x:TD)
 |rng(lo hi:Int)
 |frz(o:Obj)(u:el)
 |tbl(ps:Array SL)
 |ext(φ:XG->Prop)
abbrev al:=TD->Option el
noncomputable def ed(H:al)(a:TD)(o:el):al:=λb=>if b=a then some o else H b
theorem dx{H:al}{a:TD}{o:el}:ed H a o a=some o:=by unfold ed;rw[SZ rfl]
theorem bO{H:al}{a b:TD}{o:el}(h:b≠a):ed H a o b=H b:=by unfold ed;rw[Tl h]
theorem hL{H:al}{a b:TD}{o:el}(h:H a=some o)(c:H b=none):a≠b:=by
 intro e;subst e;rw[h]at c;cases c
def MT(H:al)(h:XG)(a:TD)(g:Array SL):Prop:=∃b:Array SL,h.get? a=some {cls:=.none,data:=.fields b}/\TriplesOk b.toList /\
 ∀posQz d,YS posQz b.toList=some d->∃c e u f q t i,d=.ref c/\H c=some (.frz e u)/\e.data=.fields f/\f[1]?=some (.str q t)/\g[0]?=some (.str q i)
noncomputable def AE(K:Su):List (TD×Str):=K.filterMap λp=>match p with
 | (b,⟨.none,_,.fields a,_⟩)=>(match a.toList with|[.ref P,.str q _]=>if b=TW then some (P,q)else none|_=>none)
 |_=>none
def ph(K:Su)(H:al):Prop:=∀p∈AE K,∃a t,H p.1=some (.tbl a)/\a[0]?=some (.str p.2 t)
section
variable(P:WP)(w:XB)
def gx(H:al)(h:XG)(a:TD):el->Prop
 |.lst d=>d.length<=TI/\∃(b:ZY)(n:Nat),bN d b/\h.get? a=some {cls:=.type "list",data:=.seq b.toArray n}
 |.tup d=>d.length<=TI/\∃b:ZY,bN d b/\IsTup h a b.toArray
 |.dK c=>c.length<=TI/\(a==XM)=false/\∃k,AD c k/\h.DictOf (AC P w) a k
 |.dT c=>c.length<=TI/\(a==XM)=false/\∃d:List (List iN×TD×SL),
   Paired (λ(p:List iN×V)(q:List iN×TD×SL)=>p.1=q.1/\H q.2.1=some (.tup (p.1.map kV))/\eb p.2 q.2.2) c d /\
   ∃o l s,h.get? a=some o/\o.ExactDict/\o.data=.dict l s/\l.toList=d.map (Zp (tupleKind (AC P w)))/\(d.map (·.1)).Nodup
 |.set S n=>h.SetOf (Zq P w) a S n
 |.ins C i g=>H i=some (.own a)/\g.length<=1000/\i≠a/\h.get? a=some (VB C i) /\
   ∃e,h.Ns1 i e/\(∀f,pf (g.lookup f) (e f))/\PySem.Within e (g.map (·.1))
 |.own _=>∃o,h.get? a=some o
 |.xd g=>∃e,h.Ns1 a e/\∀f,pf (g.lookup f) (e f)
 |.rng lo y=>∃t u v,h.get? a=some {cls:=.type "range",data:=.fields #[.int lo t,.int y u,.int 1 v]}
 |.frz o u=>h.get? a=some o/\gx H h a u
 |.tbl z=>MT H h a z
 |.met f x=>h.get? a=some (VC (.ref f) (.ref x))
 |.ext j=>j h/\(∃o,h.get? a=some o)/\∀m r:XG,j m->(∀o,m.get? a=some o->r.get? a=some o)->j r
def fh(H:al)(h:XG):Prop:=∀a o,H a=some o->gx P w H h a o
end
section
variable{P:WP}{w:XB}{H i:al}{h h':XG}{a:TD}{o:el}
theorem gx.lt(x:gx P w H h a o):a<h.objs.size:=by
 cases o with
 |lst c=>obtain⟨_,_,_,_,e⟩:=x;exact Heap.lt_size e
 |tup c=>obtain⟨_,_,_,p⟩:=x;exact p.lt
 |dK b=>obtain⟨_,_,_,_,o,_,_,e,_⟩:=x;exact Heap.lt_size e
 |dT b=>obtain⟨_,_,_,_,o,_,_,e,_⟩:=x;exact Heap.lt_size e
 |set S n=>obtain⟨o,_,_,_,e,_⟩:=x;exact Heap.lt_size e
 |ins C g d=>obtain⟨_,_,_,e,_⟩:=x;exact Heap.lt_size e
 |own y=>obtain⟨_,e⟩:=x;exact Heap.lt_size e
 |xd d=>obtain⟨_,⟨_,_,_,e,_⟩,_⟩:=x;exact Heap.lt_size e
 |rng lo i=>obtain⟨_,_,_,e⟩:=x;exact Heap.lt_size e
 |frz j u=>obtain⟨e,_⟩:=x;exact Heap.lt_size e
 |tbl k=>obtain⟨_,e,_⟩:=x;exact Heap.lt_size e
 |met f y=>exact Heap.lt_size (show h.get? a=some _ from x)
 |ext l=>obtain⟨_,⟨_,e⟩,_⟩:=x;exact Heap.lt_size e
theorem Paired.l_{d e:Type}{F G:d->e->Prop}:∀{g:List d}{c:List e},Paired F g c->(∀a b,F a b->G a b)->Paired G g c
 |_,_,.nil,_=>.nil
 |_,_,.cons r t,f=>.cons (f _ _ r) (Paired.l_ t f)
theorem gx.f7(x:gx P w H h a o)(k:∀b u,(b=a\/H b=some (.own a))->h.get? b=some u->h'.get? b=some u)(J:∀b,H b=some (.own a)->i b=some (.own a))(K:∀b A,H b=some (.tup A)->i b=some (.tup A))(L:∀b j u,H b=some (.frz j u)->i b=some (.frz j u)):gx P w i h' a o:=by
 induction o with
 |lst A=>obtain⟨z,s,n,r,e⟩:=x;exact⟨z,s,n,r,k _ _ (.inl rfl) e⟩
 |tup A=>obtain⟨z,s,r,j,e,c⟩:=x;exact⟨z,s,r,j,k _ _ (.inl rfl) e,c⟩
 |dK B=>obtain⟨z,y,E,r,j,l,m,e,c⟩:=x;exact⟨z,y,E,r,j,l,m,k _ _ (.inl rfl) e,c⟩
 |dT B=>
  obtain⟨z,y,A,r,j,l,m,e,c⟩:=x;exact⟨z,y,A,Paired.l_ r λp q z=>⟨z.1,K _ _ z.2.1,z.2.2⟩,j,l,m,k _ _ (.inl rfl) e,c⟩
 |set S n=>obtain⟨j,l,m,t,e,c⟩:=x;exact⟨j,l,m,t,k _ _ (.inl rfl) e,c⟩
 |ins C h1 M=>
  obtain⟨d,z,N,e,F,⟨G,l,m,I,c⟩,r⟩:=x;exact⟨J _ d,z,N,k _ _ (.inl rfl) e,F,⟨G,l,m,k _ _ (.inr d) I,c⟩,r⟩
 |own y=>obtain⟨j,e⟩:=x;exact⟨j,k _ _ (.inl rfl) e⟩
 |xd M=>obtain⟨F,⟨G,l,m,e,c⟩,r⟩:=x;exact⟨F,⟨G,l,m,k _ _ (.inl rfl) e,c⟩,r⟩
 |rng lo aa=>obtain⟨t,u,v,e⟩:=x;exact⟨t,u,v,k _ _ (.inl rfl) e⟩
 |frz j u O=>obtain⟨e,q⟩:=x;exact⟨k _ _ (.inl rfl) e,O q⟩
 |tbl ae=>
  obtain⟨Q,e,R,g⟩:=x;refine⟨Q,k _ _ (.inl rfl) e,R,λposQz T U=>?_⟩;obtain⟨c,W,u,E,q,t,X,Y,I,Z⟩:=g posQz T U;exact⟨c,W,u,E,q,t,X,Y,L _ _ _ I,Z⟩
 |met f y=>
  have e:h.get? a=some (VC (.ref f) (.ref y)):=x;show h'.get? a=some (VC (.ref f) (.ref y))
  exact k a _ (.inl rfl) e
 |ext af=>obtain⟨p,⟨o,e⟩,st⟩:=x;exact⟨st _ _ p λo q=>k _ _ (.inl rfl) q,⟨o,k _ _ (.inl rfl) e⟩,st⟩
theorem fh.lt(x:fh P w H h)(e:H a=some o):a<h.objs.size:=(x a o e).lt
theorem fh.fresh(x:fh P w H h)(e:h.objs.size<=a):H a=none:=by
 cases q:H a with
 |none=>rfl
 |some u=>exact absurd (Ta (x.lt q) e) (TS _)
theorem fh.kept(x:fh P w H h)(k:∀b u,h.get? b=some u->h'.get? b=some u):fh P w H h':=λa o e=>
 (x a o e).f7 (λb u _ q=>k b u q) (λ_ q=>q) (λ_ _ q=>q) λ_ _ _ q=>q
theorem fh.laid(x:fh P w H h)(k:∀b u,h.get? b=some u->h'.get? b=some u)(g:h.objs.size<=a)(new:gx P w (ed H a o) h' a o):fh P w (ed H a o) h':=λb u e=>by
 have d:=x.fresh g;by_cases f:b=a
 ·subst f;rw[dx]at e;cases e;exact new
 rw[bO f]at e;exact(x b u e).f7 (λc v _ q=>k c v q) (λc q=>by rw[bO (hL q d)];exact q) (λc i q=>by rw[bO (hL q d)];exact q) λc j u q=>by rw[bO (hL q d)];exact q
end
def Rd(H:al)(a:TD)(u:el):Prop:=H a=some u\/∃o,H a=some (.frz o u)
theorem Rd.ok{P:WP}{w:XB}{H:al}{h:XG}{a:TD}{u:el}(r:Rd H a u)(x:fh P w H h):gx P w H h a u:=by
 rcases r with r|⟨o,r⟩
 ·exact x a u r
 obtain⟨_,q⟩:=x a _ r;exact q
def v5:Option el->Prop
 |some (.lst _)=>True
 |some (.dK _)=>True
 |some (.dT _)=>True
 |some (.set _ _)=>True
 |some (.ins _ _ _)=>True
 |some (.ext _)=>True
 |_=>False
section
variable{P:WP}{w:XB}{H:al}{h a:XG}{x e:TD}{d:el}
theorem fh.write(ok:fh P w H h)(m:v5 (H x))(n:e=x\/H e=some (.own x))(k:∀b u,b≠e->h.get? b=some u->a.get? b=some u)(s:∃u,a.get? e=some u)(new:gx P w (ed H x d) a x d):fh P w (ed H x d) a:=λb u q=>by
 have o:∀c y,H c=some (.own y)->c≠x:=λc y r z=>by subst z;rwa[r]at m
 have t:∀c f,H c=some (.tup f)->c≠x:=λc f r z=>by subst z;rwa[r]at m
 have A:∀c g u,H c=some (.frz g u)->c≠x:=λc g u r z=>by subst z;rwa[r]at m
 by_cases i:b=x
 ·subst i;rw[dx]at q;cases q;exact new
 rw[bO i]at q;by_cases j:b=e
 ·have p:H b=some (.own x):=by
   rcases n with z|z
   ·exact absurd (j.trans z) i
   rw[j];exact z
  rw[q]at p;cases p;obtain⟨v,B⟩:=s;exact⟨v,by rw[j];exact B⟩
 refine(ok b u q).f7 (λc v l r=>k c v ?_ r) (λc r=>by rw[bO (o c b r)];exact r) (λc f r=>by rw[bO (t c f r)];exact r) λc g u r=>by rw[bO (A c g u r)];exact r
 rcases l with rfl|l
 ·exact j
 rintro rfl;rcases n with z|z
 ·exact o c b l z
 rw[l]at z;cases z;exact i rfl
end
structure f9(fs ex:ZZ)(H H':al)(h h':XG):Prop where
 keep:∀b o,h.get? b=some o->H b=none->b∉fs->b∉ex->h'.get? b=some o
 slot:∀b o,h.get? b=some o->H b=none->b∈fs->b∉ex->∃sl,h'.get? b=some {o with slots:=sl}
 free:∀b o,h.get? b=some o->H b=none->b∉ex->H' b=none
 there:∀b o,h.get? b=some o->b∉ex->∃e8,h'.get? b=some e8
 hj:∀b xs,H b=some (.tup xs)->H' b=some (.tup xs)
 gK:∀b o u,H b=some (.frz o u)->H' b=some (.frz o u)
 fX:∀b ps,H b=some (.tbl ps)->∃more,H' b=some (.tbl (ps++more))
section
variable{c m d g:ZZ}{H i j:al}{h f l h':XG}{a x e:TD}{o:el}
theorem f9.any(u:f9 c d H i h f){b:TD}{a:Obj}(q:h.get? b=some a)(n:H b=none)(e:b∉d):∃j,f.get? b=some {a with slots:=j}:=by
 by_cases g:b∈c
 ·exact u.slot b a q n g e
 exact⟨a.slots,u.keep b a q n g e⟩
theorem f9.kept(k:∀b u,h.get? b=some u->h'.get? b=some u):f9 c d H H h h':=
 ⟨λb a q _ _ _=>k b a q,λb a q _ _ _=>⟨a.slots,k b a q⟩,λ_ _ _ n _=>n,λb a q _=>⟨a,k b a q⟩,λ_ _ q=>q,λ_ _ _ q=>q,λ_ e q=>⟨#[],by rw[q];simp⟩⟩
theorem f9.refl:f9 c d H H h h:=f9.kept λ_ _ q=>q
theorem f9.laid(k:∀b u,h.get? b=some u->h'.get? b=some u)(f:h.objs.size<=a)(e:H a=none):f9 c d H (ed H a o) h h' where
 keep:=λb u q _ _ _=>k b u q
 slot:=λb u q _ _ _=>⟨u.slots,k b u q⟩
 free:=λb u q n _=>by rw[bO (S6 (Ta (Heap.lt_size q) f))];exact n
 there:=λb u q _=>⟨u,k b u q⟩
 hj:=λb g q=>by rw[bO (hL q e)];exact q
 gK:=λb u g q=>by rw[bO (hL q e)];exact q
 fX:=λb i q=>⟨#[],by rw[bO (hL q e),q];simp⟩
theorem f9.write(a:v5 (H x))(l:e=x\/H e=some (.own x))(k:∀b u,b≠e->h.get? b=some u->h'.get? b=some u)(m:∃u,h'.get? e=some u):f9 c d H (ed H x o) h h':=by
 have g:∀b,H b=none->b≠x:=λb n z=>by subst z;rwa[n]at a
 have i:∀b,H b=none->b≠e:=λb n z=>by
  subst z;rcases l with r|r
  ·exact g b n r
  rw[n]at r;cases r
 have f:∀b u,H b=some u->¬v5 (some u)->b≠x:=λb u q p z=>by subst z;rw[q]at a;exact p a
 refine⟨λb u q n _ _=>k b u (i b n) q,λb u q n _ _=>⟨u.slots,k b u (i b n) q⟩,λb u q n _=>by rw[bO (g b n)];exact n,λb u q _=>?_,
  λb s q=>by rw[bO (f b _ q λz=>z)];exact q,λb u s q=>by rw[bO (f b _ q λz=>z)];exact q,λb t q=>⟨#[],by rw[bO (f b _ q λz=>z),q];simp⟩⟩
 by_cases j:b=e
 ·subst j;exact m
 exact⟨u,k b u j q⟩
end
noncomputable def v6(h:XG)(H:al):List TD:=(S7 h.objs.size).filter λa=>(H a).isSome
def n8(h:XG)(H:al):XG:=PySem.W.hideAll h (v6 h H)
theorem MX(h:XG)(H:al):(n8 h H).objs.size=h.objs.size:=PySem.W.hideAll_size _ _
theorem MY{h:XG}{H:al}{b:TD}{o:Obj}(e:h.get? b=some o)(n:H b=none):(n8 h H).get? b=some o:=
 PySem.W.hideAll_get _ e λa=>by
  have q:(H b).isSome=true:=(TO.mp a).2;rw[n]at q;simp at q
theorem MZ{h:XG}{H:al}{b:TD}{o:Obj}(e:(n8 h H).get? b=some o):h.get? b=some o/\H b=none:=by
 have a:h.get? b=some o:=PySem.W.of_hideAll (v6 h H) e;refine⟨a,?_⟩;cases q:H b with
 |none=>rfl
 |some x=>
  have c:b∈v6 h H:=TO.mpr ⟨TF.mpr (Heap.lt_size a),by simp[q]⟩;have z:(n8 h H).get? b=none:=PySem.W.hideAll_none (v6 h H) c;rw[z]at e;cases e
structure Mod(K:Su)(mg:Str->Option SL)(base:XG):Prop where
 m1:K.In base
 glob:base.Ns TW mg
 blt:∃hb,base.Ns X0 hb/\∀x:Str,x≠"__name__"->hb x=XQ x
 nolimit:base.NoLimit
structure aU where
 prog:WP
 w:XB
 K:Su
 mg:Str->Option SL
 base:XG
 A:XC
 N:ZX
 s₀:Tk
 H₀:al
 env:Env
 outer:List Env
 stack:List Env
 ex:ZZ
 fn:Str->Bool
 calm:Bool
 pn:Z2
 xe:SL->Tk->Prop
abbrev lB(X:aU)(p:Pos)(a:Z0):Prop:=((Yc p (UF a X.env)).all (λx => !x.1)&&(backToKw p (keywordEach [] X.env)).all (λx=>x.1.isSome)&&decide (a.length+([]:List Keyword).length+(if([]:List Keyword).isEmpty then 0 else 1)<30))=true
abbrev eD(X:aU)(e:Wp)(a:Z0):Prop:=UF (e::a) X.env=(false,Yp e X.env)::UF a X.env
abbrev ea(x:Str):Prop:=(x==("__debug__":Str))=false
abbrev gY(x:Str):Prop:=(x==("__classdict__":Str))=false
abbrev iq(X:aU)(x:Str):Prop:=X.fn x=true\/X.env.scope.names.lookup x=some .local
abbrev iO(X:aU)(o:Wp)(x:Str):Prop:=attributeBase o x X.env (Yp o X.env)=Yp o X.env
abbrev hv(X:aU)(p:Pos)(a:Z0):Prop:=(Yc p (UF a X.env)).any (·.1)=false
abbrev iP(p q:Pos):Prop:=(p.endLine==q.line)=true
abbrev gZ(X:aU)(i:Nat)(x:Str):Prop:=X.N[i]?=some x
noncomputable def frs(l:List Env):List TD:=l.filterMap (·.frame)
abbrev aU.fs(X:aU):List TD:=frs X.outer
def gy(sc:XZ)(x:Str):Prop:=sc.names.lookup x=some .local\/sc.names.lookup x=some .cell\/sc.names.lookup x=some .free
def hh(sc:XZ)(x:Str):Prop:=sc.names.lookup x=some .local\/sc.names.lookup x=some .cell
def mG(a:Env)(h:XG)(m:Str->Option SL)(x:Str)(u:SL):Prop:=
 (a.kindOf x=some .local/\m x=some u)\/((a.kindOf x=some .cell\/a.kindOf x=some .free)/\∃c,a.cells.lookup x=some c/\h.IsCell c (some u))
structure aU.Ok(X:aU):Prop where
 mod:Mod X.K X.mg X.base
 kind:X.env.scope.kind=.function
 glob:X.env.globals=TW
 blt:X.env.builtins=X0
 above:X.s₀.heap.objs.size<=X.env.locals
 inj:∀x y c,X.env.cells.lookup x=some c->X.env.cells.lookup y=some c->x=y
 has:∀x,(X.env.kindOf x=some .cell\/X.env.kindOf x=some .free)->∃c,X.env.cells.lookup x=some c
 mF:∀x c,X.fn x=true->X.env.cells.lookup x=some c->X.s₀.heap.objs.size<=c
 hd:X.calm=true->X.A.handled=none
 frames:X.A.frames=some X.stack
 mI:X.stack=X.outer\/(X.stack=X.env::X.outer/\X.env.frame=some X.env.locals)
 mN:∀b∈X.ex,b≠X.env.locals/\∀x c,X.env.cells.lookup x=some c->c≠b
 bs:∀b o,X.base.get? b=some o->X.s₀.heap.get? b=some o/\X.H₀ b=none
 j5:X.base.objs.size<=X.s₀.heap.objs.size
 jD:∀b o,X.base.get? b=some o->b∉X.ex
 jO:∀b∈X.ex,b∉X.fs
 fV:X.s₀.heap.FunFrames X.base X.outer
 lY:∀b∈X.fs,X.H₀ b=none
 tab:ph X.K X.H₀
structure c_(X:aU)(ak:Z2)(σ:List (Option V))(H:al)(s:Tk):Prop where
 ok:X.Ok
 os:s.os=X.s₀.os
 bare:YT s.gens
 base:f9 X.fs X.ex X.H₀ H X.s₀.heap s.heap
 loc:∃m,s.heap.Ns X.env.locals m/\∀(i:Nat)(x:Str)(v:V),X.N[i]?=some x->σ[i]?=some (some v)->gy X.env.scope x->∃u,eb v u/\mG X.env s.heap m x u
 cell:∀x c,X.env.cells.lookup x=some c->∃v,s.heap.IsCell c v
 free:H X.env.locals=none
 e_:∀x c,X.env.cells.lookup x=some c->H c=none
 pin:∀p∈X.pn++ak,s.heap.get? p.1=some p.2/\H p.1=none/\p.1≠X.env.locals/\p.1∉X.fs/\∀v,p.2.data≠.cell v
 eg:fh X.prog X.w H s.heap
 len:σ.length=X.N.length
section
variable{X:aU}{f:Z2}{B:List (Option V)}{H C:al}{s:Tk}{h':XG}
theorem aU.Ok.mX(ok:X.Ok){b:TD}{o:Obj}(e:X.base.get? b=some o):b∉X.fs:=λa=>by
 have:=(ok.fV.mem a).1;rw[e]at this;cases this
theorem c_.bs(I:c_ X f B H s):∀b o,X.base.get? b=some o->s.heap.get? b=some o/\H b=none:=λb o e=>
 ⟨I.base.keep b o (I.ok.bs b o e).1 (I.ok.bs b o e).2 (I.ok.mX e) (I.ok.jD b o e),I.base.free b o (I.ok.bs b o e).1 (I.ok.bs b o e).2 (I.ok.jD b o e)⟩
theorem c_.bk(I:c_ X f B H s):∀b o,X.base.get? b=some o->s.heap.get? b=some o:=λb o e=>(I.bs b o e).1
theorem ph.grow{K:Su}{H C:al}(x:ph K H)(g:∀b c,H b=some (.tbl c)->∃a,C b=some (.tbl (c++a))):ph K C:=λp d=>by
 obtain⟨c,t,e,q⟩:=x p d;obtain⟨a,f⟩:=g _ _ e;refine⟨_,t,f,?_⟩
 have:0<c.size:=by
  rcases Wu c.size with z|z
  ·rw[VD (by lia)]at q;cases q
  exact z
 rw[Array.getElem?_append_left this];exact q
theorem c_.tabs(I:c_ X f B H s):ph X.K H:=I.ok.tab.grow I.base.fX
theorem c_.mod(I:c_ X f B H s):Mod X.K X.mg X.base:=I.ok.mod
theorem c_.gC(I:c_ X f B H s):X.K.In s.heap:=I.ok.mod.m1.keeps I.bk
theorem c_.nolimit(I:c_ X f B H s):s.heap.NoLimit:=I.ok.mod.nolimit.keeps I.bk
theorem c_.lt(I:c_ X f B H s):X.env.locals<s.heap.objs.size:=let⟨_,a,_⟩:=I.loc;a.lt
theorem c_.sz(I:c_ X f B H s):X.s₀.heap.objs.size<=s.heap.objs.size:=Sy I.ok.above (UE I.lt)
theorem c_.lq(I:c_ X f B H s){a:TD}(h:s.heap.objs.size<=a):a∉X.fs:=λb=>by
 obtain⟨_,o,c,_⟩:=I.ok.fV.mem b;exact absurd (Ta (Heap.lt_size c) (Sy I.sz h)) (TS _)
theorem c_.m'(I:c_ X f B H s):∀x c,X.env.cells.lookup x=some c->c≠X.env.locals:=λx c e z=>by
 obtain⟨v,o,a,b⟩:=I.cell x c e;obtain⟨m,⟨h,i,j,d,g,_⟩,_⟩:=I.loc;rw[z,d]at a;cases a;rw[g]at b;cases b
theorem c_.fV(I:c_ X f B H s):s.heap.FunFrames X.base X.outer:=by
 have all:∀(l:List Env),(∀b∈frs l,b∈X.fs)->X.s₀.heap.FunFrames X.base l->s.heap.FunFrames X.base l:=by
  intro l;induction l with
  |nil=>intro _ _;trivial
  |cons env r h=>
   intro g i;obtain⟨j,⟨L,o,a,k,m,n⟩,p⟩:=i;have c:L∈X.fs:=g L (by unfold frs;rw[VE,a];exact Sw);obtain⟨q,e⟩:=I.base.slot L o m (I.ok.lY L c) c λz=>I.ok.jO L z c;exact⟨j,⟨L,_,a,k,e,n⟩,h (λb d=>g b (by unfold frs;rw[VE,a];exact Sx _ d)) p⟩
 exact all X.outer (λ_ d=>d) I.ok.fV
theorem c_.stack(I:c_ X f B H s):s.heap.FunFrames X.base X.stack:=by
 rcases I.ok.mI with e|⟨e,a⟩
 ·rw[e];exact I.fV
 rw[e];obtain⟨m,b,_⟩:=I.loc;refine .cons (by rw[I.ok.kind];decide) a b ?_ I.fV;exact Heap.get?_none_of_le (Sy I.ok.j5 I.ok.above)
theorem c_.gr(I:c_ X f B H s):∀b∈frs X.stack,b∈X.env.locals::X.fs:=λb a=>by
 rcases I.ok.mI with e|⟨e,c⟩
 ·rw[e]at a;exact Sx _ a
 rw[e]at a;unfold frs at a;rwa[VE,c]at a
theorem c_.gu(I:c_ X f B H s):∀b∈frs X.stack,H b=none:=λb a=>by
 rcases SH.mp (I.gr b a)with e|a
 ·rw[e];exact I.free
 obtain⟨_,o,c,_⟩:=I.ok.fV.mem a;exact I.base.free b o c (I.ok.lY b a) λz=>I.ok.jO b z a
theorem c_.step{g':Array GenState}{t':Nat}{d':Drawn}{ch:ZZ}(I:c_ X f B H s)(F:∀b∈ch,(b∈X.ex\/X.s₀.heap.objs.size<=b)/\b≠X.env.locals/\(∀x c,X.env.cells.lookup x=some c->c≠b)/\∀p∈X.pn++f,p.1≠b)(g:∀b o,b≠X.env.locals->b∉X.fs->b∉ch->s.heap.get? b=some o->H b=none->h'.get? b=some o)(j:∀b o,b≠X.env.locals->b∈X.fs->b∉ch->s.heap.get? b=some o->H b=none->∃Q,h'.get? b=some {o with slots:=Q})(free:∀b o,b∉ch->s.heap.get? b=some o->H b=none->C b=none)(y:∀b o,b∉ch->s.heap.get? b=some o->∃G,h'.get? b=some G)(J:∀b t,H b=some (.tup t)->C b=some (.tup t))(K:∀b o u,H b=some (.frz o u)->C b=some (.frz o u))(L:∀b O,H b=some (.tbl O)->∃more,C b=some (.tbl (O++more)))(Z:∀m,s.heap.Ns X.env.locals m->h'.Ns X.env.locals m)(eg:fh X.prog X.w C h')(h1:YT g'):
  c_ X f B C {s with heap:=h',gens:=g',drawn:=d',toks:=t' }:=by
 have S:∀b o,X.s₀.heap.get? b=some o->b≠X.env.locals:=λb o e=>S6 (Ta (Heap.lt_size e) I.ok.above)
 have P:∀b o,X.s₀.heap.get? b=some o->b∉X.ex->b∉ch:=λb o e a A=>by
  rcases(F b A).1 with z|z
  ·exact a z
  exact absurd (Ta (Heap.lt_size e) z) (TS _)
 have cellK:∀x c,X.env.cells.lookup x=some c->∀v,s.heap.IsCell c v->h'.IsCell c v:=λx c e v ⟨o,E,R⟩=>by
  have M:c∉ch:=λz=>(F c z).2.2.1 x c e rfl;by_cases T:c∈X.fs
  ·obtain⟨Q,q⟩:=j c o (I.m' x c e) T M E (I.e_ x c e);exact⟨_,q,R⟩
  exact⟨o,g c o (I.m' x c e) T M E (I.e_ x c e),R⟩
 refine⟨I.ok,I.os,h1,⟨λb o e n A a=>?_,λb o e n A a=>?_,λb o e n a=>?_,λb o e a=>?_,λb t e=>J b t (I.base.hj b t e),λb o t e=>K b o t (I.base.gK b o t e),λb O e=>?_⟩,?_,λx c e=>?_,?_,λx c e=>?_,λp U=>?_,eg,I.len⟩
 ·exact g b o (S b o e) A (P b o e a) (I.base.keep b o e n A a) (I.base.free b o e n a)
 ·obtain⟨Q,h⟩:=I.base.slot b o e n A a;obtain⟨aa,N⟩:=j b _ (S b o e) A (P b o e a) h (I.base.free b o e n a);exact⟨aa,N⟩
 ·obtain⟨G,h⟩:=I.base.there b o e a;exact free b G (P b o e a) h (I.base.free b o e n a)
 ·obtain⟨G,h⟩:=I.base.there b o e a;exact y b G (P b o e a) h
 ·obtain⟨hi,h⟩:=I.base.fX b O e;obtain⟨ai,N⟩:=L b _ h;exact⟨hi++ai,by rw[N,Array.append_assoc]⟩
 ·obtain⟨m,ak,aq⟩:=I.loc;refine⟨m,Z m ak,λi x v h N au=>?_⟩;obtain⟨u,r,l⟩:=aq i x v h N au;refine⟨u,r,?_⟩;rcases l with l|⟨k,c,e,z⟩
  ·exact .inl l
  exact .inr ⟨k,c,e,cellK x c e _ z⟩
 ·obtain⟨v,z⟩:=I.cell x c e;exact⟨v,cellK x c e v z⟩
 ·obtain⟨m,⟨o,_,_,E,_⟩,_⟩:=I.loc;exact free _ o (λz=>(F _ z).2.1 rfl) E I.free
 ·obtain⟨v,o,E,R⟩:=I.cell x c e;exact free c o (λz=>(F c z).2.2.1 x c e rfl) E (I.e_ x c e)
 obtain⟨e,n,W,Y,d⟩:=I.pin p U;have M:p.1∉ch:=λz=>(F p.1 z).2.2.2 p U rfl;exact⟨g p.1 p.2 W Y M e n,free p.1 p.2 M e n,W,Y,d⟩
theorem c_.un{t':Nat}(I:c_ X f B H s)(u:f9 X.fs [] H C s.heap h')(eg:fh X.prog X.w C h'):c_ X f B C {s with heap:=h',toks:=t' }:=by
 obtain⟨m,⟨o,l,p,c,r⟩,_⟩:=id I.loc;obtain⟨q,g⟩:=u.any c I.free (by simp)
 exact I.step (g':=s.gens) (d':=s.drawn) (ch:=[]) (λ_ z=>nomatch z) (λb o _ a _ e n=>u.keep b o e n a (by simp)) (λb o _ a _ e n=>u.slot b o e n a (by simp)) (λb o _ e n=>u.free b o e n (by simp)) (λb o _ e=>u.there b o e (by simp)) u.hj u.gK u.fX (λt h=>by
  obtain⟨v,i,j,d,k⟩:=h;rw[c]at d;cases d
  exact⟨_,i,j,g,k⟩) eg I.bare
theorem c_.call{g':Array GenState}{t':Nat}{d':Drawn}{ch:ZZ}(I:c_ X f B H s)(u:f9 (frs X.stack) ch H C s.heap h')(eg:fh X.prog X.w C h')(j:YT g')(g:∀b∈ch,(b∈X.ex\/X.s₀.heap.objs.size<=b)/\b≠X.env.locals/\(∀x c,X.env.cells.lookup x=some c->c≠b)/\∀p∈X.pn++f,p.1≠b):
  c_ X f B C {s with heap:=h',gens:=g',drawn:=d',toks:=t' }:=by
 obtain⟨m,⟨o,y,A,h,r⟩,_⟩:=id I.loc;obtain⟨E,d⟩:=u.any h I.free λz=>(g _ z).2.1 rfl
 exact I.step (ch:=ch) g (λb o d k a e n=>u.keep b o e n (λz=>(SH.mp (I.gr b z)).elim d k) a) (λb o _ _ a e n=>u.any e n a) (λb o a e n=>u.free b o e n a) (λb o a e=>u.there b o e a) u.hj u.gK u.fX (λF l=>by
  obtain⟨G,q,t,i,v⟩:=l;rw[h]at i;cases i
  exact⟨_,q,t,d,v⟩) eg j
theorem c_.turned{t':Nat}{a:TD}(I:c_ X f B H s)(k:∀b o,b≠a->s.heap.get? b=some o->h'.get? b=some o)(i:H a=none)(g:a≠X.env.locals)(j:a∈X.ex\/X.s₀.heap.objs.size<=a)(l:∀x c,X.env.cells.lookup x=some c->c≠a)(t:∀p∈X.pn++f,p.1≠a):c_ X f B H {s with heap:=h',toks:=t' }:=by
 have h:∀b u,H b=some u->b≠a:=λb u e z=>by rw[z,i]at e;cases e
 refine I.step (g':=s.gens) (d':=s.drawn) (ch:=[a]) (λb w=>?_) (λb o _ _ d e _=>k b o (λz=>d (by simp[z])) e) (λb o _ _ d e _=>⟨o.slots,k b o (λz=>d (by simp[z])) e⟩) (λ_ _ _ _ n=>n)
  (λb o d e=>⟨o,k b o (λz=>d (by simp[z])) e⟩) (λ_ _ e=>e) (λ_ _ _ e=>e) (λb F e=>⟨#[],by rw[e];simp⟩) (λm y=>?_) (λb u e=>?_) I.bare
 ·have e:b=a:=by simpa using w
  subst e;exact⟨j,g,l,t⟩
 ·obtain⟨o,A,C,E,r⟩:=y;exact⟨o,A,C,k _ o (Tc g) E,r⟩
 refine(I.eg b u e).f7 (λc v d q=>k c v ?_ q) (λ_ q=>q) (λ_ _ q=>q) λ_ _ _ q=>q;rcases d with z|z
 ·rw[z];exact h b u e
 exact h c _ z
theorem c_.tok(I:c_ X f B H s)(t:Nat):c_ X f B H {s with toks:=t}:=I.un (h':=s.heap) (t':=t) f9.refl I.eg
theorem c_.kept{t':Nat}(I:c_ X f B H s)(k:∀b u,s.heap.get? b=some u->h'.get? b=some u):c_ X f B H {s with heap:=h',toks:=t' }:=I.un (f9.kept k) (I.eg.kept k)
theorem c_.laid{a:TD}{o:el}{t':Nat}(I:c_ X f B H s)(k:∀b u,s.heap.get? b=some u->h'.get? b=some u)(c:s.heap.objs.size<=a)(new:gx X.prog X.w (ed H a o) h' a o):
  c_ X f B (ed H a o) {s with heap:=h',toks:=t' }:=I.un (f9.laid k c (I.eg.fresh c)) (I.eg.laid k c new)
theorem c_.write{x e:TD}{o:el}{t':Nat}(I:c_ X f B H s)(a:v5 (H x))(c:e=x\/H e=some (.own x))(k:∀b u,b≠e->s.heap.get? b=some u->h'.get? b=some u)(d:∃u,h'.get? e=some u)(new:gx X.prog X.w (ed H x o) h' x o):c_ X f B (ed H x o) {s with heap:=h',toks:=t' }:=I.un (f9.write a c k d) (I.eg.write a c k d new)
theorem c_.gv{a:Z2}(I:c_ X f B H s)(h:∀p∈a,s.heap.get? p.1=some p.2/\H p.1=none/\p.1≠X.env.locals/\p.1∉X.fs/\∀v,p.2.data≠.cell v):c_ X a B H s:=
 ⟨I.ok,I.os,I.bare,I.base,I.loc,I.cell,I.free,I.e_,λp b=>(SO.mp b).elim (λz=>I.pin p (Tx _ z)) (h p),I.eg,I.len⟩
theorem Fo{N:ZX}(c:N.Nodup){i j:Nat}{x:Str}(a:N[i]?=some x)(b:N[j]?=some x):i=j:=by
 obtain⟨f,d⟩:=TM.mp a;obtain⟨g,e⟩:=TM.mp b;exact(List.getElem_inj c).mp (d.trans e.symm)
theorem M1{M:Model}{A:XC}{E:SL->Tk->Prop}{i:Nat}{x:Str}{v:V}{u:SL}{Q:Unit->Tk->Prop}(I:c_ X f B H s)(ay:X.N.Nodup)(O:X.N[i]?=some x)(C:hh X.env.scope x)(r:eb v u)(h:∀T,c_ X f (B.set i (some v)) H T->(∃a,Heap.SameBut a s.heap T.heap/\(a=X.env.locals\/X.env.cells.lookup x=some a))->Q () T)(aI:iq X x:=by walk_at"f"):wpAny M A (storeName X.env x u) Q E s:=by
 obtain⟨m,U,az⟩:=id I.loc;have aJ:(X.env.scope.kind==.class||(X.env.scope.kind==.module&&X.env.locals != X.env.globals))=false:=by rw[I.ok.kind];rfl
 have aB:i<B.length:=by rw[I.len];exact(TM.mp O).1
 have J:=I.m'
 have tracked:∀{a:TD}{h':XG},(∃o,s.heap.get? a=some o/\H a=none)->Heap.SameBut a s.heap h'->fh X.prog X.w H h':=λ{a h'} aK g b aN e=>by
  obtain⟨_,_,aD⟩:=aK;refine(I.eg b aN e).f7 (λc P t q=>(g.2 c ?_).trans q) (λ_ q=>q) (λ_ _ q=>q) λ_ _ _ q=>q;rintro rfl;rcases t with rfl|t
  ·rw[aD]at e;cases e
  rw[aD]at t;cases t
 rcases C with G|G
 ·refine wpAny_storeName_local G U (λh' aM g=>?_) aJ;obtain⟨aO,_,_,aQ,_⟩:=id U;refine h _ ⟨I.ok,I.os,I.bare,⟨λb o e n K C=>?_,λb o e n K C=>?_,I.base.free,λb o e C=>?_,I.base.hj,I.base.gK,I.base.fX⟩,⟨_,aM,λj y W l F Y=>?_⟩,λy c e=>?_,I.free,I.e_,λp Z=>?_,tracked ⟨aO,aQ,I.free⟩ g,by simpa using I.len⟩ ⟨_,g,.inl rfl⟩
  ·exact(g.2 b (S6 (Ta (Heap.lt_size e) I.ok.above))).trans (I.base.keep b o e n K C)
  ·obtain⟨h1,l⟩:=I.base.slot b o e n K C;exact⟨h1,(g.2 b (S6 (Ta (Heap.lt_size e) I.ok.above))).trans l⟩
  ·obtain⟨aa,l⟩:=I.base.there b o e C;exact⟨aa,(g.2 b (S6 (Ta (Heap.lt_size e) I.ok.above))).trans l⟩
  ·by_cases L:j=i
   ·subst L;rw[O]at l;cases l;rw[TG aB]at F;cases F;exact⟨u,r,.inl ⟨G,by simp⟩⟩
   rw[Tz (Tc L)]at F;obtain⟨ak,aq,q⟩:=az j y W l F Y;refine⟨ak,aq,?_⟩;rcases q with⟨k,e⟩|⟨k,c,e,z⟩
   ·refine .inl ⟨k,?_⟩;have:y≠x:=λe=>L (Fo ay l (e▸O));simp[this,e]
   exact .inr ⟨k,c,e,z.sameBut g (J y c e)⟩
  ·obtain⟨P,z⟩:=I.cell y c e;exact⟨P,z.sameBut g (J y c e)⟩
  obtain⟨e,n,R,aw,d⟩:=I.pin p Z;exact⟨(g.2 p.1 R).trans e,n,R,aw,d⟩
 have ax:X.fn x=true:=by
  rcases aI with z|z
  ·exact z
  rw[z]at G;cases G
 obtain⟨c,t⟩:=I.ok.has x (.inl G);obtain⟨P,z⟩:=I.cell x c t;refine wpAny_storeName_cell I.ok.kind G t z (λh' aE g=>?_);obtain⟨aF,aG,aR⟩:=id z;refine h {s with heap:=h' } ⟨I.ok,I.os,I.bare,⟨λb o e n K C=>?_,λb o e n K C=>?_,I.base.free,λb o e C=>?_,I.base.hj,I.base.gK,I.base.fX⟩,⟨m,U.sameBut g (Tc (J x c t)),λj y W l F Y=>?_⟩,λy S e=>?_,I.free,I.e_,λp Z=>?_,tracked ⟨aF,aG,I.e_ x c t⟩ g,by simpa using I.len⟩ ⟨c,g,.inr t⟩
 ·exact(g.2 b (S6 (Ta (Heap.lt_size e) (I.ok.mF x c ax t)))).trans (I.base.keep b o e n K C)
 ·obtain⟨h1,l⟩:=I.base.slot b o e n K C;exact⟨h1,(g.2 b (S6 (Ta (Heap.lt_size e) (I.ok.mF x c ax t)))).trans l⟩
 ·obtain⟨aa,l⟩:=I.base.there b o e C;exact⟨aa,(g.2 b (S6 (Ta (Heap.lt_size e) (I.ok.mF x c ax t)))).trans l⟩
 ·by_cases L:j=i
  ·subst L;rw[O]at l;cases l;rw[TG aB]at F;cases F;exact⟨u,r,.inr ⟨.inl G,c,t,aE⟩⟩
  rw[Tz (Tc L)]at F;obtain⟨ak,aq,q⟩:=az j y W l F Y;refine⟨ak,aq,?_⟩;rcases q with q|⟨k,S,e,aT⟩
  ·exact .inl q
  refine .inr ⟨k,S,e,aT.sameBut g ?_⟩;rintro rfl;exact L (Fo ay l (I.ok.inj _ _ _ e t▸O))
 ·by_cases aH:S=c
  ·subst aH;exact⟨_,aE⟩
  obtain⟨aV,aZ⟩:=I.cell y S e;exact⟨aV,aZ.sameBut g aH⟩
 obtain⟨e,n,R,aw,d⟩:=I.pin p Z;refine⟨(g.2 p.1 ?_).trans e,n,R,aw,d⟩;intro q;rw[q,aG]at e;have aY:aF=p.2:=SN e;exact d P (by rw[<-aY];exact aR)
theorem r6{M:Model}{A:XC}{E:SL->Tk->Prop}{i:Nat}{x:Str}{v:V}{u:SL}{Q:Unit->Tk->Prop}(I:c_ X f B H s)(b:X.N.Nodup)(c:X.N[i]?=some x)(d:hh X.env.scope x)(r:eb v u)(h:∀a,c_ X f (B.set i (some v)) H a->Q () a)(e:iq X x:=by walk_at"f"):wpAny M A (storeName X.env x u) Q E s:=
 M1 I b c d r (λa g _=>h a g) e
theorem c_.kT{s':Tk}{ch:ZZ}(I:c_ X f B H s)(a:s'.os=s.os)(u:f9 (frs X.stack) ch H C s.heap s'.heap)(eg:fh X.prog X.w C s'.heap)(d:YT s'.gens)(g:∀b∈ch,(b∈X.ex\/X.s₀.heap.objs.size<=b)/\b≠X.env.locals/\(∀x c,X.env.cells.lookup x=some c->c≠b)/\∀p∈X.pn++f,p.1≠b):c_ X f B C s':=by
 obtain⟨h',g',d',t',h⟩:=s';have e:h=s.os:=a;subst e;exact I.call (g':=g') (t':=t') (d':=d') u eg d g
end
abbrev g0:=SL->Option TD->al->Prop
abbrev St:=List (Option V)
abbrev cn:=V->al->Prop
abbrev bI:=St->al->cn->Prop
abbrev eh:=St->al->(Bool->al->Prop)->Prop
abbrev eZ:=St->al->(ZQ->al->Prop)->Prop
structure nh where
 nx:St->al->Prop
 rt:cn
 bk:St->al->Prop:=λ_ _=>False
 ct:St->al->Prop:=λ_ _=>False
abbrev g1:=nh->St->al->Prop
def he(X:aU)(b:Z2)(c:St)(Q:cn)(u:SL)(d:Tk):Prop:=∃v a,c_ X b c a d/\eb v u/\Q v a
def v9(X:aU)(c:Z2)(d:St)(Q:Bool->al->Prop)(b:Bool)(e:Tk):Prop:=∃a,c_ X c d a e/\Q b a
def M6(X:aU)(c:Z2)(d:St)(Q:ZQ->al->Prop)(e:ZY)(f:Tk):Prop:=∃a b,c_ X c d b f/\bN a e/\Q a b
def r7(X:aU)(c:Z2)(D:nh)(f:Flow)(d:Tk):Prop:=
 match f with
 |.next=>∃b a,c_ X c b a d/\D.nx b a
 |.brk=>∃b a,c_ X c b a d/\D.bk b a
 |.cont=>∃b a,c_ X c b a d/\D.ct b a
 |.ret u=>∃v b a,c_ X c b a d/\eb v u/\D.rt v a
def bP(X:aU)(e:Wp)(t:bI):Prop:=
 ∀(b:Z2)(s:Tk)(a:St)(H:al)(Q:cn),c_ X b a H s->t a H Q->wpAny (UV X.prog X.w) X.A (Yp e X.env) (he X b a Q) X.xe s
def j1(X:aU)(e:Wp)(t:eh):Prop:=
 ∀(b:Z2)(s:Tk)(a:St)(H:al)(Q:Bool->al->Prop),c_ X b a H s->t a H Q->wpAny (UV X.prog X.w) X.A (Zh e X.env (Yp e X.env)) (v9 X b a Q) X.xe s
def n'(X:aU)(e:Wp)(t:eh):Prop:=
 ∀(whole:Sem SL)(b:Z2)(s:Tk)(a:St)(H:al)(Q:Bool->al->Prop),c_ X b a H s->t a H Q->wpAny (UV X.prog X.w) X.A (Zh e X.env whole) (v9 X b a Q) X.xe s
theorem n'.pt{X:aU}{e:Wp}{t:eh}(h:n' X e t):j1 X e t:=h _
def hf(X:aU)(c:Z0)(t:eZ):Prop:=
 ∀(pos:Pos)(b:Z2)(s:Tk)(a:St)(H:al)(Q:ZQ->al->Prop),c_ X b a H s->t a H Q->wpAny (UV X.prog X.w) X.A (spliced (Yc pos (UF c X.env))) (M6 X b a Q) X.xe s
def jz(X:aU)(st:XF)(t:g1):Prop:=
 ∀(a:Z2)(s:Tk)(b:St)(H:al)(D:nh),c_ X a b H s->t D b H->wpAny (UV X.prog X.w) X.A (exec st X.env) (r7 X a D) X.xe s
def i9(X:aU)(st:Z1)(t:g1):Prop:=
 ∀(a:Z2)(s:Tk)(b:St)(H:al)(D:nh),c_ X a b H s->t D b H->wpAny (UV X.prog X.w) X.A (execs st X.env) (r7 X a D) X.xe s
theorem cp{b:Type}{t:Sem b}{Q c:b->Tk->Prop}{M:Model}{A:XC}{E:SL->Tk->Prop}{s:Tk}(h:wpAny M A t Q E s)(d:∀a s,Q a s->c a s):wpAny M A t c E s:=XK h d λ_ _ x=>x
section
variable{X:aU}
def AH(i:Nat):bI:=λa H Q=>∃v,a[i]?=some (some v)/\Q v H
def qE(v:V):bI:=λ_ H Q=>Q v H
theorem hg{i:Nat}{x:Str}{f:Pos}(k:X.N[i]?=some x)(n:gy X.env.scope x)(b:ea x:=by decide)(o:gY x:=by decide):bP X (.Name x f) (AH i):=by
 intro p s q H Q I h;obtain⟨v,e,h⟩:=h;obtain⟨m,t,w⟩:=I.loc;obtain⟨u,r,l⟩:=w i x v k e n;have d:he X p q Q u s:=⟨v,H,I,r,h⟩;rcases l with⟨a,y⟩|⟨a,c,g,j⟩
 ·exact wpAny_Name (Y5 I.ok.kind a t y d) b
 rcases a with a|a
 ·exact wpAny_Name (Zd I.ok.kind a g j d) b
 exact wpAny_Name (wpAny_loadName_free I.ok.kind a g j d o) b
theorem fA{i j posQz}:bP X (.Constant (.int i) j posQz) (qE (.int i)):=λ_ _ _ H _ I h=>wpAny_Constant_int ⟨.int i,H,I.tok _,⟨_,rfl⟩,h⟩
theorem M7{b j posQz}:bP X (.Constant (.bool b) j posQz) (qE (.bl b)):=λ_ _ _ H _ I h=>Constant_bool ⟨.bl b,H,I,rfl,h⟩
theorem M8{x j posQz}:bP X (.Constant (.str x) j posQz) (qE (.str x)):=λ_ _ _ H _ I h=>Calls.Constant_str ⟨.str x,H,I.tok _,⟨_,rfl⟩,h⟩
def eu(X:aU)(x:Str):Prop:=X.env.kindOf x=some .globalImplicit
theorem Fs{E:SL->Tk->Prop}{a:Z2}{s:Tk}{b:St}{H:al}{x:Str}{u:SL}{f:Pos}{Q:SL->Tk->Prop}(I:c_ X a b H s)(c:eu X x)(d:X.mg x=some u)(h:Q u s)(e:ea x:=by decide):wpAny (UV X.prog X.w) X.A (Yp (.Name x f) X.env) Q E s:=
 Calls.Name_function_global I.ok.kind c (Calls.loadGlobal_global (by rw[I.ok.glob];exact I.mod.glob.keeps I.bk) d h) e
theorem oa{E:SL->Tk->Prop}{a:Z2}{s:Tk}{b:St}{H:al}{x:Str}{u:SL}{f:Pos}{Q:SL->Tk->Prop}(I:c_ X a b H s)(c:eu X x)(d:X.mg x=none)(e:XQ x=some u)(h:Q u s)(g:x≠"__name__":=by decide)(i:ea x:=by decide):wpAny (UV X.prog X.w) X.A (Yp (.Name x f) X.env) Q E s:=by
 obtain⟨l,j,k⟩:=I.mod.blt;exact Calls.Name_function_global I.ok.kind c (Calls.loadGlobal_builtin (by rw[I.ok.glob];exact I.mod.glob.keeps I.bk) d (by rw[I.ok.blt];exact j.keeps I.bk) ((k x g).trans e) h) i
theorem M9{x:Str}{v:V}{u:SL}{f:Pos}(a:eu X x)(b:X.mg x=some u)(r:eb v u)(c:ea x:=by decide):bP X (.Name x f) (qE v):=
 λ_ _ _ H _ I h=>Fs I a b ⟨v,H,I,r,h⟩ c
theorem lC{x:Str}{v:V}{u:SL}{f:Pos}(a:eu X x)(b:X.mg x=none)(c:XQ x=some u)(r:eb v u)(d:x≠"__name__":=by decide)(e:ea x:=by decide):bP X (.Name x f) (qE v):=
 λ_ _ _ H _ I h=>oa I a b c ⟨v,H,I,r,h⟩ d e
variable{a b:Wp}{k o:bI}{f:Pos}
def tQ(t:bI):eh:=λd H Q=>t d H λx e=>∃c,x=.bl c/\Q c e
theorem M'{e:Wp}{t:bI}(h:bP X e t)(a:∀whole,Zh e X.env whole=(do let v <-whole;YU e.pos;Yz [v] (ZE v)):=by intro _;rfl):j1 X e (tQ t):=by
 intro b s c H Q I f;refine isTrue_plain (cp (h b s c H _ I f) λv l ⟨x,g,i,j,k⟩=>?_) (a _);obtain⟨d,rfl,q⟩:=k;cases j;exact XI ⟨g,i,q⟩
variable{n p:eh}{g:Z0}
def Ft(t u:eh):eh:=λd H Q=>t d H λc e=>if c=true then u d e Q else Q false e
def Fu(t u:eh):eh:=λd H Q=>t d H λc e=>if c=true then Q true e else u d e Q
def Fv(t:eh):eh:=λd H Q=>t d H λc e=>Q (!c) e
theorem Na(b:j1 X a n):n' X (.BoolOp .And [a] f) n:=by
 intro i d s g H Q I h;refine isTrue_and (cp (b d s g H Q I h) λc j e=>?_);cases c with
 |true=>exact isTrue_and_nil e
 |false=>exact e
theorem Nb(b:j1 X a n):n' X (.BoolOp .Or [a] f) n:=by
 intro i d s g H Q I h;refine isTrue_or (cp (b d s g H Q I h) λc j e=>?_);cases c with
 |false=>exact isTrue_or_nil e
 |true=>exact e
theorem Nc(l:j1 X a n)(m:n' X (.BoolOp .And (b::g) f) p):n' X (.BoolOp .And (a::b::g) f) (Ft n p):=by
 intro o d s e H Q I h;refine isTrue_and (cp (l d s e H _ I h) λc q ⟨i,j,k⟩=>?_);cases c with
 |true=>exact m o d q e i Q j k
 |false=>exact⟨i,j,k⟩
theorem Nd(l:j1 X a n)(m:n' X (.BoolOp .Or (b::g) f) p):n' X (.BoolOp .Or (a::b::g) f) (Fu n p):=by
 intro o d s e H Q I h;refine isTrue_or (cp (l d s e H _ I h) λc q ⟨i,j,k⟩=>?_);cases c with
 |true=>exact⟨i,j,k⟩
 |false=>exact m o d q e i Q j k
theorem Nf(b:j1 X a n):j1 X (.UnaryOp .Not a f) (Fv n):=by
 intro d s e H Q I h;exact isTrue_not (b d s e H (λc g=>Q (!c) g) I h)
def Ng(k o:bI):bI:=λd H Q=>k d H λx e=>∃c,x=.bl c/\if c=true then o d e Q else Q (.bl false) e
def Nh(k:bI):bI:=λd H Q=>k d H λx e=>∃c,x=.bl c/\Q (.bl (!c)) e
theorem Ni{b}{t:bI}(h:bP X a t):bP X (.BoolOp b [a] f) t:=λc s d H Q I e=>BoolOp_one (h c s d H Q I e)
theorem Nj(m:bP X a k)(n:bP X (.BoolOp .And (b::g) f) o):bP X (.BoolOp .And (a::b::g) f) (Ng k o):=by
 intro e s i H Q I h;refine BoolOp_and (cp (m e s i H _ I h) λv p ⟨x,j,l,q,d⟩=>?_);obtain⟨c,rfl,d⟩:=d;cases q;refine XI ?_;cases c with
 |true=>exact n e p i j Q l d
 |false=>exact⟨.bl false,j,l,rfl,d⟩
theorem Nk(d:bP X a k):bP X (.UnaryOp .Not a f) (Nh k):=by
 intro e s g H Q I h;refine UnaryOp_ (cp (d e s g H _ I h) λv m ⟨x,i,j,l,b⟩=>?_);obtain⟨c,rfl,b⟩:=b;cases l;exact not_of (XI ⟨.bl (!c),i,j,rfl,b⟩)
def Nl(t:eh)(k o:bI):bI:=λd H Q=>t d H λc e=>if c=true then k d e Q else o d e Q
theorem Nm{c:Wp}(p:j1 X c n)(q:bP X a k)(r:bP X b o):bP X (.IfExp c a b f) (Nl n k o):=by
 intro e s g H Q I h;refine wpAny_IfExp (cp (p e s g H _ I h) λd i ⟨j,l,m⟩=>?_);cases d with
 |true=>exact q e i g j Q l m
 |false=>exact r e i g j Q l m
end
def cE(K:Su)(H:al)(a:TD)(c:ZQ):Prop:=
 Rd H a (.lst c) \/
  ∃(o:Obj)(b:Array SL)(n:Nat),K.lookup a=some o/\o.cls=.type "list"/\o.dict=none/\o.data=.seq b n/\b.size<=TI/\bN c b.toList
def e0(K:Su)(H:al)(a:TD)(c:ZQ):Prop:=
 Rd H a (.tup c) \/
  ∃(o:Obj)(b:Array SL)(n:Nat),K.lookup a=some o/\o.cls=.type "tuple"/\o.data=.seq b n/\b.size<=TI/\bN c b.toList
noncomputable def Nn:SL->Option V
 |.none=>some .non
 |.bool b=>some (.bl b)
 |.int i _=>some (.int i)
 |.str x _=>some (.str x)
 |.bytes b _=>some (.byt b)
 |.float b _=>some (.flt b)
 |.ref a=>some (.ref a)
 |.type n=>some (.ty n)
 |_=>none
theorem eb.abs{x:V}{u:SL}(r:eb x u):Nn u=some x:=by
 cases x with
 |non=>cases r;rfl
 |bl _=>cases r;rfl
 |int _=>obtain⟨t,rfl⟩:=r;rfl
 |str _=>obtain⟨t,rfl⟩:=r;rfl
 |byt _=>obtain⟨t,rfl⟩:=r;rfl
 |flt _=>obtain⟨t,rfl⟩:=r;rfl
 |ref _=>cases r;rfl
 |ty _=>cases r;rfl
theorem eb.inj{x y:V}{u:SL}(r:eb x u)(q:eb y u):x=y:=SN (r.abs.symm.trans q.abs)
theorem bN.inj:∀{a b:ZQ}{c:ZY},bN a c->bN b c->a=b
 |_,_,_,.nil,.nil=>rfl
 |_,_,_,.cons r t,.cons d e=>by rw[r.inj d,bN.inj t e]
section
variable{X:aU}{g:Z2}{c:St}{H:al}{s:Tk}{a:TD}{b f:ZQ}
theorem cE.of{K:Su}(h:H a=some (.lst b)):cE K H a b:=.inl (.inl h)
theorem e0.of{K:Su}(h:H a=some (.tup b)):e0 K H a b:=.inl (.inl h)
theorem c_.list(I:c_ X g c H s)(h:cE X.K H a b):∃d:ZY,bN b d/\PlainL s.heap a d.toArray/\b.length<=TI:=by
 rcases h with h|⟨o,d,n,f,i,j,k,l,r⟩
 ·obtain⟨z,d,n,r,e⟩:=h.ok I.eg;exact⟨d,r,⟨_,n,e,rfl,rfl,rfl⟩,z⟩
 refine⟨d.toList,r,⟨o,n,I.gC a o f,i,j,by simpa using k⟩,?_⟩;have e:=r.length;simp only[UX]at e;lia
theorem c_.tuple(I:c_ X g c H s)(h:e0 X.K H a b):∃d:ZY,bN b d/\IsTup s.heap a d.toArray/\b.length<=TI:=by
 rcases h with h|⟨o,d,n,f,i,j,k,r⟩
 ·obtain⟨z,d,r,p⟩:=h.ok I.eg;exact⟨d,r,p,z⟩
 refine⟨d.toList,r,⟨o,I.gC a o f,i,n,by simpa using j⟩,?_⟩;have e:=r.length;simp only[UX]at e;lia
theorem c_.hl(I:c_ X g c H s)(h:cE X.K H a b)(h':cE X.K H a f):b=f:=by
 obtain⟨j,r,⟨o,n,e,_,_,d⟩,_⟩:=I.list h;obtain⟨i,m,⟨q,t,k,_,_,l⟩,_⟩:=I.list h';rw[e]at k;cases k;rw[d]at l;injection l with p _
 have:j=i:=by simpa using Uf Array.toList p
 subst this;exact r.inj m
theorem c_.iM(I:c_ X g c H s)(h:e0 X.K H a b)(h':e0 X.K H a f):b=f:=by
 obtain⟨j,r,⟨o,e,_,n,d⟩,_⟩:=I.tuple h;obtain⟨i,m,⟨q,k,_,t,l⟩,_⟩:=I.tuple h';rw[e]at k;cases k;rw[d]at l;injection l with p _
 have:j=i:=by simpa using Uf Array.toList p
 subst this;exact r.inj m
end
noncomputable abbrev aU.fW(X:aU)(E:SL->Tk->Prop):aU:={X with xe:=E}
abbrev aU.jn(X:aU):aU:=X.fW λ_ _=>False
theorem aU.Ok.fW{X:aU}(ok:X.Ok)(E:SL->Tk->Prop):(X.fW E).Ok:=
 ⟨ok.mod,ok.kind,ok.glob,ok.blt,ok.above,ok.inj,ok.has,ok.mF,ok.hd,ok.frames,ok.mI,ok.mN,ok.bs,ok.j5,ok.jD,ok.jO,ok.fV,ok.lY,ok.tab⟩
theorem aU.Ok.e6{X:aU}{E:SL->Tk->Prop}(ok:(X.fW E).Ok):X.Ok:=
 ⟨ok.mod,ok.kind,ok.glob,ok.blt,ok.above,ok.inj,ok.has,ok.mF,ok.hd,ok.frames,ok.mI,ok.mN,ok.bs,ok.j5,ok.jD,ok.jO,ok.fV,ok.lY,ok.tab⟩
section
variable{X:aU}{a:Z2}{b:St}{H:al}{s:Tk}{E:SL->Tk->Prop}
theorem c_.fW(I:c_ X a b H s)(E:SL->Tk->Prop):c_ (X.fW E) a b H s:=⟨I.ok.fW E,I.os,I.bare,I.base,I.loc,I.cell,I.free,I.e_,I.pin,I.eg,I.len⟩
theorem c_.e6(I:c_ (X.fW E) a b H s):c_ X a b H s:=⟨I.ok.e6,I.os,I.bare,I.base,I.loc,I.cell,I.free,I.e_,I.pin,I.eg,I.len⟩
theorem r7.e6{D:nh}{f:Flow}{d:Tk}(h:r7 (X.fW E) a D f d):r7 X a D f d:=by
 cases f with
 |next=>obtain⟨b,c,I,q⟩:=h;exact⟨b,c,I.e6,q⟩
 |brk=>obtain⟨b,c,I,q⟩:=h;exact⟨b,c,I.e6,q⟩
 |cont=>obtain⟨b,c,I,q⟩:=h;exact⟨b,c,I.e6,q⟩
 |ret u=>obtain⟨v,b,c,I,r,q⟩:=h;exact⟨v,b,c,I.e6,r,q⟩
theorem i9.jn{st:Z1}{t:g1}(h:i9 X.jn st t):i9 X st t:=λa s b H D I c=>
 XK (h a s b H D (I.fW _) c) (λ_ _ q=>q.e6) λ_ _ z=>Ts z
end
section
variable{X:aU}{st:XF}{j:Z1}{t u:g1}{e:Wp}{i:bI}{g:Pos}
def No:g1:=λD a H=>D.nx a H
def Np(t u:g1):g1:=λD a H=>t {D with nx:=u D} a H
theorem wc:i9 X [] No:=λ_ _ a H _ I h=>Ys ⟨a,H,I,h⟩
theorem ni(b:jz X st t)(c:i9 X j u):i9 X (st::j) (Np t u):=by
 intro a s d H D I h;refine wpAny_execs_cons (cp (b a s d H {D with nx:=u D} I h) λf e q=>?_);cases f with
 |next=>
  obtain⟨g,i,k,q⟩:=q;exact c a e g i D k q
 |ret v=>exact q
 |brk=>exact q
 |cont=>exact q
theorem pj(a:jz X st t):i9 X [st] t:=by
 intro b s c H D I h;refine wpAny_execs_cons (cp (a b s c H D I h) λf d q=>?_);cases f with
 |next=>exact Ys q
 |ret v=>exact q
 |brk=>exact q
 |cont=>exact q
theorem c_.quiet{a:Z2}{b:St}{H:al}{s:Tk}(I:c_ X a b H s):interactive X.env=false:=by simp[interactive,I.ok.kind]
def Nq(i:bI):g1:=λD a H=>i a H λ_ b=>D.nx a b
theorem qF(b:bP X e i)(c:XE e none g.line X.env=pure false:=by rfl):jz X (.Expr e g) (Nq i):=by
 intro d s a H D I h;exact wpAny_Expr_any (cp (b d s a H _ I h) λv l ⟨x,f,j,m,k⟩=>⟨a,f,j,k⟩) I.quiet c
def Nr(i:bI):g1:=λD a H=>i a H D.rt
theorem me(b:bP X e i):jz X (.Return (some e) g) (Nr i):=by
 intro c s a H D I h;exact wpAny_Return_some (cp (b c s a H _ I h) λv l ⟨x,d,f,j,k⟩=>⟨x,a,d,f,j,k⟩)
def Nt(c:eh)(t u:g1):g1:=λD a H=>c a H λb d=>if b=true then t D a d else u D a d
theorem we{c:Wp}{a b:Z1}{i:eh}(n:j1 X c i)(o:i9 X a t)(p:i9 X b u):jz X (.If c a b g) (Nt i t u):=by
 intro e s f H D I h;refine wpAny_If (cp (n e s f H _ I h) λd j ⟨k,l,m⟩=>?_);cases d with
 |true=>exact o e j f k D l m
 |false=>exact p e j f k D l m
def Nu:g1:=λ_ _ _=>False
theorem Nv:jz X st Nu:=λ_ _ _ _ _ _ h=>h.elim
end
abbrev fN:=V->St->al->(St->al->Prop)->Prop
abbrev nj:=ZQ->St->al->(St->al->Prop)->Prop
def i'(X:aU)(a:Wp)(t:fN):Prop:=
 ∀(b:Z2)(s:Tk)(c:St)(H:al)(v:V)(u:SL)(Q:St->al->Prop),c_ X b c H s->eb v u->t v c H Q->
  wpAny (UV X.prog X.w) X.A (Y8 a X.env u) (λ_ f=>∃d e,c_ X b d e f/\Q d e) X.xe s
def r8(X:aU)(g:Z0)(t:nj):Prop:=
 ∀(a:Z2)(s:Tk)(b:St)(H:al)(c:ZQ)(d:ZY)(Q:St->al->Prop),c_ X a b H s->bN c d->t c b H Q->
  wpAny (UV X.prog X.w) X.A (YI ((XD g X.env).map (·.2)) d) (λ_ h=>∃e f,c_ X a e f h/\Q e f) X.xe s
abbrev AI:=V->V->V->al->(al->Prop)->Prop
def Fw(X:aU)(t:AI):Prop:=
 ∀(a:Z2)(s:Tk)(b:St)(H:al)(o i v:V)(c d u:SL)(Q:al->Prop),c_ X a b H s->eb o c->eb i d->eb v u->t o i v H Q->
  wpAny (UV X.prog X.w) X.A (setItem c d u) (λ_ f=>∃e,c_ X a b e f/\Q e) X.xe s
abbrev wf:=V->V->al->cn->Prop
def Fx(X:aU)(c:Operator)(t:wf):Prop:=
 ∀(a:Z2)(s:Tk)(b:St)(H:al)(x y:V)(v u:SL)(Q:cn),c_ X a b H s->eb x v->eb y u->t x y H Q->
  wpAny (UV X.prog X.w) X.A (inplaceOp c v u) (he X a b Q) X.xe s
section
variable{X:aU}{d:Pos}
def tR(i:Nat):fN:=λv a H Q=>Q (a.set i (some v)) H
theorem tS{i:Nat}{x:Str}(a:X.N.Nodup)(b:X.N[i]?=some x)(c:hh X.env.scope x)(e:iq X x:=by walk_at"f"):i' X (.Name x d) (tR i):=by
 intro g s j H v u Q I r h;exact wpAny_assign_Name (r6 I a b c r (λk f=>⟨_,H,f,h⟩) e)
def Nw:nj:=λa b H Q=>a=[]/\Q b H
def Nx(t:fN)(u:nj):nj:=λa b H Q=>∃v r,a=v::r/\t v b H λc e=>u r c e Q
theorem Fy:r8 X [] Nw:=by
 intro b s a H c d Q I r h;obtain⟨e,h⟩:=h;subst e;cases r;exact assignInOrder_nil ⟨a,H,I,h⟩
theorem wg{e:Wp}{a:Z0}{t:fN}{u:nj}(c:i' X e t)(d:r8 X a u)(f:(XD (e::a) X.env).map (·.2)=Y8 e X.env::(XD a X.env).map (·.2):=by rfl):r8 X (e::a) (Nx t u):=by
 intro b s g H q w Q I r h;obtain⟨v,i,j,h⟩:=h;subst j;cases r with
 |cons r k=>
  rw[f];refine Yw (cp (c b s g H _ _ _ I r h) λ_ l ⟨m,n,o,p⟩=>?_);exact d b l m n _ _ Q o k p
def Ny(K:Su)(n:Nat)(t:nj):fN:=λv c H Q=>∃a b,v=.ref a/\e0 K H a b/\b.length=n/\t b c H Q
theorem Fz{c:Z0}{k:Nat}{t:nj}{n:Nat}(l:X.calm=true)(h:r8 X c t)(m:(XD c X.env).length=n:=by rfl)(p:(XD c X.env).findIdx? (·.1)=none:=by rfl):i' X (.Tuple c k d) (Ny X.K n t):=by
 intro g s i H v u Q I r f;obtain⟨a,q,w,x,y,f⟩:=f;subst w;cases r;obtain⟨z,j,A,F⟩:=I.tuple x;refine assign_Tuple_tuple (I.ok.hd l) A (by simp[m,<-y,j.length]) p λB C=>?_;have E:c_ X g i H {s with heap:=B }:=I.kept (t':=s.toks) λb o e=>C b o (S6 (Heap.lt_size e)) e;exact h g _ i H q _ Q E (by simpa using j) f
def Nz(b c:bI)(t:AI):fN:=λv a H Q=>b a H λo e=>c a e λi f=>t o i v f λg=>Q a g
theorem AJ{o i:Wp}{f g:bI}{t:AI}(j:bP X o f)(k:bP X i g)(l:Fw X t)(m:∀v,Y8 (.Subscript o i d) X.env v=(do
   let a <-Yz [v] (Yp o X.env)
   let b <-Yz [v,a] (Yp i X.env)
   YU d
   Yz [v,a,b] (setItem a b v)
   release [v,a,b] []):=by intro _;rfl):i' X (.Subscript o i d) (Nz f g t):=by
 intro e s c H v u Q I r h;rw[m];refine wp (Xy (cp (j e s c H _ I h) λa n ⟨x,p,q,w,z⟩=>?_));refine wp (Xy (cp (k e n c p _ q z) λb A ⟨y,B,C,E,F⟩=>?_));refine wp (X1 (wp (Xy (cp (l e A c B x y v a b u _ C w E r F) λ_ L ⟨G,J,K⟩=>?_))));exact wpAny_release ⟨c,G,J,K⟩
def wi(b:bI)(g:fN):g1:=λD a H=>b a H λx c=>g x a c D.nx
theorem r9{a e:Wp}{b:bI}{g:fN}(i:bP X e b)(j:i' X a g)(k:X2 [a] e d.line X.env=pure false:=by rfl)(l:X3 [a] e X.env=pure none:=by rfl)(m:(XD [a] X.env).map (·.2)=[Y8 a X.env]:=by rfl):jz X (.Assign [a] e d) (wi b g):=by
 intro c s f H D I h;refine wpAny_Assign_stores (cp (i c s f H _ I h) λv n ⟨x,o,p,r,t⟩=>?_) k l;rw[m];exact cp (j c n f o x v _ p r t) λ_ u q=>q
theorem qH{i:Nat}{x:Str}{e:Wp}{a:bI}{b:Pos}(c:X.N.Nodup)(f:X.N[i]?=some x)(g:hh X.env.scope x)(j:bP X e a)(k:XE e (some (.Name x b)) d.line X.env=pure false:=by rfl)(l:iq X x:=by walk_at"f"):
  jz X (.Assign [.Name x b] e d) (wi a (tR i)):=by
 intro m s n H D I h;refine wpAny_Assign_Name (cp (j m s n H _ I h) λv u ⟨y,o,p,q,r⟩=>?_) k;exact r6 p c f g q (λw t=>⟨_,o,t,r⟩) l
def NA(i j:Nat)(b:eZ):g1:=λD a H=>b a H λc e=>∃v w,c=[v,w]/\D.nx ((a.set i (some v)).set j (some w)) e
theorem FA{i j:Nat}{x y:Str}{a b:Wp}{z:eZ}{k l m:Pos}{n r t}(L:X.calm=true)(B:X.N.Nodup)(M:X.N[i]?=some x)(O:X.N[j]?=some y)(P:i≠j)(C:X.env.scope.names.lookup x=some .local)(E:X.env.scope.names.lookup y=some .local)(Q:hf X [a,b] z)(R:X3 [.Tuple [.Name x k,.Name y l] n m] (.Tuple [a,b] r t) X.env=pure (some [x,y]))(S:X2 [.Tuple [.Name x k,.Name y l] n m] (.Tuple [a,b] r t) d.line X.env=pure false:=by rfl):
  jz X (.Assign [.Tuple [.Name x k,.Name y l] n m] (.Tuple [a,b] r t) d) (NA i j z):=by
 intro F s G H D I h;rw[exec_Assign_arm];refine wp (X1 ?_);rw[S];refine wp (SC ?_);rw[Tl (by decide)];refine wp (Tuple_ (cp (Q _ F s G H _ I h) λT c ⟨aw,J,U,W,u⟩=>?_));obtain⟨v,w,Y,u⟩:=u;subst Y
 obtain⟨f,g,rfl,Z,h1⟩:∃f g,T=[f,g]/\eb v f/\eb w g:=by
  cases W with
  |cons p q=>
   cases q with
   |cons aa ae=>
    cases ae;exact⟨_,_,rfl,p,aa⟩
 refine W1 ?_ e7;have af:c_ X F G J {c with heap:=c.heap.push {cls:=.type "tuple",data:=.seq [f,g].toArray} }:=U.kept (t':=c.toks) λb o e=>Heap.get?_push_of_some _ e;rw[R];refine wp (SC ?_);show wpAny (UV X.prog X.w) X.A (do rule "assign.swapped-stores";let items <-Zz (.ref c.heap.objs.size) 2 none;YI [λv=>ZH X.env y v,λv=>ZH X.env x v] items.reverse;pure Flow.next) _ _ _;refine wp (Yg (wp (unpackItems_tuple (items :=#[f,g]) (I.ok.hd L) (IsTup.new c.heap _) λh' ai=>?_)));have ao:=af.kept (h':=h') (t':=c.toks) λb o e=>ai b o (S6 (Heap.lt_size e)) e;show wpAny _ _ (YI [λv=>ZH X.env y v,λv=>ZH X.env x v] [g,f] >>= λ_=>pure Flow.next) _ _ _
 refine wp (Yw (wpAny_bindName (r6 ao B O (.inl E) h1 (λax ar=>?_) (.inr E))));refine Yw (wpAny_bindName (r6 ar B M (.inl C) Z (λay K=>assignInOrder_nil (SC ?_)) (.inr C)));rw[List.set_comm _ _ (Tc P)]at K;exact⟨_,J,K,u⟩
def NB(i:Nat)(b:bI)(c:wf):g1:=λD a H=>∃x,a[i]?=some (some x)/\b a H λy e=>c x y e λz f=>D.nx (a.set i (some z)) f
theorem NC{i:Nat}{x:Str}{e:Wp}{j:bI}{b:Operator}{n:wf}{t:Pos}(B:X.N.Nodup)(o:X.N[i]?=some x)(f:hh X.env.scope x)(C:bP X e j)(E:Fx X b n)(F:iq X x:=by walk_at"f"):
  jz X (.AugAssign (.Name x t) b e d) (NB i j n):=by
 intro g s p H D I h;obtain⟨v,G,h⟩:=h;obtain⟨m,J,K⟩:=I.loc;have L:gy X.env.scope x:=by rcases f with k|k;exact .inl k;exact .inr (.inl k)
 obtain⟨u,r,l⟩:=K i x v o G L;refine wpAny_AugAssign_Name ?_
 have q:wpAny (UV X.prog X.w) X.A (Yp e X.env) (λw M=>wpAny (UV X.prog X.w) X.A (inplaceOp b u w) (λr O=>wpAny (UV X.prog X.w) X.A (storeName X.env x r) (λ_=>r7 X g D .next) X.xe O) X.xe M) X.xe s:=by
  refine cp (C g s p H _ I h) λw P ⟨y,Q,R,S,T⟩=>?_;refine cp (E g P p Q v y u w _ R r S T) λz au ⟨U,W,Y,Z,h1⟩=>?_;exact r6 Y B o f Z (λav aa=>⟨_,W,aa,h1⟩) F
 rcases l with⟨a,ae⟩|⟨a,c,af,ar⟩
 ·exact Y5 I.ok.kind a J ae q
 rcases a with a|a
 ·exact Zd I.ok.kind a af ar q
 rcases f with k|k
 ·have:X.env.scope.names.lookup x=some .free:=a;rw[k]at this;cases this
 have:X.env.scope.names.lookup x=some .free:=a;rw[k]at this;cases this
def NF(f:Int->Int->Int):wf:=λx y H Q=>∃i j,x=.int i/\y=.int j/\Q (.int (f i j)) H
theorem NG:Fx X .Add (NF λi j=>i+j):=by
 intro e s f H x y v u Q I a b h;obtain⟨i,j,c,d,q⟩:=h;subst c;subst d;obtain⟨t,rfl⟩:=a;obtain⟨g,rfl⟩:=b;exact iadd_int ⟨.int _,H,I.tok _,⟨_,rfl⟩,q⟩
end
section
variable{X:aU}{a:Pos}
def NH(c:eh)(i:g1):g1:=λD d H=>∃W:Nat->St->al->Prop,(∃m,W m d H)/\∀m d H,W m d H->
 c d H λb e=>if b=true then ∃N:St->al->Prop,(∀f g,N f g->∃h,h<m/\W h f g)/\i {D with nx:=N,ct:=N,bk:=D.nx} d e else D.nx d e
theorem NI{c:Wp}{d:Z1}{u:eh}{x:g1}(y:YV (UV X.prog X.w) X.A X.env X.xe)(J:j1 X c u)(K:i9 X d x):jz X (.While c d [] a) (NH u x):=by
 intro m s L H D I h;obtain⟨W,⟨M,O⟩,e⟩:=h;refine wpAny_While (codeAny_whileLoop (λn P=>∃z B,c_ X m z B P/\W n z B) ?_ M ⟨L,H,I,O⟩);rintro n Q ⟨j,C,R,S⟩;refine XO y (cp (J m Q j C _ R (e n j C S)) λb T ⟨E,F,k⟩=>?_);cases b with
 |true=>
  obtain⟨N,G,k⟩:=k;rw[SZ rfl];refine XO y (cp (K m T j E _ F k) λf U l=>?_);cases f with
  |next=>
   obtain⟨g,i,o,p⟩:=l;obtain⟨q,r,t⟩:=G g i p;exact⟨q,r,g,i,o,t⟩
  |cont=>
   obtain⟨g,i,o,p⟩:=l;obtain⟨q,r,t⟩:=G g i p;exact⟨q,r,g,i,o,t⟩
  |brk=>exact l
  |ret v=>exact l
 |false=>
  rw[Tl SW];exact Ys ⟨j,E,F,k⟩
end
structure hx where
 go:Nat->al->Prop
 kN:Nat->al->V->al->Prop
 stop:Nat->al->Prop
def g2(X:aU)(a:Z2)(H:al)(b:TD):Prop:=
 H b=none/\b≠X.env.locals/\b∉X.fs/\(b∈X.ex\/X.s₀.heap.objs.size<=b)/\(∀x c,X.env.cells.lookup x=some c->c≠b)/\∀p∈X.pn++a,p.1≠b
theorem c_.ht{X:aU}{d:Z2}{g:St}{H f:al}{s:Tk}{b:TD}(I:c_ X d g H s)(a:s.heap.objs.size<=b)(h:f b=none):g2 X d f b:=by
 refine⟨h,TU (Ta I.lt a),I.lq a,.inr (Sy I.sz a),λx c e z=>?_,λp i z=>?_⟩
 ·obtain⟨v,q⟩:=I.cell x c e;exact absurd (Ta q.lt (by rw[z];exact a)) (TS _)
 exact absurd (Ta (Heap.lt_size (I.pin p i).1) (by rw[z];exact a)) (TS _)
structure pl(P:WP)(w:XB)(K:Su)(bj:Wp)(J:hx)(cF:ZZ)(it:TD)(hO:Nat->XG->Prop):Prop where
 mem:it∈cF
 obj:∀i h,hO i h->∀b∈cF,∃o,h.get? b=some o/\∀v,o.data≠.cell v
 keep:∀i h h',hO i h->(∀b∈cF,∀o,h.get? b=some o->h'.get? b=some o)->hO i h'
 item:∀(X:aU),X.prog=P->X.w=w->X.K=K->X.calm=true->∀(i:Nat)(ak:Z2)(s:Tk)(σ:St)(H:al)(E:SL->Tk->Prop),c_ X ak σ H s->(∀b∈cF,g2 X ak H b)->hO i s.heap->J.go i H->
  wpAny (UV P w) X.A (YW (.ref it)) (λr aE=>∃u,r=some u /\
   wpAny (UV P w) X.A (Yt bj (.ref it) u) (λ_ bi=>∃x H',c_ X ak σ H' bi/\eb x u/\J.kN i H x H'/\hO (i+1) bi.heap/\∀b∈cF,H' b=none) E aE) E s
 done:∀(X:aU),X.prog=P->X.w=w->X.K=K->X.calm=true->∀(i:Nat)(ak:Z2)(s:Tk)(σ:St)(H:al)(E:SL->Tk->Prop),c_ X ak σ H s->(∀b∈cF,g2 X ak H b)->hO i s.heap->J.stop i H->
  wpAny (UV P w) X.A (YW (.ref it)) (λr aE=>r=none/\c_ X ak σ H aE) E s
 self:∀(A:XC)(i:Nat)(s:Tk)(Q:SL->Tk->Prop)(E:SL->Tk->Prop),hO i s.heap->Q (.ref it) s->wpAny (UV P w) A (ZF (.ref it)) Q E s
abbrev gQ:=St->al->(hx->al->Prop)->Prop
def FB(X:aU)(c:Z2)(h:St)(i:Wp)(R:hx->al->Prop)(j:SL)(d:Tk):Prop:=
 ∃(e:TD)(f:ZZ)(g:Nat->XG->Prop)(J:hx)(a:al),j=.ref e/\c_ X c h a d/\pl X.prog X.w X.K i J f e g/\g 0 d.heap/\(∀b∈f,g2 X c a b)/\R J a
def iR(X:aU)(c d:Wp)(e:gQ):Prop:=
 ∀(b:Z2)(s:Tk)(a:St)(H:al)(R:hx->al->Prop),c_ X b a H s->e a H R->
  wpAny (UV X.prog X.w) X.A (Yp d X.env) (λv f=>wpAny (UV X.prog X.w) X.A (ZF v) (FB X b a c R) X.xe f) X.xe s
theorem wk{M:Model}{A:XC}{E:SL->Tk->Prop}{s:Tk}{b:Wp}{c:TD}{u:SL}{o:Obj}{n:String}{d:Array SL}{Q:Unit->Tk->Prop}(e:s.heap.get? c=some o)(f:o.cls=.type n)(g:o.data=.fields d)(i:["enumerate","zip","dict_itemiterator","dict_reverseitemiterator","odict_iterator","itertools.zip_longest","itertools.pairwise"].contains n=false)(a:Q () s): wpAny M A (Yt b (.ref c) u) Q E s:=by
  unfold Yt
  cases b<;>first
    |exact SC a
    | (cases u<;>first
        |exact SC a
        | (refine wp (wpAny_load e ?_)
           rw[f,g];show wpAny M A (if(["enumerate","zip","dict_itemiterator","dict_reverseitemiterator","odict_iterator","itertools.zip_longest","itertools.pairwise"].contains n&&d[0]?==some (Y9 _))=true then _ else _) Q E s
           rw[Tl (by intro h;rw[i,Bool.false_and]at h;cases h)]
           exact SC a))
def AL(K:Su)(a:TD):hx:=
 ⟨λi H=>∃b x,cE K H a b/\b[i]?=some x,λi H x c=>c=H/\∀b,cE K H a b->b[i]?=some x,λi H=>∃b,cE K H a b/\b.length<=i⟩
def AM(K:Su)(a:TD):hx:=
 ⟨λi H=>∃b x,e0 K H a b/\b[i]?=some x,λi H x c=>c=H/\∀b,e0 K H a b->b[i]?=some x,λi H=>∃b,e0 K H a b/\b.length<=i⟩
def r'(lo:Int)(n:Nat):hx:=⟨λi _=>i<n,λi H x a=>a=H/\x=.int (lo+i),λi _=>n<=i⟩
theorem NJ{P:WP}{w:XB}{K:Su}{R:Wp}(a f:TD):pl P w K R (AL K a) [f] f (λi h=>h.IsListIter f a i) where
 mem:=by simp
 obj:=λi h st b g=>by
  have e:b=f:=by simpa using g
  subst e;obtain⟨o,e,c,d⟩:=st;exact⟨o,e,λv z=>by rw[d]at z;cases z⟩
 keep:=λi h j st k=>st.at λo e=>k f (by simp) o e
 item:=by
  intro X n q r M i N s O H E I l st t;subst n q r;obtain⟨S,x,m,y⟩:=t;obtain⟨A,B,p,T⟩:=I.list m;obtain⟨u,U,W⟩:=B.get y;obtain⟨C,F,Y,G,J,L⟩:=l f (by simp);refine YN st p.isList (x:=u) (by simpa using U) λj Q Z=>?_;have h1:c_ X N O H {s with heap:=j }:=I.turned (t':=s.toks) (λb o g e=>(Z.2 b g).trans e) C F G J L;obtain⟨o,e,c,d⟩:=id Q;exact⟨u,rfl,wk (s:={s with heap:=j }) e c d (by decide) ⟨x,H,h1,W,⟨rfl,λae aa=>by rw[I.hl aa m];exact y⟩,Q,λb g=>(l b g).1⟩⟩
 done:=by
  intro X n q r M i N s O H E I l st t;subst n q r;obtain⟨S,m,y⟩:=t;obtain⟨A,B,p,T⟩:=I.list m;obtain⟨C,F,Y,G,J,L⟩:=l f (by simp);have ag:=B.length;exact YX (I.ok.hd M) st p.isList (by simp;lia) λj hi=>⟨rfl,I.turned (t':=s.toks) (λb o g e=>hi b o g e) C F G J L⟩
 self:=λ_ _ _ _ _ st h=>wpAny_pyIter_listiter st h
theorem NK{P:WP}{w:XB}{K:Su}{R:Wp}(a f:TD):pl P w K R (AM K a) [f] f (λi h=>h.IsTupleIter f a i) where
 mem:=by simp
 obj:=λi h st b g=>by
  have e:b=f:=by simpa using g
  subst e;obtain⟨o,e,c,d⟩:=st;exact⟨o,e,λv z=>by rw[d]at z;cases z⟩
 keep:=λi h l st k=>st.at λo e=>k f (by simp) o e
 item:=by
  intro X q r t M i N s O H E I m st y;subst q r t;obtain⟨S,x,n,A⟩:=y;obtain⟨j,B,p,T⟩:=I.tuple n;obtain⟨u,U,W⟩:=B.get A;obtain⟨C,F,Y,G,J,L⟩:=m f (by simp);refine wpAny_pyNext_tuple_item st (show s.heap.IsTuple a j.toArray from p) (x:=u) (by simpa using U) λl Q Z=>?_;have h1:c_ X N O H {s with heap:=l }:=I.turned (t':=s.toks) (λb o g e=>(Z.2 b g).trans e) C F G J L;obtain⟨o,e,c,d⟩:=id Q;exact⟨u,rfl,wk (s:={s with heap:=l }) e c d (by decide) ⟨x,H,h1,W,⟨rfl,λae aa=>by rw[I.iM aa n];exact A⟩,Q,λb g=>(m b g).1⟩⟩
 done:=by
  intro X q r t M i N s O H E I m st y;subst q r t;obtain⟨S,n,A⟩:=y;obtain⟨j,B,p,T⟩:=I.tuple n;obtain⟨C,F,Y,G,J,L⟩:=m f (by simp);have ag:=B.length;exact wpAny_pyNext_tuple_end (I.ok.hd M) st (show s.heap.IsTuple a j.toArray from p) (by simp;lia) λl hi=>⟨rfl,I.turned (t':=s.toks) (λb o g e=>hi b o g e) C F G J L⟩
 self:=λ_ _ _ _ _ st h=>wpAny_pyIter_tupleiter st h
theorem NL{P:WP}{w:XB}{K:Su}{G:Wp}(a:TD)(lo:Int)(n:Nat):pl P w K G (r' lo n) [a] a (λi h=>IsRangeIter h a (lo+(i:Nat)*1) ((n:Int)-(i:Nat)) 1) where
 mem:=by simp
 obj:=λi h st b c=>by
  have e:b=a:=by simpa using c
  subst e
  exact⟨_,st,λv z=>by
   have J:Data.fields _=Data.cell v:=z
   cases J⟩
 keep:=λi h d st k=>k a (by simp) _ st
 item:=by
  intro X g j l m i A s B H E I f st p;subst g j l;obtain⟨q,r,L,u,x,y⟩:=f a (by simp);have W:=Walks.range (prog:=X.prog) (w:=X.w) (I.ok.hd m) a lo 1 n;refine W.item i s _ _ p st λv d C M F N=>?_;obtain⟨t,rfl⟩:=M;have O:c_ X A B H {s with heap:=d,toks:=C}:=I.turned (λb o c e=>N b o (by simpa using c) e) q r u x y;refine⟨_,rfl,wk (s:={s with heap:=d,toks:=C}) (n:="range_iterator") F rfl rfl (by decide) ⟨.int (lo+i),H,O,⟨t,?_⟩,⟨rfl,rfl⟩,F,λb c=>(f b c).1⟩⟩;rw[U9]
 done:=by
  intro X g j l m i A s B H E I f st p;subst g j l;obtain⟨q,r,L,u,x,y⟩:=f a (by simp);exact wpAny_pyNext_range_end (I.ok.hd m) st (by have:n<=i:=p;lia) λd Q=>⟨rfl,I.turned (t':=s.toks) (λb o c e=>Q b o c e) q r u x y⟩
 self:=λ_ _ _ _ _ st h=>wpAny_pyIter_rangeiter st h
section
variable{X:aU}{c:Wp}
def NM(K:Su)(d:bI):gQ:=λe H R=>d e H λx b=>∃a,x=.ref a/\(∃f,cE K b a f)/\R (AL K a) b
def NN(K:Su)(d:bI):gQ:=λe H R=>d e H λx b=>∃a,x=.ref a/\(∃f,e0 K b a f)/\R (AM K a) b
theorem FC{l:Wp}{g:bI}(i:bP X l g):iR X c l (NM X.K g):=by
 intro j s k H R I h;refine cp (i j s k H _ I h) λv d ⟨x,m,f,n,r⟩=>?_;obtain⟨a,e,⟨y,t⟩,q⟩:=r;subst e;cases n;obtain⟨u,z,p,A⟩:=f.list t;refine Yh p.isList ?_;refine⟨d.heap.objs.size,[d.heap.objs.size],_,_,m,rfl,f.kept (t':=d.toks) λb o e=>Heap.get?_push_of_some _ e,NJ a _,⟨_,Heap.get?_push_size _ rfl,rfl,rfl⟩,λb w=>?_,q⟩;have e:b=d.heap.objs.size:=by simpa using w
 subst e;exact f.ht (SD _) (f.eg.fresh (SD _))
theorem NO{l:Wp}{i:bI}(j:bP X l i):iR X c l (NN X.K i):=by
 intro k s m H R I h;refine cp (j k s m H _ I h) λv d ⟨x,n,f,r,t⟩=>?_;obtain⟨a,e,⟨y,u⟩,q⟩:=t;subst e;cases r;obtain⟨g,z,p,A⟩:=f.tuple u;refine wpAny_pyIter_tuple (show d.heap.IsTuple a g.toArray from p) ?_;refine⟨d.heap.objs.size,[d.heap.objs.size],_,_,n,rfl,f.kept (t':=d.toks) λb o e=>Heap.get?_push_of_some _ e,NK a _,⟨_,Heap.get?_push_size _ rfl,rfl,rfl⟩,λb w=>?_,q⟩;have e:b=d.heap.objs.size:=by simpa using w
 subst e;exact f.ht (SD _) (f.eg.fresh (SD _))
theorem FD{f:Z2}{g:St}{H:al}{s:Tk}{R:hx->al->Prop}{E:SL->Tk->Prop}{lo a:Int}{t u v:Tok}{h:Nat}(I:c_ X f g H s)(j : -(2^62)<=lo)(k:lo<2^62)(l : -(2^62)<=a)(m:a<2^62)(q:R (r' lo (a-lo).toNat) H):wpAny (UV X.prog X.w) X.A (ZF (.ref s.heap.objs.size)) (FB X f g c R) E {s with heap:=s.heap.push {cls:=.type "range",data:=.fields #[.int lo t,.int a u,.int 1 v]},toks:=h}:=by
 refine wpAny_pyIter_range (IsRange.new ..) (small_one j k l m) ?_;have i:c_ X f g H {s with heap:=s.heap.push {cls:=.type "range",data:=.fields #[.int lo t,.int a u,.int 1 v]},toks:=h}:=I.kept λb o e=>Heap.get?_push_of_some _ e
 refine⟨(s.heap.push {cls:=.type "range",data:=.fields #[.int lo t,.int a u,.int 1 v]}).objs.size,[(s.heap.push {cls:=.type "range",data:=.fields #[.int lo t,.int a u,.int 1 v]}).objs.size],_,_,H,rfl,
  i.kept (t':=h) λb o e=>Heap.get?_push_of_some _ e,NL _ lo (a-lo).toNat,?_,λb n=>?_,q⟩
 ·have p:lo+((0:Nat):Int)*1=lo:=by simp
  have r:(((a-lo).toNat:Nat):Int)-((0:Nat):Int)=Builtin.Range.rangeSize lo a 1:=by rw[rangeSize_one];split<;>lia
  show IsRangeIter _ _ (lo+((0:Nat):Int)*1) ((((a-lo).toNat:Nat):Int)-((0:Nat):Int)) 1
  rw[p,r];exact Heap.get?_push_size _ rfl
 have e:b=(s.heap.push {cls:=.type "range",data:=.fields #[.int lo t,.int a u,.int 1 v]}).objs.size:=by simpa using n
 subst e;exact i.ht (SD _) (i.eg.fresh (SD _))
def NP(a:eZ):gQ:=λb H R=>a b H λd e=>∃j:Int,d=[.int j] /\ -(2^62)<=j/\j<2^62/\R (r' 0 j.toNat) e
def NQ(a:eZ):gQ:=λb H R=>a b H λd e=>∃i j:Int,d=[.int i,.int j]/\(-(2^62)<=i/\i<2^62 /\ -(2^62)<=j/\j<2^62)/\R (r' i (j-i).toNat) e
theorem NR{a:Wp}{f:eZ}{p b:Pos}(g:eu X "range")(i:X.mg "range"=none)(k:hf X [a] f)(l:UF [a] X.env=[(false,Yp a X.env)]:=by rfl):iR X c (.Call (.Name "range" p) [a] [] b) (NP f):=by
 intro m s n H R I h;refine Call_ (oa I g i boot_range (UY (cp (k b m s n H _ I h) λx y ⟨z,A,o,u,d⟩=>?_) l rfl));obtain⟨j,e,d,v,q⟩:=d;subst e;cases u with
 |cons r w=>
  cases w;obtain⟨t,rfl⟩:=r;exact call_range_1 (FD o (by lia) (by lia) d v (by simpa using q))
theorem NS{a b:Wp}{k:eZ}{p d:Pos}(m:eu X "range")(n:X.mg "range"=none)(o:hf X [a,b] k)(u:UF [a,b] X.env=[(false,Yp a X.env),(false,Yp b X.env)]:=by rfl)(l:UF [b] X.env=[(false,Yp b X.env)]:=by rfl):
  iR X c (.Call (.Name "range" p) [a,b] [] d) (NQ k):=by
 intro v s w H R I h;refine Call_ (oa I m n boot_range (UY (cp (o d v s w H _ I h) λE F ⟨G,J,x,y,f⟩=>?_) (by rw[u,l]) (by rw[l];rfl)));obtain⟨i,j,e,⟨f,z,A,B⟩,q⟩:=f;subst e;cases y with
 |cons r g=>
  cases g with
  |cons C g=>
   cases g;obtain⟨t,rfl⟩:=r;obtain⟨K,rfl⟩:=C;exact call_range_2 (FD x f z A B q)
def NT(f:gQ)(g:fN)(h:g1):g1:=λD a H=>f a H λJ j=>∃W:Nat->Nat->St->al->Prop,(∃m,W 0 m a j)/\∀i m a H,W i m a H->
 (J.stop i H/\D.nx a H)\/(J.go i H/\∃N:St->al->Prop,(∀d b,N d b->∃e,e<m/\W (i+1) e d b)/\∀x b,J.kN i H x b->g x a b λk l=>h {D with nx:=N,ct:=N,bk:=D.nx} k l)
def tU(a:ZZ)(h:XG):List (TD×Obj):=a.filterMap λb=>(h.get? b).map λo=>(b,o)
theorem wl{a:ZZ}{h:XG}{b:TD}{o:Obj}(c:b∈a)(e:h.get? b=some o):(b,o)∈tU a h:=T7.mpr ⟨b,c,by rw[e];rfl⟩
theorem NU{a:ZZ}{h:XG}{p:TD×Obj}(c:p∈tU a h):p.1∈a/\h.get? p.1=some p.2:=by
 obtain⟨b,d,e⟩:=T7.mp c;cases q:h.get? b with
 |none=>rw[q]at e;cases e
 |some o=>
  rw[q]at e;have f:(b,o)=p:=SN e;subst f;exact⟨d,q⟩
theorem c_.pinned{a:Z2}{f:St}{H:al}{s:Tk}{c:ZZ}(I:c_ X a f H s)(i:∀b∈c,g2 X a H b)(j:∀b∈c,∃o,s.heap.get? b=some o/\∀v,o.data≠.cell v):c_ X (a++tU c s.heap) f H s:=
 I.gv λp k=>(SO.mp k).elim (λz=>I.pin p (S2 _ z)) λz=>by
  obtain⟨g,e⟩:=NU z;obtain⟨l,m,n,_⟩:=i p.1 g;obtain⟨o,h,d⟩:=j p.1 g;rw[e]at h;cases h;exact⟨e,l,m,n,d⟩
theorem c_.e9{a c:Z2}{b:St}{H:al}{s:Tk}(I:c_ X (a++c) b H s):c_ X a b H s:=I.gv λp d=>I.pin p (S2 _ (Tx _ d))
theorem AN{L:Wp}{q:Z1}{S:gQ}{g:fN}{U:g1}{M:Pos}(z:YV (UV X.prog X.w) X.A X.env X.xe)(Y:X.calm=true)(ay:iR X c L S)(aB:i' X c g)(a:i9 X q U)(aD:∀x,WF L X.env x=pure x:=by intro _;rfl):jz X (.For c L q [] M) (NT S g U):=by
 intro y s Z H D I h;refine wpAny_For (cp (ay y s Z H _ I h) λv bR aF=>cp aF λbS bV aH=>?_) aD;obtain⟨bW,B,ag,J,aI,e,aJ,T,aK,ai,W,⟨aN,aM⟩,C⟩:=aH;subst e;have O:∀{p:al},(∀b∈B,p b=none)->∀b∈B,g2 X y p b:=λaO b a=>⟨aO b a,(ai b a).2⟩;refine codeAny_forLoop_any (λn aj=>∃i E p,c_ X y E p aj/\ag i aj.heap/\(∀b∈B,p b=none)/\W i n E p) ?_ aN ⟨0,Z,aI,aJ,aK,λb a=>(ai b a).1,aM⟩;rintro n ao ⟨i,F,K,aq,ar,au,aR⟩;rcases C i n F K aR with⟨stop,aT⟩|⟨aV,N,aW,step⟩
 ·refine XO z (cp (T.done X rfl rfl rfl Y i y ao F K X.xe aq (O au) ar stop) λr aZ ⟨P,aY⟩=>?_);subst P;exact Ys ⟨F,K,aY,aT⟩
 refine XO z (cp (T.item X rfl rfl rfl Y i y ao F K X.xe aq (O au) ar aV) λr aZ ⟨u,P,a3⟩=>?_);subst P;refine XO z (cp a3 λ_ aw ⟨x,ax,a5,a6,a7,Q,a'⟩=>?_);have bc:=a5.pinned (O a') (T.obj _ _ Q);refine XO z (cp (aB _ aw F ax x u _ bc a6 (step x ax a7)) λ_ bj ⟨bq,bz,bA,bC⟩=>?_);refine XO z (cp (a _ bj bq bz _ bA bC) λf R t=>?_)
 have again:∀{j:St}{k:al},c_ X (y++tU B aw.heap) j k R->N j k->∃m,m<n/\∃i E p,c_ X y E p R/\ag i R.heap/\(∀b∈B,p b=none)/\W i m E p:=λ{j k} l G=>by
  obtain⟨bF,bJ,bK⟩:=aW j k G;refine⟨bF,bJ,i+1,j,k,l.e9,T.keep _ _ _ Q λb a o e=>(l.pin (b,o) (S2 _ (S2 _ (wl a e)))).1,λb a=>?_,bK⟩;obtain⟨o,e,d⟩:=T.obj _ _ Q b a;exact(l.pin (b,o) (S2 _ (S2 _ (wl a e)))).2.1
 cases f with
 |next=>obtain⟨j,k,l,G⟩:=t;exact again l G
 |cont=>obtain⟨j,k,l,G⟩:=t;exact again l G
 |brk=>obtain⟨j,k,l,t⟩:=t;exact⟨j,k,l.e9,t⟩
 |ret v=>obtain⟨bM,j,k,l,bQ,t⟩:=t;exact⟨bM,j,k,l.e9,bQ,t⟩
end
abbrev iS:=V->V->al->cn->Prop
def g4(X:aU)(f:SL->SL->Sem SL)(r:iS):Prop:=
 ∀(a:Z2)(s:Tk)(b:St)(H:al)(x y:V)(v u:SL)(Q:cn),c_ X a b H s->eb x v->eb y u->r x y H Q->
  wpAny (UV X.prog X.w) X.A (f v u) (he X a b Q) X.xe s
def AP(X:aU)(f:SL->Sem SL)(r:V->al->cn->Prop):Prop:=
 ∀(a:Z2)(s:Tk)(b:St)(H:al)(x:V)(v:SL)(Q:cn),c_ X a b H s->eb x v->r x H Q->
  wpAny (UV X.prog X.w) X.A (f v) (he X a b Q) X.xe s
def nn(X:aU)(f:SL)(r:ZQ->al->cn->Prop):Prop:=
 ∀(a:Z2)(s:Tk)(b:St)(H:al)(c:ZQ)(d:ZY)(Q:cn),c_ X a b H s->bN c d->r c H Q->
  wpAny (UV X.prog X.w) X.A (call f d) (he X a b Q) X.xe s
def N3(X:aU)(r:V->al->(Bool->al->Prop)->Prop):Prop:=
 ∀(a:Z2)(s:Tk)(b:St)(H:al)(x:V)(v:SL)(Q:Bool->al->Prop),c_ X a b H s->eb x v->r x H Q->
  wpAny (UV X.prog X.w) X.A (ZE v) (v9 X a b Q) X.xe s
def ol(r:iS)(b c:bI):bI:=λa H Q=>b a H λx d=>c a d λy e=>r x y e Q
def AQ(r:V->al->cn->Prop)(a:bI):bI:=λb H Q=>a b H λx c=>r x c Q
def sd(C:Int->Int->Prop)(g:Int->Int->V):iS:=λx y H Q=>∃i j,x=.int i/\y=.int j/\C i j/\Q (g i j) H
def lF(g:Int->Int->V):iS:=λx y H Q=>∃i j,x=.int i/\y=.int j/\Q (g i j) H
def AR(g:Int->V):V->al->cn->Prop:=λx H Q=>∃i,x=.int i/\Q (g i) H
section
variable{X:aU}{a b c:Wp}{d k l:bI}{e:Pos}
theorem AS(l:bP X a d)(m:bP X b k){g:Z2}{s:Tk}{c:St}{H:al}{R:V->V->al->Prop}(I:c_ X g c H s)(h:d c H λx j=>k c j λy e=>R x y e){Q:SL->Tk->Prop}{f:SL->SL->Sem SL}(n:∀v u i x y e,c_ X g c e i->eb x v->eb y u->R x y e->wpAny (UV X.prog X.w) X.A (f v u) Q X.xe i):
  wpAny (UV X.prog X.w) X.A (Yp a X.env) (λv o=>wpAny (UV X.prog X.w) X.A (Yp b X.env) (λu p=>wpAny (UV X.prog X.w) X.A (f v u) Q X.xe p) X.xe o) X.xe s:=by
 refine cp (l g s c H _ I h) λv q ⟨x,j,r,t,z⟩=>?_;refine cp (m g q c j _ r z) λu i ⟨y,e,B,C,E⟩=>?_;exact n v u i x y e B t C E
theorem gj{c:Operator}{r:iS}(f:g4 X (YJ c) r)(g:bP X a d)(i:bP X b k):bP X (.BinOp a c b e) (ol r d k):=by
 intro j s l H Q I h;exact wpAny_BinOp (AS g i I h λv u m x y n o p t q=>f j m l n x y v u Q o p t q)
theorem N4{b:UnaryOp}{r:V->al->cn->Prop}(g:AP X (unaryOp b) r)(i:bP X a d):bP X (.UnaryOp b a e) (AQ r d):=by
 intro c s f H Q I h;exact UnaryOp_ (cp (i c s f H _ I h) λv j ⟨x,k,l,m,n⟩=>g c j f k x v Q l m n)
theorem wn{f:SL->SL->Sem SL}{C:Int->Int->Prop}{g:Int->Int->Int}(rule:∀(i j:Int)(t u:Tok)(s:Tk)(Q E:SL->Tk->Prop),C i j->Q (.int (g i j) s.toks) {s with toks:=s.toks+1}->wpAny (UV X.prog X.w) X.A (f (.int i t) (.int j u)) Q E s):
  g4 X f (sd C λi j=>.int (g i j)):=by
 intro e s k H x y v u Q I a b h;obtain⟨i,j,rfl,rfl,c,q⟩:=h;obtain⟨t,rfl⟩:=a;obtain⟨d,rfl⟩:=b;exact rule i j t d s _ _ c ⟨.int (g i j),H,I.tok _,⟨_,rfl⟩,q⟩
theorem FH{f:SL->SL->Sem SL}{g:Int->Int->Int}(rule:∀(i j:Int)(t u:Tok)(s:Tk)(Q E:SL->Tk->Prop),Q (.int (g i j) s.toks) {s with toks:=s.toks+1}->wpAny (UV X.prog X.w) X.A (f (.int i t) (.int j u)) Q E s):
  g4 X f (lF λi j=>.int (g i j)):=by
 intro d s e H x y v u Q I a b h;obtain⟨i,j,rfl,rfl,q⟩:=h;obtain⟨t,rfl⟩:=a;obtain⟨c,rfl⟩:=b;exact rule i j t c s _ _ ⟨.int (g i j),H,I.tok _,⟨_,rfl⟩,q⟩
theorem se{f:SL->SL->Sem SL}{g:Int->Int->Bool}(rule:∀(i j:Int)(t u:Tok)(s:Tk)(Q E:SL->Tk->Prop),Q (.bool (g i j)) s->wpAny (UV X.prog X.w) X.A (f (.int i t) (.int j u)) Q E s):
  g4 X f (lF λi j=>.bl (g i j)):=by
 intro d s e H x y v u Q I a b h;obtain⟨i,j,rfl,rfl,q⟩:=h;obtain⟨t,rfl⟩:=a;obtain⟨c,rfl⟩:=b;exact rule i j t c s _ _ ⟨.bl (g i j),H,I,rfl,q⟩
def FI(i j:Int):Prop:=0<=j/\j<=1000000/\i.natAbs<2^64
theorem wo:g4 X (YJ .Add) (lF λi j=>.int (i+j)):=FH λ_ _ _ _ _ _ _ q=>add_int q
theorem N5:g4 X (YJ .Sub) (lF λi j=>.int (i-j)):=FH λ_ _ _ _ _ _ _ q=>sub_int q
theorem om:g4 X (YJ .Mod) (sd (λ_ j=>0<j) λi j=>.int (i%j)):=wn λi j _ _ _ _ _ a q=>by
 have b:(0:Int)<j:=a;exact mod_int' (by lia) (by rw[Int.fmod_eq_emod_of_nonneg i (by lia)];exact q)
theorem AT:g4 X (YJ .Pow) (sd FI λi j=>.int (i^j.toNat)):=wn λ_ _ _ _ _ _ _ a q=>pow_int_small a.1 a.2.1 a.2.2 q
theorem N6{f:SL->Sem SL}{g:Int->Int}(rule:∀(i:Int)(t:Tok)(s:Tk)(Q E:SL->Tk->Prop),Q (.int (g i) s.toks) {s with toks:=s.toks+1}->wpAny (UV X.prog X.w) X.A (f (.int i t)) Q E s):
  AP X f (AR λi=>.int (g i)):=by
 intro b s c H x v Q I a h;obtain⟨i,rfl,q⟩:=h;obtain⟨t,rfl⟩:=a;exact rule i t s _ _ ⟨.int (g i),H,I.tok _,⟨_,rfl⟩,q⟩
theorem N7:AP X (unaryOp .USub) (AR λi=>.int (-i)):=N6 λ_ _ _ _ _ q=>neg_int q
end
section
variable{X:aU}{a b c:Wp}{d g l:bI}{f:Pos}
theorem oo:g4 X (XU .Lt) (lF λi j=>.bl (decide (i<j))):=se λ_ _ _ _ _ _ _ q=>lt_int q
theorem N8:g4 X (XU .LtE) (lF λi j=>.bl (decide (i<=j))):=se λ_ _ _ _ _ _ _ q=>le_int q
theorem pq:g4 X (XU .Gt) (lF λi j=>.bl (decide (j<i))):=se λ_ _ _ _ _ _ _ q=>gt_int q
theorem wq:g4 X (XU .GtE) (lF λi j=>.bl (decide (j<=i))):=se λ_ _ _ _ _ _ _ q=>ge_int q
theorem dH(b:Wp){a:CmpOp}(h:a≠.In:=by decide)(c:a≠.NotIn:=by decide):XJ a b=false:=by
 have d:(a==CmpOp.In)=false:=by cases a<;>first|rfl|exact absurd rfl h
 have e:(a==CmpOp.NotIn)=false:=by cases a<;>first|rfl|exact absurd rfl c
 cases b<;>simp[XJ,d,e]
theorem AU{c:CmpOp}{r:iS}(e:g4 X (XU c) r)(i:bP X a d)(j:bP X b g)(k:XJ c b=false):bP X (.Compare a [c] [b] f) (ol r d g):=by
 intro l s m H Q I h;exact wpAny_Compare1 (AS i j I h λv u n x y o p t w q=>e l n m o x y v u Q p t w q) k
def N9(t:bI):eh:=λe H Q=>t e H λx h=>∃k,x=.bl k/\Q k h
theorem qJ{i:CmpOp}{r:iS}(m:g4 X (XU i) r)(n:bP X a d)(o:bP X b g)(p:XJ i b=false):j1 X (.Compare a [i] [b] f) (N9 (ol r d g)):=by
 intro j s l H Q I h
 refine wpAny_isTrue_Compare1 (cp (n j s l H _ I h) λv q ⟨x,t,w,A,B⟩=>cp (o j q l t _ w B) λu C ⟨y,E,F,G,J⟩=>
  cp (m j C l E x y v u _ F A G J) λc O ⟨z,K,L,M,k,e,N⟩=>?_) p
 subst e;cases M;exact XI ⟨K,L,N⟩
def FJ(K:Su)(x:V)(H:al)(k:Bool):Prop:=
 match x with
 |.non=>k=false
 |.bl b=>k=b
 |.int i=>k=(i != 0)
 |.str y=>y.length<=TI/\k=((y.length:Int) != 0)
 |.byt y=>y.size<=TI/\k=((y.size:Int) != 0)
 |.ref p=>(∃xs,cE K H p xs/\k = !xs.isEmpty)\/(∃xs,e0 K H p xs/\k = !xs.isEmpty)\/∃kvs,H p=some (.dK kvs)/\k = !kvs.isEmpty
 |_=>False
theorem N'{a:Type}{kvs:List (a×V)}{vs:List (a×SL)}(r:AD kvs vs):(!vs.isEmpty) = !kvs.isEmpty:=by
 cases r<;>rfl
theorem FK{xs:ZQ}{its:ZY}(r:bN xs its):(!its.toArray.isEmpty) = !xs.isEmpty:=by
 cases r<;>simp
theorem tW:(TI:Nat)<2^63:=by rw[XS];decide
theorem Oa:N3 X (λx H Q=>∃k,FJ X.K x H k/\Q k H):=by
 intro z s A H x v Q I c h;obtain⟨k,e,q⟩:=h;have B:=tW;have C:TI=16777216:=XS;cases x with
 |non=>
  cases c;have a:k=false:=e;subst a;exact truthy_none ⟨H,I,q⟩
 |bl b=>
  cases c;have a:k=b:=e;subst a;exact XI ⟨H,I,q⟩
 |int i=>
  obtain⟨t,rfl⟩:=c;have a:k=(i != 0):=e;subst a;exact PySem.P.truthy_int ⟨H,I,q⟩
 |str y=>
  obtain⟨t,rfl⟩:=c;obtain⟨o,a⟩:y.length<=TI/\k=((y.length:Int) != 0):=e;subst a;exact PySem.P.truthy_str (by lia) ⟨H,I.tok _,q⟩
 |byt y=>
  obtain⟨t,rfl⟩:=c;obtain⟨o,a⟩:y.size<=TI/\k=((y.size:Int) != 0):=e;subst a;exact PySem.W.truthy_bytes (by lia) ⟨H,I.tok _,q⟩
 |ref p=>
  cases c;have a:(∃xs,cE X.K H p xs/\k = !xs.isEmpty)\/(∃xs,e0 X.K H p xs/\k = !xs.isEmpty)\/∃kvs,H p=some (.dK kvs)/\k = !kvs.isEmpty:=e;rcases a with⟨xs,d,a⟩|⟨xs,d,a⟩|⟨kvs,d,a⟩
  ·subst a;obtain⟨g,r,j,l⟩:=I.list d;have n:=r.length;exact wpAny_truthy_list j.isList (by simp only[SV];lia) ⟨H,I.tok _,by rw[FK r];exact q⟩
  ·subst a;obtain⟨g,r,j,l⟩:=I.tuple d;have n:=r.length;exact truthy_tuple j (by simp only[SV];lia) ⟨H,I.tok _,by rw[FK r];exact q⟩
  subst a;obtain⟨l,u,f,r,m⟩:kvs.length<=TI/\(p==XM)=false/\∃f,AD kvs f/\s.heap.DictOf (AC X.prog X.w) p f:=I.eg p _ d;have n:kvs.length=f.length:=Paired.length r;exact wpAny_truthy_dict u m (by lia) ⟨H,I.tok _,by rw[N' r];exact q⟩
 |_=>exact(show False from e).elim
theorem AV(f:bP X a d)(g:∀whole,Zh a X.env whole=(do let v <-whole;YU a.pos;Yz [v] (ZE v))):
  j1 X a (λb H Q=>d b H λx c=>∃k,FJ X.K x c k/\Q k c):=by
 intro e s b H Q I h;exact isTrue_plain (cp (f e s b H _ I h) λv i ⟨x,j,l,m,n⟩=>Oa e i b j x v Q l m n) (g _)
theorem e3{x:V}{a:ZY}(r:bN [x] a):∃u,a=[u]/\eb x u:=by
 cases r with
 |cons b c=>cases c;exact⟨_,rfl,b⟩
theorem l0{x y:V}{a:ZY}(r:bN [x,y] a):∃u b,a=[u,b]/\eb x u/\eb y b:=by
 cases r with
 |cons c d=>
  cases d with
  |cons e f=>cases f;exact⟨_,_,rfl,c,e⟩
theorem Ob:nn X (.builtin "abs") (λa H Q=>∃i,a=[.int i]/\Q (.int (if i<0 then -i else i)) H):=by
 intro b s c H a d Q I r h;obtain⟨i,rfl,q⟩:=h;obtain⟨u,rfl,t,rfl⟩:=e3 r;exact call_abs_int λu e=>⟨.int (if i<0 then -i else i),H,I.tok _,⟨_,rfl⟩,q⟩
theorem Oc:nn X (.type "int") (λa H Q=>(∃i,a=[.int i]/\Q (.int i) H)\/∃k,a=[.bl k]/\Q (.int (if k then 1 else 0)) H):=by
 intro c s d H a e Q I r h;rcases h with⟨i,rfl,q⟩|⟨k,rfl,q⟩
 ·obtain⟨u,rfl,t,rfl⟩:=e3 r;exact call_int_int ⟨.int i,H,I,⟨_,rfl⟩,q⟩
 obtain⟨u,rfl,b⟩:=e3 r;cases b;exact call_int_bool ⟨.int (if k then 1 else 0),H,I.tok _,⟨_,rfl⟩,q⟩
end
structure AW(h:XG)(x fE C:TD)(gP:Str->Option SL):Prop where
 obj:h.get? x=some (VB C fE)
 ns:h.Ns1 fE gP
 ne:fE≠x
theorem Od{h:XG}{b:TD}{c:Str->Option SL}(n:h.Ns1 b c):∃d,h.get? b=some d/\∀name,VF name d=some (c name):=by
 obtain⟨o,f,r,g,i,j,_,k⟩:=n;refine⟨o,g,λname=>?_⟩;have e:=k name;unfold nsFind findBy at e;rw[<-Array.find?_toList]at e;unfold VF;rw[i];dsimp only;split
 ·rename_i y q
  rw[q]at e;exact Uf some e
 rename_i q
 rw[q]at e
 have a:f.toList.any (·.refKey)=false:=by
  rw[List.any_eq_false];intro y l;obtain⟨z,t,m⟩:=j y (Array.mem_toList_iff.mp l);simp[DictEntry.refKey,m]
 have p:¬f.toList.any (·.refKey)=true:=by rw[a];exact SW
 rw[Tl p];exact Uf some e
theorem AW.look{h:XG}{x b C:TD}{c:Str->Option SL}(I:AW h x b C c):∃a,PySem.W.InstAt h x (VB C b) C (some a)/\∀name,VF name a=some (c name):=
 let⟨a,d,e⟩:=Od I.ns
 ⟨a,⟨I.obj,rfl,rfl,d⟩,e⟩
theorem pf.some_of{v:V}{o:Option SL}(r:pf (some v) o):∃u,o=some u/\eb v u:=by
 cases o with
 |none=>exact(show False from r).elim
 |some u=>exact⟨u,rfl,r⟩
section
variable{P:WP}{w:XB}{H g:al}{h j:XG}{a C c:TD}{b i:List (Str×V)}
theorem Oe(i:fh P w H h)(e:H a=some (.ins C c b)):∃g,AW h a c C g/\(∀f,pf (b.lookup f) (g f))/\PySem.Within g (b.map (·.1))/\b.length<=1000/\H c=some (.own a):=by
 obtain⟨d,z,j,k,g,n,r,q⟩:=(show gx P w H h a (.ins C c b)from i a _ e);exact⟨g,⟨k,n,j⟩,r,q,z,d⟩
end
structure AX(K:Su)(C:TD):Prop where
 pg:Wv K C Str.empty=true
 hd:PySem.W.hasDictIn K C=true
 po:PySem.W.plainOver K C=true
 sa:Ww K (.ref C) "__setattr__"=some (some (.builtin "object.__setattr__"))
theorem AX.get{K:Su}{C:TD}(c:AX K C)(f:Str):Wv K C f=true:=c.pg
section
variable{X:aU}{f:Z2}{d:St}{H:al}{s:Tk}{A:XC}{E Q:SL->Tk->Prop}{c:SL}{b:Bool}
inductive kA(K:Su)(H:al):V->SL->Prop where
 |non:kA K H .non (.type "NoneType")
 |bl(x:Bool):kA K H (.bl x) (.type "bool")
 |int(i:Int):kA K H (.int i) (.type "int")
 |str(x:Str):kA K H (.str x) (.type "str")
 |flt(x:UInt64):kA K H (.flt x) (.type "float")
 |lst{a:TD}{xs:ZQ}(e:H a=some (.lst xs)):kA K H (.ref a) (.type "list")
 |frz{a:TD}{o:Obj}{xs:ZQ}(e:H a=some (.frz o (.lst xs))):kA K H (.ref a) (.type "list")
 |tup{a:TD}{xs:ZQ}(e:H a=some (.tup xs)):kA K H (.ref a) (.type "tuple")
 |dK{a:TD}{kvs:List (iN×V)}(e:H a=some (.dK kvs)):kA K H (.ref a) (.type "dict")
 |dT{a:TD}{kvs:List (List iN×V)}(e:H a=some (.dT kvs)):kA K H (.ref a) (.type "dict")
 |ins{a C fE:TD}{fs:List (Str×V)}(e:H a=some (.ins C fE fs))(bJ:AX K C) (au:Ww K (.ref C) "__class__"=some (some (.builtin "object.__class__")))
   (aP:PySem.W.specialIn K (.builtin "object.__class__") "__get__"=some (some (.builtin "getset_descriptor.__get__"))) (FL:PySem.W.takesIn K (.builtin "object.__class__")=some true)
   (az:PySem.W.mroIn K C (.type "object")=some true):kA K H (.ref a) (.ref C)
theorem Of{x:V}{u t:SL}(I:c_ X f d H s)(g:eb x u)(ty:kA X.K H x t)(e:VG X.K t c=some b)(h:∀B,Q (.bool b) {s with toks:=B}):
  wpAny (UV X.prog X.w) A (call (.builtin "isinstance") [u,c]) Q E s:=by
 cases ty with
 |non=>cases(show u=Value.none from g);exact TP PySem.W.kitx_none I.gC UZ e (λz=>nomatch z) h
 |bl y=>cases(show u=Value.bool y from g);exact TP PySem.W.kitx_bool I.gC UZ e (λz=>nomatch z) h
 |int i=>obtain⟨t,q⟩:=(show ∃t,u=Value.int i t from g);cases q;exact TP PySem.W.kitx_int I.gC UZ e (λz=>nomatch z) h
 |str y=>obtain⟨t,q⟩:=(show ∃t,u=Value.str y t from g);cases q;exact TP PySem.W.kitx_str I.gC UZ e (λz=>nomatch z) h
 |flt y=>obtain⟨t,q⟩:=(show ∃t,u=Value.float y t from g);cases q;exact TP PySem.W.kitx_float I.gC UZ e (λz=>nomatch z) h
 | @lst a m j=>
  cases(show u=Value.ref a from g);obtain⟨_,_,n,_,k⟩:=(show gx X.prog X.w H s.heap a (.lst m)from I.eg a _ j);exact TP Wx I.gC ⟨_,k,rfl⟩ e (λz=>nomatch z) h
 | @frz a F m j=>
  cases(show u=Value.ref a from g);obtain⟨_,_,_,n,_,k⟩:=(show gx X.prog X.w H s.heap a (.frz F (.lst m))from I.eg a _ j);exact TP Wx I.gC ⟨_,k,rfl⟩ e (λz=>nomatch z) h
 | @tup a m j=>
  cases(show u=Value.ref a from g);obtain⟨_,_,_,p⟩:=(show gx X.prog X.w H s.heap a (.tup m)from I.eg a _ j);obtain⟨o,k,r,_⟩:=p;exact TP PySem.W.kitx_tuple I.gC ⟨o,k,r⟩ e (λz=>nomatch z) h
 | @dK a l j=>
  cases(show u=Value.ref a from g);obtain⟨_,_,S,_,p⟩:=(show gx X.prog X.w H s.heap a (.dK l)from I.eg a _ j);obtain⟨o,G,L,k,r,_⟩:=p;exact TP Wy I.gC ⟨o,k,r.1⟩ e (λz=>nomatch z) h
 | @dT a l j=>
  cases(show u=Value.ref a from g);obtain⟨_,_,m,_,o,G,L,k,r,_⟩:=(show gx X.prog X.w H s.heap a (.dT l)from I.eg a _ j);exact TP Wy I.gC ⟨o,k,r.1⟩ e (λz=>nomatch z) h
 | @ins a C T U j v M N P R=>
  cases(show u=Value.ref a from g);obtain⟨Y,O,_⟩:=Oe I.eg j;obtain⟨Z,J,_⟩:=O.look;exact TP (PySem.W.kitx_own (v.get _) v.hd M N P R) I.gC J e (λz=>nomatch z) h
end
structure ew(k:Nat)(A:XC):Prop where
 hd:A.handled=none
 dp:A.depth+3*k+5<YA
 un:A.units+16*k+200<XT
theorem ew.mono{j k:Nat}{A:XC}(r:ew k A)(h:j<=k):ew j A:=⟨r.hd,by have:=r.dp;lia,by have:=r.un;lia⟩
theorem ew.deeper{k:Nat}{A:XC}(r:ew (k+1) A)(a:Env):ew k (A.deeper a):=
 ⟨r.hd,by have:=r.dp;show A.depth+1+3*k+5<_;lia,by have:=r.un;show A.units+3+16*k+200<_;lia⟩
theorem ew.depth{k:Nat}{A:XC}(r:ew k A):A.depth<YA:=by have:=r.dp;lia
theorem ew.units{k:Nat}{A:XC}(r:ew k A):A.units+64<XT:=by have:=r.un;lia
def ws:eZ:=λ_ H Q=>Q [] H
def wt(b:bI)(c:eZ):eZ:=λa H Q=>b a H λx d=>c a d λe f=>Q (x::e) f
section
variable{X:aU}{e:Wp}{c:Z0}{d:bI}{t:eZ}{a:Pos}
theorem e1:hf X [] ws:=λ_ _ _ _ H Q I h=>Calls.spliced_nil ⟨[],H,I,.nil,h⟩
theorem d2(g:bP X e d)(i:hf X c t)(j:eD X e c:=by rfl):hf X (e::c) (wt d t):=by
 intro a b s f H Q I h;rw[j];show wpAny _ _ (spliced ((false,Yp e X.env)::Yc a (UF c X.env))) _ _ s
 refine Calls.spliced_cons (cp (g b s f H _ I h) λu k ⟨x,l,m,n,o⟩=>?_);exact cp (i a b k f l _ m o) λy z ⟨p,q,r,v,w⟩=>⟨x::p,q,r,.cons n v,w⟩
def Og(t:eZ):bI:=λg H Q=>t g H λb f=>b.length<=TI/\∀p,f p=none->Q (.ref p) (ed f p (.tup b))
def Oh(t:eZ):bI:=λg H Q=>t g H λb f=>b.length<=TI/\∀p,f p=none->Q (.ref p) (ed f p (.lst b))
theorem wu{i}(h:hf X c t):bP X (.Tuple c i a) (Og t):=by
 intro j s k H Q I l;refine wpAny_Tuple_spliced (cp (h a j s k H _ I l) λm d ⟨n,f,g,r,z,q⟩=>⟨by rw[<-r.length];exact z,?_⟩);have o:f d.heap.objs.size=none:=g.eg.fresh (SD _);refine⟨.ref d.heap.objs.size,ed f d.heap.objs.size (.tup n),g.laid (t':=d.toks) (λb u e=>Heap.get?_push_of_some _ e) (SD _) ?_,rfl,q _ o⟩;exact⟨z,m,r,⟨_,Heap.get?_push_size _ rfl,rfl,_,rfl⟩⟩
theorem tX(h:hf X c t):bP X (.List c a) (Oh t):=by
 intro i s j H Q I k;refine wpAny_List_spliced (cp (h a i s j H _ I k) λl d ⟨m,f,g,r,z,q⟩=>⟨by rw[<-r.length];exact z,?_⟩);have n:f d.heap.objs.size=none:=g.eg.fresh (SD _);refine⟨.ref d.heap.objs.size,ed f d.heap.objs.size (.lst m),g.laid (t':=d.toks) (λb u e=>Heap.get?_push_of_some _ e) (SD _) ?_,rfl,q _ n⟩;exact⟨z,l,0,r,Heap.get?_push_size _ rfl⟩
end
abbrev iU:=ZQ->al->cn->g0->Prop
abbrev np:=List Env->al->Tk->g0->SL->Tk->Prop
structure wv(P:WP)(w:XB)(K:Su)(mg:Str->Option SL)(base:XG)(A:XC)(outer:List Env)(s:Tk)(H:al):Prop where
 frames:A.frames=some outer
 mod:Mod K mg base
 bs:∀b o,base.get? b=some o->s.heap.get? b=some o/\H b=none
 j5:base.objs.size<=s.heap.objs.size
 fV:s.heap.FunFrames base outer
 lY:∀b∈frs outer,H b=none
 eg:fh P w H s.heap
 bare:YT s.gens
 tab:ph K H
def qL(a:List Env)(P:WP)(w:XB)(H:al)(s:Tk)(Q:cn)(u:SL)(b:Tk):Prop:=
 ∃v c,b.os=s.os/\YT b.gens/\f9 (frs a) [] H c s.heap b.heap/\fh P w c b.heap/\eb v u/\Q v c
def Oi(c:np)(a:List Env)(P:WP)(w:XB)(H:al)(s:Tk)(Q:cn)(E:g0)(r:ZG)(b:Tk):Prop:=
 match r with
 |.ok (.ret u)=>qL a P w H s Q u b
 |.ok _=>False
 |.error e=>c a H s E e b
structure kB(P:WP)(w:XB)(K:Su)(mg:Str->Option SL)(base:XG)(gk:np)(k:Nat)(f:TD)(fd:X7)(ps:ZX)(sp:iU):Prop where
 len:∀vs H Q E,sp vs H Q E->vs.length=ps.length
 run:∀(A:XC)(outer:List Env)(s:Tk)(H:al)(args:Args)(us:ZY)(vs:ZQ)(Q:cn)(E:g0),ew k A->wv P w K mg base A outer s H->ZI s fd args (ps.zip us)->bN vs us->sp vs H Q E->
  codeAny (UV P w) A (.call (.ref f) args) (Oi gk outer P w H s Q E) s
theorem kB.imp{P:WP}{w:XB}{K:Su}{b:Str->Option SL}{a:XG}{gk:np}{k:Nat}{f:TD}{c:X7}{d:ZX}{sp e:iU}(F:kB P w K b a gk k f c d sp)(h:∀vs H Q E,e vs H Q E->sp vs H Q E):kB P w K b a gk k f c d e:=
 ⟨λvs H Q E q=>F.len vs H Q E (h _ _ _ _ q),λA outer s H args g vs Q E i j l m n=>F.run A outer s H args g vs Q E i j l m (h _ _ _ _ n)⟩
section
variable{X:aU}{e:Z2}{a:St}{H:al}{s c:Tk}
theorem c_.m8(I:c_ X e a H s):wv X.prog X.w X.K X.mg X.base X.A X.stack s H:=
 ⟨I.ok.frames,I.ok.mod,I.bs,Sy I.ok.j5 I.sz,I.stack,I.gu,I.eg,I.bare,I.tabs⟩
theorem c_.after{Q:cn}{u:SL}(I:c_ X e a H s)(h:qL X.stack X.prog X.w H s Q u c):he X e a Q u c:=by
 obtain⟨v,f,os,bare,un,eg,r,q⟩:=h;obtain⟨i,g,d,t,j⟩:=c;obtain rfl:j=s.os:=os;exact⟨v,f,I.call (h':=i) (g':=g) (d':=d) (t':=t) (ch:=[]) un eg bare (λb z=>absurd z (by simp)),r,q⟩
end
def FM(a:iU)(b:ZQ)(E:g0)(t:eZ):bI:=λc H Q=>t c H λd e=>a (d++b) e Q E
def fy(K:Su)(d:X7)(b:ZX)(c:ZY):Prop:=
 ∀(s:Tk)(a:ZY),K.In s.heap->(a++c).length=b.length->ZI s d ⟨a,[]⟩ (b.zip (a++c))
theorem fy.all{K:Su}{c:X7}{b:ZX}(h:∀a:ZY,a.length=b.length->Y2 c ⟨a,[]⟩=pure (b.zip a)):fy K c b []:=λs a _ d=>by
 rw[SU]at d⊢;exact .of_eq (h a d)
def AY(b:np)(X:aU)(E:g0):Prop:=∀(c:Z2)(d:St)(H:al)(s:Tk)(e:SL)(a:Tk),c_ X c d H s->b X.stack H s E e a->X.xe e a
section
variable{X:aU}{g:np}{k:Nat}{f C:TD}{i:X7}{d:ZX}{j:iU}{c:ZQ}{b:ZY}{E:g0}{x m:Str}{p a n:Pos}{e o:Wp}{l:Z0}{v:bI}{t:eZ}
theorem Ol{m:Z2}{n:St}{H:al}{s:Tk}{Q:cn}{a:ZY}{vs:ZQ}(F:kB X.prog X.w X.K X.mg X.base g k f i d j)(p:ew k X.A)(q:fy X.K i d b)(t:bN c b)(v:AY g X E)(I:c_ X m n H s)(r:bN vs a)(h:j (vs++c) H Q E):wpAny (UV X.prog X.w) X.A (call (.ref f) a) (he X m n Q) X.xe s:=by
 have o:bN (vs++c) (a++b):=r.append t;have x:(a++b).length=d.length:=by rw[<-o.length];exact F.len _ _ _ _ h
 refine wpAny_call (YY (F.run X.A X.stack s H ⟨a,[]⟩ (a++b) (vs++c) Q E p I.m8 (q s a I.gC x) o h) λr y l=>?_);cases r with
 |error e=>exact v m n H s e y I l
 |ok z=>
  cases z with
  |ret u=>exact I.after l
  |next=>exact Ts l
  |brk=>exact Ts l
  |cont=>exact Ts l
theorem Om(F:kB X.prog X.w X.K X.mg X.base g k f i d j)(n:ew k X.A)(o:eu X x)(u:X.mg x=some (.ref f))(v:U' X.K (.ref f)=true)(y:fy X.K i d b)(z:bN c b)(B:AY g X E)(C:hf X (e::l) t)(G:ea x:=by decide)(J:eD X e l:=by rfl)(L:hv X a l:=by rfl):
  bP X (.Call (.Name x p) (e::l) [] a) (FM j c E t):=by
 intro M s N H Q I h;refine XX (Fs I o u ?_ G);refine PySem.W.callWith_K (h₀:=X.base) I.ok.mod.m1 v (cp (C a M s N H _ I h) λO P ⟨R,S,m,r,q⟩=>⟨m.gC,?_⟩) J L;exact Ol F n y z B m r q
end
structure cy(N P:ZX)(sc:XZ):Prop where
 kind:sc.kind=.function
 co:sc.isCoroutine=false
 gen:sc.isGenerator=false
 nd:N.Nodup
 pre:N.take P.length=P
 par:∀x∈P,sc.names.lookup x=some .local\/sc.names.lookup x=some .cell
 lr:∀y∈sc.names,y.2≠.free
theorem FN{kindOf:Str->Option Zi}{x:Str}:∀{a:List (Str×SL)}{m:Str->Option SL},(∀v,(x,v)∉a)->bindL kindOf a m x=m x
 |[],_,_=>rfl
 | (n,v)::r,m,h=>by
  unfold bindL;rw[FN λw b=>h w (Sx _ b)];split
  ·have:x≠n:=by rintro rfl;exact h v Sw
   simp[this]
  rfl
theorem FO{kindOf:Str->Option Zi}{x:Str}:∀{a:List (Str×SL)}{m:Str->Option SL},(∀v,(x,v)∉a)->bindC kindOf a m x=m x
 |[],_,_=>rfl
 | (n,v)::r,m,h=>by
  unfold bindC;rw[FO λw b=>h w (Sx _ b)];split
  ·rfl
  have:x≠n:=by rintro rfl;exact h v Sw
  simp[this]
theorem FP{kindOf:Str->Option Zi}{x:Str}{v:SL}:∀{P:ZX}{a:ZY}{i:Nat}{m:Str->Option SL},P.Nodup->P[i]?=some x->a[i]?=some v->kindOf x=some .local->
  bindL kindOf (P.zip a) m x=some v
 |[],_,_,_,_,h,_,_=>by simp at h
 |_::_,[],_,_,_,_,h,_=>by simp at h
 |p::P,w::a,0,m,d,b,c,e=>by
  simp at b c;subst b;subst c;show bindL kindOf ((p,w)::P.zip a) m p=_
  unfold bindL;rw[FN λv f=>(Tt.mp d).1 (VH f).1,SZ e];simp
 |p::P,w::a,i+1,m,d,b,c,e=>by
  show bindL kindOf ((p,w)::P.zip a) m x=_
  unfold bindL;exact FP (i:=i) (Tt.mp d).2 (by simpa using b) (by simpa using c) e
theorem FQ{kindOf:Str->Option Zi}{x:Str}{v:SL}:∀{P:ZX}{a:ZY}{i:Nat}{m:Str->Option SL},P.Nodup->P[i]?=some x->a[i]?=some v->kindOf x≠some .local->
  bindC kindOf (P.zip a) m x=some v
 |[],_,_,_,_,h,_,_=>by simp at h
 |_::_,[],_,_,_,_,h,_=>by simp at h
 |p::P,w::a,0,m,d,b,c,e=>by
  simp at b c;subst b;subst c;show bindC kindOf ((p,w)::P.zip a) m p=_
  unfold bindC;rw[FO λv f=>(Tt.mp d).1 (VH f).1,Tl e];simp
 |p::P,w::a,i+1,m,d,b,c,e=>by
  show bindC kindOf ((p,w)::P.zip a) m x=_
  unfold bindC;exact FQ (i:=i) (Tt.mp d).2 (by simpa using b) (by simpa using c) e
noncomputable def fi(N:ZX)(a:ZQ):St:=a.map some++SR (N.length-a.length) none
noncomputable def k0(g:np)(P:WP)(w:XB)(K:Su)(mg:Str->Option SL)(base:XG)(N:ZX)(b:Str)(a:XZ)(f:TD)(c:SL)(A:XC)(outer:List Env)(s:Tk)(H:al)(E:g0):aU where
 prog:=P
 w:=w
 K:=K
 mg:=mg
 base:=base
 A:=A.deeper (Y' b a s.heap.objs.size f c)
 N:=N
 s₀:=s
 H₀:=H
 env:=Y' b a s.heap.objs.size f c
 outer:=outer
 stack:=Y' b a s.heap.objs.size f c::outer
 ex:=[]
 calm:=true
 fn:=λ_=>true
 pn:=[]
 xe:=λe h=>wpAny (UV P w) (A.deeper (Y' b a s.heap.objs.size f c)) (leaving (Y' b a s.heap.objs.size f c) e) (λ_ d=>g outer H s E e d) (λi d=>g outer H s E i d) h
theorem FR{sc:XZ}{n:Nat}{x:Str}(h:sc.names.lookup x=some .cell):∃c,(cellsFrom n sc.names []).lookup x=some c:=by
 have q:=Wz sc.names n [] (.inl h);exact VI.mp q
theorem On{O:np}{P:WP}{w:XB}{K:Su}{J:Str->Option SL}{m:XG}{N t:ZX}{j:Str}{d:XZ}{f:TD}{F:SL}{A:XC}{g:List Env}{s Q:Tk}{H:al}{E:g0}{L:ZY}{vs:ZQ}(S:cy N t d)(W:A.handled=none)(o:wv P w K J m A g s H)(Z:vs.length=t.length)(r:bN vs L)(x:InCallC s s.heap.objs.size (bindL (Y' j d s.heap.objs.size f F).kindOf (t.zip L) λ_=>none) (cellsFrom (s.heap.objs.size+1) d.names []) (bindC (Y' j d s.heap.objs.size f F).kindOf (t.zip L) λ_=>none) Q):
  c_ (k0 O P w K J m N j d f F A g s H E) [] (fi N vs) H Q:=by
 have af:t.length<=N.length:=by have:=Uf S3 S.pre;rw[TQ]at this;lia
 obtain⟨G,ag,rfl,R⟩:=x.done;have M:∀b:TD,b∉(k0 O P w K J m N j d f F A g s H E).ex:=λb z=>absurd (show b∈([]:ZZ)from z) (by simp)
 refine⟨⟨o.mod,S.kind,rfl,rfl,SD _,λy z c G l=>?_,λy B=>?_,λy c _ h=>?_,λ_=>W,Around.frames_deeper o.frames,.inr ⟨rfl,rfl⟩,λb z=>absurd z (M b),o.bs,o.j5,λb _ _=>M b,λb z=>absurd z (M b),o.fV,o.lY,o.tab⟩,
  rfl,o.bare,f9.kept R,⟨_,x.toInCall.ns,λi y v G l aj=>?_⟩,λy c h=>⟨_,x.cell y c h⟩,o.eg.fresh (SD _),λy c h=>?_,λp C=>absurd (show p∈([]:Z2)from C) (by simp),o.eg.kept R,?_⟩
 ·exact name_of_addr x.apart (Ur G) (Ur l)
 ·have B:d.names.lookup y=some .cell\/d.names.lookup y=some .free:=B;rcases B with B|B
  ·exact FR B
  exact absurd rfl (S.lr _ (Ur B))
 ·exact UE (x.above y c (Ur h))
 ·have I:i<vs.length:=by
   unfold fi at l;by_cases I:i<vs.length
   ·exact I
   rw[To (by simpa using I)]at l;rw[Uh]at l;split at l<;>cases l
  have X:vs[i]?=some v:=by
   unfold fi at l;rw[TH (by simpa using I),SP]at l;cases e:vs[i]? with
   |none=>rw[e]at l;cases l
   |some a=>rw[e]at l;cases l;rfl
  obtain⟨u,T,Y⟩:=r.get X
  have C:t[i]?=some y:=by
   rw[<-S.pre,List.getElem?_take_of_lt (by lia)];exact G
  have U:t.Nodup:=by rw[<-S.pre];exact S.nd.sublist (List.take_sublist _ _)
  refine⟨u,Y,?_⟩;rcases S.par y (Tb C)with k|k
  ·exact .inl ⟨k,FP U C T k⟩
  obtain⟨c,e⟩:=FR (n:=s.heap.objs.size+1) k;refine .inr ⟨.inl k,c,e,?_⟩;have q:=x.cell y c e;rwa[FQ U C T (by show d.names.lookup y≠_;rw[k];decide)]at q
 ·exact o.eg.fresh (UE (x.above y c (Ur h)))
 unfold fi;show _=N.length
 rw[Sz,Sv,T8];lia
theorem FT{C:np}{P:WP}{w:XB}{K:Su}{F:Str->Option SL}{h:XG}{k:Nat}{f:TD}{name d:Str}{i:X5}{j:Z1}{a:XZ}{U kV p X g Y ag:SL}{Z ai:Option TD}{M:Array (Option SL)}{N G:ZX}{sp:iU}(lk:K.lookup f=some ⟨ag,ai,.func (UG name d i j a U kV p X Z g Y),M⟩)(aj:VJ K g d=true)(S:cy N G a)(z:∀vs H Q E,sp vs H Q E->vs.length=G.length)(ak:∀(A:XC)(c:List Env)(s:Tk)(H:al)(vs:ZQ)(Q:cn)(E:g0),ew k (A.deeper (Y' d a s.heap.objs.size f g))->sp vs H Q E->∃t,i9 (k0 C P w K F h N d a f g A c s H E) j t/\t {nx:=λ_ l=>Q .non l,rt:=Q} (fi N vs) H):
  kB P w K F h C (k+1) f (UG name d i j a U kV p X Z g Y) G sp:=by
 refine⟨z,λA c s H args hc vs Q E O B aq r h1=>?_⟩;have ar:=z _ _ _ _ h1;have aa:K.In s.heap:=B.mod.m1.keeps λb o e=>(B.bs b o e).1;have lim:s.heap.NoLimit:=B.mod.nolimit.keeps λb o e=>(B.bs b o e).1
 have au:∀y∈G.zip hc,a.names.lookup y.1=some .local\/(a.names.lookup y.1=some .cell/\((cellsFrom (s.heap.objs.size+1) a.names []).lookup y.1).isSome=true):=λ⟨n,v⟩ aw=>by
  rcases S.par n (VH aw).1 with q|q
  ·exact .inl q
  exact .inr ⟨q,Wz _ _ _ (.inl q)⟩
 refine codeAny_call_function O.depth (aa _ _ lk) rfl S.co S.gen rfl (PySem.W.codeRec_of aa aj) (aq _ _ _ _ ?_);refine wpAny_newFunctionEnv_cells S.kind au λax az hi x=>?_;subst az;refine⟨lim.keeps x.toInCall.keep,codeAny_func ?_⟩;obtain⟨t,aB,aD⟩:=ak A c s H vs Q E (O.deeper _) h1;have I:c_ (k0 C P w K F h N d a f g A c s H E) [] (fi N vs) H hi:=On S O.hd B ar r x;refine XK (aB [] hi (fi N vs) H _ I aD) (λaG R m=>?_) λe R m=>m
 have ae:∀{L:St}{l:al}{v:V}{u:SL},c_ (k0 C P w K F h N d a f g A c s H E) [] L l R->eb v u->Q v l->qL c P w H s Q u R:=
  λ{L l v u} J T q=>⟨v,l,J.os,J.bare,J.base,J.eg,T,q⟩
 cases aG with
 |ret u=>
  obtain⟨v,L,l,J,T,q⟩:=m;exact ae J T q
 |next=>
  obtain⟨L,l,J,q⟩:=m;exact ae (v:=V.non) (u:=Value.none) J rfl q
 |brk=>
  obtain⟨_,_,_,q⟩:=m;exact Ts q
 |cont=>
  obtain⟨_,_,_,q⟩:=m;exact Ts q
section
variable{X:aU}{x:Str}{p a:Pos}{e:Wp}{b:Z0}{t:eZ}{id T:String}{r:ZQ->al->cn->Prop}
def A0(r:ZQ->al->cn->Prop)(t:eZ):bI:=λc H Q=>t c H λd f=>r d f Q
theorem pw(f:nn X (.builtin id) r)(g:eu X x)(i:X.mg x=none)(j:XQ x=some (.builtin id))(k:hf X (e::b) t)(l:x≠"__name__":=by decide)(m:ea x:=by decide)(n:eD X e b:=by rfl)(o:hv X a b:=by rfl):bP X (.Call (.Name x p) (e::b) [] a) (A0 r t):=by
 intro c s d H Q I h;refine XX (oa I g i j ?_ l m);exact PyProof.Rows.callWith_builtin1 (cp (k a c s d H _ I h) λq u ⟨v,w,y,z,A⟩=>f c u d w v q Q y z A) n o
theorem FU(f:nn X (.type T) r)(g:eu X x)(i:X.mg x=none)(j:XQ x=some (.type T))(k:hf X (e::b) t)(l:x≠"__name__":=by decide)(m:ea x:=by decide)(n:eD X e b:=by rfl)(o:hv X a b:=by rfl):bP X (.Call (.Name x p) (e::b) [] a) (A0 r t):=by
 intro c s d H Q I h;refine XX (oa I g i j ?_ l m);exact UY (cp (k a c s d H _ I h) λq u ⟨v,w,y,z,A⟩=>f c u d w v q Q y z A) n o
end
namespace HT
section
variable{a:WP}{w:XB}{A:XC}{E:SL->Tk->Prop}{s:Tk}
def sIx(n d:Nat):Option Int->Nat
 |none=>d
 |some v=>if v<0 then(v+(n:Int)).toNat else min v.toNat n
theorem Op(n d:Nat)(b:d<=n)(o:Option Int):sIx n d o<=n:=by
 cases o with
 |none=>exact b
 |some v=>
  show(if v<0 then(v+(n:Int)).toNat else min v.toNat n)<=n
  by_cases a:v<0
  ·rw[SZ a];lia
  rw[Tl a];exact Nat.min_le_right _ _
theorem FV(v:Int)(n d:Nat):(if v<0 then max (v+(n:Int)) 0 else min v (n:Int))=((sIx n d (some v):Nat):Int):=by
 show(if v<0 then max (v+(n:Int)) 0 else min v (n:Int))=(((if v<0 then(v+(n:Int)).toNat else min v.toNat n):Nat):Int)
 by_cases a:v<0
 ·simp only[SZ a];lia
 simp only[Tl a];lia
theorem Oq(lo a:Option Int)(n:Nat):Builtin.Slice.sliceAdjust lo a 1 (n:Int)=(((sIx n 0 lo:Nat):Int),((sIx n n a:Nat):Int)):=by
 have b:¬((1:Int)<0):=by lia
 unfold Builtin.Slice.sliceAdjust;simp only[b,if_false];refine TC ?_ ?_
 ·cases lo with
  |none=>rfl
  |some v=>exact FV v n 0
 cases a with
 |none=>rfl
 |some v=>exact FV v n n
theorem Os(i j:Nat):Builtin.Slice.slicePlaces (i:Int) (j:Int) 1=j-i:=by
 unfold Builtin.Slice.slicePlaces;have a:(1:Int)>0:=by lia
 simp only[a,if_true,Int.ediv_one];split<;>lia
theorem FW{v:SL}{o:Option Int}{Q:Option Int->Tk->Prop}(p:ZA v o)(h:Q o s):wpAny (UV a w) A (Builtin.Slice.slicePartIndex v) Q E s:=by
 cases p with
 |none=>exact slicePart_none h
 |int i t=>exact slicePart_int h
theorem Ot{g:TD}{c d:SL}{lo b:Option Int}{n:Nat}{Q:Int×Int×Nat->Tk->Prop}(i:s.heap.IsSliceOf g c d .none)(j:ZA c lo)(k:ZA d b)(h:Q (((sIx n 0 lo:Nat):Int),1,sIx n n b-sIx n 0 lo) s):wpAny (UV a w) A (Builtin.Slice.sliceApplied (.ref g) (pure (n:Int))) Q E s:=by
 obtain⟨os,e,l,f⟩:=id i;unfold Builtin.Slice.sliceApplied Builtin.Slice.sliceFields;refine wp (wp (Yi e f (x:=c) rfl (wp (Yi e f (x:=d) rfl (wp (Yi e f (x:=.none) rfl (SC ?_)))))));refine wp (slicePart_none ?_);show wpAny _ _ (if((1:Int)==0)=true then _ else _) _ _ s
 rw[Tl (by decide)];refine wp (FW j (wp (FW k (wp (SC ?_)))));show wpAny _ _ (match Builtin.Slice.sliceAdjust lo b 1 (n:Int)with|(lo,b)=>pure (lo,(1:Int),Builtin.Slice.slicePlaces lo b 1)) _ _ s
 rw[Oq lo b n];show wpAny _ _ (pure (((sIx n 0 lo:Nat):Int),(1:Int),Builtin.Slice.slicePlaces ((sIx n 0 lo:Nat):Int) ((sIx n n b:Nat):Int) 1)) _ _ s
 rw[Os];exact SC h
theorem Ou(a:Array SL)(i k:Nat):((S7 k).filterMap λ(m:Nat)=>a[((i:Int)+(m:Int)*1).toNat]?).toArray=((a.toList.drop i).take k).toArray:=by
 have e:(λ(m:Nat)=>a[((i:Int)+(m:Int)*1).toNat]?)=λm=>a[i+m]?:=by
  funext m;have:((i:Int)+(m:Int)*1).toNat=i+m:=by lia
  rw[this]
 rw[e];have:=pick_run a i k;rw[List.filterMap_map]at this;have b:((λx=>a[x]?)∘λx=>i+x)=λm=>a[i+m]?:=rfl;rw[b]at this;rw[this]
theorem getItem_tuple_cut{t f:TD}{b:Array SL}{g i:SL}{lo c:Option Int}{Q:SL->Tk->Prop}(d:IsTup s.heap t b)(j:s.heap.IsSliceOf f g i .none)(k:ZA g lo)(l:ZA i c)(n:¬(sIx b.size 0 lo=0/\sIx b.size b.size c=b.size))(h:Q (.ref s.heap.objs.size) {s with heap:=s.heap.push {cls:=.type "tuple",data:=.seq ((b.toList.drop (sIx b.size 0 lo)).take (sIx b.size b.size c-sIx b.size 0 lo)).toArray} })(x:b.size<=TI):wpAny (UV a w) A (ZJ (.ref t) (.ref f)) Q E s:=by
 have e:sizeOk (.seq ((b.toList.drop (sIx b.size 0 lo)).take (sIx b.size b.size c-sIx b.size 0 lo)).toArray):=by
  show((b.toList.drop (sIx b.size 0 lo)).take (sIx b.size b.size c-sIx b.size 0 lo)).toArray.size<=TI
  rw[SV,TQ,Us,UX];lia
 have y:sIx b.size b.size c<=b.size:=Op _ _ (SD _) c;obtain⟨os,p,r,z⟩:=id j;have u:s.TypeIs (.ref f) "slice":=⟨os,p,r⟩;unfold ZJ
 try with_reducible refine Xy ?_
 first|refine wp (SC ?_)|skip
 refine wp (wpAny_sequenceKey d.typeIs (by decide) ?_)
 refine wp (Yd (name:=Str.ofString "__getitem__") d.typeIs VK
  (XH VK d.typeIs entry_tuple_getitem ?_ (args_tuple_getitem _ _)))
 show wpAny _ _ (Builtin.Tuple.tupleItemsOf (.ref t) >>= _) _ _ s
 refine wp (tupleItemsOf_ d ?_);refine wp (wpAny_typeOf u ?_);rw[SZ (by decide)];refine wp (Ot j k l ?_)
 have v:¬((((sIx b.size 0 lo:Nat):Int)==0&&(1:Int)==1&&(sIx b.size b.size c-sIx b.size 0 lo)==b.size)=true):=by
  intro q;rw[TJ,TJ]at q;have B:((sIx b.size 0 lo:Nat):Int)=0:=eq_of_beq q.1.1;have C:sIx b.size b.size c-sIx b.size 0 lo=b.size:=eq_of_beq q.2;exact n ⟨by lia,by lia⟩
 show wpAny _ _ (if(((sIx b.size 0 lo:Nat):Int)==0&&(1:Int)==1&&(sIx b.size b.size c-sIx b.size 0 lo)==b.size)=true then _ else _) _ _ s
 rw[Tl v,Ou]
 first
  |exact wp (m:=Builtin.Tuple.tupleExact _) (W1 (SC ⟨_,rfl,SC h⟩) e)
  |exact wp (m:=Builtin.Tuple.tupleExact _) (W1 (wp (SC (SC ⟨_,rfl,SC h⟩))) e)
  |exact wp (wp (m:=Builtin.Tuple.tupleExact _) (W1 (SC (SC ⟨_,rfl,SC h⟩)) e))
  |exact wp (wp (m:=Builtin.Tuple.tupleExact _) (W1 (SC ⟨_,rfl,SC h⟩) e))
end
end HT
abbrev sf:=St->al->(Option Int->al->Prop)->Prop
def t0(X:aU)(e:Option Wp)(t:sf):Prop:=
 ∀(b:Z2)(s:Tk)(a:St)(H:al)(Q:Option Int->al->Prop),c_ X b a H s->t a H Q->
  wpAny (UV X.prog X.w) X.A (evalPart e X.env) (λu d=>∃o c,c_ X b a c d/\ZA u o/\Q o c) X.xe s
def Ow:sf:=λ_ H Q=>Q none H
def Ox(t:bI):sf:=λa H Q=>t a H λx b=>∃i,x=.int i/\Q (some i) b
theorem fU{a:ZM}:∀{b:ZY},bN (a.map V.int) b->YZ b a:=by
 induction a with
 |nil=>intro b r;rw[TA]at r;cases r;exact .nil
 |cons n a c=>
  intro b r;rw[SJ]at r;cases r with
  |cons d f=>
   obtain⟨t,e⟩:=d;subst e;exact .cons n t (c f)
section
variable{X:aU}{e:Wp}{d:bI}{lo c:Option Wp}{g f:sf}{j p2:Pos}
theorem Oy:t0 X none Ow:=by
 intro a s b H Q I h;rw[evalPart_none];exact SC ⟨none,H,I,.none,h⟩
theorem Oz(h:bP X e d):t0 X (some e) (Ox d):=by
 intro a s b H Q I c;rw[evalPart_some];refine cp (h a s b H _ I c) λu l ⟨x,f,g,j,k⟩=>?_;obtain⟨i,rfl,q⟩:=k;obtain⟨t,rfl⟩:=j;exact⟨some i,f,g,.int i t,q⟩
def A1(X:aU)(r:V->Option Int->Option Int->al->cn->Prop):Prop:=
 ∀(a:Z2)(s:Tk)(b:St)(H:al)(x:V)(v h i:SL)(lo c:Option Int)(k:TD)(Q:cn),c_ X a b H s->eb x v->s.heap.IsSliceOf k h i .none->ZA h lo->ZA i c->r x lo c H Q->
  ∃T id,typeLookup (.type T) "__getitem__"=pure (some (.builtin id))/\s.TypeIs v T/\wpAny (UV X.prog X.w) X.A (ZJ v (.ref k)) (he X a b Q) X.xe s
def OA(r:V->Option Int->Option Int->al->cn->Prop)(d:bI)(g f:sf):bI:=λa H Q=>d a H λx b=>g a b λl h=>f a h λu i=>r x l u i Q
theorem A2{r:V->Option Int->Option Int->al->cn->Prop}(p:A1 X r)(t:bP X e d)(y:t0 X lo g)(z:t0 X c f):bP X (.Subscript e (.Slice lo c none p2) j) (OA r d g f):=by
 intro i s k H Q I h;refine Subscript_ (cp (t i s k H _ I h) λv B ⟨x,C,E,F,G⟩=>?_);refine wpAny_Slice (cp (y i B k C _ E G) λm J ⟨l,K,L,M,N⟩=>cp (z i J k K _ L N) λn a ⟨u,o,O,P,R⟩=>?_);rw[evalPart_none];refine SC ?_;have S:c_ X i k o {a with heap:=a.heap.push {cls:=.type "slice",data:=.fields #[m,n,.none]} }:=O.kept (t':=a.toks) λb Z q=>Heap.get?_push_of_some _ q;obtain⟨T,id,U,W,Y⟩:=p i {a with heap:=a.heap.push {cls:=.type "slice",data:=.fields #[m,n,.none]} } k o x v m n l u a.heap.objs.size Q S F (Heap.IsSliceOf.new ..) M P R;show wpAny (UV X.prog X.w) X.A (subscriptTail e (.Slice lo c none p2) v (.ref a.heap.objs.size)) (he X i k Q) X.xe {a with heap:=a.heap.push {cls:=.type "slice",data:=.fields #[m,n,.none]} }
 exact tail_any (ops:=[.ref a.heap.objs.size,v]) W U Y (by with_unfolding_all rfl)
def pz(a:ZQ)(lo c:Option Int):List V:=(a.drop (HT.sIx a.length 0 lo)).take (HT.sIx a.length a.length c-HT.sIx a.length 0 lo)
theorem FY(a:ZQ)(lo c:Option Int):(pz a lo c).length<=a.length:=by
 unfold pz;rw[TQ,Us];lia
def OB(K:Su):V->Option Int->Option Int->al->cn->Prop:=λx lo c H Q=>∃a b,x=.ref a/\e0 K H a b /\
 ¬(HT.sIx b.length 0 lo=0/\HT.sIx b.length b.length c=b.length)/\∀p,H p=none->Q (.ref p) (ed H p (.tup (pz b lo c)))
theorem FZ:A1 X (OB X.K):=by
 intro t s u H x v w y lo c z Q I j k l m h;obtain⟨a,d,rfl,n,p,q⟩:=h;cases j;obtain⟨e,r,g,i⟩:=I.tuple n;have f:e.toArray.size=d.length:=by rw[SV];exact r.length.symm
 refine⟨"tuple",_,VK.lookup,g.typeIs,?_⟩;refine HT.getItem_tuple_cut g k l m (by rw[f];exact p) ?_ (by rw[f];exact i);rw[f];refine⟨.ref s.heap.objs.size,_,I.laid (t':=s.toks) (o:=.tup (pz d lo c)) (λb A q=>Heap.get?_push_of_some _ q) (SD _) ?_,rfl,q _ (I.eg.fresh (SD _))⟩;exact⟨Sy (FY d lo c) i,_,(r.drop (HT.sIx d.length 0 lo)).take (HT.sIx d.length d.length c-HT.sIx d.length 0 lo),IsTup.new _ _⟩
end
noncomputable def ju(n:Nat)(i:Int):Option Nat:=if 0<=i then(if i<n then some i.toNat else none)else if -(n:Int)<=i then some (i+n).toNat else none
def eF{a:Type}(b:List a)(i:Int):Option a:=(ju b.length i).bind λj=>b[j]?
theorem F0{n:Nat}{i:Int}{j:Nat}(h:ju n i=some j):seqIndex? i n=some j/\j<n /\ -(n:Int)<=i/\i<n:=by
 unfold ju at h;by_cases b:0<=i
 ·rw[SZ b]at h;by_cases a:i<n
  ·rw[SZ a]at h;have e:i.toNat=j:=SN h;exact⟨by rw[Ze b a,e],by lia,by lia,a⟩
  rw[Tl a]at h;cases h
 rw[Tl b]at h;by_cases a : -(n:Int)<=i
 ·rw[SZ a]at h;have e:(i+n).toNat=j:=SN h;exact⟨by rw[Zu (by lia) a,e],by lia,a,by lia⟩
 rw[Tl a]at h;cases h
theorem F1{b:Type}{a:List b}{i:Int}{v:b}(h:eF a i=some v):∃j,seqIndex? i a.length=some j/\a[j]?=some v/\j<a.length /\ -(a.length:Int)<=i/\i<a.length:=by
 unfold eF at h;cases e:ju a.length i with
 |none=>rw[e]at h;cases h
 |some j=>
  rw[e]at h;obtain⟨c,d,f,g⟩:=F0 e;exact⟨j,c,h,d,f,g⟩
def sg(b:Wp):Prop:=∀o i,subscripted b false o i=operate [o,i] (ZJ o i)
def si(X:aU)(r:iS):Prop:=
 ∀(value slice:Wp)(a:Z2)(s:Tk)(b:St)(H:al)(x y:V)(v u:SL)(Q:cn),c_ X a b H s->eb x v->eb y u->r x y H Q->
  subscripted slice false v u=operate [v,u] (ZJ v u)->wpAny (UV X.prog X.w) X.A (subscriptTail value slice v u) (he X a b Q) X.xe s
def t1(X:aU)(id:String)(r:V->ZQ->al->cn->Prop):Prop:=
 ∀(a:Z2)(s:Tk)(b:St)(H:al)(x:V)(c:ZQ)(v:SL)(d:ZY)(Q:cn),c_ X a b H s->eb x v->bN c d->r x c H Q->
  wpAny (UV X.prog X.w) X.A (call (.builtin id) (v::d)) (he X a b Q) X.xe s
section
variable{X:aU}{a b:Wp}{C E:bI}{B:Pos}
theorem lG{r:iS}(c:si X r)(d:bP X a C)(e:bP X b E)(f:sg b):bP X (.Subscript a b B) (ol r C E):=by
 intro g s i H Q I h;exact Subscript_ (AS d e I h λv u j x y k l m n q=>c a b g j i k x y v u Q l m n q (f _ _))
def OC(K:Su):iS:=λx y H Q=>∃p c i v,x=.ref p/\y=.int i/\cE K H p c/\eF c i=some v/\Q v H
def OD(K:Su):iS:=λx y H Q=>∃p c i v,x=.ref p/\y=.int i/\e0 K H p c/\eF c i=some v/\Q v H
theorem A3:si X (OC X.K):=by
 intro value b f s g H x y v u Q I o A h k;obtain⟨p,N,i,z,rfl,rfl,B,C,q⟩:=h;cases o;obtain⟨t,rfl⟩:=A;obtain⟨c,r,d,O⟩:=I.list B;obtain⟨j,a,E,P,F,G⟩:=F1 C;obtain⟨w,l,J⟩:=r.get E;have L:=r.length;have R:=tW;have m:he X f g Q w s:=⟨z,H,I,J,q⟩;by_cases n:0<=i
 ·have e:i.toNat=j:=by
   rw[Ze n G]at a;exact SN a
  exact item_listR d.isList n (by lia) (by rw[e];simpa using l) m k
 have e:(i+(c.toArray.size:Int)).toNat=j:=by
  rw[Zu (by lia) F]at a;rw[SV,<-L];exact SN a
 exact YO (x:=w) d.isList.typeIs slot_list_getitem.lookup
  (wpAny_getItem_list_neg (Q:=λr M=>r=w/\he X f g Q r M) d.isList (by lia) (by rw[SV]<;>lia) (by lia) (by rw[e];simpa using l) ⟨rfl,m⟩) k
theorem F3:si X (OD X.K):=by
 intro value a b s c H x y v u Q I e f h g;obtain⟨p,G,i,z,rfl,rfl,k,l,q⟩:=h;cases e;obtain⟨t,rfl⟩:=f;obtain⟨m,r,d,J⟩:=I.tuple k;obtain⟨j,n,o,L,M,N⟩:=F1 l;obtain⟨w,A,B⟩:=r.get o;have C:=r.length;have O:=tW;have E:he X b c Q w s:=⟨z,H,I,B,q⟩
 exact YO (x:=w) d.typeIs slot_tuple_getitem.lookup
  (getItem_tuple (j:=j) (Q:=λr F=>r=w/\he X b c Q r F) d (by lia) (by lia) (by rw[SV,<-C];exact n) (by simpa using A) ⟨rfl,E⟩) g
theorem OE(a:ZY)(n j:Nat)(u:SL):Obj.mapSeq (·.setIfInBounds j u) {cls:=.type "list",data:=.seq a.toArray n}={cls:=.type "list",data:=.seq (a.set j u).toArray n}:=by
 simp[Obj.mapSeq]
theorem c_.lst{c:Z2}{d:St}{H:al}{s:Tk}{p:TD}{b:ZQ}(I:c_ X c d H s)(h:H p=some (.lst b)):
  ∃(a:ZY)(n:Nat),bN b a/\s.heap.get? p=some {cls:=.type "list",data:=.seq a.toArray n}/\b.length<=TI:=by
 obtain⟨z,a,n,r,e⟩:=I.eg p _ h;exact⟨a,n,r,e,z⟩
theorem c_.lE{g:Z2}{i:St}{H:al}{s:Tk}{p:TD}{k ys:ZQ}{c its':ZY}{n d:Nat}{f:Obj->Obj}(I:c_ X g i H s)(h:H p=some (.lst k))(l:s.heap.get? p=some {cls:=.type "list",data:=.seq c.toArray n})(j:f {cls:=.type "list",data:=.seq c.toArray n}={cls:=.type "list",data:=.seq its'.toArray d})(r:bN ys its')(m:ys.length<=TI)(t:Nat):
  c_ X g i (ed H p (.lst ys)) {s with heap:=s.heap.update p f,toks:=t}:=by
 have e:(s.heap.update p f).get? p=some {cls:=.type "list",data:=.seq its'.toArray d}:=by
  rw[Heap.get?_update_self f l (by rw[j]<;>rfl),j]
 refine I.write (x:=p) (e:=p) (by rw[h];trivial) (.inl rfl) (λb u o q=>(Heap.get?_update_other _ _ (Tc o)).trans q) ⟨_,e⟩ ?_;exact⟨m,its',d,r,e⟩
def OF:V->V->V->al->(al->Prop)->Prop:=λo i v H Q=>∃p c k j,o=.ref p/\i=.int k/\H p=some (.lst c)/\ju c.length k=some j/\Q (ed H p (.lst (c.set j v)))
theorem A4:Fw X OF:=by
 intro x s y H o i v G J u Q I z A B h;obtain⟨p,C,k,j,rfl,rfl,f,E,q⟩:=h;cases z;obtain⟨t,rfl⟩:=A;obtain⟨a,n,r,c,F⟩:=I.lst f;obtain⟨b,K,g,l⟩:=F0 E;have d:=r.length;have L:=tW
 have m:c_ X x y (ed H p (.lst (C.set j v))) {s with heap:=s.heap.update p (Obj.mapSeq (·.setIfInBounds j u))}:=
  I.lE f c (OE a n j u) (r.set B j) (by rw[TV];exact F) s.toks
 by_cases w:0<=k
 ·have e:k.toNat=j:=by
   rw[Ze w l]at b;exact SN b
  exact PySem.W.ki_setAt c w (by lia) (by rw[SV,<-d];exact l) (by rw[e];exact⟨_,m,q⟩)
 have e:(k+(a.toArray.size:Int)).toNat=j:=by
  rw[Zu (by lia) g]at b;rw[SV,<-d];exact SN b
 exact PySem.W.ki_setBack c (by lia) (by rw[SV,<-d];exact g) (by lia) (by rw[e];exact⟨_,m,q⟩)
theorem OI(lo a:Option Int)(n:Nat):(Yj lo a none n).1=((HT.sIx n 0 lo:Nat):Int)/\(Yj lo a none n).2.1=((HT.sIx n n a:Nat):Int)/\(Yj lo a none n).2.2=1:=by
 refine⟨?_,?_,rfl⟩
 ·cases lo with
  |none=>simp[Yj,HT.sIx]
  |some i=>
   simp only[Yj,HT.sIx,Va,show(1:Int)>0 by decide,if_true];by_cases h:i<0
   ·simp only[h,if_true]<;>lia
   simp only[h,if_false]<;>lia
 cases a with
 |none=>simp[Yj,HT.sIx]
 |some i=>
  simp only[Yj,HT.sIx,Va,show(1:Int)>0 by decide,if_true];by_cases h:i<0
  ·simp only[h,if_true]<;>lia
  simp only[h,if_false]<;>lia
theorem OJ(a:ZY)(lo b:Option Int):slicePick a.toArray lo b none=((a.drop (HT.sIx a.length 0 lo)).take (HT.sIx a.length a.length b-HT.sIx a.length 0 lo)).toArray:=by
 obtain⟨c,d,e⟩:=OI lo b a.toArray.size;unfold slicePick;rw[c,d,e];simp only[sliceRange_one,pick_run,SV]<;>rfl
def OK(K:Su):V->Option Int->Option Int->al->cn->Prop:=λx lo d H Q=>∃a c,x=.ref a/\cE K H a c/\∀p,H p=none->Q (.ref p) (ed H p (.lst (pz c lo d)))
theorem OL:A1 X (OK X.K):=by
 intro p s t H x v u w lo d y Q I f g i j h;obtain⟨a,c,rfl,k,q⟩:=h;cases f;obtain⟨l,r,e,m⟩:=I.list k;have n:=r.length;refine⟨"list",_,slot_list_getitem.lookup,e.isList.typeIs,?_⟩;refine wpAny_getItem_list_slice e.isList g i j .none (by simp) ?_ (by rw[SV]<;>lia);rw[OJ,<-n];refine⟨.ref s.heap.objs.size,_,I.laid (t':=s.toks) (o:=.lst (pz c lo d)) (λb z q=>Heap.get?_push_of_some _ q) (SD _) ?_,rfl,q _ (I.eg.fresh (SD _))⟩;exact⟨Sy (FY c lo d) m,_,0,(r.drop (HT.sIx c.length 0 lo)).take (HT.sIx c.length c.length d-HT.sIx c.length 0 lo),Heap.get?_push_size _ rfl⟩
theorem A5:nn X (.builtin "len") (λg H Q=>∃p a,g=[.ref p]/\(cE X.K H p a\/e0 X.K H p a)/\Q (.int a.length) H):=by
 intro k s l H g m Q I r h;obtain⟨p,a,rfl,b,q⟩:=h;obtain⟨u,rfl,i⟩:=e3 r;cases i;have n:=tW;rcases b with b|b
 ·obtain⟨c,d,e,j⟩:=I.list b;have f:=d.length;exact Calls.call_len_list e.isList (by simp only[SV]<;>lia) ⟨.int a.length,H,I.tok _,⟨s.toks+1,by rw[SV,f]⟩,q⟩
 obtain⟨c,d,e,j⟩:=I.tuple b;have f:=d.length;exact len_tuple e (by simp only[SV]<;>lia) ⟨.int a.length,H,I.tok _,⟨s.toks+1,by rw[SV,f]⟩,q⟩
theorem OM:nn X (.type "list") (λx H Q=>∃p d,x=[.ref p]/\(cE X.K H p d\/e0 X.K H p d)/\∀l,H l=none->Q (.ref l) (ed H l (.lst d))):=by
 intro A s B H x F Q I r h;obtain⟨p,d,rfl,i,q⟩:=h;obtain⟨u,rfl,C⟩:=e3 r;cases C
 have y:∀(a:ZY),bN d a->d.length<=TI->∀(c:XG)(f:Nat),(∀b z,s.heap.get? b=some z->c.get? b=some z)->
   c.get? s.heap.objs.size=some {cls:=.type "list",dict:=none,data:=.seq a.toArray f,slots :=#[]}->he X A B Q (.ref s.heap.objs.size) {s with heap:=c }:=λa g j c f kp e=>
  ⟨.ref s.heap.objs.size,_,I.laid (t':=s.toks) kp (SD _) (show gx X.prog X.w _ c _ (.lst d)from⟨j,a,f,g,e⟩),rfl,q _ (I.eg.fresh (SD _))⟩
 rcases i with i|i
 ·obtain⟨a,g,k,j⟩:=I.list i;have E:=g.length;obtain⟨o,m,t,n,v⟩:=k.isList;exact call_list_seq p (.inl rfl) m t v (λc f kp e=>y a g j c f kp e) (by simp only[SV]<;>lia)
 obtain⟨a,g,k,j⟩:=I.tuple i;have E:=g.length;obtain⟨o,m,t,n,v⟩:=k;exact call_list_seq p (.inr rfl) m t v (λc f kp e=>y a g j c f kp e) (by simp only[SV]<;>lia)
def wA(K:Su)(T:String)(x:V)(H:al):Prop:=match x with
 |.str _=>T="str"
 |.int _=>T="int"
 |.ref p=>(T="list"/\∃d,cE K H p d)\/(T="tuple"/\∃o,K.lookup p=some o/\o.cls=.type "tuple"/\o.dict=none) \/
   (T="dict"/\((∃c,H p=some (.dK c))\/∃c,H p=some (.dT c)))\/(T="set"/\∃S n,H p=some (.set S n))
 |_=>False
theorem F4{l:Z2}{m:St}{H:al}{s:Tk}{T:String}{x:V}{v:SL}(I:c_ X l m H s)(r:eb x v)(ty:wA X.K T x H):
  s.TypeIs v T/\∀a,v=.ref a->∃j,s.heap.get? a=some j/\j.dict=none:=by
 cases x with
 |str z=>
  obtain⟨t,rfl⟩:=r;cases(show T="str" from ty);exact⟨typeIs_str s z t,λ_ e=>nomatch e⟩
 |int i=>
  obtain⟨t,rfl⟩:=r;cases(show T="int" from ty);exact⟨typeIs_int s i t,λ_ e=>nomatch e⟩
 |ref p=>
  cases r;rcases ty with⟨rfl,y,q⟩|⟨rfl,o,b,u,f⟩|⟨rfl,b⟩|⟨rfl,S,n,b⟩
  ·obtain⟨w,_,k,_⟩:=I.list q;refine⟨k.isList.typeIs,λa e=>?_⟩;cases e;obtain⟨o,n,e,c,f,_⟩:=k;exact⟨o,e,f⟩
  ·refine⟨⟨o,I.gC p o b,u⟩,λa e=>?_⟩;cases e;exact⟨o,I.gC _ o b,f⟩
  ·have z:∃o,s.heap.get? p=some o/\o.ExactDict:=by
    rcases b with⟨g,b⟩|⟨g,b⟩
    ·obtain⟨_,_,_,_,o,_,_,e,d,_⟩:=I.eg p _ b;exact⟨o,e,d⟩
    obtain⟨_,_,_,_,o,_,_,e,d,_⟩:=I.eg p _ b;exact⟨o,e,d⟩
   obtain⟨o,e,d⟩:=z;refine⟨⟨o,e,d.1⟩,λa h=>?_⟩;cases h;exact⟨o,e,d.2.1⟩
  obtain⟨o,_,_,_,e,d,_⟩:=I.eg p _ b;refine⟨⟨o,e,d.1⟩,λa h=>?_⟩;cases h;exact⟨o,e,d.2.1⟩
 |_=>exact Ts ty
def ON(K:Su)(T:String)(r:V->ZQ->al->cn->Prop)(g:bI):bI:=λd H Q=>g d H λx c=>wA K T x c/\r x [] c Q
def OO(K:Su)(T:String)(r:V->ZQ->al->cn->Prop)(g:bI)(t:eZ):bI:=λc H Q=>g c H λx d=>wA K T x d/\t c d λe f=>r x e f Q
variable{o e:Wp}{m:Z0}{g:bI}{t:eZ}{name:Str}{A d:Pos}{T id:String}{r:V->ZQ->al->cn->Prop}
theorem A6(i:PlainAttrs T)(a:Slot T name id)(j:typeOf (.builtin id)=pure (.type "method_descriptor"))(k:t1 X id r)(l:bP X o g)(m:iO X o name:=by rfl)(n:iP A d:=by rfl):bP X (.Call (.Attribute o name A) [] [] d) (ON X.K T r g):=by
 intro b s c H Q I h;refine wpAny_Call_method0_late m n (cp (l b s c H _ I h) λv p ⟨x,q,e,f,ty,t⟩=>?_);obtain⟨u,w⟩:=F4 e f ty;exact⟨T,id,i,a,j,u,w,Calls.callWith_builtin rfl (WA (k b p c q x [] v [] Q e f .nil t))⟩
theorem sj(k:PlainAttrs T)(a:Slot T name id)(l:typeOf (.builtin id)=pure (.type "method_descriptor"))(n:t1 X id r)(p:bP X o g)(q:hf X (e::m) t)(u:iO X o name:=by rfl)(w:lB X d (e::m):=by rfl)(y:iP A d:=by rfl)(z:eD X e m:=by rfl)(B:hv X d m:=by rfl):
  bP X (.Call (.Attribute o name A) (e::m) [] d) (OO X.K T r g t):=by
 intro b s c H Q I h;refine YQ u w y rfl (cp (p b s c H _ I h) λv C ⟨x,E,f,i,ty,F⟩=>?_);obtain⟨G,J⟩:=F4 f i ty;refine⟨T,id,k,a,l,G,J,?_⟩;have j:=q d b C c E _ f F;rw[z]at j⊢;refine Calls.callWith_builtin (by show(false||(Yc d (UF m X.env)).any (·.1))=false;rw[B]<;>rfl) (Calls.evalArgs_plain ?_);exact cp j λL M ⟨N,O,P,R,S⟩=>n b M c O x N v L Q P i R S
end
def sk(X:aU)(id:String)(r:V->ZQ->al->cn->Prop):Prop:=
 ∀(a:Z2)(s:Tk)(b:St)(H:al)(x:V)(c:ZQ)(v:SL)(d:ZY)(Q:cn),c_ X a b H s->eb x v->bN c d->r x c H Q->
  wpAny (UV X.prog X.w) X.A (call (.builtin id) (v::d)) (he X a b Q) X.xe s
theorem bN.one:∀{x:V}{a:ZY},bN [x] a->∃u,a=[u]/\eb x u
 |_,_,.cons r .nil=>⟨_,rfl,r⟩
theorem bN.two:∀{x y:V}{a:ZY},bN [x,y] a->∃u v,a=[u,v]/\eb x u/\eb y v
 |_,_,_,.cons r (.cons q .nil)=>⟨_,_,rfl,r,q⟩
theorem bN.zero:∀{a:ZY},bN [] a->a=[]
 |_,.nil=>rfl
theorem bN.dropLast{a:ZQ}{b:ZY}(h:bN a b):bN a.dropLast b.dropLast:=by
 induction h with
 |nil=>exact .nil
 |cons r t c=>
  cases t with
  |nil=>exact .nil
  |cons q d=>exact .cons r c
theorem bN.eraseIdx:∀{a:ZQ}{b:ZY}(i:Nat),bN a b->bN (a.eraseIdx i) (b.eraseIdx i)
 |_,_,_,.nil=>.nil
 |_,_,0,.cons _ t=>t
 |_,_,i+1,.cons r t=>.cons r (bN.eraseIdx i t)
theorem OP{c:Type}(l:List c):l.eraseIdx (l.length-1)=l.dropLast:=by
 induction l with
 |nil=>rfl
 |cons a r d=>
  cases r with
  |nil=>rfl
  |cons b r=>
   have e:(a::b::r).length-1=((b::r).length-1)+1:=by
    have f:(a::b::r).length=r.length+2:=rfl;have g:(b::r).length=r.length+1:=rfl;lia
   rw[e,WB,d]
   all_goals rfl
theorem A7{a:Type}:∀(l:List a)(i:Nat),(l.eraseIdx i).length<=l.length
 |[],_=>SD _
 |_::_,0=>Ui _
 |_::r,i+1=>Nat.succ_le_succ (A7 r i)
section
variable{X:aU}{c:Z2}{a:St}{H:al}{s:Tk}{l b:TD}{d ys g:ZQ}
theorem c_.iY{b its':ZY}{n:Nat}{f:Array SL->Array SL}{t':Nat}(I:c_ X c a H s)(g:H l=some (.lst d))(e:s.heap.get? l=some {cls:=.type "list",data:=.seq b.toArray n})(i:f b.toArray=its'.toArray)(j:bN ys its')(k:ys.length<=TI):
  c_ X c a (ed H l (.lst ys)) {s with heap:=s.heap.update l (Obj.mapSeq f),toks:=t' }:=by
 have q:=PySem.IsL.update e f;rw[i]at q;refine I.write (x:=l) (e:=l) (by rw[g];exact trivial) (.inl rfl) (λp u m o=>(Heap.get?_update_other s.heap (Obj.mapSeq f) (Tc m)).trans o) ⟨_,q⟩ ?_;exact⟨k,its',_,j,q⟩
theorem c_.mb{its:ZY}{t':Nat}(I:c_ X c a H s)(b:bN ys its)(d:ys.length<=TI):
  c_ X c a (ed H s.heap.objs.size (.lst ys)) {s with heap:=s.heap.push {cls:=.type "list",data:=.seq its.toArray},toks:=t' }:=
 I.laid (λ_ _ q=>Heap.get?_push_of_some _ q) (SD _) ⟨d,its,0,b,Heap.get?_push_size _ rfl⟩
theorem c_.fresh(I:c_ X c a H s):H s.heap.objs.size=none:=I.eg.fresh (SD _)
theorem c_.gA(I:c_ X c a H s)(f:H l=some (.lst d)):d.length<=TI/\∃(b:ZY)(n:Nat),bN d b/\d.length=b.length/\s.heap.get? l=some {cls:=.type "list",data:=.seq b.toArray n}:=by
 obtain⟨z,b,n,r,e⟩:=I.eg l _ f;exact⟨z,b,n,r,r.length,e⟩
theorem F5{n:Nat}(h:n<=TI):Builtin.List.listTooLong n=false:=by
 unfold Builtin.List.listTooLong;exact decide_eq_false (by lia)
end
section
variable{X:aU}
def F6:V->ZQ->al->cn->Prop:=λx b H Q=>∃l a y,x=.ref l/\b=[y]/\H l=some (.lst a)/\a.length<TI/\Q .non (ed H l (.lst (a++[y])))
theorem wB:sk X "list.append" F6:=by
 intro g s i H x j v k Q I c d h;obtain⟨l,m,y,rfl,rfl,b,o,q⟩:=h;cases c;obtain⟨u,rfl,f⟩:=d.one;obtain⟨z,a,n,r,p,e⟩:=I.gA b;refine Y3 F.slot_list_append ⟨_,e,rfl⟩ F.entry_list_append (F.args_list_append_2 _ _) (PySem.list_append l a.toArray n u (by rw[SV];lia)) ⟨e,?_⟩;refine⟨.non,_,I.iY (its':=a++[u]) b e (by simp) (r.append (.cons f .nil)) ?_,rfl,q⟩;rw[Sz,Ti];lia
def OQ:V->ZQ->al->cn->Prop:=λx d H Q=>∃l b a c,x=.ref l/\d=[.ref b]/\H l=some (.lst a)/\H b=some (.lst c)/\a.length+c.length<=TI/\Q .non (ed H l (.lst (a++c)))
theorem OR:sk X "list.extend" OQ:=by
 intro t s w H x y v A Q I d f h;obtain⟨l,b,B,C,rfl,rfl,c,g,E,q⟩:=h;cases d;obtain⟨u,rfl,i⟩:=f.one;cases i;obtain⟨z,its,n,r,G,e⟩:=I.gA c;obtain⟨J,a,j,k,K,m⟩:=I.gA g;have o:its.toArray.size+a.toArray.size<=TI:=by rw[SV,SV];lia
 have p:¬(!its.toArray.isEmpty&&Builtin.List.listTooLong (its.toArray.size+a.toArray.size))=true:=by
  rw[F5 o,Bool.and_false];exact SW
 refine Y3 F.slot_list_extend ⟨_,e,rfl⟩ F.entry_list_extend (F.args_list_extend_2 _ _)
  (AutoSeq1.list_extend_list_list_0 l its.toArray n b a.toArray j p (by rw[SV];lia) (by lia)) ⟨e,m,?_⟩
 refine⟨.non,_,I.iY (its':=its++a) c e (by simp) (r.append k) ?_,rfl,q⟩;rw[Sz];lia
def OS:V->ZQ->al->cn->Prop:=λx b H Q=>∃l a y,x=.ref l/\b=[]/\H l=some (.lst a)/\a[a.length-1]?=some y/\Q y (ed H l (.lst a.dropLast))
theorem F7:sk X "list.pop" OS:=by
 intro o s p H x t v w Q I c d h;obtain⟨l,A,y,rfl,rfl,b,f,q⟩:=h;cases c;have g:=d.zero;subst g;obtain⟨z,a,n,r,i,e⟩:=I.gA b;obtain⟨u,j,k⟩:=r.get f
 have m:a.toArray[a.toArray.size-1]?=some u:=by
  show a.toArray[a.length-1]?=some u
  rw[<-UH,<-i];exact j
 refine Y3 F.slot_list_pop ⟨_,e,rfl⟩ F.entry_list_pop (F.args_list_pop_1 _) (MeetsSeq.list_pop_last l a.toArray n u m (by rw[SV];lia)) ⟨e,?_⟩;refine⟨y,_,I.iY (its':=a.dropLast) b e ?_ r.dropLast ?_,k,q⟩
 ·show a.toArray.eraseIdxIfInBounds (a.toArray.size-1)=a.dropLast.toArray
  rw[SV,WC,OP]
 rw[List.length_dropLast];lia
def OT:V->ZQ->al->cn->Prop:=λx b H Q=>∃l a i k y,x=.ref l/\b=[.int i]/\H l=some (.lst a) /\ -(2^63)<=i/\i<2^63/\seqIndex? i a.length=some k/\a[k]?=some y/\Q y (ed H l (.lst (a.eraseIdx k)))
theorem OU:sk X "list.pop" OT:=by
 intro E s G H x J v K Q I c d h;obtain⟨l,f,i,k,y,rfl,rfl,b,g,j,m,o,q⟩:=h;cases c;obtain⟨u,rfl,p⟩:=d.one;obtain⟨t,rfl⟩:=p;obtain⟨z,a,n,r,A,e⟩:=I.gA b;obtain⟨w,B,C⟩:=r.get o
 refine Y3 F.slot_list_pop ⟨_,e,rfl⟩ F.entry_list_pop (F.args_list_pop_2 _ _)
  (MeetsSeq.list_pop_at l a.toArray n i t k w (fitsIndex_both g j) (by rw[SV,<-A];exact m) (by rw[<-UH];exact B) (by rw[SV];lia)) ⟨e,?_⟩
 refine⟨y,_,I.iY (its':=a.eraseIdx k) b e ?_ (r.eraseIdx k) ?_,C,q⟩
 ·show a.toArray.eraseIdxIfInBounds k=(a.eraseIdx k).toArray
  rw[WC]
 have:=A7 f k;lia
def OV:V->ZQ->al->cn->Prop:=λx a H Q=>∃l b,x=.ref l/\a=[]/\H l=some (.lst b)/\Q .non (ed H l (.lst []))
theorem OW:sk X "list.clear" OV:=by
 intro g s i H x j v k Q I c d h;obtain⟨l,m,rfl,rfl,b,q⟩:=h;cases c;have f:=d.zero;subst f;obtain⟨z,a,n,r,o,e⟩:=I.gA b;refine Y3 F.slot_list_clear ⟨_,e,rfl⟩ F.entry_list_clear (F.args_list_clear_1 _) (AutoSeq1.list_clear_list_0 l a.toArray n (by rw[SV];lia)) ⟨e,?_⟩;exact⟨.non,_,I.iY (its':=[]) (ys:=[]) b e rfl .nil (S9 _),rfl,q⟩
def OX:iS:=λx y H Q=>∃l b a c,x=.ref l/\y=.ref b/\H l=some (.lst a)/\H b=some (.lst c)/\a.length+c.length<=TI/\∀p,H p=none->Q (.ref p) (ed H p (.lst (a++c)))
theorem OY:g4 X (YJ .Add) OX:=by
 intro o s p H x y v u Q I d f h;obtain⟨l,b,t,w,rfl,rfl,g,i,A,q⟩:=h;cases d;cases f;obtain⟨z,a,n,r,B,e⟩:=I.gA g;obtain⟨C,c,E,j,F,k⟩:=I.gA i;refine PySem.P.add_list e k ?_ (by rw[SV,SV];lia);have m:a.toArray++c.toArray=(a++c).toArray:=by simp
 rw[m];exact⟨.ref _,_,I.mb (t':=s.toks) (r.append j) (by rw[Sz];lia),rfl,q _ I.fresh⟩
end
section
variable{a:WP}{w:XB}{A:XC}{E:SL->Tk->Prop}{s:Tk}
set_option maxRecDepth 100000 in
end
namespace Att
theorem OZ{P:Params}{h:XG}:∀(c:ZM)(d:ZY),WellAll P h d (c.map WData.int)->YZ d c:=by
 intro c;induction c with
 |nil=>
  intro d w;rw[TA]at w;cases w;exact .nil
 |cons n c e=>
  intro d w;rw[SJ]at w;cases w with
  |cons a b=>
   cases a;exact .cons _ _ (e _ b)
theorem O0{l:OpenLaw}{n:Nat}(m:l.most=some n){P:Params}{h:XG}{args:List WData}{c:ZY}(i:l.row.toRowW.claim.pre args=true)(o:WellAll P h c args):
  ∃a j b,c=[Value.ref a]/\args=[WData.list (b.map WData.int)]/\h.get? a=some {cls:=.type "list",data:=.seq j.toArray}/\YZ j b/\b.length<=n:=by
 have f:WShape.hasAll [] args [.list .int]=true:=(pre_splitW i).1;have k:l.pre.holds [] {args:=args}=true:=(pre_splitW i).2;obtain⟨d,r,rfl,s,t⟩:=hasAllW_cons f;obtain rfl:=hasAllW_nil t;obtain⟨B,rfl,u⟩:=hasW_list s;obtain⟨b,rfl⟩:=items_int u
 have v:b.length<=n:=by
  unfold OpenLaw.pre at k
  have g:(WTm.not (.lt (.lit (.int (n:Int))) (.len (.arg 0)))).holds [] {args:=[.list (b.map .int)]}=true:=by
   have g:=(holds_andW k).1;rwa[m]at g
  have e:=condW_of g (w_not (w_lt w_lit (w_len_list (w_arg rfl))));rw[Sv]at e;refine Nat.le_of_not_lt λq=>?_;have w:(n:Int)<((b.length:Nat):Int):=by lia
  first
   | (rw[XA w]at e;exact absurd e (by decide))
   | (simp at e;lia)
 cases o with
 |cons x y=>
  cases y;cases x with
  |list z A=>exact⟨_,_,b,rfl,rfl,z,OZ b _ A,v⟩
theorem O1(l:OpenLaw)(args:List WData):l.row.toRowW.claim.post args (.bool true) args=true:=
 postW_of (r:=l.row.toRowW) (X:=(true==true))
  (show WShape.has [] (.bool true) .bool=true by first|rfl|decide|simp[WShape.has,WShape.arms,WShape.armsAll])
  (show(WTm.eq .res (.lit (.bool true))).value [] {args:=args,res:=some (.bool true),after:=args}=some (.bool (true==true))from w_eq_bool (w_res rfl) w_lit) rfl
theorem attach_call{l:OpenLaw}{n:Nat}{q:WP}{b:ZX}{u:(Str->Option SL)->XG->Prop}{v:XB->XG->Prop}{d:DefRec}(z:l.most=some n)(A:d.params.defaults=[])(call:∀(w:XB)(c e:Tk)(j s:Str->Option SL)(i:TD)(o:Obj)(t k g:SL)(a:TD)(vs:ZY)(m:ZM),Ground q b [] u w c j s e.heap->v w e.heap->e.heap.get? i=some o->o.data=.func (docDef d.name d.params d.body d.scope t k g)->e.heap.CodeRec k d.name->j d.name=some (.ref i)->e.heap.get? a=some {cls:=.type "list",data:=.seq vs.toArray}->YZ vs m->m.length<=n->e.gens = #[]->codeAny (UV l.prog w) Zr (.call (.ref i) ⟨[.ref a],[]⟩) (λr p=>r=.ok (.ret (.bool true))/\OldK e.heap p.heap/\p.os=e.os/\YT p.gens) e):
  WalkO q b u v l.row.toRowW d [] (λf vs=>PySem.call f vs):=by
 intro w c e j s G Y i o t k g C kV E F H x I J args y X K L M N O;obtain rfl:C=.none:=Dflts.none x A;obtain rfl:kV=.none:=Dflts.noKw x;obtain⟨a,vs,m,rfl,rfl,P,h,Q⟩:=O0 z K N;refine enter_call (YY (call w c e j s i o t k g a vs m G Y E (fd_plain F) H I P h Q J) λr p R=>?_);obtain⟨rfl,S,T,U⟩:=R;exact⟨.inl ⟨.bool true,.bool true,[],rfl,λ_=>rfl,.bool true,O1 l _,λ_=>⟨List.Pairwise.nil,λ_ W=>(nomatch W)⟩⟩,S,T,U⟩
end Att
theorem Bc:∀{a:ZY}{b:ZM},YZ a b->bN (b.map V.int) a
 |_,_,.nil=>.nil
 |_,_,.cons n t h=>.cons ⟨t,rfl⟩ (Bc h)
def F8(H:al):Prop:=∀b,H b=none\/(∃o a,H b=some (.frz o (.lst a)))\/∃c,H b=some (.tbl c)
theorem O2{P:WP}{w:XB}{K:Su}{J T:Str->Option SL}{aq:np}{k:Nat}{U a:TD}{av:X7}{x:Str}{sp:iU}{c:Tk}{C:ZY}{G:ZM}(aw:K.In c.heap)(ax:c.heap.Ns TW J)(f:c.heap.Ns X0 T)(aM:∀x:Str,x≠"__name__"->T x=XQ x)(aO:c.heap.NoLimit)(aP:c.gens = #[])(L:c.heap.get? a=some {cls:=.type "list",data:=.seq C.toArray})(ay:YZ C G)(az:G.length<=TI)(aQ:ew k Zr)(F:∀base:XG,K.In base->base.Ns TW J->kB P w K J base aq k U av [x] sp)(aR:∀(s:Tk)(u:SL),ZI s av ⟨[u],[]⟩ [(x,u)])(EJ:al)(l:∀b u,EJ b=some u->(∃j,u=el.tbl j)/\c.heap.get? b=some {cls:=.none,data:=.fields #[]}/\K.lookup b=none/\isCodeTable c.heap b)(aB:ph K EJ)(aT:∀H:al,F8 H->cE K H a (G.map V.int)->sp [.ref a] H (λv _=>v=.bl true) λ_ _ _=>False)(aV:∀H e g,aq [] H c (λ_ _ _=>False) e g->False):
  codeAny (UV P w) Zr (.call (.ref U) ⟨[.ref a],[]⟩) (λr g=>r=.ok (.ret (.bool true))/\OldK c.heap g.heap/\g.os=c.os/\YT g.gens) c:=by
 have aD:=Bc ay;have aZ:=ay.length
 have core:∀H:al,F8 H->cE K H a (G.map V.int)->fh P w H c.heap->(∀b u,H b=some u->(b=a/\∃o B,u=.frz o (.lst B))\/EJ b=some u)->(∀b u,H b=some u->K.lookup b=none)->ph K H->
   codeAny (UV P w) Zr (.call (.ref U) ⟨[.ref a],[]⟩) (λr g=>r=.ok (.ret (.bool true))/\OldK c.heap g.heap/\g.os=c.os/\YT g.gens) c:=by
  intro H aY a0 M W a5 a6;have aE:∀{b:TD}{o:Obj},c.heap.get? b=some o->H b=none->(n8 c.heap H).get? b=some o:=λe n=>MY e n
  have a7:∀{b:TD}{o:Obj}{Q:Array YG}{R:Nat},c.heap.get? b=some o->o.data=.dict Q R->H b=none:=λ{b o Q R} e d=>by
   cases q:H b with
   |none=>rfl
   |some u=>
    rcases W b u q with⟨X,_⟩|X
    ·subst X;rw[L]at e;cases e;cases d
    rw[(l b u X).2.1]at e;cases e;cases d
  have S:∀{b:TD}{m:Str->Option SL},c.heap.Ns b m->(n8 c.heap H).Ns b m:=λ{b m} ⟨o,Q,R,e,d,r⟩=>⟨o,Q,R,aE e (a7 e d),d,r⟩
  have aF:K.In (n8 c.heap H):=λb o e=>aE (aw b o e) (by
   cases q:H b with
   |none=>rfl
   |some u=>rw[a5 b u q]at e;cases e)
  have a':Mod K J (n8 c.heap H):=⟨aF,S ax,⟨T,S f,aM⟩,let⟨bc,bg,bj⟩:=aO;⟨bc,S bg,bj⟩⟩;have br:wv P w K J (n8 c.heap H) Zr [] c H:=⟨rfl,a',λb o e=>MZ e,VL (MX _ _),trivial,λb f=>absurd (show b∈([]:ZZ)from f) (by simp),M,.of_eq aP,a6⟩;refine YY ((F _ aF (S ax)).run Zr [] c H ⟨[.ref a],[]⟩ [.ref a] [.ref a] _ _ aQ br (aR c (.ref a)) (.cons rfl .nil) (aT H aY a0)) λr g h=>?_;cases r with
  |error e=>exact(aV H e g h).elim
  |ok bz=>
   cases bz with
   |next=>exact Ts h
   |brk=>exact Ts h
   |cont=>exact Ts h
   |ret u=>
    obtain⟨v,bR,os,N,Y,aH,bA,q⟩:=h;have bF:v=.bl true:=q;subst bF;obtain rfl:u=Value.bool true:=bA
    have aI:∀b u,H b=some u->EJ b=some u->∃I,g.heap.get? b=some {cls:=.none,data:=.fields I}:=λb u q z=>by
     obtain⟨⟨j,rfl⟩,_⟩:=l b u z;obtain⟨aJ,Z⟩:=Y.fX b j q;obtain⟨I,y,_⟩:=aH b _ Z;exact⟨I,y⟩
    have aK:∀b o E B,c.heap.get? b=some o->H b=some (.frz E (.lst B))->g.heap.get? b=some o:=λb o E B e z=>by
     have Z:=Y.gK b E _ z;obtain⟨A,_⟩:=M b _ z;obtain⟨y,_⟩:=aH b _ Z;rw[e]at A;cases A;exact y
    have aN:∀b o,c.heap.get? b=some o->H b=none->g.heap.get? b=some o:=λb o e q=>Y.keep b o e q (by intro z;exact absurd (show b∈([]:ZZ)from z) (by simp)) (by simp);refine⟨rfl,⟨λb o e=>?_,λb o e=>?_⟩,os,N⟩
    ·cases q:H b with
     |none=>exact .inl (aN b o e q)
     |some u=>
      rcases W b u q with⟨_,E,B,rfl⟩|z
      ·exact .inl (aK b o E B e q)
      obtain⟨I,y⟩:=aI b u q z;obtain⟨_,A,_,bJ⟩:=l b u z;rw[e]at A;cases A;exact .inr (.inl ⟨bJ,rfl,#[],I,rfl,by rw[y];simp⟩)
    cases q:H b with
    |none=>exact⟨o,aN b o e q⟩
    |some u=>
     rcases W b u q with⟨_,E,B,rfl⟩|z
     ·exact⟨o,aK b o E B e q⟩
     obtain⟨I,y⟩:=aI b u q z;exact⟨_,y⟩
 have tok:∀(H:al) b u,EJ b=some u->gx P w H c.heap b u:=λH b u z=>by
  obtain⟨⟨j,rfl⟩,e,_⟩:=l b u z;exact⟨#[],e,trivial,λposQz bW bK=>by cases bK⟩
 have bM:EJ a=none:=by
  cases z:EJ a with
  |none=>rfl
  |some u=>have:=(l a u z).2.1;rw[L]at this;cases this
 cases aj:K.lookup a with
 |some o=>
  have e:=aw a o aj;rw[L]at e;cases e;refine core EJ (λb=>?_) (.inr ⟨_,C.toArray,_,aj,rfl,rfl,rfl,by rw[SV,aZ];exact az,by simpa using aD⟩) (λb u z=>tok EJ b u z) (λb u z=>.inr z) (λb u z=>(l b u z).2.2.1) aB;cases z:EJ b with
  |none=>exact .inl rfl
  |some u=>obtain⟨⟨j,rfl⟩,_⟩:=l b u z;exact .inr (.inr ⟨j,rfl⟩)
 |none=>
  have O:∀b,b≠a->(if b=a then some (el.frz {cls:=.type "list",data:=.seq C.toArray} (.lst (G.map V.int)))else EJ b)=EJ b:=λb f=>Tl f;refine core (λb=>if b=a then some (.frz {cls:=.type "list",data:=.seq C.toArray} (.lst (G.map V.int)))else EJ b) (λb=>?_) (.inl (.inr ⟨{cls:=.type "list",data:=.seq C.toArray},SZ rfl⟩)) (λb u z=>?_) (λb u z=>?_) (λb u z=>?_) (λp bQ=>?_)
  ·by_cases f:b=a
   ·exact .inr (.inl ⟨_,_,SZ f⟩)
   dsimp only;rw[O b f];cases z:EJ b with
   |none=>exact .inl rfl
   |some u=>obtain⟨⟨j,rfl⟩,_⟩:=l b u z;exact .inr (.inr ⟨j,rfl⟩)
  ·by_cases f:b=a
   ·have ak:=(SZ f).symm.trans z;cases ak;subst f;exact⟨L,by rw[Sv];exact az,C,_,aD,L⟩
   exact tok _ b u ((O b f).symm.trans z)
  ·by_cases f:b=a
   ·have ak:=(SZ f).symm.trans z;cases ak;exact .inl ⟨f,_,_,rfl⟩
   exact .inr ((O b f).symm.trans z)
  ·by_cases f:b=a
   ·rw[f];exact aj
   exact(l b u ((O b f).symm.trans z)).2.2.1
  obtain⟨j,t,A,y⟩:=aB p bQ;have f:p.1≠a:=λz=>by rw[z,bM]at A;cases A
  exact⟨j,t,(O _ f).trans A,y⟩
def qQ(s:XF):X5:=match s with
 |.FunctionDef _ a _ _ _ _ _ _ _ _=>a
 |_=>{posonlyargs:=[],args:=[],vararg:=none,kwonlyargs:=[],kw_defaults:=[],kwarg:=none,defaults:=[]}
def j3(s:XF):List XF:=match s with
 |.FunctionDef _ _ b _ _ _ _ _ _ _=>b
 |_=>[]
def bL(s:XF):XZ:=match s with
 |.FunctionDef _ _ _ _ _ _ sc _ _ _=>sc
 |_=>{kind:=.function,names:=[],isGenerator:=false,isCoroutine:=false}
abbrev j4:np:=λ_ _ _ _ _ _=>False
abbrev wE:g0:=λ_ _ _=>False
theorem O6{X:aU}:AY j4 X wE:=λ_ _ _ _ _ _ _ h=>h.elim
structure nu(K:Su)(x qual:Str)(st:XF)(f:TD)(fd:X7):Prop where
 ex:∃(oc:SL)(od:Option TD)(kV doc pm:SL)(an:Option TD)(cdv ct:SL)(osl:Array (Option SL)),
  fd=UG x qual (qQ st) (j3 st) (bL st) .none kV doc pm an cdv ct/\K.lookup f=some ⟨oc,od,.func fd,osl⟩/\VJ K cdv qual=true
 kp:U' K (.ref f)=true
section
variable{P:WP}{w:XB}{K:Su}{b:Str->Option SL}{a:XG}
theorem nu.ok{x qual:Str}{st:XF}{f:TD}{fd:X7}{N d:ZX}{k:Nat}{sp:iU}(F:nu K x qual st f fd)(S:cy N d (bL st))(e:∀vs H Q E,sp vs H Q E->vs.length=d.length)(g:∀(cdv:SL)(A:XC)(c:List Env)(s:Tk)(H:al)(vs:ZQ)(Q:cn)(E:g0),ew k (A.deeper (Y' qual (bL st) s.heap.objs.size f cdv))->sp vs H Q E->∃t,i9 (k0 j4 P w K b a N qual (bL st) f cdv A c s H E).jn (j3 st) t/\t {nx:=λ_ i=>Q .non i,rt:=Q} (fi N vs) H):kB P w K b a j4 (k+1) f fd d sp:=by
 obtain⟨oc,od,kV,doc,pm,an,cdv,ct,osl,rfl,lk,j⟩:=F.ex;refine FT lk j S e λA c s H vs Q E l m=>?_;obtain⟨t,h,q⟩:=g cdv A c s H vs Q E l m;exact⟨t,h.jn,q⟩
theorem nu.binds{x qual:Str}{st:XF}{f:TD}{fd:X7}{a:ZX}(F:nu K x qual st f fd)(h:∀(kV doc pm:SL)(an:Option TD)(cdv ct:SL)(b:ZY),b.length=a.length->Y2 (UG x qual (qQ st) (j3 st) (bL st) .none kV doc pm an cdv ct) ⟨b,[]⟩=pure (a.zip b)):fy K fd a []:=by
 obtain⟨oc,od,kV,doc,pm,an,cdv,ct,osl,rfl,lk,c⟩:=F.ex;exact .all (h kV doc pm an cdv ct)
theorem O7{x a:Str}{st:XF}{f:TD}{oc:SL}{od an:Option TD}{osl:Array (Option SL)}{kV doc pm cdv ct:SL}(l:K.lookup f=some ⟨oc,od,.func (UG x a (qQ st) (j3 st) (bL st) .none kV doc pm an cdv ct),osl⟩)(c:VJ K cdv a=true)(k:U' K (.ref f)=true):nu K x a st f (UG x a (qQ st) (j3 st) (bL st) .none kV doc pm an cdv ct):=⟨⟨oc,od,kV,doc,pm,an,cdv,ct,osl,rfl,l,c⟩,k⟩
end
section
variable{X:aU}
theorem gc(i:Nat){x:Str}{a:Pos}(b:gZ X i x:=by rfl)(c:gy X.env.scope x:=by walk_at"v")(d:ea x:=by decide)(e:gY x:=by decide):bP X (.Name x a) (AH i):=hg b c d e
end
theorem fk{A B:Prop}(h:B):if false=true then A else B:=by
 rw[Tl SW];exact h
theorem Gf{A B:Prop}(h:A):if true=true then A else B:=by
 rw[SZ rfl];exact h
def ci(H a:al):Prop:=∀b o,H b=some o->a b=some o
theorem ci.refl(H:al):ci H H:=λ_ _ h=>h
theorem ci.trans{H d e:al}(a:ci H d)(b:ci d e):ci H e:=λc o h=>b c o (a c o h)
theorem ci.free{H H':al}(e:ci H H'){l:TD}(h:H' l=Option.none):H l=Option.none:=by
 cases q:H l with
 |none=>rfl
 |some o=>
  rw[e l o q]at h;cases h
theorem ci.seq{K:Su}{H H':al}{a:TD}{b:ZQ}(e:ci H H')(h:cE K H a b):cE K H' a b:=by
 rcases h with(h|⟨o,h⟩)|h
 ·exact .inl (.inl (e _ _ h))
 ·exact .inl (.inr ⟨o,e _ _ h⟩)
 exact .inr h
set_option maxHeartbeats 4000000
def Bd(i j:Int):Prop:=SB i<=9000/\SB j<=9000
def wF(_ j:Int):Prop:=j≠0/\SB j<=9000
theorem O8{x y:Int}(h:SB y<=9000):Builtin.divisionGoesByPylong x y=false:=by
 by_cases a:y=0
 ·subst a;exact PyProof.noPylong_small (by decide)
 refine PyProof.noPylong_of_log2 ?_;have q:=intBits_le_iff.mp h;have b:y.natAbs≠0:=by lia
 exact(Nat.log2_lt b).mpr q
section
variable{X:aU}{a b:Wp}{g l:bI}{d:Pos}
theorem t4:g4 X (YJ .Mult) (sd Bd λi j=>.int (i*j)):=wn λ_ _ _ _ _ _ _ a q=>mul_int q (IntMulOk.of_le a.1 a.2 (by decide))
theorem wG:g4 X (YJ .FloorDiv) (sd wF λi j=>.int (i.fdiv j)):=wn λ_ _ _ _ _ _ _ a q=>floordiv_int a.1 q (.inl (O8 a.2))
theorem nv:g4 X (XU .Eq) (lF λi j=>.bl (decide (i=j))):=se λ_ _ _ _ _ _ _ q=>eq_int (by rw[WD];exact q)
theorem qR:g4 X (XU .NotEq) (lF λi j=>.bl (!decide (i=j))):=se λ_ _ _ _ _ _ _ q=>ne_int (by rw[bne,WD];exact q)
def O9(H:al)(p:TD)(c:ZQ):Prop:=H p=some (.tup c)\/H p=some (.lst c)
def O':iS:=λx y H Q=>∃p c i v,x=.ref p/\y=.int i/\O9 H p c/\eF c i=some v/\Q v H
theorem pA:si X O':=by
 intro value a c s d H x y v u Q I e f h g;obtain⟨p,j,i,z,k,l,b,m,q⟩:=h;rcases b with b|b
 ·exact F3 value a c s d H x y v u Q I e f ⟨p,j,i,z,k,l,e0.of b,m,q⟩ g
 exact A3 value a c s d H x y v u Q I e f ⟨p,j,i,z,k,l,cE.of b,m,q⟩ g
theorem Pa:nn X (.builtin "isinstance") (λa H Q=>∃x t n b,a=[x,.ty n]/\kA X.K H x t/\VG X.K t (.type n)=some b/\Q (.bl b) H):=by
 intro f s g H a i Q I r h;obtain⟨x,t,n,b,rfl,ty,e,q⟩:=h;obtain⟨u,j,rfl,c,d⟩:=l0 r;cases d;exact Of I c ty e λk=>⟨.bl b,H,I.tok _,rfl,q⟩
structure b6(P:WP)(w:XB)(K:Su)(mg:Str->Option SL)(base:XG)(x:Str)(ps:ZX)(k:Nat)(sp:iU):Prop where
 ex:∃f fd,mg x=some (.ref f)/\U' K (.ref f)=true/\fy K fd ps []/\kB P w K mg base j4 k f fd ps sp
structure cH(K:Su)(mg:Str->Option SL)(x:Str)(st:XF)(ps:ZX):Prop where
 ex:∃f fd,mg x=some (.ref f)/\nu K x x st f fd/\fy K fd ps []
theorem b6.imp{P:WP}{w:XB}{K:Su}{d:Str->Option SL}{a:XG}{x:Str}{e:ZX}{k:Nat}{sp g:iU}(c:b6 P w K d a x e k sp)(h:∀i H Q E,g i H Q E->sp i H Q E):b6 P w K d a x e k g:=by
 obtain⟨f,j,m,kp,b,F⟩:=c.ex;exact⟨f,j,m,kp,b,F.imp h⟩
theorem ou{x:Str}{g:ZX}{j k:Nat}{sp:iU}{p:Pos}{e:Wp}{a:Z0}{t:eZ}(c:b6 X.prog X.w X.K X.mg X.base x g j sp)(h:ew k X.A)(i:eu X x)(l:hf X (e::a) t)(n:j<=k:=by decide)(o:ea x:=by decide)(q:eD X e a:=by rfl)(r:hv X d a:=by rfl):
  bP X (.Call (.Name x p) (e::a) [] d) (FM sp [] wE t):=by
 obtain⟨f,s,m,kp,b,F⟩:=c.ex;exact Om F (h.mono n) i m kp b .nil O6 l o q r
theorem cH.ok{P:WP}{w:XB}{K:Su}{g:Str->Option SL}{a:XG}{x:Str}{st:XF}{N e:ZX}{k:Nat}{sp:iU}(F:cH K g x st e)(S:cy N e (bL st))(h:∀vs H Q E,sp vs H Q E->vs.length=e.length)(j:∀(f:TD)(d:SL)(A:XC)(c:List Env)(s:Tk)(H:al)(vs:ZQ)(Q:cn)(E:g0),ew k (A.deeper (Y' x (bL st) s.heap.objs.size f d))->sp vs H Q E->∃t,i9 (k0 j4 P w K g a N x (bL st) f d A c s H E).jn (j3 st) t/\t {nx:=λ_ l=>Q .non l,rt:=Q} (fi N vs) H):b6 P w K g a x e (k+1) sp:=by
 obtain⟨f,n,m,i,b⟩:=F.ex;exact⟨f,n,m,i.kp,b,i.ok S h (j f)⟩
end
theorem hB{p:Prop}[Decidable p]{A B:Prop}(a:p->A)(b:¬p->B):if decide p=true then A else B:=by
 by_cases h:p
 ·rw[XA h];exact a h
 rw[decide_eq_false h];exact b h
theorem Pb{p:Prop}[Decidable p]{A B:Prop}(a:¬p->A)(b:p->B):if(!decide p)=true then A else B:=by
 by_cases h:p
 ·rw[XA h];exact b h
 rw[decide_eq_false h];exact a h
def ny(b:TD)(H c:al):Prop:=∀a o,a≠b->H a=some o->c a=some o
theorem ny.trans{b:TD}{H c d:al}(e:ny b H c)(f:ny b c d):ny b H d:=λa o n h=>f a o n (e a o n h)
theorem ny.upd(b:TD)(H:al)(o:el):ny b H (L3.ed H b o):=λa u n h=>by rw[bO n];exact h
theorem wH{H:al}{p:TD}(h:H p=none)(o:el):ci H (L3.ed H p o):=λb u q=>by rw[bO (hL q h)];exact q
theorem fh.but{P:WP}{w:XB}{H:al}{h d:XG}{C:TD}(x:fh P w H h)(n:H C=none)(k:∀b u,b≠C->h.get? b=some u->d.get? b=some u):fh P w H d:=λa o e=>
 (x a o e).f7 (λb u c q=>k b u (by rcases c with rfl|c;exact hL e n;exact hL c n) q) (λ_ q=>q) (λ_ _ q=>q) λ_ _ _ q=>q
theorem f9.but{c d:ZZ}{H g:al}{h i j:XG}{C:TD}(u:f9 c d H g h i)(a:h.get? C=none)(k:∀b u,b≠C->i.get? b=some u->j.get? b=some u):f9 c d H g h j where
 keep:=λb o q n f e=>k b o (by rintro rfl;rw[a]at q;cases q) (u.keep b o q n f e)
 slot:=λb o q n f e=>by
  obtain⟨l,z⟩:=u.slot b o q n f e;exact⟨l,k b _ (by rintro rfl;rw[a]at q;cases q) z⟩
 free:=u.free
 there:=λb o q e=>by
  obtain⟨m,z⟩:=u.there b o q e;exact⟨m,k b _ (by rintro rfl;rw[a]at q;cases q) z⟩
 hj:=u.hj
 gK:=u.gK
 fX:=u.fX
noncomputable def d5(X:aU)(N:ZX)(a:XZ)(e:List (Str×TD))(C:TD)(s:Tk)(H:al)(b:ZZ):aU:=
 {X with N:=N,s₀:=s,H₀:=H,env:=Y4 a e C X.env,outer:=X.stack,ex:=b,fn:=λ_=>false,pn:=[],xe:=λ_ _=>False}
noncomputable def iv(a:St)(b:ZT):St:=b.map λj=>(a[j]?).join
theorem bN.hY:∀{a:ZQ}{b:ZY}{i:Nat}{u:SL},bN a b->b[i]?=some u->∃x,a[i]?=some x/\eb x u
 |_,_,_,_,.nil,e=>by simp at e
 |_,_,0,_,.cons r _,e=>by simp at e;subst e;exact⟨_,rfl,r⟩
 |_,_,i+1,u,.cons _ t,e=>by
  obtain⟨x,c,d⟩:=bN.hY (i:=i) (u:=u) t (by simpa using e);exact⟨x,by simpa using c,d⟩
section
variable{X:aU}
theorem Pc(j:X.calm=true):nn X (.builtin "all") (λg H Q=>∃l c,g=[.ref l]/\H l=some (.lst c)/\(∀y∈c,y=.bl true)/\Q (.bl true) H):=by
 intro J s K H g L Q I r h;obtain⟨l,c,rfl,k,m,q⟩:=h;obtain⟨u,rfl,n⟩:=e3 r;cases n;obtain⟨a,p,t,M⟩:=I.list (cE.of k);have d:=t.isList
 have w:l<s.heap.objs.size:=by
  obtain⟨_,e,_⟩:=d;exact Heap.lt_size e
 refine call_all_walk (Yh d ⟨s.heap.objs.size,[s.heap.objs.size,l],[s.heap.objs.size],a.toArray.size,_,_,λ_=>true,rfl,Walks.list (A:=X.A.in1) (I.ok.hd j) _ l (S6 w) a.toArray,?_,?_,?_⟩)
 ·exact⟨⟨_,Heap.get?_push_size _ rfl,rfl,rfl⟩,d.push _⟩
 ·intro i v N O P x z;obtain⟨y,B,C⟩:=p.hY (i:=i) (u:=v) (by simpa using x);have e:=m y (Tb B);subst e;cases C;exact XI z
 intro h' E F;have e:((S7 a.toArray.size).all λ_=>true)=true:=by simp
 rw[e];refine⟨.bl true,H,I.kept (h':=h') (t':=E) λb o f=>?_,rfl,q⟩;refine F b o (λG=>?_) (Heap.get?_push_of_some _ f);rw[SQ.mp G]at f;exact TS _ (Heap.lt_size f)
theorem Pd(g:X.calm=true):nn X (.builtin "sum") (λd H Q=>∃(l:TD)(a:ZM),d=[.ref l]/\H l=some (.lst (a.map V.int))/\Q (.int a.sum) H):=by
 intro v s w H d x Q I r h;obtain⟨l,a,rfl,i,q⟩:=h;obtain⟨u,rfl,j⟩:=e3 r;cases j;obtain⟨c,k,m,y⟩:=I.list (cE.of i);have e:=fU k;obtain⟨b,f⟩:=e.allInts.items;have n:s.heap.IsList l (intItems b):=f▸m.isList;refine sum_intListG (I.ok.hd g) n λz A B o=>?_
 have p:a=b.toList.map (·.1):=by
  rw[<-nums_intItems,<-f];exact(show numsOf c.toArray.toList=a from e.numsOf).symm
 have t:preSum (numAt b) b.size=a.sum:=by
  rw[preSum_eq,U0 (by simp),p]
 rw[t];exact⟨.int a.sum,H,I.kept o,⟨_,rfl⟩,q⟩
end
theorem wI{x:Int}(a : -(2^64)<x)(b:x<2^64):SB x<=64:=intBits_le_64 a b
theorem fY{x t:Int}{n:Nat}(h:x.natAbs<=t.natAbs)(a:SB t<=n):SB x<=n:=Y6 h a
def ba(x y:Int):Prop:=0<y/\Ss x y=1
theorem Gg{x y:Int}(a:0<=x)(b:0<y):Ss y (x%y)=Ss x y:=by
 obtain⟨m,rfl⟩:=WE a;obtain⟨n,rfl⟩:=WE (Tp b);have e:((m:Int)%(n:Int))=((m%n:Nat):Int):=rfl;rw[e];show Tj n (m%n)=Tj m n
 rw[VM m n,Nat.gcd_rec n m,VM]
theorem Gh(a b:Int):Ss (if a<0 then -a else a) (if b<0 then -b else b)=Ss a b:=by
 have e:∀z:Int,(if z<0 then -z else z).natAbs=z.natAbs:=λz=>by split<;>lia
 unfold Ss;rw[e,e]
theorem gcd_zero_left{x:Int}(h:0<=x):((Ss x 0:Nat):Int)=x:=by
 rw[WG];lia
theorem qS{t b:Int}(a:b≠0):0<((Ss t b:Nat):Int):=by
 have:0<Ss t b:=Vb t a;lia
theorem Gi{t b g s:Int}(j:b≠0)(e:g=(Ss t b:Nat))(a:s=g/\0<b\/s = -g/\b<0):
  ba (t.fdiv s) (b.fdiv s)/\t.fdiv s*b=t*b.fdiv s/\(t.fdiv s).natAbs<=t.natAbs/\(b.fdiv s).natAbs<=b.natAbs:=by
 have k:0<g:=by rw[e];exact qS j
 have l:g∣t:=by rw[e];exact Vc t b
 have m:g∣b:=by rw[e];exact U1 t b
 have p:s∣t:=by rcases a with⟨h,_⟩|⟨h,_⟩<;>rw[h];exact l;exact UI.mpr l
 have r:s∣b:=by rcases a with⟨h,_⟩|⟨h,_⟩<;>rw[h];exact m;exact UI.mpr m
 have n:s≠0:=by rcases a with⟨h,_⟩|⟨h,_⟩<;>lia
 obtain⟨x,f⟩:=p;obtain⟨y,c⟩:=r;have o:t.fdiv s=x:=by rw[f];exact UJ x n
 have i:b.fdiv s=y:=by rw[c];exact UJ y n
 have u:(t.fdiv s).natAbs<=t.natAbs:=Xz t s;have v:(b.fdiv s).natAbs<=b.natAbs:=Xz b s;refine⟨⟨?_,?_⟩,?_,u,v⟩
 ·rw[i];rcases a with⟨h,d⟩|⟨h,d⟩
  ·rw[c,h]at d;exact T9 d k
  rw[c,h]at d;have:0<g*y:=by rw[Ut]at d;lia
  exact T9 this k
 ·rw[o,i]
  have q:Ss t b=s.natAbs*Ss x y:=by
   rw[f,c,VN]
  have w:s.natAbs=g.toNat:=by rcases a with⟨h,_⟩|⟨h,_⟩<;>lia
  have z:g.toNat=Ss t b:=by lia
  rw[w,z]at q;have posQz:0<Ss t b:=Vb t j;have:Ss t b*Ss x y=Ss t b*1:=by lia
  exact VO posQz this
 rw[o,i];have:x*b=x*(s*y):=by rw[<-c]
 have A:t*y=s*x*y:=by rw[<-f]
 rw[this,A,<-Uj,S8 x s]
theorem ox{k n m:Int}(h:k∣n*m)(g:Ss k n=1):k∣m:=by
 have q:=Int.dvd_gcd_mul_iff_dvd_mul.mpr h;rw[g]at q;simpa using q
theorem Bi{x y b a:Int}(h:ba x y)(d:ba b a)(e:x*a=b*y):x=b/\y=a:=by
 obtain⟨p,g⟩:=h;obtain⟨f,i⟩:=d
 have j:y∣a:=by
  have:y∣x*a:=⟨b,by rw[e,S8]⟩;exact ox this (by rw[TX];exact g)
 have k:a∣y:=by
  have:a∣b*y:=⟨x,by rw[<-e,S8]⟩;exact ox this (by rw[TX];exact i)
 have c:y=a:=Int.dvd_antisymm (Tp p) (Tp f) j k;refine⟨?_,c⟩;rw[c]at e;exact TK (by lia) e
def nz(x y z:Int):Prop:=0<z/\Ss (Ss x y:Nat) z=1
theorem wJ(a b n:Int):Ss (Ss a n:Nat) b=Tj (Tj a.natAbs b.natAbs) n.natAbs:=by
 show Tj (Tj a.natAbs n.natAbs) b.natAbs=_
 rw[Nat.gcd_assoc,VM n.natAbs,<-Nat.gcd_assoc]
theorem Bj(a b n:Int):Ss (Ss a b:Nat) n=Tj (Tj a.natAbs b.natAbs) n.natAbs:=rfl
theorem Pe(a b n:Int):Ss (Ss n a:Nat) b=Ss (Ss a n:Nat) b:=by
 rw[TX n a]
theorem Gj{a b n:Int}(c:n≠0):0<((Ss (Ss a n:Nat) b:Nat):Int):=by
 rw[wJ];have:0<Tj (Tj a.natAbs b.natAbs) n.natAbs:=Nat.gcd_pos_of_pos_right _ (by lia);lia
theorem Gk(a b n:Int):((Ss (Ss a n:Nat) b:Nat):Int)∣a/\((Ss (Ss a n:Nat) b:Nat):Int)∣b/\((Ss (Ss a n:Nat) b:Nat):Int)∣n:=by
 rw[wJ];have c:=U2 (Tj a.natAbs b.natAbs) n.natAbs;have d:=Vd (Tj a.natAbs b.natAbs) n.natAbs;refine⟨?_,?_,?_⟩
 ·exact UK.mpr (Ve c (U2 _ _))
 ·exact UK.mpr (Ve c (Vd _ _))
 exact UK.mpr d
theorem Gl{a b n g s:Int}(B:n≠0)(i:g=(Ss (Ss a n:Nat) b:Nat))(e:s=g/\0<n\/s = -g/\n<0):
  nz (a.fdiv s) (b.fdiv s) (n.fdiv s)/\a.fdiv s*n=a*n.fdiv s/\b.fdiv s*n=b*n.fdiv s/\(a.fdiv s).natAbs<=a.natAbs/\(b.fdiv s).natAbs<=b.natAbs/\(n.fdiv s).natAbs<=n.natAbs:=by
 have r:0<g:=by rw[i];exact Gj B
 obtain⟨t,u,v⟩:=Gk a b n;rw[<-i]at t u v;have j:s≠0:=by rcases e with⟨h,_⟩|⟨h,_⟩<;>lia
 have k:∀z:Int,g∣z->s∣z:=λz c=>by
  rcases e with⟨h,_⟩|⟨h,_⟩<;>rw[h]
  ·exact c
  exact UI.mpr c
 obtain⟨x,l⟩:=k a t;obtain⟨y,m⟩:=k b u;obtain⟨z,c⟩:=k n v;have w:a.fdiv s=x:=by rw[l];exact UJ x j
 have A:b.fdiv s=y:=by rw[m];exact UJ y j
 have f:n.fdiv s=z:=by rw[c];exact UJ z j
 refine⟨⟨?_,?_⟩,?_,?_,VP a s,VP b s,VP n s⟩
 ·rw[f];rcases e with⟨h,d⟩|⟨h,d⟩
  ·rw[c,h]at d;exact T9 d r
  rw[c,h]at d;have:0<g*z:=by rw[Ut]at d;lia
  exact T9 this r
 ·rw[w,A,f,Bj];rw[wJ,l,m,c,TB,TB,TB,Vf,Vf]at i;have C:s.natAbs=g.toNat:=by rcases e with⟨h,_⟩|⟨h,_⟩<;>lia
  have posQz:0<s.natAbs:=by lia
  have q:s.natAbs*Tj (Tj x.natAbs y.natAbs) z.natAbs=s.natAbs*1:=by lia
  exact VO posQz q
 ·rw[w,f];have o:x*n=x*(s*z):=by rw[<-c]
  have p:a*z=s*x*z:=by rw[<-l]
  rw[o,p,<-Uj,S8 x s]
 rw[A,f];have o:y*n=y*(s*z):=by rw[<-c]
 have p:b*z=s*y*z:=by rw[<-m]
 rw[o,p,<-Uj,S8 y s]
theorem Bk{x y z b c a:Int}(g:Ss (Ss x y:Nat) z=1)(d:x*a=b*z)(e:y*a=c*z):z∣a:=by
 have f:z.natAbs∣x.natAbs*a.natAbs:=⟨b.natAbs,by rw[<-TB,d,TB,Vg]⟩;have h:z.natAbs∣y.natAbs*a.natAbs:=⟨c.natAbs,by rw[<-TB,e,TB,Vg]⟩;have i:z.natAbs∣z.natAbs*a.natAbs:=⟨a.natAbs,rfl⟩;have q:=Nat.dvd_gcd (Nat.dvd_gcd f h) i;rw[WH,WH]at q;rw[Bj]at g;rw[g,VQ]at q;exact Uu.mp q
theorem wK{x y z b c a:Int}(h:nz x y z)(f:nz b c a)(d:x*a=b*z)(e:y*a=c*z):x=b/\y=c/\z=a:=by
 have i:=Bk h.2 d e;have j:=Bk f.2 d.symm e.symm;have k:z=a:=Int.dvd_antisymm (Tp h.1) (Tp f.1) i j;subst k;have g:z≠0:=SA h.1;exact⟨TK g d,TK g e,rfl⟩
theorem Pf{a b n:Int}{k:Nat}(c:n≠0)(h:VR n<=k):VR ((Ss (Ss a n:Nat) b:Nat):Int)<=k:=by
 refine PySem.intBits_le_of_natAbs ?_ h;exact VS (by lia) (Uu.mpr (Gk a b n).2.2)
theorem nA{u v:Int}(a:0<u)(b:0<v):u*v≠0:=SA (SE a b)
theorem Bl{x y z:Int}(h:nz x y z):nz (-x) (-y) z:=by
 refine⟨h.1,?_⟩;have g:=h.2;rw[Bj]at g⊢;rw[Int.natAbs_neg,Int.natAbs_neg];exact g
inductive D where
 |non|bl (b:Bool)|int (i:Int)|str (x:Str)|ty (n:String)|tup (xs:List D)|lst (xs:List D)|scr (ns:ZM)|ktup (xs:List D)|kfn (f:TD)|dct (b:Bool) (ks:List Z3) (ds:List D)
abbrev ZP:=List D
abbrev Z4:=List ZP
inductive mm where
 |l(ds:ZP)|d (b:Bool) (t:Option TD) (ks:List Z3) (ds:ZP)
instance:Coe ZP mm:=⟨mm.l⟩
inductive e2 where
 |ll(a:TD)(as:ZZ)(hQ:Z4)|dl (b:Bool) (a:TD) (ks:List Z3) (as:ZZ) (hQ:Z4)|nl (a:TD) (ds:ZP)
noncomputable def e2.adr:e2->TD
 |.ll a _ _=>a
 |.dl _ a _ _ _=>a
 |.nl a _=>a
def e2.ins:e2->ZZ
 |.ll _ a _=>a
 |.dl _ _ _ a _=>a
 |.nl _ _=>[]
def e2.hQ:e2->Z4
 |.ll _ _ x=>x
 |.dl _ _ _ _ x=>x
 |.nl _ _=>[]
inductive aA where
 |no|val (d:D)|own (c:mm)|bag|new (d:D)|pin (v:V) (d:D)|deep (c:e2)
abbrev ZN:=List aA
noncomputable def pB(b:Bool)(k:Z3):Int:=
 if b then X9 (Builtin.Tuple.tupleHashOf (k.map λa=>X9 (Builtin.Tuple.tupleHashOf (a.map Zo))))else X9 (Builtin.Tuple.tupleHashOf ((k.headD []).map Zo))
noncomputable def gB(b:Bool)(k:Z3):D:=if b then .tup (k.map λa=>.tup (a.map D.int))else .tup ((k.headD []).map D.int)
def k1(b:Bool):List Z3->ZZ->ZY->List YG
 |k::c,a::d,u::e=>⟨pB b k,.ref a,u⟩::k1 b c d e
 |_,_,_=>[]
def hS(b:Bool)(a:TD)(i:Nat)(c:List Z3)(d:ZZ)(e:ZQ):el:=.ext λh=>c.length<=TI/\d.length=c.length/\e.length=c.length/\(a==XM)=false /\
 ∃f:ZY,bN e f/\∃o g,h.get? a=some o/\o.ExactDict/\o.data=.dict g i/\g.toList=k1 b c d f/\c.Nodup
mutual
inductive bG(K:Su)(B:al):V->D->Prop where
 |non:bG K B .non .non
 |bl(b:Bool):bG K B (.bl b) (.bl b)
 |int(i:Int):bG K B (.int i) (.int i)
 |str(x:Str):bG K B (.str x) (.str x)
 |ty(n:String):bG K B (.ty n) (.ty n)
 |tup{a:TD}{vs:ZQ}{ds:ZP}(h:B a=some (.tup vs))(r:b_ K B vs ds):bG K B (.ref a) (.tup ds)
 |lst{a:TD}{vs:ZQ}{ds:ZP}(h:B a=some (.lst vs))(r:b_ K B vs ds):bG K B (.ref a) (.lst ds)
 |scr{a:TD}{ns:ZM}(h:cE K B a (ns.map V.int)):bG K B (.ref a) (.scr ns)
 |ktup{a:TD}{vs:ZQ}{ds:ZP}(h:e0 K B a vs)(r:b_ K B vs ds):bG K B (.ref a) (.ktup ds)
 |kfn(f:TD):bG K B (.ref f) (.kfn f)
 |dct{a:TD}{b:Bool}{a3:Nat}{ks:List Z3}{as:ZZ}{vs:ZQ}{ds:ZP}(h:B a=some (hS b a a3 ks as vs))(ai:b_ K B (as.map V.ref) (ks.map (gB b)))(af:b=false->∀k∈ks,∃l,k=[l])(r:b_ K B vs ds):bG K B (.ref a) (.dct b ks ds)
inductive b_(K:Su)(B:al):ZQ->ZP->Prop where
 |nil:b_ K B [] []
 |cons{v:V}{d:D}{vs:ZQ}{ds:ZP}(h:bG K B v d)(r:b_ K B vs ds):b_ K B (v::vs) (d::ds)
end
theorem Gm{K:Su}{H H':al}{a:TD}{b:ZQ}(e:ci H H')(h:e0 K H a b):e0 K H' a b:=by
 rcases h with(h|⟨o,h⟩)|h
 ·exact .inl (.inl (e _ _ h))
 ·exact .inl (.inr ⟨o,e _ _ h⟩)
 exact .inr h
section
variable{K:Su}{B a:al}
mutual
theorem bG.mono(s:ci B a):∀{v:V}{d:D},bG K B v d->bG K a v d
 |_,_,.non=>.non
 |_,_,.bl b=>.bl b
 |_,_,.int i=>.int i
 |_,_,.str x=>.str x
 |_,_,.ty n=>.ty n
 |_,_,.tup h r=>.tup (s _ _ h) (b_.mono s r)
 |_,_,.lst h r=>.lst (s _ _ h) (b_.mono s r)
 |_,_,.scr h=>.scr (s.seq h)
 |_,_,.ktup h r=>.ktup (Gm s h) (b_.mono s r)
 |_,_,.kfn f=>.kfn f
 |_,_,.dct h ai af r=>.dct (s _ _ h) (b_.mono s ai) af (b_.mono s r)
theorem b_.mono(s:ci B a):∀{vs:ZQ}{ds:ZP},b_ K B vs ds->b_ K a vs ds
 |_,_,.nil=>.nil
 |_,_,.cons h r=>.cons (bG.mono s h) (b_.mono s r)
end
theorem b_.length:∀{a:ZQ}{b:ZP},b_ K B a b->a.length=b.length
 |_,_,.nil=>rfl
 |_,_,.cons _ r=>by rw[SK,SK,r.length]
theorem b_.get:∀{a:ZQ}{b:ZP}{i:Nat}{d:D},b_ K B a b->b[i]?=some d->∃v,a[i]?=some v/\bG K B v d
 |_,_,_,_,.nil,e=>by simp at e
 |_,_,0,_,.cons h _,e=>by simp at e;subst e;exact⟨_,rfl,h⟩
 |_,_,i+1,d,.cons _ r,e=>by
  obtain⟨v,c,f⟩:=b_.get (i:=i) (d:=d) r (by simpa using e);exact⟨v,by simpa using c,f⟩
theorem b_.fb:∀{a:ZQ}{b:ZP}{i:Nat}{v:V},b_ K B a b->a[i]?=some v->∃d,b[i]?=some d/\bG K B v d
 |_,_,_,_,.nil,e=>by simp at e
 |_,_,0,_,.cons h _,e=>by simp at e;subst e;exact⟨_,rfl,h⟩
 |_,_,i+1,v,.cons _ r,e=>by
  obtain⟨d,c,f⟩:=b_.fb (i:=i) (v:=v) r (by simpa using e);exact⟨d,by simpa using c,f⟩
theorem b_.append:∀{a b:ZQ}{c d:ZP},b_ K B a c->b_ K B b d->b_ K B (a++b) (c++d)
 |_,_,_,_,.nil,s=>s
 |_,_,_,_,.cons h r,s=>.cons h (b_.append r s)
theorem b_.take:∀{a:ZQ}{b:ZP}(n:Nat),b_ K B a b->b_ K B (a.take n) (b.take n)
 |_,_,0,_=>.nil
 |_,_,_+1,.nil=>.nil
 |_,_,n+1,.cons h r=>.cons h (b_.take n r)
theorem b_.drop:∀{a:ZQ}{b:ZP}(n:Nat),b_ K B a b->b_ K B (a.drop n) (b.drop n)
 |_,_,0,r=>r
 |_,_,_+1,.nil=>.nil
 |_,_,n+1,.cons _ r=>b_.drop n r
theorem b_.ints:∀(a:ZM),b_ K B (a.map V.int) (a.map D.int)
 |[]=>.nil
 |n::r=>.cons (.int n) (b_.ints r)
end
def ft(H:al)(b:TD):Prop:=∃x y:Int,H b=some (.lst [.int x,.int y])/\0<=x/\0<=y/\y<2147483647
def cc(d:St)(b:ZN)(i:Nat)(a:TD):Prop:=(d[i]?=some (some (.ref a))/\(b[i]?=some .bag\/∃e,b[i]?=some (.own e)))\/∃c,b[i]?=some (.deep c)/\a∈c.adr::c.ins
structure Wd(R:al)(W:TD->Prop)(B H:al):Prop where
 fr:∀a o,R a=some o->¬W a->H a=some o
 bh:ci B H
 wb:∀a,W a->B a=none
 wh:∀a,W a->ft H a
 wr:∀a,W a->R a≠none
open Classical in
noncomputable def hT(R:al)(W:TD->Prop)(B:al):al:=λa=>match R a with
 |some (.lst b)=>if W a then B a else some (.lst b)
 |_=>B a
theorem wL{R:al}{W:TD->Prop}{B b:al}(s:ci B b):ci (hT R W B) (hT R W b):=λa o h=>by
 unfold hT at h⊢;split at h
 ·split at h
  ·rename_i z;rw[SZ z];exact s a o h
  rename_i z;rw[Tl z];exact h
 exact s a o h
def lH(K:Su)(B H:al)(a:TD):mm->Prop
 |.l f=>∃e,H a=some (.lst e)/\b_ K B e f
 |.d b t g f=>∃i h e,(∀c,t=some c->c=a)/\H a=some (hS b a i g h e)/\b_ K B (h.map V.ref) (g.map (gB b))/\(b=false->∀k∈g,∃l,k=[l])/\b_ K B e f
theorem lH.mono{K:Su}{B j H H':al}{a:TD}{c:mm}(h:lH K B H a c)(s:ci B j)(e:H' a=H a):lH K j H' a c:=by
 cases c with
 |l k=>obtain⟨f,g,i⟩:=h;exact⟨f,by rw[e];exact g,i.mono s⟩
 |d b t r k=>obtain⟨m,n,f,o,g,i,p,q⟩:=h;exact⟨m,n,f,o,by rw[e];exact g,i.mono s,p,q.mono s⟩
theorem lH.ne{K:Su}{B H:al}{a:TD}{c:mm}(h:lH K B H a c):H a≠none:=by
 cases c with
 |l f=>obtain⟨g,e,i⟩:=h;rw[e];simp
 |d b t j f=>obtain⟨k,m,g,_,e,_⟩:=h;rw[e];simp
structure mn(K:Su)(B H:al)(as:ZZ)(hQ:Z4):Prop where
 len:as.length=hQ.length
 at_:∀(i:Nat)(a:TD)(ds:ZP),as[i]?=some a->hQ[i]?=some ds->∃vs,H a=some (.lst vs)/\b_ K B vs ds
theorem mn.mono{K:Su}{B d H H':al}{c:ZZ}{b:Z4}(h:mn K B H c b)(s:ci B d)(e:∀a∈c,H' a=H a):mn K d H' c b:=
 ⟨h.len,λi a g f j=>by
  obtain⟨k,l,m⟩:=h.at_ i a g f j
  exact⟨k,by rw[e a (Tb f)];exact l,m.mono s⟩⟩
theorem mn.ne{K:Su}{B H:al}{b:ZZ}{c:Z4}(h:mn K B H b c){a:TD}(m:a∈b):H a≠none:=by
 obtain⟨i,d⟩:=U3 m
 have lt:i<b.length:=by
  by_cases z:i<b.length
  ·exact z
  rw[Td (by lia)]at d;cases d
 obtain⟨f,e,_⟩:=h.at_ i a _ d (SY (by rw[<-h.len];exact lt));rw[e];simp
def dI(R B:al):al:=λa=>match B a with
 |some (.lst b)=>if(R a).isNone then some (.lst b)else none
 |o=>o
theorem iw{R B:al}:ci (dI R B) B:=λa o h=>by
 unfold dI at h;split at h
 ·rename_i b e
  split at h
  ·rw[e];exact h
  cases h
 exact h
theorem lI{R B b:al}(s:ci B b):ci (dI R B) (dI R b):=λa o h=>by
 have d:=s a o (iw a o h);unfold dI at h⊢;rw[d];split at h
 ·rename_i c e
  split at h
  ·rename_i z
   have:=SN h;subst this;dsimp only;rw[SZ z]
  cases h
 rename_i f
 cases o with
 |lst c=>exact absurd h (f c)
 |_=>rfl
def t7(R B:al):e2->al
 |.nl _ _=>dI R B
 |_=>B
theorem Pg{R B b:al}(s:ci B b)(c:e2):ci (t7 R B c) (t7 R b c):=by
 cases c with
 |nl a d=>exact lI s
 |_=>exact s
def pC(K:Su)(B H:al):e2->Prop
 |.ll a d c=>H a=some (.lst (d.map V.ref))/\mn K B H d c
 |.dl b a e d c=>∃h f,H a=some (hS b a h e f (d.map V.ref))/\b_ K B (f.map V.ref) (e.map (gB b))/\(b=false->∀k∈e,∃l,k=[l])/\mn K B H d c
 |.nl a i=>∃g,H a=some (.lst g)/\b_ K B g i
structure Gn(K:Su)(R B H:al)(c:e2):Prop where
 fr:∀a∈c.adr::c.ins,R a=none/\B a=none
 nd:(c.adr::c.ins).Nodup
 ok:pC K (t7 R B c) H c
theorem pC.mono{K:Su}{B i H H':al}{c:e2}(h:pC K B H c)(s:ci B i)(e:∀a∈c.adr::c.ins,H' a=H a):pC K i H' c:=by
 cases c with
 |ll a j d=>exact⟨by rw[e a Sw];exact h.1,h.2.mono s λx m=>e x (Sx _ m)⟩
 |dl b a q j d=>
  obtain⟨k,l,f,g,n,o⟩:=h;exact⟨k,l,by rw[e a Sw];exact f,g.mono s,n,o.mono s λx m=>e x (Sx _ m)⟩
 |nl a r=>obtain⟨p,f,g⟩:=h;exact⟨p,by rw[e a Sw];exact f,g.mono s⟩
theorem pC.ne{K:Su}{B H:al}{c:e2}(h:pC K B H c){a:TD}(m:a∈c.adr::c.ins):H a≠none:=by
 cases c with
 |ll b g d=>
  rcases SH.mp m with e|m
  ·rw[show a=b from e,h.1];simp
  exact h.2.ne m
 |dl b p k g d=>
  obtain⟨l,n,f,i,o,j⟩:=h;rcases SH.mp m with e|m
  ·rw[show a=p from e,f];simp
  exact j.ne m
 |nl b q=>
  obtain⟨r,f,i⟩:=h;rcases SH.mp m with e|m
  ·rw[show a=b from e,f];simp
  simp[e2.ins]at m
def Bm(K:Su)(R:al)(W:TD->Prop)(B H:al)(o:Option V):aA->Prop
 |.no=>True
 |.val d=>∃v,o=some v/\bG K B v d
 |.own c=>∃a,o=some (.ref a)/\R a=none/\B a=none/\lH K B H a c
 |.bag=>∃b,o=some (.ref b)/\(W b\/R b=none)/\B b=none/\ft H b
 |.new d=>∃v,o=some v/\bG K (hT R W B) v d
 |.pin v d=>o=some v/\bG K (hT R W B) v d
 |.deep c=>o=some (.ref c.adr)/\Gn K R B H c
structure aL(K:Su)(R:al)(W:TD->Prop)(B H:al)(σ:St)(ρ:ZN):Prop extends Wd R W B H where
 len:σ.length=ρ.length
 ok:∀(i:Nat)(k:aA),ρ[i]?=some k->Bm K R W B H (σ[i]?).join k
 sep:∀(i j:Nat)(a:TD),cc σ ρ i a->cc σ ρ j a->i=j
structure bx(R B aw:al):Prop where
 s:ci B aw
 n:∀a o,aw a=some o->B a=some o\/R a=none
theorem bx.refl(R B:al):bx R B B:=⟨ci.refl _,λ_ _ h=>.inl h⟩
theorem bx.trans{R B b c:al}(g:bx R B b)(h:bx R b c):bx R B c:=⟨g.s.trans h.s,λa o e=>(h.n a o e).elim (g.n a o) .inr⟩
theorem Wd.fresh{R:al}{W:TD->Prop}{B H:al}(w:Wd R W B H){p:TD}(h:H p=none):R p=none/\¬W p/\B p=none:=by
 have a:¬W p:=λz=>by
  obtain⟨x,y,e,_⟩:=w.wh p z;rw[h]at e;cases e
 refine⟨?_,a,w.bh.free h⟩;cases q:R p with
 |none=>rfl
 |some o=>rw[w.fr p o q a]at h;cases h
theorem gd{a:Type}{o:Option (Option a)}{v:a}(h:o.join=some v):o=some (some v):=by
 cases o with
 |none=>cases h
 |some x=>exact Uf some h
section
variable{K:Su}{R:al}{W:TD->Prop}{B E H F:al}{A:St}{C:ZN}
theorem aL.val(e:aL K R W B H A C){i:Nat}{d:D}(h:C[i]?=some (.val d)):∃v,A[i]?=some (some v)/\bG K B v d:=by
 obtain⟨v,a,b⟩:=e.ok i _ h;exact⟨v,gd a,b⟩
theorem aL.ownAt(e:aL K R W B H A C){i:Nat}{c:ZP}(h:C[i]?=some (.own c)):∃a b,A[i]?=some (some (.ref a))/\R a=none/\B a=none/\H a=some (.lst b)/\b_ K B b c:=by
 obtain⟨a,d,f,g,b,j,k⟩:=e.ok i _ h;exact⟨a,b,gd d,f,g,j,k⟩
theorem aL.fa(e:aL K R W B H A C){i:Nat}{c:mm}(h:C[i]?=some (.own c)):∃a,A[i]?=some (some (.ref a))/\R a=none/\B a=none/\lH K B H a c:=by
 obtain⟨a,b,d⟩:=e.ok i _ h;exact⟨a,gd b,d⟩
theorem aL.eo(e:aL K R W B H A C){i:Nat}(h:C[i]?=some .bag):∃b,A[i]?=some (some (.ref b))/\(W b\/R b=none)/\B b=none/\ft H b:=by
 obtain⟨a,c,d⟩:=e.ok i _ h;exact⟨a,gd c,d⟩
theorem aL.ek(e:aL K R W B H A C){i:Nat}{c:e2}(h:C[i]?=some (.deep c)):A[i]?=some (some (.ref c.adr))/\Gn K R B H c:=by
 obtain⟨a,b⟩:=e.ok i _ h;exact⟨gd a,b⟩
theorem aL.en(e:aL K R W B H A C){i:Nat}{a:TD}(m:cc A C i a):B a=none/\H a≠none:=by
 rcases m with⟨g,d|⟨k,d⟩⟩|⟨c,g,d⟩
 ·obtain⟨b,f,_,h,x,y,j,_⟩:=e.eo d;rw[g]at f;cases f;exact⟨h,by rw[j];simp⟩
 ·obtain⟨b,f,_,h,j⟩:=e.fa d;rw[g]at f;cases f;exact⟨h,j.ne⟩
 have q:=(e.ek g).2;exact⟨(q.fr a d).2,q.ok.ne d⟩
theorem Bn{i:Nat}{a:TD}(m:cc A C i a)(n:∀c,C[i]?≠some (.deep c)):A[i]?=some (some (.ref a))/\(C[i]?=some .bag\/∃b,C[i]?=some (.own b)):=by
 rcases m with m|⟨c,h,_⟩
 ·exact m
 exact absurd h (n c)
theorem nC{i:Nat}{a:TD}(m:cc A C i a)(h:C[i]?=some .bag):A[i]?=some (some (.ref a)):=(Bn m λc z=>by rw[h]at z;cases z).1
theorem aL.move(e:aL K R W B H A C)(w:Wd R W E F)(s:ci B E)(m:∀i a,cc A C i a->E a=none/\(C[i]?=some .bag->ft F a)/\(C[i]?≠some .bag->F a=H a)):aL K R W E F A C:=by
 refine⟨w,e.len,λi k h=>?_,e.sep⟩;cases k with
 |no=>trivial
 |new d=>
  obtain⟨v,f,g⟩:=e.ok i _ h;exact⟨v,f,g.mono (wL s)⟩
 |pin v d=>
  obtain⟨f,g⟩:=e.ok i _ h;exact⟨f,g.mono (wL s)⟩
 |val d=>
  obtain⟨v,f,g⟩:=e.ok i _ h;exact⟨v,f,g.mono s⟩
 |own r=>
  obtain⟨a,f,g,t,p⟩:=e.ok i _ h;obtain⟨l,o,n⟩:=m i a (.inl ⟨gd f,.inr ⟨r,h⟩⟩);exact⟨a,f,g,l,p.mono s (n (by rw[h];simp))⟩
 |deep c=>
  obtain⟨f,g⟩:=e.ok i _ h
  have q:∀a∈c.adr::c.ins,E a=none/\F a=H a:=λa j=>by
   obtain⟨l,o,n⟩:=m i a (.inr ⟨c,h,j⟩);exact⟨l,n (by rw[h];simp)⟩
  exact⟨f,λa j=>⟨(g.fr a j).1,(q a j).1⟩,g.nd,g.ok.mono (Pg s c) λa j=>(q a j).2⟩
 |bag=>
  obtain⟨b,f,g,t,p⟩:=e.ok i _ h;obtain⟨l,o,n⟩:=m i b (.inl ⟨gd f,.inl h⟩);exact⟨b,f,g,l,o h⟩
theorem ft.upd{H:al}{b p:TD}{o:el}(h:ft H b)(n:b≠p):ft (L3.ed H p o) b:=by
 obtain⟨x,y,e,q⟩:=h;exact⟨x,y,by rw[bO n];exact e,q⟩
theorem Wd.alloc(w:Wd R W B H){p:TD}(h:H p=none)(o:el):Wd R W (ed B p o) (ed H p o):=by
 obtain⟨c,b,e⟩:=w.fresh h;refine⟨λa u q d=>?_,λa u q=>?_,λa z=>?_,λa z=>?_,w.wr⟩
 ·rw[bO (by rintro rfl;rw[c]at q;cases q)];exact w.fr a u q d
 ·unfold L3.ed at q⊢;split
  ·rename_i z;rwa[SZ z]at q
  rename_i z;rw[Tl z]at q;exact w.bh a u q
 ·rw[bO (by rintro rfl;exact b z)];exact w.wb a z
 exact(w.wh a z).upd (by rintro rfl;exact b z)
theorem Wd.ey(w:Wd R W B H){p:TD}(h:H p=none)(o:el):Wd R W B (ed H p o):=by
 obtain⟨b,c,d⟩:=w.fresh h;refine⟨λa u q e=>?_,λa u q=>?_,w.wb,λa z=>?_,w.wr⟩
 ·rw[bO (by rintro rfl;rw[b]at q;cases q)];exact w.fr a u q e
 ·rw[bO (by rintro rfl;rw[d]at q;cases q)];exact w.bh a u q
 exact(w.wh a z).upd (by rintro rfl;exact c z)
theorem aL.eK(e:aL K R W B H A C){p:TD}(h:H p=none){i:Nat}{a:TD}(m:cc A C i a):a≠p:=by
 rintro rfl;exact(e.en m).2 h
theorem aL.alloc(e:aL K R W B H A C){p:TD}(h:H p=none)(o:el):aL K R W (ed B p o) (ed H p o) A C:=by
 obtain⟨g,j,d⟩:=e.toWd.fresh h;refine e.move (e.toWd.alloc h o) (wH d o) λi a m=>?_;have n:=e.eK h m;refine⟨by rw[bO n];exact(e.en m).1,λz=>?_,λ_=>bO n⟩;obtain⟨b,c,_,_,f⟩:=e.eo z;rw[nC m z]at c;cases c;exact f.upd n
theorem aL.ey(e:aL K R W B H A C){p:TD}(h:H p=none)(o:el):aL K R W B (ed H p o) A C:=by
 refine e.move (e.toWd.ey h o) (ci.refl _) λi a m=>?_;have n:=e.eK h m;refine⟨(e.en m).1,λz=>?_,λ_=>bO n⟩;obtain⟨b,c,_,_,d⟩:=e.eo z;rw[nC m z]at c;cases c;exact d.upd n
theorem aL.grow(e:aL K R W B H A C){p:TD}(h:H p=none)(o:el):bx R B (ed B p o):=by
 obtain⟨b,d,c⟩:=e.toWd.fresh h;refine⟨wH c o,λa u q=>?_⟩;by_cases z:a=p
 ·subst z;exact .inr b
 rw[bO z]at q;exact .inl q
theorem aL.gR(e:aL K R W B H A C){a:TD}{o:el}(h:H a=some o)(d:R a=none)(f:B a=none)(j:∀i,¬cc A C i a):aL K R W (ed B a o) H A C/\bx R B (ed B a o):=by
 have k:¬W a:=λz=>e.wr a z d;refine⟨e.move ⟨e.fr,λb u q=>?_,λb z=>?_,e.wh,e.wr⟩ (wH f _) (λi b m=>?_),⟨wH f _,λb u q=>?_⟩⟩
 ·by_cases z:b=a
  ·subst z;rw[dx]at q;cases q;exact h
  rw[bO z]at q;exact e.bh b u q
 ·rw[bO (by rintro rfl;exact k z)];exact e.wb b z
 ·have n:b≠a:=by rintro rfl;exact j i m
  refine⟨by rw[bO n];exact(e.en m).1,λz=>?_,λ_=>rfl⟩;obtain⟨c,g,_,_,l⟩:=e.eo z;rw[nC m z]at g;cases g;exact l
 by_cases z:b=a
 ·subst z;exact .inr d
 rw[bO z]at q;exact .inl q
theorem aL.freeze(e:aL K R W B H A C){a:TD}{b:ZQ}(h:H a=some (.lst b))(c:R a=none)(d:B a=none)(f:∀i,¬cc A C i a):aL K R W (ed B a (.lst b)) H A C/\bx R B (ed B a (.lst b)):=e.gR h c d f
theorem iV{a:Type}{l:List a}{i j:Nat}{x y:a}(h:(l.set i x)[j]?=some y):(j=i/\y=x)\/(j≠i/\l[j]?=some y):=by
 by_cases e:i=j
 ·subst e;rw[List.getElem?_set_self']at h;cases q:l[i]? with
  |none=>rw[q]at h;cases h
  |some z=>rw[q]at h;exact .inl ⟨rfl,(SN h).symm⟩
 rw[Tz e]at h;exact .inr ⟨λz=>e z.symm,h⟩
def aA.kG:aA->ZZ
 |.deep c=>c.adr::c.ins
 |_=>[]
theorem t8{i j:Nat}{v:V}{k:aA}{a:TD}(m:cc (A.set i (some v)) (C.set i k) j a):(j=i/\((v=.ref a/\(k=.bag\/∃f,k=.own f))\/a∈k.kG))\/(j≠i/\cc A C j a):=by
 rcases m with⟨d,b⟩|⟨c,d,b⟩
 ·rcases iV d with⟨e,d⟩|⟨e,d⟩
  ·refine .inl ⟨e,.inl ⟨(SN d).symm,?_⟩⟩;rcases b with b|⟨f,b⟩
   ·rcases iV b with⟨_,b⟩|⟨n,_⟩
    ·exact .inl b.symm
    exact absurd e n
   rcases iV b with⟨_,b⟩|⟨n,_⟩
   ·exact .inr ⟨f,b.symm⟩
   exact absurd e n
  refine .inr ⟨e,.inl ⟨d,?_⟩⟩;rcases b with b|⟨f,b⟩
  ·rcases iV b with⟨n,_⟩|⟨_,b⟩
   ·exact absurd n e
   exact .inl b
  rcases iV b with⟨n,_⟩|⟨_,b⟩
  ·exact absurd n e
  exact .inr ⟨f,b⟩
 rcases iV d with⟨e,d⟩|⟨e,d⟩
 ·exact .inl ⟨e,.inr (by rw[<-d];exact b)⟩
 exact .inr ⟨e,.inr ⟨c,d,b⟩⟩
theorem so{i j:Nat}{v:V}{k:aA}{a:TD}(m:cc (A.set i (some v)) (C.set i k) j a)(b:k≠.bag)(d:∀c,k≠.own c)(e:k.kG=[]):j≠i/\cc A C j a:=by
 rcases t8 m with⟨_,⟨_,z|⟨c,z⟩⟩|z⟩|m
 ·exact absurd z b
 ·exact absurd z (d c)
 ·rw[e]at z;cases z
 exact m
theorem aL.set(e:aL K R W B H A C)(i:Nat){v:V}{k:aA}(s:Bm K R W B H (some v) k)(l:∀a,v=.ref a->(k=.bag\/∃t,k=.own t)->∀j,j≠i->¬cc A C j a)(m:∀a∈k.kG,∀j,j≠i->¬cc A C j a:=by intro _ z;cases z):aL K R W B H (A.set i (some v)) (C.set i k):=by
 refine⟨e.toWd,by rw[TV,TV];exact e.len,λj u h=>?_,λx y a w o=>?_⟩
 ·rcases iV h with⟨rfl,rfl⟩|⟨n,h⟩
  ·have lt:j<A.length:=by
    rw[e.len];by_cases z:j<C.length
    ·exact z
    rw[Td (by rw[TV];lia)]at h;cases h
   have q:((A.set j (some v))[j]?).join=some v:=by rw[TG lt];rfl
   rw[q];exact s
  rw[Tz (λz=>n z.symm)];exact e.ok j u h
 rcases t8 w with⟨E,c⟩|⟨p,d⟩
 ·rcases t8 o with⟨r,_⟩|⟨f,b⟩
  ·rw[E,r]
  rcases c with⟨F,G⟩|c
  ·exact absurd b (l a F G y f)
  exact absurd b (m a c y f)
 rcases t8 o with⟨r,g⟩|⟨f,b⟩
 ·rcases g with⟨I,J⟩|g
  ·exact absurd d (l a I J x p)
  exact absurd d (m a g x p)
 exact e.sep x y a d b
theorem aL.fB(e:aL K R W B H A C)(i:Nat){v:V}{d:D}(r:bG K B v d):aL K R W B H (A.set i (some v)) (C.set i (.val d)):=
 e.set i ⟨v,rfl,r⟩ λ_ _ z=>by rcases z with z|⟨_,z⟩<;>cases z
theorem aL.hV(e:aL K R W B H A C)(i:Nat){a:TD}{c:ZQ}{d:ZP}(f:R a=none)(g:B a=none)(h:H a=some (.lst c))(r:b_ K B c d)(k:∀j,j≠i->¬cc A C j a):aL K R W B H (A.set i (some (.ref a))) (C.set i (.own d)):=
 e.set i ⟨a,rfl,f,g,c,h,r⟩ λb z _=>by cases z;exact k
theorem aL.setC(e:aL K R W B H A C)(i:Nat){a:TD}{c:mm}(d:R a=none)(f:B a=none)(g:lH K B H a c)(h:∀j,j≠i->¬cc A C j a):aL K R W B H (A.set i (some (.ref a))) (C.set i (.own c)):=
 e.set i ⟨a,rfl,d,f,g⟩ λb z _=>by cases z;exact h
theorem aL.jy(e:aL K R W B H A C){i:Nat}{a:TD}{c l:mm}{o:el}(h:A[i]?=some (some (.ref a)))(p:C[i]?=some (.own c))(r:lH K B (ed H a o) a l):aL K R W B (ed H a o) A (C.set i (.own l)):=by
 obtain⟨S,J,s,L,T⟩:=e.fa p;rw[h]at J;cases J;have M:¬W a:=λz=>e.wr a z s;have t:cc A C i a:=.inl ⟨h,.inr ⟨c,p⟩⟩;refine⟨⟨λb u q z=>?_,λb u q=>?_,e.wb,λb z=>?_,e.wr⟩,by rw[TV];exact e.len,λj k q=>?_,λx y b N O=>?_⟩
 ·rw[bO (by rintro rfl;rw[s]at q;cases q)];exact e.fr b u q z
 ·rw[bO (by rintro rfl;rw[L]at q;cases q)];exact e.bh b u q
 ·exact(e.wh b z).upd (by rintro rfl;exact M z)
 ·rcases iV q with⟨rfl,rfl⟩|⟨n,q⟩
  ·exact⟨a,by rw[h];rfl,s,L,r⟩
  have z:=e.ok j k q;cases k with
  |no=>trivial
  |new d=>exact z
  |pin v d=>exact z
  |val d=>exact z
  |own P=>
   obtain⟨b,g,E,F,G⟩:=z;exact⟨b,g,E,F,G.mono (ci.refl _) (bO (by rintro rfl;exact n (e.sep j i b (.inl ⟨gd g,.inr ⟨P,q⟩⟩) t)))⟩
  |deep d=>
   exact⟨z.1,z.2.fr,z.2.nd,z.2.ok.mono (ci.refl _) λb Q=>bO (by rintro rfl;exact n (e.sep j i b (.inr ⟨d,q,Q⟩) t))⟩
  |bag=>
   obtain⟨b,g,E,F,G⟩:=z;exact⟨b,g,E,F,G.upd (by rintro rfl;exact n (e.sep j i b (.inl ⟨gd g,.inl q⟩) t))⟩
 have back:∀x,cc A (C.set i (.own l)) x b->cc A C x b:=λx m=>by
  rcases m with⟨f,I⟩|⟨d,f,I⟩
  ·by_cases z:x=i
   ·subst z;exact .inl ⟨f,.inr ⟨c,p⟩⟩
   refine .inl ⟨f,?_⟩;rwa[Tz (λw=>z w.symm)]at I
  rcases iV f with⟨_,z⟩|⟨_,f⟩
  ·cases z
  exact .inr ⟨d,f,I⟩
 exact e.sep x y b (back x N) (back y O)
theorem aL.write(e:aL K R W B H A C){i:Nat}{a:TD}{b ds':ZP}{vs:ZQ}(h:A[i]?=some (some (.ref a)))(c:C[i]?=some (.own b))(r:b_ K B vs ds'):aL K R W B (ed H a (.lst vs)) A (C.set i (.own ds')):=
 e.jy h c ⟨vs,dx,r⟩
theorem aL.fz(e:aL K R W B H A C){i:Nat}{b:ZP}(k:C[i]?=some (.own b)):∃E,aL K R W E H A (C.set i (.val (.lst b)))/\bx R B E:=by
 obtain⟨a,u,c,l,o,p,r⟩:=e.ownAt k;have t:cc A C i a:=.inl ⟨c,.inr ⟨b,k⟩⟩;have f:=(e.fB (d:=.non) i (v:=.non) .non)
 have h:=f.freeze p l o (λj m=>by
  obtain⟨n,m⟩:=so m (by simp) (by simp) rfl
  exact n (e.sep j i a m t))
 refine⟨_,?_,h.2⟩;have g:=h.1.fB i (v:=.ref a) (d:=.lst b) (.lst dx (r.mono h.2.s));rw[TY,TY]at g
 have q:A.set i (some (.ref a))=A:=by
  apply Uk;intro j;by_cases z:i=j
  ·subst z
   have lt:i<A.length:=by
    by_cases z:i<A.length
    ·exact z
    rw[Td (by lia)]at c;cases c
   rw[TG lt,c]
  rw[Tz z]
 rwa[q]at g
theorem aL.nV(e:aL K R W B H A C){i:Nat}{b:Bool}{t:Option TD}{k:List Z3}{l:ZP}(o:C[i]?=some (.own (.d b t k l))):∃E,aL K R W E H A (C.set i (.val (.dct b k l)))/\bx R B E:=by
 obtain⟨a,c,p,r,G,I,J,_,u,w,x,y⟩:=e.fa o;have F:cc A C i a:=.inl ⟨c,.inr ⟨_,o⟩⟩;have f:=(e.fB (d:=.non) i (v:=.non) .non)
 have h:=f.gR u p r (λj m=>by
  obtain⟨n,m⟩:=so m (by simp) (by simp) rfl
  exact n (e.sep j i a m F))
 refine⟨_,?_,h.2⟩;have g:=h.1.fB i (v:=.ref a) (d:=.dct b k l) (.dct dx (w.mono h.2.s) x (y.mono h.2.s));rw[TY,TY]at g
 have q:A.set i (some (.ref a))=A:=by
  apply Uk;intro j;by_cases z:i=j
  ·subst z
   have lt:i<A.length:=by
    by_cases z:i<A.length
    ·exact z
    rw[Td (by lia)]at c;cases c
   rw[TG lt,c]
  rw[Tz z]
 rwa[q]at g
end
abbrev bb:=ZN->(D->Prop)->Prop
abbrev cK:=ZN->(ZP->Prop)->Prop
abbrev dz:=ZN->(Bool->Prop)->Prop
inductive gn where
 |val(d:D)|bag (i:Nat)
abbrev ZW:=List gn
abbrev iW:=ZN->(ZW->Prop)->Prop
structure hE where
 nx:ZN->Prop
 rt:aA->Prop
 bk:ZN->Prop:=λ_=>False
 ct:ZN->Prop:=λ_=>False
abbrev cA:=hE->ZN->Prop
abbrev eS:=D->ZN->(ZN->Prop)->Prop
abbrev nD:=ZP->ZN->(ZN->Prop)->Prop
section
variable(K:Su)
def fu(t:bI)(u:bb):Prop:=∀(a:ZN)(k:D->Prop),u a k->∀(R:al)(W:TD->Prop)(B H:al)(b:St)(Q:cn),aL K R W B H b a->
 (∀d v c e,k d->aL K R W c e b a->bx R B c->bG K c v d->Q v e)->t b H Q
def Bo(t:bI)(u:cK):Prop:=∀(b:ZN)(k:ZP->Prop),u b k->∀(R:al)(W:TD->Prop)(B H:al)(c:St)(Q:cn),aL K R W B H c b->
 (∀f a g d e,k f->aL K R W d e c b->bx R B d->R a=none->d a=none->e a=some (.lst g)->b_ K d g f->(∀i,¬cc c b i a)->Q (.ref a) e)->t c H Q
def ib(t:eh)(u:dz):Prop:=∀(a:ZN)(k:Bool->Prop),u a k->∀(R:al)(W:TD->Prop)(B H:al)(c:St)(Q:Bool->al->Prop),aL K R W B H c a->
 (∀b d e,k b->aL K R W d e c a->bx R B d->Q b e)->t c H Q
def wM(t:eZ)(u:cK):Prop:=∀(a:ZN)(k:ZP->Prop),u a k->∀(R:al)(W:TD->Prop)(B H:al)(b:St)(Q:ZQ->al->Prop),aL K R W B H b a->
 (∀d e c f,k d->aL K R W c f b a->bx R B c->b_ K c e d->Q e f)->t b H Q
inductive kE(B:al)(σ:St)(ρ:ZN):ZQ->ZW->Prop where
 |nil:kE B σ ρ [] []
 |val{v:V}{d:D}{vs:ZQ}{as:ZW}(h:bG K B v d)(r:kE B σ ρ vs as):kE B σ ρ (v::vs) (.val d::as)
 |bag{v:V}{i:Nat}{vs:ZQ}{as:ZW}(h:σ[i]?=some (some v))(af:ρ[i]?=some .bag)(r:kE B σ ρ vs as):kE B σ ρ (v::vs) (.bag i::as)
def Ph(t:eZ)(u:iW):Prop:=∀(a:ZN)(k:ZW->Prop),u a k->∀(R:al)(W:TD->Prop)(B H:al)(b:St)(Q:ZQ->al->Prop),aL K R W B H b a->
 (∀d e c f,k d->aL K R W c f b a->bx R B c->kE K c b a e d->Q e f)->t b H Q
def Pi(R B:al):e2->al
 |.dl _ _ _ _ _=>dI R B
 |_=>B
def Bp(R B H:al)(v:V):aA->Prop
 |.no=>False
 |.val d=>bG K B v d
 |.own c=>∃a,v=.ref a/\R a=none/\B a=none/\lH K B H a c
 |.bag=>∃b,v=.ref b/\R b=none/\B b=none/\ft H b
 |.new d=>bG K (dI R B) v d
 |.pin _ _=>False
 |.deep c=>v=.ref c.adr/\H c.adr=some (.tup (c.ins.map V.ref))/\mn K (Pi R B c) H c.ins c.hQ/\(∀a∈c.ins,R a=none/\B a=none)/\c.ins.Nodup
structure sq(R:al)(W:TD->Prop)(B:al)(U:hE)(D:nh):Prop where
 nx:∀ρ σ aw H',U.nx ρ->aL K R W aw H' σ ρ->bx R B aw->D.nx σ H'
 bk:∀ρ σ aw H',U.bk ρ->aL K R W aw H' σ ρ->bx R B aw->D.bk σ H'
 ct:∀ρ σ aw H',U.ct ρ->aL K R W aw H' σ ρ->bx R B aw->D.ct σ H'
 rt:∀r v aw H',U.rt r->Wd R W aw H'->bx R B aw->Bp K R aw H' v r->D.rt v H'
def Gp(t:g1)(u:cA):Prop:=∀(U:hE)(a:ZN),u U a->∀(R:al)(W:TD->Prop)(B H:al)(b:St)(D:nh),aL K R W B H b a->sq K R W B U D->t D b H
def oy(g:fN)(u:eS):Prop:=∀(d:D)(b:ZN)(k:ZN->Prop),u d b k->∀(R:al)(W:TD->Prop)(B H:al)(c:St)(v:V)(Q:St->al->Prop),aL K R W B H c b->bG K B v d->
 (∀e f,k e->aL K R W B H f e->(∀j a,cc f e j a->cc c b j a)->Q f H)->g v c H Q
def Pj(g:nj)(u:nD):Prop:=∀(f:ZP)(b:ZN)(k:ZN->Prop),u f b k->∀(R:al)(W:TD->Prop)(B H:al)(c:St)(h:ZQ)(Q:St->al->Prop),aL K R W B H c b->b_ K B h f->
 (∀d e,k d->aL K R W B H e d->(∀j a,cc e d j a->cc c b j a)->Q e H)->g h c H Q
def kF(B:al)(J:hx)(a:ZP):Prop:=∀(H:al),ci B H->∀i,(i<a.length->J.go i H)/\(a.length<=i->J.stop i H)/\∀x b,i<a.length->J.kN i H x b->b=H/\∃d,a[i]?=some d/\bG K B x d
def sr(t:gQ)(u:cK):Prop:=∀(a:ZN)(k:ZP->Prop),u a k->∀(R:al)(W:TD->Prop)(B H:al)(b:St)(Q:hx->al->Prop),aL K R W B H b a->
 (∀d J c e,k d->aL K R W c e b a->bx R B c->kF K c J d->Q J e)->t b H Q
end
theorem qT{R b B:al}(w:∀a,b a=none->R a=none):ci (dI b B) (dI R B):=λa o h=>by
 have c:=iw a o h;unfold dI at h⊢;rw[c]at h⊢;cases o with
 |lst d=>
  dsimp only at h⊢;split at h
  ·rename_i z
   rw[SZ (by rw[VT]at z⊢;exact w a z)]
  cases h
 |_=>rfl
theorem t9{R B:al}{a:TD}{b:ZQ}(h:B a=some (.lst b))(n:R a=none):dI R B a=some (.lst b):=by
 unfold dI;rw[h];dsimp only;rw[SZ (by rw[n];rfl)]
theorem Bq{R B:al}{a:TD}{b:ZQ}(h:dI R B a=some (.lst b)):B a=some (.lst b)/\R a=none:=by
 have c:=iw a _ h;refine⟨c,?_⟩;unfold dI at h;rw[c]at h;dsimp only at h;split at h
 ·rename_i z;rwa[VT]at z
 cases h
theorem sq.grow{K:Su}{R:al}{W:TD->Prop}{B c:al}{U:hE}{D:nh}(s:sq K R W B U D)(g:bx R B c):sq K R W c U D:=
 ⟨λa b C H h e q=>s.nx a b C H h e (g.trans q),λa b C H h e q=>s.bk a b C H h e (g.trans q),λa b C H h e q=>s.ct a b C H h e (g.trans q),λr v C H h e q z=>s.rt r v C H h e (g.trans q) z⟩
section
variable(X:aU)
def bt(e:Wp)(u:bb):Prop:=∃t,bP X e t/\fu X.K t u
def j6(e:Wp)(u:cK):Prop:=∃t,bP X e t/\Bo X.K t u
def hU(e:Wp)(u:dz):Prop:=∃t,j1 X e t/\ib X.K t u
def qU(e:Wp)(u:dz):Prop:=∃t,n' X e t/\ib X.K t u
def pD(a:Z0)(u:cK):Prop:=∃t,hf X a t/\wM X.K t u
def mo(a:Z0)(u:iW):Prop:=∃t,hf X a t/\Ph X.K t u
def eT(s:XF)(u:cA):Prop:=∃t,jz X s t/\Gp X.K t u
def hF(s:Z1)(u:cA):Prop:=∃t,i9 X s t/\Gp X.K t u
def j7(e:Wp)(u:eS):Prop:=∃t,i' X e t/\oy X.K t u
def ua(e:Z0)(u:nD):Prop:=∃t,r8 X e t/\Pj X.K t u
def mq(a e:Wp)(u:cK):Prop:=∃t,iR X a e t/\sr X.K t u
end
def jF(i:Nat):bb:=λa k=>∃d,a[i]?=some (.val d)/\k d
def iX(d:D):bb:=λ_ k=>k d
def wN(C:Int->Int->Prop)(g:Int->Int->D)(b c:bb):bb:=λa k=>b a λx=>c a λy=>∃i j,x=.int i/\y=.int j/\C i j/\k (g i j)
def ub(g:Int->Int->D)(b c:bb):bb:=λa k=>b a λx=>c a λy=>∃i j,x=.int i/\y=.int j/\k (g i j)
def Gr(a:bb):bb:=λb k=>a b λx=>∃i,x=.int i/\k (.int (-i))
section
variable{K:Su}{X:aU}
theorem Pk(i:Nat):fu K (AH i) (jF i):=by
 intro b k h R W B H c Q e q;obtain⟨d,h,z⟩:=h;obtain⟨v,a,r⟩:=e.val h;exact⟨v,a,q d v B H z e (bx.refl _ _) r⟩
theorem Br{v:V}{d:D}(h:∀B,bG K B v d):fu K (qE v) (iX d):=λa k z R W B H b Q e q=>q d v B H z e (bx.refl _ _) (h B)
theorem ss{g i:bI}{n o:bb}{r:iS}{f:D->D->(D->Prop)->Prop}(m:fu K g n)(p:fu K i o)(t:∀(x y:D)(k:D->Prop),f x y k->∀(R:al)(W:TD->Prop)(B H:al)(b:St)(a:ZN)(v w:V)(Q:cn),aL K R W B H b a->bG K B v x->bG K B w y->(∀d v c j,k d->aL K R W c j b a->bx R B c->bG K c v d->Q v j)->r v w H Q):
  fu K (ol r g i) (λa k=>n a λx=>o a λy=>f x y k):=by
 intro a k h R W B H b Q e q;refine m a _ h R W B H b _ e λx v z A C E F G=>?_;refine p a _ C R W z A b _ E λy w I J L M l N=>?_;exact t x y k L R W I J b a v w Q M (G.mono l.s) N λd u O P S T g3 U=>q d u O P S T ((F.trans l).trans g3) U
theorem Pl{g:bI}{n:bb}{r:V->al->cn->Prop}{f:D->(D->Prop)->Prop}(j:fu K g n)(l:∀(x:D)(k:D->Prop),f x k->∀(R:al)(W:TD->Prop)(B H:al)(b:St)(a:ZN)(v:V)(Q:cn),aL K R W B H b a->bG K B v x->(∀d v c i,k d->aL K R W c i b a->bx R B c->bG K c v d->Q v i)->r v H Q):
  fu K (AQ r g) (λa k=>n a λx=>f x k):=by
 intro a k h R W B H b Q e q;refine j a _ h R W B H b _ e λx v m o p s t w=>?_;exact l x k p R W m o b a v Q s w λd u y z A C g3 E=>q d u y z A C (t.trans g3) E
theorem bG.et{B:al}{v:V}{i:Int}(r:bG K B v (.int i)):v=.int i:=by cases r;rfl
theorem bG.j9{B:al}{v:V}{b:Bool}(r:bG K B v (.bl b)):v=.bl b:=by cases r;rfl
theorem bG.l8{B:al}{v:V}(r:bG K B v .non):v=.non:=by cases r;rfl
theorem bG.eV{B:al}{v:V}{b:ZP}(r:bG K B v (.tup b)):∃a c,v=.ref a/\B a=some (.tup c)/\b_ K B c b:=by
 cases r with|tup h r=>exact⟨_,_,rfl,h,r⟩
theorem bG.eO{B:al}{v:V}{b:ZP}(r:bG K B v (.lst b)):∃a c,v=.ref a/\B a=some (.lst c)/\b_ K B c b:=by
 cases r with|lst h r=>exact⟨_,_,rfl,h,r⟩
theorem bG.lg{B:al}{v:V}{b:ZM}(r:bG K B v (.scr b)):∃a,v=.ref a/\cE K B a (b.map V.int):=by
 cases r with|scr h=>exact⟨_,rfl,h⟩
theorem Bs{C:Int->Int->Prop}{f:Int->Int->V}{g:Int->Int->D}{a b:bI}{n o:bb}(c:∀B i j,bG K B (f i j) (g i j))(d:fu K a n)(l:fu K b o):fu K (ol (sd C f) a b) (wN C g n o):=
 ss d l λx y k h R W B H t u v w Q e m p q=>by
  obtain⟨i,j,rfl,rfl,r,s⟩:=h;exact⟨i,j,m.et,p.et,r,q _ _ B H s e (bx.refl _ _) (c B i j)⟩
theorem wO{f:Int->Int->V}{g:Int->Int->D}{a b:bI}{n o:bb}(c:∀B i j,bG K B (f i j) (g i j))(d:fu K a n)(l:fu K b o):fu K (ol (lF f) a b) (ub g n o):=
 ss d l λx y k h R W B H s t v w Q e m p q=>by
  obtain⟨i,j,rfl,rfl,r⟩:=h;exact⟨i,j,m.et,p.et,q _ _ B H r e (bx.refl _ _) (c B i j)⟩
theorem Pm{a:bI}{n:bb}(b:fu K a n):fu K (AQ (AR λi=>.int (-i)) a) (Gr n):=
 Pl (f:=λx k=>∃i,x=.int i/\k (.int (-i))) b λx k h R W B H g j v Q e c q=>by
  obtain⟨i,rfl,d⟩:=h;exact⟨i,c.et,q _ _ B H d e (bx.refl _ _) (.int _)⟩
variable{a b:Wp}{n o:bb}{l:Pos}
theorem ah(i:Nat){x:Str}{l:Pos}(a:gZ X i x:=by rfl)(b:gy X.env.scope x:=by walk_at"v")(c:ea x:=by decide)(d:gY x:=by decide):bt X (.Name x l) (jF i):=⟨_,hg a b c d,Pk i⟩
theorem bo{i j l}:bt X (.Constant (.int i) j l) (iX (.int i)):=⟨_,fA,Br λ_=>.int _⟩
theorem ix{b j l}:bt X (.Constant (.bool b) j l) (iX (.bl b)):=⟨_,M7,Br λ_=>.bl _⟩
theorem qV{x j l}:bt X (.Constant (.str x) j l) (iX (.str x)):=⟨_,M8,Br λ_=>.str _⟩
theorem fZ(c:bt X a n)(d:bt X b o):bt X (.BinOp a .Add b l) (ub (λi j=>.int (i+j)) n o):=by
 obtain⟨_,e,f⟩:=c;obtain⟨_,g,h⟩:=d;exact⟨_,gj wo e g,wO (λ_ _ _=>.int _) f h⟩
theorem g6(c:bt X a n)(d:bt X b o):bt X (.BinOp a .Sub b l) (ub (λi j=>.int (i-j)) n o):=by
 obtain⟨_,e,f⟩:=c;obtain⟨_,g,h⟩:=d;exact⟨_,gj N5 e g,wO (λ_ _ _=>.int _) f h⟩
theorem cB(c:bt X a n)(d:bt X b o):bt X (.BinOp a .Mult b l) (wN Bd (λi j=>.int (i*j)) n o):=by
 obtain⟨_,e,f⟩:=c;obtain⟨_,g,h⟩:=d;exact⟨_,gj t4 e g,Bs (λ_ _ _=>.int _) f h⟩
theorem fD(c:bt X a n)(d:bt X b o):bt X (.BinOp a .FloorDiv b l) (wN wF (λi j=>.int (i.fdiv j)) n o):=by
 obtain⟨_,e,f⟩:=c;obtain⟨_,g,h⟩:=d;exact⟨_,gj wG e g,Bs (λ_ _ _=>.int _) f h⟩
theorem wP(c:bt X a n)(d:bt X b o):bt X (.BinOp a .Mod b l) (wN (λ_ j=>0<j) (λi j=>.int (i%j)) n o):=by
 obtain⟨_,e,f⟩:=c;obtain⟨_,g,h⟩:=d;exact⟨_,gj om e g,Bs (λ_ _ _=>.int _) f h⟩
theorem pE(b:bt X a n):bt X (.UnaryOp .USub a l) (Gr n):=by
 obtain⟨_,c,d⟩:=b;exact⟨_,N4 N7 c,Pm d⟩
def Gs(c:CmpOp)(f:Int->Int->Bool)(X:aU):Prop:=g4 X (XU c) (lF λi j=>.bl (f i j))
theorem lJ{c:CmpOp}{f:Int->Int->Bool}(d:Gs c f X)(e:bt X a n)(g:bt X b o)(h:XJ c b=false):bt X (.Compare a [c] [b] l) (ub (λi j=>.bl (f i j)) n o):=by
 obtain⟨_,k,m⟩:=e;obtain⟨_,p,q⟩:=g;exact⟨_,AU d k p h,wO (λ_ _ _=>.bl _) m q⟩
def jd(n:bb):dz:=λd k=>n d λx=>∃c,x=.bl c/\k c
def Gu(u:dz):dz:=λd k=>u d λc=>k (!c)
def Gv(u w:dz):dz:=λd k=>u d λc=>if c=true then w d k else k false
def Gw(u w:dz):dz:=λd k=>u d λc=>if c=true then k true else w d k
theorem uc{a:bI}{n:bb}(b:fu K a n):ib K (tQ a) (jd n):=by
 intro d k h R W B H f Q e q;refine b d _ h R W B H f _ e λx v g i j l m o=>?_;obtain⟨c,rfl,p⟩:=j;exact⟨c,o.j9,q c g i p l m⟩
theorem fl{e:Wp}{u:bb}(h:bt X e u)(a:∀whole,Zh e X.env whole=(do let v <-whole;YU e.pos;Yz [v] (ZE v)):=by intro _;rfl):hU X e (jd u):=by
 obtain⟨_,b,c⟩:=h;exact⟨_,M' b a,uc c⟩
theorem g7{c:CmpOp}{f:Int->Int->Bool}(d:Gs c f X)(e:bt X a n)(g:bt X b o)(h:XJ c b=false):hU X (.Compare a [c] [b] l) (jd (ub (λi j=>.bl (f i j)) n o)):=by
 obtain⟨_,k,m⟩:=e;obtain⟨_,p,q⟩:=g;exact⟨_,qJ d k p h,uc (wO (λ_ _ _=>.bl _) m q)⟩
theorem Pn{t:eh}{u:dz}(h:ib K t u):ib K (Fv t) (Gu u):=λa k z R W B H c Q e q=>h a _ z R W B H c _ e λb d f g i j=>q (!b) d f g i j
theorem Po{t d:eh}{u f:dz}(h:ib K t u)(o:ib K d f):ib K (Ft t d) (Gv u f):=by
 intro g k z R W B H i Q e q;refine h g _ z R W B H i _ e λb j l a m n=>?_;cases b with
 |true=>
  rw[SZ rfl]at a⊢;exact o g _ a R W j l i _ m λc p r s v w=>q c p r s v (n.trans w)
 |false=>
  rw[Tl SW]at a⊢;exact q false j l a m n
theorem Pq{t d:eh}{u f:dz}(h:ib K t u)(o:ib K d f):ib K (Fu t d) (Gw u f):=by
 intro g k z R W B H i Q e q;refine h g _ z R W B H i _ e λb j l a m n=>?_;cases b with
 |false=>
  rw[Tl SW]at a⊢;exact o g _ a R W j l i _ m λc p r s v w=>q c p r s v (n.trans w)
 |true=>
  rw[SZ rfl]at a⊢;exact q true j l a m n
theorem hn{u:dz}(h:hU X a u):hU X (.UnaryOp .Not a l) (Gu u):=by
 obtain⟨_,b,c⟩:=h;exact⟨_,Nf b,Pn c⟩
theorem Gx{u:dz}(h:hU X a u):qU X (.BoolOp .And [a] l) u:=by
 obtain⟨_,b,c⟩:=h;exact⟨_,Na b,c⟩
theorem mr{u:dz}(h:hU X a u):qU X (.BoolOp .Or [a] l) u:=by
 obtain⟨_,b,c⟩:=h;exact⟨_,Nb b,c⟩
theorem kO{c:Z0}{u d:dz}(h:hU X a u)(e:qU X (.BoolOp .And (b::c) l) d):qU X (.BoolOp .And (a::b::c) l) (Gv u d):=by
 obtain⟨_,f,g⟩:=h;obtain⟨_,i,j⟩:=e;exact⟨_,Nc f i,Po g j⟩
theorem eN{c:Z0}{u d:dz}(h:hU X a u)(e:qU X (.BoolOp .Or (b::c) l) d):qU X (.BoolOp .Or (a::b::c) l) (Gw u d):=by
 obtain⟨_,f,g⟩:=h;obtain⟨_,i,j⟩:=e;exact⟨_,Nd f i,Pq g j⟩
theorem k3{u:dz}(h:qU X a u):hU X a u:=by
 obtain⟨_,b,c⟩:=h;exact⟨_,b.pt,c⟩
def Pr(u w:bb):bb:=λd k=>u d λx=>∃c,x=.bl c/\if c=true then w d k else k (.bl false)
def Ps(u:bb):bb:=λd k=>u d λx=>∃c,x=.bl c/\k (.bl (!c))
theorem su{b:BoolOp}(h:bt X a n):bt X (.BoolOp b [a] l) n:=by
 obtain⟨_,c,d⟩:=h;exact⟨_,Ni c,d⟩
theorem pF{f:Z0}(h:bt X a n)(u:bt X (.BoolOp .And (b::f) l) o):bt X (.BoolOp .And (a::b::f) l) (Pr n o):=by
 obtain⟨_,y,A⟩:=h;obtain⟨_,i,C⟩:=u;refine⟨_,Nj y i,λj k z R W B H m Q e q=>?_⟩;refine A j _ z R W B H m _ e λx v p r g s t E=>?_;obtain⟨c,rfl,g⟩:=g;refine⟨c,E.j9,?_⟩;cases c with
 |true=>
  rw[SZ rfl]at g⊢;exact C j _ g R W p r m _ s λd w F G i I J K=>q d w F G i I (t.trans J) K
 |false=>
  rw[Tl SW]at g⊢;exact q _ _ p r g s t (.bl _)
theorem Pt(h:bt X a n):bt X (.UnaryOp .Not a l) (Ps n):=by
 obtain⟨_,d,f⟩:=h;refine⟨_,Nk d,λg k z R W B H i Q e q=>?_⟩;refine f g _ z R W B H i _ e λx v j m b o p r=>?_;obtain⟨c,rfl,b⟩:=b;exact⟨c,r.j9,q _ _ j m b o p (.bl _)⟩
def Pu(c:dz)(u w:bb):bb:=λd k=>c d λb=>if b=true then u d k else w d k
theorem ms{c:Wp}{t:dz}(A:hU X c t)(C:bt X a n)(E:bt X b o):bt X (.IfExp c a b l) (Pu t n o):=by
 obtain⟨_,F,G⟩:=A;obtain⟨_,I,J⟩:=C;obtain⟨_,f,K⟩:=E;refine⟨_,Nm F I f,λh k z R W B H i Q e q=>?_⟩;refine G h _ z R W B H i _ e λc u v g x y=>?_;cases c with
 |true=>
  rw[SZ rfl]at g⊢;exact J h _ g R W u v i _ x λd w j m f p r s=>q d w j m f p (y.trans r) s
 |false=>
  rw[Tl SW]at g⊢;exact K h _ g R W u v i _ x λd w j m f p r s=>q d w j m f p (y.trans r) s
def sv:cK:=λ_ k=>k []
def mv(u:bb)(w:cK):cK:=λc k=>u c λd=>w c λe=>k (d::e)
variable{e:Wp}{A:Z0}{u:bb}{w:cK}
theorem Pv:wM K ws sv:=λa k h R W B H b Q e q=>q [] [] B H h e (bx.refl _ _) .nil
theorem Pw{a:bI}{t:eZ}(g:fu K a u)(i:wM K t w):wM K (wt a t) (mv u w):=by
 intro b k h R W B H c Q e q;refine g b _ h R W B H c _ e λd v j l m n o p=>?_;refine i b _ m R W j l c _ n λC E r x y z f A=>?_;exact q _ _ r x y z (o.trans f) (.cons (p.mono f.s) A)
theorem b0:pD X [] sv:=⟨_,e1,Pv⟩
theorem a2(a:bt X e u)(b:pD X A w)(c:eD X e A:=by rfl):pD X (e::A) (mv u w):=by
 obtain⟨_,d,f⟩:=a;obtain⟨_,g,h⟩:=b;exact⟨_,d2 d g c,Pw f h⟩
def ud(w:cK):bb:=λd k=>w d λc=>c.length<=TI/\k (.tup c)
theorem dV{g}(h:pD X A w):bt X (.Tuple A g l) (ud w):=by
 obtain⟨_,i,j⟩:=h;refine⟨_,wu i,λm k z R W B H n Q e q=>?_⟩;refine j m _ z R W B H n _ e λt o u v a b r c=>?_;refine⟨by rw[c.length];exact a.1,λp d=>?_⟩;have f:=b.grow d (.tup o);exact q _ _ _ _ a.2 (b.alloc d _) (r.trans f) (.tup dx (c.mono f.s))
def Px(w:cK):cK:=λd k=>w d λc=>c.length<=TI/\k c
theorem fG(h:pD X A w):j6 X (.List A l) (Px w):=by
 obtain⟨_,f,g⟩:=h;refine⟨_,tX f,λj k z R W B H n Q e q=>?_⟩;refine g j _ z R W B H n _ e λo r s x c a t d=>?_;refine⟨by rw[d.length];exact c.1,λp b=>?_⟩;obtain⟨u,y,v⟩:=a.toWd.fresh b;exact q o p r s _ c.2 (a.ey b _) t u v dx d λi m=>a.eK b m rfl
def Gy(w:cK):bb:=λc k=>w c λd=>k (.lst d)
theorem Py{t:bI}(h:Bo K t w):fu K t (Gy w):=by
 intro c k z R W B H d Q e q;refine h c _ z R W B H d _ e λr a u v x f g i j l m n o=>?_;obtain⟨p,b⟩:=g.freeze m j l o;exact q _ _ _ _ f p (i.trans b) (.lst dx (n.mono b.s))
theorem dA(h:j6 X e w):bt X e (Gy w):=by
 obtain⟨_,a,b⟩:=h;exact⟨_,a,Py b⟩
def Bt(n o:bb):bb:=λf k=>n f λx=>o f λy=>∃c i d,(x=.tup c\/x=.lst c)/\y=.int i/\eF c i=some d/\k d
theorem ue{B:al}{b:ZQ}{a:ZP}{i:Int}{d:D}(r:b_ K B b a)(h:eF a i=some d):∃v,eF b i=some v/\bG K B v d:=by
 unfold eF at h⊢;rw[r.length];cases q:ju a.length i with
 |none=>rw[q]at h;cases h
 |some j=>
  rw[q]at h;exact r.get h
theorem ho(c:bt X a n)(w:bt X b o)(A:sg b):bt X (.Subscript a b l) (Bt n o):=by
 obtain⟨_,C,E⟩:=c;obtain⟨_,F,G⟩:=w;refine⟨_,lG pA C F A,ss E G λx y k h R W B H J K v L Q e s t q=>?_⟩;obtain⟨M,i,d,I,rfl,c,u⟩:=h;rcases I with rfl|rfl
 ·obtain⟨p,f,rfl,g,j⟩:=s.eV;obtain⟨z,m,r⟩:=ue j c;exact⟨p,f,i,z,rfl,t.et,.inl (e.bh _ _ g),m,q d z B H u e (bx.refl _ _) r⟩
 obtain⟨p,f,rfl,g,j⟩:=s.eO;obtain⟨z,m,r⟩:=ue j c;exact⟨p,f,i,z,rfl,t.et,.inr (e.bh _ _ g),m,q d z B H u e (bx.refl _ _) r⟩
end
abbrev b7:=ZN->(aA->Prop)->Prop
def kH:ZN->Nat
 |[]=>0
 |.bag::r=>kH r+1
 |_::r=>kH r
inductive j8(K:Su)(W:TD->Prop)(B:al):ZQ->ZN->Prop where
 |nil:j8 K W B [] []
 |val{v:V}{d:D}{vs:ZQ}{as:ZN}(h:bG K B v d)(r:j8 K W B vs as):j8 K W B (v::vs) (.val d::as)
 |bag{b:TD}{vs:ZQ}{as:ZN}(h:W b)(r:j8 K W B vs as):j8 K W B (.ref b::vs) (.bag::as)
structure Pz(K:Su)(W:TD->Prop)(B H:al)(v:V)(r:aA)(aw H':al):Prop where
 wd:Wd H W aw H'
 g:bx H B aw
 res:Bp K H aw H' v r
def cj(K:Su)(n:Nat)(F:b7):iU:=λd H Q _=>∃(W:TD->Prop)(B:al)(b:ZN)(k:aA->Prop),F b k/\b.length=n/\Nat.ble (kH b) 1=true/\ci B H/\(∀a,W a->B a=none/\ft H a)/\j8 K W B d b /\
 ∀r v e c,k r->Pz K W B H v r e c->Q v c
section
variable{K:Su}{R:al}{W:TD->Prop}{B l H p:al}{C:St}{G:ZN}
theorem j8.length:∀{a:ZQ}{b:ZN},j8 K W B a b->a.length=b.length
 |_,_,.nil=>rfl
 |_,_,.val _ r=>by rw[SK,SK,r.length]
 |_,_,.bag _ r=>by rw[SK,SK,r.length]
theorem j8.get:∀{a:ZQ}{c:ZN},j8 K W B a c->∀(i:Nat)(k:aA),c[i]?=some k->(∃v d,a[i]?=some v/\k=.val d/\bG K B v d)\/(∃b,a[i]?=some (.ref b)/\k=.bag/\W b)
 |_,_,.nil,i,k,e=>by simp at e
 |_,_,.val h r,0,k,e=>by simp at e;subst e;exact .inl ⟨_,_,rfl,rfl,h⟩
 |_,_,.val h r,i+1,k,e=>by simpa using r.get i k (by simpa using e)
 |_,_,.bag h r,0,k,e=>by simp at e;subst e;exact .inr ⟨_,rfl,rfl,h⟩
 |_,_,.bag h r,i+1,k,e=>by simpa using r.get i k (by simpa using e)
theorem pG:∀{as:ZN}{i:Nat},kH as=0->as[i]?≠some .bag
 |[],i,_=>by simp
 |.bag::r,i,h=>by simp[kH]at h
 |.no::r,0,h=>by simp
 |.no::r,i+1,h=>by simpa using pG (as:=r) (i:=i) h
 |.val d::r,0,h=>by simp
 |.val d::r,i+1,h=>by simpa using pG (as:=r) (i:=i) h
 |.new d::r,0,h=>by simp
 |.new d::r,i+1,h=>by simpa using pG (as:=r) (i:=i) h
 |.pin v d::r,0,h=>by simp
 |.pin v d::r,i+1,h=>by simpa using pG (as:=r) (i:=i) h
 |.own d::r,0,h=>by simp
 |.own d::r,i+1,h=>by simpa using pG (as:=r) (i:=i) h
 |.deep d::r,0,h=>by simp
 |.deep d::r,i+1,h=>by simpa using pG (as:=r) (i:=i) h
theorem pH:∀{as:ZN}{i j:Nat},kH as<=1->as[i]?=some .bag->as[j]?=some .bag->i=j
 |[],i,j,_,e,_=>by simp at e
 |.bag::r,0,0,_,_,_=>rfl
 |.bag::r,0,j+1,h,_,e=>absurd (by simpa using e) (pG (as:=r) (i:=j) (by simp[kH]at h;exact h))
 |.bag::r,i+1,_,h,e,_=>absurd (by simpa using e) (pG (as:=r) (i:=i) (by simp[kH]at h;exact h))
 |.no::r,0,_,_,e,_=>by simp at e
 |.no::r,i+1,0,_,_,e=>by simp at e
 |.no::r,i+1,j+1,h,e,a=>by rw[pH (as:=r) (i:=i) (j:=j) h (by simpa using e) (by simpa using a)]
 |.val d::r,0,_,_,e,_=>by simp at e
 |.val d::r,i+1,0,_,_,e=>by simp at e
 |.val d::r,i+1,j+1,h,e,a=>by rw[pH (as:=r) (i:=i) (j:=j) h (by simpa using e) (by simpa using a)]
 |.new d::r,0,_,_,e,_=>by simp at e
 |.new d::r,i+1,0,_,_,e=>by simp at e
 |.new d::r,i+1,j+1,h,e,a=>by rw[pH (as:=r) (i:=i) (j:=j) h (by simpa using e) (by simpa using a)]
 |.pin v d::r,0,_,_,e,_=>by simp at e
 |.pin v d::r,i+1,0,_,_,e=>by simp at e
 |.pin v d::r,i+1,j+1,h,e,a=>by rw[pH (as:=r) (i:=i) (j:=j) h (by simpa using e) (by simpa using a)]
 |.own d::r,0,_,_,e,_=>by simp at e
 |.own d::r,i+1,0,_,_,e=>by simp at e
 |.own d::r,i+1,j+1,h,e,a=>by rw[pH (as:=r) (i:=i) (j:=j) h (by simpa using e) (by simpa using a)]
 |.deep d::r,0,_,_,e,_=>by simp at e
 |.deep d::r,i+1,0,_,_,e=>by simp at e
 |.deep d::r,i+1,j+1,h,e,a=>by rw[pH (as:=r) (i:=i) (j:=j) h (by simpa using e) (by simpa using a)]
theorem aL.after{k:TD->Prop}(e:aL K R W B H C G)(A:∀a,k a->∃i:Nat,C[i]?=some (some (.ref a))/\G[i]?=some .bag)(r:Wd H k l p)(g:bx H B l):aL K R W l p C G/\bx R B l:=by
 have E:∀a,B a=none->H a≠none->l a=none:=λa c v=>by
  cases q:l a with
  |none=>rfl
  |some o=>
   rcases g.n a o q with z|z
   ·rw[c]at z;cases z
   exact absurd z v
 have st:∀a,¬k a->H a≠none->p a=H a:=λa c v=>by
  cases q:H a with
  |none=>exact absurd q v
  |some o=>exact r.fr a o q c
 have F:∀a,ft H a->ft p a:=λa h=>by
  by_cases z:k a
  ·exact r.wh a z
  obtain⟨x,y,t,q⟩:=h;exact⟨x,y,by rw[st a z (by rw[t];simp)];exact t,q⟩
 have J:∀a,ft H a->H a≠none:=λa ⟨x,y,t,_⟩=>by rw[t];simp
 refine⟨e.move ⟨λa o h I=>?_,r.bh,λa h=>E a (e.wb a h) (J a (e.wh a h)),λa h=>F a (e.wh a h),e.wr⟩ g.s (λi a m=>⟨E a (e.en m).1 (e.en m).2,λz=>?_,λz=>?_⟩),⟨g.s,λa o h=>?_⟩⟩
 ·have c:=e.fr a o h I;refine r.fr a o c λz=>?_;obtain⟨i,w,u⟩:=A a z;obtain⟨b,d,f,_⟩:=e.eo u;rw[w]at d;cases d;rcases f with f|f
  ·exact I f
  rw[f]at h;cases h
 ·obtain⟨b,d,_,_,L⟩:=e.eo z;rw[nC m z]at d;cases d;exact F _ L
 ·refine st a (λq=>?_) (e.en m).2;obtain⟨j,w,u⟩:=A a q;have:=e.sep i j a m (.inl ⟨w,.inl u⟩);subst this;exact z u
 rcases g.n a o h with z|z
 ·exact .inl z
 exact .inr (e.toWd.fresh z).1
theorem aL.start{N:ZX}{f:ZQ}{e:ZN}(o:kH e<=1)(p:ci B H)(g:∀a,W a->B a=none/\ft H a)(l:j8 K W B f e):aL K H W B H (L3.fi N f) (e++SR (N.length-e.length) .no):=by
 have s:=l.length;have t:Wd H W B H:=⟨λ_ _ h _=>h,p,λa h=>(g a h).1,λa h=>(g a h).2,λa h=>by obtain⟨x,y,q,_⟩:=(g a h).2;rw[q];simp⟩
 have lo:∀i k,e[i]?=some k->(L3.fi N f)[i]?=(f[i]?).map some:=λi k h=>by
  have lt:i<e.length:=by
   by_cases z:i<e.length
   ·exact z
   rw[Td (by lia)]at h;cases h
  unfold L3.fi;rw[TH (by rw[Sv];lia),SP]
 have cs:∀(i:Nat)(k:aA),(e++SR (N.length-e.length) aA.no)[i]?=some k->e[i]?=some k\/k=aA.no:=λi k h=>by
  by_cases z:i<e.length
  ·rw[TH z]at h;exact .inl h
  rw[To (by lia)]at h;rw[Uh]at h;split at h
  ·exact .inr (SN h).symm
  cases h
 have u:∀i:Nat,(e++SR (N.length-e.length) aA.no)[i]?=some aA.bag->e[i]?=some aA.bag:=λi h=>by
  rcases cs i _ h with h|h
  ·exact h
  cases h
 refine⟨t,by unfold L3.fi;simp[s],λi k h=>?_,λi j a w A=>?_⟩
 ·rcases cs i k h with h|rfl
  ·rw[lo i k h];rcases l.get i k h with⟨v,d,n,rfl,r⟩|⟨b,n,rfl,r⟩
   ·rw[n];exact⟨v,rfl,r⟩
   rw[n];exact⟨b,rfl,.inl r,(g b r).1,(g b r).2⟩
  trivial
 have one:∀i,cc (L3.fi N f) (e++SR (N.length-e.length) aA.no) i a->e[i]?=some .bag:=λi m=>by
  rcases m with⟨_,z|⟨C,z⟩⟩|⟨c,z,_⟩
  ·exact u i z
  ·rcases cs i _ z with z|z
   ·rcases l.get i _ z with⟨v,d,_,q,_⟩|⟨b,_,q,_⟩<;>cases q
   cases z
  rcases cs i _ z with z|z
  ·rcases l.get i _ z with⟨v,d,_,q,_⟩|⟨b,_,q,_⟩<;>cases q
  cases z
 exact pH o (one i w) (one j A)
theorem dq{P:WP}{w:XB}{m:Str->Option SL}{c:XG}{x:Str}{st:XF}{N i:ZX}{y n:Nat}{F:b7}(M:cH K m x st i)(S:cy N i (bL st))(O:i.length=n)(R:∀(f:TD)(b:SL)(A:XC)(a:List Tu)(s:Tk)(H:al)(E:g0),ew y (A.deeper (U4 x (bL st) s.heap.objs.size f b))->∃u,hF (k0 j4 P w K m c N x (bL st) f b A a s H E).jn (j3 st) u/\∀d k,d.length=n->F d k->u {nx:=λ_=>k (.val .non),rt:=k} (d++SR (N.length-n) .no)):b6 P w K m c x i (y+1) (cj K n F):=by
 refine M.ok S (λJ H Q E h=>?_) (λf b A a s H J Q E T h=>?_)
 ·obtain⟨W,B,d,k,_,j,_,_,_,o,_⟩:=h;rw[o.length,j,O]
 obtain⟨W,B,d,k,U,j,X,Y,Z,o,q⟩:=h;obtain⟨u,⟨t,h1,I⟩,aa⟩:=R f b A a s H E T;have L:=aL.start (N:=N) (Vh X) Y Z o;rw[j]at L;refine⟨t,h1,I _ _ (aa d k j U) H W B H (L3.fi N J) _ L ⟨λG C l p h e g=>?_,λ_ _ _ _ h=>h.elim,λ_ _ _ _ h=>h.elim,λr v l p h e g z=>q r v l p h ⟨e,g,z⟩⟩⟩;exact q _ _ l p h ⟨e.toWd,g,.non⟩
end
def gn.sl:gn->aA
 |.val d=>.val d
 |.bag _=>.bag
@[reducible] def lK:aA->(D->Prop)->Prop
 |.val d,k=>k d
 |.own (.l a),k=>k (.lst a)
 |.new d,k=>k d
 |_,_=>False
def Bv:iW:=λ_ k=>k []
def Bw(u:bb)(w:iW):iW:=λa k=>u a λd=>w a λb=>k (.val d::b)
def PA(i:Nat)(w:iW):iW:=λa k=>a[i]?=some .bag/\w a λb=>k (.bag i::b)
def sh(a:ZW)(n:Nat):Bool:=Nat.beq a.length n&&Nat.ble (kH (a.map gn.sl)) 1
def Bx(n:Nat)(F:b7)(w:iW):bb:=λb k=>w b λa=>sh a n=true/\F (a.map gn.sl) λr=>lK r k
def PB(n:Nat)(F:b7)(w:iW):cK:=λc k=>w c λa=>sh a n=true/\F (a.map gn.sl) λr=>∃b:ZP,r=.own b/\k b
section
variable{K:Su}{X:aU}{e:Wp}{f:Z0}{u:bb}{w:iW}{o p:Pos}{n:Nat}{F:b7}
theorem a9:mo X [] Bv:=⟨_,e1,λa k h R W B H b Q e q=>q [] [] B H h e (bx.refl _ _) .nil⟩
theorem aC(g:bt X e u)(i:mo X f w)(j:eD X e f:=by rfl):mo X (e::f) (Bw u w):=by
 obtain⟨_,l,m⟩:=g;obtain⟨_,n,o⟩:=i;refine⟨_,d2 l n j,λa k h R W B H b Q e q=>?_⟩;refine m a _ h R W B H b _ e λd v p r t x y z=>?_;refine o a _ t R W p r b _ x λI J A C E F c G=>?_;exact q _ _ A C E F (y.trans c) (.val (z.mono c.s) G)
theorem gD(i:Nat){x:Str}{a:Pos}(g:mo X f w)(j:gZ X i x:=by rfl)(l:gy X.env.scope x:=by walk_at"v")(m:ea x:=by decide)(n:gY x:=by decide)(o:UF (.Name x a::f) X.env=(false,Yp (.Name x a) X.env)::UF f X.env:=by rfl):mo X (.Name x a::f) (PA i w):=by
 obtain⟨_,p,r⟩:=g;refine⟨_,d2 (hg j l m n) p o,λs k h R W B H t Q e q=>?_⟩;obtain⟨c,h⟩:=h;obtain⟨b,d,E⟩:=e.eo c;refine⟨_,d,?_⟩;refine r s _ h R W B H t _ e λF G u v y z A C=>?_;exact q _ _ u v y z A (.bag d c C)
theorem kE.toIn{B:al}{d:St}{g:ZN}{W:TD->Prop}{R H:al}{l:TD->Prop}(e:aL K R l B H d g):∀{j:ZQ}{f:ZW},kE K B d g j f->(∀i b,gn.bag i∈f->d[i]?=some (some (.ref b))->W b)->j8 K W B j (f.map gn.sl)
 |_,_,.nil,_=>.nil
 |_,_,.val h r,a=>.val h (kE.toIn e r λi b m=>a i b (Sx _ m))
 |_,_,.bag h n r,a=>by
  obtain⟨b,k,_⟩:=e.eo n;rw[h]at k;cases k;exact .bag (a _ b Sw h) (kE.toIn e r λi c m=>a i c (Sx _ m))
theorem kE.jV{B:al}{c:St}{a:ZN}:∀{d:ZQ}{b:ZW}{i:Nat},kE K B c a d b->gn.bag i∈b->a[i]?=some .bag
 |_,_,_,.nil,m=>by simp at m
 |_,_,_,.val h r,m=>by
  rcases SH.mp m with m|m
  ·cases m
  exact r.jV m
 |_,_,_,.bag h e r,m=>by
  rcases SH.mp m with m|m
  ·cases m;exact e
  exact r.jV m
theorem qW{R:al}{W:TD->Prop}{B H:al}{c:St}{f:ZN}{o:ZQ}{as:ZW}{k:aA->Prop}{Q:cn}{E:g0}(e:aL K R W B H c f)(ok:kE K B c f o as)(j:sh as n=true)(t:F (as.map gn.sl) k)(q:∀r v d H',k r->aL K R W d H' c f->bx R B d->Bp K H d H' v r->Q v H'):cj K n F o H Q E:=by
 rw[sh,TJ]at j;have u:as.length=n:=Nat.eq_of_beq_eq_true j.1;have p:∀a,(∃i:Nat,gn.bag i∈as/\c[i]?=some (some (.ref a)))->∃i:Nat,c[i]?=some (some (.ref a))/\f[i]?=some .bag:=λa ⟨i,m,z⟩=>⟨i,z,ok.jV m⟩;refine⟨λa=>∃i:Nat,gn.bag i∈as/\c[i]?=some (some (.ref a)),B,as.map gn.sl,k,t,by rw[Sv];exact u,j.2,e.bh,λa h=>?_,ok.toIn e λi b m z=>⟨i,m,z⟩,λr v d H' w l=>?_⟩
 ·obtain⟨i,x,y⟩:=p a h;obtain⟨b,s,_,A,C⟩:=e.eo y;rw[x]at s;cases s;exact⟨A,C⟩
 obtain⟨G,I⟩:=e.after p l.wd l.g;exact q r v d H' w G I l.res
theorem PC{x:Str}{N:ZX}{j C:Nat}(c:b6 X.prog X.w X.K X.mg X.base x N j (cj X.K n F))(O:ew C X.A)(P:eu X x)(S:mo X (e::f) w)(T:j<=C:=by decide)(U:ea x:=by decide)(Y:eD X e f:=by rfl)(Z:hv X o f:=by rfl):
  bt X (.Call (.Name x p) (e::f) [] o) (Bx n F w):=by
 obtain⟨_,aa,hi⟩:=S;refine⟨_,ou c O P aa T U Y Z,λE k h R W B H G Q e q=>?_⟩;refine hi E _ h R W B H G _ e λav aw ax ay I t u ae=>?_;rw[SU];refine qW t ae I.1 I.2 λr v J L b y z g=>?_;cases r with
 |no=>exact b.elim
 |bag=>exact b.elim
 |pin v d=>exact b.elim
 |deep c=>exact b.elim
 |val d=>exact q d v J L b y (u.trans z) g
 |new d=>exact q d v J L b y (u.trans z) (bG.mono iw g)
 |own c=>
  cases c with
  |d _ _ _ _=>exact b.elim
  |l az=>
  obtain⟨a,rfl,M,af,aI,aj,ak⟩:=g
  obtain⟨hc,g3⟩:=y.freeze aj (t.toWd.fresh M).1 af λi m=>absurd M (by
   have ao:cc G E i a:=m
   exact(t.en ao).2)
  exact q _ _ _ _ b hc ((u.trans z).trans g3) (.lst dx (ak.mono g3.s))
theorem By{x:Str}{u:ZX}{j l:Nat}(c:b6 X.prog X.w X.K X.mg X.base x u j (cj X.K n F))(y:ew l X.A)(z:eu X x)(C:mo X (e::f) w)(E:j<=l:=by decide)(G:ea x:=by decide)(I:eD X e f:=by rfl)(J:hv X o f:=by rfl):
  j6 X (.Call (.Name x p) (e::f) [] o) (PB n F w):=by
 obtain⟨_,L,M⟩:=C;refine⟨_,ou c y z L E G I J,λN k h R W B H O Q e q=>?_⟩;refine M N _ h R W B H O _ e λak hc ao av s b P S=>?_;rw[SU];refine qW b S s.1 s.2 λr v T U d Y Z g=>?_;obtain⟨aa,rfl,d⟩:=d;obtain⟨a,rfl,t,hi,ae,af,aj⟩:=g;exact q aa a ae T U d Y (P.trans Z) (b.toWd.fresh t).1 hi af aj λi m=>(b.en m).2 t
end
def sw:D->Option Nat
 |.tup a=>some a.length
 |.lst a=>some a.length
 |.scr b=>some b.length
 |_=>none
def PD(u:bb):bb:=λa k=>u a λx=>∃n,sw x=some n/\k (.int n)
def PE(i:Nat):bb:=λb k=>∃a:ZP,b[i]?=some (.own a)/\k (.int a.length)
def PF(u:bb):bb:=λa k=>u a λx=>∃i,x=.int i/\k (.int (if i<0 then -i else i))
def PG(u:bb):bb:=λa k=>u a λx=>(∃i,x=.int i/\k (.int i))\/∃c,x=.bl c/\k (.int (if c then 1 else 0))
def Gz:D->Option String
 |.int _=>some "int"
 |.bl _=>some "bool"
 |.tup _=>some "tuple"
 |.lst _=>some "list"
 |.non=>some "NoneType"
 |.str _=>some "str"
 |_=>none
def PH(u:bb)(n:String):bb:=λa k=>u a λx=>∃t b,Gz x=some t/\(∀K,VG K (.type t) (.type n)=some b)/\k (.bl b)
section
variable{K:Su}{X:aU}{e:Wp}{j:Z0}{u:bb}{g p:Pos}{n:Nat}
theorem ug{g:bI}{r:ZQ->al->cn->Prop}{f:D->(D->Prop)->Prop}(j:fu K g u)(l:∀(x:D)(k:D->Prop),f x k->∀(R:al)(W:TD->Prop)(B H:al)(b:St)(a:ZN)(v:V)(Q:cn),aL K R W B H b a->bG K B v x->(∀d v c i,k d->aL K R W c i b a->bx R B c->bG K c v d->Q v i)->r [v] H Q):
  fu K (A0 r (wt g ws)) (λa k=>u a λx=>f x k):=by
 intro a k h R W B H b Q e q;refine j a _ h R W B H b _ e λx v m n o p s t=>?_;exact l x k o R W m n b a v Q p t λd u w y z A g3 C=>q d u w y z A (s.trans g3) C
theorem j'(b:bt X e u)(m:eu X "len")(o:X.mg "len"=none)(l:eD X e []:=by rfl):bt X (.Call (.Name "len" p) [e] [] g) (PD u):=by
 obtain⟨_,s,t⟩:=b;refine⟨_,pw A5 m o PySem.boot_len (d2 s e1 l) (by decide) (by decide) l,ug (f:=λx k=>∃n,sw x=some n/\k (.int n)) t λx k h R W B H w y v Q e i q=>?_⟩;obtain⟨n,d,c⟩:=h;cases x<;>first|(cases d;done)|skip
 ·obtain⟨a,j,rfl,b,r⟩:=i.eV;cases d;rw[<-r.length]at c;exact⟨a,j,rfl,.inr (e0.of (e.bh _ _ b)),q _ _ B H c e (bx.refl _ _) (.int _)⟩
 ·obtain⟨a,j,rfl,b,r⟩:=i.eO;cases d;rw[<-r.length]at c;exact⟨a,j,rfl,.inl (cE.of (e.bh _ _ b)),q _ _ B H c e (bx.refl _ _) (.int _)⟩
 obtain⟨a,rfl,b⟩:=i.lg;cases d;refine⟨a,_,rfl,.inl (e.bh.seq b),?_⟩;rw[Sv];exact q _ _ B H c e (bx.refl _ _) (.int _)
theorem PI(i:Nat){x:Str}{b:Pos}(f:eu X "len")(j:X.mg "len"=none)(l:gZ X i x:=by rfl)(m:gy X.env.scope x:=by walk_at"v")(n:ea x:=by decide)(o:gY x:=by decide)(c:UF [.Name x b] X.env=(false,Yp (.Name x b) X.env)::UF [] X.env:=by rfl):bt X (.Call (.Name "len" p) [.Name x b] [] g) (PE i):=by
 refine⟨_,pw A5 f j PySem.boot_len (d2 (hg l m n o) e1 c) (by decide) (by decide) c,λw k h R W B H y Q e q=>?_⟩;obtain⟨z,r,d⟩:=h;obtain⟨a,s,t,A,C,u,v⟩:=e.ownAt r;rw[<-v.length]at d;exact⟨_,t,a,s,rfl,.inl (cE.of u),q _ _ B H d e (bx.refl _ _) (.int _)⟩
theorem sx(b:bt X e u)(c:eu X "abs")(d:X.mg "abs"=none)(a:eD X e []:=by rfl):bt X (.Call (.Name "abs" p) [e] [] g) (PF u):=by
 obtain⟨_,j,l⟩:=b;refine⟨_,pw Ob c d (by decide +kernel) (d2 j e1 a) (by decide) (by decide) a,ug (f:=λx k=>∃i,x=.int i/\k (.int (if i<0 then -i else i))) l λx k h R W B H o r v Q e m q=>?_⟩;obtain⟨i,rfl,n⟩:=h;exact⟨i,by rw[m.et],q _ _ B H n e (bx.refl _ _) (.int _)⟩
theorem wQ(j:bt X e u)(l:eu X "int")(m:X.mg "int"=none)(b:eD X e []:=by rfl):bt X (.Call (.Name "int" p) [e] [] g) (PG u):=by
 obtain⟨_,n,o⟩:=j;refine⟨_,FU Oc l m (by decide +kernel) (d2 n e1 b) (by decide) (by decide) b,ug (f:=λx k=>(∃i,x=.int i/\k (.int i))\/∃c,x=.bl c/\k (.int (if c then 1 else 0))) o λx k h R W B H r s v Q e d q=>?_⟩;rcases h with⟨i,rfl,a⟩|⟨c,rfl,a⟩
 ·exact .inl ⟨i,by rw[d.et],q _ _ B H a e (bx.refl _ _) (.int _)⟩
 exact .inr ⟨c,by rw[d.j9],q _ _ B H a e (bx.refl _ _) (.int _)⟩
theorem PJ{B H:al}{v:V}{x:D}{t:String}(s:ci B H)(r:bG K B v x)(h:Gz x=some t):kA K H v (.type t):=by
 cases r<;>cases h
 ·exact .non
 ·exact .bl _
 ·exact .int _
 ·exact .str _
 ·exact .tup (s _ _ (by assumption))
 exact .lst (s _ _ (by assumption))
theorem lL{T:String}{y:Str}{a:Pos}(i:bt X e u)(j:eu X "isinstance")(l:X.mg "isinstance"=none)(m:bP X (.Name y a) (qE (.ty T)))(d:UF [e,.Name y a] X.env=(false,Yp e X.env)::UF [.Name y a] X.env)(n:UF [.Name y a] X.env=(false,Yp (.Name y a) X.env)::UF [] X.env)(o:(Yc g (UF [.Name y a] X.env)).any (·.1)=false):bt X (.Call (.Name "isinstance" p) [e,.Name y a] [] g) (PH u T):=by
 obtain⟨_,c,r⟩:=i;refine⟨_,pw Pa j l (by decide +kernel) (d2 c (d2 m e1 n) d) (by decide) (by decide) d o,λs k h R W B H w Q e q=>?_⟩;refine r s _ h R W B H w _ e λx v A C c f E F=>?_;obtain⟨t,b,G,I,z⟩:=c;exact⟨v,_,T,b,rfl,PJ f.bh F G,I _,q _ _ A C z f E (.bl _)⟩
end
section
variable{K:Su}{X:aU}{e:Wp}{C:Z0}{u:bb}{w:cK}{f p:Pos}
def wR:cA:=λU a=>U.nx a
def oA(s t:cA):cA:=λU a=>s {U with nx:=t U} a
def PK(u:bb):cA:=λU a=>u a λd=>U.rt (.val d)
def PL(w:cK):cA:=λU a=>w a λb=>U.rt (.own b)
def PM(i:Nat):cA:=λU b=>∃a,b[i]?=some (.own a)/\U.rt (.own a)
def Bz(i:Nat)(u:bb):cA:=λU a=>u a λd=>U.nx (a.set i (.val d))
def GA(i:Nat)(w:cK):cA:=λU a=>w a λb=>U.nx (a.set i (.own b))
def BA(c:dz)(s t:cA):cA:=λU a=>c a λb=>if b=true then s U a else t U a
def PN(i:Nat)(s:cA):cA:=λU a=>∃b:ZP,a[i]?=some (.own b)/\s U (a.set i (.val (.lst b)))
theorem fH:hF X [] wR:=⟨_,wc,λU a h R W B H b D e s=>s.nx a b B H h e (bx.refl _ _)⟩
theorem bE{st:XF}{s:cA}(h:eT X st s):hF X [st] s:=by
 obtain⟨_,a,b⟩:=h;exact⟨_,pj a,b⟩
theorem a1{st:XF}{a:Z1}{s t:cA}(h:eT X st s)(c:hF X a t):hF X (st::a) (oA s t):=by
 obtain⟨_,d,f⟩:=h;obtain⟨_,i,j⟩:=c;refine⟨_,ni d i,λU k h R W B H l D e b=>?_⟩;exact f _ k h R W B H l _ e ⟨λm n o p z q g=>j U m z R W o p n D q (b.grow g),b.bk,b.ct,b.rt⟩
theorem kI{st:Z1}{s:cA}(i:Nat)(h:hF X st s):hF X st (PN i s):=by
 obtain⟨_,a,b⟩:=h;refine⟨_,a,λU l h R W B H c D e d=>?_⟩;obtain⟨m,f,z⟩:=h;obtain⟨j,k,g⟩:=e.fz f;exact b U _ z R W j H c D k (d.grow g)
theorem GB{st:XF}:eT X st (λ_ _=>False):=⟨_,Nv,λU a h=>h.elim⟩
theorem cI(h:bt X e u):eT X (.Return (some e) f) (PK u):=by
 obtain⟨_,a,b⟩:=h;refine⟨_,me a,λU c h R W B H g D e s=>?_⟩;exact b c _ h R W B H g _ e λd v i j k l m n=>s.rt _ v i j k l.toWd m n
theorem wS(h:j6 X e w):eT X (.Return (some e) f) (PL w):=by
 obtain⟨_,b,c⟩:=h;refine⟨_,me b,λU d h R W B H g D e s=>?_⟩;exact c d _ h R W B H g _ e λi a j k l m n o p q r t u=>s.rt (.own i) _ k l m n.toWd o ⟨a,rfl,p,q,j,r,t⟩
theorem GC(i:Nat){x:Str}{b:Pos}(c:gZ X i x:=by rfl)(d:gy X.env.scope x:=by walk_at"v")(g:ea x:=by decide)(j:gY x:=by decide):eT X (.Return (some (.Name x b)) f) (PM i):=by
 refine⟨_,me (hg c d g j),λU q h R W B H r D e s=>?_⟩;obtain⟨k,l,z⟩:=h;obtain⟨a,m,n,o,p⟩:=e.fa l;exact⟨_,m,s.rt (.own k) _ B H z e.toWd (bx.refl _ _) ⟨a,rfl,n,o,p⟩⟩
theorem uh{i:Nat}{x:Str}{a:Pos}(b:X.N.Nodup)(c:X.N[i]?=some x)(g:hh X.env.scope x)(j:bt X e u)(k:XE e (some (.Name x a)) f.line X.env=pure false:=by rfl)(l:iq X x:=by walk_at"f"):
  eT X (.Assign [.Name x a] e f) (Bz i u):=by
 obtain⟨_,m,n⟩:=j;refine⟨_,qH b c g m k l,λU o h R W B H p D e s=>?_⟩;exact n o _ h R W B H p _ e λd v q r t w y z=>s.nx _ _ q r t (w.fB i z) y
theorem mx{i:Nat}{x:Str}{b:Pos}(c:X.N.Nodup)(d:X.N[i]?=some x)(g:hh X.env.scope x)(k:j6 X e w)(l:XE e (some (.Name x b)) f.line X.env=pure false:=by rfl)(m:iq X x:=by walk_at"f"):
  eT X (.Assign [.Name x b] e f) (GA i w):=by
 obtain⟨_,n,o⟩:=k;refine⟨_,qH c d g n l m,λU p h R W B H q D e s=>?_⟩;exact o p _ h R W B H q _ e λG a I r t u v y z A C E F=>s.nx _ _ r t u (v.hV i z A C E λj _=>F j) y
theorem fw{c:Wp}{a b:Z1}{j:dz}{s t:cA}(p:hU X c j)(q:hF X a s)(r:hF X b t):eT X (.If c a b f) (BA j s t):=by
 obtain⟨_,u,v⟩:=p;obtain⟨_,w,x⟩:=q;obtain⟨_,y,z⟩:=r;refine⟨_,we u w y,λU g h R W B H i D e k=>?_⟩;refine v g _ h R W B H i _ e λc l m d n o=>?_;cases c with
 |true=>
  rw[SZ rfl]at d⊢;exact x U g d R W l m i D n (k.grow o)
 |false=>
  rw[Tl SW]at d⊢;exact z U g d R W l m i D n (k.grow o)
def eU(i:Nat):eS:=λd a k=>k (a.set i (.val d))
def my:nD:=λa b k=>a=[]/\k b
def hq(g:eS)(a:nD):nD:=λb c k=>∃d r,b=d::r/\g d c λh=>a r h k
def mz(n:Nat)(b:nD):eS:=λd c k=>∃a,d=.tup a/\a.length=n/\b a c k
def PO(u:bb)(g:eS):cA:=λU a=>u a λd=>g d a U.nx
theorem ez{i:Nat}{x:Str}(b:X.N.Nodup)(c:X.N[i]?=some x)(g:hh X.env.scope x)(l:iq X x:=by walk_at"f"):j7 X (.Name x f) (eU i):=
 ⟨_,tS b c g l,λd n k h R W B H o v Q e r q=>q _ _ h (e.fB i r) λj a m=>by
  exact(so m (by simp) (by simp) rfl).2⟩
theorem fI:ua X [] my:=⟨_,Fy,λa b k h R W B H c d Q e r q=>by
 obtain⟨rfl,h⟩:=h;cases r
 exact⟨rfl,q _ _ h e λ_ _ m=>m⟩⟩
theorem cq{g:eS}{f:nD}(b:j7 X e g)(c:ua X C f)(i:(XD (e::C) X.env).map (·.2)=Y8 e X.env::(XD C X.env).map (·.2):=by rfl):ua X (e::C) (hq g f):=by
 obtain⟨_,b,l⟩:=b;obtain⟨_,c,n⟩:=c;refine⟨_,wg b c i,λJ o k h R W B H p K Q e r q=>?_⟩;obtain⟨d,s,rfl,h⟩:=h;cases r with
 |cons t u=>
  refine⟨_,_,rfl,l d o _ h R W B H p _ _ e t λv w z x y=>?_⟩;exact n s v k z R W B H w _ _ x u λA E F G I=>q A E F G λj a m=>y j a (I j a m)
theorem f0{i:Nat}{b:nD}{n:Nat}(j:X.calm=true)(h:ua X C b)(l:(XD C X.env).length=n:=by rfl)(m:(XD C X.env).findIdx? (·.1)=none:=by rfl):j7 X (.Tuple C i f) (mz n b):=by
 obtain⟨_,o,p⟩:=h;refine⟨_,Fz j o l m,λd s k h R W B H t v Q e r q=>?_⟩;obtain⟨u,rfl,w,h⟩:=h;obtain⟨a,c,rfl,x,g⟩:=r.eV;exact⟨a,c,rfl,e0.of (e.bh _ _ x),by rw[g.length];exact w,p u s k h R W B H t c Q e g q⟩
theorem je{o:Wp}{g:eS}(j:bt X e u)(k:j7 X o g)(l:X2 [o] e f.line X.env=pure false:=by rfl)(m:X3 [o] e X.env=pure none:=by rfl)(n:(XD [o] X.env).map (·.2)=[Y8 o X.env]:=by rfl):eT X (.Assign [o] e f) (PO u g):=by
 obtain⟨_,p,q⟩:=j;obtain⟨_,r,t⟩:=k;refine⟨_,r9 p r l m n,λU a h R W B H b D e s=>?_⟩;refine q a _ h R W B H b _ e λd v c i w x y z=>?_;exact t d a _ w R W c i b v _ x z λE F A C _=>s.nx _ _ c i A C y
def PP(i j:Nat)(w:cK):cA:=λU a=>w a λb=>∃x y,b=[x,y]/\U.nx ((a.set i (.val x)).set j (.val y))
theorem GD{i j:Nat}{x y:Str}{a b:Wp}{c d g:Pos}{k l m}(p:X.calm=true)(q:X.N.Nodup)(r:X.N[i]?=some x)(t:X.N[j]?=some y)(u:i≠j)(v:X.env.scope.names.lookup x=some .local)(z:X.env.scope.names.lookup y=some .local)(A:pD X [a,b] w)(C:X3 [.Tuple [.Name x c,.Name y d] k g] (.Tuple [a,b] l m) X.env=pure (some [x,y]))(E:X2 [.Tuple [.Name x c,.Name y d] k g] (.Tuple [a,b] l m) f.line X.env=pure false:=by rfl):
  eT X (.Assign [.Tuple [.Name x c,.Name y d] k g] (.Tuple [a,b] l m) f) (PP i j w):=by
 obtain⟨_,F,G⟩:=A;refine⟨_,FA p q r t u v z F C E,λU I h R W B H J D e s=>?_⟩;refine G I _ h R W B H J _ e λT Y K L n M O P=>?_;obtain⟨x,y,rfl,n⟩:=n;cases P with
 |cons Q o=>cases o with
  |cons o S=>
   cases S;exact⟨_,_,rfl,s.nx _ _ K L n ((M.fB i Q).fB j o) O⟩
def PQ(c:dz)(s:cA):cA:=λU a=>∃M:Nat->ZN->Prop,(∃m,M m a)/\∀m a,M m a->c a λb=>if b=true then s {U with nx:=λg=>∃d,d<m/\M d g,ct:=λg=>∃d,d<m/\M d g,bk:=U.nx} a else U.nx a
theorem BC{c:Wp}{k:Z1}{E:dz}{s:cA}(N:YV (UV X.prog X.w) X.A X.env X.xe)(O:hU X c E)(P:hF X k s):eT X (.While c k [] f) (PQ E s):=by
 obtain⟨_,Q,S⟩:=O;obtain⟨_,T,Y⟩:=P;refine⟨_,NI N Q T,λU Z h R W B H av D e y=>?_⟩;obtain⟨M,⟨aa,hi⟩,o⟩:=h;refine⟨λm n i=>∃d a,M m d/\aL X.K R W a i n d/\bx R B a,⟨aa,Z,B,hi,e,bx.refl _ _⟩,?_⟩;rintro m C ai ⟨p,aj,ak,ao,F⟩;refine S p _ (o m p ak) R W aj ai C _ ao λb G I t J L=>?_;cases b with
 |true=>
  rw[SZ rfl]at t⊢;refine⟨λn i=>∃d a,(∃u,u<m/\M u d)/\aL X.K R W a i n d/\bx R B a,?_,?_⟩
  ·rintro n i ⟨d,a,⟨u,l,q⟩,j,au⟩;exact⟨u,l,d,a,q,j,au⟩
  have x:=F.trans L;exact Y _ p t R W G I C _ J ⟨λd n a i z j g=>⟨d,a,z,j,x.trans g⟩,λd n a i z j g=>y.nx d n a i z j (x.trans g),λd n a i z j g=>⟨d,a,z,j,x.trans g⟩,λr v a i z j g q=>y.rt r v a i z j (x.trans g) q⟩
 |false=>
  rw[Tl SW]at t⊢;exact y.nx p C G I t J (F.trans L)
theorem kF.list{B:al}{a:TD}{b:ZQ}{d:ZP}(h:B a=some (.lst b))(r:b_ K B b d):kF K B (AL K a) d:=by
 intro H s i;have f:=s _ _ h;have q:cE K H a b:=cE.of f;refine⟨λc=>?_,λc=>⟨b,q,by rw[r.length];exact c⟩,λx k c ⟨g,j⟩=>⟨g,?_⟩⟩
 ·obtain⟨v,e,_⟩:=r.get (SY c);exact⟨b,v,q,e⟩
 exact r.fb (j b q)
theorem kF.tup{B:al}{a:TD}{b:ZQ}{d:ZP}(h:B a=some (.tup b))(r:b_ K B b d):kF K B (AM K a) d:=by
 intro H s i;have f:=s _ _ h;have q:e0 K H a b:=e0.of f;refine⟨λc=>?_,λc=>⟨b,q,by rw[r.length];exact c⟩,λx k c ⟨g,j⟩=>⟨g,?_⟩⟩
 ·obtain⟨v,e,_⟩:=r.get (SY c);exact⟨b,v,q,e⟩
 exact r.fb (j b q)
theorem kF.rng{B:al}(n:Nat):kF K B (r' 0 n) ((S7 n).map λi:Nat=>D.int i):=by
 intro H s i;rw[Sv,Uv];refine⟨λa=>a,λa=>a,λx d a ⟨b,c⟩=>⟨b,?_⟩⟩;refine⟨.int i,?_,?_⟩
 ·rw[SP,Vi a];rfl
 rw[c,Int.zero_add];exact .int _
def PS(u:bb):cK:=λb k=>u b λd=>∃a,d=.lst a/\k a
def PT(u:bb):cK:=λb k=>u b λd=>∃a,d=.tup a/\k a
def PU(u:bb):cK:=λa k=>u a λd=>∃j,d=.int j /\ -(2^62)<=j/\j<2^62/\k ((S7 j.toNat).map λi:Nat=>D.int i)
variable{o:Wp}
theorem fP{l:Wp}(f:bt X l u):mq X o l (PS u):=by
 obtain⟨_,g,i⟩:=f;refine⟨_,FC g,λj k h R W B H m Q e q=>?_⟩;refine i j _ h R W B H m _ e λd v n p r b s t=>?_;obtain⟨w,rfl,z⟩:=r;obtain⟨a,x,rfl,c,y⟩:=t.eO;exact⟨a,rfl,⟨x,cE.of (b.bh _ _ c)⟩,q w _ n p z b s (kF.list c y)⟩
theorem BD{l:Wp}(f:bt X l u):mq X o l (PT u):=by
 obtain⟨_,g,i⟩:=f;refine⟨_,NO g,λj k h R W B H m Q e q=>?_⟩;refine i j _ h R W B H m _ e λd v n p r b s t=>?_;obtain⟨w,rfl,z⟩:=r;obtain⟨a,x,rfl,c,y⟩:=t.eV;exact⟨a,rfl,⟨x,e0.of (b.bh _ _ c)⟩,q w _ n p z b s (kF.tup c y)⟩
theorem wU{a:Wp}(c:bt X a u)(g:eu X "range")(i:X.mg "range"=none)(b:UF [a] X.env=[(false,Yp a X.env)]:=by rfl):mq X o (.Call (.Name "range" p) [a] [] f) (PU u):=by
 obtain⟨_,l,m⟩:=c;refine⟨_,NR g i (d2 l e1 (by exact b)) b,λn k h R W B H r Q e q=>?_⟩;refine m n _ h R W B H r _ e λd v s t w x y A=>?_;obtain⟨j,rfl,C,E,z⟩:=w;exact⟨j,by rw[A.et],C,E,q _ _ s t z x y (kF.rng _)⟩
def ka(g:eS)(s:cA)(U:hE):ZP->ZN->Prop
 |[],a=>U.nx a
 |d::b,a=>g d a λc=>s {U with nx:=ka g s U b,ct:=ka g s U b,bk:=U.nx} c
def PV(w:cK)(g:eS)(s:cA):cA:=λU a=>w a λb=>ka g s U b a
theorem k4{E:Wp}{n:Z1}{g:eS}{s:cA}(T:YV (UV X.prog X.w) X.A X.env X.xe)(Y:X.calm=true)(M:mq X o E w)(Z:j7 X o g)(ai:hF X n s)(aj:∀x,WF E X.env x=pure x:=by intro _;rfl):eT X (.For o E n [] f) (PV w g s):=by
 obtain⟨_,ak,ao⟩:=M;obtain⟨_,au,ax⟩:=Z;obtain⟨_,ay,az⟩:=ai;refine⟨_,AN T Y ak au ay aj,λU N h R W B H aE D e F=>?_⟩;refine ao N _ h R W B H aE _ e λk J G a3 aF aI aJ aK=>?_;refine⟨λi m l c=>∃b a,m=k.length-i/\i<=k.length/\ka g s U (k.drop i) b/\aL X.K R W a c l b/\bx R B a/\ci G a,⟨k.length,N,G,by simp,S9 _,aF,aI,aJ,ci.refl _⟩,?_⟩;rintro i m O P ⟨Q,I,rfl,M,u,L,p,C⟩;obtain⟨aM,aO,aP⟩:=aK P (C.trans L.bh) i;by_cases t:i<k.length
 ·refine .inr ⟨aM t,λl c=>∃b a,ka g s U (k.drop (i+1)) b/\aL X.K R W a c l b/\bx R B a/\ci G a,?_,?_⟩
  ·rintro l c ⟨b,a,z,j,aT,aV⟩;exact⟨k.length-(i+1),by lia,b,a,rfl,t,z,j,aT,aV⟩
  intro x c y;obtain⟨rfl,d,S,aZ⟩:=aP x c t y
  have aY:k.drop i=d::k.drop (i+1):=by
   rw[Ul t];rw[SY t]at S;rw[SN S]
  rw[aY]at u;refine ax d Q _ u R W I _ O x _ L (aZ.mono C) λb l a0 j _=>?_;exact az _ b a0 R W I _ l _ j ⟨λb l a c z j g=>⟨b,a,z,j,p.trans g,C.trans g.s⟩,λb l a c z j g=>F.nx b l a c z j (p.trans g),λb l a c z j g=>⟨b,a,z,j,p.trans g,C.trans g.s⟩,λr v a c z j g q=>F.rt r v a c z j (p.trans g) q⟩
 have ei:i=k.length:=by lia
 subst ei;rw[Uw]at u;exact .inl ⟨aO (SD _),F.nx Q O I P u L p⟩
end
section
variable{K:Su}{X:aU}{e:Wp}{C:Z0}{u:bb}{w:cK}{g p:Pos}
theorem aL.iT{R:al}{W:TD->Prop}{B H:al}{b:St}{c:ZN}(e:aL K R W B H b c){q:TD}(d:H q=none){a:ZQ}{f:ZP}(r:b_ K B a f):
  aL K R W B (ed H q (.lst a)) b c/\R q=none/\B q=none/\(ed H q (.lst a)) q=some (.lst a)/\∀i,¬cc b c i q:=by
 obtain⟨g,j,h⟩:=e.toWd.fresh d;exact⟨e.ey d _,g,h,dx,λi m=>e.eK d m rfl⟩
def ig{b:Type}(a:List b)(lo c:Option Int):List b:=(a.drop (HT.sIx a.length 0 lo)).take (HT.sIx a.length a.length c-HT.sIx a.length 0 lo)
theorem b_.cut{B:al}{a:ZQ}{b:ZP}(r:b_ K B a b)(lo c:Option Int):b_ K B (ig a lo c) (ig b lo c):=by
 unfold ig;rw[r.length];exact(r.drop _).take _
theorem BE{a d:Type}(f:a->d)(b:List a)(lo c:Option Int):ig (b.map f) lo c=(ig b lo c).map f:=by
 unfold ig;rw[Sv,<-List.map_drop,<-List.map_take]
abbrev oB:=ZN->(Option Int->Prop)->Prop
def PW(K:Su)(t:sf)(u:oB):Prop:=∀(a:ZN)(k:Option Int->Prop),u a k->∀(R:al)(W:TD->Prop)(B H:al)(b:St)(Q:Option Int->al->Prop),aL K R W B H b a->
 (∀o c d,k o->aL K R W c d b a->bx R B c->Q o d)->t b H Q
def pI(X:aU)(e:Option Wp)(u:oB):Prop:=∃t,t0 X e t/\PW X.K t u
def PX:oB:=λ_ k=>k none
def PY(u:bb):oB:=λa k=>u a λd=>∃i,d=.int i/\k (some i)
theorem ui:pI X none PX:=⟨_,Oy,λa k h R W B H b Q e q=>q none B H h e (bx.refl _ _)⟩
theorem qY(h:bt X e u):pI X (some e) (PY u):=by
 obtain⟨_,a,b⟩:=h;refine⟨_,Oz a,λc k h R W B H f Q e q=>?_⟩;refine b c _ h R W B H f _ e λd v g j l m n o=>?_;obtain⟨i,rfl,z⟩:=l;exact⟨i,o.et,q _ g j z m n⟩
def GE:D->Option ZP
 |.lst a=>some a
 |.scr b=>some (b.map .int)
 |_=>none
theorem PZ{B H:al}{v:V}{x:D}{d:ZP}(s:ci B H)(r:bG K B v x)(h:GE x=some d):∃a b,v=.ref a/\cE K H a b/\b_ K B b d:=by
 cases x<;>first|(cases h;done)|skip
 ·obtain⟨a,b,rfl,c,e⟩:=r.eO;cases h;exact⟨a,b,rfl,cE.of (s _ _ c),e⟩
 obtain⟨a,rfl,c⟩:=r.lg;cases h;exact⟨a,_,rfl,s.seq c,b_.ints _⟩
def P1(u:bb)(l h:oB):cK:=λa k=>u a λx=>l a λlo=>h a λc=>∃b,GE x=some b/\k (ig b lo c)
theorem BF{lo b:Option Wp}{i j:oB}{p2:Pos}(o:bt X e u)(r:pI X lo i)(t:pI X b j):j6 X (.Subscript e (.Slice lo b none p2) g) (P1 u i j):=by
 obtain⟨_,w,x⟩:=o;obtain⟨_,y,A⟩:=r;obtain⟨_,C,E⟩:=t;refine⟨_,A2 OL w y C,λc k h R W B H f Q e q=>?_⟩;refine x c _ h R W B H f _ e λd v F G I J K L=>?_;refine A c _ I R W F G f _ J λlo M N O P l=>?_;refine E c _ O R W M N f _ P λb S aw T m g3=>?_;obtain⟨ax,U,z⟩:=T;obtain⟨a,Y,rfl,Z,n⟩:=PZ m.bh (L.mono (l.trans g3).s) U;refine⟨a,Y,rfl,Z,λp af=>?_⟩;obtain⟨ai,aj,ak,hc,av⟩:=m.iT af (n.cut lo b);exact q _ p _ S _ z ai ((K.trans l).trans g3) aj ak hc (n.cut lo b) av
def P2(u v:bb):cK:=λb k=>u b λx=>v b λy=>∃a C,x=.lst a/\y=.lst C/\a.length+C.length<=TI/\k (a++C)
theorem oC{a b:Wp}{m n:bb}(c:bt X a m)(f:bt X b n):j6 X (.BinOp a .Add b g) (P2 m n):=by
 obtain⟨_,u,w⟩:=c;obtain⟨_,x,y⟩:=f;refine⟨_,gj OY u x,λo k h R W B H r Q e q=>?_⟩;refine w o _ h R W B H r _ e λd v A E F G I J=>?_;refine y o _ F R W A E r _ G λai aj K ak L i t M=>?_;obtain⟨hc,C,rfl,rfl,N,z⟩:=L;obtain⟨a,O,rfl,c,j⟩:=(J.mono t.s).eO;obtain⟨b,P,rfl,f,l⟩:=M.eO;refine⟨a,b,O,P,rfl,rfl,i.bh _ _ c,i.bh _ _ f,by rw[j.length,l.length];exact N,λp S=>?_⟩;obtain⟨T,U,Y,Z,hi⟩:=i.iT S (j.append l);exact q _ p _ K _ z T (I.trans t) U Y Z (j.append l) hi
def P3(u:bb):cK:=λb k=>u b λx=>∃a,(x=.lst a\/x=.tup a)/\k a
theorem GF(b:bt X e u)(y:eu X "list")(A:X.mg "list"=none)(s:eD X e []:=by rfl):j6 X (.Call (.Name "list" p) [e] [] g) (P3 u):=by
 obtain⟨_,C,E⟩:=b;refine⟨_,FU OM y A (by decide +kernel) (d2 C e1 s) (by decide) (by decide) s,λF k h R W B H G Q e q=>?_⟩;refine E F _ h R W B H G _ e λd v t K I f w x=>?_;obtain⟨L,J,z⟩:=I;rcases J with rfl|rfl
 ·obtain⟨a,i,rfl,b,c⟩:=x.eO;refine⟨a,i,rfl,.inl (cE.of (f.bh _ _ b)),λp j=>?_⟩;obtain⟨l,m,n,o,r⟩:=f.iT j c;exact q _ p _ t _ z l w m n o c r
 obtain⟨a,i,rfl,b,c⟩:=x.eV;refine⟨a,i,rfl,.inr (e0.of (f.bh _ _ b)),λp j=>?_⟩;obtain⟨l,m,n,o,r⟩:=f.iT j c;exact q _ p _ t _ z l w m n o c r
def P4(u:bb):bb:=λb k=>u b λx=>∃a:ZM,x=.lst (a.map .int)/\k (.int a.sum)
theorem wV{B:al}:∀{a:ZM}{b:ZQ},b_ K B b (a.map D.int)->b=a.map V.int
 |[],_,.nil=>rfl
 |n::r,_,.cons h t=>by rw[h.et,wV t];rfl
theorem P5(c:bt X e u)(i:X.calm=true)(j:eu X "sum")(l:X.mg "sum"=none)(d:eD X e []:=by rfl):bt X (.Call (.Name "sum" p) [e] [] g) (P4 u):=by
 obtain⟨_,m,n⟩:=c;refine⟨_,pw (Pd i) j l (by decide +kernel) (d2 m e1 d) (by decide) (by decide) d,ug (f:=λx k=>∃b:ZM,x=.lst (b.map .int)/\k (.int b.sum)) n λx k h R W B H t w v Q e o q=>?_⟩;obtain⟨b,rfl,r⟩:=h;obtain⟨a,y,rfl,c,s⟩:=o.eO;cases wV s;exact⟨a,b,rfl,e.bh _ _ c,q _ _ B H r e (bx.refl _ _) (.int _)⟩
def BG(i:Nat)(u:bb):cA:=λU a=>∃b:ZP,a[i]?=some (.own b)/\u a λd=>b.length<TI/\U.nx (a.set i (.own (b++[d])))
theorem kJ(i:Nat){x:Str}{c f b:Pos}(q:bt X e u)(r:gZ X i x:=by rfl)(t:gy X.env.scope x:=by walk_at"v")(w:ea x:=by decide)(y:gY x:=by decide)(z:iO X (.Name x c) "append":=by rfl)(A:lB X b [e]:=by rfl)(C:iP f b:=by rfl)(l:eD X e []:=by rfl)(E:hv X b []:=by rfl)(F:XE (.Call (.Attribute (.Name x c) "append" f) [e] [] b) none g.line X.env=pure false:=by rfl):eT X (.Expr (.Call (.Attribute (.Name x c) "append" f) [e] [] b) g) (BG i u):=by
 obtain⟨_,G,I⟩:=q;refine⟨_,qF (sj T' VU VV wB (hg r t w y) (d2 G e1 l) z A C l E) F,λU J h R W B H K D e s=>?_⟩;obtain⟨T,j,h⟩:=h;obtain⟨a,L,k,Y,Z,M,aa⟩:=e.ownAt j;refine⟨_,k,.inl ⟨rfl,L,cE.of M⟩,?_⟩;refine I J _ h R W B H K _ e λd v N hi m n O P=>?_;obtain⟨ae,Q,o,af,ai,S,p⟩:=n.ownAt j;rw[k]at o;cases o;exact⟨a,Q,v,rfl,rfl,S,by rw[p.length];exact m.1,s.nx _ _ N _ m.2 (n.write k j (p.append (.cons P .nil))) O⟩
def kc(a:ZN)(j:Nat):aA:=match a[j]? with
 |some (.val d)=>.val d
 |some .bag=>.bag
 |_=>.no
theorem aL.fT{R:al}{W:TD->Prop}{B H:al}{d:St}{f:ZN}(e:aL K R W B H d f){a:TD}(g:R a=none)(k:B a=none)(l:∀i,¬cc d f i a)(o:el):aL K R W B (ed H a o) d f:=by
 have p:¬W a:=λz=>e.wr a z g;refine e.move ⟨λb q h z=>?_,λb q h=>?_,e.wb,λb z=>(e.wh b z).upd (by rintro rfl;exact p z),e.wr⟩ (ci.refl _) λi b m=>?_
 ·rw[bO (by rintro rfl;rw[g]at h;cases h)];exact e.fr b q h z
 ·rw[bO (by rintro rfl;rw[k]at h;cases h)];exact e.bh b q h
 have n:b≠a:=by rintro rfl;exact l i m
 refine⟨(e.en m).1,λz=>?_,λ_=>bO n⟩;obtain⟨c,j,_,_,r⟩:=e.eo z;rw[nC m z]at j;cases j;exact r.upd n
theorem P6{b:St}{a:ZT}{i:Nat}{o:Option V}(h:(iv b a)[i]?=some o):∃j,a[i]?=some j/\o=(b[j]?).join:=by
 unfold iv at h;rw[SP]at h;cases q:a[i]? with
 |none=>rw[q]at h;cases h
 |some j=>rw[q]at h;exact⟨j,rfl,(SN h).symm⟩
def P7(K:Su)(t:bI)(u:ZN->Prop->Prop):Prop:=∀(b:ZN)(k:Prop),u b k->∀(R:al)(W:TD->Prop)(B H:al)(c:St)(Q:cn),aL K R W B H c b->
 (∀a d f,k->aL K R W d f c b->bx R B d->R a=none->d a=none->ft f a->(∀i,¬cc c b i a)->Q (.ref a) f)->t c H Q
def BH(X:aU)(e:Wp)(u:ZN->Prop->Prop):Prop:=∃t,bP X e t/\P7 X.K t u
def P8(n:Nat)(F:b7)(w:iW):ZN->Prop->Prop:=λb k=>w b λa=>sh a n=true/\F (a.map gn.sl) λr=>r=.bag/\k
theorem BI{n:Nat}{F:b7}{w:iW}{x:Str}{t:ZX}{j l:Nat}(c:b6 X.prog X.w X.K X.mg X.base x t j (cj X.K n F))(u:ew l X.A)(y:eu X x)(z:mo X (e::C) w)(E:j<=l:=by decide)(G:ea x:=by decide)(I:eD X e C:=by rfl)(J:hv X g C:=by rfl):
  BH X (.Call (.Name x p) (e::C) [] g) (P8 n F w):=by
 obtain⟨_,L,M⟩:=z;refine⟨_,ou c u y L E G I J,λN k h R W B H O Q e q=>?_⟩;refine M N _ h R W B H O _ e λae af aj ak o b P S=>?_;rw[SU];refine qW b S o.1 o.2 λr v T U d Y Z f=>?_;obtain⟨rfl,d⟩:=d;obtain⟨a,rfl,s,aa,hi⟩:=f;exact q a T U d Y (P.trans Z) (b.toWd.fresh s).1 aa hi λi m=>(b.en m).2 s
def P9(i:Nat)(u:ZN->Prop->Prop):cA:=λU a=>u a (U.nx (a.set i .bag))
theorem P'{i:Nat}{x:Str}{c:Pos}{u:ZN->Prop->Prop}(d:X.N.Nodup)(f:X.N[i]?=some x)(k:hh X.env.scope x)(l:BH X e u)(m:XE e (some (.Name x c)) g.line X.env=pure false:=by rfl)(n:iq X x:=by walk_at"f"):
  eT X (.Assign [.Name x c] e g) (P9 i u):=by
 obtain⟨_,o,p⟩:=l;refine⟨_,qH d f k o m n,λU q h R W B H r D e s=>?_⟩;refine p q _ h R W B H r _ e λa t v w y A C E F G=>s.nx _ _ t v w (y.set i ⟨a,rfl,.inr C,E,F⟩ λb z _ j _=>?_) A;cases z;exact G j
end
inductive iy where
 |I|B|N|S|T (dW:List iy)|L (s:iy)
mutual
def has:iy->D->Bool
 |.I,.int _=>true
 |.B,.bl _=>true
 |.N,.non=>true
 |.S,.str _=>true
 |.T dW,.tup xs=>hass dW xs
 |.L s,.lst xs=>xs.all λx=>has s x
 |_,_=>false
def hass:List iy->ZP->Bool
 |[],[]=>true
 |s::dW,x::xs=>has s x&&hass dW xs
 |_,_=>false
end
mutual
def jH:iy->Nat
 |.T dW=>deps dW+1
 |.L s=>jH s+1
 |_=>0
def deps:List iy->Nat
 |[]=>0
 |s::dW=>max (jH s) (deps dW)
end
noncomputable def eqD(x y:D):Bool :=@decide (x=y) (Ua _)
theorem BJ{x y:D}:eqD x y=true↔x=y:=by unfold eqD;exact @decide_eq_true_iff _ (Ua _)
theorem nE(x:D):eqD x x=true:=BJ.mpr rfl
theorem qZ{x y:D}{b:Bool}(h:b=true↔x=y):eqD x y=b:=by
 rw[VW,BJ,h]
section
variable{K:Su}{B:al}
theorem fQ{x:D}(h:has .I x=true):∃i,x=.int i:=by cases x<;>first|exact⟨_,rfl⟩|(simp[has]at h)
theorem wW{x:D}(h:has .B x=true):∃i,x=.bl i:=by cases x<;>first|exact⟨_,rfl⟩|(simp[has]at h)
theorem wX{x:D}(h:has .N x=true):x=.non:=by cases x<;>first|rfl|(simp[has]at h)
theorem fO{x:D}(h:has .S x=true):∃i,x=.str i:=by cases x<;>first|exact⟨_,rfl⟩|(simp[has]at h)
theorem wY{x:D}{a:List iy}(h:has (.T a) x=true):∃b,x=.tup b/\hass a b=true:=by
 cases x<;>first|exact⟨_,rfl,by simpa[has]using h⟩|(simp[has]at h)
theorem wZ{x:D}{s:iy}(h:has (.L s) x=true):∃a,x=.lst a/\∀y∈a,has s y=true:=by
 cases x<;>first|exact⟨_,rfl,by simpa[has]using h⟩|(simp[has]at h)
theorem uj:∀{a:List iy}{b:ZP},hass a b=true->b.length=a.length
 |[],[],_=>rfl
 |[],_::_,h=>by simp[hass]at h
 |_::_,[],h=>by simp[hass]at h
 |s::a,x::b,h=>by
  simp[hass]at h;simp[uj h.2]
mutual
theorem q0:∀(sh:iy){x y:D}{v:V},has sh x=true->has sh y=true->bG K B v x->bG K B v y->x=y
 |.I,x,y,v,h1,aa,ap,aN=>by
  obtain⟨i,rfl⟩:=fQ h1;obtain⟨j,rfl⟩:=fQ aa
  have e:=ap.et.symm.trans aN.et
  cases e;rfl
 |.B,x,y,v,h1,aa,ap,aN=>by
  obtain⟨i,rfl⟩:=wW h1;obtain⟨j,rfl⟩:=wW aa
  have e:=ap.j9.symm.trans aN.j9
  cases e;rfl
 |.N,x,y,v,h1,aa,ap,aN=>by rw[wX h1,wX aa]
 |.S,x,y,v,h1,aa,ap,aN=>by
  obtain⟨i,rfl⟩:=fO h1;obtain⟨j,rfl⟩:=fO aa
  cases ap;cases aN;rfl
 |.T dW,x,y,v,h1,aa,ap,aN=>by
  obtain⟨xs,rfl,aM⟩:=wY h1;obtain⟨ys,rfl,aZ⟩:=wY aa
  obtain⟨a,vs,rfl,au,lM⟩:=ap.eV
  obtain⟨b,ef,e,af,rb⟩:=aN.eV
  cases e
  rw[au]at af;cases af
  rw[reps_fn dW aM aZ lM rb]
 |.L s,x,y,v,h1,aa,ap,aN=>by
  obtain⟨xs,rfl,aM⟩:=wZ h1;obtain⟨ys,rfl,aZ⟩:=wZ aa
  obtain⟨a,vs,rfl,au,lM⟩:=ap.eO
  obtain⟨b,ef,e,af,rb⟩:=aN.eO
  cases e
  rw[au]at af;cases af
  have:xs=ys:=by
   apply Uk
   intro i
   cases BK:xs[i]? with
   |none=>
    have:ys[i]?=none:=by
     have h1:=lM.length
     have aa:=rb.length
     have aI:=WI.mp BK
     exact WI.mpr (by lia)
    rw[this]
   |some d=>
    obtain⟨v,ev,bV⟩:=lM.get BK
    obtain⟨d',gE,gF⟩:=rb.fb ev
    rw[gE,q0 s (aM d (Tb BK)) (aZ d' (Tb gE)) bV gF]
  rw[this]
theorem reps_fn:∀(dW:List iy){xs ys:ZP}{vs:ZQ},hass dW xs=true->hass dW ys=true->b_ K B vs xs->b_ K B vs ys->xs=ys
 |[],xs,ys,vs,h1,aa,ap,aN=>by
  have ag:=uj h1;have ar:=uj aa
  rw[Ub]at ag ar
  rw[U5 ag,U5 ar]
 |s::dW,[],ys,vs,h1,aa,ap,aN=>by simp[hass]at h1
 |s::dW,x::xs,[],vs,h1,aa,ap,aN=>by simp[hass]at aa
 |s::dW,x::xs,y::ys,vs,h1,aa,ap,aN=>by
  simp[hass]at h1 aa
  cases ap with
  |cons bR b1=>cases aN with
   |cons cm b2=>rw[q0 s h1.1 aa.1 bR cm,reps_fn dW h1.2 aa.2 b1 b2]
end
end
section
variable{X:aU}{f:Z2}{c:St}{H B:al}{s:Tk}
theorem GG{xs ys:ZP}{n:Nat}{e:Nat->Bool}(d:n=xs.length)(f:xs.length=ys.length)(a:∀j,j<n->(e j=true↔xs[j]?=ys[j]?)):((S7 n).all e)=true↔xs=ys:=by
 rw[Ux];constructor
 ·intro h;apply Uk;intro i;by_cases b:i<n
  ·exact(a i b).mp (h i (TF.mpr b))
  rw[Td (by lia),Td (by lia)]
 rintro rfl j c;exact(a j (TF.mp c)).mpr rfl
noncomputable def mB(a b:ZP)(j:Nat):Bool :=@decide (a[j]?=b[j]?) (Ua _)
theorem uk{a b:ZP}{j:Nat}:mB a b j=true↔a[j]?=b[j]?:=by unfold mB;exact @decide_eq_true_iff _ (Ua _)
theorem GH{xs ys:ZP}{j:Nat}{x y:D}(a:xs[j]?=some x)(b:ys[j]?=some y):mB xs ys j=eqD x y:=by
 rw[VW,uk,BJ,a,b];constructor
 ·intro h;exact SN h
 intro h;rw[h]
structure Qa(A:XC)(s:Tk)(u w:SL)(x y:D):Prop where
 rc:SeqAt.RcAt A s u w (eqD x y)
 ne:SeqAt.RcNeAt A s u w (!eqD x y)
 eq:SeqAt.EqAt A s u w (eqD x y)
mutual
theorem ul(I:c_ X f c H s)(dh:ci B H):∀(sh:iy){A:XC}{x y:D}{v w:V}{u fq:SL},has sh x=true->has sh y=true->bG X.K B v x->bG X.K B w y->eb v u->eb w fq->A.units+jH sh<XT->Qa A s u fq x y
 |.I,A,x,y,v,w,u,fq,h1,aa,ap,aN,bW,bZ,a5=>by
  obtain⟨i,rfl⟩:=fQ h1;obtain⟨j,rfl⟩:=fQ aa
  cases ap.et;cases aN.et
  obtain⟨t,rfl⟩:=bW;obtain⟨t',rfl⟩:=bZ
  have e:eqD (.int i) (.int j)=(i==j):=qZ (by simp)
  refine⟨?_,?_,?_⟩<;>rw[e]
  ·exact SeqAt.RcAt.int_int i t j t'
  ·exact SeqAt.RcNeAt.int_int i t j t'
  exact SeqAt.EqAt.int_int i t j t'
 |.B,A,x,y,v,w,u,fq,h1,aa,ap,aN,bW,bZ,a5=>by
  obtain⟨i,rfl⟩:=wW h1;obtain⟨j,rfl⟩:=wW aa
  cases ap.j9;cases aN.j9
  cases bW;cases bZ
  have e:eqD (.bl i) (.bl j)=(i==j):=qZ (by simp)
  refine⟨?_,?_,?_⟩<;>rw[e]
  ·exact SeqAt.RcAt.bool_bool i j
  ·exact SeqAt.RcNeAt.bool_bool i j
  exact SeqAt.EqAt.bool_bool i j
 |.N,A,x,y,v,w,u,fq,h1,aa,ap,aN,bW,bZ,a5=>by
  cases wX h1;cases wX aa
  cases ap.l8;cases aN.l8
  cases bW;cases bZ
  have e:eqD .non .non=true:=nE _
  refine⟨?_,?_,?_⟩<;>rw[e]
  ·exact SeqAt.RcAt.none_none
  ·exact SeqAt.RcNeAt.none_none
  exact SeqAt.EqAt.same _
 |.S,A,x,y,v,w,u,fq,h1,aa,ap,aN,bW,bZ,a5=>by
  obtain⟨i,rfl⟩:=fO h1;obtain⟨j,rfl⟩:=fO aa
  cases ap;cases aN
  obtain⟨t,rfl⟩:=bW;obtain⟨t',rfl⟩:=bZ
  have e:eqD (.str i) (.str j)=(i==j):=qZ (by simp)
  refine⟨?_,?_,?_⟩<;>rw[e]
  ·exact SeqAt.RcAt.str_str i t j t'
  ·exact SeqAt.RcNeAt.str_str i t j t'
  exact SeqAt.EqAt.str_str i t j t'
 |.T dW,A,x,y,v,w,u,fq,h1,aa,ap,aN,bW,bZ,a5=>by
  have w1:=ap
  have w2:=aN
  obtain⟨xs,rfl,aM⟩:=wY h1;obtain⟨ys,rfl,aZ⟩:=wY aa
  obtain⟨a,vs,rfl,au,lM⟩:=ap.eV
  obtain⟨b,ef,rfl,af,rb⟩:=aN.eV
  cases bW;cases bZ
  obtain⟨its,cd,db,_⟩:=I.tuple (e0.of (dh _ _ au))
  obtain⟨hk,ck,cT,_⟩:=I.tuple (e0.of (dh _ _ af))
  have b9:jH (.T dW)=deps dW+1:=by simp[jH]
  have ih:=uj aM
  have mC:=uj aZ
  have aD:=lM.length;have aW:=rb.length;have eH:=cd.length;have dw:=ck.length
  have nF:=eqs_sh I dh dW (A:=A.in1) aM aZ lM rb cd ck (by show A.units+1+deps dW<XT;lia)
  have aF:∀j (h1:j<its.toArray.size) (aa:j<hk.toArray.size),SeqAt.EqAt A.in1 s its.toArray[j] hk.toArray[j] (mB xs ys j):=λj aB aH=>by
   have:=nF j (by simpa using aB) (by simpa using aH)
   simpa using this
  have e:eqD (.tup xs) (.tup ys)=((S7 (min its.toArray.size hk.toArray.size)).all (mB xs ys)&&its.toArray.size==hk.toArray.size):=by
   refine qZ ?_
   have aE:its.toArray.size=xs.length:=by simp;lia
   have bi:hk.toArray.size=xs.length:=by simp;lia
   rw[aE,bi,Nat.min_self,TJ]
   have:=GG (xs:=xs) (ys:=ys) (n:=xs.length) (e:=mB xs ys) rfl (by lia) (λj _=>uk)
   constructor
   ·intro h;rw[this.mp h.1]
   intro h;cases h;exact⟨this.mpr rfl,by simp⟩
  have rc:SeqAt.RcAt A s (.ref a) (.ref b) (eqD (.tup xs) (.tup ys)):=by rw[e];exact SeqAt.RcAt.tuples db cT (by lia) aF
  refine⟨rc,by rw[e];exact SeqAt.RcNeAt.tuples db cT (by lia) aF,?_⟩
  by_cases i0:a=b
  ·subst i0
   have:=q0 (.T dW) h1 aa w1 w2
   rw[this,nE]
   exact SeqAt.EqAt.same _
  exact SeqAt.EqAt.of_refs i0 rc
 |.L sh,A,x,y,v,w,u,fq,h1,aa,ap,aN,bW,bZ,a5=>by
  have w1:=ap
  have w2:=aN
  obtain⟨xs,rfl,aM⟩:=wZ h1;obtain⟨ys,rfl,aZ⟩:=wZ aa
  obtain⟨a,vs,rfl,au,lM⟩:=ap.eO
  obtain⟨b,ef,rfl,af,rb⟩:=aN.eO
  cases bW;cases bZ
  obtain⟨its,cd,p1,_⟩:=I.list (cE.of (dh _ _ au))
  obtain⟨hk,ck,p2,_⟩:=I.list (cE.of (dh _ _ af))
  have db:=p1.isList
  have cT:=p2.isList
  have b9:jH (.L sh)=jH sh+1:=by simp[jH]
  have aD:=lM.length;have aW:=rb.length;have eH:=cd.length;have dw:=ck.length
  have aF:∀j (h1:j<its.toArray.size) (aa:j<hk.toArray.size),SeqAt.EqAt A.in1 s its.toArray[j] hk.toArray[j] (mB xs ys j):=λj aB aH=>by
   have Qb:j<its.length:=by simpa using aB
   have Qc:j<hk.length:=by simpa using aH
   obtain⟨fC,ag,Qd⟩:=cd.hY (SY Qb)
   obtain⟨dY,ar,Qe⟩:=ck.hY (SY Qc)
   obtain⟨c1,aV,BL⟩:=lM.fb ag
   obtain⟨c2,bg,Qf⟩:=rb.fb ar
   rw[GH aV bg]
   have:=(ul I dh sh (A:=A.in1) (aM c1 (Tb aV)) (aZ c2 (Tb bg)) BL Qf Qd Qe (by show A.units+1+jH sh<XT;lia)).eq
   simpa using this
  by_cases kC:its.toArray.size=hk.toArray.size
  ·have aE:its.toArray.size=xs.length:=by simp;lia
   have bi:xs.length=ys.length:=by simp at kC;lia
   have e:eqD (.lst xs) (.lst ys)=(S7 its.toArray.size).all (mB xs ys):=by
    refine qZ ?_
    rw[GG (xs:=xs) (ys:=ys) aE bi (λj _=>uk)]
    constructor
    ·intro h;rw[h]
    intro h;cases h;rfl
   have rc:SeqAt.RcAt A s (.ref a) (.ref b) (eqD (.lst xs) (.lst ys)):=by rw[e];exact SeqAt.RcAt.lists db cT kC (by lia) aF
   refine⟨rc,by rw[e];exact SeqAt.RcNeAt.lists db cT kC (by lia) aF,?_⟩
   by_cases i0:a=b
   ·subst i0
    have:=q0 (.L sh) h1 aa w1 w2
    rw[this,nE]
    exact SeqAt.EqAt.same _
   exact SeqAt.EqAt.of_refs i0 rc
  have e:eqD (.lst xs) (.lst ys)=false:=qZ (by
   constructor
   ·intro h;cases h
   intro h;cases h;simp at kC;lia)
  have lN:(its.toArray.size != hk.toArray.size)=true:=by simpa using kC
  have rc:SeqAt.RcAt A s (.ref a) (.ref b) (eqD (.lst xs) (.lst ys)):=by rw[e];exact SeqAt.RcAt.lists_lengths db cT lN (by lia)
  refine⟨rc,by rw[e];exact SeqAt.RcNeAt.lists_lengths db cT lN (by lia),?_⟩
  refine SeqAt.EqAt.of_refs (λi0=>?_) rc
  subst i0
  have:=q0 (.L sh) h1 aa w1 w2
  cases this
  simp at kC;lia
theorem eqs_sh(I:c_ X f c H s)(dh:ci B H):∀(dW:List iy){A:XC}{xs ys:ZP}{vs ef:ZQ}{us kd:ZY},hass dW xs=true->hass dW ys=true->b_ X.K B vs xs->b_ X.K B ef ys->bN vs us->bN ef kd->A.units+deps dW<XT->
  ∀j (h1:j<us.length) (aa:j<kd.length),SeqAt.EqAt A s us[j] kd[j] (mB xs ys j)
 |[],A,[],ys,_,_,_,_,h1,aa,.nil,aN,.nil,bZ,a5,j,aB,aH=>absurd aB (by simp)
 |[],A,x::xs,ys,_,_,_,_,h1,aa,ap,aN,bW,bZ,a5,j,aB,aH=>by simp[hass]at h1
 |s::dW,A,[],ys,vs,ef,us,kd,h1,aa,ap,aN,bW,bZ,a5,j,aB,aH=>by simp[hass]at h1
 |s::dW,A,x::xs,[],vs,ef,us,kd,h1,aa,ap,aN,bW,bZ,a5,j,aB,aH=>by simp[hass]at aa
 |s::dW,A,x::xs,y::ys,v::vs,w::ef,u::us,fq::kd,h1,aa,.cons bR b1,.cons cm b2,.cons c1 b9,.cons c2 b',a5,0,aB,aH=>by
  have q1:has s x=true:=by simp[hass]at h1;exact h1.1
  have q2:has s y=true:=by simp[hass]at aa;exact aa.1
  have hG:deps (s::dW)=max (jH s) (deps dW):=by simp[deps]
  have:=(ul I dh s (A:=A) q1 q2 bR cm c1 c2 (by lia)).eq
  rw[GH (xs:=x::xs) (ys:=y::ys) (j:=0) rfl rfl]
  exact this
 |s::dW,A,x::xs,y::ys,v::vs,w::ef,u::us,fq::kd,h1,aa,.cons bR b1,.cons cm b2,.cons c1 b9,.cons c2 b',a5,j+1,aB,aH=>by
  have q1:hass dW xs=true:=by simp[hass]at h1;exact h1.2
  have q2:hass dW ys=true:=by simp[hass]at aa;exact aa.2
  have hG:deps (s::dW)=max (jH s) (deps dW):=by simp[deps]
  have:=eqs_sh I dh dW (A:=A) q1 q2 b1 b2 b9 b' (by lia) j (by simpa using aB) (by simpa using aH)
  have e:mB (x::xs) (y::ys) (j+1)=mB xs ys j:=by
   rw[VW,uk,uk];simp
  rw[e]
  exact this
end
def BM(K:Su)(a:Bool):iS:=λx y H Q=>∃B d e sh,bG K B x d/\bG K B y e/\ci B H/\has sh d=true/\has sh e=true/\jH sh<=50/\Q (.bl (if a then !eqD d e else eqD d e)) H
theorem GI(m:X.A.units+64<XT):g4 X (XU .Eq) (BM X.K false):=by
 intro f s c H x y v u Q I a b h;obtain⟨B,d,e,sh,g,i,j,k,l,n,q⟩:=h;exact(ul I j sh (A:=X.A) k l g i a b (by lia)).rc _ _ _ _ ⟨.bl _,H,I,rfl,q⟩
theorem Qg(m:X.A.units+64<XT):g4 X (XU .NotEq) (BM X.K true):=by
 intro f s c H x y v u Q I a b h;obtain⟨B,d,e,sh,g,i,j,k,l,n,q⟩:=h;exact(ul I j sh (A:=X.A) k l g i a b (by lia)).ne _ _ _ _ ⟨.bl _,H,I,rfl,q⟩
def BN(K:Su)(g:Bool):iS:=λx y H Q=>∃B d a sh,bG K B x d/\(bG K B y (.lst a)\/bG K B y (.tup a))/\ci B H/\has sh d=true/\(∀e∈a,has sh e=true)/\jH sh<=50/\∀b:Bool,(b=true↔d∈a)->Q (.bl (if g then !b else b)) H
noncomputable def mD(K:Su)(B:al)(sh:iy)(d:D)(u:SL):Bool :=@decide (∃v,eb v u/\bG K B v d) (Ua _)
theorem BO{K:Su}{sh:iy}{d:D}{u:SL}:mD K B sh d u=true↔∃v,eb v u/\bG K B v d:=by unfold mD;exact @decide_eq_true_iff _ (Ua _)
theorem GJ{v w:V}{u:SL}(a:eb v u)(b:eb w u):v=w:=by
 cases v<;>cases w<;>simp only[eb]at a b<;>first
  |rfl
  | (obtain⟨t,rfl⟩:=a;obtain⟨c,e⟩:=b;cases e;rfl)
  | (obtain⟨t,rfl⟩:=a;obtain⟨c,e⟩:=b;cases e;done)
  | (obtain⟨t,rfl⟩:=a;cases b;done)
  | (obtain⟨t,rfl⟩:=b;cases a;done)
  | (subst a;cases b;rfl)
  | (subst a;cases b;done)
theorem w3{K:Su}{sh:iy}{d:D}{g:ZQ}{b:ZP}{a:ZY}(i:has sh d=true)(k:∀e∈b,has sh e=true)(r:b_ K B g b)(l:bN g a):a.toArray.any (mD K B sh d)=true↔d∈b:=by
 rw[show a.toArray.any (mD K B sh d)=a.any (mD K B sh d) by simp,List.any_eq_true];constructor
 ·rintro⟨u,n,z⟩;obtain⟨v,o,c⟩:=BO.mp z;obtain⟨j,f⟩:=U3 n;obtain⟨w,p,q⟩:=l.hY f;cases GJ o q;obtain⟨e,s,t⟩:=r.fb p;have h:=Tb s;rw[q0 sh i (k e h) c t];exact h
 intro m;obtain⟨j,f⟩:=U3 m;obtain⟨v,x,c⟩:=r.get f;obtain⟨u,y,A⟩:=l.get x;exact⟨u,Tb y,BO.mpr ⟨v,A,c⟩⟩
theorem w4(I:c_ X f c H s)(m:ci B H){A:XC}{sh:iy}{d:D}{vs:ZQ}{h:ZP}{a:ZY}{x:V}{v:SL}(i:has sh d=true)(n:∀e∈h,has sh e=true)(o:bG X.K B x d)(p:eb x v)(r:b_ X.K B vs h)(l:bN vs a)(t:A.units+jH sh<XT):∀y,y∈a.toArray->SeqAt.EqAt A s y v (mD X.K B sh d y):=λy u=>by
 obtain⟨j,C⟩:=U3 (show y∈a by simpa using u);obtain⟨w,E,b⟩:=l.hY C;obtain⟨e,F,g⟩:=r.fb E;have k:=n e (Tb F);have q:=(ul I m sh (A:=A) k i g o b p t).eq
 have z:eqD e d=mD X.K B sh d y:=qZ (by
  rw[BO];constructor
  ·rintro⟨L,G,J⟩;cases GJ G b;exact q0 sh k i g J
  rintro rfl
  exact⟨w,b,g⟩)
 rw[<-z];exact q
theorem Qi(t:X.A.units+64<XT):g4 X (XU .In) (BN X.K false):=by
 intro f s c H x y v u Q I n o h;obtain⟨B,d,w,sh,p,b,i,j,k,z,q⟩:=h;rcases b with b|b
 ·obtain⟨a,r,rfl,l,e⟩:=b.eO;cases o;obtain⟨m,g,p1,_⟩:=I.list (cE.of (i _ _ l));exact SeqAt.in_listAt (mD X.K B sh d) p1.isList (w4 I i (A:=X.A.in1) j k p n e g (by show X.A.units+1+_<XT;lia)) ⟨.bl _,H,I,rfl,q _ (w3 j k e g)⟩
 obtain⟨a,r,rfl,l,e⟩:=b.eV;cases o;obtain⟨m,g,p1,_⟩:=I.tuple (e0.of (i _ _ l));exact SeqAt.in_tupleAt (mD X.K B sh d) p1 (w4 I i (A:=X.A.in1) j k p n e g (by show X.A.units+1+_<XT;lia)) ⟨.bl _,H,I,rfl,q _ (w3 j k e g)⟩
theorem Qj(t:X.A.units+64<XT):g4 X (XU .NotIn) (BN X.K true):=by
 intro f s c H x y v u Q I n o h;obtain⟨B,d,w,sh,p,b,i,j,k,z,q⟩:=h;rcases b with b|b
 ·obtain⟨a,r,rfl,l,e⟩:=b.eO;cases o;obtain⟨m,g,p1,_⟩:=I.list (cE.of (i _ _ l));exact SeqAt.notIn_listAt (mD X.K B sh d) p1.isList (w4 I i (A:=X.A.in1) j k p n e g (by show X.A.units+1+_<XT;lia)) ⟨.bl _,H,I,rfl,q _ (w3 j k e g)⟩
 obtain⟨a,r,rfl,l,e⟩:=b.eV;cases o;obtain⟨m,g,p1,_⟩:=I.tuple (e0.of (i _ _ l));exact SeqAt.notIn_tupleAt (mD X.K B sh d) p1 (w4 I i (A:=X.A.in1) j k p n e g (by show X.A.units+1+_<XT;lia)) ⟨.bl _,H,I,rfl,q _ (w3 j k e g)⟩
end
section
variable{K:Su}{X:aU}{a b:Wp}{c d:bb}{f:Pos}
def um(g:Bool)(c d:bb):bb:=λe k=>c e λx=>d e λy=>∃sh,has sh x=true/\has sh y=true/\jH sh<=50/\k (.bl (if g then !eqD x y else eqD x y))
def BP(i:Bool)(c d:bb):bb:=λh k=>c h λx=>d h λy=>∃sh g,(y=.lst g\/y=.tup g)/\has sh x=true/\(∀e∈g,has sh e=true)/\jH sh<=50/\∀b:Bool,(b=true↔x∈g)->k (.bl (if i then !b else b))
theorem BQ{a b:bI}{f:Bool}(g:fu K a c)(i:fu K b d):fu K (ol (BM K f) a b) (um f c d):=
 ss g i λx y k h R W B H r s v w Q e j l q=>by
  obtain⟨sh,m,n,o,p⟩:=h;exact⟨B,x,y,sh,j,l,e.bh,m,n,o,q _ _ B H p e (bx.refl _ _) (.bl _)⟩
theorem GK{f g:bI}{i:Bool}(l:fu K f c)(a:fu K g d):fu K (ol (BN K i) f g) (BP i c d):=
 ss l a λx y k h R W B H u z v w Q e m j q=>by
  obtain⟨sh,n,o,p,r,s,t⟩:=h;refine⟨B,x,n,sh,m,?_,e.bh,p,r,s,λb a=>q _ _ B H (t b a) e (bx.refl _ _) (.bl _)⟩;rcases o with rfl|rfl
  ·exact .inl j
  exact .inr j
theorem w5(e:X.A.units+64<XT)(g:bt X a c)(h:bt X b d)(i:XJ .Eq b=false):bt X (.Compare a [.Eq] [b] f) (um false c d):=by
 obtain⟨_,j,k⟩:=g;obtain⟨_,l,m⟩:=h;exact⟨_,AU (GI e) j l i,BQ k m⟩
theorem BR(e:X.A.units+64<XT)(g:bt X a c)(h:bt X b d)(i:XJ .Eq b=false):hU X (.Compare a [.Eq] [b] f) (jd (um false c d)):=by
 obtain⟨_,j,k⟩:=g;obtain⟨_,l,m⟩:=h;exact⟨_,qJ (GI e) j l i,uc (BQ k m)⟩
theorem w6(e:X.A.units+64<XT)(g:bt X a c)(h:bt X b d)(i:XJ .NotEq b=false):hU X (.Compare a [.NotEq] [b] f) (jd (um true c d)):=by
 obtain⟨_,j,k⟩:=g;obtain⟨_,l,m⟩:=h;exact⟨_,qJ (Qg e) j l i,uc (BQ k m)⟩
theorem GL(e:X.A.units+64<XT)(g:bt X a c)(h:bt X b d)(i:XJ .NotIn b=false):bt X (.Compare a [.NotIn] [b] f) (BP true c d):=by
 obtain⟨_,j,k⟩:=g;obtain⟨_,l,m⟩:=h;exact⟨_,AU (Qj e) j l i,GK k m⟩
theorem GM(e:X.A.units+64<XT)(g:bt X a c)(h:bt X b d)(i:XJ .In b=false):hU X (.Compare a [.In] [b] f) (jd (BP false c d)):=by
 obtain⟨_,j,k⟩:=g;obtain⟨_,l,m⟩:=h;exact⟨_,qJ (Qi e) j l i,uc (GK k m)⟩
end
theorem Qk{K:Su}{P:WP}{w:XB}{y:Str->Option SL}{d:XG}{x b:Str}{st:XF}{f:TD}{C:X7}{N l:ZX}{lv n:Nat}{F:b7}(L:nu K x b st f C)(S:cy N l (bL st))(M:l.length=n)(O:∀(c:SL)(A:XC)(a:List Tu)(s:Tk)(H:al)(E:g0),ew lv (A.deeper (U4 b (bL st) s.heap.objs.size f c))->∃u,hF (k0 j4 P w K y d N b (bL st) f c A a s H E).jn (j3 st) u/\∀i k,i.length=n->F i k->u {nx:=λ_=>k (.val .non),rt:=k} (i++SR (N.length-n) .no)):kB P w K y d j4 (lv+1) f C l (cj K n F):=by
 refine L.ok S (λI H Q E h=>?_) (λc A a s H I Q E R h=>?_)
 ·obtain⟨W,B,i,k,_,j,_,_,_,m,_⟩:=h;rw[m.length,j,M]
 obtain⟨W,B,i,k,T,j,U,X,Y,m,q⟩:=h;obtain⟨u,⟨t,Z,G⟩,h1⟩:=O c A a s H E R;have J:=aL.start (N:=N) (Vh U) X Y m;rw[j]at J;refine⟨t,Z,G _ _ (h1 i k j T) H W B H (L3.fi N I) _ J ⟨λhi ae o p h e g=>?_,λ_ _ _ _ h=>h.elim,λ_ _ _ _ h=>h.elim,λr v o p h e g z=>q r v o p h ⟨e,g,z⟩⟩⟩;exact q _ _ o p h ⟨e.toWd,g,.non⟩
def w7(K:Su):iU:=λc H Q _=>∃(a:TD)(b:ZM),c=[.ref a]/\cE K H a (b.map V.int)/\b.length<=63/\∀d,Q (.bl true) d
def GN:b7:=λb k=>∃a:ZM,b=[.val (.scr a)]/\a.length<=63/\k (.val (.bl true))
theorem Ql{K:Su}{b:ZQ}{H:al}{Q:cn}{E:g0}(h:w7 K b H Q E):cj K 1 GN b H Q E:=by
 obtain⟨a,c,rfl,d,e,q⟩:=h;refine⟨λ_=>False,H,[.val (.scr c)],λr=>r=.val (.bl true),⟨c,rfl,e,rfl⟩,rfl,rfl,ci.refl _,λ_ z=>z.elim,.val (.scr d) .nil,λr v j f g i=>?_⟩;subst g;have:=i.res;rw[bG.j9 this];exact q f
def GO(K:Su):iU:=λb H Q _=>∃(a:TD)(k:Int)(c:ZM),b=[.ref a,.int k]/\cE K H a (c.map V.int)/\0<=k/\∀z,Q (.int z) H
def GP:b7:=λa k=>∃(b:ZM)(i:Int),a=[.val (.scr b),.val (.int i)]/\0<=i/\∀z:Int,k (.val (.int z))
theorem Wd.entry{H B:al}{W:TD->Prop}(c:ci B H)(b:∀a,W a->B a=none/\ft H a):Wd H W B H:=
 ⟨λ_ _ h _=>h,c,λa h=>(b a h).1,λa h=>(b a h).2,λa h=>by obtain⟨x,y,q,_⟩:=(b a h).2;rw[q];simp⟩
theorem Qm{K:Su}{c:ZQ}{H:al}{Q:cn}{E:g0}(h:cj K 2 GP c H Q E):GO K c H Q E:=by
 obtain⟨W,B,o,k,⟨e,i,rfl,f,g⟩,p,r,d,j,b,q⟩:=h;cases b with
 |val l b=>cases b with
  |val m b=>
   cases b;obtain⟨a,rfl,n⟩:=l.lg;cases m.et;exact⟨a,i,e,rfl,d.seq n,f,λz=>q _ _ B H (g z) ⟨Wd.entry d j,bx.refl _ _,.int z⟩⟩
def GQ:iU:=λa H Q _=>∃c:Int,a=[.int c]/\∀(b:TD)(x y:Int),H b=none->0<=x->0<=y->y<2147483647->Q (.ref b) (ed H b (.lst [.int x,.int y]))
def GR:b7:=λa k=>∃c:Int,a=[.val (.int c)]/\k .bag
theorem Qn{K:Su}{e:ZQ}{H:al}{Q:cn}{E:g0}(h:cj K 1 GR e H Q E):GQ e H Q E:=by
 obtain⟨W,B,p,k,⟨c,rfl,g⟩,r,s,i,j,a,q⟩:=h;cases a with
 |val l a=>
  cases a;cases l.et;refine⟨c,rfl,λb x y d m n o=>?_⟩;have f:=Wd.entry i j;exact q .bag _ B _ g ⟨f.ey d _,bx.refl _ _,b,rfl,d,(f.fresh d).2.2,x,y,dx,m,n,o⟩
def GS(a:Nat):iU:=λd H Q _=>∃(b:TD)(m:Int),d=[.ref b,.int m]/\ft H b/\0<m/\SB m<=a/\∀(r:Int)(c:al),ny b H c->ft c b->0<=r->r<m->Q (.int r) c
def GT(a:Nat):b7:=λb k=>∃m:Int,b=[.bag,.val (.int m)]/\0<m/\SB m<=a/\∀r:Int,0<=r->r<m->k (.val (.int r))
theorem Qo{K:Su}{d:Nat}{n:ZQ}{H:al}{Q:cn}{E:g0}(h:cj K 2 (GT d) n H Q E):GS d n H Q E:=by
 obtain⟨W,B,I,k,⟨m,rfl,t,u,v⟩,J,L,p,g,f,q⟩:=h;cases f with
 |bag i f=>cases f with
  |val w f=>
   cases f;cases w.et
   rename_i b
   refine⟨b,m,rfl,(g b i).2,t,u,λr A j C F G=>?_⟩;have s:=Wd.entry p g;refine q _ _ B A (v r F G) ⟨⟨λa o c l=>j a o (by rintro rfl;exact l i) c,λa o c=>j a o (by rintro rfl;rw[(g _ i).1]at c;cases c) (p a o c),s.wb,λa z=>?_,s.wr⟩,bx.refl _ _,.int r⟩;by_cases e:a=b
   ·subst e;exact C
   obtain⟨x,y,c,l⟩:=(g a z).2;exact⟨x,y,j a _ e c,l⟩
theorem oD{c:Bool}{A B:Prop}(h:c=true)(a:A):if c=true then A else B:=by rw[SZ h];exact a
theorem nG{c:Bool}{A B:Prop}(h:c=false)(b:B):if c=true then A else B:=by rw[h,Tl SW];exact b
theorem cY{u:cA}{U:hE}{a r:ZN}(e:a=r)(h:u U r):u U a:=by rw[e];exact h
theorem nH{s t:cA}{U:hE}{b:ZN}(first:∀N:ZN->Prop,N b->s {U with nx:=N} b)(a:t U b):oA s t U b:=first (t U) a
theorem jg{s t:cA}{U:hE}{c:ZN}(I:ZN->Prop)(a:∀b,I b->t U b)(first:∀N:ZN->Prop,(∀b,I b->N b)->s {U with nx:=N} c):oA s t U c:=first _ a
section
variable{X:aU}
theorem gs{a cs:List (Str×TD)}(h:∀p∈a,cs.lookup p.1=some p.2):∀y c,a.lookup y=some c->cs.lookup y=some c:=λy c e=>h (y,c) (Ur e)
theorem gG{a:List (Str×Zi)}{b:List (Str×TD)}(h:(a.all λp => !(p.2==.cell||p.2==.free)||(b.lookup p.1).isSome)=true):∀y,(a.lookup y=some .cell\/a.lookup y=some .free)->∃c,b.lookup y=some c:=λy e=>by
 have key:∀k:Zi,(k==.cell||k==.free)=true->a.lookup y=some k->∃c,b.lookup y=some c:=λk d e=>by
  have q:=Ux.mp h (y,k) (Ur e);have q:(!(k==.cell||k==.free)||(b.lookup y).isSome)=true:=q;rw[d]at q;exact VI.mp (by simpa using q)
 rcases e with e|e
 ·exact key _ rfl e
 exact key _ rfl e
end
def lO(X:aU)(c:Z0)(d:eh):Prop:=∀(b:Z2)(s:Tk)(a:St)(H:al)(Q:Bool->al->Prop),c_ X b a H s->d a H Q->
 wpAny (UV X.prog X.w) X.A (forIn c true λt r=>if r=true then do let z <-Zh t X.env (Yp t X.env);pure (Vj z)else pure (Vj r)) (v9 X b a Q) X.xe s
def Qp:eh:=λ_ H Q=>Q true H
theorem Qq{X:aU}:lO X [] Qp:=λ_ _ _ H _ I h=>wpAny_tests_nil ⟨H,I,h⟩
theorem Qr{X:aU}{c:Wp}{a:eh}(h:j1 X c a):lO X [c] a:=λb s d H Q I q=>wpAny_tests_one (h b s d H Q I q)
def Qs(J:hx)(g:fN)(k:eh)(l:bI)(n:St)(D:TD)(o:al)(Q:cn):Prop:=∃W:Nat->Nat->St->al->Prop,(∃m,W 0 m n (ed o D (.lst [])))/\∀i m e H,W i m e H->
 (J.stop i H/\Q (.ref D) H)\/(J.go i H/\∀x f,J.kN i H x f->g x e f λc p=>k c p λb h=>if b=true then l c h λy j=>∃d,j D=some (.lst d)/\d.length<TI/\∃a,a<m/\W (i+1) a c (ed j D (.lst (d++[y])))else ∃a,a<m/\W (i+1) a c h)
def w8(c:gQ)(g:fN)(d:eh)(e:bI)(f:Nat)(h:ZT):bI:=λa H Q=>c a H λJ b=>∀D,b D=none->Qs J g d e (SR f none++iv a h) D b Q
abbrev jJ:=St->al->(St->al->Prop)->Prop
def q3(Y:aU)(f:Sem Fin->Sem Fin)(em:jJ):Prop:=∀(a:Z2)(s:Tk)(b:St)(H:al)(Q:St->al->Prop)(k:Sem Fin)(R:Fin->Tk->Prop)(E:SL->Tk->Prop),c_ Y a b H s->em b H Q->
 (∀c d e,c_ Y a d e c->Q d e->wpAny (UV Y.prog Y.w) Y.A k R E c)->wpAny (UV Y.prog Y.w) Y.A (f k) R E s
noncomputable def pL(e:Wp)(d:Nat)(g f:Wp)(h:Z0)(i:Sem Fin->Sem Fin)(c b:SL)(a:Tu):Sem Fin:=
 YU f.pos >>= λ_=>YW c >>= λr=>match r with
  |none=>pure (Fin.done .next)
  |some v=>Yt g c v >>= λ_=>Y8 g a v >>= λ_=>
   (forIn h true λt r=>if r=true then do let z <-Zh t a (Yp t a);pure (Vj z)else pure (Vj r)) >>= λok=>
    if ok=true then i (again (.compLoop e d c b a))else again (.compLoop e d c b a)
noncomputable def BU(c:Wp)(a:SL)(b:Tu)(k:Sem Fin):Sem Fin:=(Yp c b >>= λx=>call (.builtin "list.append") [a,x] >>= λ_=>pure ()) >>= λ_=>k
noncomputable def BV(e:Wp)(d:Nat)(b:Wp)(c:SL)(a:Tu)(k:Sem Fin):Sem Fin:=
 Yp b a >>= λx=>YU b.pos >>= λ_=>WF b a x >>= λx=>Yz [x] (ZF x) >>= λi=>runOwn (.compStart e d i c a) a >>= λ_=>k
section
variable{h g e f c n l:Wp}{d i m:Z0}{sc:XZ}{j:Pos}{k a:SL}{b:Tu}
theorem Qt:YK (.ListComp h [⟨g,e,d,0⟩,⟨f,c,i,0⟩] sc j) 0 k a b=pL (.ListComp h [⟨g,e,d,0⟩,⟨f,c,i,0⟩] sc j) 0 g e d (BV (.ListComp h [⟨g,e,d,0⟩,⟨f,c,i,0⟩] sc j) 1 c a b) k a b:=by rfl
theorem Qu:YK (.ListComp h [⟨g,e,d,0⟩,⟨f,c,i,0⟩] sc j) 1 k a b=pL (.ListComp h [⟨g,e,d,0⟩,⟨f,c,i,0⟩] sc j) 1 f c i (BU h a b) k a b:=by rfl
end
section
variable{Y:aU}{f o j:Wp}{a:List YL}{t:Z0}{sc:XZ}{l:Pos}{d:Nat}{c:SL}{F:gQ}{g:fN}{p:eh}{C:bI}{em:jJ}{B:Sem Fin->Sem Fin}
def w9(C:bI)(D:TD):jJ:=λe H Q=>C e H λy h=>∃b,h D=some (.lst b)/\b.length<TI/\Q e (ed h D (.lst (b++[y])))
def uo(J:hx)(g:fN)(p:eh)(em:jJ)(W:Nat->Nat->St->al->Prop)(r:St->al->Prop):Prop:=∀i m h H,W i m h H->
 (J.stop i H/\r h H)\/(J.go i H/\∀x n,J.kN i H x n->g x h n λk s=>p k s λb q=>if b=true then em k q λu v=>∃e,e<m/\W (i+1) e u v else ∃e,e<m/\W (i+1) e k q)
def GU(F:gQ)(g:fN)(p:eh)(em:jJ):jJ:=λb H Q=>F b H λJ e=>∃W:Nat->Nat->St->al->Prop,(∃m,W 0 m b e)/\uo J g p em W Q
theorem GV{G:TD}{J:hx}{x:ZZ}{N:Nat->XG->Prop}(aE:YK (.ListComp f a sc l) d (.ref G) c Y.env=pL (.ListComp f a sc l) d o j t B (.ref G) c Y.env)(T:pl Y.prog Y.w Y.K o J x G N)(aq:∀e s,¬Y.xe e s)(ar:Y.calm=true)(aF:i' Y o g)(aH:lO Y t p)(aI:q3 Y B em){h:Z2}{W:Nat->Nat->St->al->Prop}{QS:St->al->Prop}{au:Nat}{s:Tk}{S:St}{H:al}(I:c_ Y h S H s)(st:N 0 s.heap)(av:∀b∈x,g2 Y h H b)(aJ:W 0 au S H)(L:uo J g p em W QS){R:ZG->Tk->Prop}(aK:∀y k H',c_ Y h k H' y->QS k H'->R (.ok .next) y):
  codeAny (UV Y.prog Y.w) Y.A (.compLoop (.ListComp f a sc l) d (.ref G) c Y.env) R s:=by
 have U:∀{H':al},(∀b∈x,H' b=none)->∀b∈x,g2 Y h H' b:=λaN b m=>⟨aN b m,(av b m).2⟩;refine codeAny_loop rfl (λn y=>∃i k H',c_ Y h k H' y/\N i y.heap/\(∀b∈x,H' b=none)/\W i n k H') (λn X aM=>?_) au ⟨0,S,H,I,st,λb m=>(av b m).1,aJ⟩;show wpAny _ Y.A (Sem.onRaise (YK (.ListComp f a sc l) d (.ref G) c Y.env) _) _ _ X
 rw[aE];unfold pL;refine wpAny_noted (wp (X1 (wp ?_)));obtain⟨i,O,Z,aw,ax,ay,aQ⟩:=aM;rcases L i n O Z aQ with⟨stop,q⟩|⟨aR,step⟩
 ·refine XK (T.done Y rfl rfl rfl ar i h X O Z (λ_ _=>False) aw (U ay) ax stop) (λr aV ⟨h1,aW⟩=>?_) (λ_ _ z=>z.elim);subst h1;exact SC (aK _ _ _ aW q)
 refine XK (T.item Y rfl rfl rfl ar i h X O Z (λ_ _=>False) aw (U ay) ax aR) (λr aV ⟨u,h1,aZ⟩=>?_) (λ_ _ z=>z.elim);subst h1;refine wp (XK aZ (λ_ az ⟨v,aB,aY,a0,a3,aa,a5⟩=>?_) (λ_ _ z=>z.elim));have a6:=aY.pinned (U a5) (T.obj _ _ aa)
 have back:∀{C:Tk}{P:St}{E:al}{hi:Nat},c_ Y (h++tU x az.heap) P E C->W (i+1) hi P E->∃i k H',c_ Y h k H' C/\N i C.heap/\(∀b∈x,H' b=none)/\W i hi k H':=λ{C P E hi} F M=>by
  refine⟨i+1,P,E,F.e9,T.keep _ _ _ aa λb m ae ag=>(F.pin (b,ae) (S2 _ (S2 _ (wl m ag)))).1,λb m=>?_,M⟩;obtain⟨ae,ag,_⟩:=T.obj _ _ aa b m;exact(F.pin (b,ae) (S2 _ (S2 _ (wl m ag)))).2.1
 refine wp (XK (aF _ az O aB v u _ a6 a0 (step v aB a3)) (λ_ a7 ⟨aD,a',bc,bg⟩=>?_) (λ_ _ z=>(aq _ _ z).elim));refine wp (XK (aH _ a7 aD a' _ bc bg) (λb C ⟨E,F,Q⟩=>?_) (λ_ _ z=>(aq _ _ z).elim));cases b with
 |false=>
  rw[Tl SW]at Q⊢;obtain⟨ai,ao,M⟩:=Q;exact SC ⟨rfl,ai,ao,back F M⟩
 |true=>
  rw[SZ rfl]at Q⊢;refine aI _ C aD E _ _ _ _ F Q λy k H' bj bq=>?_;obtain⟨ai,ao,M⟩:=bq;exact SC ⟨rfl,ai,ao,back bj M⟩
theorem BX{D:TD}(i:bP Y f C)(a:∀e s,¬Y.xe e s):q3 Y (BU f (.ref D) Y.env) (w9 C D):=by
 intro b s c H Q k R E I h j;unfold BU;refine wp (wp (XK (i b s c H _ I h) (λl m ⟨y,d,n,o,g,p,q,r⟩=>?_) (λ_ _ z=>(a _ _ z).elim)));have mt:=wB (X:=Y) b m c d (.ref D) [y] (.ref D) [l] (λ_ t=>t=ed d D (.lst (g++[y]))) n rfl (.cons o .nil) ⟨D,g,y,rfl,rfl,p,q,rfl⟩;refine wp (XK mt (λ_ u ⟨_,v,w,_,x⟩=>?_) (λ_ _ z=>(a _ _ z).elim));subst x;exact SC (j _ _ _ w r)
theorem QM{R:ZG->Tk->Prop}{s:Tk}{e:SL}{b:Tu}{P:WP}{w:XB}{A:XC}(k:a[d]?=some ⟨o,j,t,0⟩)(m:codeAny (UV P w) A (.compLoop (.ListComp f a sc l) d e c b) R s)(h:∀E,wpAny (UV P w) A (ZF e) (λn g=>codeAny (UV P w) A (.compLoop (.ListComp f a sc l) d n c b) R g) E s):
  codeAny (UV P w) A (.compStart (.ListComp f a sc l) d e c b) R s:=by
 apply codeAny_of_tree;show wpAny _ A (Sem.onRaise (WJ (.ListComp f a sc l) d e c b) _) _ _ s
 apply wpAny_notedAt;unfold WJ;rw[show clausesOf (.ListComp f a sc l)=a from rfl,k];show wpAny _ _ (ask >>= _) _ _ s
 refine wp (wpAny_askSetting (wpAny_ite ?_));split
 ·exact wp (SC (SC ⟨rfl,m⟩))
 refine wp (Yg (wp (X1 ?_)));exact wp (XK (h _) (λi g q=>SC ⟨rfl,q⟩) λ_ _ z=>z)
theorem QO(G:iR Y o j F)(K:i' Y o g)(L:lO Y t p)(M:q3 Y B em)(m:∀e s,¬Y.xe e s)(N:Y.calm=true)(O:∀v,WF j Y.env v=pure v)(P:a[d]?=some ⟨o,j,t,0⟩)(S:∀i,YK (.ListComp f a sc l) d i c Y.env=pL (.ListComp f a sc l) d o j t B i c Y.env):
  q3 Y (BV (.ListComp f a sc l) d j c Y.env) (GU F g p em):=by
 intro n s U H Q k R E I h q;unfold BV;refine wp (XK (G n s U H _ I h) (λv ar X=>?_) (λ_ _ z=>(m _ _ z).elim));refine wp (X1 (wp (Zf (O v) (wp (Xy (XK X (λau Z ae=>?_) (λ_ _ z=>(m _ _ z).elim)))))));obtain⟨i,aw,ax,J,ay,rfl,af,T,r,ag,W,⟨az,ao⟩,b⟩:=ae;refine wp (wpAny_runOwn ?_);have u:∀R:ZG->Tk->Prop,(∀x y C,c_ Y n y C x->Q y C->R (.ok .next) x)->codeAny (UV Y.prog Y.w) Y.A (.compLoop (.ListComp f a sc l) d (.ref i) c Y.env) R Z:=λR aq=>GV (S _) T m N K L M af r ag ao b aq;exact QM P (u _ q) λE=>T.self _ 0 _ _ _ r (u _ q)
end
section
variable{X:aU}
structure oF(X:aU)(scope:XZ)(bJ:List (Str×TD))(fr:ZX)(js:ZT):Prop where
 kD:Zs scope X.env=pure bJ
 cell:∀y∈scope.names,y.2≠.cell
 kind:scope.kind=.function
 names:∀y∈scope.names,y.2=.local->scope.names.lookup y.1=some .local
 sub:∀y c,bJ.lookup y=some c->X.env.cells.lookup y=some c
 has:∀y,((relabel scope X.env).names.lookup y=some .cell\/(relabel scope X.env).names.lookup y=some .free)->∃c,bJ.lookup y=some c
 nW:∀(i:Nat)(y:Str),fr[i]?=some y->∃j:Nat,js[i]?=some j/\X.N[j]?=some y/\X.env.kindOf y=some .cell/\((relabel scope X.env).names.lookup y=some .cell\/(relabel scope X.env).names.lookup y=some .free)/\∃c,bJ.lookup y=some c
 len:js.length=fr.length
end
def QP(J:hx)(g:fN)(a:eh)(em:TD->jJ)(b:St)(D:TD)(c:al)(Q:cn):Prop:=∃W:Nat->Nat->St->al->Prop,(∃m,W 0 m b (ed c D (.lst [])))/\uo J g a (em D) W λ_ H=>Q (.ref D) H
def xb(c:gQ)(g:fN)(d:eh)(em:TD->jJ)(e:Nat)(f:ZT):bI:=λa H Q=>c a H λJ b=>∀D,b D=none->QP J g d em (SR e none++iv a f) D b Q
section
variable{X:aU}
theorem GY{aB M P:Wp}{n:List YL}{Z:Z0}{G:Pos}{a:XZ}{B:List (Str×TD)}{E K:ZX}{aR:ZT}{br:gQ}{g:fN}{bC:eh}{em:TD->jJ}{bF:SL->Tu->Sem Fin->Sem Fin}{use:Option (SL->Sem Unit)}{RQ:SL->Tk->Prop}{QE:cn}(x1:iR X P M br)(cg:∀C s H aF,i' (d5 X (E++K) a B C s H aF) P g)(ck:∀C s H aF,lO (d5 X (E++K) a B C s H aF) Z bC)(cm:∀D C s H aF,q3 (d5 X (E++K) a B C s H aF) (bF (.ref D) (Y4 a B C X.env)) (em D))(cz:∀aH acc env,YK (.ListComp aB (⟨P,M,Z,0⟩::n) a G) 0 aH acc env=pL (.ListComp aB (⟨P,M,Z,0⟩::n) a G) 0 P M Z (bF acc env) aH acc env)(F:oF X a B K aR)(k':X.calm=true)(cG:∀v,WF M X.env v=pure v){au:Z2}{s:Tk}{N:St}{H:al}(I:c_ X au N H s)(h:xb br g bC em E.length aR N H QE)(bK:Sem SL)(cP:bK=newList [])(cS:Pos)(cT:∀(D C:TD)(Q:al)(R:Tk)(m:Str->Option SL),R.heap.Ns C m->Q C=none->C≠X.env.locals->X.s₀.heap.objs.size<=C->(∀x c,X.env.cells.lookup x=some c->c≠C)->(∀p∈X.pn++au,p.1≠C)->C∉X.fs->(∀h':XG,(∀b u,b≠C->R.heap.get? b=some u->h'.get? b=some u)->c_ X au N Q {R with heap:=h' })->QE (.ref D) Q->compPost (UV X.prog X.w) X.A X.xe use RQ (.ref D) C (.ok .next) R):
  wpAny (UV X.prog X.w) X.A (comprehension (.ListComp aB (⟨P,M,Z,0⟩::n) a G) a X.env cS bK false (Yp M X.env) use) RQ X.xe s:=by
 refine wpAny_comprehension_free (use:=use) rfl cG F.kD F.kind F.names (cp (x1 au s N H _ I h) λdY d0 aw=>cp aw λd1 L a3=>?_);obtain⟨aH,O,cW,J,a5,rfl,bQ,T,aI,bR,a3⟩:=a3;have bS:a5 L.heap.objs.size=none:=bQ.fresh;obtain⟨W,⟨d6,a6⟩,S⟩:=a3 _ bS;rw[cP];refine W1 ?_;have d:c_ X au N (ed a5 L.heap.objs.size (.lst [])) {L with heap:=L.heap.push {cls:=.type "list",data:=.seq ([]:ZY).toArray} }:=bQ.mb (t':=L.toks) (its:=[]) .nil v3;generalize c7:({L with heap:=L.heap.push {cls:=.type "list",data:=.seq ([]:ZY).toArray} }:Tk)=f at d;have bV:f.heap=L.heap.push {cls:=.type "list",data:=.seq ([]:ZY).toArray}:=by rw[<-c7]
 generalize bW:ed a5 L.heap.objs.size (.lst [])=aj at d a6;generalize c8:L.heap.objs.size=D at bS bW a6 S;have a7:∀b o,L.heap.get? b=some o->f.heap.get? b=some o:=λb o e=>by rw[bV];exact Heap.get?_push_of_some _ e
 have ay:∀b∈O,g2 X au aj b:=λb k=>by
  obtain⟨o,aT,_⟩:=T.obj _ _ aI b k;have lt:=Heap.lt_size aT;refine⟨?_,(bR b k).2⟩;rw[<-bW,bO (by rw[<-c8];exact S6 lt)];exact(bR b k).1
 refine Y7 F.cell (by intro y bc;simp at bc) (λaw c9 tb=>?_) F.kind;have df:f.heap.get? f.heap.objs.size=none:=Heap.get?_none_of_le (SD _);have az:∀b o,f.heap.get? b=some o->aw.get? b=some o:=λb o e=>tb.extBut b o (S6 (Heap.lt_size e)) (Heap.get?_push_of_some _ e);show codeAny (UV X.prog X.w) X.A (.compStart (.ListComp aB (⟨P,M,Z,0⟩::n) a G) 0 (.ref aH) (.ref D) (Y4 a B f.heap.objs.size X.env)) (compPost (UV X.prog X.w) X.A X.xe use RQ (.ref D) f.heap.objs.size) _
 have ok:(d5 X (E++K) a B f.heap.objs.size f aj O).Ok:=by
  refine⟨d.ok.mod,F.kind,d.ok.glob,d.ok.blt,SD _,λy z c U t=>d.ok.inj y z c (F.sub _ _ U) (F.sub _ _ t),λy bc=>F.has y bc,λy c z=>absurd z SW,d.ok.hd,d.ok.frames,.inl rfl,λb k=>?_,d.bs,Sy d.ok.j5 d.sz,
   λb o e k=>?_,λb k dg=>?_,d.stack,d.gu,d.tabs⟩
  ·obtain⟨o,aT,_⟩:=T.obj _ _ aI b k;exact⟨S6 (Heap.lt_size (a7 b o aT)),λy c e=>(ay b k).2.2.2.2.1 y c (F.sub _ _ e)⟩
  ·obtain⟨_,_,_,z,_⟩:=ay b k;rcases z with z|z
   ·exact d.ok.jD b o e z
   exact absurd (Ta (Heap.lt_size (d.ok.bs b o e).1) z) (TS _)
  rcases SH.mp (d.gr b dg)with z|z
  ·exact(ay b k).2.1 z
  exact(ay b k).2.2.1 z
 have dh:∀(bq:XG),(∀b u,f.heap.get? b=some u->bq.get? b=some u)->∀(i:Nat)(y:Str)(v:V),K[i]?=some y->(iv N aR)[i]?=some (some v)->∃u,eb v u/\∀m,mG (Y4 a B f.heap.objs.size X.env) bq m y u:=λbq dj i y v U t=>by
  obtain⟨j,dk,dm,bX,dv,c,bY⟩:=F.nW i y U
  have dB:N[j]?=some (some v):=by
   unfold iv at t;rw[SP,dk,UL]at t;have t:=SN t;cases q:N[j]? with
   |none=>rw[q]at t;simp at t
   |some z=>rw[q]at t;simpa using t
  obtain⟨m,aV,dG⟩:=d.loc;obtain⟨u,r,l⟩:=dG j y v dm dB (.inr (.inl bX));refine⟨u,r,λd7=>.inr ⟨dv,c,bY,?_⟩⟩;rcases l with⟨z,_⟩|⟨_,d8,dJ,dM⟩
  ·rw[bX]at z;cases z
  have e:=F.sub _ _ bY;rw[dJ]at e;cases e;obtain⟨aW,aN,aY⟩:=dM;exact⟨aW,dj _ _ aN,aY⟩
 have bZ:c_ (d5 X (E++K) a B f.heap.objs.size f aj O) [] (SR E.length none++iv N aR) aj {f with heap:=aw,toks:=f.toks+([]:List (Str×SL)).length}:=by
  refine⟨ok,rfl,d.bare,f9.kept az,⟨_,c9,λi y v U t bV=>?_⟩,λy c e=>?_,d.fresh,λy c e=>d.e_ y c (F.sub _ _ e),λp aO=>absurd (show p∈([]:Z2)from aO) (by simp),d.eg.kept az,?_⟩
  ·by_cases b5:i<E.length
   ·rw[TH (by simpa using b5),Uh,SZ b5]at t;cases t
   have U:(E++K)[i]?=some y:=U;rw[To (by lia)]at U;rw[To (by simp;lia),T8]at t;obtain⟨u,r,l⟩:=dh aw az _ y v U t;exact⟨u,r,l _⟩
  ·obtain⟨v,aW,aN,aY⟩:=d.cell y c (F.sub _ _ e);exact⟨v,aW,az _ _ aN,aY⟩
  show _=(E++K).length
  rw[Sz,Sz,T8];unfold iv;rw[Sv,F.len]
 have dO:∀{b8:al},(∀b∈O,b8 b=none)->∀b∈O,g2 (d5 X (E++K) a B f.heap.objs.size f aj O) [] b8 b:=λaV b k=>by
  obtain⟨o,aT,_⟩:=T.obj _ _ aI b k;exact⟨aV b k,(ok.mN b k).1,ok.jO b k,.inl k,(ok.mN b k).2,λp aO=>absurd (show p∈([]:Z2)from aO) (by simp)⟩
 have loop:∀a0:Tk,a0={f with heap:=aw,toks:=f.toks+([]:List (Str×SL)).length}->
   codeAny (UV X.prog X.w) X.A (.compLoop (.ListComp aB (⟨P,M,Z,0⟩::n) a G) 0 (.ref aH) (.ref D) (Y4 a B f.heap.objs.size X.env)) (compPost (UV X.prog X.w) X.A X.xe use RQ (.ref D) f.heap.objs.size) a0:=by
  intro a0 b9;rw[<-b9]at bZ;have dP:cW 0 a0.heap:=T.keep _ _ _ aI λb _ o e=>by rw[b9];exact az b o (a7 b o e)
  refine GV (Y:=d5 X (E++K) a B f.heap.objs.size f aj O) (QS:=λ_ Q=>QE (.ref D) Q) (cz _ _ _) T (λ_ _ z=>z) k' (cg _ _ _ _) (ck _ _ _ _) (cm D _ _ _ _) bZ dP (dO λb k=>(ay b k).1) a6 S λR d9 Q aq q=>?_;obtain⟨m,aV,_⟩:=id aq.loc;refine cT D f.heap.objs.size Q R m aV aq.free (TU d.lt) d.sz (λy c e z=>?_) (λp aO z=>?_) (d.lq (SD _)) (λh' b'=>?_) q
  ·obtain⟨v,aW,aN,aY⟩:=d.cell y c e;exact absurd (Heap.lt_size aN) (by rw[z];exact TS _)
  ·exact absurd (Heap.lt_size (d.pin p aO).1) (by rw[z];exact TS _)
  refine d.kT (s':={R with heap:=h' }) (ch:=O) aq.os ((show f9 (frs X.stack) O aj Q f.heap R.heap from aq.base).but df b') (aq.eg.but aq.free b') aq.bare (λb k=>?_);obtain⟨_,dQ,_,dU,dW,dX⟩:=ay b k;exact⟨dU,dQ,dW,dX⟩
 exact codeAny_compStart_list (loop _ rfl) (T.self _ 0 _ _ _ (T.keep _ _ _ aI λb _ o e=>az b o (a7 b o e)) (loop _ rfl))
theorem QZ{o d f:Wp}{rest:List YL}{i:Z0}{c:Pos}{a:XZ}{j:List (Str×TD)}{l n:ZX}{p:ZT}{r:gQ}{g:fN}{t:eh}{em:TD->jJ}{w:SL->Tu->Sem Fin->Sem Fin}(y:iR X f d r)(z:∀C s H k,i' (d5 X (l++n) a j C s H k) f g)(A:∀C s H k,lO (d5 X (l++n) a j C s H k) i t)(B:∀D C s H k,q3 (d5 X (l++n) a j C s H k) (w (.ref D) (Y4 a j C X.env)) (em D))(E:∀x acc env,YK (.ListComp o (⟨f,d,i,0⟩::rest) a c) 0 x acc env=pL (.ListComp o (⟨f,d,i,0⟩::rest) a c) 0 f d i (w acc env) x acc env)(F:oF X a j n p)(G:X.calm=true)(J:∀v,WF d X.env v=pure v):bP X (.ListComp o (⟨f,d,i,0⟩::rest) a c) (xb r g t em l.length p):=by
 intro R s S H Q I h;rw[eval_ListComp];refine GY y z A B E F G J I h _ rfl _ λD C K T m L _ _ _ _ _ _ M q=>⟨m,L,λN O=>⟨.ref D,K,M N λb u P e=>O.extBut b u P e,rfl,q⟩⟩
end
section
variable{X:aU}
theorem G1{k d f:Wp}{rest:List YL}{j:Z0}{c:Pos}{a:XZ}{l:List (Str×TD)}{t w:ZX}{K:ZT}{M:gQ}{g:fN}{O:eh}{em:TD->jJ}{P:SL->Tu->Sem Fin->Sem Fin}{i:Nat}{y:Str}{x Q:Pos}(aj:X.N.Nodup)(ao:X.N[i]?=some y)(R:X.env.scope.names.lookup y=some .local)(ar:iR X f d M)(au:∀C s H n,i' (d5 X (t++w) a l C s H n) f g)(aw:∀C s H n,lO (d5 X (t++w) a l C s H n) j O)(ay:∀D C s H n,q3 (d5 X (t++w) a l C s H n) (P (.ref D) (Y4 a l C X.env)) (em D))(az:∀S acc env,YK (.ListComp k (⟨f,d,j,0⟩::rest) a c) 0 S acc env=pL (.ListComp k (⟨f,d,j,0⟩::rest) a c) 0 f d j (P acc env) S acc env)(F:oF X a l w K)(aB:X.calm=true)(aD:∀v,WF d X.env v=pure v)(aE:XE (.ListComp k (⟨f,d,j,0⟩::rest) a c) (some (.Name y x)) Q.line X.env=pure true):
  jz X (.Assign [.Name y x] (.ListComp k (⟨f,d,j,0⟩::rest) a c) Q) (wi (xb M g O em t.length K) (tR i)):=by
 intro B s E H D I h;rw[exec_Assign_Name_used _ _ _ _ aE];refine wp (X1 (wp ?_));show wpAny _ X.A (do let _ <-comprehension (.ListComp k (⟨f,d,j,0⟩::rest) a c) a X.env _ (newList []) false (Yp d X.env) (some (Y8 (.Name y x) X.env))) _ _ s
 refine wp (cp (GY (RQ:=λ_ T=>∃U W,c_ X B U W T/\D.nx U W) (QE:=λv aF=>tR i v E aF D.nx) ar au aw ay az F aB aD I h _ rfl _ ?_) λ_ T q=>SC (SC q));intro L C G J m aH Y Z aI aK aN aM aO q;obtain⟨o,aQ,aR,aT,h1,r⟩:=id aH;have aa:c_ X B E G J:=aO J.heap λb u _ e=>e
 have aV:c_ X (B++[(C,o)]) E G J:=aa.gv λp aW=>by
  rcases SO.mp aW with z|z
  ·exact aa.pin p (S2 _ z)
  have z:p=(C,o):=by simpa using z
  subst z;exact⟨aT,Y,Z,aM,λv z=>by rw[h1]at z;cases z⟩
 show wpAny _ X.A (Y8 (.Name y x) X.env (.ref L)) _ _ _
 refine wpAny_assign_Name (r6 aV aj ao (.inl R) (v:=.ref L) rfl (λag ai=>?_) (.inr R));have aZ:ag.heap.get? C=some o:=(ai.pin (C,o) (S2 _ (S2 _ (SQ.mpr rfl)))).1;refine⟨m,⟨o,aQ,aR,aZ,h1,r⟩,λa5 aY=>⟨_,G,?_,q⟩⟩;exact ai.e9.turned (t':=ag.toks) (λb u a0 e=>aY.extBut b u a0 e) Y Z (.inr aI) aK aN
end
section
variable{X:aU}
theorem G2{k f h:Wp}{l:Z0}{i:Pos}{a:XZ}{c:List (Str×TD)}{d e:ZX}{m:ZT}{n:gQ}{g:fN}{o:eh}{j:bI}(p:iR X h f n)(q:∀C s H b,i' (d5 X (d++e) a c C s H b) h g)(r:∀C s H b,lO (d5 X (d++e) a c C s H b) l o)(t:∀C s H b,bP (d5 X (d++e) a c C s H b) k j)(F:oF X a c e m)(u:X.calm=true)(w:∀v,WF f X.env v=pure v):bP X (.ListComp k [⟨h,f,l,0⟩] a i) (w8 n g o j d.length m):=
 QZ (rest:=[]) (em:=w9 j) p q r (λD C s H b=>BX (Y:=d5 X (d++e) a c C s H b) (t C s H b) λ_ _ z=>z) (λ_ _ _=>rfl) F u w
theorem Q3{k h j:Wp}{l:Z0}{c:Pos}{a:XZ}{d:List (Str×TD)}{e f:ZX}{n:ZT}{o:gQ}{g:fN}{p:eh}{m:bI}{i:Nat}{y:Str}{q r:Pos}(t:X.N.Nodup)(u:X.N[i]?=some y)(w:X.env.scope.names.lookup y=some .local)(x:iR X j h o)(A:∀C s H b,i' (d5 X (e++f) a d C s H b) j g)(B:∀C s H b,lO (d5 X (e++f) a d C s H b) l p)(E:∀C s H b,bP (d5 X (e++f) a d C s H b) k m)(F:oF X a d f n)(G:X.calm=true)(I:∀v,WF h X.env v=pure v)(J:XE (.ListComp k [⟨j,h,l,0⟩] a c) (some (.Name y q)) r.line X.env=pure true):
  jz X (.Assign [.Name y q] (.ListComp k [⟨j,h,l,0⟩] a c) r) (wi (w8 o g p m e.length n) (tR i)):=
 G1 (rest:=[]) (em:=w9 m) t u w x A B (λD C s H b=>BX (Y:=d5 X (e++f) a d C s H b) (E C s H b) λ_ _ z=>z) (λ_ _ _=>rfl) F G I J
end
def gH(g:eS)(c:dz)(u:bb):ZP->ZN->(ZP->Prop)->Prop
 |[],_,k=>k []
 |d::e,f,k=>g d f λa=>c a λb=>if b=true then u a λy=>gH g c u e a λh=>k (y::h)else gH g c u e a k
def hW:dz:=λ_ k=>k true
def uu(w:cK)(g:eS)(c:dz)(u:bb)(d:Nat)(e:ZT):cK:=λa k=>w a λb=>b.length<=TI/\gH g c u b (SR d .no++e.map (kc a)) k
section
variable{K:Su}{X:aU}{e:Wp}{S:Z0}{u:bb}{w:cK}{O p:Pos}
theorem B3{ρ:ZN}(j:Nat):kc ρ j=.no\/(∃d,kc ρ j=.val d/\ρ[j]?=some (.val d))\/(kc ρ j=.bag/\ρ[j]?=some .bag):=by
 unfold kc;split
 ·rename_i d a;exact .inr (.inl ⟨d,rfl,a⟩)
 ·rename_i a;exact .inr (.inr ⟨rfl,a⟩)
 exact .inl rfl
theorem aL.within{R:al}{W:TD->Prop}{B H:al}{k:St}{ρ:ZN}(e:aL K R W B H k ρ)(d:Nat){g:ZT}(C:g.Nodup):
  aL K H (λa=>∃j,j∈g/\k[j]?=some (some (.ref a))/\ρ[j]?=some .bag) B H (SR d none++iv k g) (SR d .no++g.map (kc ρ)):=by
 have t:∀(a:TD)(j:Nat),k[j]?=some (some (V.ref a))->ρ[j]?=some aA.bag->B a=none/\ft H a:=λa j o p=>by
  obtain⟨c,s,_,u,w⟩:=e.eo p;rw[o]at s;cases s;exact⟨u,w⟩
 refine⟨⟨λ_ _ z _=>z,e.bh,λa ⟨j,_,o,p⟩=>(t a j o p).1,λa ⟨j,_,o,p⟩=>(t a j o p).2,λa ⟨j,_,o,p⟩=>?_⟩,?_,λn Q h=>?_,λn m a b r=>?_⟩
 ·obtain⟨x,y,q,_⟩:=(t a j o p).2;rw[q];simp
 ·unfold iv;simp
 ·by_cases l:n<d
  ·rw[TH (by simpa using l),Uh,SZ l]at h;cases h;trivial
  rw[To (by simp;lia),T8,SP]at h;cases f:g[n-d]? with
  |none=>rw[f]at h;cases h
  |some j=>
   rw[f]at h;have h:=SN h
   have E:((SR d none++iv k g)[n]?).join=(k[j]?).join:=by
    rw[To (by simp;lia),T8];unfold iv;rw[SP,f];rfl
   rw[E,<-h];rcases B3 (ρ:=ρ) j with z|⟨A,z,i⟩|⟨z,i⟩<;>rw[z]
   ·trivial
   ·obtain⟨v,F,G⟩:=e.ok j _ i;exact⟨v,F,G⟩
   obtain⟨c,s,_,u,w⟩:=e.ok j _ i;exact⟨c,s,.inl ⟨j,Tb f,gd s,i⟩,u,w⟩
 have back:∀n,cc (SR d none++iv k g) (SR d .no++g.map (kc ρ)) n a->∃j,d<=n/\g[n-d]?=some j/\cc k ρ j a:=λn I=>by
  rcases I with⟨b,r⟩|⟨c,b,_⟩
  rotate_left
  ·by_cases l:n<d
   ·rw[TH (by simpa using l),Uh,SZ l]at b;cases b
   rw[To (by simp;lia),T8,SP]at b;cases f:g[n-d]? with
   |none=>rw[f]at b;cases b
   |some j=>
    rw[f,UL]at b;rcases B3 (ρ:=ρ) j with z|⟨A,z,i⟩|⟨z,i⟩<;>rw[z]at b<;>cases b
  by_cases l:n<d
  ·rw[TH (by simpa using l),Uh,SZ l]at b;cases b
  rw[To (by simp;lia),T8]at b;obtain⟨j,f,J⟩:=P6 b;rw[To (by simp;lia),T8,SP,f]at r;refine⟨j,by lia,f,.inl ⟨gd J.symm,.inl ?_⟩⟩;rcases B3 (ρ:=ρ) j with z|⟨A,z,i⟩|⟨z,i⟩
  ·rw[UL,z]at r;rcases r with q|⟨_,q⟩<;>cases q
  ·rw[UL,z]at r;rcases r with q|⟨_,q⟩<;>cases q
  exact i
 obtain⟨j,S,f,L⟩:=back n b;obtain⟨M,T,N,O⟩:=back m r;have:=e.sep j M a L O;subst this
 have P:n-d<g.length:=by
  by_cases z:n-d<g.length
  ·exact z
  rw[Td (by lia)]at f;cases f
 have:=(WK P C).mp (f.trans N.symm);lia
theorem xf{R:al}{W:TD->Prop}{B:al}{a:TD}{b:ZQ}(h:R a=some (.lst b))(c:¬W a):hT R W B a=some (.lst b):=by
 unfold hT;rw[h];dsimp only;rw[Tl c]
theorem B5{R:al}{W:TD->Prop}{B:al}{a:TD}(h:W a):hT R W B a=B a:=by
 unfold hT;split
 ·rw[SZ h]
 rfl
theorem xg{R:al}{W:TD->Prop}{B:al}{a:TD}(h:∀b,R a≠some (.lst b)):hT R W B a=B a:=by
 unfold hT;split
 ·rename_i b e;exact absurd e (h b)
 rfl
theorem B6{R:al}{W:TD->Prop}{B:al}{a:TD}{o:el}(h:hT R W B a=some o):B a=some o\/(¬W a/\R a=some o/\∃b,o=.lst b):=by
 unfold hT at h;split at h
 ·rename_i b e
  split at h
  ·exact .inl h
  rename_i z;cases h;exact .inr ⟨z,e,b,rfl⟩
 exact .inl h
theorem G3{R:al}{W:TD->Prop}{B H:al}(w:Wd R W B H):ci B (hT R W B):=λa o h=>by
 by_cases z:W a
 ·rw[B5 z];exact h
 by_cases q:∃b,R a=some (.lst b)
 ·obtain⟨b,q⟩:=q;have c:=w.fr a _ q z;rw[w.bh a o h]at c;cases c;exact xf q z
 rw[xg λb e=>q ⟨b,e⟩];exact h
theorem G4{R:al}{W:TD->Prop}{B H:al}(w:Wd R W B H):ci (hT R W B) H:=λa o h=>by
 rcases B6 h with h|⟨b,c,_⟩
 ·exact w.bh a o h
 exact w.fr a o c b
theorem xh{R:al}{W c:TD->Prop}{B d H:al}(w:Wd R W B H)(s:ci B d)(m:ci d H)(i:∀a,c a->R a≠none->W a)(j:∀a,c a->d a=none):ci (hT R W B) (hT H c d):=λa o h=>by
 have f:=G4 w a o h;rcases B6 h with h|⟨k,l,b,rfl⟩
 ·have g:=s a o h;by_cases z:c a
  ·rw[j a z]at g;cases g
  by_cases q:∃b,H a=some (.lst b)
  ·obtain⟨b,q⟩:=q;rw[f]at q;cases q;exact xf f z
  rw[xg λb e=>q ⟨b,e⟩];exact g
 exact xf f λz=>k (i a z (by rw[l];simp))
theorem aL.rebase{R:al}{W:TD->Prop}{B H:al}{f:St}{g:ZN}(e:aL K R W B H f g)(h:∀j a,cc f g j a->W a):aL K H W B H f g:=by
 refine⟨⟨λ_ _ z _=>z,e.bh,e.wb,e.wh,λa z=>by obtain⟨t,u,l,_⟩:=e.wh a z;rw[l];simp⟩,e.len,λj i b=>?_,e.sep⟩;have:=e.ok j i b;cases i with
 |no=>trivial
 |new d=>
  obtain⟨v,m,n⟩:=this;exact⟨v,m,n.mono (xh e.toWd (ci.refl _) e.bh (λ_ z _=>z) e.wb)⟩
 |pin v d=>exact⟨this.1,this.2.mono (xh e.toWd (ci.refl _) e.bh (λ_ z _=>z) e.wb)⟩
 |val d=>exact this
 |own o=>
  obtain⟨a,p,q,_⟩:=this;exact absurd q (e.wr a (h j a (.inl ⟨gd p,.inr ⟨o,b⟩⟩)))
 |deep c=>exact absurd (this.2.fr _ Sw).1 (e.wr _ (h j _ (.inr ⟨c,b,Sw⟩)))
 |bag=>
  obtain⟨c,k,w,r,s⟩:=this;exact⟨c,k,.inl (h j c (.inl ⟨gd k,.inl b⟩)),r,s⟩
theorem aL.fR{R:al}{W:TD->Prop}{B H h H':al}{i:St}{k:ZN}(e:aL K R W B H i k)(l:∀j a,cc i k j a->W a)(f:aL K H W h H' i k)(g:bx H B h):aL K R W h H' i k/\bx R B h:=by
 refine⟨⟨⟨λa o z r=>f.fr a o (e.fr a o z r) r,f.bh,f.wb,f.wh,e.wr⟩,f.len,λj t b=>?_,f.sep⟩,⟨g.s,λa o z=>?_⟩⟩
 ·have:=f.ok j t b;cases t with
  |no=>trivial
  |new d=>
   obtain⟨v,m,p⟩:=e.ok j _ b;exact⟨v,m,p.mono (wL g.s)⟩
  |pin v d=>
   obtain⟨m,p⟩:=e.ok j _ b;exact⟨m,p.mono (wL g.s)⟩
  |val d=>exact this
  |own w=>
   obtain⟨a,x,y,_⟩:=e.ok j _ b;exact absurd y (e.wr a (l j a (.inl ⟨gd x,.inr ⟨w,b⟩⟩)))
  |deep c=>exact absurd ((e.ek b).2.fr _ Sw).1 (e.wr _ (l j _ (.inr ⟨c,b,Sw⟩)))
  |bag=>
   obtain⟨c,u,E,A,C⟩:=this;exact⟨c,u,.inl (l j c (.inl ⟨gd u,.inl b⟩)),A,C⟩
 rcases g.n a o z with q|q
 ·exact .inl q
 exact .inr (e.toWd.fresh q).1
theorem G5{a3:gQ}{g:fN}{a5:eh}{a6:bI}{E:eS}{l:dz}{G:Nat}{t:ZT}(bR:sr K a3 w)(bS:oy K g E)(bV:ib K a5 l)(bW:fu K a6 u)(bX:t.Nodup):Bo K (w8 a3 g a5 a6 G t) (uu w E l u G t):=by
 intro I k h R W B H L Q e q;refine bR I _ h R W B H L _ e λf J bc az aE aa bY bZ=>?_;obtain⟨dg,aE⟩:=aE;intro D ae;obtain⟨b8,dh,b9⟩:=aa.toWd.fresh ae;have bj:∀i,¬cc L I i D:=λi m=>aa.eK ae m rfl;have ei:=aa.within G bX
 have aF:∀j a,cc (SR G none++iv L t) (SR G .no++t.map (kc I)) j a->∃j,j∈t/\L[j]?=some (some (V.ref a))/\I[j]?=some aA.bag:=λj a m=>by
  have aI:=(ei.en m).2;rcases m with⟨bq,z|⟨S,z⟩⟩|⟨c,z,b'⟩
  ·obtain⟨c,T,M,_⟩:=ei.eo z;rw[bq]at T;cases T;rcases M with M|M
   ·exact M
   exact absurd M aI
  ·obtain⟨c,T,M,_⟩:=ei.fa z;rw[bq]at T;cases T;exact absurd M aI
  exact absurd ((ei.ek z).2.fr a b').1 aI
 generalize br:(λa=>∃j,j∈t/\L[j]?=some (some (V.ref a))/\I[j]?=some aA.bag)=A at ei;have aF:∀j a,cc (SR G none++iv L t) (SR G .no++t.map (kc I)) j a->A a:=λj a m=>by rw[<-br];exact aF j a m
 have bz:∀a,A a->∃i:Nat,L[i]?=some (some (.ref a))/\I[i]?=some .bag:=λa z=>by
  rw[<-br]at z;obtain⟨j,_,z⟩:=z;exact⟨j,z⟩
 have aK:¬A D:=λz=>by
  obtain⟨x1,cg,ck⟩:=bz D z;exact bj x1 (.inl ⟨cg,.inl ck⟩)
 refine⟨λi m ai C=>∃aj p S U,m=f.length-i/\i<=f.length/\aL K az A aj C ai U/\bx az bc aj/\C D=some (.lst p)/\aj D=none/\(∀j a,cc ai U j a->A a)/\p.length<=i/\b_ K aj p S/\gH E l u (f.drop i) U λr=>k (S++r),
  ⟨f.length,bc,[],[],_,by simp,S9 _,ei.ey ae _,bx.refl _ _,dx,b9,aF,SD _,.nil,by simpa using aE⟩,?_⟩
 rintro i m ai bC ⟨ak,p,S,U,rfl,di,aN,X,hc,bF,cm,dj,aM,au⟩;obtain⟨cu,cz,k'⟩:=bZ bC (X.s.trans aN.bh) i;by_cases O:i<f.length
 ·refine .inr ⟨cu O,λx C y=>?_⟩;obtain⟨rfl,d,bJ,cF⟩:=k' x C O y
  have cG:f.drop i=d::f.drop (i+1):=by
   rw[Ul O];rw[SY O]at bJ;rw[SN bJ]
  rw[cG]at au;refine bS d U _ au az A ak C ai x _ aN (cF.mono X.s) λY aO cL aP cP=>?_;have P:∀j a,cc aO Y j a->A a:=λj a m=>cm j a (cP j a m)
  have aY:∀{N:al},bx C ak N->N D=none:=λ{N} F=>by
   cases cR:N D with
   |none=>rfl
   |some o=>
    rcases F.n D o cR with z|z
    ·rw[bF]at z;cases z
    rw[hc]at z;cases z
  refine bV Y _ cL C A ak C aO _ (aP.rebase P) λb N bK av Z F=>?_;have cS:bK D=some (.lst p):=Z.fr D _ hc aK;cases b with
  |false=>
   rw[Tl SW]at av⊢;obtain⟨ax,a0⟩:=aP.fR P Z F;exact⟨f.length-(i+1),by lia,N,p,S,Y,rfl,O,ax,X.trans a0,cS,aY F,P,by lia,aM.mono F.s,av⟩
  |true=>
   rw[SZ rfl]at av⊢;refine bW Y _ av C A N bK aO _ Z λcW v c0 c7 c8 ax a0 c9=>?_;have ay:=F.trans a0;have da:c7 D=some (.lst p):=ax.fr D _ hc aK;obtain⟨tb,de⟩:=aP.fR P ax ay;refine⟨p,da,by lia,f.length-(i+1),by lia,c0,p++[v],S++[cW],Y,rfl,O,tb.fT ae (aY ay) (λj m=>aK (P j D m)) _,X.trans de,dx,aY ay,P,by rw[Sz,Ti];lia,(aM.mono ay.s).append (.cons c9 .nil),?_⟩;simpa[SX]using c8
 have df:i=f.length:=by lia
 subst df;rw[Uw]at au;obtain⟨Z,F⟩:=aa.after bz aN.toWd X;refine .inl ⟨cz (SD _),q _ D p ak bC (by simpa[gH]using au) Z (bY.trans F) b8 bF hc aM bj⟩
def pP(X:aU)(L:Z0)(l:dz):Prop:=∃t,lO X L t/\ib X.K t l
theorem gU:pP X [] hW:=⟨_,Qq,λa k h R W B H b Q e q=>q true B H h e (bx.refl _ _)⟩
theorem G6{c:Wp}{l:dz}(h:hU X c l):pP X [c] l:=by
 obtain⟨_,a,b⟩:=h;exact⟨_,Qr a,b⟩
theorem G7{M:Wp}{f:Type}{Xs:f->aU}(g:∀a,(Xs a).K=K)(h:∀a,bt (Xs a) M u):∃t,(∀a,bP (Xs a) M t)/\fu K t u:=by
 refine⟨λb H Q=>∀a,∃t,bP (Xs a) M t/\fu K t u/\t b H Q,λa i s b H Q I q=>?_,λj k q R W B H b Q e z a=>?_⟩
 ·obtain⟨t,c,_,l⟩:=q a;exact c i s b H Q I l
 obtain⟨t,c,d⟩:=h a;rw[g a]at d;exact⟨t,c,d,d j k q R W B H b Q e z⟩
theorem ux{L:Z0}{l:dz}{f:Type}{Xs:f->aU}(g:∀a,(Xs a).K=K)(h:∀a,pP (Xs a) L l):∃t,(∀a,lO (Xs a) L t)/\ib K t l:=by
 refine⟨λb H Q=>∀a,∃t,lO (Xs a) L t/\ib K t l/\t b H Q,λa i s b H Q I q=>?_,λj k q R W B H b Q e z a=>?_⟩
 ·obtain⟨t,c,_,m⟩:=q a;exact c i s b H Q I m
 obtain⟨t,c,d⟩:=h a;rw[g a]at d;exact⟨t,c,d,d j k q R W B H b Q e z⟩
theorem uy{G:Wp}{E:eS}{g:Type}{Xs:g->aU}(i:∀a,(Xs a).K=K)(h:∀a,j7 (Xs a) G E):∃t,(∀a,i' (Xs a) G t)/\oy K t E:=by
 refine⟨λv b H Q=>∀a,∃t,i' (Xs a) G t/\oy K t E/\t v b H Q,λa j s b H v x Q I r q=>?_,λd l k q R W B H b v Q e r z a=>?_⟩
 ·obtain⟨t,c,_,m⟩:=q a;exact c j s b H v x Q I r m
 obtain⟨t,c,f⟩:=h a;rw[i a]at f;exact⟨t,c,f,f d l k q R W B H b v Q e r z⟩
variable{M P G:Wp}{L:Z0}{f:XZ}{A:List (Str×TD)}{ts fr:ZX}{js:ZT}{E:eS}{l:dz}
theorem ii(c:mq X G P w)(d:∀C s H b,j7 (d5 X (ts++fr) f A C s H b) G E)(e:∀C s H b,pP (d5 X (ts++fr) f A C s H b) L l)(g:∀C s H b,bt (d5 X (ts++fr) f A C s H b) M u)(F:oF X f A fr js)(h:js.Nodup:=by decide)(i:X.calm=true:=by rfl)(j:∀v,WF P X.env v=pure v:=by intro _;rfl):j6 X (.ListComp M [⟨G,P,L,0⟩] f O) (uu w E l u ts.length js):=by
 obtain⟨_,k,m⟩:=c;obtain⟨x,n,o⟩:=uy (K:=X.K) (Xs:=λa:TD×Tk×al×ZZ=>d5 X (ts++fr) f A a.1 a.2.1 a.2.2.1 a.2.2.2) (λ_=>rfl) λa=>d a.1 a.2.1 a.2.2.1 a.2.2.2;obtain⟨y,p,q⟩:=ux (K:=X.K) (Xs:=λa:TD×Tk×al×ZZ=>d5 X (ts++fr) f A a.1 a.2.1 a.2.2.1 a.2.2.2) (λ_=>rfl) λa=>e a.1 a.2.1 a.2.2.1 a.2.2.2;obtain⟨z,r,t⟩:=G7 (K:=X.K) (Xs:=λa:TD×Tk×al×ZZ=>d5 X (ts++fr) f A a.1 a.2.1 a.2.2.1 a.2.2.2) (λ_=>rfl) λa=>g a.1 a.2.1 a.2.2.1 a.2.2.2;exact⟨_,G2 k (λC s H b=>n (C,s,H,b)) (λC s H b=>p (C,s,H,b)) (λC s H b=>r (C,s,H,b)) F i j,G5 m o q t h⟩
theorem xi{i:Nat}{y:Str}{c d:Pos}(g:X.N.Nodup)(k:X.N[i]?=some y)(m:X.env.scope.names.lookup y=some .local)(n:mq X G P w)(o:∀C s H b,j7 (d5 X (ts++fr) f A C s H b) G E)(p:∀C s H b,pP (d5 X (ts++fr) f A C s H b) L l)(q:∀C s H b,bt (d5 X (ts++fr) f A C s H b) M u)(F:oF X f A fr js)(r:js.Nodup:=by decide)(t:X.calm=true:=by rfl)(x:∀v,WF P X.env v=pure v:=by intro _;rfl)(z:XE (.ListComp M [⟨G,P,L,0⟩] f O) (some (.Name y c)) d.line X.env=pure true:=by rfl):
  eT X (.Assign [.Name y c] (.ListComp M [⟨G,P,L,0⟩] f O) d) (GA i (uu w E l u ts.length js)):=by
 obtain⟨_,I,J⟩:=n;obtain⟨az,Q,S⟩:=uy (K:=X.K) (Xs:=λa:TD×Tk×al×ZZ=>d5 X (ts++fr) f A a.1 a.2.1 a.2.2.1 a.2.2.2) (λ_=>rfl) λa=>o a.1 a.2.1 a.2.2.1 a.2.2.2;obtain⟨aE,T,Y⟩:=ux (K:=X.K) (Xs:=λa:TD×Tk×al×ZZ=>d5 X (ts++fr) f A a.1 a.2.1 a.2.2.1 a.2.2.2) (λ_=>rfl) λa=>p a.1 a.2.1 a.2.2.1 a.2.2.2;obtain⟨aF,Z,h1⟩:=G7 (K:=X.K) (Xs:=λa:TD×Tk×al×ZZ=>d5 X (ts++fr) f A a.1 a.2.1 a.2.2.1 a.2.2.2) (λ_=>rfl) λa=>q a.1 a.2.1 a.2.2.1 a.2.2.2;refine⟨_,Q3 g k m I (λC s H b=>Q (C,s,H,b)) (λC s H b=>T (C,s,H,b)) (λC s H b=>Z (C,s,H,b)) F t x z,λU aa h R W B H ae D e s=>?_⟩;exact G5 J S Y h1 r aa _ h R W B H ae _ e λaH a aI af ai aj ak ao ar au aw ax ay=>s.nx _ _ af ai aj (ak.hV i ar au aw ax λj _=>ay j) ao
theorem xj{st:XF}{s:cA}(i:Nat)(h:eT X st s):eT X st (λU b=>s {U with nx:=λc=>∃d:ZP,c[i]?=some (.own d)/\U.nx (c.set i (.val (.lst d)))} b):=by
 obtain⟨_,f,j⟩:=h;refine⟨_,f,λU b h R W B H k D e a=>?_⟩;refine j _ b h R W B H k D e ⟨λc l t m z n g=>?_,a.bk,a.ct,a.rt⟩;obtain⟨d,o,z⟩:=z;obtain⟨p,q,r⟩:=n.fz o;exact a.nx _ l p m z q (g.trans r)
end
theorem oJ{b:Type}{f:b->D}{s:cA}{U:hE}{m:Nat}(I:List b->ZN->Prop):∀{rs done:List b}{a:ZN},I done a->
  (∀(pre:List b)(r:b)(c:List b) a,done++rs=pre++r::c->I pre a->∀N:ZN->Prop,(∀g,I (pre++[r]) g->N g)->s {U with nx:=N,ct:=N,bk:=U.nx} (a.set m (.val (f r))))->(∀a,I (done++rs) a->U.nx a)->ka (eU m) s U (rs.map f) a
 |[],done,a,h,_,d=>d a (by rw[SU];exact h)
 |r::rs,done,a,h,i,d=>by
  refine i done r rs a rfl h _ λg j=>?_;have e:done++r::rs=(done++[r])++rs:=by simp
  rw[e]at i d;exact oJ I j i d
theorem G9{s:cA}{U:hE}{m:Nat}(I:Nat->ZN->Prop):∀{n i:Nat}{a:ZN},I i a->(∀(j:Nat) a,i<=j->j<i+n->I j a->∀N:ZN->Prop,(∀r,I (j+1) r->N r)->s {U with nx:=N,ct:=N,bk:=U.nx} (a.set m (.val (.int j))))->
  (∀a,I (i+n) a->U.nx a)->ka (eU m) s U ((VX i n).map λj:Nat=>D.int j) a
 |0,i,a,b,_,c=>c a b
 |n+1,i,a,b,d,c=>by
  show ka (eU m) s U (D.int i::(VX (i+1) n).map λj:Nat=>D.int j) a
  refine d i a (SD _) (by lia) b _ λr e=>?_;exact G9 I e (λj a l f=>d j a (by lia) (by lia)) λa h=>c a (by rw[show i+(n+1)=i+1+n by lia];exact h)
theorem G'{s:cA}{U:hE}{m n:Nat}{a:ZN}(I:Nat->ZN->Prop)(b:I 0 a)(c:∀(j:Nat) a,j<n->I j a->∀N:ZN->Prop,(∀r,I (j+1) r->N r)->s {U with nx:=N,ct:=N,bk:=U.nx} (a.set m (.val (.int j))))(d:∀a,I n a->U.nx a):ka (eU m) s U ((S7 n).map λj:Nat=>D.int j) a:=by
 rw[WL];exact G9 I b (λj a _ g=>c j a (by lia)) λa h=>d a (by rwa[TZ]at h)
theorem jK{c:Type}{f h:c->D}{u:bb}{fs:ZN}:∀{rs:List c}{a:aA}{k:ZP->Prop},(∀r∈rs,∀k:D->Prop,k (h r)->u (.val (f r)::fs) k)->k (rs.map h)->gH (eU 0) hW u (rs.map f) (a::fs) k
 |[],a,k,_,b=>b
 |r::rs,a,k,d,b=>by
  show(if true=true then u (.val (f r)::fs) λy=>gH (eU 0) hW u (rs.map f) (.val (f r)::fs) λe=>k (y::e)else gH (eU 0) hW u (rs.map f) (.val (f r)::fs) k)
  rw[SZ rfl];exact d r Sw _ (jK (λq g=>d q (Sx _ g)) b)
theorem ra{b c:Type}{f:b->c}{a:List b}{i:Int}{r:b}(h:eF a i=some r):eF (a.map f) i=some (f r):=by
 unfold eF at h⊢;rw[Sv];cases q:ju a.length i with
 |none=>rw[q]at h;cases h
 |some j=>
  rw[q]at h;show(a.map f)[j]?=_
  rw[SP,show a[j]?=some r from h];rfl
theorem B'{b:Type}{a:List b}{i:Nat}(h:i<a.length):eF a (i:Int)=some a[i]:=by
 unfold eF ju;rw[SZ (by lia),SZ (by lia)];show a[((i:Int)).toNat]?=_
 rw[show((i:Int)).toNat=i by lia,SY h]
theorem Q9{a:Type}{rs:List a}{i:Nat}(h:i<rs.length):eF rs (-1-(i:Int))=some (rs[rs.length-1-i]'(by lia)):=by
 unfold eF ju;rw[Tl (by lia),SZ (by lia)];show rs[(-1-(i:Int)+(rs.length:Nat)).toNat]?=_
 rw[show(-1-(i:Int)+(rs.length:Nat)).toNat=rs.length-1-i by lia,SY (by lia)]
theorem Q'{a:Type}{xs:List a}{i:Int}(d:0<=i)(e:i<=xs.length):ig xs (some i) none=xs.drop i.toNat:=by
 unfold ig
 have b:HT.sIx xs.length 0 (some i)=i.toNat:=by
  unfold HT.sIx
  first|lia|(simp only[];split<;>lia)|(split<;>lia)|(dsimp only;split<;>(try split)<;>lia)
 have c:HT.sIx xs.length xs.length none=xs.length:=rfl;rw[b,c];exact U0 (by rw[Us];lia)
theorem xk{a:Type}{xs:List a}{i:Int}(d:0<=i)(e:i<=xs.length):ig xs none (some i)=xs.take i.toNat:=by
 unfold ig
 have b:HT.sIx xs.length xs.length (some i)=i.toNat:=by
  unfold HT.sIx
  first|lia|(simp only[];split<;>lia)|(split<;>lia)|(dsimp only;split<;>(try split)<;>lia)
 have c:HT.sIx xs.length 0 none=0:=rfl;rw[b,c];rfl
section
variable{K:Su}{R:al}{W:TD->Prop}{B c H d:al}{f:St}{j:ZN}
theorem aL.lW{k:TD->Prop}(e:aL K R W B H f j)(p:∀a,k a->R a=none/\∀i,¬cc f j i a)(t:Wd H k c d)(g:bx H B c):aL K R W c d f j/\bx R B c:=by
 have v:∀a,B a=none->H a≠none->c a=none:=λa l u=>by
  cases q:c a with
  |none=>rfl
  |some o=>
   rcases g.n a o q with z|z
   ·rw[l]at z;cases z
   exact absurd z u
 have st:∀a,¬k a->H a≠none->d a=H a:=λa l u=>by
  cases q:H a with
  |none=>exact absurd q u
  |some o=>exact t.fr a o q l
 have w:∀a,¬k a->ft H a->ft d a:=λa l ⟨x,y,r,q⟩=>⟨x,y,by rw[st a l (by rw[r];simp)];exact r,q⟩;have C:∀a,ft H a->H a≠none:=λa ⟨x,y,r,_⟩=>by rw[r];simp
 have E:∀a,W a->¬k a:=λa h z=>e.wr a h (p a z).1;refine⟨e.move ⟨λa o h F=>?_,t.bh,λa h=>v a (e.wb a h) (C a (e.wh a h)),λa h=>w a (E a h) (e.wh a h),e.wr⟩ g.s (λi a m=>⟨v a (e.en m).1 (e.en m).2,λz=>?_,λz=>?_⟩),⟨g.s,λa o h=>?_⟩⟩
 ·refine t.fr a o (e.fr a o h F) λz=>?_;rw[(p a z).1]at h;cases h
 ·obtain⟨b,A,_,_,G⟩:=e.eo z;rw[nC m z]at A;cases A;exact w _ (λq=>(p _ q).2 i m) G
 ·exact st a (λq=>(p a q).2 i m) (e.en m).2
 rcases g.n a o h with z|z
 ·exact .inl z
 exact .inr (e.toWd.fresh z).1
end
section
variable{X:aU}{e:Wp}{u:bb}{b p:Pos}
def Ra(u:bb):bb:=λc k=>u c λx=>∃a,x=.lst a/\(∀d∈a,d=.bl true)/\k (.bl true)
theorem sD(c:bt X e u)(l:X.calm=true)(m:eu X "all")(n:X.mg "all"=none)(i:eD X e []:=by rfl):bt X (.Call (.Name "all" p) [e] [] b) (Ra u):=by
 obtain⟨_,o,r⟩:=c;refine⟨_,pw (Pc l) m n (by decide +kernel) (d2 o e1 i) (by decide) (by decide) i,ug (f:=λx k=>∃g,x=.lst g/\(∀d∈g,d=.bl true)/\k (.bl true)) r λx k h R W B H I J v Q e s q=>?_⟩;obtain⟨g,rfl,t,w⟩:=h;obtain⟨a,z,rfl,c,A⟩:=s.eO;refine⟨a,z,rfl,e.bh _ _ c,λy C=>?_,q _ _ B H w e (bx.refl _ _) (.bl _)⟩;obtain⟨j,E⟩:=U3 C;obtain⟨d,F,G⟩:=A.fb E;have:=t d (Tb F);subst this;exact G.j9
end
section
variable{X:aU}{e:Wp}{u:bb}{c p:Pos}
def Ha(u:bb)(l h:oB):bb:=λb k=>u b λx=>l b λlo=>h b λd=>∃a,x=.tup a/\¬(HT.sIx a.length 0 lo=0/\HT.sIx a.length a.length d=a.length)/\k (.tup (ig a lo d))
theorem Hb{lo b:Option Wp}{j l:oB}{p2:Pos}(w:bt X e u)(x:pI X lo j)(y:pI X b l):bt X (.Subscript e (.Slice lo b none p2) c) (Ha u j l):=by
 obtain⟨_,A,C⟩:=w;obtain⟨_,E,F⟩:=x;obtain⟨_,G,I⟩:=y;refine⟨_,A2 FZ A E G,λf k h R W B H g Q e q=>?_⟩;refine C f _ h R W B H g _ e λd v J K L M N O=>?_;refine F f _ L R W J K g _ M λlo P S T U m=>?_;refine I f _ T R W P S g _ U λb ai aj Y i g3=>?_;obtain⟨ak,rfl,Z,z⟩:=Y;obtain⟨a,n,rfl,af,o⟩:=(O.mono (m.trans g3).s).eV;refine⟨a,n,rfl,e0.of (i.bh _ _ af),by rw[o.length];exact Z,λp r=>?_⟩;have t:=i.grow r (.tup (pz n lo b));exact q _ _ _ _ z (i.alloc r _) (((N.trans m).trans g3).trans t) (.tup dx ((o.cut lo b).mono t.s))
def Rb(i:Nat)(u:bb):cA:=λU a=>∃b:ZP,a[i]?=some (.own b)/\u a λd=>∃f,d=.lst f/\b.length+f.length<=TI/\U.nx (a.set i (.own (b++f)))
theorem Rc(i:Nat){x:Str}{g j f:Pos}(r:bt X e u)(t:gZ X i x:=by rfl)(w:gy X.env.scope x:=by walk_at"v")(y:ea x:=by decide)(A:gY x:=by decide)(C:iO X (.Name x g) "extend":=by rfl)(E:lB X f [e]:=by rfl)(F:iP j f:=by rfl)(n:eD X e []:=by rfl)(G:hv X f []:=by rfl)(I:XE (.Call (.Attribute (.Name x g) "extend" j) [e] [] f) none c.line X.env=pure false:=by rfl):eT X (.Expr (.Call (.Attribute (.Name x g) "extend" j) [e] [] f) c) (Rb i u):=by
 obtain⟨_,J,K⟩:=r;refine⟨_,qF (sj T' WM WN OR (hg t w y A) (d2 J e1 n) C E F n G) I,λU L h R W B H M D e s=>?_⟩;obtain⟨ai,k,h⟩:=h;obtain⟨a,N,l,aj,ak,O,hc⟩:=e.ownAt k;refine⟨_,l,.inl ⟨rfl,N,cE.of O⟩,?_⟩;refine K L _ h R W B H M _ e λd v P au Q m S T=>?_;obtain⟨aw,Y,o,ay,az,Z,p⟩:=m.ownAt k;rw[l]at o;cases o;obtain⟨aG,rfl,aa,z⟩:=Q;obtain⟨b,hi,rfl,ae,q⟩:=T.eO;exact⟨a,b,Y,hi,rfl,rfl,Z,m.bh _ _ ae,by rw[p.length,q.length];exact aa,s.nx _ _ P _ z (m.write l k (p.append q)) S⟩
end
section
noncomputable def dR(r:Int×Int):D:=.tup [.int r.1,.int r.2]
noncomputable def aS(p:Int×Int×Int):D:=.tup [.int p.1,.int p.2.1,.int p.2.2]
noncomputable def uC(t b:Int):Int:=if b<0 then -((Ss t b:Nat):Int)else((Ss t b:Nat):Int)
def ee(t b:Int):Int×Int:=(t.fdiv (uC t b),b.fdiv (uC t b))
theorem jL{t b:Int}(a:b≠0):ba (ee t b).1 (ee t b).2/\(ee t b).1*b=t*(ee t b).2/\(ee t b).1.natAbs<=t.natAbs/\(ee t b).2.natAbs<=b.natAbs:=by
 unfold ee uC;split
 ·exact Gi a rfl (.inr ⟨rfl,by assumption⟩)
 exact Gi a rfl (.inl ⟨rfl,by lia⟩)
noncomputable def g3(a b n:Int):Int:=((Ss (Ss a n:Nat) b:Nat):Int)
def k7(a b n:Int):Int:=if n<0 then -g3 a b n else g3 a b n
def cC(a b n:Int):Int×Int×Int:=(a.fdiv (k7 a b n),b.fdiv (k7 a b n),n.fdiv (k7 a b n))
theorem lR{a b n:Int}(c:n≠0):nz (cC a b n).1 (cC a b n).2.1 (cC a b n).2.2/\(cC a b n).1*n=a*(cC a b n).2.2/\(cC a b n).2.1*n=b*(cC a b n).2.2/\(cC a b n).1.natAbs<=a.natAbs/\(cC a b n).2.1.natAbs<=b.natAbs/\(cC a b n).2.2.natAbs<=n.natAbs:=by
 unfold cC k7;split
 ·exact Gl c rfl (.inr ⟨rfl,by assumption⟩)
 exact Gl c rfl (.inl ⟨rfl,by lia⟩)
theorem Re(a b n:Int):((Ss (Ss a b:Nat) n:Nat):Int)=g3 a b n:=by
 unfold g3;rw[wJ];rfl
theorem Rf(a b n:Int):((Ss (Ss n a:Nat) b:Nat):Int)=g3 a b n:=by
 unfold g3;rw[Pe]
theorem Hc{a b n:Int}(c:n≠0):0<g3 a b n:=Gj c
theorem Hd{a b n:Int}{k:Nat}(c:n≠0)(h:SB n<=k):SB (g3 a b n)<=k:=Pf c h
theorem oK{a b:Int}{k:Nat}(c:b≠0)(h:SB b<=k):SB ((Ss a b:Nat):Int)<=k:=by
 refine Y6 ?_ h;exact VS (by lia) (by simpa using Uu.mpr (U1 a b))
theorem Rg{x:Int}(a : -(10^30)<x)(b:x<10^30):SB x<=100:=by
 refine intBits_le_iff.mpr ?_;have c:(10:Int)^30=1000000000000000000000000000000:=rfl;have d:(2:Nat)^100=1267650600228229401496703205376:=rfl;rw[c]at a b;rw[d];lia
theorem jj{a s x:Int}(h:a=s*x)(b:s≠0):a.fdiv s=x:=by rw[h];exact UJ x b
theorem Rj{a b s x y:Int}(c:a=s*x)(d:b=s*y):Ss a b=s.natAbs*Ss x y:=by rw[c,d,VN]
theorem xl{p q:Int×Int×Int}(h:aS p=aS q):p=q:=by
 obtain⟨a,b,c⟩:=p;obtain⟨d,e,f⟩:=q;unfold aS at h;cases h;rfl
theorem Rk{a b c d:Int}(f:b≠0)(g:d≠0)(h:a*d=c*b):ee a b=ee c d:=by
 obtain⟨i,k,_⟩:=jL (t:=a) f;obtain⟨j,l,_⟩:=jL (t:=c) g
 have e:(ee a b).1*(ee c d).2=(ee c d).1*(ee a b).2:=by
  refine TK (S0 f g) ?_;grind
 obtain⟨x,y⟩:=Bi i j e;exact TC x y
theorem Rl{x y:Int}(h:ba x y):ee x y=(x,y):=by
 obtain⟨l,e,_⟩:=jL (t:=x) (SA h.1);obtain⟨a,b⟩:=Bi l h e;exact TC a b
abbrev ab:=Int×Int×Int
abbrev ZO:=List ab
abbrev Z5:=List ZO
noncomputable def a_(p q:ab):ab:=(p.2.1*q.2.2-p.2.2*q.2.1,p.2.2*q.1-p.1*q.2.2,p.1*q.2.1-p.2.1*q.1)
noncomputable def sc(c:Int)(p:ab):ab:=(c*p.1,c*p.2.1,c*p.2.2)
noncomputable def hs(a:Int)(p:ab)(b:Int)(q:ab):ab:=(a*p.1+b*q.1,a*p.2.1+b*q.2.1,a*p.2.2+b*q.2.2)
def nP(p:ab):ab:=cC p.1 p.2.1 p.2.2
theorem fc{p q:ab}(a:p.1=q.1)(b:p.2.1=q.2.1)(c:p.2.2=q.2.2):p=q:=TC a (TC b c)
variable{P:WP}{w:XB}{K:Su}{mg:Str->Option SL}{base:XG}
theorem Cb{c d:Int}{p q:ab}(h:sc c p=sc d q):c*p.1=d*q.1/\c*p.2.1=d*q.2.1/\c*p.2.2=d*q.2.2:=
 ⟨Uf (·.1) h,Uf (·.2.1) h,Uf (·.2.2) h⟩
theorem Cc(c d:Int)(p q:ab):a_ (sc c p) (sc d q)=sc (c*d) (a_ p q):=by
 refine fc ?_ ?_ ?_<;>simp only[a_,sc]<;>grind
theorem He(c d:Int)(p:ab):sc c (sc d p)=sc (c*d) p:=by
 refine fc ?_ ?_ ?_<;>simp only[sc]<;>grind
theorem kL{p:ab}(c:p.2.2≠0):∃g,g≠0/\p=sc g (nP p):=by
 obtain⟨d,e,f,_⟩:=lR (a:=p.1) (b:=p.2.1) c;have h:(nP p).2.2≠0:=SA d.1;obtain⟨g,i⟩:=Bk d.2 e f;have j:g≠0:=λz=>c (by rw[i,z,S4]);refine⟨g,j,fc ?_ ?_ ?_⟩
 ·refine TK h ?_;show p.1*(cC p.1 p.2.1 p.2.2).2.2=g*(cC p.1 p.2.1 p.2.2).1*(cC p.1 p.2.1 p.2.2).2.2
  rw[<-e];grind
 ·refine TK h ?_;show p.2.1*(cC p.1 p.2.1 p.2.2).2.2=g*(cC p.1 p.2.1 p.2.2).2.1*(cC p.1 p.2.1 p.2.2).2.2
  rw[<-f];grind
 show p.2.2=g*(cC p.1 p.2.1 p.2.2).2.2
 rw[S8];exact i
abbrev aX(p:ab):Prop:=nz p.1 p.2.1 p.2.2
theorem gI{p:ab}(a:p.2.2≠0):aX (nP p):=(lR a).1
theorem sE{M h:ab}{G c:Int}(g:G≠0)(f:c≠0)(i:aX h)(e:sc G M=sc c h):M.2.2≠0/\nP M=h:=by
 obtain⟨p,q,j⟩:=Cb e;have k:h.2.2≠0:=SA i.1
 have d:M.2.2≠0:=λz=>by
  rw[z,S4]at j;exact S0 f k j.symm
 refine⟨d,?_⟩;obtain⟨l,r,s,_⟩:=lR (a:=M.1) (b:=M.2.1) d;have t:M.1*h.2.2=h.1*M.2.2:=WO (S0 g f) (by grind);have u:M.2.1*h.2.2=h.2.1*M.2.2:=WO (S0 g f) (by grind);obtain⟨m,n,o⟩:=wK l i (TK d (by grind)) (TK d (by grind));exact fc m n o
theorem Hg{h:ab}(a:aX h):nP h=h:=(sE (M:=h) (h:=h) (G:=1) (c:=1) (by decide) (by decide) a rfl).2
structure cw(m:Nat)(p:ab):Prop where
 a:SB p.1<=m
 b:SB p.2.1<=m
 c:SB p.2.2<=m
theorem cw.mono{m n:Nat}{p:ab}(h:cw m p)(l:m<=n):cw n p:=⟨Sy h.a l,Sy h.b l,Sy h.c l⟩
theorem cw.nP{m:Nat}{p:ab}(h:cw m p)(d:p.2.2≠0):cw m (L3.nP p):=by
 obtain⟨_,_,_,e,f,g⟩:=lR (a:=p.1) (b:=p.2.1) d;exact⟨fY e h.a,fY f h.b,fY g h.c⟩
theorem cw.crs{m n:Nat}{p q:ab}(f:cw m p)(g:cw n q):cw (m+n+1) (L3.a_ p q):=by
 have e:∀{x y u v:Int},SB x<=m->SB y<=n->SB u<=m->SB v<=n->SB (x*y-u*v)<=m+n+1:=λa b c d=>Sy (YB (TE a b) (TE c d)) (by lia);exact⟨e f.b g.c f.c g.b,e f.c g.a f.a g.c,e f.a g.b f.b g.a⟩
end
abbrev F2:=Int×Int
def xm(x:F2):F2:=(-x.1,x.2)
def nI(r s:F2):Prop:=ba r.1 r.2/\0<s.2/\r.1*s.2=s.1*r.2
theorem nI.uniq{r t s:F2}(h:nI r s)(g:nI t s):r=t:=by
 have a:=SA h.2.1;have:=Bi h.1 g.1 (TK a (by have:=h.2.2;have:=g.2.2;grind));exact TC this.1 this.2
theorem nI.low{c d:Int}(a:0<d):nI (ee c d) (c,d):=by
 obtain⟨l,e,_⟩:=jL (t:=c) (b:=d) (SA a);exact⟨l,a,e⟩
theorem nI.neg{r s:F2}(h:nI r s):nI (xm r) (xm s):=⟨⟨h.1.1,by show Ss (-r.1) r.2=1;rw[Um];exact h.1.2⟩,h.2.1,by have:=h.2.2;simp only[xm];grind⟩
theorem Rm{t b:Int}(a:0<b):ee (-t) b=xm (ee t b):=(nI.low a).uniq ((nI.low a).neg)
section
variable{K:Su}{R:al}{W:TD->Prop}{B aw H H':al}{σ:St}{ρ:ZN}
def xn:aA->aA
 |.own (.l a)=>.val (.lst a)
 |.own (.d b _ c a)=>.val (.dct b c a)
 |.deep _=>.no
 |s=>s
def gJ(W:TD->Prop)(σ:St)(ρ:ZN)(a:TD):Prop:=W a\/∃i:Nat,σ[i]?=some (some (.ref a))/\ρ[i]?=some .bag
def nJ(σ:St)(ρ:ZN)(a:TD):Prop:=∃(i:Nat)(b:mm),σ[i]?=some (some (.ref a))/\ρ[i]?=some (.own b)
open Classical in
noncomputable def pQ(B H:al)(σ:St)(ρ:ZN):al:=λa=>if nJ σ ρ a then H a else B a
theorem sF{a:TD}(h:nJ σ ρ a):pQ B H σ ρ a=H a:=by unfold pQ;rw[SZ h]
theorem sG{a:TD}(h:¬nJ σ ρ a):pQ B H σ ρ a=B a:=by unfold pQ;rw[Tl h]
theorem aL.hr(e:aL K R W B H σ ρ){a:TD}(h:gJ W σ ρ a):B a=none/\ft H a:=by
 rcases h with h|⟨i,d,f⟩
 ·exact⟨e.wb a h,e.wh a h⟩
 obtain⟨b,c,_,g,j⟩:=e.eo f;rw[d]at c;cases c;exact⟨g,j⟩
theorem aL.gw(e:aL K R W B H σ ρ){a:TD}(h:nJ σ ρ a):R a=none/\B a=none/\H a≠none/\¬gJ W σ ρ a:=by
 obtain⟨i,l,f,c⟩:=h;obtain⟨b,g,k,m,n⟩:=e.fa c;rw[f]at g;cases g;refine⟨k,m,n.ne,λz=>?_⟩;rcases z with z|⟨j,o,d⟩
 ·exact e.wr a z k
 have:=e.sep i j a (.inl ⟨f,.inr ⟨l,c⟩⟩) (.inl ⟨o,.inl d⟩);subst this;rw[c]at d;cases d
theorem aL.jS(e:aL K R W B H σ ρ){i:Nat}{c:e2}(h:ρ[i]?=some (.deep c)){a:TD}(m:a∈c.adr::c.ins):¬gJ W σ ρ a:=λz=>by
 rcases z with z|⟨j,d,b⟩
 ·exact e.wr a z ((e.ek h).2.fr a m).1
 have:=e.sep i j a (.inr ⟨c,h,m⟩) (.inl ⟨d,.inl b⟩);subst this;rw[h]at b;cases b
theorem aL.eQ(e:aL K R W B H σ ρ):ci B (pQ B H σ ρ):=λa o h=>by
 by_cases z:nJ σ ρ a
 ·rw[(e.gw z).2.1]at h;cases h
 rw[sG z];exact h
theorem aL.frame(e:aL K R W B H σ ρ):aL K H (gJ W σ ρ) (pQ B H σ ρ) H σ (ρ.map xn):=by
 have u:∀a,gJ W σ ρ a->pQ B H σ ρ a=none:=λa h=>by
  by_cases z:nJ σ ρ a
  ·exact absurd h (e.gw z).2.2.2
  rw[sG z];exact(e.hr h).1
 refine⟨⟨λ_ _ z _=>z,λa o h=>?_,u,λa h=>(e.hr h).2,λa h=>?_⟩,by rw[Sv];exact e.len,λi k h=>?_,λi j a I J=>?_⟩
 ·by_cases z:nJ σ ρ a
  ·rwa[sF z]at h
  rw[sG z]at h;exact e.bh a o h
 ·obtain⟨x,y,q,_⟩:=(e.hr h).2;rw[q];simp
 ·rw[SP]at h;cases q:ρ[i]? with
  |none=>rw[q]at h;cases h
  |some p=>
   rw[q]at h;have h:=SN h;subst h;have z:=e.ok i _ q;cases p with
   |no=>trivial
   |new d=>
    obtain⟨v,g,f⟩:=z;refine⟨v,g,f.mono (xh e.toWd e.eQ (λa o h=>?_) (λa z A=>?_) u)⟩
    ·by_cases z:nJ σ ρ a
     ·rwa[sF z]at h
     rw[sG z]at h;exact e.bh a o h
    rcases z with z|⟨i,C,E⟩
    ·exact z
    obtain⟨b,r,F,_⟩:=e.eo E;rw[C]at r;cases r;exact F.resolve_right A
   |deep c=>trivial
   |pin v d=>
    obtain⟨g,f⟩:=z;refine⟨g,f.mono (xh e.toWd e.eQ (λa o h=>?_) (λa z A=>?_) u)⟩
    ·by_cases z:nJ σ ρ a
     ·rwa[sF z]at h
     rw[sG z]at h;exact e.bh a o h
    rcases z with z|⟨i,C,E⟩
    ·exact z
    obtain⟨b,r,F,_⟩:=e.eo E;rw[C]at r;cases r;exact F.resolve_right A
   |val d=>
    obtain⟨v,g,f⟩:=z;exact⟨v,g,f.mono e.eQ⟩
   |own n=>
    obtain⟨a,g,f,L,z⟩:=z;cases n with
    |l n=>
     obtain⟨M,s,G⟩:=z;exact⟨.ref a,g,.lst (by rw[sF ⟨i,_,gd g,q⟩];exact s) (G.mono e.eQ)⟩
    |d b t P n=>
     obtain⟨Q,S,M,_,s,G,N,O⟩:=z;exact⟨.ref a,g,.dct (by rw[sF ⟨i,_,gd g,q⟩];exact s) (G.mono e.eQ) N (O.mono e.eQ)⟩
   |bag=>
    obtain⟨b,g,f,L,s⟩:=z;have w:gJ W σ ρ b:=.inr ⟨i,gd g,q⟩;exact⟨b,g,.inl w,u b w,s⟩
 have back:∀i,cc σ (ρ.map xn) i a->cc σ ρ i a:=λi m=>by
  rcases m with⟨g,f⟩|⟨c,g,_⟩
  rotate_left
  ·rw[SP]at g;cases q:ρ[i]? with
   |none=>rw[q]at g;cases g
   |some p=>
    rw[q]at g;cases p with
    |own n=>cases n<;>cases g
    |_=>cases g
  refine .inl ⟨g,?_⟩;rw[SP]at f;cases q:ρ[i]? with
  |none=>rw[q]at f;rcases f with f|⟨_,f⟩<;>cases f
  |some p=>
   rw[q]at f;cases p with
   |bag=>exact .inl rfl
   |no=>rcases f with f|⟨_,f⟩<;>cases f
   |new d=>rcases f with f|⟨_,f⟩<;>cases f
   |pin v d=>rcases f with f|⟨_,f⟩<;>cases f
   |deep d=>rcases f with f|⟨_,f⟩<;>cases f
   |val d=>rcases f with f|⟨_,f⟩<;>cases f
   |own n=>cases n<;>rcases f with f|⟨_,f⟩<;>cases f
 exact e.sep i j a (back i I) (back j J)
theorem aL.gq(e:aL K R W B H σ ρ)(l:∀a o,H a=some o->¬gJ W σ ρ a->H' a=some o)(p:∀a,gJ W σ ρ a->ft H' a):aL K R W B H' σ ρ:=by
 have u:∀a,R a≠none->¬W a->¬gJ W σ ρ a:=λa f g z=>by
  rcases z with z|⟨i,w,x⟩
  ·exact g z
  obtain⟨b,r,j,_⟩:=e.eo x;rw[w]at r;cases r;rcases j with j|j
  ·exact g j
  exact f j
 refine⟨⟨λa o h s=>l a o (e.fr a o h s) (u a (by rw[h];simp) s),λa o h=>l a o (e.bh a o h) λz=>?_,e.wb,λa h=>p a (.inl h),e.wr⟩,e.len,λi k h=>?_,e.sep⟩
 ·rw[(e.hr z).1]at h;cases h
 have z:=e.ok i k h;cases k with
 |no=>trivial
 |new d=>exact z
 |pin v d=>exact z
 |val d=>exact z
 |own y=>
  obtain⟨a,f,g,m,n⟩:=z;refine⟨a,f,g,m,n.mono (ci.refl _) ?_⟩;cases q:H a with
  |none=>exact absurd q n.ne
  |some o=>exact l a _ q (e.gw ⟨i,y,gd f,h⟩).2.2.2
 |deep c=>
  refine⟨z.1,z.2.fr,z.2.nd,z.2.ok.mono (ci.refl _) λa t=>?_⟩;cases q:H a with
  |none=>exact absurd q (z.2.ok.ne t)
  |some o=>exact l a _ q (e.jS h t)
 |bag=>
  obtain⟨b,f,g,m,n⟩:=z;exact⟨b,f,g,m,p b (.inr ⟨i,gd f,h⟩)⟩
theorem aL.forget(e:aL K R W B H σ ρ){g:St}{l:ZN}(o:g.length=l.length)(h:∀(i:Nat)(k:aA),l[i]?=some k->k=.no\/(ρ[i]?=some k/\g[i]?=σ[i]?)):aL K R W B H g l:=by
 have back:∀i a,cc g l i a->cc σ ρ i a:=λi a m=>by
  rcases m with⟨n,f|⟨p,f⟩⟩|⟨c,n,f⟩
  ·rcases h i _ f with z|⟨b,d⟩
   ·cases z
   exact .inl ⟨by rw[<-d];exact n,.inl b⟩
  ·rcases h i _ f with z|⟨b,d⟩
   ·cases z
   exact .inl ⟨by rw[<-d];exact n,.inr ⟨p,b⟩⟩
  rcases h i _ n with z|⟨b,d⟩
  ·cases z
  exact .inr ⟨c,b,f⟩
 refine⟨e.toWd,o,λi k q=>?_,λi j a r s=>e.sep i j a (back i a r) (back j a s)⟩;rcases h i k q with rfl|⟨b,d⟩
 ·trivial
 rw[d];exact e.ok i k b
end
section
variable{K:Su}{X:aU}{e:Wp}{E:Z0}{u:bb}{w:cK}{G p:Pos}
mutual
def iZ:D->Bool
 |.tup xs=>flats xs
 |.lst _=>false
 |.scr _=>false
 |.ktup _=>false
 |.kfn _=>false
 |.dct _ _ _=>false
 |.non=>true
 |.bl _=>true
 |.int _=>true
 |.str _=>true
 |.ty _=>true
def flats:ZP->Bool
 |[]=>true
 |x::r=>iZ x&&flats r
end
theorem xo{R B:al}{a:TD}{b:ZQ}(h:B a=some (.tup b)):dI R B a=some (.tup b):=by
 unfold dI;rw[h]
mutual
theorem bG.flat{R B:al}:∀{v:V}{d:D},bG K B v d->iZ d=true->bG K (dI R B) v d
 |_,_,.non,_=>.non
 |_,_,.bl b,_=>.bl b
 |_,_,.int i,_=>.int i
 |_,_,.str x,_=>.str x
 |_,_,.ty n,_=>.ty n
 |_,_,.tup h r,f=>.tup (xo h) (b_.flat r f)
 |_,_,.lst h r,f=>by simp[L3.iZ]at f
 |_,_,.scr h,f=>by simp[L3.iZ]at f
 |_,_,.ktup h _,f=>by simp[L3.iZ]at f
 |_,_,.kfn _,f=>by simp[L3.iZ]at f
 |_,_,.dct _ _ _ _,f=>by simp[L3.iZ]at f
theorem b_.flat{R B:al}:∀{vs:ZQ}{ds:ZP},b_ K B vs ds->flats ds=true->b_ K (dI R B) vs ds
 |_,_,.nil,_=>.nil
 |_,_,.cons h r,f=>by
  rw[flats,TJ]at f
  exact .cons (bG.flat h f.1) (b_.flat r f.2)
end
def sH(K:Su)(t:bI)(u:bb):Prop:=∀(a:ZN)(k:D->Prop),u a k->∀(R:al)(W:TD->Prop)(B H:al)(b:St)(Q:cn),aL K R W B H b a->
 (∀d v c f,k d->aL K R W c f b a->bx R B c->bG K (dI R c) v d->Q v f)->t b H Q
def Rn(K:Su)(t:eZ)(u:cK):Prop:=∀(a:ZN)(k:ZP->Prop),u a k->∀(R:al)(W:TD->Prop)(B H:al)(b:St)(Q:ZQ->al->Prop),aL K R W B H b a->
 (∀d f c g,k d->aL K R W c g b a->bx R B c->b_ K (dI R c) f d->Q f g)->t b H Q
def kg(X:aU)(e:Wp)(u:bb):Prop:=∃t,bP X e t/\sH X.K t u
def xp(X:aU)(E:Z0)(u:cK):Prop:=∃t,hf X E t/\Rn X.K t u
def Hh(u:bb):bb:=λa k=>u a λd=>iZ d=true/\k d
def Ro(w:cK):bb:=λb k=>w b λa=>flats a=true/\k (.lst a)
theorem Cd(h:bt X e u):kg X e (Hh u):=by
 obtain⟨_,b,c⟩:=h;refine⟨_,b,λf k h R W B H g Q e q=>?_⟩;exact c f _ h R W B H g _ e λd v i j a l m n=>q d v i j a.2 l m (n.flat a.1)
theorem Rp(h:j6 X e w):kg X e (Ro w):=by
 obtain⟨_,f,g⟩:=h;refine⟨_,f,λi k h R W B H j Q e q=>?_⟩;refine g i _ h R W B H j _ e λu a v x y b l m c n o p r=>?_;obtain⟨t,d⟩:=l.freeze o c n r;exact q _ _ _ _ b.2 t (m.trans d) (.lst (t9 dx c) ((p.mono d.s).flat b.1))
theorem Hi:xp X [] sv:=⟨_,e1,λa k h R W B H b Q e q=>q [] [] B H h e (bx.refl _ _) .nil⟩
theorem uD(f:kg X e u)(g:xp X E w)(i:eD X e E:=by rfl):xp X (e::E) (mv u w):=by
 obtain⟨_,j,l⟩:=f;obtain⟨_,m,n⟩:=g;refine⟨_,d2 j m i,λa k h R W B H b Q e q=>?_⟩;refine l a _ h R W B H b _ e λd v o p r t x y=>?_;refine n a _ r R W o p b _ t λI J z A C F c G=>?_;exact q _ _ z A C F (x.trans c) (.cons (y.mono (lI c.s)) G)
theorem Hj{g}(h:xp X E w):kg X (.Tuple E g G) (ud w):=by
 obtain⟨_,i,j⟩:=h;refine⟨_,wu i,λl k z R W B H m Q e q=>?_⟩;refine j l _ z R W B H m _ e λr n t u a b o c=>?_;refine⟨by rw[c.length];exact a.1,λp d=>?_⟩;have f:=b.grow d (.tup n);exact q _ _ _ _ a.2 (b.alloc d _) (o.trans f) (.tup (xo dx) (c.mono (lI f.s)))
def Hk(n:Nat)(F:b7)(w:iW):bb:=λb k=>w b λa=>sh a n=true/\F (a.map gn.sl) λr=>∃d,r=.new d/\k d
theorem Ce{n:Nat}{F:b7}{w:iW}{x:Str}{o:ZX}{j g:Nat}(c:b6 X.prog X.w X.K X.mg X.base x o j (cj X.K n F))(s:ew g X.A)(t:eu X x)(u:mo X (e::E) w)(y:j<=g:=by decide)(C:ea x:=by decide)(I:eD X e E:=by rfl)(J:hv X G E:=by rfl):
  kg X (.Call (.Name x p) (e::E) [] G) (Hk n F w):=by
 obtain⟨_,L,M⟩:=u;refine⟨_,ou c s t L y C I J,λN k h R W B H O Q e q=>?_⟩;refine M N _ h R W B H O _ e λaa hi ae P i l S T=>?_;rw[SU];refine qW l T i.1 i.2 λr v m U f Y Z b=>?_;obtain⟨d,rfl,f⟩:=f;have b:bG X.K (dI P m) v d:=b;exact q d v m U f Y (S.trans Z) (b.mono (qT λa z=>(l.toWd.fresh z).1))
def Rq(u:bb):cA:=λU a=>u a λd=>U.rt (.new d)
theorem Rr(h:kg X e u):eT X (.Return (some e) G) (Rq u):=by
 obtain⟨_,a,b⟩:=h;refine⟨_,me a,λU c h R W B H f D e s=>?_⟩;exact b c _ h R W B H f _ e λd v g i j k l m=>s.rt (.new d) v g i j k.toWd l m
theorem Rs{a5:gQ}{g:fN}{a6:eh}{bc:bI}{M:eS}{N:dz}{G:Nat}{l:ZT}(bV:sr K a5 w)(bW:oy K g M)(bX:ib K a6 N)(bY:sH K bc u)(bZ:l.Nodup):sH K (w8 a5 g a6 bc G l) (λp k=>uu w M N u G l p λf=>k (.lst f)):=by
 intro p k h R W B H I Q e q;refine bV p _ h R W B H I _ e λf J bj X aF Y b8 b9=>?_;obtain⟨dg,aF⟩:=aF;intro D ak;obtain⟨bq,dh,b'⟩:=Y.toWd.fresh ak;have br:∀i,¬cc I p i D:=λi m=>Y.eK ak m rfl;have ei:=Y.within G bZ
 have aI:∀j a,cc (SR G none++iv I l) (SR G .no++l.map (kc p)) j a->∃j,j∈l/\I[j]?=some (some (V.ref a))/\p[j]?=some aA.bag:=λj a m=>by
  have aK:=(ei.en m).2;rcases m with⟨bz,z|⟨E,z⟩⟩|⟨c,z,x1⟩
  ·obtain⟨c,Z,L,_⟩:=ei.eo z;rw[bz]at Z;cases Z;rcases L with L|L
   ·exact L
   exact absurd L aK
  ·obtain⟨c,Z,L,_⟩:=ei.fa z;rw[bz]at Z;cases Z;exact absurd L aK
  exact absurd ((ei.ek z).2.fr a x1).1 aK
 generalize bC:(λa=>∃j,j∈l/\I[j]?=some (some (V.ref a))/\p[j]?=some aA.bag)=t at ei;have aI:∀j a,cc (SR G none++iv I l) (SR G .no++l.map (kc p)) j a->t a:=λj a m=>by rw[<-bC];exact aI j a m
 have bF:∀a,t a->∃i:Nat,I[i]?=some (some (.ref a))/\p[i]?=some .bag:=λa z=>by
  rw[<-bC]at z;obtain⟨j,_,z⟩:=z;exact⟨j,z⟩
 have aN:¬t D:=λz=>by
  obtain⟨cg,ck,cm⟩:=bF D z;exact br cg (.inl ⟨ck,.inl cm⟩)
 refine⟨λi m hc A=>∃au C E aa,m=f.length-i/\i<=f.length/\aL K X t au A hc aa/\bx X bj au/\A D=some (.lst C)/\au D=none/\(∀j a,cc hc aa j a->t a)/\C.length<=i/\b_ K (dI X au) C E/\gH M N u (f.drop i) aa λr=>k (.lst (E++r)),
  ⟨f.length,bj,[],[],_,by simp,S9 _,ei.ey ak _,bx.refl _ _,dx,b',aI,SD _,.nil,by simpa using aF⟩,?_⟩
 rintro i m hc bJ ⟨aM,C,E,aa,rfl,di,av,ae,ax,bK,cu,dj,aO,ay⟩;obtain⟨cz,k',cF⟩:=b9 bJ (ae.s.trans av.bh) i;by_cases P:i<f.length
 ·refine .inr ⟨cz P,λx A y=>?_⟩;obtain⟨rfl,d,bR,cG⟩:=cF x A P y
  have cL:f.drop i=d::f.drop (i+1):=by
   rw[Ul P];rw[SY P]at bR;rw[SN bR]
  rw[cL]at ay;refine bW d aa _ ay X t aM A hc x _ av (cG.mono ae.s) λai aP cP aY cR=>?_;have S:∀j a,cc aP ai j a->t a:=λj a m=>cu j a (cR j a m)
  have a0:∀{O:al},bx A aM O->O D=none:=λ{O} F=>by
   cases cS:O D with
   |none=>rfl
   |some o=>
    rcases F.n D o cS with z|z
    ·rw[bK]at z;cases z
    rw[ax]at z;cases z
  refine bX ai _ cP A t aM A aP _ (aY.rebase S) λb O bS az aj F=>?_;have cW:bS D=some (.lst C):=aj.fr D _ ax aN;cases b with
  |false=>
   rw[Tl SW]at az⊢;obtain⟨T,U⟩:=aY.fR S aj F;exact⟨f.length-(i+1),by lia,O,C,E,ai,rfl,P,T,ae.trans U,cW,a0 F,S,by lia,aO.mono (lI F.s),az⟩
  |true=>
   rw[SZ rfl]at az⊢;refine bY ai _ az A t O bS aP _ aj λc0 v c7 c8 c9 T U a3=>?_;have aE:=F.trans U;have da:c8 D=some (.lst C):=T.fr D _ ax aN;obtain⟨tb,de⟩:=aY.fR S T aE;have a3:=a3.mono (qT (R:=X) λa z=>(av.toWd.fresh z).1);refine⟨C,da,by lia,f.length-(i+1),by lia,c7,C++[v],E++[c0],ai,rfl,P,tb.fT ak (a0 aE) (λj m=>aN (S j D m)) _,ae.trans de,dx,a0 aE,S,by rw[Sz,Ti];lia,(aO.mono (lI aE.s)).append (.cons a3 .nil),?_⟩;simpa[SX]using c9
 have df:i=f.length:=by lia
 subst df;rw[Uw]at ay;obtain⟨aj,F⟩:=Y.after bF av.toWd ae;obtain⟨T,U⟩:=aj.freeze ax bq bK br;refine .inl ⟨k' (SD _),q _ (.ref D) _ bJ (by simpa[gH]using ay) T ((b8.trans F).trans U) (.lst (t9 dx bq) ?_)⟩;exact(aO.mono (qT λa z=>(Y.toWd.fresh z).1)).mono (lI U.s)
theorem Hl{O:Wp}{f:Type}{Xs:f->aU}(g:∀a,(Xs a).K=K)(h:∀a,kg (Xs a) O u):∃t,(∀a,bP (Xs a) O t)/\sH K t u:=by
 refine⟨λb H Q=>∀a,∃t,bP (Xs a) O t/\sH K t u/\t b H Q,λa i s b H Q I q=>?_,λj k q R W B H b Q e z a=>?_⟩
 ·obtain⟨t,c,_,l⟩:=q a;exact c i s b H Q I l
 obtain⟨t,c,d⟩:=h a;rw[g a]at d;exact⟨t,c,d,d j k q R W B H b Q e z⟩
variable{O S P:Wp}{T:Z0}{l:XZ}{L:List (Str×TD)}{ts fr:ZX}{js:ZT}{M:eS}{N:dz}
def Rt(w:cK):bb:=λa k=>w a λb=>k (.lst b)
theorem Ru(c:mq X P S w)(d:∀C s H b,j7 (d5 X (ts++fr) l L C s H b) P M)(e:∀C s H b,pP (d5 X (ts++fr) l L C s H b) T N)(f:∀C s H b,kg (d5 X (ts++fr) l L C s H b) O u)(F:oF X l L fr js)(g:js.Nodup:=by decide)(h:X.calm=true:=by rfl)(i:∀v,WF S X.env v=pure v:=by intro _;rfl):kg X (.ListComp O [⟨P,S,T,0⟩] l G) (Rt (uu w M N u ts.length js)):=by
 obtain⟨_,j,k⟩:=c;obtain⟨t,m,n⟩:=uy (K:=X.K) (Xs:=λa:TD×Tk×al×ZZ=>d5 X (ts++fr) l L a.1 a.2.1 a.2.2.1 a.2.2.2) (λ_=>rfl) λa=>d a.1 a.2.1 a.2.2.1 a.2.2.2;obtain⟨x,o,p⟩:=ux (K:=X.K) (Xs:=λa:TD×Tk×al×ZZ=>d5 X (ts++fr) l L a.1 a.2.1 a.2.2.1 a.2.2.2) (λ_=>rfl) λa=>e a.1 a.2.1 a.2.2.1 a.2.2.2;obtain⟨y,q,r⟩:=Hl (K:=X.K) (Xs:=λa:TD×Tk×al×ZZ=>d5 X (ts++fr) l L a.1 a.2.1 a.2.2.1 a.2.2.2) (λ_=>rfl) λa=>f a.1 a.2.1 a.2.2.1 a.2.2.2;exact⟨_,G2 j (λC s H b=>m (C,s,H,b)) (λC s H b=>o (C,s,H,b)) (λC s H b=>q (C,s,H,b)) F h i,Rs k n p r g⟩
end
section
variable{K:Su}{X:aU}{e:Wp}{g:Z0}{u:bb}{w:cK}{f p:Pos}{I:ZT}{i:Nat}{c:Z1}{j:hE->ZN->D->ZN->Prop}
theorem bG.lD{B:al}{v:V}{b:ZP}(r:bG K B v (.lst b)):∃a c,v=.ref a/\B a=some (.lst c)/\b_ K B c b:=by
 cases r with|lst h r=>exact⟨_,_,rfl,h,r⟩
theorem bG.k5{B:al}{v:V}{b:ZP}(r:bG K B v (.tup b)):∃a c,v=.ref a/\B a=some (.tup c)/\b_ K B c b:=by
 cases r with|tup h r=>exact⟨_,_,rfl,h,r⟩
theorem Rv{a:Type}{x:a}{r:List a}:eF (x::r) 0=some x:=by simp[eF,ju]
structure pR(K:Su)(W:TD->Prop)(σ:St)(ρ:ZN)(H N H':al):Prop where
 fr:∀a o,H a=some o->¬gJ W σ ρ a->H' a=some o
 wh:∀a,gJ W σ ρ a->ft H' a
 tp:∀a vs,N a=some (.tup vs)->H' a=some (.tup vs)
 ls:∀a vs,N a=some (.lst vs)->∃ef,H' a=some (.lst ef)
theorem pR.clear{W:TD->Prop}{c:St}{d:ZN}{H N f:al}(m:pR K W c d H N f)(i:∀a,gJ W c d a->H a≠none){b:TD}{j:ZQ}(k:N b=some (.lst j))(g:H b=none):pR K W c d H N (ed f b (.lst [])):=by
 refine⟨λa o h l=>?_,λa h=>?_,λa e h=>?_,λa e h=>?_⟩
 ·rw[bO (by rintro rfl;rw[g]at h;cases h)];exact m.fr a o h l
 ·exact(m.wh a h).upd (by rintro rfl;exact i _ h g)
 ·rw[bO (by rintro rfl;rw[k]at h;cases h)];exact m.tp a e h
 by_cases z:a=b
 ·subst z;exact⟨[],dx⟩
 rw[bO z];exact m.ls a e h
theorem pR.start{R:al}{W:TD->Prop}{B H f g:al}{c j:St}{d k:ZN}(e:aL K R W B H c d)(b:aL K H (gJ W c d) f g j k):pR K W c d H (dI H f) g/\∀a,gJ W c d a->H a≠none:=
 ⟨⟨b.fr,b.wh,λa i h=>b.bh a _ (iw a _ h),λa i h=>⟨i,b.bh a _ (iw a _ h)⟩⟩,b.wr⟩
def Cf(d:D):Prop:=∃r m,d=.tup (.lst r::m)/\flats r=true
end
section
variable{X:aU}{a b:Wp}{f l:bb}{c:Pos}
def uE:D->Option ZP
 |.tup d=>some d
 |.lst d=>some d
 |.ktup d=>some d
 |_=>none
def Rw(K:Su):iS:=λx y H Q=>∃p d i v,x=.ref p/\y=.int i/\(e0 K H p d\/cE K H p d)/\eF d i=some v/\Q v H
theorem Rx:si X (Rw X.K):=by
 intro value a c s d H x y v u Q I e f h g;obtain⟨p,j,i,z,k,l,b,m,q⟩:=h;rcases b with b|b
 ·exact F3 value a c s d H x y v u Q I e f ⟨p,j,i,z,k,l,b,m,q⟩ g
 exact A3 value a c s d H x y v u Q I e f ⟨p,j,i,z,k,l,b,m,q⟩ g
def Ry(f l:bb):bb:=λe k=>f e λx=>l e λy=>∃g i d,uE x=some g/\y=.int i/\eF g i=some d/\k d
theorem pT(g:bt X a f)(t:bt X b l)(u:sg b):bt X (.Subscript a b c) (Ry f l):=by
 obtain⟨_,w,A⟩:=g;obtain⟨_,C,E⟩:=t;refine⟨_,lG Rx w C u,ss A E λx y k h R W B H G I v J Q e F r q=>?_⟩;obtain⟨K,i,d,p,rfl,g,s⟩:=h;cases F with
 |tup j m=>
  cases p;obtain⟨z,n,o⟩:=ue m g;exact⟨_,_,i,z,rfl,r.et,.inl (e0.of (e.bh _ _ j)),n,q d z B H s e (bx.refl _ _) o⟩
 |lst j m=>
  cases p;obtain⟨z,n,o⟩:=ue m g;exact⟨_,_,i,z,rfl,r.et,.inr (cE.of (e.bh _ _ j)),n,q d z B H s e (bx.refl _ _) o⟩
 |ktup j m=>
  cases p;obtain⟨z,n,o⟩:=ue m g;exact⟨_,_,i,z,rfl,r.et,.inl (Gm e.bh j),n,q d z B H s e (bx.refl _ _) o⟩
 |_=>cases p
structure xq(K:Su)(mg:Str->Option SL)(x:Str)(ns:ZM):Prop where
 ex:∃p:TD,mg x=some (.ref p)/\∀H:al,e0 K H p (ns.map V.int)
theorem uF{x:Str}{a:ZM}(g:xq X.K X.mg x a)(b:eu X x)(d:ea x:=by decide):bt X (.Name x c) (iX (.ktup (a.map D.int))):=by
 obtain⟨p,f,i⟩:=g.ex;refine⟨_,M9 (v:=.ref p) b f rfl d,λj k h R W B H l Q e q=>?_⟩;exact q _ _ B H h e (bx.refl _ _) (.ktup (i B) (b_.ints a))
theorem Rz{K:Su}{a:Str->Option SL}{x:Str}{p:TD}{i j:Int}{b c:Tok}{d:Option TD}{e:Array (Option SL)}{n:Nat}(f:a x=some (.ref p))(g:K.lookup p=some ⟨.type "tuple",d,.seq #[.int i b,.int j c] n,e⟩):xq K a x [i,j]:=
 ⟨p,f,λH=>.inr ⟨_,_,_,g,rfl,rfl,e7,.cons ⟨_,rfl⟩ (.cons ⟨_,rfl⟩ .nil)⟩⟩
end
def RA(h:XG):Zy:=(S7 h.objs.size).filterMap λa=>(h.get? a).map λo=>(a,o)
theorem Hm(g:Nat->Option Obj)(a:Nat):∀l:ZT,(l.filterMap λb=>(g b).map λo=>(b,o)).lookup a=if a∈l then g a else none
 |[]=>rfl
 |b::l=>by
  have c:=Hm g a l;cases q:g b with
  |none=>
   rw[WQ (by rw[q];rfl),c];by_cases e:a=b
   ·subst e;rw[q];simp
   simp[e]
  |some o=>
   rw[WR (b:=(b,o)) (by rw[q];rfl),VY];by_cases e:a=b
   ·subst e;simp[q]
   have:(a==b)=false:=by simpa using e
   simp only[this,c,SH,e,false_or]
def xr(K:Zy)(x:Str)(st:XF):Prop:=∃f a,nsIn K TW x=some (some (.ref f))/\nu K x x st f a
theorem Cg(x:Str)(st:XF):zx x st=some (x,x,qQ st,.stmts (j3 st),bL st,TW,[],.none,X0,true):=by cases st<;>rfl
def Hn(K:Zy):List (Str×XF)->Prop
 |[]=>True
 |p::l=>xr K p.1 p.2/\Hn K l
def mH(K:Zy):ZX->Prop
 |[]=>True
 |b::l=>nsIn K TW b=some none/\mH K l
def xt(K:Zy)(x:Str)(i j:Int):Prop:=∃p a b n c d,nsIn K TW x=some (some (.ref p))/\K.lookup p=some ⟨.type "tuple",a,.seq #[.int i c,.int j d] n,b⟩
def Ho(K:Zy):List (Str×Int×Int)->Prop
 |[]=>True
 |p::l=>xt K p.1 p.2.1 p.2.2/\Ho K l
def Hp(K:Zy)(x:Str)(c:Int ⊕ Str):Prop:=match c with
 |.inl i=>∃t,nsIn K TW x=some (some (.int i t))
 |.inr s=>∃t,nsIn K TW x=some (some (.str s t))
def Hq(K:Zy):List (Str×(Int ⊕ Str))->Prop
 |[]=>True
 |p::l=>Hp K p.1 p.2/\Hq K l
structure mS(t:mc)(K:Zy):Prop where
 tf:Hn K t.fs
 tb:mH K t.bs
 tt:Ho K t.ts
 tc:Hq K t.cs
theorem xr.er{K:Zy}{h:XG}{c:Str->Option SL}{x:Str}{st:XF}{d:ZX}(X:K.In h)(G:h.Ns TW c)(F:xr K x st)(b:∀f a,nu K x x st f a->fy K a d []):cH K c x st d:=by
 obtain⟨f,a,m,F⟩:=F;exact⟨f,a,mg_of X G m,F,b f a F⟩
abbrev sI(x:Str)(st:XF)(b:ZY)(r:List (Str×SL)):Prop:=∀(kV doc c:SL)(d:Option TD)(a e:SL),Y2 (fnOf x x (qQ st) (j3 st) (bL st) .none kV doc c d a e) ⟨b,[]⟩=pure r
abbrev sJ(x:Str)(st:XF)(c:ZX):Prop:=∀(kV doc d:SL)(e:Option TD)(a f:SL)(b:ZY),b.length=c.length->Y2 (fnOf x x (qQ st) (j3 st) (bL st) .none kV doc d e a f) ⟨b,[]⟩=pure (c.zip b)
section
variable{x:Str}{st:XF}
theorem jl{p:Str}(b:∀a,sI x st [a] [(p,a)]):sJ x st [p]:=λ_ _ _ _ _ _ c d=>match c,d with|[a],_=>b a _ _ _ _ _ _
theorem gt{p q:Str}(c:∀a b,sI x st [a,b] [(p,a),(q,b)]):sJ x st [p,q]:=λ_ _ _ _ _ _ d e=>match d,e with|[a,b],_=>c a b _ _ _ _ _ _
theorem nL{p q r:Str}(d:∀a b c,sI x st [a,b,c] [(p,a),(q,b),(r,c)]):sJ x st [p,q,r]:=λ_ _ _ _ _ _ e f=>match e,f with|[a,b,c],_=>d a b c _ _ _ _ _ _
theorem Ch{p q r s:Str}(e:∀a b c d,sI x st [a,b,c,d] [(p,a),(q,b),(r,c),(s,d)]):sJ x st [p,q,r,s]:=λ_ _ _ _ _ _ f g=>match f,g with|[a,b,c,d],_=>e a b c d _ _ _ _ _ _
theorem Hr{p q r s t:Str}(f:∀a b c d e,sI x st [a,b,c,d,e] [(p,a),(q,b),(r,c),(s,d),(t,e)]):sJ x st [p,q,r,s,t]:=λ_ _ _ _ _ _ g h=>match g,h with|[a,b,c,d,e],_=>f a b c d e _ _ _ _ _ _
theorem Hs{p q r s t v:Str}(g:∀a b c d e f,sI x st [a,b,c,d,e,f] [(p,a),(q,b),(r,c),(s,d),(t,e),(v,f)]):sJ x st [p,q,r,s,t,v]:=λ_ _ _ _ _ _ h i=>match h,i with|[a,b,c,d,e,f],_=>g a b c d e f _ _ _ _ _ _
end
theorem xt.m3{K:Zy}{h:XG}{a:Str->Option SL}{x:Str}{i j:Int}(X:K.In h)(G:h.Ns TW a)(F:xt K x i j):xq K a x [i,j]:=by
 obtain⟨p,b,c,n,d,e,m,l⟩:=F;exact Rz (mg_of X G m) l
section
variable{a:WP}{w:XB}{A:XC}{E:SL->Tk->Prop}{s:Tk}
theorem Ht{c t:TD}{b:Array SL}(f:t≠c):∀(n i:Nat)(s:Tk)(Q:ZY->Tk->Prop),s.heap.IsListIter c t i->s.heap.IsList t b->i+n<=b.size->
  (∀d,d.IsListIter c t (i+n)->Heap.SameBut c s.heap d->Q ((b.toList.drop i).take n) {s with heap:=d })->wpAny (UV a w) A (draw (.ref c) n) Q E s
 |0,i,s,Q,hit,_,_,e=>by
  show wpAny _ _ (pure []) Q E s
  exact SC (by simpa using e s.heap hit (Heap.SameBut.refl ..))
 |n+1,i,s,Q,hit,g,hle,e=>by
  have h:i<b.size:=by lia
  show wpAny _ _ (YW (.ref c) >>= _) Q E s
  refine wp (YN hit g (x:=b[i]) (by simp[h]) λq k j=>?_);refine wp (Xy (Ht f n (i+1) _ _ k (g.extBut j.extBut f) (by lia) λl m o=>SC ?_));have p:b.toList.drop i=b[i]::b.toList.drop (i+1):=by simp[Ul,h]
  have:=e l (by rw[show i+(n+1)=i+1+n by lia];exact m) (j.trans o);rwa[p,VZ]at this
theorem RD{t:TD}{c:Array SL}{Q:ZY->Tk->Prop}(j:A.handled=none)(d:s.heap.IsList t c)(k:∀f,Heap.ExtBut s.heap.objs.size s.heap f->Q c.toList {s with heap:=f }):wpAny (UV a w) A (Zz (.ref t) c.size none) Q E s:=by
 have g:t≠s.heap.objs.size:=by obtain⟨o,l,_⟩:=d;exact S6 (Heap.lt_size l)
 unfold Zz;refine wp ?_
 unfold notIterableAtAll;refine wp (Ye d.typeIs F.slot_list_iter.lookup ?_);refine SC ?_;simp only[TL,if_false];refine wp (Xy (Yh d ?_));refine wp (Xy (Ht g c.size 0 _ _ ⟨_,Heap.get?_push_size _ rfl,rfl,rfl⟩ (d.push _) (by lia) λm n h=>?_))
 have p:List.take c.size (List.drop 0 c.toList)=c.toList:=by
  rw[List.drop_zero];exact U0 (by simp)
 rw[p];rw[Tl (by simp)];have q:m.IsList t c:=(d.push _).extBut h.extBut g;refine wp (Xy (YX j n q (by simp) λr u=>?_));simp only[Option.isSome_none,TL,if_false];refine SC (k r λb o i e=>u b o i (h.extBut b o i (Heap.get?_push_of_some _ e)))
theorem RG{c:Tu}{d:Z0}{g}{e:Pos}{t:TD}{b:Array SL}{Q:Unit->Tk->Prop}(i:A.handled=none)(j:s.heap.IsList t b)(k:(XD d c).length=b.size)(l:(XD d c).findIdx? (·.1)=none)(h:∀f,Heap.ExtBut s.heap.objs.size s.heap f->wpAny (UV a w) A (YI ((XD d c).map (·.2)) b.toList) Q E {s with heap:=f }):
  wpAny (UV a w) A (Y8 (.Tuple d g e) c (.ref t)) Q E s:=by
 rw[arm_assign_Tuple];refine wp (X1 ?_);unfold unpack;rw[k,l];exact wp (Xy (RD i j h))
end
section
variable{X:aU}{c:Pos}
def RI(K:Su)(n:Nat)(t:nj):fN:=λv d H Q=>∃a b,v=.ref a/\cE K H a b/\b.length=n/\t b d H Q
theorem RJ{d:Z0}{k:Nat}{t:nj}{n:Nat}(l:X.calm=true)(h:r8 X d t)(m:(XD d X.env).length=n:=by rfl)(p:(XD d X.env).findIdx? (·.1)=none:=by rfl):i' X (.Tuple d k c) (RI X.K n t):=by
 intro g s i H v u Q I r f;obtain⟨a,q,w,x,y,f⟩:=f;subst w;cases r;obtain⟨z,j,A,F⟩:=I.list x;refine RG (I.ok.hd l) A.isList (by simp[m,<-y,j.length]) p λB C=>?_;have E:c_ X g i H {s with heap:=B }:=I.kept (t':=s.toks) λb o e=>C b o (S6 (Heap.lt_size e)) e;exact h g _ i H q _ Q E (by simpa using j) f
end
section
variable{X:aU}{b:Z0}{c:Pos}
def RK(n:Nat)(e:nD):eS:=λd f k=>∃a,d=.lst a/\a.length=n/\e a f k
theorem Hv{j:Nat}{f:nD}{n:Nat}(l:X.calm=true)(h:ua X b f)(m:(XD b X.env).length=n:=by rfl)(o:(XD b X.env).findIdx? (·.1)=none:=by rfl):j7 X (.Tuple b j c) (RK n f):=by
 obtain⟨_,p,s⟩:=h;refine⟨_,RJ l p m o,λd t k h R W B H u v Q e r q=>?_⟩;obtain⟨w,rfl,x,h⟩:=h;obtain⟨a,g,rfl,y,i⟩:=r.eO;exact⟨a,g,rfl,cE.of (e.bh _ _ y),by rw[i.length];exact x,s w t k h R W B H u g Q e i q⟩
end
noncomputable def ej(g p:ab):ab:=(p.1*g.2.2+g.1*p.2.2,p.2.1*g.2.2+g.2.1*p.2.2,p.2.2*g.2.2)
noncomputable def eI(p:ab):ab:=(-p.1,-p.2.1,p.2.2)
def Ck(p q r s:ab):ab:=a_ (a_ p q) (a_ r s)
def bn(p q r:ab):Int:=(a_ p q).1*r.1+(a_ p q).2.1*r.2.1+(a_ p q).2.2*r.2.2
def cM(x:Int):Int:=if 0<x then 1 else if x<0 then -1 else 0
theorem RL{x y c d:Int}(b:0<c)(e:0<d)(h:c*x=d*y):cM x=cM y:=by
 have posQz:0<x↔0<y:=by
  constructor
  ·intro f;have:=SE b f;rw[h]at this;exact T9 this e
  intro g;have:=SE e g;rw[<-h]at this;exact T9 this b
 have i:x=0↔y=0:=by
  constructor
  ·intro f;rw[f,S4]at h;exact(Tv.mp h.symm).resolve_left (SA e)
  intro g;rw[g,S4]at h;exact(Tv.mp h).resolve_left (SA b)
 unfold cM;by_cases a:0<x
 ·rw[SZ a,SZ (posQz.mp a)]
 rw[Tl a,Tl (λz=>a (posQz.mpr z))];by_cases j:x=0
 ·rw[Tl (by lia),Tl (by have:=i.mp j;lia)]
 have:y≠0:=λz=>j (i.mpr z);have:¬0<y:=λz=>a (posQz.mpr z);rw[SZ (by lia),SZ (by lia)]
structure uH(L:ab->ab):Prop where
 EI:∀c p,L (sc c p)=sc c (L p)
 z:∃k,0<k/\∀p,(L p).2.2=k*p.2.2
 mt:∃d,d≠0/\∀p q r s,Ck (L p) (L q) (L r) (L s)=sc d (L (Ck p q r s))
 dt:∃d,0<d/\∀p q r,bn (L p) (L q) (L r)=d*bn p q r
noncomputable def cs(g c:ab):ab:=(g.2.2*c.1,g.2.2*c.2.1,g.2.2*c.2.2-g.1*c.1-g.2.1*c.2.1)
theorem Cm(g p q:ab):a_ (ej g p) (ej g q)=sc g.2.2 (cs g (a_ p q)):=by
 refine fc ?_ ?_ ?_<;>simp only[a_,sc,ej,cs]<;>grind
theorem RM(g u v:ab):a_ (cs g u) (cs g v)=sc g.2.2 (ej g (a_ u v)):=by
 refine fc ?_ ?_ ?_<;>simp only[a_,sc,ej,cs]<;>grind
theorem RN{g:ab}(a:0<g.2.2):uH (ej g):=by
 have b:=SA a;refine⟨λc p=>by refine fc ?_ ?_ ?_<;>simp only[sc,ej]<;>grind,⟨g.2.2,a,λp=>by simp only[ej];grind⟩,⟨g.2.2*g.2.2*g.2.2,S0 (S0 b b) b,λp q r s=>?_⟩,⟨g.2.2*g.2.2*g.2.2,SE (SE a a) a,λp q r=>?_⟩⟩
 ·unfold Ck;rw[Cm,Cm,Cc,RM,He]
 unfold bn;rw[Cm];generalize a_ p q=c;simp only[sc,cs,ej];grind
theorem uH.low{L:ab->ab}(l:uH L){p:ab}(b:0<p.2.2):0<(L p).2.2/\∃k,0<k/\L p=sc k (nP (L p)):=by
 obtain⟨k,c,e⟩:=l.z;have posQz:0<(L p).2.2:=by rw[e];exact SE c b
 obtain⟨g,h,a⟩:=kL (SA posQz);have d:=(gI (SA posQz)).1;refine⟨posQz,g,?_,a⟩;have f:(L p).2.2=g*(nP (L p)).2.2:=Uf (λp:ab=>p.2.2) a;rw[f]at posQz;exact UM posQz d
theorem RO(a b c:Int)(p q r:ab):bn (sc a p) (sc b q) (sc c r)=a*b*c*bn p q r:=by
 simp only[bn,Cc];generalize a_ p q=u;simp only[sc];grind
theorem uH.side{L:ab->ab}(l:uH L){p q r:ab}(e:0<p.2.2)(f:0<q.2.2)(g:0<r.2.2):cM (bn (nP (L p)) (nP (L q)) (nP (L r)))=cM (bn p q r):=by
 obtain⟨_,a,h,i⟩:=l.low e;obtain⟨_,b,j,k⟩:=l.low f;obtain⟨_,c,m,n⟩:=l.low g;obtain⟨d,o,s⟩:=l.dt;refine RL (SE (SE h j) m) o ?_;rw[<-RO,<-i,<-k,<-n,s]
theorem kh{a b:Int}(h:∀k:Int,k∣a->k∣b->k∣1):Ss a b=1:=by
 have q:=Uu.mpr (h _ (Vc a b) (U1 a b));simpa using q
theorem kM{a b k:Int}(g:Ss a b=1)(c:k∣a)(d:k∣b):k∣1:=by
 have:=V0 c d;rwa[g]at this
theorem pV{k n m:Int}(h:k∣n*m)(g:Ss k m=1):k∣n:=ox (by rw[S8];exact h) g
theorem uI{a b k:Int}(g:Ss a b=1)(h:k∣a):Ss k b=1:=kh λj c d=>kM g (Tn c h) d
theorem xu{x y t b:Int}(l:ba x y)(a:b≠0)(e:x*b=t*y):ee t b=(x,y):=by
 rw[<-Rl l];exact Rk a (SA l.1) e.symm
theorem Hx{x y z a b n:Int}(p:nz x y z)(c:n≠0)(g:x*n=a*z)(h:y*n=b*z):cC a b n=(x,y,z):=by
 obtain⟨q,i,j,_⟩:=lR (a:=a) (b:=b) c;obtain⟨d,e,f⟩:=wK q p (TK c (by grind)) (TK c (by grind));exact TC d (TC e f)
theorem pW{a b:Int}(h:a≠0\/b≠0):∃x y:Int,a=((Ss a b:Nat):Int)*x/\b=((Ss a b:Nat):Int)*y/\Ss x y=1:=by
 obtain⟨x,c⟩:=Vc a b;obtain⟨y,d⟩:=U1 a b;refine⟨x,y,c,d,?_⟩
 have posQz:0<Ss a b:=by
  rcases h with h|h
  ·exact WS b h
  exact Vb a h
 have q:Ss a b=(((Ss a b:Nat):Int)).natAbs*Ss x y:=Rj c d;rw[WT]at q;exact VO posQz (by lia)
theorem Hy{a b:Int}(h:a≠0\/b≠0):((Ss a b:Nat):Int)≠0:=by
 have posQz:0<Ss a b:=by
  rcases h with h|h
  ·exact WS b h
  exact Vb a h
 lia
theorem nM{a b:Int}(h:a≠0\/b≠0):0<((Ss a b:Nat):Int):=by
 have:=Hy h;lia
theorem oL{s y:Int}(a:0<s)(h:0<s*y):0<y:=T9 h a
theorem Hz{x y u k Y V:Int}(g:Ss x y=1)(c:Y∣y)(d:Ss Y V=1)(e:k∣x*V+u*Y)(a:k∣Y):k∣1:=by
 have f:k∣x*V:=by
  have:=V1 e (TN a (b:=u));simpa using this
 exact kM g (pV f (uI d a)) (Tn a c)
theorem RR{x y u v:Int}(B:ba x y)(C:ba u v){s top d:Int}(o:s=(Ss y v:Nat))(g:top=x*v.fdiv s+u*y.fdiv s)(p:d=(Ss s top:Nat)):
  (top.fdiv d,y.fdiv s*v.fdiv d)=ee (x*v+u*y) (y*v):=by
 obtain⟨h,E⟩:=B;obtain⟨F,G⟩:=C;obtain⟨Y,V,e,f,q⟩:=pW (a:=y) (b:=v) (.inl (SA h));have i:0<s:=by rw[o];exact nM (.inl (SA h))
 rw[<-o]at e f;have c:=SA i;rw[jj f c,jj e c]at g;obtain⟨S,T,r,l,H⟩:=pW (a:=s) (b:=top) (.inl c);have t:0<d:=by rw[p];exact nM (.inl c)
 rw[<-p]at r l;have w:=SA t;have I:v=d*(S*V):=by rw[f,r,Uj]
 rw[jj l w,jj e c,jj I w];have J:0<Y:=oL i (by lia);have K:0<V:=oL i (by lia);have L:0<S:=oL t (by lia);refine(xu ⟨SE J (SE L K),?_⟩ (SA (SE h F)) ?_).symm
 ·refine kh λk z M=>?_;have A:k∣top:=by rw[l];exact TN z
  have N:Ss k Y=1:=kh λj m n=>Hz E ⟨s,by rw[e,S8]⟩ q (by rw[<-g];exact Tn m A) n;have O:Ss k V=1:=kh λj m n=>Hz (x:=u) (u:=x) (Y:=V) (V:=Y) G ⟨s,by rw[f,S8]⟩ (by rw[TX];exact q) (by rw[V2,<-g];exact Tn m A) n;exact kM H (pV (ox M N) O) z
 grind
theorem RT{x y u v:Int}(z:ba x y)(A:ba u v):
  (x.fdiv ((Ss x v:Nat):Int)*u.fdiv ((Ss u y:Nat):Int),y.fdiv ((Ss u y:Nat):Int)*v.fdiv ((Ss x v:Nat):Int))=ee (x*u) (y*v):=by
 obtain⟨e,B⟩:=z;obtain⟨g,C⟩:=A;obtain⟨X,V,p,q,E⟩:=pW (a:=x) (b:=v) (.inr (SA g));obtain⟨U,Y,r,s,F⟩:=pW (a:=u) (b:=y) (.inr (SA e));have l:=nM (a:=x) (b:=v) (.inr (SA g));have m:=nM (a:=u) (b:=y) (.inr (SA e));generalize((Ss x v:Nat):Int)=f at *;generalize((Ss u y:Nat):Int)=h at *;rw[jj p (SA l),jj q (SA l),jj r (SA m),jj s (SA m)];have G:0<Y:=oL m (by lia);have H:0<V:=oL l (by lia);refine(xu ⟨SE G H,?_⟩ (SA (SE e g)) ?_).symm
 ·refine kh λk t I=>?_;have J:Ss X Y=1:=kh λj d c=>kM B (by rw[p];exact TN d) (by rw[s];exact TN c);have K:Ss U V=1:=kh λj d c=>kM C (by rw[r];exact TN d) (by rw[q];exact TN c)
  have L:Ss k Y=1:=kh λj d c=>by
   have M:j∣X*U:=Tn d t;have N:j∣U:=ox M (kh λi n o=>kM J o (Tn n c));exact kM F N c
  have w:k∣V:=ox I L;have O:k∣U:=ox t (kh λi n o=>kM E o (Tn n w));exact kM K O w
 grind
theorem HB{x y z:Int}(h:∀k:Int,k∣x->k∣y->k∣z->k∣1):Ss (Ss x y:Nat) z=1:=
 kh λk a b=>h k (Tn a (Vc x y)) (Tn a (U1 x y)) b
theorem RY{x y z k:Int}(g:Ss (Ss x y:Nat) z=1)(a:k∣x)(b:k∣y)(c:k∣z):k∣1:=kM g (V0 a b) c
theorem RZ{x y u v:Int}(p:ba x y)(q:ba u v):
  (x*v.fdiv ((Ss y v:Nat):Int),u*y.fdiv ((Ss y v:Nat):Int),y.fdiv ((Ss y v:Nat):Int)*v)=cC (x*v) (u*y) (y*v):=by
 obtain⟨d,r⟩:=p;obtain⟨g,h⟩:=q;obtain⟨Y,V,i,l,m⟩:=pW (a:=y) (b:=v) (.inl (SA d));have e:=nM (a:=y) (b:=v) (.inl (SA d));generalize((Ss y v:Nat):Int)=s at *;rw[jj l (SA e),jj i (SA e)];have t:0<Y:=oL e (by lia);refine(Hx ⟨SE t g,?_⟩ (SA (SE d g)) ?_ ?_).symm
 ·refine HB λk w n z=>?_;have o:Ss k Y=1:=kh λj f c=>kM r (pV (Tn f w) (uI m c)) (by rw[i];exact TN c);have C:Ss k V=1:=kh λj f c=>kM h (pV (Tn f n) (uI (by rw[TX];exact m) c)) (by rw[l];exact TN c);have A:k∣u:=pV n o;have B:k∣v:=ox z o;exact kM h A B
 ·grind
 grind
theorem HC{a b n r w k N M:Int}(g:Ss (Ss a b:Nat) n=1)(e:N∣n)(d:Ss N M=1)(f:k∣a*M+r*N)(h:k∣b*M+w*N)(c:k∣N):k∣1:=by
 have i:k∣a*M:=by
  have:=V1 f (TN c (b:=r));simpa using this
 have j:k∣b*M:=by
  have:=V1 h (TN c (b:=w));simpa using this
 exact RY g (pV i (uI d c)) (pV j (uI d c)) (Tn c e)
theorem R1{a b n r w m:Int}(p1:nz a b n)(p2:nz r w m){s X Y d:Int}(x:s=(Ss n m:Nat))(i:X=a*m.fdiv s+r*n.fdiv s)(l:Y=b*m.fdiv s+w*n.fdiv s)(y:d=(Ss ((Ss s X:Nat):Int) Y:Nat)):
  (X.fdiv d,Y.fdiv d,n.fdiv s*m.fdiv d)=cC (a*m+r*n) (b*m+w*n) (n*m):=by
 obtain⟨o,K⟩:=p1;obtain⟨L,O⟩:=p2;obtain⟨N,M,f,g,A⟩:=pW (a:=n) (b:=m) (.inl (SA o));have p:0<s:=by rw[x];exact nM (.inl (SA o))
 rw[<-x]at f g;have c:=SA p;rw[jj f c,jj g c]at i l;obtain⟨h,P,Q,R,S⟩:=pW (a:=s) (b:=X) (.inl c);have B:=Hy (a:=s) (b:=X) (.inl c);obtain⟨E,ao,q,t,T⟩:=pW (a:=((Ss s X:Nat):Int)) (b:=Y) (.inl B);have C:0<d:=by rw[y];exact nM (.inl B)
 rw[<-y]at q t;have u:=SA C
 have U:s=d*(E*h):=by
  rw[Q]
  conv=>lhs;rw[q]
  rw[Uj]
 have F:X=d*(E*P):=by
  rw[R]
  conv=>lhs;rw[q]
  rw[Uj]
 have W:m=d*(E*h*M):=by rw[g,U,Uj]
 rw[jj F u,jj t u,jj f c,jj W u];have Z:0<N:=oL p (by lia);have hi:0<M:=oL p (by lia);have ae:0<E*h:=oL C (by lia);refine(Hx ⟨SE Z (SE ae hi),?_⟩ (SA (SE o L)) ?_ ?_).symm
 ·refine HB λk G H af=>?_;have I:k∣X:=by rw[F];exact TN G
  have J:k∣Y:=by rw[t];exact TN H
  have ai:Ss k N=1:=kh λj e v=>HC K ⟨s,by rw[f,S8]⟩ A (by rw[<-i];exact Tn e I) (by rw[<-l];exact Tn e J) v;have aj:Ss k M=1:=kh λj e v=>HC (a:=r) (b:=w) (n:=m) (r:=a) (w:=b) (N:=M) (M:=N) O ⟨s,by rw[g,S8]⟩ (by rw[TX];exact A) (by rw[V2,<-i];exact Tn e I) (by rw[V2,<-l];exact Tn e J) v;have ak:k∣E*h:=pV (ox af ai) aj
  have hc:k∣E:=by
   have z:=V0 ak G;rw[VN,S,Nat.mul_one]at z;exact Tn z (Int.natAbs_dvd.mpr (Int.dvd_refl E))
  exact kM T hc H
 ·grind
 grind
theorem cw.sld{m n:Nat}{g p:ab}(d:cw m g)(e:cw n p):cw (n+m+1) (L3.ej g p):=by
 refine⟨?_,?_,?_⟩
 ·exact Sy (XN (TE e.a d.c) (TE d.a e.c)) (by lia)
 ·exact Sy (XN (TE e.b d.c) (TE d.b e.c)) (by lia)
 exact Sy (TE e.c d.c) (by lia)
theorem cw.trn{m:Nat}{p:ab}(d:cw m p):cw m (L3.eI p):=⟨TT d.a,TT d.b,d.c⟩
theorem aX.trn{p:ab}(h:aX p):aX (L3.eI p):=Bl h
theorem uN{g p:ab}(a:aX g)(b:aX p):(ej g p).2.2≠0:=nA b.1 a.1
theorem aX.sld{g p:ab}(a:aX g)(b:aX p):aX (nP (L3.ej g p)):=gI (uN a b)
theorem cw.k_{m n:Nat}{g p:ab}(a:cw m g)(b:cw n p)(c:aX g)(d:aX p):cw (n+m+1) (L3.nP (L3.ej g p)):=(a.sld b).nP (uN c d)
theorem sK(p q:ab):bn p q q=0:=by unfold bn a_;grind
def bD(a:ZO)(n:Nat):ab:=(a[n]?).getD (0,0,1)
theorem mK{a:ZO}{n:Nat}(h:n<a.length):bD a n=a[n]:=by unfold bD;rw[SY h];rfl
theorem Cr{f:ab->ab}{a:ZO}{n:Nat}(h:n<a.length):bD (a.map f) n=f (bD a n):=by
 rw[mK h,mK (by rw[Sv];exact h),List.getElem_map]
theorem oN{a:ZO}{n:Nat}(h:n<a.length):bD a n∈a:=by rw[mK h];exact V3 h
theorem nO{a:ZO}{n:Nat}(h:n<a.length):eF (a.map aS) (n:Int)=some (aS (bD a n)):=by rw[mK h];exact ra (B' h)
def fm(a:ZO):Prop:=3<=a.length/\∀k j,k<a.length->j<a.length->j≠k->j≠(k+1)%a.length->cM (bn (bD a k) (bD a ((k+1)%a.length)) (bD a j))=1
theorem fm.map{f:ab->ab}{a:ZO}(g:∀p q r,p∈a->q∈a->r∈a->cM (bn (f p) (f q) (f r))=cM (bn p q r))(h:fm a):fm (a.map f):=by
 refine⟨by rw[Sv];exact h.1,λk j b c i d=>?_⟩;rw[Sv]at b c d⊢;have e:(k+1)%a.length<a.length:=Uy _ (by lia);rw[Cr b,Cr c,Cr e,g _ _ _ (oN b) (oN e) (oN c)];exact h.2 k j b c i d
theorem xw{p q r:ab}(h:cM (bn p q r)=1):fm [p,q,r]:=by
 refine⟨by simp,λk j a b f c=>?_⟩;have l:[p,q,r].length=3:=rfl;rw[l]at a b c⊢;have d:bn q r p=bn p q r:=by unfold bn a_;grind
 have e:bn r p q=bn p q r:=by unfold bn a_;grind
 have:k=0\/k=1\/k=2:=by lia
 rcases this with rfl|rfl|rfl
 ·have:j=2:=by lia
  subst this;exact h
 ·have:j=0:=by lia
  subst this;show cM (bn q r p)=1
  rw[d];exact h
 have:j=1:=by lia
 subst this;show cM (bn r p q)=1
 rw[e];exact h
abbrev a8:=ZO×Bool×ab
abbrev ZR:=List a8
def bH(s:a8):D:=.tup [.lst (s.1.map aS),.bl s.2.1,aS s.2.2]
structure cX(m:Nat)(p:ab):Prop where
 pt:aX p
 bp:cw m p
theorem cX.mono{m n:Nat}{p:ab}(h:cX m p)(l:m<=n):cX n p:=⟨h.pt,h.bp.mono l⟩
def lT(g:ab)(s:a8):a8:=(s.1.map (λp=>nP (ej g p)),s.2.1,nP (ej g s.2.2))
theorem cX.trn{m:Nat}{p:ab}(h:cX m p):cX m (L3.eI p):=⟨h.pt.trn,h.bp.trn⟩
theorem cX.sl{m n:Nat}{g p:ab}(a:cX m g)(h:cX n p):cX (n+m+1) (nP (ej g p)):=⟨a.pt.sld h.pt,a.bp.k_ h.bp a.pt h.pt⟩
theorem HI(p:ab):has (.T [.I,.I,.I]) (aS p)=true:=rfl
theorem R9(a:ZO):has (.L (.T [.I,.I,.I])) (.lst (a.map aS))=true:=by
 simp only[has,Ux];intro x b;obtain⟨p,_,rfl⟩:=SI.mp b;exact HI p
abbrev Cs:eS:=mz 3 (hq (eU 0) (hq (eU 1) (hq (eU 2) my)))
theorem xx{u:bb}{fs:ZN}{h:a8->D}:∀{sh:ZR}{b c d:aA}{k:ZP->Prop},(∀s∈sh,∀k:D->Prop,k (h s)->u (.val (.lst (s.1.map aS))::.val (.bl s.2.1)::.val (aS s.2.2)::fs) k)->k (sh.map h)->gH Cs hW u (sh.map bH) (b::c::d::fs) k
 |[],_,_,_,_,_,a=>a
 |s::sh,b,c,d,k,e,a=>by
  refine⟨_,rfl,rfl,_,_,rfl,_,_,rfl,_,_,rfl,rfl,?_⟩;show(if true=true then u (.val (.lst (s.1.map aS))::.val (.bl s.2.1)::.val (aS s.2.2)::fs) λy=>gH Cs hW u (sh.map bH) (.val (.lst (s.1.map aS))::.val (.bl s.2.1)::.val (aS s.2.2)::fs) λf=>k (y::f)else gH Cs hW u (sh.map bH) (.val (.lst (s.1.map aS))::.val (.bl s.2.1)::.val (aS s.2.2)::fs) k)
  rw[SZ rfl];refine e s Sw _ ?_;exact xx (λx g=>e x (Sx _ g)) a
theorem Ct(f:ab->ab):∀a:ZO,flats (a.map λp=>aS (f p))=true
 |[]=>rfl
 |p::r=>by
  rw[SJ,flats,Ct f r];rfl
theorem R'(a:ZO):flats (a.map aS)=true:=Ct id a
theorem Sa(f:ab->ab)(a:ZO):(a.map λp=>aS (f p))=(a.map f).map aS:=by rw[SM];rfl
theorem Sb(s:a8):Cf (bH s):=⟨_,_,rfl,R' _⟩
theorem Sc{sh:ZR}:∀q∈sh.map bH,Cf q:=λq a=>by
 obtain⟨s,_,rfl⟩:=SI.mp a;exact Sb s
noncomputable abbrev Cu:iy:=.L (.T [.L (.T [.I,.I,.I]),.B,.T [.I,.I,.I]])
theorem Sd(sh:ZR):has Cu (.lst (sh.map bH))=true:=by
 simp only[has,Ux];intro x c;obtain⟨s,_,rfl⟩:=SI.mp c;have a:=R9 s.1;have b:=HI s.2.2;simp only[bH,hass,has]at a b⊢;rw[a];simpa using b
theorem HJ{a b c:Nat}{s:cA}{U:hE}(I:ZR->ZN->Prop):∀{sh done:ZR}{d:ZN},I done d->
  (∀pre x f d,done++sh=pre++x::f->I pre d->∀N:ZN->Prop,(∀r,I (pre++[x]) r->N r)->s {U with nx:=N,ct:=N,bk:=U.nx} (((d.set a (.val (.lst (x.1.map aS)))).set b (.val (.bl x.2.1))).set c (.val (aS x.2.2))))->
  (∀d,I (done++sh) d->U.nx d)->ka (mz 3 (hq (eU a) (hq (eU b) (hq (eU c) my)))) s U (sh.map bH) d
 |[],done,d,g,_,i=>i d (by rw[SU];exact g)
 |x::sh,done,d,g,j,i=>by
  refine⟨_,rfl,rfl,_,_,rfl,_,_,rfl,_,_,rfl,rfl,?_⟩;refine j done x sh d rfl g _ λr k=>?_;refine HJ I k (λpre y f d e=>j pre y f d (by rw[<-e];simp)) λd h=>i d ?_;have e:done++[x]++sh=done++x::sh:=by simp
  rw[<-e];exact h
def f3(s:a8):List ab:=if s.2.1=true then(s.1.map λp=>nP (ej (eI s.2.2) p)).map eI else s.1.map λp=>nP (ej (eI s.2.2) p)
theorem Cv{b:Type}(a:List b)(lo c:Option Int):(ig a lo c).length<=a.length:=by
 unfold ig;rw[TQ,Us];lia
theorem HK(x y:Int):Ss (Ss x 0:Nat) y=Ss x y:=by rw[WG];show Tj (Int.natAbs (x.natAbs:Int)) y.natAbs=_;rw[WT];rfl
theorem Se(x y:Int):Ss (Ss 0 x:Nat) y=Ss x y:=by rw[TX 0 x,HK]
theorem xy{w:Int×Int}(l:ba w.1 w.2):aX (w.1,0,w.2):=⟨l.1,(HK _ _).trans l.2⟩
theorem xz{w:Int×Int}(l:ba w.1 w.2):aX (0,w.1,w.2):=⟨l.1,(Se _ _).trans l.2⟩
def dr(w h:Int×Int):ab:=cC (w.1*h.2) (h.1*w.2) (w.2*h.2)
def lU(w h:Int×Int):List ab:=[(0,0,1),(w.1,0,w.2),dr w h,(0,h.1,h.2)]
structure iG(w h:Int×Int):Prop where
 lw:ba w.1 w.2
 lh:ba h.1 h.2
 w0:0<w.1
 h0:0<h.1
theorem iG.top{w h:Int×Int}(b:iG w h):aX (dr w h)/\(dr w h).1*w.2=w.1*(dr w h).2.2/\(dr w h).2.1*h.2=h.1*(dr w h).2.2/\0<(dr w h).1/\0<(dr w h).2.1:=by
 have g:w.2*h.2≠0:=nA b.lw.1 b.lh.1;obtain⟨p,c,d,_⟩:=lR (a:=w.1*h.2) (b:=h.1*w.2) g;have p:aX (dr w h):=p;have c:(dr w h).1*(w.2*h.2)=w.1*h.2*(dr w h).2.2:=c;have d:(dr w h).2.1*(w.2*h.2)=h.1*w.2*(dr w h).2.2:=d;have e:(dr w h).1*w.2=w.1*(dr w h).2.2:=TK (SA b.lh.1) (by grind);have f:(dr w h).2.1*h.2=h.1*(dr w h).2.2:=TK (SA b.lw.1) (by grind);refine⟨p,e,f,?_,?_⟩
 ·have:0<(dr w h).1*w.2:=by rw[e];exact SE b.w0 p.1
  exact UM this b.lw.1
 have:0<(dr w h).2.1*h.2:=by rw[f];exact SE b.h0 p.1
 exact UM this b.lh.1
theorem pY{x:Int}(h:0<x):cM x=1:=by unfold cM;rw[SZ h]
section
variable{w h:Int×Int}
theorem iG.mw(b:iG w h):cM (bn (0,0,1) (w.1,0,w.2) (dr w h))=1:=by
 obtain⟨_,_,_,c,a⟩:=b.top;have e:bn (0,0,1) (w.1,0,w.2) (dr w h)=w.1*(dr w h).2.1:=by unfold bn a_;simp
 rw[e];exact pY (SE b.w0 a)
theorem iG.ml(b:iG w h):cM (bn (0,0,1) (w.1,0,w.2) (0,h.1,h.2))=1:=by
 have e:bn (0,0,1) (w.1,0,w.2) (0,h.1,h.2)=w.1*h.1:=by unfold bn a_;simp
 rw[e];exact pY (SE b.w0 b.h0)
theorem iG.mj(b:iG w h):cM (bn (0,0,1) (dr w h) (0,h.1,h.2))=1:=by
 obtain⟨_,_,_,a,c⟩:=b.top;have e:bn (0,0,1) (dr w h) (0,h.1,h.2)=(dr w h).1*h.1:=by unfold bn a_;simp
 rw[e];exact pY (SE a b.h0)
theorem iG.mi(b:iG w h):cM (bn (0,h.1,h.2) (w.1,0,w.2) (dr w h))=1:=by
 obtain⟨p,a,c,d,f⟩:=b.top;have e:bn (0,h.1,h.2) (w.1,0,w.2) (dr w h)=h.1*w.1*(dr w h).2.2:=by unfold bn a_;simp;grind
 rw[e];exact pY (SE (SE b.h0 b.w0) p.1)
end
theorem Sf{p q r s:ab}(e:cM (bn p q r)=1)(f:cM (bn p q s)=1)(g:cM (bn q r s)=1)(h:cM (bn p r s)=1):fm [p,q,r,s]:=by
 have d:∀a b c:ab,bn b c a=bn a b c:=λa b c=>by unfold bn a_;grind
 refine⟨by simp,λk j i m o n=>?_⟩;have l:[p,q,r,s].length=4:=rfl;rw[l]at i m n⊢;have:k=0\/k=1\/k=2\/k=3:=by lia
 rcases this with rfl|rfl|rfl|rfl
 ·have:j=2\/j=3:=by lia
  rcases this with rfl|rfl
  ·exact e
  exact f
 ·have:j=0\/j=3:=by lia
  rcases this with rfl|rfl
  ·show cM (bn q r p)=1
   rw[d p q r];exact e
  exact g
 ·have:j=0\/j=1:=by lia
  rcases this with rfl|rfl
  ·show cM (bn r s p)=1
   rw[d p r s];exact h
  show cM (bn r s q)=1
  rw[d q r s];exact g
 have:j=1\/j=2:=by lia
 rcases this with rfl|rfl
 ·show cM (bn s p q)=1
  rw[<-d s p q];exact f
 show cM (bn s p r)=1
 rw[<-d s p r];exact h
theorem iG.mA{w h:Int×Int}(b:iG w h):fm (lU w h):=by
 refine Sf b.mw b.ml ?_ b.mj;have:bn (w.1,0,w.2) (dr w h) (0,h.1,h.2)=bn (0,h.1,h.2) (w.1,0,w.2) (dr w h):=by unfold bn a_;grind
 rw[this];exact b.mi
def bT(s w:Int×Int):Int×Int:=ee ((if s.1<0 then -s.1 else s.1)*w.1) (s.2*w.2)
def dd(s:Int×Int)(a:Bool)(w:Int×Int):List ab:=
 if 0<s.1 then(if a=true then[(0,0,1),dr w (bT s w),(0,(bT s w).1,(bT s w).2)]else[(0,0,1),(w.1,0,w.2),dr w (bT s w)])
 else(if a=true then[(0,(bT s w).1,(bT s w).2),(w.1,0,w.2),dr w (bT s w)]else[(0,0,1),(w.1,0,w.2),(0,(bT s w).1,(bT s w).2)])
theorem uO{s w:Int×Int}(d:ba s.1 s.2)(a:ba w.1 w.2)(g:s.1≠0)(b:0<w.1):iG w (bT s w):=by
 have c:0<s.2*w.2:=SE d.1 a.1;obtain⟨l,e,_,_⟩:=jL (t:=(if s.1<0 then -s.1 else s.1)*w.1) (SA c);refine⟨a,l,b,?_⟩;have f:0<(if s.1<0 then -s.1 else s.1):=by split<;>lia
 have:0<(bT s w).1*(s.2*w.2):=by
  show 0<(ee _ _).1*(s.2*w.2)
  rw[e];exact SE (SE f b) l.1
 exact UM this c
theorem Sg{s w:Int×Int}(h:0<s.1):ee (s.1*w.1) (s.2*w.2)=bT s w:=by unfold bT;rw[Tl (by lia)]
theorem Sh{s w:Int×Int}(a:ba s.1 s.2)(b:ba w.1 w.2)(h:s.1<0):ee (s.1*w.1) (s.2*w.2)=(-(bT s w).1,(bT s w).2):=by
 unfold bT;rw[SZ h];have e:s.1*w.1 = -(-s.1*w.1):=by rw[Ut,V4]
 rw[e,Rm (SE a.1 b.1)];rfl
theorem HL{a:ZO}{k:Nat}(h:k<a.length):eF (a.map aS) ((k:Int)-1)=some (aS (bD a ((k+a.length-1)%a.length))):=by
 cases k with
 |zero=>
  have e:((0:Nat)+a.length-1)%a.length=a.length-1:=by rw[TZ];exact Te (by lia)
  rw[e,mK (by lia)];unfold eF ju;rw[Tl (by lia),SZ (by rw[Sv];lia)];show(a.map aS)[_]?=_
  rw[SP,Sv,show(((0:Nat):Int)-1+(a.length:Int)).toNat=a.length-1 by lia,SY (by lia)];rfl
 |succ k=>
  have e:(k+1+a.length-1)%a.length=k:=by
   rw[show k+1+a.length-1=k+a.length by lia,UN];exact Te (by lia)
  rw[e,show(((k+1:Nat):Int)-1)=(k:Int) by lia];exact nO (by lia)
theorem HM:eqD (.str "high") (.str "high")=true:=nE _
theorem HN:eqD (.str "low") (.str "high")=false:=by
 unfold eqD;exact @decide_eq_false _ (Ua _) λh=>absurd (D.str.inj h) (by decide)
section
variable{s w h:Int×Int}
theorem HO(a:Bool):(dd s a w).length=3:=by unfold dd;split<;>split<;>rfl
theorem HP(b:iG w (bT s w))(a:Bool):fm (dd s a w):=by
 unfold dd;split<;>split
 ·exact xw b.mj
 ·exact xw b.mw
 ·exact xw b.mi
 exact xw b.ml
theorem iG.nR(b:iG w h)(d:SB w.1<=140)(a:SB w.2<=140)(e:SB h.1<=140)(c:SB h.2<=140):cX 350 (0,0,1)/\cX 350 (w.1,0,w.2)/\cX 350 (dr w h)/\cX 350 (0,h.1,h.2):=by
 have m:∀{x:Int},SB x<=140->SB x<=350:=λh=>cb h;have z:SB 0<=350:=by decide
 have f:w.2*h.2≠0:=nA b.lw.1 b.lh.1;have g:cw 350 (nP (w.1*h.2,h.1*w.2,w.2*h.2)):=cw.nP ⟨Sy (TE d c) (by decide),Sy (TE e a) (by decide),Sy (TE a c) (by decide)⟩ f;exact⟨⟨⟨(show(0:Int)<1 by decide),(show Ss (Ss 0 0:Nat) 1=1 by decide)⟩,z,z,(show SB 1<=350 by decide)⟩,⟨xy b.lw,m d,z,m a⟩,⟨b.top.1,g⟩,⟨xz b.lh,z,m e,m c⟩⟩
theorem iG.mE(b:iG w (bT s w))(c:Bool)(d:SB w.1<=140)(e:SB w.2<=140)(f:SB (bT s w).1<=140)(g:SB (bT s w).2<=140):∀p∈dd s c w,cX 350 p:=λp a=>by
 obtain⟨h,i,j,g3⟩:=b.nR d e f g;unfold dd at a;split at a<;>split at a<;>(simp only[SH,TR,or_false]at a;rcases a with rfl|rfl|rfl<;>assumption)
end
theorem ki(p q r:ab):bn q r p=bn p q r:=by unfold bn a_;grind
theorem uP(p q:ab):bn p p q=0:=by unfold bn a_;grind
theorem Si(o u a b c:ab):bn o u b*bn o a c=bn o u a*bn o b c+bn o u c*bn o a b:=by
 unfold bn a_;grind
theorem HQ{x:Int}(h:cM x=1):0<x:=by
 unfold cM at h;split at h
 ·assumption
 split at h<;>lia
def ri(a:ZO):Prop:=∀i j k,i<j->j<k->k<a.length->0<bn (bD a i) (bD a j) (bD a k)
theorem fm.jP{a:ZO}(h:fm a){k j:Nat}(b:k+1<a.length)(c:j<a.length)(d:j≠k)(e:j≠k+1):0<bn (bD a k) (bD a (k+1)) (bD a j):=by
 have:=h.2 k j (by lia) c d (by rw[Te b];exact e);rw[Te b]at this;exact HQ this
theorem fm.nf{a:ZO}(h:fm a):ri a:=by
 intro i j k n o b;induction k with
 |zero=>lia
 |succ k c=>
  by_cases e:j=k
  ·subst e;rw[<-ki];exact h.jP b (by lia) (by lia) (by lia)
  have d:=c (by lia) (by lia)
  have f:0<bn (bD a i) (bD a k) (bD a (k+1)):=by
   rw[<-ki];exact h.jP b (by lia) (by lia) (by lia)
  have g:=h.jP (k:=i) (j:=k) (by lia) (by lia) (by lia) (by lia);have l:=h.jP (k:=i) (j:=k+1) (by lia) (by lia) (by lia) (by lia)
  have m:0<=bn (bD a i) (bD a (i+1)) (bD a j):=by
   by_cases z:j=i+1
   ·subst z;have:bn (bD a i) (bD a (i+1)) (bD a (i+1))=0:=sK _ _;lia
   exact Tp (h.jP (by lia) (by lia) (by lia) z)
  have p:=Si (bD a i) (bD a (i+1)) (bD a j) (bD a k) (bD a (k+1));have q:=Tw m (Tp f);have r:=SE l d;have:0<bn (bD a i) (bD a (i+1)) (bD a k)*bn (bD a i) (bD a j) (bD a (k+1)):=by lia
  exact T9 this g
theorem ri.mA{a:ZO}(c:3<=a.length)(h:ri a):fm a:=by
 refine⟨c,λk j d f i b=>pY ?_⟩;by_cases e:k+1<a.length
 ·rw[Te e]at b⊢;by_cases z:k<j
  ·exact h k (k+1) j (by lia) (by lia) f
  rw[ki];exact h j k (k+1) (by lia) (by lia) e
 have g:k+1=a.length:=by lia
 rw[g,V5]at b⊢;rw[<-ki];exact h 0 j k (by lia) (by lia) d
def T1(a:ab):ZO->Prop
 |[]=>True
 |b::r=>(∀c∈r,0<bn a b c)/\T1 a r
def T0:ZO->Prop
 |[]=>True
 |a::r=>T1 a r/\T0 r
theorem T1.sub{a:ab}{l m:ZO}(s:l.Sublist m):T1 a m->T1 a l:=by
 induction s with
 |slnil=>exact id
 |cons b s d=>exact λh=>d h.2
 |cons_cons b s d=>exact λh=>⟨λc e=>h.1 c (s.subset e),d h.2⟩
theorem T0.sub{l m:ZO}(s:l.Sublist m):T0 m->T0 l:=by
 induction s with
 |slnil=>exact id
 |cons b s a=>exact λh=>a h.2
 |cons_cons b s a=>exact λh=>⟨T1.sub s h.1,a h.2⟩
theorem HR(a:ab)(r:ZO)(i:Nat):bD (a::r) (i+1)=bD r i:=rfl
theorem Sj(a:ab)(r:ZO):bD (a::r) 0=a:=rfl
theorem Sk{r:ZO}{i:Nat}(h:i<r.length):bD r i∈r:=by
 induction r generalizing i with
 |nil=>exact absurd h (by simp)
 |cons a r b=>
  cases i with
  |zero=>exact Sw
  |succ i=>exact Sx _ (b (by simpa using h))
theorem Sl{r:ZO}{c:ab}(h:c∈r):∃i,i<r.length/\bD r i=c:=by
 induction r with
 |nil=>cases h
 |cons a r b=>
  rcases SH.mp h with rfl|h
  ·exact⟨0,by simp,rfl⟩
  obtain⟨i,d,e⟩:=b h;exact⟨i+1,by simpa using d,e⟩
theorem xA(a:ab):∀r:ZO,T1 a r↔∀j k,j<k->k<r.length->0<bn a (bD r j) (bD r k)
 |[]=>⟨λ_ j k _ h=>absurd h (by simp),λ_=>trivial⟩
 |b::r=>by
  constructor
  ·rintro⟨e,f⟩ j k g d;cases k with
   |zero=>lia
   |succ k=>
    have d:k<r.length:=by simpa using d
    cases j with
    |zero=>exact e _ (Sk d)
    |succ j=>exact(xA a r).mp f j k (by lia) d
  intro h;refine⟨λc l=>?_,(xA a r).mpr λj k g d=>h (j+1) (k+1) (by lia) (by simpa using d)⟩;obtain⟨i,m,rfl⟩:=Sl l;exact h 0 (i+1) (by lia) (by simpa using m)
theorem rj:∀c:ZO,T0 c↔ri c
 |[]=>⟨λ_ i j k _ _ h=>absurd h (by simp),λ_=>trivial⟩
 |a::r=>by
  constructor
  ·rintro⟨d,e⟩ i j k g f b;cases k with
   |zero=>lia
   |succ k=>
    cases j with
    |zero=>lia
    |succ j=>
     have b:k<r.length:=by simpa using b
     cases i with
     |zero=>exact(xA a r).mp d j k (by lia) b
     |succ i=>exact(rj r).mp e i j k (by lia) (by lia) b
  intro h;exact⟨(xA a r).mpr λj k f b=>h 0 (j+1) (k+1) (by lia) (by lia) (by simpa using b),(rj r).mpr λi j k d e b=>h (i+1) (j+1) (k+1) (by lia) (by lia) (by simpa using b)⟩
theorem uQ(c a b:ab):a_ c (a_ a b)=hs (c.1*b.1+c.2.1*b.2.1+c.2.2*b.2.2) a (-(c.1*a.1+c.2.1*a.2.1+c.2.2*a.2.2)) b:=by
 unfold a_ hs;refine fc ?_ ?_ ?_<;>dsimp only<;>grind
theorem HS(s t:Int)(a b q r:ab):bn (hs s a t b) q r=s*bn a q r+t*bn b q r:=by unfold bn a_ hs;dsimp only;grind
theorem HU(s:Int)(a q r:ab):bn (sc s a) q r=s*bn a q r:=by unfold bn a_ sc;dsimp only;grind
section
theorem HV{b a:ab}:∀{r:ZO},T1 b r->(∀c∈r,0<bn b c a)->T1 b (r++[a])
 |[],_,_=>⟨λc e=>absurd e (by simp),trivial⟩
 |d::r,h,k=>⟨λc e=>by
   rcases SO.mp e with e|e
   ·exact h.1 c e
   rw[SQ.mp e];exact k d Sw,HV h.2 λc e=>k c (Sx _ e)⟩
theorem HW{a:ab}:∀{r:ZO},T0 r->T1 a r->T0 (r++[a])
 |[],_,_=>⟨trivial,trivial⟩
 |b::r,h,k=>⟨HV h.1 λc d=>by rw[ki];exact k.1 c d,HW h.2 k.2⟩
theorem T0.mJ{a:ab}{r:ZO}(h:T0 (a::r)):T0 (r++[a]):=HW h.2 h.1
def uR:ZO->ZO->Prop
 |[],_=>True
 |x::a,b=>(∀y∈a,∀z∈b,0<bn x y z)/\uR a b
theorem xB{x:ab}:∀{e b:ZO},T1 x (e++b)↔T1 x e/\T1 x b/\∀y∈e,∀z∈b,0<bn x y z
 |[],b=>⟨λh=>⟨trivial,h,λy k=>absurd k (by simp)⟩,λh=>h.2.1⟩
 |y::e,b=>by
  constructor
  ·rintro⟨f,i⟩;obtain⟨l,m,n⟩:=xB.mp i;refine⟨⟨λc a=>f c (Tx _ a),l⟩,m,λw d z g=>?_⟩;rcases SH.mp d with rfl|d
   ·exact f z (S2 _ g)
   exact n w d z g
  rintro⟨⟨f,i⟩,o,j⟩;refine⟨λc a=>?_,xB.mpr ⟨i,o,λw d z g=>j w (Sx _ d) z g⟩⟩;rcases SO.mp a with a|a
  ·exact f c a
  exact j y Sw c a
theorem mL:∀{xs a:ZO},T0 (xs++a)↔T0 xs/\T0 a/\(∀x∈xs,T1 x a)/\uR xs a
 |[],a=>⟨λh=>⟨trivial,h,λy f=>absurd f (by simp),trivial⟩,λh=>h.2.1⟩
 |x::xs,a=>by
  constructor
  ·rintro⟨c,d⟩;obtain⟨g,i,j,k⟩:=mL.mp d;obtain⟨l,m,n⟩:=xB.mp c;refine⟨⟨l,g⟩,i,λw b=>?_,⟨n,k⟩⟩;rcases SH.mp b with rfl|b
   ·exact m
   exact j w b
  rintro⟨⟨c,d⟩,o,e,p,q⟩;exact⟨xB.mpr ⟨c,e x Sw,p⟩,mL.mpr ⟨d,o,λw b=>e w (Sx _ b),q⟩⟩
theorem xC{b c:ZO}(h:∀x y,(∀z∈b,0<bn x y z)->∀z∈c,0<bn x y z):∀{a:ZO},uR a b->uR a c
 |[],_=>trivial
 |x::a,k=>⟨λy d=>h x y (k.1 y d),xC h k.2⟩
def hH(p q m:ab):Prop:=∃s a b:Int,0<s/\0<a/\0<b/\sc s m=hs a p b q
theorem Sm{s x y:Int}(b:0<s)(e:s*x=y)(a:0<y):0<x:=by
 rw[<-e]at a;exact T9 a b
theorem uS{p q m u v:ab}(h:hH p q m)(g:0<=bn p u v)(i:0<=bn q u v)(c:0<bn p u v\/0<bn q u v):0<bn m u v:=by
 obtain⟨s,a,b,j,d,f,e⟩:=h;have k:s*bn m u v=a*bn p u v+b*bn q u v:=by rw[<-HU,e,HS]
 refine Sm j k ?_;have l:=Tw (Tp d) g;have n:=Tw (Tp f) i;rcases c with c|c
 ·have:=SE d c;lia
 have:=SE f c;lia
theorem rk{p q m u v:ab}(h:hH p q m)(a:0<=bn u p v)(b:0<=bn u q v)(c:0<bn u p v\/0<bn u q v):0<bn u m v:=by
 rw[<-ki]at a b⊢;rw[<-ki u p v,<-ki u q v]at c;exact uS h a b c
theorem rl{p q m u v:ab}(h:hH p q m)(a:0<=bn u v p)(b:0<=bn u v q)(c:0<bn u v p\/0<bn u v q):0<bn u v m:=by
 rw[ki]at a b⊢;rw[ki p u v,ki q u v]at c;exact uS h a b c
theorem Cw{p q m:ab}(h:hH p q m):∀{a:ZO},T1 p a->T1 q a->T1 m a
 |[],_,_=>trivial
 |y::a,b,e=>⟨λc d=>uS h (Tp (b.1 c d)) (Tp (e.1 c d)) (.inl (b.1 c d)),Cw h b.2 e.2⟩
theorem fS{x:Int}(z:0<x):0<=x:=Tp z
theorem oO{x:Int}(z:x=0):0<=x:=by lia
theorem T0.back{xs ys:ZO}{p q m:ab}(h:T0 (xs++p::q::ys))(b:hH p q m):T0 (xs++p::m::ys):=by
 obtain⟨i,⟨⟨p1,p2⟩,j,k⟩,l,n⟩:=mL.mp h;refine mL.mpr ⟨i,⟨⟨λc a=>?_,p2⟩,Cw b p2 j,k⟩,λx o=>?_,xC (λx y d z e=>?_) n⟩
 ·exact rk b (oO (uP p c)) (fS (p1 c a)) (.inr (p1 c a))
 ·obtain⟨f,g,r⟩:=l x o;refine⟨λc a=>?_,λc a=>?_,r⟩
  ·rcases SH.mp a with rfl|a
   ·exact rl b (oO (sK x p)) (fS (f q Sw)) (.inr (f q Sw))
   exact f c (Sx _ a)
  exact rk b (fS (f c (Sx _ a))) (fS (g c a)) (.inr (g c a))
 rcases SH.mp e with rfl|e
 ·exact d _ Sw
 rcases SH.mp e with rfl|e
 ·exact rl b (fS (d p Sw)) (fS (d q (Sx _ Sw))) (.inl (d p Sw))
 exact d z (Sx _ (Sx _ e))
theorem T0.on{xs ys:ZO}{p q m:ab}(h:T0 (xs++p::q::ys))(b:hH p q m):T0 (xs++m::q::ys):=by
 obtain⟨j,⟨⟨p1,p2⟩,i,k⟩,l,n⟩:=mL.mp h;refine mL.mpr ⟨j,⟨⟨λc a=>?_,Cw b p2 i⟩,i,k⟩,λx o=>?_,xC (λx y d z e=>?_) n⟩
 ·exact uS b (fS (p1 c a)) (oO (uP q c)) (.inl (p1 c a))
 ·obtain⟨f,g,r⟩:=l x o;refine⟨λc a=>?_,g,r⟩;rcases SH.mp a with rfl|a
  ·exact rk b (fS (f c Sw)) (oO (sK x c)) (.inl (f c Sw))
  exact rk b (fS (f c (Sx _ a))) (fS (g c a)) (.inr (g c a))
 rcases SH.mp e with rfl|e
 ·exact rl b (fS (d p Sw)) (fS (d q (Sx _ Sw))) (.inl (d p Sw))
 exact d z (Sx _ e)
theorem T0.off{xs ys:ZO}{p q r m n:ab}(h:T0 (xs++p::q::r::ys))(i:hH p q m)(g:hH q r n):T0 (xs++p::m::n::r::ys):=by
 have v:=T0.on (xs:=xs++[p]) (p:=q) (q:=r) (by rw[SX];exact h) g;rw[SX]at v;obtain⟨F,⟨⟨p1,p2⟩,w,W⟩,G,H⟩:=mL.mp h;obtain⟨_,⟨⟨l,I⟩,J,K⟩,L,X⟩:=mL.mp (show T0 (xs++p::n::r::ys)from v);have M:T0 (xs++p::m::r::ys):=h.back i;obtain⟨_,⟨⟨N,Y⟩,O,Z⟩,g3,aa⟩:=mL.mp M;have A:0<bn p q n:=rl g (oO (sK p q)) (fS (p1 r Sw)) (.inr (p1 r Sw))
 have P:∀c∈r::ys,0<bn m n c:=λc d=>by
  refine uS i (fS (l c d)) ?_ (.inl (l c d));rcases SH.mp d with rfl|d
  ·exact oO (by
    obtain⟨s,a,b,hi,_,_,e⟩:=g
    have k:s*bn q n c=a*bn q q c+b*bn q c c:=by
     rw[<-ki q n c,<-ki q q c,<-ki q c c,<-HU,e,HS]
    rw[uP,sK,S4,S4]at k;rcases Tv.mp k with z|z
    ·lia
    exact z)
  exact fS (rk g (oO (uP q c)) (fS (w.1 c d)) (.inr (w.1 c d)))
 refine mL.mpr ⟨F,⟨⟨λc d=>?_,l,I⟩,⟨P,O⟩,J,K⟩,λx o=>?_,xC (λx y j z f=>?_) H⟩
 ·rcases SH.mp d with rfl|d
  ·exact rk i (oO (uP p c)) (fS A) (.inr A)
  exact N c d
 ·obtain⟨ae,B,af⟩:=G x o;obtain⟨C,Q,R⟩:=L x o;obtain⟨S,T,ai⟩:=g3 x o;refine⟨λc d=>?_,λc d=>?_,Q,R⟩
  ·rcases SH.mp d with rfl|d
   ·exact S c Sw
   exact C c d
  rcases SH.mp d with rfl|d
  ·have E:0<bn x q c:=rl g (oO (sK x q)) (fS (B r Sw)) (.inr (B r Sw));exact rk i (fS (C c Sw)) (fS E) (.inr E)
  exact T c d
 have t:=j q (Sx _ Sw);have u:=j p Sw;have U:=j r (Sx _ (Sx _ Sw));rcases SH.mp f with rfl|f
 ·exact u
 rcases SH.mp f with rfl|f
 ·exact rl i (fS u) (fS t) (.inl u)
 rcases SH.mp f with rfl|f
 ·exact rl g (fS t) (fS U) (.inl t)
 exact j z (Sx _ (Sx _ f))
noncomputable def ln(l p:ab):Int:=l.1*p.1+l.2.1*p.2.1+l.2.2*p.2.2
theorem Sq(l p q r s:ab):bn q r s*ln l p-bn p r s*ln l q+bn p q s*ln l r-bn p q r*ln l s=0:=by
 unfold bn a_ ln;grind
theorem T1.one{a:ab}:∀{b:ZO},uR b [a]->T1 a b
 |[],_=>trivial
 |x::b,h=>⟨λc d=>by rw[<-ki];exact h.1 c d a Sw,T1.one h.2⟩
theorem T0.jA{a:ab}{r:ZO}(h:T0 (r++[a])):T0 (a::r):=by
 obtain⟨b,_,_,c⟩:=mL.mp h;exact⟨T1.one c,b⟩
theorem T0.turn:∀{xs ys:ZO},T0 (xs++ys)->T0 (ys++xs)
 |[],ys,h=>by rw[SU];exact h
 |x::xs,ys,h=>by
  have a:T0 (xs++(ys++[x])):=by rw[<-SX];exact T0.mJ h
  have b:=T0.turn a;rwa[SX]at b
section
variable(f:ab->Int)(mt:ab->ab->ab)
def kp(p:ab):List ab:=if 0<=f p then[p]else[]
noncomputable def cJ(p q:ab):List ab:=if f p*f q<0 then[mt p q]else[]
def dn:ZO->ab->ZO
 |[],_=>[]
 |p::r,w=>kp f p++cJ f mt p (r.headD w)++dn r w
def dD(a:ZO):List ab:=dn f mt a (a.headD (0,0,1))
end
variable{f:ab->Int}{mt:ab->ab->ab}
theorem Sr(a b:ZO)(w:ab):(a++b).headD w=a.headD (b.headD w):=by
 cases a<;>rfl
theorem uT(w:ab):∀b a:ZO,dn f mt (b++a) w=dn f mt b (a.headD w)++dn f mt a w
 |[],_=>rfl
 |p::b,a=>by
  show kp f p++cJ f mt p ((b++a).headD w)++dn f mt (b++a) w=kp f p++cJ f mt p (b.headD (a.headD w))++dn f mt b (a.headD w)++dn f mt a w
  rw[uT w b a,Sr,SX,SX,SX]
theorem Dv(a b:ZO):∃P Q,dD f mt (a++b)=P++Q/\dD f mt (b++a)=Q++P:=by
 cases a with
 |nil=>exact⟨[],dD f mt b,rfl,by rw[SU,SU]⟩
 |cons x a=>
  cases b with
  |nil=>exact⟨dD f mt (x::a),[],by rw[SU,SU],rfl⟩
  |cons y b=>
   refine⟨dn f mt (x::a) y,dn f mt (y::b) x,?_,?_⟩
   ·unfold dD;rw[uT];rfl
   unfold dD;rw[uT];rfl
theorem HZ{xs ys:ZO}(h:T0 (dD f mt (ys++xs))/\3<=(dD f mt (ys++xs)).length):T0 (dD f mt (xs++ys))/\3<=(dD f mt (xs++ys)).length:=by
 obtain⟨P,Q,a,b⟩:=Dv (f:=f) (mt:=mt) xs ys;rw[a];rw[b]at h;refine⟨T0.turn h.1,?_⟩;have:=h.2;rw[Sz]at this⊢;lia
theorem Cz{w:ab}:∀{a:ab}{A:ZO},(∀p∈A++[a],0<=f p)->dn f mt (A++[a]) w=A++[a]++cJ f mt a w
 |a,[],h=>by
  show kp f a++cJ f mt a w++[]=[a]++cJ f mt a w
  unfold kp;rw[SZ (h a (by simp)),SU]
 |a,p::A,h=>by
  show kp f p++cJ f mt p ((A++[a]).headD w)++dn f mt (A++[a]) w=p::A++[a]++cJ f mt a w
  rw[Cz λq c=>h q (Sx _ c)];have d:=h p Sw
  have c:0<=f ((A++[a]).headD w):=by
   cases A with
   |nil=>exact h a (by simp)
   |cons b A=>exact h b (by simp)
  unfold kp cJ;rw[SZ d,Tl (by have:=Tw d c;lia)];simp
theorem H0{w:ab}:∀{s:ab}{N:ZO},(∀p∈N++[s],f p<0)->dn f mt (N++[s]) w=cJ f mt s w
 |s,[],h=>by
  show kp f s++cJ f mt s w++[]=cJ f mt s w
  unfold kp;rw[Tl (by have:=h s (by simp);lia),SU,Tf]
 |s,p::N,h=>by
  show kp f p++cJ f mt p ((N++[s]).headD w)++dn f mt (N++[s]) w=cJ f mt s w
  rw[H0 λq a=>h q (Sx _ a)];have c:=h p Sw
  have a:f ((N++[s]).headD w)<0:=by
   cases N with
   |nil=>exact h s (by simp)
   |cons b N=>exact h b (by simp)
  unfold kp cJ;rw[Tl (by lia),Tl (by have:=Uz c a;lia)];rfl
def jZ(f:ab->Int)(mt:ab->ab->ab):Prop:=∀p q,f p*f q<0->hH p q (mt p q)
theorem mM{p q:ab}(h:f p*f q<0):cJ f mt p q=[mt p q]:=by unfold cJ;rw[SZ h]
theorem lV{p q:ab}(h:¬f p*f q<0):cJ f mt p q=[]:=by unfold cJ;rw[Tl h]
theorem neg_mul{a b:Int}(c:0<a)(d:b<0):a*b<0:=S1 c d
theorem Du{b:ab}{A N:ZO}{s:ab}(v:jZ f mt)(h:T0 ((A++[b])++(N++[s])))(w:∀p∈A++[b],0<=f p)(x:∀p∈N++[s],f p<0)(P:3<=((A++[b])++(N++[s])).length)(Q:∃p∈A++[b],0<f p):
  T0 (dD f mt ((A++[b])++(N++[s])))/\3<=(dD f mt ((A++[b])++(N++[s]))).length:=by
 obtain⟨a,d,c⟩:∃a d,A++[b]=a::d:=by
  cases A with
  |nil=>exact⟨b,[],rfl⟩
  |cons a A=>exact⟨a,A++[b],rfl⟩
 obtain⟨n,J,i⟩:∃n J,N++[s]=n::J:=by
  cases N with
  |nil=>exact⟨s,[],rfl⟩
  |cons n N=>exact⟨n,N++[s],rfl⟩
 have Y:0<=f a:=w a (by rw[c];exact Sw);have Z:0<=f b:=w b (by simp);have R:f n<0:=x n (by rw[i];exact Sw);have K:f s<0:=x s (by simp)
 have e:dD f mt ((A++[b])++(N++[s]))=(A++[b])++cJ f mt b n++cJ f mt s a:=by
  unfold dD;rw[uT,Cz w,H0 x,c,i];rfl
 rw[e]
 have two:N≠[]->T0 ((A++[b])++[n,s]):=λz=>by
  refine T0.sub (UA (Vk _) ?_) h;cases N with
  |nil=>exact absurd rfl z
  |cons m N=>
   have:m=n:=(Uc i).1;subst this;exact WU _ (WV N [s])
 have y:T0 ((A++[b])++[n]):=T0.sub (UA (Vk _) (UO.mpr (by rw[i];exact Sw))) h;have L:T0 ((A++[b])++[s]):=T0.sub (UA (Vk _) (UO.mpr (by simp))) h;by_cases B:0<f b
 ·have M:f b*f n<0:=neg_mul B R;have C:=v b n M;rw[mM M];by_cases j:0<f a
  ·have k:f s*f a<0:=by rw[S8];exact neg_mul j K
   have o:=v s a k;rw[mM k];refine⟨?_,by simp⟩;by_cases z:N=[]
   ·subst z;have S:s=n:=(Uc i).1;subst S;cases A with
    |nil=>simp at P
    |cons g u=>
     have:g=a:=(Uc c).1;subst this
     have l:T0 (u++b::s::g::[]):=by
      have:=T0.mJ (a:=g) (r:=u++[b]++[s]) L;simpa using this
     have E:=T0.jA (a:=g) (r:=u++[b,mt b s,mt s g]) (by simpa using l.off C o);simpa using E
   have t:=two z;have l:T0 (A++b::mt b n::[s]):=T0.back (by simpa using t) C
   have E:T0 (a::(d++[mt b n,s])):=by
    have:T0 ((A++[b])++[mt b n,s]):=by simpa using l
    rwa[c]at this
   have F:T0 ((d++[mt b n])++s::a::[]):=by simpa using T0.mJ E
   have G:=T0.jA (a:=a) (r:=d++[mt b n,mt s a]) (by simpa using F.on o);rw[c];simpa using G
  have H:f a=0:=by lia
  have I:A≠[]:=by
   rintro rfl;have:b=a:=(Uc c).1;subst this;exact j B
  rw[lV (by rw[H,S4];lia),SU];refine⟨?_,?_⟩
  ·have r:=T0.back (xs:=A) (p:=b) (q:=n) (ys:=[]) (by simpa using y) C;simpa using r
  have:=WW.mpr I;simp;lia
 have T:f b=0:=by lia
 rw[lV (by rw[T,T3];lia),SU];by_cases j:0<f a
 ·have k:f s*f a<0:=by rw[S8];exact neg_mul j K
  have o:=v s a k
  have I:A≠[]:=by
   rintro rfl;have:b=a:=(Uc c).1;subst this;exact B j
  rw[mM k];refine⟨?_,?_⟩
  ·have l:T0 (a::(d++[s])):=by rwa[c]at L
   have F:T0 (d++s::a::[]):=by simpa using T0.mJ l
   have G:=T0.jA (a:=a) (r:=d++[mt s a]) (by simpa using F.on o);rw[c];exact G
  have:=WW.mpr I;simp;lia
 have H:f a=0:=by lia
 rw[lV (by rw[H,S4];lia),SU];refine⟨T0.sub (List.sublist_append_left _ _) h,?_⟩;obtain⟨p,U,h1⟩:=Q;have W:p≠b:=by rintro rfl;lia
 have X:p≠a:=by rintro rfl;lia
 have O:p∈A:=by
  rcases SO.mp U with q|q
  ·exact q
  exact absurd (SQ.mp q) W
 cases A with
 |nil=>cases O
 |cons g u=>
  have:g=a:=(Uc c).1;subst this;rcases SH.mp O with q|q
  ·exact absurd q X
  have:=WX q;simp;lia
theorem xG{P:ab->Prop}:∀a:ZO,(∀p,P p\/¬P p)->∃A r,a=A++r/\(∀p∈A,P p)/\(r=[]\/∃x c,r=x::c/\¬P x)
 |[],_=>⟨[],[],rfl,λp d=>absurd d (by simp),.inl rfl⟩
 |p::a,em=>by
  rcases em p with h|h
  ·obtain⟨A,r,e,f,g⟩:=xG a em;refine⟨p::A,r,by rw[e];rfl,λq b=>?_,g⟩;rcases SH.mp b with rfl|b
   ·exact h
   exact f q b
  exact⟨[],p::a,rfl,λq b=>absurd b (by simp),.inr ⟨p,a,rfl,h⟩⟩
theorem H2{l p q r s:ab}(h:T0 [p,q,r,s]):¬(0<=ln l p/\ln l q<0/\0<=ln l r/\ln l s<0)/\¬(ln l p<0/\0<=ln l q/\ln l r<0/\0<=ln l s):=by
 obtain⟨⟨f,n,_⟩,⟨o,_⟩,_⟩:=h;have g:=f r (by simp);have i:=f s (by simp);have j:=n s (by simp);have m:=o s (by simp);have k:=Sq l p q r s;constructor
 ·rintro⟨a,b,c,d⟩;have t:=Tw (fS m) a;have u:=S1 j b;have v:=Tw (fS i) c;have e:=S1 g d;lia
 rintro⟨a,b,c,d⟩;have t:=S1 m a;have u:=Tw (fS j) b;have v:=S1 i c;have e:=Tw (fS g) d;lia
theorem H3{a b c d:ab}{A B C D:ZO}(e:a∈A)(f:b∈B)(g:c∈C)(h:d∈D):[a,b,c,d].Sublist (A++(B++(C++D))):=
 UA (UO.mpr e) (UA (UO.mpr f) (UA (UO.mpr g) (UO.mpr h)))
theorem Dt{l:ab}{o:ZO}(ay:jZ (ln l) mt)(h:T0 o)(i:3<=o.length)(f:∃p∈o,0<ln l p):T0 (dD (ln l) mt o)/\3<=(dD (ln l) mt o).length:=by
 have em:∀p,0<=ln l p\/¬0<=ln l p:=λp=>by lia
 have norm:∀A N:ZO,A≠[]->N≠[]->T0 (A++N)->3<=(A++N).length->(∀p∈A,0<=ln l p)->(∀p∈N,ln l p<0)->(∃p∈A,0<ln l p)->T0 (dD (ln l) mt (A++N))/\3<=(dD (ln l) mt (A++N)).length:=λA N az aB aD M O Q aE=>by
  obtain⟨g,b,rfl⟩:∃g b,A=g++[b]:=⟨_,_,(V6 az).symm⟩;obtain⟨Y,s,rfl⟩:∃Y s,N=Y++[s]:=⟨_,_,(V6 aB).symm⟩;exact Du ay aD O Q M aE
 obtain⟨u,r,rfl,E,aF⟩:=xG (P:=λp=>0<=ln l p) o em;rcases aF with rfl|⟨x,aG,rfl,aH⟩
 ·rw[SU]at h i f⊢;have aI:u≠[]:=by rintro rfl;simp at i
  obtain⟨g,b,rfl⟩:∃g b,u=g++[b]:=⟨_,_,(V6 aI).symm⟩
  have e:dD (ln l) mt (g++[b])=g++[b]:=by
   unfold dD;rw[Cz E,lV,SU];have Z:=E b (by simp)
   have aK:0<=ln l ((g++[b]).headD (0,0,1)):=by
    cases g with
    |nil=>exact Z
    |cons a g=>exact E a (by simp)
   have:=Tw Z aK;lia
  rw[e];exact⟨h,i⟩
 obtain⟨m,hi,F,R,S⟩:=xG (P:=λp=>¬0<=ln l p) (x::aG) (λp=>by lia)
 have T:m≠[]:=by
  rintro rfl;rcases S with rfl|⟨y,q,e,k⟩
  ·cases F
  rw[e]at F;have:x=y:=(Uc F).1;subst this;exact k aH
 have n:∀p∈m,ln l p<0:=λp f=>by have:=R p f;lia
 obtain⟨G,H⟩:=V7 m T;rw[F]at h i f⊢;by_cases U:u=[]
 ·subst U;simp only[Tf]at h i f⊢;rcases S with rfl|⟨y,q,rfl,k⟩
  ·obtain⟨p,v,I⟩:=f;rw[SU]at v;have:=n p v;lia
  have k:0<=ln l y:=by lia
  obtain⟨J,af,K,ag,ai⟩:=xG (P:=λp=>0<=ln l p) (y::q) em
  have ak:J≠[]:=by
   rintro rfl;rcases ai with rfl|⟨z,hc,e,W⟩
   ·cases K
   rw[e]at K;have:y=z:=(Uc K).1;subst this;exact W k
  rw[K]at h i f⊢
  have aq:∀w∈af,ln l w<0:=λw j=>by
   rcases ai with rfl|⟨z,hc,rfl,W⟩
   ·cases j
   by_cases L:0<=ln l w
   ·rcases SH.mp j with rfl|j
    ·exact absurd L W
    obtain⟨au,av⟩:=V7 J ak;have t:=T0.sub (H3 (a:=G) (b:=au) (c:=z) (d:=w) (A:=m) (B:=J) (C:=[z]) (D:=hc) H av Sw j) (by simpa using h);exact absurd ⟨n G H,ag au av,by lia,L⟩ (H2 t).2
   lia
  refine HZ ?_;rw[SX];refine norm J (af++m) ak (by simp[T]) (by rw[<-SX];exact T0.turn h) (by simp at i⊢;lia) ag (λp f=>?_) ?_
  ·rcases SO.mp f with z|z
   ·exact aq p z
   exact n p z
  obtain⟨p,v,I⟩:=f;refine⟨p,?_,I⟩;rcases SO.mp v with z|z
  ·have:=n p z;lia
  rcases SO.mp z with z|z
  ·exact z
  have:=aq p z;lia
 obtain⟨aw,ax⟩:=V7 u U
 have X:∀w∈hi,0<=ln l w:=λw j=>by
  rcases S with rfl|⟨y,q,rfl,k⟩
  ·cases j
  by_cases L:0<=ln l w
  ·exact L
  have k:0<=ln l y:=by lia
  rcases SH.mp j with rfl|j
  ·exact k
  have t:=T0.sub (H3 (a:=aw) (b:=G) (c:=y) (d:=w) (A:=u) (B:=m) (C:=[y]) (D:=q) ax H Sw j) (by simpa using h);exact absurd ⟨E aw ax,n G H,k,by lia⟩ (H2 t).1
 rw[<-SX]at h i f⊢;refine HZ ?_;rw[<-SX];refine norm (hi++u) m (by simp[U]) T (by rw[SX];exact T0.turn h) (by simp at i⊢;lia) (λp f=>?_) n ?_
 ·rcases SO.mp f with z|z
  ·exact X p z
  exact E p z
 obtain⟨p,v,I⟩:=f;refine⟨p,?_,I⟩;rcases SO.mp v with z|z
 ·rcases SO.mp z with z|z
  ·exact S2 _ z
  have:=n p z;lia
 exact Tx _ z
end
def a4(l p q:ab):ab:=if 0<p.2.2/\0<q.2.2 then nP (a_ l (a_ p q))else if 0<ln l q then hs (ln l q) p (-ln l p) q else hs (-ln l q) p (ln l p) q
theorem mO{x y:Int}(h:x*y<0):(0<x/\y<0)\/(x<0/\0<y):=by
 rcases T4 x 0 with z|z|z
 ·rcases T4 y 0 with w|w|w
  ·have:=Uz z w;lia
  ·rw[w,S4]at h;lia
  exact .inr ⟨z,w⟩
 ·rw[z,T3]at h;lia
 rcases T4 y 0 with w|w|w
 ·exact .inl ⟨z,w⟩
 ·rw[w,S4]at h;lia
 have:=SE z w;lia
theorem H8(p:ab):sc 1 p=p:=by unfold sc;simp
theorem Dr{g a b:Int}{m p q:ab}(h:hs a p b q=sc g m):sc (-g) m=hs (-a) p (-b) q:=by
 have c:=Uf (λx:ab=>x.1) h;have d:=Uf (λx:ab=>x.2.1) h;have e:=Uf (λx:ab=>x.2.2) h;unfold sc hs at *;dsimp only at c d e⊢;refine fc ?_ ?_ ?_<;>dsimp only<;>grind
theorem sO{l p q:ab}(h:ln l p*ln l q<0):hH p q (a4 l p q):=by
 unfold a4;by_cases w:0<p.2.2/\0<q.2.2
 ·rw[SZ w];have e:a_ l (a_ p q)=hs (ln l q) p (-ln l p) q:=uQ l p q;have n:(a_ l (a_ p q)).2.2=ln l q*p.2.2 + -ln l p*q.2.2:=by rw[e];rfl
  rcases mO h with⟨c,a⟩|⟨c,a⟩
  ·have j:ln l q*p.2.2<0:=by rw[S8];exact S1 w.1 a
   have k : -ln l p*q.2.2<0:=by rw[S8];exact S1 w.2 (by lia)
   have d:(a_ l (a_ p q)).2.2≠0:=by lia
   obtain⟨g,_,b⟩:=kL d;have f:=(gI d).1;have m:(a_ l (a_ p q)).2.2=g*(nP (a_ l (a_ p q))).2.2:=Uf (λx:ab=>x.2.2) b
   have i:g<0:=by
    by_cases z:g<0
    ·exact z
    have:=Tw (show 0<=g by lia) (fS f);lia
   rw[e]at b;refine⟨-g,-ln l q,ln l p,by lia,by lia,c,?_⟩;have:=Dr b;rwa[V4,<-e]at this
  have j:0<ln l q*p.2.2:=SE a w.1;have k:0 < -ln l p*q.2.2:=SE (by lia) w.2;have d:(a_ l (a_ p q)).2.2≠0:=by lia
  obtain⟨g,_,b⟩:=kL d;have f:=(gI d).1;have m:(a_ l (a_ p q)).2.2=g*(nP (a_ l (a_ p q))).2.2:=Uf (λx:ab=>x.2.2) b
  have i:0<g:=by
   by_cases z:0<g
   ·exact z
   have:=Tw (show 0 <= -g by lia) (fS f);rw[Ut]at this;lia
  refine⟨g,ln l q,-ln l p,i,a,by lia,?_⟩;rw[<-b,e]
 rw[Tl w];rcases mO h with⟨c,a⟩|⟨c,a⟩
 ·rw[Tl (by lia)];exact⟨1,_,_,by decide,by lia,c,H8 _⟩
 rw[SZ a];exact⟨1,_,_,by decide,a,by lia,H8 _⟩
theorem xI(l p q:ab)(a b:Int):ln l (hs a p b q)=a*ln l p+b*ln l q:=by unfold ln hs;dsimp only;grind
theorem CF(l p:ab)(s:Int):ln l (sc s p)=s*ln l p:=by unfold ln sc;dsimp only;grind
theorem H9{f:ab->Int}{mt:ab->ab->ab}{x:ab}:∀{b:ZO}{w:ab},x∈dn f mt b w->(x∈b/\0<=f x)\/∃p∈b,∃q,(q∈b\/q=w)/\f p*f q<0/\x=mt p q
 |[],_,h=>by cases h
 |p::r,w,h=>by
  have h:x∈kp f p++cJ f mt p (r.headD w)++dn f mt r w:=h;rcases SO.mp h with h|h
  ·rcases SO.mp h with h|h
   ·unfold kp at h;split at h
    ·rename_i z
     rw[SQ.mp h];exact .inl ⟨Sw,z⟩
    cases h
   unfold cJ at h;split at h
   ·rename_i z
    refine .inr ⟨p,Sw,r.headD w,?_,z,SQ.mp h⟩;cases r with
    |nil=>exact .inr rfl
    |cons y r=>exact .inl (Sx _ Sw)
   cases h
  rcases H9 h with⟨c,a⟩|⟨d,c,q,a,e,g⟩
  ·exact .inl ⟨Sx _ c,a⟩
  refine .inr ⟨d,Sx _ c,q,?_,e,g⟩;rcases a with a|a
  ·exact .inl (Sx _ a)
  exact .inr a
theorem xJ{f:ab->Int}{mt:ab->ab->ab}{x:ab}{b:ZO}(h:x∈dD f mt b):(x∈b/\0<=f x)\/∃p∈b,∃q∈b,f p*f q<0/\x=mt p q:=by
 rcases H9 h with h|⟨p,d,q,c,e⟩
 ·exact .inl h
 refine .inr ⟨p,d,q,?_,e⟩;rcases c with c|c
 ·exact c
 cases b with
 |nil=>cases d
 |cons a r=>rw[c];exact Sw
section
variable{X:aU}{a:Z2}{d:St}{H:al}{s:Tk}{h':XG}
theorem c_.ke{t':Nat}{it e:TD}(I:c_ X a d H s)(k:∀b o,b≠it->b≠e->s.heap.get? b=some o->h'.get? b=some o)(p:g2 X a H it)(t:g2 X a H e):c_ X a d H {s with heap:=h',toks:=t' }:=by
 obtain⟨w,j,N,x,A,B⟩:=p;obtain⟨C,l,O,E,F,G⟩:=t;have g:∀b u,H b=some u->b≠it/\b≠e:=λb u q=>⟨(λz=>by rw[z,w]at q;cases q),(λz=>by rw[z,C]at q;cases q)⟩;have h:∀b o,b∉[it,e]->s.heap.get? b=some o->h'.get? b=some o:=λb o f q=>k b o (λz=>f (by simp[z])) (λz=>f (by simp[z])) q
 refine I.step (g':=s.gens) (d':=s.drawn) (ch:=[it,e]) (λb i=>?_) (λb o _ _ f q _=>h b o f q) (λb o _ _ f q _=>⟨o.slots,h b o f q⟩) (λ_ _ _ _ n=>n)
  (λb o f q=>⟨o,h b o f q⟩) (λ_ _ e=>e) (λ_ _ _ e=>e) (λb P q=>⟨#[],by rw[q];simp⟩) (λm J=>?_) (λb u q=>?_) I.bare
 ·rcases SH.mp i with rfl|i
  ·exact⟨x,j,A,B⟩
  rw[SQ.mp i];exact⟨E,l,F,G⟩
 ·obtain⟨o,K,L,M,r⟩:=J;exact⟨o,K,L,k _ o (Tc j) (Tc l) M,r⟩
 refine(I.eg b u q).f7 (λc v f y=>k c v ?_ ?_ y) (λ_ q=>q) (λ_ _ q=>q) λ_ _ _ q=>q
 ·rcases f with z|z
  ·rw[z];exact(g b u q).1
  exact(g c _ z).1
 rcases f with z|z
 ·rw[z];exact(g b u q).2
 exact(g c _ z).2
end
def Ia(K:Su)(a:TD):hx:=
 ⟨λi H=>∃b x,cE K H a b/\b[i]?=some x,λi H x c=>∃p y,H p=none/\x=.ref p/\c=ed H p (.tup [.int i,y])/\∀b,cE K H a b->b[i]?=some y,λi H=>∃b,cE K H a b/\b.length<=i⟩
theorem Dm{P:WP}{w:XB}{K:Su}{aq:Z0}{k:Nat}{B:Pos}(a it e:TD)(S:e≠it):pl P w K (.Tuple aq k B) (Ia K a) [e,it] e (λi h=>(∃g,IsEnum h e it (i:Nat) g)/\h.IsListIter it a i) where
 mem:=by simp
 obj:=λi h st b l=>by
  obtain⟨⟨g,j⟩,o,C,c,d⟩:=st;rcases SH.mp l with rfl|l
  ·exact⟨_,j,λv z=>by cases z⟩
  rw[SQ.mp l];exact⟨o,C,λv z=>by rw[d]at z;cases z⟩
 keep:=λi h h' st kp=>by
  obtain⟨⟨g,j⟩,m⟩:=st;exact⟨⟨g,kp e (by simp) _ j⟩,m.at λo q=>kp it (by simp) o q⟩
 item:=by
  intro X F G J T i r s U H E I t st L;subst F G J;obtain⟨ar,x,y,M⟩:=L;obtain⟨⟨g,j⟩,m⟩:=st;obtain⟨N,O,p,au⟩:=I.list y;obtain⟨u,av,aw⟩:=O.get M;have W:=t e (by simp);have Y:=t it (by simp);have az:e<s.heap.objs.size:=Heap.lt_size j;have aB:it<s.heap.objs.size:=by obtain⟨o,C,_⟩:=id m;exact Heap.lt_size C
  refine wpAny_pyNext_enum_item j m p.isList (x:=u) (by simpa using av) S λaY Q R aD a0 kp=>⟨_,rfl,wpAny_letOwnedTupleGo_enum Q λaE aH Z=>?_⟩;have ae:s.heap.objs.size≠e:=TU az;have ag:s.heap.objs.size≠it:=TU aB
  have aI:c_ X r U (ed H s.heap.objs.size (.tup [.int i,x])) {s with heap:=s.heap.push {cls:=.type "tuple",data:=.seq #[.int i s.toks,u]},toks:=s.toks+1}:=
   I.laid (t':=s.toks+1) (λ_ _ q=>Heap.get?_push_of_some _ q) (SD _) ⟨e7,[.int i s.toks,u],.cons ⟨_,rfl⟩ (.cons aw .nil),⟨_,Heap.get?_push_size _ rfl,rfl,_,rfl⟩⟩
  have A:∀b,g2 X r H b->b≠s.heap.objs.size->g2 X r (ed H s.heap.objs.size (.tup [.int i,x])) b:=λb f n=>⟨by rw[bO n];exact f.1,f.2⟩
  have aK:=aI.ke (h':=aE) (t':=s.toks+1) (it:=it) (e:=e) (λb o aN ai q=>by
   rw[Z.2 b ai];by_cases z:b=s.heap.objs.size
   ·subst z;rw[Heap.get?_push_size _ rfl]at q;rw[<-q];exact aD
   refine kp b o ai aN ?_;rw[<-q]
   exact(Heap.get?_push_ne s.heap b _ z).symm) (A it Y (Tc ag)) (A e W (Tc ae))
  refine⟨.ref s.heap.objs.size,_,aK,rfl,⟨s.heap.objs.size,x,I.fresh,rfl,rfl,λa3 aM=>by rw[I.hl aM y];exact M⟩,⟨⟨_,aH⟩,R.at λo q=>(Z.2 it (Tc S)).trans q⟩,λb l=>?_⟩;rcases SH.mp l with rfl|l
  ·exact(A _ W (Tc ae)).1
  rw[SQ.mp l];exact(A it Y (Tc ag)).1
 done:=by
  intro X F G J T i r s U H E I t st L;subst F G J;obtain⟨ar,y,M⟩:=L;obtain⟨⟨g,j⟩,m⟩:=st;obtain⟨N,O,p,au⟩:=I.list y;obtain⟨aO,aP,a6,aQ,aR,aW⟩:=t it (by simp);have a7:=O.length;exact wpAny_pyNext_enum_end (I.ok.hd T) j m p.isList (by simp;lia) λh' aZ=>⟨rfl,I.turned (t':=s.toks) (λb o l q=>aZ b o l q) aO aP aQ aR aW⟩
 self:=λ_ _ _ _ _ st h=>by
  obtain⟨⟨g,j⟩,_⟩:=st;exact wpAny_pyIter_enum j h
def Dj(K:Su)(c:eZ):gQ:=λd H R=>c d H λe b=>∃a,e=[.ref a]/\(∃f,cE K b a f)/\R (Ia K a) b
theorem C_{X:aU}{m:Z0}{k:Nat}{n:Pos}{a:Wp}{i:eZ}{p f:Pos}(o:eu X "enumerate")(t:X.mg "enumerate"=none)(v:hf X [a] i)(w:UF [a] X.env=[(false,Yp a X.env)]:=by rfl):iR X (.Tuple m k n) (.Call (.Name "enumerate" p) [a] [] f) (Dj X.K i):=by
 intro x s y H R I h;refine Call_ (oa I o t (by decide +kernel:XQ "enumerate"=some (.type "enumerate")) (UY (cp (v f x s y H _ I h) λJ c ⟨L,z,d,A,B⟩=>?_) w rfl));obtain⟨l,e,⟨M,C⟩,q⟩:=B;subst e;obtain⟨u,rfl,r⟩:=e3 A;cases r;obtain⟨E,N,F,O⟩:=d.list C;refine call_enumerate_list F.isList λP j G Q kp=>wpAny_pyIter_enum j ?_;refine⟨c.heap.objs.size+1,[c.heap.objs.size+1,c.heap.objs.size],_,_,z,rfl,d.kept (t':=c.toks) kp,Dm l c.heap.objs.size (c.heap.objs.size+1) (Nat.succ_ne_self _),⟨⟨_,j⟩,G⟩,λb g=>?_,q⟩;rcases SH.mp g with rfl|g
 ·exact d.ht (Ui _) (d.eg.fresh (Ui _))
 rw[SQ.mp g];exact d.ht (SD _) (d.eg.fresh (SD _))
noncomputable def uW:Nat->ZP->ZP
 |_,[]=>[]
 |n,d::r=>.tup [.int (n:Nat),d]::uW (n+1) r
def C9(u:bb)(g:eS)(s:cA):cA:=λU a=>u a λd=>∃b,d=.lst b/\ka g s U (uW 0 b) a
section
variable{X:aU}{a:Wp}{u:bb}{b p:Pos}
theorem C8{Y:Z0}{k:Nat}{Z:Pos}{C:Z1}{g:eS}{s:cA}(aT:YV (UV X.prog X.w) X.A X.env X.xe)(aV:X.calm=true)(aZ:bt X a u)(L:eu X "enumerate")(aY:X.mg "enumerate"=none)(a0:j7 X (.Tuple Y k Z) g)(a3:hF X C s)(ai:UF [a] X.env=[(false,Yp a X.env)]:=by rfl)(a5:∀x,WF (.Call (.Name "enumerate" p) [a] [] b) X.env x=pure x:=by intro _;rfl){a7:Pos}:
  eT X (.For (.Tuple Y k Z) (.Call (.Name "enumerate" p) [a] [] b) C [] a7) (C9 u g s):=by
 obtain⟨_,bc,bg⟩:=aZ;obtain⟨_,bj,br⟩:=a0;obtain⟨_,bz,bA⟩:=a3;refine⟨_,AN aT aV (C_ L aY (d2 bc e1 (by rw[eD,ai];rfl)) ai) bj bz a5,λU aj h R W B H bC D e M=>?_⟩;refine bg aj _ h R W B H bC _ e λd v N bZ O ak bF bJ=>?_;obtain⟨o,rfl,O⟩:=O;obtain⟨l,E,rfl,ax,P⟩:=bJ.eO;refine⟨l,rfl,⟨E,cE.of (ak.bh _ _ ax)⟩,?_⟩;refine⟨λi m t j=>∃f c,m=o.length-i/\i<=o.length/\ka g s U (uW i (o.drop i)) f/\aL X.K R W c j t f/\bx R B c/\ci N c,⟨o.length,aj,N,by simp,S9 _,O,ak,bF,ci.refl _⟩,?_⟩;rintro i m aE aF ⟨aI,bK,rfl,b5,F,G,aK,Q⟩;have S:cE X.K aF l E:=cE.of (G.bh _ _ (Q _ _ ax));by_cases I:i<o.length
 ·have T:i<E.length:=by rw[P.length];exact I
  refine .inr ⟨⟨E,E[i],S,SY T⟩,λt j=>∃f c,ka g s U (uW (i+1) (o.drop (i+1))) f/\aL X.K R W c j t f/\bx R B c/\ci N c,?_,?_⟩
  ·rintro t j ⟨f,c,z,n,bM,bQ⟩;exact⟨o.length-(i+1),by lia,f,c,rfl,I,z,n,bM,bQ⟩
  rintro x j ⟨q,y,aM,rfl,rfl,bR⟩;obtain⟨d,aO,bS⟩:=P.fb (bR E S)
  have bW:o.drop i=d::o.drop (i+1):=by
   rw[Ul I];rw[SY I]at aO;rw[SN aO]
  rw[bW]at F;have g3:=G.grow aM (.tup [.int i,y]);have bX:=G.alloc aM (.tup [.int i,y]);refine br _ aI _ F R W _ _ aE (.ref q) _ bX (.tup dx (.cons (.int _) (.cons (bS.mono (Q.trans g3.s)) .nil))) λf t bY n _=>?_;have J:=aK.trans g3;have aP:=Q.trans g3.s;exact bA _ f bY R W _ _ t _ n ⟨λf t c j z n g=>⟨f,c,z,n,J.trans g,aP.trans g.s⟩,λf t c j z n g=>M.nx f t c j z n (J.trans g),λf t c j z n g=>⟨f,c,z,n,J.trans g,aP.trans g.s⟩,λr v c j z n g q=>M.rt r v c j z n (J.trans g) q⟩
 have ei:i=o.length:=by lia
 subst ei;rw[Uw]at F;exact .inl ⟨⟨E,S,by rw[P.length];exact SD _⟩,M.nx aI aE bK aF F G aK⟩
end
theorem Ie{c:Type}{f:c->D}{s:cA}{U:hE}{i j:Nat}(I:List c->ZN->Prop):∀{b done:List c}{a:ZN},I done a->
  (∀(pre:List c)(r:c)(d:List c) a,done++b=pre++r::d->I pre a->∀N:ZN->Prop,(∀h,I (pre++[r]) h->N h)->s {U with nx:=N,ct:=N,bk:=U.nx} ((a.set i (.val (.int pre.length))).set j (.val (f r))))->(∀a,I (done++b) a->U.nx a)->
  ka (mz 2 (hq (eU i) (hq (eU j) my))) s U (uW done.length (b.map f)) a
 |[],done,a,k,_,g=>g a (by rw[SU];exact k)
 |r::b,done,a,k,l,g=>by
  refine⟨_,rfl,rfl,_,_,rfl,_,_,rfl,rfl,l done r b a rfl k _ λh m=>?_⟩;have e:done++r::b=(done++[r])++b:=by simp
  rw[e]at l g;have:=Ie I m l g;rwa[Sz]at this
theorem Ig{x y:Int}:cM x*cM y<0↔x*y<0:=by
 constructor
 ·intro h;rcases mO h with⟨a,b⟩|⟨a,b⟩
  ·have c:0<x:=by unfold cM at a;split at a<;>first|assumption|(split at a<;>lia)
   have d:y<0:=by unfold cM at b;split at b<;>first|lia|(split at b<;>first|assumption|lia)
   exact S1 c d
  have c:x<0:=by unfold cM at a;split at a<;>first|lia|(split at a<;>first|assumption|lia)
  have d:0<y:=by unfold cM at b;split at b<;>first|assumption|(split at b<;>lia)
  rw[S8];exact S1 d c
 intro h;rcases mO h with⟨a,b⟩|⟨a,b⟩
 ·have e:cM x=1:=pY a;have f:cM y = -1:=by unfold cM;rw[Tl (by lia),SZ b]
  rw[e,f];decide
 have e:cM x = -1:=by unfold cM;rw[Tl (by lia),SZ a]
 have f:cM y=1:=pY b;rw[e,f];decide
theorem Ih{x:Int}:0<=cM x↔0<=x:=by unfold cM;split<;>first|lia|(split<;>lia)
theorem Ii{x:Int}:cM x<=0↔x<=0:=by unfold cM;split<;>first|lia|(split<;>lia)
theorem C7{pre a:ZO}{c b:ab}(h:(pre++c::a).headD b=b):bD (pre++c::a) ((pre.length+1)%(pre++c::a).length)=a.headD b:=by
 cases a with
 |nil=>
  have e:(pre.length+1)%(pre++[c]).length=0:=by rw[Sz];simp
  rw[e];cases pre with
  |nil=>exact h
  |cons p pre=>exact h
 |cons d a=>
  rw[Te (by simp)];unfold bD;rw[To (by lia)];simp
theorem CJ{b:Type}{a:List b}{i:Nat}{x:b}(h:a[i]?=some x):eF a (i:Int)=some x:=by
 have lt:i<a.length:=(TM.mp h).1;unfold eF
 have e:L3.ju a.length (i:Int)=some i:=by
  unfold L3.ju;rw[SZ (by lia)];simp[lt]
 rw[e];exact h
theorem C6{a:Type}{h:ab->a}{pre rest:ZO}{c:ab}:eF ((pre++c::rest).map h) (pre.length:Int)=some (h c):=by
 refine CJ ?_;rw[SP,To (SD _)];simp
theorem Ij{f:Type}{h:ab->f}{b pre a:ZO}{c d:ab}(e:b=pre++c::a)(g:b.headD d=d):eF (b.map h) (((pre.length:Int)+1)%(b.length:Int))=some (h (a.headD d)):=by
 subst e;have i:0<(pre++c::a).length:=by rw[Sz,SK];lia
 have lt:=Uy (pre.length+1) i;have j:((pre.length:Int)+1)%((pre++c::a).length:Int)=(((pre.length+1)%(pre++c::a).length:Nat):Int):=by rw[Int.natCast_emod];rfl
 rw[j];refine CJ ?_;rw[SP];have:=C7 g;unfold bD at this;rw[SY lt]at this⊢;simp at this;simp[this]
theorem xN{f:ab->Int}{mt:ab->ab->ab}{pre:ZO}{c w:ab}:dn f mt (pre++[c]) w=dn f mt pre c++kp f c++cJ f mt c w:=by
 rw[uT];show dn f mt pre c++(kp f c++cJ f mt c w++[])=_
 rw[SU,SX]
theorem CK{f:ab->Int}{mt:ab->ab->ab}:∀{ps:ZO}{w:ab},(dn f mt ps w).length<=2*ps.length
 |[],_=>SD _
 |p::r,w=>by
  show(kp f p++cJ f mt p (r.headD w)++dn f mt r w).length<=_
  have h:=CK (f:=f) (mt:=mt) (ps:=r) (w:=w);have a:(kp f p).length<=1:=by unfold kp;split<;>simp
  have b:(cJ f mt p (r.headD w)).length<=1:=by unfold cJ;split<;>simp
  rw[Sz,Sz,SK];lia
theorem C5(x:Int): -1<=cM x/\cM x<=1:=by unfold cM;split<;>first|lia|(split<;>lia)
theorem Ik(x:Int):VR (cM x)<=9000:=by
 have:=C5 x;have a:(10:Int)^30=1000000000000000000000000000000:=rfl;exact Sy (Rg (by lia) (by lia)) (by decide)
theorem Il{f:ab->Int}{c:ab}(h:0<=f c):kp f c=[c]:=by unfold kp;rw[SZ h]
theorem Im{f:ab->Int}{c:ab}(h:¬0<=f c):kp f c=[]:=by unfold kp;rw[Tl h]
theorem oQ{l p q:ab}(a:aX p)(b:aX q):nP (a_ l (a_ p q))=a4 l p q:=by unfold a4;rw[SZ ⟨a.1,b.1⟩]
theorem oR{l p q:ab}(e:aX p)(f:aX q)(h:ln l p*ln l q<0):(a_ l (a_ p q)).2.2≠0:=by
 rw[show(a_ l (a_ p q)).2.2=ln l q*p.2.2 + -ln l p*q.2.2 by rw[uQ l p q];rfl];have c:=e.1;have d:=f.1;rcases mO h with⟨a,b⟩|⟨a,b⟩
 ·have g:ln l q*p.2.2<0:=by rw[S8];exact S1 c b
  have i : -ln l p*q.2.2<0:=by rw[S8];exact S1 d (by lia)
  lia
 have g:0<ln l q*p.2.2:=SE b c;have i:0 < -ln l p*q.2.2:=SE (by lia) d;lia
theorem Io{l:ab}{b:ZO}:D.int 1∈b.map (λc=>D.int (cM (ln l c)))↔∃c∈b,0<ln l c:=by
 rw[SI];constructor
 ·rintro⟨c,a,e⟩;exact⟨c,a,HQ (D.int.inj e)⟩
 rintro⟨c,a,h⟩;exact⟨c,a,by rw[pY h]⟩
theorem xO{l:ab}{b:ZO}:D.int (-1)∈b.map (λc=>D.int (cM (ln l c)))↔∃c∈b,ln l c<0:=by
 rw[SI];constructor
 ·rintro⟨c,a,e⟩;refine⟨c,a,?_⟩;have:=D.int.inj e;unfold cM at this;split at this
  ·lia
  split at this<;>lia
 rintro⟨c,a,h⟩;exact⟨c,a,by unfold cM;rw[Tl (by lia),SZ h]⟩
def lc:aA->aA
 |.new d=>.val d
 |.pin _ d=>.val d
 |.own (.d _ _ _ _)=>.no
 |.deep _=>.no
 |s=>s
def fK(s:aA):aA:=xn (lc s)
section
variable{K:Su}{R:al}{W:TD->Prop}{B r H t:al}{p:St}{f:ZN}
theorem C3:(f.map lc).map xn=f.map fK:=by rw[SM];rfl
theorem Ip{i:Nat}{a:TD}(m:cc p (f.map lc) i a):cc p f i a:=by
 rcases m with⟨e,b⟩|⟨c,e,_⟩
 rotate_left
 ·rw[SP]at e;cases q:f[i]? with
  |none=>rw[q]at e;cases e
  |some g=>
   rw[q]at e;cases g with
   |own h=>cases h<;>cases e
   |_=>cases e
 refine .inl ⟨e,?_⟩;rw[SP]at b;cases q:f[i]? with
 |none=>rw[q]at b;rcases b with b|⟨_,b⟩<;>cases b
 |some g=>
  rw[q]at b;cases g with
  |bag=>exact .inl rfl
  |own h=>exact .inr ⟨h,rfl⟩
  |no=>rcases b with b|⟨_,b⟩<;>cases b
  |new d=>rcases b with b|⟨_,b⟩<;>cases b
  |pin v d=>rcases b with b|⟨_,b⟩<;>cases b
  |deep d=>rcases b with b|⟨_,b⟩<;>cases b
  |val d=>rcases b with b|⟨_,b⟩<;>cases b
theorem Iq{i:Nat}:(f.map lc)[i]?=some .bag↔f[i]?=some .bag:=by
 rw[SP];constructor
 ·intro h;cases q:f[i]? with
  |none=>rw[q]at h;cases h
  |some a=>
   rw[q]at h;cases a with
   |bag=>rfl
   |own b=>cases b<;>cases h
   |no=>cases h
   |new d=>cases h
   |pin v d=>cases h
   |deep d=>cases h
   |val d=>cases h
 intro h;rw[h];rfl
theorem CL{a:TD}:gJ W p (f.map lc) a↔gJ W p f a:=by
 unfold gJ;constructor
 ·rintro(h|⟨i,b,c⟩)
  ·exact .inl h
  exact .inr ⟨i,b,Iq.mp c⟩
 rintro(h|⟨i,b,c⟩)
 ·exact .inl h
 exact .inr ⟨i,b,Iq.mpr c⟩
theorem aL.wide(e:aL K R W B H p f):aL K R W (hT R W B) H p (f.map lc):=by
 have r:∀a,R a=none->hT R W B a=B a:=λa h=>xg λx z=>by rw[h]at z;cases z
 refine⟨⟨e.fr,G4 e.toWd,λa z=>by rw[B5 z];exact e.wb a z,e.wh,e.wr⟩,by rw[Sv];exact e.len,λi k h=>?_,λi j a t u=>e.sep i j a (Ip t) (Ip u)⟩;rw[SP]at h;cases q:f[i]? with
 |none=>rw[q]at h;cases h
 |some w=>
  rw[q]at h;have h:=SN h;subst h;have z:=e.ok i _ q;cases w with
  |no=>trivial
  |new d=>exact z
  |pin v d=>exact⟨v,z⟩
  |deep c=>trivial
  |val d=>
   obtain⟨v,m,g⟩:=z;exact⟨v,m,g.mono (G3 e.toWd)⟩
  |own s=>
   cases s with
   |d _ _ _ _=>trivial
   |l s=>
   obtain⟨a,m,g,n,o⟩:=z;exact⟨a,m,g,by rw[r a g];exact n,o.mono (G3 e.toWd) rfl⟩
  |bag=>
   obtain⟨b,m,g,n,o⟩:=z;refine⟨b,m,g,?_,o⟩;rcases g with g|g
   ·rw[B5 g];exact n
   rw[r b g];exact n
theorem uY{a:TD}{o:el}(h:B a=some o)(n:∀b,o≠.lst b):dI R B a=some o:=by
 unfold dI;rw[h];cases o with
 |lst b=>exact absurd rfl (n b)
 |_=>rfl
noncomputable abbrev uZ(R:al)(W:TD->Prop)(B H:al)(p:St)(f:ZN):al:=pQ (hT R W B) H p (f.map lc)
theorem aL.looked(e:aL K R W B H p f){t E:al}(F:Wd H (gJ W p (f.map lc)) t E)(g:bx H (uZ R W B H p f) t):
  ∃r,aL K R W r E p f/\bx R B r/\ci (dI H t) (dI R r)/\∀a,H a=none->r a=t a:=by
 have u:=e.gq (H':=E) (λa o h N=>F.fr a o h λz=>N (CL.mp z)) (λa h=>F.wh a (CL.mpr h))
 obtain⟨v,G,A⟩:∃v:al,(∀a,H a=none->v a=t a)/\∀a,H a≠none->v a=B a:=
  ⟨λa=>match H a with|none=>t a|some _=>B a,λa h=>by dsimp only;rw[h],λa h=>by
   dsimp only;cases q:H a with
   |none=>exact absurd q h
   |some o=>rfl⟩
 have s:ci B v:=λa o h=>by rw[A a (by rw[e.bh a o h];simp)];exact h
 refine⟨v,u.move ⟨u.fr,λa o h=>?_,λa z=>?_,u.wh,u.wr⟩ s λi a m=>⟨?_,λz=>?_,λ_=>rfl⟩,⟨s,λa o h=>?_⟩,λa o h=>?_,G⟩
 ·by_cases q:H a=none
  ·rw[G a q]at h;exact F.bh a o h
  rw[A a q]at h;exact u.bh a o h
 ·obtain⟨x,y,q,_⟩:=e.wh a z;rw[A a (by rw[q];simp)];exact e.wb a z
 ·rw[A a (e.en m).2];exact(e.en m).1
 ·obtain⟨b,C,_,_,I⟩:=u.eo z;rw[nC m z]at C;cases C;exact I
 ·by_cases q:H a=none
  ·exact .inr (e.toWd.fresh q).1
  rw[A a q]at h;exact .inl h
 have J:=iw a o h;by_cases q:H a=none
 ·have L:v a=some o:=by rw[G a q];exact J
  cases o with
  |lst k=>exact t9 L (e.toWd.fresh q).1
  |_=>exact uY L (λ_ z=>by cases z)
 have nl:∀k,o≠.lst k:=λk z=>by
  subst z;exact q (Bq h).2
 refine uY ?_ nl;rw[A a q];rcases g.n a o J with z|z
 ·by_cases w:nJ p (f.map lc) a
  ·obtain⟨i,M,O,j⟩:=id w;cases M with
   |d Q S T U=>
    rw[SP]at j;cases q:f[i]? with
    |none=>rw[q]at j;cases j
    |some P=>
     rw[q]at j;have j:=SN j;cases P with
     |own c=>cases c<;>simp[lc]at j
     |_=>simp[lc]at j
   |l M=>
   obtain⟨b,k,C,_,_,I,_⟩:=e.wide.ownAt j;rw[O]at C;cases C;rw[uZ,sF w,I]at z;cases z;exact absurd rfl (nl k)
  rw[uZ,sG w]at z;rcases B6 z with z|⟨_,_,k,z⟩
  ·exact z
  exact absurd z (nl k)
 exact absurd z q
theorem aL.iI(e:aL K R W B H p f):aL K H (gJ W p (f.map lc)) (uZ R W B H p f) H p (f.map fK):=by
 have:=e.wide.frame;rwa[C3]at this
end
section
variable{K:Su}{X:aU}{e:Wp}{A:Z0}{u:bb}{w:cK}{i p:Pos}
theorem C1{c:Wp}{a:dz}(h:hU X c a):hU X c (λd k=>a (d.map fK) k):=by
 obtain⟨_,f,i⟩:=h;refine⟨_,f,λd k h R W B H p Q e q=>?_⟩;refine i _ _ h _ _ _ _ _ _ e.iI λb r j z l g=>?_;obtain⟨m,n,o,_⟩:=e.looked l.toWd g;exact q b m j z n o
def C0(u:bb):bb:=λa k=>u (a.map fK) k
theorem Ir(h:kg X e u):kg X e (C0 u):=by
 obtain⟨_,a,b⟩:=h;refine⟨_,a,λn k h R W B H o Q e q=>?_⟩;refine b _ _ h _ _ _ _ _ _ e.iI λd v p c z f g s=>?_;obtain⟨i,j,l,m,_⟩:=e.looked f.toWd g;exact q d v i c z j l (s.mono m)
theorem Is(h:kg X e u):bt X e u:=by
 obtain⟨_,a,b⟩:=h;refine⟨_,a,λc k h R W B H f Q e q=>?_⟩;exact b c k h R W B H f _ e λd v g i z j l m=>q d v g i z j l (m.mono iw)
variable{j:Wp}
def CM(u:bb):dz:=λa k=>u a λx=>∃ds,x=.lst ds/\k (!ds.isEmpty)
theorem It{a:Wp}{f:bb}(c:bt X a f)(j:∀whole,Zh a X.env whole=(do let v <-whole;YU a.pos;Yz [v] (ZE v)):=by intro _;rfl):hU X a (CM f):=by
 obtain⟨_,l,m⟩:=c;refine⟨_,AV l j,λn k h R W B H o Q e q=>?_⟩;refine m n _ h R W B H o _ e λx v p r s g t u=>?_;obtain⟨b,rfl,w⟩:=s;obtain⟨a,vs,rfl,c,y⟩:=u.eO;refine⟨!vs.isEmpty,.inl ⟨vs,cE.of (g.bh _ _ c),rfl⟩,q _ p r ?_ g t⟩
 have:vs.isEmpty=b.isEmpty:=by
  have i:=y.length;cases vs with
  |nil=>cases b with
   |nil=>rfl
   |cons d b=>simp at i
  |cons v vs=>cases b with
   |nil=>simp at i
   |cons d b=>rfl
 rw[this];exact w
variable{C t:Wp}{o:Z0}{f:XZ}{r:List (Str×TD)}{E l:ZX}{m:ZT}{n:eS}{y:dz}
end
section
variable{K:Su}
def xP:Bool->aA->aA
 |true,.val d=>.new d
 |_,x=>x
def CU:Bool->aA->Prop
 |false,.val d=>iZ d=true
 |_,_=>True
def jQ:List Bool->ZN->ZN
 |b::m,x::r=>xP b x::jQ m r
 |_,r=>r
def xQ:List Bool->ZN->Prop
 |b::m,x::r=>CU b x/\xQ m r
 |[],[]=>True
 |_,_=>False
theorem Iu:∀(m:List Bool)(a:ZN),(jQ m a).length=a.length
 |[],[]=>rfl
 |[],_::_=>rfl
 |_::_,[]=>rfl
 |b::m,x::r=>by rw[jQ,SK,SK,Iu m r]
theorem sP{W:TD->Prop}{B:al}:∀{c:ZQ}{f:ZN},j8 K W B c f->∀(m:List Bool),xQ m f->∀(i:Nat)(k:aA),(jQ m f)[i]?=some k->
  (∃v d,c[i]?=some v/\k=.new d/\bG K B v d)\/(∃v d,c[i]?=some v/\k=.val d/\bG K B v d/\iZ d=true)\/(∃b,c[i]?=some (.ref b)/\k=.bag/\W b/\f[i]?=some .bag)
 |_,_,.nil,[],_,i,k,e=>by simp[jQ]at e
 |_,_,.nil,_::_,a,i,k,e=>by cases a
 |_,_,.val h r,[],a,i,k,e=>by cases a
 |_,_,.bag h r,[],a,i,k,e=>by cases a
 |_,_,.val h r,b::m,a,i+1,k,e=>by
  simpa using sP r m a.2 i k (by simpa[jQ]using e)
 |_,_,.bag h r,b::m,a,i+1,k,e=>by
  simpa using sP r m a.2 i k (by simpa[jQ]using e)
 |_,_,.val h r,true::m,a,0,k,e=>by
  simp[jQ,xP]at e;subst e;exact .inl ⟨_,_,rfl,rfl,h⟩
 |_,_,.val h r,false::m,a,0,k,e=>by
  simp[jQ,xP]at e;subst e;exact .inr (.inl ⟨_,_,rfl,rfl,h,a.1⟩)
 |_,_,.bag h r,b::m,a,0,k,e=>by
  have e:k=.bag:=by cases b<;>(simp[jQ,xP]at e;exact e.symm)
  subst e;exact .inr (.inr ⟨_,rfl,rfl,h,rfl⟩)
theorem CN{W:TD->Prop}{B H:al}(d:ci B H)(f:∀a,W a->B a=none):ci B (hT H W (dI H B)):=λa o h=>by
 have c:=d a o h;have g:¬W a:=λz=>by rw[f a z]at h;cases h
 by_cases q:∃b,o=.lst b
 ·obtain⟨b,rfl⟩:=q;exact xf c g
 rw[xg λb e=>q ⟨b,by rw[c]at e;exact SN e⟩];exact uY h λb e=>q ⟨b,e⟩
theorem aL.k8{N:ZX}{W:TD->Prop}{B H:al}{e:ZQ}{c:ZN}{m:List Bool}(u:kH c<=1)(s:ci B H)(g:∀a,W a->B a=none/\ft H a)(l:j8 K W B e c)(p:xQ m c):aL K H W (dI H B) H (L3.fi N e) (jQ m c++SR (N.length-c.length) .no):=by
 have w:=l.length;have A:=Iu m c
 have C:∀a,W a->dI H B a=none:=λa h=>by
  cases q:dI H B a with
  |none=>rfl
  |some o=>have:=iw a o q;rw[(g a h).1]at this;cases this
 have t:Wd H W (dI H B) H:=⟨λ_ _ h _=>h,iw.trans s,C,λa h=>(g a h).2,λa h=>by obtain⟨x,y,q,_⟩:=(g a h).2;rw[q];simp⟩
 have lo:∀i,i<c.length->(L3.fi N e)[i]?=(e[i]?).map some:=λi lt=>by
  unfold L3.fi;rw[TH (by rw[Sv];lia),SP]
 have cs:∀(i:Nat)(k:aA),(jQ m c++SR (N.length-c.length) aA.no)[i]?=some k->(i<c.length/\(jQ m c)[i]?=some k)\/k=aA.no:=λi k h=>by
  by_cases z:i<(jQ m c).length
  ·rw[TH z]at h;exact .inl ⟨by lia,h⟩
  rw[To (by lia)]at h;rw[Uh]at h;split at h
  ·exact .inr (SN h).symm
  cases h
 refine⟨t,by unfold L3.fi;simp[w,A],λi k h=>?_,λi j a E F=>?_⟩
 ·rcases cs i k h with⟨lt,h⟩|rfl
  ·rw[lo i lt];rcases sP l m p i k h with⟨v,d,n,rfl,r⟩|⟨v,d,n,rfl,r,f⟩|⟨b,n,rfl,r,_⟩
   ·rw[n];exact⟨v,rfl,r.mono (CN s λa z=>(g a z).1)⟩
   ·rw[n];exact⟨v,rfl,r.flat f⟩
   rw[n];exact⟨b,rfl,.inl r,t.wb b r,(g b r).2⟩
  trivial
 have one:∀i,cc (L3.fi N e) (jQ m c++SR (N.length-c.length) aA.no) i a->c[i]?=some .bag:=λi G=>by
  rcases G with⟨_,z|⟨I,z⟩⟩|⟨_,z,_⟩
  rotate_right
  ·rcases cs i _ z with⟨_,z⟩|z
   ·rcases sP l m p i _ z with⟨v,d,_,q,_⟩|⟨v,d,_,q,_⟩|⟨b,_,q,_⟩<;>cases q
   cases z
  ·rcases cs i _ z with⟨_,z⟩|z
   ·rcases sP l m p i _ z with⟨v,d,_,q,_⟩|⟨v,d,_,q,_⟩|⟨b,_,_,_,q⟩
    ·cases q
    ·cases q
    exact q
   cases z
  rcases cs i _ z with⟨_,z⟩|z
  ·rcases sP l m p i _ z with⟨v,d,_,q,_⟩|⟨v,d,_,q,_⟩|⟨b,_,q,_⟩<;>cases q
  cases z
 exact pH u (one i E) (one j F)
def CR(k:aA->Prop):aA->Prop
 |.val d=>k (.new d)
 |.own (.l a)=>k (.new (.lst a))
 |.new d=>k (.new d)
 |_=>False
theorem Iv{P:WP}{w:XB}{ai:Str->Option SL}{J:XG}{x:Str}{st:XF}{N X:ZX}{aq n:Nat}{F:b7}(m:List Bool)(aD:cH K ai x st X)(S:cy N X (bL st))(aE:X.length=n)(aF:∀(f:TD)(I:SL)(A:XC)(p:List Tu)(s:Tk)(H:al)(E:g0),ew aq (A.deeper (U4 x (bL st) s.heap.objs.size f I))->∃u,hF (k0 j4 P w K ai J N x (bL st) f I A p s H E).jn (j3 st) u/\∀L k,L.length=n->F L k->xQ m L/\u {nx:=λ_=>k (.val .non),rt:=CR k} (jQ m L++SR (N.length-n) .no)):b6 P w K ai J x X (aq+1) (cj K n F):=by
 refine aD.ok S (λM H Q E h=>?_) (λf I A p s H M Q E aG h=>?_)
 ·obtain⟨W,B,L,k,_,Y,_,_,_,aj,_⟩:=h;rw[aj.length,Y,aE]
 obtain⟨W,B,L,k,aI,Y,aJ,au,ak,aj,q⟩:=h;obtain⟨u,⟨t,aK,ar⟩,hc⟩:=aF f I A p s H E aG;obtain⟨aN,hc⟩:=hc L k Y aI;have av:=aL.k8 (N:=N) (m:=m) (Vh aJ) au ak aj aN;rw[Y]at av
 have Z:∀G C,Wd H W G C->bx H (dI H B) G->∃b,Wd H W b C/\bx H B b/\ci G (dI H b):=λG C O g=>by
  have ay:ci B C:=λa o h=>O.fr a o (au a o h) λz=>by rw[(ak a z).1]at h;cases h
  obtain⟨b,h1,hi⟩:∃b:al,(∀a o,B a=some o->b a=some o)/\∀a,B a=none->b a=G a:=
   ⟨λa=>match B a with|some o=>some o|none=>G a,λa o h=>by dsimp only;rw[h],λa h=>by dsimp only;rw[h]⟩
  refine⟨b,⟨O.fr,λa o h=>?_,λa z=>?_,O.wh,O.wr⟩,⟨h1,λa o h=>?_⟩,λa o h=>?_⟩
  ·cases z:B a with
   |none=>rw[hi a z]at h;exact O.bh a o h
   |some ae=>rw[h1 a ae z]at h;cases h;exact ay a _ z
  ·rw[hi a (ak a z).1];exact O.wb a z
  ·cases z:B a with
   |none=>
    rw[hi a z]at h;rcases g.n a o h with y|y
    ·rw[iw a o y]at z;cases z
    exact .inr y
   |some ae=>rw[h1 a ae z]at h;cases h;exact .inl rfl
  have az:b a=some o:=by
   cases z:B a with
   |none=>rw[hi a z];exact h
   |some ae=>
    have aB:=ay a _ z;rw[O.bh a o h]at aB;cases aB;exact h1 a _ z
  by_cases y:∃M,o=.lst M
  ·obtain⟨M,rfl⟩:=y;refine t9 az ?_;rcases g.n a _ h with y|y
   ·exact(Bq y).2
   exact y
  exact uY az λM e=>y ⟨M,e⟩
 refine⟨t,aK,ar _ _ hc H W _ H (L3.fi N M) _ av ⟨λa3 a6 G C h e g=>?_,λ_ _ _ _ h=>h.elim,λ_ _ _ _ h=>h.elim,λr v G C h e g z=>?_⟩⟩
 ·obtain⟨b,R,T,_⟩:=Z G C e.toWd g;exact q _ _ b C h ⟨R,T,.non⟩
 cases r with
 |no=>exact h.elim
 |bag=>exact h.elim
 |pin v d=>exact h.elim
 |deep c=>exact h.elim
 |val d=>
  obtain⟨b,R,T,U⟩:=Z G C e g;exact q (.new d) v b C h ⟨R,T,bG.mono U z⟩
 |new d=>
  obtain⟨b,R,T,U⟩:=Z G C e g;exact q (.new d) v b C h ⟨R,T,bG.mono U (bG.mono iw z)⟩
 |own c=>
  cases c with
  |d _ _ _ _=>exact h.elim
  |l aM=>
  obtain⟨a,rfl,aO,aQ,a7,aR,aW⟩:=z;have aZ:aL K H W G C [] []:=⟨e,rfl,λi k h=>by simp at h,λi j a m=>by rcases m with⟨z,_⟩|⟨_,z,_⟩<;>simp at z⟩;obtain⟨aY,g3⟩:=aZ.freeze aR aO aQ λi m=>by rcases m with⟨z,_⟩|⟨_,z,_⟩<;>simp at z
  obtain⟨b,R,T,U⟩:=Z _ C aY.toWd (g.trans g3);exact q (.new (.lst aM)) _ b C h ⟨R,T,bG.mono U (.lst dx (aW.mono g3.s))⟩
end
noncomputable def cZ:ab->ZO->List (ab×ab)
 |_,[]=>[]
 |z,p::r=>(z,p)::cZ p r
def bU:ab->ZO->ab
 |z,[]=>z
 |_,p::r=>bU p r
def du(a:ZO):List (ab×ab):=cZ (bU (0,0,1) a) a
theorem p8:∀(z:ab)(A B:ZO),cZ z (A++B)=cZ z A++cZ (bU z A) B
 |_,[],_=>rfl
 |z,p::A,B=>by
  show(z,p)::cZ p (A++B)=(z,p)::(cZ p A++cZ (bU p A) B)
  rw[p8 p A B]
theorem p9:∀(z:ab)(A B:ZO),bU z (A++B)=bU (bU z A) B
 |_,[],_=>rfl
 |_,p::A,B=>p9 p A B
theorem sQ{z a:ab}{L:ZO}(h:L≠[]):bU z L=bU a L:=by
 cases L with
 |nil=>exact absurd rfl h
 |cons p r=>rfl
theorem CP:∀{z:ab}{L:ZO},L≠[]->bU z L∈L
 |_,[],h=>absurd rfl h
 |z,[p],_=>Sw
 |z,p::q::r,_=>Sx _ (CP (z:=p) (L:=q::r) (by simp))
theorem Ix:∀{z:ab}{L:ZO}{e:ab×ab},e∈cZ z L->(e.1=z\/e.1∈L)/\e.2∈L
 |_,[],_,h=>by cases h
 |z,p::r,e,h=>by
  rcases SH.mp h with rfl|h
  ·exact⟨.inl rfl,Sw⟩
  obtain⟨a,b⟩:=Ix h;refine⟨.inr ?_,Sx _ b⟩;rcases a with a|a
  ·rw[a];exact Sw
  exact Sx _ a
theorem lX{L:ZO}{e:ab×ab}(h:e∈du L):e.1∈L/\e.2∈L:=by
 have n:L≠[]:=by rintro rfl;cases h
 obtain⟨a,b⟩:=Ix h;refine⟨?_,b⟩;rcases a with a|a
 ·rw[a];exact CP n
 exact a
section
variable{f:ab->Int}{mt:ab->ab->ab}
theorem xR{C:ab->ab->Prop}(m:∀u v,f u=0->f v=0->C u v):∀{ps:ZO}{w z:ab},
  (∀p q,(p,q)∈cZ (ps.headD w) (ps.tail++[w])->0<=f p->0<=f q->C p q)->
  (∀p q,(p,q)∈cZ (ps.headD w) (ps.tail++[w])->f p*f q<0->f (mt p q)=0/\(0<f p->C p (mt p q))/\(0<f q->C (mt p q) q))->
  (0<=f (ps.headD w)->C z (ps.headD w))->(f (ps.headD w)<0->f z=0)->ps≠[]->
  (∀e∈cZ z (dn f mt ps w),C e.1 e.2)/\(0<=f w->C (bU z (dn f mt ps w)) w)/\(f w<0->f (bU z (dn f mt ps w))=0)
 |[],_,_,_,_,_,_,G=>absurd rfl G
 |p::r,w,z,j,i,k,n,_=>by
  have k:0<=f p->C z p:=k;have n:f p<0->f z=0:=n
  have l:(p,r.headD w)∈cZ p (r++[w]):=by
   cases r with
   |nil=>exact Sw
   |cons q r=>exact Sw
  have j:∀a b,(a,b)∈cZ p (r++[w])->0<=f a->0<=f b->C a b:=j;have i:∀a b,(a,b)∈cZ p (r++[w])->f a*f b<0->f (mt a b)=0/\(0<f a->C a (mt a b))/\(0<f b->C (mt a b) b):=i
  have step:(∀e∈cZ z (kp f p++cJ f mt p (r.headD w)),C e.1 e.2)/\(0<=f (r.headD w)->C (bU z (kp f p++cJ f mt p (r.headD w))) (r.headD w))/\(f (r.headD w)<0->f (bU z (kp f p++cJ f mt p (r.headD w)))=0):=by
   generalize r.headD w=q at l;by_cases g:0<=f p
   ·rw[show kp f p=[p] by unfold kp;rw[SZ g]];by_cases c:f p*f q<0
    ·rw[mM c];obtain⟨o,x,y⟩:=i p q l c
     have H:0<f p:=by
      rcases mO c with⟨a,_⟩|⟨a,_⟩
      ·exact a
      lia
     have A:f q<0:=by
      rcases mO c with⟨_,a⟩|⟨a,_⟩
      ·exact a
      lia
     refine⟨λe d=>?_,λh=>absurd h (by lia),λ_=>o⟩;rcases SH.mp d with rfl|d
     ·exact k g
     rcases SH.mp d with rfl|d
     ·exact x H
     cases d
    rw[lV c];refine⟨λe d=>?_,λh=>j p q l g h,λh=>?_⟩
    ·rcases SH.mp d with rfl|d
     ·exact k g
     cases d
    show f p=0
    rcases Vl g with a|a
    ·exact absurd (S1 a h) c
    exact a.symm
   rw[show kp f p=[] by unfold kp;rw[Tl g]];have s:=n (by lia);by_cases c:f p*f q<0
   ·rw[mM c];obtain⟨o,x,y⟩:=i p q l c
    have A:0<f q:=by
     rcases mO c with⟨a,_⟩|⟨_,a⟩
     ·lia
     exact a
    refine⟨λe d=>?_,λ_=>y A,λh=>absurd h (by lia)⟩;rcases SH.mp d with rfl|d
    ·exact m _ _ s o
    cases d
   rw[lV c];refine⟨λe d=>(by cases d),λh=>m _ _ s ?_,λ_=>s⟩;rcases Vl h with a|a
   ·exact absurd (by rw[S8];exact S1 a (by lia)) c
   exact a.symm
  obtain⟨B,E,F⟩:=step;show(∀e∈cZ z (kp f p++cJ f mt p (r.headD w)++dn f mt r w),C e.1 e.2)/\(0<=f w->C (bU z (kp f p++cJ f mt p (r.headD w)++dn f mt r w)) w)/\(f w<0->f (bU z (kp f p++cJ f mt p (r.headD w)++dn f mt r w))=0)
  rw[p8 z (kp f p++cJ f mt p (r.headD w)),p9 z (kp f p++cJ f mt p (r.headD w))];cases r with
  |nil=>exact⟨λe d=>by rw[show cZ _ (dn f mt [] w)=[]from rfl,SU]at d;exact B e d,E,F⟩
  |cons q r=>
   obtain⟨I,J,K⟩:=xR m (ps:=q::r) (w:=w) (z:=bU z (kp f p++cJ f mt p q)) (λa b t=>j a b (Sx _ t)) (λa b t=>i a b (Sx _ t)) E F (by simp);refine⟨λe d=>?_,J,K⟩;rcases SO.mp d with d|d
   ·exact B e d
   exact I e d
theorem CQ{a:ab}{r:ZO}{e:ab×ab}:e∈cZ a (r++[a])↔e∈du (a::r):=by
 have:du (a::r)=(bU a r,a)::cZ a r:=rfl;rw[this,p8];simp[cZ,or_comm]
theorem DQ{C:ab->ab->Prop}{ps:ZO}(d:∀u v,f u=0->f v=0->C u v)(o:ab)(g:f o=0)(A:∀e∈du ps,0<=f e.1->0<=f e.2->C e.1 e.2)(B:∀e∈du ps,f e.1*f e.2<0->f (mt e.1 e.2)=0/\(0<f e.1->C e.1 (mt e.1 e.2))/\(0<f e.2->C (mt e.1 e.2) e.2)):
  ∀e∈du (dD f mt ps),C e.1 e.2:=by
 cases ps with
 |nil=>intro e c;cases c
 |cons a r=>
  intro e c;have n:dD f mt (a::r)≠[]:=by intro z;rw[z]at c;cases c
  have i:∀p q,(p,q)∈cZ ((a::r).headD a) ((a::r).tail++[a])->0<=f p->0<=f q->C p q:=λp q h=>A (p,q) (CQ.mp h);have b:∀p q,(p,q)∈cZ ((a::r).headD a) ((a::r).tail++[a])->f p*f q<0->f (mt p q)=0/\(0<f p->C p (mt p q))/\(0<f q->C (mt p q) q):=λp q h=>B (p,q) (CQ.mp h);have first:=xR (f:=f) (mt:=mt) (C:=λu v=>u=o\/C u v) (λu v j k=>.inr (d u v j k)) (ps:=a::r) (w:=a) (z:=o) (λp q h x y=>.inr (i p q h x y)) (λp q h x=>⟨(b p q h x).1,λy=>.inr ((b p q h x).2.1 y),λy=>.inr ((b p q h x).2.2 y)⟩) (λ_=>.inl rfl) (λ_=>g) (by simp)
  have l:bU o (dn f mt (a::r) a)=bU (0,0,1) (dD f mt (a::r)):=sQ n;have E:f a<0->f (bU (0,0,1) (dD f mt (a::r)))=0:=λh=>by rw[<-l];exact first.2.2 h
  have F:0<=f a->C (bU (0,0,1) (dD f mt (a::r))) a:=λh=>by
   by_cases m:bU o (dn f mt (a::r) a)=o
   ·
    have:=xR (f:=f) (mt:=mt) (C:=λu v=>(u=a/\v=a)\/C u v) (λu v j k=>.inr (d u v j k)) (ps:=a::r) (w:=a) (z:=a) (λp q h x y=>.inr (i p q h x y)) (λp q h x=>⟨(b p q h x).1,λy=>.inr ((b p q h x).2.1 y),λy=>.inr ((b p q h x).2.2 y)⟩) (λ_=>.inl ⟨rfl,rfl⟩) (λy=>absurd y (show ¬f a<0 by lia)) (by simp);have t:bU a (dn f mt (a::r) a)=bU (0,0,1) (dD f mt (a::r)):=sQ n;rcases this.2.1 h with⟨s,_⟩|q
    ·rw[t]at s;rw[s];rw[l,s]at m;rw[m];exact d o o g g
    rw[<-t];exact q
   rcases first.2.1 h with q|q
   ·exact absurd q m
   rw[<-l];exact q
  exact(xR d i b F E (by simp)).1 e c
end
def oS(l:ab)(mt:ab->ab->ab):Prop:=∀p q,ln l p*ln l q<0->hH p q (mt p q)/\ln l (mt p q)=0
theorem u0{l p q:ab}(h:ln l p*ln l q<0):ln l (a4 l p q)=0:=by
 unfold a4;by_cases w:0<p.2.2/\0<q.2.2
 ·rw[SZ w]
  have d:(a_ l (a_ p q)).2.2≠0:=by
   rw[show(a_ l (a_ p q)).2.2=ln l q*p.2.2 + -ln l p*q.2.2 by rw[uQ l p q];rfl];rcases mO h with⟨a,b⟩|⟨a,b⟩
   ·have e:ln l q*p.2.2<0:=by rw[S8];exact S1 w.1 b
    have f : -ln l p*q.2.2<0:=by rw[S8];exact S1 w.2 (by lia)
    lia
   have e:0<ln l q*p.2.2:=SE b w.1;have f:0 < -ln l p*q.2.2:=SE (by lia) w.2;lia
  obtain⟨g,i,j⟩:=kL d;have z:ln l (a_ l (a_ p q))=0:=by rw[show a_ l (a_ p q)=hs (ln l q) p (-ln l p) q from uQ l p q,xI];grind
  rw[j,CF]at z;rcases Tv.mp z with y|y
  ·exact absurd y i
  exact y
 rw[Tl w];by_cases c:0<ln l q
 ·rw[SZ c,xI];grind
 rw[Tl c,xI];grind
theorem xS(l:ab):oS l (a4 l):=λ_ _ h=>⟨sO h,u0 h⟩
def jR(l:ab):ab:=sc (-1) l
theorem ro(l p:ab):ln (jR l) p = -ln l p:=by unfold jR ln sc;dsimp only;grind
theorem sR(l:ab):ln (jR l)=λc => -ln l c:=by funext c;exact ro l c
theorem oS.ng{l:ab}{mt:ab->ab->ab}(h:oS l mt):oS (jR l) mt:=λp q c=>by
 rw[ro,ro,UB]at c;refine⟨(h p q c).1,?_⟩;rw[ro,(h p q c).2];rfl
theorem oS.meets{l:ab}{mt:ab->ab->ab}(h:oS l mt):jZ (ln l) mt:=λp q c=>(h p q c).1
theorem hH.nk{p q m g:ab}(h:hH p q m)(c:L3.ln g p=0)(d:L3.ln g q=0):L3.ln g m=0:=by
 obtain⟨s,a,b,f,i,j,e⟩:=h;have k:s*L3.ln g m=a*L3.ln g p+b*L3.ln g q:=by rw[<-CF,e,xI]
 rw[c,d,S4,S4]at k;rcases Tv.mp k with z|z
 ·lia
 exact z
section
variable{l:ab}{mt:ab->ab->ab}{a:ZO}
theorem xT:∀{z:ab}{r:ZO},r≠[]->∃A,r=A++[bU z r]
 |_,[],h=>absurd rfl h
 |z,[p],_=>⟨[],rfl⟩
 |z,p::q::r,_=>by
  obtain⟨A,e⟩:=xT (z:=p) (r:=q::r) (by simp);exact⟨p::A,Uf (p :: ·) e⟩
end
def e4(T:ab->ab->Rat)(a:List (ab×ab)):Rat:=(a.map λe=>T e.1 e.2).sum
theorem i2(T:ab->ab->Rat):e4 T []=0:=rfl
theorem hZ(T:ab->ab->Rat)(e:ab×ab)(a:List (ab×ab)):e4 T (e::a)=T e.1 e.2+e4 T a:=by unfold e4;rw[SJ,S']
theorem xU(T:ab->ab->Rat):∀b a:List (ab×ab),e4 T (b++a)=e4 T b+e4 T a
 |[],a=>by rw[Tf,i2];grind
 |e::b,a=>by rw[Tq,hZ,hZ,xU T b a];grind
section
variable{f:ab->Int}{mt:ab->ab->ab}{T:ab->ab->Rat}{V:ab->Prop}
noncomputable def jo(f:ab->Int)(mt:ab->ab->ab)(T:ab->ab->Rat)(p q:ab):Rat:=
 if 0<=f p then(if 0<=f q then T p q else if f p*f q<0 then T p (mt p q)else 0)else(if f p*f q<0 then T (mt p q) q else 0)
def nS(f:ab->Int)(T:ab->ab->Rat)(z p:ab):Rat:=if 0<=f p then T z p else 0
theorem xV{z p:ab}(h:0<=f p):nS f T z p=T z p:=by unfold nS;rw[SZ h]
theorem xW{z p:ab}(h:¬0<=f p):nS f T z p=0:=by unfold nS;rw[Tl h]
theorem DP(l:∀u v,V u->V v->f u=0->f v=0->T u v=0){p q z:ab}(m:V z)(n:V q)(j:f p*f q<0->V (mt p q)/\f (mt p q)=0)(o:f p<0->f z=0):
  e4 T (cZ z (kp f p++cJ f mt p q))+nS f T (bU z (kp f p++cJ f mt p q)) q=nS f T z p+jo f mt T p q/\(f q<0->f (bU z (kp f p++cJ f mt p q))=0):=by
 by_cases b:0<=f p
 ·rw[show kp f p=[p] by unfold kp;rw[SZ b],xV b];by_cases c:f p*f q<0
  ·rw[mM c]
   have i:¬0<=f q:=by
    rcases mO c with⟨_,a⟩|⟨a,_⟩<;>lia
   have d:bU z ([p]++[mt p q])=mt p q:=rfl;have g:cZ z ([p]++[mt p q])=[(z,p),(p,mt p q)]:=rfl;refine⟨?_,λ_=>by rw[d];exact(j c).2⟩;rw[d,g,xW i,hZ,hZ,i2];unfold jo;rw[SZ b,Tl i,SZ c];dsimp only;grind
  rw[lV c];have d:bU z ([p]++[])=p:=rfl;have g:cZ z ([p]++[])=[(z,p)]:=rfl;rw[d,g,hZ,i2];refine⟨?_,λh=>?_⟩
  ·unfold jo;rw[SZ b];by_cases e:0<=f q
   ·rw[xV e,SZ e];dsimp only;grind
   rw[xW e,Tl e,Tl c];dsimp only;grind
  rcases Vl b with a|a
  ·exact absurd (S1 a h) c
  exact a.symm
 rw[show kp f p=[] by unfold kp;rw[Tl b],xW b,Tf];have k:=o (by lia);unfold jo;rw[Tl b];by_cases c:f p*f q<0
 ·rw[mM c,SZ c]
  have i:0<=f q:=by
   rcases mO c with⟨a,_⟩|⟨_,a⟩<;>lia
  have d:bU z [mt p q]=mt p q:=rfl;have g:cZ z [mt p q]=[(z,mt p q)]:=rfl;have r:T z (mt p q)=0:=l _ _ m (j c).1 k (j c).2;rw[d,g,hZ,i2,xV i];refine⟨?_,λh=>absurd h (by lia)⟩;dsimp only;rw[r];grind
 rw[lV c,Tl c];have d:bU z []=z:=rfl;have g:cZ z []=[]:=rfl;rw[d,g,i2];refine⟨?_,λ_=>k⟩;by_cases e:0<=f q
 ·have s:f q=0:=by
   rcases Vl e with a|a
   ·exact absurd (by rw[S8];exact S1 a (by lia)) c
   exact a.symm
  rw[xV e,l _ _ m n k s]
 rw[xW e]
theorem CS(l:∀u v,V u->V v->f u=0->f v=0->T u v=0)(a:∀p q,V p->V q->f p*f q<0->V (mt p q)/\f (mt p q)=0):∀{ps:ZO}{w z:ab},(∀p∈ps,V p)->V w->V z->(f (ps.headD w)<0->f z=0)->ps≠[]->
  e4 T (cZ z (dn f mt ps w))+nS f T (bU z (dn f mt ps w)) w=nS f T z (ps.headD w)+e4 (jo f mt T) (cZ (ps.headD w) (ps.tail++[w]))/\(f w<0->f (bU z (dn f mt ps w))=0)
 |[],_,_,_,_,_,_,t=>absurd rfl t
 |p::r,w,z,g,m,n,h,_=>by
  have h:f p<0->f z=0:=h;have b:=g p Sw
  have d:V (r.headD w):=by
   cases r with
   |nil=>exact m
   |cons q r=>exact g q (by simp)
  obtain⟨o,i⟩:=DP (f:=f) (mt:=mt) (T:=T) (V:=V) l n d (a p _ b d) h;show e4 T (cZ z (kp f p++cJ f mt p (r.headD w)++dn f mt r w))+nS f T (bU z (kp f p++cJ f mt p (r.headD w)++dn f mt r w)) w=nS f T z p+e4 (jo f mt T) (cZ p (r++[w]))/\(f w<0->f (bU z (kp f p++cJ f mt p (r.headD w)++dn f mt r w))=0)
  rw[p8 z (kp f p++cJ f mt p (r.headD w)),p9 z (kp f p++cJ f mt p (r.headD w)),xU]
  have y:V (bU z (kp f p++cJ f mt p (r.headD w))):=by
   by_cases s:0<=f p
   ·rw[show kp f p=[p] by unfold kp;rw[SZ s]];by_cases c:f p*f (r.headD w)<0
    ·rw[mM c];exact(a _ _ b d c).1
    rw[lV c];exact b
   rw[show kp f p=[] by unfold kp;rw[Tl s]];by_cases c:f p*f (r.headD w)<0
   ·rw[mM c];exact(a _ _ b d c).1
   rw[lV c];exact n
  cases r with
  |nil=>
   have A:cZ (bU z (kp f p++cJ f mt p (([]:ZO).headD w))) (dn f mt [] w)=[]:=rfl;have j:cZ p ([]++[w])=[(p,w)]:=rfl;have e:([]:ZO).headD w=w:=rfl;have k:bU (bU z (kp f p++cJ f mt p (([]:ZO).headD w))) (dn f mt [] w)=bU z (kp f p++cJ f mt p w):=rfl;rw[A,j,k,i2,hZ,i2];rw[e]at o i⊢;refine⟨?_,i⟩;dsimp only;grind
  |cons q r=>
   obtain⟨B,C⟩:=CS l a (ps:=q::r) (w:=w) (z:=bU z (kp f p++cJ f mt p q)) (λx E=>g x (Sx _ E)) m y i (by simp);refine⟨?_,C⟩;have j:cZ p (q::r++[w])=(p,q)::cZ q (r++[w]):=rfl;have e:(q::r).headD w=q:=rfl;have k:(q::r).tail=r:=rfl;rw[j,hZ];rw[e,k]at B;rw[e]at o⊢;dsimp only;grind
theorem CT(T:ab->ab->Rat)(a:ab)(r:ZO):e4 T (cZ a (r++[a]))=e4 T (du (a::r)):=by
 have:du (a::r)=(bU a r,a)::cZ a r:=rfl;rw[this,p8,xU,hZ];have:cZ (bU a r) [a]=[(bU a r,a)]:=rfl;rw[this,hZ,i2];dsimp only;grind
theorem Iz(k:∀u v,V u->V v->f u=0->f v=0->T u v=0)(d:∀p q,V p->V q->f p*f q<0->V (mt p q)/\f (mt p q)=0)(o:ab)(g:V o)(t:f o=0){ps:ZO}(b:∀p∈ps,V p):
  e4 T (du (dD f mt ps))=e4 (jo f mt T) (du ps):=by
 cases ps with
 |nil=>rfl
 |cons a r=>
  have l:=b a Sw;have first:=CS k d (ps:=a::r) (w:=a) (z:=o) b l g (λ_=>t) (by simp)
  have m:(a::r).headD a=a:=rfl;have s:(a::r).tail=r:=rfl;rw[m,s,CT]at first
  by_cases n:dD f mt (a::r)=[]
  ·have x:dn f mt (a::r) a=[]:=n;rw[x]at first
   have i:cZ o []=[]:=rfl;have j:bU o []=o:=rfl;rw[i,j,i2]at first
   rw[n];have y:du []=[]:=rfl;rw[y,i2];have:=first.1
   grind
  have i:bU o (dn f mt (a::r) a)=bU (0,0,1) (dD f mt (a::r)):=sQ n;have A:f a<0->f (bU (0,0,1) (dD f mt (a::r)))=0:=λh=>by rw[<-i];exact first.2 h
  have B:V (bU (0,0,1) (dD f mt (a::r))):=by
   rcases xJ (CP (z:=(0,0,1)) n)with⟨h,_⟩|⟨p,C,q,E,c,e⟩
   ·exact b _ h
   rw[e];exact(d p q (b p C) (b q E) c).1
  have snd:=CS k d (ps:=a::r) (w:=a) (z:=bU (0,0,1) (dD f mt (a::r))) b l B A (by simp);rw[m,s,CT]at snd;have j:bU (bU (0,0,1) (dD f mt (a::r))) (dn f mt (a::r) a)=bU (0,0,1) (dD f mt (a::r)):=sQ n;rw[j]at snd;have:=snd.1;show e4 T (cZ (bU (0,0,1) (dD f mt (a::r))) (dn f mt (a::r) a))=_
  grind
theorem IA{T1 a b:ab->ab->Rat}:∀{es:List (ab×ab)},(∀e∈es,T1 e.1 e.2+a e.1 e.2=b e.1 e.2)->e4 T1 es+e4 a es=e4 b es
 |[],_=>by rw[i2,i2,i2];grind
 |e::es,h=>by
  have d:=h e Sw;have f:=IA (es:=es) λe c=>h e (Sx _ c);rw[hZ,hZ,hZ];grind
theorem DO(e:∀u v,V u->V v->f u=0->f v=0->T u v=0){p q:ab}(g:V p)(h:V q)(d:f p*f q<0->T p (mt p q)+T (mt p q) q=T p q):jo f mt T p q+jo (λc => -f c) mt T p q=T p q:=by
 have i:(-f p)*(-f q)=f p*f q:=UB _ _;unfold jo;dsimp only;rw[i];rcases T4 (f p) 0 with a|a|a
 ·rw[Tl (show ¬0<=f p by lia),SZ (show 0 <= -f p by lia)];rcases T4 (f q) 0 with b|b|b
  ·have c:¬f p*f q<0:=by have:=Uz a b;lia
   rw[Tl c,SZ (show 0 <= -f q by lia)];grind
  ·have c:¬f p*f q<0:=by rw[b,S4];lia
   rw[Tl c,SZ (show 0 <= -f q by lia)];grind
  have c:f p*f q<0:=by rw[S8];exact S1 b a
  rw[SZ c,Tl (show ¬0 <= -f q by lia),SZ c];have:=d c;grind
 ·have c:¬f p*f q<0:=by rw[a,T3];lia
  rw[SZ (show 0<=f p by lia),SZ (show 0 <= -f p by lia),Tl c];rcases T4 (f q) 0 with b|b|b
  ·rw[Tl (show ¬0<=f q by lia),SZ (show 0 <= -f q by lia)];grind
  ·rw[SZ (show 0<=f q by lia),SZ (show 0 <= -f q by lia)];have:=e p q g h a b;grind
  rw[SZ (show 0<=f q by lia),Tl (show ¬0 <= -f q by lia)];grind
 rw[SZ (show 0<=f p by lia),Tl (show ¬0 <= -f p by lia)];rcases T4 (f q) 0 with b|b|b
 ·have c:f p*f q<0:=S1 a b;rw[Tl (show ¬0<=f q by lia),SZ c,SZ c];exact d c
 ·have c:¬f p*f q<0:=by rw[b,S4];lia
  rw[SZ (show 0<=f q by lia),Tl c];grind
 have c:¬f p*f q<0:=by have:=SE a b;lia
 rw[SZ (show 0<=f q by lia),Tl c];grind
theorem CV(d:∀u v,V u->V v->f u=0->f v=0->T u v=0):∀{es:List (ab×ab)},(∀e∈es,V e.1/\V e.2/\f e.1<=0/\f e.2<=0)->e4 (jo f mt T) es=0
 |[],_=>rfl
 |e::es,h=>by
  obtain⟨g,i,j,k⟩:=h e Sw;have l:=CV d (es:=es) λe m=>h e (Sx _ m);rw[hZ,l];have c:¬f e.1*f e.2<0:=by have:=Vm j k;lia
  have:jo f mt T e.1 e.2=0:=by
   unfold jo;rw[Tl c,Tl c];by_cases a:0<=f e.1
   ·rw[SZ a];by_cases b:0<=f e.2
    ·rw[SZ b];exact d _ _ g i (by lia) (by lia)
    rw[Tl b]
   rw[Tl a]
  rw[this];grind
end
def kQ(p:ab):Rat:=(p.1:Rat)/(p.2.2:Rat)
def kR(p:ab):Rat:=(p.2.1:Rat)/(p.2.2:Rat)
theorem eW{x:Int}(h:0<x):(x:Rat)≠0:=λz=>by
 have:=Rat.intCast_eq_zero_iff.mp z;lia
theorem IC{p q m:ab}(h:hH p q m)(f:0<p.2.2)(g:0<q.2.2)(i:0<m.2.2):∃a b:Rat,a+b=1/\kQ m=a*kQ p+b*kQ q/\kR m=a*kR p+b*kR q:=by
 obtain⟨s,a,b,j,v,w,e⟩:=h;have k:s*m.1=a*p.1+b*q.1:=Uf (λx:ab=>x.1) e;have l:s*m.2.1=a*p.2.1+b*q.2.1:=Uf (λx:ab=>x.2.1) e;have n:s*m.2.2=a*p.2.2+b*q.2.2:=Uf (λx:ab=>x.2.2) e;have y:=eW j;have z:=eW i;have A:=eW f;have B:=eW g;have C:(s:Rat)*m.1=a*p.1+b*q.1:=by rw[<-Ud,k,Vn,Ud,Ud]
 have E:(s:Rat)*m.2.1=a*p.2.1+b*q.2.1:=by rw[<-Ud,l,Vn,Ud,Ud]
 have F:(s:Rat)*m.2.2=a*p.2.2+b*q.2.2:=by rw[<-Ud,n,Vn,Ud,Ud]
 unfold kQ kR;generalize(s:Rat)=c at *;generalize(a:Rat)=o at *;generalize(b:Rat)=r at *;generalize(m.1:Rat)=G at *;generalize(m.2.1:Rat)=H at *;generalize(m.2.2:Rat)=d at *;generalize(p.1:Rat)=p1 at *;generalize(p.2.1:Rat)=p2 at *;generalize(p.2.2:Rat)=t at *;generalize(q.1:Rat)=I at *;generalize(q.2.1:Rat)=J at *;generalize(q.2.2:Rat)=u at *;refine⟨o*t/(c*d),r*u/(c*d),?_,?_,?_⟩<;>grind
theorem ID(h:ab->Rat):∀(z:ab)(L:ZO),e4 (λp q=>h p-h q) (cZ z L)=h z-h (bU z L)
 |z,[]=>by rw[show cZ z []=[]from rfl,i2,show bU z []=z from rfl];grind
 |z,p::L=>by
  rw[show cZ z (p::L)=(z,p)::cZ p L from rfl,hZ,ID h p L,show bU z (p::L)=bU p L from rfl];dsimp only;grind
open Classical in
noncomputable def dc(f:ab->Int)(mt:ab->ab->ab)(a:ZO):List ab:=if ∃c∈a,0<f c then dD f mt a else[]
def IE(v:V):aA->aA
 |.val d=>.pin v d
 |.own (.l a)=>.pin v (.lst a)
 |.own (.d _ _ _ _)=>.no
 |.deep _=>.no
 |.new d=>.pin v d
 |s=>s
def lZ(f:Nat->V):Nat->ZN->ZN
 |_,[]=>[]
 |i,s::r=>IE (f i) s::lZ f (i+1) r
theorem u1(f:Nat->V):∀(i n:Nat)(a:ZN),(lZ f i a)[n]?=(a[n]?).map (IE (f (i+n)))
 |_,_,[]=>by simp[lZ]
 |i,0,s::r=>by simp[lZ]
 |i,n+1,s::r=>by
  have:=u1 f (i+1) n r;rw[show i+1+n=i+(n+1) by lia]at this;simpa[lZ]using this
inductive eG(f:Nat->V):Nat->ZN->ZN->ZN->Prop where
 |nil{i:Nat}:eG f i [] [] []
 |pin{i:Nat}{s:aA}{d:D}{r c9 q:ZN}(h:eG f (i+1) r c9 q):eG f i (s::r) (.pin (f i) d::c9) (s::q)
 |no{i:Nat}{s x:aA}{r c9 q:ZN}(h:eG f (i+1) r c9 q):eG f i (s::r) (x::c9) (.no::q)
theorem eG.length{f:Nat->V}:∀{i:Nat}{c d q:ZN},eG f i c d q->q.length=c.length/\q.length=d.length
 |_,_,_,_,.nil=>⟨rfl,rfl⟩
 |_,_,_,_,.pin h=>by obtain⟨a,b⟩:=h.length;rw[SK,SK,SK];lia
 |_,_,_,_,.no h=>by obtain⟨a,b⟩:=h.length;rw[SK,SK,SK];lia
theorem eG.get{f:Nat->V}:∀{i:Nat}{b c q:ZN},eG f i b c q->∀(n:Nat)(k:aA),q[n]?=some k->k=.no\/(b[n]?=some k/\∃d,c[n]?=some (.pin (f (i+n)) d))
 |_,_,_,_,.nil,n,k,h=>by simp at h
 |_,_,_,_,.pin (d:=d) a,0,k,h=>by simp at h;subst h;exact .inr ⟨rfl,d,rfl⟩
 |_,_,_,_,.no a,0,k,h=>by simp at h;exact .inl h.symm
 |i,_,_,_,.pin a,n+1,k,h=>by
  have:=a.get n k (by simpa using h);rw[show i+1+n=i+(n+1) by lia]at this;simpa using this
 |i,_,_,_,.no a,n+1,k,h=>by
  have:=a.get n k (by simpa using h);rw[show i+1+n=i+(n+1) by lia]at this;simpa using this
abbrev u2:=hE->ZN->(Nat->V)->ZN->Prop
section
variable{K:Su}{X:aU}{e:Wp}{F:Z0}{u:bb}{w:cK}{C p:Pos}{x:Z1}{A:u2}
def DN(K:Su)(t:g1)(A:u2):Prop:=
 ∀(U:hE)(b:ZN)(f:Nat->V)(d:ZN),A U b f d->∀(R:al)(W:TD->Prop)(B H:al)(c:St)(E:nh),aL K R W B H c b->sq K R W B U E->(∀(i:Nat)(v:V),c[i]?=some (some v)->f i=v)->
  ∀(g h:al)(j:St),aL K H (gJ W c b) g h j d->(∀a k,g a=some (.lst k)->H a=none)->t E j h
def xX(X:aU)(st:Z1)(A:u2):Prop:=∃t,i9 X st t/\DN X.K t A
theorem IF{a:XF}{s:cA}(i:eT X a s)(j:xX X x A):xX X (a::x) (λU b f c=>s {nx:=A U b f,rt:=λ_=>False} c):=by
 obtain⟨_,k,l⟩:=i;obtain⟨_,m,o⟩:=j;refine⟨_,ni k m,λU b f c h R W B H d E e p q r t u v nl=>?_⟩;refine l _ c h H (gJ W d b) r t u _ v ⟨λw y C F z G g=>?_,λ_ _ _ _ z=>z.elim,λ_ _ _ _ z=>z.elim,λ_ _ _ _ z=>z.elim⟩;exact o U b f w z R W B H d E e p q C F y G λa I h=>(g.n a _ h).elim (nl a I) id
theorem aL.pinned{R:al}{W:TD->Prop}{B H:al}{w:St}{u:ZN}(e:aL K R W B H w u){f:Nat->V}(P:∀(i:Nat)(v:V),w[i]?=some (some v)->f i=v):
  ∃G,aL K H (gJ W w u) G H w (lZ f 0 u)/\∀a vs,G a=some (.lst vs)->H a=none:=by
 have x:=e.iI;have C:gJ W w (u.map lc)=gJ W w u:=by funext a;exact propext CL
 rw[C]at x;generalize uZ R W B H w u=A at x
 have I:∀a,A a=none->dI H A a=none:=λa h=>by
  cases q:dI H A a with
  |none=>rfl
  |some o=>have:=iw a o q;rw[h]at this;cases this
 have Q:Wd H (gJ W w u) (dI H A) H:=⟨λ_ _ h _=>h,iw.trans x.bh,λa h=>I a (x.wb a h),x.wh,x.wr⟩;refine⟨dI H A,⟨Q,?_,λi k h=>?_,λi j a J L=>?_⟩,λa vs h=>(Bq h).2⟩
 ·have:(lZ f 0 u).length=u.length:=by
   have:∀(n:Nat)(l:ZN),(lZ f n l).length=l.length:=λn l=>by
    induction l generalizing n with
    |nil=>rfl
    |cons s r S=>simp[lZ,S]
   exact this 0 u
  rw[this];exact e.len
 ·rw[u1,TZ]at h;cases q:u[i]? with
  |none=>rw[q]at h;cases h
  |some y=>
   rw[q]at h;have h:=SN h;subst h;have E:(u.map fK)[i]?=some (fK y):=by rw[SP,q];rfl
   have z:=x.ok i _ E
   have F:∀d,(∃v,(w[i]?).join=some v/\bG K A v d)->Bm K H (gJ W w u) (dI H A) H (w[i]?).join (.pin (f i) d):=λd ⟨v,g,p⟩=>by
    rw[P i v (gd g)];exact⟨g,p.mono (CN x.bh x.wb)⟩
   cases y with
   |no=>trivial
   |deep c=>trivial
   |val d=>exact F d z
   |own c=>
    cases c with
    |l M=>exact F (.lst M) z
    |d b t X M=>trivial
   |new d=>exact F d z
   |pin v d=>
    obtain⟨Y,g,p⟩:=z;have N:=(e.ok i _ q).1;rw[g]at N;cases N;exact⟨g,p.mono (CN x.bh x.wb)⟩
   |bag=>
    obtain⟨b,g,p,T,U⟩:=z;exact⟨b,g,p,I b T,U⟩
 have back:∀i,cc w (lZ f 0 u) i a->u[i]?=some .bag:=λi m=>by
  rcases m with⟨_,p⟩|⟨c,g,_⟩
  rotate_left
  ·rw[u1,TZ]at g;cases q:u[i]? with
   |none=>rw[q]at g;cases g
   |some y=>
    rw[q]at g;cases y with
    |own c=>cases c<;>cases g
    |_=>cases g
  rw[u1,TZ]at p;cases q:u[i]? with
  |none=>rw[q]at p;rcases p with p|⟨_,p⟩<;>cases p
  |some y=>
   rw[q]at p;cases y with
   |bag=>rfl
   |own c=>cases c<;>rcases p with p|⟨_,p⟩<;>cases p
   |_=>rcases p with p|⟨_,p⟩<;>cases p
 have O:∀(i:Nat)(c:e2),(lZ f 0 u)[i]?≠some (aA.deep c):=λi c g=>by
  rw[u1,TZ]at g;cases q:u[i]? with
  |none=>rw[q]at g;cases g
  |some y=>
   rw[q]at g;cases y with
   |own c=>cases c<;>cases g
   |_=>cases g
 exact e.sep i j a (.inl ⟨(Bn J (O i)).1,.inl (back i J)⟩) (.inl ⟨(Bn L (O j)).1,.inl (back j L)⟩)
theorem DL{st:Z1}(h:xX X st A):hF X st (λU a=>∀f:Nat->V,A U a f (lZ f 0 a)):=by
 obtain⟨_,d,g⟩:=h;refine⟨_,d,λU a h R W B H b E e j=>?_⟩
 have c:∀(i:Nat)(v:V),b[i]?=some (some v)->(λi=>match b[i]? with|some (some v)=>v|_=>V.non) i=v:=λi v h=>by
  dsimp only;rw[h]
 obtain⟨k,l,nl⟩:=e.pinned c;exact g U a _ _ (h _) R W B H b E e j c k H b l nl
theorem eG.same{R:al}{W:TD->Prop}{B H:al}{l m:St}{o p q:ZN}{f:Nat->V}(s:eG f 0 o p q)(e:aL K R W B H l o)(t:∀(i:Nat)(v:V),l[i]?=some (some v)->f i=v)(u:∀(n:Nat)(v:V)(d:D),p[n]?=some (.pin v d)->m[n]?=some (some v)):
  ∀(n:Nat)(k:aA),q[n]?=some k->k=.no\/(o[n]?=some k/\m[n]?=l[n]?):=λn k w=>by
 rcases s.get n k w with z|⟨g,d,r⟩
 ·exact .inl z
 rw[TZ]at r;have y:=u n _ d r;have ok:=e.ok n k g
 have j:(∃v,(l[n]?).join=some v)->m[n]?=l[n]?:=λ⟨v,h⟩=>by
  have h:=gd h;rw[y,h,t n v h]
 cases k with
 |no=>exact .inl rfl
 |val d=>obtain⟨v,h,_⟩:=ok;exact .inr ⟨g,j ⟨v,h⟩⟩
 |new d=>obtain⟨v,h,_⟩:=ok;exact .inr ⟨g,j ⟨v,h⟩⟩
 |pin v d=>exact .inr ⟨g,j ⟨v,ok.1⟩⟩
 |deep c=>exact .inr ⟨g,j ⟨_,ok.1⟩⟩
 |own x=>obtain⟨a,h,_⟩:=ok;exact .inr ⟨g,j ⟨_,h⟩⟩
 |bag=>obtain⟨b,h,_⟩:=ok;exact .inr ⟨g,j ⟨_,h⟩⟩
theorem aL.l7{R:al}{W:TD->Prop}{B H:al}{a:St}{b:ZN}(e:aL K R W B H a b):∀(n:Nat)(v:V)(d:D),b[n]?=some (.pin v d)->a[n]?=some (some v):=λn v d h=>gd (e.ok n _ h).1
end
section
variable{X:aU}{e:Wp}{u:bb}{a:Pos}
def DK(i:Nat)(u:bb):cA:=λU b=>∃m,b[i]?=some (.val (.int m))/\u b λd=>∃n,d=.int n/\U.nx (b.set i (.val (.int (m+n))))
theorem DJ{i:Nat}{x:Str}{b:Pos}(c:X.N.Nodup)(f:X.N[i]?=some x)(g:hh X.env.scope x)(j:bt X e u)(k:iq X x:=by walk_at"f"):
  eT X (.AugAssign (.Name x b) .Add e a) (DK i u):=by
 obtain⟨_,l,o⟩:=j;refine⟨_,NC c f g l NG k,λU p h R W B H q D e s=>?_⟩;obtain⟨m,r,h⟩:=h;obtain⟨v,t,y⟩:=e.val r;refine⟨v,t,?_⟩;refine o p _ h R W B H q _ e λd w A C E F G I=>?_;obtain⟨n,rfl,z⟩:=E;exact⟨m,n,y.et,I.et,s.nx _ _ A C z (F.fB i (.int _)) G⟩
end
theorem DI{x:Int}(a : -63<=x)(b:x<=63):SB x<=6:=by
 have:∀n:Fin 127,SB ((n.val:Int)-63)<=6:=by decide +kernel
 have:=this ⟨(x+63).toNat,by lia⟩;rwa[show(((x+63).toNat:Nat):Int)-63=x by lia]at this
noncomputable def dE(f:ab->Int)(mt:ab->ab->ab)(sh:ZR):List a8:=(sh.map λs=>(dc f mt s.1,s.2)).filter λs => !s.1.isEmpty
theorem u3{f:ab->Int}{mt:ab->ab->ab}(a b:ZR):dE f mt (a++b)=dE f mt a++dE f mt b:=by unfold dE;rw[SF,U6]
theorem xZ{f:ab->Int}{mt:ab->ab->ab}{s:a8}(h:(dc f mt s.1).isEmpty=false):dE f mt [s]=[(dc f mt s.1,s.2)]:=by unfold dE;simp[h]
theorem x0{f:ab->Int}{mt:ab->ab->ab}{s:a8}(h:(dc f mt s.1).isEmpty=true):dE f mt [s]=[]:=by unfold dE;simp[h]
theorem sS{f:ab->Int}{mt:ab->ab->ab}(sh:ZR):(dE f mt sh).length<=sh.length:=by
 unfold dE;refine Sy (Vo _ _) ?_;rw[Sv];exact SD _
theorem DH{f:ab->Int}{mt:ab->ab->ab}{sh:ZR}{s:a8}(h:s∈dE f mt sh):∃t∈sh,s=(dD f mt t.1,t.2)/\∃c∈t.1,0<f c:=by
 unfold dE at h;obtain⟨b,a⟩:=TO.mp h;obtain⟨t,d,rfl⟩:=SI.mp b;refine⟨t,d,?_⟩;unfold dc at a⊢;split at a
 ·rename_i c;rw[SZ c];exact⟨rfl,c⟩
 simp at a
theorem IG:∀(z:ab)(L:ZO)(k:Nat),k<L.length->(cZ z L)[k]?=some (bD (z::L) k,bD L k)
 |_,[],_,h=>absurd h (by simp)
 |z,p::L,0,_=>rfl
 |z,p::L,k+1,h=>by
  have:=IG p L k (by simpa using h);simpa[cZ,HR]using this
theorem CW:∀(z:ab)(L:ZO),(cZ z L).length=L.length
 |_,[]=>rfl
 |z,p::L=>by simp[cZ,CW p L]
theorem x2:∀(z:ab)(L:ZO),L≠[]->bU z L=bD L (L.length-1)
 |_,[],h=>absurd rfl h
 |z,[p],_=>rfl
 |z,p::q::L,_=>by
  have:=x2 p (q::L) (by simp);show bU p (q::L)=_
  rw[this];rfl
theorem x3(a:ZO):du a=(S7 a.length).map λk=>(bD a ((k+a.length-1)%a.length),bD a k):=by
 apply Uk;intro k;by_cases h:k<a.length
 ·have b:a≠[]:=by rintro rfl;simp at h
  rw[SP,Vi h];unfold du;rw[IG _ _ _ h];simp only[UL];congr 2;cases k with
  |zero=>
   rw[Sj,x2 _ _ b,TZ,Te (by lia)]
  |succ k=>
   rw[HR,show k+1+a.length-1=k+a.length by lia,UN,Te (by lia)]
 rw[Td (by unfold du;rw[CW];lia),Td (by simp;lia)]
theorem x4{f:ab->Int}{mt:ab->ab->ab}{a:ZO}(h:∃c∈a,0<f c):dc f mt a=dD f mt a:=by unfold dc;rw[SZ h]
theorem CX{f:ab->Int}{mt:ab->ab->ab}{a:ZO}(h:¬∃c∈a,0<f c):dc f mt a=[]:=by unfold dc;rw[Tl h]
theorem x5{l:ab}{a:ZO}:(∃c∈a,0<(λc => -ln l c) c)↔∃c∈a,ln l c<0:=
 ⟨λ⟨c,h,z⟩=>⟨c,h,by have z:0 < -ln l c:=z;lia⟩,λ⟨c,h,z⟩=>⟨c,h,by show 0 < -ln l c;lia⟩⟩
theorem CY{e:Type}{f h:e->D}{P:e->Bool}{l:dz}{u:bb}{g:ZN}:∀{b:List e}{m:aA}{k:ZP->Prop},(∀r∈b,∀k:Bool->Prop,k (P r)->l (.val (f r)::g) k)->(∀r∈b,∀k:D->Prop,k (h r)->u (.val (f r)::g) k)->k ((b.filter P).map h)->gH (eU 0) l u (b.map f) (m::g) k
 |[],_,_,_,_,d=>d
 |r::b,m,k,i,j,d=>by
  refine i r Sw _ ?_;cases c:P r with
  |true=>
   rw[SZ rfl];refine j r Sw _ ?_;refine CY (P:=P) (λx a=>i x (Sx _ a)) (λx a=>j x (Sx _ a)) ?_;rwa[WY c]at d
  |false=>
   rw[Tl SW];refine CY (P:=P) (λx a=>i x (Sx _ a)) (λx a=>j x (Sx _ a)) ?_;rwa[WZ (by rw[c];decide)]at d
theorem DG{a:ZO}{i:Nat}(h:i<a.length):(du a).take (i+1)=(du a).take i++[(bD a ((i+a.length-1)%a.length),bD a i)]:=by
 rw[List.take_succ,x3,SP,Vi h];rfl
theorem DF(a:ZO):(du a).take a.length=du a:=U0 (by unfold du;rw[CW];exact SD _)
theorem DE(p q:ab):ln (a_ p q) p=0:=by show bn p q p=0;unfold bn a_;grind
theorem IH{f:ab->Int}{mt:ab->ab->ab}{x:ab}:∀{a:ZO}{w:ab},x∈dn f mt a w->(x∈a/\0<=f x)\/∃e∈cZ (a.headD w) (a.tail++[w]),f e.1*f e.2<0/\x=mt e.1 e.2
 |[],_,h=>by cases h
 |p::r,w,h=>by
  have h:x∈kp f p++cJ f mt p (r.headD w)++dn f mt r w:=h;rcases SO.mp h with h|h
  ·rcases SO.mp h with h|h
   ·unfold kp at h;split at h
    ·rename_i z
     rw[SQ.mp h];exact .inl ⟨Sw,z⟩
    cases h
   unfold cJ at h;split at h
   ·rename_i z
    refine .inr ⟨(p,r.headD w),?_,z,SQ.mp h⟩;cases r<;>exact Sw
   cases h
  rcases IH h with⟨b,c⟩|⟨e,b,c⟩
  ·exact .inl ⟨Sx _ b,c⟩
  refine .inr ⟨e,?_,c⟩;cases r with
  |nil=>cases h
  |cons q r=>exact Sx _ b
theorem DD{f:ab->Int}{mt:ab->ab->ab}{x:ab}{b:ZO}(h:x∈dD f mt b):(x∈b/\0<=f x)\/∃e∈du b,f e.1*f e.2<0/\x=mt e.1 e.2:=by
 cases b with
 |nil=>cases h
 |cons a r=>
  rcases IH h with h|⟨e,c,d⟩
  ·exact .inl h
  exact .inr ⟨e,CQ.mp c,d⟩
structure x6(b m:Nat)(ps:ZO):Prop where
 iF:∀x∈ps,cX b x
 jq:∀e∈du ps,∃g:ab,cw m g/\(g.1≠0\/g.2.1≠0\/g.2.2≠0)/\ln g e.1=0/\ln g e.2=0
theorem par{g u v:ab}(j:g.1≠0\/g.2.1≠0\/g.2.2≠0)(k:ln g u=0)(l:ln g v=0)(n:(a_ u v).1≠0\/(a_ u v).2.1≠0\/(a_ u v).2.2≠0):∃a b:Int,a≠0/\b≠0/\sc a (a_ u v)=sc b g:=by
 have t:a_ g (a_ u v)=hs (ln g v) u (-ln g u) v:=uQ g u v;rw[k,l]at t;generalize a_ u v=w at *
 have d:g.2.1*w.2.2-g.2.2*w.2.1=0:=by
  have:=Uf (λx:ab=>x.1) t;unfold a_ hs at this;dsimp only at this;grind
 have f:g.2.2*w.1-g.1*w.2.2=0:=by
  have:=Uf (λx:ab=>x.2.1) t;unfold a_ hs at this;dsimp only at this;grind
 have i:g.1*w.2.1-g.2.1*w.1=0:=by
  have:=Uf (λx:ab=>x.2.2) t;unfold a_ hs at this;dsimp only at this;grind
 have c:∀{x y:Int},x≠0->x*y=0->y=0:=λh e=>(Tv.mp e).resolve_left h;rcases j with h|h|h
 ·refine⟨g.1,w.1,h,λz=>?_,?_⟩
  ·rw[z]at f i;have a:=c h (show g.1*w.2.2=0 by grind);have b:=c h (show g.1*w.2.1=0 by grind);rcases n with n|n|n<;>contradiction
  unfold sc;refine fc ?_ ?_ ?_<;>dsimp only<;>grind
 ·refine⟨g.2.1,w.2.1,h,λz=>?_,?_⟩
  ·rw[z]at d i;have a:=c h (show g.2.1*w.2.2=0 by grind);have b:=c h (show g.2.1*w.1=0 by grind);rcases n with n|n|n<;>contradiction
  unfold sc;refine fc ?_ ?_ ?_<;>dsimp only<;>grind
 refine⟨g.2.2,w.2.2,h,λz=>?_,?_⟩
 ·rw[z]at d f;have a:=c h (show g.2.2*w.2.1=0 by grind);have b:=c h (show g.2.2*w.1=0 by grind);rcases n with n|n|n<;>contradiction
 unfold sc;refine fc ?_ ?_ ?_<;>dsimp only<;>grind
theorem II(c:Int)(p q:ab):a_ p (sc c q)=sc c (a_ p q):=by
 refine fc ?_ ?_ ?_<;>simp only[a_,sc]<;>grind
theorem DC{l w g:ab}{a b:Int}(i:a≠0)(m:b≠0)(e:sc a w=sc b g)(n:(a_ l w).2.2≠0):(a_ l g).2.2≠0/\nP (a_ l w)=nP (a_ l g):=by
 have f:sc a (a_ l w)=sc b (a_ l g):=by rw[<-II,e,II]
 have h:a*(a_ l w).2.2=b*(a_ l g).2.2:=Uf (λx:ab=>x.2.2) f
 have d:(a_ l g).2.2≠0:=λz=>by
  rw[z,S4]at h;rcases Tv.mp h with y|y<;>contradiction
 refine⟨d,?_⟩;obtain⟨c,o,j⟩:=kL d;have k:sc a (a_ l w)=sc (b*c) (nP (a_ l g)):=by rw[f,<-He,<-j]
 exact(sE i (λz=>by rcases Tv.mp z with y|y<;>contradiction) (gI d) k).2
theorem fm.sl{g:ab}{d:ZO}(f:aX g)(e:∀p∈d,aX p)(h:fm d):fm (d.map λp=>nP (ej g p)):=h.map λp q r a b c=>(RN f.1).side (e p a).1 (e q b).1 (e r c).1
section
variable{K:Su}{X:aU}{c p:Pos}{f:Wp}
theorem kF.mW{B:al}(b:Int)(n:Nat):kF K B (r' b n) ((S7 n).map λi:Nat=>D.int (b+i)):=by
 intro H s i;rw[Sv,Uv];refine⟨λa=>a,λa=>a,λx e a ⟨c,d⟩=>⟨c,?_⟩⟩;refine⟨.int (b+i),?_,?_⟩
 ·rw[SP,Vi a];rfl
 rw[d];exact .int _
def DB(u b:bb):cK:=λa k=>u a λd=>b a λe=>∃i j,d=.int i/\e=.int j/\(-(2^62)<=i/\i<2^62 /\ -(2^62)<=j/\j<2^62)/\k ((S7 (j-i).toNat).map λt:Nat=>D.int (i+t))
theorem Dy{a b:Wp}{u l:bb}(r:bt X a u)(s:bt X b l)(t:eu X "range")(w:X.mg "range"=none)(m:UF [a,b] X.env=[(false,Yp a X.env),(false,Yp b X.env)]:=by rfl)(g:UF [b] X.env=[(false,Yp b X.env)]:=by rfl):mq X f (.Call (.Name "range" p) [a,b] [] c) (DB u l):=by
 obtain⟨_,x,y⟩:=r;obtain⟨_,A,C⟩:=s;refine⟨_,NS t w (d2 x (d2 A e1 (by rw[eD,g];rfl)) (by rw[eD,m,g])) m g,λn k h R W B H o Q e q=>?_⟩;refine y n _ h R W B H o _ e λd v E F G I J K=>?_;refine C n _ G R W E F o _ I λU Y L M N O P S=>?_;obtain⟨i,j,rfl,rfl,T,z⟩:=N;exact⟨i,j,by rw[K.et,S.et],T,q _ _ L M z O (J.trans P) (kF.mW _ _)⟩
end
section
variable{P:WP}{w:XB}{A:XC}{E:SL->Tk->Prop}{s:Tk}
inductive jp(h:XG):Z3->ZY->Prop
 |nil:jp h [] []
 |cons{l:ZM}{a:TD}{ks:Z3}{us:ZY}(k:Zt (Zq P w) h l a)(r:jp h ks us):jp h (l::ks) (.ref a::us)
def kj(P:WP)(w:XB)(h:XG)(d:Z3)(a:TD):Prop:=∃b c n,h.get? a=some b/\b.cls=.type "tuple"/\b.data=.seq c n/\jp (P:=P) (w:=w) h d c.toList
theorem jp.kk{h:XG}{a:ZY}:∀{x y:Z3},jp (P:=P) (w:=w) h x a->jp (P:=P) (w:=w) h y a->x=y:=by
 intro x y p;induction p generalizing y with
 |nil=>intro q;cases q;rfl
 |cons k r b=>
  intro q;cases q with
  |cons c d=>rw[k.inj c,b d]
theorem kj.ty{b:Z3}{a:TD}(x:kj P w s.heap b a):s.TypeIs (.ref a) "tuple":=let⟨c,_,_,d,e,_⟩:=x;⟨c,d,e⟩
theorem kj.kk{h:XG}{a:TD}{x y:Z3}(p:kj P w h x a)(q:kj P w h y a):x=y:=by
 obtain⟨i,j,k,d,_,e,f⟩:=p;obtain⟨l,m,n,b,_,c,g⟩:=q;rw[d]at b;cases b;rw[e]at c;cases c;exact f.kk g
theorem jp.keep{h a:XG}{d:TD}{b:Obj}{j:Array YG}{l:Nat}(c:h.get? d=some b)(e:b.data=.dict j l)(f:Heap.SameBut d h a):∀{g:Z3}{i:ZY},jp (P:=P) (w:=w) h g i->jp (P:=P) (w:=w) a g i
 |_,_,.nil=>.nil
 |_,_,.cons k r=>.cons (k.keeps c e f) (jp.keep c e f r)
theorem kj.keep{h e:XG}{f:Z3}{a d:TD}{g:Obj}{l:Array YG}{m:Nat}(x:kj P w h f a)(i:h.get? d=some g)(j:g.data=.dict l m)(k:Heap.SameBut d h e):kj P w e f a:=by
 obtain⟨n,o,p,b,q,c,r⟩:=x;refine⟨n,o,p,?_,q,c,r.keep i j k⟩
 have s:a≠d:=by
  rintro rfl;rw[i]at b;cases b;rw[j]at c;cases c
 exact(k.2 a s).trans b
def x8(a:Z3):Nat:=(a.map λl=>l.length+1).sum+1
theorem Dx{e:Z3}{a:TD}{Q:Int->Tk->Prop}(H:A.units+3<XT)(o:kj P w s.heap e a)(h:Q (pB true e) {s with toks:=s.toks+x8 e}):wpAny (UV P w) A (pyHash (.ref a)) Q E s:=by
 have f:=o.ty;obtain⟨I,J,n,t,_,u,v⟩:=o;unfold pyHash
 first|unfold pyHashByItsType|skip
 first|refine wp (wpAny_cRoomFor_or (.inr (by lia)) ?_)|skip
 refine wp (Ye f F.slot_tuple_hash.lookup ?_);show wpAny (UV P w) A (if(some (Value.builtin "tuple.__hash__")==some Value.none)=true then _ else _) Q E s
 rw[Tl (by rw[beq_builtin_none];exact SW)];refine wp (Ye f F.slot_tuple_hash.lookup ?_);show wpAny (UV P w) A (callSpecialIfBoundUnlessNone? (.ref a) "__hash__" _ >>= _) Q E s
 refine wp (wpAny_callSpecialIfBoundUnlessNone?_slot f F.slot_tuple_hash (XH F.slot_tuple_hash f F.entry_tuple_hash ?_ (F.args_tuple_hash_1 _)));show wpAny (UV P w) _ (Builtin.Tuple.tupleItemsOf (.ref a) >>= _) _ _ s
 refine wp (Yx t u ?_);refine wp ?_;rw[<-V8]
 refine Yo _
  (λd (b:Array Int) i=>∃done left,e=done++left/\jp (P:=P) (w:=w) s.heap left d/\b.toList=done.map (λl=>X9 (Builtin.Tuple.tupleHashOf (l.map Zo)))/\i={s with toks:=s.toks+(done.map λl=>l.length+1).sum})
  _ ?_ ?_ _ _ ⟨[],e,rfl,v,rfl,rfl⟩
 ·rintro x d b i ⟨done,left,rfl,j,k,rfl⟩;cases j with
  | @cons l c p _ y B=>
   have q:∃m r,done++l::p=m++r/\jp (P:=P) (w:=w) s.heap r d/\(b.push (X9 (Builtin.Tuple.tupleHashOf (l.map Zo)))).toList=m.map (λl=>X9 (Builtin.Tuple.tupleHashOf (l.map Zo))) /\
     ({s with toks:=s.toks+(done.map λl=>l.length+1).sum+(l.length+1)}:Tk)={s with toks:=s.toks+(m.map λl=>l.length+1).sum}:=⟨done++[l],p,by simp,B,by simp[k],by simp[V9]⟩
   refine wp (Zj (s:={s with toks:=s.toks+(done.map λl=>l.length+1).sum}) (by show A.units+_<XT;lia) y ?_)
   first
    |exact SC q
    |exact wp (SC (SC q))
 rintro b i ⟨done,left,rfl,j,k,rfl⟩;cases j;rw[SU]at h;show wpAny (UV P w) _ (retInt (Builtin.Tuple.tupleHashOf b.toList)) _ _ _
 rw[k];refine wpAny_ret_mkInt ?_;generalize C:Builtin.Tuple.tupleHashOf (done.map λl=>X9 (Builtin.Tuple.tupleHashOf (l.map Zo)))=z;have G:pB true done=X9 z:=by rw[<-C];rfl
 rw[G]at h;show wpAny (UV P w) _ (if(decide (-(2:Int)^63<=z)&&decide (z<2^63))=true then _ else _) Q E _
 unfold X9 at h;by_cases g:(decide (-(2:Int)^63<=z)&&decide (z<2^63))=true
 ·rw[SZ g];rw[SZ g]at h;exact SC (by simpa[V9,x8]using h)
 rw[Tl g];rw[Tl g]at h;exact wp (Yg (SC (by simpa[V9,x8]using h)))
theorem Dw{x y:Z3}{a b:TD}{R:V'->Tk->Prop}(ag:A.units+2<XT)(K:kj P w s.heap x a)(H:kj P w s.heap y b)(h:R (.done (.ret (.bool (decide (x=y))))) s):
  wpAny (UV P w) A (YC.«tuple.__eq__» ⟨[.ref a,.ref b],[]⟩) R E s:=by
 have L:=H.ty;obtain⟨ak,g,hc,M,_,N,O⟩:=K;obtain⟨ao,i,aq,Q,_,S,T⟩:=H;show wpAny (UV P w) A (isInstance (.ref b) (.type "tuple") >>= _) _ _ s
 refine wp (X8 L Yl ?_);simp only[UP,TL,if_false];refine wp (Yx M N (wp (Yx Q S (wp ?_))))
 refine Yo _
  (λc r j=>r.1=none/\j=s/\∃k l e f,c=List.zip e f/\jp (P:=P) (w:=w) s.heap k e/\jp (P:=P) (w:=w) s.heap l f/\decide (k=l)=decide (x=y)/\(e.length==f.length)=(g.size==i.size))
  _ ?_ ?_ _ _ ⟨rfl,rfl,x,y,g.toList,i.toList,rfl,O,T,rfl,by simp⟩
 ·rintro⟨u,v⟩ c r j ⟨o,rfl,k,l,e,f,d,p,m,n,q⟩;cases p with
  |nil=>simp at d
  | @cons U W I t X z=>
   cases m with
   |nil=>simp at d
   | @cons Y Z J B hi C=>
    rw[Vp,UQ,UC]at d;obtain⟨⟨rfl,rfl⟩,rfl⟩:=d;refine wp (Zk (by lia) X hi ?_);by_cases F:U=Y
    ·subst F;rw[XA rfl];simp only[UP,TL,if_false];refine SC ⟨rfl,rfl,I,J,t,B,rfl,z,C,?_,by simpa using q⟩;rw[<-n];by_cases ae:I=J<;>simp[ae]
    rw[decide_eq_false F];simp only[Bool.not_false,if_true];have af:decide (x=y)=false:=by rw[<-n];simp[F]
    rw[af]at h;exact wp (SC (SC (SC h)))
 rintro⟨au,av⟩ j ⟨o,rfl,k,l,e,f,d,p,m,n,q⟩;simp only at o;subst o;refine SC ?_
 have G:(g.size==i.size)=decide (x=y):=by
  rw[<-n,<-q];cases p with
  |nil=>cases m<;>simp
  |cons _ _=>
   cases m with
   |nil=>simp
   |cons _ _=>simp at d
 show R (.done (.ret (.bool (g.size==i.size)))) j
 rw[G];exact h
theorem D7{x y:Z3}{a b:TD}{Q:Bool->Tk->Prop}(g:A.units+3<XT)(c:kj P w s.heap x a)(d:kj P w s.heap y b)(h:Q (decide (x=y)) s):wpAny (UV P w) A (eqBool (.ref a) (.ref b)) Q E s:=by
 unfold eqBool
 try with_reducible refine Xy ?_
 show wpAny (UV P w) A (if(Value.ref a==Value.ref b)=true then _ else _) Q E s
 by_cases f:(Value.ref a==Value.ref b)=true
 ·rw[SZ f];obtain rfl:a=b:=by have:=eq_of_beq f;injection this
  obtain rfl:=c.kk d;exact wp (Yg (SC (by simpa using h)))
 rw[Tl f]
 exact wp (wpAny_richCompare_same_room (op:=.Eq) c.ty d.ty F.slot_tuple_eq
  (XH F.slot_tuple_eq c.ty F.entry_tuple_eq (Dw (by show A.units+_+2<XT;lia) c d ⟨_,rfl,(λe=>nomatch e),XI h⟩) (F.args_tuple_eq_2 _ _)) (by lia))
theorem D6(n:Nat){l:ZM}{a:TD}{Q:Bool->Tk->Prop}(e:Zt (Zq P w) s.heap l a)(h:Q true s):wpAny (UV P w) A (ZB (n+1) (.ref a)) Q E s:=by
 have f:=e.typeIs;obtain⟨q,i,m,j,_,k,o⟩:=e;unfold ZB;refine wp (Ye f F.slot_tuple_eq.lookup ?_);show wpAny (UV P w) A (isInstance (.ref a) (.type "tuple") >>= _) _ _ s
 refine wp (X8 f Yl ?_);simp only[UP,TL,if_false];refine wp (YD j k (wp ?_));show wpAny (UV P w) A (forIn i _ _) _ _ s
 rw[<-V8];refine Yo _ (λb r c=>r.1=none/\c=s/\∀v∈b,carriedByValue v=true) _ ?_ ?_ _ _ ⟨rfl,rfl,o.byValue⟩
 ·rintro v b r c ⟨d,rfl,g⟩;rw[eqIsQuiet_byValue _ (g v Sw)];refine wp (SC ?_);simp only[UP,TL,if_false];exact SC ⟨rfl,rfl,λu p=>g u (Sx _ p)⟩
 rintro⟨t,x⟩ c ⟨d,rfl,_⟩;simp only at d;subst d;exact SC h
theorem D5{f:Z3}{a:TD}{Q:Bool->Tk->Prop}(g:kj P w s.heap f a)(h:Q true s):wpAny (UV P w) A (ZB 8 (.ref a)) Q E s:=by
 have i:=g.ty;obtain⟨x,k,m,n,_,o,p⟩:=g;unfold ZB;refine wp (Ye i F.slot_tuple_eq.lookup ?_);show wpAny (UV P w) A (isInstance (.ref a) (.type "tuple") >>= _) _ _ s
 refine wp (X8 i Yl ?_);simp only[UP,TL,if_false];refine wp (YD n o (wp ?_));show wpAny (UV P w) A (forIn k _ _) _ _ s
 rw[<-V8];refine Yo _ (λb r d=>r.1=none/\d=s/\∃left,jp (P:=P) (w:=w) s.heap left b) _ ?_ ?_ _ _ ⟨rfl,rfl,f,p⟩
 ·rintro v b r d ⟨e,rfl,left,q⟩;cases q with
  | @cons l c t _ u j=>
   refine wp (D6 6 u ?_);simp only[UP,TL,if_false];exact SC ⟨rfl,rfl,t,j⟩
 rintro⟨j,y⟩ d ⟨e,rfl,_⟩;simp only at e;subst e;exact SC h
end
def lf(P:WP)(w:XB):Bool->HeapKind P w Z3
 |false=>{
  is:=λh k a=>∃l,k=[l]/\Zt (Zq P w) h l a
  hash:=pB false
  draws:=λk=>(k.headD []).length+1
  room:=λA=>A.units+3<XT
  inj:=by rintro h a x y ⟨l,rfl,p⟩ ⟨m,rfl,q⟩;rw[p.inj q]
  keeps:=λ⟨l,e,p⟩ c d f=>⟨l,e,p.keeps c d f⟩
  pyHash:=λb ⟨l,e,p⟩ h=>by subst e;exact Zj (by lia) p h
  eqBool:=λb ⟨l,e,p⟩ ⟨m,g,q⟩ h=>by subst e g;exact Zk (by lia) p q (by simpa using h)
  quiet:=λ⟨l,e,p⟩ h=>wpAny_eqIsQuiet_tuple p h}
 |true=>{
  is:=kj P w
  hash:=pB true
  draws:=x8
  room:=λA=>A.units+3<XT
  inj:=λp q=>p.kk q
  keeps:=λp c d f=>p.keep c d f
  pyHash:=λb p h=>Dx b p h
  eqBool:=λb p q h=>D7 b p q h
  quiet:=λp h=>D5 p h}
theorem D3(P:WP)(w:XB)(b:Bool)(k:Z3):(lf P w b).hash k=pB b k:=by cases b<;>rfl
theorem u6{P:WP}{w:XB}{b:Bool}{A:XC}(h:A.units+4<XT):(lf P w b).room A.in1:=by
 cases b<;>exact(show A.units+1+3<XT by lia)
noncomputable def bu{a:Type}:List Z3->List a->Z3->Option a
 |b::c,d::e,k=>if b=k then some d else bu c e k
 |_,_,_=>none
noncomputable def f4{a:Type}:List Z3->List a->Z3->a->List a
 |c::e,d::b,k,x=>(if c=k then x else d)::f4 e b k x
 |_,b,_,_=>b
noncomputable def eX(a:List Z3)(k:Z3):List Z3:=if k∈a then a else a++[k]
def g9{a:Type}(b:List Z3)(c:List a)(k:Z3)(x:a):List a:=if k∈b then f4 b c k x else c++[x]
def eA:List Z3->ZZ->ZY->List (Z3×TD×SL)
 |k::b,a::c,u::d=>(k,a,u)::eA b c d
 |_,_,_=>[]
section
variable{P:WP}{w:XB}{b:Bool}
theorem x':∀(c:List Z3)(d:ZZ)(e:ZY),k1 b c d e=(eA c d e).map (Zp (lf P w b))
 |k::c,a::d,u::e=>by
  rw[k1,eA,SJ,<-x' c d e];unfold Zp;rw[D3]
 |[],_,_=>by simp[k1,eA]
 |_::_,[],_=>by simp[k1,eA]
 |_::_,_::_,[]=>by simp[k1,eA]
theorem ya:∀{b:List Z3}{as:ZZ}{us:ZY},as.length=b.length->us.length=b.length->(eA b as us).map (·.1)=b
 |[],_,_,_,_=>by simp[eA]
 |k::b,[],_,h,_=>by simp at h
 |k::b,_::_,[],_,h=>by simp at h
 |k::b,a::as,u::us,c,d=>by
  rw[eA,SJ,ya (by simpa using c) (by simpa using d)]
theorem sU:∀{ks:List Z3}{as:ZZ}{us:ZY}(k:Z3),as.length=ks.length->us.length=ks.length->(ZC (eA ks as us) k).map (·.2)=bu ks us k
 |[],_,_,_,_,_=>by simp[eA,ZC,bu]
 |k::ks,[],_,_,h,_=>by simp at h
 |k::ks,_::_,[],_,_,h=>by simp at h
 |b::ks,a::as,u::us,k,c,d=>by
  have f:=sU (ks:=ks) (as:=as) (us:=us) k (by simpa using c) (by simpa using d);by_cases e:b=k
  ·simp[eA,ZC,bu,e]
  rw[bu,Tl e,<-f];simp[eA,ZC,List.find?_cons,e]
theorem qc{b:Type}:∀{ks:List Z3}{ds:List b}{k:Z3},ds.length=ks.length->(bu ks ds k=none↔k∉ks)
 |[],_,_,_=>by simp[bu]
 |a::ks,[],_,h=>by simp at h
 |a::ks,d::ds,k,h=>by
  have c:=qc (ks:=ks) (ds:=ds) (k:=k) (by simpa using h);rw[bu];by_cases e:a=k
  ·simp[e]
  rw[Tl e,c,SH];constructor
  ·intro z w;rcases w with w|w
   ·exact e w.symm
   exact z w
  exact λz w=>z (.inr w)
theorem CZ{c:Type}{x:c}:∀(a:List Z3)(b:List c)(k:Z3),(f4 a b k x).length=b.length
 |[],_,_=>by simp[f4]
 |e::a,[],_=>by simp[f4]
 |e::a,d::b,k=>by rw[f4,SK,CZ a b k,SK]
theorem IK:∀{b:List Z3}{c:ZZ}{d:ZY}(k:Z3)(u:SL),(eA b c d).map (putAt k u)=eA b c (f4 b d k u)
 |[],_,_,_,_=>by simp[eA]
 |k::b,[],_,_,_=>by simp[eA]
 |k::b,_::_,[],_,_=>by simp[eA,f4]
 |f::b,a::c,v::d,k,u=>by
  rw[eA,SJ,IK k u,f4,eA];unfold putAt;by_cases e:f=k
  ·rw[SZ e,SZ e]
  rw[Tl e,Tl e]
theorem IL:∀{b:List Z3}{c:ZZ}{d:ZY}(k:Z3)(a:TD)(u:SL),c.length=b.length->d.length=b.length->eA (b++[k]) (c++[a]) (d++[u])=eA b c d++[(k,a,u)]
 |[],[],[],_,_,_,_,_=>rfl
 |[],_::_,_,_,_,_,h,_=>by simp at h
 |[],[],_::_,_,_,_,_,h=>by simp at h
 |k::b,[],_,_,_,_,h,_=>by simp at h
 |k::b,_::_,[],_,_,_,_,h=>by simp at h
 |g::b,i::c,j::d,k,a,u,e,f=>by
  rw[Tq,Tq,Tq,eA,IL k a u (by simpa using e) (by simpa using f),eA,Tq]
theorem IM{b:List Z3}{as:ZZ}{us:ZY}(k:Z3)(a:TD)(u:SL)(d:as.length=b.length)(c:us.length=b.length):
  storedH (eA b as us) k a u=eA (eX b k) (if k∈b then as else as++[a]) (g9 b us k u):=by
 have g:=sU (as:=as) (us:=us) k d c;unfold storedH eX g9;by_cases m:k∈b
 ·have s:(ZC (eA b as us) k).isSome=true:=by
   have z:((ZC (eA b as us) k).map (·.2)).isSome=true:=by
    rw[g];cases q:bu b us k with
    |none=>exact absurd m ((qc c).mp q)
    |some x=>rfl
   rwa [W2]at z
  rw[SZ s,SZ m,SZ m,SZ m,IK]
 have s:¬(ZC (eA b as us) k).isSome=true:=by
  have z:((ZC (eA b as us) k).map (·.2)).isSome=false:=by
   rw[g,(qc c).mpr m];rfl
  rw[W2]at z;rw[z];simp
 rw[Tl s,Tl m,Tl m,Tl m,IL k a u d c]
def mP(H:al)(b:Bool)(k:Z3)(a:TD):Prop:=match b with
 |false=>∃l:ZM,k=[l]/\H a=some (.tup (l.map V.int))
 |true=>∃d:ZZ,H a=some (.tup (d.map V.ref))/\Paired (λ(l:ZM) c=>H c=some (.tup (l.map V.int))) k d
theorem IN:∀{l:ZM}{a:ZY},bN (l.map V.int) a->ItemsAre (Zq P w) l a
 |[],_,r=>by rw[TA]at r;cases r;exact .nil
 |i::l,_,r=>by
  rw[SJ]at r;cases r with
  |cons h t=>
   obtain⟨b,e⟩:=(show ∃t,_=Value.int i t from h);subst e;exact .cons (by simp[Zq,Value.isInt]) (IN t)
theorem IP{H:al}{h:XG}{l:ZM}{a:TD}(ok:fh P w H h)(e:H a=some (.tup (l.map V.int))):Zt (Zq P w) h l a:=by
 obtain⟨_,b,r,o,c,d,n,f⟩:=(show gx P w H h a (.tup (l.map V.int))from ok a _ e);exact⟨o,b.toArray,n,c,d,f,by simpa using IN r⟩
theorem IQ{H:al}{h:XG}(ok:fh P w H h):∀{d:Z3}{b:ZZ}{e:ZY},Paired (λ(l:ZM) c=>H c=some (.tup (l.map V.int))) d b->bN (b.map V.ref) e->jp (P:=P) (w:=w) h d e
 |[],[],_,.nil,r=>by rw[TA]at r;cases r;exact .nil
 |_::_,a::b,_,.cons p q,r=>by
  rw[SJ]at r;cases r with
  |cons h t=>
   cases(show _=Value.ref a from h);exact .cons (IP ok p) (IQ ok q t)
theorem mP.is{H:al}{h:XG}{k:Z3}{a:TD}(x:mP H b k a)(ok:fh P w H h):(lf P w b).is h k a:=by
 cases b with
 |false=>
  obtain⟨l,rfl,e⟩:=x;exact⟨l,rfl,IP ok e⟩
 |true=>
  obtain⟨d,e,p⟩:=x;obtain⟨_,c,r,o,f,g,n,i⟩:=(show gx P w H h a (.tup (d.map V.ref))from ok a _ e);exact⟨o,c.toArray,n,f,g,i,by simpa using IQ ok p r⟩
structure mQ(H:al)(b:Bool)(a:TD)(a3:Nat)(ks:List Z3)(as:ZZ)(vs:ZQ):Prop where
 h:H a=some (hS b a a3 ks as vs)
 k:Paired (mP H b) ks as
theorem IR{H:al}{h:XG}(ok:fh P w H h):∀{c:List Z3}{d:ZZ}{f:ZY},Paired (mP H b) c d->∀x∈eA c d f,(lf P w b).is h x.1 x.2.1
 |_,_,[],p,x,m=>by cases p<;>simp[eA]at m
 |[],[],_::_,.nil,x,m=>by simp[eA]at m
 |k::c,a::d,u::f,.cons p q,x,m=>by
  rw[eA]at m;rcases SH.mp m with e|m
  ·subst e;exact p.is ok
  exact IR ok q x m
theorem mQ.raw{H:al}{h:XG}{a:TD}{i:Nat}{c:List Z3}{e:ZZ}{f:ZQ}(d:mQ H b a i c e f)(ok:fh P w H h):
  c.length<=TI/\e.length=c.length/\f.length=c.length/\(a==XM)=false/\∃g,bN f g/\h.DictOfH (lf P w b) a (eA c e g)/\c.Nodup:=by
 obtain⟨⟨n,j,p,q,g,l,o,r,s,t,u,v,m⟩,_⟩:=(show gx P w H h a (hS b a i c e f)from ok a _ d.h);have x:=l.length;exact⟨n,j,p,q,g,l,⟨o,r,i,s,t,u,by rw[v,x' (P:=P) (w:=w)],IR ok d.k,by rw[ya j (by lia)];exact m⟩,m⟩
theorem sW:∀{ks:List Z3}{a:ZQ}{b:ZY}(k:Z3),bN a b->pf (bu ks a k) (bu ks b k)
 |[],_,_,_,_=>by simp[bu];trivial
 |_::_,_,_,_,.nil=>by simp[bu];trivial
 |c::ks,_,_,k,.cons r t=>by
  rw[bu,bu];by_cases e:c=k
  ·rw[SZ e,SZ e];exact r
  rw[Tl e,Tl e];exact sW k t
theorem IS{v:V}{u:SL}(r:eb v u):∀{a:List Z3}{b:ZQ}{c:ZY}(k:Z3),bN b c->bN (f4 a b k v) (f4 a c k u)
 |[],_,_,_,t=>by simp only[f4];exact t
 |_::_,_,_,_,.nil=>by simp only[f4];exact .nil
 |d::a,_,_,k,.cons q t=>by
  rw[f4,f4];refine .cons ?_ (IS r k t);by_cases e:d=k
  ·rw[SZ e,SZ e];exact r
  rw[Tl e,Tl e];exact q
theorem D2{v:V}{u:SL}(r:eb v u){a:List Z3}{b:ZQ}{c:ZY}(k:Z3)(t:bN b c):bN (g9 a b k v) (g9 a c k u):=by
 unfold g9;by_cases m:k∈a
 ·rw[SZ m,SZ m];exact IS r k t
 rw[Tl m,Tl m];exact Paired.snoc t r
end
theorem IT{o:Option V}{u:Option SL}{d:V}{a:SL}(r:pf o u)(b:eb d a):eb (o.getD d) (u.getD a):=by
 cases o<;>cases u<;>first|exact b|exact r|exact r.elim
def D1(b:Bool):iS:=λx y H Q=>∃a c f d g e k v,x=.ref a/\y=.ref c/\mQ H b a f d g e/\mP H b k c/\bu d e k=some v/\Q v H
def IU(H:al)(a:TD):Prop:=∃b c d e f,mQ H b a c d e f
def D0(b:Bool):bI:=λ_ H Q=>∀p,H p=none->Q (.ref p) (ed H p (hS b p 0 [] [] []))
def DY(b:Bool)(i ty j:bI):bI:=λd H Q=>i d H λx f=>∃a,x=.ref a/\IU f a/\ty d f λy l=>j d l λz e=>∃c m g n h k,y=.ref c/\mQ e b a m g n h/\mP e b k c/\Q ((bu g h k).getD z) e
def DS(b:Bool)(i ty j:bI):g1:=λD e H=>j e H λv l=>i e l λx m=>ty e m λy f=>∃a c n d g h k,x=.ref a/\y=.ref c/\mQ f b a n d g h/\mP f b k c/\d.length<TI /\
 ∀o,D.nx e (ed f a (hS b a o (eX d k) (if k∈d then g else g++[c]) (g9 d h k v)))
section
variable{X:aU}{b:Bool}{j C E n:Pos}{o e f i value:Wp}{t ty G B:bI}
theorem mQ.typ{H:al}{s:Tk}{g:Z2}{h:St}{a:TD}{i:Nat}{j:List Z3}{k:ZZ}{l:ZQ}(I:c_ X g h H s)(d:mQ H b a i j k l):
  s.TypeIs (.ref a) "dict"/\∀c,Value.ref a=.ref c->∃e,s.heap.get? c=some e/\e.dict=none:=by
 obtain⟨_,_,_,_,o,_,f,_⟩:=d.raw I.eg;refine⟨f.typeIs,λc q=>?_⟩;cases q;obtain⟨e,_,_,m,n,_⟩:=f;exact⟨e,m,n.2.1⟩
theorem IV(m:X.A.units+4<XT):si X (D1 b):=by
 intro O P n s t H x y v u Q I w B h C;obtain⟨a,c,R,E,as,S,k,z,rfl,rfl,d,G,l,q⟩:=h;cases w;cases(show u=Value.ref c from B);obtain⟨T,J,U,W,us,e,f,Y⟩:=d.raw I.eg;have Z:=e.length;have g:=sU (as:=as) (us:=us) k J (by lia);obtain⟨i,K,L⟩:=pf.some_of (v:=z) (o:=bu E us k) (by rw[<-l];exact sW k e);rw[K]at g;obtain⟨p,M,j⟩:=UD.mp g
 exact PyProof.Rows.subscriptTail_builtinR (x:=i) f.typeIs PySem.F.slot_dict_getitem.lookup
  (wpAny_getItem_heap (Q:=λr N=>r=i/\he X n t Q r N) (u6 m) (G.is I.eg) f M ⟨j,by rw[j];exact⟨z,H,I.tok _,L,q⟩⟩) C
theorem DR(v:X.A.units+4<XT)(B:bP X o t)(C:bP X e ty)(J:bP X f G)(K:iO X o "get":=by rfl)(L:lB X n [e,f]:=by rfl)(M:iP E n:=by rfl)(N:Yc n (UF [e,f] X.env)=[(false,Yp e X.env),(false,Yp f X.env)]:=by rfl):
  bP X (.Call (.Attribute o "get" E) [e,f] [] n) (DY b t ty G):=by
 intro g s i H Q I h;refine wpAny_Call_method K L M Wa Vq W3 (cp (B g s i H _ I h) λu O ⟨x,P,p,R,a,S,j,T⟩=>?_);obtain⟨aH,aJ,U,W,aK,d⟩:=j;subst S;obtain rfl:u=Value.ref a:=R;obtain⟨Y,Z⟩:=d.typ p;refine⟨Y,Z,?_⟩;rw[N]
 refine Calls.callWith_builtin rfl (Calls.evalArgs_plain (Calls.spliced_cons (cp (C g O i P _ p T) λhi ae ⟨y,af,ag,ai,aj⟩=>
  Calls.spliced_cons (cp (J g ae i af _ ag aj) λl aN ⟨z,hc,m,ao,c,aO,ar,au,aP,k,av,aw,ay,az⟩=>Calls.spliced_nil ?_))))
 subst av;obtain rfl:hi=Value.ref c:=ai;obtain⟨aR,aB,aT,aD,aG,q,r,aV⟩:=aw.raw m.eg;have aW:=q.length;refine Zv Vq r.typeIs W4 (PySem.F.args_dict_get_3 _ _ _) (meetsH_dict_get_default (lf X.prog X.w b) a c aD l) ⟨u6 v,k,eA ar au aG,ay.is m.eg,r,?_⟩;rw[sU k aB (by lia)];exact⟨_,hc,m.tok _,IT (sW k q) ao,az⟩
theorem IX{a:List Z3}{k:Z3}(h:a.Nodup):(eX a k).Nodup:=by
 unfold eX;by_cases m:k∈a
 ·rw[SZ m];exact h
 rw[Tl m];refine Wb.mpr ⟨h,by simp,λx b y c=>?_⟩;rw[SQ.mp c];rintro rfl;exact m b
theorem Bu(N:X.A.units+4<XT)(O:bP X o t)(Q:bP X i ty)(R:bP X value B)(S:XE value (some (.Subscript o i C)) j.line X.env=pure false:=by rfl):
  jz X (.Assign [.Subscript o i C] value j) (DS b t ty B):=by
 intro g s f H D I h;refine wpAny_Assign_Subscript (cp (R g s f H _ I h) λr T ⟨v,U,W,Y,Z⟩=>cp (O g T f U _ W Z) λu ae ⟨x,ag,aj,hc,ar⟩=>cp (Q g ae f ag _ aj ar) λau E ⟨y,aw,m,ay,a,c,b9,d,as,F,k,az,aF,G,aG,b',aJ⟩=>?_) S;subst az aF;obtain rfl:u=Value.ref a:=hc;obtain rfl:au=Value.ref c:=ay;obtain⟨aK,l,J,aN,us,K,aP,aR⟩:=G.raw m.eg;have x1:=K.length
 have le:(eA d as us).length=d.length:=by
  have:=Uf S3 (ya (as:=as) (us:=us) l (by lia))
  rwa [Sv]at this
 refine wpAny_setItem_heap (u6 N) (aG.is m.eg) aP (λaT L aV=>?_) (by lia);rw[IM k c r l (by lia)]at L
 have lk:(eX d k).length<=TI:=by
  unfold eX;split
  ·exact aK
  rw[Sz,Ti];lia
 have aY:(if k∈d then as else as++[c]).length=(eX d k).length:=by
  unfold eX;split
  ·exact l
  rw[Sz,Sz,l];rfl
 have a6:(g9 d F k v).length=(eX d k).length:=by
  unfold eX g9;split
  ·rw[CZ];exact J
  rw[Sz,Sz,J];rfl
 obtain⟨n,a7,M,p,a',bg,bj,bq,br⟩:=L
 have bz:c_ X g f (ed aw a (hS b a M (eX d k) (if k∈d then as else as++[c]) (g9 d F k v))) {E with heap:=aT,toks:=E.toks+(lf X.prog X.w b).draws k}:=by
  refine m.write (x:=a) (e:=a) (by rw[G.h];trivial) (.inl rfl) (λbA q bC z=>(aV.2 bA bC).trans z) ⟨n,p⟩ ?_;refine⟨⟨lk,aY,a6,aN,_,D2 Y k K,n,a7,p,a',bg,?_,IX aR⟩,⟨n,p⟩,?_⟩
  ·rw[bj,x' (P:=X.prog) (w:=X.w)]
  rintro cg ck ⟨bF,bJ,bK,bM,bQ,bR,bW,bX,bY,bZ⟩ b8;exact⟨bF,bJ,bK,bM,bQ,bR,bW,bX,b8 _ bY,bZ⟩
 exact⟨f,_,bz,aJ M⟩
theorem IZ:bP X (.Dict [] [] j) (D0 b):=λt s u H Q I h=>by
 have c:XM<s.heap.objs.size:=Nat.lt_trans (by decide) ((I.mod.glob.keeps I.bk).lt:TW<s.heap.objs.size);refine wpAny_Dict_empty ⟨.ref s.heap.objs.size,_,I.laid (a:=s.heap.objs.size) (o:=hS b s.heap.objs.size 0 [] [] []) (t':=s.toks) (λ_ _ q=>Heap.get?_push_of_some _ q) (SD _) ?_,rfl,h _ (I.eg.fresh (SD _))⟩;refine⟨⟨S9 _,rfl,rfl,beq_eq_false_iff_ne.mpr (Tc (S6 c)),[],.nil,_,#[],Heap.get?_push_size _ rfl,⟨rfl,rfl,rfl⟩,rfl,rfl,List.nodup_nil⟩,⟨_,Heap.get?_push_size _ rfl⟩,?_⟩;rintro v w ⟨d,e,f,g,i,k,l,m,n,p⟩ r;exact⟨d,e,f,g,i,k,l,m,r _ n,p⟩
end
def oV(h:XG)(d:TD)(a:Array YG)(b:Nat):Prop:=∃o,h.get? d=some o/\o.ExactDict/\o.data=.dict a b
section
variable{g:WP}{w:XB}{A:XC}{E:SL->Tk->Prop}{s:Tk}{d f:TD}{i h:Nat}{c:Array YG}
theorem Bh{Q:SL->Tk->Prop}(e:(d==XM)=false)(f:oV s.heap d c h)(i:Q (.ref s.heap.objs.size) {s with heap:=s.heap.push {cls:=.type "dict_keyiterator",data:=.fields #[.ref d,.int 0 0,.int c.size 0,.int h 0]} }):wpAny (UV g w) A (ZF (.ref d)) Q E s:=by
 obtain⟨o,a,k,b⟩:=f;have ty:s.TypeIs (.ref d) "dict":=⟨o,a,k.1⟩;have no:¬(d==XM)=true:=λz=>by rw[e]at z;cases z
 refine YH ty F.slot_dict_iter (XH F.slot_dict_iter ty F.entry_dict_iter ?_ (F.args_dict_iter_1 _));unfold YC.«dict.__iter__» Builtin.Dict.dictSlotNone;refine wp (wp (Ym ty (show wpAny _ _ (pure (Value.ref d)) _ _ s from SC ?_)));show wpAny _ _ (Builtin.Dict.showsAll d >>= _) _ _ s
 unfold Builtin.Dict.showsAll;rw[Tl no];refine wp (SC (wp (X4 a b (wp (Yu a b (wp (W1 (SC ?_))))))));exact⟨_,rfl,"dict_keyiterator",_,⟨_,Heap.get?_push_size _ rfl,rfl⟩,F.slot_dict_keyiterator_next.lookup,by simpa[Y9]using i⟩
theorem I0{Q:Option SL->Tk->Prop}(y:A.handled=none)(l:s.heap.IsKeyIter f d i c.size h)(z:oV s.heap d c h)(n:∀e j,c[i]?=some e->j.IsKeyIter f d (i+1) c.size h->Heap.SameBut f s.heap j->Q (some e.key) {s with heap:=j })(done:∀j,c[i]?=none->Heap.ExtBut f s.heap j->Q none {s with heap:=j }):wpAny (UV g w) A (YW (.ref f)) Q E s:=by
 have ty:=l.typeIs;obtain⟨B,p,r,k⟩:=l;obtain⟨o,u,G,v⟩:=z;have own:Builtin.Dict_items.ownsTuple "dict_keyiterator"=false:=by decide
 have C:¬((i:Int)<0):=by lia
 have none_:¬(Value.ref d==Value.none)=true:=SW;unfold YW;refine wp (Zl (Yd (name:="__next__") ty F.slot_dict_keyiterator_next (XH F.slot_dict_keyiterator_next ty F.entry_dict_keyiterator_next ?_ (F.args_dict_keyiterator_next_1 _))));refine wp (SC (wp (wp ?_)))
 first|refine wp (XV ty (SC (wp (YE p k ?_))))|refine wp (X' ty (SC (wp (YE p k ?_))))
 rw[own];show wpAny _ _ (if(Value.ref d==Value.none)=true then _ else _) _ _ s
 rw[Tl none_];refine wp (SC (wp (X4 u v ?_)));rw[Tl (by simp)];refine wp (SC (wp (Yu u v ?_)));rw[Tl (by simp)];refine SC ?_;simp only[C,if_false,Wc];cases q:c[i]? with
 |some e=>
  let t:=s.heap.update f (Obj.mapFields (·.setIfInBounds 1 (Y9 ((i:Int)+1))))
  have x:t.IsKeyIter f d (i+1) c.size h:=by
   refine⟨_,Heap.get?_update_self _ p ?_,(Obj.cls_mapFields ..).trans r,?_⟩
   ·exact Obj.isFreed_of_fields (Obj.data_mapFields k _)
   rw[Obj.data_mapFields k];simp[Y9]
  refine wp ?_
  first|refine wp (XV ty (SC (wp (Yn ty ?_))))|refine wp (X' ty (SC (wp (Yn ty ?_))))
  show wpAny _ _ (ZK (.ref f) 1 (Y9 ((i:Int)+1)) >>= _) _ _ s
  refine wp (Za p k (by simp) (wp (Xy (wp (Yn (s:={s with heap:=t}) x.typeIs ?_)))));exact SC (SC ⟨_,rfl,SC (n e t q x (Heap.SameBut.update ..))⟩)
 |none=>
  refine wp ?_
  first|refine wp (XV ty (SC ?_))|refine wp (X' ty (SC ?_))
  show wpAny _ _ (ZK (.ref f) 0 .none >>= _) _ _ s
  refine wp (Za p k (by simp) ?_);show wpAny _ _ (newExc (.type "StopIteration") [] >>= _) _ _ _
  unfold newExc newTuple;refine wp (wp (W1 (wp (m:=YF _ _) (Zf (a:=Value.none) (by first|rfl|(unfold YF;rfl)) (W1 ?_ (by size_fits)))) (by size_fits)));unfold raiseNew;refine wp (wpAny_handled ?_);rw[show A.in1.handled=none from y];refine wp (SC (wpAny_throw ?_));refine wp (X8 (T:="StopIteration") (b:=true) (by exact⟨_,Heap.get?_push_size _ rfl,rfl⟩) isSubtype_stop ?_);exact SC (done _ q (((Heap.SameBut.update ..).extBut.push _).push _))
theorem Bg{k v:SL}{hsh:Int}{Q:Option SL->Tk->Prop}(n:A.handled=none)(l:s.heap.IsKeyIter f d i c.size h)(o:oV s.heap d c h)(m:c[i]?=some ⟨hsh,k,v⟩)(p:∀j,j.IsKeyIter f d (i+1) c.size h->Heap.SameBut f s.heap j->Q (some k) {s with heap:=j }):wpAny (UV g w) A (YW (.ref f)) Q E s:=
 I0 n l o (λe j q a b=>by rw[m]at q;cases q;exact p j a b) λj q _=>by rw[m]at q;cases q
theorem Bf{Q:Option SL->Tk->Prop}(j:A.handled=none)(b:s.heap.IsKeyIter f d i c.size h)(k:oV s.heap d c h)(l:c.size<=i)(m:∀a,Heap.ExtBut f s.heap a->Q none {s with heap:=a }):wpAny (UV g w) A (YW (.ref f)) Q E s:=
 I0 j b k (λe a q _ _=>by rw[VD l]at q;cases q) λa _ n=>m a n
end
def I1(b:Bool)(a:TD)(f:Nat)(d:List Z3)(e:ZZ)(g:ZQ):hx where
 go:=λi H=>H a=some (hS b a f d e g)/\i<d.length
 kN:=λi H x h=>h=H/\∃c,e[i]?=some c/\x=.ref c
 stop:=λi H=>H a=some (hS b a f d e g)/\d.length<=i
theorem I2{b:Bool}:∀{c:List Z3}{d:ZZ}{e:ZY},d.length=c.length->e.length=c.length->(k1 b c d e).length=c.length
 |[],_,_,_,_=>by simp[k1]
 |k::c,[],_,h,_=>by simp at h
 |k::c,_::_,[],_,h=>by simp at h
 |k::c,a::d,u::e,f,g=>by rw[k1,SK,SK,I2 (by simpa using f) (by simpa using g)]
theorem C2{b:Bool}:∀{ks:List Z3}{as:ZZ}{us:ZY}{i:Nat},as.length=ks.length->us.length=ks.length->i<ks.length->∃k c u,as[i]?=some c/\us[i]?=some u/\(k1 b ks as us)[i]?=some ⟨pB b k,.ref c,u⟩
 |[],_,_,i,_,_,h=>by simp at h
 |k::ks,[],_,_,h,_,_=>by simp at h
 |k::ks,_::_,[],_,_,h,_=>by simp at h
 |k::ks,a::as,u::us,0,_,_,_=>⟨k,a,u,rfl,rfl,rfl⟩
 |k::ks,a::as,u::us,i+1,d,e,f=>by
  obtain⟨g,c,j,l,m,n⟩:=C2 (b:=b) (ks:=ks) (as:=as) (us:=us) (i:=i) (by simpa using d) (by simpa using e) (by simpa using f);exact⟨g,c,j,by simpa using l,by simpa using m,by simpa[k1]using n⟩
section
variable{P:WP}{w:XB}{K:Su}{m:Wp}{b:Bool}{a:TD}{g:Nat}{f:List Z3}{j:ZZ}{l:ZQ}
theorem sZ{H:al}{h:XG}(ok:fh P w H h)(e:H a=some (hS b a g f j l)):∃c d,oV h a d g/\d.toList=k1 b f j c/\j.length=f.length/\c.length=f.length/\d.size=f.length/\bN l c/\(a==XM)=false:=by
 obtain⟨⟨s,i,t,n,c,k,o,d,p,q,r,m,u⟩,_⟩:=(show gx P w H h a (hS b a g f j l)from ok a _ e);have v:=k.length;exact⟨c,d,⟨o,p,q,r⟩,m,i,by lia,by rw[<-UX,m,I2 i (by lia)],k,n⟩
theorem Be(n:TD):pl P w K m (I1 b a g f j l) [n] n (λi h=>h.IsKeyIter n a i f.length g) where
 mem:=by simp
 obj:=λi h st c p=>by
  have e:c=n:=by simpa using p
  subst e;obtain⟨o,e,_,d⟩:=st;exact⟨o,e,λv z=>by rw[d]at z;cases z⟩
 keep:=λi h r st k=>st.at λo e=>k n (by simp) o e
 item:=by
  intro X y A B p i S s T H E I t st C;subst y A B;obtain⟨F,U⟩:=C;obtain⟨h1,aa,G,W,Y,Z,x,_⟩:=sZ I.eg F;obtain⟨k,c,u,ae,av,ag⟩:=C2 (b:=b) Y Z U;obtain⟨J,L,ai,M,N,O⟩:=t n (by simp);refine Bg (I.ok.hd p) (by rw[x];exact st) G (hsh:=pB b k) (k:=.ref c) (v:=u) (by rw[<-UH,W];exact ag) λr Q aj=>?_;rw[x]at Q;have ao:c_ X S T H {s with heap:=r }:=I.turned (t':=s.toks) (λR o q e=>(aj.2 R q).trans e) J L M N O;obtain⟨o,e,aq,d⟩:=id Q;exact⟨.ref c,rfl,wk (s:={s with heap:=r }) e aq d (by decide) ⟨.ref c,H,ao,rfl,⟨rfl,c,ae,rfl⟩,Q,λar q=>(t ar q).1⟩⟩
 done:=by
  intro X y A B p i S s T H E I t st C;subst y A B;obtain⟨F,U⟩:=C;obtain⟨h1,aa,G,W,Y,Z,x,_⟩:=sZ I.eg F;obtain⟨J,L,ai,M,N,O⟩:=t n (by simp);exact Bf (I.ok.hd p) (by rw[x];exact st) G (by lia) λr au=>⟨rfl,I.turned (t':=s.toks) (λR o q e=>au R o q e) J L M N O⟩
 self:=λ_ _ _ _ _ st h=>wpAny_pyIter_keyiter st h
end
def Bb(h:bI):gQ:=λi H R=>h i H λx c=>∃b a d e f g,x=.ref a/\c a=some (hS b a d e f g)/\R (I1 b a d e f g) c
section
variable{X:aU}{d:Wp}
theorem Ba{l:Wp}{i:bI}(j:bP X l i):iR X d l (Bb i):=by
 intro k s m H R I h;refine cp (j k s m H _ I h) λv f ⟨x,n,g,p,r⟩=>?_;obtain⟨b,a,A,B,C,E,e,t,q⟩:=r;subst e;cases p;obtain⟨F,G,u,J,K,L,w,_,y⟩:=sZ g.eg t;refine Bh y u ?_;refine⟨f.heap.objs.size,[f.heap.objs.size],_,_,n,rfl,g.kept (t':=f.toks) λb o e=>Heap.get?_push_of_some _ e,Be _,⟨_,Heap.get?_push_size _ rfl,rfl,by rw[w];rfl⟩,λc z=>?_,q⟩;have e:c=f.heap.objs.size:=by simpa using z
 subst e;exact g.ht (SD _) (g.eg.fresh (SD _))
end
section
variable{K:Su}{B H:al}
theorem C4:∀{a:ZQ}{l:ZM},b_ K B a (l.map D.int)->a=l.map V.int
 |_,[],r=>by cases r;rfl
 |_,i::l,r=>by
  rw[SJ]at r;cases r with
  |cons h t=>rw[h.et,C4 t];rfl
theorem I3(s:ci B H):∀{b:ZQ}{k:Z3},b_ K B b (k.map λe=>.tup (e.map D.int))->∃a:ZZ,b=a.map V.ref/\Paired (λ(l:ZM) c=>H c=some (.tup (l.map V.int))) k a
 |_,[],r=>by cases r;exact⟨[],rfl,.nil⟩
 |_,l::k,r=>by
  rw[SJ]at r;cases r with
  |cons h t=>
   obtain⟨c,g,rfl,d,f⟩:=h.eV;rw[C4 f]at d;obtain⟨a,rfl,p⟩:=I3 s t;exact⟨c::a,rfl,.cons (s _ _ d) p⟩
theorem s1{b:Bool}{k:Z3}{v:V}(r:bG K B v (gB b k)):∃c,v=.ref c:=by
 unfold gB at r;split at r
 ·obtain⟨c,_,rfl,_⟩:=r.eV;exact⟨c,rfl⟩
 obtain⟨c,_,rfl,_⟩:=r.eV;exact⟨c,rfl⟩
theorem rv{b:Bool}{k:Z3}{c:TD}(s:ci B H)(f:b=false->∃l,k=[l])(r:bG K B (.ref c) (gB b k)):mP H b k c:=by
 cases b with
 |false=>
  obtain⟨l,rfl⟩:=f rfl;obtain⟨g,h,e,a,d⟩:=(show bG K B (.ref c) (.tup (l.map D.int))from r).eV;cases e;rw[C4 d]at a;exact⟨l,rfl,s _ _ a⟩
 |true=>
  obtain⟨g,h,e,a,d⟩:=(show bG K B (.ref c) (.tup (k.map λi=>.tup (i.map D.int)))from r).eV;cases e;obtain⟨j,rfl,p⟩:=I3 s d;exact⟨j,s _ _ a,p⟩
theorem mR{b:Bool}(s:ci B H):∀{c:List Z3}{d:ZZ},(b=false->∀k∈c,∃l,k=[l])->b_ K B (d.map V.ref) (c.map (gB b))->Paired (mP H b) c d
 |[],[],_,_=>.nil
 |[],_::_,_,r=>by cases r
 |_::_,[],_,r=>by cases r
 |k::c,a::d,e,r=>by
  rw[SJ,SJ]at r;cases r with
  |cons h t=>exact .cons (rv s (λz=>e z k Sw) h) (mR s (λz f m=>e z f (Sx _ m)) t)
theorem I4{b:Bool}{z:V}{d:D}(a:bG K B z d)(k:Z3):∀{c:List Z3}{f:ZQ}{g:ZP},b_ K B f g->bG K B ((bu c f k).getD z) ((bu c g k).getD d)
 |[],_,_,_=>by simp only[bu,Va];exact a
 |_::_,_,_,.nil=>by simp only[bu,Va];exact a
 |i::c,_,_,.cons h t=>by
  rw[bu,bu];by_cases e:i=k
  ·rw[SZ e,SZ e];exact h
  rw[Tl e,Tl e];exact I4 (b:=b) a k t
theorem I5{d:D}(k:Z3):∀{a:List Z3}{b:ZQ}{c:ZP},b_ K B b c->bu a c k=some d->∃v,bu a b k=some v/\bG K B v d
 |[],_,_,_,e=>by simp[bu]at e
 |_::_,_,_,.nil,e=>by simp[bu]at e
 |f::a,_,_,.cons h t,e=>by
  rw[bu]at e⊢;by_cases z:f=k
  ·rw[SZ z]at e⊢;cases e;exact⟨_,rfl,h⟩
  rw[Tl z]at e⊢;exact I5 k t e
theorem I6{v:V}{d:D}(r:bG K B v d)(k:Z3):∀{a:List Z3}{b:ZQ}{c:ZP},b_ K B b c->b_ K B (f4 a b k v) (f4 a c k d)
 |[],_,_,t=>by simp only[f4];exact t
 |_::_,_,_,.nil=>by simp only[f4];exact .nil
 |f::a,_,_,.cons h t=>by
  rw[f4,f4];refine .cons ?_ (I6 r k t);by_cases e:f=k
  ·rw[SZ e,SZ e];exact r
  rw[Tl e,Tl e];exact h
theorem A_{v:V}{d:D}(r:bG K B v d)(k:Z3){a:List Z3}{b:ZQ}{c:ZP}(t:b_ K B b c):b_ K B (g9 a b k v) (g9 a c k d):=by
 unfold g9;by_cases m:k∈a
 ·rw[SZ m,SZ m];exact I6 r k t
 rw[Tl m,Tl m];exact t.append (.cons r .nil)
theorem A'{b:Bool}{c:TD}{k:Z3}{a:List Z3}{d:ZZ}(r:bG K B (.ref c) (gB b k))(t:b_ K B (d.map V.ref) (a.map (gB b))):
  b_ K B ((if k∈a then d else d++[c]).map V.ref) ((eX a k).map (gB b)):=by
 unfold eX;by_cases m:k∈a
 ·rw[SZ m,SZ m];exact t
 rw[Tl m,Tl m,SF,SF];exact t.append (.cons r .nil)
end
def rx(b:Bool)(k:Z3):Prop:=b=false->∃l,k=[l]
theorem A9{b:Bool}{k:Z3}{c:List Z3}(h:b=false->∀k∈c,∃l,k=[l])(d:rx b k):b=false->∀a∈eX c k,∃l,a=[l]:=λz a m=>by
 unfold eX at m;split at m
 ·exact h z a m
 rcases SO.mp m with m|m
 ·exact h z a m
 rw[SQ.mp m];exact d z
def A8(b:Bool)(i:Nat):cA:=λU a=>U.nx (a.set i (.own (.d b none [] [])))
def AZ(b:Bool)(n:Nat)(g h:bb):bb:=λa k=>∃t e f,a[n]?=some (.own (.d b t e f))/\g a λy=>h a λz=>∃c,y=gB b c/\rx b c/\k ((bu e f c).getD z)
def AO(b:Bool)(n:Nat)(g h:bb):cA:=λU a=>h a λd=>∃t c f,a[n]?=some (.own (.d b t c f))/\g a λy=>∃e,y=gB b e/\rx b e/\c.length<TI/\U.nx (a.set n (.own (.d b t (eX c e) (g9 c f e d))))
def AK(b:Bool)(g h:bb):bb:=λc k=>g c λx=>h c λy=>∃e f a d,x=.dct b e f/\y=gB b a/\rx b a/\bu e f a=some d/\k d
def AG(u:bb):cK:=λc k=>u c λx=>∃b a d,x=.dct b a d/\k (a.map (gB b))
def AF(i:Nat)(s:cA):cA:=λU a=>∃b t c e,a[i]?=some (.own (.d b t c e))/\s U (a.set i (.val (.dct b c e)))
section
variable{X:aU}{b:Bool}{n:Nat}{x:Str}{F r w I E G:Pos}{o e f i value:Wp}{C u K J:bb}{L:Wp}
theorem z_{i:Nat}(c:X.N.Nodup)(d:X.N[i]?=some x)(f:hh X.env.scope x)(g:XE (.Dict [] [] G) (some (.Name x w)) r.line X.env=pure false:=by rfl)(k:iq X x:=by walk_at"f"):
  eT X (.Assign [.Name x w] (.Dict [] [] G) r) (A8 b i):=by
 refine⟨_,qH c d f (IZ (b:=b)) g k,λU o h R W B H q D e s=>?_⟩;intro p a;obtain⟨l,t,n⟩:=e.toWd.fresh a;exact s.nx _ _ B _ h ((e.ey a _).setC i l n ⟨0,[],[],(λ_ z=>nomatch z),dx,.nil,λ_ _ z=>by simp at z,.nil⟩ λj _ m=>e.eK a m rfl) (bx.refl _ _)
theorem I7(n:Nat)(C:X.A.units+4<XT)(G:bt X e u)(J:bt X f K)(L:gZ X n x:=by rfl)(M:gy X.env.scope x:=by walk_at"v")(N:ea x:=by decide)(O:gY x:=by decide)(P:iO X (.Name x F) "get":=by rfl)(S:lB X E [e,f]:=by rfl)(T:iP I E:=by rfl)(U:Yc E (UF [e,f] X.env)=[(false,Yp e X.env),(false,Yp f X.env)]:=by rfl):
  bt X (.Call (.Attribute (.Name x F) "get" I) [e,f] [] E) (AZ b n u K):=by
 obtain⟨_,Y,Z⟩:=G;obtain⟨_,hi,ae⟩:=J;refine⟨_,DR (b:=b) C (hg L M N O) Y hi P S T U,λh k z R W B H i Q g q=>?_⟩;obtain⟨t,j,bC,l,z⟩:=z;obtain⟨a,m,bF,bJ,af,aj,ak,_,hc,ao,au,bK⟩:=g.fa l;refine⟨_,m,a,rfl,⟨b,af,j,aj,ak,hc,mR g.bh au ao⟩,?_⟩;refine Z h _ z R W B H i _ g λy v av aw az aG aI o=>?_;refine ae h _ az R W av aw i _ aG λbQ bR aJ aM aP d p aT=>?_;obtain⟨r,rfl,aZ,aY⟩:=aP;obtain⟨c,rfl⟩:=s1 o;obtain⟨bS,w,bV,bW,a0,a6,a7,_,bc,bj,bq,bA⟩:=d.fa l;rw[m]at w;cases w;exact⟨c,a0,j,a6,a7,r,rfl,⟨bc,mR d.bh bq bj⟩,rv d.bh aZ (o.mono p.s),q _ _ aJ aM aY d (aI.trans p) (I4 (b:=b) aT r bA)⟩
theorem zt(b:Bool)(m:X.A.units+4<XT)(n:bt X o C)(p:bt X e u)(t:sg e):bt X (.Subscript o e r) (AK b C u):=by
 obtain⟨_,w,E⟩:=n;obtain⟨_,F,G⟩:=p;refine⟨_,lG (IV (b:=b) m) w F t,λg k z R W B H h Q I q=>?_⟩;refine E g _ z R W B H h _ I λx v J K L M N O=>?_;refine G g _ L R W J K h _ M λy az P S T f i j=>?_;obtain⟨U,aG,l,d,rfl,rfl,Y,Z,hi⟩:=T;obtain⟨c,rfl⟩:=s1 j;cases O.mono i.s with
 | @dct a _ ae _ af ag _ aj ak hc ar=>
  obtain⟨v,au,aw⟩:=I5 l ar Z;exact⟨a,c,ae,U,af,ag,l,v,rfl,rfl,⟨f.bh _ _ aj,mR f.bh hc ak⟩,rv f.bh Y j,au,q _ _ P S hi f (N.trans i) aw⟩
theorem I8(n:Nat)(K:X.A.units+4<XT)(L:bt X e u)(M:bt X value J)(N:gZ X n x:=by rfl)(g:gy X.env.scope x:=by walk_at"v")(O:ea x:=by decide)(P:gY x:=by decide)(Q:XE value (some (.Subscript (.Name x F) e w)) r.line X.env=pure false:=by rfl):
  eT X (.Assign [.Subscript (.Name x F) e w] value r) (AO b n u J):=by
 obtain⟨_,S,T⟩:=M;obtain⟨_,Y,Z⟩:=L;refine⟨_,Bu (b:=b) K (hg N g O P) Y S Q,λU l z R W B H m D hi ae=>?_⟩;refine T l _ z R W B H m _ hi λd v af aj h o ak hc=>?_;obtain⟨t,au,a6,i,h⟩:=h;obtain⟨a,j,a7,bc,_⟩:=o.fa i;refine⟨_,j,?_⟩;refine Z l _ h R W af aj m _ o λy bj aw bq az f p k=>?_;obtain⟨q,rfl,C,aG,aI⟩:=az;obtain⟨c,rfl⟩:=s1 k;obtain⟨bz,E,bA,bC,aJ,aM,aP,aT,aZ,G,I,aY⟩:=f.fa i;rw[j]at E;cases E;refine⟨a,c,aJ,au,aM,aP,q,rfl,rfl,⟨aZ,mR f.bh I G⟩,rv f.bh C k,aG,λa0=>?_⟩;exact ae.nx _ _ aw _ aI (f.jy j i ⟨a0,_,_,aT,dx,A' k G,A9 I C,A_ (hc.mono p.s) q aY⟩) (ak.trans p)
theorem zr{st:Z1}{s:cA}(i:Nat)(h:hF X st s):hF X st (AF i s):=by
 obtain⟨_,a,c⟩:=h;refine⟨_,a,λU m h R W B H d D e f=>?_⟩;obtain⟨b,t,n,o,j,z⟩:=h;obtain⟨k,l,g⟩:=e.nV j;exact c U _ z R W k H d D l (f.grow g)
theorem zq{l:Wp}(n:bt X l C):mq X L l (AG C):=by
 obtain⟨_,o,p⟩:=n;refine⟨_,Ba o,λr k h R W B H s Q e q=>?_⟩;refine p r _ h R W B H s _ e λd v t u w j A E=>?_;obtain⟨b,F,P,rfl,z⟩:=w;cases E with
 | @dct a _ G _ I J _ g K S T=>
  refine⟨b,a,G,F,I,J,rfl,j.bh _ _ g,q _ _ t u z j A λU m i=>⟨λf=>⟨m _ _ g,by simpa using f⟩,λf=>⟨m _ _ g,by simpa using f⟩,λx Y f y=>?_⟩⟩;obtain⟨rfl,c,M,rfl⟩:=y;obtain⟨d,N,O⟩:=K.fb (i:=i) (v:=.ref c) (by rw[SP,M];rfl);exact⟨rfl,d,N,O⟩
end
theorem qd{A:XC}{k:Nat}(a:ew k A):A.units+4<XT:=W5 (Nat.add_le_add_left (by decide:4<=64) _) a.units
abbrev vc:=Bool->List Z3->ZP->ZP->(List Z3->ZP->Prop)->Prop
def yf(K:Su)(n:Nat)(F:vc):iU:=λp H Q _=>∃(B:al)(a:TD)(i:ZQ)(h:ZP)(b:Bool)(j:List Z3)(l:ZP)(k:List Z3->ZP->Prop),
 p=.ref a::i/\F b j l h k/\h.length+1=n/\ci B H/\B a=none/\lH K B H a (.d b none j l)/\b_ K B i h /\
 ∀m e f g,k m e->(∀c o,c≠a->H c=some o->g c=some o)->ci f g->ci B f->(∀c o,f c=some o->B c=some o\/c=a\/H c=none)->f a=none->lH K f g a (.d b none m e)->Q .non g
def Cy(m n:Nat)(F:vc)(w:cK):cA:=λU a=>∃b t e f,a[m]?=some (.own (.d b t e f))/\w a λg=>g.length+1=n/\F b e f g λh c=>U.nx (a.set m (.own (.d b t h c)))
section
variable{K:Su}
theorem Cx{P:WP}{w:XB}{X:Str->Option SL}{J:XG}{x:Str}{st:XF}{N M:ZX}{hi n:Nat}{F:vc}(ak:cH K X x st M)(S:cy N M (bL st))(aq:M.length=n)(ar:∀(f:TD)(C:SL)(A:XC)(l:List Tu)(s:Tk)(H:al)(E:g0),ew hi (A.deeper (U4 x (bL st) s.heap.objs.size f C))->∃u,hF (k0 j4 P w K X J N x (bL st) f C A l s H E).jn (j3 st) u/\∀b t G I p k,p.length+1=n->F b G I p k->u {nx:=λae=>∃O ds',ae[0]?=some (.own (.d b t O ds'))/\k O ds',rt:=λ_=>False} (.own (.d b t G I)::p.map aA.val++SR (N.length-n) .no)):b6 P w K X J x M (hi+1) (yf K n F):=by
 refine ak.ok S (λY H Q E h=>?_) (λf C A l s H Y Q E au h=>?_)
 ·obtain⟨B,a,r,p,b,G,I,k,rfl,_,Z,_,_,_,T,_⟩:=h;rw[SK,T.length,Z,aq]
 obtain⟨B,a,r,p,b,G,I,k,rfl,av,Z,ay,az,h1,T,q⟩:=h;obtain⟨u,⟨t,aB,ag⟩,aD⟩:=ar f C A l s H E au;obtain⟨aE,aF,Y,_,aG,aH,aI,aJ⟩:=h1;have bW:=T.length;have aa:(λc=>if c=a then none else H c:al) a=none:=SZ rfl;have U:∀c,c≠a->(λc=>if c=a then none else H c:al) c=H c:=λc z=>Tl z;generalize bX:(λc=>if c=a then none else H c:al)=R at aa U;have aN:(p.map aA.val).length=r.length:=by rw[Sv];lia
 have aM:(L3.fi N (.ref a::r))[0]?=some (some (.ref a)):=rfl
 have atS:∀i v,r[i]?=some v->(L3.fi N (.ref a::r))[i+1]?=some (some v):=λi v h=>by
  have lt:i<r.length:=by
   by_cases z:i<r.length
   ·exact z
   rw[Td (by lia)]at h;cases h
  unfold L3.fi;rw[TH (by rw[Sv,SK];lia),SP,W6,h];rfl
 have fK:∀(i:Nat)(L:aA),(aA.own (.d b (some a) G I)::p.map aA.val++SR (N.length-n) aA.no)[i]?=some L->(i=0/\L=.own (.d b (some a) G I))\/(∃j d,i=j+1/\p[j]?=some d/\L=.val d)\/L=.no:=λi L h=>by
  cases i with
  |zero=>exact .inl ⟨rfl,(SN h).symm⟩
  |succ j=>
   rw[Tq,W6]at h;by_cases z:j<(p.map aA.val).length
   ·rw[TH z,SP]at h;cases y:p[j]? with
    |none=>rw[y]at h;cases h
    |some d=>rw[y]at h;exact .inr (.inl ⟨j,d,rfl,y,(SN h).symm⟩)
   rw[To (by lia),Uh]at h;split at h
   ·exact .inr (.inr (SN h).symm)
   cases h
 have aQ:aL K R (λ_=>False) B H (L3.fi N (.ref a::r)) (.own (.d b (some a) G I)::p.map aA.val++SR (N.length-n) .no):=by
  refine⟨⟨λc o h _=>?_,ay,λ_ z=>z.elim,λ_ z=>z.elim,λ_ z=>z.elim⟩,?_,λi L h=>?_,λi j c aR aV=>?_⟩
  ·by_cases z:c=a
   ·subst z;rw[aa]at h;cases h
   rwa[U c z]at h
  ·unfold L3.fi;simp only[Sz,Sv,SK,T8];lia
  ·rcases fK i L h with⟨rfl,rfl⟩|⟨j,d,rfl,W,rfl⟩|rfl
   ·exact⟨a,by rw[aM];rfl,aa,az,aE,aF,Y,λc z=>by cases z;rfl,aG,aH,aI,aJ⟩
   ·obtain⟨v,aZ,a0⟩:=T.get W;exact⟨v,by rw[atS j v aZ];rfl,a0⟩
   trivial
  have one:∀i,cc (L3.fi N (.ref a::r)) (.own (.d b (some a) G I)::p.map aA.val++SR (N.length-n) .no) i c->i=0:=λi m=>by
   rcases m with⟨_,z|⟨_,z⟩⟩|⟨_,z,_⟩
   rotate_right
   ·rcases fK i _ z with⟨rfl,y⟩|⟨j,d,rfl,W,y⟩|y<;>cases y
   ·rcases fK i _ z with⟨rfl,y⟩|⟨j,d,rfl,W,y⟩|y<;>cases y
   rcases fK i _ z with⟨rfl,y⟩|⟨j,d,rfl,W,y⟩|y
   ·rfl
   ·cases y
   cases y
  rw[one i aR,one j aV]
 refine⟨t,aB,ag _ _ (aD b (some a) G I p k Z av) R (λ_=>False) B H (L3.fi N (.ref a::r)) _ aQ ⟨λae bY a6 a' h e g=>?_,λ_ _ _ _ h=>h.elim,λ_ _ _ _ h=>h.elim,λ_ _ _ _ h=>h.elim⟩⟩;obtain⟨O,ds',bc,bg⟩:=h;obtain⟨bj,bZ,b5,bq,br,bz,bA,bC,bF,bJ,bK,bM⟩:=e.fa bc;have bQ:a=bj:=bC a rfl;subst bQ;refine q O ds' a6 a' bg (λc o h1 bR=>e.fr c o (by rw[U c h1];exact bR) λz=>z) e.bh g.s (λc o z=>?_) bq ⟨br,bz,bA,(λ_ z=>nomatch z),bF,bJ,bK,bM⟩;rcases g.n c o z with y|y
 ·exact .inl y
 by_cases aj:c=a
 ·exact .inr (.inl aj)
 rw[U c aj]at y;exact .inr (.inr y)
end
section
variable{X:aU}{m n:Nat}{x:Str}{l p g r:Pos}{e:Wp}{k:Z0}{F:vc}{w:cK}
theorem I9{f:Str}{aY:ZX}{j az:Nat}(m:Nat)(c:b6 X.prog X.w X.K X.mg X.base f aY j (yf X.K n F))(a0:ew az X.A)(a5:eu X f)(a6:pD X k w)(a7:gZ X m x:=by rfl)(bc:gy X.env.scope x:=by walk_at"v")(bj:ea x:=by decide)(bq:gY x:=by decide)(bz:j<=az:=by decide)(bC:ea f:=by decide)(aH:UF (.Name x l::k) X.env=(false,Yp (.Name x l) X.env)::UF k X.env:=by rfl)(bJ:hv X g k:=by rfl)(bK:XE (.Call (.Name f p) (.Name x l::k) [] g) none r.line X.env=pure false:=by rfl):
  eT X (.Expr (.Call (.Name f p) (.Name x l::k) [] g) r) (Cy m n F w):=by
 obtain⟨_,N,bM⟩:=a6;refine⟨_,qF (ou c a0 a5 (d2 (hg a7 bc bj bq) N aH) bz bC aH bJ) bK,λU I h R W B H u D aI bQ=>?_⟩;obtain⟨b,t,bR,bS,O,h⟩:=h;obtain⟨a,v,di,dj,_⟩:=aI.fa O;refine⟨_,v,?_⟩;refine bM I _ h R W B H u _ aI λbV aJ P C Q e bW bX=>?_;obtain⟨S,Q⟩:=Q;obtain⟨dk,aK,J,bY,bZ,b5,b8,b9,b',cg,ck,cm⟩:=e.fa O;rw[v]at aK;cases aK;show yf X.K n F ((.ref a::aJ)++[]) C _ _
 rw[SU];refine⟨P,a,aJ,bV,b,bR,bS,_,rfl,Q,S,e.bh,bY,⟨bZ,b5,b8,(λ_ z=>nomatch z),b',cg,ck,cm⟩,bX,λcu T G L cz Y k' aN aM Z cF=>?_⟩;have aQ:¬W a:=λz=>e.wr a z J;have aT:cc u I m a:=.inl ⟨v,.inr ⟨_,O⟩⟩
 have aW:∀c,c≠a->P c=none->C c≠none->G c=none:=λc hi N cG=>by
  cases z:G c with
  |none=>rfl
  |some o=>
   rcases aM c o z with y|y|y
   ·rw[N]at y;cases y
   ·exact absurd y hi
   exact absurd y cG
 have ae:aL X.K R W P C (u.set m (some .non)) (I.set m .no):=e.set m trivial λ_ _ z=>by rcases z with z|⟨_,z⟩<;>cases z
 have cL:Wd R W G L:=by
  refine⟨λc o h cP=>Y c o (by rintro rfl;rw[J]at h;cases h) (e.fr c o h cP),k',λc z=>?_,λc z=>?_,e.wr⟩
  ·obtain⟨M,E,af,_⟩:=e.wh c z;exact aW c (by rintro rfl;exact aQ z) (e.wb c z) (by rw[af];simp)
  obtain⟨M,E,af,cQ⟩:=e.wh c z;exact⟨M,E,Y c _ (by rintro rfl;exact aQ z) af,cQ⟩
 have keep:∀c,c≠a->C c≠none->L c=C c:=λc hi cR=>by
  cases z:C c with
  |none=>exact absurd z cR
  |some o=>exact Y c o hi z
 have cS:aL X.K R W G L (u.set m (some .non)) (I.set m .no):=ae.move cL aN λi c s=>by
  have aj:c≠a:=by
   rintro rfl;obtain⟨ak,s⟩:=so s (by simp) (by simp) rfl;exact ak (e.sep i m c s aT)
  obtain⟨M,E⟩:=ae.en s;refine⟨aW c aj M E,λz=>?_,λ_=>keep c aj E⟩;obtain⟨dv,aZ,_,_,ao⟩:=ae.eo z;rw[nC s z]at aZ;cases aZ;obtain⟨cT,cW,c0,c7⟩:=ao;exact⟨cT,cW,by rw[keep c aj E];exact c0,c7⟩
 obtain⟨c8,c9,da,_,tb,de,df,dg⟩:=cF
 have ay:=cS.setC m (c:=.d b t cu T) J Z ⟨c8,c9,da,b9,tb,de,df,dg⟩ λj dw s=>by
  obtain⟨ak,s⟩:=so s (by simp) (by simp) rfl;exact ak (e.sep j m a s aT)
 rw[TY,TY]at ay
 have q:u.set m (some (.ref a))=u:=by
  apply Uk;intro j;by_cases z:m=j
  ·subst z
   have lt:m<u.length:=by
    by_cases z:m<u.length
    ·exact z
    rw[Td (by lia)]at v;cases v
   rw[TG lt,v]
  rw[Tz z]
 rw[q]at ay;refine bQ.nx _ _ G L cz ay (bW.trans ⟨aN,λc o z=>?_⟩);rcases aM c o z with y|y|y
 ·exact .inl y
 ·subst y;exact .inr J
 exact .inr (e.toWd.fresh y).1
end
abbrev f5(a:ZO):D:=.lst (a.map aS)
theorem Ja{a c:Type}{f:a->c}{L:List a}{i:Int}(d : -(L.length:Int)<=i)(g:i<L.length):∃x∈L,eF (L.map f) i=some (f x):=by
 have e:∃j,L3.ju (L.map f).length i=some j/\j<L.length:=by
  unfold L3.ju;rw[Sv];by_cases b:0<=i
  ·rw[SZ b,SZ g];exact⟨_,rfl,by lia⟩
  rw[Tl b,SZ d];exact⟨_,rfl,by lia⟩
 obtain⟨j,e,h⟩:=e;refine⟨L[j],V3 _,?_⟩;unfold eF;rw[e];simp[h]
abbrev Jb:=Z5
theorem C'{c:Type}{f g:c->D}{s:cA}{U:hE}{i j:Nat}(I:List c->ZN->Prop):∀{rs done:List c}{a:ZN},I done a->
  (∀(pre:List c)(e:c)(b:List c) a,done++rs=pre++e::b->I pre a->∀N:ZN->Prop,(∀d,I (pre++[e]) d->N d)->s {U with nx:=N,ct:=N,bk:=U.nx} ((a.set i (.val (f e))).set j (.val (g e))))->(∀a,I (done++rs) a->U.nx a)->
  ka (mz 2 (hq (eU i) (hq (eU j) my))) s U (rs.map λe=>.tup [f e,g e]) a
 |[],done,a,k,_,l=>l a (by rw[SU];exact k)
 |e::rs,done,a,k,m,l=>by
  refine⟨_,rfl,rfl,_,_,rfl,_,_,rfl,rfl,m done e rs a rfl k _ λd o=>?_⟩;have n:done++e::rs=(done++[e])++rs:=by simp
  exact C' I o (λpre p b a h=>m pre p b a (by rw[n];exact h)) λa h=>l a (by rw[n];exact h)
noncomputable def fJ(p:ab):List Int:=[p.1,p.2.1,p.2.2]
def li(l:ab):Int:=(Tj (Tj l.1.natAbs l.2.1.natAbs) l.2.2.natAbs:Nat)
def mU(l:ab):Prop:=l.1<0\/(l.1=0/\l.2.1<0)
instance(l:ab):Decidable (mU l):=by unfold mU;infer_instance
def hI(l:ab):Int:=if mU l then -li l else li l
def iJ(l:ab):ab:=(l.1/hI l,l.2.1/hI l,l.2.2/hI l)
theorem Jc(l:ab):li l∣l.1/\li l∣l.2.1/\li l∣l.2.2:=by
 unfold li;refine⟨?_,?_,?_⟩
 ·exact UK.mpr (Ve (U2 _ _) (U2 _ _))
 ·exact UK.mpr (Ve (U2 _ _) (Vd _ _))
 exact UK.mpr (Vd _ _)
theorem vd(l:ab):hI l∣l.1/\hI l∣l.2.1/\hI l∣l.2.2:=by
 obtain⟨a,b,c⟩:=Jc l;unfold hI;split
 ·exact⟨UI.mpr a,UI.mpr b,UI.mpr c⟩
 exact⟨a,b,c⟩
theorem Cq(c:Int)(l:ab):li (sc c l)=c.natAbs*li l:=by
 unfold li sc;dsimp only;rw[TB,TB,TB,Vf,Vf,Int.natCast_mul]
theorem Cp{c:Int}{l:ab}(a:c≠0)(b:l.1≠0\/l.2.1≠0):hI (sc c l)=c*hI l:=by
 have down:mU (sc c l)↔(if 0<c then mU l else ¬mU l):=by
  unfold mU sc;dsimp only;split
  ·rename_i h
   constructor
   ·rintro(z|⟨z,y⟩)
    ·exact .inl (by
      by_cases q:l.1<0
      ·exact q
      have:=Tw (Tp h) (show 0<=l.1 by lia)
      lia)
    have z:=(Tv.mp z).resolve_left a;refine .inr ⟨z,?_⟩;by_cases q:l.2.1<0
    ·exact q
    have:=Tw (Tp h) (show 0<=l.2.1 by lia);lia
   rintro(z|⟨z,y⟩)
   ·exact .inl (S1 h z)
   exact .inr ⟨by rw[z,S4],S1 h y⟩
  rename_i h
  have h:c<0:=by lia
  constructor
  ·rintro(z|⟨z,y⟩) (q|⟨q,r⟩)
   ·have:=Uz h q;lia
   ·rw[q,S4]at z;lia
   ·have z:=(Tv.mp z).resolve_left a;lia
   have:=Uz h r;lia
  intro z;have f:¬l.1<0:=λq=>z (.inl q);by_cases q:l.1=0
  ·refine .inr ⟨by rw[q,S4],T5 h ?_⟩;have g:¬l.2.1<0:=λr=>z (.inr ⟨q,r⟩);rcases b with w|w
   ·exact absurd q w
   lia
  exact .inl (T5 h (by lia))
 unfold hI;rw[Cq];by_cases h:0<c
 ·rw[SZ h]at down;have e:((c.natAbs:Nat):Int)=c:=by lia
  by_cases d:mU l
  ·rw[SZ (down.mpr d),SZ d,e,Int.mul_neg]
  rw[Tl (λz=>d (down.mp z)),Tl d,e]
 rw[Tl h]at down;have e:((c.natAbs:Nat):Int) = -c:=by lia
 by_cases d:mU l
 ·rw[Tl (λz=>down.mp z d),SZ d,e,Int.mul_neg,Ut]
 rw[SZ (down.mpr d),Tl d,e,Ut,V4]
theorem yi{l:ab}(c:l.1≠0\/l.2.1≠0):hI l≠0:=by
 have g:li l≠0:=λz=>by
  obtain⟨a,b,_⟩:=Jc l;rw[z]at a b;have a:=Int.zero_dvd.mp a;have b:=Int.zero_dvd.mp b;rcases c with h|h<;>contradiction
 unfold hI;split
 ·lia
 exact g
theorem Da{c x g:Int}(b:c≠0)(a:g≠0)(h:g∣x):c*x/(c*g)=x/g:=by
 obtain⟨k,rfl⟩:=h;rw[W7 _ a,<-Uj,W7 _ (S0 b a)]
theorem qf{c:Int}{l:ab}(e:c≠0)(f:l.1≠0\/l.2.1≠0):iJ (sc c l)=iJ l:=by
 obtain⟨a,b,d⟩:=vd l;have g:=yi f;unfold iJ;rw[Cp e f];unfold sc;dsimp only;rw[Da e g a,Da e g b,Da e g d]
def e5(p q:ab):ab:=iJ (a_ p q)
def eJ(p q x:ab):List ZM:=[fJ (e5 p q),fJ x]
def gW(a:Z3->Int)(p q:ab):Rat:=((a (eJ p q p):Int):Rat)-((a (eJ p q q):Int):Rat)
def eY(a:Z3->Int)(b:ZO):Rat:=e4 (gW a) (du b)
def gL(a:Z3->Int)(rs:Z5):Rat:=(rs.map (eY a)).sum
def cU(b c:Z5):Prop:=∀a,gL a b=gL a c
theorem Co{l w:ab}(f:l.1≠0\/l.2.1≠0)(c:w.1≠0\/w.2.1≠0)(h:a_ l w=(0,0,0)):iJ l=iJ w:=by
 have j:l.2.1*w.2.2-l.2.2*w.2.1=0:=Uf (·.1) h;have k:l.2.2*w.1-l.1*w.2.2=0:=Uf (·.2.1) h;have g:l.1*w.2.1-l.2.1*w.1=0:=Uf (·.2.2) h;by_cases a:l.1=0
 ·have b:l.2.1≠0:=f.resolve_left λz=>z a
  have d:w.1=0:=by
   rw[a]at g;have:l.2.1*w.1=0:=by lia
   exact(Tv.mp this).resolve_left b
  have i:w.2.1≠0:=c.resolve_left λz=>z d;have e:sc w.2.1 l=sc l.2.1 w:=fc (by show w.2.1*l.1=l.2.1*w.1;rw[a,d];simp) (by show w.2.1*l.2.1=l.2.1*w.2.1;rw[S8]) (by show w.2.1*l.2.2=l.2.1*w.2.2;grind);rw[<-qf i f,e,qf b c]
 have d:w.1≠0:=λz=>by
  rw[z]at g;have:l.1*w.2.1=0:=by lia
  have:=(Tv.mp this).resolve_left a;rcases c with q|q
  ·exact q z
  exact q this
 have e:sc w.1 l=sc l.1 w:=fc (by show w.1*l.1=l.1*w.1;rw[S8]) (by show w.1*l.2.1=l.1*w.2.1;grind) (by show w.1*l.2.2=l.1*w.2.2;grind);rw[<-qf d f,e,qf a c]
theorem mV{u v:ab}(c:aX u)(d:aX v)(h:u≠v):(a_ u v).1≠0\/(a_ u v).2.1≠0:=by
 by_cases a:(a_ u v).1=0
 ·right;intro b;have a:u.2.1*v.2.2-u.2.2*v.2.1=0:=a;have b:u.2.2*v.1-u.1*v.2.2=0:=b;obtain⟨e,f,g⟩:=wK c d (by grind) (by grind);exact h (fc e f g)
 exact .inl a
theorem Cn{l u v:ab}(a:ln l u=0)(b:ln l v=0):a_ l (a_ u v)=(0,0,0):=by
 unfold ln at a b;refine fc ?_ ?_ ?_<;>simp only[a_]<;>grind
theorem Cj{l u v:ab}(a:l.1≠0\/l.2.1≠0)(b:aX u)(c:aX v)(h:u≠v)(d:ln l u=0)(e:ln l v=0):e5 u v=iJ l:=(Co a (mV b c h) (Cn d e)).symm
theorem Ci(u v:ab):a_ v u=sc (-1) (a_ u v):=by refine fc ?_ ?_ ?_<;>simp only[a_,sc]<;>grind
theorem Jd{u v:ab}(a:aX u)(b:aX v):e5 v u=e5 u v:=by
 by_cases h:u=v
 ·rw[h]
 unfold e5;rw[Ci,qf (by decide) (mV a b h)]
theorem Db{s b:Int}{x w:ab}(g:s≠0)(a:b≠0)(c:w.1≠0\/w.2.1≠0)(e:sc s x=sc b w):iJ x=iJ w:=by
 obtain⟨d,f,_⟩:=Cb e
 have i:x.1≠0\/x.2.1≠0:=by
  rcases c with h|h
  ·left;intro z;rw[z,S4]at d;exact S0 a h d.symm
  right;intro z;rw[z,S4]at f;exact S0 a h f.symm
 rw[<-qf g i,e,qf a c]
theorem yj{p q m:ab}(d:aX p)(f:aX q)(h:p≠q)(b:hH p q m):e5 p m=e5 p q/\e5 m q=e5 p q:=by
 obtain⟨s,a,c,g,i,j,e⟩:=b;obtain⟨k,l,n⟩:s*m.1=a*p.1+c*q.1/\s*m.2.1=a*p.2.1+c*q.2.1/\s*m.2.2=a*p.2.2+c*q.2.2:=⟨Uf (·.1) e,Uf (·.2.1) e,Uf (·.2.2) e⟩;have w:=mV d f h;constructor
 ·refine Db (s:=s) (b:=c) (by lia) (by lia) w ?_;refine fc ?_ ?_ ?_<;>simp only[a_,sc]<;>grind
 refine Db (s:=s) (b:=a) (by lia) (by lia) w ?_;refine fc ?_ ?_ ?_<;>simp only[a_,sc]<;>grind
section
variable(a:Z3->Int)(l:ab)
def nT(x:ab):Rat:=((a [fJ (iJ l),fJ x]:Int):Rat)
def iK(p q:ab):Rat:=gW a p q-(nT a l p-nT a l q)
end
theorem Je{T1 T2:ab->ab->Rat}:∀(a:List (ab×ab)),e4 (λp q=>T1 p q-T2 p q) a=e4 T1 a-e4 T2 a
 |[]=>by rw[i2,i2,i2];grind
 |e::a=>by rw[hZ,hZ,hZ,Je a];grind
theorem yk{T1 b:ab->ab->Rat}:∀{a:List (ab×ab)},(∀e∈a,T1 e.1 e.2=b e.1 e.2)->e4 T1 a=e4 b a
 |[],_=>rfl
 |e::a,h=>by rw[hZ,hZ,h e Sw,yk λe c=>h e (Sx _ c)]
theorem Ca(h:ab->Rat)(b:ZO):e4 (λp q=>h p-h q) (du b)=0:=by
 cases b with
 |nil=>rfl
 |cons a r=>
  have e:bU (bU (0,0,1) (a::r)) (a::r)=bU (0,0,1) (a::r):=sQ (by simp);unfold du;rw[ID,e];grind
theorem Dc(a:Z3->Int)(l:ab)(b:ZO):e4 (iK a l) (du b)=eY a b:=by
 unfold iK eY;rw[Je (T1:=gW a) (T2:=λp q=>nT a l p-nT a l q),Ca];grind
theorem Dd(a:Z3->Int)(u:ab):gW a u u=0:=by unfold gW;grind
theorem yl{a:Z3->Int}{l u v:ab}(b:l.1≠0\/l.2.1≠0)(c:aX u)(d:aX v)(e:ln l u=0)(f:ln l v=0):iK a l u v=0:=by
 by_cases h:u=v
 ·subst h;unfold iK;rw[Dd];grind
 unfold iK gW nT eJ;rw[Cj b c d h e f];grind
section
variable{l o:ab}{d:ZO}
theorem Jf(g:Z3->Int)(r:l.1≠0\/l.2.1≠0)(s:aX o)(lo:ln l o=0)(f:∀p∈d,aX p):eY g (dc (ln l) (a4 l) d)=e4 (jo (ln l) (a4 l) (iK g l)) (du d):=by
 have t:∀p q,aX p->aX q->ln l p*ln l q<0->aX (a4 l p q):=λp q h i c=>by
  rw[<-oQ h i];exact gI (oR h i c)
 have j:∀u v,aX u->aX v->ln l u=0->ln l v=0->iK g l u v=0:=λu v w f a b=>yl r w f a b;unfold dc;split
 ·rw[<-Dc g l];exact Iz (V:=aX) j (λp q h i c=>⟨t p q h i c,u0 c⟩) o s lo f
 rename_i n
 rw[CV (V:=aX) j λe x=>?_]
 ·rfl
 obtain⟨k,m⟩:=lX x;have a:¬0<ln l e.1:=λz=>n ⟨_,k,z⟩;have b:¬0<ln l e.2:=λz=>n ⟨_,m,z⟩;exact⟨f _ k,f _ m,by lia,by lia⟩
theorem Jg(h:Z3->Int)(s:l.1≠0\/l.2.1≠0)(t:aX o)(lo:ln l o=0)(g:∀p∈d,aX p):eY h (dc (λc => -ln l c) (a4 l) d)=e4 (jo (λc => -ln l c) (a4 l) (iK h l)) (du d):=by
 have w:∀p q,aX p->aX q->ln l p*ln l q<0->aX (a4 l p q):=λp q i j c=>by
  rw[<-oQ i j];exact gI (oR i j c)
 have k:∀u v,aX u->aX v -> -ln l u=0 -> -ln l v=0->iK h l u v=0:=λu v x g a b=>yl s x g (by lia) (by lia);unfold dc;split
 ·rw[<-Dc h l];refine Iz (f:=λc => -ln l c) (V:=aX) k (λp q i j c=>?_) o t (by show -ln l o=0;lia) g;have c:ln l p*ln l q<0:=by rwa[UB]at c
  exact⟨w p q i j c,by show -ln l (a4 l p q)=0;rw[u0 c];rfl⟩
 rename_i n
 rw[CV (f:=λc => -ln l c) (V:=aX) k λe y=>?_]
 ·rfl
 obtain⟨m,r⟩:=lX y;have a:¬0 < -ln l e.1:=λz=>n ⟨_,m,z⟩;have b:¬0 < -ln l e.2:=λz=>n ⟨_,r,z⟩;exact⟨g _ m,g _ r,by show -ln l e.1<=0;lia,by show -ln l e.2<=0;lia⟩
theorem De{p q:ab}(c:ln l p*ln l q<0):p≠q:=by
 rintro rfl
 have:0<=ln l p*ln l p:=by
  rcases Int.le_total 0 (ln l p)with h|h
  ·exact Tw h h
  exact Vm h h
 lia
theorem B_{a:Z3->Int}{p q m:ab}(c:aX p)(d:aX q)(h:p≠q)(b:hH p q m):iK a l p m+iK a l m q=iK a l p q:=by
 obtain⟨e,f⟩:=yj c d h b;unfold iK gW eJ;rw[e,f];grind
theorem B9(g:Z3->Int)(h:l.1≠0\/l.2.1≠0)(i:aX o)(lo:ln l o=0)(f:∀p∈d,aX p):eY g (dc (ln l) (a4 l) d)+eY g (dc (λc => -ln l c) (a4 l) d)=eY g d:=by
 rw[Jf g h i lo f,Jg g h i lo f,<-Dc g l];refine IA λe m=>?_;obtain⟨j,k⟩:=lX m;exact DO (V:=aX) (λu v n f a b=>yl h n f a b) (f _ j) (f _ k) λc=>B_ (f _ j) (f _ k) (De c) (sO c)
end
noncomputable def kU:ZM->ab
 |[a,b,c]=>(a,b,c)
 |_=>(0,0,0)
theorem ym(p:ab):kU (fJ p)=p:=rfl
def l1(s:Int)(a:Z3->Int)(l:ab):Z3->Int
 |[k,x]=>if 0<s*ln l (kU x)then a [k,x]-a [fJ (iJ l),x]-(a [k,fJ (nP (a_ l (kU k)))]-a [fJ (iJ l),fJ (nP (a_ l (kU k)))])else 0
 |_=>0
theorem Df{l p q:ab}(b:aX p)(d:aX q)(h:p≠q)(a:(a_ l (a_ p q)).2.2≠0):nP (a_ l (e5 p q))=nP (a_ l (a_ p q)):=by
 have w:=mV b d h;have g:=yi w;obtain⟨f,i,j⟩:=vd (a_ p q)
 have e:a_ p q=sc (hI (a_ p q)) (e5 p q):=by
  unfold e5 iJ sc;refine fc ?_ ?_ ?_
  ·exact(UR f).symm
  ·exact(UR i).symm
  exact(UR j).symm
 have k:a_ l (a_ p q)=sc (hI (a_ p q)) (a_ l (e5 p q)):=by
  conv=>lhs;rw[e]
  refine fc ?_ ?_ ?_<;>simp only[a_,sc]<;>grind
 have m:=gI a;obtain⟨c,n,o⟩:=kL a;exact(sE (M:=a_ l (e5 p q)) (h:=nP (a_ l (a_ p q))) g n m (by rw[<-k];exact o)).2
theorem Jh{l p q:ab}(d:aX p)(b:aX q)(g:ln l p≠0)(f:ln l q=0):nP (a_ l (e5 p q))=q/\nP (a_ l (e5 q p))=q:=by
 have h:p≠q:=by rintro rfl;exact g f
 have e:a_ l (a_ p q)=sc (-ln l p) q:=by
  unfold ln at f⊢;refine fc ?_ ?_ ?_<;>simp only[a_,sc]<;>grind
 have j:=b.1
 have i:(a_ l (a_ p q)).2.2≠0:=by
  rw[e];exact S0 (by lia) (by lia)
 have a:nP (a_ l (e5 p q))=q:=by
  rw[Df d b h i];exact(sE (M:=a_ l (a_ p q)) (G:=1) (c :=-ln l p) (by decide) (by lia) b (by rw[e];unfold sc;simp)).2
 exact⟨a,by rw[Jd d b];exact a⟩
theorem yn(a b:Int):((a-b:Int):Rat)=(a:Rat)-(b:Rat):=by grind
section
variable{l:ab}{φ:Z3->Int}
theorem yo{s:Int}{k:ZM}{x:ab}(h:0<s*ln l x):((l1 s φ l [k,fJ x]:Int):Rat)=((φ [k,fJ x]:Int):Rat)-nT φ l x-(((φ [k,fJ (nP (a_ l (kU k)))]:Int):Rat)-nT φ l (nP (a_ l (kU k)))):=by
 have e:l1 s φ l [k,fJ x]=φ [k,fJ x]-φ [fJ (iJ l),fJ x]-(φ [k,fJ (nP (a_ l (kU k)))]-φ [fJ (iJ l),fJ (nP (a_ l (kU k)))]):=by
  show(if 0<s*ln l x then _ else _)=_
  rw[SZ h]
 rw[e,yn,yn,yn];rfl
theorem rA{s:Int}{k:ZM}{x:ab}(h:¬0<s*ln l x):((l1 s φ l [k,fJ x]:Int):Rat)=0:=by
 have e:l1 s φ l [k,fJ x]=0:=by
  show(if 0<s*ln l x then _ else _)=_
  rw[Tl h]
 rw[e];rfl
theorem Ji(o:l.1≠0\/l.2.1≠0){p q:ab}(d:aX p)(e:aX q){s:Int}(k:s=1\/s = -1):jo (λc=>s*ln l c) (a4 l) (iK φ l) p q=gW (l1 s φ l) p q:=by
 have i:∀a b:Int,(s*a)*(s*b)=a*b:=λa b=>by rcases k with rfl|rfl<;>grind
 unfold jo;dsimp only;rw[i];have j:∀x:Int,s*x=0->x=0:=λx h=>by rcases k with rfl|rfl<;>lia
 have key:gW (l1 s φ l) p q=((l1 s φ l [fJ (e5 p q),fJ p]:Int):Rat)-((l1 s φ l [fJ (e5 p q),fJ q]:Int):Rat):=rfl;rw[key];rcases T4 (s*ln l p) 0 with a|a|a
 ·rw[Tl (show ¬0<=s*ln l p by lia),rA (show ¬0<s*ln l p by lia)];by_cases b:0<s*ln l q
  ·have c:ln l p*ln l q<0:=by rw[<-i];exact T5 a b
   have f:=De c;obtain⟨m,n⟩:=yj d e f (sO c);have em:nP (a_ l (kU (fJ (e5 p q))))=a4 l p q:=by rw[ym,Df d e f (oR d e c),oQ d e]
   rw[SZ c,yo b,em];unfold iK gW eJ;rw[n];grind
  have c:¬ln l p*ln l q<0:=by rw[<-i];have:=Vm (show s*ln l p<=0 by lia) (show s*ln l q<=0 by lia);lia
  rw[Tl c,rA b];grind
 ·have g:=j _ a;have c:¬ln l p*ln l q<0:=by rw[g,T3];lia
  rw[SZ (show 0<=s*ln l p by lia),rA (show ¬0<s*ln l p by lia),Tl c];rcases T4 (s*ln l q) 0 with b|b|b
  ·rw[Tl (show ¬0<=s*ln l q by lia),rA (show ¬0<s*ln l q by lia)];grind
  ·rw[SZ (show 0<=s*ln l q by lia),rA (show ¬0<s*ln l q by lia),yl o d e g (j _ b)];grind
  have r:ln l q≠0:=λz=>by rw[z,S4]at b;lia
  have em:nP (a_ l (kU (fJ (e5 p q))))=p:=by rw[ym];exact(Jh e d r g).2
  rw[SZ (show 0<=s*ln l q by lia),yo b,em];unfold iK gW eJ;grind
 have g:ln l p≠0:=λz=>by rw[z,S4]at a;lia
 rw[SZ (show 0<=s*ln l p by lia),yo a];rcases T4 (s*ln l q) 0 with b|b|b
 ·have c:ln l p*ln l q<0:=by rw[<-i];exact S1 a b
  have f:=De c;obtain⟨m,n⟩:=yj d e f (sO c);have em:nP (a_ l (kU (fJ (e5 p q))))=a4 l p q:=by rw[ym,Df d e f (oR d e c),oQ d e]
  rw[Tl (show ¬0<=s*ln l q by lia),SZ c,rA (show ¬0<s*ln l q by lia),em];unfold iK gW eJ;rw[m];grind
 ·have em:nP (a_ l (kU (fJ (e5 p q))))=q:=by rw[ym];exact(Jh d e g (j _ b)).1
  rw[SZ (show 0<=s*ln l q by lia),rA (show ¬0<s*ln l q by lia),em];unfold iK gW eJ;grind
 rw[SZ (show 0<=s*ln l q by lia),yo b];unfold iK gW eJ;grind
theorem Jj{o:ab}{b:ZO}(d:l.1≠0\/l.2.1≠0)(i:aX o)(lo:ln l o=0)(a:∀p∈b,aX p):eY φ (dc (ln l) (a4 l) b)=eY (l1 1 φ l) b/\eY φ (dc (λc => -ln l c) (a4 l) b)=eY (l1 (-1) φ l) b:=by
 rw[Jf φ d i lo a,Jg φ d i lo a];constructor
 ·refine yk λe f=>?_;obtain⟨g,h⟩:=lX f;have:=Ji (φ:=φ) d (a _ g) (a _ h) (s:=1) (.inl rfl);rw[<-this];congr 1;funext c;rw[We]
 refine yk λe f=>?_;obtain⟨g,h⟩:=lX f;have:=Ji (φ:=φ) d (a _ g) (a _ h) (s :=-1) (.inr rfl);rw[<-this];congr 1;funext c;rw[Int.neg_one_mul]
end
theorem cU.keep{l o:ab}{d e:Z5}(h:cU d e)(i:l.1≠0\/l.2.1≠0)(j:aX o)(lo:ln l o=0)(k:∀b∈d,∀p∈b,aX p)(m:∀b∈e,∀p∈b,aX p):
  cU (d.map (dc (ln l) (a4 l))) (e.map (dc (ln l) (a4 l)))/\cU (d.map (dc (λc => -ln l c) (a4 l))) (e.map (dc (λc => -ln l c) (a4 l))):=by
 have one:∀(L:Z5) a,(∀b∈L,∀p∈b,aX p)->gL a (L.map (dc (ln l) (a4 l)))=gL (l1 1 a l) L:=λL a f=>by
  unfold gL;rw[SM];congr 1;exact Ue λb g=>(Jj i j lo (f b g)).1
 have two:∀(L:Z5) a,(∀b∈L,∀p∈b,aX p)->gL a (L.map (dc (λc => -ln l c) (a4 l)))=gL (l1 (-1) a l) L:=λL a f=>by
  unfold gL;rw[SM];congr 1;exact Ue λb g=>(Jj i j lo (f b g)).2
 exact⟨λa=>by rw[one d a k,one e a m];exact h _,λa=>by rw[two d a k,two e a m];exact h _⟩
theorem Jk(m:ab->ab):∀(z:ab)(L:ZO),cZ (m z) (L.map m)=(cZ z L).map λe=>(m e.1,m e.2)
 |_,[]=>rfl
 |z,p::L=>by
  show(m z,m p)::cZ (m p) (L.map m)=_
  rw[Jk m p L];rfl
theorem Jl(m:ab->ab):∀(z:ab)(L:ZO),bU (m z) (L.map m)=m (bU z L)
 |_,[]=>rfl
 |z,p::L=>Jl m p L
theorem Dg(m:ab->ab)(b:ZO):du (b.map m)=(du b).map λe=>(m e.1,m e.2):=by
 cases b with
 |nil=>rfl
 |cons a r=>
  unfold du
  have e:bU (0,0,1) ((a::r).map m)=m (bU (0,0,1) (a::r)):=by
   rw[<-Jl m (0,0,1) (a::r)];exact sQ (by simp)
  rw[e,Jk]
theorem B8{T:ab->ab->Rat}(m:ab->ab)(a:List (ab×ab)):e4 T (a.map λe=>(m e.1,m e.2))=e4 (λp q=>T (m p) (m q)) a:=by
 unfold e4;rw[SM];rfl
structure lj(m A:ab->ab):Prop where
 jq:∀c l,A (sc c l)=sc c (A l)
 ne:∀l:ab,(l.1≠0\/l.2.1≠0)->(A l).1≠0\/(A l).2.1≠0
 pt:∀p,aX p->aX (m p)
 ln:∀p q,aX p->aX q->∃g h:Int,g≠0/\h≠0/\sc g (a_ (m p) (m q))=sc h (A (a_ p q))
def Dh(m A:ab->ab)(a:Z3->Int):Z3->Int
 |[k,x]=>a [fJ (iJ (A (kU k))),fJ (m (kU x))]
 |_=>0
theorem Jm{p q:ab}:a_ p q=sc (hI (a_ p q)) (e5 p q):=by
 obtain⟨a,b,c⟩:=vd (a_ p q);unfold e5 iJ sc;refine fc ?_ ?_ ?_
 ·exact(UR a).symm
 ·exact(UR b).symm
 exact(UR c).symm
theorem B7{p q:ab}(a:aX p)(b:aX q)(h:p≠q):(e5 p q).1≠0\/(e5 p q).2.1≠0:=by
 have w:=mV a b h;rw[Jm]at w;rcases w with w|w
 ·exact .inl λz=>w (by show _*(e5 p q).1=0;rw[z,S4])
 exact .inr λz=>w (by show _*(e5 p q).2.1=0;rw[z,S4])
theorem lj.line{m A:ab->ab}(M:lj m A){p q:ab}(a:aX p)(b:aX q)(h:p≠q):e5 (m p) (m q)=iJ (A (e5 p q)):=by
 obtain⟨g,c,d,f,e⟩:=M.ln p q a b;have w:=mV a b h;have i:e5 (m p) (m q)=iJ (A (a_ p q)):=Db d f (M.ne _ w) e;rw[i]
 conv=>lhs;rw[Jm,M.jq]
 exact qf (yi w) (M.ne _ (B7 a b h))
theorem lj.side{m A:ab->ab}(M:lj m A)(a:Z3->Int){p q:ab}(b:aX p)(c:aX q):gW a (m p) (m q)=gW (Dh m A a) p q:=by
 by_cases h:p=q
 ·subst h;rw[Dd,Dd]
 unfold gW eJ;rw[M.line b c h];rfl
theorem lj.ring{m A:ab->ab}(M:lj m A)(a:Z3->Int){b:ZO}(c:∀p∈b,aX p):eY a (b.map m)=eY (Dh m A a) b:=by
 unfold eY;rw[Dg,B8];refine yk λe d=>?_;obtain⟨f,g⟩:=lX d;exact M.side a (c _ f) (c _ g)
theorem lj.iz{m A:ab->ab}(M:lj m A){b c:Z5}(h:cU b c)(e:∀a∈b,∀p∈a,aX p)(f:∀a∈c,∀p∈a,aX p):cU (b.map λa=>a.map m) (c.map λa=>a.map m):=λd=>by
 have one:∀(L:Z5),(∀a∈L,∀p∈a,aX p)->gL d (L.map λa=>a.map m)=gL (Dh m A d) L:=λL g=>by
  unfold gL;rw[SM];congr 1;exact Ue λa i=>M.ring d (g a i)
 rw[one b e,one c f];exact h _
noncomputable def jm(v l:ab):ab:=(l.1*v.2.2,l.2.1*v.2.2,l.2.2*v.2.2-l.1*v.1-l.2.1*v.2.1)
noncomputable def s2(l:ab):ab:=(-l.1,-l.2.1,l.2.2)
theorem Di{v:ab}(n:0<v.2.2):lj (λp=>nP (ej v p)) (jm v):=by
 refine⟨λc l=>?_,λl h=>?_,λp a=>gI ?_,λp q a b=>?_⟩
 ·refine fc ?_ ?_ ?_<;>simp only[jm,sc]<;>grind
 ·rcases h with h|h
  ·exact .inl (S0 h (by lia))
  exact .inr (S0 h (by lia))
 ·have:=a.1;show p.2.2*v.2.2≠0
  exact S0 (by lia) (by lia)
 have d:(ej v p).2.2≠0:=S0 (by have:=a.1;lia) (by lia);have e:(ej v q).2.2≠0:=S0 (by have:=b.1;lia) (by lia);obtain⟨f,g,i⟩:=kL d;obtain⟨j,k,m⟩:=kL e;refine⟨f*j,v.2.2,S0 g k,by lia,?_⟩;rw[<-Cc,<-i,<-m];refine fc ?_ ?_ ?_<;>simp only[a_,sc,jm,ej]<;>grind
theorem rB:lj eI s2:=by
 refine⟨λc l=>?_,λl h=>?_,λp a=>Bl a,λp q a b=>⟨1,1,by decide,by decide,?_⟩⟩
 ·refine fc ?_ ?_ ?_<;>simp only[s2,sc]<;>grind
 ·rcases h with h|h
  ·exact .inl (by show -l.1≠0;lia)
  exact .inr (by show -l.2.1≠0;lia)
 refine fc ?_ ?_ ?_<;>simp only[a_,sc,s2,eI]<;>grind
theorem Jn(b:Z3->Int)(a:ab)(r:ZO):eY b (r++[a])=eY b (a::r):=by
 unfold eY;rw[<-CT]
 have e:du (r++[a])=cZ a (r++[a]):=by
  unfold du;rw[p9];rfl
 rw[e]
theorem B4{a:ZO}{i:Nat}(h:i<a.length):∃p q,p∈a/\q∈a/\eF (a.map aS) ((i:Int)-1)=some (aS p)/\eF (a.map aS) (i:Int)=some (aS q)/\(p,q)∈du a/\(du a).take (i+1)=(du a).take i++[(p,q)]:=by
 obtain⟨p,e,b⟩:=Ja (f:=id) (L:=a) (i:=(i:Int)-1) (by lia) (by lia);obtain⟨q,g,c⟩:=Ja (f:=id) (L:=a) (i:=(i:Int)) (by lia) (by lia);rw[List.map_id]at b c;have j:bD a ((i+a.length-1)%a.length)=p:=xl (SN ((HL h).symm.trans (ra b)));have k:bD a i=q:=xl (SN ((nO h).symm.trans (ra c)));have d:(du a).take (i+1)=(du a).take i++[(p,q)]:=by rw[DG h,j,k]
 exact⟨p,q,e,g,ra b,ra c,Wf (i:=i+1) (by rw[d];simp),d⟩
theorem Jo{g:Type}(k:Z3)(x:g):∀{b:List Z3}{ds:List g}(a:Z3),ds.length=b.length->bu (eX b k) (g9 b ds k x) a=if a=k then some x else bu b ds a:=by
 have j:∀{b:List Z3}{ds:List g}(a:Z3),ds.length=b.length->bu b (f4 b ds k x) a=if a=k/\k∈b then some x else bu b ds a:=by
  intro b;induction b with
  |nil=>intro ds a h;simp[bu]
  |cons i b c=>
   intro ds a h;cases ds with
   |nil=>simp at h
   |cons d ds=>
    have c:=c (ds:=ds) a (by simpa using h);rw[f4,bu,bu];by_cases e:i=a
    ·rw[SZ e,SZ e];by_cases f:i=k
     ·rw[SZ f,SZ ⟨by rw[<-e,f],by rw[f];simp⟩]
     rw[Tl f,Tl (λz=>f (e.trans z.1))]
    rw[Tl e,Tl e,c];by_cases z:a=k/\k∈b
    ·rw[SZ z,SZ ⟨z.1,Sx _ z.2⟩]
    rw[Tl z,Tl (λy=>z ⟨y.1,by
     rcases SH.mp y.2 with q|q
     ·exact absurd (q.symm.trans y.1.symm) e
     exact q⟩)]
 have l:∀{b:List Z3}{ds:List g}(a:Z3),ds.length=b.length->bu (b++[k]) (ds++[x]) a=(bu b ds a).or (if k=a then some x else none):=by
  intro b;induction b with
  |nil=>
   intro ds a h;cases ds with
   |nil=>simp[bu]
   |cons d ds=>simp at h
  |cons i b c=>
   intro ds a h;cases ds with
   |nil=>simp at h
   |cons d ds=>
    have c:=c (ds:=ds) a (by simpa using h);rw[Tq,Tq,bu,bu];by_cases e:i=a
    ·rw[SZ e,SZ e];rfl
    rw[Tl e,Tl e,c]
 intro b ds a h;unfold eX g9;by_cases m:k∈b
 ·rw[SZ m,SZ m,j a h];by_cases e:a=k
  ·rw[SZ ⟨e,m⟩,SZ e]
  rw[Tl (λz=>e z.1),Tl e]
 rw[Tl m,Tl m,l a h];by_cases e:a=k
 ·subst e;rw[(qc h).mpr m,SZ rfl];rfl
 rw[Tl e,Tl (λz=>e z.symm)];cases bu b ds a<;>rfl
theorem Jp{b:Type}{k:Z3}{x:b}{a:List Z3}{c:List b}(h:c.length=a.length):(g9 a c k x).length=(eX a k).length/\(eX a k).length<=a.length+1:=by
 unfold eX g9;by_cases m:k∈a
 ·rw[SZ m,SZ m,CZ];exact⟨h,by lia⟩
 rw[Tl m,Tl m,Sz,Sz,h];exact⟨rfl,SD _⟩
theorem hX{g h:Type}(f:g->h):∀(b:List Z3)(c:List g)(a:Z3),bu b (c.map f) a=(bu b c a).map f
 |[],_,_=>by simp[bu]
 |_::_,[],_=>by simp[bu]
 |i::b,d::c,a=>by
  rw[SJ,bu,bu];by_cases e:i=a
  ·rw[SZ e,SZ e];rfl
  rw[Tl e,Tl e,hX f b c a]
theorem Jq{c g:Type}(f:c->g)(k:Z3)(x:c)(a:List Z3)(b:List c):(g9 a b k x).map f=g9 a (b.map f) k (f x):=by
 have h:∀(a:List Z3)(b:List c),(f4 a b k x).map f=f4 a (b.map f) k (f x):=by
  intro a;induction a with
  |nil=>intro b;simp[f4]
  |cons i a j=>
   intro b;cases b with
   |nil=>simp[f4]
   |cons d b=>
    rw[f4,SJ,j,SJ,f4];by_cases e:i=k
    ·rw[SZ e,SZ e]
    rw[Tl e,Tl e]
 unfold g9;by_cases m:k∈a
 ·rw[SZ m,SZ m,h]
 rw[Tl m,Tl m,SF];rfl
def vg(a:Z3)(e:ab×ab):Int:=(if a=eJ e.1 e.2 e.1 then 1 else 0)-(if a=eJ e.1 e.2 e.2 then 1 else 0)
def qg(a:Z3)(b:List (ab×ab)):Int:=(b.map (vg a)).sum
def qh(a:Z3)(b:Z5):Int:=(b.map λc=>qg a (du c)).sum
theorem Dk:∀(l:ZM),((l.sum:Int):Rat)=(l.map λx:Int=>(x:Rat)).sum
 |[]=>by simp
 |a::l=>by
  rw[S',SJ,S',<-Dk l];grind
theorem B2{b c:Z5}(h:cU b c)(a:Z3):qh a b=qh a c:=by
 have one:∀L:Z5,((qh a L:Int):Rat)=gL (λk=>if a=k then 1 else 0) L:=λL=>by
  unfold qh gL;rw[Dk,SM];congr 1;refine Ue λd _=>?_;show((qg a (du d):Int):Rat)=_
  unfold qg eY e4;rw[Dk,SM];congr 1;refine Ue λe _=>?_;show((vg a e:Int):Rat)=_
  unfold vg gW;rw[yn]
 have:=h (λk=>if a=k then 1 else 0);rw[<-one,<-one]at this;exact_mod_cast this
def nU(a:ZO):Prop:=a.length<=75/\(∀e∈du a,(a_ e.1 e.2).1≠0\/(a_ e.1 e.2).2.1≠0)/\∀p∈a,cw 4000 p
theorem Jr{g x:Int}{n:Nat}(h:g∣x)(a:x≠0)(b:SB x<=n):SB g<=n:=by
 refine intBits_le_iff.mpr (W5 ?_ (intBits_le_iff.mp b));exact VS (by lia) (Uu.mpr h)
theorem B1{l:ab}{n:Nat}(a:SB l.1<=n)(b:SB l.2.1<=n)(w:l.1≠0\/l.2.1≠0):SB (hI l)<=n:=by
 obtain⟨c,d,_⟩:=vd l;rcases w with h|h
 ·exact Jr c h a
 exact Jr d h b
theorem Js(b:List Z3)(c:ZM)(a:Z3):(bu b (c.map D.int) a).getD (.int 0)=.int ((bu b c a).getD 0):=by
 rw[hX];cases bu b c a<;>rfl
def kl(p q:ab)(t:Int):ab:=cC (p.1*q.2.2*(3-t)+q.1*p.2.2*t) (p.2.1*q.2.2*(3-t)+q.2.1*p.2.2*t) (p.2.2*q.2.2*3)
theorem Jt:eqD (.str "high") (.str "low")=false:=by
 unfold eqD;exact @decide_eq_false _ (Ua _) λh=>absurd (D.str.inj h) (by decide)
theorem Ju:eqD (.str "low") (.str "low")=true:=nE _
theorem B0{a:ZO}{k:Nat}(h:k<a.length)(b:2<=a.length):eF (a.map aS) ((k:Int)-2)=some (aS (bD a ((k+a.length-2)%a.length))):=by
 by_cases z:2<=k
 ·have e:(k+a.length-2)%a.length=k-2:=by
   rw[show k+a.length-2=(k-2)+a.length by lia,UN,Te (by lia)]
  rw[e,show((k:Int)-2)=((k-2:Nat):Int) by lia];exact nO (by lia)
 have e:(k+a.length-2)%a.length=k+a.length-2:=Te (by lia);rw[e,mK (by lia)];unfold eF ju;rw[Tl (by lia),SZ (by rw[Sv];lia)];show(a.map aS)[_]?=_
 rw[SP,Sv,show((k:Int)-2+(a.length:Int)).toNat=k+a.length-2 by lia,SY (by lia)];rfl
theorem Jv{x:Int}(h:cM x=1):0<x:=by
 unfold cM at h;split at h
 ·assumption
 split at h<;>lia
theorem fm.turn{a:ZO}(h:fm a){k:Nat}(c:k<a.length):0<bn (bD a ((k+a.length-2)%a.length)) (bD a ((k+a.length-1)%a.length)) (bD a k):=by
 have f:=h.1
 have e:((k+a.length-2)%a.length+1)%a.length=(k+a.length-1)%a.length:=by
  rw[Nat.mod_add_mod];congr 1;lia
 have b:∀d,0<d->d<a.length->k≠(k+a.length-d)%a.length:=λd g i z=>by
  by_cases y:d<=k
  ·rw[show k+a.length-d=(k-d)+a.length by lia,UN,Te (by lia)]at z;lia
  rw[Te (by lia)]at z;lia
 have:=h.2 ((k+a.length-2)%a.length) k (Uy _ (by lia)) c (b 2 (by decide) (by lia)) (by rw[e];exact b 1 (by decide) (by lia));rw[e]at this;exact Jv this
theorem BZ(p q r:ab):bn p q r=bn q r p:=by unfold bn a_;grind
theorem fm.nX{a:ZO}(h:fm a){k:Nat}(c:0<k)(b:k+1<a.length):0<bn (bD a 0) (bD a k) (bD a (k+1)):=by
 have:=h.2 k 0 (by lia) (by lia) (by lia) (by rw[Te b];lia);rw[Te b]at this;rw[BZ];exact Jv this
theorem BY{p s:ab}(f:aX p)(i:aX s)(a:Bool):cC ((1-2*(if a then 1 else 0))*(p.1*s.2.2-s.1*p.2.2)) ((1-2*(if a then 1 else 0))*(p.2.1*s.2.2-s.2.1*p.2.2)) (p.2.2*s.2.2)=if a=true then eI (nP (ej (eI s) p))else nP (ej (eI s) p):=by
 have e:ej (eI s) p=(p.1*s.2.2-s.1*p.2.2,p.2.1*s.2.2-s.2.1*p.2.2,p.2.2*s.2.2):=by
  refine fc ?_ ?_ ?_<;>simp only[ej,eI]<;>grind
 have d:(ej (eI s) p).2.2≠0:=by
  rw[e];exact S0 (SA f.1) (SA i.1)
 cases a with
 |false=>
  simp only[TL,if_false,S4,Wg,We];unfold nP;rw[e]
 |true=>
  simp only[if_true];obtain⟨g,j,b⟩:=kL d;refine(sE (M:=((1-2*1)*(p.1*s.2.2-s.1*p.2.2),(1-2*1)*(p.2.1*s.2.2-s.2.1*p.2.2),p.2.2*s.2.2)) (h:=eI (nP (ej (eI s) p))) (G:=1) (c:=g) (by decide) j (Bl (gI d)) ?_).2;rw[e]at b⊢;obtain⟨k,l,m⟩:p.1*s.2.2-s.1*p.2.2=g*(nP (p.1*s.2.2-s.1*p.2.2,p.2.1*s.2.2-s.2.1*p.2.2,p.2.2*s.2.2)).1/\p.2.1*s.2.2-s.2.1*p.2.2=g*(nP (p.1*s.2.2-s.1*p.2.2,p.2.1*s.2.2-s.2.1*p.2.2,p.2.2*s.2.2)).2.1/\p.2.2*s.2.2=g*(nP (p.1*s.2.2-s.1*p.2.2,p.2.1*s.2.2-s.2.1*p.2.2,p.2.2*s.2.2)).2.2:=⟨Uf (·.1) b,Uf (·.2.1) b,Uf (·.2.2) b⟩;refine fc ?_ ?_ ?_
  ·show 1*((1-2*1)*(p.1*s.2.2-s.1*p.2.2))=g * -(nP _).1;grind
  ·show 1*((1-2*1)*(p.2.1*s.2.2-s.2.1*p.2.2))=g * -(nP _).2.1;grind
  show 1*(p.2.2*s.2.2)=g*(nP _).2.2;grind
theorem qi(s:a8):f3 s=s.1.map λp=>if s.2.1=true then eI (nP (ej (eI s.2.2) p))else nP (ej (eI s.2.2) p):=by
 unfold f3;by_cases h:s.2.1=true
 ·rw[SZ h,SM];refine Ue λp _=>?_;rw[SZ h];rfl
 rw[Tl h];refine Ue λp _=>?_;rw[Tl h]
theorem Jx(a p:ab):bn a p p=0:=by unfold bn a_;grind
theorem fm.side{b:ZO}(h:fm b){p q:ab}(c:(p,q)∈du b):p≠q:=by
 rw[x3]at c;obtain⟨i,a,e⟩:=SI.mp c;have a:=TF.mp a;have t:=h.turn a;obtain⟨rfl,rfl⟩:=Prod.mk.inj e;intro z;rw[z,Jx]at t;lia
theorem lj.rg{m A:ab->ab}(M:lj m A){a:ZO}(b:∀p∈a,aX p)(j:∀e∈du a,(a_ e.1 e.2).1≠0\/(a_ e.1 e.2).2.1≠0):∀e∈du (a.map m),(a_ e.1 e.2).1≠0\/(a_ e.1 e.2).2.1≠0:=λe h=>by
 rw[Dg]at h;obtain⟨d,f,rfl⟩:=SI.mp h;obtain⟨k,l⟩:=lX f;obtain⟨g,c,r,i,q⟩:=M.ln d.1 d.2 (b _ k) (b _ l);obtain⟨n,o,_⟩:=Cb q;rcases M.ne _ (j d f)with w|w
 ·exact .inl λz=>S0 i w (by rw[<-n];show g*(a_ (m d.1) (m d.2)).1=0;rw[show(a_ (m d.1) (m d.2)).1=0 from z,S4])
 exact .inr λz=>S0 i w (by rw[<-o];show g*(a_ (m d.1) (m d.2)).2.1=0;rw[show(a_ (m d.1) (m d.2)).2.1=0 from z,S4])
theorem Jy(s:a8):(f3 s).length=s.1.length:=by rw[qi,Sv]
theorem s3{a:Type}{f:a->Nat}{m:Nat}:∀{l:List a},(∀x∈l,f x<=m)->(l.map f).sum<=l.length*m
 |[],_=>by simp
 |x::l,h=>by
  rw[SJ,S',SK];have c:=h x Sw;have d:=s3 (l:=l) λy b=>h y (Sx _ b);rw[Nat.add_mul,VQ];lia
theorem Jz(a b:Bool):eqD (.bl a) (.bl b)=(a==b):=by
 by_cases h:a=b
 ·subst h;rw[nE];simp
 have:eqD (.bl a) (.bl b)=false:=by
  unfold eqD;exact @decide_eq_false _ (Ua _) λz=>h (D.bl.inj z)
 rw[this];cases a<;>cases b<;>first|rfl|exact absurd rfl h
theorem JA{a:ZO}(d:fm a)(b:∀p∈a,cX 4000 p)(f:a.length<=75):nU a:=⟨f,λe c=>by
 obtain⟨g,i⟩:=lX c
 exact mV (b _ g).pt (b _ i).pt (d.side c),λp h=>(b p h).bp⟩
def cf(x:Int×Int):ab:=a_ (cC (x.1*1) (0*x.2) (x.2*1)) (cC (x.1*1) (1*x.2) (x.2*1))
def cD(x:Int×Int):ab:=a_ (cC (0*x.2) (x.1*1) (1*x.2)) (cC (1*x.2) (x.1*1) (1*x.2))
theorem l2{x y u v:Int}{m n:Nat}(c:SB x<=m)(a:SB y<=m)(d:SB u<=n)(b:SB v<=n)(e:ba x y)(f:ba u v):cw (m+n) (cC (x*v) (u*y) (y*v)):=
 cw.nP (p:=(x*v,u*y,y*v)) ⟨TE c b,by rw[Nat.add_comm];exact TE d a,TE a b⟩ (S0 (SA e.1) (SA f.1))
def ce(w a:Int×Int):Int×Int:=ee (w.1*a.2-a.1*w.2) (w.2*a.2)
noncomputable def dZ(x:Int×Int)(b:Bool)(sh:ZR):List a8:=if b then dE (ln (cf x)) (a4 (cf x)) sh else dE (λc => -ln (cf x) c) (a4 (cf x)) sh
noncomputable def f6(x:Int×Int)(b:Bool)(sh:ZR):List a8:=if b then dE (ln (cD x)) (a4 (cD x)) sh else dE (λc => -ln (cD x) c) (a4 (cD x)) sh
noncomputable def spL(s:Int×Int)(hi:Bool):Bool:=(!hi)==decide (0<s.1)
def bw(s w a:Int×Int)(b:Bool):Int×Int:=bT s (if b then ce w a else a)
def bB(s w a:Int×Int)(b:Bool):Int×Int:=if spL s b then a else ce w a
def iQ(s w a:Int×Int)(b:Bool):ab:=dr (if spL s b then(0,1)else(-(ce w a).1,(ce w a).2)) (if b then(-(bw s w a b).1,(bw s w a b).2)else(0,1))
def jB(s w a:Int×Int)(b:Bool):ab:=dr (if spL s b then(-a.1,a.2)else(0,1)) (if b then(0,1)else(-(bw s w a b).1,(bw s w a b).2))
def j2(s w a:Int×Int)(b:Bool):ab:=dr (if spL s b then(-a.1,a.2)else(0,1)) (if b then(-(bw s w a b).1,(bw s w a b).2)else(0,1))
noncomputable def jr(s w b:Int×Int)(a:Bool)(sh:ZR):List a8:=(dZ (bB s w b a) (spL s a) sh).map (lT (iQ s w b a))
noncomputable def iL(s w a:Int×Int)(hi:Bool)(sh:ZR):List a8:=(f6 (bw s w a hi) (!hi) (dZ (bB s w a hi) (!spL s hi) sh)).map (lT (jB s w a hi))
noncomputable def im(s w b:Int×Int)(a:Bool)(sh:ZR):List a8:=(f6 (bw s w b a) a (dZ (bB s w b a) (!spL s a) sh)).map (lT (j2 s w b a))
section
variable{s w a:Int×Int}
theorem BW{x:Int×Int}(a:ba s.1 s.2)(f:s.1≠0)(c:SB s.1<=21)(g:SB s.2<=21)(d:ba x.1 x.2)(h:0<x.1)(i:SB x.1<=47)(j:SB x.2<=47):ba (bT s x).1 (bT s x).2/\0<(bT s x).1/\SB (bT s x).1<=68/\SB (bT s x).2<=68:=by
 have e:=uO a d f h;obtain⟨_,_,k,l⟩:=jL (t:=(if s.1<0 then -s.1 else s.1)*x.1) (b:=s.2*x.2) (nA a.1 d.1)
 have m:SB (if s.1<0 then -s.1 else s.1)<=21:=by
  split
  ·exact TT c
  exact c
 exact⟨e.lh,e.h0,fY k (TE m i),fY l (TE g j)⟩
theorem JB(x:Int×Int)(b:Bool)(sh:ZR):(dZ x b sh).length<=sh.length:=by
 unfold dZ;cases b
 ·exact sS _
 exact sS _
theorem JC(x:Int×Int)(b:Bool)(sh:ZR):(f6 x b sh).length<=sh.length:=by
 unfold f6;cases b
 ·exact sS _
 exact sS _
end
theorem oX{b:Bool}{A B:Prop}(a:b=true->A)(c:b=false->B):if b=true then A else B:=by
 cases b with
 |true=>rw[SZ rfl];exact a rfl
 |false=>rw[Tl SW];exact c rfl
theorem qj(a:Z3->Int)(b:ZO)(rs:Z5):gL a (b::rs)=eY a b+gL a rs:=by unfold gL;rw[SJ,S']
theorem yq(b:Z3->Int):∀rs a:Z5,gL b (rs++a)=gL b rs+gL b a
 |[],a=>by rw[Tf];show _=(0:Rat)+_;grind
 |c::rs,a=>by rw[Tq,qj,qj,yq b rs a];grind
theorem rD(a:Z3->Int)(b:ZO):gL a [b]=eY a b:=by rw[qj];show _+(0:Rat)=_;grind
theorem Dl(a:Z3->Int)(f:ab->Int)(mt:ab->ab->ab):∀sh:ZR,gL a ((dE f mt sh).map λs=>s.1)=gL a (sh.map λs=>dc f mt s.1)
 |[]=>rfl
 |s::sh=>by
  have b:=Dl a f mt sh
  have e:dE f mt (s::sh)=dE f mt [s]++dE f mt sh:=by
   unfold dE;rw[<-U6,<-SF];rfl
  rw[e,SF,yq,b,SJ,qj];congr 1;cases c:(dc f mt s.1).isEmpty with
  |true=>
   rw[x0 c,W8.mp c];rfl
  |false=>
   rw[xZ c];exact rD a _
section
variable{l o:ab}{sh:ZR}{d:ZO}
theorem qk(h:cU (sh.map λs=>s.1) [d])(g:l.1≠0\/l.2.1≠0)(i:aX o)(lo:ln l o=0)(j:∀s∈sh,∀p∈s.1,aX p)(k:∀p∈d,aX p):
  cU ((dE (ln l) (a4 l) sh).map λs=>s.1) [dc (ln l) (a4 l) d]/\cU ((dE (λc => -ln l c) (a4 l) sh).map λs=>s.1) [dc (λc => -ln l c) (a4 l) d]:=by
 obtain⟨a,b⟩:=h.keep g i lo (λm e=>by
  obtain⟨s,n,rfl⟩:=SI.mp e
  exact j s n) (λm e=>by rw[SQ.mp e];exact k)
 rw[SM]at a b;exact⟨λf=>by rw[Dl];exact a f,λf=>by rw[Dl];exact b f⟩
theorem BS{g:ab}(b:0<g.2.2)(h:cU (sh.map λs=>s.1) [d])(c:∀s∈sh,∀p∈s.1,aX p)(e:∀p∈d,aX p):cU ((sh.map (lT g)).map λs=>s.1) [d.map λp=>nP (ej g p)]:=by
 have:=(Di b).iz h (λf a=>by
  obtain⟨s,i,rfl⟩:=SI.mp a
  exact c s i) (λf a=>by rw[SQ.mp a];exact e)
 rw[SM]at this;rw[SM];exact this
end
theorem BB{s:a8}(r:aX s.2.2):∃A,lj (λp=>if s.2.1=true then eI (nP (ej (eI s.2.2) p))else nP (ej (eI s.2.2) p)) A:=by
 have d:=Di (v:=eI s.2.2) r.1;by_cases h:s.2.1=true
 ·refine⟨λl=>s2 (jm (eI s.2.2) l),⟨λc l=>by rw[d.jq,rB.jq],λl t=>rB.ne _ (d.ne l t),λp f=>by rw[SZ h];exact rB.pt _ (d.pt p f),λp q f i=>?_⟩⟩;simp only[SZ h];obtain⟨g,c,u,w,e⟩:=d.ln p q f i;obtain⟨y,n,j,k,z⟩:=rB.ln _ _ (d.pt p f) (d.pt q i);refine⟨g*y,c*n,S0 u j,S0 w k,?_⟩
  have B:sc g (s2 (a_ (nP (ej (eI s.2.2) p)) (nP (ej (eI s.2.2) q))))=sc c (s2 (jm (eI s.2.2) (a_ p q))):=by
   rw[<-rB.jq,e,rB.jq]
  have o:∀(a b:Int)(x:ab),sc (a*b) x=sc a (sc b x):=λa b x=>by refine fc ?_ ?_ ?_<;>simp only[sc]<;>grind
  have m:∀(a b:Int)(x:ab),sc a (sc b x)=sc b (sc a x):=λa b x=>by refine fc ?_ ?_ ?_<;>simp only[sc]<;>grind
  rw[o,z,m,B,<-o,S8 n]
 refine⟨jm (eI s.2.2),⟨d.jq,d.ne,λp f=>by rw[Tl h];exact d.pt p f,λp q f i=>?_⟩⟩;simp only[Tl h];exact d.ln p q f i
theorem CI{l o:ab}{s:a8}(g:Z3->Int)(k:aX s.2.2)(m:l.1≠0\/l.2.1≠0)(n:aX o)(lo:ln l o=0)(i:∀p∈s.1,aX p):eY g (f3 (dc (ln l) (a4 l) s.1,s.2))+eY g (f3 (dc (λc => -ln l c) (a4 l) s.1,s.2))=eY g (f3 s):=by
 obtain⟨A,M⟩:=BB k
 have r:∀p q,aX p->aX q->ln l p*ln l q<0->aX (a4 l p q):=λp q d j c=>by
  rw[<-oQ d j];exact gI (oR d j c)
 have kp:∀f:ab->Int,(∀p q,f p*f q<0->ln l p*ln l q<0)->∀p∈dc f (a4 l) s.1,aX p:=λf t p d=>by
  unfold dc at d;split at d
  ·rcases xJ d with⟨h,_⟩|⟨a,u,b,v,c,e⟩
   ·exact i p h
   rw[e];exact r a b (i a u) (i b v) (t a b c)
  cases d
 have w:=M.ring g (kp (ln l) λp q h=>h);have x:=M.ring g (kp (λc => -ln l c) λp q h=>by rwa[UB]at h);have y:=M.ring g i;rw[qi,qi,qi,w,x,y];exact B9 _ m n lo i
theorem CH{g p q:ab}(i:aX g)(m:aX p)(n:aX q):nP (ej (eI (nP (ej g q))) (nP (ej g p)))=nP (ej (eI q) p):=by
 have j:∀{a b:ab},aX a->aX b->(ej a b).2.2≠0:=λA B=>S0 (SA B.1) (SA A.1);obtain⟨d,C,o⟩:=kL (j i m);obtain⟨e,E,r⟩:=kL (j i n);obtain⟨f,F,s⟩:=kL (j n.trn m);have H:aX (nP (ej (eI q) p)):=gI (j n.trn m);obtain⟨t,u,k⟩:(ej g p).1=d*(nP (ej g p)).1/\(ej g p).2.1=d*(nP (ej g p)).2.1/\(ej g p).2.2=d*(nP (ej g p)).2.2:=⟨Uf (·.1) o,Uf (·.2.1) o,Uf (·.2.2) o⟩;obtain⟨v,w,l⟩:(ej g q).1=e*(nP (ej g q)).1/\(ej g q).2.1=e*(nP (ej g q)).2.1/\(ej g q).2.2=e*(nP (ej g q)).2.2:=⟨Uf (·.1) r,Uf (·.2.1) r,Uf (·.2.2) r⟩;obtain⟨x,y,z⟩:(ej (eI q) p).1=f*(nP (ej (eI q) p)).1/\(ej (eI q) p).2.1=f*(nP (ej (eI q) p)).2.1/\(ej (eI q) p).2.2=f*(nP (ej (eI q) p)).2.2:=⟨Uf (·.1) s,Uf (·.2.1) s,Uf (·.2.2) s⟩;generalize nP (ej g p)=a at *;generalize nP (ej g q)=b at *;generalize nP (ej (eI q) p)=h at *;simp only[ej,eI]at t u k v w l x y z;refine(sE (M:=ej (eI b) a) (h:=h) (G:=d*e) (c:=g.2.2*g.2.2*f) (S0 C E) (S0 (S0 (SA i.1) (SA i.1)) F) H ?_).2;refine fc ?_ ?_ ?_<;>simp only[sc,ej,eI]
 ·have:d*e*(a.1*b.2.2 + -b.1*a.2.2)=(d*a.1)*(e*b.2.2)-(e*b.1)*(d*a.2.2):=by grind
  rw[this,<-t,<-l,<-v,<-k];have:g.2.2*g.2.2*f*h.1=g.2.2*g.2.2*(f*h.1):=by grind
  rw[this,<-x];grind
 ·have:d*e*(a.2.1*b.2.2 + -b.2.1*a.2.2)=(d*a.2.1)*(e*b.2.2)-(e*b.2.1)*(d*a.2.2):=by grind
  rw[this,<-u,<-l,<-w,<-k];have:g.2.2*g.2.2*f*h.2.1=g.2.2*g.2.2*(f*h.2.1):=by grind
  rw[this,<-y];grind
 have:d*e*(a.2.2*b.2.2)=(d*a.2.2)*(e*b.2.2):=by grind
 rw[this,<-k,<-l];have:g.2.2*g.2.2*f*h.2.2=g.2.2*g.2.2*(f*h.2.2):=by grind
 rw[this,<-z];grind
theorem CG{g:ab}{s:a8}(a:aX g)(b:aX s.2.2)(c:∀p∈s.1,aX p):f3 (lT g s)=f3 s:=by
 rw[qi,qi];unfold lT;dsimp only;rw[SM];refine Ue λp d=>?_;show(if s.2.1=true then eI (nP (ej (eI (nP (ej g s.2.2))) (nP (ej g p))))else nP (ej (eI (nP (ej g s.2.2))) (nP (ej g p))))=_
 rw[CH a (c p d) b]
def eL(a:Z3->Int)(b:Bool)(L:ZR):Rat:=gL a ((L.filter λs=>s.2.1==b).map f3)
theorem ql(a:Z3->Int)(b:Bool)(L M:ZR):eL a b (L++M)=eL a b L+eL a b M:=by unfold eL;rw[U6,SF,yq]
theorem JD(a:Z3->Int)(b:Bool):eL a b []=0:=rfl
theorem yr(a:Z3->Int)(b:Bool)(s:a8):eL a b [s]=if s.2.1==b then eY a (f3 s)else 0:=by
 unfold eL;by_cases h:(s.2.1==b)=true
 ·rw[SZ h,WY (by exact h)];exact rD a _
 rw[Tl h,WZ (by exact h)];rfl
theorem Dn(a:Z3->Int)(b:Bool)(s:a8)(L:ZR):eL a b (s::L)=eL a b [s]+eL a b L:=by rw[<-ql];rfl
theorem yt(a:Z3->Int)(b:Bool){g:ab}(c:aX g):∀{L:ZR},(∀s∈L,aX s.2.2/\∀p∈s.1,aX p)->eL a b (L.map (lT g))=eL a b L
 |[],_=>rfl
 |s::L,h=>by
  obtain⟨d,e⟩:=h s Sw;rw[SJ,Dn,Dn a b s,yt a b c λt f=>h t (Sx _ f),yr,yr,CG c d e];rfl
theorem Do(a:Z3->Int)(b:Bool){l o:ab}(d:l.1≠0\/l.2.1≠0)(g:aX o)(lo:ln l o=0):∀{L:ZR},(∀s∈L,aX s.2.2/\∀p∈s.1,aX p)->eL a b (dE (ln l) (a4 l) L)+eL a b (dE (λc => -ln l c) (a4 l) L)=eL a b L
 |[],_=>by show eL a b []+eL a b []=_;rw[JD];grind
 |s::L,h=>by
  obtain⟨i,j⟩:=h s Sw;have k:=Do a b d g lo λt m=>h t (Sx _ m);have e:∀f:ab->Int,dE f (a4 l) (s::L)=dE f (a4 l) [s]++dE f (a4 l) L:=λf=>u3 (f:=f) [s] L
  have one:∀f:ab->Int,eL a b (dE f (a4 l) [s])=if s.2.1==b then eY a (f3 (dc f (a4 l) s.1,s.2))else 0:=λf=>by
   cases c:(dc f (a4 l) s.1).isEmpty with
   |true=>
    rw[x0 c,JD,W8.mp c,qi];split
    ·rfl
    rfl
   |false=>rw[xZ c,yr]
  have n:=CI a i d g lo j;rw[e,e,ql,ql,one,one,Dn,yr,<-k];by_cases c:(s.2.1==b)=true
  ·rw[SZ c,SZ c,SZ c,<-n];grind
  rw[Tl c,Tl c,Tl c];grind
theorem qm{x:Int×Int}(l:ba x.1 x.2):((cf x).1≠0\/(cf x).2.1≠0)/\aX (cC (x.1*1) (0*x.2) (x.2*1))/\ln (cf x) (cC (x.1*1) (0*x.2) (x.2*1))=0:=by
 have c:x.2*1≠0:=by have:=l.1;lia
 have p1:aX (cC (x.1*1) (0*x.2) (x.2*1)):=gI (p:=(x.1*1,0*x.2,x.2*1)) c;have p2:aX (cC (x.1*1) (1*x.2) (x.2*1)):=gI (p:=(x.1*1,1*x.2,x.2*1)) c
 have e:cC (x.1*1) (0*x.2) (x.2*1)≠cC (x.1*1) (1*x.2) (x.2*1):=λz=>by
  obtain⟨_,h,d,_⟩:=lR (a:=x.1*1) (b:=0*x.2) c;obtain⟨q,i,f,_⟩:=lR (a:=x.1*1) (b:=1*x.2) c;rw[z,f]at d;have g:=q.1;have j:=l.1;have:1*x.2*(cC (x.1*1) (1*x.2) (x.2*1)).2.2=0:=by rw[d];simp
  have:=SE (show 0<1*x.2 by lia) g;lia
 refine⟨mV p1 p2 e,p1,?_⟩;unfold cf ln a_;grind
theorem qn{x:Int×Int}(l:ba x.1 x.2):((cD x).1≠0\/(cD x).2.1≠0)/\aX (cC (0*x.2) (x.1*1) (1*x.2))/\ln (cD x) (cC (0*x.2) (x.1*1) (1*x.2))=0:=by
 have c:1*x.2≠0:=by have:=l.1;lia
 have p1:aX (cC (0*x.2) (x.1*1) (1*x.2)):=gI (p:=(0*x.2,x.1*1,1*x.2)) c;have p2:aX (cC (1*x.2) (x.1*1) (1*x.2)):=gI (p:=(1*x.2,x.1*1,1*x.2)) c
 have e:cC (0*x.2) (x.1*1) (1*x.2)≠cC (1*x.2) (x.1*1) (1*x.2):=λz=>by
  obtain⟨_,d,h,_⟩:=lR (a:=0*x.2) (b:=x.1*1) c;obtain⟨q,f,i,_⟩:=lR (a:=1*x.2) (b:=x.1*1) c;rw[z,f]at d;have g:=q.1;have j:=l.1;have:1*x.2*(cC (1*x.2) (x.1*1) (1*x.2)).2.2=0:=by rw[d];simp
  have:=SE (show 0<1*x.2 by lia) g;lia
 refine⟨mV p1 p2 e,p1,?_⟩;unfold cD ln a_;grind
theorem CE(a:Z3->Int)(b c:Bool){x:Int×Int}(l:ba x.1 x.2){L:ZR}(h:∀s∈L,aX s.2.2/\∀p∈s.1,aX p):eL a b (dZ x c L)+eL a b (dZ x (!c) L)=eL a b L:=by
 obtain⟨d,e,f⟩:=qm l;have:=Do a b d e f h;cases c with
 |true=>exact this
 |false=>rw[<-this];show eL a b (dE _ _ L)+eL a b (dE _ _ L)=_;grind
theorem CD(a:Z3->Int)(b c:Bool){x:Int×Int}(l:ba x.1 x.2){L:ZR}(h:∀s∈L,aX s.2.2/\∀p∈s.1,aX p):eL a b (f6 x c L)+eL a b (f6 x (!c) L)=eL a b L:=by
 obtain⟨d,e,f⟩:=qn l;have:=Do a b d e f h;cases c with
 |true=>exact this
 |false=>rw[<-this];show eL a b (dE _ _ L)+eL a b (dE _ _ L)=_;grind
theorem rE(a:Rat):(0:Rat)/a=0:=by grind
theorem JE(d:Rat):d<0\/d=0\/0<d:=by grind
def cN(p:ab)(x y:Rat):Prop:=aX p/\kQ p=x/\kR p=y
theorem Dp{a b c d:Int}(e:0<b)(f:0<d)(h:(a:Rat)/b=(c:Rat)/d):a*d=c*b:=by
 have g:=eW e;have i:=eW f;have:(a:Rat)*d=c*b:=by grind
 exact_mod_cast this
theorem cN.eq{p q:ab}{x y:Rat}(h:cN p x y)(g:cN q x y):p=q:=by
 obtain⟨a,c,d⟩:=h;obtain⟨b,e,f⟩:=g;obtain⟨i,j,k⟩:=wK a b (Dp a.1 b.1 (c.trans e.symm)) (Dp a.1 b.1 (d.trans f.symm));exact fc i j k
theorem cN.to{p:ab}{x y a b:Rat}(h:cN p x y)(c:x=a)(d:y=b):cN p a b:=by subst c d;exact h
def bv(r:Int×Int):Rat:=(r.1:Rat)/r.2
theorem s4{a b n:Int}(c:0<n):cN (cC a b n) ((a:Rat)/n) ((b:Rat)/n):=by
 obtain⟨p,d,e,_⟩:=lR (a:=a) (b:=b) (SA c);have f:=eW c;have g:=eW p.1;have h:(((cC a b n).1:Int):Rat)*n=a*((cC a b n).2.2:Int):=by exact_mod_cast d
 have i:(((cC a b n).2.1:Int):Rat)*n=b*((cC a b n).2.2:Int):=by exact_mod_cast e
 refine⟨p,?_,?_⟩
 ·unfold kQ;grind
 unfold kR;grind
theorem vh{w h:Int×Int}(a:0<w.2)(b:0<h.2):cN (dr w h) (bv w) (bv h):=by
 have c:=eW a;have d:=eW b;refine(s4 (SE a b)).to ?_ ?_<;>(unfold bv;push_cast;grind)
theorem yu{w:Int×Int}(l:ba w.1 w.2):cN (w.1,0,w.2) (bv w) 0:=⟨xy l,rfl,by unfold kR;show((0:Int):Rat)/_=0;exact rE _⟩
theorem yv{w:Int×Int}(l:ba w.1 w.2):cN (0,w.1,w.2) 0 (bv w):=⟨xz l,by unfold kQ;show((0:Int):Rat)/_=0;exact rE _,rfl⟩
theorem yw:cN (0,0,1) 0 0:=⟨⟨by decide,by decide⟩,by unfold kQ;exact rE _,by unfold kR;exact rE _⟩
theorem eB{g p:ab}{a b x y:Rat}(d:cN g a b)(e:cN p x y):cN (nP (ej g p)) (x+a) (y+b):=by
 obtain⟨c,f,g3⟩:=d;obtain⟨p1,p2,h⟩:=e;have i:=eW c.1;have j:=eW p1.1;refine(s4 (a:=(ej g p).1) (b:=(ej g p).2.1) (n:=(ej g p).2.2) (SE p1.1 c.1)).to ?_ ?_
 ·rw[<-f,<-p2];unfold kQ ej;dsimp only;push_cast;grind
 rw[<-g3,<-h];unfold kR ej;dsimp only;push_cast;grind
theorem JF{p q r:ab}{a b c d e f:Rat}(i:cN p a b)(j:cN q c d)(l:cN r e f):∃k:Rat,0<k/\((bn p q r:Int):Rat)=k*((c-a)*(f-b)-(d-b)*(e-a)):=by
 obtain⟨p1,p2,m⟩:=i;obtain⟨g,n,o⟩:=j;obtain⟨h,s,t⟩:=l;have v:=eW p1.1;have u:=eW g.1;have w:=eW h.1;refine⟨((p.2.2*q.2.2*r.2.2:Int):Rat),?_,?_⟩
 ·have:=SE (SE p1.1 g.1) h.1;exact_mod_cast this
 rw[<-p2,<-m,<-n,<-o,<-s,<-t];unfold bn a_ kQ kR;dsimp only;push_cast;grind
section
variable{X:Int×Int}{c:ab}{x y:Rat}
theorem vi(l:ba X.1 X.2)(d:cN c x y):∃k:Rat,0<k/\((ln (cf X) c:Int):Rat)=k*(bv X-x):=by
 have g:=eW l.1;have a:cN (cC (X.1*1) (0*X.2) (X.2*1)) (bv X) 0:=(s4 (by have:=l.1;lia)).to (by unfold bv;simp) (by simp;exact rE _);have b:cN (cC (X.1*1) (1*X.2) (X.2*1)) (bv X) 1:=(s4 (by have:=l.1;lia)).to (by unfold bv;simp) (by simp;grind);obtain⟨k,f,e⟩:=JF a b d;exact⟨k,f,by show((bn _ _ c:Int):Rat)=_;rw[e];grind⟩
theorem s5(l:ba X.1 X.2)(d:cN c x y):∃k:Rat,0<k/\((ln (cD X) c:Int):Rat)=k*(y-bv X):=by
 have g:=eW l.1;have a:cN (cC (0*X.2) (X.1*1) (1*X.2)) 0 (bv X):=(s4 (by have:=l.1;lia)).to (by simp;exact rE _) (by unfold bv;simp);have b:cN (cC (1*X.2) (X.1*1) (1*X.2)) 1 (bv X):=(s4 (by have:=l.1;lia)).to (by simp;grind) (by unfold bv;simp);obtain⟨k,f,e⟩:=JF a b d;exact⟨k,f,by show((bn _ _ c:Int):Rat)=_;rw[e];grind⟩
end
theorem rF{n:Int}{k d:Rat}(a:0<k)(e:(n:Rat)=k*d)(h:0<d):0<n:=by
 have:(0:Rat)<n:=by rw[e];exact US a h
 exact_mod_cast this
theorem s6{n:Int}{k d:Rat}(a:0<k)(e:(n:Rat)=k*d)(h:d<0):n<0:=by
 have:0 < -n:=rF a (d :=-d) (by push_cast;rw[e];grind) (by grind);lia
theorem Dq{n:Int}{k d:Rat}(e:(n:Rat)=k*d)(h:d=0):n=0:=by
 rw[h]at e;have:(n:Rat)=0:=by rw[e];grind
 exact_mod_cast this
section
variable{X:Int×Int}{c p q:ab}{x y g f i j:Rat}
theorem s7(l:ba X.1 X.2)(a:cN c x y)(h:x<bv X):0<ln (cf X) c:=by
 obtain⟨k,b,e⟩:=vi l a;exact rF b e (by grind)
theorem s8(l:ba X.1 X.2)(a:cN c x y)(h:bv X<x):ln (cf X) c<0:=by
 obtain⟨k,b,e⟩:=vi l a;exact s6 b e (by grind)
theorem s9(l:ba X.1 X.2)(a:cN c x y)(h:bv X<y):0<ln (cD X) c:=by
 obtain⟨k,b,e⟩:=s5 l a;exact rF b e (by grind)
theorem ta(l:ba X.1 X.2)(a:cN c x y)(h:y<bv X):ln (cD X) c<0:=by
 obtain⟨k,b,e⟩:=s5 l a;exact s6 b e (by grind)
theorem yx(l:ba X.1 X.2)(a:cN c x y)(h:y=bv X):ln (cD X) c=0:=by
 obtain⟨k,b,e⟩:=s5 l a;exact Dq e (by grind)
theorem qp(l:ba X.1 X.2)(c:cN p g f)(m:cN q i j)(h:ln (cf X) p*ln (cf X) q<0)(G:(y-f)*(i-g)=(bv X-g)*(j-f)):cN (a4 (cf X) p q) (bv X) y:=by
 have t:aX (a4 (cf X) p q):=by rw[<-oQ c.1 m.1];exact gI (oR c.1 m.1 h)
 obtain⟨a,b,H,B,C⟩:=IC (sO h) c.1.1 m.1.1 t.1;have u:cN (a4 (cf X) p q) (kQ (a4 (cf X) p q)) (kR (a4 (cf X) p q)):=⟨t,rfl,rfl⟩;obtain⟨k,v,e⟩:=vi l u;rw[u0 h]at e
 have w:kQ (a4 (cf X) p q)=bv X:=by
  have I:k≠0:=by intro z;rw[z]at v;exact absurd v (by decide)
  have:k*(bv X-kQ (a4 (cf X) p q))=0:=by rw[<-e];rfl
  grind
 have J:i-g≠0:=λz=>by
  obtain⟨K,x,o⟩:=vi l c;obtain⟨L,A,r⟩:=vi l m;have E:i=g:=by grind
  rw[E]at r;rcases JE (bv X-g)with d|d|d
  ·have n:=s6 x o d;have s:=s6 A r d;have:=Uz n s;lia
  ·have n:=Dq o d;rw[n,T3]at h;lia
  have n:=rF x o d;have s:=rF A r d;have:=SE n s;lia
 refine u.to w ?_;rw[C,c.2.2,m.2.2];rw[B,c.2.1,m.2.1]at w;have F:a=1-b:=by grind
 subst F;grind
theorem yy(l:ba X.1 X.2)(c:cN p g f)(m:cN q i j)(h:ln (cD X) p*ln (cD X) q<0)(G:(x-g)*(j-f)=(bv X-f)*(i-g)):cN (a4 (cD X) p q) x (bv X):=by
 have t:aX (a4 (cD X) p q):=by rw[<-oQ c.1 m.1];exact gI (oR c.1 m.1 h)
 obtain⟨a,b,H,B,C⟩:=IC (sO h) c.1.1 m.1.1 t.1;have u:cN (a4 (cD X) p q) (kQ (a4 (cD X) p q)) (kR (a4 (cD X) p q)):=⟨t,rfl,rfl⟩;obtain⟨k,v,e⟩:=s5 l u;rw[u0 h]at e
 have w:kR (a4 (cD X) p q)=bv X:=by
  have I:k≠0:=by intro z;rw[z]at v;exact absurd v (by decide)
  have:k*(kR (a4 (cD X) p q)-bv X)=0:=by rw[<-e];rfl
  grind
 have J:j-f≠0:=λz=>by
  obtain⟨K,y,o⟩:=s5 l c;obtain⟨L,A,r⟩:=s5 l m;have E:j=f:=by grind
  rw[E]at r;rcases JE (f-bv X)with d|d|d
  ·have n:=s6 y o d;have s:=s6 A r d;have:=Uz n s;lia
  ·have n:=Dq o d;rw[n,T3]at h;lia
  have n:=rF y o d;have s:=rF A r d;have:=SE n s;lia
 refine u.to ?_ w;rw[B,c.2.1,m.2.1];rw[C,c.2.2,m.2.2]at w;have F:a=1-b:=by grind
 subst F;grind
end
section
variable{f:ab->Int}{mt:ab->ab->ab}{a b c d:ab}
theorem yz:dD f mt [a,b,c]=kp f a++cJ f mt a b++(kp f b++cJ f mt b c++(kp f c++cJ f mt c a++[])):=rfl
theorem qr:dD f mt [a,b,c,d]=kp f a++cJ f mt a b++(kp f b++cJ f mt b c++(kp f c++cJ f mt c d++(kp f d++cJ f mt d a++[]))):=rfl
theorem gM(h:0<=f a):kp f a=[a]:=by unfold kp;rw[SZ h]
theorem i4(h:f a<0):kp f a=[]:=by unfold kp;rw[Tl (by lia)]
theorem jU(h:(0<f a/\f b<0)\/(f a<0/\0<f b)):cJ f mt a b=[mt a b]:=by
 unfold cJ;rcases h with⟨c,d⟩|⟨c,d⟩
 ·rw[SZ (S1 c d)]
 rw[SZ (T5 c d)]
theorem gf(h:(0<=f a/\0<=f b)\/(f a<=0/\f b<=0)):cJ f mt a b=[]:=by
 unfold cJ;rcases h with⟨c,d⟩|⟨c,d⟩
 ·rw[Tl (by have:=Tw c d;lia)]
 rw[Tl (by have:=Vm c d;lia)]
theorem l5{a:ZO}(p:ab)(b:p∈a)(h:0<f p):dc f mt a=dD f mt a:=x4 ⟨p,b,h⟩
theorem JH(d:0<f a)(e:f b<0)(g:f c<0):dc f mt [a,b,c]=[a,mt a b,mt c a]:=by
 rw[l5 a (by simp) d,yz,gM (by lia),jU (.inl ⟨d,e⟩),i4 e,gf (.inr ⟨by lia,by lia⟩),i4 g,jU (.inr ⟨g,d⟩)];rfl
theorem JI(d:f a<0)(e:0<f b)(g:0<f c):dc f mt [a,b,c]=[mt a b,b,c,mt c a]:=by
 rw[l5 b (by simp) e,yz,i4 d,jU (.inr ⟨d,e⟩),gM (by lia),gf (.inl ⟨by lia,by lia⟩),gM (by lia),jU (.inl ⟨g,d⟩)];rfl
theorem JJ(e:f a<0)(d:0<f b)(g:f c<0):dc f mt [a,b,c]=[mt a b,b,mt b c]:=by
 rw[l5 b (by simp) d,yz,i4 e,jU (.inr ⟨e,d⟩),gM (by lia),jU (.inl ⟨d,g⟩),i4 g,gf (.inr ⟨by lia,by lia⟩)];rfl
theorem JK(e:0<f a)(d:f b<0)(g:0<f c):dc f mt [a,b,c]=[a,mt a b,mt b c,c]:=by
 rw[l5 a (by simp) e,yz,gM (by lia),jU (.inl ⟨e,d⟩),i4 d,jU (.inr ⟨d,g⟩),gM (by lia),gf (.inl ⟨by lia,by lia⟩)];rfl
theorem CC(h:f a<0)(e:f b<0)(g:0<f c)(i:f d=0):dc f mt [a,b,c,d]=[mt b c,c,d]:=by
 rw[l5 c (by simp) g,qr,i4 h,gf (.inr ⟨by lia,by lia⟩),i4 e,jU (.inr ⟨e,g⟩),gM (by lia),gf (.inl ⟨by lia,by lia⟩),gM (by lia),gf (.inr ⟨by lia,by lia⟩)];rfl
theorem CB(g:0<f a)(h:0<f b)(e:f c<0)(i:f d=0):dc f mt [a,b,c,d]=[a,b,mt b c,d]:=by
 rw[l5 a (by simp) g,qr,gM (by lia),gf (.inl ⟨by lia,by lia⟩),gM (by lia),jU (.inl ⟨h,e⟩),i4 e,gf (.inr ⟨by lia,by lia⟩),gM (by lia),gf (.inl ⟨by lia,by lia⟩)];rfl
theorem CA(e:0<f a)(i:f b=0)(h:f c<0)(g:f d<0):dc f mt [a,b,c,d]=[a,b,mt d a]:=by
 rw[l5 a (by simp) e,qr,gM (by lia),gf (.inl ⟨by lia,by lia⟩),gM (by lia),gf (.inr ⟨by lia,by lia⟩),i4 h,gf (.inr ⟨by lia,by lia⟩),i4 g,jU (.inr ⟨g,e⟩)];rfl
theorem CO(e:f a<0)(i:f b=0)(g:0<f c)(h:0<f d):dc f mt [a,b,c,d]=[b,c,d,mt d a]:=by
 rw[l5 c (by simp) g,qr,i4 e,gf (.inr ⟨by lia,by lia⟩),gM (by lia),gf (.inl ⟨by lia,by lia⟩),gM (by lia),gf (.inl ⟨by lia,by lia⟩),gM (by lia),jU (.inl ⟨h,e⟩)];rfl
theorem yD(e:f a<0)(h:f b<0)(i:f c=0)(g:0<f d):dc f mt [a,b,c,d]=[c,d,mt d a]:=by
 rw[l5 d (by simp) g,qr,i4 e,gf (.inr ⟨by lia,by lia⟩),i4 h,gf (.inr ⟨by lia,by lia⟩),gM (by lia),gf (.inl ⟨by lia,by lia⟩),gM (by lia),jU (.inl ⟨g,e⟩)];rfl
theorem yC(e:0<f a)(h:0<f b)(i:f c=0)(g:f d<0):dc f mt [a,b,c,d]=[a,b,c,mt d a]:=by
 rw[l5 a (by simp) e,qr,gM (by lia),gf (.inl ⟨by lia,by lia⟩),gM (by lia),gf (.inl ⟨by lia,by lia⟩),gM (by lia),gf (.inr ⟨by lia,by lia⟩),i4 g,jU (.inr ⟨g,e⟩)];rfl
theorem yp(i:f a=0)(e:0<f b)(g:f c<0)(h:f d<0):dc f mt [a,b,c,d]=[a,b,mt b c]:=by
 rw[l5 b (by simp) e,qr,gM (by lia),gf (.inl ⟨by lia,by lia⟩),gM (by lia),jU (.inl ⟨e,g⟩),i4 g,gf (.inr ⟨by lia,by lia⟩),i4 h,gf (.inr ⟨by lia,by lia⟩)];rfl
theorem yh(h:f a=0)(e:f b<0)(g:0<f c)(i:0<f d):dc f mt [a,b,c,d]=[a,mt b c,c,d]:=by
 rw[l5 c (by simp) g,qr,gM (by lia),gf (.inr ⟨by lia,by lia⟩),i4 e,jU (.inr ⟨e,g⟩),gM (by lia),gf (.inl ⟨by lia,by lia⟩),gM (by lia),gf (.inl ⟨by lia,by lia⟩)];rfl
end
theorem yA{t b:Int}(a:0<b):bv (ee t b)=(t:Rat)/b:=by
 obtain⟨l,e,_,_⟩:=jL (t:=t) (b:=b) (SA a);have c:=eW a;have d:=eW l.1;have f:(((ee t b).1:Int):Rat)*b=t*((ee t b).2:Int):=by exact_mod_cast e
 unfold bv;grind
theorem yg(a b:Int):bv (-a,b) = -bv (a,b):=by unfold bv;push_cast;grind
theorem oY{r:Int×Int}(h:0<r.1)(c:0<r.2):0<bv r:=by
 have a:(0:Rat)<r.1:=by exact_mod_cast h
 have b:(0:Rat)<r.2:=by exact_mod_cast c
 unfold bv;rw[Rat.div_def];exact US a (Rat.inv_pos.mpr b)
section
variable{g:ab}{L:ZR}{ring:ZO}
theorem nZ{a:ZO}(b:aX g)(h:cU (L.map λs=>s.1) [ring])(c:∀s∈L,∀p∈s.1,aX p)(d:∀p∈ring,aX p)(e:ring.map (λp=>nP (ej g p))=a):cU ((L.map (lT g)).map λs=>s.1) [a]:=by
 rw[<-e];exact BS b.1 h c d
theorem Ds{a:ab}{r:ZO}(b:aX g)(h:cU (L.map λs=>s.1) [ring])(c:∀s∈L,∀p∈s.1,aX p)(d:∀p∈ring,aX p)(e:ring.map (λp=>nP (ej g p))=r++[a]):cU ((L.map (lT g)).map λs=>s.1) [a::r]:=λf=>by
 have:=nZ b h c d e f;rw[this,rD,rD,Jn]
end
theorem qs{a b c d e f:ab}(g:a=d)(h:b=e)(i:c=f):[a,b,c]=[d,e,f]:=by rw[g,h,i]
theorem yB{a b c d e f g h:ab}(i:a=e)(j:b=f)(k:c=g)(l:d=h):[a,b,c,d]=[e,f,g,h]:=by rw[i,j,k,l]
theorem l6{a b c:ab}{P:ab->Prop}(d:P a)(e:P b)(f:P c):∀p∈[a,b,c],P p:=by simp;exact⟨d,e,f⟩
theorem qt{a b c d:ab}{P:ab->Prop}(e:P a)(f:P b)(g:P c)(h:P d):∀p∈[a,b,c,d],P p:=by simp;exact⟨e,f,g,h⟩
section
variable{X:aU}
theorem ye:nn X (.builtin "sorted") (λf H Q=>∃(p:TD)(c:ZM),f=[.ref p]/\H p=some (.lst (c.map V.int))/\c.length<64/\∀a:ZM,a.Perm c->a.Pairwise (· <= ·)->∀l,H l=none->Q (.ref l) (ed H l (.lst (a.map V.int)))):=by
 intro x s y H f z Q I r h;obtain⟨p,c,rfl,j,A,q⟩:=h;obtain⟨u,rfl,k⟩:=e3 r;cases k;obtain⟨d,g,m,B⟩:=I.list (cE.of j);have n:=g.length;rw[Sv]at n;refine sorted_ints m.isList (fU g) (by lia) λb a o i t=>?_;obtain⟨e,v⟩:=sortedAll_at s.heap d b;have C:=i.length_eq;exact⟨.ref (s.heap.objs.size+1),_,I.laid (t':=s.toks) (λ_ _=>sortedAll_old) (Ui _) (show gx X.prog X.w _ _ _ (.lst (a.map V.int))from⟨by rw[Sv,XS];lia,b.toList,e,Bc o,v⟩),rfl,q a i t _ (I.eg.fresh (Ui _))⟩
end
section
variable{X:aU}{e:Wp}{u:bb}{p pos:Pos}
def yd(u:bb):cK:=λc k=>u c λx=>∃a:ZM,x=.lst (a.map D.int)/\a.length<64/\∀b:ZM,b.Perm a->b.Pairwise (· <= ·)->k (b.map D.int)
theorem yc(b:bt X e u)(i:eu X "sorted")(j:X.mg "sorted"=none)(f:eD X e []:=by rfl):j6 X (.Call (.Name "sorted" p) [e] [] pos) (yd u):=by
 obtain⟨_,l,m⟩:=b;refine⟨_,pw ye i j (by decide +kernel) (d2 l e1 f) (by decide) (by decide) f rfl,λn k h R W B H o Q e q=>?_⟩;refine m n _ h R W B H o _ e λd v r L s g t w=>?_;obtain⟨x,rfl,y,z⟩:=s;obtain⟨a,M,rfl,b,A⟩:=w.eO;have C:=wV A;subst C;refine⟨a,x,rfl,g.bh _ _ b,y,λc p1 p2 p E=>?_⟩;obtain⟨F,G,I,J,K⟩:=g.iT E (b_.ints c);exact q _ p _ r _ (z c p1 p2) F t G I J (b_.ints c) K
end
section
variable{X:aU}
def yb:V->ZQ->al->cn->Prop:=λx d H Q=>∃l b a c,x=.ref l/\d=[.ref b]/\H l=some (.lst a)/\H b=some (.tup c)/\a.length+c.length<=TI/\Q .non (ed H l (.lst (a++c)))
theorem x_:sk X "list.extend" yb:=by
 intro A s B H x C v E Q I i j h;obtain⟨l,b,G,J,rfl,rfl,d,k,K,q⟩:=h;cases i;obtain⟨u,rfl,m⟩:=j.one;cases m;obtain⟨z,its,n,r,L,e⟩:=I.gA d;obtain⟨M,a,f,o⟩:=I.eg b _ k;have N:=f.length;obtain⟨p,g,t,O,c⟩:=o;have w:its.toArray.size+a.toArray.size<=TI:=by rw[SV,SV];lia
 have y:¬(!its.toArray.isEmpty&&Builtin.List.listTooLong (its.toArray.size+a.toArray.size))=true:=by
  rw[F5 w,Bool.and_false];exact SW
 refine XH F.slot_list_extend ⟨_,e,rfl⟩ F.entry_list_extend ?_ (F.args_list_extend_2 _ _);show wpAny _ _ (Builtin.List.listExtendWith (.ref l) (.ref b) .none) _ _ s
 unfold Builtin.List.listExtendWith;refine wp (wpAny_typeOf (T:="tuple") ⟨p,g,t⟩ ?_);rw[SZ (by rw[show(Value.type "tuple"==Value.type "tuple")=true from rfl];simp)];refine wp (Y0 g c ?_);refine wp (Y0 e rfl ?_);rw[Tl y];refine wp (Zm e rfl ?_ (by rw[SV];lia) (by rw[Array.size_append];lia));refine SC ⟨_,rfl,?_⟩;refine⟨.non,_,I.iY (t':=s.toks) (its':=its++a) d e (by simp) (r.append f) ?_,rfl,q⟩;rw[Sz];lia
end
section
section
variable{K:Su}{B:al}
theorem b_.eraseIdx:∀{a:ZQ}{b:ZP}(i:Nat),b_ K B a b->b_ K B (a.eraseIdx i) (b.eraseIdx i)
 |_,_,_,.nil=>.nil
 |_,_,0,.cons _ t=>t
 |_,_,i+1,.cons r t=>.cons r (b_.eraseIdx i t)
end
variable{X:aU}{e:Wp}{u:bb}{F:b7}{pos:Pos}
def x9(i j:Nat)(F:b7)(u:bb):cA:=λU a=>∃b:ZP,a[i]?=some (.own b)/\a[j]?=some .bag/\u a λd=>∃(n:Nat)(z:D),d=.int n/\n<1000/\b[n]?=some z/\F [.bag,.val z] λr=>∃c,r=.val (.tup c)/\b.length+c.length<=TI/\U.nx (a.set i (.own (b.eraseIdx n++c)))
theorem x7(i j:Nat){f x y:Str}{a6:ZX}{ak hc:Nat}{M k m G N I l g t:Pos}(c:b6 X.prog X.w X.K X.mg X.base f a6 ak (cj X.K 2 F))(a7:ew hc X.A)(bc:eu X f)(bj:bt X e u)(bq:ak<=hc:=by decide)(au:gZ X i x:=by rfl)(aw:gy X.env.scope x:=by walk_at"v")(ay:ea x:=by decide)(az:gY x:=by decide)(O:gZ X j y:=by rfl)(bz:gy X.env.scope y:=by walk_at"v")(P:ea y:=by decide)(Q:gY y:=by decide)(bC:ea f:=by decide)(bF:iO X (.Name x M) "extend":=by rfl)(bJ:iO X (.Name x k) "pop":=by rfl)(bK:lB X I [.Call (.Name f G) [.Name y m,.Call (.Attribute (.Name x k) "pop" l) [e] [] g] [] t]:=by rfl)(bQ:lB X g [e]:=by rfl)(bR:iP N I:=by rfl)(bS:iP l g:=by rfl)(aH:UF [.Call (.Name f G) [.Name y m,.Call (.Attribute (.Name x k) "pop" l) [e] [] g] [] t] X.env=(false,Yp (.Call (.Name f G) [.Name y m,.Call (.Attribute (.Name x k) "pop" l) [e] [] g] [] t) X.env)::UF [] X.env:=by rfl)(aI:UF [.Name y m,.Call (.Attribute (.Name x k) "pop" l) [e] [] g] X.env=(false,Yp (.Name y m) X.env)::UF [.Call (.Attribute (.Name x k) "pop" l) [e] [] g] X.env:=by rfl)(bV:UF [.Call (.Attribute (.Name x k) "pop" l) [e] [] g] X.env=(false,Yp (.Call (.Attribute (.Name x k) "pop" l) [e] [] g) X.env)::UF [] X.env:=by rfl)(aJ:eD X e []:=by rfl)(bW:hv X I []:=by rfl)(bX:hv X g []:=by rfl)(bY:(Yc t (UF [.Call (.Attribute (.Name x k) "pop" l) [e] [] g] X.env)).any (·.1)=false:=by rfl)(bZ:XE (.Call (.Attribute (.Name x M) "extend" N) [.Call (.Name f G) [.Name y m,.Call (.Attribute (.Name x k) "pop" l) [e] [] g] [] t] [] I) none pos.line X.env=pure false:=by rfl):
  eT X (.Expr (.Call (.Attribute (.Name x M) "extend" N) [.Call (.Name f G) [.Name y m,.Call (.Attribute (.Name x k) "pop" l) [e] [] g] [] t] [] I) pos) (x9 i j F u):=by
 obtain⟨_,b5,b8⟩:=bj;refine⟨_,qF (sj T' WM WN x_ (hg au aw ay az) (d2 (ou c a7 bc (d2 (hg O bz P Q) (d2 (sj T' Wh Wi OU (hg au aw ay az) (d2 b5 e1 aJ) bJ bQ bS aJ bX) e1 bV) aI) bq bC aI bY) e1 aH) bF bK bR aH bW) bZ,λU J h R W B H b9 D e s=>?_⟩;obtain⟨L,o,S,h⟩:=h;obtain⟨a,aK,C,df,dh,aN,di⟩:=e.ownAt o;obtain⟨b,aM,dj⟩:=e.eo S;refine⟨_,C,.inl ⟨rfl,aK,cE.of aN⟩,?_⟩;refine⟨_,aM,?_⟩;refine⟨_,C,.inl ⟨rfl,aK,cE.of aN⟩,?_⟩;refine b8 J _ h R W B H b9 _ e λd v dk dm b' aT x1 cm=>?_;obtain⟨n,z,rfl,dv,cu,cz⟩:=b';obtain⟨k',T,aW,dw,dy,cF,aZ⟩:=aT.ownAt o;rw[C]at aW;cases aW;obtain⟨w,Y,cG⟩:=aZ.get cu
 have dB:n<T.length:=by
  rcases Wj n T.length with q|q
  ·exact q
  rw[Td q]at Y;cases Y
 cases cm;refine⟨a,T,n,n,w,rfl,rfl,cF,by lia,by lia,?_,Y,?_⟩
 ·rw[Ze (by lia) (by lia)];rfl
 have cL:=aT.write C o (aZ.eraseIdx n);have cP:i≠j:=λq=>by rw[q,S]at o;cases o
 have cR:i<J.length:=by
  rcases Wj i J.length with q|q
  ·exact q
  rw[Td q]at o;cases o
 have cT:(J.set i (.own (L.eraseIdx n)))[j]?=some .bag:=by rw[Tz cP];exact S
 refine qW (E:=wE) (as:=[.bag j,.val z]) cL (.bag aM cT (.val cG .nil)) rfl cz λr v cW dG c0 Z g3 aa=>?_;obtain⟨dM,rfl,dO,c7⟩:=c0;obtain⟨p,c8,rfl,c9,nT⟩:=bG.eV aa;have aY:(J.set i (.own (L.eraseIdx n)))[i]?=some (.own (L.eraseIdx n)):=TG cR;obtain⟨k',da,a0,tb,de,aj,a3⟩:=Z.ownAt aY;rw[C]at a0;cases a0;have a5:=Z.write C aY (a3.append nT);rw[TY]at a5;refine⟨a,p,da,c8,rfl,rfl,aj,Z.bh _ _ c9,?_,s.nx _ _ cW _ c7 a5 (x1.trans g3)⟩;rw[a3.length,nT.length];have:=A7 L n;lia
end
theorem JO{p q:ab}{t:Int}(a:0<p.2.2)(b:0<q.2.2)(i:1<=t)(j:t<=2):hH p q (kl p q t):=by
 have c:0<p.2.2*q.2.2*3:=SE (SE a b) (by decide);obtain⟨g,k,d⟩:=kL (p:=(p.1*q.2.2*(3-t)+q.1*p.2.2*t,p.2.1*q.2.2*(3-t)+q.2.1*p.2.2*t,p.2.2*q.2.2*3)) (SA c);have e:=(gI (p:=(p.1*q.2.2*(3-t)+q.1*p.2.2*t,p.2.1*q.2.2*(3-t)+q.2.1*p.2.2*t,p.2.2*q.2.2*3)) (SA c)).1;have l:p.2.2*q.2.2*3=g*(kl p q t).2.2:=Uf (·.2.2) d
 have f:0<g:=by
  rcases Int.lt_or_le 0 g with h|h
  ·exact h
  have:g*(kl p q t).2.2<=0:=Int.mul_nonpos_of_nonpos_of_nonneg h (Tp e);lia
 refine⟨g,q.2.2*(3-t),p.2.2*t,f,SE b (by lia),SE a (by lia),?_⟩;show sc g (kl p q t)=_
 rw[show sc g (kl p q t)=_ from d.symm];refine fc ?_ ?_ ?_<;>simp only[hs]<;>grind
theorem JP{m:Nat}{p q:ab}{t:Int}(d:cX m p)(f:cX m q)(j:1<=t)(k:t<=2):cX (2*m+3) (kl p q t):=by
 have g:0<p.2.2*q.2.2*3:=SE (SE d.pt.1 f.pt.1) (by decide);have h:SB (3-t)<=2:=intBits_le_iff.mpr (by have e:(2:Nat)^2=4:=rfl;rw[e];lia);have i:SB t<=2:=intBits_le_iff.mpr (by have e:(2:Nat)^2=4:=rfl;rw[e];lia);refine⟨gI (p:=(p.1*q.2.2*(3-t)+q.1*p.2.2*t,p.2.1*q.2.2*(3-t)+q.2.1*p.2.2*t,p.2.2*q.2.2*3)) (SA g),cw.nP (p:=(p.1*q.2.2*(3-t)+q.1*p.2.2*t,p.2.1*q.2.2*(3-t)+q.2.1*p.2.2*t,p.2.2*q.2.2*3)) ⟨?_,?_,?_⟩ (SA g)⟩
 ·exact Sy (XN (TE (TE d.bp.a f.bp.c) h) (TE (TE f.bp.a d.bp.c) i)) (by lia)
 ·exact Sy (XN (TE (TE d.bp.b f.bp.c) h) (TE (TE f.bp.b d.bp.c) i)) (by lia)
 exact Sy (TE (TE d.bp.c f.bp.c) (show SB 3<=2 by decide)) (by lia)
theorem T0.half{B D:ZO}{a b c d m n:ab}(h:T0 (b::B++(d::D)))(w:3<=(b::B).length+(d::D).length)(g:bU b B=a)(f:bU d D=c)(t:hH c b m)(u:hH a d n):T0 (m::(b::B)++[n]):=by
 obtain⟨X,v⟩:∃X,b::B=X++[a]:=by
  obtain⟨X,e⟩:=xT (z:=b) (r:=b::B) (by simp);exact⟨X,by rw[e];show _=X++[a];rw[<-g];rfl⟩
 cases D with
 |nil=>
  have f:d=c:=f;subst f;cases B with
  |nil=>simp at w
  |cons i B=>
   have g:bU i B=a:=g
   obtain⟨Y,l⟩:∃Y,i::B=Y++[a]:=by
    obtain⟨Y,e⟩:=xT (z:=i) (r:=i::B) (by simp);exact⟨Y,by rw[e];show _=Y++[a];rw[<-g];rfl⟩
   rw[l]at h⊢;have j:T0 ((b::(Y++[a]))++[d]):=h
   have o:T0 (Y++a::d::b::[]):=by
    have:=T0.turn (xs:=[b]) (ys:=(Y++[a])++[d]) j;simpa using this
   have p:=T0.off o u t;have q:T0 ((Y++[a,n])++[m,b]):=by simpa using p
   have s:=T0.turn q;simpa using s
 |cons k D=>
  have f:bU k D=c:=f
  obtain⟨Y,l⟩:∃Y,k::D=Y++[c]:=by
   obtain⟨Y,e⟩:=xT (z:=k) (r:=k::D) (by simp);exact⟨Y,by rw[e];show _=Y++[c];rw[<-f];rfl⟩
  have j:T0 ((b::B)++[d,c]):=by
   refine T0.sub ?_ h;refine UA (Vk _) (WU _ ?_);rw[l];exact WV _ _
  rw[v]at j;have o:T0 (X++a::d::[c]):=by simpa using j
  have p:=T0.back o u;have q:T0 ((b::B)++([n]++[c])):=by rw[v];simpa using p
  have s:T0 ([c]++((b::B)++[n])):=T0.turn (ys:=[c]) (xs:=(b::B)++[n]) (by simpa using q);have x:T0 ([]++c::b::(B++[n])):=by simpa using s
  have y:=T0.on x t;simpa using y
theorem xY(a:Z3->Int){p q:ab}(b:aX p)(c:aX q):gW a p q+gW a q p=0:=by
 unfold gW eJ;rw[Jd b c];grind
theorem JR(a:Z3->Int){p q m:ab}(c:aX p)(d:aX q)(h:p≠q)(b:hH p q m):gW a p m+gW a m q=gW a p q:=by
 obtain⟨e,f⟩:=yj c d h b;unfold gW eJ;rw[e,f];grind
theorem xM(e:Z3->Int){B D:ZO}{a b c d m n:ab}(f:bU b B=a)(g:bU d D=c)(h:hH c b m)(i:hH a d n)(j:aX a)(k:aX b)(l:aX c)(o:aX d)(p:aX m)(q:aX n)(r:c≠b)(s:a≠d):
  eY e (m::(b::B)++[n])+eY e (n::(d::D)++[m])=eY e (b::B++(d::D)):=by
 have t:du (m::(b::B)++[n])=(n,m)::(m,b)::(cZ b B++[(a,n)]):=by
  unfold du;rw[show bU (0,0,1) (m::(b::B)++[n])=n from by rw[p9];rfl];show(n,m)::(m,b)::cZ b (B++[n])=_
  rw[p8,f];rfl
 have u:du (n::(d::D)++[m])=(m,n)::(n,d)::(cZ d D++[(c,m)]):=by
  unfold du;rw[show bU (0,0,1) (n::(d::D)++[m])=m from by rw[p9];rfl];show(m,n)::(n,d)::cZ d (D++[m])=_
  rw[p8,g];rfl
 have v:du (b::B++(d::D))=(c,b)::(cZ b B++((a,d)::cZ d D)):=by
  unfold du;rw[show bU (0,0,1) (b::B++(d::D))=c from by rw[p9];exact g];show(c,b)::cZ b (B++(d::D))=_
  rw[p8,f];rfl
 unfold eY;rw[t,u,v];simp only[hZ,xU,i2];have w:=xY e q p;have x:=JR e l k r h;have y:=JR e j o s i;grind
theorem JS(b:Z3->Int):∀A B:ZO,eY b (A++B)=eY b (B++A)
 |[],B=>by rw[SU];rfl
 |a::A,B=>by
  have h:=JS b A (B++[a]);rw[show a::A++B=a::(A++B)from rfl,<-Jn,SX,h,SX];rfl
noncomputable def te(a:ZO)(i j:Nat)(p q:ab):List ab:=[p]++(a.drop (i+1)).take (j-i)++[q]
noncomputable def tg(a:ZO)(i j:Nat)(p q:ab):List ab:=[q]++a.drop (j+1)++a.take (i+1)++[p]
theorem Dz{a:ZO}{i:Nat}(h:i<a.length):a.drop i=bD a i::a.drop (i+1):=by
 rw[Ul h,mK h]
structure DA(m n:Nat)(ps bC rs:ZO):Prop where
 a:fm bC
 b:fm rs
 la:bC.length<=n
 lb:rs.length<=n
 pa:∀x∈bC,cX m x
 pb:∀x∈rs,cX m x
 iz:∀φ,eY φ bC+eY φ rs=eY φ ps
theorem xK{m:Nat}{a:ZO}{i j:Nat}{t u:Int}(g:fm a)(f:∀x∈a,cX m x)(Y:i<j)(r:j<a.length)(G:1<=t)(H:t<=2)(I:1<=u)(J:u<=2):
  DA (2*m+3) (a.length+1) a (te a i j (kl (bD a i) (bD a (i+1)) t) (kl (bD a j) (bD a ((j+1)%a.length)) u)) (tg a i j (kl (bD a i) (bD a (i+1)) t) (kl (bD a j) (bD a ((j+1)%a.length)) u)):=by
 have Z:=g.1;have K:(j+1)%a.length<a.length:=Uy _ (by lia);have s:=f _ (oN (show i<a.length by lia));have v:=f _ (oN (show i+1<a.length by lia));have w:=f _ (oN r);have y:=f _ (oN K);have k:=JO s.pt.1 v.pt.1 G H;have l:=JO w.pt.1 y.pt.1 I J;have n:=JP s v G H;have o:=JP w y I J;generalize kl (bD a i) (bD a (i+1)) t=M at k n⊢;generalize kl (bD a j) (bD a ((j+1)%a.length)) u=N at l o⊢
 obtain⟨B,c⟩:∃B,(a.drop (i+1)).take (j-i)=bD a (i+1)::B:=by
  rw[Dz (show i+1<a.length by lia),show j-i=(j-i-1)+1 by lia,VZ];exact⟨_,rfl⟩
 have A:(bD a (i+1)::B).length=j-i:=by rw[<-c,TQ,Us];lia
 have C:bU (bD a (i+1)) B=bD a j:=by
  have:=x2 (bD a (i+1)) (bD a (i+1)::B) (by simp);rw[show bU (bD a (i+1)) (bD a (i+1)::B)=bU (bD a (i+1)) B from rfl]at this;rw[this,A,<-c];have b:j-i-1<((a.drop (i+1)).take (j-i)).length:=by rw[TQ,Us];lia
  rw[mK b,mK r,W9,List.getElem_drop];congr 1;lia
 obtain⟨D,d⟩:∃D,a.drop (j+1)++a.take (i+1)=bD a ((j+1)%a.length)::D:=by
  by_cases z:j+1<a.length
  ·rw[Te z,Dz z];exact⟨_,rfl⟩
  have e:j+1=a.length:=by lia
  rw[e,V5,Uw,Tf];have:=Dz (show 0<a.length by lia);rw[List.drop_zero]at this;rw[this,VZ];exact⟨_,rfl⟩
 have sw:(bD a ((j+1)%a.length)::D).length=a.length-(j-i):=by rw[<-d,Sz,TQ,Us];lia
 have E:bU (bD a ((j+1)%a.length)) D=bD a i:=by
  have P:bU (bD a ((j+1)%a.length)) D=bU (0,0,1) (bD a ((j+1)%a.length)::D):=rfl;have Q:a.take (i+1)≠[]:=λz=>by have:=Uf S3 z;rw[TQ,Ub]at this;lia
  rw[P,<-d,p9,x2 _ _ Q];have b:(a.take (i+1)).length-1<(a.take (i+1)).length:=by rw[TQ];lia
  rw[mK b,mK (show i<a.length by lia),W9];congr 1;rw[TQ];lia
 have whole:a=a.take (i+1)++((a.drop (i+1)).take (j-i)++a.drop (j+1)):=by
  conv=>lhs;rw[<-W' (i+1) a]
  congr 1
  conv=>lhs;rw[<-W' (j-i) (a.drop (i+1))]
  rw[List.drop_drop];congr 2;lia
 have R:T0 a:=(rj a).mpr g.nf
 have tQ:T0 (bD a (i+1)::B++(bD a ((j+1)%a.length)::D)):=by
  rw[<-c,<-d,<-SX];refine T0.turn (xs:=a.take (i+1)) ?_;rwa[whole]at R
 have S:3<=(bD a (i+1)::B).length+(bD a ((j+1)%a.length)::D).length:=by rw[A,sw];lia
 have T:=T0.half tQ S C E k l;have U:=T0.half (T0.turn tQ) (by lia) E C l k;have p:te a i j M N=M::(bD a (i+1)::B)++[N]:=by unfold te;rw[c];rfl
 have q:tg a i j M N=N::(bD a ((j+1)%a.length)::D)++[M]:=by unfold tg;rw[SX [N],d];rfl
 have L:∀x∈a,cX (2*m+3) x:=λx h=>(f x h).mono (by lia);have act:∀x∈bD a (i+1)::B,x∈a:=λx h=>by rw[<-c]at h;exact Xa (Wf h)
 have F:∀x∈bD a ((j+1)%a.length)::D,x∈a:=λx h=>by
  rw[<-d]at h;rcases SO.mp h with h|h
  ·exact Xa h
  exact Wf h
 have W:bD a i≠bD a (i+1):=g.side (by
  rw[x3];refine SI.mpr ⟨i+1,TF.mpr (by lia),?_⟩
  rw[show i+1+a.length-1=i+a.length by lia,UN,Te (by lia)])
 have X:bD a j≠bD a ((j+1)%a.length):=g.side (by
  rw[x3];refine SI.mpr ⟨(j+1)%a.length,TF.mpr K,?_⟩;congr 1;by_cases z:j+1<a.length
  ·rw[Te z,show j+1+a.length-1=j+a.length by lia,UN,Te r]
  rw[show j+1=a.length by lia,V5,TZ,Te (by lia)];congr 1
  lia)
 refine⟨?_,?_,?_,?_,?_,?_,λO=>?_⟩
 ·rw[p];refine ri.mA ?_ ((rj _).mp T)
  first|(simp;done)|(simp;lia)
 ·rw[q];refine ri.mA ?_ ((rj _).mp U)
  first|(simp;done)|(simp;lia)
 ·rw[p,Tq,SK,Sz,A]
  first|(simp;done)|(simp;lia)
 ·rw[q,Tq,SK,Sz,sw]
  first|(simp;done)|(simp;lia)
 ·rw[p];intro x b;rcases SO.mp b with b|b
  ·rcases SH.mp b with rfl|b
   ·exact n
   exact L x (act x b)
  rw[SQ.mp b];exact o
 ·rw[q];intro x b;rcases SO.mp b with b|b
  ·rcases SH.mp b with rfl|b
   ·exact o
   exact L x (F x b)
  rw[SQ.mp b];exact n
 rw[p,q,xM O C E k l w.pt v.pt s.pt y.pt n.pt o.pt W X,<-c,<-d,<-SX,<-JS O (a.take (i+1))];rw[<-whole]
theorem xH{c:ZM}{x y:Int}(h:c.Perm [x,y])(s:c.Pairwise (· <= ·)):(c=[x,y]/\x<=y)\/(c=[y,x]/\y<=x):=by
 match c,h.length_eq with
 |[a,b],_=>
  have d:a<=b:=by simpa using s
  have e:a∈[x,y]:=h.mem_iff.mp (by simp);have f:b∈[x,y]:=h.mem_iff.mp (by simp);have g:x∈[a,b]:=h.mem_iff.mpr (by simp);have i:y∈[a,b]:=h.mem_iff.mpr (by simp);simp at e f g i;rcases e with rfl|rfl
  ·have:b=y:=by lia
   subst this;exact .inl ⟨rfl,d⟩
  have:b=x:=by lia
  subst this;exact .inr ⟨rfl,d⟩
theorem xF{d:ZM}{a b:Int}{n:Nat}(e:0<=a)(k:a<n)(m:0<=b)(o:b<(n:Int)-1)(f:d.Perm [a,b+if decide (a<=b)=true then 1 else 0])(i:d.Pairwise (· <= ·)):∃I J:Nat,d=[(I:Int),(J:Int)]/\I<J/\J<n:=by
 obtain⟨c,j,p,g,q⟩:∃c:Int,(b+if decide (a<=b)=true then 1 else 0)=c/\a≠c/\0<=c/\c<n:=by
  by_cases h:a<=b
  ·rw[XA h,SZ rfl];exact⟨b+1,rfl,by lia,by lia,by lia⟩
  rw[decide_eq_false h,Tl SW];exact⟨b+0,rfl,by lia,by lia,by lia⟩
 rw[j]at f;rcases xH f i with⟨rfl,l⟩|⟨rfl,l⟩
 ·exact⟨a.toNat,c.toNat,by rw[UT e,UT g],by lia,by lia⟩
 exact⟨c.toNat,a.toNat,by rw[UT e,UT g],by lia,by lia⟩
theorem xE{a:Type}{xs:List a}{i j:Nat}(h:i<=j)(d:j<=xs.length):ig xs (some ((i:Nat):Int)) (some ((j:Nat):Int))=(xs.drop i).take (j-i):=by
 have b:HT.sIx xs.length 0 (some ((i:Nat):Int))=i:=by
  unfold HT.sIx
  first|lia|(simp only[];split<;>lia)|(split<;>lia)|(dsimp only;split<;>(try split)<;>lia)
 have c:HT.sIx xs.length xs.length (some ((j:Nat):Int))=j:=by
  unfold HT.sIx
  first|lia|(simp only[];split<;>lia)|(split<;>lia)|(dsimp only;split<;>(try split)<;>lia)
 unfold ig;rw[b,c]
theorem xD{a:ZO}{i j:Nat}{p q:ab}(h:i<j)(b:j<a.length):f5 (te a i j p q)=.lst ([aS p]++ig (a.map aS) (some ((i:Int)+1)) (some ((j:Int)+1))++[aS q]):=by
 have e:=xE (xs:=a) (i:=i+1) (j:=j+1) (by lia) (by lia);rw[show((i:Int)+1)=((i+1:Nat):Int) by lia,show((j:Int)+1)=((j+1:Nat):Int) by lia,BE,e,show j+1-(i+1)=j-i by lia];show D.lst ((te a i j p q).map aS)=_
 unfold te;rw[SF,SF];rfl
theorem xv{a:ZO}{i j:Nat}{p q:ab}(h:i<j)(d:j<a.length):f5 (tg a i j p q)=.lst ([aS q]++ig (a.map aS) (some ((j:Int)+1)) none++ig (a.map aS) none (some ((i:Int)+1))++[aS p]):=by
 have b:=Q' (xs:=a) (i:=(j:Int)+1) (by lia) (by lia);have c:=xk (xs:=a) (i:=(i:Int)+1) (by lia) (by lia);rw[BE,BE,b,c,show((j:Int)+1).toNat=j+1 by lia,show((i:Int)+1).toNat=i+1 by lia];show D.lst ((tg a i j p q).map aS)=_
 unfold tg;rw[SF,SF,SF];rfl
theorem JT(a:Z3->Int):∀{rs:Z5}{n:Nat}{r:ZO},rs[n]?=some r->gL a (rs.eraseIdx n)+eY a r=gL a rs
 |[],_,_,h=>by simp at h
 |q::rs,0,r,h=>by
  have e:q=r:=by simpa using h
  subst e;rw[List.eraseIdx_cons_zero,qj];grind
 |q::rs,n+1,r,h=>by
  have:=JT a (rs:=rs) (n:=n) (r:=r) (by simpa using h);rw[WB,qj,qj];grind
theorem JU{a b:Type}(f:a->b):∀(l:List a)(n:Nat),(l.map f).eraseIdx n=(l.eraseIdx n).map f
 |[],_=>rfl
 |_::_,0=>rfl
 |x::l,n+1=>by
  show f x::(l.map f).eraseIdx n=f x::(l.eraseIdx n).map f
  rw[JU f l n]
section
variable{s w a:Int×Int}
theorem za{x:Int×Int}(c:ba s.1 s.2)(d:s.1≠0)(i:SB s.1<=21)(j:SB s.2<=21)(e:ba x.1 x.2)(f:0<x.1)(g:SB x.1<=47)(h:SB x.2<=47)(a:Bool):nU (dd s a x):=by
 obtain⟨_,_,k,l⟩:=BW c d i j e f g h;have b:=uO c e d f;exact JA (HP b a) (λp m=>(b.mE a (cb g) (cb h) (cb k) (cb l) p m).mono (by decide)) (by rw[HO];decide)
end
section
variable{a:WP}{w:XB}{A:XC}{E:SL->Tk->Prop}{s:Tk}{c:ZY}{R:Nat->Int}{d:SortKind}
theorem y_{l:TD}{Q:ZY->Tk->Prop}(e:s.heap.IsList l c.toArray)(f:c.length<=TI)(h:∀d:XG,s.heap.objs.size<=d.objs.size->(∀b o,s.heap.get? b=some o->d.get? b=some o)->Q c {s with heap:=d }):wpAny (UV a w) A (collect (.ref l)) Q E s:=by
 refine collect_list e (h _ ?_ λb o z=>?_) f
 ·rw[Heap.size_update,size_push'];exact Ui _
 exact(Heap.SameBut.update _ _ _).extBut b o (S6 (Heap.lt_size z)) (Heap.get?_push_of_some _ z)
end
section
variable{k:WP}{w:XB}{A:XC}{E:SL->Tk->Prop}{s:Tk}{d c:TD}{i j:Nat}{f:Array YG}{ok l:SL}
theorem JV{Q:Option SL->Tk->Prop}(hi:A.handled=none)(h:Yr s.heap c d i f.size j ok l)(af:oV s.heap d f j)(y:∀e t,f[i]?=some e->Zn t c d (i+1) f.size j e.key e.val s.heap.objs.size->t.get? s.heap.objs.size=some {cls:=.type "tuple",data:=.seq #[e.key,e.val]}->(∀b o,b≠c->s.heap.get? b=some o->t.get? b=some o)->Q (some (.ref s.heap.objs.size)) {s with heap:=t })(done:∀t,f[i]?=none->Heap.ExtBut c s.heap t->Q none {s with heap:=t }):wpAny (UV k w) A (YW (.ref c)) Q E s:=by
 obtain⟨p,g,u,v,os⟩:=s;have ty:Shared.TypeIs ⟨p,g,u,v,os⟩ (.ref c) "dict_itemiterator":=⟨_,h,rfl⟩;obtain⟨o,O,ar,P⟩:=af;have own:Builtin.Dict_items.ownsTuple "dict_itemiterator"=true:=by decide
 have ag:¬((i:Int)<0):=by lia
 have none_:¬(Value.ref d==Value.none)=true:=SW;unfold YW;refine wp (Zl (Yd (name:="__next__") ty F.slot_dict_itemiterator_next (XH F.slot_dict_itemiterator_next ty F.entry_dict_itemiterator_next ?_ (F.args_dict_itemiterator_next_1 _))));refine wp (SC (wp (wp ?_)))
 first|refine wp (XR ty (SC (wp (YE h rfl ?_))))|refine wp (X6 ty (SC (wp (YE h rfl ?_))))
 simp only[own,if_true];show wpAny _ _ (if(Value.ref d==Value.none)=true then _ else _) _ _ ⟨p,g,u,v,os⟩
 rw[Tl none_];refine wp (SC (wp (X4 O P ?_)));rw[Tl (by simp)];refine wp (SC (wp (Yu O P ?_)));rw[Tl (by simp)];refine SC ?_;simp only[ag,if_false,Wc];cases q:f[i]? with
 |some e=>
  dsimp only;refine wp ?_
  first|refine wp (XR ty (SC (wp (XW ty ?_))))|refine wp (X6 ty (SC (wp (XW ty ?_))))
  show wpAny _ _ (ZK (.ref c) 3 (Y9 ((i:Int)+1)) >>= _) _ _ ⟨p,g,u,v,os⟩
  refine wp (XY h (by simp) λr B (R:Heap.SameBut c p r)=>?_)
  replace B:Yr r c d (i+1) f.size j ok l:=by
   unfold Yr;rw[show((i+1:Nat):Int)=(i:Int)+1 by lia];simpa[Y9]using B
  have S:Shared.TypeIs ⟨r,g,u,v,os⟩ (.ref c) "dict_itemiterator":=⟨_,B,rfl⟩;refine wp (Xy (wp (XW S (wp (XW S ?_)))));show wpAny _ _ (Builtin.Dict_items.pairFromOwner (.ref c) 6 e.key e.val) _ _ ⟨r,g,u,v,os⟩
  unfold Builtin.Dict_items.pairFromOwner;refine wp (wpAny_newTuple ?_);have U:r.objs.size=p.objs.size:=R.1;have ai:c<p.objs.size:=Heap.lt_size h;let T:Obj:={cls:=.type "tuple",data:=.seq #[e.key,e.val]}
  have z:Yr (r.push T) c d (i+1) f.size j ok l:=Heap.get?_push_of_some _ B;have W:(r.push T).get? p.objs.size=some T:=by rw[<-U];exact Heap.get?_push_size _ rfl
  have X:∀b o,b≠c->p.get? b=some o->(r.push T).get? b=some o:=λb o n x=>Heap.get?_push_of_some _ (R.extBut b o n x);show wpAny _ _ (Builtin.Dict_items.ownedTupleIsFree (.ref c) >>= _) _ _ ⟨r.push T,g,u,v,os⟩
  rw[U];generalize r.push T=Y at z W X;refine wp ?_;unfold Builtin.Dict_items.ownedTupleIsFree;refine wp (Yi z rfl (x:=.none) rfl (SC ?_));simp only[if_true];refine wp (Yi z rfl (x:=ok) rfl (wp (Yi z rfl (x:=l) rfl (wp (XY z (by simp) λH I (aj:Heap.SameBut c Y H)=>?_)))));replace I:Yr H c d (i+1) f.size j e.key l:=I;refine wp (XY I (by simp) λJ K (ak:Heap.SameBut c H J)=>?_);replace K:Yr J c d (i+1) f.size j e.key e.val:=K;refine wp (XY K (by simp) λL M (ao:Heap.SameBut c J L)=>?_);replace M:Zn L c d (i+1) f.size j e.key e.val p.objs.size:=M;refine wp (XY M (by simp) λC N (aq:Heap.SameBut c L C)=>?_);replace N:Zn C c d (i+1) f.size j e.key e.val p.objs.size:=N;have Z:∀b o,b≠c->Y.get? b=some o->C.get? b=some o:=λb o n x=>aq.extBut b o n (ao.extBut b o n (ak.extBut b o n (aj.extBut b o n x)));exact wp (YM (SC (SC ⟨_,rfl,SC (y e C q N (Z _ _ (TU ai) W) λb o n x=>Z b o n (X b o n x))⟩)))
 |none=>
  refine wp ?_
  first|refine wp (XR ty (SC ?_))|refine wp (X6 ty (SC ?_))
  show wpAny _ _ (ZK (.ref c) 2 .none >>= _) _ _ ⟨p,g,u,v,os⟩
  refine wp (Za h rfl (by simp) ?_);show wpAny _ _ (newExc (.type "StopIteration") [] >>= _) _ _ _
  unfold newExc newTuple;refine wp (wp (W1 (wp (m:=YF _ _) (Zf (a:=Value.none) (by first|rfl|(unfold YF;rfl)) (W1 ?_ (by size_fits)))) (by size_fits)));unfold raiseNew;refine wp (wpAny_handled ?_);rw[show A.in1.handled=none from hi];refine wp (SC (wpAny_throw ?_));refine wp (X8 (T:="StopIteration") (b:=true) (by exact⟨_,Heap.get?_push_size _ rfl,rfl⟩) isSubtype_stop ?_);exact SC (done _ q (((Heap.SameBut.update ..).extBut.push _).push _))
theorem y9{v:TD}{Q:SL->Tk->Prop}(a:s.heap.IsItemsView v d)(g:oV s.heap d f j)(h:Q (.ref s.heap.objs.size) {s with heap:=s.heap.push {cls:=.type "dict_itemiterator",data:=.fields #[.none,.bool false,.ref d,.int 0 0,.int f.size 0,.int j 0,.none,.none]} }):wpAny (UV k w) A (ZF (.ref v)) Q E s:=by
 have b:=a.typeIs;obtain⟨p,l,n,m⟩:=a;obtain⟨o,c,q,e⟩:=g;have own:Builtin.Dict_items.ownsTuple "dict_itemiterator"=true:=by decide
 refine YH b F.slot_dict_items_iter (XH F.slot_dict_items_iter b F.entry_dict_items_iter ?_ (F.args_dict_items_iter_1 _));unfold YC.«dict_items.__iter__»;refine wp (SC (wp ?_));unfold Builtin.Dict_items.dictOf;refine wp (Yi l m (x:=.ref d) rfl (SC (wp ?_)));unfold Builtin.Dict_items.newIterator;refine wp (X4 c e (wp (Yu c e ?_)));simp only[own,if_true];refine W1 (SC ⟨_,rfl,"dict_itemiterator",_,⟨_,Heap.get?_push_size _ rfl,rfl⟩,F.slot_dict_itemiterator_next.lookup,?_⟩) (by simp only[sizeOk,Builtin.Dict_items.ownedTupleFields,SV,Sz,SK,Ub,XS];lia);simpa[Y9,Builtin.Dict_items.ownedTupleFields]using h
theorem y8(d:TD)(a:(d==XM)=false):
  MeetsIn k w (YC.«dict.items» ⟨[.ref d],[]⟩) (λ_ R s=>(∃f j,oV s.heap d f j)/\R (.ok (.ret (.ref s.heap.objs.size))) {s with heap:=s.heap.push {cls:=.type "dict_items",data:=.fields #[.ref d]} }):=
 .of_wp λA R s ⟨⟨f,j,c⟩,h⟩=>by
  obtain⟨o,e,g,i⟩:=c;have ty:s.TypeIs (.ref d) "dict":=⟨o,e,g.1⟩;have no:¬(d==XM)=true:=λz=>by rw[a]at z;cases z
  unfold YC.«dict.items» Builtin.Dict.noArgs;refine wp (wp (Ym ty (show wpAny _ _ (pure d) _ _ s from SC ?_)));show wpAny _ _ (Builtin.Dict.showsAll d >>= _) _ _ s
  unfold Builtin.Dict.showsAll;rw[Tl no];exact wp (SC (wp (W1 (SC ⟨_,rfl,h⟩))))
end
def JY(b:Bool)(a:TD)(g:Nat)(d:List Z3)(e:ZZ)(f:ZQ):hx where
 go:=λi H=>H a=some (hS b a g d e f)/\i<d.length
 kN:=λi H x h=>∃p c y,H p=none/\x=.ref p/\h=ed H p (.tup [.ref c,y])/\e[i]?=some c/\f[i]?=some y
 stop:=λi H=>H a=some (hS b a g d e f)/\d.length<=i
section
variable{P:WP}{w:XB}{K:Su}{b:Bool}{a:TD}{d:Nat}{g:List Z3}{j:ZZ}{f:ZQ}{p:Z0}{k:Nat}{m:Pos}
theorem y7:entryFor table "dict_itemiterator.__iter__"=some YC.«dict_keyiterator.__iter__»:=entryFor_alias (id':="dict_keyiterator.__iter__") (by kernel_rfl) rfl (by decide +kernel) (by kernel_rfl)
theorem y6(l:TD):pl P w K (.Tuple p k m) (JY b a d g j f) [l] l (λi h=>∃x y,Yr h l a i g.length d x y) where
 mem:=by simp
 obj:=λi h st c t=>by
  have e:c=l:=by simpa using t
  subst e;obtain⟨x,y,st⟩:=st;exact⟨_,st,λv z=>by cases z⟩
 keep:=λi h ax st kp=>by
  obtain⟨x,y,st⟩:=st;exact⟨x,y,kp l (by simp) _ st⟩
 item:=by
  intro X G J L t i A s M H E I N st O;subst G J L;obtain⟨Q,ag⟩:=O;obtain⟨az,aB,st⟩:=st;obtain⟨aD,aE,R,S,ai,aj,B,ao,_⟩:=sZ I.eg Q;obtain⟨a7,c,u,aH,aI,aq⟩:=C2 (b:=b) ai aj ag
  obtain⟨y,aK,aN⟩:∃y,f[i]?=some y/\eb y u:=by
   have lt:i<f.length:=by rw[ao.length];lia
   obtain⟨a',ar,aM⟩:=ao.get (SY lt);rw[aI]at ar;cases ar;exact⟨_,SY lt,aM⟩
  have au:=N l (by simp);have aO:l<s.heap.objs.size:=Heap.lt_size st;have aP:s.heap.objs.size≠l:=TU aO;refine JV (I.ok.hd t) (by rw[B];exact st) R (λe av q T aQ kp=>⟨_,rfl,wpAny_letOwnedTupleGo_items T λaR aw aW=>?_⟩) (λav q _=>?_)
  ·rw[<-UH,S,aq]at q;cases q;rw[B]at aw
   have aZ:c_ X A M (ed H s.heap.objs.size (.tup [.ref c,y])) {s with heap:=s.heap.push {cls:=.type "tuple",data:=.seq #[.ref c,u]} }:=
    I.laid (t':=s.toks) (λ_ _ q=>Heap.get?_push_of_some _ q) (SD _) ⟨e7,[.ref c,u],.cons rfl (.cons aN .nil),⟨_,Heap.get?_push_size _ rfl,rfl,_,rfl⟩⟩
   have aY:g2 X A (ed H s.heap.objs.size (.tup [.ref c,y])) l:=⟨by rw[bO (Tc aP)];exact au.1,au.2⟩;obtain⟨C,U,a0,W,Y,Z⟩:=id aY
   have a3:c_ X A M (ed H s.heap.objs.size (.tup [.ref c,y])) {s with heap:=aR}:=aZ.turned (t':=s.toks) (λr o n q=>by
    rw[aW.2 r n];by_cases z:r=s.heap.objs.size
    ·subst z;rw[Heap.get?_push_size _ rfl]at q;rw[<-q];exact aQ
    refine kp r o n ?_;rw[<-q]
    exact(Heap.get?_push_ne s.heap r _ z).symm) C U W Y Z
   refine⟨.ref s.heap.objs.size,_,a3,rfl,⟨s.heap.objs.size,c,y,I.fresh,rfl,rfl,aH,aK⟩,⟨_,_,aw⟩,λr ae=>?_⟩;have:r=l:=by simpa using ae
   subst this;exact C
  rw[<-UH,S,aq]at q;cases q
 done:=by
  intro X G J L t i A s M H E I N st O;subst G J L;obtain⟨Q,ag⟩:=O;obtain⟨az,aB,st⟩:=st;obtain⟨aD,aE,R,S,ai,aj,B,_⟩:=sZ I.eg Q;obtain⟨C,U,a0,W,Y,Z⟩:=N l (by simp);refine JV (I.ok.hd t) (by rw[B];exact st) R (λe av q _ _ _=>?_) λax _ a5=>⟨rfl,I.turned (t':=s.toks) (λa6 o ae e=>a5 a6 o ae e) C U W Y Z⟩;rw[VD (by lia)]at q;cases q
 self:=λ_ _ _ _ _ st h=>by
  obtain⟨x,y,st⟩:=st;have ty:Shared.TypeIs _ (.ref l) "dict_itemiterator":=⟨_,st,rfl⟩;refine YH ty F.slot_dict_itemiterator_iter (XH F.slot_dict_itemiterator_iter ty y7 ?_ (F.args_dict_itemiterator_iter_1 _));show wpAny _ _ (ret (.ref l)) _ _ _
  exact SC ⟨_,rfl,"dict_itemiterator",_,ty,F.slot_dict_itemiterator_next.lookup,h⟩
def yW(e:bI):gQ:=λh H R=>e h H λx c=>∃b a d g j f,x=.ref a/\mQ c b a d g j f/\R (JY b a d g j f) c
theorem yV{X:aU}{J t m:Pos}{l:Wp}{u:bI}(K:bP X l u)(L:iO X l "items":=by rfl)(M:iP t m:=by rfl):iR X (.Tuple p k J) (.Call (.Attribute l "items" t) [] [] m) (yW u):=by
 intro w s y H R I h;refine wpAny_Call_method (T:="dict") (id:="dict.items") L rfl M Wa Xb PySem.F.type_dict_items (cp (K w s y H _ I h) λv i ⟨x,A,n,N,b,a,d,g,j,f,e,B,q⟩=>?_);subst e;obtain rfl:v=Value.ref a:=N;obtain⟨C,O⟩:=B.typ n;refine⟨C,O,?_⟩;obtain⟨Y,E,G,Z,h1,aa,P,_,Q⟩:=sZ n.eg B.h;show wpAny _ _ (callWith m (.builtin "dict.items") [.ref a] [] []) _ _ i
 refine method_meetsIn Xb PySem.F.entry_dict_items rfl (WA ⟨rfl,C,PySem.F.args_dict_items_1 _,_,y8 a Q,⟨E,d,G⟩,?_⟩)
 have S:oV (i.heap.push {cls:=.type "dict_items",data:=.fields #[.ref a]}) a E d:=by
  obtain⟨o,U,z⟩:=G;exact⟨o,Heap.get?_push_of_some _ U,z⟩
 have r:c_ X w y A {i with heap:=i.heap.push {cls:=.type "dict_items",data:=.fields #[.ref a]} }:=n.kept (t':=i.toks) λb o e=>Heap.get?_push_of_some _ e;refine y9 (s:={i with heap:=i.heap.push {cls:=.type "dict_items",data:=.fields #[.ref a]} }) ⟨_,Heap.get?_push_size _ rfl,rfl,rfl⟩ S ?_;refine⟨_,[_],_,_,A,rfl,r.kept (t':=i.toks) λb o e=>Heap.get?_push_of_some _ e,y6 _,⟨_,_,by rw[P];exact Heap.get?_push_size _ rfl⟩,λc W=>?_,q⟩;rw[SQ.mp W];exact r.ht (SD _) (r.eg.fresh (SD _))
end
section
variable{K:Su}{u:bb}{w:cK}
def J0(K:Su)(B:al)(J:hx)(a:ZP):Prop:=∀(H:al),ci B H->∀i,(i<a.length->J.go i H)/\(a.length<=i->J.stop i H)/\∀x b,i<a.length->J.kN i H x b->∃q c d,H q=none/\x=.ref q/\b=ed H q (.tup c)/\a[i]?=some (.tup d)/\b_ K B c d
def J1(K:Su)(t:gQ)(u:cK):Prop:=∀(a:ZN)(k:ZP->Prop),u a k->∀(R:al)(W:TD->Prop)(B H:al)(b:St)(Q:hx->al->Prop),aL K R W B H b a->
 (∀d J c e,k d->aL K R W c e b a->bx R B c->J0 K c J d->Q J e)->t b H Q
def J2(X:aU)(g e:Wp)(u:cK):Prop:=∃t,iR X g e t/\J1 X.K t u
variable{X:aU}{A m g:Wp}{E:Z0}{f:XZ}{F:List (Str×TD)}{C n:ZX}{r:ZT}{s:eS}{o:dz}{j:Pos}
def oZ(b:Bool):List Z3->ZP->ZP
 |k::a,d::c=>.tup [gB b k,d]::oZ b a c
 |_,_=>[]
theorem J3{b:Bool}:∀{ks:List Z3}{ds:ZP},ds.length=ks.length->(oZ b ks ds).length=ks.length
 |[],_,_=>by simp[oZ]
 |_::_,[],h=>by simp at h
 |k::ks,d::ds,h=>by simp[oZ,J3 (b:=b) (ks:=ks) (ds:=ds) (by simpa using h)]
theorem J4{b:Bool}:∀{ks:List Z3}{ds:ZP}{i:Nat}{k:Z3}{d:D},ks[i]?=some k->ds[i]?=some d->(oZ b ks ds)[i]?=some (.tup [gB b k,d])
 |[],_,_,_,_,h,_=>by simp at h
 |_::_,[],_,_,_,_,h=>by simp at h
 |k::ks,d::ds,0,_,_,a,c=>by simp at a c;subst a c;rfl
 |k::ks,d::ds,i+1,_,_,a,c=>by
  have:=J4 (b:=b) (ks:=ks) (ds:=ds) (i:=i) (by simpa using a) (by simpa using c);simpa[oZ]using this
def yU(u:bb):cK:=λd k=>u d λx=>∃b a c,x=.dct b a c/\c.length=a.length/\k (oZ b a c)
theorem yT{F r s:Pos}{G:Z0}{I:Nat}{l:Wp}{t:bb}(J:bt X l t)(K:iO X l "items":=by rfl)(L:iP r s:=by rfl):J2 X (.Tuple G I F) (.Call (.Attribute l "items" r) [] [] s) (yU t):=by
 obtain⟨_,M,N⟩:=J;refine⟨_,yV M K L,λO k h R W B H P Q e q=>?_⟩;refine N O _ h R W B H P _ e λd v S T U j Y Z=>?_;obtain⟨b,g,aw,rfl,ld,z⟩:=U;cases Z with
 | @dct a _ aa _ u af _ m n ai w=>
  have ax:u.length=g.length:=by have:=n.length;simpa using this
  have ay:=w.length;refine⟨b,a,aa,g,u,af,rfl,⟨j.bh _ _ m,mR j.bh ai n⟩,?_⟩;refine q _ _ S T z j Y λaz A i=>?_;rw[J3 ld];refine⟨λf=>⟨A _ _ m,f⟩,λf=>⟨A _ _ m,f⟩,λx aF f y=>?_⟩;obtain⟨p,c,y,aj,rfl,rfl,ak,ar⟩:=y;obtain⟨d,au,av⟩:=w.fb ar;obtain⟨lf,C,o⟩:=n.fb (i:=i) (v:=.ref c) (by rw[SP,ak];rfl);have E:g[i]?=some g[i]:=SY f;rw[SP,E]at C;cases C;exact⟨p,_,_,aj,rfl,rfl,J4 E au,.cons o (.cons av .nil)⟩
end
theorem DM{h:L3.F2->D}{u:bb}{b:ZN}:∀{a:List L3.F2}{d e:aA}{k:ZP->Prop},(∀r∈a,∀k:D->Prop,k (h r)->u (.val (.int r.1)::.val (.int r.2)::b) k)->k (a.map h)->gH (mz 2 (hq (eU 0) (hq (eU 1) my))) hW u (a.map L3.dR) (d::e::b) k
 |[],_,_,_,_,c=>c
 |r::a,d,e,k,f,c=>by
  refine⟨_,rfl,rfl,_,_,rfl,_,_,rfl,rfl,?_⟩;show(if true=true then u (.val (.int r.1)::.val (.int r.2)::b) λy=>gH (mz 2 (hq (eU 0) (hq (eU 1) my))) hW u (a.map L3.dR) (.val (.int r.1)::.val (.int r.2)::b) λg=>k (y::g)else gH (mz 2 (hq (eU 0) (hq (eU 1) my))) hW u (a.map L3.dR) (.val (.int r.1)::.val (.int r.2)::b) k)
  rw[SZ rfl];exact f r Sw _ (DM (λq i=>f q (Sx _ i)) c)
section
variable{c:WP}{w:XB}{K:Type}[DecidableEq K]{b:HeapKind c w K}{A:XC}{E:SL->Tk->Prop}{s:Tk}
theorem yS{d a:TD}{h:List (K×TD×SL)}{k:K}{v:SL}{Q:SL->Tk->Prop}(u:b.room A)(n:b.is s.heap k a)(F:s.heap.DictOfH b d h)(G:∀p,ZC h k=some p->Q p.2 {s with toks:=s.toks+b.draws k})(H:ZC h k=none->∀q,q.DictOfH b d (storedH h k a v)->Heap.SameBut d s.heap q->Q v {s with heap:=q,toks:=s.toks+b.draws k})(L:h.length<=TI):wpAny (UV c w) A (Zb d (.ref a) v) Q E s:=by
 obtain⟨o,M,I,i,J,g,m,z,r⟩:=F;unfold Zb
 try with_reducible refine Xy ?_
 refine wp (b.pyHash u n ?_);refine wp (wpAny_dictFind_heap (s:={s with toks:=s.toks+b.draws k}) u n i g m z r ?_ ?_)
 ·intro l;have t:k∉h.map (·.1):=not_mem_keys_of_get l
  refine wp (Yg (wp (wpAny_updateDictKeys (hz:=by have e:=size_of_entries m;lia) (s:={s with toks:=s.toks+b.draws k}) i g (SC (H (Yk l) _ ⟨_,_,I+1,Heap.get?_update_self _ i (Obj.isFreed_of_dict (Obj.data_mapDictKeys g _)),
   J.mapDictKeys _,Obj.data_mapDictKeys g _,?_,?_,?_⟩ (Heap.SameBut.update ..))))))
  ·rw[ZD (Yk l)];simp[m,Zp]
  ·rw[ZD (Yk l)];intro x f;rcases SO.mp f with f|f
   ·exact b.keeps (z x f) i g (Heap.SameBut.update ..)
   simp only[SQ]at f;subst f;exact b.keeps n i g (Heap.SameBut.update ..)
  rw[ZD (Yk l)];rw[SF,Wb];refine⟨r,by simp,?_⟩;intro x f y B;simp only[SJ,TA,SQ]at B;subst B;exact λe=>t (e▸f)
 intro j p C;refine wp (X4 (s:={s with toks:=s.toks+b.draws k}) i g ?_);rw[entry_at m j,C];exact wp (Yg (SC (G p (atKey_of_get r C))))
theorem yR(b:HeapKind c w K)(d a:TD)(h:(d==XM)=false)(v:SL):
  MeetsIn c w (YC.«dict.setdefault» ⟨[.ref d,.ref a,v],[]⟩) (λA R s=>b.room A.in1/\∃k e,b.is s.heap k a/\s.heap.DictOfH b d e/\e.length<=TI /\
   (∀p,ZC e k=some p->R (.ok (.ret p.2)) {s with toks:=s.toks+b.draws k}) /\
   (ZC e k=none->∀f,f.DictOfH b d (storedH e k a v)->Heap.SameBut d s.heap f->R (.ok (.ret v)) {s with heap:=f,toks:=s.toks+b.draws k})):=
 .of_wp λA R s ⟨i,k,e,j,g,l,m,n⟩=>by
  unfold YC.«dict.setdefault»;refine wp ?_;unfold Builtin.Dict.keyAndDefault;refine wp (Ym g.typeIs ?_);show wpAny _ _ (pure (d,Value.ref a,some v)) _ _ s
  refine SC ?_;show wpAny _ _ (if(d==XM)=true then _ else(Zb d (.ref a) v >>= _)) _ _ s
  rw[Tl (by rw[h];exact SW)];exact wp (yS i j g (λp o=>SC ⟨p.2,rfl,m p o⟩) (λq f r t=>SC ⟨v,rfl,n q f r t⟩) l)
end
def yQ(b:Bool):V->ZQ->al->cn->Prop:=λx g H Q=>∃a c z h d f e k,x=.ref a/\g=[.ref c,z]/\mQ H b a h d f e/\mP H b k c/\d.length<TI /\
 (∀v,bu d e k=some v->Q v H)/\(bu d e k=none->∀i,Q z (ed H a (hS b a i (d++[k]) (f++[c]) (e++[z]))))
section
variable{X:aU}{b:Bool}
theorem yO(K:X.A.units+4<XT):t1 X "dict.setdefault" (yQ b):=by
 intro a7 s a' H x bc v us Q I L M h;obtain⟨a,c,z,bg,ks,as,l,k,rfl,rfl,u,N,bj,O,R⟩:=h;obtain rfl:v=Value.ref a:=L;obtain⟨S,f,rfl,T,y⟩:=M.two;obtain rfl:S=Value.ref c:=T;obtain⟨bq,i,B,C,us,j,E,U⟩:=u.raw I.eg;have br:=j.length
 have le:(eA ks as us).length=ks.length:=by
  have:=Uf S3 (ya (as:=as) (us:=us) i (by lia))
  rwa [Sv]at this
 have g:=sU (as:=as) (us:=us) k i (by lia);refine Zv Xc E.typeIs PySem.F.entry_dict_setdefault (PySem.F.args_dict_setdefault_3 _ _ _) (yR (lf X.prog X.w b) a c C f) ⟨u6 K,k,eA ks as us,N.is I.eg,E,by lia,λp W=>?_,λY bz m Z=>?_⟩
 ·rw[W]at g;have d:=sW (ks:=ks) k j;rw[<-g]at d;cases q:bu ks l k with
  |none=>rw[q]at d;exact d.elim
  |some n=>rw[q]at d;exact⟨n,H,I.tok _,d,O n q⟩
 rw[Y]at g;have d:=sW (ks:=ks) k j;rw[<-g]at d
 have G:bu ks l k=none:=by
  cases q:bu ks l k with
  |none=>rfl
  |some n=>rw[q]at d;exact d.elim
 have o:k∉ks:=(qc B).mp G;rw[IM k c f i (by lia),Tl o]at m;have J:eX ks k=ks++[k]:=Tl o;have hi:g9 ks us k f=us++[f]:=Tl o;rw[J,hi]at m;obtain⟨r,aj,hc,t,aq,au,av,aw,ax⟩:=m;refine⟨z,_,?_,y,R G hc⟩;refine I.write (x:=a) (e:=a) (by rw[u.h];trivial) (.inl rfl) (λay q az z=>(Z.2 ay az).trans z) ⟨r,t⟩ ?_;have aE:(ks++[k]).Nodup:=by have:=IX (k:=k) U;rwa [J]at this
 refine⟨⟨by rw[Sz,Ti];lia,by rw[Sz,Sz,i];rfl,by rw[Sz,Sz,B];rfl,C,_,Paired.snoc j y,r,aj,t,aq,au,?_,aE⟩,⟨r,t⟩,?_⟩
 ·rw[av,x' (P:=X.prog) (w:=X.w)]
 rintro bA bC ⟨aF,aG,aJ,aK,aO,aQ,aR,aT,aV,aY⟩ a6;exact⟨aF,aG,aJ,aK,aO,aQ,aR,aT,a6 _ aV,aY⟩
end
noncomputable def mY:List Z3->Z4->Z3->D->Z4
 |c::e,b::a,k,d=>if c=k then(b++[d])::a else b::mY e a k d
 |_,a,_,_=>a
def qu(b:List Z3)(a:Z4)(k:Z3)(d:D):List ZP:=if k∈b then mY b a k d else a++[[d]]
theorem vp{i:Type}:∀{g:List Z3}{c:List i}{k:Z3}{x:i},bu g c k=some x->∃j:Nat,c[j]?=some x/\∀{l:Type}(b:List l),b.length=c.length->bu g b k=b[j]?
 |[],_,_,_,h=>by simp[bu]at h
 |_::_,[],_,_,h=>by simp[bu]at h
 |m::g,a::c,k,x,h=>by
  rw[bu]at h;by_cases e:m=k
  ·rw[SZ e]at h;cases h;refine⟨0,rfl,λb f=>?_⟩;cases b with
   |nil=>simp at f
   |cons d b=>rw[bu,SZ e];rfl
  rw[Tl e]at h;obtain⟨j,n,o⟩:=vp h;refine⟨j+1,by simpa using n,λb f=>?_⟩;cases b with
  |nil=>simp at f
  |cons d b=>rw[bu,Tl e,o b (by simpa using f)];rfl
theorem J8{m:Type}:∀{f:List Z3}{g:List m}{k:Z3}{x:m},bu f g k=some x->∃j:Nat,g[j]?=some x/\∀(b:Z4)(c:ZP)(d:D),b.length=g.length->b[j]?=some c->bu f b k=some c/\mY f b k d=b.set j (c++[d])
 |[],_,_,_,h=>by simp[bu]at h
 |_::_,[],_,_,h=>by simp[bu]at h
 |n::f,a::g,k,x,h=>by
  rw[bu]at h;by_cases e:n=k
  ·rw[SZ e]at h;cases h;refine⟨0,rfl,λb c d i l=>?_⟩;cases b with
   |nil=>simp at i
   |cons y b=>
    cases(show y=c by simpa using l);exact⟨by rw[bu,SZ e],by rw[mY,SZ e];rfl⟩
  rw[Tl e]at h;obtain⟨j,o,p⟩:=J8 h;refine⟨j+1,by simpa using o,λb c d i l=>?_⟩;cases b with
  |nil=>simp at i
  |cons y b=>
   obtain⟨q,r⟩:=p b c d (by simpa using i) (by simpa using l);exact⟨by rw[bu,Tl e,q],by rw[mY,Tl e,r];rfl⟩
theorem J9:∀(b:List Z3)(a:Z4)(k:Z3)(d:D),(mY b a k d).length=a.length
 |[],_,_,_=>by simp[mY]
 |_::_,[],_,_=>by simp[mY]
 |c::b,y::a,k,d=>by
  rw[mY];split
  ·rfl
  rw[SK,J9 b a k d,SK]
theorem yM{b:List Z3}{a:Z4}{k:Z3}{d:D}(h:a.length=b.length):(qu b a k d).length=(eX b k).length:=by
 unfold eX qu;split
 ·rw[J9];exact h
 rw[Sz,Sz,h];rfl
section
variable{K:Su}{R:al}{W:TD->Prop}{B r H l:al}{g:St}{f:ZN}
theorem yK{i:Nat}{v:V}(h:g[i]?=some (some v)):g.set i (some v)=g:=by
 apply Uk;intro j;by_cases z:i=j
 ·subst z
  have lt:i<g.length:=by
   by_cases z:i<g.length
   ·exact z
   rw[Td (by lia)]at h;cases h
  rw[TG lt,h]
 rw[Tz z]
theorem yJ{i:Nat}{k:aA}(h:f[i]?=some k):f.set i k=f:=by
 apply Uk;intro j;by_cases z:i=j
 ·subst z
  have lt:i<f.length:=by
   by_cases z:i<f.length
   ·exact z
   rw[Td (by lia)]at h;cases h
  rw[TG lt,h]
 rw[Tz z]
theorem aL.jT(e:aL K R W B H g f){i:Nat}{c c':e2}{x:TD}{o:el}(s:f[i]?=some (.deep c))(G:x∈c.adr::c.ins)(I:c'.adr=c.adr)(sub:∀y∈c'.ins,y∈c.ins)(M:(c'.adr::c'.ins).Nodup)(ok:pC K (t7 R B c') (ed H x o) c'):aL K R W B (ed H x o) g (f.set i (.deep c')):=by
 obtain⟨N,J⟩:=e.ek s;have t:=J.fr x G;have O:¬W x:=λz=>e.wr x z t.1;have P:cc g f i x:=.inr ⟨c,s,G⟩
 have L:∀y∈c'.adr::c'.ins,y∈c.adr::c.ins:=λy l=>by
  rcases SH.mp l with z|z
  ·rw[z,I];exact Sw
  exact Sx _ (sub y z)
 refine⟨⟨λb u q z=>?_,λb u q=>?_,e.wb,λb z=>?_,e.wr⟩,by rw[TV];exact e.len,λj k q=>?_,λa b y l Q=>?_⟩
 ·rw[bO (by rintro rfl;rw[t.1]at q;cases q)];exact e.fr b u q z
 ·rw[bO (by rintro rfl;rw[t.2]at q;cases q)];exact e.bh b u q
 ·exact(e.wh b z).upd (by rintro rfl;exact O z)
 ·rcases iV q with⟨rfl,rfl⟩|⟨n,q⟩
  ·exact⟨by rw[I,N];rfl,λy l=>J.fr y (L y l),M,ok⟩
  have z:=e.ok j k q;have w:∀y,cc g f j y->y≠x:=λy m=>by rintro rfl;exact n (e.sep j i y m P)
  cases k with
  |no=>trivial
  |new d=>exact z
  |pin v d=>exact z
  |val d=>exact z
  |own A=>
   obtain⟨b,p,C,E,F⟩:=z;exact⟨b,p,C,E,F.mono (ci.refl _) (bO (w b (.inl ⟨gd p,.inr ⟨A,q⟩⟩)))⟩
  |deep d=>exact⟨z.1,z.2.fr,z.2.nd,z.2.ok.mono (ci.refl _) λb S=>bO (w b (.inr ⟨d,q,S⟩))⟩
  |bag=>
   obtain⟨b,p,C,E,F⟩:=z;exact⟨b,p,C,E,F.upd (w b (.inl ⟨gd p,.inl q⟩))⟩
 have back:∀a,cc g (f.set i (.deep c')) a y->cc g f a y:=λa m=>by
  rcases m with⟨r,h⟩|⟨d,r,h⟩
  ·refine .inl ⟨r,?_⟩;rcases h with h|⟨A,h⟩
   ·rcases iV h with⟨_,z⟩|⟨_,h⟩
    ·cases z
    exact .inl h
   rcases iV h with⟨_,z⟩|⟨_,h⟩
   ·cases z
   exact .inr ⟨A,h⟩
  rcases iV r with⟨rfl,z⟩|⟨_,r⟩
  ·cases z;exact .inr ⟨c,s,L y h⟩
  exact .inr ⟨d,r,h⟩
 exact e.sep a b y (back a l) (back b Q)
theorem aL.mh(e:aL K R W B H g f){i:Nat}{c c':e2}{p:TD}{vs:ZQ}{o:el}(x:f[i]?=some (.deep c))(ag:H p=some (.lst vs))(P:R p=none)(Q:B p=none)(J:∀j,¬cc g f j p)(L:c'.adr=c.adr)(sub:∀y∈c'.ins,y∈c.ins\/y=p)(S:(c'.adr::c'.ins).Nodup)(ok:pC K (t7 R B c') (ed H c.adr o) c'):aL K R W B (ed H c.adr o) g (f.set i (.deep c')):=by
 obtain⟨T,M⟩:=e.ek x;have A:=M.fr c.adr Sw;have U:¬W c.adr:=λz=>e.wr _ z A.1;have X:cc g f i c.adr:=.inr ⟨c,x,Sw⟩
 have N:∀y∈c'.adr::c'.ins,y∈c.adr::c.ins\/y=p:=λy r=>by
  rcases SH.mp r with z|z
  ·rw[z,L];exact .inl Sw
  exact(sub y z).imp (Sx _) id
 refine⟨⟨λb u q z=>?_,λb u q=>?_,e.wb,λb z=>?_,e.wr⟩,by rw[TV];exact e.len,λj k q=>?_,λa b y r O=>?_⟩
 ·rw[bO (by rintro rfl;rw[A.1]at q;cases q)];exact e.fr b u q z
 ·rw[bO (by rintro rfl;rw[A.2]at q;cases q)];exact e.bh b u q
 ·exact(e.wh b z).upd (by rintro rfl;exact U z)
 ·rcases iV q with⟨rfl,rfl⟩|⟨n,q⟩
  ·exact⟨by rw[L,T];rfl,λy r=>by
    rcases N y r with z|rfl
    ·exact M.fr y z
    exact⟨P,Q⟩,S,ok⟩
  have z:=e.ok j k q;have C:∀y,cc g f j y->y≠c.adr:=λy m=>by rintro rfl;exact n (e.sep j i _ m X)
  cases k with
  |no=>trivial
  |new d=>exact z
  |pin v d=>exact z
  |val d=>exact z
  |own E=>
   obtain⟨b,s,F,G,I⟩:=z;exact⟨b,s,F,G,I.mono (ci.refl _) (bO (C b (.inl ⟨gd s,.inr ⟨E,q⟩⟩)))⟩
  |deep d=>exact⟨z.1,z.2.fr,z.2.nd,z.2.ok.mono (ci.refl _) λb Y=>bO (C b (.inr ⟨d,q,Y⟩))⟩
  |bag=>
   obtain⟨b,s,F,G,I⟩:=z;exact⟨b,s,F,G,I.upd (C b (.inl ⟨gd s,.inl q⟩))⟩
 have back:∀a,cc g (f.set i (.deep c')) a y->cc g f a y\/(a=i/\y=p):=λa m=>by
  rcases m with⟨t,h⟩|⟨d,t,h⟩
  ·refine .inl (.inl ⟨t,?_⟩);rcases h with h|⟨E,h⟩
   ·rcases iV h with⟨_,z⟩|⟨_,h⟩
    ·cases z
    exact .inl h
   rcases iV h with⟨_,z⟩|⟨_,h⟩
   ·cases z
   exact .inr ⟨E,h⟩
  rcases iV t with⟨rfl,z⟩|⟨_,t⟩
  ·cases z;rcases N y h with z|z
   ·exact .inl (.inr ⟨c,x,z⟩)
   exact .inr ⟨rfl,z⟩
  exact .inl (.inr ⟨d,t,h⟩)
 rcases back a r with w|⟨w,Z⟩
 ·rcases back b O with l|⟨l,hi⟩
  ·exact e.sep a b y w l
  subst hi;exact absurd w (J a)
 rcases back b O with l|⟨l,_⟩
 ·subst Z;exact absurd l (J b)
 rw[w,l]
end
def yI(r:V->ZQ->al->cn->Prop)(d:bI)(t:eZ):bI:=λb H Q=>d b H λx c=>(∃a,x=.ref a/\IU c a)/\t b c λe f=>r x e f Q
theorem J'{X:aU}{o e:Wp}{b:Z0}{i:bI}{t:eZ}{name:Str}{j c:Pos}{id:String}{r:V->ZQ->al->cn->Prop}(d:Slot "dict" name id)(m:typeOf (.builtin id)=pure (.type "method_descriptor"))(n:t1 X id r)(p:bP X o i)(q:hf X (e::b) t)(u:iO X o name:=by rfl)(w:lB X c (e::b):=by rfl)(y:iP j c:=by rfl)(z:eD X e b:=by rfl)(A:hv X c b:=by rfl):
  bP X (.Call (.Attribute o name j) (e::b) [] c) (yI r i t):=by
 intro f s g H Q I h;refine YQ u w y rfl (cp (p f s g H _ I h) λv B ⟨x,C,k,E,⟨a,F,Y,Z,G,J,hi,K⟩,L⟩=>?_);subst F;obtain rfl:v=Value.ref a:=E;obtain⟨M,N⟩:=K.typ k;refine⟨"dict",id,Wa,d,m,M,N,?_⟩;have l:=q c f B g C _ k L;rw[z]at l⊢;refine Calls.callWith_builtin (by show(false||(Yc c (UF b X.env)).any (·.1))=false;rw[A]<;>rfl) (Calls.evalArgs_plain ?_);exact cp l λO P ⟨R,S,T,U,W⟩=>n f P g S (.ref a) R (.ref a) O Q T rfl U W
def yH(b:Bool)(i:Nat):cA:=λU c=>∀a,U.nx (c.set i (.deep (.dl b a [] [] [])))
def yG(b:Bool)(n:Nat)(j k:bb):cA:=λU h=>∃a e l c,h[n]?=some (.deep (.dl b a e l c))/\j h λy=>∃f,y=gB b f/\rx b f/\e.length<TI/\c.length=e.length/\(∀i,bu e c f=some i->i.length<TI) /\
 ∀g dss1,k (h.set n (.deep (.dl b a (eX e f) g dss1))) λd=>U.nx (h.set n (.deep (.dl b a (eX e f) g (qu e c f d))))
section
variable{X:aU}{b:Bool}{n:Nat}{x:Str}{G r L E u J C M l:Pos}{e f:Wp}{O I:bb}
theorem yF{i:Nat}(f:X.N.Nodup)(g:X.N[i]?=some x)(k:hh X.env.scope x)(l:XE (.Dict [] [] M) (some (.Name x L)) r.line X.env=pure false:=by rfl)(n:iq X x:=by walk_at"f"):
  eT X (.Assign [.Name x L] (.Dict [] [] M) r) (yH b i):=by
 refine⟨_,qH f g k (IZ (b:=b)) l n,λU t h R W B H u D e s=>?_⟩;intro p c;obtain⟨o,v,q⟩:=e.toWd.fresh c;refine s.nx _ _ B _ (h p) ((e.ey c _).set i ⟨rfl,λa d=>?_,by simp[e2.adr,e2.ins],0,[],dx,.nil,λ_ _ z=>by simp at z,rfl,λj a w z=>by simp at z⟩ (λa _ z=>by rcases z with z|⟨_,z⟩<;>cases z) λa d j _ m=>?_) (bx.refl _ _)
 ·have:a=p:=by simpa[e2.adr,e2.ins]using d
  subst this;exact⟨o,q⟩
 have:a=p:=by simpa[aA.kG,e2.adr,e2.ins]using d
 subst this;exact e.eK c m rfl
theorem Ka{b:Type}:∀{a:List Z3}{c:List b}{k:Z3}{x:b},bu a c k=some x->k∈a
 |[],_,_,_,h=>by simp[bu]at h
 |_::_,[],_,_,h=>by simp[bu]at h
 |f::a,d::c,k,x,h=>by
  rw[bu]at h;by_cases e:f=k
  ·rw[e];exact Sw
  rw[Tl e]at h;exact Sx _ (Ka h)
theorem Kb{K:Su}{t:bI}{U:hE}{D:nh}{e k:ZN}{R:al}{W:TD->Prop}{B C H:al}{l:St}{a x:TD}{ks1 X:List Z3}{Y as1:ZZ}{m dss1:List (List L3.D)}{j:Nat}{ds:List L3.D}{F:L3.D->List (List L3.D)}(Z:fu K t I)(E:aL K R W B H l k)(G:e[n]?=some (.deep (.dl b a X Y m)))(p:e.set n (.deep (.dl b a ks1 as1 dss1))=k)(f:as1[j]?=some x)(q:dss1[j]?=some ds)(h1:ds.length<TI)(g:bx R C B)(aa:sq K R W C U D)(J:I (e.set n (.deep (.dl b a ks1 as1 dss1))) λd=>U.nx (e.set n (.deep (.dl b a ks1 as1 (F d)))))(L:∀d,F d=dss1.set j (ds++[d])):
  wA K "list" (.ref x) H/\wt t ws l H λhi ae=>F6 (.ref x) hi ae λ_ af=>D.nx l af:=by
 have ai:n<e.length:=by
  by_cases z:n<e.length
  ·exact z
  rw[Td (by lia)]at G;cases G
 have r:k[n]?=some (.deep (.dl b a ks1 as1 dss1)):=by rw[<-p,TG ai]
 obtain⟨_,ak⟩:=E.ek r;obtain⟨_,_,_,_,_,hc⟩:=ak.ok;obtain⟨aq,ar,_⟩:=hc.at_ j x ds f q;refine⟨.inl ⟨rfl,aq,cE.of ar⟩,?_⟩;rw[p]at J;refine Z k _ J R W B H l _ E λd v au av aw M az aB=>?_;obtain⟨aT,N⟩:=M.ek r;obtain⟨O,P,aD,aE,aF,s⟩:=N.ok;have aG:av a=some (hS b a O ks1 P (as1.map V.ref)):=aD;obtain⟨Q,aI,S⟩:=s.at_ j x ds f q;have u:(a::as1).Nodup:=N.nd;have cJ:x∈as1:=Tb f;have w:a≠x:=λz=>(Tt.mp u).1 (by rw[z];exact cJ);refine⟨x,Q,v,rfl,rfl,aI,by rw[S.length];exact h1,?_⟩;have T:=M.jT (c':=.dl b a ks1 as1 (F d)) (x:=x) (o:=.lst (Q++[v])) r (Sx _ cJ) rfl (λy c=>c) u ⟨O,P,by rw[bO w];exact aG,aE,aF,by rw[L,TV];exact s.len,λi y aK c h=>?_⟩
 ·rw[<-p,TY]at T;exact aa.nx _ _ au _ aw T (g.trans az)
 rw[L]at h;by_cases z:j=i
 ·subst z;rw[f]at c;cases c;rw[TG (by have:=TM.mp q;exact this.1)]at h;cases h;exact⟨_,dx,S.append (.cons aB .nil)⟩
 rw[Tz z]at h;obtain⟨aM,aP,A⟩:=s.at_ i y aK c h;refine⟨aM,?_,A⟩;rw[bO ?_]
 ·exact aP
 rintro rfl;have aR:i<as1.length:=(TM.mp c).1;exact z ((WK aR (Tt.mp u).2).mp (c.trans f.symm)).symm
theorem yE(n:Nat)(bY:X.A.units+4<XT)(bZ:bt X e O)(b5:bt X f I)(b8:gZ X n x:=by rfl)(Q:gy X.env.scope x:=by walk_at"v")(cg:ea x:=by decide)(ck:gY x:=by decide)(cm:iO X (.Name x G) "setdefault":=by rfl)(cu:lB X u [e,.List [] l]:=by rfl)(cz:iP E u:=by rfl)(a6:UF [e,.List [] l] X.env=(false,Yp e X.env)::UF [.List [] l] X.env:=by rfl)(cF:UF [.List [] l] X.env=(false,Yp (.List [] l) X.env)::UF [] X.env:=by rfl)(hc:(Yc u (UF [.List [] l] X.env)).any (·.1)=false:=by rfl)(cG:iO X (.Call (.Attribute (.Name x G) "setdefault" E) [e,.List [] l] [] u) "append":=by rfl)(cL:lB X C [f]:=by rfl)(cP:iP J C:=by rfl)(a7:eD X f []:=by rfl)(cQ:hv X C []:=by rfl)(cR:XE (.Call (.Attribute (.Call (.Attribute (.Name x G) "setdefault" E) [e,.List [] l] [] u) "append" J) [f] [] C) none r.line X.env=pure false:=by rfl):
  eT X (.Expr (.Call (.Attribute (.Call (.Attribute (.Name x G) "setdefault" E) [e,.List [] l] [] u) "append" J) [f] [] C) r) (yG b n O I):=by
 obtain⟨_,cS,cT⟩:=bZ;obtain⟨_,cW,a'⟩:=b5
 refine⟨_,qF (sj T' VU VV wB
  (J' Xc PySem.F.type_dict_setdefault (yO (b:=b) bY) (hg b8 Q cg ck) (d2 cS (d2 (tX e1) e1 cF) a6) cm cu cz a6 hc)
  (d2 cW e1 a7) cG cL cP a7 cQ) cR,λU ar h R W B H au D av bc=>?_⟩
 obtain⟨a,k,s,g,M,h⟩:=h;obtain⟨c0,bj⟩:=av.ek M;obtain⟨c7,c9,da,tb,de,d0⟩:=bj.ok;refine⟨_,c0,⟨a,rfl,b,c7,k,c9,_,da,mR av.bh de tb⟩,?_⟩;refine cT ar _ h R W B H au _ av λy v df bq dg S bC aw=>?_;obtain⟨t,rfl,bF,dh,di,dk,bJ⟩:=dg;obtain⟨c,rfl⟩:=s1 aw;refine⟨S9 _,λp T=>?_⟩;obtain⟨dm,d1,dv⟩:=S.toWd.fresh T;have Y:=S.ey T (.lst []);have dw:∀j,¬cc au ar j p:=λj m=>S.eK T m rfl;obtain⟨_,bK⟩:=Y.ek M;obtain⟨bQ,Z,dy,bR,bS,bV⟩:=bK.ok;have dB:(ed bq p (.lst [])) a=some (hS b a bQ k Z (s.map V.ref)):=dy;have af:s.length=g.length:=bV.len;have dG:(a::s).Nodup:=bK.nd;have dM:bu k g t=none\/∃ds,bu k g t=some ds:=by cases bu k g t with|none=>exact .inl rfl|some ds=>exact .inr ⟨ds,rfl⟩
 refine⟨a,c,.ref p,bQ,k,Z,s.map V.ref,t,rfl,rfl,⟨dB,mR Y.bh bS bR⟩,rv Y.bh bF aw,dh,λv Q=>?_,λdO az=>?_⟩
 ·
  obtain⟨j,N,aG⟩:=J8 Q
  have dQ:j<g.length:=by
   have:=TM.mp N;obtain⟨z,_⟩:=this;rw[Sv]at z;lia
  have ag:=SY dQ
  obtain⟨hi,aH,rfl⟩:∃hi,s[j]?=some hi/\v=.ref hi:=by
   rw[SP]at N;cases q:s[j]? with
   |none=>rw[q]at N;cases N
   |some hi=>rw[q]at N;exact⟨hi,rfl,(SN N).symm⟩
  have m:t∈k:=by
   by_cases z:t∈k
   ·exact z
   have ak:(s.map V.ref).length=k.length:=by
    have:=(aG g g[j] .non (by rw[Sv];lia) ag).1;obtain⟨_,dS,_⟩:=vp this
    exact absurd dS (by
     have:=Ka Q
     exact absurd this z)
   exact absurd ((qc ak).mpr z) (by rw[Q];simp)
  have aQ:eX k t=k:=SZ m;refine Kb (ds:=g[j]) a' Y M (by rw[aQ];exact yJ M) aH ag (dk _ (aG g g[j] .non (by rw[Sv];lia) ag).1) bC bc (bJ s g) λd=>?_;rw[<-(aG g g[j] d (by rw[Sv];lia) ag).2];unfold qu;rw[SZ m]
 have ak:(s.map V.ref).length=k.length:=by
  rw[Sv];lia
 have m:t∉k:=(qc ak).mp dO;have aQ:eX k t=k++[t]:=Tl m;rw[Sv]at ak
 have dU:a≠p:=λz=>by
  have:=bj.ok;obtain⟨_,aT⟩:=S.ek M;exact aT.ok.ne (a:=a) Sw (by rw[z];exact T)
 have pin:p∉s:=λz=>by
  obtain⟨_,aT⟩:=S.ek M;exact aT.ok.ne (a:=p) (Sx _ z) T
 have bW:(a::(s++[p])).Nodup:=by
  rw[<-Tq,Wb];refine⟨dG,by simp,λx dW y L=>?_⟩;rw[SQ.mp L];rcases SH.mp dW with z|z
  ·rw[z];exact dU
  rintro rfl;exact pin z
 have aW:=Y.mh (c':=.dl b a (k++[t]) (s++[p]) (g++[[]])) (p:=p) (vs:=[]) (o:=hS b a az (k++[t]) (Z++[c]) (s.map V.ref++[.ref p])) M dx dm dv dw rfl (λy L=>by
   rcases SO.mp L with z|z
   ·exact .inl z
   exact .inr (SQ.mp z)) bW ⟨az,Z++[c],by
   show ed _ a _ a=_
   rw[dx,SF];rfl,?_,?_,by rw[Sz,Sz,af];rfl,λi y dX L P=>?_⟩
 ·have aW:aL X.K R W df (ed (ed bq p (.lst [])) a (hS b a az (k++[t]) (Z++[c]) (s.map V.ref++[.ref p]))) au (ar.set n (.deep (.dl b a (eX k t) (s++[p]) (g++[[]])))):=by rw[aQ];exact aW
  refine Kb (F:=λd=>qu k g t d) (ds:=[]) (j:=s.length) (x:=p) (as1:=s++[p]) (dss1:=g++[[]]) (ks1:=eX k t) a' aW M rfl (by rw[To (SD _)];simp) (by rw[af,To (SD _)];simp) (by decide) bC bc (bJ _ _) λd=>?_;unfold qu;rw[Tl m,af,List.set_append_right _ _ (SD _)];simp
 ·rw[SF,SF];exact bR.append (.cons aw .nil)
 ·intro z dY aY;rcases SO.mp aY with w|w
  ·exact bS z dY w
  rw[SQ.mp w];exact bF z
 have a0:y≠a:=by
  rintro rfl;have:y∈s++[p]:=Tb L;exact(Tt.mp bW).1 this
 show ∃vs,ed _ a _ y=_/\_
 rw[bO a0];by_cases z:i<s.length
 ·rw[TH z]at L;rw[TH (by lia)]at P;exact bV.at_ i y dX L P
 rw[To (by lia)]at L P
 have bX:i-s.length=0:=by
  by_cases q:i-s.length=0
  ·exact q
  rw[Td (by simp;lia)]at L;cases L
 rw[bX]at L;rw[<-af,bX]at P;simp at L P;subst L P;exact⟨[],dx,.nil⟩
end
section
variable{K:Su}{R:al}{W:TD->Prop}{B g H p:al}{l:St}{k:ZN}
theorem aL.mf:∀{c:ZZ}{b:Z4}{B:al},aL K R W B H l k->c.Nodup->mn K B H c b->(∀a∈c,R a=none/\B a=none/\∀i,¬cc l k i a)->∃g,aL K R W g H l k/\bx R B g/\b_ K g (c.map V.ref) (b.map D.lst)/\∀a,a∉c->g a=B a
 |[],[],B,e,_,_,_=>⟨B,e,bx.refl _ _,.nil,λ_ _=>rfl⟩
 |[],_::_,_,_,_,h,_=>by have:=h.len;simp at this
 |_::_,[],_,_,_,h,_=>by have:=h.len;simp at this
 |a::c,n::b,B,e,o,h,m=>by
  obtain⟨p,q,r⟩:=h.at_ 0 a n rfl rfl;obtain⟨t,u,v⟩:=m a Sw;obtain⟨w,f⟩:=e.freeze q t u v;obtain⟨y,A⟩:=Tt.mp o
  have C:mn K (ed B a (.lst p)) H c b:=⟨by have:=h.len;simpa using this,λi x E d F=>by
   obtain⟨G,I,J⟩:=h.at_ (i+1) x E (by simpa using d) (by simpa using F)
   exact⟨G,I,J.mono f.s⟩⟩
  obtain⟨L,M,j,N,O⟩:=aL.mf w A C λx d=>by
   obtain⟨P,Q,S⟩:=m x (Sx _ d);exact⟨P,by rw[bO (by rintro rfl;exact y d)];exact Q,S⟩
  refine⟨L,M,f.trans j,.cons (.lst (j.s _ _ dx) (r.mono (f.trans j).s)) N,λx d=>?_⟩;rw[O x λz=>d (Sx _ z),bO (by rintro rfl;exact d Sw)]
theorem aL.m4(e:aL K R W B H l k){i:Nat}{c:e2}(A:k[i]?=some (.deep c)):∃g,bx R B g/\aL K R W g H l (k.set i (.val (match c with|.ll _ _ p=>.lst (p.map D.lst)|.dl b _ G _ p=>.dct b G (p.map D.lst)|.nl _ C=>.lst C))):=by
 obtain⟨L,q⟩:=e.ek A;have f:=e.fB (d:=.non) i (v:=.non) .non
 have I:∀x∈c.adr::c.ins,∀j,¬cc (l.set i (some V.non)) (k.set i (.val .non)) j x:=λx u j m=>by
  obtain⟨n,m⟩:=so m (by simp) (by simp) rfl;exact n (e.sep j i x m (.inr ⟨c,A,u⟩))
 have hi:i<k.length:=by
  by_cases z:i<k.length
  ·exact z
  rw[Td (by lia)]at A;cases A
 have E:∀(o:el)(p:Z4)(d:D),H c.adr=some o->mn K B H c.ins p->(∀t,ci B t->t c.adr=some o->b_ K t (c.ins.map V.ref) (p.map D.lst)->bG K t (.ref c.adr) d)->∃g,bx R B g/\aL K R W g H l (k.set i (.val d)):=λo p d w y F=>by
  obtain⟨M,N⟩:=Tt.mp q.nd;obtain⟨t,O,J,P,Q⟩:=f.mf N y λx u=>⟨(q.fr x (Sx _ u)).1,(q.fr x (Sx _ u)).2,I x (Sx _ u)⟩;obtain⟨S,T⟩:=q.fr c.adr Sw;obtain⟨U,g3⟩:=O.gR w S (by rw[Q _ M];exact T) (I _ Sw);refine⟨_,J.trans g3,?_⟩;have X:=U.fB i (F _ (J.trans g3).s dx (P.mono g3.s));rwa[TY,TY,yK L]at X
 cases c with
 |ll a Y p=>exact E _ p _ q.ok.1 q.ok.2 λt s h r=>.lst h r
 |dl b a G Y p=>
  obtain⟨ae,af,w,y,F,Z⟩:=q.ok;exact E _ p _ w Z λt s h r=>.dct h (y.mono s) F r
 |nl a C=>
  obtain⟨ag,w,y⟩:=q.ok;exact E _ [] _ w ⟨rfl,λi a C z=>by simp[e2.ins]at z⟩ λt s h r=>.lst h ((y.mono iw).mono s)
end
def zl(i:Nat)(s:cA):cA:=λU d=>∃b a e f c,d[i]?=some (.deep (.dl b a e f c))/\s U (d.set i (.val (.dct b e (c.map D.lst))))
section
variable{X:aU}{d:Wp}{w:cK}{c:Pos}
theorem zk{st:Z1}{s:cA}(i:Nat)(h:hF X st s):hF X st (zl i s):=by
 obtain⟨_,c,d⟩:=h;refine⟨_,c,λU o h R W B H f D e j=>?_⟩;obtain⟨b,a,p,q,k,l,z⟩:=h;obtain⟨m,g,n⟩:=e.m4 l;exact d U _ z R W m H f D n (j.grow g)
end
theorem Kf{n N:Int}{m:Nat}(c:0<n)(a:0<N)(h:n∣N)(b:SB N<=m):SB n<=m:=by
 have:=Int.le_of_dvd a h;rw[intBits_le_iff]at b⊢;lia
theorem Kg{d:Type}{f g h:d->D}{u:bb}{b:ZN}:∀{a:List d}{e i:aA}{k:ZP->Prop},(∀r∈a,∀k:D->Prop,k (h r)->u (.val (f r)::.val (g r)::b) k)->k (a.map h)->gH (mz 2 (hq (eU 0) (hq (eU 1) my))) hW u (a.map λr=>.tup [f r,g r]) (e::i::b) k
 |[],_,_,_,_,c=>c
 |r::a,e,i,k,j,c=>by
  refine⟨_,rfl,rfl,_,_,rfl,_,_,rfl,rfl,?_⟩;show(if true=true then u (.val (f r)::.val (g r)::b) λy=>gH (mz 2 (hq (eU 0) (hq (eU 1) my))) hW u (a.map λr=>.tup [f r,g r]) (.val (f r)::.val (g r)::b) λl=>k (y::l)else gH (mz 2 (hq (eU 0) (hq (eU 1) my))) hW u (a.map λr=>.tup [f r,g r]) (.val (f r)::.val (g r)::b) k)
  rw[SZ rfl];exact j r Sw _ (Kg (λq m=>j q (Sx _ m)) c)
section
variable{X:aU}{e:Wp}{d:Z0}{w:cK}{u f c:bb}{p a:Pos}{n:Nat}{b F2:b7}
theorem b_.dropLast{K:Su}{B:al}:∀{a:ZQ}{b:ZP},b_ K B a b->b_ K B a.dropLast b.dropLast
 |_,_,.nil=>.nil
 |_,_,.cons r .nil=>.nil
 |_,_,.cons r (.cons c t)=>.cons r (b_.dropLast (.cons c t))
end
theorem zj{l a b c:ab}(g:l.1≠0\/l.2.1≠0)(d:ln l a=0)(e:ln l b=0)(f:ln l c=0)(k:0<c.2.2):bn a b c=0:=by
 have i:l.1*bn a b c=0:=by
  unfold ln at d e f;unfold bn a_;grind
 have j:l.2.1*bn a b c=0:=by
  unfold ln at d e f;unfold bn a_;grind
 rcases g with h|h
 ·exact(Tv.mp i).resolve_left h
 exact(Tv.mp j).resolve_left h
theorem zg{l:ab}{d:ZO}(g:l.1≠0\/l.2.1≠0)(t:T0 d)(i:∀p∈d,0<p.2.2):(d.filter λx=>decide (ln l x=0)).length<=2:=by
 have f:=t.sub (List.filter_sublist (p:=λx=>decide (ln l x=0)))
 have z:∀x∈d.filter λx=>decide (ln l x=0),ln l x=0/\0<x.2.2:=λx j=>by
  have:=TO.mp j;exact⟨by simpa using this.2,i x this.1⟩
 match h:d.filter λx=>decide (ln l x=0),f,z with
 |[],_,_=>simp
 |[_],_,_=>simp
 |[_,_],_,_=>simp
 |a::b::c::r,f,z=>
  exfalso
  have:=f.1.1 c (by simp);have e:=zj g (z a (by simp)).1 (z b (by simp)).1 (z c (by simp)).1 (z c (by simp)).2;lia
noncomputable def posQz(f:ab->Int)(a:ZO):Nat:=(a.filter λx=>decide (0<f x)).length
theorem Kh{f:ab->Int}{mt:ab->ab->ab}(a:∀p q,f p*f q<0->f (mt p q)=0):∀(ps:ZO)(w:ab),posQz f (dn f mt ps w)<=posQz f ps
 |[],_=>SD _
 |p::r,w=>by
  have b:=Kh a r w;show posQz f (kp f p++cJ f mt p (r.headD w)++dn f mt r w)<=_
  unfold posQz at b⊢;rw[U6,U6,Sz,Sz]
  have c:((kp f p).filter λx=>decide (0<f x)).length=if 0<f p then 1 else 0:=by
   unfold kp;by_cases z:0<f p
   ·rw[SZ (by lia),SZ z];simp[z]
   rw[Tl z];by_cases y:0<=f p
   ·rw[SZ y];simp[z]
   rw[Tl y];rfl
  have d:((cJ f mt p (r.headD w)).filter λx=>decide (0<f x)).length=0:=by
   unfold cJ;by_cases z:f p*f (r.headD w)<0
   ·rw[SZ z,Vr,Tl (by rw[a _ _ z];decide)];rfl
   rw[Tl z];rfl
  rw[c,d,Vr];by_cases z:0<f p
  ·rw[SZ z,SZ (by simpa using z),SK];lia
  rw[Tl z,Tl (by simpa using z)];lia
theorem zb{l:ab}{mt:ab->ab->ab}{c:ZO}(k:oS l mt)(m:l.1≠0\/l.2.1≠0)(t:T0 (dD (ln l) mt c))(n:∀p∈dD (ln l) mt c,0<p.2.2):(dD (ln l) mt c).length<=c.length+1:=by
 have y:=zg m t n;have o:posQz (ln l) (dD (ln l) mt c)<=posQz (ln l) c:=Kh (λp q h=>(k p q h).2) c _
 have r:∀d:ZO,(∀x∈d,0<=ln l x)->d.length=posQz (ln l) d+(d.filter λx=>decide (ln l x=0)).length:=by
  intro d;induction d with
  |nil=>intro _;rfl
  |cons q d s=>
   intro h;have i:=s λx f=>h x (Sx _ f);have A:=h q Sw;unfold posQz at i⊢;rw[Vr,Vr];by_cases z:ln l q=0
   ·rw[Tl (by simp[z]),SZ (by simp[z]),SK,SK];lia
   rw[SZ (by simp;lia),Tl (by simp[z]),SK,SK];lia
 have u:∀x∈dD (ln l) mt c,0<=ln l x:=λx f=>by
  rcases xJ f with⟨_,h⟩|⟨p,_,q,_,h,rfl⟩
  ·exact h
  have:=(k p q h).2;lia
 have e:=r _ u;have le:posQz (ln l) c<=c.length:=Vo _ _;by_cases all:posQz (ln l) c=c.length
 ·
  have g:∀x∈c,0<ln l x:=λx f=>by
   have:=List.length_filter_eq_length_iff.mp all x f;simpa using this
  have j:(dD (ln l) mt c).filter (λx=>decide (ln l x=0))=[]:=by
   rw[List.filter_eq_nil_iff];intro x f;rcases xJ f with⟨h,_⟩|⟨p,v,q,w,h,rfl⟩
   ·have:=g x h;simp;lia
   have a:=g p v;have b:=g q w;have:=SE a b;lia
  rw[j]at e;simp at e;lia
 lia
structure ha(b m n t:Nat)(s:a8):Prop where
 cv:fm s.1
 rb:x6 b m s.1
 ln:s.1.length<=n
 st:cX t s.2.2
theorem ha.mono{b m n t d f i j:Nat}{s:a8}(h:ha b m n t s)(k:b<=d)(l:m<=f)(o:n<=i)(p:t<=j):ha d f i j s:=
 ⟨h.cv,⟨λx q=>(h.rb.iF x q).mono k,λe r=>by obtain⟨g,a,c⟩:=h.rb.jq e r;exact⟨g,a.mono l,c⟩⟩,Sy h.ln o,h.st.mono p⟩
theorem x6.m9{b c m:Nat}{l:ab}{ps:ZO}(h:x6 b m ps)(bl:cw c l)(F:c<=m)(G:l.1≠0\/l.2.1≠0\/l.2.2≠0)(o:ab)(H:L3.ln l o=0)(I:c+m+1<=b)(d:ab)(e:d=l\/d=jR l):x6 b m (dD (L3.ln d) (a4 l) ps):=by
 have J:oS d (a4 l):=by
  rcases e with rfl|rfl
  ·exact xS _
  exact(xS _).ng
 have s:∀u,L3.ln d u=0↔L3.ln l u=0:=λu=>by
  rcases e with rfl|rfl
  ·exact Iff.rfl
  rw[ro];lia
 have K:∀p q,L3.ln d p*L3.ln d q<0->L3.ln l p*L3.ln l q<0:=λp q z=>by
  rcases e with rfl|rfl
  ·exact z
  rwa[ro,ro,UB]at z
 refine⟨λx L=>?_,DQ (f:=L3.ln d) (mt:=a4 l) (ps:=ps) (C:=λu v=>∃g:ab,cw m g/\(g.1≠0\/g.2.1≠0\/g.2.2≠0)/\L3.ln g u=0/\L3.ln g v=0) (λu v M N=>⟨l,bl.mono F,G,(s u).mp M,(s v).mp N⟩) o ((s o).mpr H) (λe i _ _=>h.jq e i) λe i c=>?_⟩
 ·rcases DD L with⟨O,_⟩|⟨e,i,c,rfl⟩
  ·exact h.iF x O
  have c:=K _ _ c;obtain⟨P,Q⟩:=lX i;have t:=(h.iF _ P).pt;have w:=(h.iF _ Q).pt;have A:=oR t w c;obtain⟨g,n,r,j,k⟩:=h.jq e i
  have R:(a_ e.1 e.2).1≠0\/(a_ e.1 e.2).2.1≠0\/(a_ e.1 e.2).2.2≠0:=by
   apply UU;intro z;refine A ?_;have S:(a_ e.1 e.2).1=0:=UU λy=>z (.inl y);have T:(a_ e.1 e.2).2.1=0:=UU λy=>z (.inr (.inl y));show l.1*(a_ e.1 e.2).2.1-l.2.1*(a_ e.1 e.2).1=0
   rw[S,T];grind
  obtain⟨a,Z,U,W,X⟩:=par r j k R;obtain⟨B,Y⟩:=DC (l:=l) U W X A;rw[<-oQ t w,Y];exact⟨gI B,(cw.nP (bl.crs n) B).mono I⟩
 obtain⟨g,n,r,j,k⟩:=h.jq e i;obtain⟨E,z⟩:=J _ _ c;exact⟨z,λ_=>⟨g,n,r,j,E.nk j k⟩,λ_=>⟨g,n,r,E.nk j k,k⟩⟩
theorem tk{b c m n t:Nat}{l o:ab}{sh:ZR}(h:∀s∈sh,ha b m n t s)(bl:cw c l)(k:c<=m)(d:l.1≠0\/l.2.1≠0)(r:L3.ln l o=0)(u:c+m+1<=b)(a:ab)(e:a=l\/a=jR l):∀s∈dE (L3.ln a) (a4 l) sh,ha b m (n+1) t s:=λs v=>by
 obtain⟨q,w,rfl,c⟩:=DH v;have g:=h q w
 have f:oS a (a4 l):=by
  rcases e with rfl|rfl
  ·exact xS _
  exact(xS _).ng
 have x:a.1≠0\/a.2.1≠0:=by
  rcases e with rfl|rfl
  ·exact d
  rcases d with z|z
  ·exact .inl (by unfold jR sc;dsimp only;lia)
  exact .inr (by unfold jR sc;dsimp only;lia)
 obtain⟨i,y⟩:=Dt f.meets ((rj q.1).mpr g.cv.nf) g.cv.1 c;have j:=g.rb.m9 bl k (d.imp id .inl) o r u a e;refine⟨ri.mA y ((rj _).mp i),j,?_,g.st⟩;have:=zb f x i λp A=>(j.iF p A).pt.1;have:=g.ln;show(dD (L3.ln a) (a4 l) q.1).length<=n+1
 lia
theorem cw.slA{m g:Nat}{l v:ab}(f:cw m l)(h:cw g v):cw (m+g+2) (jm v l):=by
 refine⟨Sy (TE f.a h.c) (by lia),Sy (TE f.b h.c) (by lia),?_⟩;have a:=TE f.c h.c;have b:=TE f.a h.a;have c:=TE f.b h.b;have d:=YB a b;rw[Nat.max_self]at d;have e:=YB d (Sy c (Ui _));rwa[Nat.max_self]at e
theorem zo{v l p:ab}:∃c:Int,L3.ln (jm v l) (L3.ej v p)=c*L3.ln l p:=⟨v.2.2*v.2.2,by
 unfold jm L3.ej L3.ln;dsimp only
 grind⟩
theorem ha.k9{b m n t g:Nat}{v:ab}{s:a8}(h:ha b m n t s)(a:cX g v):ha (b+g+1) (m+g+2) n (t+g+1) (lT v s):=by
 have H:=a.pt.1;refine⟨?_,⟨λx u=>?_,λe i=>?_⟩,?_,⟨gI (uN a.pt h.st.pt),a.bp.k_ h.st.bp a.pt h.st.pt⟩⟩
 ·exact h.cv.sl a.pt λp f=>(h.rb.iF p f).pt
 ·obtain⟨p,f,rfl⟩:=SI.mp u;have:=h.rb.iF p f;exact⟨gI (uN a.pt this.pt),a.bp.k_ this.bp a.pt this.pt⟩
 ·have i:e∈du (s.1.map λp=>nP (L3.ej v p)):=i;rw[Dg]at i;obtain⟨d,o,rfl⟩:=SI.mp i;obtain⟨l,bl,w,A,B⟩:=h.rb.jq d o
  have r:∀p,aX p->L3.ln l p=0->L3.ln (jm v l) (nP (L3.ej v p))=0:=λp f z=>by
   obtain⟨c,j⟩:=zo (v:=v) (l:=l) (p:=p);rw[z,S4]at j;obtain⟨k,C,E⟩:=kL (uN a.pt f);rw[E,CF]at j;exact(Tv.mp j).resolve_left C
  obtain⟨F,G⟩:=lX o;refine⟨jm v l,bl.slA a.bp,?_,r _ (h.rb.iF _ F).pt A,r _ (h.rb.iF _ G).pt B⟩;unfold jm;dsimp only;by_cases z:l.1=0
  ·by_cases y:l.2.1=0
   ·have:l.2.2≠0:=by
     rcases w with q|q|q
     ·exact absurd z q
     ·exact absurd y q
     exact q
    refine .inr (.inr ?_);rw[z,y,T3,T3,Wg,Wg];exact S0 this (by lia)
   exact .inr (.inl (S0 y (by lia)))
  exact .inl (S0 z (by lia))
 show(s.1.map _).length<=n
 rw[Sv];exact h.ln
structure DT(s:a8):Prop where
 ps:∀p∈s.1,cX 2770 p
 ln:s.1.length<=75
 st:cX 2770 s.2.2
theorem ha.gm{b m n t:Nat}{s:a8}(h:ha b m n t s)(a:b<=2770)(c:n<=75)(d:t<=2770):DT s:=⟨λp e=>(h.rb.iF p e).mono a,Sy h.ln c,h.st.mono d⟩
def vw(sh:ZR):D:=.lst (sh.map bH)
theorem DU{X:Int×Int}{q:Nat}(l:ba X.1 X.2)(a:SB X.1<=q)(b:SB X.2<=q):cw (2*q+5) (cf X):=by
 have c:=l2 (x:=X.1) (y:=X.2) (u:=0) (v:=1) (n:=2) a b (by decide) (by decide) l ⟨by decide,by decide⟩;have d:=l2 (x:=X.1) (y:=X.2) (u:=1) (v:=1) (n:=2) a b (by decide) (by decide) l ⟨by decide,by decide⟩;exact(c.crs d).mono (by lia)
theorem DV{X:Int×Int}{q:Nat}(l:ba X.1 X.2)(a:SB X.1<=q)(b:SB X.2<=q):cw (2*q+5) (cD X):=by
 have c:=l2 (x:=0) (y:=1) (u:=X.1) (v:=X.2) (m:=2) (by decide) (by decide) a b ⟨by decide,by decide⟩ l;have d:=l2 (x:=1) (y:=1) (u:=X.1) (v:=X.2) (m:=2) (by decide) (by decide) a b ⟨by decide,by decide⟩ l;exact(c.crs d).mono (by lia)
abbrev i5:=F2×F2×ZR
abbrev ZU:=List i5
def fp(b:i5):D:=.tup [dR b.1,dR b.2.1,vw b.2.2]
theorem vu{a b:F2}{p q:Nat}(c:ba a.1 a.2)(d:ba b.1 b.2)(e:SB a.1<=p)(f:SB a.2<=p)(g:SB b.1<=q)(h:SB b.2<=q):cX (p+q) (dr a b):=⟨(lR (n:=a.2*b.2) (SA (SE c.1 d.1))).1,l2 e f g h c d⟩
theorem vt{a b:F2}(d:ba a.1 a.2)(f:ba b.1 b.2)(e:bv a=bv b):a=b:=by
 have c:=Dp d.1 f.1 e;have g:=xu (t:=a.1) (b:=a.2) d (SA d.1) rfl;have h:=xu (t:=a.1) (b:=a.2) f (SA d.1) c.symm;exact g.symm.trans h
def gX(a:Z3->Int)(b:Bool)(c:List ZR):Rat:=(c.map (eL a b)).sum
theorem yL(a:Z3->Int)(b:Bool)(S:ZR)(c:List ZR):gX a b (S::c)=eL a b S+gX a b c:=by unfold gX;rw[SJ,S']
theorem qv(a:Z3->Int)(b:Bool):∀(A B:List ZR),gX a b (A++B)=gX a b A+gX a b B
 |[],B=>by show _=(0:Rat)+_;rw[Tf];grind
 |S::A,B=>by rw[Tq,yL,yL,qv a b A B];grind
theorem vr(a:Z3->Int)(b:Bool)(S:ZR):gX a b [S]=eL a b S:=by rw[yL];show _+(0:Rat)=_;grind
def kY(m:Nat):Nat->Nat
 |0=>m
 |s+1=>2*kY m s+3
structure rL(m n:Nat)(ps:ZO)(s:Nat)(rs:Z5):Prop where
 ln:rs.length=s+1
 cv:∀r∈rs,fm r
 le:∀r∈rs,r.length<=n+s
 gp:∀r∈rs,∀p∈r,cX (kY m s) p
 iz:∀φ,gL φ rs=eY φ ps
theorem vq{m n:Nat}{a:ZO}(c:fm a)(d:∀p∈a,cX m p)(e:a.length<=n):rL m n a 0 [a]:=
 ⟨rfl,λr b=>by rw[SQ.mp b];exact c,λr b=>by rw[SQ.mp b];exact e,λr b=>by rw[SQ.mp b];exact d,λf=>rD f a⟩
theorem Kj(m s:Nat):kY m s<=kY m (s+1):=by show kY m s<=2*kY m s+3;lia
theorem rL.step{l g i:ZO}{m o s n:Nat}{f:Z5}{r:ZO}(h:rL m o l s f)(j:f[n]?=some r)(ok:DA (2*kY m s+3) (r.length+1) r g i):rL m o l (s+1) (f.eraseIdx n++[g,i]):=by
 have u:r∈f:=Tb j
 have v:n<f.length:=by
  rcases Wj n f.length with q|q
  ·exact q
  rw[Td q]at j;cases j
 have y:=h.le r u
 have mem:∀{P:ZO->Prop},(∀x∈f,P x)->P g->P i->∀x∈f.eraseIdx n++[g,i],P x:=λa b c x d=>by
  rcases SO.mp d with d|d
  ·exact a x (List.mem_of_mem_eraseIdx d)
  simp at d;rcases d with rfl|rfl
  ·exact b
  exact c
 refine⟨?_,mem h.cv ok.a ok.b,mem (λx d=>Nat.le_succ_of_le (h.le x d)) (Sy ok.la (by lia)) (Sy ok.lb (by lia)),mem (λx d p w=>(h.gp x d p w).mono (Kj m s)) ok.pa ok.pb,λk=>?_⟩
 ·rw[Sz,List.length_eraseIdx_of_lt v,h.ln];show _+2=_;have:=h.ln;lia
 have e:=JT k j;have b:=ok.iz k;have t:=h.iz k;rw[yq,qj,rD];grind
structure yN(m n:Nat)(s:a8):Prop where
 ps:∀p∈s.1,cX m p
 cv:fm s.1
 ln:s.1.length<=n
 st:cX 20 s.2.2
theorem vo(p q:ab):ln (a_ p q) q=0:=by show bn p q q=0;exact Jx _ _
theorem yN.px{m n b:Nat}{s:a8}(h:yN m n s)(f:m<=b):ha b (m+m+1) n 20 s:=
 ⟨h.cv,⟨λp g=>(h.ps p g).mono f,λe a=>by
  obtain⟨c,d⟩:=lX a;refine⟨a_ e.1 e.2,(h.ps _ c).bp.crs (h.ps _ d).bp,?_,DE _ _,vo _ _⟩;rcases mV (h.ps _ c).pt (h.ps _ d).pt (h.cv.side a)with z|z
  ·exact .inl z
  exact .inr (.inl z)⟩,h.ln,h.st⟩
theorem rL.l3{m n:Nat}{ps:ZO}{s c:Nat}{sh:ZR}(h:rL m n ps s (sh.map λt=>t.1))(g:s<=c)(d:kY m s<=kY m c)(st:∀t∈sh,cX 20 t.2.2):(∀t∈sh,yN (kY m c) (n+c) t)/\sh.length<=c+1/\cU (sh.map λt=>t.1) [ps]:=by
 refine⟨λt b=>?_,?_,λe=>by rw[h.iz e,rD]⟩
 ·have a:t.1∈sh.map λt=>t.1:=SI.mpr ⟨t,b,rfl⟩;exact⟨λp f=>(h.gp _ a p f).mono d,h.cv _ a,Sy (h.le _ a) (by lia),st t b⟩
 have:=h.ln;rw[Sv]at this;lia
theorem DW{m:Nat}:∀{s c:Nat},s<=c->kY m s<=kY m c
 |s,0,h=>by rw[show s=0 by lia];exact SD _
 |s,c+1,h=>by
  by_cases e:s=c+1
  ·rw[e];exact SD _
  exact Sy (DW (s:=s) (c:=c) (by lia)) (Kj m c)
theorem vn{x y n:Int}(c : -40<=x)(d:x<=40)(e : -40<=y)(f:y<=40)(a:0<n)(g:n<=3):cX 20 (cC x y n):=by
 have b:∀z:Int,-40<=z->z<=40->SB z<=20:=λz h i=>Sy (intBits_le_iff.mpr (show z.natAbs<2^6 by show z.natAbs<64;lia)) (by decide);exact⟨gI (p:=(x,y,n)) (SA a),cw.nP (p:=(x,y,n)) ⟨b x c d,b y e f,b n (by lia) (by lia)⟩ (SA a)⟩
section
variable{X:aU}{a:Z2}{d:St}{H:al}{s:Tk}{g:XG}
theorem c_.kb{t':Nat}{fs:ZZ}(I:c_ X a d H s)(k:∀b o,b∉fs->s.heap.get? b=some o->g.get? b=some o)(f:∀b∈fs,g2 X a H b):c_ X a d H {s with heap:=g,toks:=t' }:=by
 have j:∀b u,H b=some u->b∉fs:=λb u q m=>by rw[(f b m).1]at q;cases q
 refine I.step (g':=s.gens) (d':=s.drawn) (ch:=fs) (λb l=>?_) (λb o _ _ h q _=>k b o h q) (λb o _ _ h q _=>⟨o.slots,k b o h q⟩) (λ_ _ _ _ n=>n)
  (λb o h q=>⟨o,k b o h q⟩) (λ_ _ e=>e) (λ_ _ _ e=>e) (λb E q=>⟨#[],by rw[q];simp⟩) (λm p=>?_) (λb u q=>?_) I.bare
 ·obtain⟨F,i,G,t,w,x⟩:=f b l;exact⟨t,i,w,x⟩
 ·obtain⟨o,A,B,C,r⟩:=p;refine⟨o,A,B,k _ o (λm=>?_) C,r⟩;obtain⟨_,i,_⟩:=f _ m;exact i rfl
 refine(I.eg b u q).f7 (λc v h y=>k c v ?_ y) (λ_ q=>q) (λ_ _ q=>q) λ_ _ _ q=>q;rcases h with z|z
 ·rw[z];exact j b u q
 exact j c _ z
end
def n1:el:=.ext λ_=>True
theorem DX{P:WP}{w:XB}{H:al}{h:XG}{a:TD}{o:Obj}(e:h.get? a=some o):gx P w H h a (.frz o n1):=⟨e,trivial,⟨o,e⟩,λ_ _ _ _=>trivial⟩
def tl(K:Zy)(b:Str->Option SL)(a:SL)(q:Str):Prop:=
 ∃c P,a=.ref c/\(P,q)∈AE K/\TW≠P/\(∀h,K.In h->CodeHd h c P)/\∀h,K.In h->h.BuiltinsAt b P
def tm(H:al)(f:TD)(b:Str)(a:X5)(e:Wp)(d:XZ)(g:List (Str×TD)):Prop:=
 ∃j c k h u i t,H f=some (.frz (ZL "<lambda>" b a e d g j c k) n1)/\H c=some (.frz h u)/\h.data=.fields i/\i[1]?=some (.str b t)
theorem vm{d p:Pos}{c f:SL}:∀(l:ZY),TriplesOk l->YS d (l++[Y9 p.line,Y9 p.col,c])=some f->YS d l=some f\/f=c:=λl=>by
 fun_induction TriplesOk l with
 |case1=>
  intro _ h;simp only[Tf,YS,Y9]at h;split at h
  ·exact .inr (SN h).symm
  cases h
 |case2 a t b u x rest i=>
  intro h e;simp only[Tq,YS]at e⊢;split at e
  ·rename_i g;rw[SZ g];exact .inl e
  rename_i g;rw[Tl g];exact i h e
 |case3 l j k=>intro h;exact h.elim
section
variable{X:aU}{g:X5}{k:Wp}{i:XZ}{l:Pos}{j:List (Str×TD)}
theorem vl(LT:tl X.K X.mg X.env.code (X.env.qual++"<lambda>"))(aQ:defaultsOf g X.env=([],[]))(ae:Zs i X.env=pure j){R:Z2}{s:Tk}{S:St}{H:al}{Q:cn}(I:c_ X R S H s)(h:∀(f:TD)(J:al),(∀b o,H b=some o->J b=some o)->(∀b,J b=none->H b=none)->tm J f (X.env.qual++"<lambda>") g k i j->Q (.ref f) J):
  wpAny (UV X.prog X.w) X.A (Yp (.Lambda g k i l) X.env) (he X R S Q) X.xe s:=by
 obtain⟨c,P,ai,aR,T,aT,aV⟩:=LT;obtain⟨bY,t,F,aj⟩:=I.tabs _ aR;obtain⟨aZ,ao,L,x⟩:=I.eg P _ F;have C:=aT _ I.gC;have G:s.heap.Ns TW X.mg:=I.mod.glob.keeps I.bk;have aq:=aV _ I.gC;refine kla_eval aQ ?_;cases U:YS l aZ.toList with
 |some W=>
  obtain⟨m,B,u,M,a0,a3,bZ,rfl,au,a5,a6,av⟩:=x l W U
  have bg:a0=X.env.qual++"<lambda>":=by
   rw[aj]at av;have:=SN av;injection this with z _
   exact z.symm
  subst bg;refine kla_makeFunctionHit ae I.ok.glob G ai C ao L U aq λE h' N kp aw=>?_;have r:H h'.objs.size=none:=I.eg.fresh aw;have Y:=I.laid (t':=N) (a:=h'.objs.size) (o:=.frz (ZL "<lambda>" (X.env.qual++"<lambda>") g k i j ((X.mg "__name__").getD .none) m E) n1) (h':=h'.push (ZL "<lambda>" (X.env.qual++"<lambda>") g k i j ((X.mg "__name__").getD .none) m E)) (λb o e=>Heap.get?_push_of_some _ (kp b o e)) aw (DX (Heap.get?_push_size _ rfl));refine⟨.ref h'.objs.size,_,Y,rfl,h _ _ (λb o e=>by rw[bO (hL e r)];exact e) (λb e=>?_) ⟨_,m,E,B,u,M,a3,dx,by rw[bO (hL au r)];exact au,a5,a6⟩⟩;by_cases z:b=h'.objs.size
  ·rw[z];exact r
  rwa[bO z]at e
 |none=>
  refine kla_makeFunction ae I.ok.glob G ai C ao L U T aq λm E h' N O aB lt bj aD=>?_;obtain⟨b5,B,M,aE,Z,bq,aF,aG⟩:=bj;cases Z;have r:H m=none:=I.eg.fresh aB;have br:P≠m:=λz=>by rw[z,r]at F;cases F
  have aH:∀b,H b=none->b≠P:=λb n z=>by rw[z,F]at n;cases n
  have bz:f9 X.fs [] H (ed H m (.frz B n1)) s.heap h':=by
   refine⟨λb o e n _ _=>O b o (aH b n) e,λb o e n _ _=>⟨o.slots,O b o (aH b n) e⟩,λb o e n _=>?_,λb o e _=>?_,λb bA q=>by rw[bO (hL q r)];exact q,λb o u q=>by rw[bO (hL q r)];exact q,λb p q=>⟨#[],by rw[bO (hL q r),q];simp⟩⟩
   ·rw[bO (S6 (Ta (Heap.lt_size e) aB))];exact n
   by_cases z:b=P
   ·rw[z];exact⟨_,aD⟩
   exact⟨o,O b o z e⟩
  have bF:fh X.prog X.w (ed H m (.frz B n1)) h':=λb u q=>by
   by_cases z:b=m
   ·subst z;rw[dx]at q;cases q;exact DX bq
   rw[bO z]at q;by_cases aI:b=P
   ·subst aI;rw[F]at q;cases q;refine⟨_,aD,by rw[Xd];exact TriplesOk_snoc _ _ _ _ L,λp W aJ=>?_⟩;rw[Xd]at aJ;rcases vm _ L aJ with y|rfl
    ·obtain⟨bJ,bK,bQ,bR,bV,h1,aa,bW,aK,bX⟩:=x p W y;exact⟨bJ,bK,bQ,bR,bV,h1,aa,bW,by rw[bO (hL aK r)];exact aK,bX⟩
    exact⟨m,B,n1,M,_,aE,t,rfl,dx,aF,aG,aj⟩
   refine(I.eg b u q).f7 (λd v hi y=>O d v ?_ y) (λd y=>by rw[bO (hL y r)];exact y) (λd bA y=>by rw[bO (hL y r)];exact y) λd b8 u y=>by rw[bO (hL y r)];exact y
   rcases hi with y|y
   ·rw[y];exact aI
   intro w;rw[w,F]at y;cases y
  have aN:c_ X R S (ed H m (.frz B n1)) {s with heap:=h',toks:=N}:=I.un bz bF;have aM:ed H m (.frz B n1) h'.objs.size=none:=aN.eg.fresh (SD _);have Y:=aN.laid (t':=N) (a:=h'.objs.size) (o:=.frz (ZL "<lambda>" (X.env.qual++"<lambda>") g k i j ((X.mg "__name__").getD .none) m E) n1) (h':=h'.push (ZL "<lambda>" (X.env.qual++"<lambda>") g k i j ((X.mg "__name__").getD .none) m E)) (λb o e=>Heap.get?_push_of_some _ e) (SD _) (DX (Heap.get?_push_size _ rfl));have aO:m≠h'.objs.size:=S6 lt;refine⟨.ref h'.objs.size,_,Y,rfl,h _ _ (λb o e=>by rw[bO (hL (o:=o) (by rw[bO (hL e r)];exact e) aM),bO (hL e r)];exact e) (λb e=>?_) ⟨_,m,E,B,n1,M,aE,dx,by rw[bO aO];exact dx,aF,aG⟩⟩;by_cases z:b=h'.objs.size
  ·rw[z];rwa[bO (Tc aO)]at aM
  rw[bO z]at e;by_cases aP:b=m
  ·rw[aP];exact r
  rwa[bO aP]at e
end
noncomputable def DZ(b:Str)(a:XZ)(c:List (Str×TD))(L f:TD)(d:SL):Env:=newEnv a L TW c (b++".<locals>.") (some f) d none X0
def vv(X:aU)(A:XC)(N:ZX)(b:Str)(a:XZ)(c:List (Str×TD))(f:TD)(d:SL)(s:Tk)(H:al):aU:=
 {X with A:=A.deeper (DZ b a c s.heap.objs.size f d),N:=N,s₀:=s,H₀:=H,env:=DZ b a c s.heap.objs.size f d,outer:=X.stack,stack:=DZ b a c s.heap.objs.size f d::X.stack,ex:=[],fn:=λ_=>false,calm:=true,pn:=[],xe:=λ_ _=>False}
structure yP(X:aU)(x:Str)(fr:ZX)(js:ZT)(scope:XZ)(kD:List (Str×TD)):Prop where
 kind:scope.kind=.function
 co:scope.isCoroutine=false
 gen:scope.isGenerator=false
 par:scope.names.lookup x=some .local
 jE:∀y∈scope.names,y.2≠.cell
 free:∀y,scope.names.lookup y=some .free->∃c,kD.lookup y=some c
 sub:∀y c,kD.lookup y=some c->X.env.cells.lookup y=some c
 len:fr.length=js.length
 nd:(x::fr).Nodup
 frs:∀(i:Nat)(y:Str)(j:Nat),fr[i]?=some y->js[i]?=some j->X.N[j]?=some y/\scope.names.lookup y=some .free/\(X.env.kindOf y=some .cell\/X.env.kindOf y=some .free)
theorem vk{X:aU}{A:XC}{aG:Z2}{s:Tk}{C:St}{H:al}{Q:cn}{f:TD}{h x:Str}{k:X5}{n:Wp}{a:XZ}{g:List (Str×TD)}{G:ZX}{K:ZT}{u:SL}{v:V}{E:SL->Tk->Prop}(aH:A.frames=some X.stack)(aI:A.handled=none)(T:A.depth<YA)(I:c_ X aG C H s)(F:tm H f h k n a g)(S:yP X x G K a g)(aK:eb v u)(aM:∀U c W,Y2 (kla_fn "<lambda>" h k n a g U (.ref c) W) ⟨[u],[]⟩=pure [(x,u)])(aO:∀aP,∃Y,bP (vv X A (x::G) h a g f aP s H) n Y/\Y (some v::K.map λj=>(C[j]?).join) H Q):
  wpAny (UV X.prog X.w) A (call (.ref f) [u]) (qL X.stack X.prog X.w H s Q) E s:=by
 obtain⟨U,c,W,aQ,bK,aR,t,Z,aV,dC,aa⟩:=F;obtain⟨aW,_⟩:=I.eg f _ Z;obtain⟨aZ,_⟩:=I.eg c _ aV;obtain⟨Y,aY,a0⟩:=aO (.ref c);refine wpAny_call (YY (R:=λr N=>match r with|.ok (.ret w)=>qL X.stack X.prog X.w H s Q w N|_=>False) ?_ λr N L=>?_);rotate_left
 ·cases r with
  |error e=>exact Ts L
  |ok a3=>
   cases a3 with
   |ret w=>exact L
   |next=>exact Ts L
   |brk=>exact Ts L
   |cont=>exact Ts L
 refine kla_callFunE T aW rfl S.co S.gen rfl ⟨c,aQ,aR,t,rfl,aZ,dC,aa⟩ ?_;rw[aM U c W];refine SC (Y7 S.jE (λy q=>by rw[SQ.mp q];exact S.par) (λaz a5 aB=>⟨I.nolimit.fresh _ aB,?_⟩) S.kind);have O:∀b o,s.heap.get? b=some o->az.get? b=some o:=λb o e=>aB.extBut b o (S6 (Heap.lt_size e)) (Heap.get?_push_of_some _ e)
 have ok:(vv X A (x::G) h a g f (.ref c) s H).Ok:=by
  refine⟨I.ok.mod,S.kind,rfl,rfl,SD _,λy z d B l=>I.ok.inj y z d (S.sub _ _ B) (S.sub _ _ l),λy q=>?_,λy d z=>absurd z SW,λ_=>aI,Around.frames_deeper aH,.inr ⟨rfl,rfl⟩,λb M=>absurd (show b∈([]:ZZ)from M) (by simp),I.bs,Sy I.ok.j5 I.sz,λb _ _ M=>absurd (show b∈([]:ZZ)from M) (by simp),λb M=>absurd (show b∈([]:ZZ)from M) (by simp),I.stack,I.gu,I.tabs⟩;have q:a.names.lookup y=some .cell\/a.names.lookup y=some .free:=q;rcases q with q|q
  ·exact absurd rfl (S.jE _ (mem_of_lookup q))
  exact S.free y q
 have J:c_ (vv X A (x::G) h a g f (.ref c) s H) [] (some v::K.map λj=>(C[j]?).join) H {s with heap:=az,toks:=s.toks+[(x,u)].length}:=by
  refine⟨ok,rfl,I.bare,f9.kept O,⟨_,a5,λi y w B l hi=>?_⟩,λy d e=>?_,I.fresh,λy d e=>I.e_ y d (S.sub _ _ e),λp a6=>absurd (show p∈([]:Z2)from a6) (by simp),I.eg.kept O,?_⟩
  ·cases i with
   |zero=>
    have B:some x=some y:=B;have l:some (some v)=some (some w):=l;cases B;cases l;exact⟨u,aK,.inl ⟨S.par,by simp⟩⟩
   |succ i=>
    have B:G[i]?=some y:=B;have l:(K.map λj=>(C[j]?).join)[i]?=some (some w):=l;rw[SP]at l;obtain⟨j,a7,l⟩:=UD.mp l;obtain⟨bc,aD,aE⟩:=S.frs i y j B a7
    have ai:C[j]?=some (some w):=by
     cases z:C[j]? with
     |none=>rw[z]at l;cases l
     |some bM=>rw[z]at l;cases l;rfl
    obtain⟨m,_,lk⟩:=I.loc;obtain⟨bg,bj,bq⟩:=lk j y w bc ai (by rcases aE with z|z;exact .inr (.inl z);exact .inr (.inr z));refine⟨bg,bj,.inr ⟨.inr aD,?_⟩⟩;obtain⟨d,aF⟩:=S.free y aD;have br:=S.sub _ _ aF;rcases bq with⟨z,_⟩|⟨_,bR,hi,aj⟩
    ·rcases aE with ao|ao<;>rw[z]at ao<;>cases ao
    rw[br]at hi;cases hi;obtain⟨o,aq,au⟩:=aj;exact⟨d,aF,o,O _ _ aq,au⟩
  ·obtain⟨w,o,aq,r⟩:=I.cell y d (S.sub _ _ e);exact⟨w,o,O _ _ aq,r⟩
  show(some v::K.map λj=>(C[j]?).join).length=(x::G).length
  simp[S.len]
 refine kla_codeExpr (XK (aY [] _ _ H _ J a0) (λw N aw=>?_) λe N aw=>Ts aw);obtain⟨bA,bC,P,bF,bJ⟩:=aw;exact⟨bA,bC,P.os,P.bare,P.base,P.eg,bF,bJ⟩
theorem tq{d f:Type}{g:d->f}{m n:List f}(p:m.Perm n):∀{l:List d},n=l.map g->∃c:List d,c.Perm l/\c.map g=m:=by
 induction p with
 |nil=>intro l e;exact⟨[],by rw[List.map_eq_nil_iff.mp e.symm],rfl⟩
 |cons x _ h=>
  intro l e;cases l with
  |nil=>cases e
  |cons a l=>
   rw[SJ]at e;obtain⟨rfl,i⟩:=Uc e;obtain⟨c,j,rfl⟩:=h i;exact⟨a::c,j.cons a,rfl⟩
 |swap x y _=>
  intro l e
  match l,e with
  |a::b::l,e=>
   simp only[SJ,UQ]at e;obtain⟨rfl,rfl,rfl⟩:=e;exact⟨b::a::l,List.Perm.swap _ _ _,rfl⟩
 |trans _ _ k o=>
  intro l e;obtain⟨t,p2,q⟩:=o e;obtain⟨r,p1,s⟩:=k q.symm;exact⟨r,p1.trans p2,s⟩
theorem vj{kz:ZM}:∀{c:ZQ}{d:ZY},bN c d->∃b:List (Int×V×SL),b.map (λt=>(t.1,t.2.1))=kz.zip c/\b.map (λt=>(t.1,t.2.2))=kz.zip d/\∀t∈b,eb t.2.1 t.2.2:=by
 induction kz with
 |nil=>intro c d _;exact⟨[],rfl,rfl,λt h=>absurd h TR⟩
 |cons k kz f=>
  intro c d r;cases r with
  |nil=>exact⟨[],rfl,rfl,λt h=>absurd h TR⟩
  |cons a r=>
   obtain⟨b,g,i,h⟩:=f r
   exact⟨(k,_,_)::b,by rw[SJ,g];rfl,by rw[SJ,i];rfl,λt e=>by
    rcases SH.mp e with rfl|e
    ·exact a
    exact h t e⟩
theorem Kt:∀{a:List (Int×V×SL)},(∀t∈a,eb t.2.1 t.2.2)->bN (a.map λt=>t.2.1) (a.map λt=>t.2.2)
 |[],_=>.nil
 |t::a,h=>.cons (h t Sw) (Kt λx b=>h x (Sx _ b))
def i6(H a:al):Prop:=∀b o,H b=some o->a b=some o
section
variable{X:aU}{j:Z2}{B:St}{H:al}{s:Tk}{a g f:TD}{l:ZY}{C:ZQ}{k:ZM}{r:Nat}{P:V'->Tk->Prop}{E:SL->Tk->Prop}
theorem vf{K:Array SL}{e:Nat}{A:XC}(I:c_ X j B H s)(R:g2 X j H a)(M:g2 X j H g)(aF:g≠a)(aG:s.heap.get? g=some (Yy "list" K e))(aH:s.heap.get? a=some (Yy "list" #[] r))(aI:X.base.get? a=none)(aJ:X.base.get? g=none)(aK:YZ K.toList k)(aO:k.length=l.length)(aP:l.length<64)(aQ:bN C l)(h:∀(ak:Tk)(U:List (Int×V)),U.Perm (k.zip C)->U.Pairwise (λp q=>p.1<=q.1)->c_ X j B (ed H a (.lst (U.map Un))) ak->P (.done (.ret .none)) ak):
  wpAny (UV X.prog X.w) A (ksk_end a false l.toArray r (.ref g) K) P E s:=by
 obtain⟨m,hc,br⟩:=I.loc;let news:=(RA s.heap).filter λp=>(X.base.get? p.1).isNone&&(p.1 != X.env.locals&&(p.1 != g&&p.1 != a))
 have W:∀b o,s.heap.get? b=some o->X.base.get? b=none->b≠X.env.locals->b≠g->b≠a->(b,o)∈news:=λb o q G f J O=>by
  refine TO.mpr ⟨?_,?_⟩
  ·exact T7.mpr ⟨b,TF.mpr (Heap.lt_size q),by rw[q];rfl⟩
  simp[G,f,J,O]
 have Y:∀p∈news,s.heap.get? p.1=some p.2/\p.1≠X.env.locals/\X.base.get? p.1=none/\p.1≠g/\p.1≠a:=λp L=>by
  obtain⟨G,f⟩:=TO.mp L;simp only[TJ,VT,bne_iff_ne,ne_eq]at f;refine⟨?_,f.2.1,f.1,f.2.2.1,f.2.2.2⟩;obtain⟨i,_,J⟩:=T7.mp G;obtain⟨o,O,rfl⟩:=UD.mp J;exact O
 have F:Fr X.base X.env.locals s.heap m:=⟨hc,I.bk,Sy I.ok.j5 I.ok.above⟩
 have N:News X.base X.env.locals s.heap (news++[(g,Yy "list" K e),(a,Yy "list" #[] r)]):=λp L=>by
  rcases SO.mp L with L|L
  ·obtain⟨G,f,J,_⟩:=Y p L;exact⟨G,f,J⟩
  simp only[SH,TR,or_false]at L;rcases L with rfl|rfl
  ·exact⟨aG,M.2.1,aJ⟩
  exact⟨aH,R.2.1,aI⟩
 refine ksk_end_ F N aF (λp L=>(Y p L).2.2.2.1) (λp L=>(Y p L).2.2.2.2) aK aO aP λh' aq T c Z ar h1=>?_;obtain⟨bz,aR,aV,hi⟩:=h1;obtain⟨bA,aW,av,a0⟩:=vj (kz:=k) aQ;obtain⟨S,ag,aw⟩:=tq aR av.symm
 have kept:∀b o,b≠X.env.locals->b∉[g,a]->s.heap.get? b=some o->h'.get? b=some o:=λb o G f J=>by
  simp only[SH,TR,or_false,not_or]at f;cases z:X.base.get? b with
  |some ax=>
   have:=I.bk b ax z;rw[J]at this;cases this;exact Z.keep b _ z
  |none=>exact(ar (b,o) (Sx _ (W b o J z G f.1 f.2))).1
 have a5:h'.get? a=some (Yy "list" T c):=(ar _ Sw).1;have Q:∀b u,H b=some u->b≠a:=λb u q z=>by rw[z,R.1]at q;cases q
 have ch:∀b∈[g,a],(b∈X.ex\/X.s₀.heap.objs.size<=b)/\b≠X.env.locals/\(∀x c,X.env.cells.lookup x=some c->c≠b)/\∀p∈X.pn++j,p.1≠b:=λb ay=>by
  simp only[SH,TR,or_false]at ay;rcases ay with rfl|rfl
  ·exact⟨M.2.2.2.1,M.2.1,M.2.2.2.2.1,M.2.2.2.2.2⟩
  exact⟨R.2.2.2.1,R.2.1,R.2.2.2.2.1,R.2.2.2.2.2⟩
 refine h {s with heap:=h',toks:=aq} (S.map λt=>(t.1,t.2.1)) (by rw[<-aW];exact ag.map _) ?_ ?_
 ·rw[<-aw]at hi;rw[Xe]at hi⊢;exact hi.imp λ{x y} z=>by simpa using z
 have em:(S.map λt=>(t.1,t.2.1)).map Un=S.map λt=>t.2.1:=by rw[SM];rfl
 have aj:T.toList=S.map λt=>t.2.2:=by rw[aV,<-aw,SM];rfl
 have ln:S.length<=TI:=by
  have G:=ag.length_eq;have f:=Uf S3 av;rw[Sv,List.length_zip]at f;rw[XS];lia
 rw[em];refine I.step (ch:=[g,a]) (h':=h') (g':=s.gens) (d':=s.drawn) (t':=aq) ch (λb o G _ J O _=>kept b o G J O) (λb o G _ J O _=>⟨o.slots,kept b o G J O⟩) (λb o G _ J=>?_) (λb o G f=>?_) (λb x q=>by rw[bO (Q _ _ q)];exact q) (λb o u q=>by rw[bO (Q _ _ q)];exact q) (λb p q=>⟨#[],by rw[bO (Q _ _ q),q];simp⟩) (λa6 a7=>?_) (λb u q=>?_) I.bare
 ·rw[bO (λz=>G (by rw[z];simp))];exact J
 ·by_cases z:b=X.env.locals
  ·rw[z];obtain⟨a',bF,bJ,q,_⟩:=Z.ns;exact⟨a',q⟩
  exact⟨o,kept b o z G f⟩
 ·have:a6=m:=by
   obtain⟨bK,bc,bM,G,f,_,J⟩:=a7;obtain⟨bQ,bg,bR,aB,aD,_,bj⟩:=hc;rw[G]at aB;cases aB;rw[f]at aD;cases aD;funext n;rw[<-J,<-bj]
  rw[this];exact Z.ns
 by_cases z:b=a
 ·subst z;rw[dx]at q;cases q;exact⟨by rw[Sv];exact ln,S.map λt=>t.2.2,c,Kt λt bq=>a0 t (ag.mem_iff.mp bq),by rw[<-aj];simpa using a5⟩
 rw[bO z]at q;refine(I.eg b u q).f7 (λd v aE y=>kept d v ?_ ?_ y) (λd y=>by rw[bO (Q _ _ y)];exact y) (λd x y=>by rw[bO (Q _ _ y)];exact y) λd ax u y=>by rw[bO (Q _ _ y)];exact y
 ·intro w;rcases aE with y|y
  ·rw[<-y,w,I.free]at q;cases q
  rw[w,I.free]at y;cases y
 simp only[SH,TR,or_false,not_or];rcases aE with y|y
 ·subst y;exact⟨λw=>(by rw[w,M.1]at q;cases q),z⟩
 exact⟨λw=>(by rw[w,M.1]at y;cases y),Q _ _ y⟩
end
theorem g2.at{X:aU}{a:Z2}{H c:al}{b:TD}(f:g2 X a H b)(n:c b=none):g2 X a c b:=⟨n,f.2⟩
section
variable{X:aU}{A:XC}{g:Z2}{l:St}{H:al}{s:Tk}{a kS f:TD}{d:ZY}{n:ZQ}{c:ZM}{m:Nat}{P:V'->Tk->Prop}{E:SL->Tk->Prop}
theorem v_(I:c_ X g l H s)(ae:g2 X g H a)(Y:g2 X g H kS)(ag:kS≠a)(aw:s.heap.get? kS=some (Yy "list" #[] 0))(ay:s.heap.get? a=some (Yy "list" #[] m))(az:X.base.get? a=none)(aD:X.base.get? kS=none)(aG:a∉frs X.stack)(aI:kS∉frs X.stack)(aJ:c.length=d.length)(aK:d.length<64)(aN:bN n d)(F:∀(i:Nat)(v:SL)(k:Int),d[i]?=some v->c[i]?=some k->∀(t:al)(x:Tk),c_ X g l t x->i6 H t->wpAny (UV X.prog X.w) A (call (.ref f) [v]) (qL X.stack X.prog X.w t x λy R=>y=.int k/\i6 t R) (λ_ _=>False) x)(h:∀(x:Tk)(t:al)(G:List (Int×V)),i6 H t->t a=none->G.Perm (c.zip n)->G.Pairwise (λp q=>p.1<=q.1)->c_ X g l (ed t a (.lst (G.map Un))) x->P (.done (.ret .none)) x):
  wpAny (UV X.prog X.w) A (ksk_rest a (.ref f) false d.toArray m (.ref kS)) P E s:=by
 unfold ksk_rest;refine wp (Yg ?_);rw[List.forIn_toArray]
 refine wp (ksk_fold (λi x=>∃t B e,c_ X g l t x/\i6 H t/\t a=none/\t kS=none/\x.heap.get? kS=some (Yy "list" B e)/\x.heap.get? a=some (Yy "list" #[] m)/\YZ B.toList (c.take i)) d 0 s
  ⟨H,#[],0,I,λ_ _ q=>q,ae.1,Y.1,aw,ay,by simpa using IntsAre.nil⟩ ?step ?done)
 case step=>
  rintro j v aj ak ⟨Z,B,e,S,T,K,U,L,W,M⟩;simp only[TZ]at M⊢;have a':j<d.length:=(TM.mp ak).1;obtain⟨k,hc⟩:∃k,c[j]?=some k:=⟨_,SY (by lia)⟩
  have bg:B.size<=d.length:=by
   have q:=M.length;rw[UX,TQ]at q;lia
  refine wp (Zl (XK (F j v k ak hc Z aj S T) (λu N aM=>?_) λ_ _ q=>q.elim));obtain⟨y,R,os,O,Q,aP,r,rfl,aR⟩:=aM;obtain⟨C,rfl⟩:=r;have aT:=S.kT (ch:=[]) os Q aP O (λb z=>absurd z (by simp));have ao:=Q.keep kS _ L U aI (by simp);have aV:=Q.keep a _ W K aG (by simp);have ar:=Q.free kS _ L U (by simp);have aW:=Q.free a _ W K (by simp)
  try dsimp only
  have av:=Heap.SameBut.update N.heap kS (Obj.mapSeq (·.push (.int k C)));obtain⟨h1,aZ⟩:∃h1,(N.heap.update kS (Obj.mapSeq (·.push (.int k C)))).get? kS=some (Yy "list" (B.push (.int k C)) h1):=⟨_,get?_update_seq ao (·.push (.int k C))⟩;have a0:c.take (j+1)=c.take j++[k]:=by rw[List.take_add_one,hc];simp
  have a3:(B.push (Value.int k C)).toList=B.toList++[Value.int k C]:=by simp
  refine wp (Zm ao rfl ?_ (by rw[XS];lia) (Sy (VL (Array.size_push ..)) (by rw[XS];lia)));have a5:c_ X g l R {N with heap:=N.heap.update kS (Obj.mapSeq (·.push (.int k C))),toks:=N.toks}:=aT.kb (fs:=[kS]) (λb o q z=>(av.2 b (λw=>q (by rw[w];simp))).trans z) (λb a6=>by rw[SQ.mp a6];exact Y.at ar);exact SC ⟨rfl,R,_,h1,a5,λb o q=>aR b o (T b o q),aW,ar,aZ,(av.2 a ag.symm).trans aV,by rw[a3,a0];exact ksk_snoc M⟩
 case done=>
  rintro aj ⟨Z,B,e,S,T,K,U,L,W,M⟩
  have aa:YZ B.toList c:=by
   have z:c.take (0+d.length)=c:=U0 (by lia);rwa[z]at M
  try dsimp only
  refine wp (Y0 L rfl ?_);exact vf S (ae.at K) (Y.at U) ag L W az aD aa aJ aK aN λx G p1 p2 J=>h x Z G T K p1 p2 J
end
section
variable{d:WP}{w:XB}{A:XC}{E:SL->Tk->Prop}{s:Tk}
theorem v'{R:ZG->Tk->Prop}{r S:TD}{a b c:Int}{t u v:Tok}{n:Nat}(j:A.handled=none)(k:IsRange s.heap r a b c t u v)(l:Builtin.Range.small a b c=true)(m:Builtin.Range.rangeSize a b c=n)(p:n<=2^24)(q:s.heap.get? S=some {cls:=.type "list",data:=.seq #[]})(h:∀(g:XG)(x:Nat)(e:Array SL)(y:Nat),(∀b o,b≠S->s.heap.get? b=some o->g.get? b=some o)->g.get? S=some {cls:=.type "list",dict:=none,data:=.seq e y,slots :=#[]}->ItemsOf (λi v=>∃t,v=.int (a+i*c) t) e n->R (.ok (.ret (.ref S))) {s with heap:=g,toks:=x}):
  codeAny (UV d w) A (.builtin "list.__iadd__" ⟨[.ref S,.ref r],[]⟩) R s:=by
 refine Yv PySem.F.entry_list_iadd ?_;rw[Around.under_plainId Xf _];exact wpAny_extend_range j k l m p S _ 0 q h
theorem v8{r:TD}{a b c:Int}{t u v:Tok}{n:Nat}{Q:ZY->Tk->Prop}(p:A.handled=none)(q:IsRange s.heap r a b c t u v)(x:Builtin.Range.small a b c=true)(y:Builtin.Range.rangeSize a b c=n)(z:n<=2^24)(h:∀(f:XG)(j:Nat)(g:Array SL),s.heap.objs.size<=f.objs.size->(∀b o,s.heap.get? b=some o->f.get? b=some o)->ItemsOf (λi v=>∃t,v=.int (a+i*c) t) g n->Q g.toList {s with heap:=f,toks:=j}):
  wpAny (UV d w) A (collect (.ref r)) Q E s:=by
 unfold collect;refine wp (wpAny_runValue (Yv PySem.F.entry_proto_collect ?_));rw[Around.under_plainId PySem.F.plain_proto_collect _];show wpAny _ A.in1 (newList [] >>= λl=>again (.builtin "list.__iadd__" ⟨[l,.ref r],[]⟩)) _ _ s
 refine wp (W1 ?_);refine SC ⟨Yq Xf _,?_⟩;refine v' (s:={s with heap:=s.heap.push {cls:=.type "list",data:=.seq #[]} }) p (Heap.get?_push_of_some _ q) x y z (Heap.get?_push_size _ rfl) λf j k C kp m B=>?_;show wpAny _ A (load s.heap.objs.size >>= _) _ _ _
 refine wp (wpAny_load m ?_);exact SC (h f j k (UE (Heap.lt_size m)) (λb o e=>kp b o (S6 (Heap.lt_size e)) (Heap.get?_push_of_some _ e)) B)
end
theorem v7{n:Nat}{a:Array SL}(h:ItemsOf (λi v=>∃t,v=.int ((0:Int)+i*1) t) a n):bN ((S7 n).map λi:Nat=>V.int i) a.toList:=by
 obtain⟨d,f⟩:=h
 have key:∀(l:ZY)(k:Nat),(∀(j:Nat)(v:SL),l[j]?=some v->∃t,v=.int ((0:Int)+((k+j:Nat):Int)*1) t)->bN ((VX k l.length).map λi:Nat=>V.int i) l:=by
  intro l;induction l with
  |nil=>exact λk _=>.nil
  |cons v l g=>
   intro k c;rw[SK,List.range'_succ,SJ];refine .cons ?_ (g (k+1) λj m b=>?_)
   ·obtain⟨t,e⟩:=c 0 v rfl;exact⟨t,by rw[e];congr 1;lia⟩
   obtain⟨t,e⟩:=c (j+1) m (by simpa using b);exact⟨t,by rw[e];congr 1;lia⟩
 have:=key a.toList 0 λj v b=>by
  rw[UH]at b;simpa using f j v b
 rwa [show a.toList.length=n from by simpa using d,<-WL]at this
def vY(b:eZ):bI:=λc H Q=>b c H λd a=>∃j:Int,d=[.int j]/\∀p,a p=none->Q (.ref p) (ed a p (.rng 0 j))
section
variable{X:aU}
theorem vX{a:Wp}{d:eZ}{p c:Pos}(g:eu X "range")(i:X.mg "range"=none)(k:hf X [a] d)(l:UF [a] X.env=[(false,Yp a X.env)]:=by rfl):bP X (.Call (.Name "range" p) [a] [] c) (vY d):=by
 intro m s n H Q I h;refine Call_ (oa I g i boot_range (UY (cp (k c m s n H _ I h) λw x ⟨y,z,f,r,v⟩=>?_) l rfl));obtain⟨j,e,q⟩:=v;subst e;obtain⟨u,rfl,t,rfl⟩:=e3 r;refine call_range_1 ⟨.ref _,_,f.laid (o:=.rng 0 j) (λb o e=>Heap.get?_push_of_some _ e) (SD _) ⟨_,_,_,Heap.get?_push_size _ rfl⟩,rfl,q _ (f.eg.fresh (SD _))⟩
end
section
variable{X:aU}{c:Z2}{d:St}{H:al}{s:Tk}{l f:TD}{xs:ZQ}{kz:ZM}{Q:cn}
theorem vW(I:c_ X c d H s)(L:∀(Y:SL->Tk->Prop)(O:ZY->Tk->Prop),(∀(h':XG)(r:Nat)(vs:ZY),s.heap.objs.size<=h'.objs.size->(∀b o,s.heap.get? b=some o->h'.get? b=some o)->bN xs vs->O vs {s with heap:=h',toks:=r})->wpAny (UV X.prog X.w) X.A.in1 (collect (.ref l)) O Y s)(Z:kz.length=xs.length)(aB:xs.length<64)(u:∀(i:Nat)(x:V)(v:SL)(k:Int),xs[i]?=some x->eb x v->kz[i]?=some k->∀(j:al)(E:Tk),c_ X c d j E->i6 H j->wpAny (UV X.prog X.w) X.A.in1.in1 (call (.ref f) [v]) (qL X.stack X.prog X.w j E λy hi=>y=.int k/\i6 j hi) (λ_ _=>False) E)(q:∀(j:al)(p:TD)(B:List (Int×V)),i6 H j->j p=none->B.Perm (kz.zip xs)->B.Pairwise (λp q=>p.1<=q.1)->Q (.ref p) (ed j p (.lst (B.map Un)))):
  wpAny (UV X.prog X.w) X.A (call (.builtin "sorted") [.ref l] [(Str.ofString "key",.ref f)]) (he X c d Q) X.xe s:=by
 refine call_function_entry_kw kind_sorted plain_sorted entry_sorted (ksk_s1 _ _) ?_;unfold YC.«sorted»;refine wp (m:=checkCount "sorted" 1 1 _) (SC (wp (L _ _ λh r vs M ae F=>wp (wpAny_newList ?_ (by rw[XS,<-F.length];lia)))));have ln:=F.length;have P:vs.length<=TI:=by rw[XS];lia
 let t:=h.push (Yy "list" vs.toArray 0)
 have G:t.get? h.objs.size=some (Yy "list" vs.toArray 0):=Heap.get?_push_size _ rfl;show wpAny (UV X.prog X.w) X.A.in1 _ _ _ {s with toks:=r,heap:=t}
 refine wp (Xy (wpAny_call_entry_kw (s:={s with toks:=r,heap:=t}) slot_list_sort ⟨_,G,rfl⟩ entry_list_sort ?body (ksk_l1 _ _)))
 case body=>
  show wpAny (UV X.prog X.w) X.A.in1.in1 (YC.«list.sort» ⟨[.ref h.objs.size],[(Str.ofString "key",.ref f)]⟩) _ _ _
  rw[ksk_t1];unfold ksk_tree;refine wp (Y0 (s:={s with toks:=r,heap:=t}) G rfl ?_);refine wp (Zm (s:={s with toks:=r,heap:=t}) G rfl ?_ (by rw[SV];exact P) (S9 _));obtain⟨R,S⟩:∃R,(t.update h.objs.size (Obj.mapSeq λ_=>(#[]:Array SL))).get? h.objs.size=some (Yy "list" #[] R):=⟨_,get?_update_seq G λ_ => #[]⟩;have aj:=Heap.SameBut.update t h.objs.size (Obj.mapSeq λ_=>(#[]:Array SL));refine wp (seqEpoch_at (s:={s with toks:=r,heap:=t.update h.objs.size (Obj.mapSeq λ_=>(#[]:Array SL))}) S rfl ?_);refine wp (wpAny_newTuple ?_ (by show vs.length<=_;exact P));refine wp (wpAny_newList ?_ (S9 _));refine Xy ?_;let T:=t.update h.objs.size (Obj.mapSeq λ_=>(#[]:Array SL))
  let K:=T.push (Yy "tuple" vs.toArray 0)
  let N:=K.push (Yy "list" #[] 0)
  have kp:∀b o,s.heap.get? b=some o->N.get? b=some o:=λb o e=>by
   have lt:=Ta (Heap.lt_size e) M;exact Heap.get?_push_of_some _ (Heap.get?_push_of_some _ ((aj.2 b (S6 lt)).trans (Heap.get?_push_of_some _ (ae b o e))))
  have U:h.objs.size<K.objs.size:=by
   show _<(T.push _).objs.size
   rw[Heap.size_push,Heap.size_update,Heap.size_push];lia
  have ak:c_ X c d H {s with toks:=r,heap:=N}:=I.kept kp
  have W:∀b,s.heap.objs.size<=b->g2 X c H b/\X.base.get? b=none/\b∉frs X.stack:=λb C=>by
   refine⟨I.ht C (I.eg.fresh C),Heap.get?_none_of_le (Sy (Sy I.ok.j5 I.sz) C),λz=>?_⟩;rcases SH.mp (I.gr b z)with y|y
   ·exact absurd (Ta I.lt C) (by rw[y];exact TS _)
   exact I.lq C y
  obtain⟨hc,ao,aq⟩:=W h.objs.size M;obtain⟨ar,au,av⟩:=W K.objs.size (Sy M (UE U))
  refine v_ (s:={s with toks:=r,heap:=N}) (a:=h.objs.size) (kS:=K.objs.size) ak hc ar (TU U) (Heap.get?_push_size _ rfl) (Heap.get?_push_of_some _ (Heap.get?_push_of_some _ S)) ao au aq av (Z.trans ln) (by lia) F (λi v k aw ax=>by
   obtain⟨x,ay,az⟩:=F.hY aw
   exact u i x v k ay az ax) λE j B g n p1 p2 J=>⟨_,rfl,SC ⟨_,rfl,.ref h.objs.size,_,J,rfl,q j _ B g n p1 p2⟩⟩
end
theorem tm.grow{H i:al}{f:TD}{d:Str}{a:X5}{e:Wp}{b:XZ}{h:List (Str×TD)}(F:tm H f d a e b h)(g:i6 H i):tm i f d a e b h:=by
 obtain⟨j,c,k,l,u,m,t,n,o,r⟩:=F;exact⟨j,c,k,l,u,m,t,g _ _ n,g _ _ o,r⟩
theorem i6.trans{H c d:al}(a:i6 H c)(b:i6 c d):i6 H d:=λx o q=>b x o (a x o q)
def vx(H:al)(l:TD)(a:ZQ):Prop:=H l=some (.lst a)\/∃n:Nat,n<64/\H l=some (.rng 0 n)/\a=(S7 n).map λi:Nat=>V.int i
theorem vx.grow{H a:al}{l:TD}{b:ZQ}(h:vx H l b)(g:i6 H a):vx a l b:=by
 rcases h with h|⟨n,z,h,e⟩
 ·exact .inl (g _ _ h)
 exact .inr ⟨n,z,g _ _ h,e⟩
def Kw(Rd:bI->Prop)(m:St)(e:al)(n:ZT)(Q:cn)(o:ZQ):Prop:=∃(l:TD)(d:ZQ)(f:ZM),o=[.ref l]/\vx e l d/\d.length<64/\f.length=d.length /\
 (∀(i:Nat)(x:V)(k:Int),d[i]?=some x->f[i]?=some k->∀c,i6 e c->∀h:bI,Rd h->h (some x::n.map λj=>(m[j]?).join) c λy q=>y=.int k/\i6 c q) /\
 ∀(c:al)(p:TD)(g:List (Int×V)),i6 e c->c p=none->g.Perm (f.zip d)->g.Pairwise (λa b=>a.1<=b.1)->Q (.ref p) (ed c p (.lst (g.map Un)))
def vQ(Rd:bI->Prop)(b:eZ)(c:ZT):bI:=λa H Q=>b a H λd e=>Kw Rd a e c Q d
section
variable{X:aU}{a:Wp}{r:eZ}{p o E kp:Pos}{d:X5}{m:Wp}{b:XZ}{j:List (Str×TD)}{x:Str}{B:ZX}{C:ZT}{Rd:bI->Prop}{k:Nat}
theorem vP(M:ew k X.A)(ar:eu X "sorted")(aw:X.mg "sorted"=none)(ax:hf X [a] r)(LT:tl X.K X.mg X.env.code (X.env.qual++"<lambda>"))(aB:defaultsOf d X.env=([],[]))(aD:Zs b X.env=pure j)(S:yP X x B C b j)(aF:∀u N c O,Y2 (kla_fn "<lambda>" (X.env.qual++"<lambda>") d m b j N (.ref c) O) ⟨[u],[]⟩=pure [(x,u)])(aI:∀f P s H,∃G,bP (vv X X.A.in1.in1 (x::B) (X.env.qual++"<lambda>") b j f P s H) m G/\Rd G)(aJ:Yc o (UF [a] X.env)=(false,Yp a X.env)::Yc o (UF [] X.env):=by rfl)(aN:(Yc o (UF [a] X.env)).any (·.1)=false:=by rfl):
  bP X (.Call (.Name "sorted" p) [a] [⟨some "key",.Lambda d m b E,kp⟩] o) (vQ Rd r C):=by
 intro aa s ae H Q I h;refine XX (oa I ar aw (by decide +kernel:XQ "sorted"=some (.builtin "sorted")) ?_);refine callWith_kw (cp (ax o aa s ae H _ I h) λbM bR ⟨bS,aO,aR,aV,aW⟩=>?_) aJ aN;obtain⟨l,xs,kz,rfl,R,aZ,aY,ask,q⟩:=aW;obtain⟨u,rfl,a0⟩:=e3 aV;cases a0;refine kws_cons (cp (vl (Q:=λy J=>∃f,y=.ref f/\i6 aO J/\tm J f (X.env.qual++"<lambda>") d m b j) LT aB aD aR λf J g _ F=>⟨f,rfl,g,F⟩) λu af ⟨y,J,T,a3,f,a5,U,F⟩=>?_);subst a5;cases a3;refine kws_nil ?_;show wpAny (UV X.prog X.w) X.A (call (.builtin "sorted") [.ref l] [(Str.ofString "key",.ref f)]) (he X aa ae Q) X.xe af
 refine vW (xs:=xs) (kz:=kz) T (λbW bX ag=>?_) aY aZ (λi x v a6 a7 a' W L bg aj g3=>?_) λL bj bq g3 br p1 p2=>q L bj bq (U.trans g3) br p1 p2
 ·rcases R.grow U with R|⟨n,bY,W,rfl⟩
  ·obtain⟨Y,hc,bz,_⟩:=T.list (cE.of R);exact y_ bz.isList (by rw[XS,<-hc.length];lia) λZ z kp=>ag Z af.toks Y z kp hc
  obtain⟨t,u,v,e⟩:=T.eg _ _ W;exact v8 (n:=n) (show X.A.handled=none from M.hd) e (small_one (by lia) (by lia) (by lia) (by lia)) (by rw[rangeSize_one];split<;>lia) (by lia) λZ bA h1 z kp bF=>ag Z bA h1.toList z kp (v7 bF)
 refine vk (A:=X.A.in1.in1) (show X.A.frames=some X.stack from aj.ok.frames) (show X.A.handled=none from M.hd) (show X.A.depth<YA from M.depth) aj (F.grow g3) S a' (λN c O=>aF v N c O) λP=>?_;obtain⟨G,bJ,bK⟩:=aI f P bg L;exact⟨G,bJ,ask i _ a6 a7 W L (U.trans g3) G bK⟩
end
def Kx(h:bb)(f:ZT)(e:ZP)(g:ZN)(k:ZP->Prop):Prop:=∃key:D->Int,e.length<64/\(∀j∈f,g[j]?≠some .bag)/\(∀d∈e,h (.val d::f.map (kc g)) λy=>y=.int (key d)) /\
 ∀c:ZP,c.Perm e->c.Pairwise (λa b=>key a<=key b)->k c
def vO(u b:bb)(c:ZT):cK:=λa k=>u a λx=>∃n:Nat,x=.int n/\Kx b c ((S7 n).map λi:Nat=>D.int i) a k
theorem aL.grown{K:Zy}{R:al}{W:TD->Prop}{B H H':al}{b:St}{c:ZN}(e:aL K R W B H b c)(g:i6 H H'):aL K R W B H' b c:=
 e.gq (λa o h _=>g a o h) λa h=>by
  obtain⟨x,y,q,r⟩:=(e.hr h).2;exact⟨x,y,g _ _ q,r⟩
theorem Ky{K:Zy}{B:al}:∀{c:ZQ}{d:ZP},b_ K B c d->∀p∈d.zip c,bG K B p.2 p.1
 |_,_,.nil,p,b=>by cases b
 |_,_,.cons a r,p,b=>by
  rw[Vp]at b;rcases SH.mp b with rfl|b
  ·exact a
  exact Ky r p b
theorem D4{K:Zy}{B:al}:∀{a:List (D×V)},(∀p∈a,bG K B p.2 p.1)->b_ K B (a.map Un) (a.map Vs)
 |[],_=>.nil
 |p::a,h=>.cons (h p Sw) (D4 λq b=>h q (Sx _ b))
theorem Kz(a:D->Int):∀(b:ZP)(c:ZQ),(b.map a).zip c=(b.zip c).map λp=>(a p.1,p.2)
 |[],_=>by simp
 |_::_,[]=>by simp
 |d::b,v::c=>by rw[SJ,Vp,Vp,SJ,Kz a b c]
theorem vN{K:Zy}{B:al}(n:Nat):b_ K B ((S7 n).map λi:Nat=>V.int i) ((S7 n).map λi:Nat=>D.int i):=by
 induction S7 n with
 |nil=>exact .nil
 |cons a l b=>exact .cons (.int _) b
theorem vM{K:Zy}{w:bb}{m:ZT}{R:al}{W:TD->Prop}{c n:al}{g:St}{h:ZN}{d:ZP}{e:ZQ}{l:TD}{x:ZP->Prop}{Q:cn}(H:m.Nodup)(y:aL K R W c n g h)(I:vx n l e)(r:b_ K c e d)(J:Kx w m d h x)(q:∀d a e s,x d->aL K R W c s g h->R a=none->c a=none->s a=some (.lst e)->b_ K c e d->(∀i,¬cc g h i a)->Q (.ref a) s):Kw (λA=>fu K A w) g n m Q [.ref l]:=by
 obtain⟨f,aE,L,M,N⟩:=J;have ln:=r.length;refine⟨l,e,d.map f,rfl,I,by lia,by rw[Sv];lia,λi aF O P B S t A T=>?_,λS U aG t X p1 p2=>?_⟩
 ·rw[SP]at B;obtain⟨Y,C,rfl⟩:=UD.mp B;obtain⟨aI,E,Z⟩:=r.fb P;rw[C]at E;cases E;have u:=y.grown t;have h1:=(u.within 1 H).fB 0 Z;refine T _ _ (M Y (Tb C)) _ _ _ _ _ _ h1 λaJ ah aN aM aa hi g3 ae=>?_;subst aa;refine⟨by cases ae;rfl,λb o ak=>?_⟩;refine hi.fr b o ak λ⟨j,hc,_,v⟩=>L j hc v
 rw[Kz]at p1;obtain⟨k,F,rfl⟩:=tq p1 rfl;have G:∀z∈k,bG K c z.2 z.1:=λz au=>Ky r z (F.mem_iff.mp au);have av:(k.map λp=>(f p.1,p.2)).map Un=k.map Un:=by rw[SM];rfl
 rw[av];have u:=y.grown t;obtain⟨aw,ax,az,aB,aD⟩:=u.iT X (D4 G);refine q _ U _ _ (N (k.map Vs) ?_ ?_) aw ax az aB (D4 G) aD
 ·have:=F.map Vs;rwa[List.map_fst_zip (by lia)]at this
 rw[Xe]at p2⊢;exact p2
section
variable{X:aU}{a:Wp}{u m:bb}{p r t l o kp:Pos}{g:X5}{j:Wp}{b:XZ}{i:List (Str×TD)}{x:Str}{fr:ZX}{js:ZT}{k:Nat}
theorem vJ(F:ew k X.A)(G:bt X a u)(w:eu X "range")(y:X.mg "range"=none)(I:eu X "sorted")(J:X.mg "sorted"=none)(LT:tl X.K X.mg X.env.code (X.env.qual++"<lambda>"))(L:defaultsOf g X.env=([],[]))(M:Zs b X.env=pure i)(S:yP X x fr js b i)(N:js.Nodup)(O:∀u P c T,Y2 (kla_fn "<lambda>" (X.env.qual++"<lambda>") g j b i P (.ref c) T) ⟨[u],[]⟩=pure [(x,u)])(U:∀f C s H,bt (vv X X.A.in1.in1 (x::fr) (X.env.qual++"<lambda>") b i f C s H) j m)(Y:eD X a []:=by rfl)(Z:UF [a] X.env=[(false,Yp a X.env)]:=by rfl):
  j6 X (.Call (.Name "sorted" p) [.Call (.Name "range" r) [a] [] t] [⟨some "key",.Lambda g j b o,kp⟩] l) (vO u m js):=by
 obtain⟨_,aa,hi⟩:=G;refine⟨_,vP (Rd:=λaf=>fu X.K af m) F I J (d2 (vX w y (d2 aa e1 Y) Z) e1 rfl) LT L M S O (λf C s H=>U f C s H) rfl rfl,λaj aW h R W B H ak Q e q=>?_⟩;refine hi aj _ h R W B H ak _ e λd v hc aZ ao av aw ax=>?_;obtain⟨n,rfl,E⟩:=ao;refine⟨n,by rw[ax.et],λp ay=>?_⟩;have aF:=av.ey ay (.rng 0 n);refine vM N aF (.inr ⟨n,?_,dx,rfl⟩) (vN n) E λaH a aI aJ z e aN aM aO aP aQ=>q aH a aI hc aJ z e aw aN aM aO aP aQ;obtain⟨_,aT,_⟩:=E;simpa using aT
end
section
variable{j:WP}{w:XB}{A:XC}{E:SL->Tk->Prop}{s:Tk}
theorem vH(a v:SL):argsOk "max" ⟨[a],[(Str.ofString "default",v)]⟩:=by unfold argsOk;kernel_rfl
theorem vG{id:String}{b:YC}{args:ZY}{c:List (Str×SL)}{Q:SL->Tk->Prop}(h:builtinKind id=none)(i:plainId id=true)(k:entryFor table id=some b)(l:argsOk id ⟨args,c⟩)(d:wpAny (UV j w) A.in1 (b ⟨args,c⟩) (λm a=>match m with
   |.done f=>(match (Except.ok f:ZG)with|.ok (.ret v)=>Q v a|.ok _=>False|.error e=>E e a)
   |.again g=>g.quiet=true/\codeAny (UV j w) A g (λr a=>match r with|.ok (.ret v)=>Q v a|.ok _=>False|.error e=>E e a) a) E s):wpAny (UV j w) A (call (.builtin id) args c) Q E s:=by
 refine wpAny_call (codeAny_call_builtin i k ?_);simp only[checkBuiltinCall,h];cases q:Manifest.signature? id with
 |none=>exact SC d
 |some sig=>
  have z:Bind.checkArgs id sig ⟨args,c⟩=pure ():=by simpa only[argsOk,q]using l
  simp only[z];exact SC d
def KB(G:Int->Prop)(a:Array SL):Prop:=a = #[]\/∃m t,a = #[.int m t,.int m t]/\G m
theorem vF{I S:TD}{M C:ZZ}{n:Nat}{P:Nat->SL->Prop}{St:Nat->XG->Prop}{R:ZG->Tk->Prop}{G:Int->Prop}{d:SL}(W:Walks j w A.in1 I M C n P St)(U:∀i v,P i v->∃m t,v=.int m t/\G m)(N:S∉M):
  ∀(k i:Nat)(s:Tk)(a:Array SL)(c:Nat),n-i=k->i<=n->St i s.heap->KB G a->s.heap.get? S=some {cls:=.type "list",dict:=none,data:=.seq a c,slots :=#[]}->
  (∀v h' f,(v=d\/∃m t,v=.int m t/\G m)->(∀b o,b∉C->b≠S->s.heap.get? b=some o->h'.get? b=some o)->R (.ok (.ret v)) {s with heap:=h',toks:=f})->
  codeAny (UV j w) A (.builtin "max.loop" ⟨[.ref I,.none,.ref S],[(Str.ofString "default",d)]⟩) R s:=by
 have O:S∉C:=λh=>N (W.sub _ h);have E:(toString "max"++toString ".loop":String)="max.loop":=by decide
 intro k;induction k with
 |zero=>
  intro i s a c Y Z st p q r;have e:i=n:=by lia
  subst e;refine Yv Xg ?_;rw[Around.under_plainId UW _];show wpAny _ A.in1 (seqItems? (.ref S) >>= _) _ _ s
  refine wp (YD q rfl ?_);show wpAny _ A.in1 (tryCatch (YW (.ref I)) _ >>= _) _ _ s
  refine wp (Zc (W.done s _ _ st λh' f kp=>?_));have l:=kp S _ O q;rcases p with rfl|⟨m,t,rfl,g⟩
  ·exact wp (Yg (SC (r d h' f (.inl rfl) λb o x _ z=>kp b o x z)))
  show wpAny _ A.in1 (updateSeq S (λ_ => #[]) >>= _) _ _ _
  refine wp (Y1 l rfl (wp (YM (SC ?_))));exact r _ _ f (.inr ⟨m,t,rfl,g⟩) λb o x y z=>(Heap.get?_update_other _ _ (Tc y)).trans (kp b o x z)
 |succ k Q=>
  intro i s a c Y Z st p q r;have lt:i<n:=by lia
  refine Yv Xg ?_;rw[Around.under_plainId UW _];show wpAny _ A.in1 (seqItems? (.ref S) >>= _) _ _ s
  refine wp (YD q rfl ?_);show wpAny _ A.in1 (tryCatch (YW (.ref I)) _ >>= _) _ _ s
  refine wp (Zc (W.item i s _ _ lt st λv h' f gc T kp=>?_));have l:=kp S _ O q;obtain⟨m,t,rfl,g⟩:=U i v gc
  have put:∀u:Array SL,KB G u->codeAny (UV j w) A (.builtin "max.loop" ⟨[.ref I,.none,.ref S],[(Str.ofString "default",d)]⟩) R {s with heap:=h'.update S (Obj.mapSeq λ_=>u),toks:=f}:=λu h1=>
   Q (i+1) _ u _ (by lia) lt (W.frame _ _ _ T λb p o e=>(Heap.get?_update_other _ _ (λh:S=b=>N (by rw[h];exact p))).trans e) h1 (Heap.get?_update_self _ l rfl) λv F H J K=>r v F H J λb o x y z=>K b o x y ((Heap.get?_update_other _ _ (Tc y)).trans (kp b o x z))
  rcases p with rfl|⟨B,L,rfl,ae⟩
  ·show wpAny _ A.in1 (updateSeq S (λ_ => #[.int m t,.int m t]) >>= _) _ _ _
   refine wp (Y1 l rfl ?_);rw[E];exact SC ⟨Yq UW _,put _ (.inr ⟨m,t,rfl,g⟩)⟩
  show wpAny _ A.in1 (tryCatch (Yz [.int m t,.int m t] (richCompare .Gt (.int m t) (.int B L) >>= _)) _ >>= _) _ _ _
  refine wp (Zc (Xy (wp (CmpOf.ints_gt (P:=λi v=>∃t,v=.int (if i=0 then m else B) t) (λi=>if i=0 then m else B) (λ_ _ h=>h) 0 1 _ _ _ _ _ ⟨t,rfl⟩ ⟨L,rfl⟩ ?_))));refine wp (Xy (XI ?_));refine wp (YM (SC ?_));refine wpAny_ite_split (λ_=>?_) λ_=>?_
  ·refine wp (Y1 l rfl (wp (YM ?_)));rw[E];exact SC ⟨Yq UW _,put _ (.inr ⟨m,t,rfl,g⟩)⟩
  refine wp (YM ?_);rw[E];exact SC ⟨Yq UW _,Q (i+1) _ _ c (by lia) lt T (.inr ⟨B,L,rfl,ae⟩) l λv F H J K=>r v F H J λb o x y z=>K b o x y (kp b o x z)⟩
theorem vE{l:TD}{c:ZY}{d:SL}{G:Int->Prop}{Q:SL->Tk->Prop}(q:A.handled=none)(f:s.heap.IsList l c.toArray)(r:∀v∈c,∃m t,v=.int m t/\G m)(h:∀v h' g,(v=d\/∃m t,v=.int m t/\G m)->(∀b o,s.heap.get? b=some o->h'.get? b=some o)->Q v {s with heap:=h',toks:=g}):
  wpAny (UV j w) A (call (.builtin "max") [.ref l] [(Str.ofString "default",d)]) Q E s:=by
 have u:(toString "max"++toString ".loop":String)="max.loop":=by decide
 refine vG PySem.F.kind_max PySem.F.plain_max PySem.F.entry_max (vH _ _) ?_;show wpAny _ A.in1 (Builtin.Builtins.bindParams "max" ["key","default"] 0 ⟨[],[(Str.ofString "default",d)]⟩ >>= _) _ _ s
 refine wp (Zf (show Builtin.Builtins.bindParams "max" ["key","default"] 0 ⟨[],[(Str.ofString "default",d)]⟩=pure [none,some d]from rfl) ?_);refine wp (SC ?_);have k:l<s.heap.objs.size:=by obtain⟨_,e,_⟩:=f;exact Heap.lt_size e
 refine wp (Yh f ?_);refine wp (W1 ?_);rw[u];let a:=s.heap.push {cls:=.type "list_iterator",data:=.fields #[.ref l,.int 0 0]}
 have W:=Walks.list (prog:=j) (w:=w) (A:=A.in1) q s.heap.objs.size l (S6 k) c.toArray;have st:a.IsListIter s.heap.objs.size l 0/\a.IsList l c.toArray:=⟨⟨_,Heap.get?_push_size _ rfl,rfl,rfl⟩,f.push _⟩;have n:a.objs.size=s.heap.objs.size+1:=Heap.size_push _ _
 have x:a.objs.size∉[s.heap.objs.size,l]:=by
  intro m;rw[n]at m;rcases SH.mp m with e|m
  ·exact absurd e (TU (Nat.lt_succ_self _))
  rcases SH.mp m with e|m
  ·exact absurd e (TU (Xh k))
  cases m
 refine SC ⟨Yq UW _,vF (G:=G) (S:=a.objs.size) W (λi v e=>?_) x _ 0 _ #[] _ rfl (S9 _) (W.frame _ _ _ st λb _ o e=>Heap.get?_push_of_some _ e) (.inl rfl) (Heap.get?_push_size _ rfl) λv h' g gc kp=>?_⟩
 ·rw[List.getElem?_toArray]at e;exact r v (Tb e)
 refine h v h' g gc λb o e=>?_;have p:=Heap.lt_size e
 exact kp b o (λm=>by
  rcases SH.mp m with e|m
  ·exact absurd e (S6 p)
  cases m) (by rw[n];exact S6 (Xh p)) (Heap.get?_push_of_some _ (Heap.get?_push_of_some _ e))
end
def vB(f:eZ)(g:bI):bI:=λb H Q=>f b H λh c=>∃(l:TD)(a:ZM),h=[.ref l]/\c l=some (.lst (a.map V.int))/\g b c λy e=>∃d,y=.int d/\e l=some (.lst (a.map V.int))/\∀m,(m=d\/m∈a)->Q (.int m) e
theorem KF:∀{a:ZM}{b:ZY},bN (a.map V.int) b->∀v∈b,∃m t,v=.int m t/\m∈a
 |[],_,.nil,v,h=>by cases h
 |n::a,_,.cons r t,v,h=>by
  rcases SH.mp h with rfl|h
  ·obtain⟨t,e⟩:=r;exact⟨n,t,e,Sw⟩
  obtain⟨m,t,e,q⟩:=KF t v h;exact⟨m,t,e,Sx _ q⟩
section
variable{X:aU}{a d:Wp}{c:eZ}{e:bI}{p b kp:Pos}{k:Nat}
theorem vy(r:ew k X.A)(x:eu X "max")(z:X.mg "max"=none)(B:hf X [a] c)(C:bP X d e)(E:Yc b (UF [a] X.env)=(false,Yp a X.env)::Yc b (UF [] X.env):=by rfl)(F:(Yc b (UF [a] X.env)).any (·.1)=false:=by rfl):
  bP X (.Call (.Name "max" p) [a] [⟨some "default",d,kp⟩] b) (vB c e):=by
 intro f s g H Q I h;refine XX (oa I x z (by decide +kernel:XQ "max"=some (.builtin "max")) ?_);refine callWith_kw (cp (B b f s g H _ I h) λZ J ⟨h1,K,L,M,i⟩=>?_) E F;obtain⟨l,N,rfl,aa,i⟩:=i;obtain⟨u,rfl,O⟩:=e3 M;cases O;refine kws_cons (cp (C f J g K _ L i) λu P ⟨y,o,j,R,d,S,T,q⟩=>?_);subst S;obtain⟨t,rfl⟩:=R;refine kws_nil ?_;obtain⟨U,W,Y,_⟩:=j.list (cE.of T);show wpAny (UV X.prog X.w) X.A (call (.builtin "max") [.ref l] [(Str.ofString "default",.int d t)]) (he X f g Q) X.xe P
 refine vE (G:=λm=>m∈N) (show X.A.handled=none from r.hd) Y.isList (KF W) λv hi ae gc kp=>?_;rcases gc with rfl|⟨m,af,rfl,n⟩
 ·exact⟨.int d,o,j.kept kp,⟨_,rfl⟩,q d (.inl rfl)⟩
 exact⟨.int m,o,j.kept kp,⟨_,rfl⟩,q m (.inr n)⟩
end
def xa(u c:bb):bb:=λa k=>u a λx=>∃b:ZM,x=.lst (b.map D.int)/\c a λy=>∃d,y=.int d/\∀m,(m=d\/m∈b)->k (.int m)
theorem w_{X:aU}{a d:Wp}{u i:bb}{p b kp:Pos}{k:Nat}(z:ew k X.A)(C:bt X a u)(E:bt X d i)(F:eu X "max")(c:X.mg "max"=none)(G:eD X a []:=by rfl)(I:Yc b (UF [a] X.env)=(false,Yp a X.env)::Yc b (UF [] X.env):=by rfl)(J:(Yc b (UF [a] X.env)).any (·.1)=false:=by rfl):
  bt X (.Call (.Name "max" p) [a] [⟨some "default",d,kp⟩] b) (xa u i):=by
 obtain⟨_,K,L⟩:=C;obtain⟨_,M,N⟩:=E;refine⟨_,vy z F c (d2 K e1 G) M I J,λj ai h R W B H n Q e q=>?_⟩;refine L j _ h R W B H n _ e λx v O P f o S T=>?_;obtain⟨U,rfl,f⟩:=f;obtain⟨l,aj,rfl,r,Y⟩:=T.eO;have Z:=wV Y;subst Z;refine⟨l,U,rfl,o.bh _ _ r,N j _ f R W O P n _ o λy v hi ae g t w af=>?_⟩;obtain⟨d,rfl,g⟩:=g;exact⟨d,by rw[af.et],t.bh _ _ (w.s _ _ r),λm c=>q _ _ hi ae (g m c) t (S.trans w) (.int m)⟩
def yX(K:Zy)(a:Str->Option SL)(x:Str):Prop:=∀f o b,a x=some (.ref f)->K.lookup f=some o->o.data=.func b->tl K a b.code (x++".<locals>."++"<lambda>")
section
variable{P:WP}{w:XB}{K:Zy}{c:Str->Option SL}{a:XG}{x:Str}{st:XF}{N d:ZX}
theorem w'{k:Nat}{sp:iU}(F:cH K c x st d)(L:yX K c x)(S:cy N d (bL st))(i:∀vs H Q E,sp vs H Q E->vs.length=d.length)(l:∀(f:TD)(g:SL)(A:XC)(e:List Tu)(s:Tk)(H:al)(vs:ZQ)(Q:cn)(E:g0),tl K c g (x++".<locals>."++"<lambda>")->ew k (A.deeper (Y' x (bL st) s.heap.objs.size f g))->sp vs H Q E->∃t,i9 (k0 j4 P w K c a N x (bL st) f g A e s H E).jn (j3 st) t/\t {nx:=λ_ n=>Q .non n,rt:=Q} (L3.fi N vs) H):b6 P w K c a x d (k+1) sp:=by
 obtain⟨f,o,m,j,b⟩:=F.ex;refine⟨f,o,m,j.kp,b,?_⟩;obtain⟨C,G,kV,p,I,J,g,M,r,rfl,lk,u⟩:=j.ex;refine FT lk u S i λA e s H vs Q E v y=>?_;obtain⟨t,h,q⟩:=l f g A e s H vs Q E (L f _ _ m lk rfl) v y;exact⟨t,h.jn,q⟩
theorem wD{y n:Nat}{F:b7}(J:cH K c x st d)(L:yX K c x)(S:cy N d (bL st))(M:d.length=n)(O:∀(f:TD)(i:SL)(A:XC)(b:List Tu)(s:Tk)(H:al)(E:g0),tl K c i (x++".<locals>."++"<lambda>")->ew y (A.deeper (U4 x (bL st) s.heap.objs.size f i))->∃u,hF (k0 j4 P w K c a N x (bL st) f i A b s H E).jn (j3 st) u/\∀j k,j.length=n->F j k->u {nx:=λ_=>k (.val .non),rt:=k} (j++SR (N.length-n) .no)):b6 P w K c a x d (y+1) (cj K n F):=by
 refine w' J L S (λG H Q E h=>?_) (λf i A b s H G Q E LT R h=>?_)
 ·obtain⟨W,B,j,k,_,l,_,_,_,m,_⟩:=h;rw[m.length,l,M]
 obtain⟨W,B,j,k,T,l,U,X,Y,m,q⟩:=h;obtain⟨u,⟨t,Z,C⟩,h1⟩:=O f i A b s H E LT R;have I:=aL.start (N:=N) (Vh U) X Y m;rw[l]at I;refine⟨t,Z,C _ _ (h1 j k l T) H W B H (L3.fi N G) _ I ⟨λhi ae o p h e g=>?_,λ_ _ _ _ h=>h.elim,λ_ _ _ _ h=>h.elim,λr v o p h e g z=>q r v o p h ⟨e,g,z⟩⟩⟩;exact q _ _ o p h ⟨e.toWd,g,.non⟩
end
theorem D8{a:Type}{y:Str}{v:a}:∀{l:List (Str×a)},l.lookup y=some v->(y,v)∈l
 |[],h=>by cases h
 |p::l,h=>by
  rw[VY]at h;by_cases e:(y==p.1)=true
  ·rw[e]at h;have:=SN h;have b:y=p.1:=by simpa using e
   rw[b,<-this];exact Sw
  rw[show(y==p.1)=false from by simpa using e]at h;exact Sx _ (D8 h)
theorem wC{X:aU}{x:Str}{k:ZX}{o:ZT}{b:XZ}{d:List (Str×TD)}(t:b.kind=.function)(u:b.isCoroutine=false)(v:b.isGenerator=false)(w:b.names.lookup x=some .local)(z:(b.names.all λp=>match p.2 with|.cell=>false|.free=>(d.lookup p.1).isSome|_=>true)=true)(A:(d.map λp=>X.env.cells.lookup p.1)=d.map λp=>some p.2)(B:(x::k).Nodup)(q:(o.map λj=>X.N[j]?)=k.map some)(C:(k.map λy=>b.names.lookup y)=k.map λ_=>some .free)(E:(k.map λy=>X.env.kindOf y)=k.map λ_=>some .cell):yP X x k o b d:=by
 have all:=Ux.mp z;have at_:∀{r F:Type}{f g:r->F}{l:List r},l.map f=l.map g->∀a∈l,f a=g a:=λh a m=>List.map_inj_left.mp h a m;refine⟨t,u,v,w,λy n e=>?_,λy n=>?_,λy c G=>at_ A _ (D8 G),?_,B,λi y j n H=>?_⟩
 ·have:=all y n;rw[e]at this;cases this
 ·have:=all _ (D8 n);exact VI.mp this
 ·have:=Uf S3 q;simpa using this.symm
 have s:=Tb n;refine⟨?_,at_ C y s,.inl (at_ E y s)⟩;have:=Uf (λl=>l[i]?) q;simp only[SP,H,n,UL]at this;exact SN this
def lu(h:XG)(a:TD):Option Obj:=(h.get? a).filter λo => !isTab o
def KH(h:XG):Zy:=(S7 h.objs.size).filterMap λa=>(lu h a).map λo=>(a,o)
def rN(x:Str):Str:=x++".<locals>."++"<lambda>"
noncomputable def vz(P:TD)(q:Str):Obj:=⟨.none,none,.fields #[.ref P,.str q 0],#[]⟩
def D9(h:XG)(a:ZX):Zy:=a.filterMap λx=>(lA h x).map λP=>(TW,vz P (rN x))
def n2(h:XG)(a:ZX):Zy:=KH h++D9 h a
theorem rO{h:XG}{a:TD}{o:Obj}(e:h.get? a=some o)(n:isTab o=false):lu h a=some o:=by simp[lu,e,n,Option.filter]
theorem D'{h:XG}{a:TD}{o:Obj}(e:lu h a=some o):h.get? a=some o:=by
 unfold lu at e;exact(Option.filter_eq_some_iff.mp e).1
theorem wy(h:XG)(a:TD):(KH h).lookup a=lu h a:=by
 refine(Hm (lu h) a _).trans ?_;by_cases e:a<h.objs.size
 ·rw[SZ (TF.mpr e)]
 rw[Tl (λz=>e (TF.mp z))];simp[lu,Heap.get?_none_of_le (Nat.le_of_not_lt e)]
theorem Ea{h:XG}{a:TD}(n:a≠TW):∀c:ZX,(D9 h c).lookup a=none
 |[]=>rfl
 |x::c=>by
  unfold D9;cases q:lA h x with
  |none=>
   rw[WQ (by rw[q];rfl)];exact Ea n c
  |some P=>
   rw[WR (b:=(TW,vz P (rN x))) (by rw[q];rfl),VY];have:(a==TW)=false:=by simpa using n
   rw[this];exact Ea n c
theorem wx{h:XG}{b:ZX}{c:Obj}(d:lu h TW=some c)(a:TD):(n2 h b).lookup a=lu h a:=by
 unfold n2;rw[List.lookup_append,wy];by_cases e:a=TW
 ·subst e;rw[d];rfl
 rw[Ea e];simp
section
variable{h:XG}{K:Zy}(b:∀a,K.lookup a=lu h a)
include b
theorem rP{name:Str}{r:Option SL}(e:lz h name=some r):nsIn K TW name=some r:=by
 unfold lz at e;split at e
 ·rename_i c d f a
  unfold nsIn;rw[b,rO a rfl];exact e
 cases e
theorem wm{f:SL}{q:Str}(e:zv h f q=true):codeIn K f q=true:=by
 unfold zv at e;split at e
 ·split at e
  ·rename_i c g i a j k
   split at e
   ·rename_i x n t r d
    have l:isTab ⟨g,i,.fields a,j⟩=false:=by
     have:a.isEmpty=false:=by
      cases z:a.isEmpty with
      |false=>rfl
      |true=>
       rw[Vt]at z;rw[z]at d;cases d
     unfold isTab;simp only[this];rfl
    unfold codeIn;simp only[b,rO k l,d];exact e
   cases e
  cases e
 cases e
theorem wj{x:Str}{st:XF}(e:zw h x=zx x st):xr K x st:=by
 unfold zw at e;split at e
 ·rename_i f a
  split at e
  ·rename_i oc od c osl d
   obtain⟨j,k,l,g,sc,m,n,i,lf,doc,pm,an,cdv,ct,o⟩:=c;rw[Cg]at e;simp only[Vu,UC]at e;obtain⟨rfl,rfl,rfl,rfl,rfl,rfl,rfl,rfl,rfl,e⟩:=e;have lk:=(b f).trans (rO d rfl);refine⟨f,_,rP b a,O7 (oc:=oc) (od:=od) (osl:=osl) (kV:=lf) (doc:=doc) (pm:=pm) (an:=an) (cdv:=cdv) (ct:=ct) lk (wm b e) ?_⟩;unfold keepIn;simp only[lk]
  rw[Cg]at e;cases e
 rw[Cg]at e;cases e
theorem wa{x:Str}{i j:Int}(e:zy h x=some (x,i,j)):xt K x i j:=by
 unfold zy at e;split at e
 ·rename_i p f
  split at e
  ·rename_i g a n k l
   split at e
   ·rename_i m c o d q
    simp only[Vu,UC]at e;obtain⟨_,rfl,rfl⟩:=e;have r:a = #[.int m c,.int o d]:=Array.toList_inj.mp q;subst r;exact⟨p,g,k,n,c,d,rP b f,(b p).trans (rO l rfl)⟩
   cases e
  cases e
 cases e
theorem xc{x:Str}{c:Int ⊕ Str}(e:zz h x=some (x,c)):Hp K x c:=by
 unfold zz at e;split at e
 ·rename_i i t a
  simp only[Vu,UC]at e;obtain⟨_,rfl⟩:=e;exact⟨t,rP b a⟩
 ·rename_i i t a
  simp only[Vu,UC]at e;obtain⟨_,rfl⟩:=e;exact⟨t,rP b a⟩
 cases e
theorem k6{t:mc}{w:XB}{s:Tk}(i:s.heap=h)(e:zA t s=zB t w):mS t K:=by
 subst i;simp only[zA,zB,UC]at e;obtain⟨c,d,f,g⟩:=e;refine⟨?_,?_,?_,?_⟩
 ·generalize t.fs=l at c;induction l with
  |nil=>trivial
  |cons p l a=>
   simp only[SJ,UQ]at c;exact⟨wj b c.1,a c.2⟩
 ·generalize t.bs=l at d;induction l with
  |nil=>trivial
  |cons p l a=>
   simp only[SJ,UQ]at d;exact⟨rP b d.1,a d.2⟩
 ·generalize t.ts=l at f;induction l with
  |nil=>trivial
  |cons p l a=>
   simp only[SJ,UQ]at f;exact⟨wa b f.1,a f.2⟩
 generalize t.cs=l at g;induction l with
 |nil=>trivial
 |cons p l a=>
  simp only[SJ,UQ]at g;exact⟨xc b g.1,a g.2⟩
end
theorem tY{o:Obj}(e:isTab o=true):o={cls:=.none,data:=.fields #[]}:=by
 obtain⟨d,f,g,h⟩:=o;unfold isTab at e;split at e
 ·rename_i i j
  have k:g=.fields i:=j;subst k;rw[TJ,TJ]at e;obtain⟨⟨a,l⟩,b⟩:=e;rw[Vt]at a;have m:h = #[]:=Vt.mp l;subst a m;split at b
  ·rename_i n p
   have q:d=.none:=n;have r:f=none:=p;subst q r;rfl
  cases b
 cases e
theorem KJ{h:XG}{x:Str}{P:TD}(e:lA h x=some P):∃f o g c j,lz h x=some (some (.ref f))/\h.get? f=some o/\o.data=.func g/\g.code=.ref c/\h.get? c=some j/\isTab j=false /\
  ∀i:XG,i.get? c=some j->CodeHd i c P/\isCodeTable i P:=by
 unfold lA at e;split at e
 ·rename_i f p
  split at e
  ·rename_i I J g K r
   split at e
   ·rename_i c s
    split at e
    ·rename_i t a u v
     split at e
     ·rename_i w y A k B b C E d l F m G
      split at e
      ·cases e
      rename_i H
      cases e;have n:a.getD 11 .none=.ref P:=by rw[Array.getD_eq_getD_getElem?,d];rfl
      refine⟨f,_,g,c,_,p,r,rfl,s,v,?_,λi q=>⟨⟨_,a,y,A,k,B,b,C,E,q,rfl,rfl,d,n,l,F,m,G,H⟩,c,_,a,q,rfl,rfl,d⟩⟩
      have:a.isEmpty=false:=by
       cases z:a.isEmpty with
       |false=>rfl
       |true=>
        rw[Vt]at z;rw[z]at d;cases d
      unfold isTab;simp only[this];rfl
     cases e
    cases e
   cases e
  cases e
 cases e
theorem Ec{h:XG}{a:TD}(e:v4 h=some a):∃o,lz h "__builtins__"=some (some (.ref a))/\h.get? a=some o/\isTab o=false/\o.cls=.type "module"/\o.dict=some X0/\o.data=.plain:=by
 unfold v4 at e;split at e
 ·rename_i b c
  split at e
  ·rename_i d g f
   split at e
   ·rename_i z
    cases e;subst z;exact⟨_,c,f,rfl,rfl,rfl,rfl⟩
   cases e
  cases e
 cases e
structure rQ(h:XG)(ls:ZX)(eC:TD):Prop where
 m:v4 h=some eC
 b:eC≠X0
 g:eC≠TW
 t:∀x∈ls,∃P,lA h x=some P/\P≠TW/\P≠eC/\h.get? P=some {cls:=.none,data:=.fields #[]}/\(ls.find? λy=>lA h y==some P)=some x
theorem tV{h:XG}{f:ZX}(e:zC h f=true):∃b,rQ h f b:=by
 unfold zC at e;split at e
 ·rename_i b j
  rw[TJ,TJ]at e;obtain⟨⟨k,l⟩,m⟩:=e;refine⟨b,j,by simpa using k,by simpa using l,λx n=>?_⟩;have c:=Ux.mp m x n;unfold Fi at c;rw[TJ]at c;obtain⟨a,g⟩:=c;split at a
  ·rename_i P i
   rw[TJ,TJ]at a;obtain⟨⟨p,q⟩,d⟩:=a;split at d
   ·rename_i o r
    refine⟨P,i,by simpa using p,by simpa using q,by rw[r,tY d],?_⟩;rw[i]at g;exact eq_of_beq g
   cases d
  cases a
 cases e
theorem KL{h:XG}{x:Str}{r:Option SL}(e:lz h x=some r):∃o,h.get? TW=some o/\isTab o=false/\∀a,o.data≠.fields a:=by
 unfold lz at e;split at e
 ·rename_i b
  exact⟨_,b,rfl,λa z=>by cases z⟩
 cases e
def Ee(K:Zy)(x:Str):Prop:=∀(h:XG)(a:Str->Option SL),K.In h->h.Ns TW a->yX K a x
section
variable{h:XG}{d:ZX}{i:TD}(L:rQ h d i)
include L
theorem rQ.at(a:TD):(n2 h d).lookup a=lu h a:=by
 obtain⟨o,b,_⟩:=Ec L.m;obtain⟨c,e,n,_⟩:=KL b;exact wx (rO e n) a
theorem rQ.nQ:(n2 h d).In h:=λa o e=>D' ((L.at a).symm.trans e)
theorem rQ.nN{x:Str}(k:x∈d):Ee (n2 h d) x:=by
 intro a R X G f o S r lk l;obtain⟨P,n,nP,s,T,_⟩:=L.t x k;obtain⟨U,W,u,c,v,w,y,A,B,C,E,F⟩:=KJ n;obtain⟨H,I,J,K,M,N,O⟩:=Ec L.m;have p:=mg_of X G (rP L.at w);have Q:=mg_of X G (rP L.at I);rw[r]at p;cases p;have q:=D' ((L.at f).symm.trans lk);rw[y]at q;cases q;rw[A]at l;cases l;have hs:∀a:XG,(n2 h d).In a->a.get? c=some v:=λa X=>X _ _ ((L.at c).trans (rO C E));refine⟨c,P,B,?_,λz=>nP z.symm,λe j=>(F e (hs e j)).1,λe j=>⟨i,H,Q,L.b,L.g,λz=>s z.symm,j _ _ ((L.at i).trans (rO J K)),M,N,O⟩⟩;refine T7.mpr ⟨(TW,vz P (rN x)),S2 _ (T7.mpr ⟨x,k,by rw[n];rfl⟩),?_⟩;simp[vz,rN]
theorem rQ.marked{p:TD×Str}(i:p∈AE (n2 h d)):∃x∈d,lA h x=some p.1/\p.2=rN x:=by
 obtain⟨⟨b,j⟩,mem,e⟩:=T7.mp i;rcases SO.mp mem with m|m
 ·obtain⟨a,_,q⟩:=T7.mp m;obtain⟨s,c,f⟩:=UD.mp q;cases f;have g:=D' c;obtain⟨_,k,_⟩:=Ec L.m;obtain⟨t,l,_,n⟩:=KL k;obtain⟨u,v,w,y⟩:=j;split at e
  ·rename_i o
   cases o;split at e
   ·split at e
    ·rename_i z
     rw[z,l]at g;cases g;exact absurd rfl (n _)
    cases e
   cases e
  cases e
 obtain⟨x,r,q⟩:=T7.mp m;obtain⟨P,c,f⟩:=UD.mp q;cases f;simp[vz]at e;exact⟨x,r,by rw[c,<-e],by rw[<-e]⟩
end
def EJ(h:XG)(a:ZX):al:=λb=>(a.find? λy=>lA h y==some b).map λx=>.tbl #[.str (rN x) 0]
def iE(t:mc)(c:ZX)(_:XB)(h:XG):Prop:=∃(a:XG)(d:TD),(∀b o,a.get? b=some o->h.get? b=some o)/\rQ a c d/\mS t (n2 a c)
theorem Ed(t:mc)(a:ZX)(w:XB)(s:Tk)(e:tM t a s=tN t w):iE t a w s.heap:=by
 simp only[tM,tN,UC]at e;obtain⟨b,L⟩:=tV e.2;exact⟨s.heap,b,λ_ _ e=>e,L,k6 L.at rfl e.1⟩
theorem m2(t:mc)(a:ZX)(w:XB)(h c:XG)(y:iE t a w h)(k:∀b o,h.get? b=some o->c.get? b=some o):iE t a w c:=by
 obtain⟨d,f,x,r⟩:=y;exact⟨d,f,λb o e=>k _ _ (x _ _ e),r⟩
theorem nc{l:OpenLaw}{k:Nat}{q:WP}{i:ZX}{Q:(Str->Option SL)->XG->Prop}{t:mc}{n:ZX}{d:DefRec}(R:l.most=some 63)(S:d.params.defaults=[])(U:ew k Zr)(F:∀(w:XB)(K:Zy)(m:Str->Option SL)(y:TD)(h:XG),(∀x∈n,Ee K x)->mS t K->K.In h->h.Ns TW m->m d.name=some (.ref y)->∃C:X7,(∀(s:Tk)(u:SL),ZI s C ⟨[u],[]⟩ [("_law_script",u)])/\∀base:XG,K.In base->base.Ns TW m->kB l.prog w K m base j4 k y C ["_law_script"] (w7 K)):
  WalkO q i Q (iE t n) l.row.toRowW d [] (λf vs=>PySem.call f vs):=by
 refine Att.attach_call R S λw I W m az y o aB aD X a vs Z G Y aE aF aH aa hi j J ai=>?_;obtain⟨A,aI,E,L,T⟩:=Y;have M:(n2 A n).In W.heap:=L.nQ.keeps E;obtain⟨C,ak,hc⟩:=F w (n2 A n) m y _ (λx r=>L.nN r) T M G.T.g aa;refine O2 M G.T.g G.T.b G.T.builtins G.T.nolimit ai hi j (cb J) U hc ak (EJ A n) (λb u z=>?_) (λp ao=>?_) (λH aJ aq=>⟨a,Z,rfl,aq,J,λ_=>rfl⟩) λH e aK z=>z
 ·obtain⟨x,B,rfl⟩:=UD.mp z;have r:=List.mem_of_find?_eq_some B;have N:lA A x=some b:=by simpa using List.find?_some B
  obtain⟨P,v,_,_,O,_⟩:=L.t x r;rw[N]at v;cases v;obtain⟨_,_,_,c,aN,_,_,_,_,au,_,av⟩:=KJ N;refine⟨⟨_,rfl⟩,E _ _ O,?_,(av _ (E _ _ au)).2⟩;rw[L.at];unfold lu;rw[O];rfl
 obtain⟨x,r,B,aw⟩:=L.marked ao;obtain⟨P,v,_,_,_,ay⟩:=L.t x r;rw[B]at v;cases v;refine⟨#[.str (rN x) 0],0,?_,by rw[aw];rfl⟩;unfold EJ;rw[ay];rfl
def tT(b:Bool):V->ZQ->al->cn->Prop:=λx f H Q=>∃a c g d h e k,x=.ref a/\f=[.ref c]/\mQ H b a g d h e/\mP H b k c/\Q ((bu d e k).getD .non) H
section
variable{X:aU}{b:Bool}
theorem tP(i:X.A.units+4<XT):t1 X "dict.get" (tT b):=by
 intro z s B H x C v e Q I j l h;obtain⟨a,c,E,m,n,G,k,rfl,rfl,o,p,q⟩:=h;obtain rfl:v=Value.ref a:=j;obtain⟨r,rfl,t⟩:=l.one;obtain rfl:r=Value.ref c:=t;obtain⟨J,u,K,y,e,f,g,L⟩:=o.raw I.eg;have M:=f.length;refine Zv Vq g.typeIs W4 (PySem.F.args_dict_get_2 _ _) (meetsH_dict_get (lf X.prog X.w b) a c y) ⟨u6 i,k,eA m n e,p.is I.eg,g,?_⟩;rw[sU k u (by lia)];exact⟨_,H,I.tok _,IT (d:=.non) (sW k f) rfl,q⟩
end
def tO(b:Bool)(n:Nat)(g:bb):dz:=λe k=>∃a f h c,e[n]?=some (.deep (.dl b a f h c))/\g e λy=>∃d,y=gB b d/\rx b d/\k (match bu f c d with|some ds => !ds.isEmpty|none=>false)
section
variable{X:aU}{b:Bool}{e:Wp}{i:bb}{x:Str}{f g d:Pos}
theorem tL(n:Nat)(O:X.A.units+4<XT)(P:bt X e i)(S:gZ X n x:=by rfl)(T:gy X.env.scope x:=by walk_at"v")(U:ea x:=by decide)(Y:gY x:=by decide)(Z:iO X (.Name x f) "get":=by rfl)(aa:lB X d [e]:=by rfl)(hi:iP g d:=by rfl)(G:eD X e []:=by rfl)(af:hv X d []:=by rfl)(ag:∀whole,Zh (.Call (.Attribute (.Name x f) "get" g) [e] [] d) X.env whole=(do let v <-whole;YU (Expr.Call (.Attribute (.Name x f) "get" g) [e] [] d).pos;Yz [v] (ZE v)):=by intro _;rfl):
  hU X (.Call (.Attribute (.Name x f) "get" g) [e] [] d) (tO b n i):=by
 obtain⟨_,aj,ak⟩:=P;refine⟨_,AV (J' Vq W3 (tP (b:=b) O) (hg S T U Y) (d2 aj e1 G) Z aa hi G af) ag,λhc k h R W B H ar Q E q=>?_⟩;obtain⟨a,o,t,m,I,h⟩:=h;obtain⟨au,aw⟩:=E.ek I;obtain⟨az,aG,aH,aI,aJ,bc⟩:=aw.ok;refine⟨_,au,⟨a,rfl,b,az,o,aG,_,aH,mR E.bh aJ aI⟩,?_⟩;refine ak hc _ h R W B H ar _ E λy v J K aN r L M=>?_;obtain⟨s,rfl,aM,u⟩:=aN;obtain⟨c,rfl⟩:=s1 M;obtain⟨_,aP⟩:=r.ek I;obtain⟨aQ,aW,aZ,aY,a0,N⟩:=aP.ok;refine⟨a,c,aQ,o,aW,t.map V.ref,s,rfl,rfl,⟨aZ,mR r.bh a0 aY⟩,rv r.bh aM M,?_⟩;have ln:t.length=m.length:=N.len;rw[L3.hX];cases l:bu o t s with
 |none=>
  have ld:bu o m s=none:=by
   cases a6:bu o m s with
   |none=>rfl
   |some bg=>
    obtain⟨j,w,F⟩:=vp a6;have:=F t ln;have lt:=(TM.mp w).1;rw[l,SY (by lia)]at this;cases this
  rw[ld]at u;exact⟨false,rfl,q _ J K u r L⟩
 |some p=>
  obtain⟨j,w,F⟩:=vp l;have lt:=(TM.mp w).1;have ld:bu o m s=some (m[j]'(by lia)):=by rw[F m ln.symm,SY]
  rw[ld]at u;obtain⟨vs,a7,a'⟩:=N.at_ j p _ w (SY (by lia));refine⟨!vs.isEmpty,.inl ⟨vs,cE.of a7,rfl⟩,q _ J K ?_ r L⟩;have C:=a'.length
  have:vs.isEmpty=(m[j]'(by lia)).isEmpty:=by
   cases vs with
   |nil=>cases z:m[j]'(by lia)with
    |nil=>rfl
    |cons _ _=>rw[z]at C;cases C
   |cons _ _=>cases z:m[j]'(by lia)with
    |nil=>rw[z]at C;cases C
    |cons _ _=>rfl
  rw[this];exact u
end
abbrev jW:=ZN->(D->ZN->Prop)->Prop
def tK(K:Su)(t:bI)(u:jW):Prop:=∀(c:ZN)(k:D->ZN->Prop),u c k->∀(R:al)(W:TD->Prop)(B H:al)(a:St)(Q:cn),aL K R W B H a c->
 (∀d v e b f,k d e->aL K R W b f a e->bx R B b->bG K b v d->Q v f)->t a H Q
def vA(X:aU)(e:Wp)(u:jW):Prop:=∃t,bP X e t/\tK X.K t u
def tJ(u:bb):jW:=λa k=>u a λd=>k d a
theorem KM{X:aU}{e:Wp}{u:bb}(h:bt X e u):vA X e (tJ u):=by
 obtain⟨t,h,r⟩:=h;exact⟨t,h,λa k z R W B H b Q e q=>r a _ z R W B H b Q e λd v c f z e g s=>q d v a c f z e g s⟩
theorem KN{f:Type}:∀{l:List f}{i j:Nat}{a:f},l.Nodup->l[i]?=some a->l[j]?=some a->i=j
 |[],_,_,_,_,h,_=>by simp at h
 |b::l,0,0,_,_,_,_=>rfl
 |b::l,0,j+1,a,e,c,d=>by
  simp at c d;subst c;exact absurd (Tb d) (Tt.mp e).1
 |b::l,i+1,0,a,e,c,d=>by
  simp at c d;subst d;exact absurd (Tb c) (Tt.mp e).1
 |b::l,i+1,j+1,a,e,c,d=>by
  simp at c d;rw[KN (Tt.mp e).2 c d]
noncomputable def lx:List Z3->Z4->Z3->ZP->Z4
 |c::d,y::a,k,b=>if c=k then b::a else y::lx d a k b
 |_,a,_,_=>a
theorem Eh{i:Type}:∀{d:List Z3}{f:List i}{k:Z3}{x:i},bu d f k=some x->∃j:Nat,f[j]?=some x/\∀(b:Z4)(c:ZP),b.length=f.length->bu d b k=b[j]?/\lx d b k c=b.set j c
 |[],_,_,_,h=>by simp[bu]at h
 |_::_,[],_,_,h=>by simp[bu]at h
 |l::d,a::f,k,x,h=>by
  rw[bu]at h;by_cases e:l=k
  ·rw[SZ e]at h;cases h;refine⟨0,rfl,λb c g=>?_⟩;cases b with
   |nil=>simp at g
   |cons y b=>exact⟨by rw[bu,SZ e];rfl,by rw[lx,SZ e];rfl⟩
  rw[Tl e]at h;obtain⟨j,m,n⟩:=Eh h;refine⟨j+1,by simpa using m,λb c g=>?_⟩;cases b with
  |nil=>simp at g
  |cons y b=>
   obtain⟨o,p⟩:=n b c (by simpa using g);exact⟨by rw[bu,Tl e,o];rfl,by rw[lx,Tl e,p];rfl⟩
theorem KO:∀(b:List Z3)(a:Z4)(k:Z3)(c:ZP),(lx b a k c).length=a.length
 |[],_,_,_=>by simp[lx]
 |_::_,[],_,_=>by simp[lx]
 |d::b,y::a,k,c=>by
  rw[lx];split
  ·rfl
  rw[SK,KO b a k c,SK]
def tI(b:Bool)(n:Nat)(j:bb):jW:=λg k=>∃a e h c,g[n]?=some (.deep (.dl b a e h c))/\j g λy=>∃f i d,y=gB b f/\rx b f/\bu e c f=some (i++[d])/\k d (g.set n (.deep (.dl b a e h (lx e c f i))))
section
variable{X:aU}{b:Bool}{e:Wp}{g:bb}{x:Str}{m r l f:Pos}
theorem tH(n:Nat)(aw:X.A.units+4<XT)(az:bt X e g)(aG:sg e)(aH:gZ X n x:=by rfl)(aI:gy X.env.scope x:=by walk_at"v")(aN:ea x:=by decide)(aM:gY x:=by decide)(aP:iO X (.Subscript (.Name x m) e r) "pop":=by rfl)(aQ:iP l f:=by rfl):
  vA X (.Call (.Attribute (.Subscript (.Name x m) e r) "pop" l) [] [] f) (tI b n g):=by
 obtain⟨_,aT,aW⟩:=az;refine⟨_,A6 T' Wh Wi F7 (lG (IV (b:=b) aw) (hg aH aI aN aM) aT aG) aP aQ,λaZ k h R W B H aY Q Y q=>?_⟩;obtain⟨a,C,t,s,J,h⟩:=h;obtain⟨a0,bW⟩:=Y.ek J;refine⟨_,a0,?_⟩;refine aW aZ _ h R W B H aY _ Y λy v a3 bX a6 E a7 Z=>?_;obtain⟨K,F,d,rfl,a',L,bc⟩:=a6;obtain⟨c,rfl⟩:=s1 Z;obtain⟨_,G⟩:=E.ek J;obtain⟨aa,hi,af,ag,aj,M⟩:=G.ok;have ln:t.length=s.length:=M.len;obtain⟨bY,bZ,b8⟩:=Eh L
 obtain⟨p,ak⟩:∃p,bu C t K=some p:=by
  obtain⟨j,u,N⟩:=vp L;rw[N t ln];exact⟨_,SY (by have:=(TM.mp u).1;lia)⟩
 obtain⟨j,u,N⟩:=Eh ak;obtain⟨bj,O⟩:=N s F ln.symm;have hc:s[j]?=some (F++[d]):=bj.symm.trans L;obtain⟨P,ar,S⟩:=M.at_ j p _ u hc;have ll:=S.length;rw[Sz,Ti]at ll;obtain⟨bq,bz,bA⟩:=S.get (i:=F.length) (d:=d) (by simp);have mem:p∈t:=Tb u;have bC:p≠a:=λz=>(Tt.mp G.nd).1 (z▸mem);refine⟨a,c,aa,C,hi,t.map V.ref,K,.ref p,rfl,rfl,⟨af,mR E.bh aj ag⟩,rv E.bh a' Z,by rw[L3.hX,ak];rfl,.inl ⟨rfl,P,cE.of ar⟩,p,P,bq,rfl,rfl,ar,by rw[ll];exact bz,?_⟩;have bF:t.Nodup:=(Tt.mp G.nd).2;have bJ:=E.jT (c':=.dl b a C t (lx C s K F)) (x:=p) (o:=.lst P.dropLast) J (Sx _ mem) rfl (λy bK=>bK) G.nd ⟨aa,hi,by rw[bO (Tc bC)];exact af,ag,aj,by rw[KO];exact ln,λi bQ T I w=>?_⟩
 ·exact q _ _ _ a3 _ bc bJ a7 bA
 rw[O]at w;by_cases U:i=j
 ·subst U;rw[u]at I;cases I;rw[TG (by have:=(TM.mp hc).1;lia)]at w;cases w;have:=S.dropLast;rw[Xi]at this;exact⟨_,dx,this⟩
 rw[Tz (Tc U)]at w;obtain⟨bR,bS,bV⟩:=M.at_ i bQ T I w;refine⟨bR,?_,bV⟩;rw[bO]
 ·exact bS
 intro z;subst z;exact U (KN bF I u)
end
def tC(j:Nat):jW:=λa k=>∃(b:ZP)(z:D),a[j]?=some (.own (b++[z]))/\k z (a.set j (.own b))
section
variable{X:aU}{e:Wp}{u:jW}{b:Pos}
theorem KR(j:Nat){x:Str}{c e g:Pos}(p:gZ X j x:=by rfl)(r:gy X.env.scope x:=by walk_at"v")(s:ea x:=by decide)(t:gY x:=by decide)(u:iO X (.Name x c) "pop":=by rfl)(v:iP e g:=by rfl):vA X (.Call (.Attribute (.Name x c) "pop" e) [] [] g) (tC j):=by
 refine⟨_,A6 T' Wh Wi F7 (hg p r s t) u v,λE k h R W B H F Q f q=>?_⟩;obtain⟨l,z,m,h⟩:=h;obtain⟨a,vs,n,G,I,o,b⟩:=f.ownAt m;have ll:=b.length;rw[Sz,Ti]at ll;obtain⟨w,y,A⟩:=b.get (i:=l.length) (d:=z) (by simp);refine⟨_,n,.inl ⟨rfl,vs,cE.of o⟩,a,vs,w,rfl,rfl,o,by rw[ll];exact y,?_⟩
 have C:=f.write n m (ds':=l) (vs:=vs.dropLast) (by
  have:=b.dropLast
  rwa [Xi]at this)
 exact q _ _ _ B _ h C (bx.refl _ _) A
end
def tA(u:jW)(g:eS):cA:=λU a=>u a λd b=>g d b U.nx
abbrev m0:=ZN->(ZP->ZN->Prop)->Prop
def tu(K:Su)(t:eZ)(u:m0):Prop:=∀(c:ZN)(k:ZP->ZN->Prop),u c k->∀(R:al)(W:TD->Prop)(B H:al)(a:St)(Q:ZQ->al->Prop),aL K R W B H a c->
 (∀d e f b g,k d f->aL K R W b g a f->bx R B b->b_ K b e d->Q e g)->t a H Q
def yY(X:aU)(a:Z0)(u:m0):Prop:=∃t,hf X a t/\tu X.K t u
def KS:m0:=λa k=>k [] a
def KT(u:jW)(w:m0):m0:=λa k=>u a λd b=>w b λc e=>k (d::c) e
def tr(w:m0):jW:=λb k=>w b λa c=>a.length<=TI/\k (.tup a) c
section
variable{X:aU}{e:Wp}{c:Z0}{u:jW}{w:m0}{b p:Pos}{n:Nat}{F:b7}
theorem KU{a:Wp}{g:eS}(j:vA X e u)(k:j7 X a g)(l:X2 [a] e b.line X.env=pure false:=by rfl)(m:X3 [a] e X.env=pure none:=by rfl)(n:(XD [a] X.env).map (·.2)=[Y8 a X.env]:=by rfl):eT X (.Assign [a] e b) (tA u g):=by
 obtain⟨_,o,p⟩:=j;obtain⟨_,q,r⟩:=k;refine⟨_,r9 o q l m n,λU t h R W B H c D e s=>?_⟩;refine p t _ h R W B H c _ e λd v w f i x y z A=>?_;exact r d w _ x R W f i c v _ y A λF G C E _=>s.nx _ _ f i C E z
theorem Ei:yY X [] KS:=⟨_,e1,λa k h R W B H b Q e q=>q [] [] a B H h e (bx.refl _ _) .nil⟩
theorem Ej(f:vA X e u)(g:yY X c w)(i:eD X e c:=by rfl):yY X (e::c) (KT u w):=by
 obtain⟨_,j,l⟩:=f;obtain⟨_,m,n⟩:=g;refine⟨_,d2 j m i,λo k h R W B H a Q e q=>?_⟩;refine l o _ h R W B H a _ e λd v p r t x y z A=>?_;exact n p _ x R W r t a _ y λK L C E F G I b J=>q _ _ C E F G I (z.trans b) (.cons (A.mono b.s) J)
theorem KV{K:Su}{B:al}{d:St}{e:ZN}:∀{b:ZQ}{c:ZP},b_ K B b c->kE K B d e b (c.map gn.val)
 |_,_,.nil=>.nil
 |_,_,.cons a r=>.val a (KV r)
theorem Ek:∀a:ZP,(a.map gn.val).map gn.sl=a.map aA.val
 |[]=>rfl
 |_::a=>by rw[SJ,SJ,SJ,Ek a];rfl
theorem KW:∀a:ZP,kH (a.map aA.val)=0
 |[]=>rfl
 |_::a=>KW a
end
def tn(i:Nat):dz:=λa k=>∃ds:ZP,a[i]?=some (.own ds)/\k (!ds.isEmpty)
section
variable{X:aU}
theorem KX(i:Nat){x:Str}{c:Pos}(g:gZ X i x:=by rfl)(j:gy X.env.scope x:=by walk_at"v")(l:ea x:=by decide)(m:gY x:=by decide)(n:∀whole,Zh (.Name x c) X.env whole=(do let v <-whole;YU (Expr.Name x c).pos;Yz [v] (ZE v)):=by intro _;rfl):hU X (.Name x c) (tn i):=by
 refine⟨_,AV (hg g j l m) n,λu k h R W B H w Q e q=>?_⟩;obtain⟨b,o,p⟩:=h;obtain⟨a,vs,r,y,z,s,t⟩:=e.ownAt o;refine⟨_,r,!vs.isEmpty,.inl ⟨vs,cE.of s,rfl⟩,q _ B H ?_ e (bx.refl _ _)⟩
 have:vs.isEmpty=b.isEmpty:=by
  have f:=t.length;cases vs with
  |nil=>cases b with
   |nil=>rfl
   |cons d b=>simp at f
  |cons v vs=>cases b with
   |nil=>simp at f
   |cons d b=>rfl
 rw[this];exact p
end
abbrev l9:=Nat->ZN->(ZN->ZP->Prop)->Prop
def El(u:bb):l9:=λn a k=>n<TI/\u a λy=>k a [y]
def ly(g:eS)(a:dz)(c:l9):ZP->l9
 |[],_,e,k=>k e []
 |d::h,n,e,k=>g d e λf=>a f λb=>if b=true then c n f λj i=>ly g a c h (n+i.length) j λl m=>k l (i++m)else ly g a c h n f k
def KY(w:cK)(g:eS)(b:dz)(c:l9):l9:=λn a k=>w a λd=>ly g b c d n a k
def KZ(w:cK)(g:eS)(b:dz)(c:l9)(d:Nat)(e:ZT):cK:=λa k=>w a λf=>ly g b c f 0 (SR d .no++e.map (kc a)) λ_ r=>k r
section
variable{K:Su}{X:aU}{u:bb}{w:cK}{c p:Pos}
variable{M E J G r m L:Wp}{g x n:Z0}{b:XZ}{C:List (Str×TD)}{N f:ZX}{j:ZT}{A y v:eS}{i o d:dz}{l F:cK}
theorem tj{c d:Wp}{i:Type}{Xs:i->aU}(j:∀a,(Xs a).K=K)(h:∀a,mq (Xs a) c d w):∃t,(∀a,iR (Xs a) c d t)/\sr K t w:=by
 refine⟨λb H Q=>∀a,∃t,iR (Xs a) c d t/\sr K t w/\t b H Q,λa l s b H Q I q=>?_,λm k q R W B H b Q e z a=>?_⟩
 ·obtain⟨t,f,_,n⟩:=q a;exact f l s b H Q I n
 obtain⟨t,f,g⟩:=h a;rw[j a]at g;exact⟨t,f,g,g m k q R W B H b Q e z⟩
abbrev ti:=TD×Tk×al×ZZ
end
section
variable{K:Su}{R:al}{W:TD->Prop}{B p H r:al}{l:St}{f:ZN}
theorem yZ{i j:Nat}{b a:TD}{c:mm}(m:cc (l.set i (some (.ref b))) (f.set i (.own c)) j a):(j=i/\a=b)\/(j≠i/\cc l f j a):=by
 rcases t8 m with⟨e,⟨z,_⟩|z⟩|m
 ·cases z;exact .inl ⟨e,rfl⟩
 ·cases z
 exact .inr m
def y0:aA->aA
 |.val d=>.val d
 |_=>.no
theorem th{i:Nat}{a:TD}(m:cc l (f.map y0) i a):False:=by
 have key:∀k,(f.map y0)[i]?=some k->k=.no\/∃d,k=.val d:=λk h=>by
  rw[SP]at h;cases q:f[i]? with
  |none=>rw[q]at h;cases h
  |some s=>
   rw[q]at h;have h:=SN h;subst h;cases s<;>first|exact .inl rfl|exact .inr ⟨_,rfl⟩
 rcases m with⟨_,h|⟨b,h⟩⟩|⟨c,h,_⟩
 ·rcases key _ h with z|⟨d,z⟩<;>cases z
 ·rcases key _ h with z|⟨d,z⟩<;>cases z
 rcases key _ h with z|⟨d,z⟩<;>cases z
theorem aL.hide(e:aL K R W B H l f):aL K H (λ_=>False) B H l (f.map y0):=by
 refine⟨⟨λ_ _ z _=>z,e.bh,λ_ z=>z.elim,λ_ z=>z.elim,λ_ z=>z.elim⟩,by rw[Sv];exact e.len,λi k h=>?_,λi j a m _=>(th m).elim⟩;rw[SP]at h;cases q:f[i]? with
 |none=>rw[q]at h;cases h
 |some s=>
  rw[q]at h;have h:=SN h;subst h;have z:=e.ok i _ q;cases s with
  |val d=>exact z
  |_=>trivial
theorem aL.k2{A:ZN}{C:St}(e:aL K R W B H l f)(k:aL K H (λ_=>False) p r C A)(g:bx H B p):aL K R W p r l f/\bx R B p:=by
 have st:∀a o,H a=some o->r a=some o:=λa o h=>k.fr a o h λz=>z
 have t:∀a,B a=none->H a≠none->p a=none:=λa c d=>by
  cases q:p a with
  |none=>rfl
  |some o=>
   rcases g.n a o q with z|z
   ·rw[c]at z;cases z
   exact absurd z d
 have j:∀a,H a≠none->r a=H a:=λa h=>by
  cases q:H a with
  |none=>exact absurd q h
  |some o=>exact st a o q
 have u:∀a,ft H a->ft r a:=λa ⟨x,y,c,d⟩=>⟨x,y,st _ _ c,d⟩;have E:∀a,ft H a->H a≠none:=λa ⟨x,y,c,_⟩=>by rw[c];simp
 refine⟨e.move ⟨λa o h F=>st a o (e.fr a o h F),k.bh,λa z=>t a (e.wb a z) (E a (e.wh a z)),λa z=>u a (e.wh a z),e.wr⟩ g.s λi a m=>?_,g.s,λa o h=>?_⟩
 ·obtain⟨G,v⟩:=e.en m;refine⟨t a G v,λz=>?_,λ_=>j a v⟩;obtain⟨b,w,_,_,I⟩:=e.eo z;rw[nC m z]at w;cases w;exact u _ I
 rcases g.n a o h with z|z
 ·exact .inl z
 exact .inr (e.toWd.fresh z).1
end
section
variable{X:aU}{e:Wp}{d:Z0}{w:iW}{c:Pos}{n:Nat}{F:b7}
def td(i j:Nat)(b f:cK):cA:=λU a=>b a λg=>f (a.map y0) λh=>U.nx ((a.set i (.own (.l g))).set j (.own (.l h)))
theorem s_{i j:Nat}{x y:Str}{a b:Wp}{C E:cK}{k l p:Pos}{r t u}(J:X.calm=true)(K:X.N.Nodup)(L:X.N[i]?=some x)(M:X.N[j]?=some y)(O:i≠j)(P:X.env.scope.names.lookup x=some .local)(Q:X.env.scope.names.lookup y=some .local)(S:j6 X a C)(T:j6 X b E)(Y:X3 [.Tuple [.Name x k,.Name y l] r p] (.Tuple [a,b] t u) X.env=pure (some [x,y]))(Z:UF [a,b] X.env=(false,Yp a X.env)::UF [b] X.env:=by rfl)(ae:eD X b []:=by rfl)(ai:X2 [.Tuple [.Name x k,.Name y l] r p] (.Tuple [a,b] t u) c.line X.env=pure false:=by rfl):
  eT X (.Assign [.Tuple [.Name x k,.Name y l] r p] (.Tuple [a,b] t u) c) (td i j C E):=by
 obtain⟨_,p1,ak⟩:=S;obtain⟨_,p2,ao⟩:=T;refine⟨_,FA J K L M O P Q (d2 p1 (d2 p2 e1 ae) Z) Y ai,λU aw h R W B H F D e s=>?_⟩;refine ak aw _ h R W B H F _ e λbj d bq ax G ay f az aE aF v aG aI=>?_;refine ao _ _ ay G (λ_=>False) ax G F _ f.hide λbz aK bC w aO aP I A g aT aY a0 bJ=>?_;obtain⟨a3,g3⟩:=f.k2 I A;have a5:aK≠d:=by rintro rfl;rw[v]at g;cases g
 have a6:w d=none:=by
  cases z:w d with
  |none=>rfl
  |some o=>
   rcases A.n d o z with y|y
   ·rw[aF]at y;cases y
   rw[v]at y;cases y
 have a7:=a3.hV i aE a6 (I.fr d _ v λz=>z) (aG.mono A.s) λq _=>aI q
 have bc:=a7.hV j (f.toWd.fresh g).1 aT aY a0 λq _ m=>by
  rcases yZ m with⟨_,z⟩|⟨_,m⟩
  ·exact a5 z
  exact(f.en m).2 g
 exact⟨_,_,rfl,s.nx _ _ w aO aP bc (az.trans g3)⟩
end
section
variable{K:Su}{B:al}
theorem K0:∀{a:ZQ}{b:ZP}{W:TD->Prop},b_ K B a b->j8 K W B a (b.map aA.val)
 |_,_,_,.nil=>.nil
 |_,_,_,.cons h r=>.val h (K0 r)
theorem K1:∀a:ZP,kH (a.map aA.val)=0
 |[]=>rfl
 |_::r=>K1 r
end
theorem Er{c:Type}{f:c->D}{h:c->ZP}{g:eS}{d:l9}{I:ZN->Prop}{L:Nat}:∀{xs:List c}{n:Nat}{a:ZN}{k:ZN->ZP->Prop},(∀x∈xs,∀n a (k:ZN->ZP->Prop),I a->n+(h x).length<=L->(∀b,I b->k b (h x))->g (f x) a λo=>d n o k)->I a->n+(xs.flatMap h).length<=L->(∀b,I b->k b (xs.flatMap h))->ly g hW d (xs.map f) n a k
 |[],n,a,k,_,i,_,e=>e a i
 |x::xs,n,a,k,l,i,p,e=>by
  rw[Xj,Sz]at p
  have:=l x Sw n a (λq m=>ly g hW d (xs.map f) (n+m.length) q λr s=>k r (m++s)) i (by lia) λb t=>Er (λy u=>l y (Sx _ u)) t (by lia) λv j=>by
   have:=e v j
   rwa [Xj]at this
  exact this
theorem K2{j:Type}{f h:j->D}{g:eS}{u:bb}{I:ZN->Prop}:∀{b:List j}{a:ZN}{k:ZP->Prop},(∀x∈b,∀a (l:D->ZN->Prop),I a->(∀d,I d->l (h x) d)->g (f x) a λc=>u c λy=>l y c)->I a->k (b.map h)->gH g hW u (b.map f) a k
 |[],_,_,_,_,e=>e
 |x::b,a,k,m,i,e=>m x Sw a (λy c=>gH g hW u (b.map f) c λn=>k (y::n)) i λd o=>K2 (λy p=>m y (Sx _ p)) o e
def jt(x:a8):Prop:=∃b m n t,ha b m n t x
theorem jt.ps{x:a8}(h:jt x):∀p∈x.1,aX p:=λp a=>by
 obtain⟨_,_,_,_,h⟩:=h;exact(h.rb.iF p a).pt
theorem jt.st{x:a8}(h:jt x):aX x.2.2:=by
 obtain⟨_,_,_,_,h⟩:=h;exact h.st.pt
theorem K3{f:ab->Int}{mt:ab->ab->ab}{sh:ZR}{s:a8}(h:s∈dE f mt sh):∃t∈sh,s∈dE f mt [t]:=by
 unfold dE at h⊢;obtain⟨a,b⟩:=TO.mp h;obtain⟨t,c,rfl⟩:=SI.mp a;exact⟨t,c,TO.mpr ⟨by simp,b⟩⟩
theorem y1{c:Nat}{l o:ab}{sh:ZR}(h:∀s∈sh,jt s)(bl:cw c l)(f:l.1≠0\/l.2.1≠0)(g:L3.ln l o=0)(a:ab)(e:a=l\/a=jR l):∀s∈dE (L3.ln a) (a4 l) sh,jt s:=λs d=>by
 obtain⟨t,i,j⟩:=K3 d;obtain⟨b,m,n,u,k⟩:=h t i;have q:=tk (b:=b+c+m+c+1) (m:=m+c) (sh:=[t]) (λs d=>by rw[SQ.mp d];exact k.mono (by lia) (by lia) (SD n) (SD u)) bl (by lia) f g (by lia) a e;exact⟨_,_,_,_,q s j⟩
structure eM(s w pt:Int×Int):Prop where
 ls:ba s.1 s.2
 lw:ba w.1 w.2
 lp:ba pt.1 pt.2
 s0:s.1≠0
 w0:0<w.1
 p0:0<pt.1
 lt:pt.1*w.2<w.1*pt.2
 c1:SB s.1<=21
 c2:SB s.2<=21
 c3:SB w.1<=175
 c4:SB w.2<=175
 c5:SB pt.1<=175
 c6:SB pt.2<=175
 d3:SB (ce w pt).1<=175
 d4:SB (ce w pt).2<=175
section
variable{s w c:Int×Int}
theorem eM.r(h:eM s w c):ba (ce w c).1 (ce w c).2/\0<(ce w c).1/\SB (ce w c).1<=175/\SB (ce w c).2<=175:=by
 have a:0<w.2*c.2:=SE h.lw.1 h.lp.1;obtain⟨l,e,d,f⟩:=jL (t:=w.1*c.2-c.1*w.2) (b:=w.2*c.2) (SA a);refine⟨l,?_,h.d3,h.d4⟩
 have:0<(ce w c).1*(w.2*c.2):=by
  show 0<(ee _ _).1*(w.2*c.2)
  rw[e];have:=h.lt;exact SE (by lia) l.1
 exact UM this a
theorem tv{x:Int×Int}(a:ba s.1 s.2)(f:s.1≠0)(c:SB s.1<=21)(g:SB s.2<=21)(d:ba x.1 x.2)(h:0<x.1)(i:SB x.1<=175)(j:SB x.2<=175):ba (bT s x).1 (bT s x).2/\0<(bT s x).1/\SB (bT s x).1<=196/\SB (bT s x).2<=196:=by
 have e:=uO a d f h;obtain⟨_,_,k,l⟩:=jL (t:=(if s.1<0 then -s.1 else s.1)*x.1) (b:=s.2*x.2) (nA a.1 d.1)
 have m:SB (if s.1<0 then -s.1 else s.1)<=21:=by
  split
  ·exact TT c
  exact c
 exact⟨e.lh,e.h0,fY k (TE m i),fY l (TE g j)⟩
theorem eM.h(h:eM s w c)(a:Bool):ba (bw s w c a).1 (bw s w c a).2/\0<(bw s w c a).1/\SB (bw s w c a).1<=196/\SB (bw s w c a).2<=196:=by
 obtain⟨b,d,e,f⟩:=h.r;unfold bw;cases a with
 |true=>exact tv h.ls h.s0 h.c1 h.c2 b d e f
 |false=>exact tv h.ls h.s0 h.c1 h.c2 h.lp h.p0 (cb h.c5) (cb h.c6)
theorem eM.x(h:eM s w c)(a:Bool):ba (bB s w c a).1 (bB s w c a).2/\0<(bB s w c a).1/\SB (bB s w c a).1<=175/\SB (bB s w c a).2<=175:=by
 unfold bB;cases spL s a with
 |true=>exact⟨h.lp,h.p0,cb h.c5,cb h.c6⟩
 |false=>exact h.r
theorem Es{x y:Int×Int}(a:ba x.1 x.2)(b:ba y.1 y.2)(c:SB x.1<=196)(d:SB x.2<=196)(e:SB y.1<=196)(f:SB y.2<=196):cX 392 (dr x y):=⟨gI (p:=(x.1*y.2,y.1*x.2,x.2*y.2)) (nA a.1 b.1),l2 c d e f a b⟩
theorem eM.stA(h:eM s w c)(a:Bool):cX 400 (iQ s w c a):=by
 obtain⟨e,_,f,g⟩:=h.r;obtain⟨i,_,j,k⟩:=h.h a;have b:∀{x y:Int},ba x y->ba (-x) y:=λl=>⟨l.1,by rw[Um];exact l.2⟩;have d:ba 0 1:=⟨by decide,by decide⟩;unfold L3.iQ;refine(Es ?_ ?_ ?_ ?_ ?_ ?_).mono (by decide)
 ·split
  ·exact d
  exact b e
 ·split
  ·exact b i
  exact d
 ·split
  ·show SB 0<=196;decide
  exact Sy (TT f) (by decide)
 ·split
  ·show SB 1<=196;decide
  exact cb g
 ·split
  ·exact TT j
  show SB 0<=196;decide
 split
 ·exact k
 show SB 1<=196;decide
theorem eM.stB(h:eM s w c)(a:Bool):cX 400 (jB s w c a):=by
 obtain⟨e,_,f,g⟩:=h.h a;have b:∀{x y:Int},ba x y->ba (-x) y:=λl=>⟨l.1,by rw[Um];exact l.2⟩;have d:ba 0 1:=⟨by decide,by decide⟩;unfold L3.jB;refine(Es ?_ ?_ ?_ ?_ ?_ ?_).mono (by decide)
 ·split
  ·exact b h.lp
  exact d
 ·split
  ·exact d
  exact b e
 ·split
  ·exact Sy (TT h.c5) (by decide)
  show SB 0<=196;decide
 ·split
  ·exact cb h.c6
  show SB 1<=196;decide
 ·split
  ·show SB 0<=196;decide
  exact TT f
 split
 ·show SB 1<=196;decide
 exact g
theorem eM.stC(h:eM s w c)(a:Bool):cX 400 (j2 s w c a):=by
 obtain⟨e,_,f,g⟩:=h.h a;have b:∀{x y:Int},ba x y->ba (-x) y:=λl=>⟨l.1,by rw[Um];exact l.2⟩;have d:ba 0 1:=⟨by decide,by decide⟩;unfold L3.j2;refine(Es ?_ ?_ ?_ ?_ ?_ ?_).mono (by decide)
 ·split
  ·exact b h.lp
  exact d
 ·split
  ·exact b e
  exact d
 ·split
  ·exact Sy (TT h.c5) (by decide)
  show SB 0<=196;decide
 ·split
  ·exact cb h.c6
  show SB 1<=196;decide
 ·split
  ·exact TT f
  show SB 0<=196;decide
 split
 ·exact g
 show SB 1<=196;decide
theorem eM.rR(h:eM s w c):bv (ce w c)=bv w-bv c:=by
 have a:=eW h.lw.1;have b:=eW h.lp.1;unfold ce;rw[yA (SE h.lw.1 h.lp.1)];unfold bv;push_cast;grind
theorem eM.rH(h:eM s w c):∃k:Rat,0<k/\∀x:Int×Int,0<x.2->bv (bT s x)=k*bv x:=by
 have d:=h.ls.1;have a:=eW d;have f:0<(if s.1<0 then -s.1 else s.1):=by have:=h.s0;split<;>lia
 refine⟨bv (if s.1<0 then -s.1 else s.1,s.2),oY f d,λx e=>?_⟩;have b:=eW e;unfold bT;rw[yA (SE d e)];unfold bv;push_cast;grind
end
theorem vC{s w a:Int×Int}(h:eM s w a)(c b:Bool){sh:ZR}(d:∀x∈sh,jt x):∀x∈dZ (bB s w a c) b sh,jt x:=by
 obtain⟨e,_,j,k⟩:=h.x c;obtain⟨f,l,g⟩:=qm e;have i:=DU e j k;unfold dZ;cases b with
 |true=>exact y1 d i f g _ (.inl rfl)
 |false=>
  have:=y1 d i f g (jR (cf (bB s w a c))) (.inr rfl);rwa[sR]at this
theorem vD{s w a:Int×Int}(h:eM s w a)(c b:Bool){sh:ZR}(d:∀x∈sh,jt x):∀x∈f6 (bw s w a c) b sh,jt x:=by
 obtain⟨e,_,j,k⟩:=h.h c;obtain⟨f,l,g⟩:=qn e;have i:=DV e j k;unfold f6;cases b with
 |true=>exact y1 d i f g _ (.inl rfl)
 |false=>
  have:=y1 d i f g (jR (cD (bw s w a c))) (.inr rfl);rwa[sR]at this
theorem u5{s w d:Int×Int}(e:eM s w d)(a:Bool){sh:ZR}(i:∀x∈sh,jt x)(b:Bool):cU (((jr s w d a sh++iL s w d a sh++im s w d a sh).filter λs=>s.2.1==b).map f3) ((sh.filter λs=>s.2.1==b).map f3):=λf=>by
 show eL f b _=eL f b _
 have n:∀x∈sh,aX x.2.2/\∀p∈x.1,aX p:=λx h=>⟨(i x h).st,λp g=>(i x h).ps p g⟩;have j:=λc=>vC e a c i;have k:=λc=>vD e a c (j (!spL s a));have l:∀c,∀x∈dZ (bB s w d a) c sh,aX x.2.2/\∀p∈x.1,aX p:=λc x h=>⟨(j c x h).st,λp g=>(j c x h).ps p g⟩;have m:∀c,∀x∈f6 (bw s w d a) c (dZ (bB s w d a) (!spL s a) sh),aX x.2.2/\∀p∈x.1,aX p:=λc x h=>⟨(k c x h).st,λp g=>(k c x h).ps p g⟩;rw[ql,ql];unfold jr iL im;rw[yt f b (e.stA a).pt (l _),yt f b (e.stB a).pt (m _),yt f b (e.stC a).pt (m _)];have o:=CD f b a (e.h a).1 (l (!spL s a));have q:=CE f b (spL s a) (e.x a).1 n;rw[<-q,<-o];grind
structure u4(s w pt:Int×Int)(hi:Bool)(k W P R:Rat):Prop where
 P0:0<P
 R0:0<R
 W0:0<W
 eR:R=W-P
 Em:0<k*P
 Eg:0<k*R
 Ef:k*W=k*P+k*R
 x1:ba (bB s w pt hi).1 (bB s w pt hi).2
 h1:ba (bw s w pt hi).1 (bw s w pt hi).2
 iB:cN (w.1,0,w.2) W 0
 iC:cN (dr w (bT s w)) W (k*W)
 iD:cN (0,(bT s w).1,(bT s w).2) 0 (k*W)
 D_:bv (bB s w pt hi)=if spL s hi then P else R
 Eb:bv (bw s w pt hi)=k*if hi then R else P
 Ep:cN (iQ s w pt hi) (if spL s hi then 0 else -R) (if hi then -(k*if hi then R else P)else 0)
 Eo:cN (jB s w pt hi) (if spL s hi then -P else 0) (if hi then 0 else -(k*if hi then R else P))
 En:cN (j2 s w pt hi) (if spL s hi then -P else 0) (if hi then -(k*if hi then R else P)else 0)
 EC:cN (pt.1,0,pt.2) P 0
 Ey:cN (dr pt (bT s pt)) P (k*P)
 EH:cN (0,(bT s pt).1,(bT s pt).2) 0 (k*P)
 Ex:cN ((ce w pt).1,0,(ce w pt).2) R 0
 Eu:cN (dr (ce w pt) (bT s (ce w pt))) R (k*R)
 EG:cN (0,(bT s (ce w pt)).1,(bT s (ce w pt)).2) 0 (k*R)
 Ew:cN (dr (ce w pt) (bT s pt)) R (k*P)
theorem Et{x y:Int×Int}{X Y:Rat}(a b:Bool)(d:ba x.1 x.2)(f:ba y.1 y.2)(g:bv x=X)(i:bv y=Y):cN (dr (if a then(-x.1,x.2)else(0,1)) (if b then(-y.1,y.2)else(0,1))) (if a then -X else 0) (if b then -Y else 0):=by
 have n:∀(c:Bool)(z:Int×Int)(Z:Rat),ba z.1 z.2->bv z=Z->0<(if c then(-z.1,z.2)else(0,1):Int×Int).2/\bv (if c then(-z.1,z.2)else(0,1))=if c then -Z else 0:=λc z Z h e=>by
  cases c with
  |true=>exact⟨h.1,(yg _ _).trans (Uf _ e)⟩
  |false=>exact⟨(by decide:(0:Int)<1),rE _⟩
 exact(vh (n a _ _ d g).1 (n b _ _ f i).1).to (n a _ _ d g).2 (n b _ _ f i).2
theorem y2{s w c:Int×Int}(a:eM s w c)(d:Bool):∃k W P R:Rat,u4 s w c d k W P R:=by
 obtain⟨k,l,f⟩:=a.rH;obtain⟨e,m,z,A⟩:=a.r;have n:=tv a.ls a.s0 a.c1 a.c2 e m z A;have j:=tv a.ls a.s0 a.c1 a.c2 a.lp a.p0 a.c5 a.c6;have o:=tv a.ls a.s0 a.c1 a.c2 a.lw a.w0 a.c3 a.c4;have p:=a.rR;have q:=oY a.p0 a.lp.1;have t:=oY m e.1;have g:=(a.h d).1;have i:bv (bw s w c d)=k*if d then bv (ce w c)else bv c:=by cases d<;>exact f _ (by first|exact a.lp.1|exact e.1)
 have u:∀(b:Bool)(x y:Int×Int),(if b then x else y)=if !b then y else x:=λb x y=>by cases b<;>rfl
 have v:∀(b:Bool)(x y:Rat),(if b then x else y)=if !b then y else x:=λb x y=>by cases b<;>rfl
 refine⟨k,bv w,bv c,bv (ce w c),q,t,oY a.w0 a.lw.1,p,US l q,US l t,by rw[p];grind,(a.x d).1,g,yu a.lw,(vh a.lw.1 o.1.1).to rfl (f w a.lw.1),(yv o.1).to rfl (f w a.lw.1),by unfold bB;split<;>rfl,i,?_,?_,?_,yu a.lp,(vh a.lp.1 j.1.1).to rfl (f c a.lp.1),(yv j.1).to rfl (f c a.lp.1),yu e,(vh e.1 n.1.1).to rfl (f _ e.1),(yv n.1).to rfl (f _ e.1),(vh e.1 j.1.1).to rfl (f c a.lp.1)⟩
 ·unfold iQ;rw[u (spL s d),v (spL s d)];exact Et _ _ e g rfl i
 ·unfold jB;rw[u d (0,1),v d 0];exact Et _ _ a.lp g rfl i
 exact Et _ _ a.lp g rfl i
theorem uX{s w a:Int×Int}(v:eM s w a)(G:0<s.1){sh:ZR}(X:∀x∈sh,jt x)(h:cU (sh.map λs=>s.1) [dd s false w]):cU ((jr s w a false sh).map λs=>s.1) [dd s false a]/\cU ((iL s w a false sh).map λs=>s.1) [dd s false (ce w a)]/\cU ((im s w a false sh).map λs=>s.1) [lU (ce w a) (bT s a)]:=by
 obtain⟨k,W,P,R,aN,aM,aO,aP,hc,ao,aq,y,E,i,j,ar,d,e,l,m,g,I,J,K,F,L,au,M⟩:=y2 v false;have N:spL s false=true:=by unfold spL;rw[XA G];rfl
 simp only[N,TL,if_true,if_false]at d e l m g;have O:=λb=>vC v false b X;have Y:=λb=>vD v false b (O (!spL s false));have aw:=(v.stA false).pt;have ax:=(v.stB false).pt;have ay:=(v.stC false).pt;have H:cN (0,0,1) 0 0:=yw;have r:=H;have az:dd s false w=[(0,0,1),(w.1,0,w.2),dr w (bT s w)]:=by unfold dd;rw[SZ G];rfl
 rw[az]at h;generalize aQ:((0,0,1):ab)=A at r h;generalize aR:((w.1,0,w.2):ab)=B at i h;generalize aV:dr w (bT s w)=C at j h;generalize aW:((0,(bT s w).1,(bT s w).2):ab)=D at ar h;obtain⟨aD,aE,aF⟩:=qm y;obtain⟨aG,aI,ah⟩:=qn E;have Q:=s7 y r (by rw[d];grind);have jd:=s8 y i (by rw[d];grind);have iX:=s8 y j (by rw[d];grind);have u:cN (a4 (cf (bB s w a false)) A B) (P) (0):=(qp y r i (S1 Q jd) (by rw[d];grind)).to d rfl;have n:cN (a4 (cf (bB s w a false)) C A) (P) (k*P):=(qp y j r (T5 iX Q) (by rw[d];grind)).to d rfl;have Z:=qk h aD aE aF (λt o p q=>(X t o).ps p q) (l6 r.1 i.1 j.1)
 have S:cU ((dZ (bB s w a false) (spL s false) sh).map λs=>s.1) [[A,a4 (cf (bB s w a false)) A B,a4 (cf (bB s w a false)) C A]]:=by
  rw[N];have z:=Z.1;rwa[JH (f:=ln (cf (bB s w a false))) Q jd iX]at z
 have T:cU ((dZ (bB s w a false) (!spL s false) sh).map λs=>s.1) [[a4 (cf (bB s w a false)) A B,B,C,a4 (cf (bB s w a false)) C A]]:=by
  rw[N];have z:=Z.2;rwa[JI (f:=λc => -ln (cf (bB s w a false)) c) (by show -ln (cf (bB s w a false)) A<0;lia) (by show 0 < -ln (cf (bB s w a false)) B;lia) (by show 0 < -ln (cf (bB s w a false)) C;lia)]at z
 generalize a4 (cf (bB s w a false)) A B=aa at u S T;generalize a4 (cf (bB s w a false)) C A=U at n S T;have aJ:=ta E u (by rw[e]<;>grind);have hi:=ta E i (by rw[e]<;>grind);have af:=s9 E j (by rw[e]<;>grind);have aK:=yx E n (by rw[e]<;>grind);have in1:cN (a4 (cD (bw s w a false)) B C) (W) (k*P):=(yy E i j (T5 hi af) (by rw[e];grind)).to rfl e;have ag:=qk T aG aI ah (λt o p q=>(O _ t o).ps p q) (qt u.1 i.1 j.1 n.1)
 have ai:cU ((f6 (bw s w a false) (!false) (dZ (bB s w a false) (!spL s false) sh)).map λs=>s.1) [[a4 (cD (bw s w a false)) B C,C,U]]:=by
  have z:=ag.1;rwa[CC (f:=ln (cD (bw s w a false))) aJ hi af aK]at z
 have ak:cU ((f6 (bw s w a false) false (dZ (bB s w a false) (!spL s false) sh)).map λs=>s.1) [[aa,B,a4 (cD (bw s w a false)) B C,U]]:=by
  have z:=ag.2;rwa[CB (f:=λc => -ln (cD (bw s w a false)) c) (by show 0 < -ln (cD (bw s w a false)) aa;lia) (by show 0 < -ln (cD (bw s w a false)) B;lia) (by show -ln (cD (bw s w a false)) C<0;lia) (by show -ln (cD (bw s w a false)) U=0;lia)]at z
 generalize a4 (cD (bw s w a false)) B C=aZ at in1 ai ak;refine⟨?_,?_,?_⟩
 ·rw[show dd s false a=_ from by unfold dd;rw[SZ G]];exact nZ aw S (λt o p q=>(O _ t o).ps p q) (l6 r.1 u.1 n.1) (qs (((eB l r).to (by grind) (by grind)).eq H) (((eB l u).to (by grind) (by grind)).eq I) (((eB l n).to (by grind) (by grind)).eq J))
 ·rw[show dd s false (ce w a)=_ from by unfold dd;rw[SZ G]];exact Ds ax ai (λt o p q=>(Y _ t o).ps p q) (l6 in1.1 j.1 n.1) (qs (((eB m in1).to (by grind) (by grind)).eq F) (((eB m j).to (by grind) (by grind)).eq L) (((eB m n).to (by grind) (by grind)).eq H))
 exact nZ ay ak (λt o p q=>(Y _ t o).ps p q) (qt u.1 i.1 in1.1 n.1) (yB (((eB g u).to (by grind) (by grind)).eq H) (((eB g i).to (by grind) (by grind)).eq F) (((eB g in1).to (by grind) (by grind)).eq M) (((eB g n).to (by grind) (by grind)).eq K))
theorem uV{s w a:Int×Int}(v:eM s w a)(G:0<s.1){sh:ZR}(U:∀x∈sh,jt x)(h:cU (sh.map λs=>s.1) [dd s true w]):cU ((jr s w a true sh).map λs=>s.1) [dd s true a]/\cU ((iL s w a true sh).map λs=>s.1) [dd s true (ce w a)]/\cU ((im s w a true sh).map λs=>s.1) [lU (ce w a) (bT s a)]:=by
 obtain⟨k,W,P,R,aM,aO,aP,aQ,ao,aq,ar,y,E,au,r,i,d,e,j,l,g,aw,I,F,J,K,L,M⟩:=y2 v true;have N:spL s true=false:=by unfold spL;rw[XA G];rfl
 simp only[N,TL,if_true,if_false]at d e j l g;have O:=λb=>vC v true b U;have X:=λb=>vD v true b (O (!spL s true));have ax:=(v.stA true).pt;have ay:=(v.stB true).pt;have az:=(v.stC true).pt;have H:cN (0,0,1) 0 0:=yw;have m:=H;have aD:dd s true w=[(0,0,1),dr w (bT s w),(0,(bT s w).1,(bT s w).2)]:=by unfold dd;rw[SZ G];rfl
 rw[aD]at h;generalize aR:((0,0,1):ab)=A at m h;generalize aV:((w.1,0,w.2):ab)=B at au h;generalize aW:dr w (bT s w)=C at r h;generalize aZ:((0,(bT s w).1,(bT s w).2):ab)=D at i h;obtain⟨aE,aF,aG⟩:=qm y;obtain⟨aI,aJ,ah⟩:=qn E;have Y:=s7 y m (by rw[d];grind);have iX:=s8 y r (by rw[d];grind);have Z:=s7 y i (by rw[d];grind);have n:cN (a4 (cf (bB s w a true)) A C) (R) (k*R):=(qp y m r (S1 Y iX) (by rw[d];grind)).to d rfl;have u:cN (a4 (cf (bB s w a true)) C D) (R) (k*W):=(qp y r i (T5 iX Z) (by rw[d];grind)).to d rfl;have aa:=qk h aE aF aG (λt o p q=>(U t o).ps p q) (l6 m.1 r.1 i.1)
 have Q:cU ((dZ (bB s w a true) (spL s true) sh).map λs=>s.1) [[a4 (cf (bB s w a true)) A C,C,a4 (cf (bB s w a true)) C D]]:=by
  rw[N];have z:=aa.2;rwa[JJ (f:=λc => -ln (cf (bB s w a true)) c) (by show -ln (cf (bB s w a true)) A<0;lia) (by show 0 < -ln (cf (bB s w a true)) C;lia) (by show -ln (cf (bB s w a true)) D<0;lia)]at z
 have S:cU ((dZ (bB s w a true) (!spL s true) sh).map λs=>s.1) [[A,a4 (cf (bB s w a true)) A C,a4 (cf (bB s w a true)) C D,D]]:=by
  rw[N];have z:=aa.1;rwa[JK (f:=ln (cf (bB s w a true))) Y iX Z]at z
 generalize a4 (cf (bB s w a true)) A C=T at n Q S;generalize a4 (cf (bB s w a true)) C D=hi at u Q S;have af:=ta E m (by rw[e]<;>grind);have aK:=yx E n (by rw[e]<;>grind);have aN:=s9 E u (by rw[e]<;>grind);have ag:=s9 E i (by rw[e]<;>grind);have in1:cN (a4 (cD (bw s w a true)) D A) (0) (k*R):=(yy E i m (S1 ag af) (by rw[e];grind)).to rfl e;have ai:=qk S aI aJ ah (λt o p q=>(O _ t o).ps p q) (qt m.1 n.1 u.1 i.1)
 have ak:cU ((f6 (bw s w a true) (!true) (dZ (bB s w a true) (!spL s true) sh)).map λs=>s.1) [[A,T,a4 (cD (bw s w a true)) D A]]:=by
  have z:=ai.2;rwa[CA (f:=λc => -ln (cD (bw s w a true)) c) (by show 0 < -ln (cD (bw s w a true)) A;lia) (by show -ln (cD (bw s w a true)) T=0;lia) (by show -ln (cD (bw s w a true)) hi<0;lia) (by show -ln (cD (bw s w a true)) D<0;lia)]at z
 have hc:cU ((f6 (bw s w a true) true (dZ (bB s w a true) (!spL s true) sh)).map λs=>s.1) [[T,hi,D,a4 (cD (bw s w a true)) D A]]:=by
  have z:=ai.1;rwa[CO (f:=ln (cD (bw s w a true))) af aK aN ag]at z
 generalize a4 (cD (bw s w a true)) D A=a0 at in1 ak hc;refine⟨?_,?_,?_⟩
 ·rw[show dd s true a=_ from by unfold dd;rw[SZ G]];exact nZ ax Q (λt o p q=>(O _ t o).ps p q) (l6 n.1 r.1 u.1) (qs (((eB j n).to (by grind) (by grind)).eq H) (((eB j r).to (by grind) (by grind)).eq I) (((eB j u).to (by grind) (by grind)).eq F))
 ·rw[show dd s true (ce w a)=_ from by unfold dd;rw[SZ G]];exact nZ ay ak (λt o p q=>(X _ t o).ps p q) (l6 m.1 n.1 in1.1) (qs (((eB l m).to (by grind) (by grind)).eq H) (((eB l n).to (by grind) (by grind)).eq K) (((eB l in1).to (by grind) (by grind)).eq L))
 exact Ds az hc (λt o p q=>(X _ t o).ps p q) (qt n.1 u.1 i.1 in1.1) (yB (((eB g n).to (by grind) (by grind)).eq J) (((eB g u).to (by grind) (by grind)).eq M) (((eB g i).to (by grind) (by grind)).eq F) (((eB g in1).to (by grind) (by grind)).eq H))
theorem uU{s w a:Int×Int}(v:eM s w a)(H:¬0<s.1){sh:ZR}(T:∀x∈sh,jt x)(h:cU (sh.map λs=>s.1) [dd s false w]):cU ((jr s w a false sh).map λs=>s.1) [dd s false a]/\cU ((iL s w a false sh).map λs=>s.1) [dd s false (ce w a)]/\cU ((im s w a false sh).map λs=>s.1) [lU (ce w a) (bT s a)]:=by
 obtain⟨k,W,P,R,aM,aO,aP,aQ,hc,ao,aq,y,E,r,ar,i,d,e,j,l,g,J,au,F,G,aw,K,L⟩:=y2 v false;have M:spL s false=false:=by unfold spL;rw[decide_eq_false H];rfl
 simp only[M,TL,if_true,if_false]at d e j l g;have N:=λb=>vC v false b T;have U:=λb=>vD v false b (N (!spL s false));have ax:=(v.stA false).pt;have ay:=(v.stB false).pt;have az:=(v.stC false).pt;have I:cN (0,0,1) 0 0:=yw;have m:=I;have aD:dd s false w=[(0,0,1),(w.1,0,w.2),(0,(bT s w).1,(bT s w).2)]:=by unfold dd;rw[Tl H];rfl
 rw[aD]at h;generalize aR:((0,0,1):ab)=A at m h;generalize aV:((w.1,0,w.2):ab)=B at r h;generalize aW:dr w (bT s w)=C at ar h;generalize aZ:((0,(bT s w).1,(bT s w).2):ab)=D at i h;obtain⟨aE,aF,aG⟩:=qm y;obtain⟨aI,aJ,ah⟩:=qn E;have X:=s7 y m (by rw[d];grind);have jd:=s8 y r (by rw[d];grind);have Y:=s7 y i (by rw[d];grind);have u:cN (a4 (cf (bB s w a false)) A B) (R) (0):=(qp y m r (S1 X jd) (by rw[d];grind)).to d rfl;have n:cN (a4 (cf (bB s w a false)) B D) (R) (k*P):=(qp y r i (T5 jd Y) (by rw[d];grind)).to d rfl;have Z:=qk h aE aF aG (λt o p q=>(T t o).ps p q) (l6 m.1 r.1 i.1)
 have O:cU ((dZ (bB s w a false) (spL s false) sh).map λs=>s.1) [[a4 (cf (bB s w a false)) A B,B,a4 (cf (bB s w a false)) B D]]:=by
  rw[M];have z:=Z.2;rwa[JJ (f:=λc => -ln (cf (bB s w a false)) c) (by show -ln (cf (bB s w a false)) A<0;lia) (by show 0 < -ln (cf (bB s w a false)) B;lia) (by show -ln (cf (bB s w a false)) D<0;lia)]at z
 have Q:cU ((dZ (bB s w a false) (!spL s false) sh).map λs=>s.1) [[A,a4 (cf (bB s w a false)) A B,a4 (cf (bB s w a false)) B D,D]]:=by
  rw[M];have z:=Z.1;rwa[JK (f:=ln (cf (bB s w a false))) X jd Y]at z
 generalize a4 (cf (bB s w a false)) A B=aa at u O Q;generalize a4 (cf (bB s w a false)) B D=S at n O Q;have hi:=ta E m (by rw[e]<;>grind);have aK:=ta E u (by rw[e]<;>grind);have aN:=yx E n (by rw[e]<;>grind);have af:=s9 E i (by rw[e]<;>grind);have in1:cN (a4 (cD (bw s w a false)) D A) (0) (k*P):=(yy E i m (S1 af hi) (by rw[e];grind)).to rfl e;have ag:=qk Q aI aJ ah (λt o p q=>(N _ t o).ps p q) (qt m.1 u.1 n.1 i.1)
 have ai:cU ((f6 (bw s w a false) (!false) (dZ (bB s w a false) (!spL s false) sh)).map λs=>s.1) [[S,D,a4 (cD (bw s w a false)) D A]]:=by
  have z:=ag.1;rwa[yD (f:=ln (cD (bw s w a false))) hi aK aN af]at z
 have ak:cU ((f6 (bw s w a false) false (dZ (bB s w a false) (!spL s false) sh)).map λs=>s.1) [[A,aa,S,a4 (cD (bw s w a false)) D A]]:=by
  have z:=ag.2;rwa[yC (f:=λc => -ln (cD (bw s w a false)) c) (by show 0 < -ln (cD (bw s w a false)) A;lia) (by show 0 < -ln (cD (bw s w a false)) aa;lia) (by show -ln (cD (bw s w a false)) S=0;lia) (by show -ln (cD (bw s w a false)) D<0;lia)]at z
 generalize a4 (cD (bw s w a false)) D A=a0 at in1 ai ak;refine⟨?_,?_,?_⟩
 ·rw[show dd s false a=_ from by unfold dd;rw[Tl H]];exact nZ ax O (λt o p q=>(N _ t o).ps p q) (l6 u.1 r.1 n.1) (qs (((eB j u).to (by grind) (by grind)).eq I) (((eB j r).to (by grind) (by grind)).eq J) (((eB j n).to (by grind) (by grind)).eq F))
 ·rw[show dd s false (ce w a)=_ from by unfold dd;rw[Tl H]];exact Ds ay ai (λt o p q=>(U _ t o).ps p q) (l6 n.1 i.1 in1.1) (qs (((eB l n).to (by grind) (by grind)).eq G) (((eB l i).to (by grind) (by grind)).eq K) (((eB l in1).to (by grind) (by grind)).eq I))
 exact nZ az ak (λt o p q=>(U _ t o).ps p q) (qt m.1 u.1 n.1 in1.1) (yB (((eB g m).to (by grind) (by grind)).eq I) (((eB g u).to (by grind) (by grind)).eq G) (((eB g n).to (by grind) (by grind)).eq L) (((eB g in1).to (by grind) (by grind)).eq F))
theorem uM{s w a:Int×Int}(v:eM s w a)(H:¬0<s.1){sh:ZR}(X:∀x∈sh,jt x)(h:cU (sh.map λs=>s.1) [dd s true w]):cU ((jr s w a true sh).map λs=>s.1) [dd s true a]/\cU ((iL s w a true sh).map λs=>s.1) [dd s true (ce w a)]/\cU ((im s w a true sh).map λs=>s.1) [lU (ce w a) (bT s a)]:=by
 obtain⟨k,W,P,R,aN,aM,aO,aP,ao,aq,ar,y,E,i,j,r,d,e,l,m,g,I,J,F,G,K,L,M⟩:=y2 v true;have N:spL s true=true:=by unfold spL;rw[decide_eq_false H];rfl
 simp only[N,TL,if_true,if_false]at d e l m g;have O:=λb=>vC v true b X;have Y:=λb=>vD v true b (O (!spL s true));have au:=(v.stA true).pt;have aw:=(v.stB true).pt;have ax:=(v.stC true).pt;have Z:cN (0,0,1) 0 0:=yw;have ay:=Z;have az:dd s true w=[(0,(bT s w).1,(bT s w).2),(w.1,0,w.2),dr w (bT s w)]:=by unfold dd;rw[Tl H];rfl
 rw[az]at h;generalize aQ:((0,0,1):ab)=A at ay h;generalize aR:((w.1,0,w.2):ab)=B at i h;generalize aV:dr w (bT s w)=C at j h;generalize aW:((0,(bT s w).1,(bT s w).2):ab)=D at r h;obtain⟨aD,aE,aF⟩:=qm y;obtain⟨aG,aI,ah⟩:=qn E;have Q:=s7 y r (by rw[d];grind);have jd:=s8 y i (by rw[d];grind);have iX:=s8 y j (by rw[d];grind);have n:cN (a4 (cf (bB s w a true)) D B) (P) (k*R):=(qp y r i (S1 Q jd) (by rw[d];grind)).to d rfl;have u:cN (a4 (cf (bB s w a true)) C D) (P) (k*W):=(qp y j r (T5 iX Q) (by rw[d];grind)).to d rfl;have aa:=qk h aD aE aF (λt o p q=>(X t o).ps p q) (l6 r.1 i.1 j.1)
 have S:cU ((dZ (bB s w a true) (spL s true) sh).map λs=>s.1) [[D,a4 (cf (bB s w a true)) D B,a4 (cf (bB s w a true)) C D]]:=by
  rw[N];have z:=aa.1;rwa[JH (f:=ln (cf (bB s w a true))) Q jd iX]at z
 have T:cU ((dZ (bB s w a true) (!spL s true) sh).map λs=>s.1) [[a4 (cf (bB s w a true)) D B,B,C,a4 (cf (bB s w a true)) C D]]:=by
  rw[N];have z:=aa.2;rwa[JI (f:=λc => -ln (cf (bB s w a true)) c) (by show -ln (cf (bB s w a true)) D<0;lia) (by show 0 < -ln (cf (bB s w a true)) B;lia) (by show 0 < -ln (cf (bB s w a true)) C;lia)]at z
 generalize a4 (cf (bB s w a true)) D B=U at n S T;generalize a4 (cf (bB s w a true)) C D=hi at u S T;have aJ:=yx E n (by rw[e]<;>grind);have af:=ta E i (by rw[e]<;>grind);have ag:=s9 E j (by rw[e]<;>grind);have aK:=s9 E u (by rw[e]<;>grind);have in1:cN (a4 (cD (bw s w a true)) B C) (W) (k*R):=(yy E i j (T5 af ag) (by rw[e];grind)).to rfl e;have ai:=qk T aG aI ah (λt o p q=>(O _ t o).ps p q) (qt n.1 i.1 j.1 u.1)
 have ak:cU ((f6 (bw s w a true) (!true) (dZ (bB s w a true) (!spL s true) sh)).map λs=>s.1) [[U,B,a4 (cD (bw s w a true)) B C]]:=by
  have z:=ai.2;rwa[yp (f:=λc => -ln (cD (bw s w a true)) c) (by show -ln (cD (bw s w a true)) U=0;lia) (by show 0 < -ln (cD (bw s w a true)) B;lia) (by show -ln (cD (bw s w a true)) C<0;lia) (by show -ln (cD (bw s w a true)) hi<0;lia)]at z
 have hc:cU ((f6 (bw s w a true) true (dZ (bB s w a true) (!spL s true) sh)).map λs=>s.1) [[U,a4 (cD (bw s w a true)) B C,C,hi]]:=by
  have z:=ai.1;rwa[yh (f:=ln (cD (bw s w a true))) aJ af ag aK]at z
 generalize a4 (cD (bw s w a true)) B C=aZ at in1 ak hc;refine⟨?_,?_,?_⟩
 ·rw[show dd s true a=_ from by unfold dd;rw[Tl H]];exact nZ au S (λt o p q=>(O _ t o).ps p q) (l6 r.1 n.1 u.1) (qs (((eB l r).to (by grind) (by grind)).eq F) (((eB l n).to (by grind) (by grind)).eq I) (((eB l u).to (by grind) (by grind)).eq J))
 ·rw[show dd s true (ce w a)=_ from by unfold dd;rw[Tl H]];exact nZ aw ak (λt o p q=>(Y _ t o).ps p q) (l6 n.1 i.1 in1.1) (qs (((eB m n).to (by grind) (by grind)).eq L) (((eB m i).to (by grind) (by grind)).eq G) (((eB m in1).to (by grind) (by grind)).eq K))
 exact nZ ax hc (λt o p q=>(Y _ t o).ps p q) (qt n.1 in1.1 j.1 u.1) (yB (((eB g n).to (by grind) (by grind)).eq Z) (((eB g in1).to (by grind) (by grind)).eq G) (((eB g j).to (by grind) (by grind)).eq M) (((eB g u).to (by grind) (by grind)).eq F))
theorem uL{s w a:Int×Int}(c:eM s w a)(b:Bool){sh:ZR}(d:∀x∈sh,jt x)(h:cU (sh.map λs=>s.1) [dd s b w]):cU ((jr s w a b sh).map λs=>s.1) [dd s b a]/\cU ((iL s w a b sh).map λs=>s.1) [dd s b (ce w a)]/\cU ((im s w a b sh).map λs=>s.1) [lU (ce w a) (bT s a)]:=by
 by_cases e:0<s.1
 ·cases b with
  |false=>exact uX c e d h
  |true=>exact uV c e d h
 cases b with
 |false=>exact uU c e d h
 |true=>exact uM c e d h
abbrev dF:=F2×ZR
abbrev ZS:=List dF
abbrev jv:=F2×ZR×ZR
abbrev ZV:=List jv
def dC(c:dF):D:=.tup [dR c.1,.lst (c.2.map bH)]
def hJ(p:jv):D:=.tup [dR p.1,.lst (p.2.1.map bH),.lst (p.2.2.map bH)]
noncomputable def rU(w:F2):List ZM:=[[w.1,w.2]]
def jw(k:Z3)(d:D):D:=.tup [gB false k,d]
def fL:List Z3->Z4->ZP
 |k::b,c::a=>c.map (jw k)++fL b a
 |_,_=>[]
theorem K7{k:Z3}{d:D}:∀{b:List Z3}{a:Z4},a.length=b.length->k∈b->(fL b (mY b a k d)).Perm (jw k d::fL b a)
 |[],_,_,m=>by cases m
 |c::b,[],h,_=>by simp at h
 |c::b,f::a,h,m=>by
  rw[mY];by_cases e:c=k
  ·rw[SZ e,fL,fL,SF,e];simp only[SJ,TA,SX,Xk];exact Vv
  rw[Tl e,fL,fL];have m:k∈b:=(SH.mp m).resolve_left λz=>e z.symm;exact((K7 (by simpa using h) m).append_left _).trans Vv
theorem K8{k:Z3}{d:D}:∀{b:List Z3}{a:Z4},a.length=b.length->fL (b++[k]) (a++[[d]])=fL b a++[jw k d]
 |[],[],_=>rfl
 |[],_::_,h=>by simp at h
 |_::_,[],h=>by simp at h
 |c::b,e::a,h=>by
  rw[Tq,Tq,fL,fL,K8 (by simpa using h),SX]
theorem uK{b:List Z3}{a:Z4}{k:Z3}{d:D}(h:a.length=b.length):(fL (eX b k) (qu b a k d)).Perm (jw k d::fL b a):=by
 unfold eX qu;by_cases m:k∈b
 ·rw[SZ m,SZ m];exact K7 h m
 rw[Tl m,Tl m,K8 h];exact Xl _ _
theorem K9{k:Z3}{d:D}{c:ZP}:∀{b:List Z3}{a:Z4},bu b a k=some (c++[d])->(fL b a).Perm (jw k d::fL b (lx b a k c))/\(lx b a k c).length=a.length
 |[],_,h=>by simp[bu]at h
 |_::_,[],h=>by simp[bu]at h
 |f::b,g::a,h=>by
  rw[bu]at h;rw[lx];by_cases e:f=k
  ·rw[SZ e]at h⊢;have h:=SN h;subst h;refine⟨?_,rfl⟩;rw[fL,fL,SF,e];simp only[SJ,TA,SX,Xk];exact Vv
  rw[Tl e]at h⊢;obtain⟨p,l⟩:=K9 h;refine⟨?_,by rw[SK,SK,l]⟩;rw[fL,fL];exact(p.append_left _).trans Vv
theorem Ez{k:Z3}{g:ZP}:∀{f:List Z3}{c:Z4},bu f c k=some g->(∀d∈g,jw k d∈fL f c)/\g.length<=(fL f c).length
 |[],_,h=>by simp[bu]at h
 |_::_,[],h=>by simp[bu]at h
 |j::f,l::c,h=>by
  rw[bu]at h;rw[fL,Sz,Sv];by_cases e:j=k
  ·rw[SZ e]at h;have h:=SN h;subst h;subst e;exact⟨λd i=>Tx _ (SI.mpr ⟨d,i,rfl⟩),by lia⟩
  rw[Tl e]at h;obtain⟨a,b⟩:=Ez h;exact⟨λd i=>S2 _ (a d i),by lia⟩
theorem K'{w:F2}{d:D}{c:dF}(h:dC c=jw (rU w) d):c.1=w/\d=.lst (c.2.map bH):=by
 unfold dC jw at h;have e:gB false (rU w)=dR w:=rfl;rw[e]at h;injection h with h
 injection h with f g
 injection g with g _
 refine⟨?_,g.symm⟩;unfold dR at f;injection f with f
 injection f with a b
 injection b with b _
 injection a with a
 injection b with b
 exact TC a b
theorem uJ{k:Z3}{d:D}{c:dF}(h:dC c=jw k d):d=.lst (c.2.map bH):=by
 unfold dC jw at h;injection h with h
 injection h with b a
 injection a with a _
 exact a.symm
theorem vI:∀{ks:List Z3}{hQ:Z4},oZ false ks (hQ.map D.lst)=(ks.zip hQ).map (λx=>D.tup [gB false x.1,.lst x.2])/\fL ks hQ=(ks.zip hQ).flatMap λx=>x.2.map (jw x.1)
 |[],hQ=>by cases hQ<;>exact⟨rfl,rfl⟩
 |_::_,[]=>⟨rfl,rfl⟩
 |k::ks,c::hQ=>by
  obtain⟨a,b⟩:=vI (ks:=ks) (hQ:=hQ);refine⟨?_,?_⟩
  ·rw[SJ,oZ,a];rfl
  rw[fL,b];rfl
theorem La{a b:Type}{f:a->b}:∀{l:List b},(∀x∈l,∃c,x=f c)->∃cs:List a,l=cs.map f
 |[],_=>⟨[],rfl⟩
 |x::l,h=>by
  obtain⟨c,rfl⟩:=h x Sw;obtain⟨cs,rfl⟩:=La λy d=>h y (Sx _ d);exact⟨c::cs,rfl⟩
theorem uG{s o:a8}(h:bH s=bH o):s=o:=by
 unfold bH at h;injection h with h
 injection h with a h
 injection h with b h
 injection h with c _
 injection a with a
 injection b with b
 exact TC ((Wk λ_ _ h=>xl h).mp a) (TC b (xl c))
theorem uB{c e:dF}(h:dC c=dC e):c=e:=by
 obtain⟨a,b⟩:=K' (w:=e.1) (d:=.lst (e.2.map bH)) h;injection b with b
 exact TC a ((Wk λ_ _ h=>uG h).mp b).symm
def jX(N:Nat)(x:a8):Prop:=∃b m n t,ha b m n t x/\400<=m/\m+401<=b/\b<=1990/\n<=N/\t<=2000
theorem jX.gz{N:Nat}{x:a8}(h:jX N x):jt x:=by
 obtain⟨b,m,n,t,h,_⟩:=h;exact⟨b,m,n,t,h⟩
theorem jX.bp{N:Nat}{x:a8}(h:jX N x):∀c∈x.1,cw 1990 c/\aX c:=λc a=>by
 obtain⟨b,m,n,t,h,_,_,d,_⟩:=h;exact⟨(h.rb.iF c a).bp.mono d,(h.rb.iF c a).pt⟩
theorem jX.ln{N:Nat}{x:a8}(h:jX N x):x.1.length<=N:=by
 obtain⟨b,m,n,t,h,_,_,_,a,_⟩:=h;exact Sy h.ln a
theorem jX.gm{N:Nat}{x:a8}(h:jX N x)(a:N<=75):DT x:=by
 obtain⟨b,m,n,t,h,_,_,c,d,e⟩:=h;exact h.gm (by lia) (by lia) (by lia)
theorem y3{c N:Nat}{l o:ab}{sh:ZR}(h:∀s∈sh,jX N s)(bl:cw c l)(x:c<=400)(f:l.1≠0\/l.2.1≠0)(g:L3.ln l o=0)(a:ab)(e:a=l\/a=jR l):∀s∈dE (L3.ln a) (a4 l) sh,jX (N+1) s:=λs d=>by
 obtain⟨t,i,j⟩:=K3 d;obtain⟨b,m,n,u,k,p,r,v,y,w⟩:=h t i;have q:=tk (sh:=[t]) (λs d=>by rw[SQ.mp d];exact k) bl (by lia) f g (by lia) a e;exact⟨b,m,n+1,u,q s j,p,r,v,by lia,w⟩
section
variable{s w a:Int×Int}
theorem eM.up(h:eM s w a)(b:Bool):cw 355 (cf (bB s w a b)):=by
 obtain⟨c,_,d,e⟩:=h.x b;exact DU c d e
theorem eM.lv(h:eM s w a)(b:Bool):cw 397 (cD (bw s w a b)):=by
 obtain⟨c,_,d,e⟩:=h.h b;exact DV c d e
theorem uA(h:eM s w a)(c b:Bool){N:Nat}{sh:ZR}(d:∀x∈sh,jX N x):∀x∈dZ (bB s w a c) b sh,jX (N+1) x:=by
 obtain⟨e,g,f⟩:=qm (h.x c).1;unfold dZ;cases b with
 |true=>exact y3 d (h.up c) (by decide) e f _ (.inl rfl)
 |false=>
  have:=y3 d (h.up c) (by decide) e f (jR (cf (bB s w a c))) (.inr rfl);rwa[sR]at this
theorem uz(h:eM s w a)(c b:Bool){N:Nat}{sh:ZR}(d:∀x∈sh,jX N x):∀x∈f6 (bw s w a c) b sh,jX (N+1) x:=by
 obtain⟨e,g,f⟩:=qn (h.h c).1;unfold f6;cases b with
 |true=>exact y3 d (h.lv c) (by decide) e f _ (.inl rfl)
 |false=>
  have:=y3 d (h.lv c) (by decide) e f (jR (cD (bw s w a c))) (.inr rfl);rwa[sR]at this
end
structure l'(s:F2)(Wd:F2->Prop)(L:Nat->a8->Prop)(fM:Nat):Prop where
 ls:ba s.1 s.2
 s0:s.1≠0
 c1:SB s.1<=21
 c2:SB s.2<=21
 lw:∀v,Wd v->ba v.1 v.2/\0<v.1/\SB v.1<=175/\SB v.2<=175
 sub:∀v u,Wd v->Wd u->u.1*v.2<v.1*u.2->Wd (ce v u)
 fit:∀k x,k<=fM->L k x->jX 60 x
 cut:∀k hi v u sh,k<fM->eM s v u->Wd v->Wd u->Wd (ce v u)->(∀x∈sh,L k x)->∀x∈jr s v u hi sh++iL s v u hi sh++im s v u hi sh,L (k+1) x
 mono:∀k x,L k x->L (k+1) x
section
variable{s:F2}{Wd:F2->Prop}{L:Nat->a8->Prop}{a:Nat}
theorem l'.sp(h:l' s Wd L a){v u:F2}(b:Wd v)(c:Wd u)(lt:u.1*v.2<v.1*u.2):eM s v u:=by
 obtain⟨d,e,f,g⟩:=h.lw v b;obtain⟨i,j,k,l⟩:=h.lw u c;obtain⟨_,_,m,n⟩:=h.lw _ (h.sub v u b c lt);exact⟨h.ls,d,i,h.s0,e,j,lt,h.c1,h.c2,f,g,k,l,m,n⟩
theorem l'.up(h:l' s Wd L a){k j:Nat}{x:a8}(b:L k x)(le:k<=j):L j x:=by
 obtain⟨d,rfl⟩:=Nat.le.dest le;clear le;induction d with
 |zero=>exact b
 |succ d c=>exact h.mono _ _ c
structure gN(s:F2)(Wd:F2->Prop)(L:Nat->a8->Prop)(hi:Bool)(k:Nat)(c:dF):Prop where
 w:Wd c.1
 px:∀x∈c.2,L k x
 ln:c.2.length<=3
 iz:cU (c.2.map λx=>x.1) [dd s hi c.1]
structure tw(L:Nat->a8->Prop)(k n:Nat)(b:i5):Prop where
 lw:ba b.1.1 b.1.2
 w0:0<b.1.1
 lh:ba b.2.1.1 b.2.1.2
 h0:0<b.2.1.1
 b1:SB b.1.1<=175
 b2:SB b.1.2<=175
 b3:SB b.2.1.1<=196
 b4:SB b.2.1.2<=196
 px:∀x∈b.2.2,L k x
 ln:b.2.2.length<=n
 iz:cU (b.2.2.map λx=>x.1) [lU b.1 b.2.1]
theorem gN.up{d:Bool}(h:l' s Wd L a){k j:Nat}{c:dF}(b:gN s Wd L d k c)(le:k<=j):gN s Wd L d j c:=⟨b.w,λx e=>h.up (b.px x e) le,b.ln,b.iz⟩
theorem tw.up(h:l' s Wd L a){k j n:Nat}{b:i5}(c:tw L k n b)(le:k<=j):tw L j n b:=⟨c.lw,c.w0,c.lh,c.h0,c.b1,c.b2,c.b3,c.b4,λx d=>h.up (c.px x d) le,c.ln,c.iz⟩
theorem gN.split(h:l' s Wd L a){c:Bool}{k:Nat}{v u:F2}{sh:ZR}(m:k<a)(d:gN s Wd L c k (v,sh))(f:Wd u)(lt:u.1*v.2<v.1*u.2):
  gN s Wd L c (k+1) (u,jr s v u c sh)/\gN s Wd L c (k+1) (ce v u,iL s v u c sh)/\tw L (k+1) 3 (ce v u,bT s u,im s v u c sh):=by
 have z:=h.sp d.w f lt;have g:=h.sub v u d.w f lt;have px:=h.cut k c v u sh m z d.w f g d.px;obtain⟨n,o,p⟩:=uL z c (λx e=>(h.fit k x (by lia) (d.px x e)).gz) d.iz;have q:sh.length<=3:=d.ln;have j:∀b,(dZ (bB s v u c) b sh).length<=3:=λb=>Sy (JB _ _ _) q;have l:∀b,(f6 (bw s v u c) b (dZ (bB s v u c) (!spL s c) sh)).length<=3:=λb=>Sy (JC _ _ _) (j _);obtain⟨r,t,y,A⟩:=h.lw _ g;obtain⟨B,C,E,i⟩:=h.lw _ f;obtain⟨F,G,g3,H⟩:=tv h.ls h.s0 h.c1 h.c2 B C E i;refine⟨⟨f,λx e=>px x (Tx _ (Tx _ e)),?_,n⟩,⟨g,λx e=>px x (Tx _ (S2 _ e)),?_,o⟩,⟨r,t,F,G,y,A,g3,H,λx e=>px x (S2 _ e),?_,p⟩⟩
 ·show(jr s v u c sh).length<=3
  unfold jr;rw[Sv];exact j _
 ·show(iL s v u c sh).length<=3
  unfold iL;rw[Sv];exact l _
 show(im s v u c sh).length<=3
 unfold im;rw[Sv];exact l _
end
theorem Lb{c:Type}{f:c->Rat}{a b:List c}(h:a.Perm b):(a.map f).sum=(b.map f).sum:=by
 induction h with
 |nil=>rfl
 |cons x _ d=>rw[SJ,SJ,S',S',d]
 |swap x y l=>rw[SJ,SJ,SJ,SJ,S',S',S',S'];grind
 |trans _ _ i j=>rw[i,j]
def dN(cs:ZS):Rat:=(cs.map λc=>bv c.1).sum
theorem tx(a b:ZS):dN (a++b)=dN a+dN b:=by unfold dN;rw[SF,U7]
theorem EA(c:dF):dN [c]=bv c.1:=by unfold dN;rw[SJ,S',TA,Vw,Rat.add_zero]
theorem uw{a b:ZS}(h:a.Perm b):dN a=dN b:=Lb h
theorem uv(d:Z3->Int)(c:Bool){a b:List ZR}(h:a.Perm b):gX d c a=gX d c b:=Lb h
theorem ur{a b:F2}(c:ba a.1 a.2)(d:ba b.1 b.2)(h:a.1*b.2=b.1*a.2):a=b:=by
 refine vt c d ?_;have e:(a.1:Rat)*b.2=b.1*a.2:=by exact_mod_cast h
 have f:=eW c.1;have g:=eW d.1;unfold bv;grind
noncomputable def kZ(cs:ZS):List ZR:=cs.map λc=>c.2
noncomputable def tz(a:ZU):List ZR:=a.map λb=>b.2.2
noncomputable def p1(a:ZV):List dF:=a.map λp=>(p.1,p.2.1)
noncomputable def p2(a:ZV):List dF:=a.map λp=>(p.1,p.2.2)
structure gO(s:F2)(Wd:F2->Prop)(L:Nat->a8->Prop)(hi:Bool)(k:Nat)(os dO ps:ZS)(cr:ZU):Prop where
 o:∀c∈dO,gN s Wd L hi k c
 p:∀c∈ps,gN s Wd L hi k c
 b:∀b∈cr,tw L k 3 b
 f:∀φ c,gX φ c (kZ dO)+gX φ c (kZ ps)+gX φ c (tz cr)=gX φ c (kZ os)
 w:dN dO+dN ps=dN os
section
variable{s:F2}{Wd:F2->Prop}{L:Nat->a8->Prop}{i:Nat}{a:Bool}{k:Nat}{os e d:ZS}{g:ZU}
theorem gO.up(h:l' s Wd L i){j:Nat}(m:gO s Wd L a k os e d g)(le:k<=j):gO s Wd L a j os e d g:=⟨λc l=>(m.o c l).up h le,λc l=>(m.p c l).up h le,λb n=>(m.b b n).up h le,m.f,m.w⟩
theorem gO.start(g:∀c∈os,gN s Wd L a k c)(p:(d++e).Perm os):gO s Wd L a k os e d []:=by
 refine⟨λc f=>g c (p.mem_iff.mp (S2 _ f)),λc f=>g c (p.mem_iff.mp (Tx _ f)),(λb i=>by cases i),λh c=>?_,?_⟩
 ·unfold kZ tz;rw[<-uv h c (p.map λc=>c.2),SF,qv,TA,show gX h c []=0 from rfl];grind
 rw[<-uw p,tx];grind
theorem gO.whole{c:dF}(m:gO s Wd L a k os (e++[c]) d g):gO s Wd L a k os e (d++[c]) g:=by
 have i:=m.o c (by simp);refine⟨λx h=>m.o x (Tx _ h),λx h=>?_,m.b,λj b=>?_,?_⟩
 ·rcases SO.mp h with z|z
  ·exact m.p x z
  rw[SQ.mp z];exact i
 ·have:=m.f j b;unfold kZ at this⊢;rw[SF,qv]at this⊢;grind
 have:=m.w;rw[tx]at this⊢;grind
theorem gO.split(h:l' s Wd L i){v u:F2}{sh:ZR}(m:gO s Wd L a k os (e++[(v,sh)]) d g)(t:k<i)(q:Wd u)(lt:u.1*v.2<v.1*u.2):gO s Wd L a (k+1) os (e++[(ce v u,iL s v u a sh)]) (d++[(u,jr s v u a sh)]) (g++[(ce v u,bT s u,im s v u a sh)]):=by
 have l:=m.o (v,sh) (by simp);obtain⟨A,B,C⟩:=l.split h t q lt;have z:=h.sp l.w q lt;have n:=m.up h (Ui k);refine⟨λx c=>?_,λx c=>?_,λb E=>?_,λj b=>?_,?_⟩
 ·rcases SO.mp c with y|y
  ·exact n.o x (Tx _ y)
  rw[SQ.mp y];exact B
 ·rcases SO.mp c with y|y
  ·exact n.p x y
  rw[SQ.mp y];exact A
 ·rcases SO.mp E with y|y
  ·exact n.b b y
  rw[SQ.mp y];exact C
 ·have f:=m.f j b;have F:eL j b (jr s v u a sh++iL s v u a sh++im s v u a sh)=eL j b sh:=u5 z a (λx c=>(h.fit k x (by lia) (l.px x c)).gz) b j;rw[ql,ql]at F;unfold kZ tz at f⊢;rw[SF,SF,SF,qv,qv,qv];rw[SF,qv]at f;simp only[SJ,TA,vr]at f⊢;grind
 have w:=m.w;have r:=z.rR;rw[tx,EA]at w;rw[tx,EA,tx,EA];show dN e+bv (ce v u)+(dN d+bv u)=_
 rw[r];have w:dN e+bv v+dN d=dN os:=w;grind
end
structure hu(s:a8):Prop where
 ln:s.1.length<=34
 cv:fm s.1
 ps:∀p∈s.1,cX 2600 p
 st:cX 1200 s.2.2
theorem hu.side{s:a8}(h:hu s):∀e∈du s.1,(a_ e.1 e.2).1≠0\/(a_ e.1 e.2).2.1≠0:=λe a=>by
 obtain⟨b,c⟩:=lX a;exact mV (h.ps _ b).pt (h.ps _ c).pt (h.cv.side a)
theorem hu.rg{s:a8}(h:hu s):nU s.1:=⟨cb h.ln,h.side,λp a=>(h.ps p a).bp.mono (by decide)⟩
theorem hu.first{s:a8}(h:hu s):nU (f3 s)/\∀p∈f3 s,aX p:=by
 have st:=h.st;have c:∀p∈s.1,cX 3801 (nP (ej (eI s.2.2) p)):=λp a=>(st.trn.sl (h.ps p a)).mono (by decide);have f:∀p∈s.1,aX p:=λp a=>(h.ps p a).pt;have e:=(Di (v:=eI s.2.2) st.pt.1).rg f h.side;unfold f3;split
 ·have g:∀p∈s.1.map (λp=>nP (ej (eI s.2.2) p)),aX p:=λp a=>by
   obtain⟨q,d,rfl⟩:=SI.mp a;exact(c q d).pt
  refine⟨⟨by rw[Sv,Sv];exact cb h.ln,rB.rg g e,λp a=>?_⟩,λp a=>?_⟩
  ·obtain⟨q,d,rfl⟩:=SI.mp a;obtain⟨r,b,rfl⟩:=SI.mp d;exact(c r b).trn.bp.mono (by decide)
  obtain⟨q,d,rfl⟩:=SI.mp a;obtain⟨r,b,rfl⟩:=SI.mp d;exact(c r b).trn.pt
 refine⟨⟨by rw[Sv];exact cb h.ln,e,λp a=>?_⟩,λp a=>?_⟩
 ·obtain⟨r,b,rfl⟩:=SI.mp a;exact(c r b).bp.mono (by decide)
 obtain⟨r,b,rfl⟩:=SI.mp a;exact(c r b).pt
theorem ha.jC{b m n t:Nat}{s:a8}(h:ha b m n t s)(a:b<=2600)(c:n<=34)(d:t<=1200):hu s:=⟨Sy h.ln c,h.cv,λp e=>(h.rb.iF p e).mono a,h.st.mono d⟩
section
variable{s v u:F2}
theorem uq(z:eM s v u)(a c:Bool){q b m n t:Nat}{sh:ZR}(j:SB (bB s v u a).1<=q)(k:SB (bB s v u a).2<=q)(h:∀x∈sh,ha b m n t x)(d:2*q+5<=m)(e:2*q+5+m+1<=b):∀x∈dZ (bB s v u a) c sh,ha b m (n+1) t x:=by
 obtain⟨f,l,g⟩:=qm (z.x a).1;have i:=DU (z.x a).1 j k;unfold dZ;cases c with
 |true=>exact tk h i d f g e _ (.inl rfl)
 |false=>
  have:=tk h i d f g e (jR (cf (bB s v u a))) (.inr rfl);rwa[sR]at this
theorem uf(z:eM s v u)(a c:Bool){q b m n t:Nat}{sh:ZR}(j:SB (bw s v u a).1<=q)(k:SB (bw s v u a).2<=q)(h:∀x∈sh,ha b m n t x)(d:2*q+5<=m)(e:2*q+5+m+1<=b):∀x∈f6 (bw s v u a) c sh,ha b m (n+1) t x:=by
 obtain⟨f,l,g⟩:=qn (z.h a).1;have i:=DV (z.h a).1 j k;unfold f6;cases c with
 |true=>exact tk h i d f g e _ (.inl rfl)
 |false=>
  have:=tk h i d f g e (jR (cD (bw s v u a))) (.inr rfl);rwa[sR]at this
theorem EB{x y:F2}{q r:Nat}(a:ba x.1 x.2)(b:ba y.1 y.2)(c:SB x.1<=q)(d:SB x.2<=q)(e:SB y.1<=r)(f:SB y.2<=r):cX (q+r) (dr x y):=⟨gI (p:=(x.1*y.2,y.1*x.2,x.2*y.2)) (nA a.1 b.1),l2 c d e f a b⟩
theorem t_(z:eM s v u)(a:Bool){q r:Nat}(k:1<=q)(m:1<=r)(w:SB (ce v u).1<=q)(A:SB (ce v u).2<=q)(B:SB u.1<=q)(C:SB u.2<=q)(o:SB (bw s v u a).1<=r)(p:SB (bw s v u a).2<=r):cX (q+r) (iQ s v u a)/\cX (q+r) (jB s v u a)/\cX (q+r) (j2 s v u a):=by
 have e:∀{x y:Int},ba x y->ba (-x) y:=λl=>⟨l.1,by rw[Um];exact l.2⟩;have f:ba 0 1:=⟨by decide,by decide⟩;have g:∀{n:Nat},1<=n->SB 0<=n/\SB 1<=n:=λh=>⟨Sy (show SB 0<=1 by decide) h,Sy (show SB 1<=1 by decide) h⟩;have E:=z.r.1;have t:=(z.h a).1
 have i:∀c:Bool,ba (if c=true then(0,1)else(-(ce v u).1,(ce v u).2):F2).1 (if c=true then(0,1)else(-(ce v u).1,(ce v u).2):F2).2/\SB (if c=true then(0,1)else(-(ce v u).1,(ce v u).2):F2).1<=q/\SB (if c=true then(0,1)else(-(ce v u).1,(ce v u).2):F2).2<=q:=λc=>by
  cases c with
  |true=>exact⟨f,g k⟩
  |false=>exact⟨e E,TT w,A⟩
 have b:∀c:Bool,ba (if c=true then(-u.1,u.2)else(0,1):F2).1 (if c=true then(-u.1,u.2)else(0,1):F2).2/\SB (if c=true then(-u.1,u.2)else(0,1):F2).1<=q/\SB (if c=true then(-u.1,u.2)else(0,1):F2).2<=q:=λc=>by
  cases c with
  |true=>exact⟨e z.lp,TT B,C⟩
  |false=>exact⟨f,g k⟩
 have d:∀c:Bool,ba (if c=true then(-(bw s v u a).1,(bw s v u a).2)else(0,1):F2).1 (if c=true then(-(bw s v u a).1,(bw s v u a).2)else(0,1):F2).2/\SB (if c=true then(-(bw s v u a).1,(bw s v u a).2)else(0,1):F2).1<=r/\SB (if c=true then(-(bw s v u a).1,(bw s v u a).2)else(0,1):F2).2<=r:=λc=>by
  cases c with
  |true=>exact⟨e t,TT o,p⟩
  |false=>exact⟨f,g m⟩
 have j:∀c:Bool,ba (if c=true then(0,1)else(-(bw s v u a).1,(bw s v u a).2):F2).1 (if c=true then(0,1)else(-(bw s v u a).1,(bw s v u a).2):F2).2/\SB (if c=true then(0,1)else(-(bw s v u a).1,(bw s v u a).2):F2).1<=r/\SB (if c=true then(0,1)else(-(bw s v u a).1,(bw s v u a).2):F2).2<=r:=λc=>by
  cases c with
  |true=>exact⟨f,g m⟩
  |false=>exact⟨e t,TT o,p⟩
 exact⟨EB (i (spL s a)).1 (d a).1 (i _).2.1 (i _).2.2 (d _).2.1 (d _).2.2,EB (b (spL s a)).1 (j a).1 (b _).2.1 (b _).2.2 (j _).2.1 (j _).2.2,EB (b (spL s a)).1 (d a).1 (b _).2.1 (b _).2.2 (d _).2.1 (d _).2.2⟩
theorem t6(z:eM s v u)(a:Bool){q r b m n t:Nat}{sh:ZR}(A:1<=q)(B:q<=r)(f:SB (ce v u).1<=q)(g:SB (ce v u).2<=q)(i:SB u.1<=q)(j:SB u.2<=q)(k:SB (bw s v u a).1<=r)(l:SB (bw s v u a).2<=r)(h:∀x∈sh,ha b m n t x)(C:2*r+5<=m)(E:2*r+5+m+1<=b):
  ∀x∈jr s v u a sh++iL s v u a sh++im s v u a sh,ha (b+(q+r)+1) (m+(q+r)+2) (n+2) (t+(q+r)+1) x:=by
 have o:SB (bB s v u a).1<=q/\SB (bB s v u a).2<=q:=by
  unfold bB;split
  ·exact⟨i,j⟩
  exact⟨f,g⟩
 obtain⟨F,G,g3⟩:=t_ z a A (by lia) f g i j k l;have p:=λc=>uq z a c o.1 o.2 h (by lia) (by lia);have w:=λc=>uf z a c k l (p (!spL s a)) C E;intro x d;rcases SO.mp d with d|d
 ·rcases SO.mp d with d|d
  ·obtain⟨y,e,rfl⟩:=SI.mp d;exact((p _ y e).k9 F).mono (by lia) (by lia) (by lia) (by lia)
  obtain⟨y,e,rfl⟩:=SI.mp d;exact((w _ y e).k9 G).mono (by lia) (by lia) (by lia) (by lia)
 obtain⟨y,e,rfl⟩:=SI.mp d;exact((w _ y e).k9 g3).mono (by lia) (by lia) (by lia) (by lia)
end
def fg(w:F2)(N:Nat)(v:F2):Prop:=ba v.1 v.2/\∃j:Nat,0<j/\j<=N/\bv v*(N:Rat)=bv w*(j:Rat)
theorem fg.self{w:F2}(l:ba w.1 w.2):fg w 1 w:=⟨l,1,by decide,SD _,rfl⟩
theorem fg.up{w v:F2}{N:Nat}(h:fg w N v)(m:Nat)(a:0<m):fg w (N*m) v:=by
 obtain⟨l,j,b,c,e⟩:=h;refine⟨l,j*m,Nat.mul_pos b a,Nat.mul_le_mul_right _ c,?_⟩;push_cast;grind
theorem fg.pos{w v:F2}{N:Nat}(c:ba w.1 w.2)(d:0<w.1)(h:fg w N v):0<v.1:=by
 obtain⟨l,j,b,f,e⟩:=h;have p:=oY d c.1;have a:(0:Rat)<(j:Rat):=by exact_mod_cast b
 have g:(0:Rat)<(N:Rat):=by exact_mod_cast Ta b f
 have q:0<bv v*(N:Rat):=by rw[e];exact US p a
 have i:0<bv v:=by
  apply UU;intro z;have z:bv v<=0:=Wl.mp z;have:=Xm z (Wm g);rw[Rat.zero_mul]at this;exact absurd q (Wl.mpr this)
 have k:(0:Rat)<(v.2:Rat):=by exact_mod_cast l.1
 have m:(v.1:Rat)=bv v*v.2:=by unfold bv;have:=eW l.1;grind
 have:(0:Rat)<(v.1:Rat):=by rw[m];exact US i k
 exact_mod_cast this
theorem t5{u v:F2}(d:ba u.1 u.2)(f:ba v.1 v.2)(lt:u.1*v.2<v.1*u.2):bv u<bv v:=by
 have a:(0:Rat)<(u.2:Rat):=by exact_mod_cast d.1
 have b:(0:Rat)<(v.2:Rat):=by exact_mod_cast f.1
 have c:(u.1:Rat)*v.2<v.1*u.2:=by exact_mod_cast lt
 unfold bv;rw[Rat.div_lt_iff a];have e:(v.1:Rat)/v.2*u.2=v.1*u.2/v.2:=by grind
 rw[e,Rat.lt_div_iff b];exact c
theorem fg.sub{w v u:F2}{N:Nat}(k:ba w.1 w.2)(l:0<w.1)(m:fg w N v)(n:fg w N u)(lt:u.1*v.2<v.1*u.2):fg w N (ce v u):=by
 obtain⟨d,j,o,s,x⟩:=m;obtain⟨e,i,C,E,y⟩:=n;have f:0<v.2*u.2:=SE d.1 e.1
 have r:bv (ce v u)=bv v-bv u:=by
  unfold ce;rw[yA f];have a:=eW d.1;have b:=eW e.1;unfold bv;push_cast;grind
 have p:=oY l k.1;have A:(0:Rat)<(N:Rat):=by exact_mod_cast Ta o s
 have B:i<j:=by
  have q:=t5 e d lt;have g:bv u*(N:Rat)<bv v*(N:Rat):=Rat.mul_lt_mul_of_pos_right q A;rw[x,y]at g;apply UU;intro z;have z:(j:Rat)<=(i:Rat):=by exact_mod_cast Nat.not_lt.mp z
  have:=Rat.mul_le_mul_of_nonneg_left z (Wm p);exact absurd g (Wl.mpr this)
 refine⟨(jL (t:=v.1*u.2-u.1*v.2) (b:=v.2*u.2) (SA f)).1,j-i,by lia,by lia,?_⟩
 have c:((j-i:Nat):Rat)=(j:Rat)-(i:Rat):=by
  have h:((j-i:Nat):Rat)+(i:Rat)=(j:Rat):=by exact_mod_cast Xn (UE B)
  grind
 rw[r,c];grind
theorem t2{w h:F2}(b:iG w h)(c:SB w.1<=270)(d:SB w.2<=270)(e:SB h.1<=270)(f:SB h.2<=270):nU (lU w h):=JA b.mA (λp a=>by
 have z:SB 0<=4000:=by decide
 have m:∀{z:Int},SB z<=270->SB z<=4000:=λh=>cb h;unfold lU at a;simp only[SH,TR,or_false]at a;rcases a with rfl|rfl|rfl|rfl
 ·exact⟨⟨by decide,by decide⟩,⟨by decide,by decide,by decide⟩⟩
 ·exact⟨(yu b.lw).1,⟨m c,z,m d⟩⟩
 ·exact(vu b.lw b.lh c d e f).mono (by decide)
 exact⟨(yv b.lh).1,⟨z,m e,m f⟩⟩) (by show 4<=75;decide)
def rV(w:F2)(N:Nat)(v:F2):Prop:=ba v.1 v.2/\∃j:Nat,j<=N/\bv v*(N:Rat)=bv w*(j:Rat)
theorem fg.wz{w v:F2}{N:Nat}(h:fg w N v):rV w N v:=by
 obtain⟨l,j,_,a,e⟩:=h;exact⟨l,j,a,e⟩
theorem Lc{v:F2}(l:ba v.1 v.2)(h:bv v=0):v.1=0:=by
 have a:=eW l.1;have:(v.1:Rat)=0:=by unfold bv at h;grind
 exact_mod_cast this
theorem Ld{v u:F2}(c:ba v.1 v.2)(d:ba u.1 u.2):ba (ce v u).1 (ce v u).2/\bv (ce v u)=bv v-bv u:=by
 have e:0<v.2*u.2:=SE c.1 d.1;refine⟨(jL (t:=v.1*u.2-u.1*v.2) (b:=v.2*u.2) (SA e)).1,?_⟩;unfold ce;rw[yA e];have a:=eW c.1;have b:=eW d.1;unfold bv;push_cast;grind
theorem rV.sub{w v u:F2}{N:Nat}(b:ba w.1 w.2)(d:0<w.1)(e:rV w N v)(f:fg w N u)(le:bv u<=bv v):rV w N (ce v u):=by
 obtain⟨g,j,x,k⟩:=e;obtain⟨m,i,n,o,q⟩:=f;obtain⟨l,r⟩:=Ld g m;have p:=oY d b.1;have s:(0:Rat)<(N:Rat):=by exact_mod_cast Ta n o
 have t:i<=j:=by
  have a:bv u*(N:Rat)<=bv v*(N:Rat):=Xm le (Wm s);rw[k,q]at a;apply UU;intro z;have z:(j:Rat)<(i:Rat):=by exact_mod_cast Nat.not_le.mp z
  have:=Rat.mul_lt_mul_of_pos_left z p;exact absurd a (Rat.not_le.mpr this)
 refine⟨l,j-i,by lia,?_⟩
 have c:((j-i:Nat):Rat)=(j:Rat)-(i:Rat):=by
  have h:((j-i:Nat):Rat)+(i:Rat)=(j:Rat):=by exact_mod_cast Xn t
  grind
 rw[r,c];grind
theorem Le{cs:ZS}(h:∀c∈cs,0<bv c.1):0<=dN cs/\(cs≠[]->0<dN cs):=by
 induction cs with
 |nil=>exact⟨Rat.le_refl,λz=>absurd rfl z⟩
 |cons c r a=>
  have i:=(a λx b=>h x (Sx _ b)).1;have p:=h c Sw;have e:dN (c::r)=bv c.1+dN r:=by unfold dN;rw[SJ,S']
  rw[e];constructor
  ·grind
  intro _;grind
theorem ED(a:Z3->Int)(b:Bool):∀L:List ZR,eL a b L.flatten=gX a b L
 |[]=>rfl
 |S::L=>by rw[List.flatten_cons,ql,yL,ED a b L]
theorem m5{s t:cA}{U:hE}{b:ZN}(i:Nat)(v:aA)(first:∀N:ZN->Prop,(∀c,c=b.set i v->N c)->s {U with nx:=N} b)(a:t U (b.set i v)):oA s t U b:=first _ λ_ e=>by rw[e];exact a
theorem y4{s t:cA}{U:hE}{b:ZN}(i j:Nat)(v w:aA)(first:∀N:ZN->Prop,(∀c,c=(b.set i v).set j w->N c)->s {U with nx:=N} b)(a:t U ((b.set i v).set j w)):oA s t U b:=first _ λ_ e=>by rw[e];exact a
theorem EE{s t:cA}{U:hE}{c:ZN}(I:ZN->Prop)(first:∀N:ZN->Prop,(∀a,I a->N a)->s {U with nx:=N} c)(b:∀a,I a->t U a):oA s t U c:=first _ b
section
variable{K:Su}{R:al}{W:TD->Prop}{B g H l:al}{c:St}{f:ZN}
def Lf(K:Su)(t:bI)(u:cK):Prop:=∀(f:ZN)(k:ZP->Prop),u f k->∀(R:al)(W:TD->Prop)(B H:al)(c:St)(Q:cn),aL K R W B H c f->
 (∀b a d g l,k b->aL K R W g l c f->bx R B g->R a=none->g a=none->l a=some (.lst d)->b_ K (dI R g) d b->(∀i,¬cc c f i a)->Q (.ref a) l)->t c H Q
def Lg(X:aU)(e:Wp)(u:cK):Prop:=∃t,bP X e t/\Lf X.K t u
def tZ(K:Su)(t:bI)(u:jW):Prop:=∀(f:ZN)(k:D->ZN->Prop),u f k->∀(R:al)(W:TD->Prop)(B H:al)(c:St)(Q:cn),aL K R W B H c f->
 (∀d v a g l,k d a->aL K R W g l c a->bx R B g->bG K (dI R g) v d->Q v l)->t c H Q
def vK(X:aU)(e:Wp)(u:jW):Prop:=∃t,bP X e t/\tZ X.K t u
def ve(K:Su)(t:eZ)(u:m0):Prop:=∀(f:ZN)(k:ZP->ZN->Prop),u f k->∀(R:al)(W:TD->Prop)(B H:al)(c:St)(Q:ZQ->al->Prop),aL K R W B H c f->
 (∀a b d g l,k a d->aL K R W g l c d->bx R B g->b_ K (dI R g) b a->Q b l)->t c H Q
def y5(X:aU)(a:Z0)(u:m0):Prop:=∃t,hf X a t/\ve X.K t u
theorem aL.jG(e:aL K R W B H c f){i:Nat}{a:TD}{d:ZP}(h:f[i]?=some (.deep (.nl a d))):c[i]?=some (some (.ref a))/\R a=none/\B a=none/\∃vs,H a=some (.lst vs)/\b_ K (dI R B) vs d:=by
 obtain⟨g,b⟩:=e.ek h;exact⟨g,(b.fr a Sw).1,(b.fr a Sw).2,b.ok⟩
theorem aL.kP(e:aL K R W B H c f)(i:Nat){a:TD}{vs:ZQ}{d:ZP}(k:R a=none)(g:B a=none)(l:H a=some (.lst vs))(m:b_ K (dI R B) vs d)(o:∀j,j≠i->¬cc c f j a):aL K R W B H (c.set i (some (.ref a))) (f.set i (.deep (.nl a d))):=by
 have one:∀b∈(e2.nl a d).adr::(e2.nl a d).ins,b=a:=λb g=>by simpa[e2.adr,e2.ins]using g
 exact e.set i ⟨rfl,λb h=>by rw[one b h];exact⟨k,g⟩,by simp[e2.adr,e2.ins],vs,l,m⟩ (λb _ z=>by rcases z with z|⟨_,z⟩<;>cases z) λb h j n=>by rw[one b h];exact o j n
end
def vb:cK:=λ_ k=>k []
def Lh(i:Nat)(w:cK):cA:=λU b=>w b λc=>∀a,U.nx (b.set i (.deep (.nl a c)))
def va(i:Nat)(u:jW):cA:=λU c=>(∃a b,c[i]?=some (.deep (.nl a b)))/\u c λd e=>∃a b,e[i]?=some (.deep (.nl a b))/\b.length<TI/\U.nx (e.set i (.deep (.nl a (b++[d]))))
def u_(u:bb):jW:=λa k=>u a λd=>iZ d=true/\k d a
def u'(n:Nat)(F:b7)(w:m0):jW:=λb k=>w b λa c=>a.length=n/\F (a.map aA.val) λr=>∃d,r=.new d/\k d c
section
variable{X:aU}{e:Wp}{C:Z0}{u:jW}{w:m0}{o p:Pos}{n:Nat}{F:b7}
theorem Li:Lg X (.List [] o) vb:=by
 refine⟨_,tX e1,λd k h R W B H f Q e q=>?_⟩;refine⟨S9 _,λp a=>?_⟩;obtain⟨b,g,c⟩:=e.toWd.fresh a;exact q [] p [] B _ h (e.ey a _) (bx.refl _ _) b c dx .nil λi m=>e.eK a m rfl
theorem Lj{i:Nat}{x:Str}{b:cK}{c:Pos}(d:X.N.Nodup)(f:X.N[i]?=some x)(g:hh X.env.scope x)(h:Lg X e b)(k:XE e (some (.Name x c)) o.line X.env=pure false:=by rfl)(l:iq X x:=by walk_at"f"):
  eT X (.Assign [.Name x c] e o) (Lh i b):=by
 obtain⟨_,m,n⟩:=h;refine⟨_,qH d f g m k l,λU p h R W B H q D e s=>?_⟩;exact n p _ h R W B H q _ e λF a G r t u v w y z A C E=>s.nx _ _ r t (u a) (v.kP i y z A C λj _=>E j) w
theorem Lk{a:bb}(h:bt X e a):vK X e (u_ a):=by
 obtain⟨t,h,r⟩:=h;exact⟨t,h,λb k z R W B H c Q e q=>r b _ z R W B H c Q e λd v f i z e g s=>q d v b f i z.2 e g (s.flat z.1)⟩
theorem EF{x:Str}{t:ZX}{j i:Nat}(c:b6 X.prog X.w X.K X.mg X.base x t j (cj X.K n F))(u:ew i X.A)(y:eu X x)(E:yY X (e::C) w)(G:j<=i:=by decide)(I:ea x:=by decide)(J:eD X e C:=by rfl)(L:hv X o C:=by rfl):
  vK X (.Call (.Name x p) (e::C) [] o) (u' n F w):=by
 obtain⟨_,M,N⟩:=E;refine⟨_,ou c u y M G I J L,λO k h R W B H P Q e q=>?_⟩;refine N O _ h R W B H P _ e λS af T aj U l m Y Z=>?_;rw[SU]
 have f:sh (S.map gn.val) n=true:=by
  unfold sh;rw[Ek,KW,Sv,l.1];simp
 refine qW m (KV Z) f (by rw[Ek];exact l.2) λr v s aa g hi ae b=>?_;obtain⟨d,rfl,g⟩:=g;have b:bG X.K (dI U s) v d:=b;exact q d v T s aa g hi (Y.trans ae) (b.mono (qT λa z=>(m.toWd.fresh z).1))
theorem Ll:y5 X [] KS:=⟨_,e1,λa k h R W B H b Q e q=>q [] [] a B H h e (bx.refl _ _) .nil⟩
theorem vL(c:vK X e u)(f:y5 X C w)(g:eD X e C:=by rfl):y5 X (e::C) (KT u w):=by
 obtain⟨_,i,j⟩:=c;obtain⟨_,l,m⟩:=f;refine⟨_,d2 i l g,λn k h R W B H a Q e q=>?_⟩;refine j n _ h R W B H a _ e λd v o p r t x y z=>?_;exact m o _ t R W p r a _ x λK L A E F G I b J=>q _ _ A E F G I (y.trans b) (.cons (z.mono (lI b.s)) J)
theorem Lm{g}(h:y5 X C w):vK X (.Tuple C g o) (tr w):=by
 obtain⟨_,i,j⟩:=h;refine⟨_,wu i,λl k z R W B H m Q e q=>?_⟩;refine j l _ z R W B H m _ e λu n r v x a b t c=>?_;refine⟨by rw[c.length];exact a.1,λp d=>?_⟩;have f:=b.grow d (.tup n);exact q _ _ r _ _ a.2 (b.alloc d _) (t.trans f) (.tup (xo dx) (c.mono (lI f.s)))
theorem Ln(i:Nat){x:Str}{c f b:Pos}(r:vK X e u)(t:gZ X i x:=by rfl)(w:gy X.env.scope x:=by walk_at"v")(z:ea x:=by decide)(A:gY x:=by decide)(C:iO X (.Name x c) "append":=by rfl)(E:lB X b [e]:=by rfl)(F:iP f b:=by rfl)(k:eD X e []:=by rfl)(G:hv X b []:=by rfl)(I:XE (.Call (.Attribute (.Name x c) "append" f) [e] [] b) none o.line X.env=pure false:=by rfl):eT X (.Expr (.Call (.Attribute (.Name x c) "append" f) [e] [] b) o) (va i u):=by
 obtain⟨_,J,K⟩:=r;refine⟨_,qF (sj T' VU VV wB (hg t w z A) (d2 J e1 k) C E F k G) I,λU L h R W B H M D e s=>?_⟩;obtain⟨⟨a,ae,N⟩,h⟩:=h;obtain⟨l,af,ai,O,P,aj⟩:=e.jG N;refine⟨_,l,.inl ⟨rfl,O,cE.of P⟩,?_⟩;refine K L _ h R W B H M _ e λd v ak Q hc g m S T=>?_;obtain⟨au,j,n,Y,g⟩:=g;obtain⟨p,aw,ay,Z,aa,q⟩:=m.jG n;rw[l]at p;cases p;refine⟨a,Z,v,rfl,rfl,aa,by rw[q.length];exact Y,s.nx _ _ Q _ g (m.jT (c':=.nl a (j++[d])) n Sw rfl (λy hi=>hi) (by simp[e2.adr,e2.ins]) ⟨_,dx,q.append (.cons T .nil)⟩) S⟩
def u9(i j k:Nat):cA:=λU a=>∃(f g h:TD)(b c d:ZP),a[i]?=some (.deep (.nl f b))/\a[j]?=some (.deep (.nl g c))/\a[k]?=some (.deep (.nl h d))/\∀p l,U.rt (.deep (.dl false p [] l [b,c,d]))
theorem u7(i j k:Nat){x y z:Str}{M N O P:Pos}{Q}(S:i≠j)(T:i≠k)(Y:j≠k)(Z:gZ X i x:=by rfl)(af:gZ X j y:=by rfl)(ag:gZ X k z:=by rfl)(g:gy X.env.scope x:=by walk_at"v")(l:gy X.env.scope y:=by walk_at"v")(aj:gy X.env.scope z:=by walk_at"v")(ak:ea x:=by decide)(hc:ea y:=by decide)(ao:ea z:=by decide)(m:gY x:=by decide)(aq:gY y:=by decide)(n:gY z:=by decide):
  eT X (.Return (some (.Tuple [.Name x M,.Name y N,.Name z O] Q P)) o) (u9 i j k):=by
 refine⟨_,me (wu (d2 (hg Z g ak m) (d2 (hg af l hc aq) (d2 (hg ag aj ao n) e1 rfl) rfl) rfl)),λU G h R W B H a6 D e s=>?_⟩;obtain⟨q,r,t,a7,a',bc,u,v,w,ar⟩:=h;obtain⟨av,aw,ax,ay,I,az⟩:=e.jG u;obtain⟨aD,aE,aF,aG,J,aJ⟩:=e.jG v;obtain⟨aK,aO,aQ,ah,K,aR⟩:=e.jG w
 have A:∀{i j:Nat}{a b:TD}{d aT:List L3.D},i≠j->G[i]?=some (.deep (.nl a d))->G[j]?=some (.deep (.nl b aT))->a≠b:=λaW p2 C z=>by
  subst z;exact aW (e.sep _ _ _ (.inr ⟨_,p2,Sw⟩) (.inr ⟨_,C,Sw⟩))
 have aY:=A S u v;have a0:=A T u w;have a3:=A Y v w;refine⟨_,av,_,aD,_,aK,h6,λp L=>?_⟩;have E:∀{a:TD}{a5:ZQ},H a=some (.lst a5)->a≠p:=λh z=>by rw[z,L]at h;cases h
 refine s.rt _ _ B _ (ar p [q,r,t]) (e.toWd.ey L _) (bx.refl _ _) ⟨rfl,dx,⟨rfl,λi a bj c F=>?_⟩,λa f=>?_,?_⟩
 ·match i with
  |0=>cases c;cases F;exact⟨ay,by rw[bO (E I)];exact I,az⟩
  |1=>cases c;cases F;exact⟨aG,by rw[bO (E J)];exact J,aJ⟩
  |2=>cases c;cases F;exact⟨ah,by rw[bO (E K)];exact K,aR⟩
  |i+3=>cases c
 ·have f:a∈[q,r,t]:=f;simp only[SH,TR,or_false]at f;rcases f with rfl|rfl|rfl
  ·exact⟨aw,ax⟩
  ·exact⟨aE,aF⟩
  exact⟨aO,aQ⟩
 show[q,r,t].Nodup
 simp[aY,a0,a3]
def rI(i j k n:Nat)(F:b7)(w:iW):cA:=λU a=>w (a.map fK) λc=>sh c n=true/\F (c.map gn.sl) λr=>∃b p h m d f g,r=.deep (.dl b p h m [d,f,g])/\U.nx (((a.set i (.own (.l d))).set j (.own (.l f))).set k (.own (.l g)))
theorem rG{f:Str}{aW:ZX}{aK aN i j k:Nat}{x y z:Str}{w:iW}{L M O P Q u:Pos}{S:Nat}(c:b6 X.prog X.w X.K X.mg X.base f aW aK (cj X.K n F))(aZ:ew aN X.A)(aY:eu X f)(a0:X.calm=true)(E:mo X (e::C) w)(T:X.N.Nodup)(dh:i≠j)(di:i≠k)(dj:j≠k)(a3:X.N[i]?=some x)(a5:X.N[j]?=some y)(t:X.N[k]?=some z)(a6:hh X.env.scope x)(a7:hh X.env.scope y)(bU:hh X.env.scope z)(a':aK<=aN:=by decide)(bc:ea f:=by decide)(bj:eD X e C:=by rfl)(bq:hv X u C:=by rfl)(bz:iq X x:=by walk_at"f")(bA:iq X y:=by walk_at"f")(bC:iq X z:=by walk_at"f")(bJ:X2 [.Tuple [.Name x L,.Name y M,.Name z O] S P] (.Call (.Name f Q) (e::C) [] u) o.line X.env=pure false:=by rfl)(bK:X3 [.Tuple [.Name x L,.Name y M,.Name z O] S P] (.Call (.Name f Q) (e::C) [] u) X.env=pure none:=by rfl):
  eT X (.Assign [.Tuple [.Name x L,.Name y M,.Name z O] S P] (.Call (.Name f Q) (e::C) [] u) o) (rI i j k n F w):=by
 obtain⟨_,bM,bQ⟩:=E;refine⟨_,r9 (ou c aZ aY bM a' bc bj bq) (Fz a0 (wg (tS T a3 a6 bz) (wg (tS T a5 a7 bA) (wg (tS T t bU bC) Fy rfl) rfl) rfl) rfl rfl) bJ bK rfl,λU bR h R W B H bS D e s=>?_⟩;refine bQ _ _ h _ _ _ _ _ _ e.iI λdk Y dv Z aM aO bV bW=>?_;rw[SU];refine qW aO bW aM.1 aM.2 λr v aP bX t bY bZ aa=>?_;obtain⟨b,p,dw,af,b5,b8,cg,rfl,t⟩:=t;obtain⟨rfl,ck,G,I,J⟩:=aa;obtain⟨aj,cm,cu,cz,k'⟩:=e.looked bY.toWd (bV.trans bZ);have len:af.length=3:=G.len
 obtain⟨d,g,l,rfl⟩:∃d g l,af=[d,g,l]:=by
  match af,len with
  |[d,g,l],_=>exact⟨d,g,l,rfl⟩
 have aT:∀a,Z a=none->H a=none:=λa h=>(aO.toWd.fresh h).1;have ak:∀{Y:ZQ}{aV:List L3.D},b_ X.K (dI Z aP) Y aV->b_ X.K aj Y aV:=λr=>((r.mono (qT aT)).mono cz).mono iw;obtain⟨dy,cF,ax⟩:=G.at_ 0 d b5 rfl rfl;obtain⟨dB,cG,ay⟩:=G.at_ 1 g b8 rfl rfl;obtain⟨ah,cL,az⟩:=G.at_ 2 l cg rfl rfl;have ax:=ak ax;have ay:=ak ay;have az:=ak az;have I:∀a∈[d,g,l],Z a=none/\aP a=none:=I;have J:[d,g,l].Nodup:=J;simp only[Tt,SH,TR,or_false,not_or]at J;obtain⟨⟨cP,cQ⟩,cR,_⟩:=J
 have aI:∀a∈[d,g,l],R a=none/\aj a=none/\∀i,¬cc bS bR i a:=λa E=>by
  have z:=aT a (I a E).1;exact⟨(e.toWd.fresh z).1,by rw[k' a z];exact(I a E).2,λi m=>(e.en m).2 z⟩
 obtain⟨cS,cW,c0⟩:=aI d (by simp);obtain⟨c7,c8,c9⟩:=aI g (by simp);obtain⟨da,tb,de⟩:=aI l (by simp);have df:=cm.hV i cS cW cF ax λq _=>c0 q
 have dg:=df.hV j c7 c8 cG ay λq _ m=>by
  rcases yZ m with⟨_,z⟩|⟨_,m⟩
  ·exact cP z.symm
  exact c9 _ m
 have aJ:=dg.hV k da tb cL az λq _ m=>by
  rcases yZ m with⟨_,z⟩|⟨_,m⟩
  ·exact cR z.symm
  rcases yZ m with⟨_,z⟩|⟨_,m⟩
  ·exact cQ z.symm
  exact de _ m
 exact⟨p,[.ref d,.ref g,.ref l],rfl,e0.of ck,rfl,_,_,rfl,_,_,rfl,_,_,rfl,rfl,s.nx _ _ aj bX t aJ cu⟩
end
section
variable{X:aU}{e:Wp}{u:bb}{b:Pos}
theorem rC{lo c:Option Wp}{j l:oB}{p2:Pos}(w:kg X e u)(x:pI X lo j)(y:pI X c l):kg X (.Subscript e (.Slice lo c none p2) b) (Ha u j l):=by
 obtain⟨_,A,C⟩:=w;obtain⟨_,E,F⟩:=x;obtain⟨_,G,I⟩:=y;refine⟨_,A2 FZ A E G,λf k h R W B H g Q e q=>?_⟩;refine C f _ h R W B H g _ e λd v J K L M N O=>?_;refine F f _ L R W J K g _ M λlo P S T U m=>?_;refine I f _ T R W P S g _ U λc ai aj Y i g3=>?_;obtain⟨ak,rfl,Z,z⟩:=Y;obtain⟨a,n,rfl,af,o⟩:=(O.mono (lI (m.trans g3).s)).eV;refine⟨a,n,rfl,e0.of (i.bh _ _ (iw _ _ af)),by rw[o.length];exact Z,λp r=>?_⟩;have t:=i.grow r (.tup (pz n lo c));exact q _ _ _ _ z (i.alloc r _) (((N.trans m).trans g3).trans t) (.tup (xo dx) ((o.cut lo c).mono (lI t.s)))
end
theorem Lq:∀l:ZM,flats (l.map D.int)=true
 |[]=>rfl
 |a::l=>by rw[SJ,flats,Lq l];rfl
section
variable{K:Su}{X:aU}{u:bb}{w:cK}{I p:Pos}
structure jY(K:Su)(R:al)(W:TD->Prop)(D:TD)(B H:al)(σ:St)(ρ:ZN)(es:List L3.D):Prop where
 ev:aL K R W B H σ ρ
 r:R D=none
 b:B D=none
 nw:¬W D
 mu:∀j a,cc σ ρ j a->W a
 l:∃ys,H D=some (.lst ys)/\b_ K (dI R B) ys es
def tB(K:Su)(em:TD->jJ)(i:l9):Prop:=∀(n:Nat)(b:ZN)(k:ZN->List L3.D->Prop),i n b k->∀(R:al)(W:TD->Prop)(D:TD)(B H:al)(c:St)(a:List L3.D)(Q:St->al->Prop),jY K R W D B H c b a->a.length=n->
 (∀d e f g h,k d h->jY K R W D e f g d (a++h)->bx R B e->Q g f)->em D c H Q
theorem jY.same{R:al}{W:TD->Prop}{D:TD}{B H a H':al}{c:St}{d:ZN}{f:List L3.D}(m:jY K R W D B H c d f)(e:aL K H W a H' c d)(g:bx H B a):jY K R W D a H' c d f/\bx R B a:=by
 obtain⟨i,h,j⟩:=m.l;obtain⟨k,p⟩:=m.ev.fR m.mu e g;refine⟨⟨k,m.r,?_,m.nw,m.mu,i,e.fr D _ h m.nw,j.mono (lI g.s)⟩,p⟩;cases q:a D with
 |none=>rfl
 |some o=>
  rcases g.n D o q with z|z
  ·rw[m.b]at z;cases z
  rw[h]at z;cases z
theorem rz{d:bI}(o:sH K d u):tB K (w9 d) (El u):=by
 intro n e k h R W D B H f p Q m G q;obtain⟨I,h⟩:=h;refine o e _ h H W B H f _ (m.ev.rebase m.mu) λy v s J t w x A=>?_;obtain⟨c,C⟩:=m.same w x;obtain⟨g,E,i⟩:=c.l;have L:g.length=p.length:=i.length;refine⟨g,E,by lia,q e s _ f [y] t ⟨c.ev.fT c.r c.b (λj F=>c.nw (c.mu j D F)) _,c.r,c.b,c.nw,c.mu,_,dx,i.append (.cons (A.mono (qT λa z=>(m.ev.toWd.fresh z).1)) .nil)⟩ C⟩
theorem ry{g:fN}{P:eh}{em:TD->jJ}{I:eS}{L:dz}{M:l9}(aj:oy K g I)(ak:ib K P L)(hc:tB K em M){R:al}{W:TD->Prop}{D:TD}{q S:al}{T:St}{N:ZN}{o:List L3.D}{J:hx}{c:List L3.D}(ao:kF K q J c)(m:jY K R W D q S T N o){k:ZN->List L3.D->Prop}(z:ly I L M c o.length N k){Q:St->al->Prop}(ar:∀B u f U e,k B e->jY K R W D u f U B (o++e)->bx R q u->Q U f):∃V:Nat->Nat->St->al->Prop,(∃n,V 0 n T S)/\uo J g P (em D) V Q:=by
 refine⟨λi n C f=>∃u e v,n=c.length-i/\i<=c.length/\jY K R W D u f C v (o++e)/\bx R q u/\ly I L M (c.drop i) (o++e).length v λB r=>k B (e++r),⟨c.length,q,[],N,by simp,S9 _,by simpa using m,bx.refl _ _,by simpa using z⟩,?_⟩;rintro i n C X ⟨E,e,v,rfl,aV,h,A,F⟩;obtain⟨t,au,av⟩:=ao X (A.s.trans h.ev.bh) i;by_cases p:i<c.length
 ·refine .inr ⟨t p,λx f y=>?_⟩;obtain⟨rfl,d,Y,ax⟩:=av x f p y
  have aB:c.drop i=d::c.drop (i+1):=by
   rw[Ul p];rw[SY p]at Y;rw[SN Y]
  rw[aB]at F;refine aj d v _ F R W E f C x _ h.ev (ax.mono A.s) λG O aD Z aE=>?_;have h1:jY K R W D E f O G (o++e):=⟨Z,h.r,h.b,h.nw,λj a w=>h.mu j a (aE j a w),h.l⟩;refine ak G _ aD f W E f O _ (Z.rebase h1.mu) λb aa aF H aI aJ=>?_;obtain⟨ae,af⟩:=h1.same aI aJ;cases b with
  |false=>
   rw[Tl SW]at H⊢;exact⟨c.length-(i+1),by lia,aa,e,G,rfl,p,ae,A.trans af,H⟩
  |true=>
   rw[SZ rfl]at H⊢;refine hc _ G _ H R W D aa aF O _ _ ae rfl λaK aN aZ a0 ag aM ai aO=>?_;rw[SX]at ai;refine⟨c.length-(i+1),by lia,aN,e++ag,aK,rfl,p,ai,(A.trans af).trans aO,?_⟩;rw[<-SX,Sz (bs:=ag)];simpa[SX]using aM
 have aP:i=c.length:=by lia
 subst aP;rw[Uw]at F;exact .inl ⟨au (SD _),ar v E X C e (by simpa[ly]using F) h A⟩
theorem ru{d:gQ}{g:fN}{e:eh}{em:TD->jJ}{f:eS}{i:dz}{j:l9}(l:sr K d w)(o:oy K g f)(p:ib K e i)(r:tB K em j):tB K (λD=>GU d g e (em D)) (KY w f i j):=by
 intro n s k h R W D B H t M Q m u q;subst u;refine l s _ h H W B H t _ (m.ev.rebase m.mu) λN J O P v x A y=>?_;obtain⟨z,C⟩:=m.same x A;exact ry o p r y z v λE F G I L a b c=>q E F G I L a b (C.trans c)
theorem jY.alloc{R:al}{W:TD->Prop}{D:TD}{B H:al}{d:St}{e:ZN}{f:List L3.D}(m:jY K R W D B H d e f){q:TD}(a:H q=none)(o:el):jY K R W D (ed B q o) (ed H q o) d e f/\bx R B (ed B q o):=by
 obtain⟨h,c,i⟩:=m.l;have n:D≠q:=λz=>by rw[z,a]at c;cases c
 have g:=m.ev.grow a o;exact⟨⟨m.ev.alloc a o,m.r,by rw[bO n];exact m.b,m.nw,m.mu,h,by rw[bO n];exact c,i.mono (lI g.s)⟩,g⟩
theorem rr{g:fN}{T:eh}{em:TD->jJ}{I:eS}{L:dz}{M:l9}(ao:oy K g I)(ar:ib K T L)(au:tB K em M){R:al}{W:TD->Prop}{D:TD}{q U:al}{X:St}{N:ZN}{es:List L3.D}{J:hx}{c:List L3.D}(av:J0 K q J c)(m:jY K R W D q U X N es){k:ZN->List L3.D->Prop}(z:ly I L M c es.length N k){Q:St->al->Prop}(ax:∀A u e Y f,k A f->jY K R W D u e Y A (es++f)->bx R q u->Q Y e):∃V:Nat->Nat->St->al->Prop,(∃n,V 0 n X U)/\uo J g T (em D) V Q:=by
 refine⟨λi n B e=>∃u f v,n=c.length-i/\i<=c.length/\jY K R W D u e B v (es++f)/\bx R q u/\ly I L M (c.drop i) (es++f).length v λA r=>k A (f++r),⟨c.length,q,[],N,by simp,S9 _,by simpa using m,bx.refl _ _,by simpa using z⟩,?_⟩;rintro i n B O ⟨o,f,v,rfl,a5,d,h,C⟩;obtain⟨t,aB,aD⟩:=av O (h.s.trans d.ev.bh) i;by_cases p:i<c.length
 ·refine .inr ⟨t p,λx e y=>?_⟩;obtain⟨E,F,Z,aE,rfl,rfl,h1,aF⟩:=aD x e p y
  have aI:c.drop i=.tup Z::c.drop (i+1):=by
   rw[Ul p];rw[SY p]at h1;rw[SN h1]
  rw[aI]at C;obtain⟨d,P⟩:=d.alloc aE (.tup F);have h:=h.trans P;have aa:bG K (ed o E (.tup F)) (.ref E) (.tup Z):=.tup dx (aF.mono h.s);generalize ed O E (.tup F)=e at d;generalize ed o E (.tup F)=o at d h aa;refine ao _ v _ C R W o e B _ _ d.ev aa λG S aJ ae aK=>?_;have af:jY K R W D o e S G (es++f):=⟨ae,d.r,d.b,d.nw,λj a w=>d.mu j a (aK j a w),d.l⟩;refine ar G _ aJ e W o e S _ (ae.rebase af.mu) λb ag aN H aM aO=>?_;obtain⟨ai,aj⟩:=af.same aM aO;cases b with
  |false=>
   rw[Tl SW]at H⊢;exact⟨c.length-(i+1),by lia,ag,f,G,rfl,p,ai,h.trans aj,H⟩
  |true=>
   rw[SZ rfl]at H⊢;refine au _ G _ H R W D ag aN S _ _ ai rfl λaP aV a7 bc ak aZ hc a0=>?_;rw[SX]at hc;refine⟨c.length-(i+1),by lia,aV,f++ak,aP,rfl,p,hc,(h.trans aj).trans a0,?_⟩;rw[<-SX,Sz (bs:=ak)];simpa[SX]using aZ
 have a3:i=c.length:=by lia
 subst a3;rw[Uw]at C;exact .inl ⟨aB (SD _),ax v o O B f (by simpa[ly]using C) d h⟩
theorem rq{C:gQ}{g:fN}{E:eh}{em:TD->jJ}{F:eS}{I:dz}{L:l9}{f:Nat}{d:ZT}(S:J1 K C w)(T:oy K g F)(U:ib K E I)(X:tB K em L)(Y:d.Nodup):Lf K (xb C g E em f d) (KZ w F I L f d):=by
 intro n k h R W B H o Q e q;refine S n _ h R W B H o _ e λaB J aE Z h1 r A aa=>?_;intro D t;obtain⟨G,aF,hi⟩:=r.toWd.fresh t;have M:∀i,¬cc o n i D:=λi m=>r.eK t m rfl;have ei:=r.within f Y
 have v:∀j a,cc (SR f none++iv o d) (SR f .no++d.map (kc n)) j a->∃j,j∈d/\o[j]?=some (some (V.ref a))/\n[j]?=some aA.bag:=λj a m=>by
  have x:=(ei.en m).2;rcases m with⟨N,z|⟨es,z⟩⟩|⟨c,z,ae⟩
  ·obtain⟨c,s,p,_⟩:=ei.eo z;rw[N]at s;cases s;rcases p with p|p
   ·exact p
   exact absurd p x
  ·obtain⟨c,s,p,_⟩:=ei.fa z;rw[N]at s;cases s;exact absurd p x
  exact absurd ((ei.ek z).2.fr a ae).1 x
 generalize O:(λa=>∃j,j∈d/\o[j]?=some (some (V.ref a))/\n[j]?=some aA.bag)=u at ei;have v:∀j a,cc (SR f none++iv o d) (SR f .no++d.map (kc n)) j a->u a:=λj a m=>by rw[<-O];exact v j a m
 have P:∀a,u a->∃i:Nat,o[i]?=some (some (.ref a))/\n[i]?=some .bag:=λa z=>by
  rw[<-O]at z;obtain⟨j,_,z⟩:=z;exact⟨j,z⟩
 have af:¬u D:=λz=>by
  obtain⟨ai,aj,ak⟩:=P D z;exact M ai (.inl ⟨aj,.inl ak⟩)
 refine rr T U X (R:=Z) (W:=u) (es:=[]) aa ⟨ei.ey t _,t,hi,af,v,[],dx,.nil⟩ h1 λaI hc ao aK aN a y ar=>?_;obtain⟨au,av,aw⟩:=y.l;obtain⟨ax,ay⟩:=r.after P y.ev.toWd ar;exact q _ D au hc ao a ax (A.trans ay) G y.b av (aw.mono (qT λa z=>(r.toWd.fresh z).1)) M
variable{S M O L t:Wp}{P G:Z0}{f:XZ}{E:List (Str×TD)}{ts fr:ZX}{js:ZT}{ae A:eS}{T aa:dz}{Z:cK}
theorem rp{i:Nat}{y:Str}{x J:Pos}(hi:X.N.Nodup)(af:X.N[i]?=some y)(ai:X.env.scope.names.lookup y=some .local)(aj:J2 X L M w)(c:∀C s H b,j7 (d5 X (ts++fr) f E C s H b) L ae)(d:∀C s H b,pP (d5 X (ts++fr) f E C s H b) P T)(ak:∀C s H b,mq (d5 X (ts++fr) f E C s H b) t O Z)(ao:∀C s H b,j7 (d5 X (ts++fr) f E C s H b) t A)(g:∀C s H b,pP (d5 X (ts++fr) f E C s H b) G aa)(ar:∀C s H b,kg (d5 X (ts++fr) f E C s H b) S u)(F:oF X f E fr js)(au:js.Nodup:=by decide)(Q:X.calm=true:=by rfl)(av:∀v,WF M X.env v=pure v:=by intro _;rfl)(aw:∀env v,WF O env v=pure v:=by intro _ _;rfl)(ax:XE (.ListComp S [⟨L,M,P,0⟩,⟨t,O,G,0⟩] f I) (some (.Name y x)) J.line X.env=pure true:=by rfl):
  eT X (.Assign [.Name y x] (.ListComp S [⟨L,M,P,0⟩,⟨t,O,G,0⟩] f I) J) (Lh i (KZ w ae T (KY Z A aa (El u)) ts.length js)):=by
 obtain⟨_,ay,az⟩:=aj;let Xs:ti->aU:=λa=>d5 X (ts++fr) f E a.1 a.2.1 a.2.2.1 a.2.2.2
 obtain⟨_,k,l⟩:=uy (K:=X.K) (Xs:=Xs) (λ_=>rfl) λa=>c a.1 a.2.1 a.2.2.1 a.2.2.2;obtain⟨_,m,n⟩:=ux (K:=X.K) (Xs:=Xs) (λ_=>rfl) λa=>d a.1 a.2.1 a.2.2.1 a.2.2.2;obtain⟨_,p1,aB⟩:=tj (K:=X.K) (Xs:=Xs) (λ_=>rfl) λa=>ak a.1 a.2.1 a.2.2.1 a.2.2.2;obtain⟨_,o,p⟩:=uy (K:=X.K) (Xs:=Xs) (λ_=>rfl) λa=>ao a.1 a.2.1 a.2.2.1 a.2.2.2;obtain⟨_,q,r⟩:=ux (K:=X.K) (Xs:=Xs) (λ_=>rfl) λa=>g a.1 a.2.1 a.2.2.1 a.2.2.2;obtain⟨_,aE,aF⟩:=Hl (K:=X.K) (Xs:=Xs) (λ_=>rfl) λa=>ar a.1 a.2.1 a.2.2.1 a.2.2.2;refine⟨_,G1 hi af ai ay (λC s H b=>k (C,s,H,b)) (λC s H b=>m (C,s,H,b)) (λD C s H b=>?_) (λ_ _ _=>Qt) F Q av ax,λU aG h R W B H aH D e s=>rq az l n (ru aB p r (rz aF)) au aG _ h R W B H aH _ e λaV a aW aI aK aN aM A G aO aP aQ aT=>s.nx _ _ aI aK (aN a) (aM.kP i G aO aP aQ λj _=>aT j) A⟩;exact QO (Y:=Xs (C,s,H,b)) (p1 _) (o _) (q _) (BX (Y:=Xs (C,s,H,b)) (aE _) λ_ _ z=>z) (λ_ _ z=>z) Q (aw _) rfl λ_=>Qu
end
section
variable{K:Su}{X:aU}{e:Wp}{i:Z0}{u:bb}{w:cK}{g p:Pos}{c:Z1}{k:u2}
def rn(j:Nat)(w:cK)(b:cA):u2:=λU d f a=>w a λh=>(∀q∈h,Cf q)/\j<a.length/\∃q,eG f 0 d (a.set j .no) q/\b U q
theorem rm{j:Nat}{y:Str}{J:Wp}{a' L x M O P aE bc:Pos}{C:Nat}{aF:cA}(bg:X.N.Nodup)(aG:X.N[j]?=some y)(bj:hh X.env.scope y)(Q:gy X.env.scope y)(bq:YV (UV X.prog X.w) X.A X.env X.xe)(bA:X.calm=true)(S:j6 X J w)(bJ:hF X c aF)(T:iq X y:=by walk_at"f")(Y:ea y:=by decide)(Z:gY y:=by decide)(bK:∀v,WF J X.env v=pure v:=by intro _;rfl)(bM:iO X (.Subscript (.Name y L) (.Constant (.int 0) C x) M) "clear":=by rfl)(h1:iP O P:=by rfl)(aa:XE (.Call (.Attribute (.Subscript (.Name y L) (.Constant (.int 0) C x) M) "clear" O) [] [] P) none aE.line X.env=pure false:=by rfl)(bQ:sg (.Constant (.int 0) C x):=by exact λ_ _=>rfl):
  xX X (.For (.Name y a') J [.Expr (.Call (.Attribute (.Subscript (.Name y L) (.Constant (.int 0) C x) M) "clear" O) [] [] P) aE] [] bc::c) (rn j w aF):=by
 obtain⟨_,bR,bS⟩:=S;obtain⟨_,bV,bX⟩:=bJ;refine⟨_,ni (AN bq bA (FC bR) (tS bg aG bj T) (pj (qF (A6 T' PySem.F.slot_list_clear PySem.F.type_list_clear OW (lG pA (hg aG Q Y Z) fA bQ) bM h1) aa)) bK) bV,λU aH f aK h R W B H aN E e bY b5 b9 hi l b' ag=>?_⟩;refine bS aK _ h _ _ b9 hi l _ b' λi a g k tb x1 ai ck de cm aM aj cu=>?_;have nl:∀a g,k a=some (.lst g)->H a=none:=λa g h=>(ck.n a _ h).elim (ag a g) id;obtain⟨cz,ak,k',aO,h⟩:=x1
 have cF:dI H k=k:=by
  funext b;cases q:k b with
  |none=>
   cases cG:dI H k b with
   |none=>rfl
   |some o=>have:=iw b o cG;rw[q]at this;cases this
  |some o=>
   by_cases y:∃g,o=.lst g
   ·obtain⟨g,rfl⟩:=y;exact t9 q (nl b g q)
   exact uY q λg z=>y ⟨g,z⟩
 obtain⟨aQ,ao⟩:=pR.start e ai;rw[cF]at aQ;have aR:l.length=aK.length:=ai.len;refine⟨a,rfl,⟨g,cE.of aM⟩,?_⟩;refine⟨λn m p ar=>m=i.length-n/\n<=i.length/\(∀q,q≠j->p[q]?=l[q]?)/\p.length=l.length/\ar a=some (.lst g)/\pR X.K W aN aH H k ar,⟨i.length,rfl,S9 _,λ_ _=>rfl,rfl,aM,aQ⟩,?_⟩;rintro n m p ar ⟨rfl,df,aT,au,G,s⟩;by_cases aV:n<i.length
 ·refine .inr ⟨?_,λaW aY=>∃a0,a0<i.length-n/\(a0=i.length-(n+1)/\n+1<=i.length/\(∀q,q≠j->aW[q]?=l[q]?)/\aW.length=l.length/\aY a=some (.lst g)/\pR X.K W aN aH H k aY),λ_ _ z=>z,?_⟩
  ·obtain⟨a3,t,_⟩:=aj.get (SY aV);exact⟨g,a3,cE.of G,t⟩
  rintro a3 dh ⟨rfl,t⟩;have t:=t g (cE.of G);obtain⟨cL,aw,cP⟩:=aj.fb t;obtain⟨r,m,rfl,cS⟩:=cz cL (Tb aw);obtain⟨q,di,rfl,I,a5⟩:=cP.k5;cases a5 with
  |cons cT a5=>
   obtain⟨b,dj,rfl,u,cW⟩:=cT.lD;have ax:a≠b:=by rintro rfl;rw[cm]at u;cases u
   obtain⟨a6,a7⟩:=s.ls b _ u;have c0:j<p.length:=by rw[au,aR];exact ak
   refine⟨.ref q,by rw[TG c0],?_⟩;refine⟨q,_,0,.ref b,rfl,rfl,.inl (s.tp q _ I),Rv,?_⟩;refine⟨.inl ⟨rfl,a6,cE.of a7⟩,b,a6,rfl,rfl,a7,?_⟩;refine⟨_,by lia,rfl,aV,λq I=>?_,by rw[TV];exact au,by rw[bO ax];exact G,s.clear ao u (nl b _ u)⟩;rw[Tz (λz=>I z.symm)];exact aT q I
 have c7:n=i.length:=by lia
 subst c7;refine .inl ⟨⟨g,cE.of G,by rw[aj.length];exact SD _⟩,?_⟩;obtain⟨dk,c8⟩:=aO.length;refine bX U _ h R W B _ p E ((e.gq s.fr s.wh).forget ?_ (aO.same e b5 λn v d c9=>?_)) bY
 ·rw[au,aR,c8,TV]
 rcases iV c9 with⟨_,z⟩|⟨da,z⟩
 ·cases z
 rw[aT n da];exact ai.l7 n v d z
end
section
variable{K:Su}{R:al}{W:TD->Prop}{B aw H H':al}{σ:St}{ρ:ZN}
def vR:aA->aA
 |.val d=>.val d
 |.bag=>.bag
 |_=>.no
theorem y'{i:Nat}{k:aA}(h:(ρ.map vR)[i]?=some k):k=.no\/(∃d,k=.val d/\ρ[i]?=some (.val d))\/(k=.bag/\ρ[i]?=some .bag):=by
 rw[SP]at h;cases q:ρ[i]? with
 |none=>rw[q]at h;cases h
 |some s=>
  rw[q]at h;have h:=SN h;subst h;cases s<;>first|exact .inl rfl|exact .inr (.inl ⟨_,rfl,rfl⟩)|exact .inr (.inr ⟨rfl,rfl⟩)
def ma(σ:St)(ρ:ZN)(a:TD):Prop:=∃i:Nat,σ[i]?=some (some (V.ref a))/\ρ[i]?=some .bag
open Classical in
noncomputable def vS(H:al)(σ:St)(ρ:ZN):al:=λa=>if ma σ ρ a then none else H a
theorem Lx{a:TD}(h:ma σ ρ a):vS H σ ρ a=none:=SZ h
theorem vT{a:TD}(h:¬ma σ ρ a):vS H σ ρ a=H a:=Tl h
theorem Ly{i:Nat}{a:TD}(m:cc σ (ρ.map vR) i a):σ[i]?=some (some (V.ref a))/\ρ[i]?=some .bag:=by
 rcases m with⟨b,h|⟨e,h⟩⟩|⟨c,h,_⟩
 ·rcases y' h with z|⟨d,z,_⟩|⟨_,z⟩
  ·cases z
  ·cases z
  exact⟨b,z⟩
 ·rcases y' h with z|⟨d,z,_⟩|⟨z,_⟩<;>cases z
 rcases y' h with z|⟨d,z,_⟩|⟨z,_⟩<;>cases z
theorem aL.md(e:aL K R W B H σ ρ):aL K (vS H σ ρ) (λ_=>False) B H σ (ρ.map vR):=by
 refine⟨⟨λa o z _=>?_,e.bh,λ_ z=>z.elim,λ_ z=>z.elim,λ_ z=>z.elim⟩,by rw[Sv];exact e.len,λi k h=>?_,λi j a f g=>?_⟩
 ·by_cases q:ma σ ρ a
  ·rw[Lx q]at z;cases z
  rwa[vT q]at z
 ·rcases y' h with rfl|⟨d,rfl,q⟩|⟨rfl,q⟩
  ·trivial
  ·exact e.ok i _ q
  obtain⟨b,c,_,l,m⟩:=e.ok i _ q;exact⟨b,c,.inr (Lx ⟨i,gd c,q⟩),l,m⟩
 obtain⟨n,p⟩:=Ly f;obtain⟨r,s⟩:=Ly g;exact e.sep i j a (.inl ⟨n,.inl p⟩) (.inl ⟨r,.inl s⟩)
theorem aL.j_(e:aL K R W B H σ ρ)(p:aL K (vS H σ ρ) (λ_=>False) aw H' σ (ρ.map vR))(g:bx (vS H σ ρ) B aw):aL K R W aw H' σ ρ/\bx R B aw/\∀a o,H a=some o->¬ma σ ρ a->H' a=some o:=by
 have st:∀a o,H a=some o->¬ma σ ρ a->H' a=some o:=λa o h n=>p.fr a o (by rw[vT n];exact h) λz=>z
 have l:∀a,ma σ ρ a->aw a=none/\ft H' a:=λa ⟨i,c,d⟩=>by
  obtain⟨b,k,_,v,w⟩:=p.eo (i:=i) (by rw[SP,d];rfl);rw[c]at k;cases k;exact⟨v,w⟩
 have r:∀a,B a=none->H a≠none->aw a=none:=λa c d=>by
  by_cases z:ma σ ρ a
  ·exact(l a z).1
  cases q:aw a with
  |none=>rfl
  |some o=>
   rcases g.n a o q with y|y
   ·rw[c]at y;cases y
   rw[vT z]at y;exact absurd y d
 have A:∀a,ft H a->ft H' a:=λa ⟨x,y,c,d⟩=>by
  by_cases z:ma σ ρ a
  ·exact(l a z).2
  exact⟨x,y,st _ _ c z,d⟩
 have C:∀a,ft H a->H a≠none:=λa ⟨x,y,c,_⟩=>by rw[c];simp
 refine⟨e.move ⟨λa o h t=>?_,p.bh,λa z=>r a (e.wb a z) (C a (e.wh a z)),λa z=>A a (e.wh a z),e.wr⟩ g.s λi a m=>?_,⟨g.s,λa o h=>?_⟩,st⟩
 ·refine st a o (e.fr a o h t) λ⟨i,c,d⟩=>?_;obtain⟨b,k,f,_,_⟩:=e.eo d;rw[c]at k;cases k;rcases f with f|f
  ·exact t f
  rw[h]at f;cases f
 ·obtain⟨E,u⟩:=e.en m;refine⟨r a E u,λz=>?_,λz=>?_⟩
  ·exact(l a ⟨i,nC m z,z⟩).2
  have n:¬ma σ ρ a:=λ⟨j,c,d⟩=>z (by rw[e.sep i j a m (.inl ⟨c,.inl d⟩)];exact d);cases q:H a with
  |none=>exact absurd q u
  |some o=>exact st a o q n
 rcases g.n a o h with z|z
 ·exact .inl z
 by_cases y:ma σ ρ a
 ·rw[(l a y).1]at h;cases h
 rw[vT y]at z;exact .inr (e.toWd.fresh z).1
end
section
variable{X:aU}{C:Wp}{t:Z0}{w:cK}{F:b7}{f p:Pos}
def sb(n:Nat)(F:b7)(u:ZN->Prop->Prop)(w:cK):bb:=λa k=>u a (w (a.map vR) λb=>b.length+1=n/\F (.bag::b.map aA.val) λr=>lK r k)
theorem Lz{n:Nat}{x:Str}{aI:ZX}{j U:Nat}{Y:ZN->Prop->Prop}(c:b6 X.prog X.w X.K X.mg X.base x aI j (cj X.K n F))(aJ:ew U X.A)(aK:eu X x)(aO:BH X C Y)(E:pD X t w)(aP:j<=U:=by decide)(aT:ea x:=by decide)(Z:eD X C t:=by rfl)(aY:hv X f t:=by rfl):
  bt X (.Call (.Name x p) (C::t) [] f) (sb n F Y w):=by
 obtain⟨_,J,a0⟩:=aO;obtain⟨_,L,a3⟩:=E;refine⟨_,ou c aJ aK (d2 J L Z) aP aT Z aY,λM k h R W B H G Q e q=>?_⟩;refine a0 M _ h R W B H G _ e λa a5 hi a6 ae a7 bc bj aj ak=>?_;refine a3 _ _ a6 _ _ a5 hi G _ ae.md λN bq O hc br bz av bC=>?_;obtain⟨bF,bJ⟩:=br;obtain⟨I,g3,st⟩:=ae.j_ bz av;have bK:hi a≠none:=by obtain⟨_,_,q,_⟩:=aj;rw[q];simp
 have aw:¬ma G M a:=λ⟨i,J,L⟩=>ak i (.inl ⟨J,.inl L⟩)
 have bQ:O a=none:=by
  cases z:O a with
  |none=>rfl
  |some o=>
   rcases av.n a o z with y|y
   ·rw[bj]at y;cases y
   rw[vT aw]at y;exact absurd y bK
 have bR:ft hc a:=by
  obtain⟨bS,bV,bW,bX⟩:=aj;exact⟨bS,bV,st a _ bW aw,bX⟩
 show cj X.K n F ((.ref a::bq)++[]) hc Q wE
 rw[SU];refine⟨λb=>b=a,O,.bag::N.map aA.val,_,bJ,by rw[SK,Sv];exact bF,by show Nat.ble (kH (N.map aA.val)+1) 1=true;rw[K1];rfl,I.bh,λb E=>by subst E;exact⟨bQ,bR⟩,.bag rfl (K0 bC),λr v ax ay u P=>?_⟩;obtain⟨S,bY⟩:=I.lW (λb E=>by subst E;exact⟨bc,ak⟩) P.wd P.g;have res:=P.res;have T:=(a7.trans g3).trans bY;cases r with
 |no=>exact u.elim
 |bag=>exact u.elim
 |pin v d=>exact u.elim
 |deep c=>exact u.elim
 |val d=>exact q d v ax ay u S T res
 |new d=>exact q d v ax ay u S T (bG.mono iw res)
 |own c=>
  cases c with
  |d _ _ _ _=>exact u.elim
  |l N=>
  obtain⟨c,rfl,az,bZ,b',b5,b8⟩:=res;obtain⟨b9,aE⟩:=S.freeze b5 (I.toWd.fresh az).1 bZ λi m=>absurd az (I.en (show cc G M i c from m)).2;exact q _ _ _ _ u b9 (T.trans aE) (.lst dx (b8.mono aE.s))
end
section
variable{s w v:F2}{N:Nat}
theorem fg.ff(c:ba w.1 w.2)(f:0<w.1)(m:SB w.1<=10)(o:SB w.2<=10)(p:N<=2304)(h:fg w N v):SB v.1<=22/\SB v.2<=22:=by
 have q:=h.pos c f;obtain⟨l,j,r,s,e⟩:=h;have y:0<N:=Ta r s
 have g:v.1*(w.2*N)=w.1*j*v.2:=by
  have a:=eW l.1;have b:=eW c.1
  have:(v.1:Rat)*((w.2:Rat)*(N:Rat))=(w.1:Rat)*(j:Rat)*(v.2:Rat):=by
   unfold bv at e;grind
  exact_mod_cast this
 have i:Nat.Coprime v.1.natAbs v.2.natAbs:=l.2
 have t:v.2∣w.2*N:=by
  have d:v.2.natAbs∣v.1.natAbs*(w.2*N).natAbs:=by rw[<-TB,g,TB];exact Nat.dvd_mul_left _ _
  exact Uu.mp (Xo i.symm d)
 have u:v.1∣w.1*j:=by
  have d:v.1.natAbs∣v.2.natAbs*(w.1*j).natAbs:=by rw[Vg,<-TB,<-g,TB];exact Nat.dvd_mul_right _ _
  exact Uu.mp (Xo i d)
 have k:∀{n:Nat},n<=2304->SB (n:Int)<=12:=λh=>intBits_le_iff.mpr (by show((_:Nat):Int).natAbs<4096;lia);have x:=c.1;exact⟨Kf q (SE f (by lia)) u (TE m (k (by lia))),Kf l.1 (SE x (by lia)) t (TE o (k p))⟩
def jx(k:Nat)(x:a8):Prop:=ha (802+57*k) (400+57*k) (6+2*k) (20+57*k) x
theorem jx.jC{k:Nat}{x:a8}(h:jx k x)(a:k<=8):hu x:=ha.jC h (by lia) (by lia) (by lia)
theorem LA(o:ba s.1 s.2)(F:s.1≠0)(p:SB s.1<=10)(G:SB s.2<=10)(a:ba w.1 w.2)(c:0<w.1)(g:SB w.1<=10)(h:SB w.2<=10)(i:N<=2304):l' s (fg w N) jx 8:=by
 refine⟨o,F,by lia,by lia,λv d=>?_,λv u d e lt=>d.sub a c e lt,λk x H f=>⟨_,_,_,_,f,by lia,by lia,by lia,by lia,by lia⟩,λk j v u sh H z d e l f x I=>?_,λk x f=>ha.mono f (by lia) (by lia) (by lia) (by lia)⟩
 ·obtain⟨m,n⟩:=d.ff a c g h i;exact⟨d.1,d.pos a c,by lia,by lia⟩
 obtain⟨m,n⟩:=l.ff a c g h i;obtain⟨A,B⟩:=e.ff a c g h i
 have C:∀y:F2,ba y.1 y.2->0<y.1->SB y.1<=22->SB y.2<=22->SB (bT s y).1<=32/\SB (bT s y).2<=32:=λy J Q K L=>by
  obtain⟨_,_,M,O⟩:=jL (t:=(if s.1<0 then -s.1 else s.1)*y.1) (b:=s.2*y.2) (nA o.1 J.1)
  have P:SB (if s.1<0 then -s.1 else s.1)<=10:=by
   split
   ·exact TT p
   exact p
  exact⟨fY M (TE P K),fY O (TE G L)⟩
 have E:SB (bw s v u j).1<=32/\SB (bw s v u j).2<=32:=by
  unfold bw;split
  ·exact C _ l.1 (l.pos a c) m n
  exact C _ e.1 (e.pos a c) A B
 exact(t6 z j (q:=22) (r:=32) (by decide) (by decide) m n A B E.1 E.2 f (by lia) (by lia) x I).mono (by lia) (by lia) (by lia) (by lia)
theorem r_(f:ba s.1 s.2)(g:ba w.1 w.2)(n:s.1≠0)(o:0<w.1)(i:SB s.1<=10)(q:SB s.2<=10)(d:SB w.1<=16)(e:SB w.2<=16)(a:Bool):fm (dd s a w)/\(∀p∈dd s a w,cX 42 p)/\(dd s a w).length<=3:=by
 have b:=uO f g n o;obtain⟨_,_,r,u⟩:=jL (t:=(if s.1<0 then -s.1 else s.1)*w.1) (b:=s.2*w.2) (nA f.1 g.1)
 have v:SB (if s.1<0 then -s.1 else s.1)<=10:=by
  split
  ·exact TT i
  exact i
 have j:SB (bT s w).1<=26:=fY r (TE v d);have k:SB (bT s w).2<=26:=fY u (TE q e);have m:∀{x:Int},SB x<=16->SB x<=42:=λh=>cb h;have l:∀{x:Int},SB x<=26->SB x<=42:=λh=>cb h;have z:SB 0<=42:=by decide
 have y:cX 42 (0,0,1):=⟨⟨(show(0:Int)<1 by decide),(show Ss (Ss 0 0:Nat) 1=1 by decide)⟩,z,z,(show SB 1<=42 by decide)⟩;have A:cX 42 (w.1,0,w.2):=⟨xy b.lw,m d,z,m e⟩;have B:cX 42 (dr w (bT s w)):=⟨b.top.1,(l2 d e j k b.lw b.lh).mono (by decide)⟩;have g3:cX 42 (0,(bT s w).1,(bT s w).2):=⟨xz b.lh,z,l j,l k⟩;refine⟨HP b a,λp c=>?_,VL (HO a)⟩;unfold dd at c;split at c<;>split at c<;>(simp only[SH,TR,or_false]at c;rcases c with rfl|rfl|rfl<;>assumption)
abbrev i7(w:F2)(S:Int)(a:Int):F2:=ee (w.1*a) (w.2*S)
theorem r5(c:ba w.1 w.2)(j:0<w.1)(k:SB w.1<=10)(m:SB w.2<=10){S a:Int}(u:1<=a)(v:a<=6)(n:a<=S)(x:S<=48):
  fg w S.toNat (i7 w S a)/\0<(i7 w S a).1/\SB (i7 w S a).1<=16/\SB (i7 w S a).2<=16/\bv (i7 w S a)*S=bv w*a:=by
 have g:0<S:=by lia
 have o:0<w.2*S:=SE c.1 g;obtain⟨l,e,p,q⟩:=jL (t:=w.1*a) (b:=w.2*S) (SA o)
 have h:bv (i7 w S a)*S=bv w*a:=by
  have y:=eW c.1;have z:=eW l.1;have A:(S:Rat)≠0:=eW g;have:((ee (w.1*a) (w.2*S)).1:Rat)*((w.2:Rat)*(S:Rat))=(w.1:Rat)*(a:Rat)*((ee (w.1*a) (w.2*S)).2:Rat):=by exact_mod_cast e
  unfold bv i7;grind
 have d:SB a<=3:=intBits_le_iff.mpr (by show a.natAbs<8;lia);have f:SB S<=6:=intBits_le_iff.mpr (by show S.natAbs<64;lia)
 have i:fg w S.toNat (i7 w S a):=⟨l,a.toNat,by lia,by lia,by
  have r:((S.toNat:Nat):Rat)=(S:Rat):=by rw[<-Xp,UT (by lia)]
  have s:((a.toNat:Nat):Rat)=(a:Rat):=by rw[<-Xp,UT (by lia)]
  rw[r,s];exact h⟩
 exact⟨i,i.pos c j,Sy (fY p (TE k d)) (by decide),Sy (fY q (TE m f)) (by decide),h⟩
theorem LB{S:Int}(b:0<S):∀(a:ZM),(∀n∈a,bv (i7 w S n)*S=bv w*n)->(a.map λn=>bv (i7 w S n)).sum*S=bv w*(a.sum:Int)
 |[],_=>by simp
 |n::a,h=>by
  have i:=LB b a λx c=>h x (Sx _ c);have j:=h n Sw;rw[SJ,S',S',Vn];grind
end
theorem LC{e:Type}{f:e->D}{u:bb}{fs:ZN}{Pp:e->Prop}:∀{a:ZP}{i:aA}{k:ZP->Prop},(∀d∈a,∀k:D->Prop,(∀p,Pp p->k (f p))->u (.val d::fs) k)->(∀b:List e,b.length=a.length->(∀p∈b,Pp p)->k (b.map f))->gH (eU 0) hW u a (i::fs) k
 |[],_,_,_,g=>g [] rfl (λ_ h=>by simp at h)
 |d::a,i,k,h,g=>by
  show(if true=true then u (.val d::fs) λy=>gH (eU 0) hW u a (.val d::fs) λj=>k (y::j)else gH (eU 0) hW u a (.val d::fs) k)
  rw[SZ rfl];refine h d Sw _ λp l=>?_;refine LC (Pp:=Pp) (λx c=>h x (Sx _ c)) λb m n=>?_
  exact g (p::b) (by rw[SK,SK,m]) λx c=>by
   rcases SH.mp c with rfl|c
   ·exact l
   exact n x c
theorem rV.ff{w v:F2}{N:Nat}(b:ba w.1 w.2)(c:0<w.1)(d:SB w.1<=10)(f:SB w.2<=10)(i:0<N)(m:N<=2304)(h:rV w N v):SB v.1<=22/\SB v.2<=22:=by
 obtain⟨l,j,n,e⟩:=h;rcases Wu j with z|z
 ·subst z
  have o:bv v=0:=by
   have:bv v*(N:Rat)=0:=by rw[e];show bv w*((0:Nat):Rat)=0;grind
   have k:(N:Rat)≠0:=by exact_mod_cast TU i
   grind
  have a:=Lc l o;have g:=l.2;rw[a]at g
  have q:v.2=1:=by
   have:(Ss 0 v.2:Int)=v.2.natAbs:=by rw[Int.gcd_zero_left]
   have p:=l.1;lia
  rw[a,q];exact⟨by decide,by decide⟩
 exact fg.ff (N:=N) b c d f m ⟨l,j,z,n,e⟩
theorem r4{a:Type}(l:List a)(x:a):eF (l++[x]) (-1)=some x:=by
 have:=Q9 (rs:=l++[x]) (i:=0) (by rw[Sz];simp);rw[show((-1:Int)-((0:Nat):Int)) = -1 from rfl]at this;rw[this];simp
abbrev o6(g:ZP×ZR):D:=.tup (g.1++[.lst (g.2.map bH)])
theorem EL{i:Nat}{d:D}{t:cA}{U:hE}{a:ZN}(h:t U (a.set i (.val d))):oA (Bz i (iX d)) t U a:=h
abbrev zc:iy:=.L (.T [.T [.I,.I],Cu])
theorem tD(cs:ZS):has zc (.lst (cs.map dC))=true:=by
 show(cs.map dC).all _=true
 rw[Ux];intro d a;obtain⟨c,_,rfl⟩:=SI.mp a;show(has (.T [.I,.I]) (dR c.1)&&(has Cu (.lst (c.2.map bH))&&true))=true
 rw[Sd];rfl
theorem gN.to{s:F2}{a b:F2->Prop}{L:Nat->a8->Prop}{d:Bool}{k:Nat}{c:dF}(h:gN s a L d k c)(e:b c.1):gN s b L d k c:=⟨e,h.px,h.ln,h.iz⟩
section
variable{X:aU}
theorem ei(i:Nat){x:Str}{n:Int}{j:Nat}{p1 p2 a:Pos}(b:gZ X i x:=by rfl)(c:gy X.env.scope x:=by walk_at"v")(d:ea x:=by decide)(e:gY x:=by decide):bt X (.Subscript (.Name x p1) (.Constant (.int n) j p2) a) (Bt (jF i) (iX (.int n))):=ho (ah i b c d e) bo (λ_ _=>rfl)
theorem cx(i:Nat){x:Str}{e:Wp}{u:bb}{a b:Pos}(c:X.N.Nodup)(d:bt X e u)(f:gZ X i x:=by rfl)(g:hh X.env.scope x:=by exact SG rfl)(h:XE e (some (.Name x b)) a.line X.env=pure false:=by rfl)(j:iq X x:=by walk_at"f"):eT X (.Assign [.Name x b] e a) (Bz i u):=uh c f g d h j
theorem cO(i:Nat){x:Str}{a:Pos}(b:X.N.Nodup)(c:gZ X i x:=by rfl)(d:hh X.env.scope x:=by exact SG rfl)(e:iq X x:=by walk_at"f"):j7 X (.Name x a) (eU i):=ez b c d e
theorem bf{n:Nat}{F:b7}{w:iW}{e:Wp}{b:Z0}{p a:Pos}{x:Str}{f:ZX}{j d:Nat}(c:b6 X.prog X.w X.K X.mg X.base x f j (cj X.K n F))(g:ew d X.A)(h:mo X (e::b) w)(i:eu X x:=by rfl)(k:j<=d:=by decide)(l:ea x:=by decide)(m:eD X e b:=by rfl)(o:hv X a b:=by rfl):bt X (.Call (.Name x p) (e::b) [] a) (Bx n F w):=PC c g i h k l m o
end
section
structure LF(mg:Str->Option SL):Prop where
 e':mg "len"=none
 jk:mg "abs"=none
 jI:mg "int"=none
 kW:mg "bool"=none
 fj:mg "tuple"=none
 ec:mg "isinstance"=none
 fo:mg "range"=none
 ji:mg "all"=none
 mT:mg "sum"=none
 hp:mg "list"=none
 kX:mg "ValueError"=none
 nr:mg "zip"=none
 nt:mg "str"=none
 iu:mg "enumerate"=none
 nB:mg "set"=none
 mZ:mg "max"=none
 nK:mg "min"=none
 iA:mg "sorted"=none
 nq:mg "dict"=none
local macro_rules | `(tactic| walk_at"bu") => `(tactic| first | assumption | exact YB (by walk_at"bu") (by walk_at"bu") | exact XN (by walk_at"bu") (by walk_at"bu") | exact TE (by walk_at"bu") (by walk_at"bu") | exact TT (by walk_at"bu") | exact intBits_fdiv_le (by walk_at"bu") | exact wI (by omega) (by omega) | fail)
local macro_rules | `(tactic| walk_at"bits") => `(tactic| ((with_reducible show SB _ ≤ _); first | assumption | exact Sy (wI (by omega) (by omega)) (by decide) | decide +kernel | exact Sy (by walk_at"bu") (by first | omega | decide) | fail))
local macro_rules | `(tactic| walk_at"sd") => `(tactic| first | ((with_reducible show SB _ ≤ _); walk_at"bits") | ((with_reducible show Bd _ _); exact ⟨by walk_at"bits", by walk_at"bits"⟩) | ((with_reducible show wF _ _); exact ⟨by omega, by walk_at"bits"⟩) | ((with_reducible show (_ : Int) < _); first | omega | decide +kernel) | ((with_reducible show (_ : Int) ≤ _); first | omega | decide +kernel) | ((with_reducible show FI _ _); exact ⟨by decide, by decide, by decide⟩) | ((with_reducible show S3 _ ≤ TI); first | (show 2 ≤ TI; decide) | (show 3 ≤ TI; decide) | (show 1 ≤ TI; decide) | (show 0 ≤ TI; decide) | (show 4 ≤ TI; decide)) | fail)
local macro_rules | `(tactic| walk_at"w1") => `(tactic| first | refine ⟨_, rfl, ?_⟩ | refine ⟨_, _, rfl, rfl, ?_⟩ | refine ⟨_, _, rfl, rfl, by walk_at"sd", ?_⟩ | refine ⟨_, _, _, .inl rfl, rfl, rfl, ?_⟩ | refine ⟨_, _, _, .inr rfl, rfl, rfl, ?_⟩ | refine ⟨_, _, rfl, fun _ => rfl, ?_⟩ | refine ⟨by walk_at"sd", ?_⟩ | refine ⟨rfl, ?_⟩)
local macro_rules | `(tactic| walk_at"w") => `(tactic| repeat walk_at"w1")
local macro_rules | `(tactic| walk_at"wd") => `(tactic| (walk_at"w"; try dsimp only [lK]))
local macro_rules | `(tactic| walk_at"it") => `(tactic| first | exact .inl (by assumption) | exact .inr (by assumption))
local macro_rules | `(tactic| walk_at"r0") => `(tactic| repeat (first | refine ⟨_, rfl, ?_⟩ | refine ⟨_, _, rfl, rfl, ?_⟩ | refine ⟨_, _, _, _, rfl, rfl, by walk_at"it", rfl, ?_⟩ | refine ⟨by walk_at"sd", ?_⟩))
local macro_rules | `(tactic| walk_at"rd") => `(tactic| (walk_at"r0"; try dsimp only))
local macro_rules | `(tactic| walk_at"fall") => `(tactic| first | exact Th.mpr ⟨rfl, by walk_at"fall"⟩ | exact S5 _)
local macro_rules | `(tactic| walk_at"fal2") => `(tactic| first | exact S5 _ | exact Th.mpr ⟨fun h => absurd h (by decide), by walk_at"fal2"⟩ | exact Th.mpr ⟨fun _ => ⟨_, rfl⟩, by walk_at"fal2"⟩)
local macro_rules | `(tactic| walk_at"fsub") => `(tactic| exact gs (by walk_at"fall"))
local macro_rules | `(tactic| walk_at"fhas") => `(tactic| exact ajS (by walk_at"fal2"))
local macro_rules | `(tactic| walk_at"ffr") => `(tactic| (intro i y e; rcases i with _ | _ | _ | _ | _ | i <;> first | (cases e; done) | (cases e; exact ⟨_, rfl, rfl, rfl, SG rfl, _, rfl⟩)))
local macro_rules | `(tactic| walk_at"sc") => `(tactic| exact ⟨rfl, rfl, rfl, by decide +kernel, rfl, by decide +kernel, by decide +kernel⟩)
local macro_rules | `(tactic| walk_at"b") => `(tactic| exact fun _ _ F => F.binds (by first | exact jl fun _ _ _ _ _ _ _ => rfl | exact gt fun _ _ _ _ _ _ _ _ => rfl | exact nL fun _ _ _ _ _ _ _ _ _ => rfl | exact Ch fun _ _ _ _ _ _ _ _ _ _ => rfl | exact Hr fun _ _ _ _ _ _ _ _ _ _ _ => rfl | exact Hs fun _ _ _ _ _ _ _ _ _ _ _ _ => rfl))
abbrev ep(N:List Str)(k:Nat)(s:Scope):=cy N (N.take k) s
theorem r3:ep ["_law_script","_law_k"] 2 (bL z2):=by walk_at"sc"
theorem r1:ep ["_law_cell_here"] 1 (bL z3):=by walk_at"sc"
theorem LG:ep ["_law_bag_here","_law_many","_law_found"] 2 (bL z4):=by walk_at"sc"
theorem tE:ep ["_law_one","_law_other","_law_rest_here"] 2 (bL z5):=by walk_at"sc"
def rT  : b7:=λc k=>∃(a b:Int),c=[.val (.int a),.val (.int b)]/\k (.val (.int (Ss a b:Nat)))
theorem EM:ep ["_law_top","_law_bottom","_law_often"] 2 (bL z6):=by walk_at"sc"
def rS  : b7:=λa k=>∃(t b:Int),a=[.val (.int t),.val (.int b)]/\(0<b)/\(SB b<=9000)/\k (.val (dR (ee t b)))
theorem LH:ep ["_law_x","_law_y","_law_bottom","_law_often"] 3 (bL z7):=by walk_at"sc"
def rM  : b7:=λa k=>∃(x y n:Int),a=[.val (.int x),.val (.int y),.val (.int n)]/\(0<n)/\(SB n<=9000)/\k (.val (aS (cC x y n)))
theorem rK:ep ["_law_found"] 1 (bL z8):=by walk_at"sc"
def rJ  : b7:=λa k=>∃(i:Int),a=[.val (.int i)]/\k (.val (.bl true))
theorem tF:ep ["_law_p","_law_q","_law_a","_law_b","_law_c","_law_often"] 2 (bL z9):=by walk_at"sc"
def sX  : b7:=λa k=>∃(p q:ab),a=[.val (aS p),.val (aS q)]/\((a_ p q).1≠0\/(a_ p q).2.1≠0)/\(cw 4000 p)/\(cw 4000 q)/\k (.val (aS (e5 p q)))
theorem vU:ep ["_law_tally","_law_rings","_law_number","_law_ring","_law_k","_law_p","_law_q","_law_line_here"] 3 (bL z'):=by walk_at"sc"
def sV:vc:=λb c g h k=>∃(e:ZM)(a:Jb)(m:Int),  b=true/\h=[(.lst (a.map f5)),(.int m)]/\(g=e.map D.int)/\(e.length=c.length)/\(∀i∈a,nU i)/\(m=1\/m = -1)/\(c.length+2*(a.map S3).sum<=10000)/\∀d f,f.length=d.length->d.length<=c.length+2*(a.map S3).sum->(∀key,(bu d f key).getD 0=(bu c e key).getD 0+m*qh key a)->k d (f.map D.int)
theorem LI:ep ["_law_rings","_law_others","_law_tally"] 2 (bL Aa):=by walk_at"sc"
def sT  : b7:=λd k=>∃(a b:Jb),d=[.val (.lst (a.map f5)),.val (.lst (b.map f5))]/\(∀c∈a,nU c)/\(∀c∈b,nU c)/\((a.map S3).sum+(b.map S3).sum<=4000)/\(cU a b)/\k (.val (.bl true))
theorem EN:ep ["_law_p","_law_q","_law_r","_law_found"] 3 (bL Ab):=by walk_at"sc"
def sN  : b7:=λa k=>∃(p q r:ab),a=[.val (aS p),.val (aS q),.val (aS r)]/\(cw 2950 p)/\(cw 2950 q)/\(cw 2950 r)/\k (.val (.bl (decide (0<bn p q r))))
theorem sM:ep ["_law_p"] 1 (bL Ac):=by walk_at"sc"
def sL  : b7:=λa k=>∃(p:ab),a=[.val (aS p)]/\(aX p)/\k (.val (.bl true))
theorem EO:ep ["_law_ring","_law_turns","_law_fans"] 1 (bL Ad):=by walk_at"sc"
def sC  : b7:=λb k=>∃(a:ZO),b=[.val (.lst (a.map aS))]/\(a.length<=75)/\(fm a)/\(∀p∈a,cX 2950 p)/\k (.val (.bl true))
theorem EP:ep ["_law_p","_law_q","_law_part_here","_law_many","_law_x","_law_y"] 4 (bL Ae):=by walk_at"sc"
def sA  : b7:=λa k=>∃(p q:ab)(t:Int),a=[.val (aS p),.val (aS q),.val (.int t),.val (.int 3)]/\(cX 2000 p)/\(cX 2000 q)/\(1<=t)/\(t<=2)/\k (.val (aS (kl p q t)))
theorem rW:ep ["_law_bag_here","_law_ring","_law_i","_law_j","_law_p","_law_q"] 2 (bL Af):=by walk_at"sc"
def sy  : b7:=λd k=>∃(a:ZO)(m:Nat),d=[.bag,.val (f5 a)]/\(fm a)/\(∀x∈a,cX m x)/\(m<=700)/\(a.length<=50)/\∀b c,DA (2*m+3) (a.length+1) a b c->k (.val (.tup [f5 b,f5 c]))
theorem rX:ep ["_law_bag_here","_law_ring","_law_cuts","_law_parts","_law_k","_law_made","_law_part_here","_law_flag","_law_x"] 3 (bL Ag):=by walk_at"sc"
def sm  : b7:=λc k=>∃(a:ZO)(b:Nat),c=[.bag,.val (f5 a),.val (.int (b:Int))]/\(fm a)/\(∀x∈a,cX 42 x)/\(a.length<=4)/\(b<=2)/\∀sh:ZR,(∀t∈sh,yN (kY 42 2) 6 t)->sh.length<=3->cU (sh.map λt=>t.1) [a]->k (.val (.lst (sh.map bH)))
theorem o7:ep ["_law_piece","_law_ring","_law_flag","_law_step","_law_sign","_law_made","_law_p","_law_x","_law_y"] 1 (bL Ah):=by walk_at"sc"
def LJ  : b7:=λa k=>∃(s:a8),a=[.val (bH s)]/\(s.1.length<=75)/\(∀p∈s.1,cX 2600 p)/\(cX 1200 s.2.2)/\k (.val (.lst ((f3 s).map aS)))
theorem EQ:ep ["_law_olds","_law_news","_law_flag","_law_near"] 2 (bL Ai):=by walk_at"sc"
def LK  : b7:=λc k=>∃(os a:ZR),c=[.val (.lst (os.map bH)),.val (.lst (a.map bH))]/\(os.length<=24)/\(a.length<=100)/\(∀s∈os,hu s)/\(∀s∈a,hu s)/\(∀b:Bool,cU ((a.filter λs=>s.2.1==b).map f3) ((os.filter λs=>s.2.1==b).map f3))/\(∀s∈os,s.1.length<=6)/\k (.val (.bl true))
theorem LL:ep ["_law_sheet_here","_law_ring","_law_piece"] 2 (bL Aj):=by walk_at"sc"
def sY  : b7:=λb k=>∃(sh:ZR)(a:ZO),b=[.val (.lst (sh.map bH)),.val (.lst (a.map aS))]/\(sh.length<=100)/\(∀s∈sh,hu s)/\(nU a)/\(cU (sh.map λs=>s.1) [a])/\k (.val (.bl true))
theorem p4:ep ["_law_one","_law_other"] 2 (bL Al):=by walk_at"sc"
def p3  : b7:=λa k=>∃(r s:F2),a=[.val (dR r),.val (dR s)]/\(0<r.2)/\(0<s.2)/\(SB r.1<=1000)/\(SB r.2<=1000)/\(SB s.1<=1000)/\(SB s.2<=1000)/\k (.val (dR (ee (r.1*s.1) (r.2*s.2))))
theorem pZ:ep ["_law_one","_law_other"] 2 (bL Am):=by walk_at"sc"
def pX  : b7:=λa k=>∃(r s:F2),a=[.val (dR r),.val (dR s)]/\(0<r.2)/\(0<s.2)/\(SB r.1<=1000)/\(SB r.2<=1000)/\(SB s.1<=1000)/\(SB s.2<=1000)/\k (.val (dR (ee (r.1*s.2-s.1*r.2) (r.2*s.2))))
theorem pU:ep ["_law_x","_law_y"] 2 (bL An):=by walk_at"sc"
def pS  : b7:=λa k=>∃(r s:F2),a=[.val (dR r),.val (dR s)]/\(0<r.2)/\(0<s.2)/\(SB r.1<=1000)/\(SB r.2<=1000)/\(SB s.1<=1000)/\(SB s.2<=1000)/\k (.val (aS (cC (r.1*s.2) (s.1*r.2) (r.2*s.2))))
theorem pO:ep ["_law_wide","_law_high_here"] 2 (bL Ao):=by walk_at"sc"
def pN  : b7:=λa k=>∃(w h:F2),a=[.val (dR w),.val (dR h)]/\(ba w.1 w.2)/\(ba h.1 h.2)/\(SB w.1<=400)/\(SB w.2<=400)/\(SB h.1<=400)/\(SB h.2<=400)/\k (.val (.lst ((lU w h).map aS)))
theorem pM:ep ["_law_found"] 1 (bL Aq):=by walk_at"sc"
def pK  : b7:=λa k=>∃(r:F2),a=[.val (dR r)]/\(ba r.1 r.2)/\(0<r.1)/\k (.val (.bl true))
theorem pJ:ep ["_law_found"] 1 (bL Ap):=by walk_at"sc"
def pv  : b7:=λa k=>∃(w h:F2)(sh:ZR),a=[.val (.tup [dR w,dR h,.lst (sh.map bH)])]/\(ba w.1 w.2)/\(ba h.1 h.2)/\(SB w.1<=270)/\(SB w.2<=270)/\(SB h.1<=270)/\(SB h.2<=270)/\(0<w.1)/\(0<h.1)/\(sh.length<=100)/\(∀s∈sh,hu s)/\(cU (sh.map λs=>s.1) [lU w h])/\k (.val (.bl true))
theorem pk:ep ["_law_bag_here"] 1 (bL Ar):=by walk_at"sc"
def pe  : b7:=λa k =>  a=[.bag]/\∀r:F2,ba r.1 r.2->0<r.1->SB r.1<=10->SB r.2<=10->k (.val (dR r))
theorem pd:ep ["_law_slope_here","_law_wide"] 2 (bL As):=by walk_at"sc"
def o_  : b7:=λa k=>∃(s w:F2),a=[.val (dR s),.val (dR w)]/\(ba s.1 s.2)/\(ba w.1 w.2)/\(s.1≠0)/\(0<w.1)/\(SB s.1<=64)/\(SB s.2<=64)/\(SB w.1<=64)/\(SB w.2<=64)/\k (.val (dR (bT s w)))
theorem vV:ep ["_law_slope_here","_law_hand","_law_wide","_law_one","_law_two","_law_three","_law_four"] 3 (bL At):=by walk_at"sc"
def o'  : b7:=λb k=>∃(s w:Int×Int)(a:Bool),b=[.val (dR s),.val (.str (if a=true then"high" else"low")),.val (dR w)]/\(ba s.1 s.2)/\(ba w.1 w.2)/\(s.1≠0)/\(0<w.1)/\(SB s.1<=64)/\(SB s.2<=64)/\(SB w.1<=64)/\(SB w.2<=64)/\k (.val (.lst ((dd s a w).map aS)))
theorem ER:ep ["_law_bag_here","_law_top","_law_bottom"] 1 (bL Au):=by walk_at"sc"
def o5  : b7:=λa k =>  a=[.bag]/\∀s:F2,ba s.1 s.2->s.1≠0->SB s.1<=10->SB s.2<=10->k (.val (dR s))
theorem LM:ep ["_law_bag_here","_law_whole_here","_law_many","_law_some"] 3 (bL Av):=by walk_at"sc"
def o4  : b7:=λb k=>∃(w:F2)(n:Nat),b=[.bag,.val (dR w),.val (.int (n:Int))]/\(ba w.1 w.2)/\(0<w.1)/\(SB w.1<=10)/\(SB w.2<=10)/\(n<=8)/\∀a:ZM,a.length=n->(∀x∈a,1<=x/\x<=6)->k (.own (a.map λx=>dR (i7 w a.sum x)))
theorem ES:ep ["_law_bag_here","_law_slope_here","_law_hand","_law_whole_here","_law_many","_law_cuts","_law_made","_law_wide"] 6 (bL Aw):=by walk_at"sc"
def ET  : b7:=λd k=>∃(s w:F2)(a:Bool)(n b:Nat),d=[.bag,.val (dR s),.val (.str (if a=true then"high" else"low")),.val (dR w),.val (.int (n:Int)),.val (.int (b:Int))]/\(ba s.1 s.2)/\(s.1≠0)/\(SB s.1<=10)/\(SB s.2<=10)/\(ba w.1 w.2)/\(0<w.1)/\(SB w.1<=10)/\(SB w.2<=10)/\(n<=8)/\(b<=2)/\∀(cs:ZS)(S:Int),(0<n->0<S)->S<=48->cs.length=n->(∀c∈cs,gN s (fg w S.toNat) jx a 0 c)->(∀c∈cs,∀x∈c.2,x.1.length<=6)->dN cs*S=bv w*S->k (.own (cs.map dC))
theorem EU:ep ["_law_some","_law_made","_law_one"] 1 (bL Ax):=by walk_at"sc"
def o3  : b7:=λb k=>∃(a:List (ZP×ZR)),b=[.val (.lst (a.map o6))]/\((a.map λg=>g.2.length).sum<=400)/\k (.own ((a.map λg=>g.2).flatten.map bH))
theorem LN:ep ["_law_pair","_law_slope_here","_law_hand","_law_ring"] 3 (bL Ay):=by walk_at"sc"
def o2  : b7:=λd k=>∃(s w:F2)(c:Bool)(a b:ZR),d=[.val (.tup [dR w,.lst (a.map bH),.lst (b.map bH)]),.val (dR s),.val (.str (if c=true then"high" else"low"))]/\(ba s.1 s.2)/\(s.1≠0)/\(SB s.1<=10)/\(SB s.2<=10)/\(ba w.1 w.2)/\(0<w.1)/\(SB w.1<=22)/\(SB w.2<=22)/\(a.length<=3)/\(b.length<=3)/\(∀x∈a,hu x)/\(∀x∈b,hu x)/\(cU (a.map λx=>x.1) [dd s c w])/\(cU (b.map λx=>x.1) [dd s c w])/\k (.val (.bl true))
theorem tG:ep ["_law_found","_law_slope_here","_law_hand","_law_rest_here","_law_other","_law_whole_here","_law_pair","_law_left_here","_law_near","_law_far"] 6 (bL Az):=by walk_at"sc"
def o1  : b7:=λg k=>∃(s w:F2)(N:Nat)(d:Bool)(os a:ZS)(b:ZV)(e f:ZU),g=[.val (.tup [.lst (b.map hJ),.lst (e.map fp),.lst (f.map fp)]),.val (dR s),.val (.str (if d=true then"high" else"low")),.val (.lst (os.map dC)),.val (.lst (a.map dC)),.val (dR w)]/\(ba s.1 s.2)/\(s.1≠0)/\(SB s.1<=10)/\(SB s.2<=10)/\(ba w.1 w.2)/\(0<w.1)/\(SB w.1<=10)/\(SB w.2<=10)/\(0<N)/\(N<=2304)/\(gO s (fg w N) jx d 8 os [] (p1 b) e)/\(gO s (fg w N) jx d 8 a [] (p2 b) f)/\(b.length<=16)/\(e.length+f.length<=16)/\(os.length<=8)/\(a.length<=8)/\(∀c∈os++a,c.2.length<=3/\∀x∈c.2,hu x/\x.1.length<=6)/\(dN os=bv w)/\k (.val (.bl true))
theorem oW:ep ["_law_sheet_here"] 1 (bL Ak):=by walk_at"sc"
def oU  : b7:=λa k=>∃(sh:ZR),a=[.val (.lst (sh.map bH))]/\(sh.length<=100)/\k (.own (sh.map bH))
theorem oT:ep ["_law_some"] 1 (bL AA):=by walk_at"sc"
def oP  : b7:=λa k=>∃(cs:ZS),a=[.val (.lst (cs.map dC))]/\(cs.length<=8)/\(∀c∈cs,c.2.length<=3)/\k (.val (.lst (cs.map dC)))
theorem zd:ep ["one","other"] 2 (bL zD):=by walk_at"sc"
def q5  : b7:=λc k=>∃(a b:Int),c=[.val (.int a),.val (.int b)]/\k (.val (.int (Ss a b:Nat)))
theorem rY:ep ["one","other","a","b","n","c","d","m"] 2 (bL zO):=by walk_at"sc"
def q4  : b7:=λa k=>∃(p q:ab),a=[.val (aS p),.val (aS q)]/\(cw 4000 p)/\(cw 4000 q)/\k (.val (aS (a_ p q)))
theorem LO:ep ["line","p","turn"] 2 (bL zP):=by walk_at"sc"
def qX  : b7:=λa k=>∃(c r:ab),a=[.val (aS c),.val (aS r)]/\(cw 2000 c)/\(cw 2000 r)/\k (.val (.int (cM (c.1*r.1+c.2.1*r.2.1+c.2.2*r.2.2))))
theorem EV:ep ["a","b","n","divisor"] 3 (bL zL):=by walk_at"sc"
def qP  : b7:=λc k=>∃(a b n:Int),c=[.val (.int a),.val (.int b),.val (.int n)]/\(n≠0)/\(SB n<=9000)/\k (.val (aS (cC a b n)))
theorem ze:ep ["p","q","r","s","a","b","n"] 4 (bL zQ):=by walk_at"sc"
def qO  : b7:=λa k=>∃(p q r s:ab),a=[.val (aS p),.val (aS q),.val (aS r),.val (aS s)]/\(cw 700 p)/\(cw 700 q)/\(cw 1990 r)/\(cw 1990 s)/\((a_ (a_ p q) (a_ r s)).2.2≠0)/\k (.val (aS (nP (a_ (a_ p q) (a_ r s)))))
theorem o8:ep ["ring","p","q","line","corner","hands","left","right","place","after","between"] 3 (bL zR):=by walk_at"sc"
def qN  : b7:=λb k=>∃(a:ZO)(p q:ab),b=[.val (.lst (a.map aS)),.val (aS p),.val (aS q)]/\(cw 300 p)/\(cw 300 q)/\(∀c∈a,cw 1990 c/\aX c)/\(a.length<=1000)/\k (.val (.tup [.lst ((dc (ln (a_ p q)) (a4 (a_ p q)) a).map aS),.lst ((dc (λc => -ln (a_ p q) c) (a4 (a_ p q)) a).map aS)]))
theorem qy:ep ["sheet","p","q","left","right","ring","is_turned","step","left_ring","right_ring"] 3 (bL zS):=by walk_at"sc"
def qM  : b7:=λa k=>∃(sh:ZR)(p q:ab),a=[.val (.lst (sh.map bH)),.val (aS p),.val (aS q)]/\(cw 300 p)/\(cw 300 q)/\(∀s∈sh,∀c∈s.1,cw 1990 c/\aX c)/\(∀s∈sh,s.1.length<=1000)/\(sh.length<=1000)/\k (.val (.tup [.lst ((dE (ln (a_ p q)) (a4 (a_ p q)) sh).map bH),.lst ((dE (λc => -ln (a_ p q) c) (a4 (a_ p q)) sh).map bH)]))
theorem LP:ep ["x","y","shared"] 2 (bL zM):=by walk_at"sc"
def qK  : b7:=λc k=>∃(a b:D)(x y u v:Int),c=[.val a,.val b]/\(uE a=some [.int x,.int y])/\(uE b=some [.int u,.int v])/\(ba x y)/\(ba u v)/\(SB x<=4000)/\(SB y<=4000)/\(SB u<=4000)/\(SB v<=4000)/\k (.val (aS (cC (x*v) (u*y) (y*v))))
theorem qI:ep ["sheet","place"] 2 (bL zT):=by walk_at"sc"
def qG  : b7:=λa k=>∃(sh:ZR)(x:F2),a=[.val (.lst (sh.map bH)),.val (dR x)]/\(ba x.1 x.2)/\(SB x.1<=200)/\(SB x.2<=200)/\(∀s∈sh,∀c∈s.1,cw 1990 c/\aX c)/\(∀s∈sh,s.1.length<=1000)/\(sh.length<=1000)/\k (.val (.tup [.lst ((dE (ln (cf x)) (a4 (cf x)) sh).map bH),.lst ((dE (λc => -ln (cf x) c) (a4 (cf x)) sh).map bH)]))
theorem EW:ep ["sheet","height","above","below"] 2 (bL zU):=by walk_at"sc"
def qD  : b7:=λa k=>∃(sh:ZR)(x:F2),a=[.val (.lst (sh.map bH)),.val (dR x)]/\(ba x.1 x.2)/\(SB x.1<=200)/\(SB x.2<=200)/\(∀s∈sh,∀c∈s.1,cw 1990 c/\aX c)/\(∀s∈sh,s.1.length<=1000)/\(sh.length<=1000)/\k (.val (.tup [.lst ((dE (λc => -ln (cD x) c) (a4 (cD x)) sh).map bH),.lst ((dE (ln (cD x)) (a4 (cD x)) sh).map bH)]))
theorem m6:ep ["p","step","a","b","n","right","up","parts","shared","x","y","divisor"] 2 (bL zN):=by walk_at"sc"
def qC  : b7:=λa k=>∃(p g:ab),a=[.val (aS p),.val (aS g)]/\(aX p)/\(cw 3000 p)/\(aX g)/\(cw 1000 g)/\k (.val (aS (nP (ej g p))))
theorem qB:ep ["sheet","step"] 2 (bL zW):=by walk_at"sc"
def qA  : b7:=λa k=>∃(sh:ZR)(g:ab),a=[.val (.lst (sh.map bH)),.val (aS g)]/\(sh.length<=400)/\(∀s∈sh,DT s)/\(cX 450 g)/\k (.val (.lst ((sh.map (lT g)).map bH)))
theorem qx:ep ["one","other"] 2 (bL zH):=by walk_at"sc"
def qw  : b7:=λa k=>∃(x y u v:Int),a=[.val (dR (x,y)),.val (dR (u,v))]/\(SB x<=4000)/\(SB y<=4000)/\(SB u<=4000)/\(SB v<=4000)/\k (.val (.bl (decide (x*v<u*y))))
theorem qq:ep ["one"] 1 (bL zI):=by walk_at"sc"
def qo  : b7:=λa k=>∃(x y:Int),a=[.val (dR (x,y))]/\k (.val (dR (-x,y)))
theorem zf:ep ["one","other","shared","top","divisor"] 2 (bL zE):=by walk_at"sc"
def qe  : b7:=λa k=>∃(x y u v:Int),a=[.val (dR (x,y)),.val (dR (u,v))]/\(ba x y)/\(ba u v)/\(SB x<=4000)/\(SB y<=4000)/\(SB u<=4000)/\(SB v<=4000)/\k (.val (dR (ee (x*v+u*y) (y*v))))
theorem qb:ep ["one","other"] 2 (bL zF):=by walk_at"sc"
def qa  : b7:=λa k=>∃(x y u v:Int),a=[.val (dR (x,y)),.val (dR (u,v))]/\(ba x y)/\(ba u v)/\(SB x<=4000)/\(SB y<=4000)/\(SB u<=4000)/\(SB v<=4000)/\k (.val (dR (ee (x*v-u*y) (y*v))))
theorem EX:ep ["one","other","first","second"] 2 (bL zG):=by walk_at"sc"
def p_  : b7:=λa k=>∃(x y u v:Int),a=[.val (dR (x,y)),.val (dR (u,v))]/\(ba x y)/\(ba u v)/\(SB x<=4000)/\(SB y<=4000)/\(SB u<=4000)/\(SB v<=4000)/\k (.val (dR (ee (x*u) (y*v))))
theorem p':ep ["one"] 1 (bL zJ):=by walk_at"sc"
def p7  : b7:=λa k=>∃(x y:Int),a=[.val (dR (x,y))]/\k (.val (dR (if x<0 then -x else x,y)))
theorem io:ep ["slope","hand","wide","sheet","part","rest","steep","is_low","part_is_left","height","left","right","part_sheet","others","below","above","rest_sheet","box","down","part_step","aside","rest_step","box_step","told_box"] 5 (bL zX):=by walk_at"sc"
def p6  : b7:=λc k=>∃(s w a:F2)(b:Bool)(sh:ZR),c=[.val (dR s),.val (.str (if b=true then"high" else"low")),.val (dR w),.val (.lst (sh.map bH)),.val (dR a)]/\(eM s w a)/\(∀x∈sh,jX 60 x)/\(sh.length<=20)/\k (.val (.tup [.lst ((jr s w a b sh).map bH),.lst ((iL s w a b sh).map bH),.tup [dR (ce w a),dR (bT s a),.lst ((im s w a b sh).map bH)]]))
theorem p5:ep ["sheet"] 1 (bL zV):=by walk_at"sc"
def LQ  : b7:=λa k=>∃(sh:ZR),a=[.val (.lst (sh.map bH))]/\(sh.length<=100)/\k (.new (.lst (sh.map bH)))
theorem o9:ep ["ones","others","waiting","wide","sheet","pairs","ones_left","others_left"] 2 (bL zZ):=by walk_at"sc"
def rh  : b7:=λb k=>∃(os a:ZS),b=[.val (.lst (os.map dC)),.val (.lst (a.map dC))]/\(os.length<=40)/\(a.length<=40)/\(∀c∈os++a,c.2.length<=100)/\∀(d:ZV)(e f:ZS),(d.map (λp=>(p.1,p.2.1))++e).Perm os->(d.map (λp=>(p.1,p.2.2))++f).Perm a->∀p b,k (.deep (.dl false p [] b [d.map hJ,e.map dC,f.map dC]))
theorem LR:ep ["ratios","most"] 1 (bL zK):=by walk_at"sc"
def rf  : b7:=λb k=>∃(cs:List F2),b=[.val (.lst (cs.map dR))]/\(cs.length<64)/\(∀c∈cs,0<c.2/\SB c.1<=900/\SB c.2<=900)/\∀a:ZM,a.length=cs.length->k (.own (a.map D.int))
theorem EY:ep ["corners","places","order"] 1 (bL zY):=by walk_at"sc"
def rZ(c:F2×D):D:=.tup [dR c.1,c.2]
def q_  : b7:=λb k=>∃(cs:List (F2×D)),b=[.val (.lst (cs.map rZ))]/\(cs.length<64)/\(∀c∈cs,0<c.1.2/\SB c.1.1<=900/\SB c.1.2<=900)/\∀a:List (F2×D),a.Perm cs->k (.own (a.map rZ))
theorem j0:ep ["slope","hand","ones","other_hand","others","pairs","boxes","other_boxes","wide","sheet","other_wide","other_sheet","rest","box"] 5 (bL z0):=by walk_at"sc"
def q'  : b7:=λm k=>∃(s:F2)(Wd:F2->Prop)(L:Nat->a8->Prop)(b d:Nat)(h i:Bool)(os a:ZS),m=[.val (dR s),.val (.str (if h=true then"high" else"low")),.val (.lst (os.map dC)),.val (.str (if i=true then"high" else"low")),.val (.lst (a.map dC))]/\(l' s Wd L b)/\(d+os.length<=b/\d+a.length<=b)/\(os.length+a.length<=40)/\(∀c∈os,gN s Wd L h d c)/\(∀c∈a,gN s Wd L i d c)/\∀(e:ZV)(j l:ZU)(f g:ZS),gO s Wd L h b os f (p1 e) j->gO s Wd L i b a g (p2 e) l->(f=[]\/g=[])->e.length<=os.length+a.length->j.length+l.length<=os.length+a.length->f.length+g.length<=os.length+a.length->k (.new (.tup [.lst (e.map hJ),.lst (j.map fp),.lst (l.map fp),.lst (f.map dC),.lst (g.map dC)]))
theorem q9:ep ["slope","hand","rest","other"] 4 (bL z1):=by walk_at"sc"
def q8  : b7:=λi k=>∃(s:F2)(Wd:F2->Prop)(L:Nat->a8->Prop)(b e:Nat)(d:Bool)(os a:ZS),i=[.val (dR s),.val (.str (if d=true then"high" else"low")),.val (.lst (os.map dC)),.val (.lst (a.map dC))]/\(l' s Wd L b)/\(e+os.length<=b/\e+a.length<=b)/\(os.length+a.length<=40)/\(∀c∈os,gN s Wd L d e c)/\(∀c∈a,gN s Wd L d e c)/\(dN os=dN a)/\∀(f:ZV)(g h:ZU),gO s Wd L d b os [] (p1 f) g->gO s Wd L d b a [] (p2 f) h->f.length<=os.length+a.length->g.length+h.length<=os.length+a.length->k (.new (.tup [.lst (f.map hJ),.lst (g.map fp),.lst (h.map fp)]))
theorem ku:ep ["_law_script","_law_bag_here","_law_slope_here","_law_hand","_law_whole_here","_law_most","_law_cuts","_law_rest_here","_law_other","_law_ones","_law_others","_law_found","_law_piece"] 1 (bL AB):=by walk_at"sc"
structure q7(K:Su)(mg:Str->Option SL):Prop where
 fe:cH K mg "greatest_divisor" zD ["one","other"]
 lQ:cH K mg "plus" zE ["one","other"]
 kx:cH K mg "minus" zF ["one","other"]
 kn:cH K mg "times" zG ["one","other"]
 km:cH K mg "under" zH ["one","other"]
 jh:cH K mg "against" zI ["one"]
 h2:cH K mg "unsigned" zJ ["one"]
 kq:cH K mg "ranks" zK ["ratios"]
 kr:cH K mg "point" zL ["a","b","n"]
 m7:cH K mg "at" zM ["x","y"]
 lP:cH K mg "slid" zN ["p","step"]
 jf:cH K mg "crossed" zO ["one","other"]
 jc:cH K mg "hand_of" zP ["line","p"]
 lS:cH K mg "meet" zQ ["p","q","r","s"]
 ir:cH K mg "cut_ring" zR ["ring","p","q"]
 hN:cH K mg "cut_sheet" zS ["sheet","p","q"]
 gi:cH K mg "cut_upright" zT ["sheet","place"]
 hP:cH K mg "cut_level" zU ["sheet","height"]
 jN:cH K mg "copied" zV ["sheet"]
 kv:cH K mg "moved" zW ["sheet","step"]
 ko:cH K mg "split" zX ["slope","hand","wide","sheet","part"]
 f':cH K mg "widest_last" zY ["corners"]
 ky:cH K mg "alike" zZ ["ones","others"]
 i1:cH K mg "matched" z0 ["slope","hand","ones","other_hand","others"]
 jM:cH K mg "evened" z1 ["slope","hand","rest","other"]
 ip:cH K mg "_law_cell" z2 ["_law_script","_law_k"]
 jb:cH K mg "_law_bag" z3 ["_law_cell_here"]
 il:cH K mg "_law_draw" z4 ["_law_bag_here","_law_many"]
 gb:cH K mg "_law_measure" z5 ["_law_one","_law_other"]
 i8:cH K mg "_law_low" z6 ["_law_top","_law_bottom"]
 h3:cH K mg "_law_spot" z7 ["_law_x","_law_y","_law_bottom"]
 hy:cH K mg "_law_whole" z8 ["_law_found"]
 h9:cH K mg "_law_line" z9 ["_law_p","_law_q"]
 hM:cH K mg "_law_count" z' ["_law_tally","_law_rings","_law_number"]
 h8:cH K mg "_law_part" Aa ["_law_rings","_law_others"]
 ie:cH K mg "_law_left" Ab ["_law_p","_law_q","_law_r"]
 gg:cH K mg "_law_is_spot" Ac ["_law_p"]
 fx:cH K mg "_law_is_bulging" Ad ["_law_ring"]
 gh:cH K mg "_law_between" Ae ["_law_p","_law_q","_law_part_here","_law_many"]
 i_:cH K mg "_law_cut" Af ["_law_bag_here","_law_ring"]
 hC:cH K mg "_law_sheet" Ag ["_law_bag_here","_law_ring","_law_cuts"]
 hK:cH K mg "_law_first" Ah ["_law_piece"]
 ij:cH K mg "_law_kept" Ai ["_law_olds","_law_news"]
 h_:cH K mg "_law_lies" Aj ["_law_sheet_here","_law_ring"]
 g_:cH K mg "_law_copied" Ak ["_law_sheet_here"]
 f_:cH K mg "_law_product" Al ["_law_one","_law_other"]
 ia:cH K mg "_law_less" Am ["_law_one","_law_other"]
 i3:cH K mg "_law_pin" An ["_law_x","_law_y"]
 ja:cH K mg "_law_box" Ao ["_law_wide","_law_high_here"]
 g5:cH K mg "_law_is_box" Ap ["_law_found"]
 gV:cH K mg "_law_is_low" Aq ["_law_found"]
 h4:cH K mg "_law_size" Ar ["_law_bag_here"]
 ik:cH K mg "_law_high" As ["_law_slope_here","_law_wide"]
 g8:cH K mg "_law_corner" At ["_law_slope_here","_law_hand","_law_wide"]
 hA:cH K mg "_law_slope" Au ["_law_bag_here"]
 gS:cH K mg "_law_shares" Av ["_law_bag_here","_law_whole_here","_law_many"]
 h7:cH K mg "_law_rest" Aw ["_law_bag_here","_law_slope_here","_law_hand","_law_whole_here","_law_many","_law_cuts"]
 gT:cH K mg "_law_pieces" Ax ["_law_some"]
 fv:cH K mg "_law_right_pair" Ay ["_law_pair","_law_slope_here","_law_hand"]
 hD:cH K mg "_law_right" Az ["_law_found","_law_slope_here","_law_hand","_law_rest_here","_law_other","_law_whole_here"]
 ic:cH K mg "_law_lent" AA ["_law_some"]
 eE:xq K mg "NOTHING" [0,1]
 eP:yX K mg "widest_last"
section ag7
variable(B:LF mg)(Y:q7 K mg)
include B Y
theorem EZ :
  b6 P w K mg base "_law_cell" ["_law_script","_law_k"] 1 (cj K 2 GP):=by
 refine b6.imp (sp:=GO K) ?_ (λg H Q E h=>Qm h);refine Y.ip.ok (k:=0) r3 (λg H Q E h=>?_) (λf i A d s H g Q E n h=>?_)
 ·obtain⟨a,k,b,rfl,e,j,q⟩:=h;rfl
 obtain⟨a,k,b,rfl,e,j,q⟩:=h;refine⟨_,(ni (we (qJ oo (gc 1) (pw A5 (by rfl) B.e' (by decide +kernel) (d2 (gc 0) e1)) (dH _)) (pj (me (lG A3 (gc 0) (gc 1) (λ_ _=>rfl)))) wc) (pj (me fA))),?_⟩;refine⟨_,rfl,_,rfl,a,_,rfl,.inl e,_,_,rfl,rfl,_,rfl,?_⟩;refine hB (λc=>?_) (λc=>?_)
 ·rw[Sv]at c;have l:k.toNat<b.length:=by lia
  have m:k=((k.toNat:Nat):Int):=by lia
  have z:eF (b.map V.int) ((k.toNat:Nat):Int)=some (.int b[k.toNat]):=CJ (by rw[SP,SY l]<;>rfl);rw[<-m]at z;exact⟨_,rfl,_,rfl,a,_,_,_,rfl,rfl,e,z,q _⟩
 exact q _
theorem E0 :
  b6 P w K mg base "_law_bag" ["_law_cell_here"] 1 (cj K 1 GR):=by
 refine b6.imp (sp:=GQ) ?_ (λd H Q E h=>Qn h);refine Y.jb.ok (k:=0) r1 (λd H Q E h=>?_) (λf e A a s H d Q E i h=>?_)
 ·obtain⟨c,rfl,q⟩:=h;rfl
 obtain⟨c,rfl,q⟩:=h;refine⟨_,(ni (we (qJ wq (gc 0) (gj AT fA fA) (dH _)) (pj (me (tX (d2 (gj om (gc 0) (gj t4 (gj AT fA fA) (gj AT fA fA))) (d2 (gj om (gc 0) fA) e1))))) wc) (pj (me (tX (d2 fA (d2 (gj om (gj wo (gj t4 (gj om (gc 0) fA) fA) fA) fA) e1)))))),?_⟩;walk_at"rd";refine hB (λg=>?_) (λg=>?_)
 ·walk_at"rd";refine(λp b=>q p _ _ b (Ug _ (by decide +kernel)) (Ug _ (by decide)) (Uo _ (by decide)))
 have j:=Ug c (show(2147483647:Int)≠0 by decide);have l:=Uo c (show(0:Int)<2147483647 by decide);walk_at"rd";refine(λp b=>q p _ _ b (by decide) (Ug _ (by decide)) (Uo _ (by decide)))
theorem h5 :
  b6 P w K mg base "_law_draw" ["_law_bag_here","_law_many"] 1 (cj K 2 (GT 400)):=by
 refine b6.imp (sp:=GS 400) ?_ (λj H Q E h=>Qo h);refine Y.il.ok (k:=0) LG (λj H Q E h=>?_) (λf v A d s H j Q E G h=>?_)
 ·obtain⟨b,m,rfl,⟨x,y,e,l,n,o⟩,a,B,q⟩:=h;rfl
 obtain⟨b,m,rfl,⟨x,y,e,l,n,o⟩,a,B,q⟩:=h;refine⟨_,(ni (we (qJ wq (lG pA (gc 0) fA (λ_ _=>rfl)) (gc 1) (dH _)) (ni (qH (i:=2) LG.nd rfl (SG rfl) (gj om (lG pA (gc 0) fA (λ_ _=>rfl)) (gc 1))) (ni (r9 (gj wG (lG pA (gc 0) fA (λ_ _=>rfl)) (gc 1)) (AJ (gc 0) fA A4)) (pj (me (gc 2))))) wc) (ni (r9 fA (AJ (gc 0) fA A4)) (ni (r9 (gj om (gj wo (gj t4 (lG pA (gc 0) fA (λ_ _=>rfl)) fA) fA) fA) (AJ (gc 0) fA A4)) (pj (me (gj om (gj wG (gj om (gj t4 (lG pA (gc 0) fA (λ_ _=>rfl)) (gj wo (gj wG (lG pA (gc 0) fA (λ_ _=>rfl)) fA) fA)) fA) fA) (gc 1))))))),?_⟩;walk_at"rd";refine hB (λg=>?_) (λg=>?_)
 ·walk_at"rd";refine⟨b,_,_,_,rfl,rfl,e,rfl,?_⟩;refine⟨_,rfl,?_⟩;refine q _ _ (ny.upd b H _) ⟨_,_,dx,?_,n,o⟩ (Ug _ (by lia)) (Uo _ a);exact Int.fdiv_nonneg l (Tp a)
 walk_at"rd";refine⟨b,_,_,_,rfl,rfl,e,rfl,?_⟩;have p:(ed H b (.lst ([V.int x,V.int y].set (Vx 0) (V.int 0)))) b=some (.lst [.int 0,.int y]):=dx;have r:=ny.upd b H (.lst ([V.int x,V.int y].set (Vx 0) (V.int 0)));generalize ed H b (.lst ([V.int x,V.int y].set (Vx 0) (V.int 0)))=t at p r⊢;have c:=Ug (y*48271+4099) (show(2147483647:Int)≠0 by decide);have u:=Uo (y*48271+4099) (show(0:Int)<2147483647 by decide);walk_at"rd";refine⟨b,_,_,_,rfl,rfl,p,rfl,?_⟩;generalize(y*48271+4099)%2147483647=z at c u⊢;have C:(ed t b (.lst ([V.int 0,V.int y].set (Vx 1) (V.int z)))) b=some (.lst [.int 0,.int z]):=dx;have I:=Int.ediv_nonneg c (show(0:Int)<=65536 by decide);have J:z/65536<=z:=Int.ediv_le_self _ c;have F:Int.fdiv z 65536=z/65536:=Int.fdiv_eq_ediv_of_nonneg z (by decide);have L:SB (Int.fdiv z 65536+7)<=64:=by rw[F];exact wI (by lia) (by lia)
 walk_at"rd";refine q _ _ (r.trans (ny.upd b t _)) ⟨_,_,C,by decide,c,u⟩ (Ug _ (by lia)) (Uo _ a)
theorem qz :
  b6 P w K mg base "_law_measure" ["_law_one","_law_other"] 2 (cj K 2 rT):=by
 refine dq Y.gb tE rfl (λ_ _ _ _ _ _ _ p=>⟨_,(a1 (cx 0 tE.nd (sx (ah 0) (by rfl) B.jk)) (a1 (cx 1 tE.nd (sx (ah 1) (by rfl) B.jk)) (a1 (BC PassesOwn.never (g7 (f:=λi j=>decide (j<i)) pq (ah 1) bo (dH _)) (a1 (cx 2 tE.nd (wP (ah 0) (ah 1))) (a1 (cx 0 tE.nd (ah 1)) (bE (cx 1 tE.nd (ah 2)))))) (bE (cI (ah 0)))))),?_⟩);rintro q k r ⟨a,b,rfl,l⟩;refine cY rfl ?_;walk_at"wd";refine⟨λm c=>∃(x y:Int)(v:aA),c=[.val (.int x),.val (.int y),v]/\0<=x/\0<=y/\Ss x y=Ss a b/\m=y.toNat,⟨_,_,_,_,rfl,?_,?_,Gh a b,rfl⟩,?_⟩
 ·split<;>lia
 ·split<;>lia
 rintro m c ⟨x,y,v,rfl,d,n,h,rfl⟩;walk_at"wd";refine hB (λg=>?_) (λg=>?_)
 ·walk_at"wd";have o:=Ug x (show y≠0 by lia);have s:=Uo x g;exact⟨_,by lia,_,_,_,rfl,n,o,by rw[Gg d g];exact h,rfl⟩
 have e:y=0:=by lia
 subst e;refine⟨_,rfl,?_⟩;rw[<-gcd_zero_left d,h];exact l
theorem zh :
  b6 P w K mg base "_law_low" ["_law_top","_law_bottom"] 3 (cj K 2 rS):=by
 refine dq Y.i8 EM rfl (λ_ _ _ _ _ _ _ d=>⟨_,(a1 (cx 2 EM.nd (bf (qz B Y) d (aC (ah 0) (aC (ah 1) a9)))) (a1 (fw (g7 (f:=λi j=>decide (i<j)) oo (ah 1) bo (dH _)) (bE (cx 2 EM.nd (pE (ah 2)))) fH) (bE (cI (dV (a2 (fD (ah 0) (ah 2)) (a2 (fD (ah 1) (ah 2)) b0))))))),?_⟩);rintro m k n ⟨t,b,rfl,o,l,c⟩;refine cY rfl ?_;have p:=qS (t:=t) (b:=b) (by lia);have q:=oK (a:=t) (b:=b) (by lia) l;have e:uC t b=((Ss t b:Nat):Int):=by unfold uC;rw[Tl (by lia)]
 have c:k (.val (.tup [.int (t.fdiv ((Ss t b:Nat):Int)),.int (b.fdiv ((Ss t b:Nat):Int))])):=by
  have h:=c;unfold dR ee at h;rwa[e]at h
 walk_at"w";refine⟨_,_,rfl,?_⟩;walk_at"wd";refine hB (λg=>absurd g (by lia)) (λ_=>?_);walk_at"w";exact c
theorem zi :
  b6 P w K mg base "_law_spot" ["_law_x","_law_y","_law_bottom"] 3 (cj K 3 rM):=by
 refine dq Y.h3 LH rfl (λ_ _ _ _ _ _ _ d=>⟨_,(a1 (cx 3 LH.nd (bf (qz B Y) d (aC (bf (qz B Y) d (aC (ah 0) (aC (ah 1) a9))) (aC (ah 2) a9)))) (bE (cI (dV (a2 (fD (ah 0) (ah 3)) (a2 (fD (ah 1) (ah 3)) (a2 (fD (ah 2) (ah 3)) b0))))))),?_⟩);rintro o k p ⟨x,y,n,rfl,q,i,c⟩;refine cY rfl ?_;walk_at"w";refine⟨_,_,rfl,?_⟩;walk_at"w";refine⟨_,_,rfl,?_⟩;have f:n≠0:=by lia
 have j:=Hc (a:=x) (b:=y) f;have l:=Hd (a:=x) (b:=y) f i;have e:k7 x y n=g3 x y n:=by unfold k7;rw[Tl (by lia)]
 have m:((Ss ((Ss x y:Nat):Int) n:Nat):Int)=g3 x y n:=Re x y n
 have c:k (.val (.tup [.int (x.fdiv (g3 x y n)),.int (y.fdiv (g3 x y n)),.int (n.fdiv (g3 x y n))])):=by
  have h:=c;unfold aS cC at h;rwa[e]at h
 rw[m];generalize g3 x y n=g at j l c⊢;walk_at"w";exact c
theorem E1 :
  b6 P w K mg base "_law_whole" ["_law_found"] 2 (cj K 1 rJ):=by
 refine dq Y.hy rK rfl (λ_ _ _ _ _ _ _ b=>⟨_,(bE (cI (pF (lL (T:="int") (ah 0) (by rfl) B.ec (lC (v:=.ty "int") (u:=.type "int") (by rfl) B.jI (by decide +kernel) rfl) rfl rfl rfl) (su (Pt (lL (T:="bool") (ah 0) (by rfl) B.ec (lC (v:=.ty "bool") (u:=.type "bool") (by rfl) B.kW (by decide +kernel) rfl) rfl rfl rfl)))))),?_⟩);rintro c k d ⟨i,rfl,a⟩;refine cY rfl ?_;refine⟨_,rfl,_,_,rfl,λ_=>rfl,_,rfl,Gf ?_⟩;exact⟨_,rfl,_,_,rfl,λ_=>rfl,_,rfl,a⟩
theorem q6 :
  b6 P w K mg base "_law_line" ["_law_p","_law_q"] 3 (cj K 2 sX):=by
 refine dq Y.h9 tF rfl (λ_ _ _ _ _ _ _ o=>⟨_,(a1 (cx 2 tF.nd (g6 (cB (ei 0) (ei 1)) (cB (ei 0) (ei 1)))) (a1 (cx 3 tF.nd (g6 (cB (ei 0) (ei 1)) (cB (ei 0) (ei 1)))) (a1 (cx 4 tF.nd (g6 (cB (ei 0) (ei 1)) (cB (ei 0) (ei 1)))) (a1 (cx 5 tF.nd (bf (qz B Y) o (aC (bf (qz B Y) o (aC (ah 2) (aC (ah 3) a9))) (aC (ah 4) a9)))) (a1 (fw (k3 (eN (g7 (f:=λi j=>decide (i<j)) oo (ah 2) bo (dH _)) (mr (k3 (kO (g7 (f:=λi j=>decide (i=j)) nv (ah 2) bo (dH _)) (Gx (g7 (f:=λi j=>decide (i<j)) oo (ah 3) bo (dH _)))))))) (bE (cx 5 tF.nd (pE (ah 5)))) fH) (bE (cI (dV (a2 (fD (ah 2) (ah 5)) (a2 (fD (ah 3) (ah 5)) (a2 (fD (ah 4) (ah 5)) b0))))))))))),?_⟩);rintro H k I ⟨p,q,rfl,w,h,m,e⟩;refine cY (r:=[.val (aS p),.val (aS q),.no,.no,.no,.no]) rfl ?_;have J:=h.a;have L:=h.b;have M:=h.c;have O:=m.a;have Q:=m.b;have R:=m.c;have s:SB (a_ p q).1<=8500:=by show SB (p.2.1*q.2.2-p.2.2*q.2.1)<=_;walk_at"bits"
 have t:SB (a_ p q).2.1<=8500:=by show SB (p.2.2*q.1-p.1*q.2.2)<=_;walk_at"bits"
 have x:SB (a_ p q).2.2<=8500:=by show SB (p.1*q.2.1-p.2.1*q.1)<=_;walk_at"bits"
 walk_at"w";refine⟨(a_ p q).1,(a_ p q).2.1,rfl,?_⟩;walk_at"wd";refine⟨((Ss (a_ p q).1 (a_ p q).2.1:Nat):Int),(a_ p q).2.2,rfl,?_⟩;dsimp only[lK];refine cY (r:=[.val (aS p),.val (aS q),.val (.int (a_ p q).1),.val (.int (a_ p q).2.1),.val (.int (a_ p q).2.2),.val (.int (li (a_ p q)))]) rfl ?_;unfold e5 at e;generalize a_ p q=l at w s t x e;refine jg (λu=>u=[.val (aS p),.val (aS q),.val (.int l.1),.val (.int l.2.1),.val (.int l.2.2),.val (.int (hI l))]) ?_ (λN v=>?_);rotate_left
 ·have yes:mU l->N [.val (aS p),.val (aS q),.val (.int l.1),.val (.int l.2.1),.val (.int l.2.2),.val (.int (-li l))]:=λd=>v _ (by unfold hI;rw[SZ d]);have no:¬mU l->N [.val (aS p),.val (aS q),.val (.int l.1),.val (.int l.2.1),.val (.int l.2.2),.val (.int (li l))]:=λd=>v _ (by unfold hI;rw[Tl d]);refine⟨_,rfl,_,_,rfl,rfl,_,rfl,hB (λg=>?_) (λg=>?_)⟩
  ·exact⟨_,rfl,_,rfl,yes (.inl g)⟩
  refine⟨_,rfl,_,_,rfl,rfl,_,rfl,hB (λn=>?_) (λn=>no λd=>d.elim g λz=>n z.1)⟩;refine⟨_,rfl,_,_,rfl,rfl,_,rfl,hB (λg3=>?_) (λg3=>no λd=>d.elim g λz=>g3 z.2)⟩;exact⟨_,rfl,_,rfl,yes (.inr ⟨n,g3⟩)⟩
 rintro u rfl;have S:=yi w;have T:=B1 s t w;obtain⟨y,A,C⟩:=vd l;have E:=Wn y;have F:=Wn A;have G:=Wn C;have e:k (.val (.tup [.int (l.1.fdiv (hI l)),.int (l.2.1.fdiv (hI l)),.int (l.2.2.fdiv (hI l))])):=by rw[E,F,G];exact e
 walk_at"w";exact e
theorem LS :
  b6 P w K mg base "_law_count" ["_law_tally","_law_rings","_law_number"] 4 (yf K 3 sV):=by
 refine Cx Y.hM vU rfl (λ_ _ _ _ _ _ _ v=>⟨_,(bE (k4 PassesOwn.never rfl (fP (ah 1)) (cO 3 vU.nd) (bE (k4 PassesOwn.never rfl (wU (j' (ah 3) (by rfl) B.e') (by rfl) B.fo) (cO 4 vU.nd) (a1 (GD (i:=5) (j:=6) rfl vU.nd rfl rfl (by decide) rfl rfl (a2 (ho (ah 3) (g6 (ah 4) bo) (λ_ _=>rfl)) (a2 (ho (ah 3) (ah 4) (λ_ _=>rfl)) b0)) rfl) (a1 (cx 7 vU.nd (bf (q6 B Y) v (aC (ah 5) (aC (ah 6) a9)))) (a1 (I8 (b:=true) 0 (qd v) (dV (a2 (ah 7) (a2 (ah 5) b0))) (fZ (I7 (b:=true) 0 (qd v) (dV (a2 (ah 7) (a2 (ah 5) b0))) bo) (ah 2))) (bE (I8 (b:=true) 0 (qd v) (dV (a2 (ah 7) (a2 (ah 6) b0))) (g6 (I7 (b:=true) 0 (qd v) (dV (a2 (ah 7) (a2 (ah 6) b0))) bo) (ah 2))))))))))),?_⟩);rintro b t M aH aJ k X ⟨U,rs,m,rfl,rfl,Z,ae,v,aN,X,af⟩;refine cY rfl ?_;subst Z;have aM:20000<=TI:=by decide
 refine⟨_,rfl,_,rfl,?_⟩;refine oJ (f:=f5) (rs:=rs) (done:=[]) (λpre r=>∃(c:List Z3)(s:ZM)(ah y A C E:aA),r=[.own (.d true t c (s.map D.int)),.val (.lst (rs.map f5)),.val (.int m),ah,y,A,C,E]/\s.length=c.length/\c.length<=M.length+2*(pre.map S3).sum/\∀a,(bu c s a).getD 0=(bu M U a).getD 0+m*qh a pre) ⟨M,U,_,_,_,_,_,rfl,ae,by simp,λa=>by simp[qh]⟩ ?_ (λr h=>?_);rotate_left
 ·obtain⟨c,s,ah,y,A,C,E,rfl,O,Q,G⟩:=h;rw[Tf]at Q G;exact⟨c,_,rfl,af c s O Q G⟩
 rintro pre l F r R ⟨c,s,ah,y,A,C,E,rfl,O,Q,G⟩ N H;rw[Tf]at R;have mem:l∈rs:=by rw[R];simp
 obtain⟨aP,ag,W⟩:=v l mem;have aQ:(rs.map S3).sum=(pre.map S3).sum+(l.length+(F.map S3).sum):=by rw[R,SF,U7,SJ,S']
 have len:(l.map aS).length=l.length:=Sv ..;refine⟨_,rfl,_,rfl,_,rfl,by lia,by rw[len];lia,?_⟩;rw[len,show((l.length:Nat):Int).toNat=l.length by lia];refine G' (λi r=>∃(g:List Z3)(n:ZM)(y A C E:aA),r=[.own (.d true t g (n.map D.int)),.val (.lst (rs.map f5)),.val (.int m),.val (f5 l),y,A,C,E]/\n.length=g.length/\g.length<=c.length+2*i/\∀a,(bu g n a).getD 0=(bu c s a).getD 0+m*qg a ((du l).take i)) ⟨c,s,_,_,_,_,rfl,O,by lia,λa=>by simp[qg]⟩ ?_ (λr h=>?_);rotate_left
 ·obtain⟨g,n,y,A,C,E,rfl,I,aj,J⟩:=h;have ak:=DF l;rw[ak]at J;refine H _ ⟨g,n,_,_,_,_,_,rfl,I,?_,λa=>?_⟩
  ·rw[SF,U7];simp only[SJ,TA,S',Vw];lia
  rw[J a,G a];unfold qh;rw[SF,U7];simp only[SJ,TA,S',Vw];grind
 clear H;rintro i r hc ⟨g,n,y,A,C,E,rfl,I,aj,J⟩ N H;obtain⟨p,q,aq,ar,au,av,aw,ax⟩:=B4 hc;refine⟨_,rfl,_,rfl,_,_,rfl,rfl,_,_,_,.inr rfl,rfl,au,_,rfl,_,rfl,_,_,_,.inr rfl,rfl,av,aS p,aS q,rfl,?_⟩;refine⟨_,rfl,_,rfl,rfl,p,q,rfl,ag _ aw,W p aq,W q ar,?_⟩;dsimp only[lK];obtain⟨L,ay⟩:=Jp (k:=eJ p q p) (x:=(bu g n (eJ p q p)).getD 0+m) I;refine jg (λr=>r=[.own (.d true t (eX g (eJ p q p)) ((g9 g n (eJ p q p) ((bu g n (eJ p q p)).getD 0+m)).map D.int)),.val (.lst (rs.map f5)),.val (.int m),.val (f5 l),.val (.int i),.val (aS p),.val (aS q),.val (aS (e5 p q))]) ?_ (λaR aB=>?_);rotate_left
 ·refine⟨t,g,_,rfl,_,rfl,_,rfl,e7,eJ p q p,rfl,(λz=>nomatch z),_,rfl,(bu g n (eJ p q p)).getD 0,m,Js _ _ _,rfl,?_⟩;refine⟨t,g,_,rfl,_,rfl,_,rfl,e7,eJ p q p,rfl,(λz=>nomatch z),by lia,?_⟩;exact aB _ (by rw[Jq];rfl)
 rintro r rfl;generalize S:eX g (eJ p q p)=o at L ay;generalize T:g9 g n (eJ p q p) ((bu g n (eJ p q p)).getD 0+m)=u at L
 have g3:∀a,(bu o u a).getD 0=(bu g n a).getD 0+(if a=eJ p q p then m else 0):=λa=>by
  rw[<-S,<-T,Jo _ _ a I];by_cases e:a=eJ p q p
  ·rw[SZ e,SZ e,e];rfl
  rw[Tl e,Tl e];lia
 obtain⟨aD,aT⟩:=Jp (k:=eJ p q q) (x:=(bu o u (eJ p q q)).getD 0-m) L;refine⟨t,o,_,rfl,_,rfl,_,rfl,e7,eJ p q q,rfl,(λz=>nomatch z),_,rfl,(bu o u (eJ p q q)).getD 0,m,Js _ _ _,rfl,?_⟩;refine⟨t,o,_,rfl,_,rfl,_,rfl,e7,eJ p q q,rfl,(λz=>nomatch z),by lia,?_⟩;refine H _ ⟨eX o (eJ p q q),g9 o u (eJ p q q) ((bu o u (eJ p q q)).getD 0-m),.val (.int i),.val (aS p),.val (aS q),.val (aS (e5 p q)),by rw[Jq];rfl,aD,by lia,λa=>?_⟩;rw[Jo _ _ a L,ax]
 have aE:qg a ((du l).take i++[(p,q)])=qg a ((du l).take i)+vg a (p,q):=by
  unfold qg;rw[SF,U7];simp
 have aG:((if a=eJ p q q then some ((bu o u (eJ p q q)).getD 0-m)else bu o u a).getD 0:Int)=(bu o u a).getD 0-(if a=eJ p q q then m else 0):=by
  by_cases e:a=eJ p q q
  ·rw[SZ e,SZ e,e];rfl
  rw[Tl e,Tl e];lia
 rw[aG,g3 a,J a,aE];unfold vg;dsimp only;split<;>split<;>grind
theorem LV :
  b6 P w K mg base "_law_part" ["_law_rings","_law_others"] 5 (cj K 2 sT):=by
 refine dq Y.h8 LI rfl (λ_ _ _ _ _ _ _ g=>⟨_,(a1 (z_ (b:=true) (i:=2) LI.nd rfl (T6 rfl)) (a1 (I9 2 (LS B Y) g (by rfl) (a2 (ah 0) (a2 bo b0))) (a1 (I9 2 (LS B Y) g (by rfl) (a2 (ah 1) (a2 (pE bo) b0))) (zr 2 (bE (cI (sD (dA (ii (ts:=["_law_key"]) (fr:=["_law_tally"]) (js:=[2]) (zq (ah 2)) (λ_ _ _ _=>(ez (i:=0) (show SS (["_law_key","_law_tally"]:ZX) by decide +kernel) rfl (SG rfl))) (λ_ _ _ _=>gU) (λ_ _ _ _=>(lJ (f:=λi j=>decide (i=j)) nv (zt true (qd g) (ah 1) (ah 0) (λ_ _=>rfl)) bo (dH _))) ⟨rfl,by decide +kernel,rfl,by decide +kernel,gs (Th.mpr ⟨rfl,(S5 _)⟩),gG rfl,by walk_at"ffr",rfl⟩)) rfl (by rfl) B.ji))))))),?_⟩);rintro H k r ⟨s,t,rfl,g,u,r,l,m⟩;refine cY rfl ?_;have I:20000<=TI:=by decide
 refine⟨true,none,[],[],rfl,_,rfl,rfl,[],s,1,rfl,rfl,rfl,rfl,g,.inl rfl,by simp;lia,λn x y p A=>?_⟩;refine⟨true,none,n,_,rfl,_,rfl,1,rfl,rfl,x,t,-1,rfl,rfl,rfl,y,u,.inr rfl,?_,λc o C J E=>?_⟩
 ·simp at p;lia
 have z:∀a,(bu c o a).getD 0=0:=λa=>by
  rw[E a,A a,B2 l a];simp[bu];lia
 simp at p;refine⟨true,none,c,_,rfl,_,rfl,true,c,_,rfl,by rw[Sv];lia,?_⟩;refine jK (f:=gB true) (h:=λ_=>D.bl true) (λa F k m=>?_) ?_
 ·have some:bu c (o.map D.int) a=some (.int 0):=by
   have e:=z a;rw[hX];cases q:bu c o a with
   |none=>exact absurd F ((qc C).mp q)
   |some v=>rw[q]at e;rw[show v=0 from e];rfl
  exact⟨_,rfl,_,rfl,c,_,a,_,rfl,rfl,(λz=>nomatch z),some,_,_,rfl,rfl,m⟩
 refine⟨_,rfl,λd G=>?_,m⟩;obtain⟨_,_,e⟩:=SI.mp G;exact e.symm
theorem LW :
  b6 P w K mg base "_law_left" ["_law_p","_law_q","_law_r"] 2 (cj K 3 sN):=by
 refine dq Y.ie EN rfl (λ_ _ _ _ _ _ _ m=>⟨_,(a1 (cx 3 EN.nd (cB (ei 0) (g6 (cB (ei 1) (ei 2)) (cB (ei 1) (ei 2))))) (a1 (DJ (i:=3) EN.nd rfl (SG rfl) (cB (ei 0) (g6 (cB (ei 1) (ei 2)) (cB (ei 1) (ei 2))))) (bE (cI (lJ (f:=λi j=>decide (j<i)) pq (fZ (ah 3) (cB (ei 0) (g6 (cB (ei 1) (ei 2)) (cB (ei 1) (ei 2))))) bo (dH _)))))),?_⟩);rintro n k o ⟨p,q,r,rfl,d,g,h,l⟩;refine cY rfl ?_;have s:=d.a;have t:=d.b;have u:=d.c;have v:=g.a;have x:=g.b;have y:=g.c;have z:=h.a;have A:=h.b;have B:=h.c;have e:bn p q r=p.1*(q.2.1*r.2.2-q.2.2*r.2.1)+p.2.1*(q.2.2*r.1-q.1*r.2.2)+p.2.2*(q.1*r.2.1-q.2.1*r.1):=by unfold bn a_;grind
 rw[e]at l;walk_at"w";exact l
theorem LX :
  b6 P w K mg base "_law_is_spot" ["_law_p"] 3 (cj K 1 sL):=by
 refine dq Y.gg sM rfl (λ_ _ _ _ _ _ _ a=>⟨_,(a1 (fw (k3 (eN (hn (fl (lL (T:="tuple") (ah 0) (by rfl) B.ec (lC (v:=.ty "tuple") (u:=.type "tuple") (by rfl) B.fj (by decide +kernel) rfl) rfl rfl rfl))) (eN (g7 (f:=λi j => !decide (i=j)) qR (j' (ah 0) (by rfl) B.e') bo (dH _)) (mr (hn (fl (sD (dA (ii (ts:=["_law_number"]) (fr:=[]) (js:=[]) (BD (ah 0)) (λ_ _ _ _=>(ez (i:=0) (show SS (["_law_number"]:ZX) by decide +kernel) rfl (SG rfl))) (λ_ _ _ _=>gU) (λ_ _ _ _=>(bf (E1 B Y) a (aC (ah 0) a9))) ⟨rfl,by decide +kernel,rfl,by decide +kernel,gs (S5 _),gG rfl,by walk_at"ffr",rfl⟩)) rfl (by rfl) B.ji))))))) (bE (cI ix)) fH) (bE (cI (pF (lJ (f:=λi j=>decide (j<i)) pq (ei 0) bo (dH _)) (su (lJ (f:=λi j=>decide (i=j)) nv (bf (qz B Y) a (aC (bf (qz B Y) a (aC (ei 0) (aC (ei 0) a9))) (aC (ei 0) a9))) bo (dH _))))))),?_⟩);rintro n k o ⟨p,rfl,c,b⟩;refine cY rfl ?_;have g:((Ss ((Ss p.1 p.2.1:Nat):Int) p.2.2:Nat):Int)=1:=by rw[c.2];rfl
 have l:=c.1;refine nH (λN m=>?_) ?_
 ·refine⟨_,rfl,_,_,rfl,λ_=>rfl,_,rfl,fk ?_⟩;refine⟨_,rfl,_,rfl,_,_,rfl,rfl,_,rfl,fk ?_⟩;refine⟨_,rfl,_,rfl,h6,?_⟩;refine jK (f:=D.int) (h:=λ_=>D.bl true) (rs:=[p.1,p.2.1,p.2.2]) (λi q k b=>⟨_,rfl,rfl,i,rfl,b⟩) ?_;exact⟨_,rfl,λd e=>by simp at e;exact e,_,rfl,fk m⟩
 walk_at"w";rw[SZ (XA l)];walk_at"w";refine⟨_,_,rfl,?_⟩;walk_at"w";refine⟨_,_,rfl,?_⟩;rw[g];exact⟨_,_,rfl,rfl,b⟩
theorem ov :
  b6 P w K mg base "_law_is_bulging" ["_law_ring"] 4 (cj K 1 sC):=by
 refine dq Y.fx EO rfl (λ_ _ _ _ _ _ _ o=>⟨_,(a1 (fw (k3 (eN (hn (fl (lL (T:="list") (ah 0) (by rfl) B.ec (lC (v:=.ty "list") (u:=.type "list") (by rfl) B.hp (by decide +kernel) rfl) rfl rfl rfl))) (eN (g7 (f:=λi j=>decide (i<j)) oo (j' (ah 0) (by rfl) B.e') bo (dH _)) (mr (hn (fl (sD (dA (ii (ts:=["_law_p"]) (fr:=[]) (js:=[]) (fP (ah 0)) (λ_ _ _ _=>(ez (i:=0) (show SS (["_law_p"]:ZX) by decide +kernel) rfl (SG rfl))) (λ_ _ _ _=>gU) (λ_ _ _ _=>(bf (LX B Y) o (aC (ah 0) a9))) ⟨rfl,by decide +kernel,rfl,by decide +kernel,gs (S5 _),gG rfl,by walk_at"ffr",rfl⟩)) rfl (by rfl) B.ji))))))) (bE (cI ix)) fH) (a1 (xj 1 (xi (i:=1) EO.nd rfl rfl (ts:=["_law_k"]) (fr:=["_law_ring"]) (js:=[0]) (wU (j' (ah 0) (by rfl) B.e') (by rfl) B.fo) (λ_ _ _ _=>(ez (i:=0) (show SS (["_law_k","_law_ring"]:ZX) by decide +kernel) rfl (SG rfl))) (λ_ _ _ _=>gU) (λ_ _ _ _=>(bf (LW B Y) o (aC (ho (ah 1) (g6 (ah 0) bo) (λ_ _=>rfl)) (aC (ho (ah 1) (g6 (ah 0) bo) (λ_ _=>rfl)) (aC (ho (ah 1) (ah 0) (λ_ _=>rfl)) a9))))) ⟨rfl,by decide +kernel,rfl,by decide +kernel,gs (Th.mpr ⟨rfl,(S5 _)⟩),gG rfl,by walk_at"ffr",rfl⟩)) (a1 (xj 2 (xi (i:=2) EO.nd rfl rfl (ts:=["_law_k"]) (fr:=["_law_ring"]) (js:=[0]) (Dy bo (g6 (j' (ah 0) (by rfl) B.e') bo) (by rfl) B.fo) (λ_ _ _ _=>(ez (i:=0) (show SS (["_law_k","_law_ring"]:ZX) by decide +kernel) rfl (SG rfl))) (λ_ _ _ _=>gU) (λ_ _ _ _=>(bf (LW B Y) o (aC (ei 1) (aC (ho (ah 1) (ah 0) (λ_ _=>rfl)) (aC (ho (ah 1) (fZ (ah 0) bo) (λ_ _=>rfl)) a9))))) ⟨rfl,by decide +kernel,rfl,by decide +kernel,gs (Th.mpr ⟨rfl,(S5 _)⟩),gG rfl,by walk_at"ffr",rfl⟩)) (bE (cI (pF (GL (o.units) ix (ah 1) (by rfl)) (su (GL (o.units) ix (ah 2) (by rfl))))))))),?_⟩);rintro I k F ⟨a,rfl,F,s,z,l⟩;refine cY rfl ?_;have J:75<=TI:=by decide
 have L:=s.1;have len:(a.map aS).length=a.length:=Sv ..;have m:∀n,n<a.length->cX 2950 (bD a n):=λn h=>z _ (oN h);refine nH (λN q=>?_) ?_
 ·refine⟨_,rfl,_,_,rfl,λ_=>rfl,_,rfl,fk ?_⟩;refine⟨_,rfl,_,rfl,_,_,rfl,rfl,_,rfl,hB (λg=>by rw[len]at g;lia) (λ_=>?_)⟩;refine⟨_,rfl,_,rfl,by rw[len];lia,?_⟩;refine jK (f:=aS) (h:=λ_=>D.bl true) (λp G k l=>⟨_,rfl,rfl,p,rfl,(z p G).pt,l⟩) ?_;exact⟨_,rfl,λd H=>by obtain⟨_,_,e⟩:=SI.mp H;exact e.symm,_,rfl,fk q⟩
 refine jg (λr=>r=[.val (.lst (a.map aS)),.val (.lst ((S7 a.length).map λ_=>D.bl true)),.no]) ?_ (λN q=>?_);rotate_left
 ·refine⟨_,rfl,_,rfl,_,rfl,by lia,by rw[len];lia,by rw[Sv,Uv];lia,?_⟩;rw[len,show((a.length:Nat):Int).toNat=a.length by lia];refine jK (f:=λt:Nat=>D.int t) (h:=λ_=>D.bl true) (λi c k l=>?_) ⟨_,rfl,q _ rfl⟩;have c:=TF.mp c;refine⟨_,rfl,_,rfl,_,_,rfl,rfl,_,_,_,.inr rfl,rfl,B0 c (by lia),_,rfl,_,rfl,_,_,rfl,rfl,_,_,_,.inr rfl,rfl,HL c,_,rfl,_,rfl,_,_,_,.inr rfl,rfl,nO c,rfl,_,_,_,rfl,(m _ (Uy _ (by lia))).bp,(m _ (Uy _ (by lia))).bp,(m _ c).bp,?_⟩;rw[XA (s.turn c)];exact l
 rintro r rfl;refine jg (λr=>r=[.val (.lst (a.map aS)),.val (.lst ((S7 a.length).map λ_=>D.bl true)),.val (.lst ((S7 (a.length-2)).map λ_=>D.bl true))]) ?_ (λN q=>?_);rotate_left
 ·walk_at"w"
  have A:∀t:Nat,t+1<a.length->eF (a.map aS) (1+(t:Int))=some (aS (bD a (t+1))):=λt h=>by
   rw[show(1+(t:Int))=((t+1:Nat):Int) by lia];exact nO h
  refine⟨⟨by decide,by decide,by rw[len];lia,by rw[len];lia⟩,by rw[Sv,Uv,len];lia,?_⟩;rw[len,show((a.length:Int)-1-1).toNat=a.length-2 by lia];refine jK (f:=λt:Nat=>D.int (1+t)) (h:=λ_=>D.bl true) (λi c k l=>?_) ⟨_,rfl,q _ rfl⟩;have c:=TF.mp c;refine⟨_,rfl,_,_,_,.inr rfl,rfl,nO (n:=0) (by lia),_,rfl,_,rfl,_,_,_,.inr rfl,rfl,A i (by lia),_,rfl,_,rfl,_,_,rfl,rfl,_,_,_,.inr rfl,rfl,by rw[show(1+(i:Int)+1)=(1+((i+1:Nat):Int)) by lia];exact A (i+1) (by lia),rfl,_,_,_,rfl,(m 0 (by lia)).bp,(m (i+1) (by lia)).bp,(m (i+2) (by lia)).bp,?_⟩;rw[XA (s.nX (k:=i+1) (by lia) (by lia))];exact l
 rintro r rfl
 have C:∀n:Nat,¬D.bl false∈(S7 n).map λ_=>D.bl true:=λn h=>by
  obtain⟨_,_,e⟩:=SI.mp h;cases e
 have E:∀n:Nat,∀e∈(S7 n).map (λ_=>D.bl true),has .B e=true:=λn e h=>by
  obtain⟨_,_,rfl⟩:=SI.mp h;rfl
 refine⟨_,rfl,.B,_,.inl rfl,rfl,E _,by decide,λb x=>?_⟩
 have y:b=false:=by
  cases b with
  |false=>rfl
  |true=>exact absurd (x.mp rfl) (C _)
 subst y;refine⟨_,rfl,?_⟩;rw[SZ rfl];refine⟨_,rfl,.B,_,.inl rfl,rfl,E _,by decide,λb x=>?_⟩
 have y:b=false:=by
  cases b with
  |false=>rfl
  |true=>exact absurd (x.mp rfl) (C _)
 subst y;exact l
theorem L0 :
  b6 P w K mg base "_law_between" ["_law_p","_law_q","_law_part_here","_law_many"] 4 (cj K 4 sA):=by
 refine dq Y.gh EP rfl (λ_ _ _ _ _ _ _ f=>⟨_,(a1 (cx 4 EP.nd (fZ (cB (cB (ei 0) (ei 1)) (g6 (ah 3) (ah 2))) (cB (cB (ei 1) (ei 0)) (ah 2)))) (a1 (cx 5 EP.nd (fZ (cB (cB (ei 0) (ei 1)) (g6 (ah 3) (ah 2))) (cB (cB (ei 1) (ei 0)) (ah 2)))) (bE (cI (bf (zi B Y) f (aC (ah 4) (aC (ah 5) (aC (cB (cB (ei 0) (ei 1)) (ah 3)) a9)))))))),?_⟩);rintro i k j ⟨p,q,t,rfl,d,e,l,m,g⟩;refine cY rfl ?_;have n:=d.bp.a;have o:=d.bp.b;have r:=d.bp.c;have s:=e.bp.a;have u:=e.bp.b;have v:=e.bp.c;have h:0<p.2.2*q.2.2*3:=SE (SE d.pt.1 e.pt.1) (by decide);walk_at"w";exact⟨_,_,_,rfl,h,by walk_at"bits",g⟩
theorem ot :
  b6 P w K mg base "_law_cut" ["_law_bag_here","_law_ring"] 5 (cj K 2 sy):=by
 refine dq Y.i_ rW rfl (λ_ _ _ _ _ _ _ g=>⟨_,(a1 (cx 2 rW.nd (bf (h5 B Y) g (gD 0 (aC (j' (ah 1) (by rfl) B.e') a9)))) (a1 (cx 3 rW.nd (bf (h5 B Y) g (gD 0 (aC (g6 (j' (ah 1) (by rfl) B.e') bo) a9)))) (a1 (je (dA (yc (dA (fG (a2 (ah 2) (a2 (fZ (ah 3) (wQ (lJ (f:=λi j=>decide (j<=i)) wq (ah 3) (ah 2) (dH _)) (by rfl) B.jI)) b0)))) (by rfl) B.iA)) (Hv (n:=2) rfl (cq (cO 2 rW.nd) (cq (cO 3 rW.nd) fI)))) (a1 (cx 4 rW.nd (bf (L0 B Y) g (aC (ho (ah 1) (ah 2) (λ_ _=>rfl)) (aC (ho (ah 1) (fZ (ah 2) bo) (λ_ _=>rfl)) (aC (fZ bo (bf (h5 B Y) g (gD 0 (aC bo a9)))) (aC bo a9)))))) (a1 (cx 5 rW.nd (bf (L0 B Y) g (aC (ho (ah 1) (ah 3) (λ_ _=>rfl)) (aC (ho (ah 1) (wP (fZ (ah 3) bo) (j' (ah 1) (by rfl) B.e')) (λ_ _=>rfl)) (aC (fZ bo (bf (h5 B Y) g (gD 0 (aC bo a9)))) (aC bo a9)))))) (bE (cI (dV (a2 (dA (oC (dA (oC (dA (fG (a2 (ah 4) b0))) (dA (BF (ah 1) (qY (fZ (ah 2) bo)) (qY (fZ (ah 3) bo)))))) (dA (fG (a2 (ah 5) b0))))) (a2 (dA (oC (dA (oC (dA (oC (dA (fG (a2 (ah 5) b0))) (dA (BF (ah 1) (qY (fZ (ah 3) bo)) ui)))) (dA (BF (ah 1) ui (qY (fZ (ah 2) bo)))))) (dA (fG (a2 (ah 4) b0))))) b0)))))))))),?_⟩);rintro H k C ⟨e,m,rfl,r,s,L,C,l⟩;refine cY rfl ?_;have O:=r.1;have len:(e.map aS).length=e.length:=Sv ..;have Q:=zu;have o:∀n,n<e.length->cX 2000 (bD e n):=λn h=>(s _ (oN h)).mono (by lia);walk_at"w";intro a E v;walk_at"w";intro b F x;rw[len]at v x;walk_at"w";refine .inr ⟨_,rfl,_,_,rfl,rfl,e7,[a,_],rfl,by show 2<64;decide,λR y z=>?_⟩;obtain⟨I,J,rfl,q,p⟩:=xF E v F x y z;clear y z;refine⟨_,rfl,rfl,_,_,rfl,_,_,rfl,rfl,_,rfl,_,rfl,_,_,_,.inr rfl,rfl,nO (show I<e.length by lia),_,rfl,_,rfl,_,_,rfl,rfl,_,_,_,.inr rfl,rfl,nO (n:=I+1) (show I+1<e.length by lia),?_⟩;walk_at"w";intro c S T;walk_at"w";refine⟨bD e I,bD e (I+1),1+c,rfl,o _ (by lia),o _ (by lia),by lia,by lia,?_⟩;have A:(J+1)%e.length<e.length:=Uy _ (by lia)
 have G:eF (e.map aS) (((J:Int)+1)%((e.map aS).length:Int))=some (aS (bD e ((J+1)%e.length))):=by
  rw[len,show((J:Int)+1)%(e.length:Int)=(((J+1)%e.length:Nat):Int) by push_cast;rfl];exact nO A
 refine⟨_,rfl,_,rfl,_,_,_,.inr rfl,rfl,nO (n:=J) p,_,rfl,_,rfl,_,_,rfl,rfl,_,rfl,_,rfl,_,_,rfl,rfl,by rw[len];lia,_,_,_,.inr rfl,rfl,G,?_⟩;walk_at"w";intro d U W;walk_at"w";refine⟨bD e J,bD e ((J+1)%e.length),1+d,rfl,o _ (by lia),o _ A,by lia,by lia,?_⟩;have ok:=xK (t:=1+c) (u:=1+d) r s q p (by lia) (by lia) (by lia) (by lia);generalize kl (bD e I) (bD e (I+1)) (1+c)=M at ok⊢;generalize kl (bD e J) (bD e ((J+1)%e.length)) (1+d)=N at ok⊢;have X:=Cv (e.map aS) (some ((I:Int)+1)) (some ((J:Int)+1));have Z:=Cv (e.map aS) (some ((J:Int)+1)) none;have h1:=Cv (e.map aS) none (some ((I:Int)+1));have l:=l _ _ ok;rw[xD q p,xv q p]at l;walk_at"w";refine⟨by simp only[Sz,SK,Ub];lia,?_⟩;walk_at"w";refine⟨by simp only[Sz,SK,Ub];lia,?_⟩;walk_at"w";refine⟨by simp only[Sz,SK,Ub];lia,?_⟩;walk_at"w";refine⟨by simp only[Sz,SK,Ub];lia,?_⟩;walk_at"w";refine⟨by simp only[Sz,SK,Ub];lia,?_⟩;walk_at"w";exact l
theorem oq :
  b6 P w K mg base "_law_sheet" ["_law_bag_here","_law_ring","_law_cuts"] 6 (cj K 3 sm):=by
 refine dq Y.hC rX rfl (λ_ _ _ _ _ _ _ a=>⟨_,(a1 (mx (i:=3) rX.nd rfl (SG rfl) (fG (a2 (ah 1) b0))) (a1 (k4 PassesOwn.never rfl (wU (bf (h5 B Y) a (gD 0 (aC (fZ (ah 2) bo) a9))) (by rfl) B.fo) (cO 4 rX.nd) (bE (x7 3 0 (ot B Y) a (by rfl) (bf (h5 B Y) a (gD 0 (aC (PI 3 (by rfl) B.e') a9)))))) (a1 (mx (i:=5) rX.nd rfl (SG rfl) (fG b0)) (kI 3 (a1 (k4 PassesOwn.never rfl (fP (ah 3)) (cO 6 rX.nd) (a1 (cx 7 rX.nd (lJ (f:=λi j=>decide (i=j)) nv (bf (h5 B Y) a (gD 0 (aC bo a9))) bo (dH _))) (a1 (cx 8 rX.nd (g6 (bf (h5 B Y) a (gD 0 (aC bo a9))) bo)) (bE (kJ 5 (dV (a2 (ah 6) (a2 (ah 7) (a2 (bf (zi B Y) a (aC (ah 8) (aC (g6 (bf (h5 B Y) a (gD 0 (aC bo a9))) bo) (aC (fZ bo (bf (h5 B Y) a (gD 0 (aC bo a9)))) a9)))) b0))))))))) (kI 5 (bE (cI (ah 5))))))))),?_⟩);rintro X k A ⟨m,C,rfl,I,J,A,Z,L⟩;refine cY rfl ?_;have af:=zu;walk_at"w";intro c ag aj;refine⟨_,rfl,by lia,by lia,?_⟩;refine G' (λi b=>∃(rs:Z5)(d:aA),b=[.bag,.val (f5 m),.val (.int (C:Int)),.own (.l (rs.map f5)),d,.no,.no,.no,.no]/\rL 42 4 m i rs) ⟨[m],_,rfl,vq I J A⟩ ?_ (λb h=>?_)
 ·rintro i b ak ⟨rs,d,rfl,ok⟩ N p;have M:=ok.ln;have len:(rs.map f5).length=rs.length:=Sv ..;refine⟨rs.map f5,rfl,rfl,?_⟩;walk_at"w";intro n hc aq;obtain⟨j,rfl⟩:∃j:Nat,n=j:=⟨n.toNat,by lia⟩;have E:j<rs.length:=by lia
  have a:rs[j]?=some rs[j]:=SY E;have o:rs[j]∈rs:=V3 E;generalize rs[j]=r at a o;have le:=ok.le r o;refine⟨j,f5 r,rfl,by lia,by rw[SP,a];rfl,?_⟩;refine⟨r,kY 42 i,rfl,ok.cv r o,ok.gp r o,Sy (DW (c:=2) (by lia)) (by decide),by lia,λF G O=>?_⟩;refine⟨[f5 F,f5 G],rfl,by rw[len];show rs.length+2<=_;lia,p _ ⟨rs.eraseIdx j++[F,G],.val (.int i),?_,ok.step a O⟩⟩;rw[SF,JU];rfl
 obtain⟨rs,d,rfl,ok⟩:=h;walk_at"w";have M:=ok.ln;refine oJ (f:=f5) (rs:=rs) (done:=[]) (λpre b=>∃(sh:ZR)(d s u v:aA),b=[.bag,.val (f5 m),.val (.int (C:Int)),.val (.lst (rs.map f5)),d,.own (.l (sh.map bH)),s,u,v]/\(sh.map λt=>t.1)=pre/\∀t∈sh,cX 20 t.2.2) ⟨[],_,_,_,_,rfl,rfl,λt g=>absurd g (by simp)⟩ ?_ (λb h=>?_);rotate_left
 ·obtain⟨sh,d,s,u,v,rfl,e,st⟩:=h;rw[Tf]at e;rw[<-e]at ok;obtain⟨Q,R,S⟩:=ok.l3 (c:=2) (by lia) (DW (by lia)) st;exact⟨_,rfl,_,rfl,L sh Q R S⟩
 rintro pre r H b T ⟨sh,d,s,u,v,rfl,e,st⟩ N p;walk_at"w";intro f ar au;walk_at"w";intro x av aw;walk_at"w";intro y ax ay;walk_at"w";intro z aB aE;walk_at"w";refine⟨x-40,y-40,1+z,rfl,by lia,by walk_at"bits",?_⟩;have U:=vn (x:=x-40) (y:=y-40) (n:=1+z) (by lia) (by lia) (by lia) (by lia) (by lia) (by lia)
 have W:sh.length<=rs.length:=by
  have q:=Uf S3 T;rw[Tf,Sz,SK,<-e,Sv]at q;lia
 refine⟨h6,by rw[Sv];lia,p _ ⟨sh++[(r,decide (f=0),cC (x-40) (y-40) (1+z))],_,_,_,_,by rw[SF];rfl,by rw[SF,e];rfl,λt g=>?_⟩⟩;rcases SO.mp g with g|g
 ·exact st t g
 rw[SQ.mp g];exact U
theorem L1 :
  b6 P w K mg base "_law_first" ["_law_piece"] 4 (cj K 1 LJ):=by
 refine dq Y.hK o7 rfl (λ_ _ _ _ _ _ _ z=>⟨_,(a1 (je (ah 0) (f0 (n:=3) rfl (cq (cO 1 o7.nd) (cq (cO 2 o7.nd) (cq (cO 3 o7.nd) fI))))) (a1 (cx 4 o7.nd (g6 bo (cB bo (wQ (ah 2) (by rfl) B.jI)))) (a1 (mx (i:=5) o7.nd rfl (SG rfl) (fG b0)) (a1 (k4 PassesOwn.never rfl (fP (ah 1)) (cO 6 o7.nd) (a1 (cx 7 o7.nd (g6 (cB (ei 6) (ei 3)) (cB (ei 3) (ei 6)))) (a1 (cx 8 o7.nd (g6 (cB (ei 6) (ei 3)) (cB (ei 3) (ei 6)))) (bE (kJ 5 (bf (zi B Y) z (aC (cB (ah 4) (ah 7)) (aC (cB (ah 4) (ah 8)) (aC (cB (ei 6) (ei 3)) a9))))))))) (kI 5 (bE (cI (ah 5)))))))),?_⟩);rintro F k A ⟨s,rfl,A,j,l,m⟩;refine cY rfl ?_;have G:75<=TI:=by decide
 have H:=l.bp.a;have I:=l.bp.b;have J:=l.bp.c;refine⟨_,rfl,_,rfl,rfl,_,_,rfl,_,_,rfl,_,_,rfl,rfl,?_⟩;walk_at"w"
 have x:(if s.2.1=true then(1:Int)else 0)=0\/(if s.2.1=true then(1:Int)else 0)=1:=by
  cases s.2.1<;>simp
 have q:SB (if s.2.1=true then(1:Int)else 0)<=9:=by rcases x with e|e<;>rw[e]<;>decide
 have C:SB (1-2*(if s.2.1=true then(1:Int)else 0))<=9:=by rcases x with e|e<;>rw[e]<;>decide
 refine .inr ⟨s.2.1,rfl,2,_,rfl,rfl,⟨by decide,cb q⟩,1,_,rfl,rfl,?_⟩
 have m:k (.val (.lst ((s.1.map λp=>cC ((1-2*(if s.2.1=true then 1 else 0))*(p.1*s.2.2.2.2-s.2.2.1*p.2.2)) ((1-2*(if s.2.1=true then 1 else 0))*(p.2.1*s.2.2.2.2-s.2.2.2.1*p.2.2)) (p.2.2*s.2.2.2.2)).map aS))):=by
  rw[qi]at m;have e:(s.1.map λp=>cC ((1-2*(if s.2.1=true then 1 else 0))*(p.1*s.2.2.2.2-s.2.2.1*p.2.2)) ((1-2*(if s.2.1=true then 1 else 0))*(p.2.1*s.2.2.2.2-s.2.2.2.1*p.2.2)) (p.2.2*s.2.2.2.2))=s.1.map λp=>if s.2.1=true then eI (nP (ej (eI s.2.2) p))else nP (ej (eI s.2.2) p):=Ue λp d=>BY (j p d).pt l.pt s.2.1
  rw[e];exact m
 dsimp only;generalize(1-2*(if s.2.1=true then(1:Int)else 0))=g at C m⊢;refine cY rfl ?_;walk_at"wd";refine oJ (f:=aS) (rs:=s.1) (done:=[]) (λpre r=>∃t u v,r=[.val (bH s),.val (.lst (s.1.map aS)),.val (.bl s.2.1),.val (aS s.2.2),.val (.int g),.own ((pre.map λp=>cC (g*(p.1*s.2.2.2.2-s.2.2.1*p.2.2)) (g*(p.2.1*s.2.2.2.2-s.2.2.2.1*p.2.2)) (p.2.2*s.2.2.2.2)).map aS),t,u,v]) ⟨_,_,_,rfl⟩ ?_ (λr h=>?_);rotate_left
 ·obtain⟨t,u,v,rfl⟩:=h;exact⟨_,rfl,_,rfl,m⟩
 rintro pre p y r o ⟨t,u,v,rfl⟩ N E;have d:p∈s.1:=by rw[Tf]at o;rw[o];simp
 have L:=(j p d).bp.a;have M:=(j p d).bp.b;have O:=(j p d).bp.c;have Q:pre.length<s.1.length:=by rw[Tf]at o;rw[o,Sz,SK];lia
 walk_at"w";refine⟨_,_,_,rfl,SE (j p d).pt.1 l.pt.1,by walk_at"bits",by rw[Sv,Sv];lia,E _ ⟨.val (aS p),.val (.int (p.1*s.2.2.2.2-s.2.2.1*p.2.2)),.val (.int (p.2.1*s.2.2.2.2-s.2.2.2.1*p.2.2)),?_⟩⟩;rw[SF,SF];rfl
theorem L4 :
  b6 P w K mg base "_law_kept" ["_law_olds","_law_news"] 6 (cj K 2 LK):=by
 refine dq Y.ij EQ rfl (λ_ _ _ _ _ _ _ g=>⟨_,(a1 (k4 PassesOwn.never rfl (BD (dV (a2 ix (a2 ix b0)))) (ez (i:=2) EQ.nd rfl (T6 rfl)) (a1 (xj 3 (xi (i:=3) EQ.nd rfl rfl (ts:=["_law_piece"]) (fr:=["_law_flag"]) (js:=[2]) (fP (ah 1)) (λ_ _ _ _=>(ez (i:=0) (show SS (["_law_piece","_law_flag"]:ZX) by decide +kernel) rfl (SG rfl))) (λ_ _ _ _=>(G6 (BR (g.units) (ei 0) (ah 1) (dH _)))) (λ_ _ _ _=>(bf (L1 B Y) g (aC (ah 0) a9))) ⟨rfl,by decide +kernel,rfl,by decide +kernel,gs (Th.mpr ⟨rfl,(S5 _)⟩),gG rfl,by walk_at"ffr",rfl⟩)) (bE (fw (hn (fl (bf (LV B Y) g (aC (ah 3) (aC (dA (ii (ts:=["_law_piece"]) (fr:=["_law_flag"]) (js:=[2]) (fP (ah 0)) (λ_ _ _ _=>(ez (i:=0) (show SS (["_law_piece","_law_flag"]:ZX) by decide +kernel) rfl (SG rfl))) (λ_ _ _ _=>(G6 (BR (g.units) (ei 0) (ah 1) (dH _)))) (λ_ _ _ _=>(bf (L1 B Y) g (aC (ah 0) a9))) ⟨rfl,by decide +kernel,rfl,by decide +kernel,gs (Th.mpr ⟨rfl,(S5 _)⟩),gG rfl,by walk_at"ffr",rfl⟩)) a9))))) (bE (cI ix)) fH)))) (bE (cI ix))),?_⟩);rintro I k v ⟨os,d,rfl,J,x,y,q,r,E,e⟩;refine cY rfl ?_;have M:1000<=TI:=by decide
 refine jg (λa=>∃j ah,a=[.val (.lst (os.map bH)),.val (.lst (d.map bH)),j,ah]) ?_ (λN o=>?_)
 ·rintro a ⟨j,ah,rfl⟩;exact e
 refine⟨e7,_,rfl,?_⟩;refine oJ (f:=D.bl) (rs:=[false,true]) (done:=[]) (λ_ a=>∃j ah,a=[.val (.lst (os.map bH)),.val (.lst (d.map bH)),j,ah]) ⟨_,_,rfl⟩ ?_ (λa h=>o _ h);clear o;rintro pre b z a O ⟨j,ah,rfl⟩ N o
 have flt:∀(L:ZR),(∀s∈L,hu s)->L.length<=100->∀(k:ZP->Prop),k (((L.filter λs=>s.2.1==b).map f3).map f5)->gH (eU 0) (jd (um false (Bt (jF 0) (iX (D.int 1))) (jF 1))) (Bx 1 LJ (Bw (jF 0) Bv)) (L.map bH) [.no,.val (.bl b)] k:=λL n v k e=>by
  refine CY (f:=bH) (h:=λs=>f5 (f3 s)) (P:=λs=>s.2.1==b) (λs c k e=>?_) (λs c k e=>?_) (by rwa[SM]at e)
  ·refine⟨_,rfl,_,_,_,.inl rfl,rfl,rfl,_,rfl,.B,rfl,rfl,by decide,_,rfl,?_⟩;rw[Jz];exact e
  have t:=n s c;exact⟨_,rfl,rfl,s,rfl,cb t.ln,λp u=>(t.ps p u),t.st.mono (by decide),e⟩
 have F:∀(L:ZR),(∀s∈L,hu s)->L.length<=100->((((L.filter λs=>s.2.1==b).map f3)).map S3).sum<=3400:=λL n v=>by
  rw[SM]
  have:=s3 (f:=S3∘f3) (m:=34) (l:=L.filter λs=>s.2.1==b) λs c=>by
   show(f3 s).length<=34
   rw[Jy];exact(n s (TO.mp c).1).ln
  have G:=Vo (λs:a8=>s.2.1==b) L;lia
 have A:∀(L:ZR),(∀s∈L,hu s)->∀C∈(L.filter λs=>s.2.1==b).map f3,nU C:=λL n C u=>by
  obtain⟨s,c,rfl⟩:=SI.mp u;exact(n s (TO.mp c).1).first.1
 refine jg (λa=>a=[.val (.lst (os.map bH)),.val (.lst (d.map bH)),.val (.bl b),.val (.lst (((d.filter λs=>s.2.1==b).map f3).map f5))]) ?_ (λQ H=>?_);rotate_left
 ·refine⟨_,rfl,_,rfl,by rw[Sv];lia,?_⟩;exact flt d q x _ ⟨_,rfl,H _ rfl⟩
 rintro a rfl;refine⟨_,rfl,_,rfl,_,rfl,by rw[Sv];lia,?_⟩;refine flt os y (by lia) _ ?_
 have R:((((os.filter λs=>s.2.1==b).map f3)).map S3).sum<=144:=by
  rw[SM]
  have:=s3 (f:=S3∘f3) (m:=6) (l:=os.filter λs=>s.2.1==b) λs c=>by
   show(f3 s).length<=6
   rw[Jy];exact E s (TO.mp c).1
  have G:=Vo (λs:a8=>s.2.1==b) os;lia
 have S:=F d q x;exact⟨rfl,_,_,rfl,A d q,A os y,by lia,r b,_,rfl,fk (o _ ⟨_,_,rfl⟩)⟩
theorem E3 :
  b6 P w K mg base "_law_lies" ["_law_sheet_here","_law_ring"] 6 (cj K 2 sY):=by
 refine dq Y.h_ LL rfl (λ_ _ _ _ _ _ _ o=>⟨_,(a1 (fw (hn (fl (lL (T:="list") (ah 0) (by rfl) B.ec (lC (v:=.ty "list") (u:=.type "list") (by rfl) B.hp (by decide +kernel) rfl) rfl rfl rfl))) (bE (cI ix)) fH) (a1 (k4 PassesOwn.never rfl (fP (ah 0)) (cO 2 LL.nd) (a1 (fw (k3 (eN (hn (fl (lL (T:="tuple") (ah 2) (by rfl) B.ec (lC (v:=.ty "tuple") (u:=.type "tuple") (by rfl) B.fj (by decide +kernel) rfl) rfl rfl rfl))) (eN (g7 (f:=λi j => !decide (i=j)) qR (j' (ah 2) (by rfl) B.e') bo (dH _)) (mr (hn (fl (lL (T:="bool") (ei 2) (by rfl) B.ec (lC (v:=.ty "bool") (u:=.type "bool") (by rfl) B.kW (by decide +kernel) rfl) rfl rfl rfl))))))) (bE (cI ix)) fH) (bE (fw (k3 (eN (hn (fl (bf (ov B Y) o (aC (ei 2) a9)))) (mr (hn (fl (bf (LX B Y) o (aC (ei 2) a9))))))) (bE (cI ix)) fH)))) (bE (cI (bf (LV B Y) o (aC (dA (ii (ts:=["_law_piece"]) (fr:=[]) (js:=[]) (fP (ah 0)) (λ_ _ _ _=>(ez (i:=0) (show SS (["_law_piece"]:ZX) by decide +kernel) rfl (SG rfl))) (λ_ _ _ _=>gU) (λ_ _ _ _=>(ei 0)) ⟨rfl,by decide +kernel,rfl,by decide +kernel,gs (S5 _),gG rfl,by walk_at"ffr",rfl⟩)) (aC (dA (fG (a2 (ah 1) b0))) a9))))))),?_⟩);rintro G k C ⟨sh,q,rfl,C,r,y,t,x⟩;refine cY rfl ?_;have H:1000<=TI:=by decide
 refine nH (λN b=>?_) ?_
 ·exact⟨_,rfl,_,_,rfl,λ_=>rfl,_,rfl,fk b⟩
 refine jg (λa=>∃c,a=[.val (.lst (sh.map bH)),.val (.lst (q.map aS)),c]) ?_ (λN b=>?_);rotate_left
 ·refine⟨_,rfl,_,rfl,?_⟩;refine oJ (f:=bH) (rs:=sh) (done:=[]) (λ_ a=>∃c,a=[.val (.lst (sh.map bH)),.val (.lst (q.map aS)),c]) ⟨_,rfl⟩ ?_ (λa h=>b _ h);rintro pre s z a A ⟨c,rfl⟩ N b;have g:=r s (by rw[Tf]at A;rw[A];simp);refine nH (λI E=>?_) ?_
  ·refine⟨_,rfl,_,_,rfl,λ_=>rfl,_,rfl,fk ?_⟩;refine⟨_,rfl,_,rfl,_,_,rfl,rfl,_,rfl,fk ?_⟩;exact⟨_,rfl,_,_,_,.inl rfl,rfl,rfl,_,_,rfl,λ_=>rfl,_,rfl,fk E⟩
  refine⟨_,rfl,_,_,_,.inl rfl,rfl,rfl,rfl,s.1,rfl,cb g.ln,g.cv,λp d=>(g.ps p d).mono (by decide),_,rfl,fk ?_⟩;exact⟨_,rfl,_,_,_,.inl rfl,rfl,rfl,rfl,s.2.2,rfl,g.st.pt,_,rfl,fk (b _ ⟨_,rfl⟩)⟩
 rintro a ⟨c,rfl⟩;refine⟨_,rfl,_,rfl,by rw[Sv];lia,?_⟩;refine jK (f:=bH) (h:=λs=>f5 s.1) (λs n k x=>⟨_,rfl,_,_,_,.inl rfl,rfl,rfl,x⟩) ?_;have J:=s3 (f:=λs:a8=>s.1.length) (m:=34) (l:=sh) λs n=>(r s n).ln;refine⟨_,rfl,by show 1<=TI;decide,rfl,sh.map (λs=>s.1),[q],by rw[SM];rfl,?_,?_,?_,t,x⟩
 ·intro F d;obtain⟨s,n,rfl⟩:=SI.mp d;exact(r s n).rg
 ·intro F d;rw[SQ.mp d];exact y
 rw[SM];have e:(sh.map (S3∘λs=>s.1)).sum=(sh.map λs:a8=>s.1.length).sum:=rfl;have:=y.1;rw[e];simp only[SJ,TA,S',Vw];lia
theorem L5 :
  b6 P w K mg base "_law_product" ["_law_one","_law_other"] 4 (cj K 2 p3):=by
 refine dq Y.f_ p4 rfl (λ_ _ _ _ _ _ _ a=>⟨_,(bE (cI (bf (zh B Y) a (aC (cB (ei 0) (ei 1)) (aC (cB (ei 0) (ei 1)) a9))))),?_⟩);rintro e k f ⟨r,s,rfl,b,c,g,h,i,j,d⟩;refine cY rfl ?_;walk_at"w";exact⟨_,_,rfl,SE b c,by walk_at"bits",d⟩
theorem oj :
  b6 P w K mg base "_law_less" ["_law_one","_law_other"] 4 (cj K 2 pX):=by
 refine dq Y.ia pZ rfl (λ_ _ _ _ _ _ _ a=>⟨_,(bE (cI (bf (zh B Y) a (aC (g6 (cB (ei 0) (ei 1)) (cB (ei 1) (ei 0))) (aC (cB (ei 0) (ei 1)) a9))))),?_⟩);rintro e k f ⟨r,s,rfl,b,c,g,h,i,j,d⟩;refine cY rfl ?_;walk_at"w";exact⟨_,_,rfl,SE b c,by walk_at"bits",d⟩
theorem E4 :
  b6 P w K mg base "_law_pin" ["_law_x","_law_y"] 4 (cj K 2 pS):=by
 refine dq Y.i3 pU rfl (λ_ _ _ _ _ _ _ a=>⟨_,(bE (cI (bf (zi B Y) a (aC (cB (ei 0) (ei 1)) (aC (cB (ei 1) (ei 0)) (aC (cB (ei 0) (ei 1)) a9)))))),?_⟩);rintro e k f ⟨r,s,rfl,b,c,g,h,i,j,d⟩;refine cY rfl ?_;walk_at"w";exact⟨_,_,_,rfl,SE b c,by walk_at"bits",d⟩
theorem L6 :
  b6 P w K mg base "_law_box" ["_law_wide","_law_high_here"] 5 (cj K 2 pN):=by
 refine dq Y.ja pO rfl (λ_ _ _ _ _ _ _ a=>⟨_,(bE (cI (dA (fG (a2 (dV (a2 bo (a2 bo (a2 bo b0)))) (a2 (bf (E4 B Y) a (aC (ah 0) (aC (dV (a2 bo (a2 bo b0))) a9))) (a2 (bf (E4 B Y) a (aC (ah 0) (aC (ah 1) a9))) (a2 (bf (E4 B Y) a (aC (dV (a2 bo (a2 bo b0))) (aC (ah 1) a9))) b0)))))))),?_⟩);rintro m k n ⟨w,h,rfl,b,c,d,e,f,g,i⟩;refine cY rfl ?_;have j:cC (w.1*1) (0*w.2) (w.2*1)=(w.1,0,w.2):=by rw[U9,T3,U9];exact Hg (xy b)
 have l:cC (0*h.2) (h.1*1) (1*h.2)=(0,h.1,h.2):=by rw[T3,U9,We];exact Hg (xz c)
 refine⟨h6,_,rfl,e7,rfl,w,(0,1),rfl,b.1,by decide,cb d,cb e,by decide,by decide,?_⟩;rw[j];refine⟨_,rfl,_,rfl,rfl,w,h,rfl,b.1,c.1,cb d,cb e,cb f,cb g,e7,_,rfl,rfl,(0,1),h,rfl,by decide,c.1,by decide,by decide,cb f,cb g,?_⟩;rw[l];exact⟨by show 4<=TI;decide,i⟩
theorem E5 :
  b6 P w K mg base "_law_is_low" ["_law_found"] 3 (cj K 1 pK):=by
 refine dq Y.gV pM rfl (λ_ _ _ _ _ _ _ a=>⟨_,(a1 (fw (k3 (eN (hn (fl (lL (T:="tuple") (ah 0) (by rfl) B.ec (lC (v:=.ty "tuple") (u:=.type "tuple") (by rfl) B.fj (by decide +kernel) rfl) rfl rfl rfl))) (eN (g7 (f:=λi j => !decide (i=j)) qR (j' (ah 0) (by rfl) B.e') bo (dH _)) (eN (hn (fl (bf (E1 B Y) a (aC (ei 0) a9)))) (mr (hn (fl (bf (E1 B Y) a (aC (ei 0) a9))))))))) (bE (cI ix)) fH) (bE (cI (pF (lJ (f:=λi j=>decide (j<i)) pq (ei 0) bo (dH _)) (pF (lJ (f:=λi j=>decide (j<i)) pq (ei 0) bo (dH _)) (su (lJ (f:=λi j=>decide (i=j)) nv (bf (qz B Y) a (aC (ei 0) (aC (ei 0) a9))) bo (dH _)))))))),?_⟩);rintro l k b ⟨r,rfl,b,c,d⟩;refine cY rfl ?_;have e:((Ss r.1 r.2:Nat):Int)=1:=by rw[b.2];rfl
 have g:=b.1;refine nH (λN h=>?_) ?_
 ·refine⟨_,rfl,_,_,rfl,λ_=>rfl,_,rfl,fk ?_⟩;refine⟨_,rfl,_,rfl,_,_,rfl,rfl,_,rfl,fk ?_⟩;refine⟨_,rfl,_,_,_,.inl rfl,rfl,rfl,rfl,r.1,rfl,_,rfl,fk ?_⟩;exact⟨_,rfl,_,_,_,.inl rfl,rfl,rfl,rfl,r.2,rfl,_,rfl,fk h⟩
 walk_at"w";rw[SZ (XA c)];walk_at"w";rw[SZ (XA g)];walk_at"w";refine⟨_,_,rfl,?_⟩;rw[e];exact⟨_,_,rfl,rfl,d⟩
theorem oi :
  b6 P w K mg base "_law_is_box" ["_law_found"] 7 (cj K 1 pv):=by
 refine dq Y.g5 pJ rfl (λ_ _ _ _ _ _ _ a=>⟨_,(a1 (fw (k3 (eN (hn (fl (lL (T:="tuple") (ah 0) (by rfl) B.ec (lC (v:=.ty "tuple") (u:=.type "tuple") (by rfl) B.fj (by decide +kernel) rfl) rfl rfl rfl))) (eN (g7 (f:=λi j => !decide (i=j)) qR (j' (ah 0) (by rfl) B.e') bo (dH _)) (eN (hn (fl (bf (E5 B Y) a (aC (ei 0) a9)))) (mr (hn (fl (bf (E5 B Y) a (aC (ei 0) a9))))))))) (bE (cI ix)) fH) (bE (cI (bf (E3 B Y) a (aC (ei 0) (aC (bf (L6 B Y) a (aC (ei 0) (aC (ei 0) a9))) a9)))))),?_⟩);rintro t k e ⟨w,h,sh,rfl,b,c,g,l,m,n,o,p,e,q,d,r⟩;refine cY rfl ?_;refine nH (λN s=>?_) ?_
 ·refine⟨_,rfl,_,_,rfl,λ_=>rfl,_,rfl,fk ?_⟩;refine⟨_,rfl,_,rfl,_,_,rfl,rfl,_,rfl,fk ?_⟩;refine⟨_,rfl,_,_,_,.inl rfl,rfl,rfl,rfl,w,rfl,b,o,_,rfl,fk ?_⟩;exact⟨_,rfl,_,_,_,.inl rfl,rfl,rfl,rfl,h,rfl,c,p,_,rfl,fk s⟩
 exact⟨_,rfl,_,_,_,.inl rfl,rfl,rfl,_,rfl,_,_,_,.inl rfl,rfl,rfl,_,rfl,_,_,_,.inl rfl,rfl,rfl,rfl,w,h,rfl,b,c,cb g,cb l,cb m,cb n,rfl,sh,lU w h,rfl,e,q,t2 ⟨b,c,o,p⟩ g l m n,d,r⟩
theorem L7 :
  b6 P w K mg base "_law_size" ["_law_bag_here"] 4 (cj K 1 pe):=by
 refine dq Y.h4 pk rfl (λ_ _ _ _ _ _ _ a=>⟨_,(a1 (fw (g7 (f:=λi j=>decide (i=j)) nv (bf (h5 B Y) a (gD 0 (aC bo a9))) bo (dH _)) (bE (cI (bf (zh B Y) a (aC (fZ bo (bf (h5 B Y) a (gD 0 (aC bo a9)))) (aC (fZ bo (bf (h5 B Y) a (gD 0 (aC bo a9)))) a9))))) fH) (bE (cI (bf (zh B Y) a (aC (fZ bo (bf (h5 B Y) a (gD 0 (aC bo a9)))) (aC (fZ bo (bf (h5 B Y) a (gD 0 (aC bo a9)))) a9)))))),?_⟩);rintro A k C ⟨rfl,o⟩;refine cY rfl ?_
 have g:∀t b:Int,0<t->0<b->SB t<=10->SB b<=10->k (.val (dR (ee t b))):=λt b p h q r=>by
  obtain⟨l,e,s,u⟩:=jL (t:=t) (b:=b) (SA h);refine o _ l ?_ (fY s q) (fY u r);have:0<(ee t b).1*b:=by rw[e];exact SE p l.1
  exact UM this h
 have d:∀x:Int,0<=x->x<=1000->SB x<=10:=λx m n=>intBits_le_iff.mpr (by show x.natAbs<1024;lia);walk_at"w";intro c E F;walk_at"wd";refine hB (λ_=>?_) (λ_=>?_)
 ·walk_at"w";intro x m n;walk_at"w";intro y v z;walk_at"w";exact⟨1+x,1+y,rfl,by lia,Sy (d (1+y) (by lia) (by lia)) (by decide),g _ _ (by lia) (by lia) (d _ (by lia) (by lia)) (d _ (by lia) (by lia))⟩
 walk_at"w";intro x m n;walk_at"w";intro y v z;walk_at"w";exact⟨1+x,1+y,rfl,by lia,Sy (d (1+y) (by lia) (by lia)) (by decide),g _ _ (by lia) (by lia) (d _ (by lia) (by lia)) (d _ (by lia) (by lia))⟩
theorem oh :
  b6 P w K mg base "_law_high" ["_law_slope_here","_law_wide"] 5 (cj K 2 o_):=by
 refine dq Y.ik pd rfl (λ_ _ _ _ _ _ _ b=>⟨_,(bE (cI (bf (L5 B Y) b (aC (dV (a2 (sx (ei 0) (by rfl) B.jk) (a2 (ei 0) b0))) (aC (ah 1) a9))))),?_⟩);rintro j k l ⟨s,w,rfl,c,d,m,n,a,e,f,g,h⟩;refine cY rfl ?_
 have i:SB (if s.1<0 then -s.1 else s.1)<=64:=by
  split
  ·exact TT a
  exact a
 walk_at"w";exact⟨(if s.1<0 then -s.1 else s.1,s.2),w,rfl,c.1,d.1,cb i,cb e,cb f,cb g,h⟩
theorem L8 :
  b6 P w K mg base "_law_corner" ["_law_slope_here","_law_hand","_law_wide"] 6 (cj K 3 o'):=by
 refine dq Y.g8 vV rfl (λ_ _ _ _ _ _ _ b=>⟨_,(a1 (je (bf (L6 B Y) b (aC (ah 2) (aC (bf (oh B Y) b (aC (ah 0) (aC (ah 2) a9))) a9))) (Hv (n:=4) rfl (cq (cO 3 vV.nd) (cq (cO 4 vV.nd) (cq (cO 5 vV.nd) (cq (cO 6 vV.nd) fI)))))) (a1 (fw (g7 (f:=λi j=>decide (j<i)) pq (ei 0) bo (dH _)) (bE (cI (dA (fG (a2 (ah 3) (a2 (ho (dA (fG (a2 (ah 4) (a2 (ah 5) b0)))) (wQ (w5 (b.units) (ah 1) qV (dH _)) (by rfl) B.jI) (λ_ _=>rfl)) (a2 (ho (dA (fG (a2 (ah 5) (a2 (ah 6) b0)))) (wQ (w5 (b.units) (ah 1) qV (dH _)) (by rfl) B.jI) (λ_ _=>rfl)) b0))))))) fH) (a1 (fw (BR (b.units) (ah 1) qV (dH _)) (bE (cI (dA (fG (a2 (ah 3) (a2 (ah 4) (a2 (ah 6) b0))))))) fH) (bE (cI (dA (fG (a2 (ah 6) (a2 (ah 4) (a2 (ah 5) b0)))))))))),?_⟩);rintro J k L ⟨s,w,p,rfl,d,c,q,r,e,u,g,l,a⟩;refine cY rfl ?_;have v:=uO d c q r;have m:s.2*w.2≠0:=nA d.1 c.1
 have x:SB (bT s w).1<=140/\SB (bT s w).2<=140:=by
  obtain⟨_,_,y,A⟩:=jL (t:=(if s.1<0 then -s.1 else s.1)*w.1) m
  have C:SB (if s.1<0 then -s.1 else s.1)<=64:=by
   split
   ·exact TT e
   exact e
  exact⟨Sy (fY y (TE C g)) (by decide),Sy (fY A (TE u l)) (by decide)⟩
 obtain⟨E,F⟩:=x;have M:0<s.1->ee (s.1*w.1) (s.2*w.2)=bT s w:=Sg;have G:s.1<0->ee (s.1*w.1) (s.2*w.2)=(-(bT s w).1,(bT s w).2):=Sh d c;have H:∀{z:Int},SB z<=64->SB z<=4000:=λh=>cb h;have I:∀{z:Int},SB z<=140->SB z<=4000:=λh=>cb h;walk_at"w";refine⟨s,w,rfl,d,c,q,r,e,u,g,l,rfl,w,bT s w,rfl,c,v.lh,cb g,cb l,cb E,cb F,_,rfl,rfl,_,_,rfl,_,_,rfl,_,_,rfl,_,_,rfl,rfl,?_⟩;unfold dd at a;refine⟨_,rfl,_,_,_,.inl rfl,rfl,rfl,_,_,rfl,rfl,_,rfl,?_⟩;refine hB (λo=>?_) (λo=>?_)
 ·rw[SZ o]at a;cases p with
  |true=>
   rw[SZ rfl]at a;walk_at"w";refine⟨.S,rfl,rfl,by decide,.inr ⟨_,rfl,?_⟩⟩;rw[show eqD (D.str (if true=true then Str.ofString "high" else Str.ofString "low")) (D.str (Str.ofString "high"))=true from HM];refine⟨_,_,_,.inr rfl,rfl,rfl,?_⟩;walk_at"w";refine⟨.S,rfl,rfl,by decide,.inr ⟨_,rfl,?_⟩⟩;rw[show eqD (D.str (if true=true then Str.ofString "high" else Str.ofString "low")) (D.str (Str.ofString "high"))=true from HM];exact⟨_,_,_,.inr rfl,rfl,rfl,h6,a⟩
  |false=>
   rw[Tl SW]at a;walk_at"w";refine⟨.S,rfl,rfl,by decide,.inr ⟨_,rfl,?_⟩⟩;rw[show eqD (D.str (if false=true then Str.ofString "high" else Str.ofString "low")) (D.str (Str.ofString "high"))=false from HN];refine⟨_,_,_,.inr rfl,rfl,rfl,?_⟩;walk_at"w";refine⟨.S,rfl,rfl,by decide,.inr ⟨_,rfl,?_⟩⟩;rw[show eqD (D.str (if false=true then Str.ofString "high" else Str.ofString "low")) (D.str (Str.ofString "high"))=false from HN];exact⟨_,_,_,.inr rfl,rfl,rfl,h6,a⟩
 rw[Tl o]at a;cases p with
 |true=>
  rw[SZ rfl]at a;refine⟨_,rfl,.S,rfl,rfl,by decide,_,rfl,?_⟩;rw[show eqD (D.str (if true=true then Str.ofString "high" else Str.ofString "low")) (D.str (Str.ofString "low"))=false from Jt];exact⟨_,rfl,_,rfl,_,rfl,h6,a⟩
 |false=>
  rw[Tl SW]at a;refine⟨_,rfl,.S,rfl,rfl,by decide,_,rfl,?_⟩;rw[show eqD (D.str (if false=true then Str.ofString "high" else Str.ofString "low")) (D.str (Str.ofString "low"))=true from Ju];exact⟨_,rfl,_,rfl,_,rfl,h6,a⟩
theorem og :
  b6 P w K mg base "_law_slope" ["_law_bag_here"] 5 (cj K 1 o5):=by
 refine dq Y.hA ER rfl (λ_ _ _ _ _ _ _ b=>⟨_,(a1 (je (bf (L7 B Y) b (gD 0 a9)) (f0 (n:=2) rfl (cq (cO 1 ER.nd) (cq (cO 2 ER.nd) fI)))) (bE (cI (dV (a2 (cB (g6 bo (cB bo (bf (h5 B Y) b (gD 0 (aC bo a9))))) (ah 1)) (a2 (ah 2) b0)))))),?_⟩);rintro g k h ⟨rfl,d⟩;refine cY rfl ?_;walk_at"w";intro r a i e f;refine⟨_,rfl,rfl,_,_,rfl,_,_,rfl,rfl,?_⟩;walk_at"w";intro c j l;walk_at"w";obtain rfl|rfl:c=0\/c=1:=by lia
 ·exact d ((1-2*0)*r.1,r.2) (by show ba ((1-2*0)*r.1) r.2;rw[show(1-2*0:Int)*r.1=r.1 by lia];exact a) (by show(1-2*0:Int)*r.1≠0;lia) (by show SB ((1-2*0)*r.1)<=10;rw[show(1-2*0:Int)*r.1=r.1 by lia];exact e) f
 exact d ((1-2*1)*r.1,r.2) (by show ba ((1-2*1)*r.1) r.2;rw[show(1-2*1:Int)*r.1 = -r.1 by lia];exact⟨a.1,by rw[Um];exact a.2⟩) (by show(1-2*1:Int)*r.1≠0;lia) (by show SB ((1-2*1)*r.1)<=10;rw[show(1-2*1:Int)*r.1 = -r.1 by lia];exact TT e) f
theorem oe :
  b6 P w K mg base "_law_shares" ["_law_bag_here","_law_whole_here","_law_many"] 5 (cj K 3 o4):=by
 refine dq Y.gS LM rfl (λ_ _ _ _ _ _ _ o=>⟨_,(a1 (uh (i:=3) LM.nd rfl (T6 rfl) (dA (ii (ts:=["_law_k"]) (fr:=["_law_bag_here"]) (js:=[0]) (wU (ah 2) (by rfl) B.fo) (λ_ _ _ _=>(ez (i:=0) (show SS (["_law_k","_law_bag_here"]:ZX) by decide +kernel) rfl (SG rfl))) (λ_ _ _ _=>gU) (λ_ _ _ _=>(fZ bo (bf (h5 B Y) o (gD 1 (aC bo a9))))) ⟨rfl,by decide +kernel,rfl,by decide +kernel,gs (Th.mpr ⟨rfl,(S5 _)⟩),gG rfl,by walk_at"ffr",rfl⟩))) (bE (wS (ii (ts:=["_law_one"]) (fr:=["_law_whole_here","_law_some"]) (js:=[1,3]) (fP (ah 3)) (λ_ _ _ _=>(ez (i:=0) (show SS (["_law_one","_law_whole_here","_law_some"]:ZX) by decide +kernel) rfl (SG rfl))) (λ_ _ _ _=>gU) (λ_ _ _ _=>(bf (L5 B Y) o (aC (ah 1) (aC (dV (a2 (ah 0) (a2 (P5 (ah 2) rfl (by rfl) B.mT) b0))) a9)))) ⟨rfl,by decide +kernel,rfl,by decide +kernel,gs (Th.mpr ⟨rfl,(Th.mpr ⟨rfl,(S5 _)⟩)⟩),gG rfl,by walk_at"ffr",rfl⟩)))),?_⟩);rintro z k g ⟨w,n,rfl,p,A,q,C,E,r⟩;refine cY rfl ?_;have F:5000<=TI:=by decide
 refine⟨_,rfl,_,rfl,by lia,by lia,by rw[Sv,Uv];lia,?_⟩;refine LC (f:=D.int) (Pp:=λx:Int=>1<=x/\x<=6) (fs:=[.bag]) (λd G H s=>?_) (λb g m=>?_)
 ·walk_at"w";intro c I q;exact⟨_,_,rfl,rfl,s _ ⟨by lia,by lia⟩⟩
 rw[Sv,Uv,Wc]at g
 have t:∀l:ZM,(∀x∈l,1<=x/\x<=6)->(l.length:Int)<=l.sum/\l.sum<=6*l.length:=λl=>by
  induction l with
  |nil=>intro _;exact⟨Vy _,Vy _⟩
  |cons a l u=>
   intro h;have i:=u λx e=>h x (Sx _ e);have j:=h a Sw;rw[S',SK];lia
 have J:=t b m;refine⟨_,rfl,_,rfl,by rw[Sv];lia,?_⟩;refine jK (f:=D.int) (h:=λx=>dR (i7 w b.sum x)) (λx e L v=>?_) (r b g m);have M:=m x e;have N:1<=b.length:=WX e;refine⟨_,rfl,_,rfl,_,rfl,b,rfl,e7,rfl,w,(x,b.sum),rfl,p.1,by show 0<b.sum;lia,by lia,by lia,Sy (DI (x:=x) (by lia) (by lia)) (by decide),?_,v⟩;have y:SB b.sum<=6:=intBits_le_iff.mpr (by show b.sum.natAbs<64;lia);exact cb y
theorem L9 :
  b6 P w K mg base "_law_rest" ["_law_bag_here","_law_slope_here","_law_hand","_law_whole_here","_law_many","_law_cuts"] 7 (cj K 6 ET):=by
 refine dq Y.h7 ES rfl (λ_ _ _ _ _ _ _ y=>⟨_,(a1 (mx (i:=6) ES.nd rfl (SG rfl) (fG b0)) (a1 (k4 PassesOwn.never rfl (fP (bf (oe B Y) y (gD 0 (aC (ah 3) (aC (ah 4) a9))))) (cO 7 ES.nd) (bE (kJ 6 (dV (a2 (ah 7) (a2 (bf (oq B Y) y (gD 0 (aC (bf (L8 B Y) y (aC (ah 1) (aC (ah 2) (aC (ah 7) a9)))) (aC (ah 5) a9)))) b0)))))) (bE (GC 6)))),?_⟩);rintro a6 k aq ⟨s,w,o,n,A,rfl,J,L,M,O,Q,R,T,U,av,aw,ax⟩;refine cY rfl ?_;have a7:5000<=TI:=by decide
 refine⟨S9 _,?_⟩;dsimp only;refine EE (λq=>∃(cs:ZS)(S:Int)(p:aA),q=[.bag,.val (dR s),.val (.str (if o=true then"high" else"low")),.val (dR w),.val (.int n),.val (.int A),.own (cs.map dC),p]/\(0<n->0<S)/\S<=48/\cs.length=n/\(∀c∈cs,gN s (fg w S.toNat) jx o 0 c)/\(∀c∈cs,∀x∈c.2,x.1.length<=6)/\dN cs*S=bv w*S) (λN C=>?_) ?_;rotate_left
 ·rintro q ⟨cs,S,p,rfl,ay,az,aD,aG,aH,aJ⟩;exact⟨_,rfl,ax cs S ay az aD aG aH aJ⟩
 refine⟨rfl,_,rfl,_,rfl,rfl,w,n,rfl,Q,R,T,U,av,λd aq E=>⟨_,rfl,?_⟩⟩
 have aN:∀l:ZM,(∀x∈l,1<=x/\x<=6)->(l.length:Int)<=l.sum/\l.sum<=6*l.length/\∀x∈l,x<=l.sum:=λl=>by
  induction l with
  |nil=>intro _;exact⟨Vy _,Vy _,λx e=>by cases e⟩
  |cons a l aM=>
   intro h;obtain⟨bc,bg,aO⟩:=aM λx e=>h x (Sx _ e);have j:=h a Sw;rw[S',SK];refine⟨by lia,by lia,λx e=>?_⟩;rcases SH.mp e with rfl|e
   ·lia
   have:=aO x e;lia
 obtain⟨aQ,bj,aR⟩:=aN d E;have W:∀x∈d,_:=λx e=>r5 Q R T U (E x e).1 (E x e).2 (aR x e) (by lia);refine oJ (f:=λx=>dR (i7 w d.sum x)) (rs:=d) (done:=[]) (λpre q=>∃(cs:ZS)(p:aA),q=[.bag,.val (dR s),.val (.str (if o=true then"high" else"low")),.val (dR w),.val (.int n),.val (.int A),.own (cs.map dC),p]/\(cs.map λc=>c.1)=pre.map (i7 w d.sum)/\(∀c∈cs,gN s (fg w d.sum.toNat) jx o 0 c)/\∀c∈cs,∀x∈c.2,x.1.length<=6) ⟨[],_,rfl,rfl,by simp,by simp⟩ ?_ (λq h=>?_)
 ·rintro pre x u q v ⟨cs,p,rfl,r,F,ln⟩ N C;have v:d=pre++x::u:=by simpa using v
  have e:x∈d:=by rw[v];simp
  have le:cs.length<8:=by
   have a:=Uf S3 r;have b:=Uf S3 v;rw[Sv,Sv]at a;rw[Sz,SK]at b;lia
  obtain⟨G,X,Z,af,bq⟩:=W x e;obtain⟨aV,aW,br⟩:=r_ J G.1 L X M O Z af o;have m:∀{z:Int}{a:Nat},SB z<=a->a<=64->SB z<=64:=λh g=>Sy h g;refine⟨_,rfl,_,rfl,rfl,_,rfl,_,rfl,_,rfl,rfl,s,i7 w d.sum x,o,rfl,J,G.1,L,X,cb M,cb O,cb Z,cb af,_,rfl,rfl,dd s o (i7 w d.sum x),A,rfl,aV,aW,by lia,aw,λsh ak aZ aY=>?_⟩;refine⟨e7,by rw[Sv];lia,C _ ⟨cs++[(i7 w d.sum x,sh)],_,by rw[SF];rfl,by rw[SF,SF,r];rfl,λc H=>?_,λc H=>?_⟩⟩
  ·rcases SO.mp H with z|z
   ·exact F c z
   rw[SQ.mp z];exact⟨G,λt I=>((ak t I).px (b:=802) (by decide)).mono (SD _) (by decide) (SD _) (SD _),aZ,aY⟩
  rcases SO.mp H with z|z
  ·exact ln c z
  rw[SQ.mp z];exact λt I=>(ak t I).ln
 obtain⟨cs,p,rfl,r,F,ln⟩:=h;rw[Tf]at r;have hs:=Uf S3 r;rw[Sv,Sv]at hs;refine C _ ⟨cs,d.sum,p,rfl,λz=>by lia,by lia,by lia,F,ln,?_⟩;by_cases z:0<d.sum
 ·have a3:=LB z d λx e=>(W x e).2.2.2.2
  have a5:dN cs=(d.map λn=>bv (i7 w d.sum n)).sum:=by
   unfold dN;rw[show(cs.map λc=>bv c.1)=(cs.map λc=>c.1).map bv from by rw[SM];rfl,r,SM];rfl
  rw[a5,a3]
 have:d=[]:=by cases d with|nil=>rfl|cons a l=>exact absurd (by rw[SK]at aQ;lia) z
 subst this;show _*((0:Int):Rat)=_*((0:Int):Rat)
 rw[Rat.intCast_zero,Rat.mul_zero,Rat.mul_zero]
theorem vZ :
  b6 P w K mg base "_law_pieces" ["_law_some"] 2 (cj K 1 o3):=by
 refine dq Y.gT EU rfl (λ_ _ _ _ _ _ _ q=>⟨_,(a1 (mx (i:=1) EU.nd rfl (SG rfl) (fG b0)) (a1 (k4 PassesOwn.never rfl (fP (ah 0)) (cO 2 EU.nd) (bE (Rc 1 (ho (ah 2) (pE bo) (λ_ _=>rfl))))) (bE (GC 1)))),?_⟩);rintro r k j ⟨d,rfl,j,o⟩;refine cY rfl ?_;have s:=zu;refine jg (λa=>a=[.val (.lst (d.map o6)),.own (.l ((((([]:List (ZP×ZR)).map λb=>b.2).flatten)).map bH)),.no]) ?_ (λN m=>⟨S9 _,m _ rfl⟩);rintro a rfl;refine jg (λa=>∃c:aA,a=[.val (.lst (d.map o6)),.own (.l ((d.map λb=>b.2).flatten.map bH)),c]) ?_ (λN m=>?_)
 ·rintro a ⟨c,rfl⟩;exact⟨_,rfl,o⟩
 refine⟨_,rfl,_,rfl,?_⟩;refine oJ (f:=o6) (rs:=d) (done:=[]) (λpre a=>∃c:aA,a=[.val (.lst (d.map o6)),.own (.l ((pre.map λb=>b.2).flatten.map bH)),c]) ⟨_,rfl⟩ ?_ (λa h=>?_);rotate_left
 ·obtain⟨c,rfl⟩:=h;exact m _ ⟨c,rfl⟩
 rintro pre x g a n ⟨c,rfl⟩ t p;rw[Tf]at n
 have u:(pre.map λb=>b.2).flatten.length+x.2.length<=400:=by
  rw[Xq,SM]
  have e:(pre.map λb=>b.2.length).sum+(x.2.length+(g.map λb=>b.2.length).sum)<=400:=by
   rw[n]at j;simpa using j
  have v:(Vz (S3∘λb:ZP×ZR=>b.2) pre).sum=(pre.map λb=>b.2.length).sum:=rfl;lia
 refine⟨_,rfl,_,rfl,_,rfl,_,_,_,.inl rfl,rfl,r4 _ _,x.2.map bH,rfl,by rw[Sv,Sv];lia,?_⟩
 have e:(pre.map λb=>b.2).flatten.map bH++x.2.map bH=((pre++[x]).map λb=>b.2).flatten.map bH:=by
  rw[SF,List.flatten_append,SF];simp
 rw[e];exact p _ ⟨_,rfl⟩
theorem ob :
  b6 P w K mg base "_law_right_pair" ["_law_pair","_law_slope_here","_law_hand"] 7 (cj K 3 o2):=by
 refine dq Y.fv LN rfl (λ_ _ _ _ _ _ _ c=>⟨_,(a1 (fw (k3 (eN (hn (fl (lL (T:="tuple") (ah 0) (by rfl) B.ec (lC (v:=.ty "tuple") (u:=.type "tuple") (by rfl) B.fj (by decide +kernel) rfl) rfl rfl rfl))) (eN (g7 (f:=λi j => !decide (i=j)) qR (j' (ah 0) (by rfl) B.e') bo (dH _)) (mr (hn (fl (bf (E5 B Y) c (aC (ei 0) a9)))))))) (bE (cI ix)) fH) (a1 (cx 3 LN.nd (bf (L8 B Y) c (aC (ah 1) (aC (ah 2) (aC (ei 0) a9))))) (bE (cI (pF (bf (E3 B Y) c (aC (ei 0) (aC (ah 3) a9))) (su (bf (E3 B Y) c (aC (ei 0) (aC (ah 3) a9))))))))),?_⟩);rintro J k L ⟨s,w,d,a,b,rfl,n,o,p,q,e,l,r,t,M,bl,C,E,F,G,H⟩;refine cY rfl ?_;refine nH (λN I=>?_) ?_
 ·refine⟨_,rfl,_,_,rfl,λ_=>rfl,_,rfl,fk ?_⟩;refine⟨_,rfl,_,rfl,_,_,rfl,rfl,_,rfl,fk ?_⟩;exact⟨_,rfl,_,_,_,.inl rfl,rfl,rfl,rfl,w,rfl,e,l,_,rfl,fk I⟩
 have m:∀{z:Int}{a:Nat},SB z<=a->a<=64->SB z<=64:=λh g=>Sy h g;have y:∀{x:Int},SB x<=22->SB x<=47:=λh=>cb h;have A:=za n o (cb p) (cb q) e l (y r) (y t) d;refine⟨_,rfl,_,rfl,_,rfl,_,_,_,.inl rfl,rfl,rfl,rfl,s,w,d,rfl,n,e,o,l,cb p,cb q,cb r,cb t,_,rfl,_,_,_,.inl rfl,rfl,rfl,_,rfl,rfl,a,dd s d w,rfl,by lia,C,A,F,_,rfl,?_⟩;rw[SZ rfl];exact⟨_,rfl,_,_,_,.inl rfl,rfl,rfl,_,rfl,rfl,b,dd s d w,rfl,by lia,E,A,G,H⟩
theorem Ma :
  b6 P w K mg base "_law_right" ["_law_found","_law_slope_here","_law_hand","_law_rest_here","_law_other","_law_whole_here"] 8 (cj K 6 o1):=by
 refine dq Y.hD tG rfl (λ_ _ _ _ _ _ _ H=>⟨_,(a1 (fw (k3 (eN (hn (fl (lL (T:="tuple") (ah 0) (by rfl) B.ec (lC (v:=.ty "tuple") (u:=.type "tuple") (by rfl) B.fj (by decide +kernel) rfl) rfl rfl rfl))) (eN (g7 (f:=λi j => !decide (i=j)) qR (j' (ah 0) (by rfl) B.e') bo (dH _)) (mr (hn (fl (sD (dA (ii (ts:=["_law_some"]) (fr:=[]) (js:=[]) (BD (ah 0)) (λ_ _ _ _=>(ez (i:=0) (show SS (["_law_some"]:ZX) by decide +kernel) rfl (SG rfl))) (λ_ _ _ _=>gU) (λ_ _ _ _=>(lL (T:="list") (ah 0) (by rfl) B.ec (lC (v:=.ty "list") (u:=.type "list") (by rfl) B.hp (by decide +kernel) rfl) rfl rfl rfl)) ⟨rfl,by decide +kernel,rfl,by decide +kernel,gs (S5 _),gG rfl,by walk_at"ffr",rfl⟩)) rfl (by rfl) B.ji))))))) (bE (cI ix)) fH) (a1 (fw (hn (fl (sD (dA (ii (ts:=["_law_pair"]) (fr:=["_law_slope_here","_law_hand"]) (js:=[1,2]) (fP (ei 0)) (λ_ _ _ _=>(ez (i:=0) (show SS (["_law_pair","_law_slope_here","_law_hand"]:ZX) by decide +kernel) rfl (SG rfl))) (λ_ _ _ _=>gU) (λ_ _ _ _=>(bf (ob B Y) H (aC (ah 0) (aC (ah 1) (aC (ah 2) a9))))) ⟨rfl,by decide +kernel,rfl,by decide +kernel,gs (Th.mpr ⟨rfl,(Th.mpr ⟨rfl,(S5 _)⟩)⟩),gG rfl,by walk_at"ffr",rfl⟩)) rfl (by rfl) B.ji))) (bE (cI ix)) fH) (a1 (fw (hn (fl (sD (dA (ii (ts:=["_law_box_here"]) (fr:=[]) (js:=[]) (fP (dA (oC (ei 0) (ei 0)))) (λ_ _ _ _=>(ez (i:=0) (show SS (["_law_box_here"]:ZX) by decide +kernel) rfl (SG rfl))) (λ_ _ _ _=>gU) (λ_ _ _ _=>(bf (oi B Y) H (aC (ah 0) a9))) ⟨rfl,by decide +kernel,rfl,by decide +kernel,gs (S5 _),gG rfl,by walk_at"ffr",rfl⟩)) rfl (by rfl) B.ji))) (bE (cI ix)) fH) (a1 (cx 7 tG.nd (ah 5)) (a1 (k4 PassesOwn.never rfl (fP (ei 0)) (cO 6 tG.nd) (bE (cx 7 tG.nd (bf (oj B Y) H (aC (ah 7) (aC (ei 6) a9)))))) (a1 (cx 8 tG.nd (bf (vZ B Y) H (aC (dA (oC (dA (ii (ts:=["_law_pair"]) (fr:=[]) (js:=[]) (fP (ei 0)) (λ_ _ _ _=>(ez (i:=0) (show SS (["_law_pair"]:ZX) by decide +kernel) rfl (SG rfl))) (λ_ _ _ _=>gU) (λ_ _ _ _=>(Hb (ah 0) ui (qY bo))) ⟨rfl,by decide +kernel,rfl,by decide +kernel,gs (S5 _),gG rfl,by walk_at"ffr",rfl⟩)) (ei 0))) a9))) (a1 (cx 9 tG.nd (bf (vZ B Y) H (aC (dA (oC (ei 0) (ei 0))) a9))) (bE (cI (pF (lJ (f:=λi j=>decide (i=j)) nv (ei 7) bo (dH _)) (pF (bf (L4 B Y) H (aC (bf (vZ B Y) H (aC (ah 3) a9)) (aC (ah 8) a9))) (su (bf (L4 B Y) H (aC (bf (vZ B Y) H (aC (ah 4) a9)) (aC (ah 9) a9))))))))))))))),?_⟩);rintro dG k S ⟨s,w,N,aw,os,ts,t,I,J,rfl,bF,bJ,bK,bM,X,ag,aP,aQ,bQ,aR,ak,ax,dJ,dO,no,bS,cG,cL,cQ⟩;refine cY rfl ?_;have dP:5000<=TI:=by decide
 have dQ:=LA bF bJ bK bM X ag aP aQ aR;have U:∀p∈t,gN s (fg w N) jx aw 8 (p.1,p.2.1)/\gN s (fg w N) jx aw 8 (p.1,p.2.2):=λp C=>⟨ak.p (p.1,p.2.1) (SI.mpr ⟨p,C,rfl⟩),ax.p (p.1,p.2.2) (SI.mpr ⟨p,C,rfl⟩)⟩;have aT:=λp C=>fg.ff X ag aP aQ aR (U p C).1.w
 have cR:∀b∈I++J,tw jx 8 3 b:=λb E=>by
  rcases SO.mp E with z|z
  ·exact ak.b b z
  exact ax.b b z
 have m:∀{z:Int}{a b:Nat},SB z<=a->a<=b->SB z<=b:=λh g=>Sy h g;refine nH (λaV Z=>?_) ?_
 ·refine⟨_,rfl,_,_,rfl,λ_=>rfl,_,rfl,fk ?_⟩;refine⟨_,rfl,_,rfl,_,_,rfl,rfl,_,rfl,fk ?_⟩;refine⟨_,rfl,_,rfl,h6,?_⟩;refine jK (f:=D.lst) (rs:=[t.map hJ,I.map fp,J.map fp]) (h:=λ_=>.bl true) (λb E aF az=>⟨_,rfl,_,_,rfl,λ_=>rfl,az⟩) ?_;exact⟨_,rfl,(λd h1=>by obtain⟨_,_,rfl⟩:=SI.mp h1;rfl),_,rfl,fk Z⟩
 refine nH (λaV Z=>?_) ?_
 ·refine⟨_,rfl,_,_,_,.inl rfl,rfl,rfl,_,rfl,by rw[Sv];lia,?_⟩;refine jK (f:=hJ) (h:=λ_=>.bl true) (λp C aF az=>?_) ?_
  ·obtain⟨L,aW⟩:=U p C;exact⟨_,rfl,_,rfl,_,rfl,rfl,s,p.1,aw,p.2.1,p.2.2,rfl,bF,bJ,bK,bM,L.w.1,L.w.pos X ag,(aT p C).1,(aT p C).2,L.ln,aW.ln,λx F=>(L.px x F).jC (SD _),λx F=>(aW.px x F).jC (SD _),L.iz,aW.iz,az⟩
  exact⟨_,rfl,(λd h1=>by obtain⟨_,_,rfl⟩:=SI.mp h1;rfl),_,rfl,fk Z⟩
 have aq:∀l:ZU,(l.map fp).length=l.length:=λl=>Sv ..;refine nH (λaV Z=>?_) ?_
 ·refine⟨_,rfl,_,_,_,.inl rfl,rfl,rfl,_,rfl,_,_,_,.inl rfl,rfl,rfl,_,_,rfl,rfl,by rw[aq,aq];lia,_,rfl,by rw[Sz,aq,aq];lia,?_⟩;rw[<-SF];refine jK (f:=fp) (h:=λ_=>.bl true) (λb E aF az=>?_) ?_
  ·have q:=cR b E;exact⟨_,rfl,rfl,b.1,b.2.1,b.2.2,rfl,q.lw,q.lh,m q.b1 (by decide),m q.b2 (by decide),m q.b3 (by decide),m q.b4 (by decide),q.w0,q.h0,cb q.ln,λx F=>(q.px x F).jC (SD _),q.iz,az⟩
  exact⟨_,rfl,(λd h1=>by obtain⟨_,_,rfl⟩:=SI.mp h1;rfl),_,rfl,fk Z⟩
 refine⟨_,rfl,?_⟩;dsimp only
 have bV:dN (p1 t)=bv w:=by
  have:=ak.w;rw[show dN []=0 from rfl,cL]at this;grind
 refine EE (λav=>∃(x:F2)(aa:aA),av=[.val (.tup [.lst (t.map hJ),.lst (I.map fp),.lst (J.map fp)]),.val (dR s),.val (.str (if aw=true then"high" else"low")),.val (.lst (os.map dC)),.val (.lst (ts.map dC)),.val (dR w),aa,.val (dR x),.no,.no]/\x.1=0) (λaV Z=>?_) ?_
 ·refine⟨_,rfl,_,_,_,.inl rfl,rfl,rfl,_,rfl,?_⟩;refine oJ (f:=hJ) (rs:=t) (done:=[]) (λpre av=>∃(x:F2)(aa:aA),av=[.val (.tup [.lst (t.map hJ),.lst (I.map fp),.lst (J.map fp)]),.val (dR s),.val (.str (if aw=true then"high" else"low")),.val (.lst (os.map dC)),.val (.lst (ts.map dC)),.val (dR w),aa,.val (dR x),.no,.no]/\rV w N x/\bv x=bv w-dN (p1 pre)) ⟨w,_,rfl,?_,by show bv w=bv w-0;grind⟩ ?_ (λav h=>?_)
  ·have:=(fg.self X).up N bQ;rw[VQ]at this;exact this.wz
  ·rintro pre p W av aD ⟨x,aa,rfl,F,a0⟩ cS a3;have aD:t=pre++p::W:=by simpa using aD
   have C:p∈t:=by rw[aD];simp
   obtain⟨L,_⟩:=U p C;obtain⟨cT,c0⟩:=aT p C;obtain⟨c7,c8⟩:=F.ff X ag aP aQ bQ aR;have bW:∀(q:jv)(l:ZV),dN (p1 (q::l))=bv q.1+dN (p1 l):=λq l=>by unfold dN p1;rw[SJ,SJ,S']
   have bX:∀a b:ZV,dN (p1 (a++b))=dN (p1 a)+dN (p1 b):=λa b=>by unfold p1;rw[SF,tx]
   have le:bv p.1<=bv x:=by
    have c9:=(Le (cs:=p1 W) λd h1=>by
     obtain⟨q,da,rfl⟩:=SI.mp h1;have bY:=(U q (by rw[aD];simp[da])).1.w
     exact oY (bY.pos X ag) bY.1.1).1
    have z:=bV;rw[aD,bX,bW]at z;grind
   refine⟨_,rfl,_,rfl,_,_,_,.inl rfl,rfl,rfl,rfl,x,p.1,rfl,F.1.1,L.w.1.1,cb c7,cb c8,cb cT,cb c0,a3 _ ⟨ce x p.1,_,rfl,F.sub X ag L.w le,?_⟩⟩;rw[(Ld F.1 L.w.1).2,a0,bX,bW,show dN (p1 [])=0 from rfl];grind
  obtain⟨x,aa,rfl,F,a0⟩:=h;refine Z _ ⟨x,aa,rfl,Lc F.1 ?_⟩;rw[a0,Tf,bV];grind
 rintro av ⟨x,aa,rfl,tb⟩
 have cnt:∀(n:Nat)(M:List (ZP×ZR)),(∀g∈M,g.2.length<=3)->M.length<=n->(M.map λg=>g.2.length).sum<=n*3:=λn M h l=>by
  have:=s3 (f:=λg:ZP×ZR=>g.2.length) (m:=3) (l:=M) h;lia
 have bZ:∀M:List (ZP×ZR),(M.map λg=>g.2).flatten.length=(M.map λg=>g.2.length).sum:=λM=>by rw[Xq,SM];rfl
 obtain⟨O,aI⟩:∃O:List (ZP×ZR),O=(t.map λp=>([dR p.1],p.2.1))++I.map λb=>([dR b.1,dR b.2.1],b.2.2):=⟨_,rfl⟩;obtain⟨Q,aN⟩:∃Q:List (ZP×ZR),Q=(t.map λp=>([dR p.1,.lst (p.2.1.map bH)],p.2.2))++J.map λb=>([dR b.1,dR b.2.1],b.2.2):=⟨_,rfl⟩;obtain⟨g3,aO⟩:∃g3:ZS->List (ZP×ZR),g3=λl=>l.map λc=>([dR c.1],c.2):=⟨_,rfl⟩;have de:(t.map λp=>dC (p.1,p.2.1))++I.map fp=O.map o6:=by rw[aI,SF,SM,SM];rfl
 have df:t.map hJ++J.map fp=Q.map o6:=by rw[aN,SF,SM,SM];rfl
 have b5:∀l:ZS,l.map dC=(g3 l).map o6:=λl=>by rw[aO];show _=(Vz _ l).map _;rw[SM];rfl
 have b8:∀g∈O,g.2.length<=3/\∀y∈g.2,hu y:=λg G=>by
  rw[aI]at G;rcases SO.mp G with z|z
  ·obtain⟨p,C,rfl⟩:=SI.mp z;exact⟨(U p C).1.ln,λy A=>((U p C).1.px y A).jC (SD _)⟩
  obtain⟨b,E,rfl⟩:=SI.mp z;exact⟨(ak.b b E).ln,λy A=>((ak.b b E).px y A).jC (SD _)⟩
 have x1:∀g∈Q,g.2.length<=3/\∀y∈g.2,hu y:=λg G=>by
  rw[aN]at G;rcases SO.mp G with z|z
  ·obtain⟨p,C,rfl⟩:=SI.mp z;exact⟨(U p C).2.ln,λy A=>((U p C).2.px y A).jC (SD _)⟩
  obtain⟨b,E,rfl⟩:=SI.mp z;exact⟨(ax.b b E).ln,λy A=>((ax.b b E).px y A).jC (SD _)⟩
 have a5:∀l:ZS,(∀c∈l,c∈os++ts)->∀g∈g3 l,g.2.length<=3/\∀y∈g.2,hu y/\y.1.length<=6:=λl S g G=>by
  rw[aO]at G;obtain⟨c,R,rfl⟩:=SI.mp G;exact cG c (S c R)
 have cg:O.length<=32:=by rw[aI,Sz,Sv,Sv];lia
 have cu:Q.length<=32:=by rw[aN,Sz,Sv,Sv];lia
 have dg:∀l:ZS,l.length<=8->(g3 l).length<=8:=λl h=>by rw[aO];show(Vz _ l).length<=8;rw[Sv];exact h
 have dh:=cnt 32 O (λg h=>(b8 g h).1) cg;have aF:=cnt 32 Q (λg h=>(x1 g h).1) cu;have a6:=λl S (h:l.length<=8)=>cnt 8 (g3 l) (λg G=>(a5 l S g G).1) (dg l h)
 have cz:∀(l a':ZS)(bc:ZU)(g:List (ZP×ZR)),(∀c∈l,c∈os++ts)->l.length<=8->(∀o c,gX o c (kZ a')+gX o c (tz bc)=gX o c (kZ l))->(g.map λx=>x.2)=a'.map (λc=>c.2)++bc.map (λb=>b.2.2)->(∀x∈g,x.2.length<=3/\∀y∈x.2,hu y)->g.length<=32->∀bg:D->Prop,bg (.bl true)->LK [.val (.lst (((g3 l).map λx=>x.2).flatten.map bH)),.val (.lst ((g.map λx=>x.2).flatten.map bH))] λr=>lK r bg:=λl a' bc g S di dk dm k' dw bg bj=>by
  refine⟨((g3 l).map λx=>x.2).flatten,(g.map λx=>x.2).flatten,rfl,?_,?_,?_,?_,?_,?_,bj⟩
  ·rw[bZ];exact a6 l S di
  ·rw[bZ];exact Sy (cnt 32 g (λx h=>(k' x h).1) dw) (by decide)
  ·intro y A;obtain⟨a,aE,A⟩:=Wo.mp A;obtain⟨b,E,rfl⟩:=SI.mp aE;exact((a5 l S b E).2 y A).1
  ·intro y A;obtain⟨a,aE,A⟩:=Wo.mp A;obtain⟨b,E,rfl⟩:=SI.mp aE;exact(k' b E).2 y A
  ·intro b o;show eL o b _=eL o b _
   have f:=dk o b;have e:((g3 l).map λx=>x.2)=kZ l:=by rw[aO];show(Vz _ l).map _=_;rw[SM];rfl
   rw[dm,e,ED,ED,qv];exact f
  intro y A;obtain⟨a,aE,A⟩:=Wo.mp A;obtain⟨b,E,rfl⟩:=SI.mp aE;exact((a5 l S b E).2 y A).2
 have cF:∀o c,gX o c (kZ [])=0:=λ_ _=>rfl
 have bq:∀o c,gX o c (kZ (p1 t))+gX o c (tz I)=gX o c (kZ os):=λo c=>by
  have:=ak.f o c;rw[cF]at this;grind
 have bz:∀o c,gX o c (kZ (p2 t))+gX o c (tz J)=gX o c (kZ ts):=λo c=>by
  have:=ax.f o c;rw[cF]at this;grind
 have ge1:(O.map λx=>x.2)=(p1 t).map (λc=>c.2)++I.map (λb=>b.2.2):=by rw[aI,SF,SM,SM];unfold p1;rw[SM];rfl
 have bA:(Q.map λx=>x.2)=(p2 t).map (λc=>c.2)++J.map (λb=>b.2.2):=by rw[aN,SF,SM,SM];unfold p2;rw[SM];rfl
 have bC:∀h:jv->D,(t.map h).length=t.length:=λh=>Sv ..;refine⟨_,rfl,_,_,_,.inl rfl,rfl,rfl,_,rfl,by rw[bC];lia,?_⟩;refine jK (f:=hJ) (h:=λp=>dC (p.1,p.2.1)) (λp C dS dy=>?_) ?_
 ·refine⟨_,rfl,_,rfl,_,rfl,(λz=>absurd z.2 (by show ¬(HT.sIx 3 3 (some 2)=3);decide)),?_⟩;rw[xk (by decide) (by show(2:Int)<=3;decide)];exact dy
 refine⟨_,rfl,_,_,_,.inl rfl,rfl,rfl,_,_,rfl,rfl,by rw[bC,aq];lia,?_⟩;rw[de];refine⟨rfl,O,rfl,cb dh,_,rfl,_,_,_,.inl rfl,rfl,rfl,_,rfl,_,_,_,.inl rfl,rfl,rfl,_,_,rfl,rfl,by rw[bC,aq];lia,?_⟩;rw[df];refine⟨rfl,Q,rfl,cb aF,_,rfl,_,_,_,.inl rfl,rfl,rfl,_,_,rfl,rfl,_,rfl,?_⟩;rw[SZ (XA tb)];refine⟨_,rfl,rfl,g3 os,by rw[<-b5];rfl,Sy (a6 os (λc R=>Tx _ R) no) (by decide),_,rfl,rfl,?_⟩;refine cz os (p1 t) I O (λc R=>Tx _ R) no bq ge1 b8 cg _ ⟨_,rfl,?_⟩;rw[SZ rfl];refine⟨_,rfl,rfl,g3 ts,by rw[<-b5];rfl,Sy (a6 ts (λc R=>S2 _ R) bS) (by decide),_,rfl,rfl,?_⟩;exact cz ts (p2 t) J Q (λc R=>S2 _ R) bS bz bA x1 cu _ cQ
theorem n_ :
  b6 P w K mg base "_law_copied" ["_law_sheet_here"] 2 (cj K 1 oU):=by
 refine dq Y.g_ oW rfl (λ_ _ _ _ _ _ _ d=>⟨_,(bE (wS (ii (ts:=["_law_ring","_law_flag","_law_step"]) (fr:=[]) (js:=[]) (fP (ah 0)) (λ_ _ _ _=>(f0 (n:=3) rfl (cq (ez (i:=0) (show SS (["_law_ring","_law_flag","_law_step"]:ZX) by decide +kernel) rfl (SG rfl)) (cq (ez (i:=1) (show SS (["_law_ring","_law_flag","_law_step"]:ZX) by decide +kernel) rfl (SG rfl)) (cq (ez (i:=2) (show SS (["_law_ring","_law_flag","_law_step"]:ZX) by decide +kernel) rfl (SG rfl)) fI))))) (λ_ _ _ _=>gU) (λ_ _ _ _=>(dV (a2 (dA (GF (ah 0) (by rfl) B.hp)) (a2 (ah 1) (a2 (ah 2) b0))))) ⟨rfl,by decide +kernel,rfl,by decide +kernel,gs (S5 _),gG rfl,by walk_at"ffr",rfl⟩))),?_⟩);rintro e k a ⟨sh,rfl,a,b⟩;refine cY rfl ?_;have f:1000<=TI:=by decide
 refine⟨_,rfl,_,rfl,by rw[Sv];lia,?_⟩;exact xx (h:=bH) (fs:=[]) (λs g j c=>⟨_,rfl,_,.inl rfl,_,rfl,_,rfl,h6,c⟩) b
theorem Md :
  b6 P w K mg base "_law_lent" ["_law_some"] 3 (cj K 1 oP):=by
 refine dq Y.ic oT rfl (λ_ _ _ _ _ _ _ e=>⟨_,(bE (cI (dA (ii (ts:=["_law_wide","_law_sheet_here"]) (fr:=[]) (js:=[]) (fP (ah 0)) (λ_ _ _ _=>(f0 (n:=2) rfl (cq (ez (i:=0) (show SS (["_law_wide","_law_sheet_here"]:ZX) by decide +kernel) rfl (SG rfl)) (cq (ez (i:=1) (show SS (["_law_wide","_law_sheet_here"]:ZX) by decide +kernel) rfl (SG rfl)) fI)))) (λ_ _ _ _=>gU) (λ_ _ _ _=>(dV (a2 (ah 0) (a2 (bf (n_ B Y) e (aC (ah 1) a9)) b0)))) ⟨rfl,by decide +kernel,rfl,by decide +kernel,gs (S5 _),gG rfl,by walk_at"ffr",rfl⟩)))),?_⟩);rintro p k g ⟨cs,rfl,g,j,l⟩;refine cY rfl ?_;have q:5000<=TI:=by decide
 refine⟨_,rfl,_,rfl,by rw[Sv];lia,?_⟩;refine K2 (f:=dC) (h:=dC) (I:=λd=>∃a b,d=[a,b]) (λc m d r i o=>?_) ⟨_,_,rfl⟩ l;obtain⟨a,b,rfl⟩:=i;exact⟨_,rfl,rfl,_,_,rfl,_,_,rfl,rfl,_,rfl,_,rfl,rfl,c.2,rfl,by have:=j c m;lia,e7,o _ ⟨_,_,rfl⟩⟩
theorem n5 :
  b6 P w K mg base "greatest_divisor" ["one","other"] 2 (cj K 2 q5):=by
 refine dq Y.fe zd rfl (λ_ _ _ _ _ _ _ o=>⟨_,(a1 (cx 0 zd.nd (sx (ah 0) (by rfl) B.jk)) (a1 (cx 1 zd.nd (sx (ah 1) (by rfl) B.jk)) (a1 (BC PassesOwn.never (g7 (f:=λi j => !decide (i=j)) qR (ah 1) bo (dH _)) (bE (GD (i:=0) (j:=1) rfl zd.nd rfl rfl (by decide) rfl rfl (a2 (ah 1) (a2 (wP (ah 0) (ah 1)) b0)) rfl))) (bE (cI (ah 0)))))),?_⟩);rintro p k q ⟨a,b,rfl,h⟩;refine cY rfl ?_;walk_at"wd";refine⟨λm c=>∃(x y:Int),c=[.val (.int x),.val (.int y)]/\0<=x/\0<=y/\Ss x y=Ss a b/\m=y.toNat,⟨_,_,_,rfl,?_,?_,Gh a b,rfl⟩,?_⟩
 ·split<;>lia
 ·split<;>lia
 rintro m c ⟨x,y,rfl,d,l,e,rfl⟩;walk_at"wd";refine Pb (λg=>?_) (λg=>?_)
 ·have g:0<y:=by lia
  walk_at"wd";have n:=Ug x (show y≠0 by lia);have r:=Uo x g;exact⟨_,_,rfl,_,by lia,_,_,rfl,l,n,by rw[Gg d g];exact e,rfl⟩
 subst g;refine⟨_,rfl,?_⟩;rw[<-gcd_zero_left d,e];exact h
theorem zm :
  b6 P w K mg base "crossed" ["one","other"] 2 (cj K 2 q4):=by
 refine dq Y.jf rY rfl (λ_ _ _ _ _ _ _ g=>⟨_,(a1 (je (ah 0) (f0 (n:=3) rfl (cq (cO 2 rY.nd) (cq (cO 3 rY.nd) (cq (cO 4 rY.nd) fI))))) (a1 (je (ah 1) (f0 (n:=3) rfl (cq (cO 5 rY.nd) (cq (cO 6 rY.nd) (cq (cO 7 rY.nd) fI))))) (bE (cI (dV (a2 (g6 (cB (ah 3) (ah 7)) (cB (ah 4) (ah 6))) (a2 (g6 (cB (ah 4) (ah 5)) (cB (ah 2) (ah 7))) (a2 (g6 (cB (ah 2) (ah 6)) (cB (ah 3) (ah 5))) b0)))))))),?_⟩);rintro h k i ⟨p,q,rfl,d,e,f⟩;refine cY rfl ?_;have j:=d.a;have l:=d.b;have m:=d.c;have o:=e.a;have r:=e.b;have s:=e.c;walk_at"w";refine⟨_,_,rfl,_,_,rfl,_,_,rfl,rfl,?_⟩;walk_at"w";refine⟨_,_,rfl,_,_,rfl,_,_,rfl,rfl,?_⟩;walk_at"w";exact f
theorem n9 :
  b6 P w K mg base "hand_of" ["line","p"] 2 (cj K 2 qX):=by
 refine dq Y.jc LO rfl (λ_ _ _ _ _ _ _ m=>⟨_,(a1 (cx 2 LO.nd (fZ (fZ (cB (ei 0) (ei 1)) (cB (ei 0) (ei 1))) (cB (ei 0) (ei 1)))) (a1 (fw (g7 (f:=λi j=>decide (j<i)) pq (ah 2) bo (dH _)) (bE (cI bo)) fH) (a1 (fw (g7 (f:=λi j=>decide (i<j)) oo (ah 2) bo (dH _)) (bE (cI (pE bo))) fH) (bE (cI bo))))),?_⟩);rintro n k o ⟨c,r,rfl,e,h,d⟩;refine cY rfl ?_;have p:=e.a;have q:=e.b;have s:=e.c;have t:=h.a;have u:=h.b;have v:=h.c;walk_at"wd";unfold cM at d;refine hB (λg=>?_) (λg=>?_)
 ·rwa[SZ g]at d
 rw[Tl g]at d;walk_at"wd";refine hB (λl=>?_) (λl=>?_)
 ·rw[SZ l]at d;walk_at"w";exact d
 rwa[Tl l]at d
theorem n6 :
  b6 P w K mg base "point" ["a","b","n"] 3 (cj K 3 qP):=by
 refine dq Y.kr EV rfl (λ_ _ _ _ _ _ _ d=>⟨_,(a1 (fw (g7 (f:=λi j=>decide (i=j)) nv (ah 2) bo (dH _)) (bE GB) fH) (a1 (cx 3 EV.nd (bf (n5 B Y) d (aC (bf (n5 B Y) d (aC (ah 2) (aC (ah 0) a9))) (aC (ah 1) a9)))) (a1 (fw (g7 (f:=λi j=>decide (i<j)) oo (ah 2) bo (dH _)) (bE (cx 3 EV.nd (pE (ah 3)))) fH) (bE (cI (dV (a2 (fD (ah 0) (ah 3)) (a2 (fD (ah 1) (ah 3)) (a2 (fD (ah 2) (ah 3)) b0))))))))),?_⟩);rintro p k q ⟨a,b,n,rfl,c,m,o⟩;refine cY rfl ?_;walk_at"wd";refine hB (λg=>absurd g c) (λ_=>?_);walk_at"w";refine⟨_,_,rfl,?_⟩;walk_at"w";refine⟨_,_,rfl,?_⟩;dsimp only[lK];have r:=Hc (a:=a) (b:=b) c;have e:=Hd (a:=a) (b:=b) c m;rw[Rf a b n];refine jg (λh=>h=[.val (.int a),.val (.int b),.val (.int n),.val (.int (k7 a b n))]) ?_ (λN l=>?_)
 ·rintro h rfl;have s:k7 a b n≠0:=by unfold k7;split<;>lia
  have t:SB (k7 a b n)<=9000:=by
   unfold k7;split
   ·exact TT e
   exact e
  walk_at"w";exact o
 walk_at"wd";refine hB (λg=>?_) (λg=>?_)
 ·walk_at"w";refine l _ ?_;unfold k7;rw[SZ g];rfl
 refine l _ ?_;unfold k7;rw[Tl g];rfl
theorem n4 :
  b6 P w K mg base "meet" ["p","q","r","s"] 4 (cj K 4 qO):=by
 refine dq Y.lS ze rfl (λ_ _ _ _ _ _ _ a=>⟨_,(a1 (je (bf (zm B Y) a (aC (bf (zm B Y) a (aC (ah 0) (aC (ah 1) a9))) (aC (bf (zm B Y) a (aC (ah 2) (aC (ah 3) a9))) a9))) (f0 (n:=3) rfl (cq (cO 4 ze.nd) (cq (cO 5 ze.nd) (cq (cO 6 ze.nd) fI))))) (a1 (fw (g7 (f:=λi j=>decide (i=j)) nv (ah 6) bo (dH _)) (bE GB) fH) (bE (cI (bf (n6 B Y) a (aC (ah 4) (aC (ah 5) (aC (ah 6) a9)))))))),?_⟩);rintro C k E ⟨p,q,r,s,rfl,e,h,l,o,b,v⟩;refine cY rfl ?_;have t:=e.crs h;have u:=l.crs o;have A:=t.crs u;refine⟨_,rfl,_,rfl,rfl,p,q,rfl,e.mono (by decide),h.mono (by decide),_,rfl,_,rfl,rfl,r,s,rfl,l.mono (by decide),o.mono (by decide),rfl,_,_,rfl,t.mono (by decide),u.mono (by decide),?_⟩;generalize a_ (a_ p q) (a_ r s)=m at *;obtain⟨x,y,z⟩:=m;have b:z≠0:=b;have d:SB z<=9000:=cb A.c;refine⟨_,rfl,rfl,_,_,rfl,_,_,rfl,_,_,rfl,rfl,?_⟩;walk_at"wd";refine hB (λg=>absurd g b) (λ_=>?_);exact⟨_,rfl,_,rfl,_,rfl,rfl,x,y,z,rfl,b,d,v⟩
theorem n3 :
  b6 P w K mg base "cut_ring" ["ring","p","q"] 5 (cj K 3 qN):=by
 refine dq Y.ir o8 rfl (λ_ _ _ _ _ _ _ t=>⟨_,(a1 (uh (i:=3) o8.nd rfl (T6 rfl) (bf (zm B Y) t (aC (ah 1) (aC (ah 2) a9)))) (a1 (xj 5 (xi (i:=5) o8.nd rfl rfl (ts:=["corner"]) (fr:=["line"]) (js:=[3]) (fP (ah 0)) (λ_ _ _ _=>(ez (i:=0) (show SS (["corner","line"]:ZX) by decide +kernel) rfl (SG rfl))) (λ_ _ _ _=>gU) (λ_ _ _ _=>(bf (n9 B Y) t (aC (ah 1) (aC (ah 0) a9)))) ⟨rfl,by decide +kernel,rfl,by decide +kernel,gs (Th.mpr ⟨rfl,(S5 _)⟩),gG rfl,by walk_at"ffr",rfl⟩)) (a1 (mx (i:=6) o8.nd rfl (SG rfl) (fG b0)) (a1 (mx (i:=7) o8.nd rfl (SG rfl) (fG b0)) (a1 (C8 PassesOwn.never rfl (ah 0) (by rfl) B.iu (f0 (n:=2) rfl (cq (cO 8 o8.nd) (cq (cO 4 o8.nd) fI))) (a1 (fw (g7 (f:=λi j=>decide (j<=i)) wq (ho (ah 5) (ah 8) (λ_ _=>rfl)) bo (dH _)) (bE (kJ 6 (ah 4))) fH) (a1 (fw (g7 (f:=λi j=>decide (i<=j)) N8 (ho (ah 5) (ah 8) (λ_ _=>rfl)) bo (dH _)) (bE (kJ 7 (ah 4))) fH) (a1 (cx 9 o8.nd (wP (fZ (ah 8) bo) (j' (ah 0) (by rfl) B.e'))) (bE (fw (g7 (f:=λi j=>decide (i<j)) oo (cB (ho (ah 5) (ah 8) (λ_ _=>rfl)) (ho (ah 5) (ah 9) (λ_ _=>rfl))) bo (dH _)) (a1 (cx 10 o8.nd (bf (n4 B Y) t (aC (ah 1) (aC (ah 2) (aC (ah 4) (aC (ho (ah 0) (ah 9) (λ_ _=>rfl)) a9)))))) (a1 (kJ 6 (ah 10)) (bE (kJ 7 (ah 10))))) fH)))))) (kI 7 (kI 6 (bE (cI (dV (a2 (ms (GM (t.units) bo (ah 5) (by rfl)) (ah 6) (dA (fG b0))) (a2 (ms (GM (t.units) (pE bo) (ah 5) (by rfl)) (ah 7) (dA (fG b0))) b0)))))))))))),?_⟩);rintro ag k y ⟨ps,p,q,rfl,A,C,v,y,m⟩;refine cY rfl ?_;have Z:=(A.crs C).mono (show 300+300+1<=700 by decide);refine⟨_,rfl,_,rfl,rfl,p,q,rfl,A.mono (by decide),C.mono (by decide),_,rfl,_,rfl,by rw[Sv];exact cb y,?_⟩;refine jK (f:=aS) (h:=λc=>D.int (cM (ln (a_ p q) c))) (fs:=[.val (aS (a_ p q))]) (λr t aj h1=>⟨_,rfl,_,rfl,rfl,a_ p q,r,rfl,Z.mono (by decide),(v r t).1.mono (by decide),h1⟩) ?_;refine⟨_,rfl,?_⟩;walk_at"wd";have S:ps.headD (ps.headD (0,0,1))=ps.headD (0,0,1):=by cases ps<;>rfl
 refine Ie (f:=aS) (done:=[]) (λpre o=>∃E F u b rest,ps=pre++rest/\o=[.val (.lst (ps.map aS)),.val (aS p),.val (aS q),.val (aS (a_ p q)),E,.val (.lst (ps.map λc=>D.int (cM (ln (a_ p q) c)))),.own ((dn (ln (a_ p q)) (a4 (a_ p q)) pre (rest.headD (ps.headD (0,0,1)))).map aS),.own ((dn (λc => -ln (a_ p q) c) (a4 (a_ p q)) pre (rest.headD (ps.headD (0,0,1)))).map aS),F,u,b]) ⟨_,_,_,_,ps,rfl,rfl⟩ ?_ ?_
 ·rintro pre c rest o l ⟨E,F,u,b,G,H,rfl⟩ N s;have l:ps=pre++c::rest:=by simpa using l
  have J:G=c::rest:=by rw[H]at l;exact Xr l
  subst J;have L:c∈ps:=by rw[l];simp
  have M:eF (ps.map λc=>D.int (cM (ln (a_ p q) c))) (pre.length:Int)=some (D.int (cM (ln (a_ p q) c))):=by
   have:=C6 (h:=λc=>D.int (cM (ln (a_ p q) c))) (pre:=pre) (rest:=rest) (c:=c);rwa[<-l]at this
  have aa:=Ij (h:=λc=>D.int (cM (ln (a_ p q) c))) l S;have O:=Ij (h:=aS) l S;show oA _ _ _ [.val (.lst (ps.map aS)),.val (aS p),.val (aS q),.val (aS (a_ p q)),.val (aS c),.val (.lst (ps.map λc=>D.int (cM (ln (a_ p q) c)))),.own ((dn (ln (a_ p q)) (a4 (a_ p q)) pre c).map aS),.own ((dn (λc => -ln (a_ p q) c) (a4 (a_ p q)) pre c).map aS),.val (.int pre.length),u,b]
  have ak:pre.length<=1000:=by rw[l,Sz]at y;lia
  have aq:=CK (f:=ln (a_ p q)) (mt:=a4 (a_ p q)) (ps:=pre) (w:=c);have ar:=CK (f:=λc => -ln (a_ p q) c) (mt:=a4 (a_ p q)) (ps:=pre) (w:=c);have au:5000<=TI:=by decide
  refine jg (λo=>o=[.val (.lst (ps.map aS)),.val (aS p),.val (aS q),.val (aS (a_ p q)),.val (aS c),.val (.lst (ps.map λc=>D.int (cM (ln (a_ p q) c)))),.own ((dn (ln (a_ p q)) (a4 (a_ p q)) pre c++kp (ln (a_ p q)) c).map aS),.own ((dn (λc => -ln (a_ p q) c) (a4 (a_ p q)) pre c).map aS),.val (.int pre.length),u,b]) ?_ (λN s=>?_);rotate_left
  ·refine⟨_,rfl,_,rfl,_,_,_,.inr rfl,rfl,M,_,_,rfl,rfl,_,rfl,hB (λg=>?_) (λg=>?_)⟩
   ·refine⟨_,rfl,_,rfl,by rw[Sv];lia,s _ ?_⟩;rw[Il (Ih.mp g),SF];rfl
   refine s _ ?_;rw[Im (λz=>g (Ih.mpr z)),SU]
  rintro o rfl;refine jg (λo=>o=[.val (.lst (ps.map aS)),.val (aS p),.val (aS q),.val (aS (a_ p q)),.val (aS c),.val (.lst (ps.map λc=>D.int (cM (ln (a_ p q) c)))),.own ((dn (ln (a_ p q)) (a4 (a_ p q)) pre c++kp (ln (a_ p q)) c).map aS),.own ((dn (λc => -ln (a_ p q) c) (a4 (a_ p q)) pre c++kp (λc => -ln (a_ p q) c) c).map aS),.val (.int pre.length),u,b]) ?_ (λN s=>?_);rotate_left
  ·refine⟨_,rfl,_,rfl,_,_,_,.inr rfl,rfl,M,_,_,rfl,rfl,_,rfl,hB (λg=>?_) (λg=>?_)⟩
   ·refine⟨_,rfl,_,rfl,by rw[Sv];lia,s _ ?_⟩;rw[Il (f:=λc => -ln (a_ p q) c) (c:=c) (by have:=Ii.mp g;show 0 <= -ln (a_ p q) c;lia),SF (l₂:=[c])];rfl
   refine s _ ?_;rw[Im (f:=λc => -ln (a_ p q) c) (c:=c) (λz=>g (Ii.mpr (by have z:0 <= -ln (a_ p q) c:=z;lia))),SU]
  rintro o rfl;have posQz:(0:Int)<((ps.map aS).length:Int):=by rw[Sv,l,Sz,SK];lia
  refine⟨_,rfl,_,_,rfl,rfl,_,rfl,_,rfl,_,_,rfl,rfl,posQz,?_⟩;rw[Sv];have av:(kp (ln (a_ p q)) c).length<=1:=by unfold kp;split<;>simp
  have aw:(kp (λc => -ln (a_ p q) c) c).length<=1:=by unfold kp;split<;>simp
  refine⟨_,rfl,_,rfl,_,_,_,.inr rfl,rfl,M,_,rfl,_,rfl,_,_,_,.inr rfl,rfl,aa,_,_,rfl,rfl,⟨Ik _,Ik _⟩,_,_,rfl,rfl,_,rfl,hB (λg=>?_) (λg=>?_)⟩
  ·have lt:=Ig.mp g
   have T:rest.headD (ps.headD (0,0,1))∈ps:=by
    cases rest with
    |nil=>
     cases ps with
     |nil=>cases L
     |cons a r=>exact Sw
    |cons d rest=>rw[l];simp
   have U:=(v c L).2;have W:=(v _ T).2;refine⟨_,rfl,_,rfl,_,rfl,_,rfl,_,rfl,_,_,_,.inr rfl,rfl,O,rfl,p,q,c,rest.headD (ps.headD (0,0,1)),rfl,A.mono (by decide),C.mono (by decide),(v c L).1.mono (by decide),(v _ T).1.mono (by decide),oR U W lt,?_⟩;rw[oQ U W];refine⟨_,rfl,_,rfl,by rw[Sv,Sz];lia,_,rfl,_,rfl,by rw[Sv,Sz];lia,s _ ⟨.val (aS c),.val (.int pre.length),.val (.int (((pre.length:Int)+1)%(ps.length:Int))),.val (aS (a4 (a_ p q) c (rest.headD (ps.headD (0,0,1))))),rest,by rw[l];simp,?_⟩⟩;rw[xN,xN,mM lt,mM (f:=λc => -ln (a_ p q) c) (by rw[UB];exact lt),SF (l₂:=[a4 (a_ p q) c (rest.headD (ps.headD (0,0,1)))]),SF (l₂:=[a4 (a_ p q) c (rest.headD (ps.headD (0,0,1)))])];rfl
  refine s _ ⟨.val (aS c),.val (.int pre.length),.val (.int (((pre.length:Int)+1)%(ps.length:Int))),b,rest,by rw[l];simp,?_⟩;have nl:¬ln (a_ p q) c*ln (a_ p q) (rest.headD (ps.headD (0,0,1)))<0:=λz=>g (Ig.mpr z);rw[xN,xN,lV nl,lV (by rw[UB];exact nl),SU,SU];rfl
 rintro o ⟨E,F,u,b,rest,H,rfl⟩
 have J:rest=[]:=by
  have:ps++[]=ps++rest:=by rw[SU];exact H
  exact(Xr this).symm
 subst J
 have Q:∀e∈ps.map (λc=>D.int (cM (ln (a_ p q) c))),has .I e=true:=λe hi=>by
  obtain⟨_,_,rfl⟩:=SI.mp hi;rfl
 refine⟨_,rfl,_,rfl,_,rfl,.I,_,.inl rfl,rfl,Q,by decide,λae X=>⟨_,rfl,?_⟩⟩;cases ae with
 |true=>
  rw[x4 (Io.mp (X.mp rfl))]at m;refine oD rfl ⟨_,rfl,?_⟩;refine⟨_,rfl,_,rfl,.I,_,.inl rfl,rfl,Q,by decide,λR x=>⟨_,rfl,?_⟩⟩;cases R with
  |true=>
   rw[x4 (x5.mpr (xO.mp (x.mp rfl)))]at m;exact oD rfl ⟨_,rfl,e7,m⟩
  |false=>
   rw[CX (λz=>SW (x.mpr (xO.mpr (x5.mp z))))]at m;exact nG rfl ⟨v3,e7,m⟩
 |false=>
  rw[CX (λz=>SW (X.mpr (Io.mpr z)))]at m;refine nG rfl ⟨v3,?_⟩;refine⟨_,rfl,_,rfl,.I,_,.inl rfl,rfl,Q,by decide,λR x=>⟨_,rfl,?_⟩⟩;cases R with
  |true=>
   rw[x4 (x5.mpr (xO.mp (x.mp rfl)))]at m;exact oD rfl ⟨_,rfl,e7,m⟩
  |false=>
   rw[CX (λz=>SW (x.mpr (xO.mpr (x5.mp z))))]at m;exact nG rfl ⟨v3,e7,m⟩
theorem Mh :
  b6 P w K mg base "cut_sheet" ["sheet","p","q"] 6 (cj K 3 qM):=by
 refine dq Y.hN qy rfl (λ_ _ _ _ _ _ _ r=>⟨_,(a1 (mx (i:=3) qy.nd rfl (SG rfl) (fG b0)) (a1 (mx (i:=4) qy.nd rfl (SG rfl) (fG b0)) (a1 (k4 PassesOwn.never rfl (fP (ah 0)) (f0 (n:=3) rfl (cq (cO 5 qy.nd) (cq (cO 6 qy.nd) (cq (cO 7 qy.nd) fI)))) (a1 (je (bf (n3 B Y) r (aC (ah 5) (aC (ah 1) (aC (ah 2) a9)))) (f0 (n:=2) rfl (cq (cO 8 qy.nd) (cq (cO 9 qy.nd) fI)))) (a1 (fw (It (ah 8)) (bE (kJ 3 (dV (a2 (ah 8) (a2 (ah 6) (a2 (ah 7) b0)))))) fH) (bE (fw (It (ah 9)) (bE (kJ 4 (dV (a2 (ah 9) (a2 (ah 6) (a2 (ah 7) b0)))))) fH))))) (kI 4 (kI 3 (bE (cI (dV (a2 (ah 3) (a2 (ah 4) b0)))))))))),?_⟩);rintro A k s ⟨sh,p,q,rfl,t,u,v,y,s,z⟩;refine cY rfl ?_;have C:5000<=TI:=by decide
 walk_at"wd";refine HJ (done:=[]) (λpre a=>∃g h j l m,a=[.val (.lst (sh.map bH)),.val (aS p),.val (aS q),.own ((dE (ln (a_ p q)) (a4 (a_ p q)) pre).map bH),.own ((dE (λc => -ln (a_ p q) c) (a4 (a_ p q)) pre).map bH),g,h,j,l,m]) ⟨_,_,_,_,_,rfl⟩ ?_ ?_
 ·rintro pre x b a e ⟨g,h,j,l,m,rfl⟩ N d;have e:sh=pre++x::b:=by simpa using e
  have o:x∈sh:=by rw[e];simp
  have E:pre.length<1000:=by have:=Uf S3 e;simp at this;lia
  have F:=sS (f:=ln (a_ p q)) (mt:=a4 (a_ p q)) pre;have G:=sS (f:=λc => -ln (a_ p q) c) (mt:=a4 (a_ p q)) pre;refine⟨_,rfl,_,rfl,_,rfl,rfl,x.1,p,q,rfl,t,u,v x o,y x o,_,rfl,rfl,_,_,rfl,_,_,rfl,rfl,?_⟩;show oA (BA (CM (jF 8)) (BG 3 (ud (mv (jF 8) (mv (jF 6) (mv (jF 7) sv))))) wR) (BA (CM (jF 9)) (BG 4 (ud (mv (jF 9) (mv (jF 6) (mv (jF 7) sv))))) wR) _ [.val (.lst (sh.map bH)),.val (aS p),.val (aS q),.own ((dE (ln (a_ p q)) (a4 (a_ p q)) pre).map bH),.own ((dE (λc => -ln (a_ p q) c) (a4 (a_ p q)) pre).map bH),.val (.lst (x.1.map aS)),.val (.bl x.2.1),.val (aS x.2.2),.val (.lst ((dc (ln (a_ p q)) (a4 (a_ p q)) x.1).map aS)),.val (.lst ((dc (λc => -ln (a_ p q) c) (a4 (a_ p q)) x.1).map aS))]
  refine jg (λa=>a=[.val (.lst (sh.map bH)),.val (aS p),.val (aS q),.own ((dE (ln (a_ p q)) (a4 (a_ p q)) (pre++[x])).map bH),.own ((dE (λc => -ln (a_ p q) c) (a4 (a_ p q)) pre).map bH),.val (.lst (x.1.map aS)),.val (.bl x.2.1),.val (aS x.2.2),.val (.lst ((dc (ln (a_ p q)) (a4 (a_ p q)) x.1).map aS)),.val (.lst ((dc (λc => -ln (a_ p q) c) (a4 (a_ p q)) x.1).map aS))]) ?_ (λN d=>?_);rotate_left
  ·refine⟨_,rfl,_,rfl,?_⟩;cases c:(dc (ln (a_ p q)) (a4 (a_ p q)) x.1).isEmpty with
   |false=>
    refine oD (by rw[VA,c];rfl) ?_;refine⟨_,rfl,_,rfl,_,rfl,_,rfl,h6,by rw[Sv];lia,d _ ?_⟩;rw[u3,xZ c,SF];rfl
   |true=>
    refine nG (by rw[VA,c];rfl) (d _ ?_);rw[u3,x0 c,SU]
  rintro a rfl;refine⟨_,rfl,_,rfl,?_⟩;cases c:(dc (λc => -ln (a_ p q) c) (a4 (a_ p q)) x.1).isEmpty with
  |false=>
   refine oD (by rw[VA,c];rfl) ?_;refine⟨_,rfl,_,rfl,_,rfl,_,rfl,h6,by rw[Sv];lia,d _ ⟨.val (.lst (x.1.map aS)),.val (.bl x.2.1),.val (aS x.2.2),.val (.lst ((dc (ln (a_ p q)) (a4 (a_ p q)) x.1).map aS)),.val (.lst ((dc (λc => -ln (a_ p q) c) (a4 (a_ p q)) x.1).map aS)),?_⟩⟩;rw[u3 (f:=λc => -ln (a_ p q) c),xZ c,SF (l₂:=[(dc (λc => -ln (a_ p q) c) (a4 (a_ p q)) x.1,x.2)])];rfl
  |true=>
   refine nG (by rw[VA,c];rfl) (d _ ⟨.val (.lst (x.1.map aS)),.val (.bl x.2.1),.val (aS x.2.2),.val (.lst ((dc (ln (a_ p q)) (a4 (a_ p q)) x.1).map aS)),.val (.lst ((dc (λc => -ln (a_ p q) c) (a4 (a_ p q)) x.1).map aS)),?_⟩);rw[u3 (f:=λc => -ln (a_ p q) c),x0 c,SU]
 rintro a ⟨g,h,j,l,m,rfl⟩;exact⟨_,rfl,_,rfl,_,rfl,_,rfl,e7,z⟩
theorem r2 :
  b6 P w K mg base "at" ["x","y"] 3 (cj K 2 qK):=by
 refine dq Y.m7 LP rfl (λ_ _ _ _ _ _ _ l=>⟨_,(a1 (cx 2 LP.nd (bf (n5 B Y) l (aC (pT (ah 0) bo (λ_ _=>rfl)) (aC (pT (ah 1) bo (λ_ _=>rfl)) a9)))) (bE (cI (dV (a2 (cB (pT (ah 0) bo (λ_ _=>rfl)) (fD (pT (ah 1) bo (λ_ _=>rfl)) (ah 2))) (a2 (cB (pT (ah 1) bo (λ_ _=>rfl)) (fD (pT (ah 0) bo (λ_ _=>rfl)) (ah 2))) (a2 (cB (fD (pT (ah 0) bo (λ_ _=>rfl)) (ah 2)) (pT (ah 1) bo (λ_ _=>rfl))) b0))))))),?_⟩);rintro o k p ⟨q,r,x,y,u,v,rfl,c,d,m,g,A,n,C,h,i⟩;refine cY rfl ?_;have j:v≠0:=SA g.1;have E:=qS (t:=y) (b:=v) j;have e:=oK (a:=y) (b:=v) j h;rw[<-RZ m g]at i;refine⟨_,rfl,_,_,_,c,rfl,rfl,_,rfl,_,_,_,d,rfl,rfl,rfl,_,_,rfl,?_⟩;generalize((Ss y v:Nat):Int)=s at *;have F:SB (v.fdiv s)<=4000:=fY (Xz _ _) h;have G:SB (y.fdiv s)<=4000:=fY (Xz _ _) n;have f:∀z:Int,SB s<=9000->wF z s:=λz _=>⟨by lia,cb e⟩;refine⟨_,rfl,_,_,_,c,rfl,rfl,_,rfl,_,_,_,d,rfl,rfl,_,rfl,_,_,rfl,rfl,f _ (cb e),_,_,rfl,rfl,⟨by walk_at"bits",by walk_at"bits"⟩,_,rfl,_,_,_,d,rfl,rfl,_,rfl,_,_,_,c,rfl,rfl,_,rfl,_,_,rfl,rfl,f _ (cb e),_,_,rfl,rfl,⟨by walk_at"bits",by walk_at"bits"⟩,_,rfl,_,_,_,c,rfl,rfl,_,rfl,_,_,rfl,rfl,f _ (cb e),_,rfl,_,_,_,d,rfl,rfl,_,_,rfl,rfl,⟨by walk_at"bits",by walk_at"bits"⟩,h6,?_⟩;exact i
theorem n0 :
  b6 P w K mg base "cut_upright" ["sheet","place"] 7 (cj K 2 qG):=by
 refine dq Y.gi qI rfl (λ_ _ _ _ _ _ _ b=>⟨_,(bE (cI (bf (Mh B Y) b (aC (ah 0) (aC (bf (r2 B Y) b (aC (ah 1) (aC (dV (a2 bo (a2 bo b0))) a9))) (aC (bf (r2 B Y) b (aC (ah 1) (aC (dV (a2 bo (a2 bo b0))) a9))) a9)))))),?_⟩);rintro s k f ⟨sh,x,rfl,a,c,d,l,m,f,o⟩;refine cY rfl ?_;have g:ba 0 1:=⟨by decide,by decide⟩;have h:ba 1 1:=⟨by decide,by decide⟩;have p:SB 0<=4000:=by decide
 have e:SB 1<=4000:=by decide
 have i:SB x.1<=4000:=cb c;have j:SB x.2<=4000:=cb d;have q:cw 300 (cC (x.1*1) (0*x.2) (x.2*1)):=(l2 (n:=10) c d (by decide) (by decide) a g).mono (by decide);have r:cw 300 (cC (x.1*1) (1*x.2) (x.2*1)):=(l2 (n:=10) c d (by decide) (by decide) a h).mono (by decide);exact⟨_,rfl,_,rfl,e7,rfl,_,_,x.1,x.2,0,1,rfl,rfl,rfl,a,g,i,j,p,e,_,rfl,e7,rfl,_,_,x.1,x.2,1,1,rfl,rfl,rfl,a,h,i,j,e,e,rfl,sh,_,_,rfl,q,r,l,m,f,o⟩
theorem nY :
  b6 P w K mg base "cut_level" ["sheet","height"] 7 (cj K 2 qD):=by
 refine dq Y.hP EW rfl (λ_ _ _ _ _ _ _ b=>⟨_,(a1 (je (bf (Mh B Y) b (aC (ah 0) (aC (bf (r2 B Y) b (aC (dV (a2 bo (a2 bo b0))) (aC (ah 1) a9))) (aC (bf (r2 B Y) b (aC (dV (a2 bo (a2 bo b0))) (aC (ah 1) a9))) a9)))) (f0 (n:=2) rfl (cq (cO 2 EW.nd) (cq (cO 3 EW.nd) fI)))) (bE (cI (dV (a2 (ah 3) (a2 (ah 2) b0)))))),?_⟩);rintro t k f ⟨sh,x,rfl,a,c,d,l,o,f,p⟩;refine cY rfl ?_;have g:ba 0 1:=⟨by decide,by decide⟩;have h:ba 1 1:=⟨by decide,by decide⟩;have q:SB 0<=4000:=by decide
 have e:SB 1<=4000:=by decide
 have i:SB x.1<=4000:=cb c;have j:SB x.2<=4000:=cb d;have r:cw 300 (cC (0*x.2) (x.1*1) (1*x.2)):=(l2 (m:=10) (by decide) (by decide) c d g a).mono (by decide);have s:cw 300 (cC (1*x.2) (x.1*1) (1*x.2)):=(l2 (m:=10) (by decide) (by decide) c d h a).mono (by decide);exact⟨_,rfl,e7,_,rfl,rfl,_,_,0,1,x.1,x.2,rfl,rfl,rfl,g,a,q,e,i,j,e7,_,rfl,rfl,_,_,1,1,x.1,x.2,rfl,rfl,rfl,h,a,e,e,i,j,rfl,sh,_,_,rfl,r,s,l,o,f,_,rfl,rfl,_,_,rfl,_,_,rfl,rfl,_,rfl,_,rfl,e7,p⟩
theorem Mi :
  b6 P w K mg base "slid" ["p","step"] 3 (cj K 2 qC):=by
 refine dq Y.lP m6 rfl (λ_ _ _ _ _ _ _ i=>⟨_,(a1 (je (ah 0) (f0 (n:=3) rfl (cq (cO 2 m6.nd) (cq (cO 3 m6.nd) (cq (cO 4 m6.nd) fI))))) (a1 (je (ah 1) (f0 (n:=3) rfl (cq (cO 5 m6.nd) (cq (cO 6 m6.nd) (cq (cO 7 m6.nd) fI))))) (a1 (cx 8 m6.nd (bf (n5 B Y) i (aC (ah 4) (aC (ah 7) a9)))) (a1 (cx 9 m6.nd (fZ (cB (ah 2) (fD (ah 7) (ah 8))) (cB (ah 5) (fD (ah 4) (ah 8))))) (a1 (cx 10 m6.nd (fZ (cB (ah 3) (fD (ah 7) (ah 8))) (cB (ah 6) (fD (ah 4) (ah 8))))) (a1 (cx 11 m6.nd (bf (n5 B Y) i (aC (bf (n5 B Y) i (aC (ah 8) (aC (ah 9) a9))) (aC (ah 10) a9)))) (bE (cI (dV (a2 (fD (ah 9) (ah 11)) (a2 (fD (ah 10) (ah 11)) (a2 (cB (fD (ah 4) (ah 8)) (fD (ah 7) (ah 11))) b0)))))))))))),?_⟩);rintro L k M ⟨p,g,rfl,q,j,u,l,h⟩;refine cY rfl ?_;obtain⟨a,b,n⟩:=p;obtain⟨r,w,m⟩:=g;have C:SB a<=3000:=j.a;have E:SB b<=3000:=j.b;have F:SB n<=3000:=j.c;have G:SB r<=1000:=l.a;have H:SB w<=1000:=l.b;have o:SB m<=1000:=l.c;have N:n≠0:=SA q.1;have v:m≠0:=SA u.1;have x:=qS (t:=n) (b:=m) v;have I:=oK (a:=n) (b:=m) v o;have f:=λX Y d=>R1 (a:=a) (b:=b) (n:=n) (r:=r) (w:=w) (m:=m) q u (s:=((Ss n m:Nat):Int)) (X:=X) (Y:=Y) (d:=d) rfl;have h:k (.val (aS (cC (a*m+r*n) (b*m+w*n) (n*m)))):=h;refine⟨_,rfl,_,rfl,rfl,_,_,rfl,_,_,rfl,_,_,rfl,rfl,?_⟩;refine⟨_,rfl,_,rfl,rfl,_,_,rfl,_,_,rfl,_,_,rfl,rfl,?_⟩;walk_at"w";refine⟨_,_,rfl,?_⟩;dsimp only[lK];generalize((Ss n m:Nat):Int)=s at *;have y:SB (m.fdiv s)<=1000:=fY (Xz _ _) o;have z:SB (n.fdiv s)<=3000:=fY (Xz _ _) F;have O:SB (a*m.fdiv s+r*n.fdiv s)<=4001:=XN (TE C y) (TE G z);have Q:SB (b*m.fdiv s+w*n.fdiv s)<=4001:=XN (TE E y) (TE H z);have f:=λd=>f _ _ d rfl rfl;walk_at"w";refine⟨_,_,rfl,?_⟩;dsimp only[lK];walk_at"w";refine⟨_,_,rfl,?_⟩;dsimp only[lK];generalize a*m.fdiv s+r*n.fdiv s=X at *;generalize b*m.fdiv s+w*n.fdiv s=Y at *;have f:=f _ rfl;have A:=nM (a:=s) (b:=X) (.inl (SA x))
 have J:SB ((Ss s X:Nat):Int)<=1000:=by
  rw[TX];exact oK (SA x) I
 generalize((Ss s X:Nat):Int)=e at *;have R:=nM (a:=e) (b:=Y) (.inl (SA A))
 have S:SB ((Ss e Y:Nat):Int)<=1000:=by
  rw[TX];exact oK (SA A) J
 generalize((Ss e Y:Nat):Int)=d at *;have T:SB (m.fdiv d)<=1000:=fY (Xz _ _) o;rw[<-f]at h;walk_at"w";exact h
theorem Fb :
  b6 P w K mg base "moved" ["sheet","step"] 4 (cj K 2 qA):=by
 refine dq Y.kv qB rfl (λ_ _ _ _ _ _ _ a=>⟨_,(bE (cI (dA (ii (ts:=["ring","is_turned","elder_step"]) (fr:=["step"]) (js:=[1]) (fP (ah 0)) (λ_ _ _ _=>(f0 (n:=3) rfl (cq (ez (i:=0) (show SS (["ring","is_turned","elder_step","step"]:ZX) by decide +kernel) rfl (SG rfl)) (cq (ez (i:=1) (show SS (["ring","is_turned","elder_step","step"]:ZX) by decide +kernel) rfl (SG rfl)) (cq (ez (i:=2) (show SS (["ring","is_turned","elder_step","step"]:ZX) by decide +kernel) rfl (SG rfl)) fI))))) (λ_ _ _ _=>gU) (λ_ _ _ _=>(dV (a2 (dA (ii (ts:=["corner"]) (fr:=["step"]) (js:=[3]) (fP (ah 0)) (λ_ _ _ _=>(ez (i:=0) (show SS (["corner","step"]:ZX) by decide +kernel) rfl (SG rfl))) (λ_ _ _ _=>gU) (λ_ _ _ _=>(bf (Mi B Y) a (aC (ah 0) (aC (ah 1) a9)))) ⟨rfl,by decide +kernel,rfl,by decide +kernel,gs (Th.mpr ⟨rfl,(S5 _)⟩),gG rfl,by walk_at"ffr",rfl⟩)) (a2 (ah 1) (a2 (bf (Mi B Y) a (aC (ah 2) (aC (ah 3) a9))) b0))))) ⟨rfl,by decide +kernel,rfl,by decide +kernel,gs (Th.mpr ⟨rfl,(S5 _)⟩),gG rfl,by walk_at"ffr",rfl⟩)))),?_⟩);rintro q k d ⟨sh,g,rfl,d,e,b,j⟩;refine cY rfl ?_;have t:1000<=TI:=by decide
 refine⟨_,rfl,_,rfl,by rw[Sv];lia,?_⟩;refine xx (h:=λs=>bH (lT g s)) (fs:=[.val (aS g)]) (λs c u m=>?_) (by rwa[SM]at j);have l:=e s c;have ln:=l.ln;refine⟨_,rfl,_,rfl,by rw[Sv];lia,?_⟩;refine jK (f:=aS) (h:=λp=>aS (nP (ej g p))) (fs:=[.val (aS g)]) (λr a v o=>⟨_,rfl,_,rfl,rfl,r,g,rfl,(l.ps r a).pt,((l.ps r a).bp.mono (by decide)),b.pt,(b.bp.mono (by decide)),o⟩) ?_;refine⟨_,rfl,_,rfl,_,rfl,rfl,s.2.2,g,rfl,l.st.pt,(l.st.bp.mono (by decide)),b.pt,(b.bp.mono (by decide)),h6,?_⟩;rw[Sa (λp=>nP (ej g p))];exact m
theorem Ml :
  b6 P w K mg base "under" ["one","other"] 2 (cj K 2 qw):=by
 refine dq Y.km qx rfl (λ_ _ _ _ _ _ _ b=>⟨_,(bE (cI (lJ (f:=λi j=>decide (i<j)) oo (cB (ei 0) (ei 1)) (cB (ei 1) (ei 0)) (dH _)))),?_⟩);rintro c k d ⟨x,y,u,v,rfl,e,g,h,l,a⟩;refine cY rfl ?_;walk_at"w";exact a
theorem zn :
  b6 P w K mg base "against" ["one"] 2 (cj K 1 qo):=by
 refine dq Y.jh qq rfl (λ_ _ _ _ _ _ _ b=>⟨_,(bE (cI (dV (a2 (pE (ei 0)) (a2 (ei 0) b0))))),?_⟩);rintro c k d ⟨x,y,rfl,a⟩;refine cY rfl ?_;walk_at"w";exact a
theorem oM :
  b6 P w K mg base "plus" ["one","other"] 3 (cj K 2 qe):=by
 refine dq Y.lQ zf rfl (λ_ _ _ _ _ _ _ f=>⟨_,(a1 (cx 2 zf.nd (bf (n5 B Y) f (aC (ei 0) (aC (ei 1) a9)))) (a1 (cx 3 zf.nd (fZ (cB (ei 0) (fD (ei 1) (ah 2))) (cB (ei 1) (fD (ei 0) (ah 2))))) (a1 (cx 4 zf.nd (bf (n5 B Y) f (aC (ah 2) (aC (ah 3) a9)))) (bE (cI (dV (a2 (fD (ah 3) (ah 4)) (a2 (cB (fD (ei 0) (ah 2)) (fD (ei 1) (ah 4))) b0)))))))),?_⟩);rintro z k A ⟨x,y,u,v,rfl,l,g,m,n,o,e,h⟩;refine cY rfl ?_;have i:v≠0:=SA g.1;have j:=qS (t:=y) (b:=v) i;have p:=oK (a:=y) (b:=v) i e;have c:=λtop d=>RR l g (s:=((Ss y v:Nat):Int)) (top:=top) (d:=d) rfl;walk_at"w";refine⟨_,_,rfl,?_⟩;dsimp only[lK];generalize((Ss y v:Nat):Int)=s at *;have q:SB (v.fdiv s)<=4000:=fY (Xz _ _) e;have r:SB (y.fdiv s)<=4000:=fY (Xz _ _) n;have C:SB (x*v.fdiv s+u*y.fdiv s)<=8001:=XN (TE m q) (TE o r);have c:=λd=>c _ d rfl;walk_at"w";refine⟨_,_,rfl,?_⟩;dsimp only[lK];generalize x*v.fdiv s+u*y.fdiv s=top at *;have c:=c _ rfl;have E:=nM (a:=s) (b:=top) (.inl (SA j))
 have F:SB ((Ss s top:Nat):Int)<=4000:=by
  rw[TX];exact oK (SA j) p
 generalize((Ss s top:Nat):Int)=d at *;have G:SB (v.fdiv d)<=4000:=fY (Xz _ _) e;rw[<-c]at h;walk_at"w";exact h
theorem oI :
  b6 P w K mg base "minus" ["one","other"] 4 (cj K 2 qa):=by
 refine dq Y.kx qb rfl (λ_ _ _ _ _ _ _ a=>⟨_,(bE (cI (bf (oM B Y) a (aC (ah 0) (aC (bf (zn B Y) a (aC (ah 1) a9)) a9))))),?_⟩);rintro i k j ⟨x,y,u,v,rfl,c,b,d,e,f,g,h⟩;refine cY rfl ?_;refine⟨_,rfl,_,rfl,rfl,u,v,rfl,rfl,x,y,-u,v,rfl,c,⟨b.1,by rw[Um];exact b.2⟩,d,e,TT f,g,?_⟩;rw[Ut,<-Int.sub_eq_add_neg];exact h
theorem Mm :
  b6 P w K mg base "times" ["one","other"] 3 (cj K 2 p_):=by
 refine dq Y.kn EX rfl (λ_ _ _ _ _ _ _ c=>⟨_,(a1 (cx 2 EX.nd (bf (n5 B Y) c (aC (ei 0) (aC (ei 1) a9)))) (a1 (cx 3 EX.nd (bf (n5 B Y) c (aC (ei 1) (aC (ei 0) a9)))) (bE (cI (dV (a2 (cB (fD (ei 0) (ah 2)) (fD (ei 1) (ah 3))) (a2 (cB (fD (ei 0) (ah 3)) (fD (ei 1) (ah 2))) b0))))))),?_⟩);rintro p k q ⟨x,y,u,v,rfl,d,e,n,h,o,i,j⟩;refine cY rfl ?_;have l:v≠0:=SA e.1;have m:y≠0:=SA d.1;have r:=qS (t:=x) (b:=v) l;have s:=oK (a:=x) (b:=v) l i;have z:=qS (t:=u) (b:=y) m;have A:=oK (a:=u) (b:=y) m h;rw[<-RT d e]at j;walk_at"w";refine⟨_,_,rfl,?_⟩;walk_at"w";refine⟨_,_,rfl,?_⟩;generalize((Ss x v:Nat):Int)=f at *;generalize((Ss u y:Nat):Int)=g at *;have C:SB (x.fdiv f)<=4000:=fY (Xz _ _) n;have E:SB (u.fdiv g)<=4000:=fY (Xz _ _) o;have F:SB (y.fdiv g)<=4000:=fY (Xz _ _) h;have G:SB (v.fdiv f)<=4000:=fY (Xz _ _) i;walk_at"w";exact j
theorem oH :
  b6 P w K mg base "unsigned" ["one"] 2 (cj K 1 p7):=by
 refine dq Y.h2 p' rfl (λ_ _ _ _ _ _ _ b=>⟨_,(bE (cI (dV (a2 (sx (ei 0) (by rfl) B.jk) (a2 (ei 0) b0))))),?_⟩);rintro c k d ⟨x,y,rfl,a⟩;refine cY rfl ?_;walk_at"w";exact a
theorem Mn :
  b6 P w K mg base "split" ["slope","hand","wide","sheet","part"] 8 (cj K 5 p6):=by
 refine dq Y.ko io rfl (λ_ _ _ _ _ _ _ p=>⟨_,(a1 (cx 5 io.nd (bf (oI B Y) p (aC (ah 2) (aC (ah 4) a9)))) (a1 (cx 6 io.nd (bf (oH B Y) p (aC (ah 0) a9))) (a1 (cx 7 io.nd (w5 (p.units) (ah 1) qV (dH _))) (a1 (cx 8 io.nd (w5 (p.units) (ah 7) (lJ (f:=λi j=>decide (j<i)) pq (ei 0) bo (dH _)) (dH _))) (a1 (cx 9 io.nd (bf (Mm B Y) p (aC (ah 6) (aC (ms (fl (ah 7)) (ah 4) (ah 5)) a9)))) (a1 (je (bf (n0 B Y) p (aC (ah 3) (aC (ms (fl (ah 8)) (ah 4) (ah 5)) a9))) (f0 (n:=2) rfl (cq (cO 10 io.nd) (cq (cO 11 io.nd) fI)))) (a1 (je (ms (fl (ah 8)) (dV (a2 (ah 10) (a2 (ah 11) b0))) (dV (a2 (ah 11) (a2 (ah 10) b0)))) (f0 (n:=2) rfl (cq (cO 12 io.nd) (cq (cO 13 io.nd) fI)))) (a1 (je (bf (nY B Y) p (aC (ah 13) (aC (ah 9) a9))) (f0 (n:=2) rfl (cq (cO 14 io.nd) (cq (cO 15 io.nd) fI)))) (a1 (je (ms (fl (ah 7)) (dV (a2 (ah 15) (a2 (ah 14) b0))) (dV (a2 (ah 14) (a2 (ah 15) b0)))) (f0 (n:=2) rfl (cq (cO 16 io.nd) (cq (cO 17 io.nd) fI)))) (a1 (cx 18 io.nd (bf (zn B Y) p (aC (ah 9) a9))) (a1 (cx 19 io.nd (bf (r2 B Y) p (aC (ms (fl (ah 8)) (uF Y.eE (by rfl)) (bf (zn B Y) p (aC (ah 5) a9))) (aC (ms (fl (ah 7)) (uF Y.eE (by rfl)) (ah 18)) a9)))) (a1 (cx 20 io.nd (ms (fl (ah 8)) (bf (zn B Y) p (aC (ah 4) a9)) (uF Y.eE (by rfl)))) (a1 (cx 21 io.nd (bf (r2 B Y) p (aC (ah 20) (aC (ms (fl (ah 7)) (ah 18) (uF Y.eE (by rfl))) a9)))) (a1 (cx 22 io.nd (bf (r2 B Y) p (aC (ah 20) (aC (ms (fl (ah 7)) (uF Y.eE (by rfl)) (ah 18)) a9)))) (a1 (cx 23 io.nd (dV (a2 (ah 5) (a2 (bf (Mm B Y) p (aC (ah 6) (aC (ah 4) a9))) (a2 (bf (Fb B Y) p (aC (ah 17) (aC (ah 22) a9))) b0))))) (bE (cI (dV (a2 (bf (Fb B Y) p (aC (ah 12) (aC (ah 19) a9))) (a2 (bf (Fb B Y) p (aC (ah 16) (aC (ah 21) a9))) (a2 (ah 23) b0))))))))))))))))))))),?_⟩);rintro aO k M ⟨s,w,d,hi,sh,rfl,m,ak,M,aM⟩;refine cY (r:=[.val (dR s),.val (.str (if hi=true then"high" else"low")),.val (dR w),.val (.lst (sh.map bH)),.val (dR d),.no,.no,.no,.no,.no,.no,.no,.no,.no,.no,.no,.no,.no,.no,.no,.no,.no,.no,.no]) rfl ?_;have aP:1000<=TI:=by decide
 obtain⟨O,aQ,Q,R⟩:=m.r;obtain⟨H,aR,I,J⟩:=m.h hi;obtain⟨aV,aW,aZ,aY⟩:=m.x hi;have G:uE (.ktup ([0,1].map D.int))=some [.int 0,.int 1]:=rfl;have A:ba 0 1:=⟨by decide,by decide⟩;have C:SB 0<=4000:=by decide
 have E:SB 1<=4000:=by decide
 have o:∀{z:Int}{n:Nat},SB z<=n->n<=4000->SB z<=4000:=λh l=>Sy h l;have v:∀{x y:Int},ba x y->ba (-x) y:=λl=>⟨l.1,by rw[Um];exact l.2⟩;have T:=λb=>uA m hi b ak;have aE:=λb=>uz m hi b (T (!spL s hi));have hc:∀b,(dZ (bB s w d hi) b sh).length<=20:=λb=>Sy (JB _ _ _) M;have aF:∀b,(f6 (bw s w d hi) b (dZ (bB s w d hi) (!spL s hi) sh)).length<=20:=λb=>Sy (JC _ _ _) (hc _)
 have aq:SB (if s.1<0 then -s.1 else s.1)<=21:=by
  split
  ·exact TT m.c1
  exact m.c1
 have ar:ba (if s.1<0 then -s.1 else s.1) s.2:=by
  split
  ·exact v m.ls
  exact m.ls
 refine m5 5 (.val (dR (ce w d))) (λN g=>?_) ?_
 ·exact⟨_,rfl,_,rfl,rfl,w.1,w.2,d.1,d.2,rfl,m.lw,m.lp,o m.c3 (by decide),o m.c4 (by decide),o m.c5 (by decide),o m.c6 (by decide),g _ rfl⟩
 dsimp only[Tr];refine m5 6 (.val (dR (if s.1<0 then -s.1 else s.1,s.2))) (λN g=>?_) ?_
 ·exact⟨_,rfl,rfl,s.1,s.2,rfl,g _ rfl⟩
 dsimp only[Tr];refine m5 7 (.val (.bl (!hi))) (λN g=>?_) ?_
 ·refine⟨_,rfl,.S,rfl,rfl,by decide,g _ ?_⟩;cases hi with
  |true=>rw[show eqD (D.str (if true=true then Str.ofString "high" else Str.ofString "low")) (D.str (Str.ofString "low"))=false from Jt];rfl
  |false=>rw[show eqD (D.str (if false=true then Str.ofString "high" else Str.ofString "low")) (D.str (Str.ofString "low"))=true from Ju];rfl
 dsimp only[Tr];refine m5 8 (.val (.bl (spL s hi))) (λN g=>?_) ?_
 ·refine⟨_,rfl,_,rfl,_,_,_,.inl rfl,rfl,rfl,_,_,rfl,rfl,.B,rfl,rfl,by decide,g _ ?_⟩;rw[Jz];rfl
 dsimp only[Tr];refine m5 9 (.val (dR (bw s w d hi))) (λN g=>?_) ?_
 ·refine⟨_,rfl,_,rfl,_,rfl,?_⟩;unfold bw at g;cases hi with
  |true=>
   exact fk ⟨_,rfl,rfl,_,_,_,_,rfl,ar,O,o aq (by decide),o m.c2 (by decide),o Q (by decide),o R (by decide),g _ rfl⟩
  |false=>
   exact Gf ⟨_,rfl,rfl,_,_,_,_,rfl,ar,m.lp,o aq (by decide),o m.c2 (by decide),o m.c5 (by decide),o m.c6 (by decide),g _ rfl⟩
 dsimp only[Tr];refine y4 10 11 (.val (.lst ((dZ (bB s w d hi) true sh).map bH))) (.val (.lst ((dZ (bB s w d hi) false sh).map bH))) (λN g=>?_) ?_
 ·have aG:∀t∈sh,∀c∈t.1,cw 1990 c/\aX c:=λt F=>(ak t F).bp;have aJ:∀t∈sh,t.1.length<=1000:=λt F=>Sy (ak t F).ln (by decide);refine⟨_,rfl,_,rfl,_,rfl,oX (λc=>?_) (λc=>?_)⟩
  ·have au:bB s w d hi=d:=by unfold bB;rw[c];rfl
   exact⟨_,rfl,rfl,sh,d,rfl,m.lp,cb m.c5,cb m.c6,aG,aJ,cb M,_,rfl,rfl,_,_,rfl,_,_,rfl,rfl,g _ (by rw[au];rfl)⟩
  have au:bB s w d hi=ce w d:=by unfold bB;rw[c];rfl
  exact⟨_,rfl,rfl,sh,ce w d,rfl,O,cb Q,cb R,aG,aJ,cb M,_,rfl,rfl,_,_,rfl,_,_,rfl,rfl,g _ (by rw[au];rfl)⟩
 dsimp only[Tr];refine y4 12 13 (.val (.lst ((dZ (bB s w d hi) (spL s hi) sh).map bH))) (.val (.lst ((dZ (bB s w d hi) (!spL s hi) sh).map bH))) (λN g=>?_) ?_
 ·refine⟨_,rfl,_,rfl,oX (λc=>?_) (λc=>?_)⟩
  ·exact⟨_,rfl,_,rfl,e7,_,rfl,rfl,_,_,rfl,_,_,rfl,rfl,g _ (by rw[c];rfl)⟩
  exact⟨_,rfl,_,rfl,e7,_,rfl,rfl,_,_,rfl,_,_,rfl,rfl,g _ (by rw[c];rfl)⟩
 dsimp only[Tr];refine y4 14 15 (.val (.lst ((f6 (bw s w d hi) false (dZ (bB s w d hi) (!spL s hi) sh)).map bH))) (.val (.lst ((f6 (bw s w d hi) true (dZ (bB s w d hi) (!spL s hi) sh)).map bH))) (λN g=>?_) ?_
 ·exact⟨_,rfl,_,rfl,rfl,dZ (bB s w d hi) (!spL s hi) sh,bw s w d hi,rfl,H,cb I,cb J,λt F=>(T _ t F).bp,λt F=>Sy (T _ t F).ln (by decide),Sy (hc _) (by decide),_,rfl,rfl,_,_,rfl,_,_,rfl,rfl,g _ rfl⟩
 dsimp only[Tr];refine y4 16 17 (.val (.lst ((f6 (bw s w d hi) (!hi) (dZ (bB s w d hi) (!spL s hi) sh)).map bH))) (.val (.lst ((f6 (bw s w d hi) hi (dZ (bB s w d hi) (!spL s hi) sh)).map bH))) (λN g=>?_) ?_
 ·refine⟨_,rfl,_,rfl,oX (λc=>?_) (λc=>?_)⟩
  ·have q:hi=false:=by cases hi<;>first|rfl|cases c
   exact⟨_,rfl,_,rfl,e7,_,rfl,rfl,_,_,rfl,_,_,rfl,rfl,g _ (by subst q;rfl)⟩
  have u:hi=true:=by cases hi<;>first|rfl|cases c
  exact⟨_,rfl,_,rfl,e7,_,rfl,rfl,_,_,rfl,_,_,rfl,rfl,g _ (by subst u;rfl)⟩
 dsimp only[Tr];refine m5 18 (.val (dR (-(bw s w d hi).1,(bw s w d hi).2))) (λN g=>?_) ?_
 ·exact⟨_,rfl,rfl,(bw s w d hi).1,(bw s w d hi).2,rfl,g _ rfl⟩
 dsimp only[Tr];refine m5 19 (.val (aS (iQ s w d hi))) (λN g=>?_) ?_
 ·refine⟨_,rfl,_,rfl,oX (λc=>?_) (λc=>?_)⟩
  ·refine⟨_,rfl,_,rfl,oX (λe=>?_) (λe=>?_)⟩
   ·have q:hi=false:=by cases hi<;>first|rfl|cases e
    exact⟨rfl,_,_,0,1,0,1,rfl,G,G,A,A,C,E,C,E,g _ (by unfold iQ;rw[c,q];rfl)⟩
   have u:hi=true:=by cases hi<;>first|rfl|cases e
   exact⟨_,rfl,rfl,_,_,0,1,-(bw s w d hi).1,(bw s w d hi).2,rfl,G,rfl,A,v H,C,E,o (TT I) (by decide),o J (by decide),g _ (by rw[show iQ s w d hi=_ from by unfold iQ;rw[c,SZ u]];rfl)⟩
  refine⟨_,rfl,rfl,(ce w d).1,(ce w d).2,rfl,_,rfl,_,rfl,oX (λe=>?_) (λe=>?_)⟩
  ·have q:hi=false:=by cases hi<;>first|rfl|cases e
   exact⟨rfl,_,_,-(ce w d).1,(ce w d).2,0,1,rfl,rfl,G,v O,A,o (TT Q) (by decide),o R (by decide),C,E,g _ (by unfold iQ;rw[c,q];rfl)⟩
  have u:hi=true:=by cases hi<;>first|rfl|cases e
  exact⟨_,rfl,rfl,_,_,-(ce w d).1,(ce w d).2,-(bw s w d hi).1,(bw s w d hi).2,rfl,rfl,rfl,v O,v H,o (TT Q) (by decide),o R (by decide),o (TT I) (by decide),o J (by decide),g _ (by rw[show iQ s w d hi=_ from by unfold iQ;rw[c,SZ u]];rfl)⟩
 dsimp only[Tr];refine m5 20 (.val (if spL s hi=true then dR (-d.1,d.2)else .ktup ([0,1].map D.int))) (λN g=>?_) ?_
 ·refine⟨_,rfl,_,rfl,oX (λc=>?_) (λc=>?_)⟩
  ·exact⟨_,rfl,rfl,d.1,d.2,rfl,g _ (by rw[SZ c])⟩
  exact g _ (by rw[c];rfl)
 dsimp only[Tr]
 have aw:∃a b:Int,uE (if spL s hi=true then dR (-d.1,d.2)else .ktup ([0,1].map D.int))=some [.int a,.int b]/\ba a b/\SB a<=4000/\SB b<=4000/\(if spL s hi=true then(-d.1,d.2)else(0,1))=(a,b):=by
  by_cases c:spL s hi=true
  ·rw[SZ c,SZ c];exact⟨-d.1,d.2,rfl,v m.lp,o (TT m.c5) (by decide),o m.c6 (by decide),rfl⟩
  rw[Tl c,Tl c];exact⟨0,1,rfl,A,C,E,rfl⟩
 obtain⟨U,W,X,Z,ae,af,ag⟩:=aw;refine m5 21 (.val (aS (jB s w d hi))) (λN g=>?_) ?_
 ·refine⟨_,rfl,_,rfl,_,rfl,oX (λe=>?_) (λe=>?_)⟩
  ·have q:hi=false:=by cases hi<;>first|rfl|cases e
   exact⟨_,rfl,rfl,_,_,U,W,-(bw s w d hi).1,(bw s w d hi).2,rfl,X,rfl,Z,v H,ae,af,o (TT I) (by decide),o J (by decide),g _ (by rw[show jB s w d hi=_ from by unfold jB;rw[ag,Tl (by rw[q];exact SW)]];rfl)⟩
  have u:hi=true:=by cases hi<;>first|rfl|cases e
  exact⟨rfl,_,_,U,W,0,1,rfl,X,G,Z,A,ae,af,C,E,g _ (by rw[show jB s w d hi=_ from by unfold jB;rw[ag,SZ u]];rfl)⟩
 dsimp only[Tr];refine m5 22 (.val (aS (j2 s w d hi))) (λN g=>?_) ?_
 ·refine⟨_,rfl,_,rfl,_,rfl,oX (λe=>?_) (λe=>?_)⟩
  ·have q:hi=false:=by cases hi<;>first|rfl|cases e
   exact⟨rfl,_,_,U,W,0,1,rfl,X,G,Z,A,ae,af,C,E,g _ (by rw[show j2 s w d hi=_ from by unfold j2;rw[ag,Tl (by rw[q];exact SW)]];rfl)⟩
  have u:hi=true:=by cases hi<;>first|rfl|cases e
  exact⟨_,rfl,rfl,_,_,U,W,-(bw s w d hi).1,(bw s w d hi).2,rfl,X,rfl,Z,v H,ae,af,o (TT I) (by decide),o J (by decide),g _ (by rw[show j2 s w d hi=_ from by unfold j2;rw[ag,SZ u]];rfl)⟩
 dsimp only[Tr];have ax:=(m.stA hi).mono (show 400<=450 by decide);have ay:=(m.stB hi).mono (show 400<=450 by decide);have aD:=(m.stC hi).mono (show 400<=450 by decide);refine m5 23 (.val (.tup [dR (ce w d),dR (bT s d),.lst ((im s w d hi sh).map bH)])) (λN g=>?_) ?_
 ·exact⟨_,rfl,_,rfl,_,rfl,rfl,_,_,d.1,d.2,rfl,ar,m.lp,o aq (by decide),o m.c2 (by decide),o m.c5 (by decide),o m.c6 (by decide),_,rfl,_,rfl,rfl,f6 (bw s w d hi) hi (dZ (bB s w d hi) (!spL s hi) sh),j2 s w d hi,rfl,Sy (aF _) (by decide),(λx L=>(aE _ x L).gm (by decide)),aD,h6,g _ rfl⟩
 dsimp only[Tr];exact⟨_,rfl,_,rfl,rfl,dZ (bB s w d hi) (spL s hi) sh,iQ s w d hi,rfl,Sy (hc _) (by decide),λx L=>(T _ x L).gm (by decide),ax,_,rfl,_,rfl,rfl,f6 (bw s w d hi) (!hi) (dZ (bB s w d hi) (!spL s hi) sh),jB s w d hi,rfl,Sy (aF _) (by decide),(λx L=>(aE _ x L).gm (by decide)),ay,_,rfl,h6,aM⟩
theorem zp :
  b6 P w K mg base "copied" ["sheet"] 2 (cj K 1 LQ):=by
 refine dq Y.jN p5 rfl (λ_ _ _ _ _ _ _ d=>⟨_,(bE (Rr (Ru (ts:=["ring","is_turned","step"]) (fr:=[]) (js:=[]) (fP (ah 0)) (λ_ _ _ _=>(f0 (n:=3) rfl (cq (ez (i:=0) (show SS (["ring","is_turned","step"]:ZX) by decide +kernel) rfl (SG rfl)) (cq (ez (i:=1) (show SS (["ring","is_turned","step"]:ZX) by decide +kernel) rfl (SG rfl)) (cq (ez (i:=2) (show SS (["ring","is_turned","step"]:ZX) by decide +kernel) rfl (SG rfl)) fI))))) (λ_ _ _ _=>gU) (λ_ _ _ _=>(Hj (uD (Rp (GF (ah 0) (by rfl) B.hp)) (uD (Cd (ah 1)) (uD (Cd (ah 2)) Hi))))) ⟨rfl,by decide +kernel,rfl,by decide +kernel,gs (S5 _),gG rfl,by walk_at"ffr",rfl⟩))),?_⟩);rintro e k a ⟨sh,rfl,a,b⟩;refine cY rfl ?_;have f:1000<=TI:=by decide
 refine⟨_,rfl,_,rfl,by rw[Sv];lia,?_⟩;refine xx (h:=bH) (fs:=[]) (λs g j c=>?_) b;exact⟨_,rfl,_,.inl rfl,Ct id _,_,rfl,rfl,_,rfl,rfl,h6,c⟩
theorem oG :
  b6 P w K mg base "alike" ["ones","others"] 3 (cj K 2 rh):=by
 refine dq Y.ky o9 rfl (λ_ _ _ _ _ _ _ F=>⟨_,(a1 (yF (b:=false) (i:=2) o9.nd rfl (SG rfl)) (a1 (k4 PassesOwn.never rfl (fP (ah 1)) (f0 (n:=2) rfl (cq (cO 3 o9.nd) (cq (cO 4 o9.nd) fI))) (bE (yE (b:=false) 2 (qd F) (ah 3) (ah 4)))) (a1 (Lj (i:=5) o9.nd rfl (SG rfl) Li) (a1 (Lj (i:=6) o9.nd rfl (SG rfl) Li) (a1 (k4 PassesOwn.never rfl (fP (ah 0)) (f0 (n:=2) rfl (cq (cO 3 o9.nd) (cq (cO 4 o9.nd) fI))) (bE (fw (tL (b:=false) 2 (qd F) (ah 3)) (bE (Ln 5 (Lm (vL (Lk (ah 3)) (vL (EF (zp B Y) F (by rfl) (Ej (KM (ah 4)) Ei)) (vL (EF (zp B Y) F (by rfl) (Ej (tH (b:=false) 2 (qd F) (ah 3) (λ_ _=>rfl)) Ei)) Ll)))))) (bE (Ln 6 (Lm (vL (Lk (ah 3)) (vL (EF (zp B Y) F (by rfl) (Ej (KM (ah 4)) Ei)) Ll)))))))) (zk 2 (a1 (rp (i:=7) o9.nd rfl rfl (ts:=["wide","sheets","sheet"]) (fr:=[]) (js:=[]) (yT (ah 2)) (λ_ _ _ _=>(f0 (n:=2) rfl (cq (ez (i:=0) (show SS (["wide","sheets","sheet"]:ZX) by decide +kernel) rfl (SG rfl)) (cq (ez (i:=1) (show SS (["wide","sheets","sheet"]:ZX) by decide +kernel) rfl (SG rfl)) fI)))) (λ_ _ _ _=>gU) (λ_ _ _ _=>(fP (ah 1))) (λ_ _ _ _=>(ez (i:=2) (show SS (["wide","sheets","sheet"]:ZX) by decide +kernel) rfl (SG rfl))) (λ_ _ _ _=>gU) (λ_ _ _ _=>(Hj (uD (Cd (ah 0)) (uD (Ce (zp B Y) F (by rfl) (aC (ah 2) a9)) Hi)))) ⟨rfl,by decide +kernel,rfl,by decide +kernel,gs (S5 _),gG rfl,by walk_at"ffr",rfl⟩) (bE (u7 5 6 7 (by decide) (by decide) (by decide)))))))))),?_⟩);rintro o k aO ⟨os,ts,rfl,aQ,aw,U,M⟩;refine cY rfl ?_;have aR:5000<=TI:=by decide
 intro a;dsimp only;refine jg (λr=>∃(m:List Z3)(o:ZZ)(j:Z4)(ah v:aA),r=[.val (.lst (os.map dC)),.val (.lst (ts.map dC)),.deep (.dl false a m o j),ah,v,.no,.no,.no]/\j.length=m.length/\(fL m j).Perm (ts.map dC)/\m.length<=40) ?_ (λN C=>?_);rotate_left
 ·refine⟨_,rfl,_,rfl,?_⟩;refine C' (f:=λc:dF=>dR c.1) (g:=λc:dF=>.lst (c.2.map bH)) (rs:=ts) (done:=[]) (λpre r=>∃(m:List Z3)(o:ZZ)(j:Z4)(ah v:aA),r=[.val (.lst (os.map dC)),.val (.lst (ts.map dC)),.deep (.dl false a m o j),ah,v,.no,.no,.no]/\j.length=m.length/\(fL m j).Perm (pre.map dC)/\m.length<=pre.length) ⟨[],[],[],_,_,rfl,rfl,Xu _,SD _⟩ ?_ (λr ⟨m,o,j,ah,v,e,y,s,O⟩=>C _ ⟨m,o,j,ah,v,e,y,s,Sy O aw⟩);rintro pre c E r H ⟨m,o,j,ah,v,rfl,y,s,O⟩ N C;have ay:pre.length<40:=by have:=Uf S3 H;rw[Tf,Sz,SK]at this;lia
  have af:=s.length_eq;rw[Sv]at af;refine⟨a,m,o,j,rfl,_,rfl,rU c.1,rfl,λ_=>⟨_,rfl⟩,by lia,y,λag W=>by have:=(Ez W).2;lia,λX ak=>⟨_,rfl,?_⟩⟩;refine C _ ⟨_,X,_,_,_,rfl,yM y,?_,?_⟩
  ·rw[SF];exact(uK y).trans ((s.cons _).trans (Xl _ _).symm)
  rw[Sz,Ti];unfold eX;split
  ·lia
  rw[Sz,Ti];lia
 rintro r ⟨m,o,j,ah,v,rfl,y,s,O⟩;intro b;dsimp only;intro Z;dsimp only;refine jg (λr=>∃(m:List Z3)(o:ZZ)(j:Z4)(u:ZV)(A:ZS)(ah v:aA),r=[.val (.lst (os.map dC)),.val (.lst (ts.map dC)),.deep (.dl false a m o j),ah,v,.deep (.nl b (u.map hJ)),.deep (.nl Z (A.map dC)),.no]/\j.length=m.length/\((u.map λp=>dC (p.1,p.2.2))++fL m j).Perm (ts.map dC)/\(u.map (λp=>(p.1,p.2.1))++A).Perm os) ?_ (λN C=>?_);rotate_left
 ·refine⟨_,rfl,_,rfl,?_⟩;refine C' (f:=λc:dF=>dR c.1) (g:=λc:dF=>.lst (c.2.map bH)) (rs:=os) (done:=[]) (λpre r=>∃(o:ZZ)(j:Z4)(u:ZV)(A:ZS)(ah v:aA),r=[.val (.lst (os.map dC)),.val (.lst (ts.map dC)),.deep (.dl false a m o j),ah,v,.deep (.nl b (u.map hJ)),.deep (.nl Z (A.map dC)),.no]/\j.length=m.length/\((u.map λp=>dC (p.1,p.2.2))++fL m j).Perm (ts.map dC)/\(u.map (λp=>(p.1,p.2.1))++A).Perm pre) ⟨o,j,[],[],_,_,rfl,y,s,Xu _⟩ ?_ (λr ⟨o,j,u,A,ah,v,e,y,s,O⟩=>C _ ⟨m,o,j,u,A,ah,v,e,y,s,O⟩);clear y s o j ah v;rintro pre c E r H ⟨o,j,u,A,ah,v,rfl,y,s,Q⟩ N C;have H:os=pre++c::E:=by simpa using H
  have az:c∈os:=by rw[H];simp
  have hi:=U c (Tx _ az);have ay:pre.length<40:=by have:=Uf S3 H;rw[Sz,SK]at this;lia
  have aB:=Q.length_eq;rw[Sz,Sv]at aB;have no:A.length<40/\u.length<40:=by lia
  refine⟨a,m,o,j,rfl,_,rfl,rU c.1,rfl,λ_=>⟨_,rfl⟩,?_⟩;have left:=C [.val (.lst (os.map dC)),.val (.lst (ts.map dC)),.deep (.dl false a m o j),.val (dR c.1),.val (.lst (c.2.map bH)),.deep (.nl b (u.map hJ)),.deep (.nl Z (A.map dC++[dC c])),.no] ⟨o,j,u,A++[c],_,_,by rw[SF];rfl,y,s,by rw[<-SX];exact Q.append_right _⟩;cases q:bu m j (rU c.1)with
  |none=>exact nG rfl ⟨⟨_,_,rfl⟩,_,rfl,rfl,_,rfl,rfl,c.2,rfl,hi,_,rfl,e7,_,_,rfl,by rw[Sv];lia,left⟩
  |some ag=>
   rcases Wq ag with rfl|⟨aq,d,rfl⟩
   ·exact nG rfl ⟨⟨_,_,rfl⟩,_,rfl,rfl,_,rfl,rfl,c.2,rfl,hi,_,rfl,e7,_,_,rfl,by rw[Sv];lia,left⟩
   rw[Wr]at q⊢;obtain⟨t,R,G⟩:=SI.mp (s.mem_iff.mp (S2 _ ((Ez q).1 d (by simp))));obtain⟨aV,aD⟩:=K' G;subst aD;have J:=U t (S2 _ R);obtain⟨p1,p2⟩:=K9 q;refine oD (by cases aq<;>rfl) ⟨⟨_,_,rfl⟩,_,rfl,rfl,_,rfl,rfl,c.2,rfl,hi,_,rfl,?_⟩;refine⟨a,m,o,j,rfl,_,rfl,rU c.1,aq,_,rfl,λ_=>⟨_,rfl⟩,q,rfl,t.2,rfl,J,_,rfl,h6,_,_,rfl,by rw[Sv];lia,C _ ⟨o,_,u++[(c.1,c.2,t.2)],A,_,_,by rw[SF];rfl,by rw[p2];exact y,?_,?_⟩⟩
   ·rw[SF,SX];refine Ws (Xv _ ?_) s;have e:jw (rU c.1) (.lst (t.2.map bH))=dC (c.1,t.2):=rfl;rw[e]at p1;exact p1.symm
   rw[SF,SX];refine Ws (Xv _ ?_) (Ws (by rw[<-SX]) (Q.append_right [c]));exact List.perm_append_comm
 rintro r ⟨m,o,j,u,A,ah,v,rfl,y,s,Q⟩;refine⟨_,_,_,_,_,rfl,_,rfl,false,m,_,rfl,by rw[Sv];exact y,?_⟩;rw[vI.1]
 have ar:∀x∈fL m j,∃t:dF,t∈ts/\dC t=x:=λx S=>by
  obtain⟨t,R,G⟩:=SI.mp (s.mem_iff.mp (S2 _ S));exact⟨t,R,G⟩
 have af:(fL m j).length<=40:=by have:=s.length_eq;rw[Sz,Sv,Sv]at this;lia
 refine Er (xs:=m.zip j) (f:=λx=>D.tup [gB false x.1,.lst x.2]) (h:=λx=>x.2.map (jw x.1)) (I:=λr=>∃a b c,r=[a,b,c]) (n:=0) (L:=4096) (λx S n r k i T M=>?_) ⟨_,_,_,rfl⟩ (by rw[<-vI.2];lia) (λau _=>?_)
 ·obtain⟨a,b,c,rfl⟩:=i;refine⟨_,rfl,rfl,_,_,rfl,_,_,rfl,rfl,_,rfl,_,rfl,?_⟩;have av:(x.2.flatMap λd=>[jw x.1 d])=x.2.map (jw x.1):=by rw[List.map_eq_flatMap]
  suffices z:ly (eU 2) hW (El (ud (mv (Hh (jF 0)) (mv (Hk 1 LQ (Bw (jF 2) Bv)) sv)))) (x.2.map id) n [.val (gB false x.1),.val (.lst x.2),c] k by rwa [List.map_id]at z
  refine Er (f:=id) (h:=λd=>[jw x.1 d]) (I:=λr=>∃c,r=[.val (gB false x.1),.val (.lst x.2),c]) (L:=4096) (λd W n r k i T M=>?_) ⟨_,rfl⟩ (by rw[av];exact T) (λau ⟨c,e⟩=>by rw[av];exact M au ⟨_,_,_,e⟩);obtain⟨c,rfl⟩:=i;obtain⟨t,R,G⟩:=ar (jw x.1 d) (by rw[vI.2];exact List.mem_flatMap.mpr ⟨x,S,SI.mpr ⟨d,W,rfl⟩⟩);have aE:=uJ G;subst aE;have T:n+1<=4096:=T;exact⟨by lia,_,rfl,Lq _,_,rfl,rfl,t.2,rfl,U t (S2 _ R),_,rfl,e7,M _ ⟨_,rfl⟩⟩
 rw[<-vI.2]
 obtain⟨J,aF⟩:=La (f:=dC) (l:=fL m j) λx S=>by
  obtain⟨t,_,G⟩:=ar x S;exact⟨t,G.symm⟩
 rw[aF]at s⊢
 have aG:(u.map (λp=>(p.1,p.2.2))++J).Perm ts:=by
  have aH:(u.map λp=>dC (p.1,p.2.2))++J.map dC=((u.map λp=>(p.1,p.2.2))++J).map dC:=by rw[SF,SM];rfl
  rw[aH]at s;obtain⟨aW,aJ,aN⟩:=tq s rfl;rwa[(Wk λ_ _ h=>uB h).mp aN]at aJ
 exact λaY=>⟨_,_,_,_,_,_,rfl,rfl,rfl,λp o=>M u A J Q aG p o⟩
theorem oE :
  b6 P w K mg base "ranks" ["ratios"] 2 (cj K 1 rf):=by
 refine dq Y.kq LR rfl (λ_ _ _ _ _ _ _ e=>⟨_,(a1 (uh (i:=1) LR.nd rfl (T6 rfl) (w_ e (dA (ii (ts:=["top","bottom"]) (fr:=[]) (js:=[]) (fP (ah 0)) (λ_ _ _ _=>(f0 (n:=2) rfl (cq (ez (i:=0) (show SS (["top","bottom"]:ZX) by decide +kernel) rfl (SG rfl)) (cq (ez (i:=1) (show SS (["top","bottom"]:ZX) by decide +kernel) rfl (SG rfl)) fI)))) (λ_ _ _ _=>gU) (λ_ _ _ _=>(ah 1)) ⟨rfl,by decide +kernel,rfl,by decide +kernel,gs (S5 _),gG rfl,by walk_at"ffr",rfl⟩)) bo (by rfl) B.mZ)) (bE (wS (ii (ts:=["top","bottom"]) (fr:=["most"]) (js:=[1]) (fP (ah 0)) (λ_ _ _ _=>(f0 (n:=2) rfl (cq (ez (i:=0) (show SS (["top","bottom","most"]:ZX) by decide +kernel) rfl (SG rfl)) (cq (ez (i:=1) (show SS (["top","bottom","most"]:ZX) by decide +kernel) rfl (SG rfl)) fI)))) (λ_ _ _ _=>gU) (λ_ _ _ _=>(fD (cB (cB (ah 0) (ah 2)) (ah 2)) (ah 1))) ⟨rfl,by decide +kernel,rfl,by decide +kernel,gs (Th.mpr ⟨rfl,(S5 _)⟩),gG rfl,by walk_at"ffr",rfl⟩)))),?_⟩);rintro o k f ⟨cs,rfl,f,d,a⟩;refine cY rfl ?_;have bU:(cs.map dR).length<=TI:=by rw[Sv,Wt];lia
 refine⟨_,rfl,_,rfl,bU,?_⟩;refine DM (h:=λr=>.int r.2) (λr _ k a=>⟨_,rfl,a⟩) ?_;refine⟨cs.map (·.2),by rw[SM];rfl,1,rfl,λm b=>?_⟩
 have g:SB m<=900:=by
  rcases b with rfl|b
  ·decide
  obtain⟨c,h,rfl⟩:=SI.mp b;exact(d c h).2.2
 refine⟨_,rfl,_,rfl,bU,?_⟩;refine DM (h:=λr=>.int ((r.1*m*m).fdiv r.2)) (λr h k a=>?_) ?_
 ·obtain⟨p,j,q⟩:=d r h;have l:SB (r.1*m)<=9000:=Sy (TE j g) (by decide);exact⟨_,rfl,_,rfl,r.1,m,rfl,rfl,⟨by lia,by lia⟩,_,rfl,r.1*m,m,rfl,rfl,⟨l,by lia⟩,_,rfl,r.1*m*m,r.2,rfl,rfl,⟨by lia,by lia⟩,a⟩
 have:=a (cs.map λr=>(r.1*m*m).fdiv r.2) (by simp)
 rwa [SM]at this
theorem Mq :
  b6 P w K mg base "widest_last" ["corners"] 3 (cj K 1 q_):=by
 refine wD Y.f' Y.eP EY rfl (λf u A l s H E LT q=>⟨_,(a1 (uh (i:=2) EY.nd rfl (T6 rfl) (bf (oE B Y) q (aC (dA (ii (ts:=["wide","sheet"]) (fr:=[]) (js:=[]) (fP (ah 0)) (λ_ _ _ _=>(f0 (n:=2) rfl (cq (ez (i:=0) (show SS (["wide","sheet"]:ZX) by decide +kernel) rfl (SG rfl)) (cq (ez (i:=1) (show SS (["wide","sheet"]:ZX) by decide +kernel) rfl (SG rfl)) fI)))) (λ_ _ _ _=>gU) (λ_ _ _ _=>(ah 0)) ⟨rfl,by decide +kernel,rfl,by decide +kernel,gs (S5 _),gG rfl,by walk_at"ffr",rfl⟩)) a9))) (a1 (cx 1 EY.nd (dA (vJ (x:="place") (fr:=["order"]) (js:=[2]) q (j' (ah 0) (by rfl) B.e') (by rfl) B.fo (by rfl) B.iA LT rfl rfl (wC rfl rfl rfl rfl rfl rfl (by decide) rfl rfl rfl) (by decide) (λ_ _ _ _=>rfl) (λ_ _ _ _=>(ho (ah 1) (ah 0) (λ_ _=>rfl)))))) (bE (wS (ii (ts:=["place"]) (fr:=["corners"]) (js:=[0]) (fP (ah 1)) (λ_ _ _ _=>(ez (i:=0) (show SS (["place","corners"]:ZX) by decide +kernel) rfl (SG rfl))) (λ_ _ _ _=>gU) (λ_ _ _ _=>(ho (ah 1) (ah 0) (λ_ _=>rfl))) ⟨rfl,by decide +kernel,rfl,by decide +kernel,gs (Th.mpr ⟨rfl,(S5 _)⟩),gG rfl,by walk_at"ffr",rfl⟩))))),?_⟩);rintro L k m ⟨cs,rfl,m,v,a⟩;refine cY rfl ?_;have bU:(cs.map rZ).length<=TI:=by rw[Sv,Wt];lia
 refine⟨_,rfl,_,rfl,bU,?_⟩;refine Kg (f:=λc:F2×D=>dR c.1) (g:=λc=>c.2) (h:=λc=>dR c.1) (λr _ k a=>⟨_,rfl,a⟩) ?_;refine⟨rfl,cs.map Vs,by rw[SM];rfl,by rw[Sv];exact m,λc h=>?_,λb t=>?_⟩
 ·obtain⟨z,y,rfl⟩:=SI.mp h;exact v z y
 rw[Sv]at t;refine⟨_,rfl,cs.length,by simp[sw],cs.length,rfl,λd=>match d with|.int i=>b.getD i.toNat 0|_=>0,by simpa using m,λj C=>?_,λd F=>?_,λG p1 _=>?_⟩
 ·rcases SQ.mp C with rfl
  intro z;cases z
 ·obtain⟨i,o,rfl⟩:=SI.mp F;have lt:i<b.length:=by rw[t];exact TF.mp o
  refine⟨_,rfl,_,rfl,b.map D.int,i,.int (b[i]),.inr rfl,rfl,ra (B' lt),?_⟩;simp[List.getD,lt]
 obtain⟨I,p,rfl⟩:=tq p1 rfl;refine⟨_,rfl,_,rfl,?_,?_⟩
 ·rw[Sv,p.length_eq,Uv,Wt];lia
 refine jK (f:=λi:Nat=>D.int i) (h:=λi=>rZ ((cs[i]?).getD ((0,0),.non))) (λi o k a=>?_) ?_
 ·have lt:i<cs.length:=TF.mp (p.mem_iff.mp o);refine⟨_,rfl,_,rfl,cs.map rZ,i,rZ cs[i],.inr rfl,rfl,ra (B' lt),?_⟩;rwa[SY lt]at a
 have:=a (I.map λi=>(cs[i]?).getD ((0,0),.non)) ?_
 ·rwa [SM]at this
 have e:(S7 cs.length).map (λi=>(cs[i]?).getD ((0,0),.non))=cs:=by
  refine List.ext_getElem (by simp) λi M J=>?_;simp[J]
 have:=p.map λi=>(cs[i]?).getD ((0,0),D.non)
 rwa [e]at this
theorem oz :
  b6 P w K mg base "matched" ["slope","hand","ones","other_hand","others"] 9 (cj K 5 q'):=by
 refine Iv [false,false,true,false,true] Y.i1 j0 rfl (λ_ _ _ _ _ _ _ R=>⟨_,(a1 (rG (i:=5) (j:=2) (k:=4) (oG B Y) R (by rfl) rfl (aC (ah 2) (aC (ah 4) a9)) j0.nd (by decide) (by decide) (by decide) rfl rfl rfl (SG rfl) (SG rfl) (SG rfl)) (kI 4 (kI 2 (a1 (s_ (i:=2) (j:=4) rfl j0.nd rfl rfl (by decide) rfl rfl (By (Mq B Y) R (by rfl) (aC (ah 2) a9)) (By (Mq B Y) R (by rfl) (aC (ah 4) a9)) rfl) (a1 (mx (i:=6) j0.nd rfl (SG rfl) (fG b0)) (a1 (mx (i:=7) j0.nd rfl (SG rfl) (fG b0)) (a1 (BC PassesOwn.never (k3 (kO (KX 2) (Gx (KX 4)))) (a1 (KU (KR 2) (f0 (n:=2) rfl (cq (cO 8 j0.nd) (cq (cO 9 j0.nd) fI)))) (a1 (KU (KR 4) (f0 (n:=2) rfl (cq (cO 10 j0.nd) (cq (cO 11 j0.nd) fI)))) (a1 (fw (fl (bf (Ml B Y) R (aC (ah 10) (aC (ah 8) a9)))) (a1 (je (bf (Mn B Y) R (aC (ah 0) (aC (ah 1) (aC (ah 8) (aC (ah 9) (aC (ah 10) a9)))))) (f0 (n:=3) rfl (cq (cO 9 j0.nd) (cq (cO 12 j0.nd) (cq (cO 13 j0.nd) fI))))) (a1 (kJ 2 (dV (a2 (ei 13) (a2 (ah 12) b0)))) (a1 (kJ 6 (ah 13)) (bE (cx 8 j0.nd (ah 10)))))) (bE (fw (fl (bf (Ml B Y) R (aC (ah 8) (aC (ah 10) a9)))) (a1 (je (bf (Mn B Y) R (aC (ah 0) (aC (ah 3) (aC (ah 10) (aC (ah 11) (aC (ah 8) a9)))))) (f0 (n:=3) rfl (cq (cO 11 j0.nd) (cq (cO 12 j0.nd) (cq (cO 13 j0.nd) fI))))) (a1 (kJ 4 (dV (a2 (ei 13) (a2 (ah 12) b0)))) (bE (kJ 7 (ah 13))))) fH))) (bE (kJ 5 (dV (a2 (ah 8) (a2 (ah 9) (a2 (ah 11) b0)))))))))) (kI 4 (kI 2 (kI 7 (kI 6 (kI 5 (bE (cI (dV (a2 (ah 5) (a2 (ah 6) (a2 (ah 7) (a2 (ah 2) (a2 (ah 4) b0)))))))))))))))))))),?_⟩);rintro bz k b5 ⟨s,Wd,L,aV,T,E,F,os,y,rfl,G,x1,cg,aD,aE,bA⟩;refine⟨⟨rfl,rfl,trivial,rfl,trivial,trivial⟩,cY (r:=[.val (dR s),.val (.str (if E=true then"high" else"low")),.new (.lst (os.map dC)),.val (.str (if F=true then"high" else"low")),.new (.lst (y.map dC)),.no,.no,.no,.no,.no,.no,.no,.no,.no]) rfl ?_⟩;have ck:5000<=TI:=by decide
 have aW:∀{bC:Bool}{j:Nat}{c:dF},gN s Wd L bC j c->0<c.1.2/\SB c.1.1<=900/\SB c.1.2<=900:=λh=>by
  obtain⟨a,b,c,d⟩:=G.lw _ h.w;exact⟨a.1,by lia,by lia⟩
 have ak:∀l:ZS,(l.map λc=>(c.1,D.lst (c.2.map bH))).map rZ=l.map dC:=λl=>by rw[SM];rfl
 refine⟨_,rfl,_,rfl,rfl,os,y,rfl,by lia,by lia,λc C=>?_,λf bF bJ aq au p bz=>⟨_,_,_,_,_,_,_,rfl,?_⟩⟩
 ·rcases SO.mp C with z|z
  ·have:=(aD c z).ln;lia
  have:=(aE c z).ln;lia
 have aF:=aq.length_eq;have aG:=au.length_eq;rw[Sz,Sv]at aF aG;refine⟨_,rfl,_,rfl,_,rfl,rfl,bF.map (λc=>(c.1,D.lst (c.2.map bH))),by rw[ak];rfl,by rw[Sv];lia,λc C=>?_,λbK aH=>⟨_,rfl,?_⟩⟩
 ·obtain⟨c,z,rfl⟩:=SI.mp C;exact aW (aD c (aq.mem_iff.mp (S2 _ z)))
 obtain⟨aI,aJ,rfl⟩:=tq aH rfl;refine⟨_,rfl,rfl,bJ.map (λc=>(c.1,D.lst (c.2.map bH))),by rw[ak];rfl,by rw[Sv];lia,λc C=>?_,λbK aH=>⟨_,rfl,?_⟩⟩
 ·obtain⟨c,z,rfl⟩:=SI.mp C;exact aW (aE c (au.mem_iff.mp (S2 _ z)))
 obtain⟨aN,aO,rfl⟩:=tq aH rfl;rw[ak,ak];have H:=gO.start aD ((aJ.append_left (p1 f)).trans aq);have I:=gO.start aE ((aO.append_left (p2 f)).trans au);have bM:=aJ.length_eq;have bQ:=aO.length_eq;refine⟨S9 _,S9 _,?_⟩;dsimp only;generalize aQ:D.str (if E=true then Str.ofString "high" else Str.ofString "low")=av at *;generalize aR:D.str (if F=true then Str.ofString "high" else Str.ofString "low")=el at *;refine jg (λO=>∃(g q:ZS)(f:ZV)(u v:ZU)(U W t A J M:aA),O=[.val (dR s),.val av,.own (g.map dC),.val el,.own (q.map dC),.own (f.map hJ),.own (u.map fp),.own (v.map fp),U,W,t,A,J,M]/\gO s Wd L E aV os g (p1 f) u/\gO s Wd L F aV y q (p2 f) v/\(g=[]\/q=[])/\f.length<=os.length+y.length/\u.length+v.length<=os.length+y.length/\g.length+q.length<=os.length+y.length) ?_ (λN aa=>?_)
 ·rintro O ⟨g,q,f,u,v,U,W,t,A,J,M,rfl,a,b,c,d,bR,e⟩;exact⟨_,rfl,_,rfl,_,rfl,_,rfl,_,rfl,_,rfl,_,rfl,_,rfl,_,rfl,_,rfl,show 5<=TI by decide,bA f u v g q a b c d bR e⟩
 refine⟨λm O=>∃(j S:Nat)(g q:ZS)(f:ZV)(u v:ZU)(U W t A J M:aA),O=[.val (dR s),.val av,.own (g.map dC),.val el,.own (q.map dC),.own (f.map hJ),.own (u.map fp),.own (v.map fp),U,W,t,A,J,M]/\gO s Wd L E j os g (p1 f) u/\gO s Wd L F S y q (p2 f) v/\m=g.length+q.length/\j+q.length<=T+y.length/\S+g.length<=T+os.length/\f.length+m<=os.length+y.length/\u.length+v.length+m<=os.length+y.length/\m<=os.length+y.length,⟨_,T,T,aI,aN,f,[],[],_,_,_,_,_,_,rfl,H,I,rfl,by lia,by lia,by lia,by rw[Ub];lia,by lia⟩,?_⟩;clear H I aq au aF aG bM bQ aJ aO;rintro m O ⟨j,S,g,q,f,u,v,U,W,t,A,J,M,rfl,H,I,rfl,a0,a3,a5,a6,a'⟩;have done:(g=[]\/q=[])->N [.val (dR s),.val av,.own (g.map dC),.val el,.own (q.map dC),.own (f.map hJ),.own (u.map fp),.own (v.map fp),U,W,t,A,J,M]:=λz=>aa _ ⟨g,q,f,u,v,_,_,_,_,_,_,rfl,H.up G (by lia),I.up G (by lia),z,by lia,by lia,by lia⟩;rcases Wq g with rfl|⟨g,c,rfl⟩
 ·exact⟨_,rfl,nG rfl (nG rfl (done (.inl rfl)))⟩
 rcases Wq q with rfl|⟨q,d,rfl⟩
 ·exact⟨_,rfl,oD (by rw[Wr];simp) ⟨_,rfl,nG rfl (done (.inr rfl))⟩⟩
 clear done;simp only[Wr]at H I a0 a3 a5 a6 a'⊢;simp only[SF,SJ,TA,Sz,Ti]at a0 a3 a5 a6 a'⊢;refine⟨_,rfl,oD (by simp) ⟨_,rfl,oD (by simp) ?_⟩⟩;have C:=H.o c (by simp);have X:=I.o d (by simp);obtain⟨bS,cm,bc,bg⟩:=G.lw _ C.w;obtain⟨bV,cu,bj,bq⟩:=G.lw _ X.w;have Q:∀{z:Int},SB z<=175->SB z<=4000:=λh=>cb h;have br:∀l:ZS,(l.map dC).length=l.length:=λl=>Sv ..;refine⟨_,_,rfl,_,rfl,rfl,_,_,rfl,_,_,rfl,rfl,?_⟩;dsimp only;refine⟨_,_,rfl,_,rfl,rfl,_,_,rfl,_,_,rfl,rfl,?_⟩;dsimp only;refine jg (λO=>∃(aw ay:Nat)(Z h1:ZS)(w:F2)(az aB:ZR)(ae af:ZU)(t J M:aA),O=[.val (dR s),.val av,.own (Z.map dC),.val el,.own (h1.map dC),.own (f.map hJ),.own (ae.map fp),.own (af.map fp),.val (dR w),.val (.lst (az.map bH)),t,.val (.lst (aB.map bH)),J,M]/\gO s Wd L E aw os Z (p1 f++[(w,az)]) ae/\gO s Wd L F ay y h1 (p2 f++[(w,aB)]) af/\aw+h1.length<=T+y.length/\ay+Z.length<=T+os.length/\Z.length+h1.length<=g.length+q.length+1/\ae.length+af.length<=u.length+v.length+1) ?_ (λN aa=>?_)
 ·rintro O ⟨aw,ay,Z,h1,w,az,aB,ae,af,t,J,M,rfl,a,b,bX,bY,cz,k'⟩;refine⟨_,rfl,_,rfl,_,rfl,_,rfl,h6,by rw[Sv];lia,_,?_,aw,ay,Z,h1,f++[(w,az,aB)],ae,af,_,_,_,_,_,_,by rw[SF];rfl,?_,?_,rfl,bX,bY,?_,?_,?_⟩
  ·lia
  ·unfold p1 at a⊢;rw[SF];exact a
  ·unfold p2 at b⊢;rw[SF];exact b
  ·rw[Sz,Ti];lia
  ·lia
  lia
 refine⟨_,rfl,_,rfl,rfl,d.1.1,d.1.2,c.1.1,c.1.2,rfl,Q bj,Q bq,Q bc,Q bg,_,rfl,hB (λlt=>?_) (λaF=>?_)⟩
 ·subst aQ;refine⟨_,rfl,_,rfl,_,rfl,_,rfl,_,rfl,rfl,s,c.1,d.1,E,c.2,rfl,G.sp C.w X.w lt,λx aT=>G.fit j x (by lia) (C.px x aT),by have:=C.ln;lia,_,rfl,rfl,_,_,rfl,_,_,rfl,_,_,rfl,rfl,_,rfl,_,rfl,_,0,_,.inl rfl,rfl,rfl,_,rfl,e7,by rw[br];lia,_,rfl,_,rfl,by rw[Sv];lia,_,rfl,aa _ ⟨j+1,S,g++[(ce c.1 d.1,iL s c.1 d.1 E c.2)],q,d.1,jr s c.1 d.1 E c.2,d.2,u++[(ce c.1 d.1,bT s d.1,im s c.1 d.1 E c.2)],v,.val (dR d.1),.val (.lst ((iL s c.1 d.1 E c.2).map bH)),.val (fp (ce c.1 d.1,bT s d.1,im s c.1 d.1 E c.2)),?_,H.split G (by lia) X.w lt,I.whole,by lia,by rw[Sz,Ti];lia,?_,?_⟩⟩
  ·rw[SF,SF];rfl
  ·rw[Sz,Ti];lia
  rw[Sz,Ti];lia
 refine⟨_,rfl,_,rfl,rfl,c.1.1,c.1.2,d.1.1,d.1.2,rfl,Q bc,Q bg,Q bj,Q bq,_,rfl,hB (λlt=>?_) (λaG=>?_)⟩
 ·subst aR;refine⟨_,rfl,_,rfl,_,rfl,_,rfl,_,rfl,rfl,s,d.1,c.1,F,d.2,rfl,G.sp X.w C.w lt,λx aT=>G.fit S x (by lia) (X.px x aT),by have:=X.ln;lia,_,rfl,rfl,_,_,rfl,_,_,rfl,_,_,rfl,rfl,_,rfl,_,rfl,_,0,_,.inl rfl,rfl,rfl,_,rfl,e7,by rw[br];lia,_,rfl,_,rfl,by rw[Sv];lia,aa _ ⟨j,S+1,g,q++[(ce d.1 c.1,iL s d.1 c.1 F d.2)],c.1,c.2,jr s d.1 c.1 F d.2,u,v++[(ce d.1 c.1,bT s c.1,im s d.1 c.1 F d.2)],.val (dR d.1),.val (.lst ((iL s d.1 c.1 F d.2).map bH)),.val (fp (ce d.1 c.1,bT s c.1,im s d.1 c.1 F d.2)),?_,H.whole,I.split G (by lia) C.w lt,by rw[Sz,Ti];lia,by lia,?_,?_⟩⟩
  ·rw[SF,SF];rfl
  ·rw[Sz,Ti];lia
  rw[Sz,Ti];lia
 have e:c.1=d.1:=ur bS bV (by lia);refine aa _ ⟨j,S,g,q,c.1,c.2,d.2,u,v,_,_,_,rfl,H.whole,?_,by lia,by lia,by lia,by lia⟩;rw[e];exact I.whole
theorem Fd :
  b6 P w K mg base "evened" ["slope","hand","rest","other"] 10 (cj K 4 q8):=by
 refine Iv [false,false,true,true] Y.jM q9 rfl (λ_ _ _ _ _ _ _ A=>⟨_,(bE (cI (Is (Ir (rC (Ce (oz B Y) A (by rfl) (aC (ah 0) (aC (ah 1) (aC (ah 2) (aC (ah 1) (aC (ah 3) a9)))))) ui (qY bo)))))),?_⟩);rintro R k S ⟨s,Wd,L,p,C,g,os,t,rfl,u,E,F,G,H,I,J⟩;refine⟨⟨rfl,rfl,trivial,trivial,trivial⟩,cY (r:=[.val (dR s),.val (.str (if g=true then"high" else"low")),.new (.lst (os.map dC)),.new (.lst (t.map dC))]) rfl ?_⟩;refine⟨_,rfl,_,rfl,_,rfl,_,rfl,_,rfl,rfl,s,Wd,L,p,C,g,g,os,t,rfl,u,E,F,G,H,λd f h e v i j z n M T=>⟨_,rfl,?_⟩⟩
 have x:∀{os e d:ZS}{f:ZU},gO s Wd L g p os e d f->0<=dN e/\(e≠[]->0<dN e):=λm=>Le λc N=>by
  obtain⟨a,b,_,_⟩:=u.lw _ (m.o c N).w;exact oY b a.1
 have l:dN (p1 d)=dN (p2 d):=by unfold dN p1 p2;rw[SM,SM];rfl
 have O:=i.w;have U:=j.w
 have no:e=[]/\v=[]:=by
  have y:dN e=dN v:=by rw[l,I]at O;grind
  rcases z with z|z
  ·refine⟨z,Xw λq=>?_⟩;have:=(x j).2 q;rw[<-y,z,show dN []=0 from rfl]at this;exact absurd this (by decide)
  refine⟨Xw λq=>?_,z⟩;have:=(x i).2 q;rw[y,z,show dN []=0 from rfl]at this;exact absurd this (by decide)
 obtain⟨rfl,rfl⟩:=no;refine⟨_,rfl,_,rfl,(λz=>absurd z.2 (by show ¬(HT.sIx 5 5 (some 3)=5);decide)),?_⟩
 have Q:ig [D.lst (d.map hJ),.lst (f.map fp),.lst (h.map fp),.lst (([]:ZS).map dC),.lst (([]:ZS).map dC)] none (some 3)=[.lst (d.map hJ),.lst (f.map fp),.lst (h.map fp)]:=by
  rw[xk (by decide) (by show(3:Int)<=5;decide)];rfl
 rw[Q];exact J d f h i j n M
theorem ow{f:TD}{a0:X7}(F:nu K "law" "law" AB f a0):
  kB P w K mg base j4 11 f a0 ["_law_script"] (w7 K):=by
 refine kB.imp (sp:=cj K 1 GN) ?_ (λdv H Q E h=>Ql h);refine Qk (lv:=10) F ku rfl (λ_ _ _ _ _ _ d=>⟨_,(a1 (P' (i:=1) ku.nd rfl (SG rfl) (BI (E0 B Y) d (by rfl) (aC (bf (EZ B Y) d (aC (ah 0) (aC bo a9))) a9))) (a1 (cx 2 ku.nd (bf (og B Y) d (gD 1 a9))) (a1 (cx 3 ku.nd (ho (dA (fG (a2 qV (a2 qV b0)))) (bf (h5 B Y) d (gD 1 (aC bo a9))) (λ_ _=>rfl))) (a1 (cx 4 ku.nd (bf (L7 B Y) d (gD 1 a9))) (a1 (cx 5 ku.nd bo) (a1 (cx 6 ku.nd bo) (a1 (fw (g7 (f:=λi j=>decide (i=j)) nv (bf (h5 B Y) d (gD 1 (aC bo a9))) bo (dH _)) (a1 (cx 5 ku.nd bo) (bE (cx 6 ku.nd bo))) fH) (a1 (cx 7 ku.nd (Lz (L9 B Y) d (by rfl) (BI (E0 B Y) d (by rfl) (aC (bf (EZ B Y) d (aC (ah 0) (aC bo a9))) a9)) (a2 (ah 2) (a2 (ah 3) (a2 (ah 4) (a2 (fZ bo (bf (h5 B Y) d (gD 1 (aC (ah 5) a9)))) (a2 (ah 6) b0))))))) (a1 (cx 8 ku.nd (Lz (L9 B Y) d (by rfl) (BI (E0 B Y) d (by rfl) (aC (bf (EZ B Y) d (aC (ah 0) (aC bo a9))) a9)) (a2 (ah 2) (a2 (ah 3) (a2 (ah 4) (a2 (fZ bo (bf (h5 B Y) d (gD 1 (aC (ah 5) a9)))) (a2 (ah 6) b0))))))) (a1 (cx 9 ku.nd (bf (Md B Y) d (aC (ah 7) a9))) (a1 (cx 10 ku.nd (bf (Md B Y) d (aC (ah 8) a9))) (DL (IF (cx 11 ku.nd (Is (Ir (Ce (Fd B Y) d (by rfl) (aC (ah 2) (aC (ah 3) (aC (ah 9) (aC (ah 10) a9)))))))) (IF (fw (C1 (k3 (eN (w6 (d.units) (ah 9) (ah 7) (dH _)) (eN (w6 (d.units) (ah 10) (ah 8) (dH _)) (mr (hn (fl (bf (Ma B Y) d (aC (ah 11) (aC (ah 2) (aC (ah 3) (aC (ah 7) (aC (ah 8) (aC (ah 4) a9)))))))))))))) (bE (cI ix)) fH) (rm (j:=12) ku.nd rfl (SG rfl) (SG rfl) PassesOwn.never rfl (By (vZ B Y) d (by rfl) (aC (dA (oC (dA (ii (ts:=["_law_pair"]) (fr:=[]) (js:=[]) (fP (ei 11)) (λ_ _ _ _=>(ez (i:=0) (show SS (["_law_pair"]:ZX) by decide +kernel) rfl (SG rfl))) (λ_ _ _ _=>gU) (λ_ _ _ _=>(Hb (ah 0) ui (qY bo))) ⟨rfl,by decide +kernel,rfl,by decide +kernel,gs (S5 _),gG rfl,by walk_at"ffr",rfl⟩)) (ei 11))) a9)) (a1 (fw (k3 (eN (w6 (d.units) (bf (Fd B Y) d (aC (ah 2) (aC qV (aC (dA (fG b0)) (aC (dA (fG b0)) a9))))) (dV (a2 (dA (fG b0)) (a2 (dA (fG b0)) (a2 (dA (fG b0)) b0)))) (dH _)) (mr (w6 (d.units) (ah 9) (ah 7) (dH _))))) (bE (cI ix)) fH) (bE (cI (bf (Ma B Y) d (aC (bf (Fd B Y) d (aC (ah 2) (aC (ah 3) (aC (ah 9) (aC (ah 10) a9))))) (aC (ah 2) (aC (ah 3) (aC (ah 7) (aC (ah 8) (aC (ah 4) a9))))))))))))))))))))))))),?_⟩);rintro dw k dy ⟨aa,rfl,cm,cu⟩;refine cY rfl ?_;have dB:5000<=TI:=by decide
 have m:∀{z:Int}{a b:Nat},SB z<=a->a<=b->SB z<=b:=λh g=>Sy h g;walk_at"w";refine⟨aa,0,rfl,by decide,λz=>?_⟩;refine⟨rfl,z,rfl,rfl,rfl,rfl,rfl,λs C G J M=>?_⟩;refine⟨e7,?_⟩;walk_at"w";intro au dG dJ
 obtain⟨o,cz⟩:∃o:Bool,eF [D.str (Str.ofString "low"),.str (Str.ofString "high")] au=some (.str (if o=true then"high" else"low")):=by
  rcases(show au=0\/au=1 by lia)with rfl|rfl
  ·exact⟨false,rfl⟩
  exact⟨true,rfl⟩
 refine⟨_,_,_,.inr rfl,rfl,cz,rfl,rfl,rfl,λw O R U W=>?_⟩
 try dsimp only
 refine EL (EL ?_)
 (try dsimp only[Tr])
 refine EE (λa3=>∃u v:Nat,a3=[.val (.scr aa),.bag,.val (dR s),.val (.str (if o=true then"high" else"low")),.val (dR w),.val (.int u),.val (.int v),.no,.no,.no,.no,.no,.no]/\1<=u/\u<=8/\v<=2) (λN a5=>?_) ?_
 ·walk_at"w";intro k' a6 a';refine⟨_,_,rfl,rfl,_,rfl,hB (λ_=>?_) (λ_=>?_)⟩
  ·exact EL (a5 _ ⟨8,0,rfl,by decide,by decide,by decide⟩)
  exact a5 _ ⟨3,2,rfl,by decide,by decide,by decide⟩
 rintro a3 ⟨u,v,rfl,cF,cG,bc⟩;refine⟨_,rfl,rfl,aa,1,rfl,by decide,λcL=>?_⟩;refine⟨rfl,cL,rfl,rfl,_,rfl,_,rfl,_,rfl,?_⟩;have bg:SB (u:Int)<=400:=Sy (wI (by lia) (by lia)) (by decide);refine⟨rfl,_,rfl,rfl,(u:Int),rfl,by lia,bg,λav dM t=>?_⟩;refine⟨_,_,rfl,rfl,_,rfl,rfl,?_⟩;obtain⟨cQ,cR⟩:∃n:Nat,1+av=n:=⟨(1+av).toNat,by lia⟩;show ET [.bag,.val (dR s),.val (.str (if o=true then"high" else"low")),.val (dR w),.val (.int (1+av)),.val (.int v)] _
 rw[cR];refine⟨s,w,o,cQ,v,rfl,C,G,J,M,O,R,U,W,by lia,bc,λcs bj bq dO dP y bz bA=>?_⟩;refine⟨_,rfl,rfl,aa,2,rfl,by decide,λcS=>?_⟩;refine⟨rfl,cS,rfl,rfl,_,rfl,_,rfl,_,rfl,rfl,_,rfl,rfl,(u:Int),rfl,by lia,bg,λaw dQ g3=>?_⟩;refine⟨_,_,rfl,rfl,_,rfl,rfl,?_⟩;obtain⟨cT,ax⟩:∃n:Nat,1+aw=n:=⟨(1+aw).toNat,by lia⟩;show ET [.bag,.val (dR s),.val (.str (if o=true then"high" else"low")),.val (dR w),.val (.int (1+aw)),.val (.int v)] _
 rw[ax];refine⟨s,w,o,cT,v,rfl,C,G,J,M,O,R,U,W,by lia,bc,λr bC bF dS dU A bJ bK=>?_⟩;refine⟨_,rfl,rfl,cs,rfl,by lia,λc q=>(y c q).ln,_,rfl,rfl,r,rfl,by lia,λc q=>(A c q).ln,?_⟩;have ay:=bq (by lia);have az:=bF (by lia)
 have aE:∀{a b:Rat}{S:Int},0<S->a*S=b*S->a=b:=λh e=>by
  have:=eW h;grind
 have ak:dN cs=bv w:=aE ay bA;have bM:dN r=bv w:=aE az bK;obtain⟨N,aq⟩:∃N:Nat,N=bj.toNat*bC.toNat:=⟨_,rfl⟩;have bQ:0<N:=by rw[aq];exact Nat.mul_pos (by lia) (by lia)
 have aF:N<=2304:=by rw[aq];exact Sy (Nat.mul_le_mul (show bj.toNat<=48 by lia) (show bC.toNat<=48 by lia)) (by decide)
 have bR:∀c∈cs,gN s (fg w N) jx o 0 c:=λc q=>(y c q).to (by rw[aq];exact(y c q).w.up _ (by lia));have bS:∀c∈r,gN s (fg w N) jx o 0 c:=λc q=>(A c q).to (by rw[aq,Vg];exact(A c q).w.up _ (by lia));have aI:=LA (N:=N) C G J M O R U W aF
 have bV:∀c∈cs++r,c.2.length<=3/\∀x∈c.2,hu x/\x.1.length<=6:=λc q=>by
  rcases SO.mp q with z|z
  ·exact⟨(y c z).ln,λx X=>⟨((y c z).px x X).jC (by decide),bz c z x X⟩⟩
  exact⟨(A c z).ln,λx X=>⟨((A c z).px x X).jC (by decide),bJ c z x X⟩⟩
 clear y A bz bJ bA bK aE bq bF;intro f;refine⟨_,rfl,_,rfl,_,rfl,_,rfl,rfl,s,fg w N,jx,8,0,o,cs,r,rfl,aI,⟨by lia,by lia⟩,by lia,bR,bS,ak.trans bM.symm,λZ aJ c0 aN c7 dW dY=>⟨_,rfl,?_⟩⟩;refine⟨_,rfl,_,rfl,zc,tD cs,tD cs,by decide,_,rfl,?_⟩;rw[SZ rfl,nE];refine fk ?_;refine⟨_,rfl,_,rfl,zc,tD r,tD r,by decide,_,rfl,?_⟩;rw[SZ rfl,nE];refine fk ?_;refine⟨_,rfl,_,rfl,_,rfl,_,rfl,_,rfl,_,rfl,rfl,s,w,N,o,cs,r,Z,aJ,c0,rfl,C,G,J,M,O,R,U,W,bQ,aF,aN,c7,by lia,by lia,by lia,by lia,bV,ak,_,rfl,fk ?_⟩;dsimp only[wR];have bX:∀h:jv->D,(Z.map h).length=Z.length:=λh=>Sv ..;have c8:∀l:ZU,(l.map fp).length=l.length:=λl=>Sv ..;obtain⟨t,aO⟩:∃t:List (ZP×ZR),t=(Z.map λp=>([dR p.1],p.2.1))++aJ.map λb=>([dR b.1,dR b.2.1],b.2.2):=⟨_,rfl⟩;have c9:(Z.map λp=>dC (p.1,p.2.1))++aJ.map fp=t.map o6:=by rw[aO,SF,SM,SM];rfl
 have aP:∀g∈t,g.2.length<=3:=λg bY=>by
  rw[aO]at bY;rcases SO.mp bY with z|z
  ·obtain⟨p,b5,rfl⟩:=SI.mp z;exact(aN.p (p.1,p.2.1) (SI.mpr ⟨p,b5,rfl⟩)).ln
  obtain⟨b,da,rfl⟩:=SI.mp z;exact(aN.b b da).ln
 have tb:(t.map λg=>g.2.length).sum<=400:=by
  have a:=s3 (f:=λg:ZP×ZR=>g.2.length) (m:=3) (l:=t) aP;have b:t.length<=32:=by rw[aO,Sz,Sv,Sv];lia
  lia
 refine⟨_,rfl,_,_,_,.inl rfl,rfl,rfl,_,rfl,by rw[bX];lia,?_⟩;refine jK (f:=hJ) (h:=λp=>dC (p.1,p.2.1)) (λp b5 d0 de=>?_) ?_
 ·refine⟨_,rfl,_,rfl,_,rfl,(λz=>absurd z.2 (by show ¬(HT.sIx 3 3 (some 2)=3);decide)),?_⟩;rw[xk (by decide) (by show(2:Int)<=3;decide)];exact de
 refine⟨_,rfl,_,_,_,.inl rfl,rfl,rfl,_,_,rfl,rfl,by rw[bX,c8];lia,?_⟩;rw[c9];refine⟨rfl,t,rfl,tb,_,rfl,Sc,by show 12<13;decide,_,eG.pin (eG.no (eG.pin (eG.pin (eG.pin (eG.pin (eG.pin (eG.pin (eG.pin (eG.pin (eG.pin (eG.no (eG.no eG.nil)))))))))))),?_⟩;have b8:∀c∈([]:ZS),gN s (fg w N) jx false 0 c:=λc q=>by cases q
 refine⟨_,rfl,S9 _,S9 _,rfl,s,fg w N,jx,8,0,false,[],[],rfl,aI,⟨by decide,by decide⟩,by decide,b8,b8,rfl,λdf b' x1 _ _ aQ cg=>?_⟩;have a6:df=[]:=U5 (Nat.le_zero.mp aQ);have cg:b'.length+x1.length<=0:=cg;have a':b'=[]:=U5 (by lia);have dg:x1=[]:=U5 (by lia);subst a6 a' dg;refine⟨S9 _,S9 _,S9 _,h6,.T [.L .I,.L .I,.L .I],rfl,rfl,by decide,_,rfl,?_⟩;have dh:eqD (.tup [.lst (([]:ZV).map hJ),.lst (([]:ZU).map fp),.lst (([]:ZU).map fp)]) (.tup [.lst [],.lst [],.lst []])=true:=nE _;rw[SZ rfl,dh];refine fk ?_;refine⟨_,rfl,_,rfl,zc,tD cs,tD cs,by decide,_,rfl,?_⟩;rw[SZ rfl,nE];refine fk ?_;refine⟨_,rfl,_,rfl,_,rfl,_,rfl,rfl,s,fg w N,jx,8,0,o,cs,r,rfl,aI,⟨by lia,by lia⟩,by lia,bR,bS,ak.trans bM.symm,λaR aT aV di dj dk dm=>?_⟩;exact⟨_,rfl,_,rfl,_,rfl,_,rfl,_,rfl,rfl,s,w,N,o,cs,r,aR,aT,aV,rfl,C,G,J,M,O,R,U,W,bQ,aF,di,dj,by lia,by lia,by lia,by lia,bV,ak,cu⟩
end ag7
theorem m_{l:PySem.W.OpenLaw}{w:XB}{K:Su}{h:XG}{c:Str->Option SL}{bz:TD}(Z:∀x∈kf,Ee K x)(Y:mS hR K)(X:K.In h)(G:h.Ns TW c)(f:c "law"=some (.ref bz))
  : ∃bA:X7,(∀(s:Tk)(v:SL),ZI s bA ⟨[v],[]⟩ [("_law_script",v)])/\∀a:XG,K.In a->a.Ns TW c->kB l.prog w K c a j4 11 bz bA ["_law_script"] (w7 K):=by
 obtain⟨⟨g,i,j,k,m,n,o,p,b,d,q,r,t,u,y,z,A,C,E,F,H,I,J,L,M,N,O,P,Q,R,S,T,U,h1,aa,hi,ae,af,ag,ai,aj,ak,hc,ao,aq,ar,au,av,aw,ax,ay,az,aB,aD,aE,aF,aG,aH,aI,aJ,aK,aN,_⟩,⟨aM,aO,aP,aQ,aR,aT,aV,aW,aZ,aY,a0,a3,a5,a6,a7,a',bc,bg,bj,_⟩,⟨bq,_⟩,⟨_⟩⟩:=Y;obtain⟨bJ,br,bF,bC⟩:=aN;have e:=f.symm.trans (PySem.W.mg_of X G bF);cases e;have B:LF c:=⟨Tg X G aM,Tg X G aO,Tg X G aP,Tg X G aQ,Tg X G aR,Tg X G aT,Tg X G aV,Tg X G aW,Tg X G aZ,Tg X G aY,Tg X G a0,Tg X G a3,Tg X G a5,Tg X G a6,Tg X G a7,Tg X G a',Tg X G bc,Tg X G bg,Tg X G bj⟩;have eE:=bq.m3 X G;have eP:=Z "widest_last" (by decide) h c X G;refine⟨br,λs v=>?_,λa _ _=>?_⟩
 ·obtain⟨_,_,_,_,_,_,_,_,_,rfl,_⟩:=bC.ex;exact .of_eq rfl
 exact ow B ⟨g.er X G (by walk_at"b"),i.er X G (by walk_at"b"),j.er X G (by walk_at"b"),k.er X G (by walk_at"b"),m.er X G (by walk_at"b"),n.er X G (by walk_at"b"),o.er X G (by walk_at"b"),p.er X G (by walk_at"b"),b.er X G (by walk_at"b"),d.er X G (by walk_at"b"),q.er X G (by walk_at"b"),r.er X G (by walk_at"b"),t.er X G (by walk_at"b"),u.er X G (by walk_at"b"),y.er X G (by walk_at"b"),z.er X G (by walk_at"b"),A.er X G (by walk_at"b"),C.er X G (by walk_at"b"),E.er X G (by walk_at"b"),F.er X G (by walk_at"b"),H.er X G (by walk_at"b"),I.er X G (by walk_at"b"),J.er X G (by walk_at"b"),L.er X G (by walk_at"b"),M.er X G (by walk_at"b"),N.er X G (by walk_at"b"),O.er X G (by walk_at"b"),P.er X G (by walk_at"b"),Q.er X G (by walk_at"b"),R.er X G (by walk_at"b"),S.er X G (by walk_at"b"),T.er X G (by walk_at"b"),U.er X G (by walk_at"b"),h1.er X G (by walk_at"b"),aa.er X G (by walk_at"b"),hi.er X G (by walk_at"b"),ae.er X G (by walk_at"b"),af.er X G (by walk_at"b"),ag.er X G (by walk_at"b"),ai.er X G (by walk_at"b"),aj.er X G (by walk_at"b"),ak.er X G (by walk_at"b"),hc.er X G (by walk_at"b"),ao.er X G (by walk_at"b"),aq.er X G (by walk_at"b"),ar.er X G (by walk_at"b"),au.er X G (by walk_at"b"),av.er X G (by walk_at"b"),aw.er X G (by walk_at"b"),ax.er X G (by walk_at"b"),ay.er X G (by walk_at"b"),az.er X G (by walk_at"b"),aB.er X G (by walk_at"b"),aD.er X G (by walk_at"b"),aE.er X G (by walk_at"b"),aF.er X G (by walk_at"b"),aG.er X G (by walk_at"b"),aH.er X G (by walk_at"b"),aI.er X G (by walk_at"b"),aJ.er X G (by walk_at"b"),aK.er X G (by walk_at"b"),eE,eP⟩ bC
end
end L3
open PySem PySem.W PyProof.Rows
set_option maxRecDepth 100000 in
set_option maxHeartbeats 0 in
theorem PySem.Challenge.cw_slidecut_k40_rests_evened_holds : PySem.Challenge.rw_slidecut_k40_rests_evened.Holds := by
 refine holds_law L3.l4 fun l4 => holds_open (XP := XL Zpw []) (YP := L3.iE L3.hR L3.kf) L3.left (L3.Ed L3.hR L3.kf) (L3.m2 L3.hR L3.kf) (fun s e => xl_of s (Xx.mp e).1) XL.keeps (by rfl) (by rfl) (by rfl) (fun s e => recFacts_of (Xx.mp e).2) (by rfl) l4 (by decide +kernel) ⟨rfl, rfl, rfl, rfl, rfl, by decide +kernel⟩ ?hw ?hc
 case hw => w_witness2
 case hc => exact L3.nc (k := 11) rfl rfl ⟨rfl, by decide, by decide⟩ fun w K mg fF h Z Y X G t3 => L3.m_ Z Y X G t3
#print axioms PySem.Challenge.cw_slidecut_k40_rests_evened_holds