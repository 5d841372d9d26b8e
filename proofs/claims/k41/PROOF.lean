import PyProof.Rows.All
import Open.Line
import KE.KIsAll
import KE.KItem
import KE.IntBitsLaws
import OpenK.KCls
import OpenK.KList
import OpenK.KWalk
import OpenK.KCall
import OpenK.KMake
import KE.KLam
import KE.KSortKey
import PyProof.ListRange
import Wide.FinOn
import Lean
import PyProof.EqAt
import PyProof.EqKinds
import PyProof.TupleCall
import PyProof.AttrMissHeap
import PyProof.Cells
import PyProof.AutoListH
import PyProof.AutoSeq1
import PyProof.SeqI3
import PyProof.Rows.SortWalk
import PyProof.DictItemsLoops
import PyProof.Rows.Range3
import PyProof.DictRoadsH
import PyProof.DictKinds
import PyProof.DictIter
import PyProof.DictWalks
import PyProof.DictValues
import PyProof.FactsAll.dict_values
import PyProof.FactsAll.dict_valueiterator
import PyProof.NeKinds
import PyProof.ExcBaseAll.ValueError
import PyProof.ZipIter
import PyProof.ListCopy
import PyProof.CollectWalk
import PyProof.SliceStr2
import PyProof.Rows.StrFirst
import PyProof.StrLawsFirst
import PyProof.StrLawsIn
import PyProof.StrBlockI
import PyProof.Rows.StrNews
import PyProof.EnumMake
import PyProof.EnumFor
import PyProof.EnumStmt
import PyProof.Rows.SetFrom
import PyProof.MinMaxWalk
import PyProof.WalkInts
import PyProof.FactsAll.tuple_1
import PyProof.FactsAll.tuple_2
import PySem.Challenge.RW_slidecut_k41_whole_split_and_paired
open PySem renaming wpAny_bind→SB,wpAny_pure→SL,Value→SZ,Shared→TD,intBits_mul_le→TE,Addr→TI,sizeLine→TT,intBits_neg_le→TW,mainGlobals→Uf,starEach→UV,model→Wp,Program→WF,Expr→WP,wpAny_newObj_type→W1,foldedSetIterable→Xr,wpAny_holding→Xu,natAbs_fdiv_le→Xv,World→Xx,Around→Xy,assignEach→Xz,swapsWith→XA,Heap→XB,wpAny_call_entry→XC,wpAny_truthy_bool→XD,Stmt→XE,behindInMarks→XF,wpAny_mono→XG,sysModules→XH,intBits_add_le→XI,wpAny_passesOwn→XJ,bootBuiltins→XK,wpAny_typeNameOfWhole_itemiter→XM,sizeLine_eq→XN,cLine→XO,compareOp→XQ,wpAny_typeNameOfWhole_keyiter→XR,wpAny_isOneOf_itemiter→XS,wpAny_Call_Name_kw→XT,wpAny_setField_rec→XU,Scope→XV,builtinsNs→XW,wpAny_standAt→XX,swapsWithSole→XY,swappedStores→XZ,wpAny_dictEntries→X0,Arguments→X1,wpAny_typeNameOf_itemiter→X2,FuncData→X3,wpAny_isInstance→X4,reduceHash→X5,wpAny_typeNameOf_keyiter→X6,importedModules→X7,backTo→X8,wpAny_callSpecial?_slot→X9,wpAny_specialOf→X',wpAny_rule→Yb,wpAny_pyIter_list→Yc,wpAny_field→Yd,sliceBounds→Ye,atKey_none_of_get→Yg,isSubtype_tuple_tuple→Yh,wpAny_notOrdered_dict→Yi,wpAny_isOneOf_keyiter→Yj,wpAny_forIn_list→Yk,eval→Yl,plainId_quiet→Ym,IsItemIter→Yn,wpAny_execs_nil→Yo,letOwnedTupleGo→Yp,wpAny_dictEpoch→Yq,codeAny_builtin→Yr,wpAny_tupleItemsOf→Yt,holding→Yv,recursionLimit→Yw,intBits_sub_le→Yx,Builtin→Yy,wpAny_seqItems→Yz,wpAny_fieldsOf→YA,firstArgMember→YB,DictEntry→YC,wpAny_pyIter_slot→YD,assignInOrder→YE,binaryOp→YF,seqIndex_of→YG,compTurn→YH,Comprehension→YI,wpAny_letGo→YJ,wpAny_pyNext_list_item→YK,wpAny_Call_method_late→YM,treeTable→YN,codeAmong→YO,standAt→YR,pyNext→YS,wpAny_pyNext_list_end→YT,codeAny_mono→YU,wpAny_updateSeq→YX,bindArgs→YY,compEnvC→YZ,wpAny_loadName_local→Y0,intBits_le_of_natAbs→Y1,wpAny_newFunctionEnv→Y2,assign→Y3,rawInt→Y4,wpAny_setField→Y6,dictSetDefault→Y7,wpAny_tryCatch→Y8,wpAny_loadName_cell→Y9,wpAny_of_eq→Y',isTrue→Zb,PassesOwn→Zc,NameKind→Zd,wpAny_pyHash_tuple→Ze,wpAny_eqBool_tuple→Zf,wpAny_attempt→Zg,IsItemIterOut→Zi,hashInt→Zj,entryOfKey→Zk,intKind→Zl,call_meets→Zm,callerA→Zn,closureFor→Zo,IsTupleKey→Zp,seqIndex_neg→Zq,call_meetsIn→Zr,unpackItems→Zv,IsPart→Zw,eqIsQuiet→Zx,atKey→Zy,storedH_new→Zz,truthy→ZA,pyIter→ZB,Result→ZC,bindName→ZD,BindsTo→ZE,getItem→ZF,setField→ZG
open PySem.Builtin.Int renaming intBits→SC
open PyProof.Rows renaming assignInOrder_cons→Ys,seqObj→Yu,subscriptTail_builtinR→YL,AllBare→YQ,IntsAre→YV,listItems_at→YW,envOfC→Y5,listUpdate_at→Zh
open PySem.W renaming openEnds→Za,openSeen→Zs,openGood→Zt,Frag→Zu,kla_obj→ZH
abbrev Tk:=@if_pos
abbrev Tl:=@if_neg
abbrev UF:=@congrArg
abbrev Xw:=@decide_eq_true
open Int renaming gcd->Ss,ne_of_gt->SA,mul_pos->SE,mul_ne_zero->S0,mul_neg_of_pos_of_neg->S1,mul_zero->S2,mul_comm->S6,le_of_lt->Tg,dvd_trans->Tj,mul_eq_zero->Tt,mul_nonneg->Tu,natAbs_mul->Tw,eq_of_mul_eq_mul_right->TG,dvd_mul_of_dvd_right->TM,gcd_comm->TX,zero_mul->TZ,lt_trichotomy->T3,mul_neg_of_neg_of_pos->T4,pos_of_mul_pos_right->T8,neg_gcd->Ua,emod_nonneg->Ug,mul_assoc->Uj,emod_lt_of_pos->Um,neg_mul->Us,natAbs_dvd_natAbs->Ut,mul_pos_of_neg_of_neg->Uw,neg_mul_neg->Uy,neg_dvd->UG,mul_fdiv_cancel_left->UH,ofNat_dvd_left->UI,pos_of_mul_pos_left->UL,mul_ediv_cancel'->UQ,gcd_dvd_right->UY,toNat_of_nonneg->U5,mul_one->U7,gcd_pos_of_ne_zero_right->U',gcd_dvd_left->Va,lt_or_eq_of_le->Vk,mul_nonneg_of_nonpos_of_nonpos->Vl,toNat->Vy,gcd_mul_left->VO,dvd_coe_gcd->V2,dvd_sub->V3,add_comm->V4,neg_neg->V6,one_mul->Wg,sub_zero->Wi,fdiv_eq_ediv_of_dvd->Wn,eq_ofNat_of_zero_le->WA,gcd_zero_right->WB,eq_of_mul_eq_mul_left->WL,gcd_pos_of_ne_zero_left->WO,natAbs_natCast->WQ,toNat_natCast->WZ,mul_ediv_cancel_left->W4
open PySem.W renaming Frag->Su,mg_none_of->Tf,kia_one->TO,fnOf->UD,keepIn->U8,instObj->VC,methodObj->VD,lookIn->VG,kitOne->VH,codeIn->VK,plainGet->Wr,findIn->Ws,kitx_list->Wt,kitx_dict->Wu,cellsFrom_some->Wv
open List renaming length_map->Sv,mem_cons_self->Sw,length_append->Sx,mem_cons_of_mem->Sy,map_append->Sz,mem_cons->SG,map_cons->SH,mem_map->SJ,mem_append->SK,length_cons->SM,mem_singleton->SN,append_nil->SQ,map_map->SR,size_toArray->SS,getElem?_eq_getElem->SU,append_assoc->SV,getElem?_map->SW,replicate->SX,Nodup->SY,range->S4,mem_append_right->S5,length->S7,mem_of_getElem?->S9,getElem?_eq_none->S',sum_cons->Tb,forall_mem_nil->Tc,nil_append->Te,length_singleton->Tn,cons_append->To,nodup_cons->Tq,getElem?_append_right->Tr,map_nil->Ts,set->Tv,forall_mem_cons->Tz,mem_range->TB,mem_append_left->TC,getElem?_set_ne->TF,getElem?_eq_some_iff->TJ,getElem?_set_self->TK,mem_filter->TN,length_take->TP,getElem?_append_left->TQ,length_nil->TR,not_mem_nil->TS,set_set->TY,mem_filterMap->T6,length_replicate->T7,map_congr_left->Ud,sum_append->Ue,length_set->Ui,ext_getElem?->Uk,getElem?_replicate->Uq,length_drop->Ur,drop_eq_getElem_cons->Uu,drop_length->UJ,singleton_sublist->UN,getElem?_of_mem->U0,length_range->U1,filter_append->U3,isEmpty_map->U6,getElem?_range->Vf,all_eq_true->Vg,take_of_length_le->Vi,length_filter_le->Vm,zip_cons_cons->Vn,filter_cons->Vr,perm_middle->Vv,sum_nil->Vw,eq_nil_or_concat->VA,concat_eq_append->VB,filterMap_cons->VF,of_mem_zip->VI,range'->VY,lookup_cons->VZ,take_succ_cons->V0,drop_zero->V1,getElem_mem->V5,dropLast_concat_getLast->V8,exists_mem_of_ne_nil->V9,nodup_append->Wf,mem_of_mem_take->Wh,isEmpty_iff->Wj,map_inj_right->Wk,eraseIdx_cons_succ->Wx,eraseIdxIfInBounds_toArray->Wy,getElem?_eq_none_iff->WD,eq_nil_of_length_eq_zero->WE,getElem?_inj->WH,range_eq_range'->WI,filterMap_cons_none->WM,filterMap_cons_some->WN,sublist_append_right->WS,length_pos_iff->WT,filter_cons_of_pos->WU,filter_cons_of_neg->WV,getElem?_cons_succ->W3,getElem_take->W5,take_append_drop->W6,mem_of_mem_drop->W7,length_eraseIdx_of_lt->W',pairwise_map->Xc,dropLast_concat->Xg,flatMap_cons->Xh,singleton_append->Xi,perm_append_singleton->Xj,length_flatten->Xn,append_cancel_left->Xo
open Nat renaming le_trans->SD,le_refl->SF,ne_of_lt->S3,lt_of_lt_of_le->S8,mod_eq_of_lt->Td,gcd->Th,zero_le->Ti,lt_irrefl->TU,le_succ->TV,ne_of_gt->T5,mod_lt->Uv,le_of_lt->UC,add_mod_right->UM,gcd_dvd_left->UZ,zero_add->U2,lt_or_ge->U4,gcd_dvd_right->Vb,dvd_trans->Vc,gcd_mul_left->Vd,le_of_eq->VM,gcd_comm->VN,eq_of_mul_eq_mul_left->VP,mul_comm->VR,le_of_dvd->VT,le_of_ble_eq_true->VU,mod_self->V7,add_assoc->Wb,eq_zero_or_pos->Wq,gcd_mul_right->WC,lt_of_le_of_lt->W2,lt_succ_of_lt->Xf,sub_add_cancel->Xm
open Or renaming inl->SI,inr->Uh
open Option.some renaming inj->SO,injEq->Vu
open Bool renaming false_ne_true->SP,false_eq_true->TH,and_eq_true->TL,not_true->UO,eq_iff_iff->VX,beq_eq_decide_eq->Wz,and_eq_true_iff->Xq
open Ne renaming symm->Ta
open False renaming elim->Tp
open PySem renaming Env->Tx,mem_of_lookup->Up,sizeLine->UT,sizeLine_eq->Vz,natAbs_fdiv_le->VQ,Fin->Wc,evalArgs_none->Ww,compStart->WG
open Prod renaming ext->TA,snd->Ul,fst->Vs
open PySem.F renaming plainAttrs_list->T9,plain_max_loop->US,slot_dict_get->Vo,slot_list_pop->Vp,type_list_pop->Vq,slot_list_append->VV,type_list_append->VW,plainAttrs_dict->We,slot_list_extend->WJ,type_list_extend->WK,type_dict_get->WX,entry_dict_get->WY,slot_dict_items->W8,slot_dict_setdefault->W9,plain_list_iadd->Xd,entry_max_loop->Xe
open Classical renaming propDecidable->T',byContradiction->UB
open List.cons renaming inj->Ub,injEq->UP
open Rat renaming intCast_mul->Uc,mul_pos->UR,not_lt->Vx,intCast_add->V',le_of_lt->Wl,mul_le_mul_of_nonneg_right->Xk
open Sum renaming inl->Un,inr->Uo
open List.Sublist renaming append->Ux,refl->Vj,cons_cons->WR
open Prod.mk renaming injEq->Uz
open Option renaming map_eq_some_iff->UA,map_some->UK,getD_none->U9,isSome_iff_exists->VJ,isSome_map->WW
open Array renaming getElem?_toList->UE,length_toList->UU,isEmpty_iff->Vt,getElem?_eq_none->VE,forIn_toList->Wa,toList_append->Xa
open PyProof.Rows renaming callWith_type1->UW,envOfC->Ve,slot_tuple_getitem->VL
open True renaming intro->UX
open ForInStep renaming yield->Vh
open PySem.Builtin.Int renaming intBits->VS
open List.Perm renaming refl->Wm,trans->Wo,swap->Xb,append_left->Xp
open Nat.Coprime renaming dvd_of_dvd_mul_left->Xl
abbrev ZY:=List (PySem.Addr×PySem.Obj)
abbrev ZX:=List PySem.Stmt
abbrev ZW:=List PySem.Expr
abbrev ZV:=List PySem.Addr
abbrev ZU:=List PySem.Value
abbrev ZT:=List PySem.Str
abbrev ZP:=List Nat
abbrev ZI:=List Int
abbrev ZZ:=List ZI
open PySem.Challenge renaming rw_slidecut_k41_whole_split_and_paired->Zrw,pw_slidecut_k41_whole_split_and_paired->Zpw
set_option Elab.async false
set_option linter.all false
local macro_rules | `(tactic| walk_at"v") => `(tactic| first | exact SI rfl | exact Uh (SI rfl) | exact Uh (Uh rfl))
local macro_rules | `(tactic| walk_at"f") => `(tactic| first | exact .inl rfl | exact .inr rfl | assumption)
theorem hN:3<=UT:=by decide
theorem eW:2<=UT:=by decide
theorem vg:1<=UT:=by decide
theorem vh:0<=UT:=by decide
theorem vi:10000<=UT:=by decide
theorem b8{a b c:Nat}(h:a<=b)(g:b<=c:=by decide):a<=c:=SD h g
namespace L3
open PySem PySem.W
def lj(h:XB)(name:Str):Option (Option SZ):=match h.get? Uf with
 |some ⟨_,_,.dict es _,_⟩=>(match es.toList.find? (·.key.isStr name)with
   |some e=>some (some e.val)
   |none=>if es.toList.any (·.refKey)then none else some none)
 |_=>none
def yh(h:XB)(eH:SZ)(q:Str):Bool:=match eH with
 |.ref c=>(match h.get? c with
   |some ⟨_,_,.fields vs,_⟩=>(match vs.toList with|_::.str n _::_=>n==q|_=>false)
   |_=>false)
 |_=>false
def yi(h:XB)(x:Str):Option (Str×Str×X1×FuncBody×XV×TI×List (Str×TI)×SZ×TI×Bool):=match lj h x with
 |some (some (.ref f))=>(match h.get? f with
  |some ⟨_,_,.func fd,_⟩=>some (fd.name,fd.qualname,fd.params,fd.body,fd.scope,fd.globals,fd.closure,fd.defaults,fd.builtins,yh h fd.code x)
  |_=>none)
 |_=>none
def yj(x:Str)(st:XE):Option (Str×Str×X1×FuncBody×XV×TI×List (Str×TI)×SZ×TI×Bool):=match st with
 |.FunctionDef _ a b _ _ _ sc _ _ _=>some (x,x,a,.stmts b,sc,Uf,[],.none,XW,true)
 |_=>some (x,x,⟨[],[],none,[],[],none,[]⟩,.stmts [],{kind:=.function,names:=[],isGenerator:=false,isCoroutine:=false},Uf,[],.none,XW,true)
def yk(h:XB)(x:Str):Option (Str×Int×Int):=match lj h x with
 |some (some (.ref p))=>(match h.get? p with
  |some ⟨.type "tuple",_,.seq its _,_⟩=>(match its.toList with|[.int i _,.int j _]=>some (x,i,j)|_=>none)
  |_=>none)
 |_=>none
def yl(h:XB)(x:Str):Option (Str×(Int ⊕ Str)):=match lj h x with
 |some (some (.int i _))=>some (x,.inl i)
 |some (some (.str s _))=>some (x,.inr s)
 |_=>none
abbrev cX(x:Str)(s:XE):Str×XE:=(x,s)
abbrev Ks(x:Str)(i j:Int):Str×Int×Int:=(x,i,j)
structure l2 where
 fs:List (Str×XE)
 bs:ZT
 ts:List (Str×Int×Int)
 cs:List (Str×(Int ⊕ Str))
abbrev Seen:Type:=List (Option (Str×Str×X1×FuncBody×XV×TI×List (Str×TI)×SZ×TI×Bool))×List (Option (Option SZ))×List (Option (Str×Int×Int))×List (Option (Str×(Int ⊕ Str)))
def ym(t:l2)(s:TD):Seen:=(t.fs.map λp=>yi s.heap p.1,t.bs.map λb=>lj s.heap b,t.ts.map λp=>yk s.heap p.1,t.cs.map λp=>yl s.heap p.1)
def yn(t:l2)(_:Xx):Seen:=(t.fs.map λp=>yj p.1 p.2,t.bs.map λ_=>some none,t.ts.map λp=>some p,t.cs.map λp=>some p)
theorem map_two{α β γ:Type}{E:Option α}{F:α->β×γ}{a:β×γ}(h1:E.map (λs=>(F s).1)=some a.1)(aa:E.map (λs=>(F s).2)=some a.2):E.map F=some a:=by
 cases E with
 |none=>cases h1
 |some x=>
  have ai:=SO h1;have ar:=SO aa;exact UF some (TA ai ar)
theorem Kt{p q:WF}{loose:ZT}{Xt:TD->Bool}{α:Type}{Yf:TD->α}{Ya:Xx->α}{N:Nat}(h1:∀w:Xx,(Za YN p w N).map (λs=>(Zs q loose (X7 p.main.body) Xt true s).1)=some (Zt q loose).1)(aa:∀w:Xx,(Za YN p w N).map (λs=>(Zs q loose (X7 p.main.body) Xt true s).2)=some (Zt q loose).2)(aH:∀w:Xx,(Za YN p w N).map Yf=some (Ya w)):LeftO p q loose Xt Yf Ya N:=
 λw=>map_two (F:=λs=>(Zs q loose (X7 p.main.body) Xt true s,Yf s)) (a:=(Zt q loose,Ya w)) (map_two (h1 w) (aa w)) (aH w)
def lm(h:XB)(x:Str):Option TI:=match lj h x with
 |some (some (.ref f))=>(match h.get? f with
  |some ⟨_,_,.func fd,_⟩=>(match fd.code with
   |.ref c=>(match h.get? c with
    |some ⟨.type "code",_,.fields vs,_⟩=>(match (vs[11]?:Option SZ),vs.getD 18 .none,vs.getD 7 .none,vs.getD 9 .none,vs.getD 10 .none with
     |some (.ref P),.str _ _,.int _ _,.bool _,.int _ _=>if c=P then none else some P
     |_,_,_,_,_=>none)
    |_=>none)
   |_=>none)
  |_=>none)
 |_=>none
def isTab(o:Obj):Bool:=match o.data with
 |.fields vs=>vs.isEmpty&&o.slots.isEmpty&&(match o.cls,o.dict with|.none,none=>true|_,_=>false)
 |_=>false
def vj(h:XB):Option TI:=match lj h "__builtins__" with
 |some (some (.ref ep))=>(match h.get? ep with
  |some ⟨.type "module",some d,.plain,_⟩=>if d=XW then some ep else none
  |_=>none)
 |_=>none
def DN(h:XB)(ls:ZT)(ep:TI)(x:Str):Bool:=(match lm h x with
 |some P=>P != Uf&&P != ep&&(match h.get? P with|some o=>isTab o|none=>false)
 |none=>false)&&(ls.find? λy=>lm h y==lm h x)==some x
def yo(h:XB)(ls:ZT):Bool:=match vj h with
 |some ep=>ep != XW&&ep != Uf&&ls.all (DN h ls ep)
 |none=>false
def sX(t:l2)(ls:ZT)(s:TD):Seen×Bool:=(ym t s,yo s.heap ls)
def sY(t:l2)(w:Xx):Seen×Bool:=(yn t w,true)
end L3
namespace Cut
open PySem L3
def top(i:Nat):XE:=Zpw.main.body.getD i (.Pass ⟨0,0,0,0⟩)
abbrev yp:XE:=top 5
abbrev yq:XE:=top 6
abbrev yr:XE:=top 7
abbrev yt:XE:=top 8
abbrev yu:XE:=top 9
abbrev yv:XE:=top 10
abbrev yw:XE:=top 11
abbrev yx:XE:=top 12
abbrev yy:XE:=top 14
abbrev yz:XE:=top 15
abbrev yA:XE:=top 16
abbrev yB:XE:=top 17
abbrev yC:XE:=top 18
abbrev yD:XE:=top 19
abbrev yE:XE:=top 21
abbrev yF:XE:=top 22
abbrev yG:XE:=top 23
abbrev yH:XE:=top 24
abbrev yI:XE:=top 25
abbrev yJ:XE:=top 26
abbrev yK:XE:=top 28
abbrev yL:XE:=top 29
abbrev yM:XE:=top 30
abbrev yN:XE:=top 31
abbrev yO:XE:=top 32
abbrev yP:XE:=top 33
abbrev yQ:XE:=top 35
abbrev yR:XE:=top 36
abbrev yS:XE:=top 37
abbrev yT:XE:=top 38
abbrev yU:XE:=top 39
abbrev yV:XE:=top 40
abbrev yW:XE:=top 41
abbrev yX:XE:=top 42
abbrev yY:XE:=top 43
abbrev yZ:XE:=top 44
abbrev y0:XE:=top 45
abbrev y1:XE:=top 46
abbrev y2:XE:=top 47
abbrev y3:XE:=top 48
abbrev y4:XE:=top 49
abbrev y5:XE:=top 50
abbrev y6:XE:=top 51
abbrev y7:XE:=top 52
abbrev y8:XE:=top 53
abbrev y9:XE:=top 55
abbrev y':XE:=top 56
abbrev za:XE:=top 57
abbrev zb:XE:=top 58
abbrev zc:XE:=top 59
abbrev zd:XE:=top 60
abbrev ze:XE:=top 61
abbrev zf:XE:=top 62
abbrev zg:XE:=top 63
abbrev zh:XE:=top 64
abbrev zi:XE:=top 65
abbrev zj:XE:=top 66
abbrev zk:XE:=top 67
abbrev zl:XE:=top 68
def tabs:l2:=⟨[cX "greatest_divisor" yp,cX "plus" yq,cX "minus" yr,cX "times" yt,cX "under" yu,cX "against" yv,cX "unsigned" yw,cX "ranks" yx,cX "point" yy,cX "at" yz,cX "slid" yA,cX "crossed" yB,cX "hand_of" yC,cX "meet" yD,cX "cut_ring" yE,cX "cut_sheet" yF,cX "cut_upright" yG,cX "cut_level" yH,cX "copied" yI,cX "moved" yJ,cX "split" yK,cX "widest_last" yL,cX "alike" yM,cX "matched" yN,cX "box_of" yO,cX "paired" yP,cX "_law_cell" yQ,cX "_law_bag" yR,cX "_law_draw" yS,cX "_law_measure" yT,cX "_law_low" yU,cX "_law_spot" yV,cX "_law_whole" yW,cX "_law_line" yX,cX "_law_count" yY,cX "_law_part" yZ,cX "_law_left" y0,cX "_law_is_spot" y1,cX "_law_is_bulging" y2,cX "_law_between" y3,cX "_law_cut" y4,cX "_law_sheet" y5,cX "_law_first" y6,cX "_law_kept" y7,cX "_law_lies" y8,cX "_law_product" y9,cX "_law_less" y',cX "_law_pin" za,cX "_law_box" zb,cX "_law_is_box" zc,cX "_law_is_low" zd,cX "_law_size" ze,cX "_law_high" zf,cX "_law_corner" zg,cX "_law_slope" zh,cX "_law_pieces" zi,cX "_law_splits" zj,cX "_law_rest_is" zk,cX "law" zl],["len","abs","int","bool","tuple","isinstance","range","all","sum","list","ValueError","zip","str","enumerate","set","max","min","sorted","dict"],[Ks "NOTHING" 0 1],[]⟩
def lams:List Str:=["widest_last"]
open PySem.W
set_option maxRecDepth 100000
set_option maxHeartbeats 0
theorem said:Zrw.wellSaid=true:=by kernel_rfl
theorem Ku:∀w:Xx,(Za YN Zrw.row.prog w 20000).map (λs=>(Zs Zpw [] (X7 Zrw.row.prog.main.body) (λs=>xlAt Zpw [] s&&recOk (RowW.records (OpenRow.toRowW Zrw.row)) s) true s).1)=some (Zt Zpw []).1:=λw=>by kernel_rfl
theorem Kv:∀w:Xx,(Za YN Zrw.row.prog w 20000).map (λs=>(Zs Zpw [] (X7 Zrw.row.prog.main.body) (λs=>xlAt Zpw [] s&&recOk (RowW.records (OpenRow.toRowW Zrw.row)) s) true s).2)=some (Zt Zpw []).2:=λw=>by kernel_rfl
theorem Kw:∀w:Xx,(Za YN Zrw.row.prog w 20000).map (sX tabs lams)=some (sY tabs w):=λw=>by kernel_rfl
theorem left:LeftO Zrw.row.prog Zpw [] (λs=>xlAt Zpw [] s&&recOk (RowW.records (OpenRow.toRowW Zrw.row)) s) (sX tabs lams) (sY tabs) 20000:=Kt (p:=Zrw.row.prog) (q:=Zpw) (loose:=[]) (Xt:=(λs=>xlAt Zpw [] s&&recOk (RowW.records (OpenRow.toRowW Zrw.row)) s)) (Yf:=sX tabs lams) (Ya:=sY tabs) (N:=20000) Ku Kv Kw
end Cut
set_option Elab.async false
set_option linter.all false
set_option maxRecDepth 100000
namespace L2
open PySem PySem.Spec PyProof.Rows
abbrev iu:=Sum Int Str
def DO:iu->SZ->Bool
 |.inl k,v=>Value.isInt k v
 |.inr x,v=>Value.isStrOf x v
def Kx(w:Xx):iu->Int
 |.inl k=>Zj k
 |.inr x=>hashStr w x
theorem nN:∀{k:iu}{v:SZ},DO k v=true->(∃i t,k=Un i/\v=Value.int i t)\/(∃x t,k=Uo x/\v=Value.str x t)
 |.inl i,v,h=>by
  obtain⟨t,e⟩:=Value.isInt_shape (k:=i) (v:=v) h;exact .inl ⟨i,t,rfl,e⟩
 |.inr x,v,h=>by
  obtain⟨t,e⟩:=Value.isStrOf_shape (x:=x) (v:=v) h;exact .inr ⟨x,t,rfl,e⟩
theorem Ky(a b:Int):decide ((Un a:iu)=Un b)=(a==b):=by
 by_cases e:a=b
 ·subst e;simp
 have h:¬(Un a:iu)=Un b:=λq=>e (Sum.inl.inj q);rw[decide_eq_false h];exact(beq_eq_false_iff_ne.mpr e).symm
theorem Kz(a b:Str):decide ((Uo a:iu)=Uo b)=decide (a=b):=by
 by_cases e:a=b
 ·subst e;simp
 have h:¬(Uo a:iu)=Uo b:=λq=>e (Sum.inr.inj q);rw[decide_eq_false h,decide_eq_false e]
theorem KA(a:Int)(b:Str):decide ((Un a:iu)=Uo b)=false:=decide_eq_false (λq=>nomatch q)
theorem KB(a:Str)(b:Int):decide ((Uo a:iu)=Un b)=false:=decide_eq_false (λq=>nomatch q)
def zm(prog:WF)(w:Xx):PySem.KeyKind prog w iu where
 is:=DO
 hash:=Kx w
 inj:=λv a b aw ae=>by
  rcases nN aw with⟨i,t,rfl,rfl⟩|⟨x,t,rfl,rfl⟩
  ·rcases nN ae with⟨j,u,rfl,e⟩|⟨y,u,rfl,e⟩
   ·injection e with ai _;rw[ai]
   exact nomatch e
  rcases nN ae with⟨j,u,rfl,e⟩|⟨y,u,rfl,e⟩
  ·exact nomatch e
  injection e with ai _;rw[ai]
 byValue:=λk v h=>by
  rcases nN h with⟨i,t,rfl,rfl⟩|⟨x,t,rfl,rfl⟩<;>rfl
 pyHash:=λaL h=>by
  rcases nN aL with⟨i,t,rfl,rfl⟩|⟨x,t,rfl,rfl⟩
  ·exact wpAny_pyHash_int h
  exact wpAny_pyHash_str h
 eqBool:=λa2 aL h=>by
  rcases nN a2 with⟨i,t,rfl,rfl⟩|⟨x,t,rfl,rfl⟩
  ·rcases nN aL with⟨j,u,rfl,rfl⟩|⟨y,u,rfl,rfl⟩
   ·rw[Ky]at h;exact wpAny_eqBool_int h
   rw[KA]at h;exact SeqAt.EqAt.int_str i t y u _ _ _ _ h
  rcases nN aL with⟨j,u,rfl,rfl⟩|⟨y,u,rfl,rfl⟩
  ·rw[KB]at h;exact SeqAt.EqAt.str_int x t j u _ _ _ _ h
  rw[Kz]at h;exact wpAny_eqBool_str h
 «strs»:=λk x t v h=>by
  rcases nN h with⟨i,u,rfl,e⟩|⟨y,u,rfl,e⟩
  ·exact nomatch e
  injection e with ai _
  subst ai
  cases v<;>rfl
inductive V where
 |non|bl (b:Bool)|int (i:Int)|str (x:Str)|byt (b:Array UInt8)|flt (b:UInt64)|ref (a:TI)|ty (n:String)
 deriving DecidableEq
abbrev ZL:=List V
def RelV:V->SZ->Prop
 |.non,u=>u=Value.none
 |.bl b,u=>u=Value.bool b
 |.int i,u=>∃t,u=Value.int i t
 |.str x,u=>∃t,u=Value.str x t
 |.byt b,u=>∃t,u=Value.bytes b t
 |.flt b,u=>∃t,u=Value.float b t
 |.ref a,u=>u=Value.ref a
 |.ty n,u=>u=Value.type n
abbrev bN:ZL->ZU->Prop:=Paired RelV
theorem bN.length{xs:ZL}{us:ZU}(r:bN xs us):xs.length=us.length:=Paired.length r
theorem bN.get:∀{xs:ZL}{us:ZU}{i:Nat}{x:V},bN xs us->xs[i]?=some x->∃u,us[i]?=some u/\RelV x u
 |_,_,_,_,.nil,e=>by simp at e
 |_,_,0,_,.cons r _,e=>by simp at e;subst e;exact⟨_,rfl,r⟩
 |_,_,i+1,x,.cons _ t,e=>by
  obtain⟨u,h1,aa⟩:=bN.get (i:=i) (x:=x) t (by simpa using e);exact⟨u,by simpa using h1,aa⟩
theorem bN.set{x:V}{u:SZ}(r:RelV x u):∀{xs:ZL}{us:ZU}(i:Nat),bN xs us->bN (xs.set i x) (us.set i u)
 |_,_,_,.nil=>.nil
 |_,_,0,.cons _ t=>.cons r t
 |_,_,i+1,.cons q t=>.cons q (bN.set r i t)
theorem bN.append:∀{xs ys:ZL}{us fZ:ZU},bN xs us->bN ys fZ->bN (xs++ys) (us++fZ)
 |_,_,_,_,.nil,s=>s
 |_,_,_,_,.cons r t,s=>.cons r (bN.append t s)
theorem bN.take:∀{xs:ZL}{us:ZU}(n:Nat),bN xs us->bN (xs.take n) (us.take n)
 |_,_,0,_=>.nil
 |_,_,_+1,.nil=>.nil
 |_,_,n+1,.cons r t=>.cons r (bN.take n t)
theorem bN.drop:∀{xs:ZL}{us:ZU}(n:Nat),bN xs us->bN (xs.drop n) (us.drop n)
 |_,_,0,r=>r
 |_,_,_+1,.nil=>.nil
 |_,_,n+1,.cons _ t=>bN.drop n t
def oQ:Option V->Option SZ->Prop
 |some v,some u=>RelV v u
 |none,none=>True
 |_,_=>False
def zn{κ:Type}:List (κ×V)->List (κ×SZ)->Prop:=Paired λ(p:κ×V)(q:κ×SZ)=>p.1=q.1/\RelV p.2 q.2
def kV:iu->V
 |.inl i=>.int i
 |.inr x=>.str x
inductive eg where
 |lst (xs:ZL)
 |tup (xs:ZL)
 |dK (kvs:List (iu×V))|dT (kvs:List (List iu×V))
 |set (S:Int->Bool) (n:Nat)
 |ins (C fv:TI) (fs:List (Str×V))
 |own (x:TI)
 |xd (fs:List (Str×V))
 |met (f x:TI)
 |rng (lo hi:Int)
 |frz (o:Obj) (u:eg)
 |tbl (ps:Array SZ)
 |ext (φ:XB->Prop)
abbrev am:=TI->Option eg
def upd(H:am)(a:TI)(o:eg):am:=λb=>if b=a then some o else H b
theorem d9{H:am}{a:TI}{o:eg}:upd H a o a=some o:=by unfold upd;rw[Tk rfl]
theorem bV{H:am}{a b:TI}{o:eg}(h:b≠a):upd H a o b=H b:=by unfold upd;rw[Tl h]
theorem hm{H:am}{a b:TI}{o:eg}(h:H a=some o)(h':H b=none):a≠b:=by
 intro e;subst e;rw[h]at h';cases h'
def KC(H:am)(h:XB)(a:TI)(ps:Array SZ):Prop:=∃bz:Array SZ,h.get? a=some {cls:=.none,data:=.fields bz}/\TriplesOk bz.toList /\
 ∀pos cv,YO pos bz.toList=some cv->∃c oc u vs q t t',cv=.ref c/\H c=some (.frz oc u)/\oc.data=.fields vs/\vs[1]?=some (.str q t)/\ps[0]?=some (.str q t')
def zo(K:Su):List (TI×Str):=K.filterMap λp=>match p with
 | (b,⟨.none,_,.fields vs,_⟩)=>(match vs.toList with|[.ref P,.str q _]=>if b=Uf then some (P,q)else none|_=>none)
 |_=>none
def oR(K:Su)(H:am):Prop:=∀p∈zo K,∃ps t,H p.1=some (.tbl ps)/\ps[0]?=some (.str p.2 t)
section
variable(P:WF)(w:Xx)
def gl(H:am)(h:XB)(a:TI):eg->Prop
 |.lst xs=>xs.length<=TT/\∃(its:ZU)(n:Nat),bN xs its/\h.get? a=some {cls:=.type "list",data:=.seq its.toArray n}
 |.tup xs=>xs.length<=TT/\∃its:ZU,bN xs its/\IsTup h a its.toArray
 |.dK kvs=>kvs.length<=TT/\(a==XH)=false/\∃vs,zn kvs vs/\h.DictOf (zm P w) a vs
 |.dT kvs=>kvs.length<=TT/\(a==XH)=false/\∃xs:List (List iu×TI×SZ),
   Paired (λ(p:List iu×V)(q:List iu×TI×SZ)=>p.1=q.1/\H q.2.1=some (.tup (p.1.map kV))/\RelV p.2 q.2.2) kvs xs /\
   ∃o es a0,h.get? a=some o/\o.ExactDict/\o.data=.dict es a0/\es.toList=xs.map (Zk (tupleKind (zm P w)))/\(xs.map (·.1)).Nodup
 |.set S n=>h.SetOf (Zl P w) a S n
 |.ins C fv fs=>H fv=some (.own a)/\fs.length<=1000/\fv≠a/\h.get? a=some (VC C fv) /\
   ∃gx,h.Ns1 fv gx/\(∀f,oQ (fs.lookup f) (gx f))/\PySem.Within gx (fs.map (·.1))
 |.own _=>∃o,h.get? a=some o
 |.xd fs=>∃gx,h.Ns1 a gx/\∀f,oQ (fs.lookup f) (gx f)
 |.rng lo hi=>∃t u v,h.get? a=some {cls:=.type "range",data:=.fields #[.int lo t,.int hi u,.int 1 v]}
 |.frz o u=>h.get? a=some o/\gl H h a u
 |.tbl ps=>KC H h a ps
 |.met f x=>h.get? a=some (VD (.ref f) (.ref x))
 |.ext φ=>φ h/\(∃o,h.get? a=some o)/\∀h1 aa:XB,φ h1->(∀o,h1.get? a=some o->aa.get? a=some o)->φ aa
def e7(H:am)(h:XB):Prop:=∀a o,H a=some o->gl P w H h a o
end
section
variable{P:WF}{w:Xx}{H ak:am}{h h':XB}{a:TI}{o:eg}
theorem gl.lt(x:gl P w H h a o):a<h.objs.size:=by
 cases o with
 |lst xs=>obtain⟨_,_,_,_,e⟩:=x;exact Heap.lt_size e
 |tup xs=>obtain⟨_,_,_,p⟩:=x;exact p.lt
 |dK kvs=>obtain⟨_,_,_,_,o,_,_,e,_⟩:=x;exact Heap.lt_size e
 |dT kvs=>obtain⟨_,_,_,_,o,_,_,e,_⟩:=x;exact Heap.lt_size e
 |set S n=>obtain⟨o,_,_,_,e,_⟩:=x;exact Heap.lt_size e
 |ins C fv fs=>obtain⟨_,_,_,e,_⟩:=x;exact Heap.lt_size e
 |own y=>obtain⟨_,e⟩:=x;exact Heap.lt_size e
 |xd fs=>obtain⟨_,⟨_,_,_,e,_⟩,_⟩:=x;exact Heap.lt_size e
 |rng lo hi=>obtain⟨_,_,_,e⟩:=x;exact Heap.lt_size e
 |frz bO u=>obtain⟨e,_⟩:=x;exact Heap.lt_size e
 |tbl ps=>obtain⟨_,e,_⟩:=x;exact Heap.lt_size e
 |met f y=>exact Heap.lt_size (show h.get? a=some _ from x)
 |ext φ=>obtain⟨_,⟨_,e⟩,_⟩:=x;exact Heap.lt_size e
theorem Paired.mapP{α β:Type}{F G:α->β->Prop}:∀{DP:List α}{l₂:List β},Paired F DP l₂->(∀a b,F a b->G a b)->Paired G DP l₂
 |_,_,.nil,_=>.nil
 |_,_,.cons r t,f=>.cons (f _ _ r) (Paired.mapP t f)
theorem gl.stay(x:gl P w H h a o)(k:∀b u,(b=a\/H b=some (.own a))->h.get? b=some u->h'.get? b=some u)(ax:∀b,H b=some (.own a)->ak b=some (.own a))(aR:∀b xs,H b=some (.tup xs)->ak b=some (.tup xs))(bD:∀b bO u,H b=some (.frz bO u)->ak b=some (.frz bO u)):gl P w ak h' a o:=by
 induction o with
 |lst xs=>obtain⟨z,its,n,r,e⟩:=x;exact⟨z,its,n,r,k _ _ (.inl rfl) e⟩
 |tup xs=>obtain⟨z,its,r,bO,e,c⟩:=x;exact⟨z,its,r,bO,k _ _ (.inl rfl) e,c⟩
 |dK kvs=>obtain⟨z,y,vs,r,bO,es,a0,e,c⟩:=x;exact⟨z,y,vs,r,bO,es,a0,k _ _ (.inl rfl) e,c⟩
 |dT kvs=>
  obtain⟨z,y,xs,r,bO,es,a0,e,c⟩:=x;exact⟨z,y,xs,Paired.mapP r λp q z=>⟨z.1,aR _ _ z.2.1,z.2.2⟩,bO,es,a0,k _ _ (.inl rfl) e,c⟩
 |set S n=>obtain⟨bO,es,a0,t,e,c⟩:=x;exact⟨bO,es,a0,t,k _ _ (.inl rfl) e,c⟩
 |ins C fv fs=>
  obtain⟨d,z,ne,e,gx,⟨od,es,a0,ar,c⟩,r⟩:=x;exact⟨ax _ d,z,ne,k _ _ (.inl rfl) e,gx,⟨od,es,a0,k _ _ (.inr d) ar,c⟩,r⟩
 |own y=>obtain⟨bO,e⟩:=x;exact⟨bO,k _ _ (.inl rfl) e⟩
 |xd fs=>obtain⟨gx,⟨od,es,a0,e,c⟩,r⟩:=x;exact⟨gx,⟨od,es,a0,k _ _ (.inl rfl) e,c⟩,r⟩
 |rng lo hi=>obtain⟨t,u,v,e⟩:=x;exact⟨t,u,v,k _ _ (.inl rfl) e⟩
 |frz bO u b9=>obtain⟨e,q⟩:=x;exact⟨k _ _ (.inl rfl) e,b9 q⟩
 |tbl ps=>
  obtain⟨bz,e,hn,g⟩:=x;refine⟨bz,k _ _ (.inl rfl) e,hn,λpos cv hc=>?_⟩;obtain⟨c,oc,u,vs,q,t,t',ai,ar,bb⟩:=g pos cv hc;exact⟨c,oc,u,vs,q,t,t',ai,bD _ _ _ ar,bb⟩
 |met f y=>
  have e:h.get? a=some (VD (.ref f) (.ref y)):=x;show h'.get? a=some (VD (.ref f) (.ref y))
  exact k a _ (.inl rfl) e
 |ext φ=>obtain⟨p,⟨o,e⟩,st⟩:=x;exact⟨st _ _ p λo q=>k _ _ (.inl rfl) q,⟨o,k _ _ (.inl rfl) e⟩,st⟩
theorem e7.lt(x:e7 P w H h)(e:H a=some o):a<h.objs.size:=(x a o e).lt
theorem e7.fresh(x:e7 P w H h)(e:h.objs.size<=a):H a=none:=by
 cases q:H a with
 |none=>rfl
 |some u=>exact absurd (S8 (x.lt q) e) (TU _)
theorem e7.kept(x:e7 P w H h)(k:∀b u,h.get? b=some u->h'.get? b=some u):e7 P w H h':=λa o e=>
 (x a o e).stay (λb u _ q=>k b u q) (λ_ q=>q) (λ_ _ q=>q) λ_ _ _ q=>q
theorem e7.laid(x:e7 P w H h)(k:∀b u,h.get? b=some u->h'.get? b=some u)(ag:h.objs.size<=a)(new:gl P w (upd H a o) h' a o):e7 P w (upd H a o) h':=λb u e=>by
 have aO:=x.fresh ag;by_cases ae:b=a
 ·subst ae;rw[d9]at e;cases e;exact new
 rw[bV ae]at e;exact(x b u e).stay (λc v _ q=>k c v q) (λc q=>by rw[bV (hm q aO)];exact q) (λc xs q=>by rw[bV (hm q aO)];exact q) λc bO u q=>by rw[bV (hm q aO)];exact q
end
def Rd(H:am)(a:TI)(u:eg):Prop:=H a=some u\/∃o,H a=some (.frz o u)
theorem Rd.ok{P:WF}{w:Xx}{H:am}{h:XB}{a:TI}{u:eg}(r:Rd H a u)(x:e7 P w H h):gl P w H h a u:=by
 rcases r with r|⟨o,r⟩
 ·exact x a u r
 obtain⟨_,q⟩:=x a _ r;exact q
def vk:Option eg->Prop
 |some (.lst _)=>True
 |some (.dK _)=>True
 |some (.dT _)=>True
 |some (.set _ _)=>True
 |some (.ins _ _ _)=>True
 |some (.ext _)=>True
 |_=>False
section
variable{P:WF}{w:Xx}{H:am}{h h':XB}{x e:TI}{fJ:eg}
theorem e7.write(ok:e7 P w H h)(mu:vk (H x))(aD:e=x\/H e=some (.own x))(k:∀b u,b≠e->h.get? b=some u->h'.get? b=some u)(rA:∃u,h'.get? e=some u)(new:gl P w (upd H x fJ) h' x fJ):e7 P w (upd H x fJ) h':=λb u q=>by
 have DQ:∀c y,H c=some (.own y)->c≠x:=λc y r z=>by subst z;rwa[r]at mu
 have KD:∀c xs,H c=some (.tup xs)->c≠x:=λc xs r z=>by subst z;rwa[r]at mu
 have KF:∀c bO u,H c=some (.frz bO u)->c≠x:=λc bO u r z=>by subst z;rwa[r]at mu
 by_cases ae:b=x
 ·subst ae;rw[d9]at q;cases q;exact new
 rw[bV ae]at q;by_cases p7:b=e
 ·have ho:H b=some (.own x):=by
   rcases aD with z|z
   ·exact absurd (p7.trans z) ae
   rw[p7];exact z
  rw[q]at ho;cases ho;obtain⟨v,aL⟩:=rA;exact⟨v,by rw[p7];exact aL⟩
 refine(ok b u q).stay (λc v hc r=>k c v ?_ r) (λc r=>by rw[bV (DQ c b r)];exact r) (λc xs r=>by rw[bV (KD c xs r)];exact r) λc bO u r=>by rw[bV (KF c bO u r)];exact r
 rcases hc with rfl|hc
 ·exact p7
 rintro rfl;rcases aD with z|z
 ·exact DQ c b hc z
 rw[hc]at z;cases z;exact ae rfl
end
structure f0 (fs ex:ZV) (H ak:am) (h h':XB):Prop where
 keep:∀b o,h.get? b=some o->H b=none->b∉fs->b∉ex->h'.get? b=some o
 slot:∀b o,h.get? b=some o->H b=none->b∈fs->b∉ex->∃sl,h'.get? b=some {o with slots:=sl}
 free:∀b o,h.get? b=some o->H b=none->b∉ex->ak b=none
 there:∀b o,h.get? b=some o->b∉ex->∃fJ,h'.get? b=some fJ
 tups:∀b xs,H b=some (.tup xs)->ak b=some (.tup xs)
 frzs:∀b o u,H b=some (.frz o u)->ak b=some (.frz o u)
 tbls:∀b ps,H b=some (.tbl ps)->∃more,ak b=some (.tbl (ps++more))
section
variable{fs KG ex ags:ZV}{H au aS:am}{h h1 aa h':XB}{a x e:TI}{o:eg}
theorem f0.any(u:f0 fs ex H au h h1){b:TI}{bO:Obj}(q:h.get? b=some bO)(n:H b=none)(al:b∉ex):∃sl,h1.get? b=some {bO with slots:=sl}:=by
 by_cases ae:b∈fs
 ·exact u.slot b bO q n ae al
 exact⟨bO.slots,u.keep b bO q n ae al⟩
theorem f0.kept(k:∀b u,h.get? b=some u->h'.get? b=some u):f0 fs ex H H h h':=
 ⟨λb bO q _ _ _=>k b bO q,λb bO q _ _ _=>⟨bO.slots,k b bO q⟩,λ_ _ _ n _=>n,λb bO q _=>⟨bO,k b bO q⟩,λ_ _ q=>q,λ_ _ _ q=>q,λ_ ps q=>⟨#[],by rw[q];simp⟩⟩
theorem f0.refl:f0 fs ex H H h h:=f0.kept λ_ _ q=>q
theorem f0.laid(k:∀b u,h.get? b=some u->h'.get? b=some u)(ag:h.objs.size<=a)(aO:H a=none):f0 fs ex H (upd H a o) h h' where
 keep:=λb u q _ _ _=>k b u q
 slot:=λb u q _ _ _=>⟨u.slots,k b u q⟩
 free:=λb u q n _=>by rw[bV (S3 (S8 (Heap.lt_size q) ag))];exact n
 there:=λb u q _=>⟨u,k b u q⟩
 tups:=λb xs q=>by rw[bV (hm q aO)];exact q
 frzs:=λb u xs q=>by rw[bV (hm q aO)];exact q
 tbls:=λb ps q=>⟨#[],by rw[bV (hm q aO),q];simp⟩
theorem f0.write(mu:vk (H x))(aD:e=x\/H e=some (.own x))(k:∀b u,b≠e->h.get? b=some u->h'.get? b=some u)(rA:∃u,h'.get? e=some u):f0 fs ex H (upd H x o) h h':=by
 have al:∀b,H b=none->b≠x:=λb n z=>by subst z;rwa[n]at mu
 have ae:∀b,H b=none->b≠e:=λb n z=>by
  subst z;rcases aD with r|r
  ·exact al b n r
  rw[n]at r;cases r
 have aA:∀b u,H b=some u->¬vk (some u)->b≠x:=λb u q j' z=>by subst z;rw[q]at mu;exact j' mu
 refine⟨λb u q n _ _=>k b u (ae b n) q,λb u q n _ _=>⟨u.slots,k b u (ae b n) q⟩,λb u q n _=>by rw[bV (al b n)];exact n,λb u q _=>?_,
  λb xs q=>by rw[bV (aA b _ q λz=>z)];exact q,λb u xs q=>by rw[bV (aA b _ q λz=>z)];exact q,λb ps q=>⟨#[],by rw[bV (aA b _ q λz=>z),q];simp⟩⟩
 by_cases p7:b=e
 ·subst p7;exact rA
 exact⟨u,k b u p7 q⟩
end
def vl(h:XB)(H:am):List TI:=(S4 h.objs.size).filter λa=>(H a).isSome
def nO(h:XB)(H:am):XB:=PySem.W.hideAll h (vl h H)
theorem KH(h:XB)(H:am):(nO h H).objs.size=h.objs.size:=PySem.W.hideAll_size _ _
theorem KI{h:XB}{H:am}{b:TI}{o:Obj}(e:h.get? b=some o)(n:H b=none):(nO h H).get? b=some o:=
 PySem.W.hideAll_get _ e λaA=>by
  have q:(H b).isSome=true:=(TN.mp aA).2;rw[n]at q;simp at q
theorem KJ{h:XB}{H:am}{b:TI}{o:Obj}(e:(nO h H).get? b=some o):h.get? b=some o/\H b=none:=by
 have bv:h.get? b=some o:=PySem.W.of_hideAll (vl h H) e;refine⟨bv,?_⟩;cases q:H b with
 |none=>rfl
 |some x=>
  have aA:b∈vl h H:=TN.mpr ⟨TB.mpr (Heap.lt_size bv),by simp[q]⟩;have z:(nO h H).get? b=none:=PySem.W.hideAll_none (vl h H) aA;rw[z]at e;cases e
structure Mod (K:Su) (mg:Str->Option SZ) (base:XB):Prop where
 kin:K.In base
 glob:base.Ns Uf mg
 blt:∃gU,base.Ns XW gU/\∀x:Str,x≠"__name__"->gU x=XK x
 nolimit:base.NoLimit
structure aU where
 prog:WF
 w:Xx
 K:Su
 mg:Str->Option SZ
 base:XB
 A:Xy
 N:ZT
 s₀:TD
 H₀:am
 env:Env
 outer:List Env
 stack:List Env
 ex:ZV
 fn:Str->Bool
 calm:Bool
 pn:ZY
 xe:SZ->TD->Prop
abbrev kI(X:aU)(p:Pos)(es:ZW):Prop:=((X8 p (UV es X.env)).all (λx => !x.1)&&(backToKw p (keywordEach [] X.env)).all (λx=>x.1.isSome)&&decide (es.length+([]:List Keyword).length+(if([]:List Keyword).isEmpty then 0 else 1)<30))=true
abbrev eQ(X:aU)(e:WP)(es:ZW):Prop:=UV (e::es) X.env=(false,Yl e X.env)::UV es X.env
abbrev ed(x:Str):Prop:=(x==("__debug__":Str))=false
abbrev gV(x:Str):Prop:=(x==("__classdict__":Str))=false
abbrev iO(X:aU)(x:Str):Prop:=X.fn x=true\/X.env.scope.names.lookup x=some .local
abbrev iv(X:aU)(o:WP)(x:Str):Prop:=attributeBase o x X.env (Yl o X.env)=Yl o X.env
abbrev g8(X:aU)(p:Pos)(es:ZW):Prop:=(X8 p (UV es X.env)).any (·.1)=false
abbrev iw(p q:Pos):Prop:=(p.endLine==q.line)=true
abbrev gG(X:aU)(i:Nat)(x:Str):Prop:=X.N[i]?=some x
def frs(l:List Env):List TI:=l.filterMap (·.frame)
abbrev aU.fs(X:aU):List TI:=frs X.outer
def gy(sc:XV)(x:Str):Prop:=sc.names.lookup x=some .local\/sc.names.lookup x=some .cell\/sc.names.lookup x=some .free
def Loc(sc:XV)(x:Str):Prop:=sc.names.lookup x=some .local\/sc.names.lookup x=some .cell
def Look(env:Env)(h:XB)(m:Str->Option SZ)(x:Str)(u:SZ):Prop:=
 (env.kindOf x=some .local/\m x=some u)\/((env.kindOf x=some .cell\/env.kindOf x=some .free)/\∃c,env.cells.lookup x=some c/\h.IsCell c (some u))
structure aU.Ok (X:aU):Prop where
 mod:Mod X.K X.mg X.base
 kind:X.env.scope.kind=.function
 glob:X.env.globals=Uf
 blt:X.env.builtins=XW
 above:X.s₀.heap.objs.size<=X.env.locals
 inj:∀x y c,X.env.cells.lookup x=some c->X.env.cells.lookup y=some c->x=y
 has:∀x,(X.env.kindOf x=some .cell\/X.env.kindOf x=some .free)->∃c,X.env.cells.lookup x=some c
 cab:∀x c,X.fn x=true->X.env.cells.lookup x=some c->X.s₀.heap.objs.size<=c
 hd:X.calm=true->X.A.handled=none
 frames:X.A.frames=some X.stack
 stk:X.stack=X.outer\/(X.stack=X.env::X.outer/\X.env.frame=some X.env.locals)
 exf:∀b∈X.ex,b≠X.env.locals/\∀x c,X.env.cells.lookup x=some c->c≠b
 bs:∀b o,X.base.get? b=some o->X.s₀.heap.get? b=some o/\X.H₀ b=none
 bsz:X.base.objs.size<=X.s₀.heap.objs.size
 noex:∀b o,X.base.get? b=some o->b∉X.ex
 exfs:∀b∈X.ex,b∉X.fs
 funs:X.s₀.heap.FunFrames X.base X.outer
 frf:∀b∈X.fs,X.H₀ b=none
 tab:oR X.K X.H₀
structure Inv (X:aU) (aj:ZY) (σ:List (Option V)) (H:am) (s:TD):Prop where
 ok:X.Ok
 os:s.os=X.s₀.os
 bare:YQ s.gens
 base:f0 X.fs X.ex X.H₀ H X.s₀.heap s.heap
 loc:∃m,s.heap.Ns X.env.locals m/\∀(i:Nat)(x:Str)(v:V),X.N[i]?=some x->σ[i]?=some (some v)->gy X.env.scope x->∃u,RelV v u/\Look X.env s.heap m x u
 cell:∀x c,X.env.cells.lookup x=some c->∃v,s.heap.IsCell c v
 free:H X.env.locals=none
 freeC:∀x c,X.env.cells.lookup x=some c->H c=none
 pin:∀p∈X.pn++aj,s.heap.get? p.1=some p.2/\H p.1=none/\p.1≠X.env.locals/\p.1∉X.fs/\∀v,p.2.data≠.cell v
 hok:e7 X.prog X.w H s.heap
 len:σ.length=X.N.length
section
variable{X:aU}{aj:ZY}{σ:List (Option V)}{H ak:am}{s:TD}{h':XB}
theorem aU.Ok.nofr(ok:X.Ok){b:TI}{o:Obj}(e:X.base.get? b=some o):b∉X.fs:=λae=>by
 have:=(ok.funs.mem ae).1;rw[e]at this;cases this
theorem Inv.bs(I:Inv X aj σ H s):∀b o,X.base.get? b=some o->s.heap.get? b=some o/\H b=none:=λb o e=>
 ⟨I.base.keep b o (I.ok.bs b o e).1 (I.ok.bs b o e).2 (I.ok.nofr e) (I.ok.noex b o e),I.base.free b o (I.ok.bs b o e).1 (I.ok.bs b o e).2 (I.ok.noex b o e)⟩
theorem Inv.bk(I:Inv X aj σ H s):∀b o,X.base.get? b=some o->s.heap.get? b=some o:=λb o e=>(I.bs b o e).1
theorem oR.grow{K:Su}{H ak:am}(x:oR K H)(g:∀b ps,H b=some (.tbl ps)->∃more,ak b=some (.tbl (ps++more))):oR K ak:=λp ag=>by
 obtain⟨ps,t,e,q⟩:=x p ag;obtain⟨more,bv⟩:=g _ _ e;refine⟨_,t,bv,?_⟩
 have:0<ps.size:=by
  rcases Wq ps.size with z|z
  ·rw[VE (by lia)]at q;cases q
  exact z
 rw[Array.getElem?_append_left this];exact q
theorem Inv.tabs(I:Inv X aj σ H s):oR X.K H:=I.ok.tab.grow I.base.tbls
theorem Inv.mod(I:Inv X aj σ H s):Mod X.K X.mg X.base:=I.ok.mod
theorem Inv.kIn(I:Inv X aj σ H s):X.K.In s.heap:=I.ok.mod.kin.keeps I.bk
theorem Inv.nolimit(I:Inv X aj σ H s):s.heap.NoLimit:=I.ok.mod.nolimit.keeps I.bk
theorem Inv.lt(I:Inv X aj σ H s):X.env.locals<s.heap.objs.size:=let⟨_,aO,_⟩:=I.loc;aO.lt
theorem Inv.sz(I:Inv X aj σ H s):X.s₀.heap.objs.size<=s.heap.objs.size:=SD I.ok.above (UC I.lt)
theorem Inv.nofs(I:Inv X aj σ H s){a:TI}(h:s.heap.objs.size<=a):a∉X.fs:=λae=>by
 obtain⟨_,o,ax,_⟩:=I.ok.funs.mem ae;exact absurd (S8 (Heap.lt_size ax) (SD I.sz h)) (TU _)
theorem Inv.cne(I:Inv X aj σ H s):∀x c,X.env.cells.lookup x=some c->c≠X.env.locals:=λx c e z=>by
 obtain⟨v,o,ax,hd⟩:=I.cell x c e;obtain⟨m,⟨fJ,es,a0,mS,p8,_⟩,_⟩:=I.loc;rw[z,mS]at ax;cases ax;rw[p8]at hd;cases hd
theorem Inv.funs(I:Inv X aj σ H s):s.heap.FunFrames X.base X.outer:=by
 have all:∀(l:List Env),(∀b∈frs l,b∈X.fs)->X.s₀.heap.FunFrames X.base l->s.heap.FunFrames X.base l:=by
  intro l;induction l with
  |nil=>intro _ _;trivial
  |cons env r b9=>
   intro av ap;obtain⟨ah,⟨L,o,bD,aO,ax,hd⟩,ao⟩:=ap;have bI:L∈X.fs:=av L (by unfold frs;rw[VF,bD];exact Sw);obtain⟨sl,e⟩:=I.base.slot L o ax (I.ok.frf L bI) bI λz=>I.ok.exfs L z bI;exact⟨ah,⟨L,_,bD,aO,e,hd⟩,b9 (λb ae=>av b (by unfold frs;rw[VF,bD];exact Sy _ ae)) ao⟩
 exact all X.outer (λ_ ae=>ae) I.ok.funs
theorem Inv.stack(I:Inv X aj σ H s):s.heap.FunFrames X.base X.stack:=by
 rcases I.ok.stk with e|⟨e,bD⟩
 ·rw[e];exact I.funs
 rw[e];obtain⟨m,aO,_⟩:=I.loc;refine .cons (by rw[I.ok.kind];decide) bD aO ?_ I.funs;exact Heap.get?_none_of_le (SD I.ok.bsz I.ok.above)
theorem Inv.stkSub(I:Inv X aj σ H s):∀b∈frs X.stack,b∈X.env.locals::X.fs:=λb ae=>by
 rcases I.ok.stk with e|⟨e,bD⟩
 ·rw[e]at ae;exact Sy _ ae
 rw[e]at ae;unfold frs at ae;rwa[VF,bD]at ae
theorem Inv.stkFree(I:Inv X aj σ H s):∀b∈frs X.stack,H b=none:=λb ae=>by
 rcases SG.mp (I.stkSub b ae)with e|ae
 ·rw[e];exact I.free
 obtain⟨_,o,ax,_⟩:=I.ok.funs.mem ae;exact I.base.free b o ax (I.ok.frf b ae) λz=>I.ok.exfs b z ae
theorem Inv.step{g':Array GenState}{t':Nat}{d':Drawn}{ch:ZV}(I:Inv X aj σ H s)(mT:∀b∈ch,(b∈X.ex\/X.s₀.heap.objs.size<=b)/\b≠X.env.locals/\(∀x c,X.env.cells.lookup x=some c->c≠b)/\∀p∈X.pn++aj,p.1≠b)(keep:∀b o,b≠X.env.locals->b∉X.fs->b∉ch->s.heap.get? b=some o->H b=none->h'.get? b=some o)(slot:∀b o,b≠X.env.locals->b∈X.fs->b∉ch->s.heap.get? b=some o->H b=none->∃sl,h'.get? b=some {o with slots:=sl})(free:∀b o,b∉ch->s.heap.get? b=some o->H b=none->ak b=none)(there:∀b o,b∉ch->s.heap.get? b=some o->∃fJ,h'.get? b=some fJ)(tups:∀b xs,H b=some (.tup xs)->ak b=some (.tup xs))(frzs:∀b o u,H b=some (.frz o u)->ak b=some (.frz o u))(tbls:∀b ps,H b=some (.tbl ps)->∃more,ak b=some (.tbl (ps++more)))(ns:∀m,s.heap.Ns X.env.locals m->h'.Ns X.env.locals m)(hok:e7 X.prog X.w ak h')(aF:YQ g'):
  Inv X aj σ ak {s with heap:=h',gens:=g',drawn:=d',toks:=t' }:=by
 have DR:∀b o,X.s₀.heap.get? b=some o->b≠X.env.locals:=λb o e=>S3 (S8 (Heap.lt_size e) I.ok.above)
 have vm:∀b o,X.s₀.heap.get? b=some o->b∉X.ex->b∉ch:=λb o e al ae=>by
  rcases(mT b ae).1 with z|z
  ·exact al z
  exact absurd (S8 (Heap.lt_size e) z) (TU _)
 have cellK:∀x c,X.env.cells.lookup x=some c->∀v,s.heap.IsCell c v->h'.IsCell c v:=λx c e v ⟨o,ax,hd⟩=>by
  have sZ:c∉ch:=λz=>(mT c z).2.2.1 x c e rfl;by_cases hc:c∈X.fs
  ·obtain⟨sl,q⟩:=slot c o (I.cne x c e) hc sZ ax (I.freeC x c e);exact⟨_,q,hd⟩
  exact⟨o,keep c o (I.cne x c e) hc sZ ax (I.freeC x c e),hd⟩
 refine⟨I.ok,I.os,aF,⟨λb o e n ae al=>?_,λb o e n ae al=>?_,λb o e n al=>?_,λb o e al=>?_,λb xs e=>tups b xs (I.base.tups b xs e),λb o xs e=>frzs b o xs (I.base.frzs b o xs e),λb ps e=>?_⟩,?_,λx c e=>?_,?_,λx c e=>?_,λp ag=>?_,hok,I.len⟩
 ·exact keep b o (DR b o e) ae (vm b o e al) (I.base.keep b o e n ae al) (I.base.free b o e n al)
 ·obtain⟨sl,ai⟩:=I.base.slot b o e n ae al;obtain⟨KL,ar⟩:=slot b _ (DR b o e) ae (vm b o e al) ai (I.base.free b o e n al);exact⟨KL,ar⟩
 ·obtain⟨fJ,ai⟩:=I.base.there b o e al;exact free b fJ (vm b o e al) ai (I.base.free b o e n al)
 ·obtain⟨fJ,ai⟩:=I.base.there b o e al;exact there b fJ (vm b o e al) ai
 ·obtain⟨a7,ai⟩:=I.base.tbls b ps e;obtain⟨a5,ar⟩:=tbls b _ ai;exact⟨a7++a5,by rw[ar,Array.append_assoc]⟩
 ·obtain⟨m,aO,ap⟩:=I.loc;refine⟨m,ns m aO,λi x v ai ar bb=>?_⟩;obtain⟨u,r,l⟩:=ap i x v ai ar bb;refine⟨u,r,?_⟩;rcases l with l|⟨k,c,e,z⟩
  ·exact .inl l
  exact .inr ⟨k,c,e,cellK x c e _ z⟩
 ·obtain⟨v,z⟩:=I.cell x c e;exact⟨v,cellK x c e v z⟩
 ·obtain⟨m,⟨o,_,_,ax,_⟩,_⟩:=I.loc;exact free _ o (λz=>(mT _ z).2.1 rfl) ax I.free
 ·obtain⟨v,o,ax,hd⟩:=I.cell x c e;exact free c o (λz=>(mT c z).2.2.1 x c e rfl) ax (I.freeC x c e)
 obtain⟨e,n,ne,oS,d⟩:=I.pin p ag;have sZ:p.1∉ch:=λz=>(mT p.1 z).2.2.2 p ag rfl;exact⟨keep p.1 p.2 ne oS sZ e n,free p.1 p.2 sZ e n,ne,oS,d⟩
theorem Inv.un{t':Nat}(I:Inv X aj σ H s)(u:f0 X.fs [] H ak s.heap h')(hok:e7 X.prog X.w ak h'):Inv X aj σ ak {s with heap:=h',toks:=t' }:=by
 obtain⟨m,⟨o,es,a0,ax,r⟩,_⟩:=id I.loc;obtain⟨sl,bI⟩:=u.any ax I.free (by simp)
 exact I.step (g':=s.gens) (d':=s.drawn) (ch:=[]) (λ_ z=>nomatch z) (λb o _ ae _ e n=>u.keep b o e n ae (by simp)) (λb o _ ae _ e n=>u.slot b o e n ae (by simp)) (λb o _ e n=>u.free b o e n (by simp)) (λb o _ e=>u.there b o e (by simp)) u.tups u.frzs u.tbls (λdH aA=>by
  obtain⟨fJ,nQ,gn,mS,dn⟩:=aA;rw[ax]at mS;cases mS
  exact⟨_,nQ,gn,bI,dn⟩) hok I.bare
theorem Inv.call{g':Array GenState}{t':Nat}{d':Drawn}{ch:ZV}(I:Inv X aj σ H s)(u:f0 (frs X.stack) ch H ak s.heap h')(hok:e7 X.prog X.w ak h')(aF:YQ g')(mT:∀b∈ch,(b∈X.ex\/X.s₀.heap.objs.size<=b)/\b≠X.env.locals/\(∀x c,X.env.cells.lookup x=some c->c≠b)/\∀p∈X.pn++aj,p.1≠b):
  Inv X aj σ ak {s with heap:=h',gens:=g',drawn:=d',toks:=t' }:=by
 obtain⟨m,⟨o,es,a0,ax,r⟩,_⟩:=id I.loc;obtain⟨sl,bI⟩:=u.any ax I.free λz=>(mT _ z).2.1 rfl
 exact I.step (ch:=ch) mT (λb o bI ae hc e n=>u.keep b o e n (λz=>(SG.mp (I.stkSub b z)).elim bI ae) hc) (λb o _ _ hc e n=>u.any e n hc) (λb o hc e n=>u.free b o e n hc) (λb o hc e=>u.there b o e hc) u.tups u.frzs u.tbls (λdH aA=>by
  obtain⟨fJ,nQ,gn,mS,dn⟩:=aA;rw[ax]at mS;cases mS
  exact⟨_,nQ,gn,bI,dn⟩) hok aF
theorem Inv.turned{t':Nat}{it:TI}(I:Inv X aj σ H s)(k:∀b o,b≠it->s.heap.get? b=some o->h'.get? b=some o)(aO:H it=none)(bI:it≠X.env.locals)(h1:it∈X.ex\/X.s₀.heap.objs.size<=it)(aa:∀x c,X.env.cells.lookup x=some c->c≠it)(aH:∀p∈X.pn++aj,p.1≠it):Inv X aj σ H {s with heap:=h',toks:=t' }:=by
 have mU:∀b u,H b=some u->b≠it:=λb u e z=>by rw[z,aO]at e;cases e
 refine I.step (g':=s.gens) (d':=s.drawn) (ch:=[it]) (λb ae=>?_) (λb o _ _ hc e _=>k b o (λz=>hc (by simp[z])) e) (λb o _ _ hc e _=>⟨o.slots,k b o (λz=>hc (by simp[z])) e⟩) (λ_ _ _ _ n=>n)
  (λb o hc e=>⟨o,k b o (λz=>hc (by simp[z])) e⟩) (λ_ _ e=>e) (λ_ _ _ e=>e) (λb ps e=>⟨#[],by rw[e];simp⟩) (λm aA=>?_) (λb u e=>?_) I.bare
 ·have e:b=it:=by simpa using ae
  subst e;exact⟨h1,bI,aa,aH⟩
 ·obtain⟨o,es,a0,ax,r⟩:=aA;exact⟨o,es,a0,k _ o (Ta bI) ax,r⟩
 refine(I.hok b u e).stay (λc v hc q=>k c v ?_ q) (λ_ q=>q) (λ_ _ q=>q) λ_ _ _ q=>q;rcases hc with z|z
 ·rw[z];exact mU b u e
 exact mU c _ z
theorem Inv.tok(I:Inv X aj σ H s)(t:Nat):Inv X aj σ H {s with toks:=t}:=I.un (h':=s.heap) (t':=t) f0.refl I.hok
theorem Inv.kept{t':Nat}(I:Inv X aj σ H s)(k:∀b u,s.heap.get? b=some u->h'.get? b=some u):Inv X aj σ H {s with heap:=h',toks:=t' }:=I.un (f0.kept k) (I.hok.kept k)
theorem Inv.laid{a:TI}{o:eg}{t':Nat}(I:Inv X aj σ H s)(k:∀b u,s.heap.get? b=some u->h'.get? b=some u)(ag:s.heap.objs.size<=a)(new:gl X.prog X.w (upd H a o) h' a o):
  Inv X aj σ (upd H a o) {s with heap:=h',toks:=t' }:=I.un (f0.laid k ag (I.hok.fresh ag)) (I.hok.laid k ag new)
theorem Inv.write{x e:TI}{o:eg}{t':Nat}(I:Inv X aj σ H s)(mu:vk (H x))(aD:e=x\/H e=some (.own x))(k:∀b u,b≠e->s.heap.get? b=some u->h'.get? b=some u)(rA:∃u,h'.get? e=some u)(new:gl X.prog X.w (upd H x o) h' x o):Inv X aj σ (upd H x o) {s with heap:=h',toks:=t' }:=I.un (f0.write mu aD k rA) (I.hok.write mu aD k rA new)
theorem Inv.pins_of{DS:ZY}(I:Inv X aj σ H s)(h:∀p∈DS,s.heap.get? p.1=some p.2/\H p.1=none/\p.1≠X.env.locals/\p.1∉X.fs/\∀v,p.2.data≠.cell v):Inv X DS σ H s:=
 ⟨I.ok,I.os,I.bare,I.base,I.loc,I.cell,I.free,I.freeC,λp ag=>(SK.mp ag).elim (λz=>I.pin p (TC _ z)) (h p),I.hok,I.len⟩
theorem DT{N:ZT}(bF:N.Nodup){i j:Nat}{x:Str}(a:N[i]?=some x)(b:N[j]?=some x):i=j:=by
 obtain⟨h1,ai⟩:=TJ.mp a;obtain⟨aa,ar⟩:=TJ.mp b;exact(List.getElem_inj bF).mp (ai.trans ar.symm)
theorem KM{M:Model}{A:Xy}{E:SZ->TD->Prop}{i:Nat}{x:Str}{v:V}{u:SZ}{Q:Unit->TD->Prop}(I:Inv X aj σ H s)(bF:X.N.Nodup)(hi:X.N[i]?=some x)(al:Loc X.env.scope x)(r:RelV v u)(h:∀s',Inv X aj (σ.set i (some v)) H s'->(∃a,Heap.SameBut a s.heap s'.heap/\(a=X.env.locals\/X.env.cells.lookup x=some a))->Q () s')(bD:iO X x:=by walk_at"f"):wpAny M A (storeName X.env x u) Q E s:=by
 obtain⟨m,aO,ap⟩:=id I.loc;have KN:(X.env.scope.kind==.class||(X.env.scope.kind==.module&&X.env.locals != X.env.globals))=false:=by rw[I.ok.kind];rfl
 have DU:i<σ.length:=by rw[I.len];exact(TJ.mp hi).1
 have cne:=I.cne
 have tracked:∀{a:TI}{h':XB},(∃o,s.heap.get? a=some o/\H a=none)->Heap.SameBut a s.heap h'->e7 X.prog X.w H h':=λ{a h'} aw av b bO e=>by
  obtain⟨_,_,DV⟩:=aw;refine(I.hok b bO e).stay (λc l3 hc q=>(av.2 c ?_).trans q) (λ_ q=>q) (λ_ _ q=>q) λ_ _ _ q=>q;rintro rfl;rcases hc with rfl|hc
  ·rw[DV]at e;cases e
  rw[DV]at hc;cases hc
 rcases al with ah|ah
 ·refine wpAny_storeName_local ah aO (λh' KO av=>?_) KN;obtain⟨KP,_,_,KQ,_⟩:=id aO;refine h _ ⟨I.ok,I.os,I.bare,⟨λb o e n ae al=>?_,λb o e n ae al=>?_,I.base.free,λb o e al=>?_,I.base.tups,I.base.frzs,I.base.tbls⟩,⟨_,KO,λj y nR ai ar bb=>?_⟩,λy c e=>?_,I.free,I.freeC,λp ag=>?_,tracked ⟨KP,KQ,I.free⟩ av,by simpa using I.len⟩ ⟨_,av,.inl rfl⟩
  ·exact(av.2 b (S3 (S8 (Heap.lt_size e) I.ok.above))).trans (I.base.keep b o e n ae al)
  ·obtain⟨sl,ai⟩:=I.base.slot b o e n ae al;exact⟨sl,(av.2 b (S3 (S8 (Heap.lt_size e) I.ok.above))).trans ai⟩
  ·obtain⟨fJ,ai⟩:=I.base.there b o e al;exact⟨fJ,(av.2 b (S3 (S8 (Heap.lt_size e) I.ok.above))).trans ai⟩
  ·by_cases bC:j=i
   ·subst bC;rw[hi]at ai;cases ai;rw[TK DU]at ar;cases ar;exact⟨u,r,.inl ⟨ah,by simp⟩⟩
   rw[TF (Ta bC)]at ar;obtain⟨fi,dn,q⟩:=ap j y nR ai ar bb;refine⟨fi,dn,?_⟩;rcases q with⟨k,e⟩|⟨k,c,e,z⟩
   ·refine .inl ⟨k,?_⟩;have:y≠x:=λe=>bC (DT bF ai (e▸hi));simp[this,e]
   exact .inr ⟨k,c,e,z.sameBut av (cne y c e)⟩
  ·obtain⟨l3,z⟩:=I.cell y c e;exact⟨l3,z.sameBut av (cne y c e)⟩
  obtain⟨e,n,ne,oS,d⟩:=I.pin p ag;exact⟨(av.2 p.1 ne).trans e,n,ne,oS,d⟩
 have zp:X.fn x=true:=by
  rcases bD with z|z
  ·exact z
  rw[z]at ah;cases ah
 obtain⟨c,hc⟩:=I.ok.has x (.inl ah);obtain⟨l3,z⟩:=I.cell x c hc;refine wpAny_storeName_cell I.ok.kind ah hc z (λh' vn av=>?_);obtain⟨oc,rB,KR⟩:=id z;refine h {s with heap:=h' } ⟨I.ok,I.os,I.bare,⟨λb o e n ae al=>?_,λb o e n ae al=>?_,I.base.free,λb o e al=>?_,I.base.tups,I.base.frzs,I.base.tbls⟩,⟨m,aO.sameBut av (Ta (cne x c hc)),λj y nR ai ar bb=>?_⟩,λy c' e=>?_,I.free,I.freeC,λp ag=>?_,tracked ⟨oc,rB,I.freeC x c hc⟩ av,by simpa using I.len⟩ ⟨c,av,.inr hc⟩
 ·exact(av.2 b (S3 (S8 (Heap.lt_size e) (I.ok.cab x c zp hc)))).trans (I.base.keep b o e n ae al)
 ·obtain⟨sl,ai⟩:=I.base.slot b o e n ae al;exact⟨sl,(av.2 b (S3 (S8 (Heap.lt_size e) (I.ok.cab x c zp hc)))).trans ai⟩
 ·obtain⟨fJ,ai⟩:=I.base.there b o e al;exact⟨fJ,(av.2 b (S3 (S8 (Heap.lt_size e) (I.ok.cab x c zp hc)))).trans ai⟩
 ·by_cases bC:j=i
  ·subst bC;rw[hi]at ai;cases ai;rw[TK DU]at ar;cases ar;exact⟨u,r,.inr ⟨.inl ah,c,hc,vn⟩⟩
  rw[TF (Ta bC)]at ar;obtain⟨fi,dn,q⟩:=ap j y nR ai ar bb;refine⟨fi,dn,?_⟩;rcases q with q|⟨k,c',e,f9⟩
  ·exact .inl q
  refine .inr ⟨k,c',e,f9.sameBut av ?_⟩;rintro rfl;exact bC (DT bF ai (I.ok.inj _ _ _ e hc▸hi))
 ·by_cases DW:c'=c
  ·subst DW;exact⟨_,vn⟩
  obtain⟨fQ,a8⟩:=I.cell y c' e;exact⟨fQ,a8.sameBut av DW⟩
 obtain⟨e,n,ne,oS,d⟩:=I.pin p ag;refine⟨(av.2 p.1 ?_).trans e,n,ne,oS,d⟩;intro q;rw[q,rB]at e;have ho:oc=p.2:=SO e;exact d l3 (by rw[<-ho];exact KR)
theorem rC{M:Model}{A:Xy}{E:SZ->TD->Prop}{i:Nat}{x:Str}{v:V}{u:SZ}{Q:Unit->TD->Prop}(I:Inv X aj σ H s)(bF:X.N.Nodup)(hi:X.N[i]?=some x)(al:Loc X.env.scope x)(r:RelV v u)(h:∀s',Inv X aj (σ.set i (some v)) H s'->Q () s')(bD:iO X x:=by walk_at"f"):wpAny M A (storeName X.env x u) Q E s:=
 KM I bF hi al r (λs' mV _=>h s' mV) bD
theorem Inv.call'{s':TD}{ch:ZV}(I:Inv X aj σ H s)(ax:s'.os=s.os)(u:f0 (frs X.stack) ch H ak s.heap s'.heap)(hok:e7 X.prog X.w ak s'.heap)(aF:YQ s'.gens)(mT:∀b∈ch,(b∈X.ex\/X.s₀.heap.objs.size<=b)/\b≠X.env.locals/\(∀x c,X.env.cells.lookup x=some c->c≠b)/\∀p∈X.pn++aj,p.1≠b):Inv X aj σ ak s':=by
 obtain⟨h',g',d',t',fJ⟩:=s';have e:fJ=s.os:=ax;subst e;exact I.call (g':=g') (t':=t') (d':=d') u hok aF mT
end
abbrev gW:=SZ->Option TI->am->Prop
abbrev St:=List (Option V)
abbrev cq:=V->am->Prop
abbrev bK:=St->am->cq->Prop
abbrev ee:=St->am->(Bool->am->Prop)->Prop
abbrev e8:=St->am->(ZL->am->Prop)->Prop
structure nS where
 nx:St->am->Prop
 rt:cq
 bk:St->am->Prop:=λ_ _=>False
 ct:St->am->Prop:=λ_ _=>False
abbrev gX:=nS->St->am->Prop
def gY(X:aU)(aj:ZY)(σ:St)(Q:cq)(u:SZ)(s':TD):Prop:=∃v ak,Inv X aj σ ak s'/\RelV v u/\Q v ak
def vo(X:aU)(aj:ZY)(σ:St)(Q:Bool->am->Prop)(b:Bool)(s':TD):Prop:=∃ak,Inv X aj σ ak s'/\Q b ak
def KS(X:aU)(aj:ZY)(σ:St)(Q:ZL->am->Prop)(us:ZU)(s':TD):Prop:=∃vs ak,Inv X aj σ ak s'/\bN vs us/\Q vs ak
def rD(X:aU)(aj:ZY)(D:nS)(f:Flow)(s':TD):Prop:=
 match f with
 |.next=>∃bm ak,Inv X aj bm ak s'/\D.nx bm ak
 |.brk=>∃bm ak,Inv X aj bm ak s'/\D.bk bm ak
 |.cont=>∃bm ak,Inv X aj bm ak s'/\D.ct bm ak
 |.ret u=>∃v bm ak,Inv X aj bm ak s'/\RelV v u/\D.rt v ak
def bY(X:aU)(e:WP)(t:bK):Prop:=
 ∀(aj:ZY)(s:TD)(σ:St)(H:am)(Q:cq),Inv X aj σ H s->t σ H Q->wpAny (Wp X.prog X.w) X.A (Yl e X.env) (gY X aj σ Q) X.xe s
def jH(X:aU)(e:WP)(t:ee):Prop:=
 ∀(aj:ZY)(s:TD)(σ:St)(H:am)(Q:Bool->am->Prop),Inv X aj σ H s->t σ H Q->wpAny (Wp X.prog X.w) X.A (Zb e X.env (Yl e X.env)) (vo X aj σ Q) X.xe s
def nT(X:aU)(e:WP)(t:ee):Prop:=
 ∀(whole:Sem SZ)(aj:ZY)(s:TD)(σ:St)(H:am)(Q:Bool->am->Prop),Inv X aj σ H s->t σ H Q->wpAny (Wp X.prog X.w) X.A (Zb e X.env whole) (vo X aj σ Q) X.xe s
theorem nT.pt{X:aU}{e:WP}{t:ee}(h:nT X e t):jH X e t:=h _
def hp(X:aU)(es:ZW)(t:e8):Prop:=
 ∀(pos:Pos)(aj:ZY)(s:TD)(σ:St)(H:am)(Q:ZL->am->Prop),Inv X aj σ H s->t σ H Q->wpAny (Wp X.prog X.w) X.A (spliced (X8 pos (UV es X.env))) (KS X aj σ Q) X.xe s
def jg(X:aU)(st:XE)(t:gX):Prop:=
 ∀(aj:ZY)(s:TD)(σ:St)(H:am)(D:nS),Inv X aj σ H s->t D σ H->wpAny (Wp X.prog X.w) X.A (exec st X.env) (rD X aj D) X.xe s
def jh(X:aU)(st:ZX)(t:gX):Prop:=
 ∀(aj:ZY)(s:TD)(σ:St)(H:am)(D:nS),Inv X aj σ H s->t D σ H->wpAny (Wp X.prog X.w) X.A (execs st X.env) (rD X aj D) X.xe s
theorem cl{α:Type}{t:Sem α}{Q p9:α->TD->Prop}{M:Model}{A:Xy}{E:SZ->TD->Prop}{s:TD}(h:wpAny M A t Q E s)(hq:∀a s,Q a s->p9 a s):wpAny M A t p9 E s:=XG h hq λ_ _ x=>x
section
variable{X:aU}
def zq(i:Nat):bK:=λσ H Q=>∃v,σ[i]?=some (some v)/\Q v H
def p'(v:V):bK:=λ_ H Q=>Q v H
theorem g9{i:Nat}{x:Str}{pos:Pos}(bF:X.N[i]?=some x)(aL:gy X.env.scope x)(hd:ed x:=by decide)(dI:gV x:=by decide):bY X (.Name x pos) (zq i):=by
 intro aj s σ H Q I h;obtain⟨v,e,h⟩:=h;obtain⟨m,aO,ap⟩:=I.loc;obtain⟨u,r,l⟩:=ap i x v bF e aL;have e9:gY X aj σ Q u s:=⟨v,H,I,r,h⟩;rcases l with⟨ah,aA⟩|⟨ah,c,hc,vp⟩
 ·exact wpAny_Name (Y0 I.ok.kind ah aO aA e9) hd
 rcases ah with ah|ah
 ·exact wpAny_Name (Y9 I.ok.kind ah hc vp e9) hd
 exact wpAny_Name (wpAny_loadName_free I.ok.kind ah hc vp e9 dI) hd
theorem fw{i j pos}:bY X (.Constant (.int i) j pos) (p' (.int i)):=λ_ _ _ H _ I h=>wpAny_Constant_int ⟨.int i,H,I.tok _,⟨_,rfl⟩,h⟩
theorem KT{b j pos}:bY X (.Constant (.bool b) j pos) (p' (.bl b)):=λ_ _ _ H _ I h=>Constant_bool ⟨.bl b,H,I,rfl,h⟩
theorem KU{x j pos}:bY X (.Constant (.str x) j pos) (p' (.str x)):=λ_ _ _ H _ I h=>Calls.Constant_str ⟨.str x,H,I.tok _,⟨_,rfl⟩,h⟩
def eD(X:aU)(x:Str):Prop:=X.env.kindOf x=some .globalImplicit
theorem DX{E:SZ->TD->Prop}{aj:ZY}{s:TD}{σ:St}{H:am}{x:Str}{u:SZ}{pos:Pos}{Q:SZ->TD->Prop}(I:Inv X aj σ H s)(aF:eD X x)(aA:X.mg x=some u)(h:Q u s)(hd:ed x:=by decide):wpAny (Wp X.prog X.w) X.A (Yl (.Name x pos) X.env) Q E s:=
 Calls.Name_function_global I.ok.kind aF (Calls.loadGlobal_global (by rw[I.ok.glob];exact I.mod.glob.keeps I.bk) aA h) hd
theorem nU{E:SZ->TD->Prop}{aj:ZY}{s:TD}{σ:St}{H:am}{x:Str}{u:SZ}{pos:Pos}{Q:SZ->TD->Prop}(I:Inv X aj σ H s)(aF:eD X x)(aA:X.mg x=none)(aL:XK x=some u)(h:Q u s)(aO:x≠"__name__":=by decide)(hd:ed x:=by decide):wpAny (Wp X.prog X.w) X.A (Yl (.Name x pos) X.env) Q E s:=by
 obtain⟨gU,h1,aa⟩:=I.mod.blt;exact Calls.Name_function_global I.ok.kind aF (Calls.loadGlobal_builtin (by rw[I.ok.glob];exact I.mod.glob.keeps I.bk) aA (by rw[I.ok.blt];exact h1.keeps I.bk) ((aa x aO).trans aL) h) hd
theorem KV{x:Str}{v:V}{u:SZ}{pos:Pos}(aF:eD X x)(aA:X.mg x=some u)(r:RelV v u)(hd:ed x:=by decide):bY X (.Name x pos) (p' v):=
 λ_ _ _ H _ I h=>DX I aF aA ⟨v,H,I,r,h⟩ hd
theorem nV{x:Str}{v:V}{u:SZ}{pos:Pos}(aF:eD X x)(aA:X.mg x=none)(aL:XK x=some u)(r:RelV v u)(aO:x≠"__name__":=by decide)(hd:ed x:=by decide):bY X (.Name x pos) (p' v):=
 λ_ _ _ H _ I h=>nU I aF aA aL ⟨v,H,I,r,h⟩ aO hd
variable{a b:WP}{bL tb:bK}{pos:Pos}
def s1(t:bK):ee:=λσ H Q=>t σ H λx au=>∃c,x=.bl c/\Q c au
theorem KW{e:WP}{t:bK}(h:bY X e t)(aD:∀whole,Zb e X.env whole=(do let v <-whole;YR e.pos;Yv [v] (ZA v)):=by intro _;rfl):jH X e (s1 t):=by
 intro aj s σ H Q I hw;refine isTrue_plain (cl (h aj s σ H _ I hw) λv aC ⟨x,au,a',aq,aM⟩=>?_) (aD _);obtain⟨d,rfl,q⟩:=aM;cases aq;exact XD ⟨au,a',q⟩
variable{lq vq:ee}{rest:ZW}
def DY(t u:ee):ee:=λσ H Q=>t σ H λc au=>if c=true then u σ au Q else Q false au
def DZ(t u:ee):ee:=λσ H Q=>t σ H λc au=>if c=true then Q true au else u σ au Q
def D0(t:ee):ee:=λσ H Q=>t σ H λc au=>Q (!c) au
theorem KX(aw:jH X a lq):nT X (.BoolOp .And [a] pos) lq:=by
 intro wh aj s σ H Q I h;refine isTrue_and (cl (aw aj s σ H Q I h) λc aC e=>?_);cases c with
 |true=>exact isTrue_and_nil e
 |false=>exact e
theorem KY(aw:jH X a lq):nT X (.BoolOp .Or [a] pos) lq:=by
 intro wh aj s σ H Q I h;refine isTrue_or (cl (aw aj s σ H Q I h) λc aC e=>?_);cases c with
 |false=>exact isTrue_or_nil e
 |true=>exact e
theorem KZ(aw:jH X a lq)(ae:nT X (.BoolOp .And (b::rest) pos) vq):nT X (.BoolOp .And (a::b::rest) pos) (DY lq vq):=by
 intro wh aj s σ H Q I h;refine isTrue_and (cl (aw aj s σ H _ I h) λc aC ⟨au,a',aM⟩=>?_);cases c with
 |true=>exact ae wh aj aC σ au Q a' aM
 |false=>exact⟨au,a',aM⟩
theorem K0(aw:jH X a lq)(ae:nT X (.BoolOp .Or (b::rest) pos) vq):nT X (.BoolOp .Or (a::b::rest) pos) (DZ lq vq):=by
 intro wh aj s σ H Q I h;refine isTrue_or (cl (aw aj s σ H _ I h) λc aC ⟨au,a',aM⟩=>?_);cases c with
 |true=>exact⟨au,a',aM⟩
 |false=>exact ae wh aj aC σ au Q a' aM
theorem K1(aw:jH X a lq):jH X (.UnaryOp .Not a pos) (D0 lq):=by
 intro aj s σ H Q I h;exact isTrue_not (aw aj s σ H (λc au=>Q (!c) au) I h)
def K2(bL tb:bK):bK:=λσ H Q=>bL σ H λx au=>∃c,x=.bl c/\if c=true then tb σ au Q else Q (.bl false) au
def K3(bL:bK):bK:=λσ H Q=>bL σ H λx au=>∃c,x=.bl c/\Q (.bl (!c)) au
theorem K4{op}{t:bK}(h:bY X a t):bY X (.BoolOp op [a] pos) t:=λaj s σ H Q I hw=>BoolOp_one (h aj s σ H Q I hw)
theorem K5(aw:bY X a bL)(ae:bY X (.BoolOp .And (b::rest) pos) tb):bY X (.BoolOp .And (a::b::rest) pos) (K2 bL tb):=by
 intro aj s σ H Q I h;refine BoolOp_and (cl (aw aj s σ H _ I h) λv aC ⟨x,au,a',aq,aM⟩=>?_);obtain⟨c,rfl,aM⟩:=aM;cases aq;refine XD ?_;cases c with
 |true=>exact ae aj aC σ au Q a' aM
 |false=>exact⟨.bl false,au,a',rfl,aM⟩
theorem K6(aw:bY X a bL):bY X (.UnaryOp .Not a pos) (K3 bL):=by
 intro aj s σ H Q I h;refine UnaryOp_ (cl (aw aj s σ H _ I h) λv aC ⟨x,au,a',aq,aM⟩=>?_);obtain⟨c,rfl,aM⟩:=aM;cases aq;exact not_of (XD ⟨.bl (!c),au,a',rfl,aM⟩)
def K7(t:ee)(bL tb:bK):bK:=λσ H Q=>t σ H λc au=>if c=true then bL σ au Q else tb σ au Q
theorem K8{c:WP}(hc:jH X c lq)(aw:bY X a bL)(ae:bY X b tb):bY X (.IfExp c a b pos) (K7 lq bL tb):=by
 intro aj s σ H Q I h;refine wpAny_IfExp (cl (hc aj s σ H _ I h) λd aC ⟨au,a',aM⟩=>?_);cases d with
 |true=>exact aw aj aC σ au Q a' aM
 |false=>exact ae aj aC σ au Q a' aM
end
def cN(K:Su)(H:am)(a:TI)(xs:ZL):Prop:=
 Rd H a (.lst xs) \/
  ∃(o:Obj)(its:Array SZ)(n:Nat),K.lookup a=some o/\o.cls=.type "list"/\o.dict=none/\o.data=.seq its n/\its.size<=TT/\bN xs its.toList
def eX(K:Su)(H:am)(a:TI)(xs:ZL):Prop:=
 Rd H a (.tup xs) \/
  ∃(o:Obj)(its:Array SZ)(n:Nat),K.lookup a=some o/\o.cls=.type "tuple"/\o.data=.seq its n/\its.size<=TT/\bN xs its.toList
def K9:SZ->Option V
 |.none=>some .non
 |.bool b=>some (.bl b)
 |.int i _=>some (.int i)
 |.str x _=>some (.str x)
 |.bytes b _=>some (.byt b)
 |.float b _=>some (.flt b)
 |.ref a=>some (.ref a)
 |.type n=>some (.ty n)
 |_=>none
theorem RelV.abs{x:V}{u:SZ}(r:RelV x u):K9 u=some x:=by
 cases x with
 |non=>cases r;rfl
 |bl _=>cases r;rfl
 |int _=>obtain⟨t,rfl⟩:=r;rfl
 |str _=>obtain⟨t,rfl⟩:=r;rfl
 |byt _=>obtain⟨t,rfl⟩:=r;rfl
 |flt _=>obtain⟨t,rfl⟩:=r;rfl
 |ref _=>cases r;rfl
 |ty _=>cases r;rfl
theorem RelV.inj{x y:V}{u:SZ}(r:RelV x u)(q:RelV y u):x=y:=SO (r.abs.symm.trans q.abs)
theorem bN.inj:∀{xs ys:ZL}{us:ZU},bN xs us->bN ys us->xs=ys
 |_,_,_,.nil,.nil=>rfl
 |_,_,_,.cons r t,.cons dn t'=>by rw[r.inj dn,bN.inj t t']
section
variable{X:aU}{aj:ZY}{σ:St}{H:am}{s:TD}{a:TI}{xs ys:ZL}
theorem cN.of{K:Su}(h:H a=some (.lst xs)):cN K H a xs:=.inl (.inl h)
theorem eX.of{K:Su}(h:H a=some (.tup xs)):eX K H a xs:=.inl (.inl h)
theorem Inv.list(I:Inv X aj σ H s)(h:cN X.K H a xs):∃its:ZU,bN xs its/\PlainL s.heap a its.toArray/\xs.length<=TT:=by
 rcases h with h|⟨o,its,n,ah,hc,hd,av,hz,r⟩
 ·obtain⟨z,its,n,r,e⟩:=h.ok I.hok;exact⟨its,r,⟨_,n,e,rfl,rfl,rfl⟩,z⟩
 refine⟨its.toList,r,⟨o,n,I.kIn a o ah,hc,hd,by simpa using av⟩,?_⟩;have e:=r.length;simp only[UU]at e;lia
theorem Inv.tuple(I:Inv X aj σ H s)(h:eX X.K H a xs):∃its:ZU,bN xs its/\IsTup s.heap a its.toArray/\xs.length<=TT:=by
 rcases h with h|⟨o,its,n,ah,hc,av,hz,r⟩
 ·obtain⟨z,its,r,p⟩:=h.ok I.hok;exact⟨its,r,p,z⟩
 refine⟨its.toList,r,⟨o,I.kIn a o ah,hc,n,by simpa using av⟩,?_⟩;have e:=r.length;simp only[UU]at e;lia
theorem Inv.list_inj(I:Inv X aj σ H s)(h:cN X.K H a xs)(h':cN X.K H a ys):xs=ys:=by
 obtain⟨its,r,⟨o,n,e,_,_,d⟩,_⟩:=I.list h;obtain⟨its',dn,⟨fJ,ka,bv,_,_,d'⟩,_⟩:=I.list h';rw[e]at bv;cases bv;rw[d]at d';injection d' with b7 _
 have:its=its':=by simpa using UF Array.toList b7
 subst this;exact r.inj dn
theorem Inv.tuple_inj(I:Inv X aj σ H s)(h:eX X.K H a xs)(h':eX X.K H a ys):xs=ys:=by
 obtain⟨its,r,⟨o,e,_,n,d⟩,_⟩:=I.tuple h;obtain⟨its',dn,⟨fJ,bv,_,ka,d'⟩,_⟩:=I.tuple h';rw[e]at bv;cases bv;rw[d]at d';injection d' with b7 _
 have:its=its':=by simpa using UF Array.toList b7
 subst this;exact r.inj dn
end
abbrev aU.wish(X:aU)(E:SZ->TD->Prop):aU:={X with xe:=E}
abbrev aU.nox(X:aU):aU:=X.wish λ_ _=>False
theorem aU.Ok.wish{X:aU}(ok:X.Ok)(E:SZ->TD->Prop):(X.wish E).Ok:=
 ⟨ok.mod,ok.kind,ok.glob,ok.blt,ok.above,ok.inj,ok.has,ok.cab,ok.hd,ok.frames,ok.stk,ok.exf,ok.bs,ok.bsz,ok.noex,ok.exfs,ok.funs,ok.frf,ok.tab⟩
theorem aU.Ok.unwish{X:aU}{E:SZ->TD->Prop}(ok:(X.wish E).Ok):X.Ok:=
 ⟨ok.mod,ok.kind,ok.glob,ok.blt,ok.above,ok.inj,ok.has,ok.cab,ok.hd,ok.frames,ok.stk,ok.exf,ok.bs,ok.bsz,ok.noex,ok.exfs,ok.funs,ok.frf,ok.tab⟩
section
variable{X:aU}{aj:ZY}{σ:St}{H:am}{s:TD}{E:SZ->TD->Prop}
theorem Inv.wish(I:Inv X aj σ H s)(E:SZ->TD->Prop):Inv (X.wish E) aj σ H s:=⟨I.ok.wish E,I.os,I.bare,I.base,I.loc,I.cell,I.free,I.freeC,I.pin,I.hok,I.len⟩
theorem Inv.unwish(I:Inv (X.wish E) aj σ H s):Inv X aj σ H s:=⟨I.ok.unwish,I.os,I.bare,I.base,I.loc,I.cell,I.free,I.freeC,I.pin,I.hok,I.len⟩
theorem rD.unwish{D:nS}{f:Flow}{s':TD}(h:rD (X.wish E) aj D f s'):rD X aj D f s':=by
 cases f with
 |next=>obtain⟨bm,ak,I,q⟩:=h;exact⟨bm,ak,I.unwish,q⟩
 |brk=>obtain⟨bm,ak,I,q⟩:=h;exact⟨bm,ak,I.unwish,q⟩
 |cont=>obtain⟨bm,ak,I,q⟩:=h;exact⟨bm,ak,I.unwish,q⟩
 |ret u=>obtain⟨v,bm,ak,I,r,q⟩:=h;exact⟨v,bm,ak,I.unwish,r,q⟩
theorem jh.nox{st:ZX}{t:gX}(h:jh X.nox st t):jh X st t:=λaj s σ H D I hw=>
 XG (h aj s σ H D (I.wish _) hw) (λ_ _ q=>q.unwish) λ_ _ z=>Tp z
end
section
variable{X:aU}{st:XE}{rest:ZX}{t u:gX}{e:WP}{bW:bK}{pos:Pos}
def K':gX:=λD σ H=>D.nx σ H
def La(t u:gX):gX:=λD σ H=>t {D with nx:=u D} σ H
theorem vr:jh X [] K':=λ_ _ σ H _ I h=>Yo ⟨σ,H,I,h⟩
theorem oT(h1:jg X st t)(aa:jh X rest u):jh X (st::rest) (La t u):=by
 intro aj s σ H D I h;refine wpAny_execs_cons (cl (h1 aj s σ H {D with nx:=u D} I h) λf aC q=>?_);cases f with
 |next=>
  obtain⟨bm,ak,mV,q⟩:=q;exact aa aj aC bm ak D mV q
 |ret v=>exact q
 |brk=>exact q
 |cont=>exact q
theorem qa(h1:jg X st t):jh X [st] t:=by
 intro aj s σ H D I h;refine wpAny_execs_cons (cl (h1 aj s σ H D I h) λf aC q=>?_);cases f with
 |next=>exact Yo q
 |ret v=>exact q
 |brk=>exact q
 |cont=>exact q
theorem Inv.quiet{aj:ZY}{σ:St}{H:am}{s:TD}(I:Inv X aj σ H s):interactive X.env=false:=by simp[interactive,I.ok.kind]
def Lb(bW:bK):gX:=λD σ H=>bW σ H λ_ au=>D.nx σ au
theorem rE(aD:bY X e bW)(av:XA e none pos.line X.env=pure false:=by rfl):jg X (.Expr e pos) (Lb bW):=by
 intro aj s σ H D I h;exact wpAny_Expr_any (cl (aD aj s σ H _ I h) λv aC ⟨x,au,a',aq,aM⟩=>⟨σ,au,a',aM⟩) I.quiet av
def Lc(bW:bK):gX:=λD σ H=>bW σ H D.rt
theorem nW(aD:bY X e bW):jg X (.Return (some e) pos) (Lc bW):=by
 intro aj s σ H D I h;exact wpAny_Return_some (cl (aD aj s σ H _ I h) λv aC ⟨x,au,a',aq,aM⟩=>⟨x,σ,au,a',aq,aM⟩)
def Ld(c:ee)(t u:gX):gX:=λD σ H=>c σ H λb au=>if b=true then t D σ au else u D σ au
theorem vt{c:WP}{a b:ZX}{tc:ee}(hc:jH X c tc)(aw:jh X a t)(ae:jh X b u):jg X (.If c a b pos) (Ld tc t u):=by
 intro aj s σ H D I h;refine wpAny_If (cl (hc aj s σ H _ I h) λd aC ⟨au,a',aM⟩=>?_);cases d with
 |true=>exact aw aj aC σ au D a' aM
 |false=>exact ae aj aC σ au D a' aM
def Le:gX:=λ_ _ _=>False
theorem Lf:jg X st Le:=λ_ _ _ _ _ _ h=>h.elim
end
abbrev fR:=V->St->am->(St->am->Prop)->Prop
abbrev mW:=ZL->St->am->(St->am->Prop)->Prop
def iP(X:aU)(target:WP)(t:fR):Prop:=
 ∀(aj:ZY)(s:TD)(σ:St)(H:am)(v:V)(u:SZ)(Q:St->am->Prop),Inv X aj σ H s->RelV v u->t v σ H Q->
  wpAny (Wp X.prog X.w) X.A (Y3 target X.env u) (λ_ s'=>∃bm ak,Inv X aj bm ak s'/\Q bm ak) X.xe s
def rF(X:aU)(ts:ZW)(t:mW):Prop:=
 ∀(aj:ZY)(s:TD)(σ:St)(H:am)(vs:ZL)(us:ZU)(Q:St->am->Prop),Inv X aj σ H s->bN vs us->t vs σ H Q->
  wpAny (Wp X.prog X.w) X.A (YE ((Xz ts X.env).map (·.2)) us) (λ_ s'=>∃bm ak,Inv X aj bm ak s'/\Q bm ak) X.xe s
abbrev zr:=V->V->V->am->(am->Prop)->Prop
def D1(X:aU)(t:zr):Prop:=
 ∀(aj:ZY)(s:TD)(σ:St)(H:am)(o i v:V)(ji iQ u:SZ)(Q:am->Prop),Inv X aj σ H s->RelV o ji->RelV i iQ->RelV v u->t o i v H Q->
  wpAny (Wp X.prog X.w) X.A (setItem ji iQ u) (λ_ s'=>∃ak,Inv X aj σ ak s'/\Q ak) X.xe s
abbrev vu:=V->V->am->cq->Prop
def D2(X:aU)(op:Operator)(t:vu):Prop:=
 ∀(aj:ZY)(s:TD)(σ:St)(H:am)(x y:V)(v u:SZ)(Q:cq),Inv X aj σ H s->RelV x v->RelV y u->t x y H Q->
  wpAny (Wp X.prog X.w) X.A (inplaceOp op v u) (gY X aj σ Q) X.xe s
section
variable{X:aU}{pos:Pos}
def s2(i:Nat):fR:=λv σ H Q=>Q (σ.set i (some v)) H
theorem vv{i:Nat}{x:Str}(bF:X.N.Nodup)(hi:X.N[i]?=some x)(al:Loc X.env.scope x)(bD:iO X x:=by walk_at"f"):iP X (.Name x pos) (s2 i):=by
 intro aj s σ H v u Q I r h;exact wpAny_assign_Name (rC I bF hi al r (λs' mV=>⟨_,H,mV,h⟩) bD)
def Lg:mW:=λvs σ H Q=>vs=[]/\Q σ H
def Lh(t:fR)(u:mW):mW:=λvs σ H Q=>∃v r,vs=v::r/\t v σ H λbm ak=>u r bm ak Q
theorem D3:rF X [] Lg:=by
 intro aj s σ H vs us Q I r h;obtain⟨e,h⟩:=h;subst e;cases r;exact assignInOrder_nil ⟨σ,H,I,h⟩
theorem vw{e:WP}{es:ZW}{t:fR}{u:mW}(h1:iP X e t)(aa:rF X es u)(av:(Xz (e::es) X.env).map (·.2)=Y3 e X.env::(Xz es X.env).map (·.2):=by rfl):rF X (e::es) (Lh t u):=by
 intro aj s σ H vs us Q I r h;obtain⟨v,agt,ai,h⟩:=h;subst ai;cases r with
 |cons r f1=>
  rw[av];refine Ys (cl (h1 aj s σ H _ _ _ I r h) λ_ aC ⟨jj,au,a',aM⟩=>?_);exact aa aj aC jj au _ _ Q a' f1 aM
def Li(K:Su)(n:Nat)(t:mW):fR:=λv σ H Q=>∃a xs,v=.ref a/\eX K H a xs/\xs.length=n/\t xs σ H Q
theorem D4{es:ZW}{k:Nat}{t:mW}{n:Nat}(hc:X.calm=true)(h:rF X es t)(aO:(Xz es X.env).length=n:=by rfl)(qb:(Xz es X.env).findIdx? (·.1)=none:=by rfl):iP X (.Tuple es k pos) (Li X.K n t):=by
 intro aj s σ H v u Q I r hw;obtain⟨a,xs,ai,ay,ap,hw⟩:=hw;subst ai;cases r;obtain⟨its,b6,aR,hz⟩:=I.tuple ay;refine assign_Tuple_tuple (I.ok.hd hc) aR (by simp[aO,<-ap,b6.length]) qb λh' al=>?_;have a':Inv X aj σ H {s with heap:=h' }:=I.kept (t':=s.toks) λb o e=>al b o (S3 (Heap.lt_size e)) e;exact h aj _ σ H xs _ Q a' (by simpa using b6) hw
def Lj(to iR:bK)(t:zr):fR:=λv σ H Q=>to σ H λo au=>iR σ au λi aS=>t o i v aS λcG=>Q σ cG
theorem zs{o i:WP}{to iR:bK}{t:zr}(ax:bY X o to)(hi:bY X i iR)(av:D1 X t)(aw:∀v,Y3 (.Subscript o i pos) X.env v=(do
   let ji <-Yv [v] (Yl o X.env)
   let iQ <-Yv [v,ji] (Yl i X.env)
   YR pos
   Yv [v,ji,iQ] (setItem ji iQ v)
   release [v,ji,iQ] []):=by intro _;rfl):iP X (.Subscript o i pos) (Lj to iR t):=by
 intro aj s σ H v u Q I r h;rw[aw];refine SB (Xu (cl (ax aj s σ H _ I h) λji aC ⟨x,au,a',aq,aM⟩=>?_));refine SB (Xu (cl (hi aj aC σ au _ a' aM) λiQ bf ⟨y,aS,da,aN,a4⟩=>?_));refine SB (XX (SB (Xu (cl (av aj bf σ aS x y v ji iQ u _ da aq aN r a4) λ_ cR ⟨cG,cY,dx⟩=>?_))));exact wpAny_release ⟨σ,cG,cY,dx⟩
def vx(bW:bK)(g:fR):gX:=λD σ H=>bW σ H λx au=>g x σ au D.nx
theorem rG{bj e:WP}{bW:bK}{g:fR}(aD:bY X e bW)(aF:iP X bj g)(av:XY [bj] e pos.line X.env=pure false:=by rfl)(hw:XZ [bj] e X.env=pure none:=by rfl)(h1:(Xz [bj] X.env).map (·.2)=[Y3 bj X.env]:=by rfl):jg X (.Assign [bj] e pos) (vx bW g):=by
 intro aj s σ H D I h;refine wpAny_Assign_stores (cl (aD aj s σ H _ I h) λv aC ⟨x,au,a',aq,aM⟩=>?_) av hw;rw[h1];exact cl (aF aj aC σ au x v _ a' aq aM) λ_ bf q=>q
theorem rI{i:Nat}{x:Str}{e:WP}{bW:bK}{fx:Pos}(bF:X.N.Nodup)(hi:X.N[i]?=some x)(al:Loc X.env.scope x)(aD:bY X e bW)(av:XA e (some (.Name x fx)) pos.line X.env=pure false:=by rfl)(bD:iO X x:=by walk_at"f"):
  jg X (.Assign [.Name x fx] e pos) (vx bW (s2 i)):=by
 intro aj s σ H D I h;refine wpAny_Assign_Name (cl (aD aj s σ H _ I h) λv aC ⟨y,au,a',aq,aM⟩=>?_) av;exact rC a' bF hi al aq (λbf da=>⟨_,au,da,aM⟩) bD
def Lk(i j:Nat)(bL:e8):gX:=λD σ H=>bL σ H λvs au=>∃v w,vs=[v,w]/\D.nx ((σ.set i (some v)).set j (some w)) au
theorem D5{i j:Nat}{x y:Str}{a b:WP}{bL:e8}{px er pt:Pos}{ix cu l4}(hc:X.calm=true)(bF:X.N.Nodup)(hi:X.N[i]?=some x)(bC:X.N[j]?=some y)(l5:i≠j)(al:X.env.scope.names.lookup x=some .local)(aP:X.env.scope.names.lookup y=some .local)(aw:hp X [a,b] bL)(hw:XZ [.Tuple [.Name x px,.Name y er] ix pt] (.Tuple [a,b] cu l4) X.env=pure (some [x,y]))(av:XY [.Tuple [.Name x px,.Name y er] ix pt] (.Tuple [a,b] cu l4) pos.line X.env=pure false:=by rfl):
  jg X (.Assign [.Tuple [.Name x px,.Name y er] ix pt] (.Tuple [a,b] cu l4) pos) (Lk i j bL):=by
 intro aj s σ H D I h;rw[exec_Assign_arm];refine SB (XX ?_);rw[av];refine SB (SL ?_);rw[Tl (by decide)];refine SB (Tuple_ (cl (aw _ aj s σ H _ I h) λus aC ⟨vs,au,a',aq,aM⟩=>?_));obtain⟨v,w,ai,aM⟩:=aM;subst ai
 obtain⟨db,dV,rfl,b6,l6⟩:∃db dV,us=[db,dV]/\RelV v db/\RelV w dV:=by
  cases aq with
  |cons p q=>
   cases q with
   |cons l7 ho=>
    cases ho;exact⟨_,_,rfl,p,l7⟩
 refine W1 ?_ eW;have da:Inv X aj σ au {aC with heap:=aC.heap.push {cls:=.type "tuple",data:=.seq [db,dV].toArray} }:=a'.kept (t':=aC.toks) λb o e=>Heap.get?_push_of_some _ e;rw[hw];refine SB (SL ?_);show wpAny (Wp X.prog X.w) X.A (do rule "assign.swapped-stores";let items <-Zv (.ref aC.heap.objs.size) 2 none;YE [λv=>ZD X.env y v,λv=>ZD X.env x v] items.reverse;pure Flow.next) _ _ _;refine SB (Yb (SB (unpackItems_tuple (items :=#[db,dV]) (I.ok.hd hc) (IsTup.new aC.heap _) λh' s3=>?_)));have cY:=da.kept (h':=h') (t':=aC.toks) λb o e=>s3 b o (S3 (Heap.lt_size e)) e;show wpAny _ _ (YE [λv=>ZD X.env y v,λv=>ZD X.env x v] [dV,db] >>= λ_=>pure Flow.next) _ _ _
 refine SB (Ys (wpAny_bindName (rC cY bF bC (.inl aP) l6 (λbf oU=>?_) (.inr aP))));refine Ys (wpAny_bindName (rC oU bF hi (.inl al) b6 (λcR nX=>assignInOrder_nil (SL ?_)) (.inr al)));rw[List.set_comm _ _ (Ta l5)]at nX;exact⟨_,au,nX,aM⟩
def Ll(i:Nat)(bW:bK)(iR:vu):gX:=λD σ H=>∃x,σ[i]?=some (some x)/\bW σ H λy au=>iR x y au λz aS=>D.nx (σ.set i (some z)) aS
theorem Lm{i:Nat}{x:Str}{e:WP}{bW:bK}{op:Operator}{iR:vu}{fx:Pos}(bF:X.N.Nodup)(hi:X.N[i]?=some x)(al:Loc X.env.scope x)(aD:bY X e bW)(ax:D2 X op iR)(bD:iO X x:=by walk_at"f"):
  jg X (.AugAssign (.Name x fx) op e pos) (Ll i bW iR):=by
 intro aj s σ H D I h;obtain⟨v,ai,h⟩:=h;obtain⟨m,aO,ap⟩:=I.loc;have Ln:gy X.env.scope x:=by rcases al with k|k;exact .inl k;exact .inr (.inl k)
 obtain⟨u,r,l⟩:=ap i x v hi ai Ln;refine wpAny_AugAssign_Name ?_
 have go:wpAny (Wp X.prog X.w) X.A (Yl e X.env) (λw zt=>wpAny (Wp X.prog X.w) X.A (inplaceOp op u w) (λr Lo=>wpAny (Wp X.prog X.w) X.A (storeName X.env x r) (λ_=>rD X aj D .next) X.xe Lo) X.xe zt) X.xe s:=by
  refine cl (aD aj s σ H _ I h) λw aC ⟨y,au,a',aq,aM⟩=>?_;refine cl (ax aj aC σ au v y u w _ a' r aq aM) λz bf ⟨agu,aS,da,aN,a4⟩=>?_;exact rC da bF hi al aN (λcR cY=>⟨_,aS,cY,a4⟩) bD
 rcases l with⟨ah,aA⟩|⟨ah,c,hc,vp⟩
 ·exact Y0 I.ok.kind ah aO aA go
 rcases ah with ah|ah
 ·exact Y9 I.ok.kind ah hc vp go
 rcases al with k|k
 ·have:X.env.scope.names.lookup x=some .free:=ah;rw[k]at this;cases this
 have:X.env.scope.names.lookup x=some .free:=ah;rw[k]at this;cases this
def Lp(f:Int->Int->Int):vu:=λx y H Q=>∃i j,x=.int i/\y=.int j/\Q (.int (f i j)) H
theorem Lq:D2 X .Add (Lp λi j=>i+j):=by
 intro aj s σ H x y v u Q I aq aN h;obtain⟨i,j,ai,ar,q⟩:=h;subst ai;subst ar;obtain⟨t,rfl⟩:=aq;obtain⟨t',rfl⟩:=aN;exact iadd_int ⟨.int _,H,I.tok _,⟨_,rfl⟩,q⟩
end
section
variable{X:aU}{pos:Pos}
def Lr(c:ee)(tb:gX):gX:=λD σ H=>∃W:Nat->St->am->Prop,(∃m,W m σ H)/\∀m σ H,W m σ H->
 c σ H λb au=>if b=true then ∃N:St->am->Prop,(∀bm ak,N bm ak->∃dH,dH<m/\W dH bm ak)/\tb {D with nx:=N,ct:=N,bk:=D.nx} σ au else D.nx σ au
theorem Ls{c:WP}{body:ZX}{tc:ee}{tb:gX}(ag:Zc (Wp X.prog X.w) X.A X.env X.xe)(hc:jH X c tc)(ae:jh X body tb):jg X (.While c body [] pos) (Lr tc tb):=by
 intro aj s σ H D I h;obtain⟨W,⟨dW,w0⟩,turn⟩:=h;refine wpAny_While (codeAny_whileLoop (λn s'=>∃bm ak,Inv X aj bm ak s'/\W n bm ak) ?_ dW ⟨σ,H,I,w0⟩);rintro n aC ⟨jj,au,a',eI⟩;refine XJ ag (cl (hc aj aC jj au _ a' (turn n jj au eI)) λb bf ⟨aS,da,a4⟩=>?_);cases b with
 |true=>
  obtain⟨N,bF,a4⟩:=a4;rw[Tk rfl];refine XJ ag (cl (ae aj bf jj aS _ da a4) λf cR dx=>?_);cases f with
  |next=>
   obtain⟨gZ,cG,cY,qc⟩:=dx;obtain⟨dH,aA,lr⟩:=bF gZ cG qc;exact⟨dH,aA,gZ,cG,cY,lr⟩
  |cont=>
   obtain⟨gZ,cG,cY,qc⟩:=dx;obtain⟨dH,aA,lr⟩:=bF gZ cG qc;exact⟨dH,aA,gZ,cG,cY,lr⟩
  |brk=>exact dx
  |ret v=>exact dx
 |false=>
  rw[Tl SP];exact Yo ⟨jj,aS,da,a4⟩
end
structure ha where
 go:Nat->am->Prop
 yld:Nat->am->V->am->Prop
 stop:Nat->am->Prop
def gH(X:aU)(aj:ZY)(H:am)(b:TI):Prop:=
 H b=none/\b≠X.env.locals/\b∉X.fs/\(b∈X.ex\/X.s₀.heap.objs.size<=b)/\(∀x c,X.env.cells.lookup x=some c->c≠b)/\∀p∈X.pn++aj,p.1≠b
theorem Inv.fpOk{X:aU}{aj:ZY}{σ:St}{H ak:am}{s:TD}{b:TI}(I:Inv X aj σ H s)(ae:s.heap.objs.size<=b)(aO:ak b=none):gH X aj ak b:=by
 refine⟨aO,T5 (S8 I.lt ae),I.nofs ae,.inr (SD I.sz ae),λx c e z=>?_,λp ag z=>?_⟩
 ·obtain⟨v,q⟩:=I.cell x c e;exact absurd (S8 q.lt (by rw[z];exact ae)) (TU _)
 exact absurd (S8 (Heap.lt_size (I.pin p ag).1) (by rw[z];exact ae)) (TU _)
structure oV (P:WF) (w:Xx) (K:Su) (bj:WP) (J:ha) (cA:ZV) (it:TI) (hr:Nat->XB->Prop):Prop where
 mem:it∈cA
 obj:∀i h,hr i h->∀b∈cA,∃o,h.get? b=some o/\∀v,o.data≠.cell v
 keep:∀i h h',hr i h->(∀b∈cA,∀o,h.get? b=some o->h'.get? b=some o)->hr i h'
 item:∀(X:aU),X.prog=P->X.w=w->X.K=K->X.calm=true->∀(i:Nat)(aj:ZY)(s:TD)(σ:St)(H:am)(E:SZ->TD->Prop),Inv X aj σ H s->(∀b∈cA,gH X aj H b)->hr i s.heap->J.go i H->
  wpAny (Wp P w) X.A (YS (.ref it)) (λr aC=>∃u,r=some u /\
   wpAny (Wp P w) X.A (Yp bj (.ref it) u) (λ_ bf=>∃x ak,Inv X aj σ ak bf/\RelV x u/\J.yld i H x ak/\hr (i+1) bf.heap/\∀b∈cA,ak b=none) E aC) E s
 done:∀(X:aU),X.prog=P->X.w=w->X.K=K->X.calm=true->∀(i:Nat)(aj:ZY)(s:TD)(σ:St)(H:am)(E:SZ->TD->Prop),Inv X aj σ H s->(∀b∈cA,gH X aj H b)->hr i s.heap->J.stop i H->
  wpAny (Wp P w) X.A (YS (.ref it)) (λr aC=>r=none/\Inv X aj σ H aC) E s
 self:∀(A:Xy)(i:Nat)(s:TD)(Q:SZ->TD->Prop)(E:SZ->TD->Prop),hr i s.heap->Q (.ref it) s->wpAny (Wp P w) A (ZB (.ref it)) Q E s
abbrev gI:=St->am->(ha->am->Prop)->Prop
def D6(X:aU)(aj:ZY)(σ:St)(bj:WP)(R:ha->am->Prop)(vy:SZ)(bf:TD):Prop:=
 ∃(it:TI)(cA:ZV)(hr:Nat->XB->Prop)(J:ha)(ak:am),vy=.ref it/\Inv X aj σ ak bf/\oV X.prog X.w X.K bj J cA it hr/\hr 0 bf.heap/\(∀b∈cA,gH X aj ak b)/\R J ak
def iy(X:aU)(bj dc:WP)(et:gI):Prop:=
 ∀(aj:ZY)(s:TD)(σ:St)(H:am)(R:ha->am->Prop),Inv X aj σ H s->et σ H R->
  wpAny (Wp X.prog X.w) X.A (Yl dc X.env) (λv aC=>wpAny (Wp X.prog X.w) X.A (ZB v) (D6 X aj σ bj R) X.xe aC) X.xe s
theorem vz{M:Model}{A:Xy}{E:SZ->TD->Prop}{s:TD}{bj:WP}{it:TI}{u:SZ}{o:Obj}{n:String}{vs:Array SZ}{Q:Unit->TD->Prop}(ax:s.heap.get? it=some o)(hc:o.cls=.type n)(hd:o.data=.fields vs)(aO:["enumerate","zip","dict_itemiterator","dict_reverseitemiterator","odict_iterator","itertools.zip_longest","itertools.pairwise"].contains n=false)(hq:Q () s): wpAny M A (Yp bj (.ref it) u) Q E s:=by
  unfold Yp
  cases bj<;>first
    |exact SL hq
    | (cases u<;>first
        |exact SL hq
        | (refine SB (wpAny_load ax ?_)
           rw[hc,hd];show wpAny M A (if(["enumerate","zip","dict_itemiterator","dict_reverseitemiterator","odict_iterator","itertools.zip_longest","itertools.pairwise"].contains n&&vs[0]?==some (Y4 _))=true then _ else _) Q E s
           rw[Tl (by intro h;rw[aO,Bool.false_and]at h;cases h)]
           exact SL hq))
def zu(K:Su)(a:TI):ha:=
 ⟨λi H=>∃xs x,cN K H a xs/\xs[i]?=some x,λi H x ak=>ak=H/\∀xs,cN K H a xs->xs[i]?=some x,λi H=>∃xs,cN K H a xs/\xs.length<=i⟩
def zv(K:Su)(a:TI):ha:=
 ⟨λi H=>∃xs x,eX K H a xs/\xs[i]?=some x,λi H x ak=>ak=H/\∀xs,eX K H a xs->xs[i]?=some x,λi H=>∃xs,eX K H a xs/\xs.length<=i⟩
def rJ(lo:Int)(n:Nat):ha:=⟨λi _=>i<n,λi H x ak=>ak=H/\x=.int (lo+i),λi _=>n<=i⟩
theorem Lu{P:WF}{w:Xx}{K:Su}{bj:WP}(a it:TI):oV P w K bj (zu K a) [it] it (λi h=>h.IsListIter it a i) where
 mem:=by simp
 obj:=λi h st b ae=>by
  have e:b=it:=by simpa using ae
  subst e;obtain⟨o,e,c,d⟩:=st;exact⟨o,e,λv z=>by rw[d]at z;cases z⟩
 keep:=λi h h' st k=>st.at λo e=>k it (by simp) o e
 item:=by
  intro X eJ hw dJ hc i aj s σ H E I bD st aF;subst eJ hw dJ;obtain⟨xs,x,ay,al⟩:=aF;obtain⟨its,b6,p,hz⟩:=I.list ay;obtain⟨u,a2,hs⟩:=b6.get al;obtain⟨dL,aT,bd,bA,c7,d1⟩:=bD it (by simp);refine YK st p.isList (x:=u) (by simpa using a2) λh' jI eb=>?_;have a':Inv X aj σ H {s with heap:=h' }:=I.turned (t':=s.toks) (λb o ae e=>(eb.2 b ae).trans e) dL aT bA c7 d1;obtain⟨o,e,c,d⟩:=id jI;exact⟨u,rfl,vz (s:={s with heap:=h' }) e c d (by decide) ⟨x,H,a',hs,⟨rfl,λys aP=>by rw[I.list_inj aP ay];exact al⟩,jI,λb ae=>(bD b ae).1⟩⟩
 done:=by
  intro X eJ hw dJ hc i aj s σ H E I bD st aF;subst eJ hw dJ;obtain⟨xs,ay,al⟩:=aF;obtain⟨its,b6,p,hz⟩:=I.list ay;obtain⟨dL,aT,bd,bA,c7,d1⟩:=bD it (by simp);have ap:=b6.length;exact YT (I.ok.hd hc) st p.isList (by simp;lia) λh' fS=>⟨rfl,I.turned (t':=s.toks) (λb o ae e=>fS b o ae e) dL aT bA c7 d1⟩
 self:=λ_ _ _ _ _ st h=>wpAny_pyIter_listiter st h
theorem Lv{P:WF}{w:Xx}{K:Su}{bj:WP}(a it:TI):oV P w K bj (zv K a) [it] it (λi h=>h.IsTupleIter it a i) where
 mem:=by simp
 obj:=λi h st b ae=>by
  have e:b=it:=by simpa using ae
  subst e;obtain⟨o,e,c,d⟩:=st;exact⟨o,e,λv z=>by rw[d]at z;cases z⟩
 keep:=λi h h' st k=>st.at λo e=>k it (by simp) o e
 item:=by
  intro X eJ hw dJ hc i aj s σ H E I bD st aF;subst eJ hw dJ;obtain⟨xs,x,ay,al⟩:=aF;obtain⟨its,b6,p,hz⟩:=I.tuple ay;obtain⟨u,a2,hs⟩:=b6.get al;obtain⟨dL,aT,bd,bA,c7,d1⟩:=bD it (by simp);refine wpAny_pyNext_tuple_item st (show s.heap.IsTuple a its.toArray from p) (x:=u) (by simpa using a2) λh' jI eb=>?_;have a':Inv X aj σ H {s with heap:=h' }:=I.turned (t':=s.toks) (λb o ae e=>(eb.2 b ae).trans e) dL aT bA c7 d1;obtain⟨o,e,c,d⟩:=id jI;exact⟨u,rfl,vz (s:={s with heap:=h' }) e c d (by decide) ⟨x,H,a',hs,⟨rfl,λys aP=>by rw[I.tuple_inj aP ay];exact al⟩,jI,λb ae=>(bD b ae).1⟩⟩
 done:=by
  intro X eJ hw dJ hc i aj s σ H E I bD st aF;subst eJ hw dJ;obtain⟨xs,ay,al⟩:=aF;obtain⟨its,b6,p,hz⟩:=I.tuple ay;obtain⟨dL,aT,bd,bA,c7,d1⟩:=bD it (by simp);have ap:=b6.length;exact wpAny_pyNext_tuple_end (I.ok.hd hc) st (show s.heap.IsTuple a its.toArray from p) (by simp;lia) λh' fS=>⟨rfl,I.turned (t':=s.toks) (λb o ae e=>fS b o ae e) dL aT bA c7 d1⟩
 self:=λ_ _ _ _ _ st h=>wpAny_pyIter_tupleiter st h
theorem Lw{P:WF}{w:Xx}{K:Su}{bj:WP}(it:TI)(lo:Int)(n:Nat):oV P w K bj (rJ lo n) [it] it (λi h=>IsRangeIter h it (lo+(i:Nat)*1) ((n:Int)-(i:Nat)) 1) where
 mem:=by simp
 obj:=λi h st b ae=>by
  have e:b=it:=by simpa using ae
  subst e
  exact⟨_,st,λv z=>by
   have f9:Data.fields _=Data.cell v:=z
   cases f9⟩
 keep:=λi h h' st k=>k it (by simp) _ st
 item:=by
  intro X eJ hw dJ hc i aj s σ H E I bD st aF;subst eJ hw dJ;obtain⟨dL,aT,bd,bA,c7,d1⟩:=bD it (by simp);have W:=Walks.range (prog:=X.prog) (w:=X.w) (I.ok.hd hc) it lo 1 n;refine W.item i s _ _ aF st λv h' cZ aL jI aJ=>?_;obtain⟨t,rfl⟩:=aL;have a':Inv X aj σ H {s with heap:=h',toks:=cZ}:=I.turned (λb o ae e=>aJ b o (by simpa using ae) e) dL aT bA c7 d1;refine⟨_,rfl,vz (s:={s with heap:=h',toks:=cZ}) (n:="range_iterator") jI rfl rfl (by decide) ⟨.int (lo+i),H,a',⟨t,?_⟩,⟨rfl,rfl⟩,jI,λb ae=>(bD b ae).1⟩⟩;rw[U7]
 done:=by
  intro X eJ hw dJ hc i aj s σ H E I bD st aF;subst eJ hw dJ;obtain⟨dL,aT,bd,bA,c7,d1⟩:=bD it (by simp);exact wpAny_pyNext_range_end (I.ok.hd hc) st (by have:n<=i:=aF;lia) λh' fS=>⟨rfl,I.turned (t':=s.toks) (λb o ae e=>fS b o ae e) dL aT bA c7 d1⟩
 self:=λ_ _ _ _ _ st h=>wpAny_pyIter_rangeiter st h
section
variable{X:aU}{bj:WP}
def Lx(K:Su)(eK:bK):gI:=λσ H R=>eK σ H λx au=>∃a,x=.ref a/\(∃xs,cN K au a xs)/\R (zu K a) au
def Ly(K:Su)(eK:bK):gI:=λσ H R=>eK σ H λx au=>∃a,x=.ref a/\(∃xs,eX K au a xs)/\R (zv K a) au
theorem Lz{l:WP}{eK:bK}(ap:bY X l eK):iy X bj l (Lx X.K eK):=by
 intro aj s σ H R I h;refine cl (ap aj s σ H _ I h) λv aC ⟨x,au,a',aq,aM⟩=>?_;obtain⟨a,e,⟨xs,ay⟩,q⟩:=aM;subst e;cases aq;obtain⟨its,b6,p,hz⟩:=a'.list ay;refine Yc p.isList ?_;refine⟨aC.heap.objs.size,[aC.heap.objs.size],_,_,au,rfl,a'.kept (t':=aC.toks) λb o e=>Heap.get?_push_of_some _ e,Lu a _,⟨_,Heap.get?_push_size _ rfl,rfl,rfl⟩,λb ae=>?_,q⟩;have e:b=aC.heap.objs.size:=by simpa using ae
 subst e;exact a'.fpOk (SF _) (a'.hok.fresh (SF _))
theorem LA{l:WP}{eK:bK}(ap:bY X l eK):iy X bj l (Ly X.K eK):=by
 intro aj s σ H R I h;refine cl (ap aj s σ H _ I h) λv aC ⟨x,au,a',aq,aM⟩=>?_;obtain⟨a,e,⟨xs,ay⟩,q⟩:=aM;subst e;cases aq;obtain⟨its,b6,p,hz⟩:=a'.tuple ay;refine wpAny_pyIter_tuple (show aC.heap.IsTuple a its.toArray from p) ?_;refine⟨aC.heap.objs.size,[aC.heap.objs.size],_,_,au,rfl,a'.kept (t':=aC.toks) λb o e=>Heap.get?_push_of_some _ e,Lv a _,⟨_,Heap.get?_push_size _ rfl,rfl,rfl⟩,λb ae=>?_,q⟩;have e:b=aC.heap.objs.size:=by simpa using ae
 subst e;exact a'.fpOk (SF _) (a'.hok.fresh (SF _))
theorem D7{aj:ZY}{σ:St}{H:am}{s:TD}{R:ha->am->Prop}{E:SZ->TD->Prop}{lo hi:Int}{t u v:Tok}{cZ:Nat}(I:Inv X aj σ H s)(h1 : -(2^62)<=lo)(aa:lo<2^62)(aH : -(2^62)<=hi)(a6:hi<2^62)(q:R (rJ lo (hi-lo).toNat) H):wpAny (Wp X.prog X.w) X.A (ZB (.ref s.heap.objs.size)) (D6 X aj σ bj R) E {s with heap:=s.heap.push {cls:=.type "range",data:=.fields #[.int lo t,.int hi u,.int 1 v]},toks:=cZ}:=by
 refine wpAny_pyIter_range (IsRange.new ..) (small_one h1 aa aH a6) ?_;have a':Inv X aj σ H {s with heap:=s.heap.push {cls:=.type "range",data:=.fields #[.int lo t,.int hi u,.int 1 v]},toks:=cZ}:=I.kept λb o e=>Heap.get?_push_of_some _ e
 refine⟨(s.heap.push {cls:=.type "range",data:=.fields #[.int lo t,.int hi u,.int 1 v]}).objs.size,[(s.heap.push {cls:=.type "range",data:=.fields #[.int lo t,.int hi u,.int 1 v]}).objs.size],_,_,H,rfl,
  a'.kept (t':=cZ) λb o e=>Heap.get?_push_of_some _ e,Lw _ lo (hi-lo).toNat,?_,λb ae=>?_,q⟩
 ·have ai:lo+((0:Nat):Int)*1=lo:=by simp
  have ar:(((hi-lo).toNat:Nat):Int)-((0:Nat):Int)=Builtin.Range.rangeSize lo hi 1:=by rw[rangeSize_one];split<;>lia
  show IsRangeIter _ _ (lo+((0:Nat):Int)*1) ((((hi-lo).toNat:Nat):Int)-((0:Nat):Int)) 1
  rw[ai,ar];exact Heap.get?_push_size _ rfl
 have e:b=(s.heap.push {cls:=.type "range",data:=.fields #[.int lo t,.int hi u,.int 1 v]}).objs.size:=by simpa using ae
 subst e;exact a'.fpOk (SF _) (a'.hok.fresh (SF _))
def LB(bL:e8):gI:=λσ H R=>bL σ H λvs au=>∃j:Int,vs=[.int j] /\ -(2^62)<=j/\j<2^62/\R (rJ 0 j.toNat) au
def LC(bL:e8):gI:=λσ H R=>bL σ H λvs au=>∃i j:Int,vs=[.int i,.int j]/\(-(2^62)<=i/\i<2^62 /\ -(2^62)<=j/\j<2^62)/\R (rJ i (j-i).toNat) au
theorem LD{a:WP}{bL:e8}{p pos:Pos}(aF:eD X "range")(aA:X.mg "range"=none)(aw:hp X [a] bL)(av:UV [a] X.env=[(false,Yl a X.env)]:=by rfl):iy X bj (.Call (.Name "range" p) [a] [] pos) (LB bL):=by
 intro aj s σ H R I h;refine Call_ (nU I aF aA boot_range (UW (cl (aw pos aj s σ H _ I h) λus aC ⟨vs,au,a',aq,aM⟩=>?_) av rfl));obtain⟨j,e,aM,a4,q⟩:=aM;subst e;cases aq with
 |cons r f1=>
  cases f1;obtain⟨t,rfl⟩:=r;exact call_range_1 (D7 a' (by lia) (by lia) aM a4 (by simpa using q))
theorem LF{a b:WP}{bL:e8}{p pos:Pos}(aF:eD X "range")(aA:X.mg "range"=none)(aw:hp X [a,b] bL)(av:UV [a,b] X.env=[(false,Yl a X.env),(false,Yl b X.env)]:=by rfl)(lu:UV [b] X.env=[(false,Yl b X.env)]:=by rfl):
  iy X bj (.Call (.Name "range" p) [a,b] [] pos) (LC bL):=by
 intro aj s σ H R I h;refine Call_ (nU I aF aA boot_range (UW (cl (aw pos aj s σ H _ I h) λus aC ⟨vs,au,a',aq,aM⟩=>?_) (by rw[av,lu]) (by rw[lu];rfl)));obtain⟨i,j,e,⟨aM,a4,dx,hO⟩,q⟩:=aM;subst e;cases aq with
 |cons r f1=>
  cases f1 with
  |cons dn f1=>
   cases f1;obtain⟨t,rfl⟩:=r;obtain⟨t',rfl⟩:=dn;exact call_range_2 (D7 a' aM a4 dx hO q)
def LG(et:gI)(g:fR)(tb:gX):gX:=λD σ H=>et σ H λJ au=>∃W:Nat->Nat->St->am->Prop,(∃m,W 0 m σ au)/\∀i m σ H,W i m σ H->
 (J.stop i H/\D.nx σ H)\/(J.go i H/\∃N:St->am->Prop,(∀bm ak,N bm ak->∃dH,dH<m/\W (i+1) dH bm ak)/\∀x ak,J.yld i H x ak->g x σ ak λmX aS=>tb {D with nx:=N,ct:=N,bk:=D.nx} mX aS)
def s4(cA:ZV)(h:XB):List (TI×Obj):=cA.filterMap λb=>(h.get? b).map λo=>(b,o)
theorem vA{cA:ZV}{h:XB}{b:TI}{o:Obj}(ae:b∈cA)(e:h.get? b=some o):(b,o)∈s4 cA h:=T6.mpr ⟨b,ae,by rw[e];rfl⟩
theorem LH{cA:ZV}{h:XB}{p:TI×Obj}(ag:p∈s4 cA h):p.1∈cA/\h.get? p.1=some p.2:=by
 obtain⟨b,ae,e⟩:=T6.mp ag;cases q:h.get? b with
 |none=>rw[q]at e;cases e
 |some o=>
  rw[q]at e;have bv:(b,o)=p:=SO e;subst bv;exact⟨ae,q⟩
theorem Inv.pinned{aj:ZY}{σ:St}{H:am}{s:TD}{cA:ZV}(I:Inv X aj σ H s)(bD:∀b∈cA,gH X aj H b)(ax:∀b∈cA,∃o,s.heap.get? b=some o/\∀v,o.data≠.cell v):Inv X (aj++s4 cA s.heap) σ H s:=
 I.pins_of λp ag=>(SK.mp ag).elim (λz=>I.pin p (S5 _ z)) λz=>by
  obtain⟨ae,e⟩:=LH z;obtain⟨dL,aT,bd,_⟩:=bD p.1 ae;obtain⟨o,bv,d⟩:=ax p.1 ae;rw[e]at bv;cases bv;exact⟨e,dL,aT,bd,d⟩
theorem Inv.unpinned{aj cr:ZY}{σ:St}{H:am}{s:TD}(I:Inv X (aj++cr) σ H s):Inv X aj σ H s:=I.pins_of λp ag=>I.pin p (S5 _ (TC _ ag))
theorem D8{dc:WP}{body:ZX}{et:gI}{g:fR}{tb:gX}{pos:Pos}(ag:Zc (Wp X.prog X.w) X.A X.env X.xe)(hc:X.calm=true)(hi:iy X bj dc et)(aF:iP X bj g)(ae:jh X body tb)(av:∀x,Xr dc X.env x=pure x:=by intro _;rfl):jg X (.For bj dc body [] pos) (LG et g tb):=by
 intro aj s σ H D I h;refine wpAny_For (cl (hi aj s σ H _ I h) λv aC h1=>cl h1 λvy bf aa=>?_) av;obtain⟨it,cA,hr,J,aS,e,da,T,mY,bd,W,⟨dW,w0⟩,turn⟩:=aa;subst e;have nY:∀{ak:am},(∀b∈cA,ak b=none)->∀b∈cA,gH X aj ak b:=λaO b ae=>⟨aO b ae,(bd b ae).2⟩;refine codeAny_forLoop_any (λn s'=>∃i bm ak,Inv X aj bm ak s'/\hr i s'.heap/\(∀b∈cA,ak b=none)/\W i n bm ak) ?_ dW ⟨0,σ,aS,da,mY,λb ae=>(bd b ae).1,w0⟩;rintro n cR ⟨i,gZ,cG,cY,D9,D',lr⟩;rcases turn i n gZ cG lr with⟨stop,Ea⟩|⟨go,N,bF,step⟩
 ·refine XJ ag (cl (T.done X rfl rfl rfl hc i aj cR gZ cG X.xe cY (nY D') D9 stop) λr nZ ⟨ao,oU⟩=>?_);subst ao;exact Yo ⟨gZ,cG,oU,Ea⟩
 refine XJ ag (cl (T.item X rfl rfl rfl hc i aj cR gZ cG X.xe cY (nY D') D9 go) λr nZ ⟨u,ao,a6⟩=>?_);subst ao;refine XJ ag (cl a6 λ_ mZ ⟨x,gq,nX,LI,LJ,rK,vB⟩=>?_);have LK:=nX.pinned (nY vB) (T.obj _ _ rK);refine XJ ag (cl (aF _ mZ gZ gq x u _ LK LI (step x gq LJ)) λ_ iS ⟨LL,LM,kb,LN⟩=>?_);refine XJ ag (cl (ae _ iS LL LM _ kb LN) λf n0 oW=>?_)
 have again:∀{l8:St}{kc:am},Inv X (aj++s4 cA mZ.heap) l8 kc n0->N l8 kc->∃m,m<n/\∃i bm ak,Inv X aj bm ak n0/\hr i n0.heap/\(∀b∈cA,ak b=none)/\W i m bm ak:=λ{l8 kc} jk s5=>by
  obtain⟨dH,aA,LO⟩:=bF l8 kc s5;refine⟨dH,aA,i+1,l8,kc,jk.unpinned,T.keep _ _ _ rK λb ae o e=>(jk.pin (b,o) (S5 _ (S5 _ (vA ae e)))).1,λb ae=>?_,LO⟩;obtain⟨o,e,d⟩:=T.obj _ _ rK b ae;exact(jk.pin (b,o) (S5 _ (S5 _ (vA ae e)))).2.1
 cases f with
 |next=>obtain⟨l8,kc,jk,s5⟩:=oW;exact again jk s5
 |cont=>obtain⟨l8,kc,jk,s5⟩:=oW;exact again jk s5
 |brk=>obtain⟨l8,kc,jk,oW⟩:=oW;exact⟨l8,kc,jk.unpinned,oW⟩
 |ret v=>obtain⟨LP,l8,kc,jk,zw,oW⟩:=oW;exact⟨LP,l8,kc,jk.unpinned,zw,oW⟩
end
abbrev iz:=V->V->am->cq->Prop
def gJ(X:aU)(f:SZ->SZ->Sem SZ)(r:iz):Prop:=
 ∀(aj:ZY)(s:TD)(σ:St)(H:am)(x y:V)(v u:SZ)(Q:cq),Inv X aj σ H s->RelV x v->RelV y u->r x y H Q->
  wpAny (Wp X.prog X.w) X.A (f v u) (gY X aj σ Q) X.xe s
def zx(X:aU)(f:SZ->Sem SZ)(r:V->am->cq->Prop):Prop:=
 ∀(aj:ZY)(s:TD)(σ:St)(H:am)(x:V)(v:SZ)(Q:cq),Inv X aj σ H s->RelV x v->r x H Q->
  wpAny (Wp X.prog X.w) X.A (f v) (gY X aj σ Q) X.xe s
def n1(X:aU)(f:SZ)(r:ZL->am->cq->Prop):Prop:=
 ∀(aj:ZY)(s:TD)(σ:St)(H:am)(xs:ZL)(us:ZU)(Q:cq),Inv X aj σ H s->bN xs us->r xs H Q->
  wpAny (Wp X.prog X.w) X.A (call f us) (gY X aj σ Q) X.xe s
def LQ(X:aU)(r:V->am->(Bool->am->Prop)->Prop):Prop:=
 ∀(aj:ZY)(s:TD)(σ:St)(H:am)(x:V)(v:SZ)(Q:Bool->am->Prop),Inv X aj σ H s->RelV x v->r x H Q->
  wpAny (Wp X.prog X.w) X.A (ZA v) (vo X aj σ Q) X.xe s
def n2(r:iz)(bL tb:bK):bK:=λσ H Q=>bL σ H λx au=>tb σ au λy aS=>r x y aS Q
def zy(r:V->am->cq->Prop)(bL:bK):bK:=λσ H Q=>bL σ H λx au=>r x au Q
def rL(C:Int->Int->Prop)(g:Int->Int->V):iz:=λx y H Q=>∃i j,x=.int i/\y=.int j/\C i j/\Q (g i j) H
def lx(g:Int->Int->V):iz:=λx y H Q=>∃i j,x=.int i/\y=.int j/\Q (g i j) H
def zz(g:Int->V):V->am->cq->Prop:=λx H Q=>∃i,x=.int i/\Q (g i) H
section
variable{X:aU}{a b c:WP}{bL tb tc:bK}{pos:Pos}
theorem zA(aw:bY X a bL)(ae:bY X b tb){aj:ZY}{s:TD}{σ:St}{H:am}{R:V->V->am->Prop}(I:Inv X aj σ H s)(h:bL σ H λx au=>tb σ au λy aS=>R x y aS){Q:SZ->TD->Prop}{f:SZ->SZ->Sem SZ}(bD:∀v u bf x y aS,Inv X aj σ aS bf->RelV x v->RelV y u->R x y aS->wpAny (Wp X.prog X.w) X.A (f v u) Q X.xe bf):
  wpAny (Wp X.prog X.w) X.A (Yl a X.env) (λv dX=>wpAny (Wp X.prog X.w) X.A (Yl b X.env) (λu zt=>wpAny (Wp X.prog X.w) X.A (f v u) Q X.xe zt) X.xe dX) X.xe s:=by
 refine cl (aw aj s σ H _ I h) λv aC ⟨x,au,a',aq,aM⟩=>?_;refine cl (ae aj aC σ au _ a' aM) λu bf ⟨y,aS,da,aN,a4⟩=>?_;exact bD v u bf x y aS da aq aN a4
theorem f'{op:Operator}{r:iz}(ax:gJ X (YF op) r)(aw:bY X a bL)(ae:bY X b tb):bY X (.BinOp a op b pos) (n2 r bL tb):=by
 intro aj s σ H Q I h;exact wpAny_BinOp (zA aw ae I h λv u bf x y aS da bn cg q=>ax aj bf σ aS x y v u Q da bn cg q)
theorem LR{op:UnaryOp}{r:V->am->cq->Prop}(ax:zx X (unaryOp op) r)(aw:bY X a bL):bY X (.UnaryOp op a pos) (zy r bL):=by
 intro aj s σ H Q I h;exact UnaryOp_ (cl (aw aj s σ H _ I h) λv aC ⟨x,au,a',aq,aM⟩=>ax aj aC σ au x v Q a' aq aM)
theorem vC{f:SZ->SZ->Sem SZ}{C:Int->Int->Prop}{g:Int->Int->Int}(rule:∀(i j:Int) (t u:Tok) (s:TD) (Q:SZ->TD->Prop) (E:SZ->TD->Prop),C i j->Q (.int (g i j) s.toks) {s with toks:=s.toks+1}->wpAny (Wp X.prog X.w) X.A (f (.int i t) (.int j u)) Q E s):
  gJ X f (rL C λi j=>.int (g i j)):=by
 intro aj s σ H x y v u Q I bn cg h;obtain⟨i,j,rfl,rfl,hc,q⟩:=h;obtain⟨t,rfl⟩:=bn;obtain⟨t',rfl⟩:=cg;exact rule i j t t' s _ _ hc ⟨.int (g i j),H,I.tok _,⟨_,rfl⟩,q⟩
theorem Eb{f:SZ->SZ->Sem SZ}{g:Int->Int->Int}(rule:∀(i j:Int) (t u:Tok) (s:TD) (Q:SZ->TD->Prop) (E:SZ->TD->Prop),Q (.int (g i j) s.toks) {s with toks:=s.toks+1}->wpAny (Wp X.prog X.w) X.A (f (.int i t) (.int j u)) Q E s):
  gJ X f (lx λi j=>.int (g i j)):=by
 intro aj s σ H x y v u Q I bn cg h;obtain⟨i,j,rfl,rfl,q⟩:=h;obtain⟨t,rfl⟩:=bn;obtain⟨t',rfl⟩:=cg;exact rule i j t t' s _ _ ⟨.int (g i j),H,I.tok _,⟨_,rfl⟩,q⟩
theorem rM{f:SZ->SZ->Sem SZ}{g:Int->Int->Bool}(rule:∀(i j:Int) (t u:Tok) (s:TD) (Q:SZ->TD->Prop) (E:SZ->TD->Prop),Q (.bool (g i j)) s->wpAny (Wp X.prog X.w) X.A (f (.int i t) (.int j u)) Q E s):
  gJ X f (lx λi j=>.bl (g i j)):=by
 intro aj s σ H x y v u Q I bn cg h;obtain⟨i,j,rfl,rfl,q⟩:=h;obtain⟨t,rfl⟩:=bn;obtain⟨t',rfl⟩:=cg;exact rule i j t t' s _ _ ⟨.bl (g i j),H,I,rfl,q⟩
def Ec(i j:Int):Prop:=0<=j/\j<=1000000/\i.natAbs<2^64
theorem vD:gJ X (YF .Add) (lx λi j=>.int (i+j)):=Eb λ_ _ _ _ _ _ _ q=>add_int q
theorem LS:gJ X (YF .Sub) (lx λi j=>.int (i-j)):=Eb λ_ _ _ _ _ _ _ q=>sub_int q
theorem n3:gJ X (YF .Mod) (rL (λ_ j=>0<j) λi j=>.int (i%j)):=vC λi j _ _ _ _ _ hc q=>by
 have h1:(0:Int)<j:=hc;exact mod_int' (by lia) (by rw[Int.fmod_eq_emod_of_nonneg i (by lia)];exact q)
theorem zB:gJ X (YF .Pow) (rL Ec λi j=>.int (i^j.toNat)):=vC λ_ _ _ _ _ _ _ hc q=>pow_int_small hc.1 hc.2.1 hc.2.2 q
theorem LU{f:SZ->Sem SZ}{g:Int->Int}(rule:∀(i:Int) (t:Tok) (s:TD) (Q:SZ->TD->Prop) (E:SZ->TD->Prop),Q (.int (g i) s.toks) {s with toks:=s.toks+1}->wpAny (Wp X.prog X.w) X.A (f (.int i t)) Q E s):
  zx X f (zz λi=>.int (g i)):=by
 intro aj s σ H x v Q I bn h;obtain⟨i,rfl,q⟩:=h;obtain⟨t,rfl⟩:=bn;exact rule i t s _ _ ⟨.int (g i),H,I.tok _,⟨_,rfl⟩,q⟩
theorem LV:zx X (unaryOp .USub) (zz λi=>.int (-i)):=LU λ_ _ _ _ _ q=>neg_int q
end
section
variable{X:aU}{a b c:WP}{bL tb tc:bK}{pos:Pos}
theorem n4:gJ X (XQ .Lt) (lx λi j=>.bl (decide (i<j))):=rM λ_ _ _ _ _ _ _ q=>lt_int q
theorem LW:gJ X (XQ .LtE) (lx λi j=>.bl (decide (i<=j))):=rM λ_ _ _ _ _ _ _ q=>le_int q
theorem oX:gJ X (XQ .Gt) (lx λi j=>.bl (decide (j<i))):=rM λ_ _ _ _ _ _ _ q=>gt_int q
theorem vE:gJ X (XQ .GtE) (lx λi j=>.bl (decide (j<=i))):=rM λ_ _ _ _ _ _ _ q=>ge_int q
theorem dZ(b:WP){op:CmpOp}(h:op≠.In:=by decide)(aa:op≠.NotIn:=by decide):XF op b=false:=by
 have ai:(op==CmpOp.In)=false:=by cases op<;>first|rfl|exact absurd rfl h
 have ar:(op==CmpOp.NotIn)=false:=by cases op<;>first|rfl|exact absurd rfl aa
 cases b<;>simp[XF,ai,ar]
theorem zC{op:CmpOp}{r:iz}(ax:gJ X (XQ op) r)(aw:bY X a bL)(ae:bY X b tb)(aA:XF op b=false):bY X (.Compare a [op] [b] pos) (n2 r bL tb):=by
 intro aj s σ H Q I h;exact wpAny_Compare1 (zA aw ae I h λv u bf x y aS da bn cg q=>ax aj bf σ aS x y v u Q da bn cg q) aA
def LX(t:bK):ee:=λσ H Q=>t σ H λx ak=>∃k,x=.bl k/\Q k ak
theorem qd{op:CmpOp}{r:iz}(ax:gJ X (XQ op) r)(aw:bY X a bL)(ae:bY X b tb)(aA:XF op b=false):jH X (.Compare a [op] [b] pos) (LX (n2 r bL tb)):=by
 intro aj s σ H Q I h
 refine wpAny_isTrue_Compare1 (cl (aw aj s σ H _ I h) λv aC ⟨x,au,a',aq,aM⟩=>cl (ae aj aC σ au _ a' aM) λu bf ⟨y,aS,da,aN,a4⟩=>
  cl (ax aj bf σ aS x y v u _ da aq aN a4) λc cR ⟨z,cG,cY,d2,k,e,dx⟩=>?_) aA
 subst e;cases d2;exact XD ⟨cG,cY,dx⟩
def Ed(K:Su)(x:V)(H:am)(k:Bool):Prop:=
 match x with
 |.non=>k=false
 |.bl b=>k=b
 |.int i=>k=(i != 0)
 |.str y=>y.length<=TT/\k=((y.length:Int) != 0)
 |.byt y=>y.size<=TT/\k=((y.size:Int) != 0)
 |.ref p=>(∃xs,cN K H p xs/\k = !xs.isEmpty)\/(∃xs,eX K H p xs/\k = !xs.isEmpty)\/∃kvs,H p=some (.dK kvs)/\k = !kvs.isEmpty
 |_=>False
theorem LY{κ:Type}{kvs:List (κ×V)}{vs:List (κ×SZ)}(r:zn kvs vs):(!vs.isEmpty) = !kvs.isEmpty:=by
 cases r<;>rfl
theorem Ee{xs:ZL}{its:ZU}(r:bN xs its):(!its.toArray.isEmpty) = !xs.isEmpty:=by
 cases r<;>simp
theorem s6:(TT:Nat)<2^63:=by rw[XN];decide
theorem LZ:LQ X (λx H Q=>∃k,Ed X.K x H k/\Q k H):=by
 intro aj s σ H x v Q I bn h;obtain⟨k,e,q⟩:=h;have ap:=s6;have av:TT=16777216:=XN;cases x with
 |non=>
  cases bn;have bv:k=false:=e;subst bv;exact truthy_none ⟨H,I,q⟩
 |bl b=>
  cases bn;have bv:k=b:=e;subst bv;exact XD ⟨H,I,q⟩
 |int i=>
  obtain⟨t,rfl⟩:=bn;have bv:k=(i != 0):=e;subst bv;exact PySem.P.truthy_int ⟨H,I,q⟩
 |str y=>
  obtain⟨t,rfl⟩:=bn;obtain⟨aP,bv⟩:y.length<=TT/\k=((y.length:Int) != 0):=e;subst bv;exact PySem.P.truthy_str (by lia) ⟨H,I.tok _,q⟩
 |byt y=>
  obtain⟨t,rfl⟩:=bn;obtain⟨aP,bv⟩:y.size<=TT/\k=((y.size:Int) != 0):=e;subst bv;exact PySem.W.truthy_bytes (by lia) ⟨H,I.tok _,q⟩
 |ref p=>
  cases bn;have bv:(∃xs,cN X.K H p xs/\k = !xs.isEmpty)\/(∃xs,eX X.K H p xs/\k = !xs.isEmpty)\/∃kvs,H p=some (.dK kvs)/\k = !kvs.isEmpty:=e;rcases bv with⟨xs,al,bv⟩|⟨xs,al,bv⟩|⟨kvs,al,bv⟩
  ·subst bv;obtain⟨its,r,cr,hz⟩:=I.list al;have eE:=r.length;exact wpAny_truthy_list cr.isList (by simp only[SS];lia) ⟨H,I.tok _,by rw[Ee r];exact q⟩
  ·subst bv;obtain⟨its,r,cr,hz⟩:=I.tuple al;have eE:=r.length;exact truthy_tuple cr (by simp only[SS];lia) ⟨H,I.tok _,by rw[Ee r];exact q⟩
  subst bv;obtain⟨hz,ga,vs,r,m⟩:kvs.length<=TT/\(p==XH)=false/\∃vs,zn kvs vs/\s.heap.DictOf (zm X.prog X.w) p vs:=I.hok p _ al;have eE:kvs.length=vs.length:=Paired.length r;exact wpAny_truthy_dict ga m (by lia) ⟨H,I.tok _,by rw[LY r];exact q⟩
 |_=>exact(show False from e).elim
theorem zD(aw:bY X a bL)(aD:∀whole,Zb a X.env whole=(do let v <-whole;YR a.pos;Yv [v] (ZA v))):
  jH X a (λσ H Q=>bL σ H λx ak=>∃k,Ed X.K x ak k/\Q k ak):=by
 intro aj s σ H Q I h;exact isTrue_plain (cl (aw aj s σ H _ I h) λv aC ⟨x,au,a',aq,aM⟩=>LZ aj aC σ au x v Q a' aq aM) (aD _)
theorem vals1{x:V}{us:ZU}(r:bN [x] us):∃u,us=[u]/\RelV x u:=by
 cases r with
 |cons aq aN=>cases aN;exact⟨_,rfl,aq⟩
theorem vals2{x y:V}{us:ZU}(r:bN [x,y] us):∃u l3,us=[u,l3]/\RelV x u/\RelV y l3:=by
 cases r with
 |cons aq aN=>
  cases aN with
  |cons d2 ht=>cases ht;exact⟨_,_,rfl,aq,d2⟩
theorem L0:n1 X (.builtin "abs") (λxs H Q=>∃i,xs=[.int i]/\Q (.int (if i<0 then -i else i)) H):=by
 intro aj s σ H xs us Q I r h;obtain⟨i,rfl,q⟩:=h;obtain⟨u,rfl,t,rfl⟩:=vals1 r;exact call_abs_int λu cZ=>⟨.int (if i<0 then -i else i),H,I.tok _,⟨_,rfl⟩,q⟩
theorem L1:n1 X (.type "int") (λxs H Q=>(∃i,xs=[.int i]/\Q (.int i) H)\/∃k,xs=[.bl k]/\Q (.int (if k then 1 else 0)) H):=by
 intro aj s σ H xs us Q I r h;rcases h with⟨i,rfl,q⟩|⟨k,rfl,q⟩
 ·obtain⟨u,rfl,t,rfl⟩:=vals1 r;exact call_int_int ⟨.int i,H,I,⟨_,rfl⟩,q⟩
 obtain⟨u,rfl,aq⟩:=vals1 r;cases aq;exact call_int_bool ⟨.int (if k then 1 else 0),H,I.tok _,⟨_,rfl⟩,q⟩
end
structure zE (h:XB) (x fv C:TI) (gx:Str->Option SZ):Prop where
 obj:h.get? x=some (VC C fv)
 ns:h.Ns1 fv gx
 ne:fv≠x
theorem L4{h:XB}{fv:TI}{gx:Str->Option SZ}(n:h.Ns1 fv gx):∃od,h.get? fv=some od/\∀name,VG name od=some (gx name):=by
 obtain⟨o,es,a0,ax,hd,ah,_,aA⟩:=n;refine⟨o,ax,λname=>?_⟩;have e:=aA name;unfold nsFind findBy at e;rw[<-Array.find?_toList]at e;unfold VG;rw[hd];dsimp only;split
 ·rename_i y q
  rw[q]at e;exact UF some e
 rename_i q
 rw[q]at e
 have a:es.toList.any (·.refKey)=false:=by
  rw[List.any_eq_false];intro y aP;obtain⟨z,t,qe⟩:=ah y (Array.mem_toList_iff.mp aP);simp[DictEntry.refKey,qe]
 have gK:¬es.toList.any (·.refKey)=true:=by rw[a];exact SP
 rw[Tl gK];exact UF some e
theorem zE.look{h:XB}{x fv C:TI}{gx:Str->Option SZ}(I:zE h x fv C gx):∃od,PySem.W.InstAt h x (VC C fv) C (some od)/\∀name,VG name od=some (gx name):=
 let⟨od,ax,ap⟩:=L4 I.ns
 ⟨od,⟨I.obj,rfl,rfl,ax⟩,ap⟩
theorem oQ.some_of{v:V}{o:Option SZ}(r:oQ (some v) o):∃u,o=some u/\RelV v u:=by
 cases o with
 |none=>exact(show False from r).elim
 |some u=>exact⟨u,rfl,r⟩
section
variable{P:WF}{w:Xx}{H ak:am}{h h':XB}{a C fv:TI}{fs KG:List (Str×V)}
theorem L5(hok:e7 P w H h)(e:H a=some (.ins C fv fs)):∃gx,zE h a fv C gx/\(∀f,oQ (fs.lookup f) (gx f))/\PySem.Within gx (fs.map (·.1))/\fs.length<=1000/\H fv=some (.own a):=by
 obtain⟨d,z,ne,bO,gx,n,r,q⟩:=(show gl P w H h a (.ins C fv fs)from hok a _ e);exact⟨gx,⟨bO,n,ne⟩,r,q,z,d⟩
end
structure zF (K:Su) (C:TI):Prop where
 pg:Wr K C Str.empty=true
 hd:PySem.W.hasDictIn K C=true
 po:PySem.W.plainOver K C=true
 sa:Ws K (.ref C) "__setattr__"=some (some (.builtin "object.__setattr__"))
theorem zF.get{K:Su}{C:TI}(c:zF K C)(f:Str):Wr K C f=true:=c.pg
section
variable{X:aU}{aj:ZY}{σ:St}{H:am}{s:TD}{A:Xy}{E:SZ->TD->Prop}{Q:SZ->TD->Prop}{c:SZ}{b:Bool}
inductive kd (K:Su) (H:am):V->SZ->Prop where
 |non:kd K H .non (.type "NoneType")
 |bl (x:Bool):kd K H (.bl x) (.type "bool")
 |int (i:Int):kd K H (.int i) (.type "int")
 |str (x:Str):kd K H (.str x) (.type "str")
 |flt (x:UInt64):kd K H (.flt x) (.type "float")
 |lst {a:TI} {xs:ZL} (e:H a=some (.lst xs)):kd K H (.ref a) (.type "list")
 |frz {a:TI} {o:Obj} {xs:ZL} (e:H a=some (.frz o (.lst xs))):kd K H (.ref a) (.type "list")
 |tup {a:TI} {xs:ZL} (e:H a=some (.tup xs)):kd K H (.ref a) (.type "tuple")
 |dK {a:TI} {kvs:List (iu×V)} (e:H a=some (.dK kvs)):kd K H (.ref a) (.type "dict")
 |dT {a:TI} {kvs:List (List iu×V)} (e:H a=some (.dT kvs)):kd K H (.ref a) (.type "dict")
 |ins {a C fv:TI} {fs:List (Str×V)} (e:H a=some (.ins C fv fs)) (bM:zF K C) (aw:Ws K (.ref C) "__class__"=some (some (.builtin "object.__class__")))
   (aO:PySem.W.specialIn K (.builtin "object.__class__") "__get__"=some (some (.builtin "getset_descriptor.__get__"))) (Ef:PySem.W.takesIn K (.builtin "object.__class__")=some true)
   (aA:PySem.W.mroIn K C (.type "object")=some true):kd K H (.ref a) (.ref C)
theorem L6{x:V}{u t:SZ}(I:Inv X aj σ H s)(bn:RelV x u)(ty:kd X.K H x t)(e:VH X.K t c=some b)(h:∀cZ,Q (.bool b) {s with toks:=cZ}):
  wpAny (Wp X.prog X.w) A (call (.builtin "isinstance") [u,c]) Q E s:=by
 cases ty with
 |non=>cases(show u=Value.none from bn);exact TO PySem.W.kitx_none I.kIn UX e (λz=>nomatch z) h
 |bl y=>cases(show u=Value.bool y from bn);exact TO PySem.W.kitx_bool I.kIn UX e (λz=>nomatch z) h
 |int i=>obtain⟨t,q⟩:=(show ∃t,u=Value.int i t from bn);cases q;exact TO PySem.W.kitx_int I.kIn UX e (λz=>nomatch z) h
 |str y=>obtain⟨t,q⟩:=(show ∃t,u=Value.str y t from bn);cases q;exact TO PySem.W.kitx_str I.kIn UX e (λz=>nomatch z) h
 |flt y=>obtain⟨t,q⟩:=(show ∃t,u=Value.float y t from bn);cases q;exact TO PySem.W.kitx_float I.kIn UX e (λz=>nomatch z) h
 | @lst a xs dv=>
  cases(show u=Value.ref a from bn);obtain⟨_,_,n,_,h1⟩:=(show gl X.prog X.w H s.heap a (.lst xs)from I.hok a _ dv);exact TO Wt I.kIn ⟨_,h1,rfl⟩ e (λz=>nomatch z) h
 | @frz a bO xs dv=>
  cases(show u=Value.ref a from bn);obtain⟨_,_,_,n,_,h1⟩:=(show gl X.prog X.w H s.heap a (.frz bO (.lst xs))from I.hok a _ dv);exact TO Wt I.kIn ⟨_,h1,rfl⟩ e (λz=>nomatch z) h
 | @tup a xs dv=>
  cases(show u=Value.ref a from bn);obtain⟨_,_,_,p⟩:=(show gl X.prog X.w H s.heap a (.tup xs)from I.hok a _ dv);obtain⟨o,h1,aa,_⟩:=p;exact TO PySem.W.kitx_tuple I.kIn ⟨o,h1,aa⟩ e (λz=>nomatch z) h
 | @dK a kvs dv=>
  cases(show u=Value.ref a from bn);obtain⟨_,_,vs,_,p⟩:=(show gl X.prog X.w H s.heap a (.dK kvs)from I.hok a _ dv);obtain⟨o,es,a0,h1,aa,_⟩:=p;exact TO Wu I.kIn ⟨o,h1,aa.1⟩ e (λz=>nomatch z) h
 | @dT a kvs dv=>
  cases(show u=Value.ref a from bn);obtain⟨_,_,xs,_,o,es,a0,h1,aa,_⟩:=(show gl X.prog X.w H s.heap a (.dT kvs)from I.hok a _ dv);exact TO Wu I.kIn ⟨o,h1,aa.1⟩ e (λz=>nomatch z) h
 | @ins a C fv fs dv bM aw aO Ef aA=>
  cases(show u=Value.ref a from bn);obtain⟨gx,O,_⟩:=L5 I.hok dv;obtain⟨od,J,_⟩:=O.look;exact TO (PySem.W.kitx_own (bM.get _) bM.hd aw aO Ef aA) I.kIn J e (λz=>nomatch z) h
end
structure eF (k:Nat) (A:Xy):Prop where
 hd:A.handled=none
 dp:A.depth+3*k+5<Yw
 un:A.units+16*k+200<XO
theorem eF.mono{j k:Nat}{A:Xy}(r:eF k A)(h:j<=k):eF j A:=⟨r.hd,by have:=r.dp;lia,by have:=r.un;lia⟩
theorem eF.deeper{k:Nat}{A:Xy}(r:eF (k+1) A)(env:Env):eF k (A.deeper env):=
 ⟨r.hd,by have:=r.dp;show A.depth+1+3*k+5<_;lia,by have:=r.un;show A.units+3+16*k+200<_;lia⟩
theorem eF.depth{k:Nat}{A:Xy}(r:eF k A):A.depth<Yw:=by have:=r.dp;lia
theorem eF.units{k:Nat}{A:Xy}(r:eF k A):A.units+64<XO:=by have:=r.un;lia
def vF:e8:=λ_ H Q=>Q [] H
def vG(bL:bK)(hn:e8):e8:=λσ H Q=>bL σ H λx au=>hn σ au λxs aS=>Q (x::xs) aS
section
variable{X:aU}{e:WP}{es:ZW}{bW:bK}{t:e8}{pos:Pos}
theorem fj:hp X [] vF:=λ_ _ _ _ H Q I h=>Calls.spliced_nil ⟨[],H,I,.nil,h⟩
theorem d5(aw:bY X e bW)(ao:hp X es t)(av:eQ X e es:=by rfl):hp X (e::es) (vG bW t):=by
 intro pos aj s σ H Q I h;rw[av];show wpAny _ _ (spliced ((false,Yl e X.env)::X8 pos (UV es X.env))) _ _ s
 refine Calls.spliced_cons (cl (aw aj s σ H _ I h) λu aC ⟨x,au,a',aq,aM⟩=>?_);exact cl (ao pos aj aC σ au _ a' aM) λus bf ⟨xs,aS,da,aN,a4⟩=>⟨x::xs,aS,da,.cons aq aN,a4⟩
def L7(t:e8):bK:=λσ H Q=>t σ H λxs au=>xs.length<=TT/\∀p,au p=none->Q (.ref p) (upd au p (.tup xs))
def L8(t:e8):bK:=λσ H Q=>t σ H λxs au=>xs.length<=TT/\∀p,au p=none->Q (.ref p) (upd au p (.lst xs))
theorem zG{x1}(h:hp X es t):bY X (.Tuple es x1 pos) (L7 t):=by
 intro aj s σ H Q I ay;refine wpAny_Tuple_spliced (cl (h pos aj s σ H _ I ay) λus aC ⟨xs,au,a',r,z,q⟩=>⟨by rw[<-r.length];exact z,?_⟩);have bD:au aC.heap.objs.size=none:=a'.hok.fresh (SF _);refine⟨.ref aC.heap.objs.size,upd au aC.heap.objs.size (.tup xs),a'.laid (t':=aC.toks) (λb u e=>Heap.get?_push_of_some _ e) (SF _) ?_,rfl,q _ bD⟩;exact⟨z,us,r,⟨_,Heap.get?_push_size _ rfl,rfl,_,rfl⟩⟩
theorem vH(h:hp X es t):bY X (.List es pos) (L8 t):=by
 intro aj s σ H Q I ay;refine wpAny_List_spliced (cl (h pos aj s σ H _ I ay) λus aC ⟨xs,au,a',r,z,q⟩=>⟨by rw[<-r.length];exact z,?_⟩);have bD:au aC.heap.objs.size=none:=a'.hok.fresh (SF _);refine⟨.ref aC.heap.objs.size,upd au aC.heap.objs.size (.lst xs),a'.laid (t':=aC.toks) (λb u e=>Heap.get?_push_of_some _ e) (SF _) ?_,rfl,q _ bD⟩;exact⟨z,us,0,r,Heap.get?_push_size _ rfl⟩
end
abbrev iA:=ZL->am->cq->gW->Prop
abbrev m0:=List Env->am->TD->gW->SZ->TD->Prop
structure vI (P:WF) (w:Xx) (K:Su) (mg:Str->Option SZ) (base:XB) (A:Xy) (outer:List Env) (s:TD) (H:am):Prop where
 frames:A.frames=some outer
 mod:Mod K mg base
 bs:∀b o,base.get? b=some o->s.heap.get? b=some o/\H b=none
 bsz:base.objs.size<=s.heap.objs.size
 funs:s.heap.FunFrames base outer
 frf:∀b∈frs outer,H b=none
 hok:e7 P w H s.heap
 bare:YQ s.gens
 tab:oR K H
def qf(outer:List Env)(P:WF)(w:Xx)(H:am)(s:TD)(Q:cq)(u:SZ)(s':TD):Prop:=
 ∃v ak,s'.os=s.os/\YQ s'.gens/\f0 (frs outer) [] H ak s.heap s'.heap/\e7 P w ak s'.heap/\RelV v u/\Q v ak
def L9(gb:m0)(outer:List Env)(P:WF)(w:Xx)(H:am)(s:TD)(Q:cq)(E:gW)(r:ZC)(s':TD):Prop:=
 match r with
 |.ok (.ret u)=>qf outer P w H s Q u s'
 |.ok _=>False
 |.error e=>gb outer H s E e s'
structure ke (P:WF) (w:Xx) (K:Su) (mg:Str->Option SZ) (base:XB) (gb:m0) (k:Nat) (f:TI) (fd:X3) (ps:ZT) (sp:iA):Prop where
 len:∀vs H Q E,sp vs H Q E->vs.length=ps.length
 run:∀(A:Xy)(outer:List Env)(s:TD)(H:am)(args:Args)(us:ZU)(vs:ZL)(Q:cq)(E:gW),eF k A->vI P w K mg base A outer s H->ZE s fd args (ps.zip us)->bN vs us->sp vs H Q E->
  codeAny (Wp P w) A (.call (.ref f) args) (L9 gb outer P w H s Q E) s
theorem ke.imp{P:WF}{w:Xx}{K:Su}{mg:Str->Option SZ}{base:XB}{gb:m0}{k:Nat}{f:TI}{fd:X3}{ps:ZT}{sp s7:iA}(F:ke P w K mg base gb k f fd ps sp)(h:∀vs H Q E,s7 vs H Q E->sp vs H Q E):ke P w K mg base gb k f fd ps s7:=
 ⟨λvs H Q E q=>F.len vs H Q E (h _ _ _ _ q),λA outer s H args us vs Q E ao aD ae aL av=>F.run A outer s H args us vs Q E ao aD ae aL (h _ _ _ _ av)⟩
section
variable{X:aU}{aj:ZY}{σ:St}{H:am}{s s':TD}
theorem Inv.env0(I:Inv X aj σ H s):vI X.prog X.w X.K X.mg X.base X.A X.stack s H:=
 ⟨I.ok.frames,I.ok.mod,I.bs,SD I.ok.bsz I.sz,I.stack,I.stkFree,I.hok,I.bare,I.tabs⟩
theorem Inv.after{Q:cq}{u:SZ}(I:Inv X aj σ H s)(h:qf X.stack X.prog X.w H s Q u s'):gY X aj σ Q u s':=by
 obtain⟨v,ak,os,bare,un,hok,r,q⟩:=h;obtain⟨dY,g,d,t,L'⟩:=s';obtain rfl:L'=s.os:=os;exact⟨v,ak,I.call (h':=dY) (g':=g) (d':=d) (t':=t) (ch:=[]) un hok bare (λb z=>absurd z (by simp)),r,q⟩
end
def Eg(sp:iA)(oY:ZL)(E:gW)(t:e8):bK:=λσ H Q=>t σ H λvs au=>sp (vs++oY) au Q E
def Binds(K:Su)(fd:X3)(ps:ZT)(ds:ZU):Prop:=
 ∀(s:TD)(us:ZU),K.In s.heap->(us++ds).length=ps.length->ZE s fd ⟨us,[]⟩ (ps.zip (us++ds))
theorem Binds.all{K:Su}{fd:X3}{ps:ZT}(h:∀us:ZU,us.length=ps.length->YY fd ⟨us,[]⟩=pure (ps.zip us)):Binds K fd ps []:=λs us _ ap=>by
 rw[SQ]at ap⊢;exact .of_eq (h us ap)
def zH(gb:m0)(X:aU)(E:gW):Prop:=∀(aj:ZY)(σ:St)(H:am)(s:TD)(e:SZ)(s':TD),Inv X aj σ H s->gb X.stack H s E e s'->X.xe e s'
section
variable{X:aU}{gb:m0}{k:Nat}{f C:TI}{fd:X3}{ps:ZT}{sp:iA}{oY:ZL}{ds:ZU}{E:gW}{x m:Str}{p pos dd:Pos}{e o:WP}{es:ZW}{bL:bK}{t:e8}
theorem Ma{aj:ZY}{σ:St}{H:am}{s:TD}{Q:cq}{us:ZU}{vs:ZL}(F:ke X.prog X.w X.K X.mg X.base gb k f fd ps sp)(ao:eF k X.A)(ae:Binds X.K fd ps ds)(hd:bN oY ds)(al:zH gb X E)(I:Inv X aj σ H s)(r:bN vs us)(h:sp (vs++oY) H Q E):wpAny (Wp X.prog X.w) X.A (call (.ref f) us) (gY X aj σ Q) X.xe s:=by
 have aN:bN (vs++oY) (us++ds):=r.append hd;have ap:(us++ds).length=ps.length:=by rw[<-aN.length];exact F.len _ _ _ _ h
 refine wpAny_call (YU (F.run X.A X.stack s H ⟨us,[]⟩ (us++ds) (vs++oY) Q E ao I.env0 (ae s us I.kIn ap) aN h) λr s' ay=>?_);cases r with
 |error e=>exact al aj σ H s e s' I ay
 |ok iT=>
  cases iT with
  |ret u=>exact I.after ay
  |next=>exact Tp ay
  |brk=>exact Tp ay
  |cont=>exact Tp ay
theorem Mb(F:ke X.prog X.w X.K X.mg X.base gb k f fd ps sp)(ao:eF k X.A)(aF:eD X x)(aA:X.mg x=some (.ref f))(ah:U8 X.K (.ref f)=true)(ae:Binds X.K fd ps ds)(hd:bN oY ds)(al:zH gb X E)(aw:hp X (e::es) t)(gA:ed x:=by decide)(aD:eQ X e es:=by rfl)(eh:g8 X pos es:=by rfl):
  bY X (.Call (.Name x p) (e::es) [] pos) (Eg sp oY E t):=by
 intro aj s σ H Q I h;refine XT (DX I aF aA ?_ gA);refine PySem.W.callWith_K (h₀:=X.base) I.ok.mod.kin ah (cl (aw pos aj s σ H _ I h) λus aC ⟨vs,au,a',r,q⟩=>⟨a'.kIn,?_⟩) aD eh;exact Ma F ao ae hd al a' r q
end
structure cC (N P:ZT) (sc:XV):Prop where
 kind:sc.kind=.function
 co:sc.isCoroutine=false
 gen:sc.isGenerator=false
 nd:N.Nodup
 pre:N.take P.length=P
 par:∀x∈P,sc.names.lookup x=some .local\/sc.names.lookup x=some .cell
 nofree:∀y∈sc.names,y.2≠.free
theorem Eh{kindOf:Str->Option Zd}{x:Str}:∀{binds:List (Str×SZ)}{m:Str->Option SZ},(∀v,(x,v)∉binds)->bindL kindOf binds m x=m x
 |[],_,_=>rfl
 | (n,v)::r,m,h=>by
  unfold bindL;rw[Eh λw hw=>h w (Sy _ hw)];split
  ·have:x≠n:=by rintro rfl;exact h v Sw
   simp[this]
  rfl
theorem Ei{kindOf:Str->Option Zd}{x:Str}:∀{binds:List (Str×SZ)}{m:Str->Option SZ},(∀v,(x,v)∉binds)->bindC kindOf binds m x=m x
 |[],_,_=>rfl
 | (n,v)::r,m,h=>by
  unfold bindC;rw[Ei λw hw=>h w (Sy _ hw)];split
  ·rfl
  have:x≠n:=by rintro rfl;exact h v Sw
  simp[this]
theorem Ej{kindOf:Str->Option Zd}{x:Str}{v:SZ}:∀{P:ZT}{vs:ZU}{i:Nat}{m:Str->Option SZ},P.Nodup->P[i]?=some x->vs[i]?=some v->kindOf x=some .local->
  bindL kindOf (P.zip vs) m x=some v
 |[],_,_,_,_,h,_,_=>by simp at h
 |_::_,[],_,_,_,_,h,_=>by simp at h
 |p::P,w::vs,0,m,nd,h1,aa,ah=>by
  simp at h1 aa;subst h1;subst aa;show bindL kindOf ((p,w)::P.zip vs) m p=_
  unfold bindL;rw[Eh λv aL=>(Tq.mp nd).1 (VI aL).1,Tk ah];simp
 |p::P,w::vs,i+1,m,nd,h1,aa,ah=>by
  show bindL kindOf ((p,w)::P.zip vs) m x=_
  unfold bindL;exact Ej (i:=i) (Tq.mp nd).2 (by simpa using h1) (by simpa using aa) ah
theorem Ek{kindOf:Str->Option Zd}{x:Str}{v:SZ}:∀{P:ZT}{vs:ZU}{i:Nat}{m:Str->Option SZ},P.Nodup->P[i]?=some x->vs[i]?=some v->kindOf x≠some .local->
  bindC kindOf (P.zip vs) m x=some v
 |[],_,_,_,_,h,_,_=>by simp at h
 |_::_,[],_,_,_,_,h,_=>by simp at h
 |p::P,w::vs,0,m,nd,h1,aa,ah=>by
  simp at h1 aa;subst h1;subst aa;show bindC kindOf ((p,w)::P.zip vs) m p=_
  unfold bindC;rw[Ei λv aL=>(Tq.mp nd).1 (VI aL).1,Tl ah];simp
 |p::P,w::vs,i+1,m,nd,h1,aa,ah=>by
  show bindC kindOf ((p,w)::P.zip vs) m x=_
  unfold bindC;exact Ek (i:=i) (Tq.mp nd).2 (by simpa using h1) (by simpa using aa) ah
def start(N:ZT)(vs:ZL):St:=vs.map some++SX (N.length-vs.length) none
def ly(gb:m0)(P:WF)(w:Xx)(K:Su)(mg:Str->Option SZ)(base:XB)(N:ZT)(qual:Str)(scope:XV)(f:TI)(eH:SZ)(A:Xy)(outer:List Env)(s:TD)(H:am)(E:gW):aU where
 prog:=P
 w:=w
 K:=K
 mg:=mg
 base:=base
 A:=A.deeper (Y5 qual scope s.heap.objs.size f eH)
 N:=N
 s₀:=s
 H₀:=H
 env:=Y5 qual scope s.heap.objs.size f eH
 outer:=outer
 stack:=Y5 qual scope s.heap.objs.size f eH::outer
 ex:=[]
 calm:=true
 fn:=λ_=>true
 pn:=[]
 xe:=λe s'=>wpAny (Wp P w) (A.deeper (Y5 qual scope s.heap.objs.size f eH)) (leaving (Y5 qual scope s.heap.objs.size f eH) e) (λ_ zI=>gb outer H s E e zI) (λbv zI=>gb outer H s E bv zI) s'
theorem El{sc:XV}{n:Nat}{x:Str}(h:sc.names.lookup x=some .cell):∃c,(cellsFrom n sc.names []).lookup x=some c:=by
 have q:=Wv sc.names n [] (.inl h);exact VJ.mp q
theorem Mc{gb:m0}{P:WF}{w:Xx}{K:Su}{mg:Str->Option SZ}{base:XB}{N ps:ZT}{qual:Str}{scope:XV}{f:TI}{eH:SZ}{A:Xy}{outer:List Env}{s aC:TD}{H:am}{E:gW}{us:ZU}{vs:ZL}(S:cC N ps scope)(hd:A.handled=none)(ec:vI P w K mg base A outer s H)(ap:vs.length=ps.length)(r:bN vs us)(x:InCallC s s.heap.objs.size (bindL (Y5 qual scope s.heap.objs.size f eH).kindOf (ps.zip us) λ_=>none) (cellsFrom (s.heap.objs.size+1) scope.names []) (bindC (Y5 qual scope s.heap.objs.size f eH).kindOf (ps.zip us) λ_=>none) aC):
  Inv (ly gb P w K mg base N qual scope f eH A outer s H E) [] (start N vs) H aC:=by
 have eh:ps.length<=N.length:=by have:=UF S7 S.pre;rw[TP]at this;lia
 obtain⟨h1,cZ,rfl,ah⟩:=x.done;have s8:∀b:TI,b∉(ly gb P w K mg base N qual scope f eH A outer s H E).ex:=λb z=>absurd (show b∈([]:ZV)from z) (by simp)
 refine⟨⟨ec.mod,S.kind,rfl,rfl,SF _,λy z c h1 aa=>?_,λy aP=>?_,λy c _ h=>?_,λ_=>hd,Around.frames_deeper ec.frames,.inr ⟨rfl,rfl⟩,λb z=>absurd z (s8 b),ec.bs,ec.bsz,λb _ _=>s8 b,λb z=>absurd z (s8 b),ec.funs,ec.frf,ec.tab⟩,
  rfl,ec.bare,f0.kept ah,⟨_,x.toInCall.ns,λi y v h1 aa aH=>?_⟩,λy c h=>⟨_,x.cell y c h⟩,ec.hok.fresh (SF _),λy c h=>?_,λp ag=>absurd (show p∈([]:ZY)from ag) (by simp),ec.hok.kept ah,?_⟩
 ·exact name_of_addr x.apart (Up h1) (Up aa)
 ·have aP:scope.names.lookup y=some .cell\/scope.names.lookup y=some .free:=aP;rcases aP with aP|aP
  ·exact El aP
  exact absurd rfl (S.nofree _ (Up aP))
 ·exact UC (x.above y c (Up h))
 ·have hi:i<vs.length:=by
   unfold start at aa;by_cases hi:i<vs.length
   ·exact hi
   rw[Tr (by simpa using hi)]at aa;rw[Uq]at aa;split at aa<;>cases aa
  have aw:vs[i]?=some v:=by
   unfold start at aa;rw[TQ (by simpa using hi),SW]at aa;cases e:vs[i]? with
   |none=>rw[e]at aa;cases aa
   |some a=>rw[e]at aa;cases aa;rfl
  obtain⟨u,a2,b6⟩:=r.get aw
  have ag:ps[i]?=some y:=by
   rw[<-S.pre,List.getElem?_take_of_lt (by lia)];exact h1
  have Em:ps.Nodup:=by rw[<-S.pre];exact S.nd.sublist (List.take_sublist _ _)
  refine⟨u,b6,?_⟩;rcases S.par y (S9 ag)with k|k
  ·exact .inl ⟨k,Ej Em ag a2 k⟩
  obtain⟨c,e⟩:=El (n:=s.heap.objs.size+1) k;refine .inr ⟨.inl k,c,e,?_⟩;have q:=x.cell y c e;rwa[Ek Em ag a2 (by show scope.names.lookup y≠_;rw[k];decide)]at q
 ·exact ec.hok.fresh (UC (x.above y c (Up h)))
 unfold start;show _=N.length
 rw[Sx,Sv,T7];lia
theorem En{gb:m0}{P:WF}{w:Xx}{K:Su}{mg:Str->Option SZ}{base:XB}{k:Nat}{f:TI}{name qual:Str}{params:X1}{body:ZX}{scope:XV}{vJ kV doc pm cdv ct oc:SZ}{an od:Option TI}{osl:Array (Option SZ)}{N ps:ZT}{sp:iA}(lk:K.lookup f=some ⟨oc,od,.func (UD name qual params body scope vJ kV doc pm an cdv ct),osl⟩)(dI:VK K cdv qual=true)(S:cC N ps scope)(len:∀vs H Q E,sp vs H Q E->vs.length=ps.length)(hu:∀(A:Xy) (outer:List Env) (s:TD) (H:am) (vs:ZL) (Q:cq) (E:gW),eF k (A.deeper (Y5 qual scope s.heap.objs.size f cdv))->sp vs H Q E->∃t,jh (ly gb P w K mg base N qual scope f cdv A outer s H E) body t/\t {nx:=λ_ ak=>Q .non ak,rt:=Q} (start N vs) H):
  ke P w K mg base gb (k+1) f (UD name qual params body scope vJ kV doc pm an cdv ct) ps sp:=by
 refine⟨len,λA outer s H args us vs Q E ao ec ae r oZ=>?_⟩;have ap:=len _ _ _ _ oZ;have o0:K.In s.heap:=ec.mod.kin.keeps λb o e=>(ec.bs b o e).1;have lim:s.heap.NoLimit:=ec.mod.nolimit.keeps λb o e=>(ec.bs b o e).1
 have Md:∀y∈ps.zip us,scope.names.lookup y.1=some .local\/(scope.names.lookup y.1=some .cell/\((cellsFrom (s.heap.objs.size+1) scope.names []).lookup y.1).isSome=true):=λ⟨n,v⟩ aP=>by
  rcases S.par n (VI aP).1 with q|q
  ·exact .inl q
  exact .inr ⟨q,Wv _ _ _ (.inl q)⟩
 refine codeAny_call_function ao.depth (o0 _ _ lk) rfl S.co S.gen rfl (PySem.W.codeRec_of o0 dI) (ae _ _ _ _ ?_);refine wpAny_newFunctionEnv_cells S.kind Md λenv aD aC x=>?_;subst aD;refine⟨lim.keeps x.toInCall.keep,codeAny_func ?_⟩;obtain⟨t,aR,ay⟩:=hu A outer s H vs Q E (ao.deeper _) oZ;have I:Inv (ly gb P w K mg base N qual scope f cdv A outer s H E) [] (start N vs) H aC:=Mc S ao.hd ec ap r x;refine XG (aR [] aC (start N vs) H _ I ay) (λiT s' av=>?_) λe s' av=>av
 have e9:∀{bm:St}{ak:am}{v:V}{u:SZ},Inv (ly gb P w K mg base N qual scope f cdv A outer s H E) [] bm ak s'->RelV v u->Q v ak->qf outer P w H s Q u s':=
  λ{bm ak v u} J b6 q=>⟨v,ak,J.os,J.bare,J.base,J.hok,b6,q⟩
 cases iT with
 |ret u=>
  obtain⟨v,bm,ak,J,b6,q⟩:=av;exact e9 J b6 q
 |next=>
  obtain⟨bm,ak,J,q⟩:=av;exact e9 (v:=V.non) (u:=Value.none) J rfl q
 |brk=>
  obtain⟨_,_,_,q⟩:=av;exact Tp q
 |cont=>
  obtain⟨_,_,_,q⟩:=av;exact Tp q
section
variable{X:aU}{x:Str}{p pos:Pos}{e:WP}{es:ZW}{t:e8}{id T:String}{r:ZL->am->cq->Prop}
def zJ(r:ZL->am->cq->Prop)(t:e8):bK:=λσ H Q=>t σ H λvs au=>r vs au Q
theorem qg(hc:n1 X (.builtin id) r)(aF:eD X x)(aA:X.mg x=none)(aL:XK x=some (.builtin id))(aw:hp X (e::es) t)(aO:x≠"__name__":=by decide)(gA:ed x:=by decide)(aD:eQ X e es:=by rfl)(eh:g8 X pos es:=by rfl):bY X (.Call (.Name x p) (e::es) [] pos) (zJ r t):=by
 intro aj s σ H Q I h;refine XT (nU I aF aA aL ?_ aO gA);exact PyProof.Rows.callWith_builtin1 (cl (aw pos aj s σ H _ I h) λus aC ⟨vs,au,a',aq,aM⟩=>hc aj aC σ au vs us Q a' aq aM) aD eh
theorem Eo(hc:n1 X (.type T) r)(aF:eD X x)(aA:X.mg x=none)(aL:XK x=some (.type T))(aw:hp X (e::es) t)(aO:x≠"__name__":=by decide)(gA:ed x:=by decide)(aD:eQ X e es:=by rfl)(eh:g8 X pos es:=by rfl):bY X (.Call (.Name x p) (e::es) [] pos) (zJ r t):=by
 intro aj s σ H Q I h;refine XT (nU I aF aA aL ?_ aO gA);exact UW (cl (aw pos aj s σ H _ I h) λus aC ⟨vs,au,a',aq,aM⟩=>hc aj aC σ au vs us Q a' aq aM) aD eh
end
end L2
namespace HT
open PySem PyProof.Rows
section
variable{prog:WF}{w:Xx}{A:Xy}{E:SZ->TD->Prop}{s:TD}
def sIx(n d:Nat):Option Int->Nat
 |none=>d
 |some v=>if v<0 then(v+(n:Int)).toNat else min v.toNat n
theorem Me(n d:Nat)(hd:d<=n)(o:Option Int):sIx n d o<=n:=by
 cases o with
 |none=>exact hd
 |some v=>
  show(if v<0 then(v+(n:Int)).toNat else min v.toNat n)<=n
  by_cases aL:v<0
  ·rw[Tk aL];lia
  rw[Tl aL];exact Nat.min_le_right _ _
theorem Ep(v:Int)(n d:Nat):(if v<0 then max (v+(n:Int)) 0 else min v (n:Int))=((sIx n d (some v):Nat):Int):=by
 show(if v<0 then max (v+(n:Int)) 0 else min v (n:Int))=(((if v<0 then(v+(n:Int)).toNat else min v.toNat n):Nat):Int)
 by_cases aL:v<0
 ·simp only[Tk aL];lia
 simp only[Tl aL];lia
theorem Mf(lo hi:Option Int)(n:Nat):Builtin.Slice.sliceAdjust lo hi 1 (n:Int)=(((sIx n 0 lo:Nat):Int),((sIx n n hi:Nat):Int)):=by
 have h1:¬((1:Int)<0):=by lia
 unfold Builtin.Slice.sliceAdjust;simp only[h1,if_false];refine TA ?_ ?_
 ·cases lo with
  |none=>rfl
  |some v=>exact Ep v n 0
 cases hi with
 |none=>rfl
 |some v=>exact Ep v n n
theorem Mg(i j:Nat):Builtin.Slice.slicePlaces (i:Int) (j:Int) 1=j-i:=by
 unfold Builtin.Slice.slicePlaces;have h1:(1:Int)>0:=by lia
 simp only[h1,if_true,Int.ediv_one];split<;>lia
theorem Er{v:SZ}{o:Option Int}{Q:Option Int->TD->Prop}(p:Zw v o)(h:Q o s):wpAny (Wp prog w) A (Builtin.Slice.slicePartIndex v) Q E s:=by
 cases p with
 |none=>exact slicePart_none h
 |int i t=>exact slicePart_int h
theorem Mh{sl:TI}{hP jl:SZ}{lo hi:Option Int}{n:Nat}{Q:Int×Int×Nat->TD->Prop}(av:s.heap.IsSliceOf sl hP jl .none)(cr:Zw hP lo)(n5:Zw jl hi)(h:Q (((sIx n 0 lo:Nat):Int),1,sIx n n hi-sIx n 0 lo) s):wpAny (Wp prog w) A (Builtin.Slice.sliceApplied (.ref sl) (pure (n:Int))) Q E s:=by
 obtain⟨os,o1,Es,n6⟩:=id av;unfold Builtin.Slice.sliceApplied Builtin.Slice.sliceFields;refine SB (SB (Yd o1 n6 (x:=hP) rfl (SB (Yd o1 n6 (x:=jl) rfl (SB (Yd o1 n6 (x:=.none) rfl (SL ?_)))))));refine SB (slicePart_none ?_);show wpAny _ _ (if((1:Int)==0)=true then _ else _) _ _ s
 rw[Tl (by decide)];refine SB (Er cr (SB (Er n5 (SB (SL ?_)))));show wpAny _ _ (match Builtin.Slice.sliceAdjust lo hi 1 (n:Int)with|(lo,hi)=>pure (lo,(1:Int),Builtin.Slice.slicePlaces lo hi 1)) _ _ s
 rw[Mf lo hi n];show wpAny _ _ (pure (((sIx n 0 lo:Nat):Int),(1:Int),Builtin.Slice.slicePlaces ((sIx n 0 lo:Nat):Int) ((sIx n n hi:Nat):Int) 1)) _ _ s
 rw[Mg];exact SL h
theorem Mi(xs:Array SZ)(i k:Nat):((S4 k).filterMap λ(m:Nat)=>xs[((i:Int)+(m:Int)*1).toNat]?).toArray=((xs.toList.drop i).take k).toArray:=by
 have e:(λ(m:Nat)=>xs[((i:Int)+(m:Int)*1).toNat]?)=λm=>xs[i+m]?:=by
  funext m;have:((i:Int)+(m:Int)*1).toNat=i+m:=by lia
  rw[this]
 rw[e];have:=pick_run xs i k;rw[List.filterMap_map]at this;have ar:((λx=>xs[x]?)∘λx=>i+x)=λm=>xs[i+m]?:=rfl;rw[ar]at this;rw[this]
theorem getItem_tuple_cut{t sl:TI}{items:Array SZ}{hP jl:SZ}{lo hi:Option Int}{Q:SZ->TD->Prop}(aR:IsTup s.heap t items)(av:s.heap.IsSliceOf sl hP jl .none)(cr:Zw hP lo)(n5:Zw jl hi)(hw:¬(sIx items.size 0 lo=0/\sIx items.size items.size hi=items.size))(h:Q (.ref s.heap.objs.size) {s with heap:=s.heap.push {cls:=.type "tuple",data:=.seq ((items.toList.drop (sIx items.size 0 lo)).take (sIx items.size items.size hi-sIx items.size 0 lo)).toArray} })(kf:items.size<=TT):wpAny (Wp prog w) A (ZF (.ref t) (.ref sl)) Q E s:=by
 have vK:sizeOk (.seq ((items.toList.drop (sIx items.size 0 lo)).take (sIx items.size items.size hi-sIx items.size 0 lo)).toArray):=by
  show((items.toList.drop (sIx items.size 0 lo)).take (sIx items.size items.size hi-sIx items.size 0 lo)).toArray.size<=TT
  rw[SS,TP,Ur,UU];lia
 have bC:sIx items.size items.size hi<=items.size:=Me _ _ (SF _) hi;obtain⟨os,o1,Es,n6⟩:=id av;have Mj:s.TypeIs (.ref sl) "slice":=⟨os,o1,Es⟩;unfold ZF
 try with_reducible refine Xu ?_
 first|refine SB (SL ?_)|skip
 refine SB (wpAny_sequenceKey aR.typeIs (by decide) ?_)
 refine SB (X9 (name:=Str.ofString "__getitem__") aR.typeIs VL
  (XC VL aR.typeIs entry_tuple_getitem ?_ (args_tuple_getitem _ _)))
 show wpAny _ _ (Builtin.Tuple.tupleItemsOf (.ref t) >>= _) _ _ s
 refine SB (tupleItemsOf_ aR ?_);refine SB (wpAny_typeOf Mj ?_);rw[Tk (by decide)];refine SB (Mh av cr n5 ?_)
 have qh:¬((((sIx items.size 0 lo:Nat):Int)==0&&(1:Int)==1&&(sIx items.size items.size hi-sIx items.size 0 lo)==items.size)=true):=by
  intro q;rw[TL,TL]at q;have aM:((sIx items.size 0 lo:Nat):Int)=0:=eq_of_beq q.1.1;have a4:sIx items.size items.size hi-sIx items.size 0 lo=items.size:=eq_of_beq q.2;exact hw ⟨by lia,by lia⟩
 show wpAny _ _ (if(((sIx items.size 0 lo:Nat):Int)==0&&(1:Int)==1&&(sIx items.size items.size hi-sIx items.size 0 lo)==items.size)=true then _ else _) _ _ s
 rw[Tl qh,Mi]
 first
  |exact SB (m:=Builtin.Tuple.tupleExact _) (W1 (SL ⟨_,rfl,SL h⟩) vK)
  |exact SB (m:=Builtin.Tuple.tupleExact _) (W1 (SB (SL (SL ⟨_,rfl,SL h⟩))) vK)
  |exact SB (SB (m:=Builtin.Tuple.tupleExact _) (W1 (SL (SL ⟨_,rfl,SL h⟩)) vK))
  |exact SB (SB (m:=Builtin.Tuple.tupleExact _) (W1 (SL ⟨_,rfl,SL h⟩) vK))
end
end HT
namespace L2
open PySem PySem.Spec PyProof.Rows
abbrev rN:=St->am->(Option Int->am->Prop)->Prop
def m1(X:aU)(e:Option WP)(t:rN):Prop:=
 ∀(aj:ZY)(s:TD)(σ:St)(H:am)(Q:Option Int->am->Prop),Inv X aj σ H s->t σ H Q->
  wpAny (Wp X.prog X.w) X.A (evalPart e X.env) (λu s'=>∃o ak,Inv X aj σ ak s'/\Zw u o/\Q o ak) X.xe s
def Mk:rN:=λ_ H Q=>Q none H
def Ml(t:bK):rN:=λσ H Q=>t σ H λx au=>∃i,x=.int i/\Q (some i) au
theorem intsAre_of{ns:ZI}:∀{us:ZU},bN (ns.map V.int) us->YV us ns:=by
 induction ns with
 |nil=>intro us r;rw[Ts]at r;cases r;exact .nil
 |cons n ns b9=>
  intro us r;rw[SH]at r;cases r with
  |cons aq aN=>
   obtain⟨t,e⟩:=aq;subst e;exact .cons n t (b9 aN)
section
variable{X:aU}{e:WP}{bW:bK}{lo hi:Option WP}{eK vL:rN}{pos p2:Pos}
theorem Mm:m1 X none Mk:=by
 intro aj s σ H Q I h;rw[evalPart_none];exact SL ⟨none,H,I,.none,h⟩
theorem Mn(h:bY X e bW):m1 X (some e) (Ml bW):=by
 intro aj s σ H Q I hw;rw[evalPart_some];refine cl (h aj s σ H _ I hw) λu aC ⟨x,au,a',aq,aM⟩=>?_;obtain⟨i,rfl,q⟩:=aM;obtain⟨t,rfl⟩:=aq;exact⟨some i,au,a',.int i t,q⟩
def zK(X:aU)(r:V->Option Int->Option Int->am->cq->Prop):Prop:=
 ∀(aj:ZY)(s:TD)(σ:St)(H:am)(x:V)(v hP jl:SZ)(lo hi:Option Int)(sl:TI)(Q:cq),Inv X aj σ H s->RelV x v->s.heap.IsSliceOf sl hP jl .none->Zw hP lo->Zw jl hi->r x lo hi H Q->
  ∃T id,typeLookup (.type T) "__getitem__"=pure (some (.builtin id))/\s.TypeIs v T/\wpAny (Wp X.prog X.w) X.A (ZF v (.ref sl)) (gY X aj σ Q) X.xe s
def Mo(r:V->Option Int->Option Int->am->cq->Prop)(bW:bK)(eK vL:rN):bK:=λσ H Q=>bW σ H λx au=>eK σ au λl aS=>vL σ aS λu cG=>r x l u cG Q
theorem Et{r:V->Option Int->Option Int->am->cq->Prop}(ao:zK X r)(aD:bY X e bW)(ap:m1 X lo eK)(a2:m1 X hi vL):bY X (.Subscript e (.Slice lo hi none p2) pos) (Mo r bW eK vL):=by
 intro aj s σ H Q I h;refine Subscript_ (cl (aD aj s σ H _ I h) λv aC ⟨x,au,a',aq,aM⟩=>?_);refine wpAny_Slice (cl (ap aj aC σ au _ a' aM) λhP bf ⟨l,aS,da,cr,a4⟩=>cl (a2 aj bf σ aS _ da a4) λjl cR ⟨u,cG,cY,n5,dx⟩=>?_);rw[evalPart_none];refine SL ?_;have oU:Inv X aj σ cG {cR with heap:=cR.heap.push {cls:=.type "slice",data:=.fields #[hP,jl,.none]} }:=cY.kept (t':=cR.toks) λb bO q=>Heap.get?_push_of_some _ q;obtain⟨T,id,ej,aR,aF⟩:=ao aj {cR with heap:=cR.heap.push {cls:=.type "slice",data:=.fields #[hP,jl,.none]} } σ cG x v hP jl l u cR.heap.objs.size Q oU aq (Heap.IsSliceOf.new ..) cr n5 dx;show wpAny (Wp X.prog X.w) X.A (subscriptTail e (.Slice lo hi none p2) v (.ref cR.heap.objs.size)) (gY X aj σ Q) X.xe {cR with heap:=cR.heap.push {cls:=.type "slice",data:=.fields #[hP,jl,.none]} }
 exact tail_any (ops:=[.ref cR.heap.objs.size,v]) aR ej aF (by with_unfolding_all rfl)
def qi(xs:ZL)(lo hi:Option Int):List V:=(xs.drop (HT.sIx xs.length 0 lo)).take (HT.sIx xs.length xs.length hi-HT.sIx xs.length 0 lo)
theorem Eu(xs:ZL)(lo hi:Option Int):(qi xs lo hi).length<=xs.length:=by
 unfold qi;rw[TP,Ur];lia
def Mp(K:Su):V->Option Int->Option Int->am->cq->Prop:=λx lo hi H Q=>∃a xs,x=.ref a/\eX K H a xs /\
 ¬(HT.sIx xs.length 0 lo=0/\HT.sIx xs.length xs.length hi=xs.length)/\∀p,H p=none->Q (.ref p) (upd H p (.tup (qi xs lo hi)))
theorem Mq:zK X (Mp X.K):=by
 intro aj s σ H x v hP jl lo hi sl Q I bn av cr n5 h;obtain⟨a,xs,rfl,al,hw,q⟩:=h;cases bn;obtain⟨its,r,aR,hz⟩:=I.tuple al;have eE:its.toArray.size=xs.length:=by rw[SS];exact r.length.symm
 refine⟨"tuple",_,VL.lookup,aR.typeIs,?_⟩;refine HT.getItem_tuple_cut aR av cr n5 (by rw[eE];exact hw) ?_ (by rw[eE];exact hz);rw[eE];refine⟨.ref s.heap.objs.size,_,I.laid (t':=s.toks) (o:=.tup (qi xs lo hi)) (λb bO q=>Heap.get?_push_of_some _ q) (SF _) ?_,rfl,q _ (I.hok.fresh (SF _))⟩;exact⟨SD (Eu xs lo hi) hz,_,(r.drop (HT.sIx xs.length 0 lo)).take (HT.sIx xs.length xs.length hi-HT.sIx xs.length 0 lo),IsTup.new _ _⟩
end
def ixN(n:Nat)(i:Int):Option Nat:=if 0<=i then(if i<n then some i.toNat else none)else if -(n:Int)<=i then some (i+n).toNat else none
def eu{α:Type}(xs:List α)(i:Int):Option α:=(ixN xs.length i).bind λj=>xs[j]?
theorem Ev{n:Nat}{i:Int}{j:Nat}(h:ixN n i=some j):seqIndex? i n=some j/\j<n /\ -(n:Int)<=i/\i<n:=by
 unfold ixN at h;by_cases h0:0<=i
 ·rw[Tk h0]at h;by_cases h1:i<n
  ·rw[Tk h1]at h;have e:i.toNat=j:=SO h;exact⟨by rw[YG h0 h1,e],by lia,by lia,h1⟩
  rw[Tl h1]at h;cases h
 rw[Tl h0]at h;by_cases h1 : -(n:Int)<=i
 ·rw[Tk h1]at h;have e:(i+n).toNat=j:=SO h;exact⟨by rw[Zq (by lia) h1,e],by lia,h1,by lia⟩
 rw[Tl h1]at h;cases h
theorem Ew{α:Type}{xs:List α}{i:Int}{v:α}(h:eu xs i=some v):∃j,seqIndex? i xs.length=some j/\xs[j]?=some v/\j<xs.length /\ -(xs.length:Int)<=i/\i<xs.length:=by
 unfold eu at h;cases e:ixN xs.length i with
 |none=>rw[e]at h;cases h
 |some j=>
  rw[e]at h;obtain⟨h1,aa,aH,a6⟩:=Ev e;exact⟨j,h1,h,aa,aH,a6⟩
def s9(b:WP):Prop:=∀o i,subscripted b false o i=operate [o,i] (ZF o i)
def rO(X:aU)(r:iz):Prop:=
 ∀(value slice:WP)(aj:ZY)(s:TD)(σ:St)(H:am)(x y:V)(v u:SZ)(Q:cq),Inv X aj σ H s->RelV x v->RelV y u->r x y H Q->
  subscripted slice false v u=operate [v,u] (ZF v u)->wpAny (Wp X.prog X.w) X.A (subscriptTail value slice v u) (gY X aj σ Q) X.xe s
def ta(X:aU)(id:String)(r:V->ZL->am->cq->Prop):Prop:=
 ∀(aj:ZY)(s:TD)(σ:St)(H:am)(x:V)(xs:ZL)(v:SZ)(us:ZU)(Q:cq),Inv X aj σ H s->RelV x v->bN xs us->r x xs H Q->
  wpAny (Wp X.prog X.w) X.A (call (.builtin id) (v::us)) (gY X aj σ Q) X.xe s
section
variable{X:aU}{a b:WP}{bL tb:bK}{pos:Pos}
theorem l9{r:iz}(ao:rO X r)(aw:bY X a bL)(ae:bY X b tb)(av:s9 b):bY X (.Subscript a b pos) (n2 r bL tb):=by
 intro aj s σ H Q I h;exact Subscript_ (zA aw ae I h λv u bf x y aS da bn cg q=>ao a b aj bf σ aS x y v u Q da bn cg q (av _ _))
def Mr(K:Su):iz:=λx y H Q=>∃p xs i v,x=.ref p/\y=.int i/\cN K H p xs/\eu xs i=some v/\Q v H
def Ms(K:Su):iz:=λx y H Q=>∃p xs i v,x=.ref p/\y=.int i/\eX K H p xs/\eu xs i=some v/\Q v H
theorem zL:rO X (Mr X.K):=by
 intro value slice aj s σ H x y v u Q I bn cg h av;obtain⟨p,xs,i,z,rfl,rfl,ay,aD,q⟩:=h;cases bn;obtain⟨t,rfl⟩:=cg;obtain⟨its,r,cr,hz⟩:=I.list ay;obtain⟨j,h1,aa,aH,a6,cH⟩:=Ew aD;obtain⟨w,m2,l6⟩:=r.get aa;have ap:=r.length;have aO:=s6;have e9:gY X aj σ Q w s:=⟨z,H,I,l6,q⟩;by_cases h0:0<=i
 ·have bC:i.toNat=j:=by
   rw[YG h0 cH]at h1;exact SO h1
  exact item_listR cr.isList h0 (by lia) (by rw[bC];simpa using m2) e9 av
 have bC:(i+(its.toArray.size:Int)).toNat=j:=by
  rw[Zq (by lia) a6]at h1;rw[SS,<-ap];exact SO h1
 exact YL (x:=w) cr.isList.typeIs slot_list_getitem.lookup
  (wpAny_getItem_list_neg (Q:=λr s'=>r=w/\gY X aj σ Q r s') cr.isList (by lia) (by rw[SS]<;>lia) (by lia) (by rw[bC];simpa using m2) ⟨rfl,e9⟩) av
theorem Ex:rO X (Ms X.K):=by
 intro value slice aj s σ H x y v u Q I bn cg h av;obtain⟨p,xs,i,z,rfl,rfl,ay,aD,q⟩:=h;cases bn;obtain⟨t,rfl⟩:=cg;obtain⟨its,r,cr,hz⟩:=I.tuple ay;obtain⟨j,h1,aa,aH,a6,cH⟩:=Ew aD;obtain⟨w,m2,l6⟩:=r.get aa;have ap:=r.length;have aO:=s6;have e9:gY X aj σ Q w s:=⟨z,H,I,l6,q⟩
 exact YL (x:=w) cr.typeIs slot_tuple_getitem.lookup
  (getItem_tuple (j:=j) (Q:=λr s'=>r=w/\gY X aj σ Q r s') cr (by lia) (by lia) (by rw[SS,<-ap];exact h1) (by simpa using m2) ⟨rfl,e9⟩) av
theorem Mt(its:ZU)(n j:Nat)(u:SZ):Obj.mapSeq (·.setIfInBounds j u) {cls:=.type "list",data:=.seq its.toArray n}={cls:=.type "list",data:=.seq (its.set j u).toArray n}:=by
 simp[Obj.mapSeq]
theorem Inv.lst{aj:ZY}{σ:St}{H:am}{s:TD}{p:TI}{xs:ZL}(I:Inv X aj σ H s)(h:H p=some (.lst xs)):
  ∃(its:ZU)(n:Nat),bN xs its/\s.heap.get? p=some {cls:=.type "list",data:=.seq its.toArray n}/\xs.length<=TT:=by
 obtain⟨z,its,n,r,e⟩:=I.hok p _ h;exact⟨its,n,r,e,z⟩
theorem Inv.lstUpd{aj:ZY}{σ:St}{H:am}{s:TD}{p:TI}{xs ys:ZL}{its its':ZU}{n ka:Nat}{f:Obj->Obj}(I:Inv X aj σ H s)(h:H p=some (.lst xs))(ax:s.heap.get? p=some {cls:=.type "list",data:=.seq its.toArray n})(bD:f {cls:=.type "list",data:=.seq its.toArray n}={cls:=.type "list",data:=.seq its'.toArray ka})(r:bN ys its')(hz:ys.length<=TT)(t:Nat):
  Inv X aj σ (upd H p (.lst ys)) {s with heap:=s.heap.update p f,toks:=t}:=by
 have e:(s.heap.update p f).get? p=some {cls:=.type "list",data:=.seq its'.toArray ka}:=by
  rw[Heap.get?_update_self f ax (by rw[bD]<;>rfl),bD]
 refine I.write (x:=p) (e:=p) (by rw[h];trivial) (.inl rfl) (λb u ae q=>(Heap.get?_update_other _ _ (Ta ae)).trans q) ⟨_,e⟩ ?_;exact⟨hz,its',ka,r,e⟩
def Mu:V->V->V->am->(am->Prop)->Prop:=λo i v H Q=>∃p xs k j,o=.ref p/\i=.int k/\H p=some (.lst xs)/\ixN xs.length k=some j/\Q (upd H p (.lst (xs.set j v)))
theorem zM:D1 X Mu:=by
 intro aj s σ H o i v ji iQ u Q I Mv Mw b6 h;obtain⟨p,xs,k,j,rfl,rfl,ag,bC,q⟩:=h;cases Mv;obtain⟨t,rfl⟩:=Mw;obtain⟨its,n,r,ax,hz⟩:=I.lst ag;obtain⟨h1,aa,aH,a6⟩:=Ev bC;have ap:=r.length;have aO:=s6
 have mV:Inv X aj σ (upd H p (.lst (xs.set j v))) {s with heap:=s.heap.update p (Obj.mapSeq (·.setIfInBounds j u))}:=
  I.lstUpd ag ax (Mt its n j u) (r.set b6 j) (by rw[Ui];exact hz) s.toks
 by_cases h0:0<=k
 ·have ah:k.toNat=j:=by
   rw[YG h0 a6]at h1;exact SO h1
  exact PySem.W.ki_setAt ax h0 (by lia) (by rw[SS,<-ap];exact a6) (by rw[ah];exact⟨_,mV,q⟩)
 have ah:(k+(its.toArray.size:Int)).toNat=j:=by
  rw[Zq (by lia) aH]at h1;rw[SS,<-ap];exact SO h1
 exact PySem.W.ki_setBack ax (by lia) (by rw[SS,<-ap];exact aH) (by lia) (by rw[ah];exact⟨_,mV,q⟩)
theorem Mx(lo hi:Option Int)(n:Nat):(Ye lo hi none n).1=((HT.sIx n 0 lo:Nat):Int)/\(Ye lo hi none n).2.1=((HT.sIx n n hi:Nat):Int)/\(Ye lo hi none n).2.2=1:=by
 refine⟨?_,?_,rfl⟩
 ·cases lo with
  |none=>simp[Ye,HT.sIx]
  |some i=>
   simp only[Ye,HT.sIx,U9,show(1:Int)>0 by decide,if_true];by_cases h:i<0
   ·simp only[h,if_true]<;>lia
   simp only[h,if_false]<;>lia
 cases hi with
 |none=>simp[Ye,HT.sIx]
 |some i=>
  simp only[Ye,HT.sIx,U9,show(1:Int)>0 by decide,if_true];by_cases h:i<0
  ·simp only[h,if_true]<;>lia
  simp only[h,if_false]<;>lia
theorem My(its:ZU)(lo hi:Option Int):slicePick its.toArray lo hi none=((its.drop (HT.sIx its.length 0 lo)).take (HT.sIx its.length its.length hi-HT.sIx its.length 0 lo)).toArray:=by
 obtain⟨h1,aa,aH⟩:=Mx lo hi its.toArray.size;unfold slicePick;rw[h1,aa,aH];simp only[sliceRange_one,pick_run,SS]<;>rfl
def Mz(K:Su):V->Option Int->Option Int->am->cq->Prop:=λx lo hi H Q=>∃a xs,x=.ref a/\cN K H a xs/\∀p,H p=none->Q (.ref p) (upd H p (.lst (qi xs lo hi)))
theorem MA:zK X (Mz X.K):=by
 intro aj s σ H x v hP jl lo hi sl Q I bn av cr n5 h;obtain⟨a,xs,rfl,al,q⟩:=h;cases bn;obtain⟨its,r,aR,hz⟩:=I.list al;have eE:=r.length;refine⟨"list",_,slot_list_getitem.lookup,aR.isList.typeIs,?_⟩;refine wpAny_getItem_list_slice aR.isList av cr n5 .none (by simp) ?_ (by rw[SS]<;>lia);rw[My,<-eE];refine⟨.ref s.heap.objs.size,_,I.laid (t':=s.toks) (o:=.lst (qi xs lo hi)) (λb bO q=>Heap.get?_push_of_some _ q) (SF _) ?_,rfl,q _ (I.hok.fresh (SF _))⟩;exact⟨SD (Eu xs lo hi) hz,_,0,(r.drop (HT.sIx xs.length 0 lo)).take (HT.sIx xs.length xs.length hi-HT.sIx xs.length 0 lo),Heap.get?_push_size _ rfl⟩
theorem zN:n1 X (.builtin "len") (λxs H Q=>∃p ys,xs=[.ref p]/\(cN X.K H p ys\/eX X.K H p ys)/\Q (.int ys.length) H):=by
 intro aj s σ H xs us Q I r h;obtain⟨p,ys,rfl,ay,q⟩:=h;obtain⟨u,rfl,bn⟩:=vals1 r;cases bn;have aO:=s6;rcases ay with ay|ay
 ·obtain⟨its,dn,cr,hz⟩:=I.list ay;have eE:=dn.length;exact Calls.call_len_list cr.isList (by simp only[SS]<;>lia) ⟨.int ys.length,H,I.tok _,⟨s.toks+1,by rw[SS,eE]⟩,q⟩
 obtain⟨its,dn,cr,hz⟩:=I.tuple ay;have eE:=dn.length;exact len_tuple cr (by simp only[SS]<;>lia) ⟨.int ys.length,H,I.tok _,⟨s.toks+1,by rw[SS,eE]⟩,q⟩
theorem MB:n1 X (.type "list") (λxs H Q=>∃p ys,xs=[.ref p]/\(cN X.K H p ys\/eX X.K H p ys)/\∀l,H l=none->Q (.ref l) (upd H l (.lst ys))):=by
 intro aj s σ H xs us Q I r h;obtain⟨p,ys,rfl,ay,q⟩:=h;obtain⟨u,rfl,bn⟩:=vals1 r;cases bn
 have e9:∀(its:ZU),bN ys its->ys.length<=TT->∀(h':XB)(c':Nat),(∀b fJ,s.heap.get? b=some fJ->h'.get? b=some fJ)->
   h'.get? s.heap.objs.size=some {cls:=.type "list",dict:=none,data:=.seq its.toArray c',slots :=#[]}->gY X aj σ Q (.ref s.heap.objs.size) {s with heap:=h' }:=λits dn hz h' c' kp e=>
  ⟨.ref s.heap.objs.size,_,I.laid (t':=s.toks) kp (SF _) (show gl X.prog X.w _ h' _ (.lst ys)from⟨hz,its,c',dn,e⟩),rfl,q _ (I.hok.fresh (SF _))⟩
 rcases ay with ay|ay
 ·obtain⟨its,dn,cr,hz⟩:=I.list ay;have eE:=dn.length;obtain⟨o,ax,hc,n,hd⟩:=cr.isList;exact call_list_seq p (.inl rfl) ax hc hd (λh' c' kp e=>e9 its dn hz h' c' kp e) (by simp only[SS]<;>lia)
 obtain⟨its,dn,cr,hz⟩:=I.tuple ay;have eE:=dn.length;obtain⟨o,ax,hc,n,hd⟩:=cr;exact call_list_seq p (.inr rfl) ax hc hd (λh' c' kp e=>e9 its dn hz h' c' kp e) (by simp only[SS]<;>lia)
def vM(K:Su)(T:String)(x:V)(H:am):Prop:=match x with
 |.str _=>T="str"
 |.int _=>T="int"
 |.ref p=>(T="list"/\∃xs,cN K H p xs)\/(T="tuple"/\∃o,K.lookup p=some o/\o.cls=.type "tuple"/\o.dict=none) \/
   (T="dict"/\((∃kvs,H p=some (.dK kvs))\/∃kvs,H p=some (.dT kvs)))\/(T="set"/\∃S n,H p=some (.set S n))
 |_=>False
theorem Ey{aj:ZY}{σ:St}{H:am}{s:TD}{T:String}{x:V}{v:SZ}(I:Inv X aj σ H s)(r:RelV x v)(ty:vM X.K T x H):
  s.TypeIs v T/\∀a,v=.ref a->∃bO,s.heap.get? a=some bO/\bO.dict=none:=by
 cases x with
 |str z=>
  obtain⟨t,rfl⟩:=r;cases(show T="str" from ty);exact⟨typeIs_str s z t,λ_ e=>nomatch e⟩
 |int i=>
  obtain⟨t,rfl⟩:=r;cases(show T="int" from ty);exact⟨typeIs_int s i t,λ_ e=>nomatch e⟩
 |ref p=>
  cases r;rcases ty with⟨rfl,xs,ay⟩|⟨rfl,o,ah,hc,hd⟩|⟨rfl,ah⟩|⟨rfl,S,n,ah⟩
  ·obtain⟨its,_,cr,_⟩:=I.list ay;refine⟨cr.isList.typeIs,λa e=>?_⟩;cases e;obtain⟨o,n,e,c,hd,_⟩:=cr;exact⟨o,e,hd⟩
  ·refine⟨⟨o,I.kIn p o ah,hc⟩,λa e=>?_⟩;cases e;exact⟨o,I.kIn _ o ah,hd⟩
  ·have z:∃o,s.heap.get? p=some o/\o.ExactDict:=by
    rcases ah with⟨kvs,ah⟩|⟨kvs,ah⟩
    ·obtain⟨_,_,_,_,o,_,_,e,ex,_⟩:=I.hok p _ ah;exact⟨o,e,ex⟩
    obtain⟨_,_,_,_,o,_,_,e,ex,_⟩:=I.hok p _ ah;exact⟨o,e,ex⟩
   obtain⟨o,e,ex⟩:=z;refine⟨⟨o,e,ex.1⟩,λa ar=>?_⟩;cases ar;exact⟨o,e,ex.2.1⟩
  obtain⟨o,_,_,_,e,ex,_⟩:=I.hok p _ ah;refine⟨⟨o,e,ex.1⟩,λa ar=>?_⟩;cases ar;exact⟨o,e,ex.2.1⟩
 |_=>exact Tp ty
def MC(K:Su)(T:String)(r:V->ZL->am->cq->Prop)(to:bK):bK:=λσ H Q=>to σ H λx au=>vM K T x au/\r x [] au Q
def MD(K:Su)(T:String)(r:V->ZL->am->cq->Prop)(to:bK)(t:e8):bK:=λσ H Q=>to σ H λx au=>vM K T x au/\t σ au λxs aS=>r x xs aS Q
variable{o e:WP}{es:ZW}{to:bK}{t:e8}{name:Str}{dd cb:Pos}{T id:String}{r:V->ZL->am->cq->Prop}
theorem Ez(pa:PlainAttrs T)(slot:Slot T name id)(td:typeOf (.builtin id)=pure (.type "method_descriptor"))(aA:ta X id r)(ax:bY X o to)(fy:iv X o name:=by rfl)(fA:iw dd cb:=by rfl):bY X (.Call (.Attribute o name dd) [] [] cb) (MC X.K T r to):=by
 intro aj s σ H Q I h;refine wpAny_Call_method0_late fy fA (cl (ax aj s σ H _ I h) λv aC ⟨x,au,a',aq,ty,aM⟩=>?_);obtain⟨h1,aa⟩:=Ey a' aq ty;exact⟨T,id,pa,slot,td,h1,aa,Calls.callWith_builtin rfl (Ww (aA aj aC σ au x [] v [] Q a' aq .nil aM))⟩
theorem qj(pa:PlainAttrs T)(slot:Slot T name id)(td:typeOf (.builtin id)=pure (.type "method_descriptor"))(aA:ta X id r)(ax:bY X o to)(aw:hp X (e::es) t)(fy:iv X o name:=by rfl)(hv:kI X cb (e::es):=by rfl)(fA:iw dd cb:=by rfl)(av:eQ X e es:=by rfl)(kJ:g8 X cb es:=by rfl):
  bY X (.Call (.Attribute o name dd) (e::es) [] cb) (MD X.K T r to t):=by
 intro aj s σ H Q I h;refine YM fy hv fA rfl (cl (ax aj s σ H _ I h) λv aC ⟨x,au,a',aq,ty,aM⟩=>?_);obtain⟨h1,aa⟩:=Ey a' aq ty;refine⟨T,id,pa,slot,td,h1,aa,?_⟩;have h2:=aw cb aj aC σ au _ a' aM;rw[av]at h2⊢;refine Calls.callWith_builtin (by show(false||(X8 cb (UV es X.env)).any (·.1))=false;rw[kJ]<;>rfl) (Calls.evalArgs_plain ?_);exact cl h2 λus bf ⟨vs,aS,da,aN,a4⟩=>aA aj bf σ aS x vs v us Q da aq aN a4
end
def te(X:aU)(id:String)(r:V->ZL->am->cq->Prop):Prop:=
 ∀(aj:ZY)(s:TD)(σ:St)(H:am)(x:V)(xs:ZL)(v:SZ)(us:ZU)(Q:cq),Inv X aj σ H s->RelV x v->bN xs us->r x xs H Q->
  wpAny (Wp X.prog X.w) X.A (call (.builtin id) (v::us)) (gY X aj σ Q) X.xe s
theorem bN.one:∀{x:V}{us:ZU},bN [x] us->∃u,us=[u]/\RelV x u
 |_,_,.cons r .nil=>⟨_,rfl,r⟩
theorem bN.two:∀{x y:V}{us:ZU},bN [x,y] us->∃u v,us=[u,v]/\RelV x u/\RelV y v
 |_,_,_,.cons r (.cons q .nil)=>⟨_,_,rfl,r,q⟩
theorem bN.zero:∀{us:ZU},bN [] us->us=[]
 |_,.nil=>rfl
theorem bN.dropLast{xs:ZL}{us:ZU}(h:bN xs us):bN xs.dropLast us.dropLast:=by
 induction h with
 |nil=>exact .nil
 |cons r t b9=>
  cases t with
  |nil=>exact .nil
  |cons q t'=>exact .cons r b9
theorem bN.eraseIdx:∀{xs:ZL}{us:ZU}(i:Nat),bN xs us->bN (xs.eraseIdx i) (us.eraseIdx i)
 |_,_,_,.nil=>.nil
 |_,_,0,.cons _ t=>t
 |_,_,i+1,.cons r t=>.cons r (bN.eraseIdx i t)
theorem ME{α:Type}(l:List α):l.eraseIdx (l.length-1)=l.dropLast:=by
 induction l with
 |nil=>rfl
 |cons a r b9=>
  cases r with
  |nil=>rfl
  |cons b r=>
   have e:(a::b::r).length-1=((b::r).length-1)+1:=by
    have h1:(a::b::r).length=r.length+2:=rfl;have aa:(b::r).length=r.length+1:=rfl;lia
   rw[e,Wx,b9]
   all_goals rfl
theorem zO{α:Type}:∀(l:List α)(i:Nat),(l.eraseIdx i).length<=l.length
 |[],_=>SF _
 |_::_,0=>TV _
 |_::r,i+1=>Nat.succ_le_succ (zO r i)
section
variable{X:aU}{aj:ZY}{σ:St}{H:am}{s:TD}{l b:TI}{xs ys dM:ZL}
theorem Inv.lset{its its':ZU}{n:Nat}{f:Array SZ->Array SZ}{t':Nat}(I:Inv X aj σ H s)(fK:H l=some (.lst xs))(e:s.heap.get? l=some {cls:=.type "list",data:=.seq its.toArray n})(bD:f its.toArray=its'.toArray)(aL:bN ys its')(hz:ys.length<=TT):
  Inv X aj σ (upd H l (.lst ys)) {s with heap:=s.heap.update l (Obj.mapSeq f),toks:=t' }:=by
 have q:=PySem.IsL.update e f;rw[bD]at q;refine I.write (x:=l) (e:=l) (by rw[fK];exact trivial) (.inl rfl) (λhx u ae a2=>(Heap.get?_update_other s.heap (Obj.mapSeq f) (Ta ae)).trans a2) ⟨_,q⟩ ?_;exact⟨hz,its',_,aL,q⟩
theorem Inv.lnew{its:ZU}{t':Nat}(I:Inv X aj σ H s)(aL:bN ys its)(hz:ys.length<=TT):
  Inv X aj σ (upd H s.heap.objs.size (.lst ys)) {s with heap:=s.heap.push {cls:=.type "list",data:=.seq its.toArray},toks:=t' }:=
 I.laid (λ_ _ q=>Heap.get?_push_of_some _ q) (SF _) ⟨hz,its,0,aL,Heap.get?_push_size _ rfl⟩
theorem Inv.fresh(I:Inv X aj σ H s):H s.heap.objs.size=none:=I.hok.fresh (SF _)
theorem Inv.lstM(I:Inv X aj σ H s)(fK:H l=some (.lst xs)):xs.length<=TT/\∃(its:ZU)(n:Nat),bN xs its/\xs.length=its.length/\s.heap.get? l=some {cls:=.type "list",data:=.seq its.toArray n}:=by
 obtain⟨z,its,n,r,e⟩:=I.hok l _ fK;exact⟨z,its,n,r,r.length,e⟩
theorem EA{n:Nat}(h:n<=TT):Builtin.List.listTooLong n=false:=by
 unfold Builtin.List.listTooLong;exact decide_eq_false (by lia)
end
section
variable{X:aU}
def EB:V->ZL->am->cq->Prop:=λx vs H Q=>∃l xs y,x=.ref l/\vs=[y]/\H l=some (.lst xs)/\xs.length<TT/\Q .non (upd H l (.lst (xs++[y])))
theorem vN:te X "list.append" EB:=by
 intro aj s σ H x vs v us Q I bn b6 h;obtain⟨l,xs,y,rfl,rfl,fK,hz,q⟩:=h;cases bn;obtain⟨u,rfl,hs⟩:=b6.one;obtain⟨z,its,n,r,ap,e⟩:=I.lstM fK;refine Zm F.slot_list_append ⟨_,e,rfl⟩ F.entry_list_append (F.args_list_append_2 _ _) (PySem.list_append l its.toArray n u (by rw[SS];lia)) ⟨e,?_⟩;refine⟨.non,_,I.lset (its':=its++[u]) fK e (by simp) (r.append (.cons hs .nil)) ?_,rfl,q⟩;rw[Sx,Tn];lia
def MF:V->ZL->am->cq->Prop:=λx vs H Q=>∃l b xs dM,x=.ref l/\vs=[.ref b]/\H l=some (.lst xs)/\H b=some (.lst dM)/\xs.length+dM.length<=TT/\Q .non (upd H l (.lst (xs++dM)))
theorem MG:te X "list.extend" MF:=by
 intro aj s σ H x vs v us Q I bn b6 h;obtain⟨l,b,xs,dM,rfl,rfl,fK,hb,hz,q⟩:=h;cases bn;obtain⟨u,rfl,hs⟩:=b6.one;cases hs;obtain⟨z,its,n,r,ap,e⟩:=I.lstM fK;obtain⟨a8,g0,cO,aN,vO,ar⟩:=I.lstM hb;have kf:its.toArray.size+g0.toArray.size<=TT:=by rw[SS,SS];lia
 have zP:¬(!its.toArray.isEmpty&&Builtin.List.listTooLong (its.toArray.size+g0.toArray.size))=true:=by
  rw[EA kf,Bool.and_false];exact SP
 refine Zm F.slot_list_extend ⟨_,e,rfl⟩ F.entry_list_extend (F.args_list_extend_2 _ _)
  (AutoSeq1.list_extend_list_list_0 l its.toArray n b g0.toArray cO zP (by rw[SS];lia) (by lia)) ⟨e,ar,?_⟩
 refine⟨.non,_,I.lset (its':=its++g0) fK e (by simp) (r.append aN) ?_,rfl,q⟩;rw[Sx];lia
def MH:V->ZL->am->cq->Prop:=λx vs H Q=>∃l xs y,x=.ref l/\vs=[]/\H l=some (.lst xs)/\xs[xs.length-1]?=some y/\Q y (upd H l (.lst xs.dropLast))
theorem EC:te X "list.pop" MH:=by
 intro aj s σ H x vs v us Q I bn b6 h;obtain⟨l,xs,y,rfl,rfl,fK,aP,q⟩:=h;cases bn;have MI:=b6.zero;subst MI;obtain⟨z,its,n,r,ap,e⟩:=I.lstM fK;obtain⟨u,a2,hs⟩:=r.get aP
 have m3:its.toArray[its.toArray.size-1]?=some u:=by
  show its.toArray[its.length-1]?=some u
  rw[<-UE,<-ap];exact a2
 refine Zm F.slot_list_pop ⟨_,e,rfl⟩ F.entry_list_pop (F.args_list_pop_1 _) (MeetsSeq.list_pop_last l its.toArray n u m3 (by rw[SS];lia)) ⟨e,?_⟩;refine⟨y,_,I.lset (its':=its.dropLast) fK e ?_ r.dropLast ?_,hs,q⟩
 ·show its.toArray.eraseIdxIfInBounds (its.toArray.size-1)=its.dropLast.toArray
  rw[SS,Wy,ME]
 rw[List.length_dropLast];lia
def MJ:V->ZL->am->cq->Prop:=λx vs H Q=>∃l xs i k y,x=.ref l/\vs=[.int i]/\H l=some (.lst xs) /\ -(2^63)<=i/\i<2^63/\seqIndex? i xs.length=some k/\xs[k]?=some y/\Q y (upd H l (.lst (xs.eraseIdx k)))
theorem ED:te X "list.pop" MJ:=by
 intro aj s σ H x vs v us Q I bn b6 h;obtain⟨l,xs,i,k,y,rfl,rfl,fK,h1,aa,ah,aP,q⟩:=h;cases bn;obtain⟨u,rfl,hs⟩:=b6.one;obtain⟨t,rfl⟩:=hs;obtain⟨z,its,n,r,ap,e⟩:=I.lstM fK;obtain⟨w,hw,l6⟩:=r.get aP
 refine Zm F.slot_list_pop ⟨_,e,rfl⟩ F.entry_list_pop (F.args_list_pop_2 _ _)
  (MeetsSeq.list_pop_at l its.toArray n i t k w (fitsIndex_both h1 aa) (by rw[SS,<-ap];exact ah) (by rw[<-UE];exact hw) (by rw[SS];lia)) ⟨e,?_⟩
 refine⟨y,_,I.lset (its':=its.eraseIdx k) fK e ?_ (r.eraseIdx k) ?_,l6,q⟩
 ·show its.toArray.eraseIdxIfInBounds k=(its.eraseIdx k).toArray
  rw[Wy]
 have:=zO xs k;lia
def MK:iz:=λx y H Q=>∃l b xs dM,x=.ref l/\y=.ref b/\H l=some (.lst xs)/\H b=some (.lst dM)/\xs.length+dM.length<=TT/\∀p,H p=none->Q (.ref p) (upd H p (.lst (xs++dM)))
theorem ML:gJ X (YF .Add) MK:=by
 intro aj s σ H x y v u Q I bn cg h;obtain⟨l,b,xs,dM,rfl,rfl,fK,hb,hz,q⟩:=h;cases bn;cases cg;obtain⟨z,its,n,r,ap,e⟩:=I.lstM fK;obtain⟨a8,g0,cO,aN,vO,ar⟩:=I.lstM hb;refine PySem.P.add_list e ar ?_ (by rw[SS,SS];lia);have dv:its.toArray++g0.toArray=(its++g0).toArray:=by simp
 rw[dv];exact⟨.ref _,_,I.lnew (t':=s.toks) (r.append aN) (by rw[Sx];lia),rfl,q _ I.fresh⟩
end
section
variable{prog:WF}{w:Xx}{A:Xy}{E:SZ->TD->Prop}{s:TD}
set_option maxRecDepth 100000 in
end
end L2
namespace Att
open PySem PySem.W PySem.Calls PyProof.Rows
theorem MM{P:Params}{h:XB}:∀(ns:ZI)(vs:ZU),WellAll P h vs (ns.map WData.int)->YV vs ns:=by
 intro ns;induction ns with
 |nil=>
  intro vs w;rw[Ts]at w;cases w;exact .nil
 |cons n ns b9=>
  intro vs w;rw[SH]at w;cases w with
  |cons a b=>
   cases a;exact .cons _ _ (b9 _ b)
theorem MN{l:OpenLaw}{n:Nat}(aO:l.most=some n){P:Params}{h:XB}{args:List WData}{vals:ZU}(he:l.row.toRowW.claim.pre args=true)(zQ:WellAll P h vals args):
  ∃a vs ns,vals=[Value.ref a]/\args=[WData.list (ns.map WData.int)]/\h.get? a=some {cls:=.type "list",data:=.seq vs.toArray}/\YV vs ns/\ns.length<=n:=by
 have hsh:WShape.hasAll [] args [.list .int]=true:=(pre_splitW he).1;have hc:l.pre.holds [] {args:=args}=true:=(pre_splitW he).2;obtain⟨d,r,rfl,h1,aa⟩:=hasAllW_cons hsh;obtain rfl:=hasAllW_nil aa;obtain⟨xs,rfl,aH⟩:=hasW_list h1;obtain⟨ns,rfl⟩:=items_int aH
 have eE:ns.length<=n:=by
  unfold OpenLaw.pre at hc
  have a6:(WTm.not (.lt (.lit (.int (n:Int))) (.len (.arg 0)))).holds [] {args:=[.list (ns.map .int)]}=true:=by
   have a6:=(holds_andW hc).1;rwa[aO]at a6
  have cH:=condW_of a6 (w_not (w_lt w_lit (w_len_list (w_arg rfl))));rw[Sv]at cH;refine Nat.le_of_not_lt λq=>?_;have ho:(n:Int)<((ns.length:Nat):Int):=by lia
  first
   | (rw[Xw ho]at cH;exact absurd cH (by decide))
   | (simp at cH;lia)
 cases zQ with
 |cons eI fQ=>
  cases fQ;cases eI with
  |list ax rP=>exact⟨_,_,ns,rfl,rfl,ax,MM ns _ rP,eE⟩
theorem MO(l:OpenLaw)(args:List WData):l.row.toRowW.claim.post args (.bool true) args=true:=
 postW_of (r:=l.row.toRowW) (X:=(true==true))
  (show WShape.has [] (.bool true) .bool=true by first|rfl|decide|simp[WShape.has,WShape.arms,WShape.armsAll])
  (show(WTm.eq .res (.lit (.bool true))).value [] {args:=args,res:=some (.bool true),after:=args}=some (.bool (true==true))from w_eq_bool (w_res rfl) w_lit) rfl
theorem attach_call{l:OpenLaw}{n:Nat}{q:WF}{loose:ZT}{XP:(Str->Option SZ)->XB->Prop}{YP:Xx->XB->Prop}{d:DefRec}(aO:l.most=some n)(zR:d.params.defaults=[])(call:∀(w:Xx) (s₀ dX:TD) (mg gU:Str->Option SZ) (fB:TI) (o:Obj) (pm eH doc:SZ) (a:TI) (vs:ZU) (ns:ZI),Ground q loose [] XP w s₀ mg gU dX.heap->YP w dX.heap->dX.heap.get? fB=some o->o.data=.func (docDef d.name d.params d.body d.scope pm eH doc)->dX.heap.CodeRec eH d.name->mg d.name=some (.ref fB)->dX.heap.get? a=some {cls:=.type "list",data:=.seq vs.toArray}->YV vs ns->ns.length<=n->dX.gens = #[]->codeAny (Wp l.prog w) Zn (.call (.ref fB) ⟨[.ref a],[]⟩) (λr s'=>r=.ok (.ret (.bool true))/\OldK dX.heap s'.heap/\s'.os=dX.os/\YQ s'.gens) dX):
  WalkO q loose XP YP l.row.toRowW d [] (λf vs=>PySem.call f vs):=by
 intro w s₀ dX mg gU G Y fB o pm eH doc vJ kV ax hd dI jJ tg aF args vals as he agv agw zQ agx;obtain rfl:vJ=.none:=Dflts.none jJ zR;obtain rfl:kV=.none:=Dflts.noKw jJ;obtain⟨a,vs,ns,rfl,rfl,zS,hints,eE⟩:=MN aO he zQ;refine enter_call (YU (call w s₀ dX mg gU fB o pm eH doc a vs ns G Y ax (fd_plain hd) dI tg zS hints eE aF) λr s' ay=>?_);obtain⟨rfl,aa,aH,a6⟩:=ay;exact⟨.inl ⟨.bool true,.bool true,[],rfl,λ_=>rfl,.bool true,MO l _,λ_=>⟨List.Pairwise.nil,λ_ aA=>(nomatch aA)⟩⟩,aa,aH,a6⟩
end Att
namespace L2
open PySem PySem.Spec PyProof.Rows
theorem zT:∀{vs:ZU}{ns:ZI},YV vs ns->bN (ns.map V.int) vs
 |_,_,.nil=>.nil
 |_,_,.cons n t h=>.cons ⟨t,rfl⟩ (zT h)
def EE(H:am):Prop:=∀b,H b=none\/(∃o xs,H b=some (.frz o (.lst xs)))\/∃ps,H b=some (.tbl ps)
theorem MP{P:WF}{w:Xx}{K:Su}{mg gU:Str->Option SZ}{gb:m0}{k:Nat}{fB a:TI}{fd:X3}{x:Str}{sp:iA}{dX:TD}{vs:ZU}{ns:ZI}(o0:K.In dX.heap)(m4:dX.heap.Ns Uf mg)(ae:dX.heap.Ns XW gU)(rQ:∀x:Str,x≠"__name__"->gU x=XK x)(MQ:dX.heap.NoLimit)(aF:dX.gens = #[])(aw:dX.heap.get? a=some {cls:=.type "list",data:=.seq vs.toArray})(hi:YV vs ns)(ap:ns.length<=TT)(ao:eF k Zn)(F:∀base:XB,K.In base->base.Ns Uf mg->ke P w K mg base gb k fB fd [x] sp)(qk:∀(s:TD) (u:SZ),ZE s fd ⟨[u],[]⟩ [(x,u)])(T0:am)(ej:∀b u,T0 b=some u->(∃ps,u=eg.tbl ps)/\dX.heap.get? b=some {cls:=.none,data:=.fields #[]}/\K.lookup b=none/\isCodeTable dX.heap b)(tb:oR K T0)(oZ:∀H:am,EE H->cN K H a (ns.map V.int)->sp [.ref a] H (λv _=>v=.bl true) λ_ _ _=>False)(MR:∀H e s',gb [] H dX (λ_ _ _=>False) e s'->False):
  codeAny (Wp P w) Zn (.call (.ref fB) ⟨[.ref a],[]⟩) (λr s'=>r=.ok (.ret (.bool true))/\OldK dX.heap s'.heap/\s'.os=dX.os/\YQ s'.gens) dX:=by
 have b6:=zT hi;have MS:=hi.length
 have core:∀H:am,EE H->cN K H a (ns.map V.int)->e7 P w H dX.heap->(∀b u,H b=some u->(b=a/\∃o xs,u=.frz o (.lst xs))\/T0 b=some u)->(∀b u,H b=some u->K.lookup b=none)->oR K H->
   codeAny (Wp P w) Zn (.call (.ref fB) ⟨[.ref a],[]⟩) (λr s'=>r=.ok (.ret (.bool true))/\OldK dX.heap s'.heap/\s'.os=dX.os/\YQ s'.gens) dX:=by
  intro H EF ga hok h2 dJ hb;have EG:∀{b:TI}{o:Obj},dX.heap.get? b=some o->H b=none->(nO dX.heap H).get? b=some o:=λe n=>KI e n
  have s8:∀{b:TI}{o:Obj}{es:Array YC}{a0:Nat},dX.heap.get? b=some o->o.data=.dict es a0->H b=none:=λ{b o es a0} e d=>by
   cases q:H b with
   |none=>rfl
   |some u=>
    rcases h2 b u q with⟨bv,_⟩|bv
    ·subst bv;rw[aw]at e;cases e;cases d
    rw[(ej b u bv).2.1]at e;cases e;cases d
  have vP:∀{b:TI}{m:Str->Option SZ},dX.heap.Ns b m->(nO dX.heap H).Ns b m:=λ{b m} ⟨o,es,a0,e,d,r⟩=>⟨o,es,a0,EG e (s8 e d),d,r⟩
  have EH:K.In (nO dX.heap H):=λb o e=>EG (o0 b o e) (by
   cases q:H b with
   |none=>rfl
   |some u=>rw[dJ b u q]at e;cases e)
  have hQ:Mod K mg (nO dX.heap H):=⟨EH,vP m4,⟨gU,vP ae,rQ⟩,let⟨th,h1,aa⟩:=MQ;⟨th,vP h1,aa⟩⟩;have ec:vI P w K mg (nO dX.heap H) Zn [] dX H:=⟨rfl,hQ,λb o e=>KJ e,VM (KH _ _),trivial,λb ae=>absurd (show b∈([]:ZV)from ae) (by simp),hok,.of_eq aF,hb⟩;refine YU ((F _ EH (vP m4)).run Zn [] dX H ⟨[.ref a],[]⟩ [.ref a] [.ref a] _ _ ao ec (qk dX (.ref a)) (.cons rfl .nil) (oZ H EF ga)) λr s' h=>?_;cases r with
  |error e=>exact(MR H e s' h).elim
  |ok iT=>
   cases iT with
   |next=>exact Tp h
   |brk=>exact Tp h
   |cont=>exact Tp h
   |ret u=>
    obtain⟨v,ak,os,bare,un,EI,dn,q⟩:=h;have ho:v=.bl true:=q;subst ho;obtain rfl:u=Value.bool true:=dn
    have EJ:∀b u,H b=some u->T0 b=some u->∃bz,s'.heap.get? b=some {cls:=.none,data:=.fields bz}:=λb u q z=>by
     obtain⟨⟨ps,rfl⟩,_⟩:=ej b u z;obtain⟨more,a8⟩:=un.tbls b ps q;obtain⟨bz,ar,_⟩:=EI b _ a8;exact⟨bz,ar⟩
    have EK:∀b o bO xs,dX.heap.get? b=some o->H b=some (.frz bO (.lst xs))->s'.heap.get? b=some o:=λb o bO xs e z=>by
     have a8:=un.frzs b bO _ z;obtain⟨ai,_⟩:=hok b _ z;obtain⟨ar,_⟩:=EI b _ a8;rw[e]at ai;cases ai;exact ar
    have EL:∀b o,dX.heap.get? b=some o->H b=none->s'.heap.get? b=some o:=λb o e q=>un.keep b o e q (by intro z;exact absurd (show b∈([]:ZV)from z) (by simp)) (by simp);refine⟨rfl,⟨λb o e=>?_,λb o e=>?_⟩,os,bare⟩
    ·cases q:H b with
     |none=>exact .inl (EL b o e q)
     |some u=>
      rcases h2 b u q with⟨_,bO,xs,rfl⟩|z
      ·exact .inl (EK b o bO xs e q)
      obtain⟨bz,ar⟩:=EJ b u q z;obtain⟨_,ai,_,ct⟩:=ej b u z;rw[e]at ai;cases ai;exact .inr (.inl ⟨ct,rfl,#[],bz,rfl,by rw[ar];simp⟩)
    cases q:H b with
    |none=>exact⟨o,EL b o e q⟩
    |some u=>
     rcases h2 b u q with⟨_,bO,xs,rfl⟩|z
     ·exact⟨o,EK b o bO xs e q⟩
     obtain⟨bz,ar⟩:=EJ b u q z;exact⟨_,ar⟩
 have tok:∀(H:am) b u,T0 b=some u->gl P w H dX.heap b u:=λH b u z=>by
  obtain⟨⟨ps,rfl⟩,e,_⟩:=ej b u z;exact⟨#[],e,trivial,λpos cv hc=>by cases hc⟩
 have kK:T0 a=none:=by
  cases z:T0 a with
  |none=>rfl
  |some u=>have:=(ej a u z).2.1;rw[aw]at this;cases this
 cases ah:K.lookup a with
 |some o=>
  have e:=o0 a o ah;rw[aw]at e;cases e;refine core T0 (λb=>?_) (.inr ⟨_,vs.toArray,_,ah,rfl,rfl,rfl,by rw[SS,MS];exact ap,by simpa using b6⟩) (λb u z=>tok T0 b u z) (λb u z=>.inr z) (λb u z=>(ej b u z).2.2.1) tb;cases z:T0 b with
  |none=>exact .inl rfl
  |some u=>obtain⟨⟨ps,rfl⟩,_⟩:=ej b u z;exact .inr (.inr ⟨ps,rfl⟩)
 |none=>
  have ql:∀b,b≠a->(if b=a then some (eg.frz {cls:=.type "list",data:=.seq vs.toArray} (.lst (ns.map V.int)))else T0 b)=T0 b:=λb ae=>Tl ae;refine core (λb=>if b=a then some (.frz {cls:=.type "list",data:=.seq vs.toArray} (.lst (ns.map V.int)))else T0 b) (λb=>?_) (.inl (.inr ⟨{cls:=.type "list",data:=.seq vs.toArray},Tk rfl⟩)) (λb u z=>?_) (λb u z=>?_) (λb u z=>?_) (λp ag=>?_)
  ·by_cases ae:b=a
   ·exact .inr (.inl ⟨_,_,Tk ae⟩)
   dsimp only;rw[ql b ae];cases z:T0 b with
   |none=>exact .inl rfl
   |some u=>obtain⟨⟨ps,rfl⟩,_⟩:=ej b u z;exact .inr (.inr ⟨ps,rfl⟩)
  ·by_cases ae:b=a
   ·have f9:=(Tk ae).symm.trans z;cases f9;subst ae;exact⟨aw,by rw[Sv];exact ap,vs,_,b6,aw⟩
   exact tok _ b u ((ql b ae).symm.trans z)
  ·by_cases ae:b=a
   ·have f9:=(Tk ae).symm.trans z;cases f9;exact .inl ⟨ae,_,_,rfl⟩
   exact .inr ((ql b ae).symm.trans z)
  ·by_cases ae:b=a
   ·rw[ae];exact ah
   exact(ej b u ((ql b ae).symm.trans z)).2.2.1
  obtain⟨ps,t,ai,ar⟩:=tb p ag;have ae:p.1≠a:=λz=>by rw[z,kK]at ai;cases ai
  exact⟨ps,t,(ql _ ae).trans ai,ar⟩
def qm(s:XE):X1:=match s with
 |.FunctionDef _ a _ _ _ _ _ _ _ _=>a
 |_=>{posonlyargs:=[],args:=[],vararg:=none,kwonlyargs:=[],kw_defaults:=[],kwarg:=none,defaults:=[]}
def kg(s:XE):List XE:=match s with
 |.FunctionDef _ _ b _ _ _ _ _ _ _=>b
 |_=>[]
def bZ(s:XE):XV:=match s with
 |.FunctionDef _ _ _ _ _ _ sc _ _ _=>sc
 |_=>{kind:=.function,names:=[],isGenerator:=false,isCoroutine:=false}
abbrev kh:m0:=λ_ _ _ _ _ _=>False
abbrev vQ:gW:=λ_ _ _=>False
theorem MT{X:aU}:zH kh X vQ:=λ_ _ _ _ _ _ _ h=>h.elim
structure m5 (K:Su) (x qual:Str) (st:XE) (f:TI) (fd:X3):Prop where
 ex:∃(oc:SZ)(od:Option TI)(kV doc pm:SZ)(an:Option TI)(cdv ct:SZ)(osl:Array (Option SZ)),
  fd=UD x qual (qm st) (kg st) (bZ st) .none kV doc pm an cdv ct/\K.lookup f=some ⟨oc,od,.func fd,osl⟩/\VK K cdv qual=true
 kp:U8 K (.ref f)=true
section
variable{P:WF}{w:Xx}{K:Su}{mg:Str->Option SZ}{base:XB}
theorem m5.ok{x qual:Str}{st:XE}{f:TI}{fd:X3}{N ps:ZT}{k:Nat}{sp:iA}(F:m5 K x qual st f fd)(S:cC N ps (bZ st))(len:∀vs H Q E,sp vs H Q E->vs.length=ps.length)(hu:∀(cdv:SZ) (A:Xy) (outer:List Env) (s:TD) (H:am) (vs:ZL) (Q:cq) (E:gW),eF k (A.deeper (Y5 qual (bZ st) s.heap.objs.size f cdv))->sp vs H Q E->∃t,jh (ly kh P w K mg base N qual (bZ st) f cdv A outer s H E).nox (kg st) t/\t {nx:=λ_ ak=>Q .non ak,rt:=Q} (start N vs) H):ke P w K mg base kh (k+1) f fd ps sp:=by
 obtain⟨oc,od,kV,doc,pm,an,cdv,ct,osl,rfl,lk,dI⟩:=F.ex;refine En lk dI S len λA outer s H vs Q E ao oZ=>?_;obtain⟨t,h,q⟩:=hu cdv A outer s H vs Q E ao oZ;exact⟨t,h.nox,q⟩
theorem m5.binds{x qual:Str}{st:XE}{f:TI}{fd:X3}{ps:ZT}(F:m5 K x qual st f fd)(h:∀(kV doc pm:SZ) (an:Option TI) (cdv ct:SZ) (us:ZU),us.length=ps.length->YY (UD x qual (qm st) (kg st) (bZ st) .none kV doc pm an cdv ct) ⟨us,[]⟩=pure (ps.zip us)):Binds K fd ps []:=by
 obtain⟨oc,od,kV,doc,pm,an,cdv,ct,osl,rfl,lk,dI⟩:=F.ex;exact .all (h kV doc pm an cdv ct)
theorem MU{x qual:Str}{st:XE}{f:TI}{oc:SZ}{od an:Option TI}{osl:Array (Option SZ)}{kV doc pm cdv ct:SZ}(l:K.lookup f=some ⟨oc,od,.func (UD x qual (qm st) (kg st) (bZ st) .none kV doc pm an cdv ct),osl⟩)(c:VK K cdv qual=true)(k:U8 K (.ref f)=true):m5 K x qual st f (UD x qual (qm st) (kg st) (bZ st) .none kV doc pm an cdv ct):=⟨⟨oc,od,kV,doc,pm,an,cdv,ct,osl,rfl,l,c⟩,k⟩
end
section
variable{X:aU}
theorem f2(i:Nat){x:Str}{pos:Pos}(bF:gG X i x:=by rfl)(aL:gy X.env.scope x:=by walk_at"v")(hd:ed x:=by decide)(dI:gV x:=by decide):bY X (.Name x pos) (zq i):=g9 bF aL hd dI
end
theorem gB{A B:Prop}(h:B):if false=true then A else B:=by
 rw[Tl SP];exact h
theorem EM{A B:Prop}(h:A):if true=true then A else B:=by
 rw[Tk rfl];exact h
def cw(H ak:am):Prop:=∀b o,H b=some o->ak b=some o
theorem cw.refl(H:am):cw H H:=λ_ _ h=>h
theorem cw.trans{H au aS:am}(a:cw H au)(b:cw au aS):cw H aS:=λc o h=>b c o (a c o h)
theorem cw.free{H ak:am}(e:cw H ak){l:TI}(h:ak l=Option.none):H l=Option.none:=by
 cases q:H l with
 |none=>rfl
 |some o=>
  rw[e l o q]at h;cases h
theorem cw.seq{K:Su}{H ak:am}{a:TI}{xs:ZL}(e:cw H ak)(h:cN K H a xs):cN K ak a xs:=by
 rcases h with(h|⟨o,h⟩)|h
 ·exact .inl (.inl (e _ _ h))
 ·exact .inl (.inr ⟨o,e _ _ h⟩)
 exact .inr h
end L2
set_option maxHeartbeats 4000000
namespace L2
open PySem PySem.Spec PyProof.Rows
open PySem.Builtin.Int (intBits)
def zU(i j:Int):Prop:=SC i<=9000/\SC j<=9000
def vR(_ j:Int):Prop:=j≠0/\SC j<=9000
theorem MV{x y:Int}(h:SC y<=9000):Builtin.divisionGoesByPylong x y=false:=by
 by_cases h0:y=0
 ·subst h0;exact PyProof.noPylong_small (by decide)
 refine PyProof.noPylong_of_log2 ?_;have q:=intBits_le_iff.mp h;have aO:y.natAbs≠0:=by lia
 exact(Nat.log2_lt aO).mpr q
section
variable{X:aU}{a b:WP}{bL tb:bK}{pos:Pos}
theorem ti:gJ X (YF .Mult) (rL zU λi j=>.int (i*j)):=vC λ_ _ _ _ _ _ _ hc q=>mul_int q (IntMulOk.of_le hc.1 hc.2 (by decide))
theorem vS:gJ X (YF .FloorDiv) (rL vR λi j=>.int (i.fdiv j)):=vC λ_ _ _ _ _ _ _ hc q=>floordiv_int hc.1 q (.inl (MV hc.2))
theorem n7:gJ X (XQ .Eq) (lx λi j=>.bl (decide (i=j))):=rM λ_ _ _ _ _ _ _ q=>eq_int (by rw[Wz];exact q)
theorem tj:gJ X (XQ .NotEq) (lx λi j=>.bl (!decide (i=j))):=rM λ_ _ _ _ _ _ _ q=>ne_int (by rw[bne,Wz];exact q)
def MW(H:am)(p:TI)(xs:ZL):Prop:=H p=some (.tup xs)\/H p=some (.lst xs)
def MX:iz:=λx y H Q=>∃p xs i v,x=.ref p/\y=.int i/\MW H p xs/\eu xs i=some v/\Q v H
theorem qn:rO X MX:=by
 intro value slice aj s σ H x y v u Q I bn cg h av;obtain⟨p,xs,i,z,ai,ar,ay,aD,q⟩:=h;rcases ay with ay|ay
 ·exact Ex value slice aj s σ H x y v u Q I bn cg ⟨p,xs,i,z,ai,ar,eX.of ay,aD,q⟩ av
 exact zL value slice aj s σ H x y v u Q I bn cg ⟨p,xs,i,z,ai,ar,cN.of ay,aD,q⟩ av
theorem MY:n1 X (.builtin "isinstance") (λxs H Q=>∃x t n b,xs=[x,.ty n]/\kd X.K H x t/\VH X.K t (.type n)=some b/\Q (.bl b) H):=by
 intro aj s σ H xs us Q I r h;obtain⟨x,t,n,b,rfl,ty,e,q⟩:=h;obtain⟨u,l3,rfl,aq,aN⟩:=vals2 r;cases aN;exact L6 I aq ty e λcZ=>⟨.bl b,H,I.tok _,rfl,q⟩
structure cj (P:WF) (w:Xx) (K:Su) (mg:Str->Option SZ) (base:XB) (x:Str) (ps:ZT) (k:Nat) (sp:iA):Prop where
 ex:∃f fd,mg x=some (.ref f)/\U8 K (.ref f)=true/\Binds K fd ps []/\ke P w K mg base kh k f fd ps sp
structure cM (K:Su) (mg:Str->Option SZ) (x:Str) (st:XE) (ps:ZT):Prop where
 ex:∃f fd,mg x=some (.ref f)/\m5 K x x st f fd/\Binds K fd ps []
theorem cj.imp{P:WF}{w:Xx}{K:Su}{mg:Str->Option SZ}{base:XB}{x:Str}{ps:ZT}{k:Nat}{sp s7:iA}(c:cj P w K mg base x ps k sp)(h:∀vs H Q E,s7 vs H Q E->sp vs H Q E):cj P w K mg base x ps k s7:=by
 obtain⟨f,fd,m,kp,b,F⟩:=c.ex;exact⟨f,fd,m,kp,b,F.imp h⟩
theorem o2{x:Str}{ps:ZT}{j k:Nat}{sp:iA}{p:Pos}{e:WP}{es:ZW}{t:e8}(c:cj X.prog X.w X.K X.mg X.base x ps j sp)(ao:eF k X.A)(aF:eD X x)(aw:hp X (e::es) t)(gC:j<=k:=by decide)(gA:ed x:=by decide)(aD:eQ X e es:=by rfl)(eh:g8 X pos es:=by rfl):
  bY X (.Call (.Name x p) (e::es) [] pos) (Eg sp [] vQ t):=by
 obtain⟨f,fd,m,kp,b,F⟩:=c.ex;exact Mb F (ao.mono gC) aF m kp b .nil MT aw gA aD eh
theorem cM.ok{P:WF}{w:Xx}{K:Su}{mg:Str->Option SZ}{base:XB}{x:Str}{st:XE}{N ps:ZT}{k:Nat}{sp:iA}(F:cM K mg x st ps)(S:cC N ps (bZ st))(len:∀vs H Q E,sp vs H Q E->vs.length=ps.length)(hu:∀(f:TI) (cdv:SZ) (A:Xy) (outer:List Env) (s:TD) (H:am) (vs:ZL) (Q:cq) (E:gW),eF k (A.deeper (Y5 x (bZ st) s.heap.objs.size f cdv))->sp vs H Q E->∃t,jh (ly kh P w K mg base N x (bZ st) f cdv A outer s H E).nox (kg st) t/\t {nx:=λ_ ak=>Q .non ak,rt:=Q} (start N vs) H):cj P w K mg base x ps (k+1) sp:=by
 obtain⟨f,fd,m,tk,b⟩:=F.ex;exact⟨f,fd,m,tk.kp,b,tk.ok S len (hu f)⟩
end
theorem hy{p:Prop}[Decidable p]{A B:Prop}(h1:p->A)(aa:¬p->B):if decide p=true then A else B:=by
 by_cases h:p
 ·rw[Xw h];exact h1 h
 rw[decide_eq_false h];exact aa h
theorem MZ{p:Prop}[Decidable p]{A B:Prop}(h1:¬p->A)(aa:p->B):if(!decide p)=true then A else B:=by
 by_cases h:p
 ·rw[Xw h];exact aa h
 rw[decide_eq_false h];exact h1 h
def m6(b:TI)(H ak:am):Prop:=∀a o,a≠b->H a=some o->ak a=some o
theorem m6.trans{b:TI}{H au aS:am}(e:m6 b H au)(f:m6 b au aS):m6 b H aS:=λa o n h=>f a o n (e a o n h)
theorem m6.upd(b:TI)(H:am)(o:eg):m6 b H (L2.upd H b o):=λa u n h=>by rw[bV n];exact h
theorem vT{H:am}{p:TI}(h:H p=none)(o:eg):cw H (L2.upd H p o):=λb u q=>by rw[bV (hm q h)];exact q
end L2
namespace L2
open PySem PySem.Spec PyProof.Rows
theorem e7.but{P:WF}{w:Xx}{H:am}{h h':XB}{C:TI}(x:e7 P w H h)(n:H C=none)(k:∀b u,b≠C->h.get? b=some u->h'.get? b=some u):e7 P w H h':=λa o e=>
 (x a o e).stay (λb u ae q=>k b u (by rcases ae with rfl|ae;exact hm e n;exact hm ae n) q) (λ_ q=>q) (λ_ _ q=>q) λ_ _ _ q=>q
theorem f0.but{fs ex:ZV}{H ak:am}{h h1 aa:XB}{C:TI}(u:f0 fs ex H ak h h1)(zV:h.get? C=none)(k:∀b u,b≠C->h1.get? b=some u->aa.get? b=some u):f0 fs ex H ak h aa where
 keep:=λb o q n f e=>k b o (by rintro rfl;rw[zV]at q;cases q) (u.keep b o q n f e)
 slot:=λb o q n f e=>by
  obtain⟨sl,z⟩:=u.slot b o q n f e;exact⟨sl,k b _ (by rintro rfl;rw[zV]at q;cases q) z⟩
 free:=u.free
 there:=λb o q e=>by
  obtain⟨fJ,z⟩:=u.there b o q e;exact⟨fJ,k b _ (by rintro rfl;rw[zV]at q;cases q) z⟩
 tups:=u.tups
 frzs:=u.frzs
 tbls:=u.tbls
def ek(X:aU)(N:ZT)(scope:XV)(bM:List (Str×TI))(C:TI)(s:TD)(H:am)(ex:ZV):aU:=
 {X with N:=N,s₀:=s,H₀:=H,env:=YZ scope bM C X.env,outer:=X.stack,ex:=ex,fn:=λ_=>false,pn:=[],xe:=λ_ _=>False}
def iU(σ:St)(js:ZP):St:=js.map λj=>(σ[j]?).join
theorem bN.getR:∀{xs:ZL}{us:ZU}{i:Nat}{u:SZ},bN xs us->us[i]?=some u->∃x,xs[i]?=some x/\RelV x u
 |_,_,_,_,.nil,e=>by simp at e
 |_,_,0,_,.cons r _,e=>by simp at e;subst e;exact⟨_,rfl,r⟩
 |_,_,i+1,u,.cons _ t,e=>by
  obtain⟨x,h1,aa⟩:=bN.getR (i:=i) (u:=u) t (by simpa using e);exact⟨x,by simpa using h1,aa⟩
section
variable{X:aU}
theorem M0(hc:X.calm=true):n1 X (.builtin "all") (λxs H Q=>∃l ys,xs=[.ref l]/\H l=some (.lst ys)/\(∀y∈ys,y=.bl true)/\Q (.bl true) H):=by
 intro aj s σ H xs us Q I r h;obtain⟨l,ys,rfl,ap,aR,q⟩:=h;obtain⟨u,rfl,aq⟩:=vals1 r;cases aq;obtain⟨its,b6,cr,hz⟩:=I.list (cN.of ap);have zW:=cr.isList
 have de:l<s.heap.objs.size:=by
  obtain⟨_,e,_⟩:=zW;exact Heap.lt_size e
 refine call_all_walk (Yc zW ⟨s.heap.objs.size,[s.heap.objs.size,l],[s.heap.objs.size],its.toArray.size,_,_,λ_=>true,rfl,Walks.list (A:=X.A.in1) (I.ok.hd hc) _ l (S3 de) its.toArray,?_,?_,?_⟩)
 ·exact⟨⟨_,Heap.get?_push_size _ rfl,rfl,rfl⟩,zW.push _⟩
 ·intro i v s' p9 zX eJ hq;obtain⟨y,gc,cg⟩:=b6.getR (i:=i) (u:=v) (by simpa using eJ);have e:=aR y (S9 gc);subst e;cases cg;exact XD hq
 intro h' cZ ah;have e:((S4 its.toArray.size).all λ_=>true)=true:=by simp
 rw[e];refine⟨.bl true,H,I.kept (h':=h') (t':=cZ) λb o fS=>?_,rfl,q⟩;refine ah b o (λaA=>?_) (Heap.get?_push_of_some _ fS);rw[SN.mp aA]at fS;exact TU _ (Heap.lt_size fS)
end
end L2
namespace Cut
open PySem
open PySem.Builtin.Int (intBits)
theorem zY{x:Int}(h1 : -(2^64)<x)(aa:x<2^64):SC x<=64:=intBits_le_64 h1 aa
theorem gd{x t:Int}{n:Nat}(h:x.natAbs<=t.natAbs)(aR:SC t<=n):SC x<=n:=Y1 h aR
def a3(x y:Int):Prop:=0<y/\Ss x y=1
theorem EN{x y:Int}(al:0<=x)(aP:0<y):Ss y (x%y)=Ss x y:=by
 obtain⟨m,rfl⟩:=WA al;obtain⟨n,rfl⟩:=WA (Tg aP);have e:((m:Int)%(n:Int))=((m%n:Nat):Int):=rfl;rw[e];show Th n (m%n)=Th m n
 rw[VN m n,Nat.gcd_rec n m,VN]
theorem EO(a b:Int):Ss (if a<0 then -a else a) (if b<0 then -b else b)=Ss a b:=by
 have e:∀z:Int,(if z<0 then -z else z).natAbs=z.natAbs:=λz=>by split<;>lia
 unfold Ss;rw[e,e]
theorem gcd_zero_left{x:Int}(h:0<=x):((Ss x 0:Nat):Int)=x:=by
 rw[WB];lia
theorem qo{t b:Int}(ae:b≠0):0<((Ss t b:Nat):Int):=by
 have:0<Ss t b:=U' t ae;lia
theorem EP{t b g s:Int}(ae:b≠0)(aF:g=(Ss t b:Nat))(av:s=g/\0<b\/s = -g/\b<0):
  a3 (t.fdiv s) (b.fdiv s)/\t.fdiv s*b=t*b.fdiv s/\(t.fdiv s).natAbs<=t.natAbs/\(b.fdiv s).natAbs<=b.natAbs:=by
 have gp:0<g:=by rw[aF];exact qo ae
 have b7:g∣t:=by rw[aF];exact Va t b
 have cc:g∣b:=by rw[aF];exact UY t b
 have aC:s∣t:=by rcases av with⟨h,_⟩|⟨h,_⟩<;>rw[h];exact b7;exact UG.mpr b7
 have bf:s∣b:=by rcases av with⟨h,_⟩|⟨h,_⟩<;>rw[h];exact cc;exact UG.mpr cc
 have s0:s≠0:=by rcases av with⟨h,_⟩|⟨h,_⟩<;>lia
 obtain⟨x,al⟩:=aC;obtain⟨y,aP⟩:=bf;have ex:t.fdiv s=x:=by rw[al];exact UH x s0
 have gc:b.fdiv s=y:=by rw[aP];exact UH y s0
 have ai:(t.fdiv s).natAbs<=t.natAbs:=Xv t s;have ar:(b.fdiv s).natAbs<=b.natAbs:=Xv b s;refine⟨⟨?_,?_⟩,?_,ai,ar⟩
 ·rw[gc];rcases av with⟨h,ag⟩|⟨h,ag⟩
  ·rw[aP,h]at ag;exact T8 ag gp
  rw[aP,h]at ag;have:0<g*y:=by rw[Us]at ag;lia
  exact T8 this gp
 ·rw[ex,gc]
  have q:Ss t b=s.natAbs*Ss x y:=by
   rw[al,aP,VO]
  have EQ:s.natAbs=g.toNat:=by rcases av with⟨h,_⟩|⟨h,_⟩<;>lia
  have n8:g.toNat=Ss t b:=by lia
  rw[EQ,n8]at q;have pos:0<Ss t b:=U' t ae;have:Ss t b*Ss x y=Ss t b*1:=by lia
  exact VP pos this
 rw[ex,gc];have:x*b=x*(s*y):=by rw[<-aP]
 have aa:t*y=s*x*y:=by rw[<-al]
 rw[this,aa,<-Uj,S6 x s]
theorem n9{k n m:Int}(h:k∣n*m)(g:Ss k n=1):k∣m:=by
 have q:=Int.dvd_gcd_mul_iff_dvd_mul.mpr h;rw[g]at q;simpa using q
theorem zZ{x y hA fL:Int}(h:a3 x y)(h':a3 hA fL)(e:x*fL=hA*y):x=hA/\y=fL:=by
 obtain⟨p,g⟩:=h;obtain⟨l7,g'⟩:=h'
 have b7:y∣fL:=by
  have:y∣x*fL:=⟨hA,by rw[e,S6]⟩;exact n9 this (by rw[TX];exact g)
 have cc:fL∣y:=by
  have:fL∣hA*y:=⟨x,by rw[<-e,S6]⟩;exact n9 this (by rw[TX];exact g')
 have gc:y=fL:=Int.dvd_antisymm (Tg p) (Tg l7) b7 cc;refine⟨?_,gc⟩;rw[gc]at e;exact TG (by lia) e
end Cut
namespace Cut
def m7(x y z:Int):Prop:=0<z/\Ss (Ss x y:Nat) z=1
theorem vU(a b n:Int):Ss (Ss a n:Nat) b=Th (Th a.natAbs b.natAbs) n.natAbs:=by
 show Th (Th a.natAbs n.natAbs) b.natAbs=_
 rw[Nat.gcd_assoc,VN n.natAbs,<-Nat.gcd_assoc]
theorem z0(a b n:Int):Ss (Ss a b:Nat) n=Th (Th a.natAbs b.natAbs) n.natAbs:=rfl
theorem M1(a b n:Int):Ss (Ss n a:Nat) b=Ss (Ss a n:Nat) b:=by
 rw[TX n a]
theorem ER{a b n:Int}(aO:n≠0):0<((Ss (Ss a n:Nat) b:Nat):Int):=by
 rw[vU];have:0<Th (Th a.natAbs b.natAbs) n.natAbs:=Nat.gcd_pos_of_pos_right _ (by lia);lia
theorem ES(a b n:Int):((Ss (Ss a n:Nat) b:Nat):Int)∣a/\((Ss (Ss a n:Nat) b:Nat):Int)∣b/\((Ss (Ss a n:Nat) b:Nat):Int)∣n:=by
 rw[vU];have h1:=UZ (Th a.natAbs b.natAbs) n.natAbs;have aa:=Vb (Th a.natAbs b.natAbs) n.natAbs;refine⟨?_,?_,?_⟩
 ·exact UI.mpr (Vc h1 (UZ _ _))
 ·exact UI.mpr (Vc h1 (Vb _ _))
 exact UI.mpr aa
theorem ET{a b n g s:Int}(aO:n≠0)(aF:g=(Ss (Ss a n:Nat) b:Nat))(av:s=g/\0<n\/s = -g/\n<0):
  m7 (a.fdiv s) (b.fdiv s) (n.fdiv s)/\a.fdiv s*n=a*n.fdiv s/\b.fdiv s*n=b*n.fdiv s/\(a.fdiv s).natAbs<=a.natAbs/\(b.fdiv s).natAbs<=b.natAbs/\(n.fdiv s).natAbs<=n.natAbs:=by
 have gp:0<g:=by rw[aF];exact ER aO
 obtain⟨b7,cc,d3⟩:=ES a b n;rw[<-aF]at b7 cc d3;have s0:s≠0:=by rcases av with⟨h,_⟩|⟨h,_⟩<;>lia
 have tl:∀z:Int,g∣z->s∣z:=λz hz=>by
  rcases av with⟨h,_⟩|⟨h,_⟩<;>rw[h]
  ·exact hz
  exact UG.mpr hz
 obtain⟨x,al⟩:=tl a b7;obtain⟨y,aP⟩:=tl b cc;obtain⟨z,hz⟩:=tl n d3;have ex:a.fdiv s=x:=by rw[al];exact UH x s0
 have gc:b.fdiv s=y:=by rw[aP];exact UH y s0
 have rS:n.fdiv s=z:=by rw[hz];exact UH z s0
 refine⟨⟨?_,?_⟩,?_,?_,VQ a s,VQ b s,VQ n s⟩
 ·rw[rS];rcases av with⟨h,ag⟩|⟨h,ag⟩
  ·rw[hz,h]at ag;exact T8 ag gp
  rw[hz,h]at ag;have:0<g*z:=by rw[Us]at ag;lia
  exact T8 this gp
 ·rw[ex,gc,rS,z0];rw[vU,al,aP,hz,Tw,Tw,Tw,Vd,Vd]at aF;have EQ:s.natAbs=g.toNat:=by rcases av with⟨h,_⟩|⟨h,_⟩<;>lia
  have pos:0<s.natAbs:=by lia
  have q:s.natAbs*Th (Th x.natAbs y.natAbs) z.natAbs=s.natAbs*1:=by lia
  exact VP pos q
 ·rw[ex,rS];have h1:x*n=x*(s*z):=by rw[<-hz]
  have aa:a*z=s*x*z:=by rw[<-al]
  rw[h1,aa,<-Uj,S6 x s]
 rw[gc,rS];have h1:y*n=y*(s*z):=by rw[<-hz]
 have aa:b*z=s*y*z:=by rw[<-aP]
 rw[h1,aa,<-Uj,S6 y s]
theorem z1{x y z hA fL f9:Int}(g:Ss (Ss x y:Nat) z=1)(ai:x*f9=hA*z)(ar:y*f9=fL*z):z∣f9:=by
 have b7:z.natAbs∣x.natAbs*f9.natAbs:=⟨hA.natAbs,by rw[<-Tw,ai,Tw,VR]⟩;have cc:z.natAbs∣y.natAbs*f9.natAbs:=⟨fL.natAbs,by rw[<-Tw,ar,Tw,VR]⟩;have d3:z.natAbs∣z.natAbs*f9.natAbs:=⟨f9.natAbs,rfl⟩;have q:=Nat.dvd_gcd (Nat.dvd_gcd b7 cc) d3;rw[WC,WC]at q;rw[z0]at g;rw[g,Nat.one_mul]at q;exact Ut.mp q
theorem vV{x y z hA fL f9:Int}(h:m7 x y z)(h':m7 hA fL f9)(ai:x*f9=hA*z)(ar:y*f9=fL*z):x=hA/\y=fL/\z=f9:=by
 have b7:=z1 h.2 ai ar;have cc:=z1 h'.2 ai.symm ar.symm;have rS:z=f9:=Int.dvd_antisymm (Tg h.1) (Tg h'.1) b7 cc;subst rS;have ki:z≠0:=SA h.1;exact⟨TG ki ai,TG ki ar,rfl⟩
theorem M2{a b n:Int}{k:Nat}(aO:n≠0)(h:VS n<=k):VS ((Ss (Ss a n:Nat) b:Nat):Int)<=k:=by
 refine PySem.intBits_le_of_natAbs ?_ h;exact VT (by lia) (Ut.mpr (ES a b n).2.2)
theorem l'{u v:Int}(a2:0<u)(aL:0<v):u*v≠0:=SA (SE a2 aL)
theorem z2{x y z:Int}(h:m7 x y z):m7 (-x) (-y) z:=by
 refine⟨h.1,?_⟩;have g:=h.2;rw[z0]at g⊢;rw[Int.natAbs_neg,Int.natAbs_neg];exact g
end Cut
namespace L3
open PySem L2
open PySem.Builtin.Int (intBits)
inductive D where
 |non|bl (b:Bool)|int (i:Int)|str (x:Str)|ty (n:String)|tup (xs:List D)|lst (xs:List D)|scr (ns:ZI)|ktup (xs:List D)|kfn (f:TI)|dct (b:Bool) (ks:List ZZ) (ds:List D)
abbrev ZK:=List D
abbrev Z0:=List ZK
inductive lz where
 |l (ds:ZK)|d (b:Bool) (t:Option TI) (ks:List ZZ) (ds:ZK)
instance:Coe ZK lz:=⟨lz.l⟩
inductive ge where
 |ll (a:TI) (as:ZV) (dss:Z0)|dl (b:Bool) (a:TI) (ks:List ZZ) (as:ZV) (dss:Z0)|nl (a:TI) (ds:ZK)
def ge.adr:ge->TI
 |.ll a _ _=>a
 |.dl _ a _ _ _=>a
 |.nl a _=>a
def ge.ins:ge->ZV
 |.ll _ as _=>as
 |.dl _ _ _ as _=>as
 |.nl _ _=>[]
def ge.dss:ge->Z0
 |.ll _ _ x=>x
 |.dl _ _ _ _ x=>x
 |.nl _ _=>[]
inductive aK where
 |no|val (d:D)|own (c:lz)|bag|new (d:D)|pin (v:V) (d:D)|deep (c:ge)
abbrev ZM:=List aK
def o3(b:Bool)(k:ZZ):Int:=
 if b then X5 (Builtin.Tuple.tupleHashOf (k.map λks=>X5 (Builtin.Tuple.tupleHashOf (ks.map Zj))))else X5 (Builtin.Tuple.tupleHashOf ((k.headD []).map Zj))
def gr(b:Bool)(k:ZZ):D:=if b then .tup (k.map λks=>.tup (ks.map D.int))else .tup ((k.headD []).map D.int)
def kL(b:Bool):List ZZ->ZV->ZU->List YC
 |k::ks,a::as,u::us=>⟨o3 b k,.ref a,u⟩::kL b ks as us
 |_,_,_=>[]
def hB(b:Bool)(a:TI)(a0:Nat)(ks:List ZZ)(as:ZV)(vs:ZL):eg:=.ext λh=>ks.length<=TT/\as.length=ks.length/\vs.length=ks.length/\(a==XH)=false /\
 ∃us:ZU,bN vs us/\∃o es,h.get? a=some o/\o.ExactDict/\o.data=.dict es a0/\es.toList=kL b ks as us/\ks.Nodup
mutual
inductive bU (K:Su) (B:am):V->D->Prop where
 |non:bU K B .non .non
 |bl (b:Bool):bU K B (.bl b) (.bl b)
 |int (i:Int):bU K B (.int i) (.int i)
 |str (x:Str):bU K B (.str x) (.str x)
 |ty (n:String):bU K B (.ty n) (.ty n)
 |tup {a:TI} {vs:ZL} {ds:ZK} (h:B a=some (.tup vs)) (r:Reps K B vs ds):bU K B (.ref a) (.tup ds)
 |lst {a:TI} {vs:ZL} {ds:ZK} (h:B a=some (.lst vs)) (r:Reps K B vs ds):bU K B (.ref a) (.lst ds)
 |scr {a:TI} {ns:ZI} (h:cN K B a (ns.map V.int)):bU K B (.ref a) (.scr ns)
 |ktup {a:TI} {vs:ZL} {ds:ZK} (h:eX K B a vs) (r:Reps K B vs ds):bU K B (.ref a) (.ktup ds)
 |kfn (f:TI):bU K B (.ref f) (.kfn f)
 |dct {a:TI} {b:Bool} {a0:Nat} {ks:List ZZ} {as:ZV} {vs:ZL} {ds:ZK} (h:B a=some (hB b a a0 ks as vs)) (ah:Reps K B (as.map V.ref) (ks.map (gr b))) (ae:b=false->∀k∈ks,∃l,k=[l]) (r:Reps K B vs ds):bU K B (.ref a) (.dct b ks ds)
inductive Reps (K:Su) (B:am):ZL->ZK->Prop where
 |nil:Reps K B [] []
 |cons {v:V} {d:D} {vs:ZL} {ds:ZK} (h:bU K B v d) (r:Reps K B vs ds):Reps K B (v::vs) (d::ds)
end
theorem EU{K:Su}{H ak:am}{a:TI}{xs:ZL}(e:cw H ak)(h:eX K H a xs):eX K ak a xs:=by
 rcases h with(h|⟨o,h⟩)|h
 ·exact .inl (.inl (e _ _ h))
 ·exact .inl (.inr ⟨o,e _ _ h⟩)
 exact .inr h
section
variable{K:Su}{B az:am}
mutual
theorem bU.mono(s:cw B az):∀{v:V}{d:D},bU K B v d->bU K az v d
 |_,_,.non=>.non
 |_,_,.bl b=>.bl b
 |_,_,.int i=>.int i
 |_,_,.str x=>.str x
 |_,_,.ty n=>.ty n
 |_,_,.tup h r=>.tup (s _ _ h) (Reps.mono s r)
 |_,_,.lst h r=>.lst (s _ _ h) (Reps.mono s r)
 |_,_,.scr h=>.scr (s.seq h)
 |_,_,.ktup h r=>.ktup (EU s h) (Reps.mono s r)
 |_,_,.kfn f=>.kfn f
 |_,_,.dct h ah ae r=>.dct (s _ _ h) (Reps.mono s ah) ae (Reps.mono s r)
theorem Reps.mono(s:cw B az):∀{vs:ZL}{ds:ZK},Reps K B vs ds->Reps K az vs ds
 |_,_,.nil=>.nil
 |_,_,.cons h r=>.cons (bU.mono s h) (Reps.mono s r)
end
theorem Reps.length:∀{vs:ZL}{ds:ZK},Reps K B vs ds->vs.length=ds.length
 |_,_,.nil=>rfl
 |_,_,.cons _ r=>by rw[SM,SM,r.length]
theorem Reps.get:∀{vs:ZL}{ds:ZK}{i:Nat}{d:D},Reps K B vs ds->ds[i]?=some d->∃v,vs[i]?=some v/\bU K B v d
 |_,_,_,_,.nil,e=>by simp at e
 |_,_,0,_,.cons h _,e=>by simp at e;subst e;exact⟨_,rfl,h⟩
 |_,_,i+1,d,.cons _ r,e=>by
  obtain⟨v,h1,aa⟩:=Reps.get (i:=i) (d:=d) r (by simpa using e);exact⟨v,by simpa using h1,aa⟩
theorem Reps.getV:∀{vs:ZL}{ds:ZK}{i:Nat}{v:V},Reps K B vs ds->vs[i]?=some v->∃d,ds[i]?=some d/\bU K B v d
 |_,_,_,_,.nil,e=>by simp at e
 |_,_,0,_,.cons h _,e=>by simp at e;subst e;exact⟨_,rfl,h⟩
 |_,_,i+1,v,.cons _ r,e=>by
  obtain⟨d,h1,aa⟩:=Reps.getV (i:=i) (v:=v) r (by simpa using e);exact⟨d,by simpa using h1,aa⟩
theorem Reps.append:∀{vs fZ:ZL}{ds es:ZK},Reps K B vs ds->Reps K B fZ es->Reps K B (vs++fZ) (ds++es)
 |_,_,_,_,.nil,s=>s
 |_,_,_,_,.cons h r,s=>.cons h (Reps.append r s)
theorem Reps.take:∀{vs:ZL}{ds:ZK}(n:Nat),Reps K B vs ds->Reps K B (vs.take n) (ds.take n)
 |_,_,0,_=>.nil
 |_,_,_+1,.nil=>.nil
 |_,_,n+1,.cons h r=>.cons h (Reps.take n r)
theorem Reps.drop:∀{vs:ZL}{ds:ZK}(n:Nat),Reps K B vs ds->Reps K B (vs.drop n) (ds.drop n)
 |_,_,0,r=>r
 |_,_,_+1,.nil=>.nil
 |_,_,n+1,.cons _ r=>Reps.drop n r
theorem Reps.ints:∀(ns:ZI),Reps K B (ns.map V.int) (ns.map D.int)
 |[]=>.nil
 |n::r=>.cons (.int n) (Reps.ints r)
end
def gf(H:am)(b:TI):Prop:=∃x y:Int,H b=some (.lst [.int x,.int y])/\0<=x/\0<=y/\y<2147483647
def cF(σ:St)(ρ:ZM)(i:Nat)(a:TI):Prop:=(σ[i]?=some (some (.ref a))/\(ρ[i]?=some .bag\/∃ds,ρ[i]?=some (.own ds)))\/∃c,ρ[i]?=some (.deep c)/\a∈c.adr::c.ins
structure Wd (R:am) (W:TI->Prop) (B H:am):Prop where
 fr:∀a o,R a=some o->¬W a->H a=some o
 bh:cw B H
 wb:∀a,W a->B a=none
 wh:∀a,W a->gf H a
 wr:∀a,W a->R a≠none
open Classical in
noncomputable def kj(R:am)(W:TI->Prop)(B:am):am:=λa=>match R a with
 |some (.lst vs)=>if W a then B a else some (.lst vs)
 |_=>B a
theorem vW{R:am}{W:TI->Prop}{B az:am}(s:cw B az):cw (kj R W B) (kj R W az):=λa o h=>by
 unfold kj at h⊢;split at h
 ·split at h
  ·rename_i z;rw[Tk z];exact s a o h
  rename_i z;rw[Tl z];exact h
 exact s a o h
def lA(K:Su)(B H:am)(a:TI):lz->Prop
 |.l ds=>∃vs,H a=some (.lst vs)/\Reps K B vs ds
 |.d b t ks ds=>∃a0 as vs,(∀c,t=some c->c=a)/\H a=some (hB b a a0 ks as vs)/\Reps K B (as.map V.ref) (ks.map (gr b))/\(b=false->∀k∈ks,∃l,k=[l])/\Reps K B vs ds
theorem lA.mono{K:Su}{B az H ak:am}{a:TI}{c:lz}(h:lA K B H a c)(s:cw B az)(e:ak a=H a):lA K az ak a c:=by
 cases c with
 |l ds=>obtain⟨vs,h1,aa⟩:=h;exact⟨vs,by rw[e];exact h1,aa.mono s⟩
 |d b t ks ds=>obtain⟨a0,as,vs,h0,h1,aa,aH,a6⟩:=h;exact⟨a0,as,vs,h0,by rw[e];exact h1,aa.mono s,aH,a6.mono s⟩
theorem lA.ne{K:Su}{B H:am}{a:TI}{c:lz}(h:lA K B H a c):H a≠none:=by
 cases c with
 |l ds=>obtain⟨vs,h1,aa⟩:=h;rw[h1];simp
 |d b t ks ds=>obtain⟨a0,as,vs,_,h1,_⟩:=h;rw[h1];simp
structure ma (K:Su) (B H:am) (as:ZV) (dss:Z0):Prop where
 len:as.length=dss.length
 at_:∀(i:Nat)(a:TI)(ds:ZK),as[i]?=some a->dss[i]?=some ds->∃vs,H a=some (.lst vs)/\Reps K B vs ds
theorem ma.mono{K:Su}{B az H ak:am}{as:ZV}{dss:Z0}(h:ma K B H as dss)(s:cw B az)(e:∀a∈as,ak a=H a):ma K az ak as dss:=
 ⟨h.len,λi a ds h1 aa=>by
  obtain⟨vs,aM,a4⟩:=h.at_ i a ds h1 aa
  exact⟨vs,by rw[e a (S9 h1)];exact aM,a4.mono s⟩⟩
theorem ma.ne{K:Su}{B H:am}{as:ZV}{dss:Z0}(h:ma K B H as dss){a:TI}(m:a∈as):H a≠none:=by
 obtain⟨i,hi⟩:=U0 m
 have lt:i<as.length:=by
  by_cases z:i<as.length
  ·exact z
  rw[S' (by lia)]at hi;cases hi
 obtain⟨vs,aM,_⟩:=h.at_ i a _ hi (SU (by rw[<-h.len];exact lt));rw[aM];simp
def o4(R B:am):am:=λa=>match B a with
 |some (.lst vs)=>if(R a).isNone then some (.lst vs)else none
 |o=>o
theorem tm{R B:am}:cw (o4 R B) B:=λa o h=>by
 unfold o4 at h;split at h
 ·rename_i vs e
  split at h
  ·rw[e];exact h
  cases h
 exact h
theorem M3{R B az:am}(s:cw B az):cw (o4 R B) (o4 R az):=λa o h=>by
 have hb:=s a o (tm a o h);unfold o4 at h⊢;rw[hb];split at h
 ·rename_i vs e
  split at h
  ·rename_i z
   have:=SO h;subst this;dsimp only;rw[Tk z]
  cases h
 rename_i ne
 cases o with
 |lst vs=>exact absurd h (ne vs)
 |_=>rfl
def tn(R B:am):ge->am
 |.nl _ _=>o4 R B
 |_=>B
theorem M4{R B az:am}(s:cw B az)(c:ge):cw (tn R B c) (tn R az c):=by
 cases c with
 |nl a ds=>exact M3 s
 |_=>exact s
def o5(K:Su)(B H:am):ge->Prop
 |.ll a as dss=>H a=some (.lst (as.map V.ref))/\ma K B H as dss
 |.dl b a ks as dss=>∃a0 m8,H a=some (hB b a a0 ks m8 (as.map V.ref))/\Reps K B (m8.map V.ref) (ks.map (gr b))/\(b=false->∀k∈ks,∃l,k=[l])/\ma K B H as dss
 |.nl a ds=>∃vs,H a=some (.lst vs)/\Reps K B vs ds
structure EV (K:Su) (R B H:am) (c:ge):Prop where
 fr:∀a∈c.adr::c.ins,R a=none/\B a=none
 nd:(c.adr::c.ins).Nodup
 ok:o5 K (tn R B c) H c
theorem o5.mono{K:Su}{B az H ak:am}{c:ge}(h:o5 K B H c)(s:cw B az)(e:∀a∈c.adr::c.ins,ak a=H a):o5 K az ak c:=by
 cases c with
 |ll a as dss=>exact⟨by rw[e a Sw];exact h.1,h.2.mono s λx m=>e x (Sy _ m)⟩
 |dl b a ks as dss=>
  obtain⟨a0,m8,h1,aa,aH,a6⟩:=h;exact⟨a0,m8,by rw[e a Sw];exact h1,aa.mono s,aH,a6.mono s λx m=>e x (Sy _ m)⟩
 |nl a ds=>obtain⟨vs,h1,aa⟩:=h;exact⟨vs,by rw[e a Sw];exact h1,aa.mono s⟩
theorem o5.ne{K:Su}{B H:am}{c:ge}(h:o5 K B H c){a:TI}(m:a∈c.adr::c.ins):H a≠none:=by
 cases c with
 |ll b as dss=>
  rcases SG.mp m with e|m
  ·rw[show a=b from e,h.1];simp
  exact h.2.ne m
 |dl b p ks as dss=>
  obtain⟨a0,m8,h1,aa,aH,a6⟩:=h;rcases SG.mp m with e|m
  ·rw[show a=p from e,h1];simp
  exact a6.ne m
 |nl b ds=>
  obtain⟨vs,h1,aa⟩:=h;rcases SG.mp m with e|m
  ·rw[show a=b from e,h1];simp
  simp[ge.ins]at m
def EW(K:Su)(R:am)(W:TI->Prop)(B H:am)(o:Option V):aK->Prop
 |.no=>True
 |.val d=>∃v,o=some v/\bU K B v d
 |.own c=>∃a,o=some (.ref a)/\R a=none/\B a=none/\lA K B H a c
 |.bag=>∃b,o=some (.ref b)/\(W b\/R b=none)/\B b=none/\gf H b
 |.new d=>∃v,o=some v/\bU K (kj R W B) v d
 |.pin v d=>o=some v/\bU K (kj R W B) v d
 |.deep c=>o=some (.ref c.adr)/\EV K R B H c
structure aW (K:Su) (R:am) (W:TI->Prop) (B H:am) (σ:St) (ρ:ZM):Prop extends Wd R W B H where
 len:σ.length=ρ.length
 ok:∀(i:Nat)(k:aK),ρ[i]?=some k->EW K R W B H (σ[i]?).join k
 sep:∀(i j:Nat)(a:TI),cF σ ρ i a->cF σ ρ j a->i=j
structure bJ (R B az:am):Prop where
 s:cw B az
 n:∀a o,az a=some o->B a=some o\/R a=none
theorem bJ.refl(R B:am):bJ R B B:=⟨cw.refl _,λ_ _ h=>.inl h⟩
theorem bJ.trans{R B az EX:am}(g:bJ R B az)(h:bJ R az EX):bJ R B EX:=⟨g.s.trans h.s,λa o e=>(h.n a o e).elim (g.n a o) .inr⟩
theorem Wd.fresh{R:am}{W:TI->Prop}{B H:am}(w:Wd R W B H){p:TI}(h:H p=none):R p=none/\¬W p/\B p=none:=by
 have nw:¬W p:=λz=>by
  obtain⟨x,y,e,_⟩:=w.wh p z;rw[h]at e;cases e
 refine⟨?_,nw,w.bh.free h⟩;cases q:R p with
 |none=>rfl
 |some o=>rw[w.fr p o q nw]at h;cases h
theorem hC{α:Type}{o:Option (Option α)}{v:α}(h:o.join=some v):o=some (some v):=by
 cases o with
 |none=>cases h
 |some x=>exact UF some h
section
variable{K:Su}{R:am}{W:TI->Prop}{B az H ak:am}{σ:St}{ρ:ZM}
theorem aW.val(e:aW K R W B H σ ρ){i:Nat}{d:D}(h:ρ[i]?=some (.val d)):∃v,σ[i]?=some (some v)/\bU K B v d:=by
 obtain⟨v,h1,aa⟩:=e.ok i _ h;exact⟨v,hC h1,aa⟩
theorem aW.ownAt(e:aW K R W B H σ ρ){i:Nat}{ds:ZK}(h:ρ[i]?=some (.own ds)):∃a vs,σ[i]?=some (some (.ref a))/\R a=none/\B a=none/\H a=some (.lst vs)/\Reps K B vs ds:=by
 obtain⟨a,h1,aa,aH,vs,a6,cH⟩:=e.ok i _ h;exact⟨a,vs,hC h1,aa,aH,a6,cH⟩
theorem aW.ownC(e:aW K R W B H σ ρ){i:Nat}{c:lz}(h:ρ[i]?=some (.own c)):∃a,σ[i]?=some (some (.ref a))/\R a=none/\B a=none/\lA K B H a c:=by
 obtain⟨a,h1,aa⟩:=e.ok i _ h;exact⟨a,hC h1,aa⟩
theorem aW.bagAt(e:aW K R W B H σ ρ){i:Nat}(h:ρ[i]?=some .bag):∃b,σ[i]?=some (some (.ref b))/\(W b\/R b=none)/\B b=none/\gf H b:=by
 obtain⟨a,h1,aa⟩:=e.ok i _ h;exact⟨a,hC h1,aa⟩
theorem aW.deepAt(e:aW K R W B H σ ρ){i:Nat}{c:ge}(h:ρ[i]?=some (.deep c)):σ[i]?=some (some (.ref c.adr))/\EV K R B H c:=by
 obtain⟨h1,aa⟩:=e.ok i _ h;exact⟨hC h1,aa⟩
theorem aW.mutOk(e:aW K R W B H σ ρ){i:Nat}{a:TI}(m:cF σ ρ i a):B a=none/\H a≠none:=by
 rcases m with⟨h1,aa|⟨ds,aa⟩⟩|⟨c,h1,aa⟩
 ·obtain⟨b,ai,_,bb,x,y,b0,_⟩:=e.bagAt aa;rw[h1]at ai;cases ai;exact⟨bb,by rw[b0];simp⟩
 ·obtain⟨b,ai,_,bb,b0⟩:=e.ownC aa;rw[h1]at ai;cases ai;exact⟨bb,b0.ne⟩
 have q:=(e.deepAt h1).2;exact⟨(q.fr a aa).2,q.ok.ne aa⟩
theorem M5{i:Nat}{a:TI}(m:cF σ ρ i a)(n:∀c,ρ[i]?≠some (.deep c)):σ[i]?=some (some (.ref a))/\(ρ[i]?=some .bag\/∃ds,ρ[i]?=some (.own ds)):=by
 rcases m with m|⟨c,h,_⟩
 ·exact m
 exact absurd h (n c)
theorem o6{i:Nat}{a:TI}(m:cF σ ρ i a)(h:ρ[i]?=some .bag):σ[i]?=some (some (.ref a)):=(M5 m λc z=>by rw[h]at z;cases z).1
theorem aW.move(e:aW K R W B H σ ρ)(w:Wd R W az ak)(s:cw B az)(m:∀i a,cF σ ρ i a->az a=none/\(ρ[i]?=some .bag->gf ak a)/\(ρ[i]?≠some .bag->ak a=H a)):aW K R W az ak σ ρ:=by
 refine⟨w,e.len,λi k h=>?_,e.sep⟩;cases k with
 |no=>trivial
 |new d=>
  obtain⟨v,h1,aa⟩:=e.ok i _ h;exact⟨v,h1,aa.mono (vW s)⟩
 |pin v d=>
  obtain⟨h1,aa⟩:=e.ok i _ h;exact⟨h1,aa.mono (vW s)⟩
 |val d=>
  obtain⟨v,h1,aa⟩:=e.ok i _ h;exact⟨v,h1,aa.mono s⟩
 |own ds=>
  obtain⟨a,h1,aa,aH,a6⟩:=e.ok i _ h;obtain⟨a7,a5,hR⟩:=m i a (.inl ⟨hC h1,.inr ⟨ds,h⟩⟩);exact⟨a,h1,aa,a7,a6.mono s (hR (by rw[h];simp))⟩
 |deep c=>
  obtain⟨h1,aa⟩:=e.ok i _ h
  have h3:∀a∈c.adr::c.ins,az a=none/\ak a=H a:=λa jK=>by
   obtain⟨a7,a5,hR⟩:=m i a (.inr ⟨c,h,jK⟩);exact⟨a7,hR (by rw[h];simp)⟩
  exact⟨h1,λa jK=>⟨(aa.fr a jK).1,(h3 a jK).1⟩,aa.nd,aa.ok.mono (M4 s c) λa jK=>(h3 a jK).2⟩
 |bag=>
  obtain⟨b,h1,aa,aH,a6⟩:=e.ok i _ h;obtain⟨a7,a5,hR⟩:=m i b (.inl ⟨hC h1,.inl h⟩);exact⟨b,h1,aa,a7,a5 h⟩
theorem gf.upd{H:am}{b p:TI}{o:eg}(h:gf H b)(n:b≠p):gf (L2.upd H p o) b:=by
 obtain⟨x,y,e,q⟩:=h;exact⟨x,y,by rw[bV n];exact e,q⟩
theorem Wd.alloc(w:Wd R W B H){p:TI}(h:H p=none)(o:eg):Wd R W (upd B p o) (upd H p o):=by
 obtain⟨aT,bd,bA⟩:=w.fresh h;refine⟨λa u q nw=>?_,λa u q=>?_,λa z=>?_,λa z=>?_,w.wr⟩
 ·rw[bV (by rintro rfl;rw[aT]at q;cases q)];exact w.fr a u q nw
 ·unfold L2.upd at q⊢;split
  ·rename_i z;rwa[Tk z]at q
  rename_i z;rw[Tl z]at q;exact w.bh a u q
 ·rw[bV (by rintro rfl;exact bd z)];exact w.wb a z
 exact(w.wh a z).upd (by rintro rfl;exact bd z)
theorem Wd.allocH(w:Wd R W B H){p:TI}(h:H p=none)(o:eg):Wd R W B (upd H p o):=by
 obtain⟨aT,bd,bA⟩:=w.fresh h;refine⟨λa u q nw=>?_,λa u q=>?_,w.wb,λa z=>?_,w.wr⟩
 ·rw[bV (by rintro rfl;rw[aT]at q;cases q)];exact w.fr a u q nw
 ·rw[bV (by rintro rfl;rw[bA]at q;cases q)];exact w.bh a u q
 exact(w.wh a z).upd (by rintro rfl;exact bd z)
theorem aW.notNew(e:aW K R W B H σ ρ){p:TI}(h:H p=none){i:Nat}{a:TI}(m:cF σ ρ i a):a≠p:=by
 rintro rfl;exact(e.mutOk m).2 h
theorem aW.alloc(e:aW K R W B H σ ρ){p:TI}(h:H p=none)(o:eg):aW K R W (upd B p o) (upd H p o) σ ρ:=by
 obtain⟨aT,bd,bA⟩:=e.toWd.fresh h;refine e.move (e.toWd.alloc h o) (vT bA o) λi a m=>?_;have n:=e.notNew h m;refine⟨by rw[bV n];exact(e.mutOk m).1,λz=>?_,λ_=>bV n⟩;obtain⟨b,ai,_,_,b0⟩:=e.bagAt z;rw[o6 m z]at ai;cases ai;exact b0.upd n
theorem aW.allocH(e:aW K R W B H σ ρ){p:TI}(h:H p=none)(o:eg):aW K R W B (upd H p o) σ ρ:=by
 refine e.move (e.toWd.allocH h o) (cw.refl _) λi a m=>?_;have n:=e.notNew h m;refine⟨(e.mutOk m).1,λz=>?_,λ_=>bV n⟩;obtain⟨b,ai,_,_,b0⟩:=e.bagAt z;rw[o6 m z]at ai;cases ai;exact b0.upd n
theorem aW.grow(e:aW K R W B H σ ρ){p:TI}(h:H p=none)(o:eg):bJ R B (upd B p o):=by
 obtain⟨aT,bd,bA⟩:=e.toWd.fresh h;refine⟨vT bA o,λa u q=>?_⟩;by_cases z:a=p
 ·subst z;exact .inr aT
 rw[bV z]at q;exact .inl q
theorem aW.freezeO(e:aW K R W B H σ ρ){a:TI}{o:eg}(h:H a=some o)(ao:R a=none)(ae:B a=none)(aA:∀i,¬cF σ ρ i a):aW K R W (upd B a o) H σ ρ/\bJ R B (upd B a o):=by
 have nw:¬W a:=λz=>e.wr a z ao;refine⟨e.move ⟨e.fr,λb u q=>?_,λb z=>?_,e.wh,e.wr⟩ (vT ae _) (λi b m=>?_),⟨vT ae _,λb u q=>?_⟩⟩
 ·by_cases z:b=a
  ·subst z;rw[d9]at q;cases q;exact h
  rw[bV z]at q;exact e.bh b u q
 ·rw[bV (by rintro rfl;exact nw z)];exact e.wb b z
 ·have n:b≠a:=by rintro rfl;exact aA i m
  refine⟨by rw[bV n];exact(e.mutOk m).1,λz=>?_,λ_=>rfl⟩;obtain⟨c,ai,_,_,b0⟩:=e.bagAt z;rw[o6 m z]at ai;cases ai;exact b0
 by_cases z:b=a
 ·subst z;exact .inr ao
 rw[bV z]at q;exact .inl q
theorem aW.freeze(e:aW K R W B H σ ρ){a:TI}{vs:ZL}(h:H a=some (.lst vs))(ao:R a=none)(ae:B a=none)(aA:∀i,¬cF σ ρ i a):aW K R W (upd B a (.lst vs)) H σ ρ/\bJ R B (upd B a (.lst vs)):=e.freezeO h ao ae aA
theorem iV{α:Type}{l:List α}{i j:Nat}{x y:α}(h:(l.set i x)[j]?=some y):(j=i/\y=x)\/(j≠i/\l[j]?=some y):=by
 by_cases e:i=j
 ·subst e;rw[List.getElem?_set_self']at h;cases q:l[i]? with
  |none=>rw[q]at h;cases h
  |some z=>rw[q]at h;exact .inl ⟨rfl,(SO h).symm⟩
 rw[TF e]at h;exact .inr ⟨λz=>e z.symm,h⟩
def aK.adrs:aK->ZV
 |.deep c=>c.adr::c.ins
 |_=>[]
theorem tp{i j:Nat}{v:V}{k:aK}{a:TI}(m:cF (σ.set i (some v)) (ρ.set i k) j a):(j=i/\((v=.ref a/\(k=.bag\/∃ds,k=.own ds))\/a∈k.adrs))\/(j≠i/\cF σ ρ j a):=by
 rcases m with⟨h1,aa⟩|⟨c,h1,aa⟩
 ·rcases iV h1 with⟨e,h1⟩|⟨e,h1⟩
  ·refine .inl ⟨e,.inl ⟨(SO h1).symm,?_⟩⟩;rcases aa with aa|⟨ds,aa⟩
   ·rcases iV aa with⟨_,aa⟩|⟨n,_⟩
    ·exact .inl aa.symm
    exact absurd e n
   rcases iV aa with⟨_,aa⟩|⟨n,_⟩
   ·exact .inr ⟨ds,aa.symm⟩
   exact absurd e n
  refine .inr ⟨e,.inl ⟨h1,?_⟩⟩;rcases aa with aa|⟨ds,aa⟩
  ·rcases iV aa with⟨n,_⟩|⟨_,aa⟩
   ·exact absurd n e
   exact .inl aa
  rcases iV aa with⟨n,_⟩|⟨_,aa⟩
  ·exact absurd n e
  exact .inr ⟨ds,aa⟩
 rcases iV h1 with⟨e,h1⟩|⟨e,h1⟩
 ·exact .inl ⟨e,.inr (by rw[<-h1];exact aa)⟩
 exact .inr ⟨e,.inr ⟨c,h1,aa⟩⟩
theorem rT{i j:Nat}{v:V}{k:aK}{a:TI}(m:cF (σ.set i (some v)) (ρ.set i k) j a)(c8:k≠.bag)(cO:∀c,k≠.own c)(qc:k.adrs=[]):j≠i/\cF σ ρ j a:=by
 rcases tp m with⟨_,⟨_,z|⟨c,z⟩⟩|z⟩|m
 ·exact absurd z c8
 ·exact absurd z (cO c)
 ·rw[qc]at z;cases z
 exact m
theorem aW.set(e:aW K R W B H σ ρ)(i:Nat){v:V}{k:aK}(ah:EW K R W B H (some v) k)(aA:∀a,v=.ref a->(k=.bag\/∃ds,k=.own ds)->∀j,j≠i->¬cF σ ρ j a)(hd:∀a∈k.adrs,∀j,j≠i->¬cF σ ρ j a:=by intro _ z;cases z):aW K R W B H (σ.set i (some v)) (ρ.set i k):=by
 refine⟨e.toWd,by rw[Ui,Ui];exact e.len,λj k' h=>?_,λx y a al aP=>?_⟩
 ·rcases iV h with⟨rfl,rfl⟩|⟨n,h⟩
  ·have lt:j<σ.length:=by
    rw[e.len];by_cases z:j<ρ.length
    ·exact z
    rw[S' (by rw[Ui];lia)]at h;cases h
   have q:((σ.set j (some v))[j]?).join=some v:=by rw[TK lt];rfl
   rw[q];exact ah
  rw[TF (λz=>n z.symm)];exact e.ok j k' h
 rcases tp al with⟨ai,aG⟩|⟨c8,a7⟩
 ·rcases tp aP with⟨ar,_⟩|⟨cO,a5⟩
  ·rw[ai,ar]
  rcases aG with⟨eL,ci⟩|aG
  ·exact absurd a5 (aA a eL ci y cO)
  exact absurd a5 (hd a aG y cO)
 rcases tp aP with⟨ar,a8⟩|⟨cO,a5⟩
 ·rcases a8 with⟨dB,cu⟩|a8
  ·exact absurd a7 (aA a dB cu x c8)
  exact absurd a7 (hd a a8 x c8)
 exact e.sep x y a a7 a5
theorem aW.setV(e:aW K R W B H σ ρ)(i:Nat){v:V}{d:D}(r:bU K B v d):aW K R W B H (σ.set i (some v)) (ρ.set i (.val d)):=
 e.set i ⟨v,rfl,r⟩ λ_ _ z=>by rcases z with z|⟨_,z⟩<;>cases z
theorem aW.setO(e:aW K R W B H σ ρ)(i:Nat){a:TI}{vs:ZL}{ds:ZK}(ao:R a=none)(ae:B a=none)(dY:H a=some (.lst vs))(r:Reps K B vs ds)(aA:∀j,j≠i->¬cF σ ρ j a):aW K R W B H (σ.set i (some (.ref a))) (ρ.set i (.own ds)):=
 e.set i ⟨a,rfl,ao,ae,vs,dY,r⟩ λb z _=>by cases z;exact aA
theorem aW.setC(e:aW K R W B H σ ρ)(i:Nat){a:TI}{c:lz}(ao:R a=none)(ae:B a=none)(dY:lA K B H a c)(aA:∀j,j≠i->¬cF σ ρ j a):aW K R W B H (σ.set i (some (.ref a))) (ρ.set i (.own c)):=
 e.set i ⟨a,rfl,ao,ae,dY⟩ λb z _=>by cases z;exact aA
theorem aW.writeC(e:aW K R W B H σ ρ){i:Nat}{a:TI}{c c':lz}{o:eg}(h:σ[i]?=some (some (.ref a)))(ax:ρ[i]?=some (.own c))(r:lA K B (upd H a o) a c'):aW K R W B (upd H a o) σ (ρ.set i (.own c')):=by
 obtain⟨gK,ai,ar,bb,b0⟩:=e.ownC ax;rw[h]at ai;cases ai;have nw:¬W a:=λz=>e.wr a z ar;have hf:cF σ ρ i a:=.inl ⟨h,.inr ⟨c,ax⟩⟩;refine⟨⟨λb u q z=>?_,λb u q=>?_,e.wb,λb z=>?_,e.wr⟩,by rw[Ui];exact e.len,λj k q=>?_,λx y b al aP=>?_⟩
 ·rw[bV (by rintro rfl;rw[ar]at q;cases q)];exact e.fr b u q z
 ·rw[bV (by rintro rfl;rw[bb]at q;cases q)];exact e.bh b u q
 ·exact(e.wh b z).upd (by rintro rfl;exact nw z)
 ·rcases iV q with⟨rfl,rfl⟩|⟨n,q⟩
  ·exact⟨a,by rw[h];rfl,ar,bb,r⟩
  have z:=e.ok j k q;cases k with
  |no=>trivial
  |new d=>exact z
  |pin v d=>exact z
  |val d=>exact z
  |own es=>
   obtain⟨b,aG,a8,eY,dN⟩:=z;exact⟨b,aG,a8,eY,dN.mono (cw.refl _) (bV (by rintro rfl;exact n (e.sep j i b (.inl ⟨hC aG,.inr ⟨es,q⟩⟩) hf)))⟩
  |deep d=>
   exact⟨z.1,z.2.fr,z.2.nd,z.2.ok.mono (cw.refl _) λb gU=>bV (by rintro rfl;exact n (e.sep j i b (.inr ⟨d,q,gU⟩) hf))⟩
  |bag=>
   obtain⟨b,aG,a8,eY,dN⟩:=z;exact⟨b,aG,a8,eY,dN.upd (by rintro rfl;exact n (e.sep j i b (.inl ⟨hC aG,.inl q⟩) hf))⟩
 have back:∀x,cF σ (ρ.set i (.own c')) x b->cF σ ρ x b:=λx m=>by
  rcases m with⟨a7,a5⟩|⟨d,a7,a5⟩
  ·by_cases z:x=i
   ·subst z;exact .inl ⟨a7,.inr ⟨c,ax⟩⟩
   refine .inl ⟨a7,?_⟩;rwa[TF (λw=>z w.symm)]at a5
  rcases iV a7 with⟨_,z⟩|⟨_,a7⟩
  ·cases z
  exact .inr ⟨d,a7,a5⟩
 exact e.sep x y b (back x al) (back y aP)
theorem aW.write(e:aW K R W B H σ ρ){i:Nat}{a:TI}{ds ds':ZK}{vs:ZL}(h:σ[i]?=some (some (.ref a)))(ax:ρ[i]?=some (.own ds))(r:Reps K B vs ds'):aW K R W B (upd H a (.lst vs)) σ (ρ.set i (.own ds')):=
 e.writeC h ax ⟨vs,d9,r⟩
theorem aW.fz(e:aW K R W B H σ ρ){i:Nat}{ds:ZK}(ax:ρ[i]?=some (.own ds)):∃az,aW K R W az H σ (ρ.set i (.val (.lst ds)))/\bJ R B az:=by
 obtain⟨a,vs,ai,ar,bb,b0,d6⟩:=e.ownAt ax;have hf:cF σ ρ i a:=.inl ⟨ai,.inr ⟨ds,ax⟩⟩;have f:=(e.setV (d:=.non) i (v:=.non) .non)
 have bd:=f.freeze b0 ar bb (λj m=>by
  obtain⟨n,m⟩:=rT m (by simp) (by simp) rfl
  exact n (e.sep j i a m hf))
 refine⟨_,?_,bd.2⟩;have g:=bd.1.setV i (v:=.ref a) (d:=.lst ds) (.lst d9 (d6.mono bd.2.s));rw[TY,TY]at g
 have q:σ.set i (some (.ref a))=σ:=by
  apply Uk;intro j;by_cases z:i=j
  ·subst z
   have lt:i<σ.length:=by
    by_cases z:i<σ.length
    ·exact z
    rw[S' (by lia)]at ai;cases ai
   rw[TK lt,ai]
  rw[TF z]
 rwa[q]at g
theorem aW.fzD(e:aW K R W B H σ ρ){i:Nat}{b:Bool}{t:Option TI}{ks:List ZZ}{ds:ZK}(ax:ρ[i]?=some (.own (.d b t ks ds))):∃az,aW K R W az H σ (ρ.set i (.val (.dct b ks ds)))/\bJ R B az:=by
 obtain⟨a,ai,ar,bb,a0,as,vs,_,b0,d6,hD,gs⟩:=e.ownC ax;have hf:cF σ ρ i a:=.inl ⟨ai,.inr ⟨_,ax⟩⟩;have f:=(e.setV (d:=.non) i (v:=.non) .non)
 have bd:=f.freezeO b0 ar bb (λj m=>by
  obtain⟨n,m⟩:=rT m (by simp) (by simp) rfl
  exact n (e.sep j i a m hf))
 refine⟨_,?_,bd.2⟩;have g:=bd.1.setV i (v:=.ref a) (d:=.dct b ks ds) (.dct d9 (d6.mono bd.2.s) hD (gs.mono bd.2.s));rw[TY,TY]at g
 have q:σ.set i (some (.ref a))=σ:=by
  apply Uk;intro j;by_cases z:i=j
  ·subst z
   have lt:i<σ.length:=by
    by_cases z:i<σ.length
    ·exact z
    rw[S' (by lia)]at ai;cases ai
   rw[TK lt,ai]
  rw[TF z]
 rwa[q]at g
end
end L3
namespace L3
open PySem L2
open PySem.Builtin.Int (intBits)
abbrev bg:=ZM->(D->Prop)->Prop
abbrev df:=ZM->(ZK->Prop)->Prop
abbrev dO:=ZM->(Bool->Prop)->Prop
inductive Arg where
 |val (d:D)|bag (i:Nat)
abbrev ZR:=List Arg
abbrev jL:=ZM->(ZR->Prop)->Prop
structure iE where
 nx:ZM->Prop
 rt:aK->Prop
 bk:ZM->Prop:=λ_=>False
 ct:ZM->Prop:=λ_=>False
abbrev cQ:=iE->ZM->Prop
abbrev eZ:=D->ZM->(ZM->Prop)->Prop
abbrev m9:=ZK->ZM->(ZM->Prop)->Prop
section
variable(K:Su)
def e'(t:bK)(u:bg):Prop:=∀(ρ:ZM)(k:D->Prop),u ρ k->∀(R:am)(W:TI->Prop)(B H:am)(σ:St)(Q:cq),aW K R W B H σ ρ->
 (∀d v az ak,k d->aW K R W az ak σ ρ->bJ R B az->bU K az v d->Q v ak)->t σ H Q
def vX(t:bK)(u:df):Prop:=∀(ρ:ZM)(k:ZK->Prop),u ρ k->∀(R:am)(W:TI->Prop)(B H:am)(σ:St)(Q:cq),aW K R W B H σ ρ->
 (∀ds a vs az ak,k ds->aW K R W az ak σ ρ->bJ R B az->R a=none->az a=none->ak a=some (.lst vs)->Reps K az vs ds->(∀i,¬cF σ ρ i a)->Q (.ref a) ak)->t σ H Q
def h4(t:ee)(u:dO):Prop:=∀(ρ:ZM)(k:Bool->Prop),u ρ k->∀(R:am)(W:TI->Prop)(B H:am)(σ:St)(Q:Bool->am->Prop),aW K R W B H σ ρ->
 (∀b az ak,k b->aW K R W az ak σ ρ->bJ R B az->Q b ak)->t σ H Q
def vY(t:e8)(u:df):Prop:=∀(ρ:ZM)(k:ZK->Prop),u ρ k->∀(R:am)(W:TI->Prop)(B H:am)(σ:St)(Q:ZL->am->Prop),aW K R W B H σ ρ->
 (∀ds vs az ak,k ds->aW K R W az ak σ ρ->bJ R B az->Reps K az vs ds->Q vs ak)->t σ H Q
inductive kk (B:am) (σ:St) (ρ:ZM):ZL->ZR->Prop where
 |nil:kk B σ ρ [] []
 |val {v:V} {d:D} {vs:ZL} {as:ZR} (h:bU K B v d) (r:kk B σ ρ vs as):kk B σ ρ (v::vs) (.val d::as)
 |bag {v:V} {i:Nat} {vs:ZL} {as:ZR} (h:σ[i]?=some (some v)) (ae:ρ[i]?=some .bag) (r:kk B σ ρ vs as):kk B σ ρ (v::vs) (.bag i::as)
def M6(t:e8)(u:jL):Prop:=∀(ρ:ZM)(k:ZR->Prop),u ρ k->∀(R:am)(W:TI->Prop)(B H:am)(σ:St)(Q:ZL->am->Prop),aW K R W B H σ ρ->
 (∀as vs az ak,k as->aW K R W az ak σ ρ->bJ R B az->kk K az σ ρ vs as->Q vs ak)->t σ H Q
def M7(R B:am):ge->am
 |.dl _ _ _ _ _=>o4 R B
 |_=>B
def z3(R:am)(B H:am)(v:V):aK->Prop
 |.no=>False
 |.val d=>bU K B v d
 |.own c=>∃a,v=.ref a/\R a=none/\B a=none/\lA K B H a c
 |.bag=>∃b,v=.ref b/\R b=none/\B b=none/\gf H b
 |.new d=>bU K (o4 R B) v d
 |.pin _ _=>False
 |.deep c=>v=.ref c.adr/\H c.adr=some (.tup (c.ins.map V.ref))/\ma K (M7 R B c) H c.ins c.dss/\(∀a∈c.ins,R a=none/\B a=none)/\c.ins.Nodup
structure tq (R:am) (W:TI->Prop) (B:am) (U:iE) (D:nS):Prop where
 nx:∀ρ σ az ak,U.nx ρ->aW K R W az ak σ ρ->bJ R B az->D.nx σ ak
 bk:∀ρ σ az ak,U.bk ρ->aW K R W az ak σ ρ->bJ R B az->D.bk σ ak
 ct:∀ρ σ az ak,U.ct ρ->aW K R W az ak σ ρ->bJ R B az->D.ct σ ak
 rt:∀r v az ak,U.rt r->Wd R W az ak->bJ R B az->z3 K R az ak v r->D.rt v ak
def EY(t:gX)(u:cQ):Prop:=∀(U:iE)(ρ:ZM),u U ρ->∀(R:am)(W:TI->Prop)(B H:am)(σ:St)(D:nS),aW K R W B H σ ρ->tq K R W B U D->t D σ H
def o7(g:fR)(u:eZ):Prop:=∀(d:D)(ρ:ZM)(k:ZM->Prop),u d ρ k->∀(R:am)(W:TI->Prop)(B H:am)(σ:St)(v:V)(Q:St->am->Prop),aW K R W B H σ ρ->bU K B v d->
 (∀bi bm,k bi->aW K R W B H bm bi->(∀j a,cF bm bi j a->cF σ ρ j a)->Q bm H)->g v σ H Q
def M8(g:mW)(u:m9):Prop:=∀(ds:ZK)(ρ:ZM)(k:ZM->Prop),u ds ρ k->∀(R:am)(W:TI->Prop)(B H:am)(σ:St)(vs:ZL)(Q:St->am->Prop),aW K R W B H σ ρ->Reps K B vs ds->
 (∀bi bm,k bi->aW K R W B H bm bi->(∀j a,cF bm bi j a->cF σ ρ j a)->Q bm H)->g vs σ H Q
def kl(B:am)(J:ha)(ds:ZK):Prop:=∀(H:am),cw B H->∀i,(i<ds.length->J.go i H)/\(ds.length<=i->J.stop i H)/\∀x ak,i<ds.length->J.yld i H x ak->ak=H/\∃d,ds[i]?=some d/\bU K B x d
def tr(t:gI)(u:df):Prop:=∀(ρ:ZM)(k:ZK->Prop),u ρ k->∀(R:am)(W:TI->Prop)(B H:am)(σ:St)(Q:ha->am->Prop),aW K R W B H σ ρ->
 (∀ds J az ak,k ds->aW K R W az ak σ ρ->bJ R B az->kl K az J ds->Q J ak)->t σ H Q
end
theorem tq.grow{K:Su}{R:am}{W:TI->Prop}{B az:am}{U:iE}{D:nS}(s:tq K R W B U D)(g:bJ R B az):tq K R W az U D:=
 ⟨λρ σ C H h e q=>s.nx ρ σ C H h e (g.trans q),λρ σ C H h e q=>s.bk ρ σ C H h e (g.trans q),λρ σ C H h e q=>s.ct ρ σ C H h e (g.trans q),λr v C H h e q z=>s.rt r v C H h e (g.trans q) z⟩
section
variable(X:aU)
def br(e:WP)(u:bg):Prop:=∃t,bY X e t/\e' X.K t u
def kM(e:WP)(u:df):Prop:=∃t,bY X e t/\vX X.K t u
def h5(e:WP)(u:dO):Prop:=∃t,jH X e t/\h4 X.K t u
def qp(e:WP)(u:dO):Prop:=∃t,nT X e t/\h4 X.K t u
def o8(es:ZW)(u:df):Prop:=∃t,hp X es t/\vY X.K t u
def m'(es:ZW)(u:jL):Prop:=∃t,hp X es t/\M6 X.K t u
def fk(s:XE)(u:cQ):Prop:=∃t,jg X s t/\EY X.K t u
def h6(s:ZX)(u:cQ):Prop:=∃t,jh X s t/\EY X.K t u
def km(e:WP)(u:eZ):Prop:=∃t,iP X e t/\o7 X.K t u
def tu(e:ZW)(u:m9):Prop:=∃t,rF X e t/\M8 X.K t u
def na(bj e:WP)(u:df):Prop:=∃t,iy X bj e t/\tr X.K t u
end
def jm(i:Nat):bg:=λρ k=>∃d,ρ[i]?=some (.val d)/\k d
def iW(d:D):bg:=λ_ k=>k d
def vZ(C:Int->Int->Prop)(g:Int->Int->D)(b5 b':bg):bg:=λρ k=>b5 ρ λx=>b' ρ λy=>∃i j,x=.int i/\y=.int j/\C i j/\k (g i j)
def tv(g:Int->Int->D)(b5 b':bg):bg:=λρ k=>b5 ρ λx=>b' ρ λy=>∃i j,x=.int i/\y=.int j/\k (g i j)
def EZ(b5:bg):bg:=λρ k=>b5 ρ λx=>∃i,x=.int i/\k (.int (-i))
section
variable{K:Su}{X:aU}
theorem M9(i:Nat):e' K (zq i) (jm i):=by
 intro ρ k h R W B H σ Q e q;obtain⟨d,h,z⟩:=h;obtain⟨v,ai,r⟩:=e.val h;exact⟨v,ai,q d v B H z e (bJ.refl _ _) r⟩
theorem z4{v:V}{d:D}(h:∀B,bU K B v d):e' K (p' v) (iW d):=λρ k z R W B H σ Q e q=>q d v B H z e (bJ.refl _ _) (h B)
theorem rU{bL tb:bK}{b5 b':bg}{r:iz}{f:D->D->(D->Prop)->Prop}(aw:e' K bL b5)(ae:e' K tb b')(ao:∀(x y:D) (k:D->Prop),f x y k->∀(R:am) (W:TI->Prop) (B H:am) (σ:St) (ρ:ZM) (v w:V) (Q:cq),aW K R W B H σ ρ->bU K B v x->bU K B w y->(∀d v az ak,k d->aW K R W az ak σ ρ->bJ R B az->bU K az v d->Q v ak)->r v w H Q):
  e' K (n2 r bL tb) (λρ k=>b5 ρ λx=>b' ρ λy=>f x y k):=by
 intro ρ k h R W B H σ Q e q;refine aw ρ _ h R W B H σ _ e λx v aY au h1 ai aE aq=>?_;refine ae ρ _ h1 R W aY au σ _ ai λy w bG aS aa ar aI aN=>?_;exact ao x y k aa R W bG aS σ ρ v w Q ar (aq.mono aI.s) aN λd u lB cG aH bb g3 d2=>q d u lB cG aH bb ((aE.trans aI).trans g3) d2
theorem M'{bL:bK}{b5:bg}{r:V->am->cq->Prop}{f:D->(D->Prop)->Prop}(aw:e' K bL b5)(ao:∀(x:D) (k:D->Prop),f x k->∀(R:am) (W:TI->Prop) (B H:am) (σ:St) (ρ:ZM) (v:V) (Q:cq),aW K R W B H σ ρ->bU K B v x->(∀d v az ak,k d->aW K R W az ak σ ρ->bJ R B az->bU K az v d->Q v ak)->r v H Q):
  e' K (zy r bL) (λρ k=>b5 ρ λx=>f x k):=by
 intro ρ k h R W B H σ Q e q;refine aw ρ _ h R W B H σ _ e λx v aY au h1 ai aE aq=>?_;exact ao x k h1 R W aY au σ ρ v Q ai aq λd u lB cG aH bb g3 d2=>q d u lB cG aH bb (aE.trans g3) d2
theorem bU.intV{B:am}{v:V}{i:Int}(r:bU K B v (.int i)):v=.int i:=by cases r;rfl
theorem bU.blV{B:am}{v:V}{b:Bool}(r:bU K B v (.bl b)):v=.bl b:=by cases r;rfl
theorem bU.nonV{B:am}{v:V}(r:bU K B v .non):v=.non:=by cases r;rfl
theorem bU.tupV{B:am}{v:V}{ds:ZK}(r:bU K B v (.tup ds)):∃a vs,v=.ref a/\B a=some (.tup vs)/\Reps K B vs ds:=by
 cases r with|tup h r=>exact⟨_,_,rfl,h,r⟩
theorem bU.lstV{B:am}{v:V}{ds:ZK}(r:bU K B v (.lst ds)):∃a vs,v=.ref a/\B a=some (.lst vs)/\Reps K B vs ds:=by
 cases r with|lst h r=>exact⟨_,_,rfl,h,r⟩
theorem bU.scrV{B:am}{v:V}{ns:ZI}(r:bU K B v (.scr ns)):∃a,v=.ref a/\cN K B a (ns.map V.int):=by
 cases r with|scr h=>exact⟨_,rfl,h⟩
theorem z5{C:Int->Int->Prop}{f:Int->Int->V}{g:Int->Int->D}{bL tb:bK}{b5 b':bg}(aF:∀B i j,bU K B (f i j) (g i j))(aw:e' K bL b5)(ae:e' K tb b'):e' K (n2 (rL C f) bL tb) (vZ C g b5 b'):=
 rU aw ae λx y k h R W B H σ ρ v w Q e bn cg q=>by
  obtain⟨i,j,rfl,rfl,hc,ah⟩:=h;exact⟨i,j,bn.intV,cg.intV,hc,q _ _ B H ah e (bJ.refl _ _) (aF B i j)⟩
theorem v0{f:Int->Int->V}{g:Int->Int->D}{bL tb:bK}{b5 b':bg}(aF:∀B i j,bU K B (f i j) (g i j))(aw:e' K bL b5)(ae:e' K tb b'):e' K (n2 (lx f) bL tb) (tv g b5 b'):=
 rU aw ae λx y k h R W B H σ ρ v w Q e bn cg q=>by
  obtain⟨i,j,rfl,rfl,ah⟩:=h;exact⟨i,j,bn.intV,cg.intV,q _ _ B H ah e (bJ.refl _ _) (aF B i j)⟩
theorem Na{bL:bK}{b5:bg}(aw:e' K bL b5):e' K (zy (zz λi=>.int (-i)) bL) (EZ b5):=
 M' (f:=λx k=>∃i,x=.int i/\k (.int (-i))) aw λx k h R W B H σ ρ v Q e bn q=>by
  obtain⟨i,rfl,ah⟩:=h;exact⟨i,bn.intV,q _ _ B H ah e (bJ.refl _ _) (.int _)⟩
variable{a b:WP}{b5 b':bg}{pos:Pos}
theorem af(i:Nat){x:Str}{pos:Pos}(bF:gG X i x:=by rfl)(aL:gy X.env.scope x:=by walk_at"v")(hd:ed x:=by decide)(dI:gV x:=by decide):br X (.Name x pos) (jm i):=⟨_,g9 bF aL hd dI,M9 i⟩
theorem bq{i j pos}:br X (.Constant (.int i) j pos) (iW (.int i)):=⟨_,fw,z4 λ_=>.int _⟩
theorem iX{b j pos}:br X (.Constant (.bool b) j pos) (iW (.bl b)):=⟨_,KT,z4 λ_=>.bl _⟩
theorem jM{x j pos}:br X (.Constant (.str x) j pos) (iW (.str x)):=⟨_,KU,z4 λ_=>.str _⟩
theorem f3(aw:br X a b5)(ae:br X b b'):br X (.BinOp a .Add b pos) (tv (λi j=>.int (i+j)) b5 b'):=by
 obtain⟨_,h1,aq⟩:=aw;obtain⟨_,aa,aN⟩:=ae;exact⟨_,f' vD h1 aa,v0 (λ_ _ _=>.int _) aq aN⟩
theorem gL(aw:br X a b5)(ae:br X b b'):br X (.BinOp a .Sub b pos) (tv (λi j=>.int (i-j)) b5 b'):=by
 obtain⟨_,h1,aq⟩:=aw;obtain⟨_,aa,aN⟩:=ae;exact⟨_,f' LS h1 aa,v0 (λ_ _ _=>.int _) aq aN⟩
theorem cx(aw:br X a b5)(ae:br X b b'):br X (.BinOp a .Mult b pos) (vZ zU (λi j=>.int (i*j)) b5 b'):=by
 obtain⟨_,h1,aq⟩:=aw;obtain⟨_,aa,aN⟩:=ae;exact⟨_,f' ti h1 aa,z5 (λ_ _ _=>.int _) aq aN⟩
theorem fo(aw:br X a b5)(ae:br X b b'):br X (.BinOp a .FloorDiv b pos) (vZ vR (λi j=>.int (i.fdiv j)) b5 b'):=by
 obtain⟨_,h1,aq⟩:=aw;obtain⟨_,aa,aN⟩:=ae;exact⟨_,f' vS h1 aa,z5 (λ_ _ _=>.int _) aq aN⟩
theorem v1(aw:br X a b5)(ae:br X b b'):br X (.BinOp a .Mod b pos) (vZ (λ_ j=>0<j) (λi j=>.int (i%j)) b5 b'):=by
 obtain⟨_,h1,aq⟩:=aw;obtain⟨_,aa,aN⟩:=ae;exact⟨_,f' n3 h1 aa,z5 (λ_ _ _=>.int _) aq aN⟩
theorem nc(aw:br X a b5):br X (.UnaryOp .USub a pos) (EZ b5):=by
 obtain⟨_,h1,aq⟩:=aw;exact⟨_,LR LV h1,Na aq⟩
def E0(op:CmpOp)(f:Int->Int->Bool)(X:aU):Prop:=gJ X (XQ op) (lx λi j=>.bl (f i j))
theorem lC{op:CmpOp}{f:Int->Int->Bool}(ax:E0 op f X)(aw:br X a b5)(ae:br X b b')(aA:XF op b=false):br X (.Compare a [op] [b] pos) (tv (λi j=>.bl (f i j)) b5 b'):=by
 obtain⟨_,h1,aq⟩:=aw;obtain⟨_,aa,aN⟩:=ae;exact⟨_,zC ax h1 aa aA,v0 (λ_ _ _=>.bl _) aq aN⟩
def iY(b5:bg):dO:=λρ k=>b5 ρ λx=>∃c,x=.bl c/\k c
def E1(u:dO):dO:=λρ k=>u ρ λc=>k (!c)
def E2(u w:dO):dO:=λρ k=>u ρ λc=>if c=true then w ρ k else k false
def E3(u w:dO):dO:=λρ k=>u ρ λc=>if c=true then k true else w ρ k
theorem tw{bL:bK}{b5:bg}(aw:e' K bL b5):h4 K (s1 bL) (iY b5):=by
 intro ρ k h R W B H σ Q e q;refine aw ρ _ h R W B H σ _ e λx v aY au h1 ai aE aq=>?_;obtain⟨c,rfl,ah⟩:=h1;exact⟨c,aq.blV,q c aY au ah ai aE⟩
theorem fC{e:WP}{u:bg}(h:br X e u)(aD:∀whole,Zb e X.env whole=(do let v <-whole;YR e.pos;Yv [v] (ZA v)):=by intro _;rfl):h5 X e (iY u):=by
 obtain⟨_,h1,aq⟩:=h;exact⟨_,KW h1 aD,tw aq⟩
theorem hE{op:CmpOp}{f:Int->Int->Bool}(ax:E0 op f X)(aw:br X a b5)(ae:br X b b')(aA:XF op b=false):h5 X (.Compare a [op] [b] pos) (iY (tv (λi j=>.bl (f i j)) b5 b')):=by
 obtain⟨_,h1,aq⟩:=aw;obtain⟨_,aa,aN⟩:=ae;exact⟨_,qd ax h1 aa aA,tw (v0 (λ_ _ _=>.bl _) aq aN)⟩
theorem Nb{t:ee}{u:dO}(h:h4 K t u):h4 K (D0 t) (E1 u):=λρ k z R W B H σ Q e q=>h ρ _ z R W B H σ _ e λb az ak h1 ai aE=>q (!b) az ak h1 ai aE
theorem Nc{t t':ee}{u fi:dO}(h:h4 K t u)(h':h4 K t' fi):h4 K (DY t t') (E2 u fi):=by
 intro ρ k z R W B H σ Q e q;refine h ρ _ z R W B H σ _ e λb aY au h1 ai aE=>?_;cases b with
 |true=>
  rw[Tk rfl]at h1⊢;exact h' ρ _ h1 R W aY au σ _ ai λc bG aS aa ar aI=>q c bG aS aa ar (aE.trans aI)
 |false=>
  rw[Tl SP]at h1⊢;exact q false aY au h1 ai aE
theorem Nd{t t':ee}{u fi:dO}(h:h4 K t u)(h':h4 K t' fi):h4 K (DZ t t') (E3 u fi):=by
 intro ρ k z R W B H σ Q e q;refine h ρ _ z R W B H σ _ e λb aY au h1 ai aE=>?_;cases b with
 |false=>
  rw[Tl SP]at h1⊢;exact h' ρ _ h1 R W aY au σ _ ai λc bG aS aa ar aI=>q c bG aS aa ar (aE.trans aI)
 |true=>
  rw[Tk rfl]at h1⊢;exact q true aY au h1 ai aE
theorem hS{u:dO}(h:h5 X a u):h5 X (.UnaryOp .Not a pos) (E1 u):=by
 obtain⟨_,h1,aq⟩:=h;exact⟨_,K1 h1,Nb aq⟩
theorem E4{u:dO}(h:h5 X a u):qp X (.BoolOp .And [a] pos) u:=by
 obtain⟨_,h1,aq⟩:=h;exact⟨_,KX h1,aq⟩
theorem o9{u:dO}(h:h5 X a u):qp X (.BoolOp .Or [a] pos) u:=by
 obtain⟨_,h1,aq⟩:=h;exact⟨_,KY h1,aq⟩
theorem w_and{rest:ZW}{u fi:dO}(h:h5 X a u)(h':qp X (.BoolOp .And (b::rest) pos) fi):qp X (.BoolOp .And (a::b::rest) pos) (E2 u fi):=by
 obtain⟨_,h1,aq⟩:=h;obtain⟨_,aa,aN⟩:=h';exact⟨_,KZ h1 aa,Nc aq aN⟩
theorem w_or{rest:ZW}{u fi:dO}(h:h5 X a u)(h':qp X (.BoolOp .Or (b::rest) pos) fi):qp X (.BoolOp .Or (a::b::rest) pos) (E3 u fi):=by
 obtain⟨_,h1,aq⟩:=h;obtain⟨_,aa,aN⟩:=h';exact⟨_,K0 h1 aa,Nd aq aN⟩
theorem nf{u:dO}(h:qp X a u):h5 X a u:=by
 obtain⟨_,h1,aq⟩:=h;exact⟨_,h1.pt,aq⟩
def Nf(u w:bg):bg:=λρ k=>u ρ λx=>∃c,x=.bl c/\if c=true then w ρ k else k (.bl false)
def Ng(u:bg):bg:=λρ k=>u ρ λx=>∃c,x=.bl c/\k (.bl (!c))
theorem tx{op:BoolOp}(h:br X a b5):br X (.BoolOp op [a] pos) b5:=by
 obtain⟨_,h1,aq⟩:=h;exact⟨_,K4 h1,aq⟩
theorem rV{rest:ZW}(h:br X a b5)(h':br X (.BoolOp .And (b::rest) pos) b'):br X (.BoolOp .And (a::b::rest) pos) (Nf b5 b'):=by
 obtain⟨_,h1,aq⟩:=h;obtain⟨_,aa,aN⟩:=h';refine⟨_,K5 h1 aa,λρ k z R W B H σ Q e q=>?_⟩;refine aq ρ _ z R W B H σ _ e λx v aY au aG ai aE aC=>?_;obtain⟨c,rfl,aG⟩:=aG;refine⟨c,aC.blV,?_⟩;cases c with
 |true=>
  rw[Tk rfl]at aG⊢;exact aN ρ _ aG R W aY au σ _ ai λd w bG aS aa ar aI bf=>q d w bG aS aa ar (aE.trans aI) bf
 |false=>
  rw[Tl SP]at aG⊢;exact q _ _ aY au aG ai aE (.bl _)
theorem Nh(h:br X a b5):br X (.UnaryOp .Not a pos) (Ng b5):=by
 obtain⟨_,h1,aq⟩:=h;refine⟨_,K6 h1,λρ k z R W B H σ Q e q=>?_⟩;refine aq ρ _ z R W B H σ _ e λx v aY au aG ai aE aC=>?_;obtain⟨c,rfl,aG⟩:=aG;exact⟨c,aC.blV,q _ _ aY au aG ai aE (.bl _)⟩
def Ni(c:dO)(u w:bg):bg:=λρ k=>c ρ λb=>if b=true then u ρ k else w ρ k
theorem lD{c:WP}{mb:dO}(hc:h5 X c mb)(aw:br X a b5)(ae:br X b b'):br X (.IfExp c a b pos) (Ni mb b5 b'):=by
 obtain⟨_,h0,hF⟩:=hc;obtain⟨_,h1,aq⟩:=aw;obtain⟨_,aa,aN⟩:=ae;refine⟨_,K8 h0 h1 aa,λρ k z R W B H σ Q e q=>?_⟩;refine hF ρ _ z R W B H σ _ e λc aY au aG ai aE=>?_;cases c with
 |true=>
  rw[Tk rfl]at aG⊢;exact aq ρ _ aG R W aY au σ _ ai λd w bG aS aa ar aI bf=>q d w bG aS aa ar (aE.trans aI) bf
 |false=>
  rw[Tl SP]at aG⊢;exact aN ρ _ aG R W aY au σ _ ai λd w bG aS aa ar aI bf=>q d w bG aS aa ar (aE.trans aI) bf
def tz:df:=λ_ k=>k []
def nh(u:bg)(w:df):df:=λρ k=>u ρ λd=>w ρ λds=>k (d::ds)
variable{e:WP}{es:ZW}{u:bg}{w:df}
theorem Nj:vY K vF tz:=λρ k h R W B H σ Q e q=>q [] [] B H h e (bJ.refl _ _) .nil
theorem Nk{bW:bK}{t:e8}(h1:e' K bW u)(aa:vY K t w):vY K (vG bW t) (nh u w):=by
 intro ρ k h R W B H σ Q e q;refine h1 ρ _ h R W B H σ _ e λd v aY au aG ai aE aq=>?_;refine aa ρ _ aG R W aY au σ _ ai λds vs bG aS a8 ar aI aN=>?_;exact q _ _ bG aS a8 ar (aE.trans aI) (.cons (aq.mono aI.s) aN)
theorem bP:o8 X [] tz:=⟨_,fj,Nj⟩
theorem aV(aw:br X e u)(ao:o8 X es w)(av:eQ X e es:=by rfl):o8 X (e::es) (nh u w):=by
 obtain⟨_,h1,aq⟩:=aw;obtain⟨_,aa,aN⟩:=ao;exact⟨_,d5 h1 aa av,Nk aq aN⟩
def v2(w:df):bg:=λρ k=>w ρ λds=>ds.length<=TT/\k (.tup ds)
theorem dj{x1}(h:o8 X es w):br X (.Tuple es x1 pos) (v2 w):=by
 obtain⟨_,h1,aq⟩:=h;refine⟨_,zG h1,λρ k z R W B H σ Q e q=>?_⟩;refine aq ρ _ z R W B H σ _ e λds vs aY au aG ai aE aC=>?_;refine⟨by rw[aC.length];exact aG.1,λp ag=>?_⟩;have aI:=ai.grow ag (.tup vs);exact q _ _ _ _ aG.2 (ai.alloc ag _) (aE.trans aI) (.tup d9 (aC.mono aI.s))
def Nl(w:df):df:=λρ k=>w ρ λds=>ds.length<=TT/\k ds
theorem fD(h:o8 X es w):kM X (.List es pos) (Nl w):=by
 obtain⟨_,h1,aq⟩:=h;refine⟨_,vH h1,λρ k z R W B H σ Q e q=>?_⟩;refine aq ρ _ z R W B H σ _ e λds vs aY au aG ai aE aC=>?_;refine⟨by rw[aC.length];exact aG.1,λp ag=>?_⟩;obtain⟨aT,bd,bA⟩:=ai.toWd.fresh ag;exact q ds p vs aY _ aG.2 (ai.allocH ag _) aE aT bA d9 aC λi m=>ai.notNew ag m rfl
def E5(w:df):bg:=λρ k=>w ρ λds=>k (.lst ds)
theorem Nm{t:bK}(h:vX K t w):e' K t (E5 w):=by
 intro ρ k z R W B H σ Q e q;refine h ρ _ z R W B H σ _ e λds a vs aY au aG ai aE ao ae dY hT aA=>?_;obtain⟨ar,aI⟩:=ai.freeze dY ao ae aA;exact q _ _ _ _ aG ar (aE.trans aI) (.lst d9 (hT.mono aI.s))
theorem dD(h:kM X e w):br X e (E5 w):=by
 obtain⟨_,h1,aq⟩:=h;exact⟨_,h1,Nm aq⟩
def z6(b5 b':bg):bg:=λρ k=>b5 ρ λx=>b' ρ λy=>∃ds i d,(x=.tup ds\/x=.lst ds)/\y=.int i/\eu ds i=some d/\k d
theorem tA{B:am}{vs:ZL}{ds:ZK}{i:Int}{d:D}(r:Reps K B vs ds)(h:eu ds i=some d):∃v,eu vs i=some v/\bU K B v d:=by
 unfold eu at h⊢;rw[r.length];cases q:ixN ds.length i with
 |none=>rw[q]at h;cases h
 |some j=>
  rw[q]at h;exact r.get h
theorem gD(aw:br X a b5)(ae:br X b b')(av:s9 b):br X (.Subscript a b pos) (z6 b5 b'):=by
 obtain⟨_,h1,aq⟩:=aw;obtain⟨_,aa,aN⟩:=ae;refine⟨_,l9 qn h1 aa av,rU aq aN λx y k h R W B H σ ρ v l3 Q e bn cg q=>?_⟩;obtain⟨ds,i,d,al,rfl,aw,ah⟩:=h;rcases al with rfl|rfl
 ·obtain⟨p,vs,rfl,ag,hT⟩:=bn.tupV;obtain⟨z,hz,jn⟩:=tA hT aw;exact⟨p,vs,i,z,rfl,cg.intV,.inl (e.bh _ _ ag),hz,q d z B H ah e (bJ.refl _ _) jn⟩
 obtain⟨p,vs,rfl,ag,hT⟩:=bn.lstV;obtain⟨z,hz,jn⟩:=tA hT aw;exact⟨p,vs,i,z,rfl,cg.intV,.inr (e.bh _ _ ag),hz,q d z B H ah e (bJ.refl _ _) jn⟩
end
abbrev ck:=ZM->(aK->Prop)->Prop
def kN:ZM->Nat
 |[]=>0
 |.bag::r=>kN r+1
 |_::r=>kN r
inductive kO (K:Su) (W:TI->Prop) (B:am):ZL->ZM->Prop where
 |nil:kO K W B [] []
 |val {v:V} {d:D} {vs:ZL} {as:ZM} (h:bU K B v d) (r:kO K W B vs as):kO K W B (v::vs) (.val d::as)
 |bag {b:TI} {vs:ZL} {as:ZM} (h:W b) (r:kO K W B vs as):kO K W B (.ref b::vs) (.bag::as)
structure Nn (K:Su) (W:TI->Prop) (B H:am) (v:V) (r:aK) (az ak:am):Prop where
 wd:Wd H W az ak
 g:bJ H B az
 res:z3 K H az ak v r
def cm(K:Su)(n:Nat)(F:ck):iA:=λvs H Q _=>∃(W:TI->Prop)(B:am)(as:ZM)(k:aK->Prop),F as k/\as.length=n/\Nat.ble (kN as) 1=true/\cw B H/\(∀a,W a->B a=none/\gf H a)/\kO K W B vs as /\
 ∀r v az ak,k r->Nn K W B H v r az ak->Q v ak
section
variable{K:Su}{R:am}{W:TI->Prop}{B az H ak:am}{σ:St}{ρ:ZM}
theorem kO.length:∀{vs:ZL}{as:ZM},kO K W B vs as->vs.length=as.length
 |_,_,.nil=>rfl
 |_,_,.val _ r=>by rw[SM,SM,r.length]
 |_,_,.bag _ r=>by rw[SM,SM,r.length]
theorem kO.get:∀{vs:ZL}{as:ZM},kO K W B vs as->∀(i:Nat)(k:aK),as[i]?=some k->(∃v d,vs[i]?=some v/\k=.val d/\bU K B v d)\/(∃b,vs[i]?=some (.ref b)/\k=.bag/\W b)
 |_,_,.nil,i,k,e=>by simp at e
 |_,_,.val h r,0,k,e=>by simp at e;subst e;exact .inl ⟨_,_,rfl,rfl,h⟩
 |_,_,.val h r,i+1,k,e=>by simpa using r.get i k (by simpa using e)
 |_,_,.bag h r,0,k,e=>by simp at e;subst e;exact .inr ⟨_,rfl,rfl,h⟩
 |_,_,.bag h r,i+1,k,e=>by simpa using r.get i k (by simpa using e)
theorem o':∀{as:ZM}{i:Nat},kN as=0->as[i]?≠some .bag
 |[],i,_=>by simp
 |.bag::r,i,h=>by simp[kN]at h
 |.no::r,0,h=>by simp
 |.no::r,i+1,h=>by simpa using o' (as:=r) (i:=i) h
 |.val d::r,0,h=>by simp
 |.val d::r,i+1,h=>by simpa using o' (as:=r) (i:=i) h
 |.new d::r,0,h=>by simp
 |.new d::r,i+1,h=>by simpa using o' (as:=r) (i:=i) h
 |.pin v d::r,0,h=>by simp
 |.pin v d::r,i+1,h=>by simpa using o' (as:=r) (i:=i) h
 |.own d::r,0,h=>by simp
 |.own d::r,i+1,h=>by simpa using o' (as:=r) (i:=i) h
 |.deep d::r,0,h=>by simp
 |.deep d::r,i+1,h=>by simpa using o' (as:=r) (i:=i) h
theorem qq:∀{as:ZM}{i j:Nat},kN as<=1->as[i]?=some .bag->as[j]?=some .bag->i=j
 |[],i,j,_,e,_=>by simp at e
 |.bag::r,0,0,_,_,_=>rfl
 |.bag::r,0,j+1,h,_,e=>absurd (by simpa using e) (o' (as:=r) (i:=j) (by simp[kN]at h;exact h))
 |.bag::r,i+1,_,h,e,_=>absurd (by simpa using e) (o' (as:=r) (i:=i) (by simp[kN]at h;exact h))
 |.no::r,0,_,_,e,_=>by simp at e
 |.no::r,i+1,0,_,_,e=>by simp at e
 |.no::r,i+1,j+1,h,e,bv=>by rw[qq (as:=r) (i:=i) (j:=j) h (by simpa using e) (by simpa using bv)]
 |.val d::r,0,_,_,e,_=>by simp at e
 |.val d::r,i+1,0,_,_,e=>by simp at e
 |.val d::r,i+1,j+1,h,e,bv=>by rw[qq (as:=r) (i:=i) (j:=j) h (by simpa using e) (by simpa using bv)]
 |.new d::r,0,_,_,e,_=>by simp at e
 |.new d::r,i+1,0,_,_,e=>by simp at e
 |.new d::r,i+1,j+1,h,e,bv=>by rw[qq (as:=r) (i:=i) (j:=j) h (by simpa using e) (by simpa using bv)]
 |.pin v d::r,0,_,_,e,_=>by simp at e
 |.pin v d::r,i+1,0,_,_,e=>by simp at e
 |.pin v d::r,i+1,j+1,h,e,bv=>by rw[qq (as:=r) (i:=i) (j:=j) h (by simpa using e) (by simpa using bv)]
 |.own d::r,0,_,_,e,_=>by simp at e
 |.own d::r,i+1,0,_,_,e=>by simp at e
 |.own d::r,i+1,j+1,h,e,bv=>by rw[qq (as:=r) (i:=i) (j:=j) h (by simpa using e) (by simpa using bv)]
 |.deep d::r,0,_,_,e,_=>by simp at e
 |.deep d::r,i+1,0,_,_,e=>by simp at e
 |.deep d::r,i+1,j+1,h,e,bv=>by rw[qq (as:=r) (i:=i) (j:=j) h (by simpa using e) (by simpa using bv)]
theorem aW.after{jN:TI->Prop}(e:aW K R W B H σ ρ)(hU:∀a,jN a->∃i:Nat,σ[i]?=some (some (.ref a))/\ρ[i]?=some .bag)(wd:Wd H jN az ak)(g:bJ H B az):aW K R W az ak σ ρ/\bJ R B az:=by
 have nb:∀a,B a=none->H a≠none->az a=none:=λa h1 aa=>by
  cases q:az a with
  |none=>rfl
  |some o=>
   rcases g.n a o q with z|z
   ·rw[h1]at z;cases z
   exact absurd z aa
 have st:∀a,¬jN a->H a≠none->ak a=H a:=λa h1 aa=>by
  cases q:H a with
  |none=>exact absurd q aa
  |some o=>exact wd.fr a o q h1
 have tB:∀a,gf H a->gf ak a:=λa h=>by
  by_cases z:jN a
  ·exact wd.wh a z
  obtain⟨x,y,ai,q⟩:=h;exact⟨x,y,by rw[st a z (by rw[ai];simp)];exact ai,q⟩
 have z7:∀a,gf H a->H a≠none:=λa ⟨x,y,ai,_⟩=>by rw[ai];simp
 refine⟨e.move ⟨λa o h nw=>?_,wd.bh,λa h=>nb a (e.wb a h) (z7 a (e.wh a h)),λa h=>tB a (e.wh a h),e.wr⟩ g.s (λi a m=>⟨nb a (e.mutOk m).1 (e.mutOk m).2,λz=>?_,λz=>?_⟩),⟨g.s,λa o h=>?_⟩⟩
 ·have h1:=e.fr a o h nw;refine wd.fr a o h1 λz=>?_;obtain⟨i,aG,a8⟩:=hU a z;obtain⟨b,dy,fa,_⟩:=e.bagAt a8;rw[aG]at dy;cases dy;rcases fa with fa|fa
  ·exact nw fa
  rw[fa]at h;cases h
 ·obtain⟨b,dy,_,_,mc⟩:=e.bagAt z;rw[o6 m z]at dy;cases dy;exact tB _ mc
 ·refine st a (λq=>?_) (e.mutOk m).2;obtain⟨j,aG,a8⟩:=hU a q;have:=e.sep i j a m (.inl ⟨aG,.inl a8⟩);subst this;exact z a8
 rcases g.n a o h with z|z
 ·exact .inl z
 exact .inr (e.toWd.fresh z).1
theorem aW.start{N:ZT}{vs:ZL}{as:ZM}(ae:kN as<=1)(dP:cw B H)(hw:∀a,W a->B a=none/\gf H a)(fp:kO K W B vs as):aW K H W B H (L2.start N vs) (as++SX (N.length-as.length) .no):=by
 have ap:=fp.length;have wd:Wd H W B H:=⟨λ_ _ h _=>h,dP,λa h=>(hw a h).1,λa h=>(hw a h).2,λa h=>by obtain⟨x,y,q,_⟩:=(hw a h).2;rw[q];simp⟩
 have lo:∀i k,as[i]?=some k->(L2.start N vs)[i]?=(vs[i]?).map some:=λi k h=>by
  have lt:i<as.length:=by
   by_cases z:i<as.length
   ·exact z
   rw[S' (by lia)]at h;cases h
  unfold L2.start;rw[TQ (by rw[Sv];lia),SW]
 have cs:∀(i:Nat)(k:aK),(as++SX (N.length-as.length) aK.no)[i]?=some k->as[i]?=some k\/k=aK.no:=λi k h=>by
  by_cases z:i<as.length
  ·rw[TQ z]at h;exact .inl h
  rw[Tr (by lia)]at h;rw[Uq]at h;split at h
  ·exact .inr (SO h).symm
  cases h
 have g1:∀i:Nat,(as++SX (N.length-as.length) aK.no)[i]?=some aK.bag->as[i]?=some aK.bag:=λi h=>by
  rcases cs i _ h with h|h
  ·exact h
  cases h
 refine⟨wd,by unfold L2.start;simp[ap],λi k h=>?_,λi j a a7 a5=>?_⟩
 ·rcases cs i k h with h|rfl
  ·rw[lo i k h];rcases fp.get i k h with⟨v,d,h1,rfl,r⟩|⟨b,h1,rfl,r⟩
   ·rw[h1];exact⟨v,rfl,r⟩
   rw[h1];exact⟨b,rfl,.inl r,(hw b r).1,(hw b r).2⟩
  trivial
 have one:∀i,cF (L2.start N vs) (as++SX (N.length-as.length) aK.no) i a->as[i]?=some .bag:=λi m=>by
  rcases m with⟨_,z|⟨ds,z⟩⟩|⟨c,z,_⟩
  ·exact g1 i z
  ·rcases cs i _ z with z|z
   ·rcases fp.get i _ z with⟨v,d,_,q,_⟩|⟨b,_,q,_⟩<;>cases q
   cases z
  rcases cs i _ z with z|z
  ·rcases fp.get i _ z with⟨v,d,_,q,_⟩|⟨b,_,q,_⟩<;>cases q
  cases z
 exact qq ae (one i a7) (one j a5)
theorem dq{P:WF}{w:Xx}{mg:Str->Option SZ}{base:XB}{x:Str}{st:XE}{N ps:ZT}{lv n:Nat}{F:ck}(qr:cM K mg x st ps)(S:cC N ps (bZ st))(aO:ps.length=n)(hu:∀(f:TI) (cdv:SZ) (A:Xy) (outer:List Tx) (s:TD) (H:am) (E:gW),eF lv (A.deeper (Ve x (bZ st) s.heap.objs.size f cdv))->∃u,h6 (ly kh P w K mg base N x (bZ st) f cdv A outer s H E).nox (kg st) u/\∀as k,as.length=n->F as k->u {nx:=λ_=>k (.val .non),rt:=k} (as++SX (N.length-n) .no)):cj P w K mg base x ps (lv+1) (cm K n F):=by
 refine qr.ok S (λvs H Q E h=>?_) (λf cdv A outer s H vs Q E ao h=>?_)
 ·obtain⟨W,B,as,k,_,ap,_,_,_,fp,_⟩:=h;rw[fp.length,ap,aO]
 obtain⟨W,B,as,k,f4,ap,ae,dP,hw,fp,q⟩:=h;obtain⟨u,⟨t,aR,rt⟩,a2⟩:=hu f cdv A outer s H E ao;have ev:=aW.start (N:=N) (VU ae) dP hw fp;rw[ap]at ev;refine⟨t,aR,rt _ _ (a2 as k ap f4) H W B H (L2.start N vs) _ ev ⟨λρ σ az ak h e g=>?_,λ_ _ _ _ h=>h.elim,λ_ _ _ _ h=>h.elim,λr v az ak h e g z=>q r v az ak h ⟨e,g,z⟩⟩⟩;exact q _ _ az ak h ⟨e.toWd,g,.non⟩
end
def Arg.sl:Arg->aK
 |.val d=>.val d
 |.bag _=>.bag
@[reducible] def lE:aK->(D->Prop)->Prop
 |.val d,k=>k d
 |.own (.l ds),k=>k (.lst ds)
 |.new d,k=>k d
 |_,_=>False
def z8:jL:=λ_ k=>k []
def z9(u:bg)(w:jL):jL:=λρ k=>u ρ λd=>w ρ λas=>k (.val d::as)
def No(i:Nat)(w:jL):jL:=λρ k=>ρ[i]?=some .bag/\w ρ λas=>k (.bag i::as)
def sh(as:ZR)(n:Nat):Bool:=Nat.beq as.length n&&Nat.ble (kN (as.map Arg.sl)) 1
def v3(n:Nat)(F:ck)(w:jL):bg:=λρ k=>w ρ λas=>sh as n=true/\F (as.map Arg.sl) λr=>lE r k
def Np(n:Nat)(F:ck)(w:jL):df:=λρ k=>w ρ λas=>sh as n=true/\F (as.map Arg.sl) λr=>∃ds:ZK,r=.own ds/\k ds
section
variable{K:Su}{X:aU}{e:WP}{es:ZW}{u:bg}{w:jL}{pos p:Pos}{n:Nat}{F:ck}
theorem a9:m' X [] z8:=⟨_,fj,λρ k h R W B H σ Q e q=>q [] [] B H h e (bJ.refl _ _) .nil⟩
theorem aB(aw:br X e u)(ao:m' X es w)(av:eQ X e es:=by rfl):m' X (e::es) (z9 u w):=by
 obtain⟨_,h1,aq⟩:=aw;obtain⟨_,aa,aN⟩:=ao;refine⟨_,d5 h1 aa av,λρ k h R W B H σ Q e q=>?_⟩;refine aq ρ _ h R W B H σ _ e λd v aY au aG ai aE aC=>?_;refine aN ρ _ aG R W aY au σ _ ai λas vs bG aS a8 ar aI bf=>?_;exact q _ _ bG aS a8 ar (aE.trans aI) (.val (aC.mono aI.s) bf)
theorem gM(i:Nat){x:Str}{px:Pos}(ao:m' X es w)(bF:gG X i x:=by rfl)(aL:gy X.env.scope x:=by walk_at"v")(hd:ed x:=by decide)(dI:gV x:=by decide)(av:UV (.Name x px::es) X.env=(false,Yl (.Name x px) X.env)::UV es X.env:=by rfl):m' X (.Name x px::es) (No i w):=by
 obtain⟨_,aa,aN⟩:=ao;refine⟨_,d5 (g9 bF aL hd dI) aa av,λρ k h R W B H σ Q e q=>?_⟩;obtain⟨ae,h⟩:=h;obtain⟨b,b1,b2⟩:=e.bagAt ae;refine⟨_,b1,?_⟩;refine aN ρ _ h R W B H σ _ e λas vs bG aS a8 ar aI bf=>?_;exact q _ _ bG aS a8 ar aI (.bag b1 ae bf)
theorem kk.toIn{B:am}{σ:St}{ρ:ZM}{W:TI->Prop}{R H:am}{W0:TI->Prop}(e:aW K R W0 B H σ ρ):∀{vs:ZL}{as:ZR},kk K B σ ρ vs as->(∀i b,Arg.bag i∈as->σ[i]?=some (some (.ref b))->W b)->kO K W B vs (as.map Arg.sl)
 |_,_,.nil,_=>.nil
 |_,_,.val h r,hw=>.val h (kk.toIn e r λi b m=>hw i b (Sy _ m))
 |_,_,.bag h ae r,hw=>by
  obtain⟨b,b1,_⟩:=e.bagAt ae;rw[h]at b1;cases b1;exact .bag (hw _ b Sw h) (kk.toIn e r λi c m=>hw i c (Sy _ m))
theorem kk.bagIn{B:am}{σ:St}{ρ:ZM}:∀{vs:ZL}{as:ZR}{i:Nat},kk K B σ ρ vs as->Arg.bag i∈as->ρ[i]?=some .bag
 |_,_,_,.nil,m=>by simp at m
 |_,_,_,.val h r,m=>by
  rcases SG.mp m with m|m
  ·cases m
  exact r.bagIn m
 |_,_,_,.bag h ae r,m=>by
  rcases SG.mp m with m|m
  ·cases m;exact ae
  exact r.bagIn m
theorem rW{R:am}{W:TI->Prop}{B H:am}{σ:St}{ρ:ZM}{vs:ZL}{as:ZR}{k:aK->Prop}{Q:cq}{E:gW}(e:aW K R W B H σ ρ)(ok:kk K B σ ρ vs as)(av:sh as n=true)(f4:F (as.map Arg.sl) k)(q:∀r v az ak,k r->aW K R W az ak σ ρ->bJ R B az->z3 K H az ak v r->Q v ak):cm K n F vs H Q E:=by
 rw[sh,TL]at av;have h1:as.length=n:=Nat.eq_of_beq_eq_true av.1;have hU:∀a,(∃i:Nat,Arg.bag i∈as/\σ[i]?=some (some (.ref a)))->∃i:Nat,σ[i]?=some (some (.ref a))/\ρ[i]?=some .bag:=λa ⟨i,m,z⟩=>⟨i,z,ok.bagIn m⟩;refine⟨λa=>∃i:Nat,Arg.bag i∈as/\σ[i]?=some (some (.ref a)),B,as.map Arg.sl,k,f4,by rw[Sv];exact h1,av.2,e.bh,λa h=>?_,ok.toIn e λi b m z=>⟨i,m,z⟩,λr v az ak ah ex=>?_⟩
 ·obtain⟨i,aG,a8⟩:=hU a h;obtain⟨b,b1,_,b3,b4⟩:=e.bagAt a8;rw[aG]at b1;cases b1;exact⟨b3,b4⟩
 obtain⟨ar,aI⟩:=e.after hU ex.wd ex.g;exact q r v az ak ah ar aI ex.res
theorem Nq{x:Str}{ps:ZT}{j lv:Nat}(c:cj X.prog X.w X.K X.mg X.base x ps j (cm X.K n F))(ao:eF lv X.A)(aF:eD X x)(aw:m' X (e::es) w)(gC:j<=lv:=by decide)(gA:ed x:=by decide)(aD:eQ X e es:=by rfl)(eh:g8 X pos es:=by rfl):
  br X (.Call (.Name x p) (e::es) [] pos) (v3 n F w):=by
 obtain⟨_,h1,aq⟩:=aw;refine⟨_,o2 c ao aF h1 gC gA aD eh,λρ k h R W B H σ Q e q=>?_⟩;refine aq ρ _ h R W B H σ _ e λas vs aY au aG ai aE aC=>?_;rw[SQ];refine rW ai aC aG.1 aG.2 λr v bG aS ah ar aI res=>?_;cases r with
 |no=>exact ah.elim
 |bag=>exact ah.elim
 |pin v d=>exact ah.elim
 |deep c=>exact ah.elim
 |val d=>exact q d v bG aS ah ar (aE.trans aI) res
 |new d=>exact q d v bG aS ah ar (aE.trans aI) (bU.mono tm res)
 |own c=>
  cases c with
  |d _ _ _ _=>exact ah.elim
  |l ds=>
  obtain⟨a,rfl,aT,bd,us,bA,c7⟩:=res
  obtain⟨bb,g3⟩:=ar.freeze bA (ai.toWd.fresh aT).1 bd λi m=>absurd aT (by
   have a7:cF σ ρ i a:=m
   exact(ai.mutOk a7).2)
  exact q _ _ _ _ ah bb ((aE.trans aI).trans g3) (.lst d9 (c7.mono g3.s))
theorem E6{x:Str}{ps:ZT}{j lv:Nat}(c:cj X.prog X.w X.K X.mg X.base x ps j (cm X.K n F))(ao:eF lv X.A)(aF:eD X x)(aw:m' X (e::es) w)(gC:j<=lv:=by decide)(gA:ed x:=by decide)(aD:eQ X e es:=by rfl)(eh:g8 X pos es:=by rfl):
  kM X (.Call (.Name x p) (e::es) [] pos) (Np n F w):=by
 obtain⟨_,h1,aq⟩:=aw;refine⟨_,o2 c ao aF h1 gC gA aD eh,λρ k h R W B H σ Q e q=>?_⟩;refine aq ρ _ h R W B H σ _ e λas vs aY au aG ai aE aC=>?_;rw[SQ];refine rW ai aC aG.1 aG.2 λr v bG aS ah ar aI res=>?_;obtain⟨ds,rfl,ah⟩:=ah;obtain⟨a,rfl,aT,bd,us,bA,c7⟩:=res;exact q ds a us bG aS ah ar (aE.trans aI) (ai.toWd.fresh aT).1 bd bA c7 λi m=>(ai.mutOk m).2 aT
end
def rX:D->Option Nat
 |.tup ds=>some ds.length
 |.lst ds=>some ds.length
 |.scr ns=>some ns.length
 |_=>none
def Nr(u:bg):bg:=λρ k=>u ρ λx=>∃n,rX x=some n/\k (.int n)
def Nt(i:Nat):bg:=λρ k=>∃ds:ZK,ρ[i]?=some (.own ds)/\k (.int ds.length)
def Nu(u:bg):bg:=λρ k=>u ρ λx=>∃i,x=.int i/\k (.int (if i<0 then -i else i))
def Nv(u:bg):bg:=λρ k=>u ρ λx=>(∃i,x=.int i/\k (.int i))\/∃c,x=.bl c/\k (.int (if c then 1 else 0))
def E7:D->Option String
 |.int _=>some "int"
 |.bl _=>some "bool"
 |.tup _=>some "tuple"
 |.lst _=>some "list"
 |.non=>some "NoneType"
 |.str _=>some "str"
 |_=>none
def Nw(u:bg)(n:String):bg:=λρ k=>u ρ λx=>∃t b,E7 x=some t/\(∀K,VH K (.type t) (.type n)=some b)/\k (.bl b)
section
variable{K:Su}{X:aU}{e:WP}{es:ZW}{u:bg}{pos p:Pos}{n:Nat}
theorem v4{bW:bK}{r:ZL->am->cq->Prop}{f:D->(D->Prop)->Prop}(aw:e' K bW u)(ao:∀(x:D) (k:D->Prop),f x k->∀(R:am) (W:TI->Prop) (B H:am) (σ:St) (ρ:ZM) (v:V) (Q:cq),aW K R W B H σ ρ->bU K B v x->(∀d v az ak,k d->aW K R W az ak σ ρ->bJ R B az->bU K az v d->Q v ak)->r [v] H Q):
  e' K (zJ r (vG bW vF)) (λρ k=>u ρ λx=>f x k):=by
 intro ρ k h R W B H σ Q e q;refine aw ρ _ h R W B H σ _ e λx v aY au h1 ai aE aq=>?_;exact ao x k h1 R W aY au σ ρ v Q ai aq λd u lB cG aH bb g3 d2=>q d u lB cG aH bb (aE.trans g3) d2
theorem kP(aw:br X e u)(aF:eD X "len")(aA:X.mg "len"=none)(av:eQ X e []:=by rfl):br X (.Call (.Name "len" p) [e] [] pos) (Nr u):=by
 obtain⟨_,h1,aq⟩:=aw;refine⟨_,qg zN aF aA PySem.boot_len (d5 h1 fj av) (by decide) (by decide) av,v4 (f:=λx k=>∃n,rX x=some n/\k (.int n)) aq λx k h R W B H σ ρ v Q e bn q=>?_⟩;obtain⟨n,aO,ah⟩:=h;cases x<;>first|(cases aO;done)|skip
 ·obtain⟨a,vs,rfl,aw,r⟩:=bn.tupV;cases aO;rw[<-r.length]at ah;exact⟨a,vs,rfl,.inr (eX.of (e.bh _ _ aw)),q _ _ B H ah e (bJ.refl _ _) (.int _)⟩
 ·obtain⟨a,vs,rfl,aw,r⟩:=bn.lstV;cases aO;rw[<-r.length]at ah;exact⟨a,vs,rfl,.inl (cN.of (e.bh _ _ aw)),q _ _ B H ah e (bJ.refl _ _) (.int _)⟩
 obtain⟨a,rfl,aw⟩:=bn.scrV;cases aO;refine⟨a,_,rfl,.inl (e.bh.seq aw),?_⟩;rw[Sv];exact q _ _ B H ah e (bJ.refl _ _) (.int _)
theorem E8(i:Nat){x:Str}{px:Pos}(aF:eD X "len")(aA:X.mg "len"=none)(bF:gG X i x:=by rfl)(aL:gy X.env.scope x:=by walk_at"v")(hd:ed x:=by decide)(dI:gV x:=by decide)(av:UV [.Name x px] X.env=(false,Yl (.Name x px) X.env)::UV [] X.env:=by rfl):br X (.Call (.Name "len" p) [.Name x px] [] pos) (Nt i):=by
 refine⟨_,qg zN aF aA PySem.boot_len (d5 (g9 bF aL hd dI) fj av) (by decide) (by decide) av,λρ k h R W B H σ Q e q=>?_⟩;obtain⟨ds,ax,ah⟩:=h;obtain⟨a,vs,ai,ar,bb,b0,d6⟩:=e.ownAt ax;rw[<-d6.length]at ah;exact⟨_,ai,a,vs,rfl,.inl (cN.of b0),q _ _ B H ah e (bJ.refl _ _) (.int _)⟩
theorem rY(aw:br X e u)(aF:eD X "abs")(aA:X.mg "abs"=none)(av:eQ X e []:=by rfl):br X (.Call (.Name "abs" p) [e] [] pos) (Nu u):=by
 obtain⟨_,h1,aq⟩:=aw;refine⟨_,qg L0 aF aA (by decide +kernel) (d5 h1 fj av) (by decide) (by decide) av,v4 (f:=λx k=>∃i,x=.int i/\k (.int (if i<0 then -i else i))) aq λx k h R W B H σ ρ v Q e bn q=>?_⟩;obtain⟨i,rfl,ah⟩:=h;exact⟨i,by rw[bn.intV],q _ _ B H ah e (bJ.refl _ _) (.int _)⟩
theorem v5(aw:br X e u)(aF:eD X "int")(aA:X.mg "int"=none)(av:eQ X e []:=by rfl):br X (.Call (.Name "int" p) [e] [] pos) (Nv u):=by
 obtain⟨_,h1,aq⟩:=aw;refine⟨_,Eo L1 aF aA (by decide +kernel) (d5 h1 fj av) (by decide) (by decide) av,v4 (f:=λx k=>(∃i,x=.int i/\k (.int i))\/∃c,x=.bl c/\k (.int (if c then 1 else 0))) aq λx k h R W B H σ ρ v Q e bn q=>?_⟩;rcases h with⟨i,rfl,ah⟩|⟨c,rfl,ah⟩
 ·exact .inl ⟨i,by rw[bn.intV],q _ _ B H ah e (bJ.refl _ _) (.int _)⟩
 exact .inr ⟨c,by rw[bn.blV],q _ _ B H ah e (bJ.refl _ _) (.int _)⟩
theorem Nx{B H:am}{v:V}{x:D}{t:String}(s:cw B H)(r:bU K B v x)(h:E7 x=some t):kd K H v (.type t):=by
 cases r<;>cases h
 ·exact .non
 ·exact .bl _
 ·exact .int _
 ·exact .str _
 ·exact .tup (s _ _ (by assumption))
 exact .lst (s _ _ (by assumption))
theorem n'{T:String}{y:Str}{qs:Pos}(aw:br X e u)(aF:eD X "isinstance")(aA:X.mg "isinstance"=none)(ej:bY X (.Name y qs) (p' (.ty T)))(av:UV [e,.Name y qs] X.env=(false,Yl e X.env)::UV [.Name y qs] X.env)(lu:UV [.Name y qs] X.env=(false,Yl (.Name y qs) X.env)::UV [] X.env)(eh:(X8 pos (UV [.Name y qs] X.env)).any (·.1)=false):br X (.Call (.Name "isinstance" p) [e,.Name y qs] [] pos) (Nw u T):=by
 obtain⟨_,h1,aq⟩:=aw;refine⟨_,qg MY aF aA (by decide +kernel) (d5 h1 (d5 ej fj lu) av) (by decide) (by decide) av eh,λρ k h R W B H σ Q e q=>?_⟩;refine aq ρ _ h R W B H σ _ e λx v aY au h1 ai aE aC=>?_;obtain⟨t,b,aR,ah,z⟩:=h1;exact⟨v,_,T,b,rfl,Nx ai.bh aC aR,ah _,q _ _ aY au z ai aE (.bl _)⟩
end
section
variable{K:Su}{X:aU}{e:WP}{es:ZW}{u:bg}{w:df}{pos p:Pos}
def z':cQ:=λU ρ=>U.nx ρ
def qt(s t:cQ):cQ:=λU ρ=>s {U with nx:=t U} ρ
def Ny(u:bg):cQ:=λU ρ=>u ρ λd=>U.rt (.val d)
def Nz(w:df):cQ:=λU ρ=>w ρ λds=>U.rt (.own ds)
def E9(i:Nat)(u:bg):cQ:=λU ρ=>u ρ λd=>U.nx (ρ.set i (.val d))
def Aa(i:Nat)(w:df):cQ:=λU ρ=>w ρ λds=>U.nx (ρ.set i (.own ds))
def Ab(c:dO)(s t:cQ):cQ:=λU ρ=>c ρ λb=>if b=true then s U ρ else t U ρ
def NA(i:Nat)(s:cQ):cQ:=λU ρ=>∃ds:ZK,ρ[i]?=some (.own ds)/\s U (ρ.set i (.val (.lst ds)))
theorem f5:h6 X [] z':=⟨_,vr,λU ρ h R W B H σ D e s=>s.nx ρ σ B H h e (bJ.refl _ _)⟩
theorem bE{st:XE}{s:cQ}(h:fk X st s):h6 X [st] s:=by
 obtain⟨_,h1,aq⟩:=h;exact⟨_,qa h1,aq⟩
theorem aZ{st:XE}{rest:ZX}{s t:cQ}(h:fk X st s)(h':h6 X rest t):h6 X (st::rest) (qt s t):=by
 obtain⟨_,h1,aq⟩:=h;obtain⟨_,aa,aN⟩:=h';refine⟨_,oT h1 aa,λU ρ h R W B H σ D e ew=>?_⟩;exact aq _ ρ h R W B H σ _ e ⟨λbi bm az ak z bv g=>aN U bi z R W az ak bm D bv (ew.grow g),ew.bk,ew.ct,ew.rt⟩
theorem iF{st:ZX}{s:cQ}(i:Nat)(h:h6 X st s):h6 X st (NA i s):=by
 obtain⟨_,h1,aq⟩:=h;refine⟨_,h1,λU ρ h R W B H σ D e ew=>?_⟩;obtain⟨ds,ax,z⟩:=h;obtain⟨az,bv,g⟩:=e.fz ax;exact aq U _ z R W az H σ D bv (ew.grow g)
theorem E'{st:XE}:fk X st (λ_ _=>False):=⟨_,Lf,λU ρ h=>h.elim⟩
theorem cD(h:br X e u):fk X (.Return (some e) pos) (Ny u):=by
 obtain⟨_,h1,aq⟩:=h;refine⟨_,nW h1,λU ρ h R W B H σ D e s=>?_⟩;exact aq ρ _ h R W B H σ _ e λd v aY au aG ai aE aC=>s.rt _ v aY au aG ai.toWd aE aC
theorem Ac(h:kM X e w):fk X (.Return (some e) pos) (Nz w):=by
 obtain⟨_,h1,aq⟩:=h;refine⟨_,nW h1,λU ρ h R W B H σ D e s=>?_⟩;exact aq ρ _ h R W B H σ _ e λds a vs aY au aG ai aE aT bd bA c7 d1=>s.rt (.own ds) _ aY au aG ai.toWd aE ⟨a,rfl,aT,bd,vs,bA,c7⟩
theorem v6{i:Nat}{x:Str}{fx:Pos}(bF:X.N.Nodup)(hi:X.N[i]?=some x)(al:Loc X.env.scope x)(aD:br X e u)(av:XA e (some (.Name x fx)) pos.line X.env=pure false:=by rfl)(bD:iO X x:=by walk_at"f"):
  fk X (.Assign [.Name x fx] e pos) (E9 i u):=by
 obtain⟨_,h1,aq⟩:=aD;refine⟨_,rI bF hi al h1 av bD,λU ρ h R W B H σ D e s=>?_⟩;exact aq ρ _ h R W B H σ _ e λd v aY au aG ai aE aC=>s.nx _ _ aY au aG (ai.setV i aC) aE
theorem jO{i:Nat}{x:Str}{fx:Pos}(bF:X.N.Nodup)(hi:X.N[i]?=some x)(al:Loc X.env.scope x)(aD:kM X e w)(av:XA e (some (.Name x fx)) pos.line X.env=pure false:=by rfl)(bD:iO X x:=by walk_at"f"):
  fk X (.Assign [.Name x fx] e pos) (Aa i w):=by
 obtain⟨_,h1,aq⟩:=aD;refine⟨_,rI bF hi al h1 av bD,λU ρ h R W B H σ D e s=>?_⟩;exact aq ρ _ h R W B H σ _ e λds a vs aY au aG ai aE aT bd bA c7 d1=>s.nx _ _ aY au aG (ai.setO i aT bd bA c7 λj _=>d1 j) aE
theorem fM{c:WP}{a b:ZX}{mb:dO}{s t:cQ}(hc:h5 X c mb)(aw:h6 X a s)(ae:h6 X b t):fk X (.If c a b pos) (Ab mb s t):=by
 obtain⟨_,h0,hF⟩:=hc;obtain⟨_,h1,aq⟩:=aw;obtain⟨_,aa,aN⟩:=ae;refine⟨_,vt h0 h1 aa,λU ρ h R W B H σ D e ew=>?_⟩;refine hF ρ _ h R W B H σ _ e λc aY au aG ai aE=>?_;cases c with
 |true=>
  rw[Tk rfl]at aG⊢;exact aq U ρ aG R W aY au σ D ai (ew.grow aE)
 |false=>
  rw[Tl SP]at aG⊢;exact aN U ρ aG R W aY au σ D ai (ew.grow aE)
def fb(i:Nat):eZ:=λd ρ k=>k (ρ.set i (.val d))
def md:m9:=λds ρ k=>ds=[]/\k ρ
def g2(g:eZ)(jo:m9):m9:=λds ρ k=>∃d r,ds=d::r/\g d ρ λbi=>jo r bi k
def me(n:Nat)(jo:m9):eZ:=λd ρ k=>∃ds,d=.tup ds/\ds.length=n/\jo ds ρ k
def NB(u:bg)(g:eZ):cQ:=λU ρ=>u ρ λd=>g d ρ U.nx
theorem fq{i:Nat}{x:Str}(bF:X.N.Nodup)(hi:X.N[i]?=some x)(al:Loc X.env.scope x)(bD:iO X x:=by walk_at"f"):km X (.Name x pos) (fb i):=
 ⟨_,vv bF hi al bD,λd ρ k h R W B H σ v Q e r q=>q _ _ h (e.setV i r) λj a m=>by
  exact(rT m (by simp) (by simp) rfl).2⟩
theorem eS:tu X [] md:=⟨_,D3,λds ρ k h R W B H σ vs Q e r q=>by
 obtain⟨rfl,h⟩:=h;cases r
 exact⟨rfl,q _ _ h e λ_ _ m=>m⟩⟩
theorem bR{g:eZ}{jo:m9}(h1:km X e g)(aa:tu X es jo)(av:(Xz (e::es) X.env).map (·.2)=Y3 e X.env::(Xz es X.env).map (·.2):=by rfl):tu X (e::es) (g2 g jo):=by
 obtain⟨_,h1,aq⟩:=h1;obtain⟨_,aa,aN⟩:=aa;refine⟨_,vw h1 aa av,λds ρ k h R W B H σ vs Q e r q=>?_⟩;obtain⟨d,f1,rfl,h⟩:=h;cases r with
 |cons b6 rs=>
  refine⟨_,_,rfl,aq d ρ _ h R W B H σ _ _ e b6 λbi bm z bv h3=>?_⟩;exact aN f1 bi k z R W B H bm _ _ bv rs λAd NC a8 ar a5=>q Ad NC a8 ar λj a m=>h3 j a (a5 j a m)
theorem fc{dS:Nat}{jo:m9}{n:Nat}(hc:X.calm=true)(h:tu X es jo)(aO:(Xz es X.env).length=n:=by rfl)(qb:(Xz es X.env).findIdx? (·.1)=none:=by rfl):km X (.Tuple es dS pos) (me n jo):=by
 obtain⟨_,h1,aq⟩:=h;refine⟨_,D4 hc h1 aO qb,λd ρ k h R W B H σ v Q e r q=>?_⟩;obtain⟨ds,rfl,ap,h⟩:=h;obtain⟨a,vs,rfl,aw,rs⟩:=r.tupV;exact⟨a,vs,rfl,eX.of (e.bh _ _ aw),by rw[rs.length];exact ap,aq ds ρ k h R W B H σ vs Q e rs q⟩
theorem hG{bj:WP}{g:eZ}(aD:br X e u)(aF:km X bj g)(av:XY [bj] e pos.line X.env=pure false:=by rfl)(hw:XZ [bj] e X.env=pure none:=by rfl)(h1:(Xz [bj] X.env).map (·.2)=[Y3 bj X.env]:=by rfl):fk X (.Assign [bj] e pos) (NB u g):=by
 obtain⟨_,aw,aq⟩:=aD;obtain⟨_,ae,aN⟩:=aF;refine⟨_,rG aw ae av hw h1,λU ρ h R W B H σ D e s=>?_⟩;refine aq ρ _ h R W B H σ _ e λd v aY au aG ai aE aC=>?_;exact aN d ρ _ aG R W aY au σ v _ ai aC λbi bm a8 ar _=>s.nx _ _ aY au a8 ar aE
def ND(i j:Nat)(w:df):cQ:=λU ρ=>w ρ λds=>∃x y,ds=[x,y]/\U.nx ((ρ.set i (.val x)).set j (.val y))
theorem Fa{i j:Nat}{x y:Str}{a b:WP}{px er pt:Pos}{ix cu l4}(hc:X.calm=true)(bF:X.N.Nodup)(hi:X.N[i]?=some x)(bC:X.N[j]?=some y)(l5:i≠j)(al:X.env.scope.names.lookup x=some .local)(aP:X.env.scope.names.lookup y=some .local)(aw:o8 X [a,b] w)(hw:XZ [.Tuple [.Name x px,.Name y er] ix pt] (.Tuple [a,b] cu l4) X.env=pure (some [x,y]))(av:XY [.Tuple [.Name x px,.Name y er] ix pt] (.Tuple [a,b] cu l4) pos.line X.env=pure false:=by rfl):
  fk X (.Assign [.Tuple [.Name x px,.Name y er] ix pt] (.Tuple [a,b] cu l4) pos) (ND i j w):=by
 obtain⟨_,h1,aq⟩:=aw;refine⟨_,D5 hc bF hi bC l5 al aP h1 hw av,λU ρ h R W B H σ D e s=>?_⟩;refine aq ρ _ h R W B H σ _ e λds vs aY au aG ai aE aC=>?_;obtain⟨x,y,rfl,aG⟩:=aG;cases aC with
 |cons lF rb=>cases rb with
  |cons rb rc=>
   cases rc;exact⟨_,_,rfl,s.nx _ _ aY au aG ((ai.setV i lF).setV j rb) aE⟩
def NE(c:dO)(s:cQ):cQ:=λU ρ=>∃M:Nat->ZM->Prop,(∃m,M m ρ)/\∀m ρ,M m ρ->c ρ λb=>if b=true then s {U with nx:=λbi=>∃dH,dH<m/\M dH bi,ct:=λbi=>∃dH,dH<m/\M dH bi,bk:=U.nx} ρ else U.nx ρ
theorem Ae{c:WP}{body:ZX}{mb:dO}{s:cQ}(ag:Zc (Wp X.prog X.w) X.A X.env X.xe)(hc:h5 X c mb)(ae:h6 X body s):fk X (.While c body [] pos) (NE mb s):=by
 obtain⟨_,h0,hF⟩:=hc;obtain⟨_,h1,aq⟩:=ae;refine⟨_,Ls ag h0 h1,λU ρ h R W B H σ D e ew=>?_⟩;obtain⟨M,⟨dW,aA⟩,turn⟩:=h;refine⟨λm bm ak=>∃bi az,M m bi/\aW X.K R W az ak bm bi/\bJ R B az,⟨dW,ρ,B,aA,e,bJ.refl _ _⟩,?_⟩;rintro m jj au ⟨d7,aY,NF,ai,aE⟩;refine hF d7 _ (turn m d7 NF) R W aY au jj _ ai λb bG aS a8 ar aI=>?_;cases b with
 |true=>
  rw[Tk rfl]at a8⊢;refine⟨λbm ak=>∃bi az,(∃dH,dH<m/\M dH bi)/\aW X.K R W az ak bm bi/\bJ R B az,?_,?_⟩
  ·rintro bm ak ⟨bi,az,⟨dH,l,q⟩,bv,g'⟩;exact⟨dH,l,bi,az,q,bv,g'⟩
  have iG:=aE.trans aI;exact aq _ d7 a8 R W bG aS jj _ ar ⟨λbi bm az ak z bv g=>⟨bi,az,z,bv,iG.trans g⟩,λbi bm az ak z bv g=>ew.nx bi bm az ak z bv (iG.trans g),λbi bm az ak z bv g=>⟨bi,az,z,bv,iG.trans g⟩,λr v az ak z bv g q=>ew.rt r v az ak z bv (iG.trans g) q⟩
 |false=>
  rw[Tl SP]at a8⊢;exact ew.nx d7 jj bG aS a8 ar (aE.trans aI)
theorem kl.list{B:am}{a:TI}{vs:ZL}{ds:ZK}(h:B a=some (.lst vs))(r:Reps K B vs ds):kl K B (zu K a) ds:=by
 intro H s i;have fK:=s _ _ h;have q:cN K H a vs:=cN.of fK;refine⟨λhi=>?_,λhi=>⟨vs,q,by rw[r.length];exact hi⟩,λx ak hi ⟨ai,ar⟩=>⟨ai,?_⟩⟩
 ·obtain⟨v,e,_⟩:=r.get (SU hi);exact⟨vs,v,q,e⟩
 exact r.getV (ar vs q)
theorem kl.tup{B:am}{a:TI}{vs:ZL}{ds:ZK}(h:B a=some (.tup vs))(r:Reps K B vs ds):kl K B (zv K a) ds:=by
 intro H s i;have fK:=s _ _ h;have q:eX K H a vs:=eX.of fK;refine⟨λhi=>?_,λhi=>⟨vs,q,by rw[r.length];exact hi⟩,λx ak hi ⟨ai,ar⟩=>⟨ai,?_⟩⟩
 ·obtain⟨v,e,_⟩:=r.get (SU hi);exact⟨vs,v,q,e⟩
 exact r.getV (ar vs q)
theorem kl.rng{B:am}(n:Nat):kl K B (rJ 0 n) ((S4 n).map λi:Nat=>D.int i):=by
 intro H s i;rw[Sv,U1];refine⟨λhi=>hi,λhi=>hi,λx ak hi ⟨ai,ar⟩=>⟨ai,?_⟩⟩;refine⟨.int i,?_,?_⟩
 ·rw[SW,Vf hi];rfl
 rw[ar,Int.zero_add];exact .int _
def NG(u:bg):df:=λρ k=>u ρ λd=>∃ds,d=.lst ds/\k ds
def NH(u:bg):df:=λρ k=>u ρ λd=>∃ds,d=.tup ds/\k ds
def NI(u:bg):df:=λρ k=>u ρ λd=>∃j,d=.int j /\ -(2^62)<=j/\j<2^62/\k ((S4 j.toNat).map λi:Nat=>D.int i)
variable{bj:WP}
theorem gN{l:WP}(ap:br X l u):na X bj l (NG u):=by
 obtain⟨_,h1,aq⟩:=ap;refine⟨_,Lz h1,λρ k h R W B H σ Q e q=>?_⟩;refine aq ρ _ h R W B H σ _ e λd v aY au aG ai aE aC=>?_;obtain⟨ds,rfl,z⟩:=aG;obtain⟨a,vs,rfl,aw,rs⟩:=aC.lstV;exact⟨a,rfl,⟨vs,cN.of (ai.bh _ _ aw)⟩,q ds _ aY au z ai aE (kl.list aw rs)⟩
theorem Fb{l:WP}(ap:br X l u):na X bj l (NH u):=by
 obtain⟨_,h1,aq⟩:=ap;refine⟨_,LA h1,λρ k h R W B H σ Q e q=>?_⟩;refine aq ρ _ h R W B H σ _ e λd v aY au aG ai aE aC=>?_;obtain⟨ds,rfl,z⟩:=aG;obtain⟨a,vs,rfl,aw,rs⟩:=aC.tupV;exact⟨a,rfl,⟨vs,eX.of (ai.bh _ _ aw)⟩,q ds _ aY au z ai aE (kl.tup aw rs)⟩
theorem v7{a:WP}(aw:br X a u)(aF:eD X "range")(aA:X.mg "range"=none)(av:UV [a] X.env=[(false,Yl a X.env)]:=by rfl):na X bj (.Call (.Name "range" p) [a] [] pos) (NI u):=by
 obtain⟨_,h1,aq⟩:=aw;refine⟨_,LD aF aA (d5 h1 fj (by exact av)) av,λρ k h R W B H σ Q e q=>?_⟩;refine aq ρ _ h R W B H σ _ e λd v aY au aG ai aE aC=>?_;obtain⟨j,rfl,kQ,cS,z⟩:=aG;exact⟨j,by rw[aC.intV],kQ,cS,q _ _ aY au z ai aE (kl.rng _)⟩
def jP(g:eZ)(s:cQ)(U:iE):ZK->ZM->Prop
 |[],ρ=>U.nx ρ
 |d::ds,ρ=>g d ρ λbi=>s {U with nx:=jP g s U ds,ct:=jP g s U ds,bk:=U.nx} bi
def NJ(w:df)(g:eZ)(s:cQ):cQ:=λU ρ=>w ρ λds=>jP g s U ds ρ
theorem kR{dc:WP}{body:ZX}{g:eZ}{s:cQ}(ag:Zc (Wp X.prog X.w) X.A X.env X.xe)(hc:X.calm=true)(hi:na X bj dc w)(aF:km X bj g)(ae:h6 X body s)(av:∀x,Xr dc X.env x=pure x:=by intro _;rfl):fk X (.For bj dc body [] pos) (NJ w g s):=by
 obtain⟨_,h0,hF⟩:=hi;obtain⟨_,h1,aq⟩:=aF;obtain⟨_,aa,aN⟩:=ae;refine⟨_,D8 ag hc h0 h1 aa av,λU ρ h R W B H σ D e ew=>?_⟩;refine hF ρ _ h R W B H σ _ e λds J aY au aG ai aE it=>?_;refine⟨λi m bm ak=>∃bi az,m=ds.length-i/\i<=ds.length/\jP g s U (ds.drop i) bi/\aW X.K R W az ak bm bi/\bJ R B az/\cw aY az,⟨ds.length,ρ,aY,by simp,Ti _,aG,ai,aE,cw.refl _⟩,?_⟩;rintro i m jj aS ⟨d7,bG,rfl,hi,a8,ar,aI,bf⟩;obtain⟨dg,cU,jp⟩:=it aS (bf.trans ar.bh) i;by_cases de:i<ds.length
 ·refine .inr ⟨dg de,λbm ak=>∃bi az,jP g s U (ds.drop (i+1)) bi/\aW X.K R W az ak bm bi/\bJ R B az/\cw aY az,?_,?_⟩
  ·rintro bm ak ⟨bi,az,z,bv,g',s'⟩;exact⟨ds.length-(i+1),by lia,bi,az,rfl,de,z,bv,g',s'⟩
  intro x ak y;obtain⟨rfl,d,hd,bn⟩:=jp x ak de y
  have gO:ds.drop i=d::ds.drop (i+1):=by
   rw[Uu de];rw[SU de]at hd;rw[SO hd]
  rw[gO]at a8;refine aq d d7 _ a8 R W bG _ jj x _ ar (bn.mono bf) λbi bm f9 bv _=>?_;exact aN _ bi f9 R W bG _ bm _ bv ⟨λbi bm az ak z bv g=>⟨bi,az,z,bv,aI.trans g,bf.trans g.s⟩,λbi bm az ak z bv g=>ew.nx bi bm az ak z bv (aI.trans g),λbi bm az ak z bv g=>⟨bi,az,z,bv,aI.trans g,bf.trans g.s⟩,λr v az ak z bv g q=>ew.rt r v az ak z bv (aI.trans g) q⟩
 have ei:i=ds.length:=by lia
 subst ei;rw[UJ]at a8;exact .inl ⟨cU (SF _),ew.nx d7 jj bG aS a8 ar aI⟩
end
section
variable{K:Su}{X:aU}{e:WP}{es:ZW}{u:bg}{w:df}{pos p:Pos}
theorem aW.newO{R:am}{W:TI->Prop}{B H:am}{σ:St}{ρ:ZM}(e:aW K R W B H σ ρ){q:TI}(ay:H q=none){vs:ZL}{ds:ZK}(r:Reps K B vs ds):
  aW K R W B (upd H q (.lst vs)) σ ρ/\R q=none/\B q=none/\(upd H q (.lst vs)) q=some (.lst vs)/\∀i,¬cF σ ρ i q:=by
 obtain⟨aT,bd,bA⟩:=e.toWd.fresh ay;exact⟨e.allocH ay _,aT,bA,d9,λi m=>e.notNew ay m rfl⟩
def gE{α:Type}(xs:List α)(lo hi:Option Int):List α:=(xs.drop (HT.sIx xs.length 0 lo)).take (HT.sIx xs.length xs.length hi-HT.sIx xs.length 0 lo)
theorem Reps.cut{B:am}{vs:ZL}{ds:ZK}(r:Reps K B vs ds)(lo hi:Option Int):Reps K B (gE vs lo hi) (gE ds lo hi):=by
 unfold gE;rw[r.length];exact(r.drop _).take _
theorem Af{α β:Type}(f:α->β)(xs:List α)(lo hi:Option Int):gE (xs.map f) lo hi=(gE xs lo hi).map f:=by
 unfold gE;rw[Sv,<-List.map_drop,<-List.map_take]
abbrev pc:=ZM->(Option Int->Prop)->Prop
def NK(K:Su)(t:rN)(u:pc):Prop:=∀(ρ:ZM)(k:Option Int->Prop),u ρ k->∀(R:am)(W:TI->Prop)(B H:am)(σ:St)(Q:Option Int->am->Prop),aW K R W B H σ ρ->
 (∀o az ak,k o->aW K R W az ak σ ρ->bJ R B az->Q o ak)->t σ H Q
def rZ(X:aU)(e:Option WP)(u:pc):Prop:=∃t,m1 X e t/\NK X.K t u
def NL:pc:=λ_ k=>k none
def NM(u:bg):pc:=λρ k=>u ρ λd=>∃i,d=.int i/\k (some i)
theorem tC:rZ X none NL:=⟨_,Mm,λρ k h R W B H σ Q e q=>q none B H h e (bJ.refl _ _)⟩
theorem qu(h:br X e u):rZ X (some e) (NM u):=by
 obtain⟨_,h1,aq⟩:=h;refine⟨_,Mn h1,λρ k h R W B H σ Q e q=>?_⟩;refine aq ρ _ h R W B H σ _ e λd v aY au aG ai aE aC=>?_;obtain⟨i,rfl,z⟩:=aG;exact⟨i,aC.intV,q _ aY au z ai aE⟩
def Fc:D->Option ZK
 |.lst ds=>some ds
 |.scr ns=>some (ns.map .int)
 |_=>none
theorem NN{B H:am}{v:V}{x:D}{ds:ZK}(s:cw B H)(r:bU K B v x)(h:Fc x=some ds):∃a vs,v=.ref a/\cN K H a vs/\Reps K B vs ds:=by
 cases x<;>first|(cases h;done)|skip
 ·obtain⟨a,vs,rfl,aw,rs⟩:=r.lstV;cases h;exact⟨a,vs,rfl,cN.of (s _ _ aw),rs⟩
 obtain⟨a,rfl,aw⟩:=r.scrV;cases h;exact⟨a,_,rfl,s.seq aw,Reps.ints _⟩
def NO(u:bg)(l h:pc):df:=λρ k=>u ρ λx=>l ρ λlo=>h ρ λhi=>∃ds,Fc x=some ds/\k (gE ds lo hi)
theorem tD{lo hi:Option WP}{tE tF:pc}{p2:Pos}(aD:br X e u)(ap:rZ X lo tE)(dY:rZ X hi tF):kM X (.Subscript e (.Slice lo hi none p2) pos) (NO u tE tF):=by
 obtain⟨_,h1,aq⟩:=aD;obtain⟨_,aa,aN⟩:=ap;obtain⟨_,aH,d2⟩:=dY;refine⟨_,Et MA h1 aa aH,λρ k h R W B H σ Q e q=>?_⟩;refine aq ρ _ h R W B H σ _ e λd v aY au aG ai aE aC=>?_;refine aN ρ _ aG R W aY au σ _ ai λlo bG aS a8 ar aI=>?_;refine d2 ρ _ a8 R W bG aS σ _ ar λhi lB cG eY bb g3=>?_;obtain⟨ds,hd,z⟩:=eY;obtain⟨a,vs,rfl,aw,rs⟩:=NN bb.bh (aC.mono (aI.trans g3).s) hd;refine⟨a,vs,rfl,aw,λp ag=>?_⟩;obtain⟨aT,bd,bA,c7,d1⟩:=bb.newO ag (rs.cut lo hi);exact q _ p _ lB _ z aT ((aE.trans aI).trans g3) bd bA c7 (rs.cut lo hi) d1
def NP(u v:bg):df:=λρ k=>u ρ λx=>v ρ λy=>∃ds es,x=.lst ds/\y=.lst es/\ds.length+es.length<=TT/\k (ds++es)
theorem jq{a b:WP}{b5 b':bg}(aw:br X a b5)(ae:br X b b'):kM X (.BinOp a .Add b pos) (NP b5 b'):=by
 obtain⟨_,h1,aq⟩:=aw;obtain⟨_,aa,aN⟩:=ae;refine⟨_,f' ML h1 aa,λρ k h R W B H σ Q e q=>?_⟩;refine aq ρ _ h R W B H σ _ e λd v aY au aG ai aE aC=>?_;refine aN ρ _ aG R W aY au σ _ ai λd' nR bG aS a8 ar aI bf=>?_;obtain⟨ds,es,rfl,rfl,ap,z⟩:=a8;obtain⟨a,vs,rfl,aw,rs⟩:=(aC.mono aI.s).lstV;obtain⟨b,fZ,rfl,ae,rt⟩:=bf.lstV;refine⟨a,b,vs,fZ,rfl,rfl,ar.bh _ _ aw,ar.bh _ _ ae,by rw[rs.length,rt.length];exact ap,λp ag=>?_⟩;obtain⟨aT,bd,bA,c7,d1⟩:=ar.newO ag (rs.append rt);exact q _ p _ bG _ z aT (aE.trans aI) bd bA c7 (rs.append rt) d1
def NQ(u:bg):df:=λρ k=>u ρ λx=>∃ds,(x=.lst ds\/x=.tup ds)/\k ds
theorem NR(aw:br X e u)(aF:eD X "list")(aA:X.mg "list"=none)(av:eQ X e []:=by rfl):kM X (.Call (.Name "list" p) [e] [] pos) (NQ u):=by
 obtain⟨_,h1,aq⟩:=aw;refine⟨_,Eo MB aF aA (by decide +kernel) (d5 h1 fj av) (by decide) (by decide) av,λρ k h R W B H σ Q e q=>?_⟩;refine aq ρ _ h R W B H σ _ e λd v aY au aG ai aE aC=>?_;obtain⟨ds,hd,z⟩:=aG;rcases hd with rfl|rfl
 ·obtain⟨a,vs,rfl,aw,rs⟩:=aC.lstV;refine⟨a,vs,rfl,.inl (cN.of (ai.bh _ _ aw)),λp ag=>?_⟩;obtain⟨aT,bd,bA,c7,d1⟩:=ai.newO ag rs;exact q _ p _ aY _ z aT aE bd bA c7 rs d1
 obtain⟨a,vs,rfl,aw,rs⟩:=aC.tupV;refine⟨a,vs,rfl,.inr (eX.of (ai.bh _ _ aw)),λp ag=>?_⟩;obtain⟨aT,bd,bA,c7,d1⟩:=ai.newO ag rs;exact q _ p _ aY _ z aT aE bd bA c7 rs d1
theorem Ag{B:am}:∀{ns:ZI}{vs:ZL},Reps K B vs (ns.map D.int)->vs=ns.map V.int
 |[],_,.nil=>rfl
 |n::r,_,.cons h t=>by rw[h.intV,Ag t];rfl
def Ah(i:Nat)(u:bg):cQ:=λU ρ=>∃ds:ZK,ρ[i]?=some (.own ds)/\u ρ λd=>ds.length<TT/\U.nx (ρ.set i (.own (ds++[d])))
theorem jQ(i:Nat){x:Str}{px dd cb:Pos}(aD:br X e u)(bF:gG X i x:=by rfl)(aL:gy X.env.scope x:=by walk_at"v")(hd:ed x:=by decide)(dI:gV x:=by decide)(fy:iv X (.Name x px) "append":=by rfl)(hv:kI X cb [e]:=by rfl)(fA:iw dd cb:=by rfl)(av:eQ X e []:=by rfl)(kJ:g8 X cb []:=by rfl)(iZ:XA (.Call (.Attribute (.Name x px) "append" dd) [e] [] cb) none pos.line X.env=pure false:=by rfl):fk X (.Expr (.Call (.Attribute (.Name x px) "append" dd) [e] [] cb) pos) (Ah i u):=by
 obtain⟨_,h1,aq⟩:=aD;refine⟨_,rE (qj T9 VV VW vN (g9 bF aL hd dI) (d5 h1 fj av) fy hv fA av kJ) iZ,λU ρ h R W B H σ D e s=>?_⟩;obtain⟨ds,ax,h⟩:=h;obtain⟨a,vs,ai,ar,bb,b0,d6⟩:=e.ownAt ax;refine⟨_,ai,.inl ⟨rfl,vs,cN.of b0⟩,?_⟩;refine aq ρ _ h R W B H σ _ e λd v aY au aG aT aE aC=>?_;obtain⟨gK,hg,ci,cu,gt,gg,jr⟩:=aT.ownAt ax;rw[ai]at ci;cases ci;exact⟨a,hg,v,rfl,rfl,gg,by rw[jr.length];exact aG.1,s.nx _ _ aY _ aG.2 (aT.write ai ax (jr.append (.cons aC .nil))) aE⟩
def kT(ρ:ZM)(j:Nat):aK:=match ρ[j]? with
 |some (.val d)=>.val d
 |some .bag=>.bag
 |_=>.no
theorem aW.scribble{R:am}{W:TI->Prop}{B H:am}{σ:St}{ρ:ZM}(e:aW K R W B H σ ρ){a:TI}(ao:R a=none)(ae:B a=none)(aA:∀i,¬cF σ ρ i a)(o:eg):aW K R W B (upd H a o) σ ρ:=by
 have nw:¬W a:=λz=>e.wr a z ao;refine e.move ⟨λb q h z=>?_,λb q h=>?_,e.wb,λb z=>(e.wh b z).upd (by rintro rfl;exact nw z),e.wr⟩ (cw.refl _) λi b m=>?_
 ·rw[bV (by rintro rfl;rw[ao]at h;cases h)];exact e.fr b q h z
 ·rw[bV (by rintro rfl;rw[ae]at h;cases h)];exact e.bh b q h
 have n:b≠a:=by rintro rfl;exact aA i m
 refine⟨(e.mutOk m).1,λz=>?_,λ_=>bV n⟩;obtain⟨c,c1,_,_,c4⟩:=e.bagAt z;rw[o6 m z]at c1;cases c1;exact c4.upd n
theorem NS{σ:St}{js:ZP}{i:Nat}{o:Option V}(h:(iU σ js)[i]?=some o):∃j,js[i]?=some j/\o=(σ[j]?).join:=by
 unfold iU at h;rw[SW]at h;cases q:js[i]? with
 |none=>rw[q]at h;cases h
 |some j=>rw[q]at h;exact⟨j,rfl,(SO h).symm⟩
def NT(K:Su)(t:bK)(u:ZM->Prop->Prop):Prop:=∀(ρ:ZM)(k:Prop),u ρ k->∀(R:am)(W:TI->Prop)(B H:am)(σ:St)(Q:cq),aW K R W B H σ ρ->
 (∀a az ak,k->aW K R W az ak σ ρ->bJ R B az->R a=none->az a=none->gf ak a->(∀i,¬cF σ ρ i a)->Q (.ref a) ak)->t σ H Q
def Ai(X:aU)(e:WP)(u:ZM->Prop->Prop):Prop:=∃t,bY X e t/\NT X.K t u
def NU(n:Nat)(F:ck)(w:jL):ZM->Prop->Prop:=λρ k=>w ρ λas=>sh as n=true/\F (as.map Arg.sl) λr=>r=.bag/\k
theorem Aj{n:Nat}{F:ck}{w:jL}{x:Str}{ps:ZT}{j lv:Nat}(c:cj X.prog X.w X.K X.mg X.base x ps j (cm X.K n F))(ao:eF lv X.A)(aF:eD X x)(aw:m' X (e::es) w)(gC:j<=lv:=by decide)(gA:ed x:=by decide)(aD:eQ X e es:=by rfl)(eh:g8 X pos es:=by rfl):
  Ai X (.Call (.Name x p) (e::es) [] pos) (NU n F w):=by
 obtain⟨_,h1,aq⟩:=aw;refine⟨_,o2 c ao aF h1 gC gA aD eh,λρ k h R W B H σ Q e q=>?_⟩;refine aq ρ _ h R W B H σ _ e λas vs aY au aG ai aE aC=>?_;rw[SQ];refine rW ai aC aG.1 aG.2 λr v bG aS ah ar aI res=>?_;obtain⟨rfl,ah⟩:=ah;obtain⟨a,rfl,aT,bd,bA⟩:=res;exact q a bG aS ah ar (aE.trans aI) (ai.toWd.fresh aT).1 bd bA λi m=>(ai.mutOk m).2 aT
def NV(i:Nat)(u:ZM->Prop->Prop):cQ:=λU ρ=>u ρ (U.nx (ρ.set i .bag))
theorem NW{i:Nat}{x:Str}{fx:Pos}{u:ZM->Prop->Prop}(bF:X.N.Nodup)(hi:X.N[i]?=some x)(al:Loc X.env.scope x)(aD:Ai X e u)(av:XA e (some (.Name x fx)) pos.line X.env=pure false:=by rfl)(bD:iO X x:=by walk_at"f"):
  fk X (.Assign [.Name x fx] e pos) (NV i u):=by
 obtain⟨_,h1,aq⟩:=aD;refine⟨_,rI bF hi al h1 av bD,λU ρ h R W B H σ D e s=>?_⟩;refine aq ρ _ h R W B H σ _ e λa aY au aG ai aE aT bd bA c7=>s.nx _ _ aY au aG (ai.set i ⟨a,rfl,.inr aT,bd,bA⟩ λb z _ j _=>?_) aE;cases z;exact c7 j
end
end L3
namespace L3
open PySem L2
inductive i0 where
 |I|B|N|S|T (dQ:List i0)|L (s:i0)
mutual
def has:i0->D->Bool
 |.I,.int _=>true
 |.B,.bl _=>true
 |.N,.non=>true
 |.S,.str _=>true
 |.T dQ,.tup xs=>hass dQ xs
 |.L s,.lst xs=>xs.all λx=>has s x
 |_,_=>false
def hass:List i0->ZK->Bool
 |[],[]=>true
 |s::dQ,x::xs=>has s x&&hass dQ xs
 |_,_=>false
end
mutual
def jt:i0->Nat
 |.T dQ=>deps dQ+1
 |.L s=>jt s+1
 |_=>0
def deps:List i0->Nat
 |[]=>0
 |s::dQ=>max (jt s) (deps dQ)
end
noncomputable def eqD(x y:D):Bool :=@decide (x=y) (T' _)
theorem Ak{x y:D}:eqD x y=true↔x=y:=by unfold eqD;exact @decide_eq_true_iff _ (T' _)
theorem pd(x:D):eqD x x=true:=Ak.mpr rfl
theorem qv{x y:D}{b:Bool}(h:b=true↔x=y):eqD x y=b:=by
 rw[VX,Ak,h]
section
variable{K:Su}{B:am}
theorem has_int{x:D}(h:has .I x=true):∃i,x=.int i:=by cases x<;>first|exact⟨_,rfl⟩|(simp[has]at h)
theorem v8{x:D}(h:has .B x=true):∃i,x=.bl i:=by cases x<;>first|exact⟨_,rfl⟩|(simp[has]at h)
theorem v9{x:D}(h:has .N x=true):x=.non:=by cases x<;>first|rfl|(simp[has]at h)
theorem has_str{x:D}(h:has .S x=true):∃i,x=.str i:=by cases x<;>first|exact⟨_,rfl⟩|(simp[has]at h)
theorem v'{x:D}{dQ:List i0}(h:has (.T dQ) x=true):∃xs,x=.tup xs/\hass dQ xs=true:=by
 cases x<;>first|exact⟨_,rfl,by simpa[has]using h⟩|(simp[has]at h)
theorem wa{x:D}{s:i0}(h:has (.L s) x=true):∃xs,x=.lst xs/\∀y∈xs,has s y=true:=by
 cases x<;>first|exact⟨_,rfl,by simpa[has]using h⟩|(simp[has]at h)
theorem tG:∀{dQ:List i0}{xs:ZK},hass dQ xs=true->xs.length=dQ.length
 |[],[],_=>rfl
 |[],_::_,h=>by simp[hass]at h
 |_::_,[],h=>by simp[hass]at h
 |s::dQ,x::xs,h=>by
  simp[hass]at h;simp[tG h.2]
mutual
theorem qw:∀(sh:i0){x y:D}{v:V},has sh x=true->has sh y=true->bU K B v x->bU K B v y->x=y
 |.I,x,y,v,h1,aa,aq,aN=>by
  obtain⟨i,rfl⟩:=has_int h1;obtain⟨j,rfl⟩:=has_int aa
  have e:=aq.intV.symm.trans aN.intV
  cases e;rfl
 |.B,x,y,v,h1,aa,aq,aN=>by
  obtain⟨i,rfl⟩:=v8 h1;obtain⟨j,rfl⟩:=v8 aa
  have e:=aq.blV.symm.trans aN.blV
  cases e;rfl
 |.N,x,y,v,h1,aa,aq,aN=>by rw[v9 h1,v9 aa]
 |.S,x,y,v,h1,aa,aq,aN=>by
  obtain⟨i,rfl⟩:=has_str h1;obtain⟨j,rfl⟩:=has_str aa
  cases aq;cases aN;rfl
 |.T dQ,x,y,v,h1,aa,aq,aN=>by
  obtain⟨xs,rfl,aM⟩:=v' h1;obtain⟨ys,rfl,a4⟩:=v' aa
  obtain⟨a,vs,rfl,aw,lF⟩:=aq.tupV
  obtain⟨b,fZ,e,ae,rb⟩:=aN.tupV
  cases e
  rw[aw]at ae;cases ae
  rw[reps_fn dQ aM a4 lF rb]
 |.L s,x,y,v,h1,aa,aq,aN=>by
  obtain⟨xs,rfl,aM⟩:=wa h1;obtain⟨ys,rfl,a4⟩:=wa aa
  obtain⟨a,vs,rfl,aw,lF⟩:=aq.lstV
  obtain⟨b,fZ,e,ae,rb⟩:=aN.lstV
  cases e
  rw[aw]at ae;cases ae
  have:xs=ys:=by
   apply Uk
   intro i
   cases Al:xs[i]? with
   |none=>
    have:ys[i]?=none:=by
     have h1:=lF.length
     have aa:=rb.length
     have aH:=WD.mp Al
     exact WD.mpr (by lia)
    rw[this]
   |some d=>
    obtain⟨v,ev,b6⟩:=lF.get Al
    obtain⟨d',gO,gu⟩:=rb.getV ev
    rw[gO,qw s (aM d (S9 Al)) (a4 d' (S9 gO)) b6 gu]
  rw[this]
theorem reps_fn:∀(dQ:List i0){xs ys:ZK}{vs:ZL},hass dQ xs=true->hass dQ ys=true->Reps K B vs xs->Reps K B vs ys->xs=ys
 |[],xs,ys,vs,h1,aa,aq,aN=>by
  have ai:=tG h1;have ar:=tG aa
  rw[TR]at ai ar
  rw[WE ai,WE ar]
 |s::dQ,[],ys,vs,h1,aa,aq,aN=>by simp[hass]at h1
 |s::dQ,x::xs,[],vs,h1,aa,aq,aN=>by simp[hass]at aa
 |s::dQ,x::xs,y::ys,vs,h1,aa,aq,aN=>by
  simp[hass]at h1 aa
  cases aq with
  |cons ca b1=>cases aN with
   |cons cn b2=>rw[qw s h1.1 aa.1 ca cn,reps_fn dQ h1.2 aa.2 b1 b2]
end
end
section
variable{X:aU}{aj:ZY}{σ:St}{H B:am}{s:TD}
theorem Fd{xs ys:ZK}{n:Nat}{e:Nat->Bool}(aO:n=xs.length)(ap:xs.length=ys.length)(aD:∀j,j<n->(e j=true↔xs[j]?=ys[j]?)):((S4 n).all e)=true↔xs=ys:=by
 rw[Vg];constructor
 ·intro h;apply Uk;intro i;by_cases hi:i<n
  ·exact(aD i hi).mp (h i (TB.mpr hi))
  rw[S' (by lia),S' (by lia)]
 rintro rfl j bC;exact(aD j (TB.mp bC)).mpr rfl
noncomputable def mf(xs ys:ZK)(j:Nat):Bool :=@decide (xs[j]?=ys[j]?) (T' _)
theorem tH{xs ys:ZK}{j:Nat}:mf xs ys j=true↔xs[j]?=ys[j]?:=by unfold mf;exact @decide_eq_true_iff _ (T' _)
theorem Fe{xs ys:ZK}{j:Nat}{x y:D}(h1:xs[j]?=some x)(aa:ys[j]?=some y):mf xs ys j=eqD x y:=by
 rw[VX,tH,Ak,h1,aa];constructor
 ·intro h;exact SO h
 intro h;rw[h]
structure NX (A:Xy) (s:TD) (u w:SZ) (x y:D):Prop where
 rc:SeqAt.RcAt A s u w (eqD x y)
 ne:SeqAt.RcNeAt A s u w (!eqD x y)
 eq:SeqAt.EqAt A s u w (eqD x y)
mutual
theorem tI(I:Inv X aj σ H s)(dP:cw B H):∀(sh:i0){A:Xy}{x y:D}{v w:V}{u fi:SZ},has sh x=true->has sh y=true->bU X.K B v x->bU X.K B w y->RelV v u->RelV w fi->A.units+jt sh<XO->NX A s u fi x y
 |.I,A,x,y,v,w,u,fi,h1,aa,aq,aN,bQ,bS,a2=>by
  obtain⟨i,rfl⟩:=has_int h1;obtain⟨j,rfl⟩:=has_int aa
  cases aq.intV;cases aN.intV
  obtain⟨t,rfl⟩:=bQ;obtain⟨t',rfl⟩:=bS
  have e:eqD (.int i) (.int j)=(i==j):=qv (by simp)
  refine⟨?_,?_,?_⟩<;>rw[e]
  ·exact SeqAt.RcAt.int_int i t j t'
  ·exact SeqAt.RcNeAt.int_int i t j t'
  exact SeqAt.EqAt.int_int i t j t'
 |.B,A,x,y,v,w,u,fi,h1,aa,aq,aN,bQ,bS,a2=>by
  obtain⟨i,rfl⟩:=v8 h1;obtain⟨j,rfl⟩:=v8 aa
  cases aq.blV;cases aN.blV
  cases bQ;cases bS
  have e:eqD (.bl i) (.bl j)=(i==j):=qv (by simp)
  refine⟨?_,?_,?_⟩<;>rw[e]
  ·exact SeqAt.RcAt.bool_bool i j
  ·exact SeqAt.RcNeAt.bool_bool i j
  exact SeqAt.EqAt.bool_bool i j
 |.N,A,x,y,v,w,u,fi,h1,aa,aq,aN,bQ,bS,a2=>by
  cases v9 h1;cases v9 aa
  cases aq.nonV;cases aN.nonV
  cases bQ;cases bS
  have e:eqD .non .non=true:=pd _
  refine⟨?_,?_,?_⟩<;>rw[e]
  ·exact SeqAt.RcAt.none_none
  ·exact SeqAt.RcNeAt.none_none
  exact SeqAt.EqAt.same _
 |.S,A,x,y,v,w,u,fi,h1,aa,aq,aN,bQ,bS,a2=>by
  obtain⟨i,rfl⟩:=has_str h1;obtain⟨j,rfl⟩:=has_str aa
  cases aq;cases aN
  obtain⟨t,rfl⟩:=bQ;obtain⟨t',rfl⟩:=bS
  have e:eqD (.str i) (.str j)=(i==j):=qv (by simp)
  refine⟨?_,?_,?_⟩<;>rw[e]
  ·exact SeqAt.RcAt.str_str i t j t'
  ·exact SeqAt.RcNeAt.str_str i t j t'
  exact SeqAt.EqAt.str_str i t j t'
 |.T dQ,A,x,y,v,w,u,fi,h1,aa,aq,aN,bQ,bS,a2=>by
  have wc:=aq
  have we:=aN
  obtain⟨xs,rfl,aM⟩:=v' h1;obtain⟨ys,rfl,a4⟩:=v' aa
  obtain⟨a,vs,rfl,aw,lF⟩:=aq.tupV
  obtain⟨b,fZ,rfl,ae,rb⟩:=aN.tupV
  cases bQ;cases bS
  obtain⟨its,ci,dg,_⟩:=I.tuple (eX.of (dP _ _ aw))
  obtain⟨g0,cu,cU,_⟩:=I.tuple (eX.of (dP _ _ ae))
  have b7:jt (.T dQ)=deps dQ+1:=by simp[jt]
  have h7:=tG aM
  have mh:=tG a4
  have aG:=lF.length;have a8:=rb.length;have eY:=ci.length;have dN:=cu.length
  have ni:=eqs_sh I dP dQ (A:=A.in1) aM a4 lF rb ci cu (by show A.units+1+deps dQ<XO;lia)
  have aD:∀j (h1:j<its.toArray.size) (aa:j<g0.toArray.size),SeqAt.EqAt A.in1 s its.toArray[j] g0.toArray[j] (mf xs ys j):=λj aE aI=>by
   have:=ni j (by simpa using aE) (by simpa using aI)
   simpa using this
  have e:eqD (.tup xs) (.tup ys)=((S4 (min its.toArray.size g0.toArray.size)).all (mf xs ys)&&its.toArray.size==g0.toArray.size):=by
   refine qv ?_
   have aC:its.toArray.size=xs.length:=by simp;lia
   have bf:g0.toArray.size=xs.length:=by simp;lia
   rw[aC,bf,Nat.min_self,TL]
   have:=Fd (xs:=xs) (ys:=ys) (n:=xs.length) (e:=mf xs ys) rfl (by lia) (λj _=>tH)
   constructor
   ·intro h;rw[this.mp h.1]
   intro h;cases h;exact⟨this.mpr rfl,by simp⟩
  have rc:SeqAt.RcAt A s (.ref a) (.ref b) (eqD (.tup xs) (.tup ys)):=by rw[e];exact SeqAt.RcAt.tuples dg cU (by lia) aD
  refine⟨rc,by rw[e];exact SeqAt.RcNeAt.tuples dg cU (by lia) aD,?_⟩
  by_cases iH:a=b
  ·subst iH
   have:=qw (.T dQ) h1 aa wc we
   rw[this,pd]
   exact SeqAt.EqAt.same _
  exact SeqAt.EqAt.of_refs iH rc
 |.L sh,A,x,y,v,w,u,fi,h1,aa,aq,aN,bQ,bS,a2=>by
  have wc:=aq
  have we:=aN
  obtain⟨xs,rfl,aM⟩:=wa h1;obtain⟨ys,rfl,a4⟩:=wa aa
  obtain⟨a,vs,rfl,aw,lF⟩:=aq.lstV
  obtain⟨b,fZ,rfl,ae,rb⟩:=aN.lstV
  cases bQ;cases bS
  obtain⟨its,ci,p1,_⟩:=I.list (cN.of (dP _ _ aw))
  obtain⟨g0,cu,p2,_⟩:=I.list (cN.of (dP _ _ ae))
  have dg:=p1.isList
  have cU:=p2.isList
  have b7:jt (.L sh)=jt sh+1:=by simp[jt]
  have aG:=lF.length;have a8:=rb.length;have eY:=ci.length;have dN:=cu.length
  have aD:∀j (h1:j<its.toArray.size) (aa:j<g0.toArray.size),SeqAt.EqAt A.in1 s its.toArray[j] g0.toArray[j] (mf xs ys j):=λj aE aI=>by
   have NY:j<its.length:=by simpa using aE
   have NZ:j<g0.length:=by simpa using aI
   obtain⟨eL,ai,N0⟩:=ci.getR (SU NY)
   obtain⟨dB,ar,N1⟩:=cu.getR (SU NZ)
   obtain⟨c1,aT,Am⟩:=lF.getV ai
   obtain⟨c2,bd,N2⟩:=rb.getV ar
   rw[Fe aT bd]
   have:=(tI I dP sh (A:=A.in1) (aM c1 (S9 aT)) (a4 c2 (S9 bd)) Am N2 N0 N1 (by show A.units+1+jt sh<XO;lia)).eq
   simpa using this
  by_cases kf:its.toArray.size=g0.toArray.size
  ·have aC:its.toArray.size=xs.length:=by simp;lia
   have bf:xs.length=ys.length:=by simp at kf;lia
   have e:eqD (.lst xs) (.lst ys)=(S4 its.toArray.size).all (mf xs ys):=by
    refine qv ?_
    rw[Fd (xs:=xs) (ys:=ys) aC bf (λj _=>tH)]
    constructor
    ·intro h;rw[h]
    intro h;cases h;rfl
   have rc:SeqAt.RcAt A s (.ref a) (.ref b) (eqD (.lst xs) (.lst ys)):=by rw[e];exact SeqAt.RcAt.lists dg cU kf (by lia) aD
   refine⟨rc,by rw[e];exact SeqAt.RcNeAt.lists dg cU kf (by lia) aD,?_⟩
   by_cases iH:a=b
   ·subst iH
    have:=qw (.L sh) h1 aa wc we
    rw[this,pd]
    exact SeqAt.EqAt.same _
   exact SeqAt.EqAt.of_refs iH rc
  have e:eqD (.lst xs) (.lst ys)=false:=qv (by
   constructor
   ·intro h;cases h
   intro h;cases h;simp at kf;lia)
  have lG:(its.toArray.size != g0.toArray.size)=true:=by simpa using kf
  have rc:SeqAt.RcAt A s (.ref a) (.ref b) (eqD (.lst xs) (.lst ys)):=by rw[e];exact SeqAt.RcAt.lists_lengths dg cU lG (by lia)
  refine⟨rc,by rw[e];exact SeqAt.RcNeAt.lists_lengths dg cU lG (by lia),?_⟩
  refine SeqAt.EqAt.of_refs (λiH=>?_) rc
  subst iH
  have:=qw (.L sh) h1 aa wc we
  cases this
  simp at kf;lia
theorem eqs_sh(I:Inv X aj σ H s)(dP:cw B H):∀(dQ:List i0){A:Xy}{xs ys:ZK}{vs fZ:ZL}{us jR:ZU},hass dQ xs=true->hass dQ ys=true->Reps X.K B vs xs->Reps X.K B fZ ys->bN vs us->bN fZ jR->A.units+deps dQ<XO->
  ∀j (h1:j<us.length) (aa:j<jR.length),SeqAt.EqAt A s us[j] jR[j] (mf xs ys j)
 |[],A,[],ys,_,_,_,_,h1,aa,.nil,aN,.nil,bS,a2,j,aE,aI=>absurd aE (by simp)
 |[],A,x::xs,ys,_,_,_,_,h1,aa,aq,aN,bQ,bS,a2,j,aE,aI=>by simp[hass]at h1
 |s::dQ,A,[],ys,vs,fZ,us,jR,h1,aa,aq,aN,bQ,bS,a2,j,aE,aI=>by simp[hass]at h1
 |s::dQ,A,x::xs,[],vs,fZ,us,jR,h1,aa,aq,aN,bQ,bS,a2,j,aE,aI=>by simp[hass]at aa
 |s::dQ,A,x::xs,y::ys,v::vs,w::fZ,u::us,fi::jR,h1,aa,.cons ca b1,.cons cn b2,.cons c1 b7,.cons c2 cc,a2,0,aE,aI=>by
  have qx:has s x=true:=by simp[hass]at h1;exact h1.1
  have qy:has s y=true:=by simp[hass]at aa;exact aa.1
  have hH:deps (s::dQ)=max (jt s) (deps dQ):=by simp[deps]
  have:=(tI I dP s (A:=A) qx qy ca cn c1 c2 (by lia)).eq
  rw[Fe (xs:=x::xs) (ys:=y::ys) (j:=0) rfl rfl]
  exact this
 |s::dQ,A,x::xs,y::ys,v::vs,w::fZ,u::us,fi::jR,h1,aa,.cons ca b1,.cons cn b2,.cons c1 b7,.cons c2 cc,a2,j+1,aE,aI=>by
  have qx:hass dQ xs=true:=by simp[hass]at h1;exact h1.2
  have qy:hass dQ ys=true:=by simp[hass]at aa;exact aa.2
  have hH:deps (s::dQ)=max (jt s) (deps dQ):=by simp[deps]
  have:=eqs_sh I dP dQ (A:=A) qx qy b1 b2 b7 cc (by lia) j (by simpa using aE) (by simpa using aI)
  have e:mf (x::xs) (y::ys) (j+1)=mf xs ys j:=by
   rw[VX,tH,tH];simp
  rw[e]
  exact this
end
def An(K:Su)(ng:Bool):iz:=λx y H Q=>∃B d e sh,bU K B x d/\bU K B y e/\cw B H/\has sh d=true/\has sh e=true/\jt sh<=50/\Q (.bl (if ng then !eqD d e else eqD d e)) H
theorem Ff(a2:X.A.units+64<XO):gJ X (XQ .Eq) (An X.K false):=by
 intro aj s σ H x y v u Q I bn cg h;obtain⟨B,d,e,sh,aq,aN,dP,h1,aa,hd,q⟩:=h;exact(tI I dP sh (A:=X.A) h1 aa aq aN bn cg (by lia)).rc _ _ _ _ ⟨.bl _,H,I,rfl,q⟩
theorem N3(a2:X.A.units+64<XO):gJ X (XQ .NotEq) (An X.K true):=by
 intro aj s σ H x y v u Q I bn cg h;obtain⟨B,d,e,sh,aq,aN,dP,h1,aa,hd,q⟩:=h;exact(tI I dP sh (A:=X.A) h1 aa aq aN bn cg (by lia)).ne _ _ _ _ ⟨.bl _,H,I,rfl,q⟩
def Ao(K:Su)(ng:Bool):iz:=λx y H Q=>∃B d es sh,bU K B x d/\(bU K B y (.lst es)\/bU K B y (.tup es))/\cw B H/\has sh d=true/\(∀e∈es,has sh e=true)/\jt sh<=50/\∀b:Bool,(b=true↔d∈es)->Q (.bl (if ng then !b else b)) H
noncomputable def mi(K:Su)(B:am)(sh:i0)(d:D)(u:SZ):Bool :=@decide (∃v,RelV v u/\bU K B v d) (T' _)
theorem Ap{K:Su}{sh:i0}{d:D}{u:SZ}:mi K B sh d u=true↔∃v,RelV v u/\bU K B v d:=by unfold mi;exact @decide_eq_true_iff _ (T' _)
theorem Fg{v w:V}{u:SZ}(h1:RelV v u)(aa:RelV w u):v=w:=by
 cases v<;>cases w<;>simp only[RelV]at h1 aa<;>first
  |rfl
  | (obtain⟨t,rfl⟩:=h1;obtain⟨t',e⟩:=aa;cases e;rfl)
  | (obtain⟨t,rfl⟩:=h1;obtain⟨t',e⟩:=aa;cases e;done)
  | (obtain⟨t,rfl⟩:=h1;cases aa;done)
  | (obtain⟨t,rfl⟩:=aa;cases h1;done)
  | (subst h1;cases aa;rfl)
  | (subst h1;cases aa;done)
theorem wf{K:Su}{sh:i0}{d:D}{vs:ZL}{es:ZK}{its:ZU}(h1:has sh d=true)(aa:∀e∈es,has sh e=true)(r:Reps K B vs es)(l:bN vs its):its.toArray.any (mi K B sh d)=true↔d∈es:=by
 rw[show its.toArray.any (mi K B sh d)=its.any (mi K B sh d) by simp,List.any_eq_true];constructor
 ·rintro⟨u,a2,z⟩;obtain⟨v,lv,b6⟩:=Ap.mp z;obtain⟨j,bC⟩:=U0 a2;obtain⟨w,m2,lw⟩:=l.getR bC;cases Fg lv lw;obtain⟨e,h8,mj⟩:=r.getV m2;have hf:=S9 h8;rw[qw sh h1 (aa e hf) b6 mj];exact hf
 intro m;obtain⟨j,bC⟩:=U0 m;obtain⟨v,ev,b6⟩:=r.get bC;obtain⟨u,N4,ju⟩:=l.get ev;exact⟨u,S9 N4,Ap.mpr ⟨v,ju,b6⟩⟩
theorem wg(I:Inv X aj σ H s)(dP:cw B H){A:Xy}{sh:i0}{d:D}{vs:ZL}{es:ZK}{its:ZU}{x:V}{v:SZ}(h1:has sh d=true)(aa:∀e∈es,has sh e=true)(bn:bU X.K B x d)(h7:RelV x v)(r:Reps X.K B vs es)(l:bN vs its)(a2:A.units+jt sh<XO):∀y,y∈its.toArray->SeqAt.EqAt A s y v (mi X.K B sh d y):=λy aP=>by
 obtain⟨j,bC⟩:=U0 (show y∈its by simpa using aP);obtain⟨w,m2,lw⟩:=l.getR bC;obtain⟨e,h8,mj⟩:=r.getV m2;have aD:=aa e (S9 h8);have q:=(tI I dP sh (A:=A) aD h1 mj bn lw h7 a2).eq
 have z:eqD e d=mi X.K B sh d y:=qv (by
  rw[Ap];constructor
  ·rintro⟨nR,e0,dn⟩;cases Fg e0 lw;exact qw sh aD h1 mj dn
  rintro rfl
  exact⟨w,lw,mj⟩)
 rw[<-z];exact q
theorem N5(a2:X.A.units+64<XO):gJ X (XQ .In) (Ao X.K false):=by
 intro aj s σ H x y v u Q I bn cg h;obtain⟨B,d,es,sh,aq,aN,dP,h1,aa,hd,q⟩:=h;rcases aN with aN|aN
 ·obtain⟨a,vs,rfl,aw,rs⟩:=aN.lstV;cases cg;obtain⟨its,ci,p1,_⟩:=I.list (cN.of (dP _ _ aw));exact SeqAt.in_listAt (mi X.K B sh d) p1.isList (wg I dP (A:=X.A.in1) h1 aa aq bn rs ci (by show X.A.units+1+_<XO;lia)) ⟨.bl _,H,I,rfl,q _ (wf h1 aa rs ci)⟩
 obtain⟨a,vs,rfl,aw,rs⟩:=aN.tupV;cases cg;obtain⟨its,ci,p1,_⟩:=I.tuple (eX.of (dP _ _ aw));exact SeqAt.in_tupleAt (mi X.K B sh d) p1 (wg I dP (A:=X.A.in1) h1 aa aq bn rs ci (by show X.A.units+1+_<XO;lia)) ⟨.bl _,H,I,rfl,q _ (wf h1 aa rs ci)⟩
theorem N6(a2:X.A.units+64<XO):gJ X (XQ .NotIn) (Ao X.K true):=by
 intro aj s σ H x y v u Q I bn cg h;obtain⟨B,d,es,sh,aq,aN,dP,h1,aa,hd,q⟩:=h;rcases aN with aN|aN
 ·obtain⟨a,vs,rfl,aw,rs⟩:=aN.lstV;cases cg;obtain⟨its,ci,p1,_⟩:=I.list (cN.of (dP _ _ aw));exact SeqAt.notIn_listAt (mi X.K B sh d) p1.isList (wg I dP (A:=X.A.in1) h1 aa aq bn rs ci (by show X.A.units+1+_<XO;lia)) ⟨.bl _,H,I,rfl,q _ (wf h1 aa rs ci)⟩
 obtain⟨a,vs,rfl,aw,rs⟩:=aN.tupV;cases cg;obtain⟨its,ci,p1,_⟩:=I.tuple (eX.of (dP _ _ aw));exact SeqAt.notIn_tupleAt (mi X.K B sh d) p1 (wg I dP (A:=X.A.in1) h1 aa aq bn rs ci (by show X.A.units+1+_<XO;lia)) ⟨.bl _,H,I,rfl,q _ (wf h1 aa rs ci)⟩
end
section
variable{K:Su}{X:aU}{a b:WP}{b5 b':bg}{pos:Pos}
def tJ(ng:Bool)(b5 b':bg):bg:=λρ k=>b5 ρ λx=>b' ρ λy=>∃sh,has sh x=true/\has sh y=true/\jt sh<=50/\k (.bl (if ng then !eqD x y else eqD x y))
def Aq(ng:Bool)(b5 b':bg):bg:=λρ k=>b5 ρ λx=>b' ρ λy=>∃sh es,(y=.lst es\/y=.tup es)/\has sh x=true/\(∀e∈es,has sh e=true)/\jt sh<=50/\∀b:Bool,(b=true↔x∈es)->k (.bl (if ng then !b else b))
theorem Ar{bL tb:bK}{ng:Bool}(aw:e' K bL b5)(ae:e' K tb b'):e' K (n2 (An K ng) bL tb) (tJ ng b5 b'):=
 rU aw ae λx y k h R W B H σ ρ v w Q e bn cg q=>by
  obtain⟨sh,h1,aa,hd,ah⟩:=h;exact⟨B,x,y,sh,bn,cg,e.bh,h1,aa,hd,q _ _ B H ah e (bJ.refl _ _) (.bl _)⟩
theorem Fh{bL tb:bK}{ng:Bool}(aw:e' K bL b5)(ae:e' K tb b'):e' K (n2 (Ao K ng) bL tb) (Aq ng b5 b'):=
 rU aw ae λx y k h R W B H σ ρ v w Q e bn cg q=>by
  obtain⟨sh,es,aP,h1,aa,hd,ah⟩:=h;refine⟨B,x,es,sh,bn,?_,e.bh,h1,aa,hd,λb ae=>q _ _ B H (ah b ae) e (bJ.refl _ _) (.bl _)⟩;rcases aP with rfl|rfl
  ·exact .inl cg
  exact .inr cg
theorem tK(a2:X.A.units+64<XO)(aw:br X a b5)(ae:br X b b')(aA:XF .Eq b=false):br X (.Compare a [.Eq] [b] pos) (tJ false b5 b'):=by
 obtain⟨_,h1,aq⟩:=aw;obtain⟨_,aa,aN⟩:=ae;exact⟨_,zC (Ff a2) h1 aa aA,Ar aq aN⟩
theorem As(a2:X.A.units+64<XO)(aw:br X a b5)(ae:br X b b')(aA:XF .Eq b=false):h5 X (.Compare a [.Eq] [b] pos) (iY (tJ false b5 b')):=by
 obtain⟨_,h1,aq⟩:=aw;obtain⟨_,aa,aN⟩:=ae;exact⟨_,qd (Ff a2) h1 aa aA,tw (Ar aq aN)⟩
theorem N7(a2:X.A.units+64<XO)(aw:br X a b5)(ae:br X b b')(aA:XF .NotEq b=false):h5 X (.Compare a [.NotEq] [b] pos) (iY (tJ true b5 b')):=by
 obtain⟨_,h1,aq⟩:=aw;obtain⟨_,aa,aN⟩:=ae;exact⟨_,qd (N3 a2) h1 aa aA,tw (Ar aq aN)⟩
theorem Fi(a2:X.A.units+64<XO)(aw:br X a b5)(ae:br X b b')(aA:XF .NotIn b=false):br X (.Compare a [.NotIn] [b] pos) (Aq true b5 b'):=by
 obtain⟨_,h1,aq⟩:=aw;obtain⟨_,aa,aN⟩:=ae;exact⟨_,zC (N6 a2) h1 aa aA,Fh aq aN⟩
theorem Fj(a2:X.A.units+64<XO)(aw:br X a b5)(ae:br X b b')(aA:XF .In b=false):h5 X (.Compare a [.In] [b] pos) (iY (Aq false b5 b')):=by
 obtain⟨_,h1,aq⟩:=aw;obtain⟨_,aa,aN⟩:=ae;exact⟨_,qd (N5 a2) h1 aa aA,tw (Fh aq aN)⟩
end
end L3
namespace L3
open PySem L2
open PySem.Builtin.Int (intBits)
theorem N8{K:Su}{P:WF}{w:Xx}{mg:Str->Option SZ}{base:XB}{x qual:Str}{st:XE}{f:TI}{fd:X3}{N ps:ZT}{lv n:Nat}{F:ck}(qr:m5 K x qual st f fd)(S:cC N ps (bZ st))(aO:ps.length=n)(hu:∀(cdv:SZ) (A:Xy) (outer:List Tx) (s:TD) (H:am) (E:gW),eF lv (A.deeper (Ve qual (bZ st) s.heap.objs.size f cdv))->∃u,h6 (ly kh P w K mg base N qual (bZ st) f cdv A outer s H E).nox (kg st) u/\∀as k,as.length=n->F as k->u {nx:=λ_=>k (.val .non),rt:=k} (as++SX (N.length-n) .no)):ke P w K mg base kh (lv+1) f fd ps (cm K n F):=by
 refine qr.ok S (λvs H Q E h=>?_) (λcdv A outer s H vs Q E ao h=>?_)
 ·obtain⟨W,B,as,k,_,ap,_,_,_,fp,_⟩:=h;rw[fp.length,ap,aO]
 obtain⟨W,B,as,k,f4,ap,ae,dP,hw,fp,q⟩:=h;obtain⟨u,⟨t,aR,rt⟩,a2⟩:=hu cdv A outer s H E ao;have ev:=aW.start (N:=N) (VU ae) dP hw fp;rw[ap]at ev;refine⟨t,aR,rt _ _ (a2 as k ap f4) H W B H (L2.start N vs) _ ev ⟨λρ σ az ak h e g=>?_,λ_ _ _ _ h=>h.elim,λ_ _ _ _ h=>h.elim,λr v az ak h e g z=>q r v az ak h ⟨e,g,z⟩⟩⟩;exact q _ _ az ak h ⟨e.toWd,g,.non⟩
def wi(K:Su):iA:=λvs H Q _=>∃(a:TI)(ns:ZI),vs=[.ref a]/\cN K H a (ns.map V.int)/\ns.length<=63/\∀ak,Q (.bl true) ak
def Fk:ck:=λas k=>∃ns:ZI,as=[.val (.scr ns)]/\ns.length<=63/\k (.val (.bl true))
theorem N9{K:Su}{vs:ZL}{H:am}{Q:cq}{E:gW}(h:wi K vs H Q E):cm K 1 Fk vs H Q E:=by
 obtain⟨a,ns,rfl,ga,ap,q⟩:=h;refine⟨λ_=>False,H,[.val (.scr ns)],λr=>r=.val (.bl true),⟨ns,rfl,ap,rfl⟩,rfl,rfl,cw.refl _,λ_ z=>z.elim,.val (.scr ga) .nil,λr v az ak ao ex=>?_⟩;subst ao;have:=ex.res;rw[bU.blV this];exact q ak
def Fl(K:Su):iA:=λvs H Q _=>∃(a:TI)(k:Int)(ns:ZI),vs=[.ref a,.int k]/\cN K H a (ns.map V.int)/\0<=k/\∀z,Q (.int z) H
def Fm:ck:=λas k=>∃(ns:ZI)(i:Int),as=[.val (.scr ns),.val (.int i)]/\0<=i/\∀z:Int,k (.val (.int z))
theorem Wd.entry{H B:am}{W:TI->Prop}(dP:cw B H)(hw:∀a,W a->B a=none/\gf H a):Wd H W B H:=
 ⟨λ_ _ h _=>h,dP,λa h=>(hw a h).1,λa h=>(hw a h).2,λa h=>by obtain⟨x,y,q,_⟩:=(hw a h).2;rw[q];simp⟩
theorem N'{K:Su}{vs:ZL}{H:am}{Q:cq}{E:gW}(h:cm K 2 Fm vs H Q E):Fl K vs H Q E:=by
 obtain⟨W,B,as,k,⟨ns,i,rfl,hi,ah⟩,ap,ae,dP,hw,fp,q⟩:=h;cases fp with
 |val aq fp=>cases fp with
  |val aN fp=>
   cases fp;obtain⟨a,rfl,aw⟩:=aq.scrV;cases aN.intV;exact⟨a,i,ns,rfl,dP.seq aw,hi,λz=>q _ _ B H (ah z) ⟨Wd.entry dP hw,bJ.refl _ _,.int z⟩⟩
def Fn:iA:=λvs H Q _=>∃c:Int,vs=[.int c]/\∀(b:TI)(x y:Int),H b=none->0<=x->0<=y->y<2147483647->Q (.ref b) (upd H b (.lst [.int x,.int y]))
def Fo:ck:=λas k=>∃c:Int,as=[.val (.int c)]/\k .bag
theorem Oa{K:Su}{vs:ZL}{H:am}{Q:cq}{E:gW}(h:cm K 1 Fo vs H Q E):Fn vs H Q E:=by
 obtain⟨W,B,as,k,⟨c,rfl,ah⟩,ap,ae,dP,hw,fp,q⟩:=h;cases fp with
 |val aq fp=>
  cases fp;cases aq.intV;refine⟨c,rfl,λb x y aO fe e1 dy=>?_⟩;have wd:=Wd.entry dP hw;exact q .bag _ B _ ah ⟨wd.allocH aO _,bJ.refl _ _,b,rfl,aO,(wd.fresh aO).2.2,x,y,d9,fe,e1,dy⟩
def Fp(lim:Nat):iA:=λvs H Q _=>∃(b:TI)(m:Int),vs=[.ref b,.int m]/\gf H b/\0<m/\SC m<=lim/\∀(r:Int)(ak:am),m6 b H ak->gf ak b->0<=r->r<m->Q (.int r) ak
def Fq(lim:Nat):ck:=λas k=>∃m:Int,as=[.bag,.val (.int m)]/\0<m/\SC m<=lim/\∀r:Int,0<=r->r<m->k (.val (.int r))
theorem Ob{K:Su}{lim:Nat}{vs:ZL}{H:am}{Q:cq}{E:gW}(h:cm K 2 (Fq lim) vs H Q E):Fp lim vs H Q E:=by
 obtain⟨W,B,as,k,⟨m,rfl,dW,gU,ah⟩,ap,ae,dP,hw,fp,q⟩:=h;cases fp with
 |bag hU fp=>cases fp with
  |val aN fp=>
   cases fp;cases aN.intV
   rename_i b
   refine⟨b,m,rfl,(hw b hU).2,dW,gU,λr ak ex g1 hF aq=>?_⟩;have wd:=Wd.entry dP hw;refine q _ _ B ak (ah r hF aq) ⟨⟨λa o h1 aa=>ex a o (by rintro rfl;exact aa hU) h1,λa o h1=>ex a o (by rintro rfl;rw[(hw _ hU).1]at h1;cases h1) (dP a o h1),wd.wb,λa z=>?_,wd.wr⟩,bJ.refl _ _,.int r⟩;by_cases e:a=b
   ·subst e;exact g1
   obtain⟨x,y,h1,aa⟩:=(hw a z).2;exact⟨x,y,ex a _ e h1,aa⟩
theorem ml{c:Bool}{A B:Prop}(h:c=true)(a:A):if c=true then A else B:=by rw[Tk h];exact a
theorem lH{c:Bool}{A B:Prop}(h:c=false)(b:B):if c=true then A else B:=by rw[h,Tl SP];exact b
theorem c9{u:cQ}{U:iE}{ρ r:ZM}(e:ρ=r)(h:u U r):u U ρ:=by rw[e];exact h
theorem r0{s t:cQ}{U:iE}{ρ:ZM}(first:∀N:ZM->Prop,N ρ->s {U with nx:=N} ρ)(rest:t U ρ):qt s t U ρ:=first (t U) rest
theorem h9{s t:cQ}{U:iE}{ρ:ZM}(I:ZM->Prop)(rest:∀bi,I bi->t U bi)(first:∀N:ZM->Prop,(∀bi,I bi->N bi)->s {U with nx:=N} ρ):qt s t U ρ:=first _ rest
end L3
namespace L3
open PySem L2
section
variable{X:aU}
theorem hV{bM cs:List (Str×TI)}(h:∀p∈bM,cs.lookup p.1=some p.2):∀y c,bM.lookup y=some c->cs.lookup y=some c:=λy c e=>h (y,c) (Up e)
theorem ia{names:List (Str×Zd)}{bM:List (Str×TI)}(h:(names.all λp => !(p.2==.cell||p.2==.free)||(bM.lookup p.1).isSome)=true):∀y,(names.lookup y=some .cell\/names.lookup y=some .free)->∃c,bM.lookup y=some c:=λy e=>by
 have key:∀k:Zd,(k==.cell||k==.free)=true->names.lookup y=some k->∃c,bM.lookup y=some c:=λk ah e=>by
  have q:=Vg.mp h (y,k) (Up e);have q:(!(k==.cell||k==.free)||(bM.lookup y).isSome)=true:=q;rw[ah]at q;exact VJ.mp (by simpa using q)
 rcases e with e|e
 ·exact key _ rfl e
 exact key _ rfl e
end
end L3
namespace L2
open PySem PySem.Spec PyProof.Rows
def lI(X:aU)(dr:ZW)(tt:ee):Prop:=∀(aj:ZY)(s:TD)(σ:St)(H:am)(Q:Bool->am->Prop),Inv X aj σ H s->tt σ H Q->
 wpAny (Wp X.prog X.w) X.A (forIn dr true λt r=>if r=true then do let z <-Zb t X.env (Yl t X.env);pure (Vh z)else pure (Vh r)) (vo X aj σ Q) X.xe s
def Oc:ee:=λ_ H Q=>Q true H
theorem Od{X:aU}:lI X [] Oc:=λ_ _ _ H _ I h=>wpAny_tests_nil ⟨H,I,h⟩
theorem Oe{X:aU}{c:WP}{tt:ee}(h:jH X c tt):lI X [c] tt:=λaj s σ H Q I q=>wpAny_tests_one (h aj s σ H Q I q)
def Of(J:ha)(g:fR)(tt:ee)(bW:bK)(At:St)(D:TI)(au:am)(Q:cq):Prop:=∃W:Nat->Nat->St->am->Prop,(∃m,W 0 m At (upd au D (.lst [])))/\∀i m σ H,W i m σ H->
 (J.stop i H/\Q (.ref D) H)\/(J.go i H/\∀x ak,J.yld i H x ak->g x σ ak λmX aS=>tt mX aS λb cG=>if b=true then bW mX cG λy jv=>∃ys,jv D=some (.lst ys)/\ys.length<TT/\∃dH,dH<m/\W (i+1) dH mX (upd jv D (.lst (ys++[y])))else ∃dH,dH<m/\W (i+1) dH mX cG)
def Au(et:gI)(g:fR)(tt:ee)(bW:bK)(el:Nat)(js:ZP):bK:=λσ H Q=>et σ H λJ au=>∀D,au D=none->Of J g tt bW (SX el none++iU σ js) D au Q
abbrev jw:=St->am->(St->am->Prop)->Prop
def qz(Y:aU)(i1:Sem Fin->Sem Fin)(em:jw):Prop:=∀(aj:ZY)(s:TD)(σ:St)(H:am)(Q:St->am->Prop)(k:Sem Fin)(R:Fin->TD->Prop)(E:SZ->TD->Prop),Inv Y aj σ H s->em σ H Q->
 (∀s' bm ak,Inv Y aj bm ak s'->Q bm ak->wpAny (Wp Y.prog Y.w) Y.A k R E s')->wpAny (Wp Y.prog Y.w) Y.A (i1 k) R E s
def pe(e:WP)(d:Nat)(bj src:WP)(dr:ZW)(i1:Sem Fin->Sem Fin)(it acc:SZ)(env:Tx):Sem Fin:=
 YR src.pos >>= λ_=>YS it >>= λr=>match r with
  |none=>pure (Fin.done .next)
  |some v=>Yp bj it v >>= λ_=>Y3 bj env v >>= λ_=>
   (forIn dr true λt r=>if r=true then do let z <-Zb t env (Yl t env);pure (Vh z)else pure (Vh r)) >>= λok=>
    if ok=true then i1 (again (.compLoop e d it acc env))else again (.compLoop e d it acc env)
def Av(cI:WP)(acc:SZ)(env:Tx)(k:Sem Fin):Sem Fin:=(Yl cI env >>= λx=>call (.builtin "list.append") [acc,x] >>= λ_=>pure ()) >>= λ_=>k
def Aw(e:WP)(d:Nat)(src:WP)(acc:SZ)(env:Tx)(k:Sem Fin):Sem Fin:=
 Yl src env >>= λx=>YR src.pos >>= λ_=>Xr src env x >>= λx=>Yv [x] (ZB x) >>= λi=>runOwn (.compStart e d i acc env) env >>= λ_=>k
section
variable{cI ea fN dg ff cU i2:WP}{dL aT bd:ZW}{sc:XV}{ps:Pos}{it acc:SZ}{env:Tx}
theorem Og:YH (.ListComp cI [⟨ea,fN,dL,0⟩,⟨dg,ff,aT,0⟩] sc ps) 0 it acc env=pe (.ListComp cI [⟨ea,fN,dL,0⟩,⟨dg,ff,aT,0⟩] sc ps) 0 ea fN dL (Aw (.ListComp cI [⟨ea,fN,dL,0⟩,⟨dg,ff,aT,0⟩] sc ps) 1 ff acc env) it acc env:=by rfl
theorem Oh:YH (.ListComp cI [⟨ea,fN,dL,0⟩,⟨dg,ff,aT,0⟩] sc ps) 1 it acc env=pe (.ListComp cI [⟨ea,fN,dL,0⟩,⟨dg,ff,aT,0⟩] sc ps) 1 dg ff aT (Av cI acc env) it acc env:=by rfl
end
section
variable{Y:aU}{cI bj src:WP}{gens:List YI}{dr:ZW}{sc:XV}{ps:Pos}{d:Nat}{acc:SZ}{et:gI}{g:fR}{tt:ee}{bW:bK}{em:jw}{i1:Sem Fin->Sem Fin}
def wj(bW:bK)(D:TI):jw:=λσ H Q=>bW σ H λy jv=>∃ys,jv D=some (.lst ys)/\ys.length<TT/\Q σ (upd jv D (.lst (ys++[y])))
def tL(J:ha)(g:fR)(tt:ee)(em:jw)(W:Nat->Nat->St->am->Prop)(QS:St->am->Prop):Prop:=∀i m σ H,W i m σ H->
 (J.stop i H/\QS σ H)\/(J.go i H/\∀x ak,J.yld i H x ak->g x σ ak λmX aS=>tt mX aS λb cG=>if b=true then em mX cG λOi jv=>∃dH,dH<m/\W (i+1) dH Oi jv else ∃dH,dH<m/\W (i+1) dH mX cG)
def Fs(et:gI)(g:fR)(tt:ee)(em:jw):jw:=λσ H Q=>et σ H λJ au=>∃W:Nat->Nat->St->am->Prop,(∃m,W 0 m σ au)/\tL J g tt em W Q
theorem Ft{it:TI}{J:ha}{cA:ZV}{hr:Nat->XB->Prop}(aR:YH (.ListComp cI gens sc ps) d (.ref it) acc Y.env=pe (.ListComp cI gens sc ps) d bj src dr i1 (.ref it) acc Y.env)(T:oV Y.prog Y.w Y.K bj J cA it hr)(al:∀e s,¬Y.xe e s)(hc:Y.calm=true)(aF:iP Y bj g)(i3:lI Y dr tt)(oa:qz Y i1 em){aj:ZY}{W:Nat->Nat->St->am->Prop}{QS:St->am->Prop}{dW:Nat}{s:TD}{σ:St}{H:am}(I:Inv Y aj σ H s)(st:hr 0 s.heap)(fr:∀b∈cA,gH Y aj H b)(w0:W 0 dW σ H)(turn:tL J g tt em W QS){R:ZC->TD->Prop}(lJ:∀s' bm ak,Inv Y aj bm ak s'->QS bm ak->R (.ok .next) s'):
  codeAny (Wp Y.prog Y.w) Y.A (.compLoop (.ListComp cI gens sc ps) d (.ref it) acc Y.env) R s:=by
 have nY:∀{ak:am},(∀b∈cA,ak b=none)->∀b∈cA,gH Y aj ak b:=λaO b ae=>⟨aO b ae,(fr b ae).2⟩;refine codeAny_loop rfl (λn s'=>∃i bm ak,Inv Y aj bm ak s'/\hr i s'.heap/\(∀b∈cA,ak b=none)/\W i n bm ak) (λn mZ aL=>?_) dW ⟨0,σ,H,I,st,λb ae=>(fr b ae).1,w0⟩;show wpAny _ Y.A (Sem.onRaise (YH (.ListComp cI gens sc ps) d (.ref it) acc Y.env) _) _ _ mZ
 rw[aR];unfold pe;refine wpAny_noted (SB (XX (SB ?_)));obtain⟨i,qA,gq,nX,rK,vB,Oj⟩:=aL;rcases turn i n qA gq Oj with⟨stop,q⟩|⟨go,step⟩
 ·refine XG (T.done Y rfl rfl rfl hc i aj mZ qA gq (λ_ _=>False) nX (nY vB) rK stop) (λr iS ⟨ao,kb⟩=>?_) (λ_ _ z=>z.elim);subst ao;exact SL (lJ _ _ _ kb q)
 refine XG (T.item Y rfl rfl rfl hc i aj mZ qA gq (λ_ _=>False) nX (nY vB) rK go) (λr iS ⟨u,ao,ey⟩=>?_) (λ_ _ z=>z.elim);subst ao;refine SB (XG ey (λ_ n0 ⟨v,kc,jk,zw,Ol,Ax,Om⟩=>?_) (λ_ _ z=>z.elim));have On:=jk.pinned (nY Om) (T.obj _ _ Ax)
 have back:∀{r1:TD}{wk:St}{r2:am}{ka:Nat},Inv Y (aj++s4 cA n0.heap) wk r2 r1->W (i+1) ka wk r2->∃i bm ak,Inv Y aj bm ak r1/\hr i r1.heap/\(∀b∈cA,ak b=none)/\W i ka bm ak:=λ{r1 wk r2 ka} r3 tM=>by
  refine⟨i+1,wk,r2,r3.unpinned,T.keep _ _ _ Ax λb ae pf h8=>(r3.pin (b,pf) (S5 _ (S5 _ (vA ae h8)))).1,λb ae=>?_,tM⟩;obtain⟨pf,h8,_⟩:=T.obj _ _ Ax b ae;exact(r3.pin (b,pf) (S5 _ (S5 _ (vA ae h8)))).2.1
 refine SB (XG (aF _ n0 qA kc v u _ On zw (step v kc Ol)) (λ_ Oo ⟨Fu,Op,Oq,Os⟩=>?_) (λ_ _ z=>(al _ _ z).elim));refine SB (XG (i3 _ Oo Fu Op _ Oq Os) (λb r1 ⟨r2,r3,wl⟩=>?_) (λ_ _ z=>(al _ _ z).elim));cases b with
 |false=>
  rw[Tl SP]at wl⊢;obtain⟨dH,ib,tM⟩:=wl;exact SL ⟨rfl,dH,ib,back r3 tM⟩
 |true=>
  rw[Tk rfl]at wl⊢;refine oa _ r1 Fu r2 _ _ _ _ r3 wl λs' bm ak mV ho=>?_;obtain⟨dH,ib,tM⟩:=ho;exact SL ⟨rfl,dH,ib,back mV tM⟩
theorem Ay{D:TI}(aD:bY Y cI bW)(al:∀e s,¬Y.xe e s):qz Y (Av cI (.ref D) Y.env) (wj bW D):=by
 intro aj s σ H Q k R E I h ah;unfold Av;refine SB (SB (XG (aD aj s σ H _ I h) (λOt Ou ⟨y,Fv,Ov,Ow,ys,Az,Ox,Oy⟩=>?_) (λ_ _ z=>(al _ _ z).elim)));have mt:=vN (X:=Y) aj Ou σ Fv (.ref D) [y] (.ref D) [Ot] (λ_ ak=>ak=upd Fv D (.lst (ys++[y]))) Ov rfl (.cons Ow .nil) ⟨D,ys,y,rfl,rfl,Az,Ox,rfl⟩;refine SB (XG mt (λ_ agy ⟨_,agz,Oz,_,qB⟩=>?_) (λ_ _ z=>(al _ _ z).elim));subst qB;exact SL (ah _ _ _ Oz Oy)
theorem OA{R:ZC->TD->Prop}{s:TD}{it:SZ}{env:Tx}{P:WF}{w:Xx}{A:Xy}(jS:gens[d]?=some ⟨bj,src,dr,0⟩)(h0:codeAny (Wp P w) A (.compLoop (.ListComp cI gens sc ps) d it acc env) R s)(h:∀E,wpAny (Wp P w) A (ZB it) (λOB s'=>codeAny (Wp P w) A (.compLoop (.ListComp cI gens sc ps) d OB acc env) R s') E s):
  codeAny (Wp P w) A (.compStart (.ListComp cI gens sc ps) d it acc env) R s:=by
 apply codeAny_of_tree;show wpAny _ A (Sem.onRaise (WG (.ListComp cI gens sc ps) d it acc env) _) _ _ s
 apply wpAny_notedAt;unfold WG;rw[show clausesOf (.ListComp cI gens sc ps)=gens from rfl,jS];show wpAny _ _ (ask >>= _) _ _ s
 refine SB (wpAny_askSetting (wpAny_ite ?_));split
 ·exact SB (SL (SL ⟨rfl,h0⟩))
 refine SB (Yb (SB (XX ?_)));exact SB (XG (h _) (λi s' q=>SL ⟨rfl,q⟩) λ_ _ z=>z)
theorem OC(hi:iy Y bj src et)(aF:iP Y bj g)(i3:lI Y dr tt)(oa:qz Y i1 em)(al:∀e s,¬Y.xe e s)(hc:Y.calm=true)(av:∀v,Xr src Y.env v=pure v)(jS:gens[d]?=some ⟨bj,src,dr,0⟩)(aR:∀it,YH (.ListComp cI gens sc ps) d it acc Y.env=pe (.ListComp cI gens sc ps) d bj src dr i1 it acc Y.env):
  qz Y (Aw (.ListComp cI gens sc ps) d src acc Y.env) (Fs et g tt em):=by
 intro aj s σ H Q k R E I h ah;unfold Aw;refine SB (XG (hi aj s σ H _ I h) (λv aC h1=>?_) (λ_ _ z=>(al _ _ z).elim));refine SB (XX (SB (Y' (av v) (SB (Xu (XG h1 (λvy bf aa=>?_) (λ_ _ z=>(al _ _ z).elim)))))));obtain⟨it,cA,hr,J,aS,rfl,da,T,mY,bd,W,⟨dW,w0⟩,turn⟩:=aa;refine SB (wpAny_runOwn ?_);have lp:∀R:ZC->TD->Prop,(∀s' bm ak,Inv Y aj bm ak s'->Q bm ak->R (.ok .next) s')->codeAny (Wp Y.prog Y.w) Y.A (.compLoop (.ListComp cI gens sc ps) d (.ref it) acc Y.env) R bf:=λR lJ=>Ft (aR _) T al hc aF i3 oa da mY bd w0 turn lJ;exact OA jS (lp _ ah) λE=>T.self _ 0 _ _ _ mY (lp _ ah)
end
section
variable{X:aU}
structure ph (X:aU) (scope:XV) (bM:List (Str×TI)) (fr:ZT) (js:ZP):Prop where
 clos:Zo scope X.env=pure bM
 cell:∀y∈scope.names,y.2≠.cell
 kind:scope.kind=.function
 names:∀y∈scope.names,y.2=.local->scope.names.lookup y.1=some .local
 sub:∀y c,bM.lookup y=some c->X.env.cells.lookup y=some c
 has:∀y,((relabel scope X.env).names.lookup y=some .cell\/(relabel scope X.env).names.lookup y=some .free)->∃c,bM.lookup y=some c
 frn:∀(i:Nat)(y:Str),fr[i]?=some y->∃j:Nat,js[i]?=some j/\X.N[j]?=some y/\X.env.kindOf y=some .cell/\((relabel scope X.env).names.lookup y=some .cell\/(relabel scope X.env).names.lookup y=some .free)/\∃c,bM.lookup y=some c
 len:js.length=fr.length
end
def OD(J:ha)(g:fR)(tt:ee)(em:TI->jw)(At:St)(D:TI)(au:am)(Q:cq):Prop:=∃W:Nat->Nat->St->am->Prop,(∃m,W 0 m At (upd au D (.lst [])))/\tL J g tt (em D) W λ_ H=>Q (.ref D) H
def wm(et:gI)(g:fR)(tt:ee)(em:TI->jw)(el:Nat)(js:ZP):bK:=λσ H Q=>et σ H λJ au=>∀D,au D=none->OD J g tt em (SX el none++iU σ js) D au Q
section
variable{X:aU}
theorem Fw{cI dc bj:WP}{rest:List YI}{dr:ZW}{pos:Pos}{scope:XV}{bM:List (Str×TI)}{ts fr:ZT}{js:ZP}{et:gI}{g:fR}{tt:ee}{em:TI->jw}{i1:SZ->Tx->Sem Fin->Sem Fin}{use:Option (SZ->Sem Unit)}{RQ:SZ->TD->Prop}{QE:cq}(hi:iy X bj dc et)(aF:∀C s H ex,iP (ek X (ts++fr) scope bM C s H ex) bj g)(i3:∀C s H ex,lI (ek X (ts++fr) scope bM C s H ex) dr tt)(oa:∀D C s H ex,qz (ek X (ts++fr) scope bM C s H ex) (i1 (.ref D) (YZ scope bM C X.env)) (em D))(tN:∀it acc env,YH (.ListComp cI (⟨bj,dc,dr,0⟩::rest) scope pos) 0 it acc env=pe (.ListComp cI (⟨bj,dc,dr,0⟩::rest) scope pos) 0 bj dc dr (i1 acc env) it acc env)(F:ph X scope bM fr js)(hc:X.calm=true)(av:∀v,Xr dc X.env v=pure v){aj:ZY}{s:TD}{σ:St}{H:am}(I:Inv X aj σ H s)(h:wm et g tt em ts.length js σ H QE)(Fx:Sem SZ)(OE:Fx=newList [])(qC:Pos)(lJ:∀(D C:TI) (gq:am) (iS:TD) (m:Str->Option SZ),iS.heap.Ns C m->gq C=none->C≠X.env.locals->X.s₀.heap.objs.size<=C->(∀x c,X.env.cells.lookup x=some c->c≠C)->(∀p∈X.pn++aj,p.1≠C)->C∉X.fs->(∀h':XB,(∀b u,b≠C->iS.heap.get? b=some u->h'.get? b=some u)->Inv X aj σ gq {iS with heap:=h' })->QE (.ref D) gq->compPost (Wp X.prog X.w) X.A X.xe use RQ (.ref D) C (.ok .next) iS):
  wpAny (Wp X.prog X.w) X.A (comprehension (.ListComp cI (⟨bj,dc,dr,0⟩::rest) scope pos) scope X.env qC Fx false (Yl dc X.env) use) RQ X.xe s:=by
 refine wpAny_comprehension_free (use:=use) rfl av F.clos F.kind F.names (cl (hi aj s σ H _ I h) λOF aC h1=>cl h1 λvy bf aa=>?_);obtain⟨it,cA,hr,J,aS,rfl,da,T,mY,bd,aa⟩:=aa;have jJ:aS bf.heap.objs.size=none:=da.fresh;obtain⟨W,⟨dW,w0⟩,turn⟩:=aa _ jJ;rw[OE];refine W1 ?_;have cY:Inv X aj σ (upd aS bf.heap.objs.size (.lst [])) {bf with heap:=bf.heap.push {cls:=.type "list",data:=.seq ([]:ZU).toArray} }:=da.lnew (t':=bf.toks) (its:=[]) .nil vh;generalize qD:({bf with heap:=bf.heap.push {cls:=.type "list",data:=.seq ([]:ZU).toArray} }:TD)=cR at cY;have bb:cR.heap=bf.heap.push {cls:=.type "list",data:=.seq ([]:ZU).toArray}:=by rw[<-qD]
 generalize Fy:upd aS bf.heap.objs.size (.lst [])=cG at cY w0;generalize OG:bf.heap.objs.size=D at jJ Fy w0 turn;have gt:∀b o,bf.heap.get? b=some o->cR.heap.get? b=some o:=λb o e=>by rw[bb];exact Heap.get?_push_of_some _ e
 have bA:∀b∈cA,gH X aj cG b:=λb ae=>by
  obtain⟨o,ax,_⟩:=T.obj _ _ mY b ae;have lt:=Heap.lt_size ax;refine⟨?_,(bd b ae).2⟩;rw[<-Fy,bV (by rw[<-OG];exact S3 lt)];exact(bd b ae).1
 refine Y2 F.cell (by intro y aP;simp at aP) (λh1 m4 wn=>?_) F.kind;have OH:cR.heap.get? cR.heap.objs.size=none:=Heap.get?_none_of_le (SF _);have gg:∀b o,cR.heap.get? b=some o->h1.get? b=some o:=λb o e=>wn.extBut b o (S3 (Heap.lt_size e)) (Heap.get?_push_of_some _ e);show codeAny (Wp X.prog X.w) X.A (.compStart (.ListComp cI (⟨bj,dc,dr,0⟩::rest) scope pos) 0 (.ref it) (.ref D) (YZ scope bM cR.heap.objs.size X.env)) (compPost (Wp X.prog X.w) X.A X.xe use RQ (.ref D) cR.heap.objs.size) _
 have ok:(ek X (ts++fr) scope bM cR.heap.objs.size cR cG cA).Ok:=by
  refine⟨cY.ok.mod,F.kind,cY.ok.glob,cY.ok.blt,SF _,λy z c ai ar=>cY.ok.inj y z c (F.sub _ _ ai) (F.sub _ _ ar),λy aP=>F.has y aP,λy c z=>absurd z SP,cY.ok.hd,cY.ok.frames,.inl rfl,λb ae=>?_,cY.bs,SD cY.ok.bsz cY.sz,
   λb o e ae=>?_,λb ae bD=>?_,cY.stack,cY.stkFree,cY.tabs⟩
  ·obtain⟨o,ax,_⟩:=T.obj _ _ mY b ae;exact⟨S3 (Heap.lt_size (gt b o ax)),λy c e=>(bA b ae).2.2.2.2.1 y c (F.sub _ _ e)⟩
  ·obtain⟨_,_,_,z,_⟩:=bA b ae;rcases z with z|z
   ·exact cY.ok.noex b o e z
   exact absurd (S8 (Heap.lt_size (cY.ok.bs b o e).1) z) (TU _)
  rcases SG.mp (cY.stkSub b bD)with z|z
  ·exact(bA b ae).2.1 z
  exact(bA b ae).2.2.1 z
 have OI:∀(dY:XB),(∀b u,cR.heap.get? b=some u->dY.get? b=some u)->∀(i:Nat)(y:Str)(v:V),fr[i]?=some y->(iU σ js)[i]?=some (some v)->∃u,RelV v u/\∀m,Look (YZ scope bM cR.heap.objs.size X.env) dY m y u:=λdY aJ i y v ai ar=>by
  obtain⟨j,AA,OJ,ah,OK,c,jS⟩:=F.frn i y ai
  have AB:σ[j]?=some (some v):=by
   unfold iU at ar;rw[SW,AA,UK]at ar;have ar:=SO ar;cases q:σ[j]? with
   |none=>rw[q]at ar;simp at ar
   |some z=>rw[q]at ar;simpa using ar
  obtain⟨m,aO,ap⟩:=cY.loc;obtain⟨u,r,l⟩:=ap j y v OJ AB (.inr (.inl ah));refine⟨u,r,λdH=>.inr ⟨OK,c,jS,?_⟩⟩;rcases l with⟨z,_⟩|⟨_,c',vn,OL⟩
  ·rw[ah]at z;cases z
  have e:=F.sub _ _ jS;rw[vn]at e;cases e;obtain⟨pf,aM,a4⟩:=OL;exact⟨pf,aJ _ _ aM,a4⟩
 have oU:Inv (ek X (ts++fr) scope bM cR.heap.objs.size cR cG cA) [] (SX ts.length none++iU σ js) cG {cR with heap:=h1,toks:=cR.toks+([]:List (Str×SZ)).length}:=by
  refine⟨ok,rfl,cY.bare,f0.kept gg,⟨_,m4,λi y v ai ar bb=>?_⟩,λy c e=>?_,cY.fresh,λy c e=>cY.freeC y c (F.sub _ _ e),λp ag=>absurd (show p∈([]:ZY)from ag) (by simp),cY.hok.kept gg,?_⟩
  ·by_cases de:i<ts.length
   ·rw[TQ (by simpa using de),Uq,Tk de]at ar;cases ar
   have ai:(ts++fr)[i]?=some y:=ai;rw[Tr (by lia)]at ai;rw[Tr (by simp;lia),T7]at ar;obtain⟨u,r,l⟩:=OI h1 gg _ y v ai ar;exact⟨u,r,l _⟩
  ·obtain⟨v,pf,aM,a4⟩:=cY.cell y c (F.sub _ _ e);exact⟨v,pf,gg _ _ aM,a4⟩
  show _=(ts++fr).length
  rw[Sx,Sx,T7];unfold iU;rw[Sv,F.len]
 have nY:∀{ak:am},(∀b∈cA,ak b=none)->∀b∈cA,gH (ek X (ts++fr) scope bM cR.heap.objs.size cR cG cA) [] ak b:=λaO b ae=>by
  obtain⟨o,ax,_⟩:=T.obj _ _ mY b ae;exact⟨aO b ae,(ok.exf b ae).1,ok.exfs b ae,.inl ae,(ok.exf b ae).2,λp ag=>absurd (show p∈([]:ZY)from ag) (by simp)⟩
 have loop:∀nZ:TD,nZ={cR with heap:=h1,toks:=cR.toks+([]:List (Str×SZ)).length}->
   codeAny (Wp X.prog X.w) X.A (.compLoop (.ListComp cI (⟨bj,dc,dr,0⟩::rest) scope pos) 0 (.ref it) (.ref D) (YZ scope bM cR.heap.objs.size X.env)) (compPost (Wp X.prog X.w) X.A X.xe use RQ (.ref D) cR.heap.objs.size) nZ:=by
  intro nZ b0;rw[<-b0]at oU;have OM:hr 0 nZ.heap:=T.keep _ _ _ mY λb _ o e=>by rw[b0];exact gg b o (gt b o e)
  refine Ft (Y:=ek X (ts++fr) scope bM cR.heap.objs.size cR cG cA) (QS:=λ_ gq=>QE (.ref D) gq) (tN _ _ _) T (λ_ _ z=>z) hc (aF _ _ _ _) (i3 _ _ _ _) (oa D _ _ _ _) oU OM (nY λb ae=>(bA b ae).1) w0 turn λiS qA gq kb q=>?_;obtain⟨m,aO,_⟩:=id kb.loc;refine lJ D cR.heap.objs.size gq iS m aO kb.free (T5 cY.lt) cY.sz (λy c e z=>?_) (λp ag z=>?_) (cY.nofs (SF _)) (λh' AC=>?_) q
  ·obtain⟨v,pf,aM,a4⟩:=cY.cell y c e;exact absurd (Heap.lt_size aM) (by rw[z];exact TU _)
  ·exact absurd (Heap.lt_size (cY.pin p ag).1) (by rw[z];exact TU _)
  refine cY.call' (s':={iS with heap:=h' }) (ch:=cA) kb.os ((show f0 (frs X.stack) cA cG gq cR.heap iS.heap from kb.base).but OH AC) (kb.hok.but kb.free AC) kb.bare (λb ae=>?_);obtain⟨_,aG,_,eY,dN,jT⟩:=bA b ae;exact⟨eY,aG,dN,jT⟩
 exact codeAny_compStart_list (loop _ rfl) (T.self _ 0 _ _ _ (T.keep _ _ _ mY λb _ o e=>gg b o (gt b o e)) (loop _ rfl))
theorem ON{cI dc bj:WP}{rest:List YI}{dr:ZW}{pos:Pos}{scope:XV}{bM:List (Str×TI)}{ts fr:ZT}{js:ZP}{et:gI}{g:fR}{tt:ee}{em:TI->jw}{i1:SZ->Tx->Sem Fin->Sem Fin}(hi:iy X bj dc et)(aF:∀C s H ex,iP (ek X (ts++fr) scope bM C s H ex) bj g)(i3:∀C s H ex,lI (ek X (ts++fr) scope bM C s H ex) dr tt)(oa:∀D C s H ex,qz (ek X (ts++fr) scope bM C s H ex) (i1 (.ref D) (YZ scope bM C X.env)) (em D))(tN:∀it acc env,YH (.ListComp cI (⟨bj,dc,dr,0⟩::rest) scope pos) 0 it acc env=pe (.ListComp cI (⟨bj,dc,dr,0⟩::rest) scope pos) 0 bj dc dr (i1 acc env) it acc env)(F:ph X scope bM fr js)(hc:X.calm=true)(av:∀v,Xr dc X.env v=pure v):bY X (.ListComp cI (⟨bj,dc,dr,0⟩::rest) scope pos) (wm et g tt em ts.length js):=by
 intro aj s σ H Q I h;rw[eval_ListComp];refine Fw hi aF i3 oa tN F hc av I h _ rfl _ λD C gq iS m aO _ _ _ _ _ _ iQ q=>⟨m,aO,λh' tO=>⟨.ref D,gq,iQ h' λb u ae e=>tO.extBut b u ae e,rfl,q⟩⟩
end
section
variable{X:aU}
theorem Fz{cI dc bj:WP}{rest:List YI}{dr:ZW}{pos:Pos}{scope:XV}{bM:List (Str×TI)}{ts fr:ZT}{js:ZP}{et:gI}{g:fR}{tt:ee}{em:TI->jw}{i1:SZ->Tx->Sem Fin->Sem Fin}{i:Nat}{y:Str}{er mm:Pos}(bF:X.N.Nodup)(qE:X.N[i]?=some y)(aP:X.env.scope.names.lookup y=some .local)(hi:iy X bj dc et)(aF:∀C s H ex,iP (ek X (ts++fr) scope bM C s H ex) bj g)(i3:∀C s H ex,lI (ek X (ts++fr) scope bM C s H ex) dr tt)(oa:∀D C s H ex,qz (ek X (ts++fr) scope bM C s H ex) (i1 (.ref D) (YZ scope bM C X.env)) (em D))(tN:∀it acc env,YH (.ListComp cI (⟨bj,dc,dr,0⟩::rest) scope pos) 0 it acc env=pe (.ListComp cI (⟨bj,dc,dr,0⟩::rest) scope pos) 0 bj dc dr (i1 acc env) it acc env)(F:ph X scope bM fr js)(hc:X.calm=true)(av:∀v,Xr dc X.env v=pure v)(iZ:XA (.ListComp cI (⟨bj,dc,dr,0⟩::rest) scope pos) (some (.Name y er)) mm.line X.env=pure true):
  jg X (.Assign [.Name y er] (.ListComp cI (⟨bj,dc,dr,0⟩::rest) scope pos) mm) (vx (wm et g tt em ts.length js) (s2 i)):=by
 intro aj s σ H D I h;rw[exec_Assign_Name_used _ _ _ _ iZ];refine SB (XX (SB ?_));show wpAny _ X.A (do let _ <-comprehension (.ListComp cI (⟨bj,dc,dr,0⟩::rest) scope pos) scope X.env _ (newList []) false (Yl dc X.env) (some (Y3 (.Name y er) X.env))) _ _ s
 refine SB (cl (Fw (RQ:=λ_ s'=>∃bm ak,Inv X aj bm ak s'/\D.nx bm ak) (QE:=λv au=>s2 i v σ au D.nx) hi aF i3 oa tN F hc av I h _ rfl _ ?_) λ_ s' q=>SL (SL q));intro L C gq iS m aO bD bI kf jS OO OP iQ q;obtain⟨o,es,a0,ax,hd,r⟩:=id aO;have kb:Inv X aj σ gq iS:=iQ iS.heap λb u _ e=>e
 have OQ:Inv X (aj++[(C,o)]) σ gq iS:=kb.pins_of λp ag=>by
  rcases SK.mp ag with z|z
  ·exact kb.pin p (S5 _ z)
  have z:p=(C,o):=by simpa using z
  subst z;exact⟨ax,bD,bI,OP,λv z=>by rw[hd]at z;cases z⟩
 show wpAny _ X.A (Y3 (.Name y er) X.env (.ref L)) _ _ _
 refine wpAny_assign_Name (rC OQ bF qE (.inl aP) (v:=.ref L) rfl (λn0 jk=>?_) (.inr aP));have nj:n0.heap.get? C=some o:=(jk.pin (C,o) (S5 _ (S5 _ (SN.mpr rfl)))).1;refine⟨m,⟨o,es,a0,nj,hd,r⟩,λh' tO=>⟨_,gq,?_,q⟩⟩;exact jk.unpinned.turned (t':=n0.toks) (λb u ae e=>tO.extBut b u ae e) bD bI (.inr kf) jS OO
end
section
variable{X:aU}
theorem OR{cI dc bj:WP}{dr:ZW}{pos:Pos}{scope:XV}{bM:List (Str×TI)}{ts fr:ZT}{js:ZP}{et:gI}{g:fR}{tt:ee}{bW:bK}(hi:iy X bj dc et)(aF:∀C s H ex,iP (ek X (ts++fr) scope bM C s H ex) bj g)(i3:∀C s H ex,lI (ek X (ts++fr) scope bM C s H ex) dr tt)(ob:∀C s H ex,bY (ek X (ts++fr) scope bM C s H ex) cI bW)(F:ph X scope bM fr js)(hc:X.calm=true)(av:∀v,Xr dc X.env v=pure v):bY X (.ListComp cI [⟨bj,dc,dr,0⟩] scope pos) (Au et g tt bW ts.length js):=
 ON (rest:=[]) (em:=wj bW) hi aF i3 (λD C s H ex=>Ay (Y:=ek X (ts++fr) scope bM C s H ex) (ob C s H ex) λ_ _ z=>z) (λ_ _ _=>rfl) F hc av
theorem OS{cI dc bj:WP}{dr:ZW}{pos:Pos}{scope:XV}{bM:List (Str×TI)}{ts fr:ZT}{js:ZP}{et:gI}{g:fR}{tt:ee}{bW:bK}{i:Nat}{y:Str}{er mm:Pos}(bF:X.N.Nodup)(qE:X.N[i]?=some y)(aP:X.env.scope.names.lookup y=some .local)(hi:iy X bj dc et)(aF:∀C s H ex,iP (ek X (ts++fr) scope bM C s H ex) bj g)(i3:∀C s H ex,lI (ek X (ts++fr) scope bM C s H ex) dr tt)(ob:∀C s H ex,bY (ek X (ts++fr) scope bM C s H ex) cI bW)(F:ph X scope bM fr js)(hc:X.calm=true)(av:∀v,Xr dc X.env v=pure v)(iZ:XA (.ListComp cI [⟨bj,dc,dr,0⟩] scope pos) (some (.Name y er)) mm.line X.env=pure true):
  jg X (.Assign [.Name y er] (.ListComp cI [⟨bj,dc,dr,0⟩] scope pos) mm) (vx (Au et g tt bW ts.length js) (s2 i)):=
 Fz (rest:=[]) (em:=wj bW) bF qE aP hi aF i3 (λD C s H ex=>Ay (Y:=ek X (ts++fr) scope bM C s H ex) (ob C s H ex) λ_ _ z=>z) (λ_ _ _=>rfl) F hc av iZ
end
end L2
namespace L3
open PySem L2
def hI(g:eZ)(dE:dO)(u:bg):ZK->ZM->(ZK->Prop)->Prop
 |[],_,k=>k []
 |d::ds,ρ,k=>g d ρ λd7=>dE d7 λb=>if b=true then u d7 λy=>hI g dE u ds d7 λys=>k (y::ys)else hI g dE u ds d7 k
def iI:dO:=λ_ k=>k true
def AD(w:df)(g:eZ)(dE:dO)(u:bg)(el:Nat)(js:ZP):df:=λρ k=>w ρ λds=>ds.length<=TT/\hI g dE u ds (SX el .no++js.map (kT ρ)) k
section
variable{K:Su}{X:aU}{e:WP}{es:ZW}{u:bg}{w:df}{pos p:Pos}
theorem AE{ρ:ZM}(j:Nat):kT ρ j=.no\/(∃d,kT ρ j=.val d/\ρ[j]?=some (.val d))\/(kT ρ j=.bag/\ρ[j]?=some .bag):=by
 unfold kT;split
 ·rename_i d bC;exact .inr (.inl ⟨d,rfl,bC⟩)
 ·rename_i bC;exact .inr (.inr ⟨rfl,bC⟩)
 exact .inl rfl
theorem aW.within{R:am}{W:TI->Prop}{B H:am}{σ:St}{ρ:ZM}(e:aW K R W B H σ ρ)(el:Nat){js:ZP}(oe:js.Nodup):
  aW K H (λa=>∃j,j∈js/\σ[j]?=some (some (.ref a))/\ρ[j]?=some .bag) B H (SX el none++iU σ js) (SX el .no++js.map (kT ρ)):=by
 have g1:∀(a:TI)(j:Nat),σ[j]?=some (some (V.ref a))->ρ[j]?=some aK.bag->B a=none/\gf H a:=λa j aG a8=>by
  obtain⟨c,c1,_,c3,c4⟩:=e.bagAt a8;rw[aG]at c1;cases c1;exact⟨c3,c4⟩
 refine⟨⟨λ_ _ z _=>z,e.bh,λa ⟨j,_,aG,a8⟩=>(g1 a j aG a8).1,λa ⟨j,_,aG,a8⟩=>(g1 a j aG a8).2,λa ⟨j,_,aG,a8⟩=>?_⟩,?_,λn aJ ah=>?_,λn m a a7 a5=>?_⟩
 ·obtain⟨x,y,q,_⟩:=(g1 a j aG a8).2;rw[q];simp
 ·unfold iU;simp
 ·by_cases de:n<el
  ·rw[TQ (by simpa using de),Uq,Tk de]at ah;cases ah;trivial
  rw[Tr (by simp;lia),T7,SW]at ah;cases kn:js[n-el]? with
  |none=>rw[kn]at ah;cases ah
  |some j=>
   rw[kn]at ah;have ah:=SO ah
   have AF:((SX el none++iU σ js)[n]?).join=(σ[j]?).join:=by
    rw[Tr (by simp;lia),T7];unfold iU;rw[SW,kn];rfl
   rw[AF,<-ah];rcases AE (ρ:=ρ) j with z|⟨hH,z,bC⟩|⟨z,bC⟩<;>rw[z]
   ·trivial
   ·obtain⟨v,eL,dB⟩:=e.ok j _ bC;exact⟨v,eL,dB⟩
   obtain⟨c,c1,_,c3,c4⟩:=e.ok j _ bC;exact⟨c,c1,.inl ⟨j,S9 kn,hC c1,bC⟩,c3,c4⟩
 have back:∀n,cF (SX el none++iU σ js) (SX el .no++js.map (kT ρ)) n a->∃j,el<=n/\js[n-el]?=some j/\cF σ ρ j a:=λn h3=>by
  rcases h3 with⟨a7,a5⟩|⟨c,a7,_⟩
  rotate_left
  ·by_cases de:n<el
   ·rw[TQ (by simpa using de),Uq,Tk de]at a7;cases a7
   rw[Tr (by simp;lia),T7,SW]at a7;cases kn:js[n-el]? with
   |none=>rw[kn]at a7;cases a7
   |some j=>
    rw[kn,UK]at a7;rcases AE (ρ:=ρ) j with z|⟨hH,z,bC⟩|⟨z,bC⟩<;>rw[z]at a7<;>cases a7
  by_cases de:n<el
  ·rw[TQ (by simpa using de),Uq,Tk de]at a7;cases a7
  rw[Tr (by simp;lia),T7]at a7;obtain⟨j,kn,OT⟩:=NS a7;rw[Tr (by simp;lia),T7,SW,kn]at a5;refine⟨j,by lia,kn,.inl ⟨hC OT.symm,.inl ?_⟩⟩;rcases AE (ρ:=ρ) j with z|⟨hH,z,bC⟩|⟨z,bC⟩
  ·rw[UK,z]at a5;rcases a5 with q|⟨_,q⟩<;>cases q
  ·rw[UK,z]at a5;rcases a5 with q|⟨_,q⟩<;>cases q
  exact bC
 obtain⟨j,bQ,kn,OU⟩:=back n a7;obtain⟨r4,bS,OV,OW⟩:=back m a5;have:=e.sep j r4 a OU OW;subst this
 have e2:n-el<js.length:=by
  by_cases z:n-el<js.length
  ·exact z
  rw[S' (by lia)]at kn;cases kn
 have:=(WH e2 oe).mp (kn.trans OV.symm);lia
theorem FA{R:am}{W:TI->Prop}{B:am}{a:TI}{vs:ZL}(h:R a=some (.lst vs))(nw:¬W a):kj R W B a=some (.lst vs):=by
 unfold kj;rw[h];dsimp only;rw[Tl nw]
theorem OX{R:am}{W:TI->Prop}{B:am}{a:TI}(h:∀vs,R a≠some (.lst vs)):kj R W B a=B a:=by
 unfold kj;split
 ·rename_i vs e;exact absurd e (h vs)
 rfl
theorem FB{R:am}{W:TI->Prop}{B:am}{a:TI}{o:eg}(h:kj R W B a=some o):B a=some o\/(¬W a/\R a=some o/\∃vs,o=.lst vs):=by
 unfold kj at h;split at h
 ·rename_i vs e
  split at h
  ·exact .inl h
  rename_i z;cases h;exact .inr ⟨z,e,vs,rfl⟩
 exact .inl h
theorem OY{R:am}{W:TI->Prop}{B H:am}(w:Wd R W B H):cw (kj R W B) H:=λa o h=>by
 rcases FB h with h|⟨h1,aa,_⟩
 ·exact w.bh a o h
 exact w.fr a o aa h1
theorem FC{R:am}{W jN:TI->Prop}{B az H:am}(w:Wd R W B H)(s:cw B az)(dP:cw az H)(hw:∀a,jN a->R a≠none->W a)(ae:∀a,jN a->az a=none):cw (kj R W B) (kj H jN az):=λa o h=>by
 have fK:=OY w a o h;rcases FB h with h|⟨h1,aa,vs,rfl⟩
 ·have h':=s a o h;by_cases z:jN a
  ·rw[ae a z]at h';cases h'
  by_cases q:∃vs,H a=some (.lst vs)
  ·obtain⟨vs,q⟩:=q;rw[fK]at q;cases q;exact FA fK z
  rw[OX λvs e=>q ⟨vs,e⟩];exact h'
 exact FA fK λz=>h1 (hw a z (by rw[aa];simp))
theorem aW.rebase{R:am}{W:TI->Prop}{B H:am}{σ:St}{ρ:ZM}(e:aW K R W B H σ ρ)(aA:∀j a,cF σ ρ j a->W a):aW K H W B H σ ρ:=by
 refine⟨⟨λ_ _ z _=>z,e.bh,e.wb,e.wh,λa z=>by obtain⟨hA,fL,ho,_⟩:=e.wh a z;rw[ho];simp⟩,e.len,λj aJ bC=>?_,e.sep⟩;have:=e.ok j aJ bC;cases aJ with
 |no=>trivial
 |new d=>
  obtain⟨v,h1,aa⟩:=this;exact⟨v,h1,aa.mono (FC e.toWd (cw.refl _) e.bh (λ_ z _=>z) e.wb)⟩
 |pin v d=>exact⟨this.1,this.2.mono (FC e.toWd (cw.refl _) e.bh (λ_ z _=>z) e.wb)⟩
 |val d=>exact this
 |own ds=>
  obtain⟨a,aM,a4,_⟩:=this;exact absurd a4 (e.wr a (aA j a (.inl ⟨hC aM,.inr ⟨ds,bC⟩⟩)))
 |deep c=>exact absurd (this.2.fr _ Sw).1 (e.wr _ (aA j _ (.inr ⟨c,bC,Sw⟩)))
 |bag=>
  obtain⟨c,c1,c2,c3,c4⟩:=this;exact⟨c,c1,.inl (aA j c (.inl ⟨hC c1,.inl bC⟩)),c3,c4⟩
theorem aW.unbase{R:am}{W:TI->Prop}{B H az ak:am}{σ:St}{ρ:ZM}(e:aW K R W B H σ ρ)(aA:∀j a,cF σ ρ j a->W a)(bv:aW K H W az ak σ ρ)(g:bJ H B az):aW K R W az ak σ ρ/\bJ R B az:=by
 refine⟨⟨⟨λa o z nw=>bv.fr a o (e.fr a o z nw) nw,bv.bh,bv.wb,bv.wh,e.wr⟩,bv.len,λj aJ bC=>?_,bv.sep⟩,⟨g.s,λa o z=>?_⟩⟩
 ·have:=bv.ok j aJ bC;cases aJ with
  |no=>trivial
  |new d=>
   obtain⟨v,h1,aa⟩:=e.ok j _ bC;exact⟨v,h1,aa.mono (vW g.s)⟩
  |pin v d=>
   obtain⟨h1,aa⟩:=e.ok j _ bC;exact⟨h1,aa.mono (vW g.s)⟩
  |val d=>exact this
  |own ds=>
   obtain⟨a,aM,a4,_⟩:=e.ok j _ bC;exact absurd a4 (e.wr a (aA j a (.inl ⟨hC aM,.inr ⟨ds,bC⟩⟩)))
  |deep c=>exact absurd ((e.deepAt bC).2.fr _ Sw).1 (e.wr _ (aA j _ (.inr ⟨c,bC,Sw⟩)))
  |bag=>
   obtain⟨c,c1,c2,c3,c4⟩:=this;exact⟨c,c1,.inl (aA j c (.inl ⟨hC c1,.inl bC⟩)),c3,c4⟩
 rcases g.n a o z with q|q
 ·exact .inl q
 exact .inr (e.toWd.fresh q).1
theorem FD{et:gI}{g:fR}{tt:ee}{bW:bK}{f6:eZ}{dE:dO}{el:Nat}{js:ZP}(h0:tr K et w)(aF:o7 K g f6)(aR:h4 K tt dE)(h1:e' K bW u)(oe:js.Nodup):vX K (Au et g tt bW el js) (AD w f6 dE u el js):=by
 intro ρ k h R W B H σ Q e q;refine h0 ρ _ h R W B H σ _ e λds J aY au aG ai aE it=>?_;obtain⟨ap,aG⟩:=aG;intro D jJ;obtain⟨aT,bd,bA⟩:=ai.toWd.fresh jJ;have tP:∀i,¬cF σ ρ i D:=λi m=>ai.notNew jJ m rfl;have ei:=ai.within el oe
 have qF:∀j a,cF (SX el none++iU σ js) (SX el .no++js.map (kT ρ)) j a->∃j,j∈js/\σ[j]?=some (some (V.ref a))/\ρ[j]?=some aK.bag:=λj a m=>by
  have a4:=(ei.mutOk m).2;rcases m with⟨a7,z|⟨es,z⟩⟩|⟨c,z,th⟩
  ·obtain⟨c,c1,c2,_⟩:=ei.bagAt z;rw[a7]at c1;cases c1;rcases c2 with c2|c2
   ·exact c2
   exact absurd c2 a4
  ·obtain⟨c,c1,c2,_⟩:=ei.ownC z;rw[a7]at c1;cases c1;exact absurd c2 a4
  exact absurd ((ei.deepAt z).2.fr a th).1 a4
 generalize tQ:(λa=>∃j,j∈js/\σ[j]?=some (some (V.ref a))/\ρ[j]?=some aK.bag)=ko at ei;have qF:∀j a,cF (SX el none++iU σ js) (SX el .no++js.map (kT ρ)) j a->ko a:=λj a m=>by rw[<-tQ];exact qF j a m
 have hU:∀a,ko a->∃i:Nat,σ[i]?=some (some (.ref a))/\ρ[i]?=some .bag:=λa z=>by
  rw[<-tQ]at z;obtain⟨j,_,z⟩:=z;exact⟨j,z⟩
 have tR:¬ko D:=λz=>by
  obtain⟨og,dy,fa⟩:=hU D z;exact tP og (.inl ⟨dy,.inl fa⟩)
 refine⟨λi m kq ak=>∃az ys es i4,m=ds.length-i/\i<=ds.length/\aW K au ko az ak kq i4/\bJ au aY az/\ak D=some (.lst ys)/\az D=none/\(∀j a,cF kq i4 j a->ko a)/\ys.length<=i/\Reps K az ys es/\hI f6 dE u (ds.drop i) i4 λr=>k (es++r),
  ⟨ds.length,aY,[],[],_,by simp,Ti _,ei.allocH jJ _,bJ.refl _ _,d9,bA,qF,SF _,.nil,by simpa using aG⟩,?_⟩
 rintro i m kq aS ⟨bG,ys,es,i4,rfl,hi,ar,aI,aP,ae,OZ,agA,cg,a8⟩;obtain⟨dg,cU,jp⟩:=it aS (aI.s.trans ar.bh) i;by_cases de:i<ds.length
 ·refine .inr ⟨dg de,λx ak y=>?_⟩;obtain⟨rfl,d,hd,bn⟩:=jp x ak de y
  have gO:ds.drop i=d::ds.drop (i+1):=by
   rw[Uu de];rw[SU de]at hd;rw[SO hd]
  rw[gO]at a8;refine aF d i4 _ a8 au ko bG ak kq x _ ar (bn.mono aI.s) λic gZ eY bb h3=>?_;have r5:∀j a,cF gZ ic j a->ko a:=λj a m=>OZ j a (h3 j a m)
  have AG:∀{kU:am},bJ ak bG kU->kU D=none:=λ{kU} fE=>by
   cases AH:kU D with
   |none=>rfl
   |some o=>
    rcases fE.n D o AH with z|z
    ·rw[ae]at z;cases z
    rw[aP]at z;cases z
  refine aR ic _ eY ak ko bG ak gZ _ (bb.rebase r5) λb kU jv dN b0 fE=>?_;have O0:jv D=some (.lst ys):=b0.fr D _ aP tR;cases b with
  |false=>
   rw[Tl SP]at dN⊢;obtain⟨d6,lK⟩:=bb.unbase r5 b0 fE;exact⟨ds.length-(i+1),by lia,kU,ys,es,ic,rfl,de,d6,aI.trans lK,O0,AG fE,r5,by lia,cg.mono fE.s,dN⟩
  |true=>
   rw[Tk rfl]at dN⊢;refine h1 ic _ dN ak ko kU jv gZ _ b0 λfL v qG gq jT d6 lK mZ=>?_;have wo:=fE.trans lK;have O1:gq D=some (.lst ys):=d6.fr D _ aP tR;obtain⟨hD,AI⟩:=bb.unbase r5 d6 wo;refine⟨ys,O1,by lia,ds.length-(i+1),by lia,qG,ys++[v],es++[fL],ic,rfl,de,hD.scribble jJ (AG wo) (λj m=>tR (r5 j D m)) _,aI.trans AI,d9,AG wo,r5,by rw[Sx,Tn];lia,(cg.mono wo.s).append (.cons mZ .nil),?_⟩;simpa[SV]using jT
 have eq:i=ds.length:=by lia
 subst eq;rw[UJ]at a8;obtain⟨b0,fE⟩:=ai.after hU ar.toWd aI;refine .inl ⟨cU (SF _),q _ D ys bG aS (by simpa[hI]using a8) b0 (aE.trans fE) aT ae aP cg tP⟩
def qH(X:aU)(dr:ZW)(dE:dO):Prop:=∃t,lI X dr t/\h4 X.K t dE
theorem iJ:qH X [] iI:=⟨_,Od,λρ k h R W B H σ Q e q=>q true B H h e (bJ.refl _ _)⟩
theorem FE{c:WP}{dE:dO}(h:h5 X c dE):qH X [c] dE:=by
 obtain⟨_,h1,aq⟩:=h;exact⟨_,Oe h1,aq⟩
theorem AJ{cI:WP}{α:Type}{Xs:α->aU}(dJ:∀a,(Xs a).K=K)(h:∀a,br (Xs a) cI u):∃t,(∀a,bY (Xs a) cI t)/\e' K t u:=by
 refine⟨λσ H Q=>∀a,∃t,bY (Xs a) cI t/\e' K t u/\t σ H Q,λa aj s σ H Q I q=>?_,λρ k q R W B H σ Q e z a=>?_⟩
 ·obtain⟨t,aR,_,ay⟩:=q a;exact aR aj s σ H Q I ay
 obtain⟨t,aR,ao⟩:=h a;rw[dJ a]at ao;exact⟨t,aR,ao,ao ρ k q R W B H σ Q e z⟩
theorem wq{dr:ZW}{dE:dO}{α:Type}{Xs:α->aU}(dJ:∀a,(Xs a).K=K)(h:∀a,qH (Xs a) dr dE):∃t,(∀a,lI (Xs a) dr t)/\h4 K t dE:=by
 refine⟨λσ H Q=>∀a,∃t,lI (Xs a) dr t/\h4 K t dE/\t σ H Q,λa aj s σ H Q I q=>?_,λρ k q R W B H σ Q e z a=>?_⟩
 ·obtain⟨t,aR,_,ay⟩:=q a;exact aR aj s σ H Q I ay
 obtain⟨t,aR,ao⟩:=h a;rw[dJ a]at ao;exact⟨t,aR,ao,ao ρ k q R W B H σ Q e z⟩
theorem ws{bj:WP}{f6:eZ}{α:Type}{Xs:α->aU}(dJ:∀a,(Xs a).K=K)(h:∀a,km (Xs a) bj f6):∃t,(∀a,iP (Xs a) bj t)/\o7 K t f6:=by
 refine⟨λv σ H Q=>∀a,∃t,iP (Xs a) bj t/\o7 K t f6/\t v σ H Q,λa aj s σ H v x Q I r q=>?_,λd ρ k q R W B H σ v Q e r z a=>?_⟩
 ·obtain⟨t,aR,_,ay⟩:=q a;exact aR aj s σ H v x Q I r ay
 obtain⟨t,aR,ao⟩:=h a;rw[dJ a]at ao;exact⟨t,aR,ao,ao d ρ k q R W B H σ v Q e r z⟩
variable{cI dc bj:WP}{dr:ZW}{scope:XV}{bM:List (Str×TI)}{ts fr:ZT}{js:ZP}{f6:eZ}{dE:dO}
theorem kW(hi:na X bj dc w)(aF:∀C s H ex,km (ek X (ts++fr) scope bM C s H ex) bj f6)(i3:∀C s H ex,qH (ek X (ts++fr) scope bM C s H ex) dr dE)(ob:∀C s H ex,br (ek X (ts++fr) scope bM C s H ex) cI u)(F:ph X scope bM fr js)(tS:js.Nodup:=by decide)(hc:X.calm=true:=by rfl)(av:∀v,Xr dc X.env v=pure v:=by intro _;rfl):kM X (.ListComp cI [⟨bj,dc,dr,0⟩] scope pos) (AD w f6 dE u ts.length js):=by
 obtain⟨_,h0,hF⟩:=hi;obtain⟨O2,AK,rg⟩:=ws (K:=X.K) (Xs:=λa:TI×TD×am×ZV=>ek X (ts++fr) scope bM a.1 a.2.1 a.2.2.1 a.2.2.2) (λ_=>rfl) λa=>aF a.1 a.2.1 a.2.2.1 a.2.2.2;obtain⟨tt,AL,rt⟩:=wq (K:=X.K) (Xs:=λa:TI×TD×am×ZV=>ek X (ts++fr) scope bM a.1 a.2.1 a.2.2.1 a.2.2.2) (λ_=>rfl) λa=>i3 a.1 a.2.1 a.2.2.1 a.2.2.2;obtain⟨bW,AM,mj⟩:=AJ (K:=X.K) (Xs:=λa:TI×TD×am×ZV=>ek X (ts++fr) scope bM a.1 a.2.1 a.2.2.1 a.2.2.2) (λ_=>rfl) λa=>ob a.1 a.2.1 a.2.2.1 a.2.2.2;exact⟨_,OR h0 (λC s H ex=>AK (C,s,H,ex)) (λC s H ex=>AL (C,s,H,ex)) (λC s H ex=>AM (C,s,H,ex)) F hc av,FD hF rg rt mj tS⟩
theorem tT{i:Nat}{y:Str}{er mm:Pos}(bF:X.N.Nodup)(qE:X.N[i]?=some y)(aP:X.env.scope.names.lookup y=some .local)(hi:na X bj dc w)(aF:∀C s H ex,km (ek X (ts++fr) scope bM C s H ex) bj f6)(i3:∀C s H ex,qH (ek X (ts++fr) scope bM C s H ex) dr dE)(ob:∀C s H ex,br (ek X (ts++fr) scope bM C s H ex) cI u)(F:ph X scope bM fr js)(tS:js.Nodup:=by decide)(hc:X.calm=true:=by rfl)(av:∀v,Xr dc X.env v=pure v:=by intro _;rfl)(iZ:XA (.ListComp cI [⟨bj,dc,dr,0⟩] scope pos) (some (.Name y er)) mm.line X.env=pure true:=by rfl):
  fk X (.Assign [.Name y er] (.ListComp cI [⟨bj,dc,dr,0⟩] scope pos) mm) (Aa i (AD w f6 dE u ts.length js)):=by
 obtain⟨_,h0,hF⟩:=hi;obtain⟨O2,AK,rg⟩:=ws (K:=X.K) (Xs:=λa:TI×TD×am×ZV=>ek X (ts++fr) scope bM a.1 a.2.1 a.2.2.1 a.2.2.2) (λ_=>rfl) λa=>aF a.1 a.2.1 a.2.2.1 a.2.2.2;obtain⟨tt,AL,rt⟩:=wq (K:=X.K) (Xs:=λa:TI×TD×am×ZV=>ek X (ts++fr) scope bM a.1 a.2.1 a.2.2.1 a.2.2.2) (λ_=>rfl) λa=>i3 a.1 a.2.1 a.2.2.1 a.2.2.2;obtain⟨bW,AM,mj⟩:=AJ (K:=X.K) (Xs:=λa:TI×TD×am×ZV=>ek X (ts++fr) scope bM a.1 a.2.1 a.2.2.1 a.2.2.2) (λ_=>rfl) λa=>ob a.1 a.2.1 a.2.2.1 a.2.2.2;refine⟨_,OS bF qE aP h0 (λC s H ex=>AK (C,s,H,ex)) (λC s H ex=>AL (C,s,H,ex)) (λC s H ex=>AM (C,s,H,ex)) F hc av iZ,λU ρ h R W B H σ D e s=>?_⟩;exact FD hF rg rt mj tS ρ _ h R W B H σ _ e λds a vs aY au aG ai aE aT bd bA c7 d1=>s.nx _ _ aY au aG (ai.setO i aT bd bA c7 λj _=>d1 j) aE
theorem tU{st:XE}{s:cQ}(i:Nat)(h:fk X st s):fk X st (λU ρ=>s {U with nx:=λbi=>∃ds:ZK,bi[i]?=some (.own ds)/\U.nx (bi.set i (.val (.lst ds)))} ρ):=by
 obtain⟨_,h1,aq⟩:=h;refine⟨_,h1,λU ρ h R W B H σ D e ew=>?_⟩;refine aq _ ρ h R W B H σ D e ⟨λbi bm az ak z bv g=>?_,ew.bk,ew.ct,ew.rt⟩;obtain⟨ds,ax,z⟩:=z;obtain⟨bG,ar,aI⟩:=bv.fz ax;exact ew.nx _ bm bG ak z ar (g.trans aI)
end
theorem qI{α:Type}{f:α->D}{s:cQ}{U:iE}{m:Nat}(I:List α->ZM->Prop):∀{rs done:List α}{ρ:ZM},I done ρ->
  (∀(pre:List α)(r:α)(rest:List α) ρ,done++rs=pre++r::rest->I pre ρ->∀N:ZM->Prop,(∀dn,I (pre++[r]) dn->N dn)->s {U with nx:=N,ct:=N,bk:=U.nx} (ρ.set m (.val (f r))))->(∀ρ,I (done++rs) ρ->U.nx ρ)->jP (fb m) s U (rs.map f) ρ
 |[],done,ρ,h0,_,aa=>aa ρ (by rw[SQ];exact h0)
 |r::rs,done,ρ,h0,h1,aa=>by
  refine h1 done r rs ρ rfl h0 _ λdn ao=>?_;have e:done++r::rs=(done++[r])++rs:=by simp
  rw[e]at h1 aa;exact qI I ao h1 aa
theorem FF{s:cQ}{U:iE}{m:Nat}(I:Nat->ZM->Prop):∀{n i:Nat}{ρ:ZM},I i ρ->(∀(j:Nat) ρ,i<=j->j<i+n->I j ρ->∀N:ZM->Prop,(∀r,I (j+1) r->N r)->s {U with nx:=N,ct:=N,bk:=U.nx} (ρ.set m (.val (.int j))))->
  (∀ρ,I (i+n) ρ->U.nx ρ)->jP (fb m) s U ((VY i n).map λj:Nat=>D.int j) ρ
 |0,i,ρ,h0,_,aa=>aa ρ h0
 |n+1,i,ρ,h0,h1,aa=>by
  show jP (fb m) s U (D.int i::(VY (i+1) n).map λj:Nat=>D.int j) ρ
  refine h1 i ρ (SF _) (by lia) h0 _ λr ao=>?_;exact FF I ao (λj ρ bC agB=>h1 j ρ (by lia) (by lia)) λρ h=>aa ρ (by rw[show i+(n+1)=i+1+n by lia];exact h)
theorem AN{s:cQ}{U:iE}{m n:Nat}{ρ:ZM}(I:Nat->ZM->Prop)(h0:I 0 ρ)(h1:∀(j:Nat) ρ,j<n->I j ρ->∀N:ZM->Prop,(∀r,I (j+1) r->N r)->s {U with nx:=N,ct:=N,bk:=U.nx} (ρ.set m (.val (.int j))))(aa:∀ρ,I n ρ->U.nx ρ):jP (fb m) s U ((S4 n).map λj:Nat=>D.int j) ρ:=by
 rw[WI];exact FF I h0 (λj ρ _ bC=>h1 j ρ (by lia)) λρ h=>aa ρ (by rwa[U2]at h)
theorem mn{α:Type}{f h:α->D}{u:bg}{fs:ZM}:∀{rs:List α}{eM:aK}{k:ZK->Prop},(∀r∈rs,∀k:D->Prop,k (h r)->u (.val (f r)::fs) k)->k (rs.map h)->hI (fb 0) iI u (rs.map f) (eM::fs) k
 |[],eM,k,_,ah=>ah
 |r::rs,eM,k,a2,ah=>by
  show(if true=true then u (.val (f r)::fs) λy=>hI (fb 0) iI u (rs.map f) (.val (f r)::fs) λys=>k (y::ys)else hI (fb 0) iI u (rs.map f) (.val (f r)::fs) k)
  rw[Tk rfl];exact a2 r Sw _ (mn (λq ay=>a2 q (Sy _ ay)) ah)
theorem qJ{α β:Type}{f:α->β}{rs:List α}{i:Int}{r:α}(h:eu rs i=some r):eu (rs.map f) i=some (f r):=by
 unfold eu at h⊢;rw[Sv];cases q:ixN rs.length i with
 |none=>rw[q]at h;cases h
 |some j=>
  rw[q]at h;show(rs.map f)[j]?=_
  rw[SW,show rs[j]?=some r from h];rfl
theorem AO{α:Type}{rs:List α}{i:Nat}(h:i<rs.length):eu rs (i:Int)=some rs[i]:=by
 unfold eu ixN;rw[Tk (by lia),Tk (by lia)];show rs[((i:Int)).toNat]?=_
 rw[show((i:Int)).toNat=i by lia,SU h]
theorem O3{α:Type}{rs:List α}{i:Nat}(h:i<rs.length):eu rs (-1-(i:Int))=some (rs[rs.length-1-i]'(by lia)):=by
 unfold eu ixN;rw[Tl (by lia),Tk (by lia)];show rs[(-1-(i:Int)+(rs.length:Nat)).toNat]?=_
 rw[show(-1-(i:Int)+(rs.length:Nat)).toNat=rs.length-1-i by lia,SU (by lia)]
theorem FG{α:Type}{xs:List α}{i:Int}(h0:0<=i)(h1:i<=xs.length):gE xs (some i) none=xs.drop i.toNat:=by
 unfold gE
 have ai:HT.sIx xs.length 0 (some i)=i.toNat:=by
  unfold HT.sIx
  first|lia|(simp only[];split<;>lia)|(split<;>lia)|(dsimp only;split<;>(try split)<;>lia)
 have ar:HT.sIx xs.length xs.length none=xs.length:=rfl;rw[ai,ar];exact Vi (by rw[Ur];lia)
theorem FH{α:Type}{xs:List α}{i:Int}(h0:0<=i)(h1:i<=xs.length):gE xs none (some i)=xs.take i.toNat:=by
 unfold gE
 have ai:HT.sIx xs.length xs.length (some i)=i.toNat:=by
  unfold HT.sIx
  first|lia|(simp only[];split<;>lia)|(split<;>lia)|(dsimp only;split<;>(try split)<;>lia)
 have ar:HT.sIx xs.length 0 none=0:=rfl;rw[ai,ar];rfl
section
variable{K:Su}{R:am}{W:TI->Prop}{B az H ak:am}{σ:St}{ρ:ZM}
theorem aW.after2{jN:TI->Prop}(e:aW K R W B H σ ρ)(hU:∀a,jN a->R a=none/\∀i,¬cF σ ρ i a)(wd:Wd H jN az ak)(g:bJ H B az):aW K R W az ak σ ρ/\bJ R B az:=by
 have nb:∀a,B a=none->H a≠none->az a=none:=λa h1 aa=>by
  cases q:az a with
  |none=>rfl
  |some o=>
   rcases g.n a o q with z|z
   ·rw[h1]at z;cases z
   exact absurd z aa
 have st:∀a,¬jN a->H a≠none->ak a=H a:=λa h1 aa=>by
  cases q:H a with
  |none=>exact absurd q aa
  |some o=>exact wd.fr a o q h1
 have tB:∀a,¬jN a->gf H a->gf ak a:=λa h1 ⟨x,y,ai,q⟩=>⟨x,y,by rw[st a h1 (by rw[ai];simp)];exact ai,q⟩;have z7:∀a,gf H a->H a≠none:=λa ⟨x,y,ai,_⟩=>by rw[ai];simp
 have AP:∀a,W a->¬jN a:=λa h z=>e.wr a h (hU a z).1;refine⟨e.move ⟨λa o h nw=>?_,wd.bh,λa h=>nb a (e.wb a h) (z7 a (e.wh a h)),λa h=>tB a (AP a h) (e.wh a h),e.wr⟩ g.s (λi a m=>⟨nb a (e.mutOk m).1 (e.mutOk m).2,λz=>?_,λz=>?_⟩),⟨g.s,λa o h=>?_⟩⟩
 ·refine wd.fr a o (e.fr a o h nw) λz=>?_;rw[(hU a z).1]at h;cases h
 ·obtain⟨b,dy,_,_,mc⟩:=e.bagAt z;rw[o6 m z]at dy;cases dy;exact tB _ (λq=>(hU _ q).2 i m) mc
 ·exact st a (λq=>(hU a q).2 i m) (e.mutOk m).2
 rcases g.n a o h with z|z
 ·exact .inl z
 exact .inr (e.toWd.fresh z).1
end
section
variable{X:aU}{e:WP}{u:bg}{pos p:Pos}
def O4(u:bg):bg:=λρ k=>u ρ λx=>∃ds,x=.lst ds/\(∀d∈ds,d=.bl true)/\k (.bl true)
theorem wt(aw:br X e u)(hc:X.calm=true)(aF:eD X "all")(aA:X.mg "all"=none)(av:eQ X e []:=by rfl):br X (.Call (.Name "all" p) [e] [] pos) (O4 u):=by
 obtain⟨_,h1,aq⟩:=aw;refine⟨_,qg (M0 hc) aF aA (by decide +kernel) (d5 h1 fj av) (by decide) (by decide) av,v4 (f:=λx k=>∃ds,x=.lst ds/\(∀d∈ds,d=.bl true)/\k (.bl true)) aq λx k h R W B H σ ρ v Q e bn q=>?_⟩;obtain⟨ds,rfl,hd,ah⟩:=h;obtain⟨a,vs,rfl,aw,rs⟩:=bn.lstV;refine⟨a,vs,rfl,e.bh _ _ aw,λy aP=>?_,q _ _ B H ah e (bJ.refl _ _) (.bl _)⟩;obtain⟨j,bC⟩:=U0 aP;obtain⟨d,gO,gu⟩:=rs.getV bC;have:=hd d (S9 gO);subst this;exact gu.blV
end
section
variable{X:aU}{e:WP}{u:bg}{pos p:Pos}
def O5(u:bg)(l h:pc):bg:=λρ k=>u ρ λx=>l ρ λlo=>h ρ λhi=>∃ds,x=.tup ds/\¬(HT.sIx ds.length 0 lo=0/\HT.sIx ds.length ds.length hi=ds.length)/\k (.tup (gE ds lo hi))
theorem O6{lo hi:Option WP}{tE tF:pc}{p2:Pos}(aD:br X e u)(ap:rZ X lo tE)(dY:rZ X hi tF):br X (.Subscript e (.Slice lo hi none p2) pos) (O5 u tE tF):=by
 obtain⟨_,h1,aq⟩:=aD;obtain⟨_,aa,aN⟩:=ap;obtain⟨_,aH,d2⟩:=dY;refine⟨_,Et Mq h1 aa aH,λρ k h R W B H σ Q e q=>?_⟩;refine aq ρ _ h R W B H σ _ e λd v aY au aG ai aE aC=>?_;refine aN ρ _ aG R W aY au σ _ ai λlo bG aS a8 ar aI=>?_;refine d2 ρ _ a8 R W bG aS σ _ ar λhi lB cG eY bb g3=>?_;obtain⟨ds,rfl,aO,z⟩:=eY;obtain⟨a,vs,rfl,aw,rs⟩:=(aC.mono (aI.trans g3).s).tupV;refine⟨a,vs,rfl,eX.of (bb.bh _ _ aw),by rw[rs.length];exact aO,λp ag=>?_⟩;have fE:=bb.grow ag (.tup (qi vs lo hi));exact q _ _ _ _ z (bb.alloc ag _) (((aE.trans aI).trans g3).trans fE) (.tup d9 ((rs.cut lo hi).mono fE.s))
def O7(i:Nat)(u:bg):cQ:=λU ρ=>∃ds:ZK,ρ[i]?=some (.own ds)/\u ρ λd=>∃es,d=.lst es/\ds.length+es.length<=TT/\U.nx (ρ.set i (.own (ds++es)))
theorem O8(i:Nat){x:Str}{px dd cb:Pos}(aD:br X e u)(bF:gG X i x:=by rfl)(aL:gy X.env.scope x:=by walk_at"v")(hd:ed x:=by decide)(dI:gV x:=by decide)(fy:iv X (.Name x px) "extend":=by rfl)(hv:kI X cb [e]:=by rfl)(fA:iw dd cb:=by rfl)(av:eQ X e []:=by rfl)(kJ:g8 X cb []:=by rfl)(iZ:XA (.Call (.Attribute (.Name x px) "extend" dd) [e] [] cb) none pos.line X.env=pure false:=by rfl):fk X (.Expr (.Call (.Attribute (.Name x px) "extend" dd) [e] [] cb) pos) (O7 i u):=by
 obtain⟨_,h1,aq⟩:=aD;refine⟨_,rE (qj T9 WJ WK MG (g9 bF aL hd dI) (d5 h1 fj av) fy hv fA av kJ) iZ,λU ρ h R W B H σ D e s=>?_⟩;obtain⟨ds,ax,h⟩:=h;obtain⟨a,vs,ai,ar,bb,b0,d6⟩:=e.ownAt ax;refine⟨_,ai,.inl ⟨rfl,vs,cN.of b0⟩,?_⟩;refine aq ρ _ h R W B H σ _ e λd v aY au aG aT aE aC=>?_;obtain⟨gK,hg,ci,cu,gt,gg,jr⟩:=aT.ownAt ax;rw[ai]at ci;cases ci;obtain⟨es,rfl,ap,z⟩:=aG;obtain⟨b,fZ,rfl,ae,rt⟩:=aC.lstV;exact⟨a,b,hg,fZ,rfl,rfl,gg,aT.bh _ _ ae,by rw[jr.length,rt.length];exact ap,s.nx _ _ aY _ z (aT.write ai ax (jr.append rt)) aE⟩
end
end L3
namespace Cut
open PySem L2 L3
open PySem.Builtin.Int (intBits)
def dR(r:Int×Int):D:=.tup [.int r.1,.int r.2]
def aQ(p:Int×Int×Int):D:=.tup [.int p.1,.int p.2.1,.int p.2.2]
def tV(t b:Int):Int:=if b<0 then -((Ss t b:Nat):Int)else((Ss t b:Nat):Int)
def dF(t b:Int):Int×Int:=(t.fdiv (tV t b),b.fdiv (tV t b))
theorem jx{t b:Int}(ae:b≠0):a3 (dF t b).1 (dF t b).2/\(dF t b).1*b=t*(dF t b).2/\(dF t b).1.natAbs<=t.natAbs/\(dF t b).2.natAbs<=b.natAbs:=by
 unfold dF tV;split
 ·exact EP ae rfl (.inr ⟨rfl,by assumption⟩)
 exact EP ae rfl (.inl ⟨rfl,by lia⟩)
def g3(a b n:Int):Int:=((Ss (Ss a n:Nat) b:Nat):Int)
def kX(a b n:Int):Int:=if n<0 then -g3 a b n else g3 a b n
def cy(a b n:Int):Int×Int×Int:=(a.fdiv (kX a b n),b.fdiv (kX a b n),n.fdiv (kX a b n))
theorem lL{a b n:Int}(aO:n≠0):m7 (cy a b n).1 (cy a b n).2.1 (cy a b n).2.2/\(cy a b n).1*n=a*(cy a b n).2.2/\(cy a b n).2.1*n=b*(cy a b n).2.2/\(cy a b n).1.natAbs<=a.natAbs/\(cy a b n).2.1.natAbs<=b.natAbs/\(cy a b n).2.2.natAbs<=n.natAbs:=by
 unfold cy kX;split
 ·exact ET aO rfl (.inr ⟨rfl,by assumption⟩)
 exact ET aO rfl (.inl ⟨rfl,by lia⟩)
theorem O9(a b n:Int):((Ss (Ss a b:Nat) n:Nat):Int)=g3 a b n:=by
 unfold g3;rw[vU];rfl
theorem O'(a b n:Int):((Ss (Ss n a:Nat) b:Nat):Int)=g3 a b n:=by
 unfold g3;rw[M1]
theorem FI{a b n:Int}(aO:n≠0):0<g3 a b n:=ER aO
theorem FJ{a b n:Int}{k:Nat}(aO:n≠0)(h:SC n<=k):SC (g3 a b n)<=k:=M2 aO h
theorem oh{a b:Int}{k:Nat}(ae:b≠0)(h:SC b<=k):SC ((Ss a b:Nat):Int)<=k:=by
 refine Y1 ?_ h;exact VT (by lia) (by simpa using Ut.mpr (UY a b))
theorem Pa{x:Int}(h0 : -(10^30)<x)(h1:x<10^30):SC x<=100:=by
 refine intBits_le_iff.mpr ?_;have Pb:(10:Int)^30=1000000000000000000000000000000:=rfl;have Pc:(2:Nat)^100=1267650600228229401496703205376:=rfl;rw[Pb]at h0 h1;rw[Pc];lia
theorem i5{a s x:Int}(h:a=s*x)(s0:s≠0):a.fdiv s=x:=by rw[h];exact UH x s0
theorem Pd{a b s x y:Int}(h1:a=s*x)(aa:b=s*y):Ss a b=s.natAbs*Ss x y:=by rw[h1,aa,VO]
theorem wu{p q:Int×Int×Int}(h:aQ p=aQ q):p=q:=by
 obtain⟨a,b,c⟩:=p;obtain⟨d,e,f⟩:=q;unfold aQ at h;cases h;rfl
theorem Pe{a b c d:Int}(ae:b≠0)(hd:d≠0)(h:a*d=c*b):dF a b=dF c d:=by
 obtain⟨bQ,ai,_⟩:=jx (t:=a) ae;obtain⟨bS,ar,_⟩:=jx (t:=c) hd
 have e:(dF a b).1*(dF c d).2=(dF c d).1*(dF a b).2:=by
  refine TG (S0 ae hd) ?_;grind
 obtain⟨x,y⟩:=zZ bQ bS e;exact TA x y
theorem Pf{x y:Int}(h:a3 x y):dF x y=(x,y):=by
 obtain⟨l,e,_⟩:=jx (t:=x) (SA h.1);obtain⟨a,b⟩:=zZ l h e;exact TA a b
abbrev ab:=Int×Int×Int
abbrev ZJ:=List ab
abbrev Z1:=List ZJ
def crs(p q:ab):ab:=(p.2.1*q.2.2-p.2.2*q.2.1,p.2.2*q.1-p.1*q.2.2,p.1*q.2.1-p.2.1*q.1)
def sc(c:Int)(p:ab):ab:=(c*p.1,c*p.2.1,c*p.2.2)
def hh(a:Int)(p:ab)(b:Int)(q:ab):ab:=(a*p.1+b*q.1,a*p.2.1+b*q.2.1,a*p.2.2+b*q.2.2)
def nP(p:ab):ab:=cy p.1 p.2.1 p.2.2
theorem e3{p q:ab}(h1:p.1=q.1)(aa:p.2.1=q.2.1)(aH:p.2.2=q.2.2):p=q:=TA h1 (TA aa aH)
variable{P:WF}{w:Xx}{K:Su}{mg:Str->Option SZ}{base:XB}
theorem AQ{c d:Int}{p q:ab}(h:sc c p=sc d q):c*p.1=d*q.1/\c*p.2.1=d*q.2.1/\c*p.2.2=d*q.2.2:=
 ⟨UF (·.1) h,UF (·.2.1) h,UF (·.2.2) h⟩
theorem AR(c d:Int)(p q:ab):crs (sc c p) (sc d q)=sc (c*d) (crs p q):=by
 refine e3 ?_ ?_ ?_<;>simp only[crs,sc]<;>grind
theorem FK(c d:Int)(p:ab):sc c (sc d p)=sc (c*d) p:=by
 refine e3 ?_ ?_ ?_<;>simp only[sc]<;>grind
theorem kr{p:ab}(aO:p.2.2≠0):∃g,g≠0/\p=sc g (nP p):=by
 obtain⟨pt,ai,ar,_⟩:=lL (a:=p.1) (b:=p.2.1) aO;have lM:(nP p).2.2≠0:=SA pt.1;obtain⟨g,aF⟩:=z1 pt.2 ai ar;have ft:g≠0:=λz=>aO (by rw[aF,z,S2]);refine⟨g,ft,e3 ?_ ?_ ?_⟩
 ·refine TG lM ?_;show p.1*(cy p.1 p.2.1 p.2.2).2.2=g*(cy p.1 p.2.1 p.2.2).1*(cy p.1 p.2.1 p.2.2).2.2
  rw[<-ai];grind
 ·refine TG lM ?_;show p.2.1*(cy p.1 p.2.1 p.2.2).2.2=g*(cy p.1 p.2.1 p.2.2).2.1*(cy p.1 p.2.1 p.2.2).2.2
  rw[<-ar];grind
 show p.2.2=g*(cy p.1 p.2.1 p.2.2).2.2
 rw[S6];exact aF
abbrev aX(p:ab):Prop:=m7 p.1 p.2.1 p.2.2
theorem gv{p:ab}(aO:p.2.2≠0):aX (nP p):=(lL aO).1
theorem r6{M h:ab}{G c:Int}(FL:G≠0)(hc:c≠0)(ag:aX h)(e:sc G M=sc c h):M.2.2≠0/\nP M=h:=by
 obtain⟨ai,ar,bb⟩:=AQ e;have h0:h.2.2≠0:=SA ag.1
 have dW:M.2.2≠0:=λz=>by
  rw[z,S2]at bb;exact S0 hc h0 bb.symm
 refine⟨dW,?_⟩;obtain⟨pt,aT,bd,_⟩:=lL (a:=M.1) (b:=M.2.1) dW;have ci:M.1*h.2.2=h.1*M.2.2:=WL (S0 FL hc) (by grind);have cu:M.2.1*h.2.2=h.2.1*M.2.2:=WL (S0 FL hc) (by grind);obtain⟨aM,a4,dx⟩:=vV pt ag (TG dW (by grind)) (TG dW (by grind));exact e3 aM a4 dx
theorem FM{h:ab}(ag:aX h):nP h=h:=(r6 (M:=h) (h:=h) (G:=1) (c:=1) (by decide) (by decide) ag rfl).2
structure cp (m:Nat) (p:ab):Prop where
 a:SC p.1<=m
 b:SC p.2.1<=m
 c:SC p.2.2<=m
theorem cp.mono{m n:Nat}{p:ab}(h:cp m p)(l:m<=n):cp n p:=⟨SD h.a l,SD h.b l,SD h.c l⟩
theorem cp.nP{m:Nat}{p:ab}(h:cp m p)(aO:p.2.2≠0):cp m (Cut.nP p):=by
 obtain⟨_,_,_,c1,c2,c3⟩:=lL (a:=p.1) (b:=p.2.1) aO;exact⟨gd c1 h.a,gd c2 h.b,gd c3 h.c⟩
theorem cp.crs{m n:Nat}{p q:ab}(ag:cp m p)(ay:cp n q):cp (m+n+1) (Cut.crs p q):=by
 have e:∀{x y u v:Int},SC x<=m->SC y<=n->SC u<=m->SC v<=n->SC (x*y-u*v)<=m+n+1:=λa b c d=>SD (Yx (TE a b) (TE c d)) (by lia);exact⟨e ag.b ay.c ag.c ay.b,e ag.c ay.a ag.a ay.c,e ag.a ay.b ag.b ay.a⟩
end Cut
namespace Cut
open PySem L2 L3
open PySem.Builtin.Int (intBits)
abbrev F2:=Int×Int
def wv(x:F2):F2:=(-x.1,x.2)
def nk(r s:F2):Prop:=a3 r.1 r.2/\0<s.2/\r.1*s.2=s.1*r.2
theorem nk.uniq{r t s:F2}(h:nk r s)(g:nk t s):r=t:=by
 have s0:=SA h.2.1;have:=zZ h.1 g.1 (TG s0 (by have:=h.2.2;have:=g.2.2;grind));exact TA this.1 this.2
theorem nk.low{c d:Int}(hd:0<d):nk (dF c d) (c,d):=by
 obtain⟨l,e,_⟩:=jx (t:=c) (b:=d) (SA hd);exact⟨l,hd,e⟩
theorem nk.neg{r s:F2}(h:nk r s):nk (wv r) (wv s):=⟨⟨h.1.1,by show Ss (-r.1) r.2=1;rw[Ua];exact h.1.2⟩,h.2.1,by have:=h.2.2;simp only[wv];grind⟩
theorem Pg{t b:Int}(ae:0<b):dF (-t) b=wv (dF t b):=(nk.low ae).uniq ((nk.low ae).neg)
end Cut
namespace L3
open PySem L2
section
variable{K:Su}{R:am}{W:TI->Prop}{B az H ak:am}{σ:St}{ρ:ZM}
def r7(W:TI->Prop)(σ:St)(ρ:ZM)(a:TI):Prop:=W a\/∃i:Nat,σ[i]?=some (some (.ref a))/\ρ[i]?=some .bag
def Ph(σ:St)(ρ:ZM)(a:TI):Prop:=∃(i:Nat)(ds:lz),σ[i]?=some (some (.ref a))/\ρ[i]?=some (.own ds)
theorem aW.frW_B(e:aW K R W B H σ ρ){a:TI}(h:r7 W σ ρ a):B a=none/\gf H a:=by
 rcases h with h|⟨i,h1,aa⟩
 ·exact⟨e.wb a h,e.wh a h⟩
 obtain⟨b,c1,_,c3,c4⟩:=e.bagAt aa;rw[h1]at c1;cases c1;exact⟨c3,c4⟩
theorem aW.own_out(e:aW K R W B H σ ρ){a:TI}(h:Ph σ ρ a):R a=none/\B a=none/\H a≠none/\¬r7 W σ ρ a:=by
 obtain⟨i,ds,h1,aa⟩:=h;obtain⟨b,c1,c2,c3,c4⟩:=e.ownC aa;rw[h1]at c1;cases c1;refine⟨c2,c3,c4.ne,λz=>?_⟩;rcases z with z|⟨j,aG,a8⟩
 ·exact e.wr a z c2
 have:=e.sep i j a (.inl ⟨h1,.inr ⟨ds,aa⟩⟩) (.inl ⟨aG,.inl a8⟩);subst this;rw[aa]at a8;cases a8
theorem aW.deep_out(e:aW K R W B H σ ρ){i:Nat}{c:ge}(h:ρ[i]?=some (.deep c)){a:TI}(m:a∈c.adr::c.ins):¬r7 W σ ρ a:=λz=>by
 rcases z with z|⟨j,aG,a8⟩
 ·exact e.wr a z ((e.deepAt h).2.fr a m).1
 have:=e.sep i j a (.inr ⟨c,h,m⟩) (.inl ⟨aG,.inl a8⟩);subst this;rw[h]at a8;cases a8
theorem aW.unframe(e:aW K R W B H σ ρ)(fr:∀a o,H a=some o->¬r7 W σ ρ a->ak a=some o)(wh:∀a,r7 W σ ρ a->gf ak a):aW K R W B ak σ ρ:=by
 have AP:∀a,R a≠none->¬W a->¬r7 W σ ρ a:=λa h1 aa z=>by
  rcases z with z|⟨i,aG,a8⟩
  ·exact aa z
  obtain⟨b,c1,c2,_⟩:=e.bagAt a8;rw[aG]at c1;cases c1;rcases c2 with c2|c2
  ·exact aa c2
  exact h1 c2
 refine⟨⟨λa o h nw=>fr a o (e.fr a o h nw) (AP a (by rw[h];simp) nw),λa o h=>fr a o (e.bh a o h) λz=>?_,e.wb,λa h=>wh a (.inl h),e.wr⟩,e.len,λi k h=>?_,e.sep⟩
 ·rw[(e.frW_B z).1]at h;cases h
 have z:=e.ok i k h;cases k with
 |no=>trivial
 |new d=>exact z
 |pin v d=>exact z
 |val d=>exact z
 |own ds=>
  obtain⟨a,h1,aa,aH,a6⟩:=z;refine⟨a,h1,aa,aH,a6.mono (cw.refl _) ?_⟩;cases q:H a with
  |none=>exact absurd q a6.ne
  |some o=>exact fr a _ q (e.own_out ⟨i,ds,hC h1,h⟩).2.2.2
 |deep c=>
  refine⟨z.1,z.2.fr,z.2.nd,z.2.ok.mono (cw.refl _) λa jK=>?_⟩;cases q:H a with
  |none=>exact absurd q (z.2.ok.ne jK)
  |some o=>exact fr a _ q (e.deep_out h jK)
 |bag=>
  obtain⟨b,h1,aa,aH,a6⟩:=z;exact⟨b,h1,aa,aH,wh b (.inr ⟨i,hC h1,h⟩)⟩
end
section
variable{K:Su}{X:aU}{e:WP}{es:ZW}{u:bg}{w:df}{pos p:Pos}{I:ZP}{i:Nat}{rest:ZX}{agC:iE->ZM->D->ZM->Prop}
theorem Pi{α:Type}{x:α}{r:List α}:eu (x::r) 0=some x:=by simp[eu,ixN]
end
section
variable{X:aU}{a b:WP}{b5 b':bg}{pos:Pos}
def tW:D->Option ZK
 |.tup ds=>some ds
 |.lst ds=>some ds
 |.ktup ds=>some ds
 |_=>none
def Pj(K:Su):iz:=λx y H Q=>∃p xs i v,x=.ref p/\y=.int i/\(eX K H p xs\/cN K H p xs)/\eu xs i=some v/\Q v H
theorem Pk:rO X (Pj X.K):=by
 intro value slice aj s σ H x y v u Q I bn cg h av;obtain⟨p,xs,i,z,ai,ar,ay,aD,q⟩:=h;rcases ay with ay|ay
 ·exact Ex value slice aj s σ H x y v u Q I bn cg ⟨p,xs,i,z,ai,ar,ay,aD,q⟩ av
 exact zL value slice aj s σ H x y v u Q I bn cg ⟨p,xs,i,z,ai,ar,ay,aD,q⟩ av
def Pl(b5 b':bg):bg:=λρ k=>b5 ρ λx=>b' ρ λy=>∃ds i d,tW x=some ds/\y=.int i/\eu ds i=some d/\k d
theorem pi(aw:br X a b5)(ae:br X b b')(av:s9 b):br X (.Subscript a b pos) (Pl b5 b'):=by
 obtain⟨_,h1,aq⟩:=aw;obtain⟨_,aa,aN⟩:=ae;refine⟨_,l9 Pk h1 aa av,rU aq aN λx y k h R W B H σ ρ v l3 Q e bn cg q=>?_⟩;obtain⟨ds,i,d,al,rfl,aw,ah⟩:=h;cases bn with
 |tup ag hT=>
  cases al;obtain⟨z,hz,jn⟩:=tA hT aw;exact⟨_,_,i,z,rfl,cg.intV,.inl (eX.of (e.bh _ _ ag)),hz,q d z B H ah e (bJ.refl _ _) jn⟩
 |lst ag hT=>
  cases al;obtain⟨z,hz,jn⟩:=tA hT aw;exact⟨_,_,i,z,rfl,cg.intV,.inr (cN.of (e.bh _ _ ag)),hz,q d z B H ah e (bJ.refl _ _) jn⟩
 |ktup ag hT=>
  cases al;obtain⟨z,hz,jn⟩:=tA hT aw;exact⟨_,_,i,z,rfl,cg.intV,.inl (EU e.bh ag),hz,q d z B H ah e (bJ.refl _ _) jn⟩
 |_=>cases al
structure ww (K:Su) (mg:Str->Option SZ) (x:Str) (ns:ZI):Prop where
 ex:∃p:TI,mg x=some (.ref p)/\∀H:am,eX K H p (ns.map V.int)
theorem tX{x:Str}{ns:ZI}(g:ww X.K X.mg x ns)(aF:eD X x)(hd:ed x:=by decide):br X (.Name x pos) (iW (.ktup (ns.map D.int))):=by
 obtain⟨p,aA,av⟩:=g.ex;refine⟨_,KV (v:=.ref p) aF aA rfl hd,λρ k h R W B H σ Q e q=>?_⟩;exact q _ _ B H h e (bJ.refl _ _) (.ktup (av B) (Reps.ints ns))
theorem Pm{K:Su}{mg:Str->Option SZ}{x:Str}{p:TI}{i j:Int}{iR qK:Tok}{od:Option TI}{sl:Array (Option SZ)}{n:Nat}(aA:mg x=some (.ref p))(ap:K.lookup p=some ⟨.type "tuple",od,.seq #[.int i iR,.int j qK] n,sl⟩):ww K mg x [i,j]:=
 ⟨p,aA,λH=>.inr ⟨_,_,_,ap,rfl,rfl,eW,.cons ⟨_,rfl⟩ (.cons ⟨_,rfl⟩ .nil)⟩⟩
end
end L3
namespace L3
open PySem PySem.W L2
def Pn(h:XB):Zu:=(S4 h.objs.size).filterMap λa=>(h.get? a).map λo=>(a,o)
theorem FN(g:Nat->Option Obj)(a:Nat):∀l:ZP,(l.filterMap λb=>(g b).map λo=>(b,o)).lookup a=if a∈l then g a else none
 |[]=>rfl
 |b::l=>by
  have b9:=FN g a l;cases q:g b with
  |none=>
   rw[WM (by rw[q];rfl),b9];by_cases e:a=b
   ·subst e;rw[q];simp
   simp[e]
  |some o=>
   rw[WN (b:=(b,o)) (by rw[q];rfl),VZ];by_cases e:a=b
   ·subst e;simp[q]
   have:(a==b)=false:=by simpa using e
   simp only[this,b9,SG,e,false_or]
def wx(K:Zu)(x:Str)(st:XE):Prop:=∃f fd,nsIn K Uf x=some (some (.ref f))/\m5 K x x st f fd
theorem AS(x:Str)(st:XE):yj x st=some (x,x,qm st,.stmts (kg st),bZ st,Uf,[],.none,XW,true):=by cases st<;>rfl
def FO(K:Zu):List (Str×XE)->Prop
 |[]=>True
 |p::l=>wx K p.1 p.2/\FO K l
def AllB(K:Zu):ZT->Prop
 |[]=>True
 |b::l=>nsIn K Uf b=some none/\AllB K l
def wy(K:Zu)(x:Str)(i j:Int):Prop:=∃p od sl n iR qK,nsIn K Uf x=some (some (.ref p))/\K.lookup p=some ⟨.type "tuple",od,.seq #[.int i iR,.int j qK] n,sl⟩
def FP(K:Zu):List (Str×Int×Int)->Prop
 |[]=>True
 |p::l=>wy K p.1 p.2.1 p.2.2/\FP K l
def FQ(K:Zu)(x:Str)(c:Int ⊕ Str):Prop:=match c with
 |.inl i=>∃t,nsIn K Uf x=some (some (.int i t))
 |.inr s=>∃t,nsIn K Uf x=some (some (.str s t))
def FR(K:Zu):List (Str×(Int ⊕ Str))->Prop
 |[]=>True
 |p::l=>FQ K p.1 p.2/\FR K l
structure Tab (t:l2) (K:Zu):Prop where
 tf:FO K t.fs
 tb:AllB K t.bs
 tt:FP K t.ts
 tc:FR K t.cs
theorem wx.fnd{K:Zu}{h:XB}{mg:Str->Option SZ}{x:Str}{st:XE}{ps:ZT}(X:K.In h)(G:h.Ns Uf mg)(F:wx K x st)(b:∀f fd,m5 K x x st f fd->Binds K fd ps []):cM K mg x st ps:=by
 obtain⟨f,fd,m,F⟩:=F;exact⟨f,fd,mg_of X G m,F,b f fd F⟩
abbrev tY(x:Str)(st:XE)(us:ZU)(r:List (Str×SZ)):Prop:=∀(kV doc pm:SZ)(an:Option TI)(cdv ct:SZ),YY (fnOf x x (qm st) (kg st) (bZ st) .none kV doc pm an cdv ct) ⟨us,[]⟩=pure r
abbrev tZ(x:Str)(st:XE)(ps:ZT):Prop:=∀(kV doc pm:SZ)(an:Option TI)(cdv ct:SZ)(us:ZU),us.length=ps.length->YY (fnOf x x (qm st) (kg st) (bZ st) .none kV doc pm an cdv ct) ⟨us,[]⟩=pure (ps.zip us)
section
variable{x:Str}{st:XE}
theorem jU{p:Str}(h8:∀a,tY x st [a] [(p,a)]):tZ x st [p]:=λ_ _ _ _ _ _ us ap=>match us,ap with|[a],_=>h8 a _ _ _ _ _ _
theorem gh{p q:Str}(h8:∀a b,tY x st [a,b] [(p,a),(q,b)]):tZ x st [p,q]:=λ_ _ _ _ _ _ us ap=>match us,ap with|[a,b],_=>h8 a b _ _ _ _ _ _
theorem oi{p q r:Str}(h8:∀a b c,tY x st [a,b,c] [(p,a),(q,b),(r,c)]):tZ x st [p,q,r]:=λ_ _ _ _ _ _ us ap=>match us,ap with|[a,b,c],_=>h8 a b c _ _ _ _ _ _
theorem AT{p q r s:Str}(h8:∀a b c d,tY x st [a,b,c,d] [(p,a),(q,b),(r,c),(s,d)]):tZ x st [p,q,r,s]:=λ_ _ _ _ _ _ us ap=>match us,ap with|[a,b,c,d],_=>h8 a b c d _ _ _ _ _ _
theorem wA{p q r s t:Str}(h8:∀a b c d e,tY x st [a,b,c,d,e] [(p,a),(q,b),(r,c),(s,d),(t,e)]):tZ x st [p,q,r,s,t]:=λ_ _ _ _ _ _ us ap=>match us,ap with|[a,b,c,d,e],_=>h8 a b c d e _ _ _ _ _ _
end
theorem wy.gtup{K:Zu}{h:XB}{mg:Str->Option SZ}{x:Str}{i j:Int}(X:K.In h)(G:h.Ns Uf mg)(F:wy K x i j):ww K mg x [i,j]:=by
 obtain⟨p,od,sl,n,iR,qK,m,l⟩:=F;exact Pm (mg_of X G m) l
end L3
namespace L2
open PySem PySem.Spec PyProof.Rows PySem.W
section
variable{prog:WF}{w:Xx}{A:Xy}{E:SZ->TD->Prop}{s:TD}
theorem FS{it t:TI}{items:Array SZ}(lG:t≠it):∀(n i:Nat)(s:TD)(Q:ZU->TD->Prop),s.heap.IsListIter it t i->s.heap.IsList t items->i+n<=items.size->
  (∀h',h'.IsListIter it t (i+n)->Heap.SameBut it s.heap h'->Q ((items.toList.drop i).take n) {s with heap:=h' })->wpAny (Wp prog w) A (draw (.ref it) n) Q E s
 |0,i,s,Q,hit,_,_,hq=>by
  show wpAny _ _ (pure []) Q E s
  exact SL (by simpa using hq s.heap hit (Heap.SameBut.refl ..))
 |n+1,i,s,Q,hit,aR,hle,hq=>by
  have de:i<items.size:=by lia
  show wpAny _ _ (YS (.ref it) >>= _) Q E s
  refine SB (YK hit aR (x:=items[i]) (by simp[de]) λFT AU t0=>?_);refine SB (Xu (FS lG n (i+1) _ _ AU (aR.extBut t0.extBut lG) (by lia) λAV Po Pp=>SL ?_));have hd:items.toList.drop i=items[i]::items.toList.drop (i+1):=by simp[Uu,de]
  have:=hq AV (by rw[show i+(n+1)=i+1+n by lia];exact Po) (t0.trans Pp);rwa[hd,V0]at this
theorem Pq{t:TI}{items:Array SZ}{Q:ZU->TD->Prop}(dY:A.handled=none)(aR:s.heap.IsList t items)(hq:∀h',Heap.ExtBut s.heap.objs.size s.heap h'->Q items.toList {s with heap:=h' }):wpAny (Wp prog w) A (Zv (.ref t) items.size none) Q E s:=by
 have de:t≠s.heap.objs.size:=by obtain⟨o,ax,_⟩:=aR;exact S3 (Heap.lt_size ax)
 unfold Zv;refine SB ?_
 unfold notIterableAtAll;refine SB (X' aR.typeIs F.slot_list_iter.lookup ?_);refine SL ?_;simp only[TH,if_false];refine SB (Xu (Yc aR ?_));refine SB (Xu (FS de items.size 0 _ _ ⟨_,Heap.get?_push_size _ rfl,rfl,rfl⟩ (aR.push _) (by lia) λFT AU t0=>?_))
 have rP:List.take items.size (List.drop 0 items.toList)=items.toList:=by
  rw[V1];exact Vi (by simp)
 rw[rP];rw[Tl (by simp)];have Pr:FT.IsList t items:=(aR.push _).extBut t0.extBut de;refine SB (Xu (YT dY AU Pr (by simp) λAV Ps=>?_));simp only[Option.isSome_none,TH,if_false];refine SL (hq AV λb o ae e=>Ps b o ae (t0.extBut b o ae (Heap.get?_push_of_some _ e)))
theorem Pt{env:Tx}{jy:ZW}{x1}{pos:Pos}{t:TI}{items:Array SZ}{Q:Unit->TD->Prop}(dY:A.handled=none)(aR:s.heap.IsList t items)(aO:(Xz jy env).length=items.size)(Pu:(Xz jy env).findIdx? (·.1)=none)(h:∀h',Heap.ExtBut s.heap.objs.size s.heap h'->wpAny (Wp prog w) A (YE ((Xz jy env).map (·.2)) items.toList) Q E {s with heap:=h' }):
  wpAny (Wp prog w) A (Y3 (.Tuple jy x1 pos) env (.ref t)) Q E s:=by
 rw[arm_assign_Tuple];refine SB (XX ?_);unfold unpack;rw[aO,Pu];exact SB (Xu (Pq dY aR h))
end
section
variable{X:aU}{pos:Pos}
def Pv(K:Su)(n:Nat)(t:mW):fR:=λv σ H Q=>∃a xs,v=.ref a/\cN K H a xs/\xs.length=n/\t xs σ H Q
theorem Pw{es:ZW}{k:Nat}{t:mW}{n:Nat}(hc:X.calm=true)(h:rF X es t)(aO:(Xz es X.env).length=n:=by rfl)(qb:(Xz es X.env).findIdx? (·.1)=none:=by rfl):iP X (.Tuple es k pos) (Pv X.K n t):=by
 intro aj s σ H v u Q I r hw;obtain⟨a,xs,ai,ay,ap,hw⟩:=hw;subst ai;cases r;obtain⟨its,b6,aR,hz⟩:=I.list ay;refine Pt (I.ok.hd hc) aR.isList (by simp[aO,<-ap,b6.length]) qb λh' al=>?_;have a':Inv X aj σ H {s with heap:=h' }:=I.kept (t':=s.toks) λb o e=>al b o (S3 (Heap.lt_size e)) e;exact h aj _ σ H xs _ Q a' (by simpa using b6) hw
end
end L2
namespace L3
open PySem L2
section
variable{X:aU}{es:ZW}{pos:Pos}
def Px(n:Nat)(jo:m9):eZ:=λd ρ k=>∃ds,d=.lst ds/\ds.length=n/\jo ds ρ k
theorem FU{dS:Nat}{jo:m9}{n:Nat}(hc:X.calm=true)(h:tu X es jo)(aO:(Xz es X.env).length=n:=by rfl)(qb:(Xz es X.env).findIdx? (·.1)=none:=by rfl):km X (.Tuple es dS pos) (Px n jo):=by
 obtain⟨_,h1,aq⟩:=h;refine⟨_,Pw hc h1 aO qb,λd ρ k h R W B H σ v Q e r q=>?_⟩;obtain⟨ds,rfl,ap,h⟩:=h;obtain⟨a,vs,rfl,aw,rs⟩:=r.lstV;exact⟨a,vs,rfl,cN.of (e.bh _ _ aw),by rw[rs.length];exact ap,aq ds ρ k h R W B H σ vs Q e rs q⟩
end
end L3
namespace Cut
open PySem L2 L3
open PySem.Builtin.Int (intBits)
def sld(g p:ab):ab:=(p.1*g.2.2+g.1*p.2.2,p.2.1*g.2.2+g.2.1*p.2.2,p.2.2*g.2.2)
def trn(p:ab):ab:=(-p.1,-p.2.1,p.2.2)
def AW(p q r s:ab):ab:=crs (crs p q) (crs r s)
def be(p q r:ab):Int:=(crs p q).1*r.1+(crs p q).2.1*r.2.1+(crs p q).2.2*r.2.2
def cJ(x:Int):Int:=if 0<x then 1 else if x<0 then -1 else 0
theorem Py{x y c d:Int}(hc:0<c)(hd:0<d)(h:c*x=d*y):cJ x=cJ y:=by
 have pos:0<x↔0<y:=by
  constructor
  ·intro al;have:=SE hc al;rw[h]at this;exact T8 this hd
  intro aP;have:=SE hd aP;rw[<-h]at this;exact T8 this hc
 have FV:x=0↔y=0:=by
  constructor
  ·intro al;rw[al,S2]at h;exact(Tt.mp h.symm).resolve_left (SA hd)
  intro aP;rw[aP,S2]at h;exact(Tt.mp h).resolve_left (SA hc)
 unfold cJ;by_cases h1:0<x
 ·rw[Tk h1,Tk (pos.mp h1)]
 rw[Tl h1,Tl (λz=>h1 (pos.mpr z))];by_cases aa:x=0
 ·rw[Tl (by lia),Tl (by have:=FV.mp aa;lia)]
 have:y≠0:=λz=>aa (FV.mpr z);have:¬0<y:=λz=>h1 (pos.mpr z);rw[Tk (by lia),Tk (by lia)]
structure t1 (L:ab->ab):Prop where
 hom:∀c p,L (sc c p)=sc c (L p)
 z:∃k,0<k/\∀p,(L p).2.2=k*p.2.2
 mt:∃d,d≠0/\∀p q r s,AW (L p) (L q) (L r) (L s)=sc d (L (AW p q r s))
 dt:∃d,0<d/\∀p q r,be (L p) (L q) (L r)=d*be p q r
def cs(g c:ab):ab:=(g.2.2*c.1,g.2.2*c.2.1,g.2.2*c.2.2-g.1*c.1-g.2.1*c.2.1)
theorem AX(g p q:ab):crs (sld g p) (sld g q)=sc g.2.2 (cs g (crs p q)):=by
 refine e3 ?_ ?_ ?_<;>simp only[crs,sc,sld,cs]<;>grind
theorem Pz(g u v:ab):crs (cs g u) (cs g v)=sc g.2.2 (sld g (crs u v)):=by
 refine e3 ?_ ?_ ?_<;>simp only[crs,sc,sld,cs]<;>grind
theorem PA{g:ab}(aF:0<g.2.2):t1 (sld g):=by
 have ft:=SA aF;refine⟨λc p=>by refine e3 ?_ ?_ ?_<;>simp only[sc,sld]<;>grind,⟨g.2.2,aF,λp=>by simp only[sld];grind⟩,⟨g.2.2*g.2.2*g.2.2,S0 (S0 ft ft) ft,λp q r s=>?_⟩,⟨g.2.2*g.2.2*g.2.2,SE (SE aF aF) aF,λp q r=>?_⟩⟩
 ·unfold AW;rw[AX,AX,AR,Pz,FK]
 unfold be;rw[AX];generalize crs p q=c;simp only[sc,cs,sld];grind
theorem t1.low{L:ab->ab}(l:t1 L){p:ab}(ag:0<p.2.2):0<(L p).2.2/\∃k,0<k/\L p=sc k (nP (L p)):=by
 obtain⟨k,dS,e⟩:=l.z;have pos:0<(L p).2.2:=by rw[e];exact SE dS ag
 obtain⟨g,ft,pj⟩:=kr (SA pos);have cd:=(gv (SA pos)).1;refine⟨pos,g,?_,pj⟩;have bb:(L p).2.2=g*(nP (L p)).2.2:=UF (λp:ab=>p.2.2) pj;rw[bb]at pos;exact UL pos cd
theorem PB(a b c:Int)(p q r:ab):be (sc a p) (sc b q) (sc c r)=a*b*c*be p q r:=by
 simp only[be,AR];generalize crs p q=u;simp only[sc];grind
theorem t1.side{L:ab->ab}(l:t1 L){p q r:ab}(ag:0<p.2.2)(ay:0<q.2.2)(ao:0<r.2.2):cJ (be (nP (L p)) (nP (L q)) (nP (L r)))=cJ (be p q r):=by
 obtain⟨_,a,f7,dv⟩:=l.low ag;obtain⟨_,b,kt,fS⟩:=l.low ay;obtain⟨_,c,fl,jz⟩:=l.low ao;obtain⟨d,i6,gO⟩:=l.dt;refine Py (SE (SE f7 kt) fl) i6 ?_;rw[<-PB,<-dv,<-fS,<-jz,gO]
theorem jV{a b:Int}(h:∀k:Int,k∣a->k∣b->k∣1):Ss a b=1:=by
 have q:=Ut.mpr (h _ (Va a b) (UY a b));simpa using q
theorem ku{a b k:Int}(g:Ss a b=1)(h1:k∣a)(aa:k∣b):k∣1:=by
 have:=V2 h1 aa;rwa[g]at this
theorem pk{k n m:Int}(h:k∣n*m)(g:Ss k m=1):k∣n:=n9 (by rw[S6];exact h) g
theorem t2{a b k:Int}(g:Ss a b=1)(h:k∣a):Ss k b=1:=jV λj h1 aa=>ku g (Tj h1 h) aa
theorem wB{x y t b:Int}(l:a3 x y)(ae:b≠0)(e:x*b=t*y):dF t b=(x,y):=by
 rw[<-Pf l];exact Pe ae (SA l.1) e.symm
theorem FW{x y z a b n:Int}(p:m7 x y z)(aO:n≠0)(ai:x*n=a*z)(ar:y*n=b*z):cy a b n=(x,y,z):=by
 obtain⟨q,aT,bd,_⟩:=lL (a:=a) (b:=b) aO;obtain⟨h1,aa,aH⟩:=vV q p (TG aO (by grind)) (TG aO (by grind));exact TA h1 (TA aa aH)
theorem pl{a b:Int}(h:a≠0\/b≠0):∃x y:Int,a=((Ss a b:Nat):Int)*x/\b=((Ss a b:Nat):Int)*y/\Ss x y=1:=by
 obtain⟨x,al⟩:=Va a b;obtain⟨y,aP⟩:=UY a b;refine⟨x,y,al,aP,?_⟩
 have pos:0<Ss a b:=by
  rcases h with h|h
  ·exact WO b h
  exact U' a h
 have q:Ss a b=(((Ss a b:Nat):Int)).natAbs*Ss x y:=Pd al aP;rw[WQ]at q;exact VP pos (by lia)
theorem FX{a b:Int}(h:a≠0\/b≠0):((Ss a b:Nat):Int)≠0:=by
 have pos:0<Ss a b:=by
  rcases h with h|h
  ·exact WO b h
  exact U' a h
 lia
theorem nm{a b:Int}(h:a≠0\/b≠0):0<((Ss a b:Nat):Int):=by
 have:=FX h;lia
theorem oj{s y:Int}(s0:0<s)(h:0<s*y):0<y:=T8 h s0
theorem FY{x y u k Y V:Int}(g:Ss x y=1)(aP:Y∣y)(PC:Ss Y V=1)(h1:k∣x*V+u*Y)(aa:k∣Y):k∣1:=by
 have aH:k∣x*V:=by
  have:=V3 h1 (TM aa (b:=u));simpa using this
 exact ku g (pk aH (t2 PC aa)) (Tj aa aP)
theorem PD{x y u v:Int}(bQ:a3 x y)(bS:a3 u v){s top d:Int}(av:s=(Ss y v:Nat))(aR:top=x*v.fdiv s+u*y.fdiv s)(hd:d=(Ss s top:Nat)):
  (top.fdiv d,y.fdiv s*v.fdiv d)=dF (x*v+u*y) (y*v):=by
 obtain⟨e1,aE⟩:=bQ;obtain⟨eM,aI⟩:=bS;obtain⟨Y,V,kY,nn,t3⟩:=pl (a:=y) (b:=v) (.inl (SA e1));have s0:0<s:=by rw[av];exact nm (.inl (SA e1))
 rw[<-av]at kY nn;have aC:=SA s0;rw[i5 nn aC,i5 kY aC]at aR;obtain⟨S,T,ga,ej,PE⟩:=pl (a:=s) (b:=top) (.inl aC);have i6:0<d:=by rw[hd];exact nm (.inl aC)
 rw[<-hd]at ga ej;have b7:=SA i6;have t4:v=d*(S*V):=by rw[nn,ga,Uj]
 rw[i5 ej b7,i5 kY aC,i5 t4 b7];have t5:0<Y:=oj s0 (by lia);have AY:0<V:=oj s0 (by lia);have AZ:0<S:=oj i6 (by lia);refine(wB ⟨SE t5 (SE AZ AY),?_⟩ (SA (SE e1 eM)) ?_).symm
 ·refine jV λk h1 aa=>?_;have ix:k∣top:=by rw[ej];exact TM h1
  have c1:Ss k Y=1:=jV λj cS eN=>FY aE ⟨s,by rw[kY,S6]⟩ t3 (by rw[<-aR];exact Tj cS ix) eN;have c2:Ss k V=1:=jV λj cS eN=>FY (x:=u) (u:=x) (Y:=V) (V:=Y) aI ⟨s,by rw[nn,S6]⟩ (by rw[TX];exact t3) (by rw[V4,<-aR];exact Tj cS ix) eN;exact ku PE (pk (n9 aa c1) c2) h1
 grind
theorem PF{x y u v:Int}(bQ:a3 x y)(bS:a3 u v):
  (x.fdiv ((Ss x v:Nat):Int)*u.fdiv ((Ss u y:Nat):Int),y.fdiv ((Ss u y:Nat):Int)*v.fdiv ((Ss x v:Nat):Int))=dF (x*u) (y*v):=by
 obtain⟨e1,aE⟩:=bQ;obtain⟨eM,aI⟩:=bS;obtain⟨X,V,ol,nn,PG⟩:=pl (a:=x) (b:=v) (.inr (SA eM));obtain⟨U,Y,FZ,kY,PH⟩:=pl (a:=u) (b:=y) (.inr (SA e1));have dL:=nm (a:=x) (b:=v) (.inr (SA eM));have h0:=nm (a:=u) (b:=y) (.inr (SA e1));generalize((Ss x v:Nat):Int)=f at *;generalize((Ss u y:Nat):Int)=h at *;rw[i5 ol (SA dL),i5 nn (SA dL),i5 FZ (SA h0),i5 kY (SA h0)];have t5:0<Y:=oj h0 (by lia);have AY:0<V:=oj dL (by lia);refine(wB ⟨SE t5 AY,?_⟩ (SA (SE e1 eM)) ?_).symm
 ·refine jV λk ci cu=>?_;have PI:Ss X Y=1:=jV λj cS eN=>ku aE (by rw[ol];exact TM cS) (by rw[kY];exact TM eN);have PJ:Ss U V=1:=jV λj cS eN=>ku aI (by rw[FZ];exact TM cS) (by rw[nn];exact TM eN)
  have c1:Ss k Y=1:=jV λj cS eN=>by
   have aH:j∣X*U:=Tj cS ci;have a6:j∣U:=n9 aH (jV λi ff i2=>ku PI i2 (Tj ff eN));exact ku PH a6 eN
  have cH:k∣V:=n9 cu c1;have ey:k∣U:=n9 ci (jV λi ff i2=>ku PG i2 (Tj ff cH));exact ku PJ ey cH
 grind
theorem F0{x y z:Int}(h:∀k:Int,k∣x->k∣y->k∣z->k∣1):Ss (Ss x y:Nat) z=1:=
 jV λk h1 aa=>h k (Tj h1 (Va x y)) (Tj h1 (UY x y)) aa
theorem PK{x y z k:Int}(g:Ss (Ss x y:Nat) z=1)(h1:k∣x)(aa:k∣y)(aH:k∣z):k∣1:=ku g (V2 h1 aa) aH
theorem PL{x y u v:Int}(bQ:a3 x y)(bS:a3 u v):
  (x*v.fdiv ((Ss y v:Nat):Int),u*y.fdiv ((Ss y v:Nat):Int),y.fdiv ((Ss y v:Nat):Int)*v)=cy (x*v) (u*y) (y*v):=by
 obtain⟨e1,aE⟩:=bQ;obtain⟨eM,aI⟩:=bS;obtain⟨Y,V,kY,nn,t3⟩:=pl (a:=y) (b:=v) (.inl (SA e1));have s0:=nm (a:=y) (b:=v) (.inl (SA e1));generalize((Ss y v:Nat):Int)=s at *;rw[i5 nn (SA s0),i5 kY (SA s0)];have t5:0<Y:=oj s0 (by lia);refine(FW ⟨SE t5 eM,?_⟩ (SA (SE e1 eM)) ?_ ?_).symm
 ·refine F0 λk h1 aa aH=>?_;have c1:Ss k Y=1:=jV λj cS eN=>ku aE (pk (Tj cS h1) (t2 t3 eN)) (by rw[kY];exact TM eN);have c2:Ss k V=1:=jV λj cS eN=>ku aI (pk (Tj cS aa) (t2 (by rw[TX];exact t3) eN)) (by rw[nn];exact TM eN);have a6:k∣u:=pk aa c1;have cH:k∣v:=n9 aH c1;exact ku aI a6 cH
 ·grind
 grind
theorem F1{a b n r w k N M:Int}(g:Ss (Ss a b:Nat) n=1)(aO:N∣n)(F3:Ss N M=1)(h1:k∣a*M+r*N)(aa:k∣b*M+w*N)(aH:k∣N):k∣1:=by
 have aM:k∣a*M:=by
  have:=V3 h1 (TM aH (b:=r));simpa using this
 have a4:k∣b*M:=by
  have:=V3 aa (TM aH (b:=w));simpa using this
 exact PK g (pk aM (t2 F3 aH)) (pk a4 (t2 F3 aH)) (Tj aH aO)
theorem PM{a b n r w m:Int}(p1:m7 a b n)(p2:m7 r w m){s X Y d:Int}(av:s=(Ss n m:Nat))(ol:X=a*m.fdiv s+r*n.fdiv s)(A0:Y=b*m.fdiv s+w*n.fdiv s)(hd:d=(Ss ((Ss s X:Nat):Int) Y:Nat)):
  (X.fdiv d,Y.fdiv d,n.fdiv s*m.fdiv d)=cy (a*m+r*n) (b*m+w*n) (n*m):=by
 obtain⟨cd,aE⟩:=p1;obtain⟨dW,aI⟩:=p2;obtain⟨N,M,bF,hQ,F4⟩:=pl (a:=n) (b:=m) (.inl (SA cd));have s0:0<s:=by rw[av];exact nm (.inl (SA cd))
 rw[<-av]at bF hQ;have aC:=SA s0;rw[i5 bF aC,i5 hQ aC]at ol A0;obtain⟨wC,t6,PN,PO,PP⟩:=pl (a:=s) (b:=X) (.inl aC);have ai:=FX (a:=s) (b:=X) (.inl aC);obtain⟨E,qL,A1,A2,PQ⟩:=pl (a:=((Ss s X:Nat):Int)) (b:=Y) (.inl ai);have i6:0<d:=by rw[hd];exact nm (.inl ai)
 rw[<-hd]at A1 A2;have b7:=SA i6
 have ga:s=d*(E*wC):=by
  rw[PN]
  conv=>lhs;rw[A1]
  rw[Uj]
 have F5:X=d*(E*t6):=by
  rw[PO]
  conv=>lhs;rw[A1]
  rw[Uj]
 have PR:m=d*(E*wC*M):=by rw[hQ,ga,Uj]
 rw[i5 F5 b7,i5 A2 b7,i5 bF aC,i5 PR b7];have i7:0<N:=oj s0 (by lia);have PS:0<M:=oj s0 (by lia);have AZ:0<E*wC:=oj i6 (by lia);refine(FW ⟨SE i7 (SE AZ PS),?_⟩ (SA (SE cd dW)) ?_ ?_).symm
 ·refine F0 λk h1 aa aH=>?_;have F6:k∣X:=by rw[F5];exact TM h1
  have F7:k∣Y:=by rw[A2];exact TM aa
  have c1:Ss k N=1:=jV λj cS eN=>F1 aE ⟨s,by rw[bF,S6]⟩ F4 (by rw[<-ol];exact Tj cS F6) (by rw[<-A0];exact Tj cS F7) eN;have c2:Ss k M=1:=jV λj cS eN=>F1 (a:=r) (b:=w) (n:=m) (r:=a) (w:=b) (N:=M) (M:=N) aI ⟨s,by rw[hQ,S6]⟩ (by rw[TX];exact F4) (by rw[V4,<-ol];exact Tj cS F6) (by rw[V4,<-A0];exact Tj cS F7) eN;have a6:k∣E*wC:=pk (n9 aH c1) c2
  have cH:k∣E:=by
   have z:=V2 a6 h1;rw[VO,PP,Nat.mul_one]at z;exact Tj z (Int.natAbs_dvd.mpr (Int.dvd_refl E))
  exact ku PQ cH aa
 ·grind
 grind
theorem cp.sld{m n:Nat}{g p:ab}(aF:cp m g)(ag:cp n p):cp (n+m+1) (Cut.sld g p):=by
 refine⟨?_,?_,?_⟩
 ·exact SD (XI (TE ag.a aF.c) (TE aF.a ag.c)) (by lia)
 ·exact SD (XI (TE ag.b aF.c) (TE aF.b ag.c)) (by lia)
 exact SD (TE ag.c aF.c) (by lia)
theorem cp.trn{m:Nat}{p:ab}(ag:cp m p):cp m (Cut.trn p):=⟨TW ag.a,TW ag.b,ag.c⟩
theorem aX.trn{p:ab}(h:aX p):aX (Cut.trn p):=z2 h
theorem t7{g p:ab}(aF:aX g)(ag:aX p):(sld g p).2.2≠0:=l' ag.1 aF.1
theorem aX.sld{g p:ab}(aF:aX g)(ag:aX p):aX (nP (Cut.sld g p)):=gv (t7 aF ag)
theorem cp.sldN{m n:Nat}{g p:ab}(aF:cp m g)(ag:cp n p)(PT:aX g)(PU:aX p):cp (n+m+1) (Cut.nP (Cut.sld g p)):=(aF.sld ag).nP (t7 PT PU)
theorem r8(p q:ab):be p q q=0:=by unfold be crs;grind
def bx(ps:ZJ)(n:Nat):ab:=(ps[n]?).getD (0,0,1)
theorem mo{ps:ZJ}{n:Nat}(h:n<ps.length):bx ps n=ps[n]:=by unfold bx;rw[SU h];rfl
theorem A3{f:ab->ab}{ps:ZJ}{n:Nat}(h:n<ps.length):bx (ps.map f) n=f (bx ps n):=by
 rw[mo h,mo (by rw[Sv];exact h),List.getElem_map]
theorem om{ps:ZJ}{n:Nat}(h:n<ps.length):bx ps n∈ps:=by rw[mo h];exact V5 h
theorem nq{ps:ZJ}{n:Nat}(h:n<ps.length):eu (ps.map aQ) (n:Int)=some (aQ (bx ps n)):=by rw[mo h];exact qJ (AO h)
def fg(ps:ZJ):Prop:=3<=ps.length/\∀k j,k<ps.length->j<ps.length->j≠k->j≠(k+1)%ps.length->cJ (be (bx ps k) (bx ps ((k+1)%ps.length)) (bx ps j))=1
theorem fg.map{f:ab->ab}{ps:ZJ}(bD:∀p q r,p∈ps->q∈ps->r∈ps->cJ (be (f p) (f q) (f r))=cJ (be p q r))(h:fg ps):fg (ps.map f):=by
 refine⟨by rw[Sv];exact h.1,λk j ah bC h1 aa=>?_⟩;rw[Sv]at ah bC aa⊢;have pp:(k+1)%ps.length<ps.length:=Uv _ (by lia);rw[A3 ah,A3 bC,A3 pp,bD _ _ _ (om ah) (om pp) (om bC)];exact h.2 k j ah bC h1 aa
theorem wD{p q r:ab}(h:cJ (be p q r)=1):fg [p,q,r]:=by
 refine⟨by simp,λk j ah bC h1 aa=>?_⟩;have l:[p,q,r].length=3:=rfl;rw[l]at ah bC aa⊢;have c1:be q r p=be p q r:=by unfold be crs;grind
 have c2:be r p q=be p q r:=by unfold be crs;grind
 have:k=0\/k=1\/k=2:=by lia
 rcases this with rfl|rfl|rfl
 ·have:j=2:=by lia
  subst this;exact h
 ·have:j=0:=by lia
  subst this;show cJ (be q r p)=1
  rw[c1];exact h
 have:j=1:=by lia
 subst this;show cJ (be r p q)=1
 rw[c2];exact h
abbrev ba:=ZJ×Bool×ab
abbrev ZN:=List ba
def bH(s:ba):D:=.tup [.lst (s.1.map aQ),.bl s.2.1,aQ s.2.2]
structure cT (m:Nat) (p:ab):Prop where
 pt:aX p
 bp:cp m p
theorem cT.mono{m n:Nat}{p:ab}(h:cT m p)(l:m<=n):cT n p:=⟨h.pt,h.bp.mono l⟩
def lN(g:ab)(s:ba):ba:=(s.1.map (λp=>nP (sld g p)),s.2.1,nP (sld g s.2.2))
theorem cT.trn{m:Nat}{p:ab}(h:cT m p):cT m (Cut.trn p):=⟨h.pt.trn,h.bp.trn⟩
theorem cT.sl{m n:Nat}{g p:ab}(aF:cT m g)(h:cT n p):cT (n+m+1) (nP (sld g p)):=⟨aF.pt.sld h.pt,aF.bp.sldN h.bp aF.pt h.pt⟩
abbrev A4:eZ:=me 3 (g2 (fb 0) (g2 (fb 1) (g2 (fb 2) md)))
theorem A5{u:bg}{fs:ZM}{h:ba->D}:∀{sh:ZN}{eM eL dB:aK}{k:ZK->Prop},(∀s∈sh,∀k:D->Prop,k (h s)->u (.val (.lst (s.1.map aQ))::.val (.bl s.2.1)::.val (aQ s.2.2)::fs) k)->k (sh.map h)->hI A4 iI u (sh.map bH) (eM::eL::dB::fs) k
 |[],_,_,_,_,_,ah=>ah
 |s::sh,eM,eL,dB,k,a2,ah=>by
  refine⟨_,rfl,rfl,_,_,rfl,_,_,rfl,_,_,rfl,rfl,?_⟩;show(if true=true then u (.val (.lst (s.1.map aQ))::.val (.bl s.2.1)::.val (aQ s.2.2)::fs) λy=>hI A4 iI u (sh.map bH) (.val (.lst (s.1.map aQ))::.val (.bl s.2.1)::.val (aQ s.2.2)::fs) λys=>k (y::ys)else hI A4 iI u (sh.map bH) (.val (.lst (s.1.map aQ))::.val (.bl s.2.1)::.val (aQ s.2.2)::fs) k)
  rw[Tk rfl];refine a2 s Sw _ ?_;exact A5 (λx al=>a2 x (Sy _ al)) ah
theorem PV(f:ab->ab)(ps:ZJ):(ps.map λp=>aQ (f p))=(ps.map f).map aQ:=by rw[SR];rfl
theorem F8{a b c:Nat}{s:cQ}{U:iE}(I:ZN->ZM->Prop):∀{sh done:ZN}{ρ:ZM},I done ρ->
  (∀pre x rest ρ,done++sh=pre++x::rest->I pre ρ->∀N:ZM->Prop,(∀r,I (pre++[x]) r->N r)->s {U with nx:=N,ct:=N,bk:=U.nx} (((ρ.set a (.val (.lst (x.1.map aQ)))).set b (.val (.bl x.2.1))).set c (.val (aQ x.2.2))))->
  (∀ρ,I (done++sh) ρ->U.nx ρ)->jP (me 3 (g2 (fb a) (g2 (fb b) (g2 (fb c) md)))) s U (sh.map bH) ρ
 |[],done,ρ,h0,_,aa=>aa ρ (by rw[SQ];exact h0)
 |x::sh,done,ρ,h0,h1,aa=>by
  refine⟨_,rfl,rfl,_,_,rfl,_,_,rfl,_,_,rfl,rfl,?_⟩;refine h1 done x sh ρ rfl h0 _ λr ao=>?_;refine F8 I ao (λpre y rest ρ e=>h1 pre y rest ρ (by rw[<-e];simp)) λρ h=>aa ρ ?_;have e:done++[x]++sh=done++x::sh:=by simp
  rw[<-e];exact h
def fT(s:ba):List ab:=if s.2.1=true then(s.1.map λp=>nP (sld (trn s.2.2) p)).map trn else s.1.map λp=>nP (sld (trn s.2.2) p)
theorem A6{α:Type}(xs:List α)(lo hi:Option Int):(gE xs lo hi).length<=xs.length:=by
 unfold gE;rw[TP,Ur];lia
theorem F9(x y:Int):Ss (Ss x 0:Nat) y=Ss x y:=by rw[WB];show Th (Int.natAbs (x.natAbs:Int)) y.natAbs=_;rw[WQ];rfl
theorem PW(x y:Int):Ss (Ss 0 x:Nat) y=Ss x y:=by rw[TX 0 x,F9]
theorem wE{w:Int×Int}(l:a3 w.1 w.2):aX (w.1,0,w.2):=⟨l.1,(F9 _ _).trans l.2⟩
theorem wF{w:Int×Int}(l:a3 w.1 w.2):aX (0,w.1,w.2):=⟨l.1,(PW _ _).trans l.2⟩
def dh(w h:Int×Int):ab:=cy (w.1*h.2) (h.1*w.2) (w.2*h.2)
def kv(w h:Int×Int):List ab:=[(0,0,1),(w.1,0,w.2),dh w h,(0,h.1,h.2)]
structure ie (w h:Int×Int):Prop where
 lw:a3 w.1 w.2
 lh:a3 h.1 h.2
 w0:0<w.1
 h0:0<h.1
theorem ie.top{w h:Int×Int}(b:ie w h):aX (dh w h)/\(dh w h).1*w.2=w.1*(dh w h).2.2/\(dh w h).2.1*h.2=h.1*(dh w h).2.2/\0<(dh w h).1/\0<(dh w h).2.1:=by
 have cd:w.2*h.2≠0:=l' b.lw.1 b.lh.1;obtain⟨p,ai,ar,_⟩:=lL (a:=w.1*h.2) (b:=h.1*w.2) cd;have p:aX (dh w h):=p;have ai:(dh w h).1*(w.2*h.2)=w.1*h.2*(dh w h).2.2:=ai;have ar:(dh w h).2.1*(w.2*h.2)=h.1*w.2*(dh w h).2.2:=ar;have aT:(dh w h).1*w.2=w.1*(dh w h).2.2:=TG (SA b.lh.1) (by grind);have bd:(dh w h).2.1*h.2=h.1*(dh w h).2.2:=TG (SA b.lw.1) (by grind);refine⟨p,aT,bd,?_,?_⟩
 ·have:0<(dh w h).1*w.2:=by rw[aT];exact SE b.w0 p.1
  exact UL this b.lw.1
 have:0<(dh w h).2.1*h.2:=by rw[bd];exact SE b.h0 p.1
 exact UL this b.lh.1
theorem pq{x:Int}(h:0<x):cJ x=1:=by unfold cJ;rw[Tk h]
section
variable{w h:Int×Int}
theorem ie.d012(b:ie w h):cJ (be (0,0,1) (w.1,0,w.2) (dh w h))=1:=by
 obtain⟨_,_,_,fe,e1⟩:=b.top;have e:be (0,0,1) (w.1,0,w.2) (dh w h)=w.1*(dh w h).2.1:=by unfold be crs;simp
 rw[e];exact pq (SE b.w0 e1)
theorem ie.d013(b:ie w h):cJ (be (0,0,1) (w.1,0,w.2) (0,h.1,h.2))=1:=by
 have e:be (0,0,1) (w.1,0,w.2) (0,h.1,h.2)=w.1*h.1:=by unfold be crs;simp
 rw[e];exact pq (SE b.w0 b.h0)
theorem ie.d023(b:ie w h):cJ (be (0,0,1) (dh w h) (0,h.1,h.2))=1:=by
 obtain⟨_,_,_,fe,e1⟩:=b.top;have e:be (0,0,1) (dh w h) (0,h.1,h.2)=(dh w h).1*h.1:=by unfold be crs;simp
 rw[e];exact pq (SE fe b.h0)
theorem ie.d312(b:ie w h):cJ (be (0,h.1,h.2) (w.1,0,w.2) (dh w h))=1:=by
 obtain⟨p,ai,ar,fe,e1⟩:=b.top;have e:be (0,h.1,h.2) (w.1,0,w.2) (dh w h)=h.1*w.1*(dh w h).2.2:=by unfold be crs;simp;grind
 rw[e];exact pq (SE (SE b.h0 b.w0) p.1)
end
theorem PX{p q r s:ab}(h1:cJ (be p q r)=1)(aa:cJ (be p q s)=1)(aH:cJ (be q r s)=1)(a6:cJ (be p r s)=1):fg [p,q,r,s]:=by
 have qM:∀a b c:ab,be b c a=be a b c:=λa b c=>by unfold be crs;grind
 refine⟨by simp,λk j ah bC c8 cO=>?_⟩;have l:[p,q,r,s].length=4:=rfl;rw[l]at ah bC cO⊢;have:k=0\/k=1\/k=2\/k=3:=by lia
 rcases this with rfl|rfl|rfl|rfl
 ·have:j=2\/j=3:=by lia
  rcases this with rfl|rfl
  ·exact h1
  exact aa
 ·have:j=0\/j=3:=by lia
  rcases this with rfl|rfl
  ·show cJ (be q r p)=1
   rw[qM p q r];exact h1
  exact aH
 ·have:j=0\/j=1:=by lia
  rcases this with rfl|rfl
  ·show cJ (be r s p)=1
   rw[qM p r s];exact a6
  show cJ (be r s q)=1
  rw[qM q r s];exact aH
 have:j=1\/j=2:=by lia
 rcases this with rfl|rfl
 ·show cJ (be s p q)=1
  rw[<-qM s p q];exact aa
 show cJ (be s p r)=1
 rw[<-qM s p r];exact a6
theorem ie.cvx{w h:Int×Int}(b:ie w h):fg (kv w h):=by
 refine PX b.d012 b.d013 ?_ b.d023;have:be (w.1,0,w.2) (dh w h) (0,h.1,h.2)=be (0,h.1,h.2) (w.1,0,w.2) (dh w h):=by unfold be crs;grind
 rw[this];exact b.d312
def bB(s w:Int×Int):Int×Int:=dF ((if s.1<0 then -s.1 else s.1)*w.1) (s.2*w.2)
def cV(s:Int×Int)(hi:Bool)(w:Int×Int):List ab:=
 if 0<s.1 then(if hi=true then[(0,0,1),dh w (bB s w),(0,(bB s w).1,(bB s w).2)]else[(0,0,1),(w.1,0,w.2),dh w (bB s w)])
 else(if hi=true then[(0,(bB s w).1,(bB s w).2),(w.1,0,w.2),dh w (bB s w)]else[(0,0,1),(w.1,0,w.2),(0,(bB s w).1,(bB s w).2)])
theorem r9{s w:Int×Int}(ls:a3 s.1 s.2)(lw:a3 w.1 w.2)(s0:s.1≠0)(w0:0<w.1):ie w (bB s w):=by
 have cd:0<s.2*w.2:=SE ls.1 lw.1;obtain⟨l,e,_,_⟩:=jx (t:=(if s.1<0 then -s.1 else s.1)*w.1) (SA cd);refine⟨lw,l,w0,?_⟩;have f7:0<(if s.1<0 then -s.1 else s.1):=by split<;>lia
 have:0<(bB s w).1*(s.2*w.2):=by
  show 0<(dF _ _).1*(s.2*w.2)
  rw[e];exact SE (SE f7 w0) l.1
 exact UL this cd
theorem PY{s w:Int×Int}(h:0<s.1):dF (s.1*w.1) (s.2*w.2)=bB s w:=by unfold bB;rw[Tl (by lia)]
theorem PZ{s w:Int×Int}(ls:a3 s.1 s.2)(lw:a3 w.1 w.2)(h:s.1<0):dF (s.1*w.1) (s.2*w.2)=(-(bB s w).1,(bB s w).2):=by
 unfold bB;rw[Tk h];have e:s.1*w.1 = -(-s.1*w.1):=by rw[Us,V6]
 rw[e,Pg (SE ls.1 lw.1)];rfl
theorem F'{ps:ZJ}{k:Nat}(h:k<ps.length):eu (ps.map aQ) ((k:Int)-1)=some (aQ (bx ps ((k+ps.length-1)%ps.length))):=by
 cases k with
 |zero=>
  have e:((0:Nat)+ps.length-1)%ps.length=ps.length-1:=by rw[U2];exact Td (by lia)
  rw[e,mo (by lia)];unfold eu ixN;rw[Tl (by lia),Tk (by rw[Sv];lia)];show(ps.map aQ)[_]?=_
  rw[SW,Sv,show(((0:Nat):Int)-1+(ps.length:Int)).toNat=ps.length-1 by lia,SU (by lia)];rfl
 |succ k=>
  have e:(k+1+ps.length-1)%ps.length=k:=by
   rw[show k+1+ps.length-1=k+ps.length by lia,UM];exact Td (by lia)
  rw[e,show(((k+1:Nat):Int)-1)=(k:Int) by lia];exact nq (by lia)
theorem Ga:eqD (.str "high") (.str "high")=true:=pd _
theorem Gb:eqD (.str "low") (.str "high")=false:=by
 unfold eqD;exact @decide_eq_false _ (T' _) λh=>absurd (D.str.inj h) (by decide)
section
variable{s w h:Int×Int}
theorem Gc(hi:Bool):(cV s hi w).length=3:=by unfold cV;split<;>split<;>rfl
theorem Gd(b:ie w (bB s w))(hi:Bool):fg (cV s hi w):=by
 unfold cV;split<;>split
 ·exact wD b.d023
 ·exact wD b.d012
 ·exact wD b.d312
 exact wD b.d013
theorem ie.gps(b:ie w h)(b1:SC w.1<=140)(b2:SC w.2<=140)(b3:SC h.1<=140)(b4:SC h.2<=140):cT 350 (0,0,1)/\cT 350 (w.1,0,w.2)/\cT 350 (dh w h)/\cT 350 (0,h.1,h.2):=by
 have m:∀{x:Int},SC x<=140->SC x<=350:=λh=>b8 h;have z:SC 0<=350:=by decide
 have cd:w.2*h.2≠0:=l' b.lw.1 b.lh.1;have kw:cp 350 (nP (w.1*h.2,h.1*w.2,w.2*h.2)):=cp.nP ⟨SD (TE b1 b4) (by decide),SD (TE b3 b2) (by decide),SD (TE b2 b4) (by decide)⟩ cd;exact⟨⟨⟨(show(0:Int)<1 by decide),(show Ss (Ss 0 0:Nat) 1=1 by decide)⟩,z,z,(show SC 1<=350 by decide)⟩,⟨wE b.lw,m b1,z,m b2⟩,⟨b.top.1,kw⟩,⟨wF b.lh,z,m b3,m b4⟩⟩
theorem ie.cornG(b:ie w (bB s w))(hi:Bool)(b1:SC w.1<=140)(b2:SC w.2<=140)(b3:SC (bB s w).1<=140)(b4:SC (bB s w).2<=140):∀p∈cV s hi w,cT 350 p:=λp ag=>by
 obtain⟨ft,aE,aI,g3⟩:=b.gps b1 b2 b3 b4;unfold cV at ag;split at ag<;>split at ag<;>(simp only[SG,TS,or_false]at ag;rcases ag with rfl|rfl|rfl<;>assumption)
end
theorem jW(p q r:ab):be q r p=be p q r:=by unfold be crs;grind
theorem t8(p q:ab):be p p q=0:=by unfold be crs;grind
theorem P1(o u a b c:ab):be o u b*be o a c=be o u a*be o b c+be o u c*be o a b:=by
 unfold be crs;grind
theorem Ge{x:Int}(h:cJ x=1):0<x:=by
 unfold cJ at h;split at h
 ·assumption
 split at h<;>lia
def qN(ps:ZJ):Prop:=∀i j k,i<j->j<k->k<ps.length->0<be (bx ps i) (bx ps j) (bx ps k)
theorem fg.edge{ps:ZJ}(h:fg ps){k j:Nat}(ah:k+1<ps.length)(bC:j<ps.length)(c8:j≠k)(cO:j≠k+1):0<be (bx ps k) (bx ps (k+1)) (bx ps j):=by
 have:=h.2 k j (by lia) bC c8 (by rw[Td ah];exact cO);rw[Td ah]at this;exact Ge this
theorem fg.tri{ps:ZJ}(h:fg ps):qN ps:=by
 intro i j k l5 gC ah;induction k with
 |zero=>lia
 |succ k b9=>
  by_cases e:j=k
  ·subst e;rw[<-jW];exact h.edge ah (by lia) (by lia) (by lia)
  have h1:=b9 (by lia) (by lia)
  have aa:0<be (bx ps i) (bx ps k) (bx ps (k+1)):=by
   rw[<-jW];exact h.edge ah (by lia) (by lia) (by lia)
  have b':=h.edge (k:=i) (j:=k) (by lia) (by lia) (by lia) (by lia);have mb:=h.edge (k:=i) (j:=k+1) (by lia) (by lia) (by lia) (by lia)
  have b5:0<=be (bx ps i) (bx ps (i+1)) (bx ps j):=by
   by_cases z:j=i+1
   ·subst z;have:be (bx ps i) (bx ps (i+1)) (bx ps (i+1))=0:=r8 _ _;lia
   exact Tg (h.edge (by lia) (by lia) (by lia) z)
  have cr:=P1 (bx ps i) (bx ps (i+1)) (bx ps j) (bx ps k) (bx ps (k+1));have aq:=Tu b5 (Tg aa);have aN:=SE mb h1;have:0<be (bx ps i) (bx ps (i+1)) (bx ps k)*be (bx ps i) (bx ps j) (bx ps (k+1)):=by lia
  exact T8 this b'
theorem qN.cvx{ps:ZJ}(ap:3<=ps.length)(h:qN ps):fg ps:=by
 refine⟨ap,λk j ah bC c8 cO=>pq ?_⟩;by_cases e:k+1<ps.length
 ·rw[Td e]at cO⊢;by_cases z:k<j
  ·exact h k (k+1) j (by lia) (by lia) bC
  rw[jW];exact h j k (k+1) (by lia) (by lia) e
 have kx:k+1=ps.length:=by lia
 rw[kx,V7]at cO⊢;rw[<-jW];exact h 0 j k (by lia) (by lia) ah
def T1(a:ab):ZJ->Prop
 |[]=>True
 |b::r=>(∀c∈r,0<be a b c)/\T1 a r
def T0:ZJ->Prop
 |[]=>True
 |a::r=>T1 a r/\T0 r
theorem T1.sub{a:ab}{l m:ZJ}(s:l.Sublist m):T1 a m->T1 a l:=by
 induction s with
 |slnil=>exact id
 |cons b s b9=>exact λh=>b9 h.2
 |cons_cons b s b9=>exact λh=>⟨λc hc=>h.1 c (s.subset hc),b9 h.2⟩
theorem T0.sub{l m:ZJ}(s:l.Sublist m):T0 m->T0 l:=by
 induction s with
 |slnil=>exact id
 |cons b s b9=>exact λh=>b9 h.2
 |cons_cons b s b9=>exact λh=>⟨T1.sub s h.1,b9 h.2⟩
theorem Gf(a:ab)(r:ZJ)(i:Nat):bx (a::r) (i+1)=bx r i:=rfl
theorem P2(a:ab)(r:ZJ):bx (a::r) 0=a:=rfl
theorem P3{r:ZJ}{i:Nat}(h:i<r.length):bx r i∈r:=by
 induction r generalizing i with
 |nil=>exact absurd h (by simp)
 |cons a r b9=>
  cases i with
  |zero=>exact Sw
  |succ i=>exact Sy _ (b9 (by simpa using h))
theorem P4{r:ZJ}{c:ab}(h:c∈r):∃i,i<r.length/\bx r i=c:=by
 induction r with
 |nil=>cases h
 |cons a r b9=>
  rcases SG.mp h with rfl|h
  ·exact⟨0,by simp,rfl⟩
  obtain⟨i,hi,e⟩:=b9 h;exact⟨i+1,by simpa using hi,e⟩
theorem wG(a:ab):∀r:ZJ,T1 a r↔∀j k,j<k->k<r.length->0<be a (bx r j) (bx r k)
 |[]=>⟨λ_ j k _ h=>absurd h (by simp),λ_=>trivial⟩
 |b::r=>by
  constructor
  ·rintro⟨h1,aa⟩ j k gC ah;cases k with
   |zero=>lia
   |succ k=>
    have ah:k<r.length:=by simpa using ah
    cases j with
    |zero=>exact h1 _ (P3 ah)
    |succ j=>exact(wG a r).mp aa j k (by lia) ah
  intro h;refine⟨λc hc=>?_,(wG a r).mpr λj k gC ah=>h (j+1) (k+1) (by lia) (by simpa using ah)⟩;obtain⟨i,hi,rfl⟩:=P4 hc;exact h 0 (i+1) (by lia) (by simpa using hi)
theorem qO:∀ps:ZJ,T0 ps↔qN ps
 |[]=>⟨λ_ i j k _ _ h=>absurd h (by simp),λ_=>trivial⟩
 |a::r=>by
  constructor
  ·rintro⟨h1,aa⟩ i j k l5 gC ah;cases k with
   |zero=>lia
   |succ k=>
    cases j with
    |zero=>lia
    |succ j=>
     have ah:k<r.length:=by simpa using ah
     cases i with
     |zero=>exact(wG a r).mp h1 j k (by lia) ah
     |succ i=>exact(qO r).mp aa i j k (by lia) (by lia) ah
  intro h;exact⟨(wG a r).mpr λj k gC ah=>h 0 (j+1) (k+1) (by lia) (by lia) (by simpa using ah),(qO r).mpr λi j k h1 aa ah=>h (i+1) (j+1) (k+1) (by lia) (by lia) (by simpa using ah)⟩
theorem t9(c a b:ab):crs c (crs a b)=hh (c.1*b.1+c.2.1*b.2.1+c.2.2*b.2.2) a (-(c.1*a.1+c.2.1*a.2.1+c.2.2*a.2.2)) b:=by
 unfold crs hh;refine e3 ?_ ?_ ?_<;>dsimp only<;>grind
theorem Gg(s t:Int)(a b q r:ab):be (hh s a t b) q r=s*be a q r+t*be b q r:=by unfold be crs hh;dsimp only;grind
theorem Gh(s:Int)(a q r:ab):be (sc s a) q r=s*be a q r:=by unfold be crs sc;dsimp only;grind
end Cut
namespace Cut
open PySem L2 L3
theorem Gi{b a:ab}:∀{r:ZJ},T1 b r->(∀c∈r,0<be b c a)->T1 b (r++[a])
 |[],_,_=>⟨λc hc=>absurd hc (by simp),trivial⟩
 |d::r,h,k=>⟨λc hc=>by
   rcases SK.mp hc with hc|hc
   ·exact h.1 c hc
   rw[SN.mp hc];exact k d Sw,Gi h.2 λc hc=>k c (Sy _ hc)⟩
theorem Gj{a:ab}:∀{r:ZJ},T0 r->T1 a r->T0 (r++[a])
 |[],_,_=>⟨trivial,trivial⟩
 |b::r,h,k=>⟨Gi h.1 λc hc=>by rw[jW];exact k.1 c hc,Gj h.2 k.2⟩
theorem T0.rot{a:ab}{r:ZJ}(h:T0 (a::r)):T0 (r++[a]):=Gj h.2 h.1
def ua:ZJ->ZJ->Prop
 |[],_=>True
 |x::xs,dM=>(∀y∈xs,∀z∈dM,0<be x y z)/\ua xs dM
theorem wH{x:ab}:∀{xs dM:ZJ},T1 x (xs++dM)↔T1 x xs/\T1 x dM/\∀y∈xs,∀z∈dM,0<be x y z
 |[],dM=>⟨λh=>⟨trivial,h,λy aP=>absurd aP (by simp)⟩,λh=>h.2.1⟩
 |y::xs,dM=>by
  constructor
  ·rintro⟨h1,aa⟩;obtain⟨ci,cu,gt⟩:=wH.mp aa;refine⟨⟨λc hc=>h1 c (TC _ hc),ci⟩,cu,λw hw z hz=>?_⟩;rcases SG.mp hw with rfl|hw
   ·exact h1 z (S5 _ hz)
   exact gt w hw z hz
  rintro⟨⟨h1,aa⟩,aH,a6⟩;refine⟨λc hc=>?_,wH.mpr ⟨aa,aH,λw hw z hz=>a6 w (Sy _ hw) z hz⟩⟩;rcases SK.mp hc with hc|hc
  ·exact h1 c hc
  exact a6 y Sw c hc
theorem mq:∀{xs dM:ZJ},T0 (xs++dM)↔T0 xs/\T0 dM/\(∀x∈xs,T1 x dM)/\ua xs dM
 |[],dM=>⟨λh=>⟨trivial,h,λy aP=>absurd aP (by simp),trivial⟩,λh=>h.2.1⟩
 |x::xs,dM=>by
  constructor
  ·rintro⟨h1,aa⟩;obtain⟨ci,cu,gt,gg⟩:=mq.mp aa;obtain⟨cS,eN,pr⟩:=wH.mp h1;refine⟨⟨cS,ci⟩,cu,λw hw=>?_,⟨pr,gg⟩⟩;rcases SG.mp hw with rfl|hw
   ·exact eN
   exact gt w hw
  rintro⟨⟨h1,aa⟩,aH,a6,cH,ey⟩;exact⟨wH.mpr ⟨h1,a6 x Sw,cH⟩,mq.mpr ⟨aa,aH,λw hw=>a6 w (Sy _ hw),ey⟩⟩
theorem wI{dM fZ:ZJ}(h:∀x y,(∀z∈dM,0<be x y z)->∀z∈fZ,0<be x y z):∀{xs:ZJ},ua xs dM->ua xs fZ
 |[],_=>trivial
 |x::xs,k=>⟨λy aP=>h x y (k.1 y aP),wI h k.2⟩
def hj(p q m:ab):Prop:=∃s a b:Int,0<s/\0<a/\0<b/\sc s m=hh a p b q
theorem P5{s x y:Int}(av:0<s)(e:s*x=y)(aP:0<y):0<x:=by
 rw[<-e]at aP;exact T8 aP av
theorem ub{p q m u v:ab}(h:hj p q m)(h1:0<=be p u v)(aa:0<=be q u v)(aH:0<be p u v\/0<be q u v):0<be m u v:=by
 obtain⟨s,a,b,av,aw,ae,e⟩:=h;have k:s*be m u v=a*be p u v+b*be q u v:=by rw[<-Gh,e,Gg]
 refine P5 av k ?_;have c8:=Tu (Tg aw) h1;have cO:=Tu (Tg ae) aa;rcases aH with aH|aH
 ·have:=SE aw aH;lia
 have:=SE ae aH;lia
theorem qP{p q m u v:ab}(h:hj p q m)(h1:0<=be u p v)(aa:0<=be u q v)(aH:0<be u p v\/0<be u q v):0<be u m v:=by
 rw[<-jW]at h1 aa⊢;rw[<-jW u p v,<-jW u q v]at aH;exact ub h h1 aa aH
theorem qQ{p q m u v:ab}(h:hj p q m)(h1:0<=be u v p)(aa:0<=be u v q)(aH:0<be u v p\/0<be u v q):0<be u v m:=by
 rw[jW]at h1 aa⊢;rw[jW p u v,jW q u v]at aH;exact ub h h1 aa aH
theorem A7{p q m:ab}(h:hj p q m):∀{ys:ZJ},T1 p ys->T1 q ys->T1 m ys
 |[],_,_=>trivial
 |y::ys,h1,aa=>⟨λc hc=>ub h (Tg (h1.1 c hc)) (Tg (aa.1 c hc)) (.inl (h1.1 c hc)),A7 h h1.2 aa.2⟩
theorem fO{x:Int}(z:0<x):0<=x:=Tg z
theorem oo{x:Int}(z:x=0):0<=x:=by lia
theorem T0.back{xs ys:ZJ}{p q m:ab}(h:T0 (xs++p::q::ys))(aA:hj p q m):T0 (xs++p::m::ys):=by
 obtain⟨h1,⟨⟨p1,p2⟩,aM,a4⟩,aH,a6⟩:=mq.mp h;refine mq.mpr ⟨h1,⟨⟨λc hc=>?_,p2⟩,A7 aA p2 aM,a4⟩,λx al=>?_,wI (λx y hz z hw=>?_) a6⟩
 ·exact qP aA (oo (t8 p c)) (fO (p1 c hc)) (.inr (p1 c hc))
 ·obtain⟨ci,cu,gt⟩:=aH x al;refine⟨λc hc=>?_,λc hc=>?_,gt⟩
  ·rcases SG.mp hc with rfl|hc
   ·exact qQ aA (oo (r8 x p)) (fO (ci q Sw)) (.inr (ci q Sw))
   exact ci c (Sy _ hc)
  exact qP aA (fO (ci c (Sy _ hc))) (fO (cu c hc)) (.inr (cu c hc))
 rcases SG.mp hw with rfl|hw
 ·exact hz _ Sw
 rcases SG.mp hw with rfl|hw
 ·exact qQ aA (fO (hz p Sw)) (fO (hz q (Sy _ Sw))) (.inl (hz p Sw))
 exact hz z (Sy _ (Sy _ hw))
theorem T0.on{xs ys:ZJ}{p q m:ab}(h:T0 (xs++p::q::ys))(aA:hj p q m):T0 (xs++m::q::ys):=by
 obtain⟨h1,⟨⟨p1,p2⟩,aM,a4⟩,aH,a6⟩:=mq.mp h;refine mq.mpr ⟨h1,⟨⟨λc hc=>?_,A7 aA p2 aM⟩,aM,a4⟩,λx al=>?_,wI (λx y hz z hw=>?_) a6⟩
 ·exact ub aA (fO (p1 c hc)) (oo (t8 q c)) (.inl (p1 c hc))
 ·obtain⟨ci,cu,gt⟩:=aH x al;refine⟨λc hc=>?_,cu,gt⟩;rcases SG.mp hc with rfl|hc
  ·exact qP aA (fO (ci c Sw)) (oo (r8 x c)) (.inl (ci c Sw))
  exact qP aA (fO (ci c (Sy _ hc))) (fO (cu c hc)) (.inr (cu c hc))
 rcases SG.mp hw with rfl|hw
 ·exact qQ aA (fO (hz p Sw)) (fO (hz q (Sy _ Sw))) (.inl (hz p Sw))
 exact hz z (Sy _ hw)
theorem T0.off{xs ys:ZJ}{p q r m n:ab}(h:T0 (xs++p::q::r::ys))(aA:hj p q m)(aO:hj q r n):T0 (xs++p::m::n::r::ys):=by
 have ai:=T0.on (xs:=xs++[p]) (p:=q) (q:=r) (by rw[SV];exact h) aO;rw[SV]at ai;obtain⟨h1,⟨⟨p1,p2⟩,aM,a4⟩,aH,a6⟩:=mq.mp h;obtain⟨_,⟨⟨ca,cn⟩,b1,b2⟩,c3,c4⟩:=mq.mp (show T0 (xs++p::n::r::ys)from ai);have P6:T0 (xs++p::m::r::ys):=h.back aA;obtain⟨_,⟨⟨b7,cc⟩,aT,bd⟩,g3,fE⟩:=mq.mp P6;have Gk:0<be p q n:=qQ aO (oo (r8 p q)) (fO (p1 r Sw)) (.inr (p1 r Sw))
 have P7:∀c∈r::ys,0<be m n c:=λc hc=>by
  refine ub aA (fO (ca c hc)) ?_ (.inl (ca c hc));rcases SG.mp hc with rfl|hc
  ·exact oo (by
    obtain⟨s,a,b,av,_,_,e⟩:=aO
    have k:s*be q n c=a*be q q c+b*be q c c:=by
     rw[<-jW q n c,<-jW q q c,<-jW q c c,<-Gh,e,Gg]
    rw[t8,r8,S2,S2]at k;rcases Tt.mp k with z|z
    ·lia
    exact z)
  exact fO (qP aO (oo (t8 q c)) (fO (aM.1 c hc)) (.inr (aM.1 c hc)))
 refine mq.mpr ⟨h1,⟨⟨λc hc=>?_,ca,cn⟩,⟨P7,aT⟩,b1,b2⟩,λx al=>?_,wI (λx y hz z hw=>?_) a6⟩
 ·rcases SG.mp hc with rfl|hc
  ·exact qP aA (oo (t8 p c)) (fO Gk) (.inr Gk)
  exact b7 c hc
 ·obtain⟨ci,cu,gt⟩:=aH x al;obtain⟨bQ,bS,e2⟩:=c3 x al;obtain⟨ky,kA,wJ⟩:=g3 x al;refine⟨λc hc=>?_,λc hc=>?_,bS,e2⟩
  ·rcases SG.mp hc with rfl|hc
   ·exact ky c Sw
   exact bQ c hc
  rcases SG.mp hc with rfl|hc
  ·have Gl:0<be x q c:=qQ aO (oo (r8 x q)) (fO (cu r Sw)) (.inr (cu r Sw));exact qP aA (fO (bQ c Sw)) (fO Gl) (.inr Gl)
  exact kA c hc
 have A8:=hz q (Sy _ Sw);have A9:=hz p Sw;have P8:=hz r (Sy _ (Sy _ Sw));rcases SG.mp hw with rfl|hw
 ·exact A9
 rcases SG.mp hw with rfl|hw
 ·exact qQ aA (fO A9) (fO A8) (.inl A9)
 rcases SG.mp hw with rfl|hw
 ·exact qQ aO (fO A8) (fO P8) (.inl A8)
 exact hz z (Sy _ (Sy _ hw))
def ln(l p:ab):Int:=l.1*p.1+l.2.1*p.2.1+l.2.2*p.2.2
theorem P9(l p q r s:ab):be q r s*ln l p-be p r s*ln l q+be p q s*ln l r-be p q r*ln l s=0:=by
 unfold be crs ln;grind
theorem T1.one{a:ab}:∀{xs:ZJ},ua xs [a]->T1 a xs
 |[],_=>trivial
 |x::xs,h=>⟨λc hc=>by rw[<-jW];exact h.1 c hc a Sw,T1.one h.2⟩
theorem T0.unrot{a:ab}{r:ZJ}(h:T0 (r++[a])):T0 (a::r):=by
 obtain⟨h1,_,_,a6⟩:=mq.mp h;exact⟨T1.one a6,h1⟩
theorem T0.turn:∀{xs ys:ZJ},T0 (xs++ys)->T0 (ys++xs)
 |[],ys,h=>by rw[SQ];exact h
 |x::xs,ys,h=>by
  have h1:T0 (xs++(ys++[x])):=by rw[<-SV];exact T0.rot h
  have aa:=T0.turn h1;rwa[SV]at aa
section
variable(f:ab->Int)(mt:ab->ab->ab)
def kp(p:ab):List ab:=if 0<=f p then[p]else[]
def cB(p q:ab):List ab:=if f p*f q<0 then[mt p q]else[]
def di:ZJ->ab->ZJ
 |[],_=>[]
 |p::r,w=>kp f p++cB f mt p (r.headD w)++di r w
def dz(ps:ZJ):List ab:=di f mt ps (ps.headD (0,0,1))
end
variable{f:ab->Int}{mt:ab->ab->ab}
theorem P'(xs ys:ZJ)(w:ab):(xs++ys).headD w=xs.headD (ys.headD w):=by
 cases xs<;>rfl
theorem uc(w:ab):∀xs ys:ZJ,di f mt (xs++ys) w=di f mt xs (ys.headD w)++di f mt ys w
 |[],_=>rfl
 |p::xs,ys=>by
  show kp f p++cB f mt p ((xs++ys).headD w)++di f mt (xs++ys) w=kp f p++cB f mt p (xs.headD (ys.headD w))++di f mt xs (ys.headD w)++di f mt ys w
  rw[uc w xs ys,P',SV,SV,SV]
theorem Qa(xs ys:ZJ):∃P Q,dz f mt (xs++ys)=P++Q/\dz f mt (ys++xs)=Q++P:=by
 cases xs with
 |nil=>exact⟨[],dz f mt ys,rfl,by rw[SQ,SQ]⟩
 |cons x xs=>
  cases ys with
  |nil=>exact⟨dz f mt (x::xs),[],by rw[SQ,SQ],rfl⟩
  |cons y ys=>
   refine⟨di f mt (x::xs) y,di f mt (y::ys) x,?_,?_⟩
   ·unfold dz;rw[uc];rfl
   unfold dz;rw[uc];rfl
theorem Gm{xs ys:ZJ}(h:T0 (dz f mt (ys++xs))/\3<=(dz f mt (ys++xs)).length):T0 (dz f mt (xs++ys))/\3<=(dz f mt (xs++ys)).length:=by
 obtain⟨P,Q,ai,ar⟩:=Qa (f:=f) (mt:=mt) xs ys;rw[ai];rw[ar]at h;refine⟨T0.turn h.1,?_⟩;have:=h.2;rw[Sx]at this⊢;lia
theorem A'{w:ab}:∀{a:ab}{A:ZJ},(∀p∈A++[a],0<=f p)->di f mt (A++[a]) w=A++[a]++cB f mt a w
 |a,[],h=>by
  show kp f a++cB f mt a w++[]=[a]++cB f mt a w
  unfold kp;rw[Tk (h a (by simp)),SQ]
 |a,p::A,h=>by
  show kp f p++cB f mt p ((A++[a]).headD w)++di f mt (A++[a]) w=p::A++[a]++cB f mt a w
  rw[A' λq ay=>h q (Sy _ ay)];have ag:=h p Sw
  have ay:0<=f ((A++[a]).headD w):=by
   cases A with
   |nil=>exact h a (by simp)
   |cons b A=>exact h b (by simp)
  unfold kp cB;rw[Tk ag,Tl (by have:=Tu ag ay;lia)];simp
theorem Gn{w:ab}:∀{s:ab}{N:ZJ},(∀p∈N++[s],f p<0)->di f mt (N++[s]) w=cB f mt s w
 |s,[],h=>by
  show kp f s++cB f mt s w++[]=cB f mt s w
  unfold kp;rw[Tl (by have:=h s (by simp);lia),SQ,Te]
 |s,p::N,h=>by
  show kp f p++cB f mt p ((N++[s]).headD w)++di f mt (N++[s]) w=cB f mt s w
  rw[Gn λq ay=>h q (Sy _ ay)];have ag:=h p Sw
  have ay:f ((N++[s]).headD w)<0:=by
   cases N with
   |nil=>exact h s (by simp)
   |cons b N=>exact h b (by simp)
  unfold kp cB;rw[Tl (by lia),Tl (by have:=Uw ag ay;lia)];rfl
def Meets(f:ab->Int)(mt:ab->ab->ab):Prop:=∀p q,f p*f q<0->hj p q (mt p q)
theorem mr{p q:ab}(h:f p*f q<0):cB f mt p q=[mt p q]:=by unfold cB;rw[Tk h]
theorem lO{p q:ab}(h:¬f p*f q<0):cB f mt p q=[]:=by unfold cB;rw[Tl h]
theorem neg_mul{a b:Int}(aw:0<a)(ae:b<0):a*b<0:=S1 aw ae
theorem Qb{b:ab}{A N:ZJ}{s:ab}(hQ:Meets f mt)(h:T0 ((A++[b])++(N++[s])))(h2:∀p∈A++[b],0<=f p)(bF:∀p∈N++[s],f p<0)(ap:3<=((A++[b])++(N++[s])).length)(ag:∃p∈A++[b],0<f p):
  T0 (dz f mt ((A++[b])++(N++[s])))/\3<=(dz f mt ((A++[b])++(N++[s]))).length:=by
 obtain⟨a,ig,dv⟩:∃a ig,A++[b]=a::ig:=by
  cases A with
  |nil=>exact⟨b,[],rfl⟩
  |cons a A=>exact⟨a,A++[b],rfl⟩
 obtain⟨n,pu,nt⟩:∃n pu,N++[s]=n::pu:=by
  cases N with
  |nil=>exact⟨s,[],rfl⟩
  |cons n N=>exact⟨n,N++[s],rfl⟩
 have fB:0<=f a:=h2 a (by rw[dv];exact Sw);have wK:0<=f b:=h2 b (by simp);have fn:f n<0:=bF n (by rw[nt];exact Sw);have fs:f s<0:=bF s (by simp)
 have e:dz f mt ((A++[b])++(N++[s]))=(A++[b])++cB f mt b n++cB f mt s a:=by
  unfold dz;rw[uc,A' h2,Gn bF,dv,nt];rfl
 rw[e]
 have two:N≠[]->T0 ((A++[b])++[n,s]):=λz=>by
  refine T0.sub (Ux (Vj _) ?_) h;cases N with
  |nil=>exact absurd rfl z
  |cons m N=>
   have:m=n:=(Ub nt).1;subst this;exact WR _ (WS N [s])
 have Qc:T0 ((A++[b])++[n]):=T0.sub (Ux (Vj _) (UN.mpr (by rw[nt];exact Sw))) h;have Ba:T0 ((A++[b])++[s]):=T0.sub (Ux (Vj _) (UN.mpr (by simp))) h;by_cases ae:0<f b
 ·have gU:f b*f n<0:=neg_mul ae fn;have Bb:=hQ b n gU;rw[mr gU];by_cases aw:0<f a
  ·have jK:f s*f a<0:=by rw[S6];exact neg_mul aw fs
   have wL:=hQ s a jK;rw[mr jK];refine⟨?_,by simp⟩;by_cases z:N=[]
   ·subst z;have es:s=n:=(Ub nt).1;subst es;cases A with
    |nil=>simp at ap
    |cons cn oq=>
     have:cn=a:=(Ub dv).1;subst this
     have aq:T0 (oq++b::s::cn::[]):=by
      have:=T0.rot (a:=cn) (r:=oq++[b]++[s]) Ba;simpa using this
     have aN:=T0.unrot (a:=cn) (r:=oq++[b,mt b s,mt s cn]) (by simpa using aq.off Bb wL);simpa using aN
   have t:=two z;have aq:T0 (A++b::mt b n::[s]):=T0.back (by simpa using t) Bb
   have aN:T0 (a::(ig++[mt b n,s])):=by
    have:T0 ((A++[b])++[mt b n,s]):=by simpa using aq
    rwa[dv]at this
   have d2:T0 ((ig++[mt b n])++s::a::[]):=by simpa using T0.rot aN
   have ht:=T0.unrot (a:=a) (r:=ig++[mt b n,mt s a]) (by simpa using d2.on wL);rw[dv];simpa using ht
  have f7:f a=0:=by lia
  have kK:A≠[]:=by
   rintro rfl;have:b=a:=(Ub dv).1;subst this;exact aw ae
  rw[lO (by rw[f7,S2];lia),SQ];refine⟨?_,?_⟩
  ·have r:=T0.back (xs:=A) (p:=b) (q:=n) (ys:=[]) (by simpa using Qc) Bb;simpa using r
  have:=WT.mpr kK;simp;lia
 have kt:f b=0:=by lia
 rw[lO (by rw[kt,TZ];lia),SQ];by_cases aw:0<f a
 ·have jK:f s*f a<0:=by rw[S6];exact neg_mul aw fs
  have wL:=hQ s a jK
  have kK:A≠[]:=by
   rintro rfl;have:b=a:=(Ub dv).1;subst this;exact ae aw
  rw[mr jK];refine⟨?_,?_⟩
  ·have aq:T0 (a::(ig++[s])):=by rwa[dv]at Ba
   have d2:T0 (ig++s::a::[]):=by simpa using T0.rot aq
   have ht:=T0.unrot (a:=a) (r:=ig++[mt s a]) (by simpa using d2.on wL);rw[dv];exact ht
  have:=WT.mpr kK;simp;lia
 have f7:f a=0:=by lia
 rw[lO (by rw[f7,S2];lia),SQ];refine⟨T0.sub (List.sublist_append_left _ _) h,?_⟩;obtain⟨p,ms,pv⟩:=ag;have ai:p≠b:=by rintro rfl;lia
 have ar:p≠a:=by rintro rfl;lia
 have Go:p∈A:=by
  rcases SK.mp ms with q|q
  ·exact q
  exact absurd (SN.mp q) ai
 cases A with
 |nil=>cases Go
 |cons cn oq=>
  have:cn=a:=(Ub dv).1;subst this;rcases SG.mp Go with q|q
  ·exact absurd q ar
  have:=List.length_pos_of_mem q;simp;lia
theorem wM{P:ab->Prop}:∀ps:ZJ,(∀p,P p\/¬P p)->∃A r,ps=A++r/\(∀p∈A,P p)/\(r=[]\/∃x dn,r=x::dn/\¬P x)
 |[],_=>⟨[],[],rfl,λp ag=>absurd ag (by simp),.inl rfl⟩
 |p::ps,em=>by
  rcases em p with h|h
  ·obtain⟨A,r,e,h2,ao⟩:=wM ps em;refine⟨p::A,r,by rw[e];rfl,λq ay=>?_,ao⟩;rcases SG.mp ay with rfl|ay
   ·exact h
   exact h2 q ay
  exact⟨[],p::ps,rfl,λq ay=>absurd ay (by simp),.inr ⟨p,ps,rfl,h⟩⟩
theorem Gp{l p q r s:ab}(h:T0 [p,q,r,s]):¬(0<=ln l p/\ln l q<0/\0<=ln l r/\ln l s<0)/\¬(ln l p<0/\0<=ln l q/\ln l r<0/\0<=ln l s):=by
 obtain⟨⟨h1,aa,_⟩,⟨aH,_⟩,_⟩:=h;have b7:=h1 r (by simp);have cc:=h1 s (by simp);have d3:=aa s (by simp);have d4:=aH s (by simp);have k:=P9 l p q r s;constructor
 ·rintro⟨a,b,c,d⟩;have dg:=Tu (fO d4) a;have cU:=S1 d3 b;have jp:=Tu (fO cc) c;have Qd:=S1 b7 d;lia
 rintro⟨a,b,c,d⟩;have dg:=S1 d4 a;have cU:=Tu (fO d3) b;have jp:=S1 cc c;have Qd:=Tu (fO b7) d;lia
theorem Gq{a b c d:ab}{A B C D:ZJ}(aw:a∈A)(ae:b∈B)(hc:c∈C)(hd:d∈D):[a,b,c,d].Sublist (A++(B++(C++D))):=
 Ux (UN.mpr aw) (Ux (UN.mpr ae) (Ux (UN.mpr hc) (UN.mpr hd)))
theorem Qe{l:ab}{ps:ZJ}(hQ:Meets (ln l) mt)(h:T0 ps)(ap:3<=ps.length)(ag:∃p∈ps,0<ln l p):T0 (dz (ln l) mt ps)/\3<=(dz (ln l) mt ps).length:=by
 have em:∀p,0<=ln l p\/¬0<=ln l p:=λp=>by lia
 have norm:∀A N:ZJ,A≠[]->N≠[]->T0 (A++N)->3<=(A++N).length->(∀p∈A,0<=ln l p)->(∀p∈N,ln l p<0)->(∃p∈A,0<ln l p)->T0 (dz (ln l) mt (A++N))/\3<=(dz (ln l) mt (A++N)).length:=λA N h2 bF ea len Bc Qf ex=>by
  obtain⟨ig,b,rfl⟩:∃ig b,A=ig++[b]:=⟨_,_,(V8 h2).symm⟩;obtain⟨pu,s,rfl⟩:∃pu s,N=pu++[s]:=⟨_,_,(V8 bF).symm⟩;exact Qb hQ ea Bc Qf len ex
 obtain⟨r',r,rfl,ud,ao⟩:=wM (P:=λp=>0<=ln l p) ps em;rcases ao with rfl|⟨x,dn,rfl,al⟩
 ·rw[SQ]at h ap ag⊢;have ne:r'≠[]:=by rintro rfl;simp at ap
  obtain⟨ig,b,rfl⟩:∃ig b,r'=ig++[b]:=⟨_,_,(V8 ne).symm⟩
  have e:dz (ln l) mt (ig++[b])=ig++[b]:=by
   unfold dz;rw[A' ud,lO,SQ];have h1:=ud b (by simp)
   have aa:0<=ln l ((ig++[b]).headD (0,0,1)):=by
    cases ig with
    |nil=>exact h1
    |cons a ig=>exact ud a (by simp)
   have:=Tu h1 aa;lia
  rw[e];exact⟨h,ap⟩
 obtain⟨kZ,aN,ar,Qg,Bd⟩:=wM (P:=λp=>¬0<=ln l p) (x::dn) (λp=>by lia)
 have Be:kZ≠[]:=by
  rintro rfl;rcases Bd with rfl|⟨y,q,e,aP⟩
  ·cases ar
  rw[e]at ar;have:x=y:=(Ub ar).1;subst this;exact aP al
 have qR:∀p∈kZ,ln l p<0:=λp ag=>by have:=Qg p ag;lia
 obtain⟨c8,wN⟩:=V9 kZ Be;rw[ar]at h ap ag⊢;by_cases Bf:r'=[]
 ·subst Bf;simp only[Te]at h ap ag⊢;rcases Bd with rfl|⟨y,q,rfl,aP⟩
  ·obtain⟨p,ms,pv⟩:=ag;rw[SQ]at ms;have:=qR p ms;lia
  have aP:0<=ln l y:=by lia
  obtain⟨oq,d2,bb,Gr,Gs⟩:=wM (P:=λp=>0<=ln l p) (y::q) em
  have Gu:oq≠[]:=by
   rintro rfl;rcases Gs with rfl|⟨z,ho,e,hz⟩
   ·cases bb
   rw[e]at bb;have:y=z:=(Ub bb).1;subst this;exact hz aP
  rw[bb]at h ap ag⊢
  have Gv:∀w∈d2,ln l w<0:=λw hw=>by
   rcases Gs with rfl|⟨z,ho,rfl,hz⟩
   ·cases hw
   by_cases jX:0<=ln l w
   ·rcases SG.mp hw with rfl|hw
    ·exact absurd jX hz
    obtain⟨cn,Gw⟩:=V9 oq Gu;have t:=T0.sub (Gq (a:=c8) (b:=cn) (c:=z) (d:=w) (A:=kZ) (B:=oq) (C:=[z]) (D:=ho) wN Gw Sw hw) (by simpa using h);exact absurd ⟨qR c8 wN,Gr cn Gw,by lia,jX⟩ (Gp t).2
   lia
  refine Gm ?_;rw[SV];refine norm oq (d2++kZ) Gu (by simp[Be]) (by rw[<-SV];exact T0.turn h) (by simp at ap⊢;lia) Gr (λp ag=>?_) ?_
  ·rcases SK.mp ag with z|z
   ·exact Gv p z
   exact qR p z
  obtain⟨p,ms,pv⟩:=ag;refine⟨p,?_,pv⟩;rcases SK.mp ms with z|z
  ·have:=qR p z;lia
  rcases SK.mp z with z|z
  ·exact z
  have:=Gv p z;lia
 obtain⟨ca,wO⟩:=V9 r' Bf
 have Qh:∀w∈aN,0<=ln l w:=λw hw=>by
  rcases Bd with rfl|⟨y,q,rfl,aP⟩
  ·cases hw
  by_cases jX:0<=ln l w
  ·exact jX
  have aP:0<=ln l y:=by lia
  rcases SG.mp hw with rfl|hw
  ·exact aP
  have t:=T0.sub (Gq (a:=ca) (b:=c8) (c:=y) (d:=w) (A:=r') (B:=kZ) (C:=[y]) (D:=q) wO wN Sw hw) (by simpa using h);exact absurd ⟨ud ca wO,qR c8 wN,aP,by lia⟩ (Gp t).1
 rw[<-SV]at h ap ag⊢;refine Gm ?_;rw[<-SV];refine norm (aN++r') kZ (by simp[Bf]) Be (by rw[SV];exact T0.turn h) (by simp at ap⊢;lia) (λp ag=>?_) qR ?_
 ·rcases SK.mp ag with z|z
  ·exact Qh p z
  exact ud p z
 obtain⟨p,ms,pv⟩:=ag;refine⟨p,?_,pv⟩;rcases SK.mp ms with z|z
 ·rcases SK.mp z with z|z
  ·exact S5 _ z
  have:=qR p z;lia
 exact TC _ z
end Cut
namespace Cut
open PySem L2 L3
def a1(l p q:ab):ab:=if 0<p.2.2/\0<q.2.2 then nP (crs l (crs p q))else if 0<ln l q then hh (ln l q) p (-ln l p) q else hh (-ln l q) p (ln l p) q
theorem mv{x y:Int}(h:x*y<0):(0<x/\y<0)\/(x<0/\0<y):=by
 rcases T3 x 0 with z|z|z
 ·rcases T3 y 0 with w|w|w
  ·have:=Uw z w;lia
  ·rw[w,S2]at h;lia
  exact .inr ⟨z,w⟩
 ·rw[z,TZ]at h;lia
 rcases T3 y 0 with w|w|w
 ·exact .inl ⟨z,w⟩
 ·rw[w,S2]at h;lia
 have:=SE z w;lia
theorem Gx(p:ab):sc 1 p=p:=by unfold sc;simp
theorem Qi{g a b:Int}{m p q:ab}(h:hh a p b q=sc g m):sc (-g) m=hh (-a) p (-b) q:=by
 have h1:=UF (λx:ab=>x.1) h;have aa:=UF (λx:ab=>x.2.1) h;have aH:=UF (λx:ab=>x.2.2) h;unfold sc hh at *;dsimp only at h1 aa aH⊢;refine e3 ?_ ?_ ?_<;>dsimp only<;>grind
theorem sb{l p q:ab}(h:ln l p*ln l q<0):hj p q (a1 l p q):=by
 unfold a1;by_cases w:0<p.2.2/\0<q.2.2
 ·rw[Tk w];have k0:crs l (crs p q)=hh (ln l q) p (-ln l p) q:=t9 l p q;have bb:(crs l (crs p q)).2.2=ln l q*p.2.2 + -ln l p*q.2.2:=by rw[k0];rfl
  rcases mv h with⟨h1,aa⟩|⟨h1,aa⟩
  ·have c8:ln l q*p.2.2<0:=by rw[S6];exact S1 w.1 aa
   have cO : -ln l p*q.2.2<0:=by rw[S6];exact S1 w.2 (by lia)
   have cd:(crs l (crs p q)).2.2≠0:=by lia
   obtain⟨g,_,aF⟩:=kr cd;have ag:=(gv cd).1;have aH:(crs l (crs p q)).2.2=g*(nP (crs l (crs p q))).2.2:=UF (λx:ab=>x.2.2) aF
   have ft:g<0:=by
    by_cases z:g<0
    ·exact z
    have:=Tu (show 0<=g by lia) (fO ag);lia
   rw[k0]at aF;refine⟨-g,-ln l q,ln l p,by lia,by lia,h1,?_⟩;have:=Qi aF;rwa[V6,<-k0]at this
  have c8:0<ln l q*p.2.2:=SE aa w.1;have cO:0 < -ln l p*q.2.2:=SE (by lia) w.2;have cd:(crs l (crs p q)).2.2≠0:=by lia
  obtain⟨g,_,aF⟩:=kr cd;have ag:=(gv cd).1;have aH:(crs l (crs p q)).2.2=g*(nP (crs l (crs p q))).2.2:=UF (λx:ab=>x.2.2) aF
  have ft:0<g:=by
   by_cases z:0<g
   ·exact z
   have:=Tu (show 0 <= -g by lia) (fO ag);rw[Us]at this;lia
  refine⟨g,ln l q,-ln l p,ft,aa,by lia,?_⟩;rw[<-aF,k0]
 rw[Tl w];rcases mv h with⟨h1,aa⟩|⟨h1,aa⟩
 ·rw[Tl (by lia)];exact⟨1,_,_,by decide,by lia,h1,Gx _⟩
 rw[Tk aa];exact⟨1,_,_,by decide,aa,by lia,Gx _⟩
theorem wP(l p q:ab)(a b:Int):ln l (hh a p b q)=a*ln l p+b*ln l q:=by unfold ln hh;dsimp only;grind
theorem Bg(l p:ab)(s:Int):ln l (sc s p)=s*ln l p:=by unfold ln sc;dsimp only;grind
theorem Gy{f:ab->Int}{mt:ab->ab->ab}{x:ab}:∀{ps:ZJ}{w:ab},x∈di f mt ps w->(x∈ps/\0<=f x)\/∃p∈ps,∃q,(q∈ps\/q=w)/\f p*f q<0/\x=mt p q
 |[],_,h=>by cases h
 |p::r,w,h=>by
  have h:x∈kp f p++cB f mt p (r.headD w)++di f mt r w:=h;rcases SK.mp h with h|h
  ·rcases SK.mp h with h|h
   ·unfold kp at h;split at h
    ·rename_i z
     rw[SN.mp h];exact .inl ⟨Sw,z⟩
    cases h
   unfold cB at h;split at h
   ·rename_i z
    refine .inr ⟨p,Sw,r.headD w,?_,z,SN.mp h⟩;cases r with
    |nil=>exact .inr rfl
    |cons y r=>exact .inl (Sy _ Sw)
   cases h
  rcases Gy h with⟨h1,aa⟩|⟨l7,h1,q,aa,aH,a6⟩
  ·exact .inl ⟨Sy _ h1,aa⟩
  refine .inr ⟨l7,Sy _ h1,q,?_,aH,a6⟩;rcases aa with aa|aa
  ·exact .inl (Sy _ aa)
  exact .inr aa
theorem wQ{f:ab->Int}{mt:ab->ab->ab}{x:ab}{ps:ZJ}(h:x∈dz f mt ps):(x∈ps/\0<=f x)\/∃p∈ps,∃q∈ps,f p*f q<0/\x=mt p q:=by
 rcases Gy h with h|⟨p,h1,q,aa,aH⟩
 ·exact .inl h
 refine .inr ⟨p,h1,q,?_,aH⟩;rcases aa with aa|aa
 ·exact aa
 cases ps with
 |nil=>cases h1
 |cons a r=>rw[aa];exact Sw
end Cut
namespace L2
open PySem PySem.Spec PyProof.Rows PySem.W
section
variable{X:aU}{aj:ZY}{σ:St}{H:am}{s:TD}{h':XB}
theorem Inv.turned2{t':Nat}{it e:TI}(I:Inv X aj σ H s)(k:∀b o,b≠it->b≠e->s.heap.get? b=some o->h'.get? b=some o)(qS:gH X aj H it)(wR:gH X aj H e):Inv X aj σ H {s with heap:=h',toks:=t' }:=by
 obtain⟨fN,ff,i2,pw,jY,py⟩:=qS;obtain⟨ec,ai,ar,bb,b0,d6⟩:=wR;have mU:∀b u,H b=some u->b≠it/\b≠e:=λb u q=>⟨(λz=>by rw[z,fN]at q;cases q),(λz=>by rw[z,ec]at q;cases q)⟩;have aJ:∀b o,b∉[it,e]->s.heap.get? b=some o->h'.get? b=some o:=λb o hc q=>k b o (λz=>hc (by simp[z])) (λz=>hc (by simp[z])) q
 refine I.step (g':=s.gens) (d':=s.drawn) (ch:=[it,e]) (λb ae=>?_) (λb o _ _ hc q _=>aJ b o hc q) (λb o _ _ hc q _=>⟨o.slots,aJ b o hc q⟩) (λ_ _ _ _ n=>n)
  (λb o hc q=>⟨o,aJ b o hc q⟩) (λ_ _ e=>e) (λ_ _ _ e=>e) (λb ps q=>⟨#[],by rw[q];simp⟩) (λm aA=>?_) (λb u q=>?_) I.bare
 ·rcases SG.mp ae with rfl|ae
  ·exact⟨pw,ff,jY,py⟩
  rw[SN.mp ae];exact⟨bb,ai,b0,d6⟩
 ·obtain⟨o,es,a0,ax,r⟩:=aA;exact⟨o,es,a0,k _ o (Ta ff) (Ta ai) ax,r⟩
 refine(I.hok b u q).stay (λc v hc y=>k c v ?_ ?_ y) (λ_ q=>q) (λ_ _ q=>q) λ_ _ _ q=>q
 ·rcases hc with z|z
  ·rw[z];exact(mU b u q).1
  exact(mU c _ z).1
 rcases hc with z|z
 ·rw[z];exact(mU b u q).2
 exact(mU c _ z).2
end
def Gz(K:Su)(a:TI):ha:=
 ⟨λi H=>∃xs x,cN K H a xs/\xs[i]?=some x,λi H x ak=>∃p y,H p=none/\x=.ref p/\ak=upd H p (.tup [.int i,y])/\∀xs,cN K H a xs->xs[i]?=some y,λi H=>∃xs,cN K H a xs/\xs.length<=i⟩
theorem Qj{P:WF}{w:Xx}{K:Su}{jy:ZW}{k:Nat}{pos:Pos}(a it e:TI)(lG:e≠it):oV P w K (.Tuple jy k pos) (Gz K a) [e,it] e (λi h=>(∃old,IsEnum h e it (i:Nat) old)/\h.IsListIter it a i) where
 mem:=by simp
 obj:=λi h st b ae=>by
  obtain⟨⟨old,aD⟩,o,ax,c,d⟩:=st;rcases SG.mp ae with rfl|ae
  ·exact⟨_,aD,λv z=>by cases z⟩
  rw[SN.mp ae];exact⟨o,ax,λv z=>by rw[d]at z;cases z⟩
 keep:=λi h h' st kp=>by
  obtain⟨⟨old,aD⟩,hi⟩:=st;exact⟨⟨old,kp e (by simp) _ aD⟩,hi.at λo q=>kp it (by simp) o q⟩
 item:=by
  intro X eJ hw dJ hc i aj s σ H E I bD st aF;subst eJ hw dJ;obtain⟨xs,x,ay,al⟩:=aF;obtain⟨⟨old,aD⟩,hi⟩:=st;obtain⟨its,b6,p,hz⟩:=I.list ay;obtain⟨u,a2,hs⟩:=b6.get al;have wR:=bD e (by simp);have qS:=bD it (by simp);have cI:e<s.heap.objs.size:=Heap.lt_size aD;have Bh:it<s.heap.objs.size:=by obtain⟨o,ax,_⟩:=id hi;exact Heap.lt_size ax
  refine wpAny_pyNext_enum_item aD hi p.isList (x:=u) (by simpa using a2) lG λh1 out Qk aR nu kp=>⟨_,rfl,wpAny_letOwnedTupleGo_enum out λaa wS eb=>?_⟩;have GA:s.heap.objs.size≠e:=T5 cI;have wT:s.heap.objs.size≠it:=T5 Bh
  have Bi:Inv X aj σ (upd H s.heap.objs.size (.tup [.int i,x])) {s with heap:=s.heap.push {cls:=.type "tuple",data:=.seq #[.int i s.toks,u]},toks:=s.toks+1}:=
   I.laid (t':=s.toks+1) (λ_ _ q=>Heap.get?_push_of_some _ q) (SF _) ⟨eW,[.int i s.toks,u],.cons ⟨_,rfl⟩ (.cons hs .nil),⟨_,Heap.get?_push_size _ rfl,rfl,_,rfl⟩⟩
  have up:∀b,gH X aj H b->b≠s.heap.objs.size->gH X aj (upd H s.heap.objs.size (.tup [.int i,x])) b:=λb f n=>⟨by rw[bV n];exact f.1,f.2⟩
  have a':=Bi.turned2 (h':=aa) (t':=s.toks+1) (it:=it) (e:=e) (λb o c8 cO q=>by
   rw[eb.2 b cO];by_cases z:b=s.heap.objs.size
   ·subst z;rw[Heap.get?_push_size _ rfl]at q;rw[<-q];exact aR
   refine kp b o cO c8 ?_;rw[<-q]
   exact(Heap.get?_push_ne s.heap b _ z).symm) (up it qS (Ta wT)) (up e wR (Ta GA))
  refine⟨.ref s.heap.objs.size,_,a',rfl,⟨s.heap.objs.size,x,I.fresh,rfl,rfl,λys aP=>by rw[I.list_inj aP ay];exact al⟩,⟨⟨_,wS⟩,Qk.at λo q=>(eb.2 it (Ta lG)).trans q⟩,λb ae=>?_⟩;rcases SG.mp ae with rfl|ae
  ·exact(up _ wR (Ta GA)).1
  rw[SN.mp ae];exact(up it qS (Ta wT)).1
 done:=by
  intro X eJ hw dJ hc i aj s σ H E I bD st aF;subst eJ hw dJ;obtain⟨xs,ay,al⟩:=aF;obtain⟨⟨old,aD⟩,hi⟩:=st;obtain⟨its,b6,p,hz⟩:=I.list ay;obtain⟨dL,aT,bd,bA,c7,d1⟩:=bD it (by simp);have ap:=b6.length;exact wpAny_pyNext_enum_end (I.ok.hd hc) aD hi p.isList (by simp;lia) λh' fS=>⟨rfl,I.turned (t':=s.toks) (λb o ae q=>fS b o ae q) dL aT bA c7 d1⟩
 self:=λ_ _ _ _ _ st h=>by
  obtain⟨⟨old,aD⟩,_⟩:=st;exact wpAny_pyIter_enum aD h
def Ql(K:Su)(bL:e8):gI:=λσ H R=>bL σ H λvs au=>∃a,vs=[.ref a]/\(∃xs,cN K au a xs)/\R (Gz K a) au
theorem Qm{X:aU}{jy:ZW}{k:Nat}{k0:Pos}{a:WP}{bL:e8}{p pos:Pos}(aF:eD X "enumerate")(aA:X.mg "enumerate"=none)(aw:hp X [a] bL)(av:UV [a] X.env=[(false,Yl a X.env)]:=by rfl):iy X (.Tuple jy k k0) (.Call (.Name "enumerate" p) [a] [] pos) (Ql X.K bL):=by
 intro aj s σ H R I h;refine Call_ (nU I aF aA (by decide +kernel:XK "enumerate"=some (.type "enumerate")) (UW (cl (aw pos aj s σ H _ I h) λus aC ⟨vs,au,a',aq,aM⟩=>?_) av rfl));obtain⟨l,e,⟨xs,ay⟩,q⟩:=aM;subst e;obtain⟨u,rfl,r⟩:=vals1 aq;cases r;obtain⟨its,b6,cr,hz⟩:=a'.list ay;refine call_enumerate_list cr.isList λh' nt Bj sz kp=>wpAny_pyIter_enum nt ?_;refine⟨aC.heap.objs.size+1,[aC.heap.objs.size+1,aC.heap.objs.size],_,_,au,rfl,a'.kept (t':=aC.toks) kp,Qj l aC.heap.objs.size (aC.heap.objs.size+1) (Nat.succ_ne_self _),⟨⟨_,nt⟩,Bj⟩,λb ae=>?_,q⟩;rcases SG.mp ae with rfl|ae
 ·exact a'.fpOk (TV _) (a'.hok.fresh (TV _))
 rw[SN.mp ae];exact a'.fpOk (SF _) (a'.hok.fresh (SF _))
end L2
namespace L3
open PySem L2
def ue:Nat->ZK->ZK
 |_,[]=>[]
 |n,d::r=>.tup [.int (n:Nat),d]::ue (n+1) r
def Qn(u:bg)(g:eZ)(s:cQ):cQ:=λU ρ=>u ρ λd=>∃ds,d=.lst ds/\jP g s U (ue 0 ds) ρ
section
variable{X:aU}{a:WP}{u:bg}{pos p:Pos}
theorem Qo{jy:ZW}{k:Nat}{k0:Pos}{body:ZX}{g:eZ}{s:cQ}(ag:Zc (Wp X.prog X.w) X.A X.env X.xe)(hc:X.calm=true)(aw:br X a u)(Qp:eD X "enumerate")(aA:X.mg "enumerate"=none)(aF:km X (.Tuple jy k k0) g)(ae:h6 X body s)(GB:UV [a] X.env=[(false,Yl a X.env)]:=by rfl)(av:∀x,Xr (.Call (.Name "enumerate" p) [a] [] pos) X.env x=pure x:=by intro _;rfl){fx:Pos}:
  fk X (.For (.Tuple jy k k0) (.Call (.Name "enumerate" p) [a] [] pos) body [] fx) (Qn u g s):=by
 obtain⟨_,h0,hF⟩:=aw;obtain⟨_,h1,aq⟩:=aF;obtain⟨_,aa,aN⟩:=ae;refine⟨_,D8 ag hc (Qm Qp aA (d5 h0 fj (by rw[eQ,GB];rfl)) GB) h1 aa av,λU ρ h R W B H σ D e ew=>?_⟩;refine hF ρ _ h R W B H σ _ e λd v aY au aG ai aE b6=>?_;obtain⟨ds,rfl,aG⟩:=aG;obtain⟨l,vs,rfl,ap,rs⟩:=b6.lstV;refine⟨l,rfl,⟨vs,cN.of (ai.bh _ _ ap)⟩,?_⟩;refine⟨λi m bm ak=>∃bi az,m=ds.length-i/\i<=ds.length/\jP g s U (ue i (ds.drop i)) bi/\aW X.K R W az ak bm bi/\bJ R B az/\cw aY az,⟨ds.length,ρ,aY,by simp,Ti _,aG,ai,aE,cw.refl _⟩,?_⟩;rintro i m jj aS ⟨d7,bG,rfl,hi,a8,ar,aI,bf⟩;have ay:cN X.K aS l vs:=cN.of (ar.bh _ _ (bf _ _ ap));by_cases de:i<ds.length
 ·have Qq:i<vs.length:=by rw[rs.length];exact de
  refine .inr ⟨⟨vs,vs[i],ay,SU Qq⟩,λbm ak=>∃bi az,jP g s U (ue (i+1) (ds.drop (i+1))) bi/\aW X.K R W az ak bm bi/\bJ R B az/\cw aY az,?_,?_⟩
  ·rintro bm ak ⟨bi,az,z,bv,g',s'⟩;exact⟨ds.length-(i+1),by lia,bi,az,rfl,de,z,bv,g',s'⟩
  rintro x ak ⟨q,y,uf,rfl,rfl,aP⟩;obtain⟨d,hd,bn⟩:=rs.getV (aP vs ay)
  have gO:ds.drop i=d::ds.drop (i+1):=by
   rw[Uu de];rw[SU de]at hd;rw[SO hd]
  rw[gO]at a8;have g3:=ar.grow uf (.tup [.int i,y]);have bb:=ar.alloc uf (.tup [.int i,y]);refine aq _ d7 _ a8 R W _ _ jj (.ref q) _ bb (.tup d9 (.cons (.int _) (.cons (bn.mono (bf.trans g3.s)) .nil))) λbi bm f9 bv _=>?_;have fE:=aI.trans g3;have nZ:=bf.trans g3.s;exact aN _ bi f9 R W _ _ bm _ bv ⟨λbi bm az ak z bv g=>⟨bi,az,z,bv,fE.trans g,nZ.trans g.s⟩,λbi bm az ak z bv g=>ew.nx bi bm az ak z bv (fE.trans g),λbi bm az ak z bv g=>⟨bi,az,z,bv,fE.trans g,nZ.trans g.s⟩,λr v az ak z bv g q=>ew.rt r v az ak z bv (fE.trans g) q⟩
 have ei:i=ds.length:=by lia
 subst ei;rw[UJ]at a8;exact .inl ⟨⟨vs,ay,by rw[rs.length];exact SF _⟩,ew.nx d7 jj bG aS a8 ar aI⟩
end
theorem GC{α:Type}{f:α->D}{s:cQ}{U:iE}{i j:Nat}(I:List α->ZM->Prop):∀{rs done:List α}{ρ:ZM},I done ρ->
  (∀(pre:List α)(r:α)(rest:List α) ρ,done++rs=pre++r::rest->I pre ρ->∀N:ZM->Prop,(∀dn,I (pre++[r]) dn->N dn)->s {U with nx:=N,ct:=N,bk:=U.nx} ((ρ.set i (.val (.int pre.length))).set j (.val (f r))))->(∀ρ,I (done++rs) ρ->U.nx ρ)->
  jP (me 2 (g2 (fb i) (g2 (fb j) md))) s U (ue done.length (rs.map f)) ρ
 |[],done,ρ,h0,_,aa=>aa ρ (by rw[SQ];exact h0)
 |r::rs,done,ρ,h0,h1,aa=>by
  refine⟨_,rfl,rfl,_,_,rfl,_,_,rfl,rfl,h1 done r rs ρ rfl h0 _ λdn ao=>?_⟩;have e:done++r::rs=(done++[r])++rs:=by simp
  rw[e]at h1 aa;have:=GC I ao h1 aa;rwa[Sx]at this
end L3
namespace Cut
open PySem L2 L3
theorem GD{x y:Int}:cJ x*cJ y<0↔x*y<0:=by
 constructor
 ·intro h;rcases mv h with⟨a,b⟩|⟨a,b⟩
  ·have h1:0<x:=by unfold cJ at a;split at a<;>first|assumption|(split at a<;>lia)
   have aa:y<0:=by unfold cJ at b;split at b<;>first|lia|(split at b<;>first|assumption|lia)
   exact S1 h1 aa
  have h1:x<0:=by unfold cJ at a;split at a<;>first|lia|(split at a<;>first|assumption|lia)
  have aa:0<y:=by unfold cJ at b;split at b<;>first|assumption|(split at b<;>lia)
  rw[S6];exact S1 aa h1
 intro h;rcases mv h with⟨a,b⟩|⟨a,b⟩
 ·have ai:cJ x=1:=pq a;have ar:cJ y = -1:=by unfold cJ;rw[Tl (by lia),Tk b]
  rw[ai,ar];decide
 have ai:cJ x = -1:=by unfold cJ;rw[Tl (by lia),Tk a]
 have ar:cJ y=1:=pq b;rw[ai,ar];decide
theorem GE{x:Int}:0<=cJ x↔0<=x:=by unfold cJ;split<;>first|lia|(split<;>lia)
theorem GF{x:Int}:cJ x<=0↔x<=0:=by unfold cJ;split<;>first|lia|(split<;>lia)
theorem Qr{pre rest:ZJ}{c f7:ab}(h:(pre++c::rest).headD f7=f7):bx (pre++c::rest) ((pre.length+1)%(pre++c::rest).length)=rest.headD f7:=by
 cases rest with
 |nil=>
  have e:(pre.length+1)%(pre++[c]).length=0:=by rw[Sx];simp
  rw[e];cases pre with
  |nil=>exact h
  |cons p pre=>exact h
 |cons d rest=>
  rw[Td (by simp)];unfold bx;rw[Tr (by lia)];simp
theorem Bk{α:Type}{xs:List α}{i:Nat}{x:α}(h:xs[i]?=some x):eu xs (i:Int)=some x:=by
 have lt:i<xs.length:=(TJ.mp h).1;unfold eu
 have e:L2.ixN xs.length (i:Int)=some i:=by
  unfold L2.ixN;rw[Tk (by lia)];simp[lt]
 rw[e];exact h
theorem Qs{α:Type}{h:ab->α}{pre rest:ZJ}{c:ab}:eu ((pre++c::rest).map h) (pre.length:Int)=some (h c):=by
 refine Bk ?_;rw[SW,Tr (SF _)];simp
theorem GG{α:Type}{h:ab->α}{ps pre rest:ZJ}{c f7:ab}(e:ps=pre++c::rest)(aw:ps.headD f7=f7):eu (ps.map h) (((pre.length:Int)+1)%(ps.length:Int))=some (h (rest.headD f7)):=by
 subst e;have cd:0<(pre++c::rest).length:=by rw[Sx,SM];lia
 have lt:=Uv (pre.length+1) cd;have ai:((pre.length:Int)+1)%((pre++c::rest).length:Int)=(((pre.length+1)%(pre++c::rest).length:Nat):Int):=by rw[Int.natCast_emod];rfl
 rw[ai];refine Bk ?_;rw[SW];have:=Qr aw;unfold bx at this;rw[SU lt]at this⊢;simp at this;simp[this]
theorem wU{f:ab->Int}{mt:ab->ab->ab}{pre:ZJ}{c w:ab}:di f mt (pre++[c]) w=di f mt pre c++kp f c++cB f mt c w:=by
 rw[uc];show di f mt pre c++(kp f c++cB f mt c w++[])=_
 rw[SQ,SV]
theorem Bl{f:ab->Int}{mt:ab->ab->ab}:∀{ps:ZJ}{w:ab},(di f mt ps w).length<=2*ps.length
 |[],_=>SF _
 |p::r,w=>by
  show(kp f p++cB f mt p (r.headD w)++di f mt r w).length<=_
  have h:=Bl (f:=f) (mt:=mt) (ps:=r) (w:=w);have h1:(kp f p).length<=1:=by unfold kp;split<;>simp
  have aa:(cB f mt p (r.headD w)).length<=1:=by unfold cB;split<;>simp
  rw[Sx,Sx,SM];lia
theorem Qt(x:Int): -1<=cJ x/\cJ x<=1:=by unfold cJ;split<;>first|lia|(split<;>lia)
theorem GH(x:Int):VS (cJ x)<=9000:=by
 have:=Qt x;have agD:(10:Int)^30=1000000000000000000000000000000:=rfl;exact SD (Pa (by lia) (by lia)) (by decide)
theorem GI{f:ab->Int}{c:ab}(h:0<=f c):kp f c=[c]:=by unfold kp;rw[Tk h]
theorem GJ{f:ab->Int}{c:ab}(h:¬0<=f c):kp f c=[]:=by unfold kp;rw[Tl h]
theorem ot{l p q:ab}(ag:aX p)(ay:aX q):nP (crs l (crs p q))=a1 l p q:=by unfold a1;rw[Tk ⟨ag.1,ay.1⟩]
theorem ou{l p q:ab}(ag:aX p)(ay:aX q)(h:ln l p*ln l q<0):(crs l (crs p q)).2.2≠0:=by
 rw[show(crs l (crs p q)).2.2=ln l q*p.2.2 + -ln l p*q.2.2 by rw[t9 l p q];rfl];have eI:=ag.1;have fQ:=ay.1;rcases mv h with⟨a,b⟩|⟨a,b⟩
 ·have c8:ln l q*p.2.2<0:=by rw[S6];exact S1 eI b
  have cO : -ln l p*q.2.2<0:=by rw[S6];exact S1 fQ (by lia)
  lia
 have c8:0<ln l q*p.2.2:=SE b eI;have cO:0 < -ln l p*q.2.2:=SE (by lia) fQ;lia
theorem GK{l:ab}{ps:ZJ}:D.int 1∈ps.map (λc=>D.int (cJ (ln l c)))↔∃c∈ps,0<ln l c:=by
 rw[SJ];constructor
 ·rintro⟨c,hc,e⟩;exact⟨c,hc,Ge (D.int.inj e)⟩
 rintro⟨c,hc,h⟩;exact⟨c,hc,by rw[pq h]⟩
theorem wV{l:ab}{ps:ZJ}:D.int (-1)∈ps.map (λc=>D.int (cJ (ln l c)))↔∃c∈ps,ln l c<0:=by
 rw[SJ];constructor
 ·rintro⟨c,hc,e⟩;refine⟨c,hc,?_⟩;have:=D.int.inj e;unfold cJ at this;split at this
  ·lia
  split at this<;>lia
 rintro⟨c,hc,h⟩;exact⟨c,hc,by unfold cJ;rw[Tl (by lia),Tk h]⟩
end Cut
namespace L3
open PySem L2
section
variable{K:Su}{X:aU}{e:WP}{es:ZW}{u:bg}{w:df}{pos p:Pos}
variable{bj:WP}
def Bm(u:bg):dO:=λρ k=>u ρ λx=>∃ds,x=.lst ds/\k (!ds.isEmpty)
theorem Bn{a:WP}{b5:bg}(aw:br X a b5)(aD:∀whole,Zb a X.env whole=(do let v <-whole;YR a.pos;Yv [v] (ZA v)):=by intro _;rfl):h5 X a (Bm b5):=by
 obtain⟨_,h1,aq⟩:=aw;refine⟨_,zD h1 aD,λρ k h R W B H σ Q e q=>?_⟩;refine aq ρ _ h R W B H σ _ e λx v aY au aG ai aE aC=>?_;obtain⟨ds,rfl,ah⟩:=aG;obtain⟨a,vs,rfl,aw,rs⟩:=aC.lstV;refine⟨!vs.isEmpty,.inl ⟨vs,cN.of (ai.bh _ _ aw),rfl⟩,q _ aY au ?_ ai aE⟩
 have:vs.isEmpty=ds.isEmpty:=by
  have ap:=rs.length;cases vs with
  |nil=>cases ds with
   |nil=>rfl
   |cons d ds=>simp at ap
  |cons v vs=>cases ds with
   |nil=>simp at ap
   |cons d ds=>rfl
 rw[this];exact ah
variable{cI dc:WP}{dr:ZW}{scope:XV}{bM:List (Str×TI)}{ts fr:ZT}{js:ZP}{f6:eZ}{dE:dO}
end
end L3
namespace Cut
open PySem L2 L3
def cW:ab->ZJ->List (ab×ab)
 |_,[]=>[]
 |z,p::r=>(z,p)::cW p r
def bT:ab->ZJ->ab
 |z,[]=>z
 |_,p::r=>bT p r
def dk(ps:ZJ):List (ab×ab):=cW (bT (0,0,1) ps) ps
theorem pz:∀(z:ab)(A B:ZJ),cW z (A++B)=cW z A++cW (bT z A) B
 |_,[],_=>rfl
 |z,p::A,B=>by
  show(z,p)::cW p (A++B)=(z,p)::(cW p A++cW (bT p A) B)
  rw[pz p A B]
theorem pA:∀(z:ab)(A B:ZJ),bT z (A++B)=bT (bT z A) B
 |_,[],_=>rfl
 |_,p::A,B=>pA p A B
theorem sd{z f9:ab}{L:ZJ}(h:L≠[]):bT z L=bT f9 L:=by
 cases L with
 |nil=>exact absurd rfl h
 |cons p r=>rfl
theorem Bo:∀{z:ab}{L:ZJ},L≠[]->bT z L∈L
 |_,[],h=>absurd rfl h
 |z,[p],_=>Sw
 |z,p::q::r,_=>Sy _ (Bo (z:=p) (L:=q::r) (by simp))
theorem GL:∀{z:ab}{L:ZJ}{e:ab×ab},e∈cW z L->(e.1=z\/e.1∈L)/\e.2∈L
 |_,[],_,h=>by cases h
 |z,p::r,e,h=>by
  rcases SG.mp h with rfl|h
  ·exact⟨.inl rfl,Sw⟩
  obtain⟨h1,aa⟩:=GL h;refine⟨.inr ?_,Sy _ aa⟩;rcases h1 with h1|h1
  ·rw[h1];exact Sw
  exact Sy _ h1
theorem lP{L:ZJ}{e:ab×ab}(h:e∈dk L):e.1∈L/\e.2∈L:=by
 have n:L≠[]:=by rintro rfl;cases h
 obtain⟨h1,aa⟩:=GL h;refine⟨?_,aa⟩;rcases h1 with h1|h1
 ·rw[h1];exact Bo n
 exact h1
section
variable{f:ab->Int}{mt:ab->ab->ab}
theorem wW{C:ab->ab->Prop}(hz:∀u v,f u=0->f v=0->C u v):∀{ps:ZJ}{w z:ab},
  (∀p q,(p,q)∈cW (ps.headD w) (ps.tail++[w])->0<=f p->0<=f q->C p q)->
  (∀p q,(p,q)∈cW (ps.headD w) (ps.tail++[w])->f p*f q<0->f (mt p q)=0/\(0<f p->C p (mt p q))/\(0<f q->C (mt p q) q))->
  (0<=f (ps.headD w)->C z (ps.headD w))->(f (ps.headD w)<0->f z=0)->ps≠[]->
  (∀e∈cW z (di f mt ps w),C e.1 e.2)/\(0<=f w->C (bT z (di f mt ps w)) w)/\(f w<0->f (bT z (di f mt ps w))=0)
 |[],_,_,_,_,_,_,aO=>absurd rfl aO
 |p::r,w,z,h1,aa,aH,a6,_=>by
  have aH:0<=f p->C z p:=aH;have a6:f p<0->f z=0:=a6
  have ay:(p,r.headD w)∈cW p (r++[w]):=by
   cases r with
   |nil=>exact Sw
   |cons q r=>exact Sw
  have h1:∀a b,(a,b)∈cW p (r++[w])->0<=f a->0<=f b->C a b:=h1;have aa:∀a b,(a,b)∈cW p (r++[w])->f a*f b<0->f (mt a b)=0/\(0<f a->C a (mt a b))/\(0<f b->C (mt a b) b):=aa
  have step:(∀e∈cW z (kp f p++cB f mt p (r.headD w)),C e.1 e.2)/\(0<=f (r.headD w)->C (bT z (kp f p++cB f mt p (r.headD w))) (r.headD w))/\(f (r.headD w)<0->f (bT z (kp f p++cB f mt p (r.headD w)))=0):=by
   generalize r.headD w=q at ay;by_cases cA:0<=f p
   ·rw[show kp f p=[p] by unfold kp;rw[Tk cA]];by_cases c:f p*f q<0
    ·rw[mr c];obtain⟨dW,a7,a5⟩:=aa p q ay c
     have lp:0<f p:=by
      rcases mv c with⟨a,_⟩|⟨a,_⟩
      ·exact a
      lia
     have lQ:f q<0:=by
      rcases mv c with⟨_,a⟩|⟨a,_⟩
      ·exact a
      lia
     refine⟨λe aD=>?_,λh=>absurd h (by lia),λ_=>dW⟩;rcases SG.mp aD with rfl|aD
     ·exact aH cA
     rcases SG.mp aD with rfl|aD
     ·exact a7 lp
     cases aD
    rw[lO c];refine⟨λe aD=>?_,λh=>h1 p q ay cA h,λh=>?_⟩
    ·rcases SG.mp aD with rfl|aD
     ·exact aH cA
     cases aD
    show f p=0
    rcases Vk cA with a|a
    ·exact absurd (S1 a h) c
    exact a.symm
   rw[show kp f p=[] by unfold kp;rw[Tl cA]];have lM:=a6 (by lia);by_cases c:f p*f q<0
   ·rw[mr c];obtain⟨dW,a7,a5⟩:=aa p q ay c
    have lQ:0<f q:=by
     rcases mv c with⟨a,_⟩|⟨_,a⟩
     ·lia
     exact a
    refine⟨λe aD=>?_,λ_=>a5 lQ,λh=>absurd h (by lia)⟩;rcases SG.mp aD with rfl|aD
    ·exact hz _ _ lM dW
    cases aD
   rw[lO c];refine⟨λe aD=>(by cases aD),λh=>hz _ _ lM ?_,λ_=>lM⟩;rcases Vk h with a|a
   ·exact absurd (by rw[S6];exact S1 a (by lia)) c
   exact a.symm
  obtain⟨aC,bf,cR⟩:=step;show(∀e∈cW z (kp f p++cB f mt p (r.headD w)++di f mt r w),C e.1 e.2)/\(0<=f w->C (bT z (kp f p++cB f mt p (r.headD w)++di f mt r w)) w)/\(f w<0->f (bT z (kp f p++cB f mt p (r.headD w)++di f mt r w))=0)
  rw[pz z (kp f p++cB f mt p (r.headD w)),pA z (kp f p++cB f mt p (r.headD w))];cases r with
  |nil=>exact⟨λe aD=>by rw[show cW _ (di f mt [] w)=[]from rfl,SQ]at aD;exact aC e aD,bf,cR⟩
  |cons q r=>
   obtain⟨dg,cU,jp⟩:=wW hz (ps:=q::r) (w:=w) (z:=bT z (kp f p++cB f mt p q)) (λa b iH=>h1 a b (Sy _ iH)) (λa b iH=>aa a b (Sy _ iH)) bf cR (by simp);refine⟨λe aD=>?_,cU,jp⟩;rcases SK.mp aD with aD|aD
   ·exact aC e aD
   exact dg e aD
theorem Bp{a:ab}{r:ZJ}{e:ab×ab}:e∈cW a (r++[a])↔e∈dk (a::r):=by
 have:dk (a::r)=(bT a r,a)::cW a r:=rfl;rw[this,pz];simp[cW,or_comm]
theorem Qu{C:ab->ab->Prop}{ps:ZJ}(hz:∀u v,f u=0->f v=0->C u v)(o:ab)(ax:f o=0)(h1:∀e∈dk ps,0<=f e.1->0<=f e.2->C e.1 e.2)(aa:∀e∈dk ps,f e.1*f e.2<0->f (mt e.1 e.2)=0/\(0<f e.1->C e.1 (mt e.1 e.2))/\(0<f e.2->C (mt e.1 e.2) e.2)):
  ∀e∈dk (dz f mt ps),C e.1 e.2:=by
 cases ps with
 |nil=>intro e aD;cases aD
 |cons a r=>
  intro e aD;have n:dz f mt (a::r)≠[]:=by intro z;rw[z]at aD;cases aD
  have aE:∀p q,(p,q)∈cW ((a::r).headD a) ((a::r).tail++[a])->0<=f p->0<=f q->C p q:=λp q h=>h1 (p,q) (Bp.mp h);have aI:∀p q,(p,q)∈cW ((a::r).headD a) ((a::r).tail++[a])->f p*f q<0->f (mt p q)=0/\(0<f p->C p (mt p q))/\(0<f q->C (mt p q) q):=λp q h=>aa (p,q) (Bp.mp h);have first:=wW (f:=f) (mt:=mt) (C:=λu v=>u=o\/C u v) (λu v a2 aL=>.inr (hz u v a2 aL)) (ps:=a::r) (w:=a) (z:=o) (λp q h x y=>.inr (aE p q h x y)) (λp q h x=>⟨(aI p q h x).1,λy=>.inr ((aI p q h x).2.1 y),λy=>.inr ((aI p q h x).2.2 y)⟩) (λ_=>.inl rfl) (λ_=>ax) (by simp)
  have ai:bT o (di f mt (a::r) a)=bT (0,0,1) (dz f mt (a::r)):=sd n;have e2:f a<0->f (bT (0,0,1) (dz f mt (a::r)))=0:=λh=>by rw[<-ai];exact first.2.2 h
  have bS:0<=f a->C (bT (0,0,1) (dz f mt (a::r))) a:=λh=>by
   by_cases Bq:bT o (di f mt (a::r) a)=o
   ·
    have:=wW (f:=f) (mt:=mt) (C:=λu v=>(u=a/\v=a)\/C u v) (λu v a2 aL=>.inr (hz u v a2 aL)) (ps:=a::r) (w:=a) (z:=a) (λp q h x y=>.inr (aE p q h x y)) (λp q h x=>⟨(aI p q h x).1,λy=>.inr ((aI p q h x).2.1 y),λy=>.inr ((aI p q h x).2.2 y)⟩) (λ_=>.inl ⟨rfl,rfl⟩) (λy=>absurd y (show ¬f a<0 by lia)) (by simp);have ar:bT a (di f mt (a::r) a)=bT (0,0,1) (dz f mt (a::r)):=sd n;rcases this.2.1 h with⟨aM,_⟩|q
    ·rw[ar]at aM;rw[aM];rw[ai,aM]at Bq;rw[Bq];exact hz o o ax ax
    rw[<-ar];exact q
   rcases first.2.1 h with q|q
   ·exact absurd q Bq
   rw[<-ai];exact q
  exact(wW hz aE aI bS e2 (by simp)).1 e aD
end
end Cut
namespace Cut
open PySem L2 L3
open PySem.Builtin.Int (intBits)
def ov(l:ab)(mt:ab->ab->ab):Prop:=∀p q,ln l p*ln l q<0->hj p q (mt p q)/\ln l (mt p q)=0
theorem ug{l p q:ab}(h:ln l p*ln l q<0):ln l (a1 l p q)=0:=by
 unfold a1;by_cases w:0<p.2.2/\0<q.2.2
 ·rw[Tk w]
  have cd:(crs l (crs p q)).2.2≠0:=by
   rw[show(crs l (crs p q)).2.2=ln l q*p.2.2 + -ln l p*q.2.2 by rw[t9 l p q];rfl];rcases mv h with⟨a,b⟩|⟨a,b⟩
   ·have c8:ln l q*p.2.2<0:=by rw[S6];exact S1 w.1 b
    have cO : -ln l p*q.2.2<0:=by rw[S6];exact S1 w.2 (by lia)
    lia
   have c8:0<ln l q*p.2.2:=SE b w.1;have cO:0 < -ln l p*q.2.2:=SE (by lia) w.2;lia
  obtain⟨g,ft,aF⟩:=kr cd;have z:ln l (crs l (crs p q))=0:=by rw[show crs l (crs p q)=hh (ln l q) p (-ln l p) q from t9 l p q,wP];grind
  rw[aF,Bg]at z;rcases Tt.mp z with y|y
  ·exact absurd y ft
  exact y
 rw[Tl w];by_cases c:0<ln l q
 ·rw[Tk c,wP];grind
 rw[Tl c,wP];grind
theorem wX(l:ab):ov l (a1 l):=λ_ _ h=>⟨sb h,ug h⟩
def jA(l:ab):ab:=sc (-1) l
theorem qT(l p:ab):ln (jA l) p = -ln l p:=by unfold jA ln sc;dsimp only;grind
theorem se(l:ab):ln (jA l)=λc => -ln l c:=by funext c;exact qT l c
theorem ov.ng{l:ab}{mt:ab->ab->ab}(h:ov l mt):ov (jA l) mt:=λp q c=>by
 rw[qT,qT,Uy]at c;refine⟨(h p q c).1,?_⟩;rw[qT,(h p q c).2];rfl
theorem ov.meets{l:ab}{mt:ab->ab->ab}(h:ov l mt):Meets (ln l) mt:=λp q c=>(h p q c).1
theorem hj.ln0{p q m g:ab}(h:hj p q m)(h1:Cut.ln g p=0)(aa:Cut.ln g q=0):Cut.ln g m=0:=by
 obtain⟨s,a,b,av,aw,ae,e⟩:=h;have k:s*Cut.ln g m=a*Cut.ln g p+b*Cut.ln g q:=by rw[<-Bg,e,wP]
 rw[h1,aa,S2,S2]at k;rcases Tt.mp k with z|z
 ·lia
 exact z
section
variable{l:ab}{mt:ab->ab->ab}{ps:ZJ}
theorem wY:∀{z:ab}{r:ZJ},r≠[]->∃A,r=A++[bT z r]
 |_,[],h=>absurd rfl h
 |z,[p],_=>⟨[],rfl⟩
 |z,p::q::r,_=>by
  obtain⟨A,e⟩:=wY (z:=p) (r:=q::r) (by simp);exact⟨p::A,UF (p :: ·) e⟩
end
def eT(T:ab->ab->Rat)(es:List (ab×ab)):Rat:=(es.map λe=>T e.1 e.2).sum
theorem iK(T:ab->ab->Rat):eT T []=0:=rfl
theorem hJ(T:ab->ab->Rat)(e:ab×ab)(es:List (ab×ab)):eT T (e::es)=T e.1 e.2+eT T es:=by unfold eT;rw[SH,Tb]
theorem wZ(T:ab->ab->Rat):∀es fs:List (ab×ab),eT T (es++fs)=eT T es+eT T fs
 |[],fs=>by rw[Te,iK];grind
 |e::es,fs=>by rw[To,hJ,hJ,wZ T es fs];grind
section
variable{f:ab->Int}{mt:ab->ab->ab}{T:ab->ab->Rat}{V:ab->Prop}
def i8(f:ab->Int)(mt:ab->ab->ab)(T:ab->ab->Rat)(p q:ab):Rat:=
 if 0<=f p then(if 0<=f q then T p q else if f p*f q<0 then T p (mt p q)else 0)else(if f p*f q<0 then T (mt p q) q else 0)
def nv(f:ab->Int)(T:ab->ab->Rat)(z p:ab):Rat:=if 0<=f p then T z p else 0
theorem w1{z p:ab}(h:0<=f p):nv f T z p=T z p:=by unfold nv;rw[Tk h]
theorem w2{z p:ab}(h:¬0<=f p):nv f T z p=0:=by unfold nv;rw[Tl h]
theorem Qv(hz:∀u v,V u->V v->f u=0->f v=0->T u v=0){p q z:ab}(qU:V z)(pB:V q)(aA:f p*f q<0->V (mt p q)/\f (mt p q)=0)(a6:f p<0->f z=0):
  eT T (cW z (kp f p++cB f mt p q))+nv f T (bT z (kp f p++cB f mt p q)) q=nv f T z p+i8 f mt T p q/\(f q<0->f (bT z (kp f p++cB f mt p q))=0):=by
 by_cases cA:0<=f p
 ·rw[show kp f p=[p] by unfold kp;rw[Tk cA],w1 cA];by_cases c:f p*f q<0
  ·rw[mr c]
   have lQ:¬0<=f q:=by
    rcases mv c with⟨_,a⟩|⟨a,_⟩<;>lia
   have ai:bT z ([p]++[mt p q])=mt p q:=rfl;have ar:cW z ([p]++[mt p q])=[(z,p),(p,mt p q)]:=rfl;refine⟨?_,λ_=>by rw[ai];exact(aA c).2⟩;rw[ai,ar,w2 lQ,hJ,hJ,iK];unfold i8;rw[Tk cA,Tl lQ,Tk c];dsimp only;grind
  rw[lO c];have ai:bT z ([p]++[])=p:=rfl;have ar:cW z ([p]++[])=[(z,p)]:=rfl;rw[ai,ar,hJ,iK];refine⟨?_,λh=>?_⟩
  ·unfold i8;rw[Tk cA];by_cases pC:0<=f q
   ·rw[w1 pC,Tk pC];dsimp only;grind
   rw[w2 pC,Tl pC,Tl c];dsimp only;grind
  rcases Vk cA with a|a
  ·exact absurd (S1 a h) c
  exact a.symm
 rw[show kp f p=[] by unfold kp;rw[Tl cA],w2 cA,Te];have lM:=a6 (by lia);unfold i8;rw[Tl cA];by_cases c:f p*f q<0
 ·rw[mr c,Tk c]
  have lQ:0<=f q:=by
   rcases mv c with⟨a,_⟩|⟨_,a⟩<;>lia
  have ai:bT z [mt p q]=mt p q:=rfl;have ar:cW z [mt p q]=[(z,mt p q)]:=rfl;have ea:T z (mt p q)=0:=hz _ _ qU (aA c).1 lM (aA c).2;rw[ai,ar,hJ,iK,w1 lQ];refine⟨?_,λh=>absurd h (by lia)⟩;dsimp only;rw[ea];grind
 rw[lO c,Tl c];have ai:bT z []=z:=rfl;have ar:cW z []=[]:=rfl;rw[ai,ar,iK];refine⟨?_,λ_=>lM⟩;by_cases pC:0<=f q
 ·have ih:f q=0:=by
   rcases Vk pC with a|a
   ·exact absurd (by rw[S6];exact S1 a (by lia)) c
   exact a.symm
  rw[w1 pC,hz _ _ qU pB lM ih]
 rw[w2 pC]
theorem Br(hz:∀u v,V u->V v->f u=0->f v=0->T u v=0)(aA:∀p q,V p->V q->f p*f q<0->V (mt p q)/\f (mt p q)=0):∀{ps:ZJ}{w z:ab},(∀p∈ps,V p)->V w->V z->(f (ps.headD w)<0->f z=0)->ps≠[]->
  eT T (cW z (di f mt ps w))+nv f T (bT z (di f mt ps w)) w=nv f T z (ps.headD w)+eT (i8 f mt T) (cW (ps.headD w) (ps.tail++[w]))/\(f w<0->f (bT z (di f mt ps w))=0)
 |[],_,_,_,_,_,_,aO=>absurd rfl aO
 |p::r,w,z,aL,GM,qU,a6,_=>by
  have a6:f p<0->f z=0:=a6;have pD:=aL p Sw
  have pB:V (r.headD w):=by
   cases r with
   |nil=>exact GM
   |cons q r=>exact aL q (by simp)
  obtain⟨aC,bf⟩:=Qv (f:=f) (mt:=mt) (T:=T) (V:=V) hz qU pB (aA p _ pD pB) a6;show eT T (cW z (kp f p++cB f mt p (r.headD w)++di f mt r w))+nv f T (bT z (kp f p++cB f mt p (r.headD w)++di f mt r w)) w=nv f T z p+eT (i8 f mt T) (cW p (r++[w]))/\(f w<0->f (bT z (kp f p++cB f mt p (r.headD w)++di f mt r w))=0)
  rw[pz z (kp f p++cB f mt p (r.headD w)),pA z (kp f p++cB f mt p (r.headD w)),wZ]
  have hP:V (bT z (kp f p++cB f mt p (r.headD w))):=by
   by_cases cA:0<=f p
   ·rw[show kp f p=[p] by unfold kp;rw[Tk cA]];by_cases c:f p*f (r.headD w)<0
    ·rw[mr c];exact(aA _ _ pD pB c).1
    rw[lO c];exact pD
   rw[show kp f p=[] by unfold kp;rw[Tl cA]];by_cases c:f p*f (r.headD w)<0
   ·rw[mr c];exact(aA _ _ pD pB c).1
   rw[lO c];exact qU
  cases r with
  |nil=>
   have ec:cW (bT z (kp f p++cB f mt p (([]:ZJ).headD w))) (di f mt [] w)=[]:=rfl;have ai:cW p ([]++[w])=[(p,w)]:=rfl;have ar:([]:ZJ).headD w=w:=rfl;have bb:bT (bT z (kp f p++cB f mt p (([]:ZJ).headD w))) (di f mt [] w)=bT z (kp f p++cB f mt p w):=rfl;rw[ec,ai,bb,iK,hJ,iK];rw[ar]at aC bf⊢;refine⟨?_,bf⟩;dsimp only;grind
  |cons q r=>
   obtain⟨dg,cU⟩:=Br hz aA (ps:=q::r) (w:=w) (z:=bT z (kp f p++cB f mt p q)) (λx al=>aL x (Sy _ al)) GM hP bf (by simp);refine⟨?_,cU⟩;have ai:cW p (q::r++[w])=(p,q)::cW q (r++[w]):=rfl;have ar:(q::r).headD w=q:=rfl;have bb:(q::r).tail=r:=rfl;rw[ai,hJ];rw[ar,bb]at dg;rw[ar]at aC⊢;dsimp only;grind
theorem Bs(T:ab->ab->Rat)(a:ab)(r:ZJ):eT T (cW a (r++[a]))=eT T (dk (a::r)):=by
 have:dk (a::r)=(bT a r,a)::cW a r:=rfl;rw[this,pz,wZ,hJ];have:cW (bT a r) [a]=[(bT a r,a)]:=rfl;rw[this,hJ,iK];dsimp only;grind
theorem GN(hz:∀u v,V u->V v->f u=0->f v=0->T u v=0)(aA:∀p q,V p->V q->f p*f q<0->V (mt p q)/\f (mt p q)=0)(o:ab)(Qw:V o)(ax:f o=0){ps:ZJ}(aL:∀p∈ps,V p):
  eT T (dk (dz f mt ps))=eT (i8 f mt T) (dk ps):=by
 cases ps with
 |nil=>rfl
 |cons a r=>
  have Bt:=aL a Sw;have first:=Br hz aA (ps:=a::r) (w:=a) (z:=o) aL Bt Qw (λ_=>ax) (by simp)
  have ai:(a::r).headD a=a:=rfl;have ar:(a::r).tail=r:=rfl;rw[ai,ar,Bs]at first
  by_cases n:dz f mt (a::r)=[]
  ·have ka:di f mt (a::r) a=[]:=n;rw[ka]at first
   have bb:cW o []=[]:=rfl;have b0:bT o []=o:=rfl;rw[bb,b0,iK]at first
   rw[n];have d6:dk []=[]:=rfl;rw[d6,iK];have:=first.1
   grind
  have bb:bT o (di f mt (a::r) a)=bT (0,0,1) (dz f mt (a::r)):=sd n;have e2:f a<0->f (bT (0,0,1) (dz f mt (a::r)))=0:=λh=>by rw[<-bb];exact first.2 h
  have hP:V (bT (0,0,1) (dz f mt (a::r))):=by
   rcases wQ (Bo (z:=(0,0,1)) n)with⟨h,_⟩|⟨p,ag,q,ay,c,e⟩
   ·exact aL _ h
   rw[e];exact(aA p q (aL p ag) (aL q ay) c).1
  have snd:=Br hz aA (ps:=a::r) (w:=a) (z:=bT (0,0,1) (dz f mt (a::r))) aL Bt hP e2 (by simp);rw[ai,ar,Bs]at snd;have b0:bT (bT (0,0,1) (dz f mt (a::r))) (di f mt (a::r) a)=bT (0,0,1) (dz f mt (a::r)):=sd n;rw[b0]at snd;have:=snd.1;show eT T (cW (bT (0,0,1) (dz f mt (a::r))) (di f mt (a::r) a))=_
  grind
theorem GO{T1 T2 GP:ab->ab->Rat}:∀{es:List (ab×ab)},(∀e∈es,T1 e.1 e.2+T2 e.1 e.2=GP e.1 e.2)->eT T1 es+eT T2 es=eT GP es
 |[],_=>by rw[iK,iK,iK];grind
 |e::es,h=>by
  have h1:=h e Sw;have aa:=GO (es:=es) λe aD=>h e (Sy _ aD);rw[hJ,hJ,hJ];grind
theorem Qx(hz:∀u v,V u->V v->f u=0->f v=0->T u v=0){p q:ab}(pD:V p)(pB:V q)(aA:f p*f q<0->T p (mt p q)+T (mt p q) q=T p q):i8 f mt T p q+i8 (λc => -f c) mt T p q=T p q:=by
 have nt:(-f p)*(-f q)=f p*f q:=Uy _ _;unfold i8;dsimp only;rw[nt];rcases T3 (f p) 0 with a|a|a
 ·rw[Tl (show ¬0<=f p by lia),Tk (show 0 <= -f p by lia)];rcases T3 (f q) 0 with b|b|b
  ·have c:¬f p*f q<0:=by have:=Uw a b;lia
   rw[Tl c,Tk (show 0 <= -f q by lia)];grind
  ·have c:¬f p*f q<0:=by rw[b,S2];lia
   rw[Tl c,Tk (show 0 <= -f q by lia)];grind
  have c:f p*f q<0:=by rw[S6];exact S1 b a
  rw[Tk c,Tl (show ¬0 <= -f q by lia),Tk c];have:=aA c;grind
 ·have c:¬f p*f q<0:=by rw[a,TZ];lia
  rw[Tk (show 0<=f p by lia),Tk (show 0 <= -f p by lia),Tl c];rcases T3 (f q) 0 with b|b|b
  ·rw[Tl (show ¬0<=f q by lia),Tk (show 0 <= -f q by lia)];grind
  ·rw[Tk (show 0<=f q by lia),Tk (show 0 <= -f q by lia)];have:=hz p q pD pB a b;grind
  rw[Tk (show 0<=f q by lia),Tl (show ¬0 <= -f q by lia)];grind
 rw[Tk (show 0<=f p by lia),Tl (show ¬0 <= -f p by lia)];rcases T3 (f q) 0 with b|b|b
 ·have c:f p*f q<0:=S1 a b;rw[Tl (show ¬0<=f q by lia),Tk c,Tk c];exact aA c
 ·have c:¬f p*f q<0:=by rw[b,S2];lia
  rw[Tk (show 0<=f q by lia),Tl c];grind
 have c:¬f p*f q<0:=by have:=SE a b;lia
 rw[Tk (show 0<=f q by lia),Tl c];grind
theorem Bu(hz:∀u v,V u->V v->f u=0->f v=0->T u v=0):∀{es:List (ab×ab)},(∀e∈es,V e.1/\V e.2/\f e.1<=0/\f e.2<=0)->eT (i8 f mt T) es=0
 |[],_=>rfl
 |e::es,h=>by
  obtain⟨eL,dB,c8,cO⟩:=h e Sw;have b9:=Bu hz (es:=es) λe aD=>h e (Sy _ aD);rw[hJ,b9];have c:¬f e.1*f e.2<0:=by have:=Vl c8 cO;lia
  have:i8 f mt T e.1 e.2=0:=by
   unfold i8;rw[Tl c,Tl c];by_cases a:0<=f e.1
   ·rw[Tk a];by_cases b:0<=f e.2
    ·rw[Tk b];exact hz _ _ eL dB (by lia) (by lia)
    rw[Tl b]
   rw[Tl a]
  rw[this];grind
end
def kB(p:ab):Rat:=(p.1:Rat)/(p.2.2:Rat)
def kC(p:ab):Rat:=(p.2.1:Rat)/(p.2.2:Rat)
theorem fh{x:Int}(h:0<x):(x:Rat)≠0:=λz=>by
 have:=Rat.intCast_eq_zero_iff.mp z;lia
theorem GQ{p q m:ab}(h:hj p q m)(ag:0<p.2.2)(ay:0<q.2.2)(aA:0<m.2.2):∃a b:Rat,a+b=1/\kB m=a*kB p+b*kB q/\kC m=a*kC p+b*kC q:=by
 obtain⟨s,a,b,av,aw,ae,e⟩:=h;have ai:s*m.1=a*p.1+b*q.1:=UF (λx:ab=>x.1) e;have ar:s*m.2.1=a*p.2.1+b*q.2.1:=UF (λx:ab=>x.2.1) e;have bb:s*m.2.2=a*p.2.2+b*q.2.2:=UF (λx:ab=>x.2.2) e;have s0:=fh av;have dW:=fh aA;have p0:=fh ag;have ih:=fh ay;have aT:(s:Rat)*m.1=a*p.1+b*q.1:=by rw[<-Uc,ai,V',Uc,Uc]
 have bd:(s:Rat)*m.2.1=a*p.2.1+b*q.2.1:=by rw[<-Uc,ar,V',Uc,Uc]
 have bA:(s:Rat)*m.2.2=a*p.2.2+b*q.2.2:=by rw[<-Uc,bb,V',Uc,Uc]
 unfold kB kC;generalize(s:Rat)=s' at *;generalize(a:Rat)=gK at *;generalize(b:Rat)=hx at *;generalize(m.1:Rat)=a7 at *;generalize(m.2.1:Rat)=a5 at *;generalize(m.2.2:Rat)=hR at *;generalize(p.1:Rat)=p1 at *;generalize(p.2.1:Rat)=p2 at *;generalize(p.2.2:Rat)=ow at *;generalize(q.1:Rat)=aM at *;generalize(q.2.1:Rat)=a4 at *;generalize(q.2.2:Rat)=dx at *;refine⟨gK*ow/(s'*hR),hx*dx/(s'*hR),?_,?_,?_⟩<;>grind
theorem GR(h:ab->Rat):∀(z:ab)(L:ZJ),eT (λp q=>h p-h q) (cW z L)=h z-h (bT z L)
 |z,[]=>by rw[show cW z []=[]from rfl,iK,show bT z []=z from rfl];grind
 |z,p::L=>by
  rw[show cW z (p::L)=(z,p)::cW p L from rfl,hJ,GR h p L,show bT z (p::L)=bT p L from rfl];dsimp only;grind
open Classical in
noncomputable def c0(f:ab->Int)(mt:ab->ab->ab)(ps:ZJ):List ab:=if ∃c∈ps,0<f c then dz f mt ps else[]
end Cut
namespace L3
open PySem L2
section
variable{X:aU}{e:WP}{u:bg}{pos:Pos}
def Qy(i:Nat)(u:bg):cQ:=λU ρ=>∃m,ρ[i]?=some (.val (.int m))/\u ρ λd=>∃n,d=.int n/\U.nx (ρ.set i (.val (.int (m+n))))
theorem Qz{i:Nat}{x:Str}{fx:Pos}(bF:X.N.Nodup)(hi:X.N[i]?=some x)(al:Loc X.env.scope x)(aD:br X e u)(bD:iO X x:=by walk_at"f"):
  fk X (.AugAssign (.Name x fx) .Add e pos) (Qy i u):=by
 obtain⟨_,h1,aq⟩:=aD;refine⟨_,Lm bF hi al h1 Lq bD,λU ρ h R W B H σ D e s=>?_⟩;obtain⟨m,aA,h⟩:=h;obtain⟨v,aL,b6⟩:=e.val aA;refine⟨v,aL,?_⟩;refine aq ρ _ h R W B H σ _ e λd w aY au aG ai aE aC=>?_;obtain⟨n,rfl,z⟩:=aG;exact⟨m,n,b6.intV,aC.intV,s.nx _ _ aY au z (ai.setV i (.int _)) aE⟩
end
end L3
namespace Cut
open PySem L2 L3
open PySem.Builtin.Int (intBits)
theorem QA{x:Int}(h0 : -63<=x)(h1:x<=63):SC x<=6:=by
 have:∀n:Fin 127,SC ((n.val:Int)-63)<=6:=by decide +kernel
 have:=this ⟨(x+63).toNat,by lia⟩;rwa[show(((x+63).toNat:Nat):Int)-63=x by lia]at this
noncomputable def dA(f:ab->Int)(mt:ab->ab->ab)(sh:ZN):List ba:=(sh.map λs=>(c0 f mt s.1,s.2)).filter λs => !s.1.isEmpty
theorem uh{f:ab->Int}{mt:ab->ab->ab}(a b:ZN):dA f mt (a++b)=dA f mt a++dA f mt b:=by unfold dA;rw[Sz,U3]
theorem w3{f:ab->Int}{mt:ab->ab->ab}{s:ba}(h:(c0 f mt s.1).isEmpty=false):dA f mt [s]=[(c0 f mt s.1,s.2)]:=by unfold dA;simp[h]
theorem w4{f:ab->Int}{mt:ab->ab->ab}{s:ba}(h:(c0 f mt s.1).isEmpty=true):dA f mt [s]=[]:=by unfold dA;simp[h]
theorem sf{f:ab->Int}{mt:ab->ab->ab}(sh:ZN):(dA f mt sh).length<=sh.length:=by
 unfold dA;refine SD (Vm _ _) ?_;rw[Sv];exact SF _
theorem QB{f:ab->Int}{mt:ab->ab->ab}{sh:ZN}{s:ba}(h:s∈dA f mt sh):∃t∈sh,s=(dz f mt t.1,t.2)/\∃c∈t.1,0<f c:=by
 unfold dA at h;obtain⟨h1,aa⟩:=TN.mp h;obtain⟨t,aR,rfl⟩:=SJ.mp h1;refine⟨t,aR,?_⟩;unfold c0 at aa⊢;split at aa
 ·rename_i c;rw[Tk c];exact⟨rfl,c⟩
 simp at aa
theorem GS:∀(z:ab)(L:ZJ)(k:Nat),k<L.length->(cW z L)[k]?=some (bx (z::L) k,bx L k)
 |_,[],_,h=>absurd h (by simp)
 |z,p::L,0,_=>rfl
 |z,p::L,k+1,h=>by
  have:=GS p L k (by simpa using h);simpa[cW,Gf]using this
theorem Bv:∀(z:ab)(L:ZJ),(cW z L).length=L.length
 |_,[]=>rfl
 |z,p::L=>by simp[cW,Bv p L]
theorem w5:∀(z:ab)(L:ZJ),L≠[]->bT z L=bx L (L.length-1)
 |_,[],h=>absurd rfl h
 |z,[p],_=>rfl
 |z,p::q::L,_=>by
  have:=w5 p (q::L) (by simp);show bT p (q::L)=_
  rw[this];rfl
theorem w6(ps:ZJ):dk ps=(S4 ps.length).map λk=>(bx ps ((k+ps.length-1)%ps.length),bx ps k):=by
 apply Uk;intro k;by_cases h:k<ps.length
 ·have aO:ps≠[]:=by rintro rfl;simp at h
  rw[SW,Vf h];unfold dk;rw[GS _ _ _ h];simp only[UK];congr 2;cases k with
  |zero=>
   rw[P2,w5 _ _ aO,U2,Td (by lia)]
  |succ k=>
   rw[Gf,show k+1+ps.length-1=k+ps.length by lia,UM,Td (by lia)]
 rw[S' (by unfold dk;rw[Bv];lia),S' (by simp;lia)]
end Cut
namespace Cut
open PySem L2 L3
theorem w7{f:ab->Int}{mt:ab->ab->ab}{ps:ZJ}(h:∃c∈ps,0<f c):c0 f mt ps=dz f mt ps:=by unfold c0;rw[Tk h]
theorem Bw{f:ab->Int}{mt:ab->ab->ab}{ps:ZJ}(h:¬∃c∈ps,0<f c):c0 f mt ps=[]:=by unfold c0;rw[Tl h]
theorem w8{l:ab}{ps:ZJ}:(∃c∈ps,0<(λc => -ln l c) c)↔∃c∈ps,ln l c<0:=
 ⟨λ⟨c,h,z⟩=>⟨c,h,by have z:0 < -ln l c:=z;lia⟩,λ⟨c,h,z⟩=>⟨c,h,by show 0 < -ln l c;lia⟩⟩
end Cut
namespace L3
open PySem L2
theorem Bx{α:Type}{f h:α->D}{P:α->Bool}{dE:dO}{u:bg}{fs:ZM}:∀{rs:List α}{eM:aK}{k:ZK->Prop},(∀r∈rs,∀k:Bool->Prop,k (P r)->dE (.val (f r)::fs) k)->(∀r∈rs,∀k:D->Prop,k (h r)->u (.val (f r)::fs) k)->k ((rs.filter P).map h)->hI (fb 0) dE u (rs.map f) (eM::fs) k
 |[],_,_,_,_,ah=>ah
 |r::rs,eM,k,h1,aa,ah=>by
  refine h1 r Sw _ ?_;cases c:P r with
  |true=>
   rw[Tk rfl];refine aa r Sw _ ?_;refine Bx (P:=P) (λx al=>h1 x (Sy _ al)) (λx al=>aa x (Sy _ al)) ?_;rwa[WU c]at ah
  |false=>
   rw[Tl SP];refine Bx (P:=P) (λx al=>h1 x (Sy _ al)) (λx al=>aa x (Sy _ al)) ?_;rwa[WV (by rw[c];decide)]at ah
end L3
namespace Cut
open PySem L2 L3
open PySem.Builtin.Int (intBits)
theorem QC{ps:ZJ}{i:Nat}(h:i<ps.length):(dk ps).take (i+1)=(dk ps).take i++[(bx ps ((i+ps.length-1)%ps.length),bx ps i)]:=by
 rw[List.take_succ,w6,SW,Vf h];rfl
theorem QD(ps:ZJ):(dk ps).take ps.length=dk ps:=Vi (by unfold dk;rw[Bv];exact SF _)
theorem QF(p q:ab):ln (crs p q) p=0:=by show be p q p=0;unfold be crs;grind
theorem GT{f:ab->Int}{mt:ab->ab->ab}{x:ab}:∀{ps:ZJ}{w:ab},x∈di f mt ps w->(x∈ps/\0<=f x)\/∃e∈cW (ps.headD w) (ps.tail++[w]),f e.1*f e.2<0/\x=mt e.1 e.2
 |[],_,h=>by cases h
 |p::r,w,h=>by
  have h:x∈kp f p++cB f mt p (r.headD w)++di f mt r w:=h;rcases SK.mp h with h|h
  ·rcases SK.mp h with h|h
   ·unfold kp at h;split at h
    ·rename_i z
     rw[SN.mp h];exact .inl ⟨Sw,z⟩
    cases h
   unfold cB at h;split at h
   ·rename_i z
    refine .inr ⟨(p,r.headD w),?_,z,SN.mp h⟩;cases r<;>exact Sw
   cases h
  rcases GT h with⟨h1,aa⟩|⟨e,h1,aa⟩
  ·exact .inl ⟨Sy _ h1,aa⟩
  refine .inr ⟨e,?_,aa⟩;cases r with
  |nil=>cases h
  |cons q r=>exact Sy _ h1
theorem QG{f:ab->Int}{mt:ab->ab->ab}{x:ab}{ps:ZJ}(h:x∈dz f mt ps):(x∈ps/\0<=f x)\/∃e∈dk ps,f e.1*f e.2<0/\x=mt e.1 e.2:=by
 cases ps with
 |nil=>cases h
 |cons a r=>
  rcases GT h with h|⟨e,h1,aa⟩
  ·exact .inl h
  exact .inr ⟨e,Bp.mp h1,aa⟩
structure w9 (b m:Nat) (ps:ZJ):Prop where
 pts:∀x∈ps,cT b x
 lin:∀e∈dk ps,∃g:ab,cp m g/\(g.1≠0\/g.2.1≠0\/g.2.2≠0)/\ln g e.1=0/\ln g e.2=0
theorem par{g u v:ab}(aF:g.1≠0\/g.2.1≠0\/g.2.2≠0)(a2:ln g u=0)(aL:ln g v=0)(n:(crs u v).1≠0\/(crs u v).2.1≠0\/(crs u v).2.2≠0):∃a b:Int,a≠0/\b≠0/\sc a (crs u v)=sc b g:=by
 have t:crs g (crs u v)=hh (ln g v) u (-ln g u) v:=t9 g u v;rw[a2,aL]at t;generalize crs u v=w at *
 have dg:g.2.1*w.2.2-g.2.2*w.2.1=0:=by
  have:=UF (λx:ab=>x.1) t;unfold crs hh at this;dsimp only at this;grind
 have cU:g.2.2*w.1-g.1*w.2.2=0:=by
  have:=UF (λx:ab=>x.2.1) t;unfold crs hh at this;dsimp only at this;grind
 have jp:g.1*w.2.1-g.2.1*w.1=0:=by
  have:=UF (λx:ab=>x.2.2) t;unfold crs hh at this;dsimp only at this;grind
 have ki:∀{x y:Int},x≠0->x*y=0->y=0:=λh e=>(Tt.mp e).resolve_left h;rcases aF with h|h|h
 ·refine⟨g.1,w.1,h,λz=>?_,?_⟩
  ·rw[z]at cU jp;have a:=ki h (show g.1*w.2.2=0 by grind);have b:=ki h (show g.1*w.2.1=0 by grind);rcases n with n|n|n<;>contradiction
  unfold sc;refine e3 ?_ ?_ ?_<;>dsimp only<;>grind
 ·refine⟨g.2.1,w.2.1,h,λz=>?_,?_⟩
  ·rw[z]at dg jp;have a:=ki h (show g.2.1*w.2.2=0 by grind);have b:=ki h (show g.2.1*w.1=0 by grind);rcases n with n|n|n<;>contradiction
  unfold sc;refine e3 ?_ ?_ ?_<;>dsimp only<;>grind
 refine⟨g.2.2,w.2.2,h,λz=>?_,?_⟩
 ·rw[z]at dg cU;have a:=ki h (show g.2.2*w.2.1=0 by grind);have b:=ki h (show g.2.2*w.1=0 by grind);rcases n with n|n|n<;>contradiction
 unfold sc;refine e3 ?_ ?_ ?_<;>dsimp only<;>grind
theorem GU(c:Int)(p q:ab):crs p (sc c q)=sc c (crs p q):=by
 refine e3 ?_ ?_ ?_<;>simp only[crs,sc]<;>grind
theorem QH{l w g:ab}{a b:Int}(aw:a≠0)(ae:b≠0)(e:sc a w=sc b g)(n:(crs l w).2.2≠0):(crs l g).2.2≠0/\nP (crs l w)=nP (crs l g):=by
 have ai:sc a (crs l w)=sc b (crs l g):=by rw[<-GU,e,GU]
 have aH:a*(crs l w).2.2=b*(crs l g).2.2:=UF (λx:ab=>x.2.2) ai
 have cO:(crs l g).2.2≠0:=λz=>by
  rw[z,S2]at aH;rcases Tt.mp aH with y|y<;>contradiction
 refine⟨cO,?_⟩;obtain⟨c,fl,hc⟩:=kr cO;have ar:sc a (crs l w)=sc (b*c) (nP (crs l g)):=by rw[ai,<-FK,<-hc]
 exact(r6 aw (λz=>by rcases Tt.mp z with y|y<;>contradiction) (gv cO) ar).2
theorem fg.sl{g:ab}{ps:ZJ}(aF:aX g)(ag:∀p∈ps,aX p)(h:fg ps):fg (ps.map λp=>nP (sld g p)):=h.map λp q r a b c=>(PA aF.1).side (ag p a).1 (ag q b).1 (ag r c).1
end Cut
namespace L3
open PySem L2
section
variable{K:Su}{X:aU}{pos p:Pos}{bj:WP}
theorem kl.rng2{B:am}(fN:Int)(n:Nat):kl K B (rJ fN n) ((S4 n).map λi:Nat=>D.int (fN+i)):=by
 intro H s i;rw[Sv,U1];refine⟨λhi=>hi,λhi=>hi,λx ak hi ⟨ai,ar⟩=>⟨ai,?_⟩⟩;refine⟨.int (fN+i),?_,?_⟩
 ·rw[SW,Vf hi];rfl
 rw[ar];exact .int _
def QI(u dV:bg):df:=λρ k=>u ρ λd=>dV ρ λcc=>∃i j,d=.int i/\cc=.int j/\(-(2^62)<=i/\i<2^62 /\ -(2^62)<=j/\j<2^62)/\k ((S4 (j-i).toNat).map λt:Nat=>D.int (i+t))
theorem QJ{a b:WP}{u dV:bg}(aw:br X a u)(ae:br X b dV)(aF:eD X "range")(aA:X.mg "range"=none)(av:UV [a,b] X.env=[(false,Yl a X.env),(false,Yl b X.env)]:=by rfl)(lu:UV [b] X.env=[(false,Yl b X.env)]:=by rfl):na X bj (.Call (.Name "range" p) [a,b] [] pos) (QI u dV):=by
 obtain⟨_,h1,aq⟩:=aw;obtain⟨_,aa,aN⟩:=ae;refine⟨_,LF aF aA (d5 h1 (d5 aa fj (by rw[eQ,lu];rfl)) (by rw[eQ,av,lu])) av lu,λρ k h R W B H σ Q e q=>?_⟩;refine aq ρ _ h R W B H σ _ e λd v aY au aG ai aE aC=>?_;refine aN ρ _ aG R W aY au σ _ ai λcc dB bG aS a8 ar aI bf=>?_;obtain⟨i,j,rfl,rfl,w',z⟩:=a8;exact⟨i,j,by rw[aC.intV,bf.intV],w',q _ _ bG aS z ar (aE.trans aI) (kl.rng2 _ _)⟩
end
section
variable{P:WF}{w:Xx}{A:Xy}{E:SZ->TD->Prop}{s:TD}
inductive i9 (h:XB):ZZ->ZU->Prop
 |nil:i9 h [] []
 |cons {l:ZI} {a:TI} {ks:ZZ} {us:ZU} (k:Zp (Zl P w) h l a) (r:i9 h ks us):i9 h (l::ks) (.ref a::us)
def jZ(P:WF)(w:Xx)(h:XB)(ks:ZZ)(a:TI):Prop:=∃bO us n,h.get? a=some bO/\bO.cls=.type "tuple"/\bO.data=.seq us n/\i9 (P:=P) (w:=w) h ks us.toList
theorem i9.inj2{h:XB}{us:ZU}:∀{x y:ZZ},i9 (P:=P) (w:=w) h x us->i9 (P:=P) (w:=w) h y us->x=y:=by
 intro x y p;induction p generalizing y with
 |nil=>intro q;cases q;rfl
 |cons k r b9=>
  intro q;cases q with
  |cons k' dn=>rw[k.inj k',b9 dn]
theorem jZ.ty{ks:ZZ}{a:TI}(x:jZ P w s.heap ks a):s.TypeIs (.ref a) "tuple":=let⟨bO,_,_,h1,aa,_⟩:=x;⟨bO,h1,aa⟩
theorem jZ.inj2{h:XB}{a:TI}{x y:ZZ}(p:jZ P w h x a)(q:jZ P w h y a):x=y:=by
 obtain⟨ky,db,c8,ca,_,c1,b7⟩:=p;obtain⟨kA,dV,cO,cn,_,c2,cc⟩:=q;rw[ca]at cn;cases cn;rw[c1]at c2;cases c2;exact b7.inj2 cc
theorem i9.keep{h h':XB}{d:TI}{bO:Obj}{es:Array YC}{a0:Nat}(ax:h.get? d=some bO)(hd:bO.data=.dict es a0)(av:Heap.SameBut d h h'):∀{ks:ZZ}{us:ZU},i9 (P:=P) (w:=w) h ks us->i9 (P:=P) (w:=w) h' ks us
 |_,_,.nil=>.nil
 |_,_,.cons k r=>.cons (k.keeps ax hd av) (i9.keep ax hd av r)
theorem jZ.keep{h h':XB}{ks:ZZ}{a d:TI}{bO:Obj}{es:Array YC}{a0:Nat}(x:jZ P w h ks a)(ax:h.get? d=some bO)(hd:bO.data=.dict es a0)(av:Heap.SameBut d h h'):jZ P w h' ks a:=by
 obtain⟨ky,db,c8,ca,b1,c1,b7⟩:=x;refine⟨ky,db,c8,?_,b1,c1,b7.keep ax hd av⟩
 have ne:a≠d:=by
  rintro rfl;rw[ax]at ca;cases ca;rw[hd]at c1;cases c1
 exact(av.2 a ne).trans ca
def xa(ks:ZZ):Nat:=(ks.map λl=>l.length+1).sum+1
theorem QK{ks:ZZ}{a:TI}{Q:Int->TD->Prop}(a2:A.units+3<XO)(ah:jZ P w s.heap ks a)(h:Q (o3 true ks) {s with toks:=s.toks+xa ks}):wpAny (Wp P w) A (pyHash (.ref a)) Q E s:=by
 have ej:=ah.ty;obtain⟨bO,us,n,h1,_,aH,a6⟩:=ah;unfold pyHash
 first|unfold pyHashByItsType|skip
 first|refine SB (wpAny_cRoomFor_or (.inr (by lia)) ?_)|skip
 refine SB (X' ej F.slot_tuple_hash.lookup ?_);show wpAny (Wp P w) A (if(some (Value.builtin "tuple.__hash__")==some Value.none)=true then _ else _) Q E s
 rw[Tl (by rw[beq_builtin_none];exact SP)];refine SB (X' ej F.slot_tuple_hash.lookup ?_);show wpAny (Wp P w) A (callSpecialIfBoundUnlessNone? (.ref a) "__hash__" _ >>= _) Q E s
 refine SB (wpAny_callSpecialIfBoundUnlessNone?_slot ej F.slot_tuple_hash (XC F.slot_tuple_hash ej F.entry_tuple_hash ?_ (F.args_tuple_hash_1 _)));show wpAny (Wp P w) _ (Builtin.Tuple.tupleItemsOf (.ref a) >>= _) _ _ s
 refine SB (Yt h1 aH ?_);refine SB ?_;rw[<-Wa]
 refine Yk _
  (λrest (b:Array Int) s'=>∃done left,ks=done++left/\i9 (P:=P) (w:=w) s.heap left rest/\b.toList=done.map (λl=>X5 (Builtin.Tuple.tupleHashOf (l.map Zj)))/\s'={s with toks:=s.toks+(done.map λl=>l.length+1).sum})
  _ ?_ ?_ _ _ ⟨[],ks,rfl,a6,rfl,rfl⟩
 ·rintro x rest b s' ⟨done,left,rfl,ap,ae,rfl⟩;cases ap with
  | @cons l c jB _ ci aq=>
   have e9:∃lR GV,done++l::jB=lR++GV/\i9 (P:=P) (w:=w) s.heap GV rest/\(b.push (X5 (Builtin.Tuple.tupleHashOf (l.map Zj)))).toList=lR.map (λl=>X5 (Builtin.Tuple.tupleHashOf (l.map Zj))) /\
     ({s with toks:=s.toks+(done.map λl=>l.length+1).sum+(l.length+1)}:TD)={s with toks:=s.toks+(lR.map λl=>l.length+1).sum}:=⟨done++[l],jB,by simp,aq,by simp[ae],by simp[Wb]⟩
   refine SB (Ze (s:={s with toks:=s.toks+(done.map λl=>l.length+1).sum}) (by show A.units+_<XO;lia) ci ?_)
   first
    |exact SL e9
    |exact SB (SL (SL e9))
 rintro b s' ⟨done,left,rfl,ap,ae,rfl⟩;cases ap;rw[SQ]at h;show wpAny (Wp P w) _ (retInt (Builtin.Tuple.tupleHashOf b.toList)) _ _ _
 rw[ae];refine wpAny_ret_mkInt ?_;generalize hz:Builtin.Tuple.tupleHashOf (done.map λl=>X5 (Builtin.Tuple.tupleHashOf (l.map Zj)))=z;have ar:o3 true done=X5 z:=by rw[<-hz];rfl
 rw[ar]at h;show wpAny (Wp P w) _ (if(decide (-(2:Int)^63<=z)&&decide (z<2^63))=true then _ else _) Q E _
 unfold X5 at h;by_cases ao:(decide (-(2:Int)^63<=z)&&decide (z<2^63))=true
 ·rw[Tk ao];rw[Tk ao]at h;exact SL (by simpa[Wb,xa]using h)
 rw[Tl ao];rw[Tl ao]at h;exact SB (Yb (SL (by simpa[Wb,xa]using h)))
theorem QL{x y:ZZ}{a b:TI}{R:Wc->TD->Prop}(a2:A.units+2<XO)(al:jZ P w s.heap x a)(aP:jZ P w s.heap y b)(h:R (.done (.ret (.bool (decide (x=y))))) s):
  wpAny (Wp P w) A (Yy.«tuple.__eq__» ⟨[.ref a,.ref b],[]⟩) R E s:=by
 have ej:=aP.ty;obtain⟨ky,xs,c8,ca,_,c1,b7⟩:=al;obtain⟨kA,ys,cO,cn,_,c2,cc⟩:=aP;show wpAny (Wp P w) A (isInstance (.ref b) (.type "tuple") >>= _) _ _ s
 refine SB (X4 ej Yh ?_);simp only[UO,TH,if_false];refine SB (Yt ca c1 (SB (Yt cn c2 (SB ?_))))
 refine Yk _
  (λrest r s'=>r.1=none/\s'=s/\∃hA fL ui uj,rest=List.zip ui uj/\i9 (P:=P) (w:=w) s.heap hA ui/\i9 (P:=P) (w:=w) s.heap fL uj/\decide (hA=fL)=decide (x=y)/\(ui.length==uj.length)=(xs.size==ys.size))
  _ ?_ ?_ _ _ ⟨rfl,rfl,x,y,xs.toList,ys.toList,rfl,b7,cc,rfl,by simp⟩
 ·rintro⟨u,v⟩ rest r s' ⟨ao,rfl,hA,fL,ui,uj,hz,s3,m3,xb,eE⟩;cases s3 with
  |nil=>simp at hz
  | @cons ci agE hK QM h1 QN=>
   cases m3 with
   |nil=>simp at hz
   | @cons cu agF fa QO aa QP=>
    rw[Vn,UP,Uz]at hz;obtain⟨⟨rfl,rfl⟩,rfl⟩:=hz;refine SB (Zf (by lia) h1 aa ?_);by_cases ah:ci=cu
    ·subst ah;rw[Xw rfl];simp only[UO,TH,if_false];refine SL ⟨rfl,rfl,hK,fa,QM,QO,rfl,QN,QP,?_,by simpa using eE⟩;rw[<-xb];by_cases ar:hK=fa<;>simp[ar]
    rw[decide_eq_false ah];simp only[Bool.not_false,if_true];have bD:decide (x=y)=false:=by rw[<-xb];simp[ah]
    rw[bD]at h;exact SB (SL (SL (SL h)))
 rintro⟨aq,aN⟩ s' ⟨ao,rfl,hA,fL,ui,uj,hz,s3,m3,xb,eE⟩;simp only at ao;subst ao;refine SL ?_
 have QQ:(xs.size==ys.size)=decide (x=y):=by
  rw[<-xb,<-eE];cases s3 with
  |nil=>cases m3<;>simp
  |cons _ _=>
   cases m3 with
   |nil=>simp
   |cons _ _=>simp at hz
 show R (.done (.ret (.bool (xs.size==ys.size)))) s'
 rw[QQ];exact h
theorem QR{x y:ZZ}{a b:TI}{Q:Bool->TD->Prop}(a2:A.units+3<XO)(al:jZ P w s.heap x a)(aP:jZ P w s.heap y b)(h:Q (decide (x=y)) s):wpAny (Wp P w) A (eqBool (.ref a) (.ref b)) Q E s:=by
 unfold eqBool
 try with_reducible refine Xu ?_
 show wpAny (Wp P w) A (if(Value.ref a==Value.ref b)=true then _ else _) Q E s
 by_cases iH:(Value.ref a==Value.ref b)=true
 ·rw[Tk iH];obtain rfl:a=b:=by have:=eq_of_beq iH;injection this
  obtain rfl:=al.inj2 aP;exact SB (Yb (SL (by simpa using h)))
 rw[Tl iH]
 exact SB (wpAny_richCompare_same_room (op:=.Eq) al.ty aP.ty F.slot_tuple_eq
  (XC F.slot_tuple_eq al.ty F.entry_tuple_eq (QL (by show A.units+_+2<XO;lia) al aP ⟨_,rfl,(λe=>nomatch e),XD h⟩) (F.args_tuple_eq_2 _ _)) (by lia))
theorem QT(n:Nat){l:ZI}{a:TI}{Q:Bool->TD->Prop}(ah:Zp (Zl P w) s.heap l a)(h:Q true s):wpAny (Wp P w) A (Zx (n+1) (.ref a)) Q E s:=by
 have ej:=ah.typeIs;obtain⟨bO,us,m,h1,_,aH,a6⟩:=ah;unfold Zx;refine SB (X' ej F.slot_tuple_eq.lookup ?_);show wpAny (Wp P w) A (isInstance (.ref a) (.type "tuple") >>= _) _ _ s
 refine SB (X4 ej Yh ?_);simp only[UO,TH,if_false];refine SB (Yz h1 aH (SB ?_));show wpAny (Wp P w) A (forIn us _ _) _ _ s
 rw[<-Wa];refine Yk _ (λrest r s'=>r.1=none/\s'=s/\∀v∈rest,carriedByValue v=true) _ ?_ ?_ _ _ ⟨rfl,rfl,a6.byValue⟩
 ·rintro v rest r s' ⟨ao,rfl,rP⟩;rw[eqIsQuiet_byValue _ (rP v Sw)];refine SB (SL ?_);simp only[UO,TH,if_false];exact SL ⟨rfl,rfl,λu sg=>rP u (Sy _ sg)⟩
 rintro⟨aq,aN⟩ s' ⟨ao,rfl,_⟩;simp only at ao;subst ao;exact SL h
theorem QU{ks:ZZ}{a:TI}{Q:Bool->TD->Prop}(ah:jZ P w s.heap ks a)(h:Q true s):wpAny (Wp P w) A (Zx 8 (.ref a)) Q E s:=by
 have ej:=ah.ty;obtain⟨bO,us,m,h1,_,aH,a6⟩:=ah;unfold Zx;refine SB (X' ej F.slot_tuple_eq.lookup ?_);show wpAny (Wp P w) A (isInstance (.ref a) (.type "tuple") >>= _) _ _ s
 refine SB (X4 ej Yh ?_);simp only[UO,TH,if_false];refine SB (Yz h1 aH (SB ?_));show wpAny (Wp P w) A (forIn us _ _) _ _ s
 rw[<-Wa];refine Yk _ (λrest r s'=>r.1=none/\s'=s/\∃left,i9 (P:=P) (w:=w) s.heap left rest) _ ?_ ?_ _ _ ⟨rfl,rfl,ks,a6⟩
 ·rintro v rest r s' ⟨ao,rfl,left,ap⟩;cases ap with
  | @cons l c jB _ ci aq=>
   refine SB (QT 6 ci ?_);simp only[UO,TH,if_false];exact SL ⟨rfl,rfl,jB,aq⟩
 rintro⟨aq,aN⟩ s' ⟨ao,rfl,_⟩;simp only at ao;subst ao;exact SL h
end
def k1(P:WF)(w:Xx):Bool->HeapKind P w ZZ
 |false=>{
  is:=λh k a=>∃l,k=[l]/\Zp (Zl P w) h l a
  hash:=o3 false
  draws:=λk=>(k.headD []).length+1
  room:=λA=>A.units+3<XO
  inj:=by rintro h a x y ⟨l,rfl,p⟩ ⟨m,rfl,q⟩;rw[p.inj q]
  keeps:=λ⟨l,e,p⟩ ax hd av=>⟨l,e,p.keeps ax hd av⟩
  pyHash:=λa2 ⟨l,e,p⟩ h=>by subst e;exact Ze (by lia) p h
  eqBool:=λa2 ⟨l,e,p⟩ ⟨m,bv,q⟩ h=>by subst e bv;exact Zf (by lia) p q (by simpa using h)
  quiet:=λ⟨l,e,p⟩ h=>wpAny_eqIsQuiet_tuple p h}
 |true=>{
  is:=jZ P w
  hash:=o3 true
  draws:=xa
  room:=λA=>A.units+3<XO
  inj:=λp q=>p.inj2 q
  keeps:=λp ax hd av=>p.keep ax hd av
  pyHash:=λa2 p h=>QK a2 p h
  eqBool:=λa2 p q h=>QR a2 p q h
  quiet:=λp h=>QU p h}
theorem QV(P:WF)(w:Xx)(b:Bool)(k:ZZ):(k1 P w b).hash k=o3 b k:=by cases b<;>rfl
theorem uk{P:WF}{w:Xx}{b:Bool}{A:Xy}(h:A.units+4<XO):(k1 P w b).room A.in1:=by
 cases b<;>exact(show A.units+1+3<XO by lia)
def bo{α:Type}:List ZZ->List α->ZZ->Option α
 |k'::ks,d::ds,k=>if k'=k then some d else bo ks ds k
 |_,_,_=>none
def fU{α:Type}:List ZZ->List α->ZZ->α->List α
 |k'::ks,d::ds,k,x=>(if k'=k then x else d)::fU ks ds k x
 |_,ds,_,_=>ds
def eO(ks:List ZZ)(k:ZZ):List ZZ:=if k∈ks then ks else ks++[k]
def gP{α:Type}(ks:List ZZ)(ds:List α)(k:ZZ)(x:α):List α:=if k∈ks then fU ks ds k x else ds++[x]
def en:List ZZ->ZV->ZU->List (ZZ×TI×SZ)
 |k::ks,a::as,u::us=>(k,a,u)::en ks as us
 |_,_,_=>[]
section
variable{P:WF}{w:Xx}{b:Bool}
theorem xc:∀(ks:List ZZ)(as:ZV)(us:ZU),kL b ks as us=(en ks as us).map (Zk (k1 P w b))
 |k::ks,a::as,u::us=>by
  rw[kL,en,SH,<-xc ks as us];unfold Zk;rw[QV]
 |[],_,_=>by simp[kL,en]
 |_::_,[],_=>by simp[kL,en]
 |_::_,_::_,[]=>by simp[kL,en]
theorem xf:∀{ks:List ZZ}{as:ZV}{us:ZU},as.length=ks.length->us.length=ks.length->(en ks as us).map (·.1)=ks
 |[],_,_,_,_=>by simp[en]
 |k::ks,[],_,h,_=>by simp at h
 |k::ks,_::_,[],_,h=>by simp at h
 |k::ks,a::as,u::us,h1,aa=>by
  rw[en,SH,xf (by simpa using h1) (by simpa using aa)]
theorem si:∀{ks:List ZZ}{as:ZV}{us:ZU}(k:ZZ),as.length=ks.length->us.length=ks.length->(Zy (en ks as us) k).map (·.2)=bo ks us k
 |[],_,_,_,_,_=>by simp[en,Zy,bo]
 |k::ks,[],_,_,h,_=>by simp at h
 |k::ks,_::_,[],_,_,h=>by simp at h
 |k'::ks,a::as,u::us,k,h1,aa=>by
  have b9:=si (ks:=ks) (as:=as) (us:=us) k (by simpa using h1) (by simpa using aa);by_cases e:k'=k
  ·simp[en,Zy,bo,e]
  rw[bo,Tl e,<-b9];simp[en,Zy,List.find?_cons,e]
theorem pE{α:Type}:∀{ks:List ZZ}{ds:List α}{k:ZZ},ds.length=ks.length->(bo ks ds k=none↔k∉ks)
 |[],_,_,_=>by simp[bo]
 |k'::ks,[],_,h=>by simp at h
 |k'::ks,d::ds,k,h=>by
  have b9:=pE (ks:=ks) (ds:=ds) (k:=k) (by simpa using h);rw[bo];by_cases e:k'=k
  ·simp[e]
  rw[Tl e,b9,SG];constructor
  ·intro z w;rcases w with w|w
   ·exact e w.symm
   exact z w
  exact λz w=>z (.inr w)
theorem By{α:Type}{x:α}:∀(ks:List ZZ)(ds:List α)(k:ZZ),(fU ks ds k x).length=ds.length
 |[],_,_=>by simp[fU]
 |k'::ks,[],_=>by simp[fU]
 |k'::ks,d::ds,k=>by rw[fU,SM,By ks ds k,SM]
theorem GW:∀{ks:List ZZ}{as:ZV}{us:ZU}(k:ZZ)(u:SZ),(en ks as us).map (putAt k u)=en ks as (fU ks us k u)
 |[],_,_,_,_=>by simp[en]
 |k::ks,[],_,_,_=>by simp[en]
 |k::ks,_::_,[],_,_=>by simp[en,fU]
 |k'::ks,a::as,v::us,k,u=>by
  rw[en,SH,GW k u,fU,en];unfold putAt;by_cases e:k'=k
  ·rw[Tk e,Tk e]
  rw[Tl e,Tl e]
theorem GX:∀{ks:List ZZ}{as:ZV}{us:ZU}(k:ZZ)(a:TI)(u:SZ),as.length=ks.length->us.length=ks.length->en (ks++[k]) (as++[a]) (us++[u])=en ks as us++[(k,a,u)]
 |[],[],[],_,_,_,_,_=>rfl
 |[],_::_,_,_,_,_,h,_=>by simp at h
 |[],[],_::_,_,_,_,_,h=>by simp at h
 |k::ks,[],_,_,_,_,h,_=>by simp at h
 |k::ks,_::_,[],_,_,_,_,h=>by simp at h
 |k'::ks,gK::as,fi::us,k,a,u,h1,aa=>by
  rw[To,To,To,en,GX k a u (by simpa using h1) (by simpa using aa),en,To]
theorem GY{ks:List ZZ}{as:ZV}{us:ZU}(k:ZZ)(a:TI)(u:SZ)(h1:as.length=ks.length)(aa:us.length=ks.length):
  storedH (en ks as us) k a u=en (eO ks k) (if k∈ks then as else as++[a]) (gP ks us k u):=by
 have g:=si (as:=as) (us:=us) k h1 aa;unfold storedH eO gP;by_cases m:k∈ks
 ·have s:(Zy (en ks as us) k).isSome=true:=by
   have z:((Zy (en ks as us) k).map (·.2)).isSome=true:=by
    rw[g];cases q:bo ks us k with
    |none=>exact absurd m ((pE aa).mp q)
    |some x=>rfl
   rwa [WW]at z
  rw[Tk s,Tk m,Tk m,Tk m,GW]
 have s:¬(Zy (en ks as us) k).isSome=true:=by
  have z:((Zy (en ks as us) k).map (·.2)).isSome=false:=by
   rw[g,(pE aa).mpr m];rfl
  rw[WW]at z;rw[z];simp
 rw[Tl s,Tl m,Tl m,Tl m,GX k a u h1 aa]
def mw(H:am)(b:Bool)(k:ZZ)(a:TI):Prop:=match b with
 |false=>∃l:ZI,k=[l]/\H a=some (.tup (l.map V.int))
 |true=>∃as:ZV,H a=some (.tup (as.map V.ref))/\Paired (λ(l:ZI) c=>H c=some (.tup (l.map V.int))) k as
theorem GZ:∀{l:ZI}{us:ZU},bN (l.map V.int) us->ItemsAre (Zl P w) l us
 |[],_,r=>by rw[Ts]at r;cases r;exact .nil
 |i::l,_,r=>by
  rw[SH]at r;cases r with
  |cons h t=>
   obtain⟨t',e⟩:=(show ∃t,_=Value.int i t from h);subst e;exact .cons (by simp[Zl,Value.isInt]) (GZ t)
theorem G0{H:am}{h:XB}{l:ZI}{a:TI}(ok:e7 P w H h)(e:H a=some (.tup (l.map V.int))):Zp (Zl P w) h l a:=by
 obtain⟨_,its,r,o,h1,aa,n,aH⟩:=(show gl P w H h a (.tup (l.map V.int))from ok a _ e);exact⟨o,its.toArray,n,h1,aa,aH,by simpa using GZ r⟩
theorem G1{H:am}{h:XB}(ok:e7 P w H h):∀{ks:ZZ}{as:ZV}{us:ZU},Paired (λ(l:ZI) c=>H c=some (.tup (l.map V.int))) ks as->bN (as.map V.ref) us->i9 (P:=P) (w:=w) h ks us
 |[],[],_,.nil,r=>by rw[Ts]at r;cases r;exact .nil
 |_::_,a::as,_,.cons p q,r=>by
  rw[SH]at r;cases r with
  |cons h t=>
   cases(show _=Value.ref a from h);exact .cons (G0 ok p) (G1 ok q t)
theorem mw.is{H:am}{h:XB}{k:ZZ}{a:TI}(x:mw H b k a)(ok:e7 P w H h):(k1 P w b).is h k a:=by
 cases b with
 |false=>
  obtain⟨l,rfl,e⟩:=x;exact⟨l,rfl,G0 ok e⟩
 |true=>
  obtain⟨as,e,p⟩:=x;obtain⟨_,its,r,o,h1,aa,n,aH⟩:=(show gl P w H h a (.tup (as.map V.ref))from ok a _ e);exact⟨o,its.toArray,n,h1,aa,aH,by simpa using G1 ok p r⟩
structure mx (H:am) (b:Bool) (a:TI) (a0:Nat) (ks:List ZZ) (as:ZV) (vs:ZL):Prop where
 h:H a=some (hB b a a0 ks as vs)
 k:Paired (mw H b) ks as
theorem G2{H:am}{h:XB}(ok:e7 P w H h):∀{ks:List ZZ}{as:ZV}{us:ZU},Paired (mw H b) ks as->∀x∈en ks as us,(k1 P w b).is h x.1 x.2.1
 |_,_,[],p,x,m=>by cases p<;>simp[en]at m
 |[],[],_::_,.nil,x,m=>by simp[en]at m
 |k::ks,a::as,u::us,.cons p q,x,m=>by
  rw[en]at m;rcases SG.mp m with e|m
  ·subst e;exact p.is ok
  exact G2 ok q x m
theorem mx.raw{H:am}{h:XB}{a:TI}{a0:Nat}{ks:List ZZ}{as:ZV}{vs:ZL}(d:mx H b a a0 ks as vs)(ok:e7 P w H h):
  ks.length<=TT/\as.length=ks.length/\vs.length=ks.length/\(a==XH)=false/\∃us,bN vs us/\h.DictOfH (k1 P w b) a (en ks as us)/\ks.Nodup:=by
 obtain⟨⟨h1,aa,aH,a6,us,cH,o,es,ey,nj,qV,qW,ul⟩,_⟩:=(show gl P w H h a (hB b a a0 ks as vs)from ok a _ d.h);have sj:=cH.length;exact⟨h1,aa,aH,a6,us,cH,⟨o,es,a0,ey,nj,qV,by rw[qW,xc (P:=P) (w:=w)],G2 ok d.k,by rw[xf aa (by lia)];exact ul⟩,ul⟩
theorem sk:∀{ks:List ZZ}{vs:ZL}{us:ZU}(k:ZZ),bN vs us->oQ (bo ks vs k) (bo ks us k)
 |[],_,_,_,_=>by simp[bo];trivial
 |_::_,_,_,_,.nil=>by simp[bo];trivial
 |k'::ks,_,_,k,.cons r t=>by
  rw[bo,bo];by_cases e:k'=k
  ·rw[Tk e,Tk e];exact r
  rw[Tl e,Tl e];exact sk k t
theorem G3{v:V}{u:SZ}(r:RelV v u):∀{ks:List ZZ}{vs:ZL}{us:ZU}(k:ZZ),bN vs us->bN (fU ks vs k v) (fU ks us k u)
 |[],_,_,_,t=>by simp only[fU];exact t
 |_::_,_,_,_,.nil=>by simp only[fU];exact .nil
 |k'::ks,_,_,k,.cons q t=>by
  rw[fU,fU];refine .cons ?_ (G3 r k t);by_cases e:k'=k
  ·rw[Tk e,Tk e];exact r
  rw[Tl e,Tl e];exact q
theorem QW{v:V}{u:SZ}(r:RelV v u){ks:List ZZ}{vs:ZL}{us:ZU}(k:ZZ)(t:bN vs us):bN (gP ks vs k v) (gP ks us k u):=by
 unfold gP;by_cases m:k∈ks
 ·rw[Tk m,Tk m];exact G3 r k t
 rw[Tl m,Tl m];exact Paired.snoc t r
end
theorem G4{o:Option V}{u:Option SZ}{d:V}{d':SZ}(r:oQ o u)(gu:RelV d d'):RelV (o.getD d) (u.getD d'):=by
 cases o<;>cases u<;>first|exact gu|exact r|exact r.elim
def QX(b:Bool):iz:=λx y H Q=>∃a c a0 ks as vs k v,x=.ref a/\y=.ref c/\mx H b a a0 ks as vs/\mw H b k c/\bo ks vs k=some v/\Q v H
def G5(H:am)(a:TI):Prop:=∃b a0 ks as vs,mx H b a a0 ks as vs
def QY(b:Bool):bK:=λ_ H Q=>∀p,H p=none->Q (.ref p) (upd H p (hB b p 0 [] [] []))
def QZ(b:Bool)(k2 ty sm:bK):bK:=λσ H Q=>k2 σ H λx au=>∃a,x=.ref a/\G5 au a/\ty σ au λy aS=>sm σ aS λz cG=>∃c a0 ks as vs k,y=.ref c/\mx cG b a a0 ks as vs/\mw cG b k c/\Q ((bo ks vs k).getD z) cG
def Q0(b:Bool)(k2 ty xg:bK):gX:=λD σ H=>xg σ H λv au=>k2 σ au λx aS=>ty σ aS λy cG=>∃a c a0 ks as vs k,x=.ref a/\y=.ref c/\mx cG b a a0 ks as vs/\mw cG b k c/\ks.length<TT /\
 ∀gn,D.nx σ (upd cG a (hB b a gn (eO ks k) (if k∈ks then as else as++[c]) (gP ks vs k v)))
section
variable{X:aU}{b:Bool}{pos fx dd cb:Pos}{o e f i value:WP}{k2 ty sm xg:bK}
theorem mx.typ{H:am}{s:TD}{aj:ZY}{σ:St}{a:TI}{a0:Nat}{ks:List ZZ}{as:ZV}{vs:ZL}(I:Inv X aj σ H s)(d:mx H b a a0 ks as vs):
  s.TypeIs (.ref a) "dict"/\∀c,Value.ref a=.ref c->∃bO,s.heap.get? c=some bO/\bO.dict=none:=by
 obtain⟨_,_,_,_,us,_,hH,_⟩:=d.raw I.hok;refine⟨hH.typeIs,λc q=>?_⟩;cases q;obtain⟨bO,_,_,h1,aa,_⟩:=hH;exact⟨bO,h1,aa.2.1⟩
theorem G6(a2:X.A.units+4<XO):rO X (QX b):=by
 intro Bt sl aj s σ H x y v u Q I bn cg h av;obtain⟨a,c,a0,ks,as,vs,k,z,rfl,rfl,d,ox,l,q⟩:=h;cases bn;cases(show u=Value.ref c from cg);obtain⟨h1,aa,aH,a6,us,cH,hH,ey⟩:=d.raw I.hok;have sj:=cH.length;have g:=si (as:=as) (us:=us) k aa (by lia);obtain⟨fi,sg,hs⟩:=oQ.some_of (v:=z) (o:=bo ks us k) (by rw[<-l];exact sk k cH);rw[sg]at g;obtain⟨p,ag,pv⟩:=UA.mp g
 exact PyProof.Rows.subscriptTail_builtinR (x:=fi) hH.typeIs PySem.F.slot_dict_getitem.lookup
  (wpAny_getItem_heap (Q:=λr s'=>r=fi/\gY X aj σ Q r s') (uk a2) (ox.is I.hok) hH ag ⟨pv,by rw[pv];exact⟨z,H,I.tok _,hs,q⟩⟩) av
theorem Q1(a2:X.A.units+4<XO)(ax:bY X o k2)(aD:bY X e ty)(bD:bY X f sm)(fy:iv X o "get":=by rfl)(hv:kI X cb [e,f]:=by rfl)(fA:iw dd cb:=by rfl)(Bz:X8 cb (UV [e,f] X.env)=[(false,Yl e X.env),(false,Yl f X.env)]:=by rfl):
  bY X (.Call (.Attribute o "get" dd) [e,f] [] cb) (QZ b k2 ty sm):=by
 intro aj s σ H Q I h;refine wpAny_Call_method fy hv fA We Vo WX (cl (ax aj s σ H _ I h) λu aC ⟨x,au,a',bn,a,ex,Q2,aM⟩=>?_);obtain⟨b1,G7,ks1,as1,lS,d⟩:=Q2;subst ex;obtain rfl:u=Value.ref a:=bn;obtain⟨dg,cU⟩:=d.typ a';refine⟨dg,cU,?_⟩;rw[Bz]
 refine Calls.callWith_builtin rfl (Calls.evalArgs_plain (Calls.spliced_cons (cl (aD aj aC σ au _ a' aM) λiQ bf ⟨y,aS,da,cg,a4⟩=>
  Calls.spliced_cons (cl (bD aj bf σ aS _ da a4) λQ3 cR ⟨z,cG,cY,jn,c,a0,ks,as,vs,k,gc,hW,ox,dx⟩=>Calls.spliced_nil ?_))))
 subst gc;obtain rfl:iQ=Value.ref c:=cg;obtain⟨h1,aa,aH,a6,us,cH,hH,ey⟩:=hW.raw cY.hok;have sj:=cH.length;refine Zr Vo hH.typeIs WY (PySem.F.args_dict_get_3 _ _ _) (meetsH_dict_get_default (k1 X.prog X.w b) a c a6 Q3) ⟨uk a2,k,en ks as us,ox.is cY.hok,hH,?_⟩;rw[si k aa (by lia)];exact⟨_,cG,cY.tok _,G4 (sk k cH) jn,dx⟩
theorem G8{ks:List ZZ}{k:ZZ}(h:ks.Nodup):(eO ks k).Nodup:=by
 unfold eO;by_cases m:k∈ks
 ·rw[Tk m];exact h
 rw[Tl m];refine Wf.mpr ⟨h,by simp,λx al y aP=>?_⟩;rw[SN.mp aP];rintro rfl;exact m al
theorem Q4(a2:X.A.units+4<XO)(ax:bY X o k2)(hi:bY X i ty)(aL:bY X value xg)(av:XA value (some (.Subscript o i fx)) pos.line X.env=pure false:=by rfl):
  jg X (.Assign [.Subscript o i fx] value pos) (Q0 b k2 ty xg):=by
 intro aj s σ H D I h;refine wpAny_Assign_Subscript (cl (aL aj s σ H _ I h) λr aC ⟨v,au,a',b6,aM⟩=>cl (ax aj aC σ au _ a' aM) λu bf ⟨x,aS,da,bn,a4⟩=>cl (hi aj bf σ aS _ da a4) λiQ cR ⟨y,cG,cY,cg,a,c,G9,ks,as,vs,k,ex,gc,hW,ox,ap,dx⟩=>?_) av;subst ex gc;obtain rfl:u=Value.ref a:=bn;obtain rfl:iQ=Value.ref c:=cg;obtain⟨h1,aa,aH,a6,us,cH,hH,ey⟩:=hW.raw cY.hok;have sj:=cH.length
 have le:(en ks as us).length=ks.length:=by
  have:=UF S7 (xf (as:=as) (us:=us) aa (by lia))
  rwa [Sv]at this
 refine wpAny_setItem_heap (uk a2) (ox.is cY.hok) hH (λh' lR eb=>?_) (by lia);rw[GY k c r aa (by lia)]at lR
 have lk:(eO ks k).length<=TT:=by
  unfold eO;split
  ·exact h1
  rw[Sx,Tn];lia
 have la:(if k∈ks then as else as++[c]).length=(eO ks k).length:=by
  unfold eO;split
  ·exact aa
  rw[Sx,Sx,aa];rfl
 have lv:(gP ks vs k v).length=(eO ks k).length:=by
  unfold eO gP;split
  ·rw[By];exact aH
  rw[Sx,Sx,aH];rfl
 obtain⟨bO,es,a0,ky,kA,wJ,ii,Q5,Q6⟩:=lR
 have BA:Inv X aj σ (upd cG a (hB b a a0 (eO ks k) (if k∈ks then as else as++[c]) (gP ks vs k v))) {cR with heap:=h',toks:=cR.toks+(k1 X.prog X.w b).draws k}:=by
  refine cY.write (x:=a) (e:=a) (by rw[hW.h];trivial) (.inl rfl) (λc' q ae z=>(eb.2 c' ae).trans z) ⟨bO,ky⟩ ?_;refine⟨⟨lk,la,lv,a6,_,QW b6 k cH,bO,es,ky,kA,wJ,?_,G8 ey⟩,⟨bO,ky⟩,?_⟩
  ·rw[ii,xc (P:=X.prog) (w:=X.w)]
  rintro aE aI ⟨aG,a8,eY,dN,jR,jT,um,nQ,uo,uq⟩ ah;exact⟨aG,a8,eY,dN,jR,jT,um,nQ,ah _ uo,uq⟩
 exact⟨σ,_,BA,dx a0⟩
theorem G':bY X (.Dict [] [] pos) (QY b):=λaj s σ H Q I h=>by
 have gQ:XH<s.heap.objs.size:=Nat.lt_trans (by decide) ((I.mod.glob.keeps I.bk).lt:Uf<s.heap.objs.size);refine wpAny_Dict_empty ⟨.ref s.heap.objs.size,_,I.laid (a:=s.heap.objs.size) (o:=hB b s.heap.objs.size 0 [] [] []) (t':=s.toks) (λ_ _ q=>Heap.get?_push_of_some _ q) (SF _) ?_,rfl,h _ (I.hok.fresh (SF _))⟩;refine⟨⟨Ti _,rfl,rfl,beq_eq_false_iff_ne.mpr (Ta (S3 gQ)),[],.nil,_,#[],Heap.get?_push_size _ rfl,⟨rfl,rfl,rfl⟩,rfl,rfl,List.nodup_nil⟩,⟨_,Heap.get?_push_size _ rfl⟩,?_⟩;rintro aE aI ⟨aG,a8,eY,dN,jR,jT,um,nQ,uo,uq⟩ ah;exact⟨aG,a8,eY,dN,jR,jT,um,nQ,ah _ uo,uq⟩
end
def oy(h:XB)(d:TI)(es:Array YC)(a0:Nat):Prop:=∃o,h.get? d=some o/\o.ExactDict/\o.data=.dict es a0
section
variable{prog:WF}{w:Xx}{A:Xy}{E:SZ->TD->Prop}{s:TD}{d it:TI}{i a0:Nat}{es:Array YC}
theorem Q7{Q:SZ->TD->Prop}(hd:(d==XH)=false)(aA:oy s.heap d es a0)(hq:Q (.ref s.heap.objs.size) {s with heap:=s.heap.push {cls:=.type "dict_keyiterator",data:=.fields #[.ref d,.int 0 0,.int es.size 0,.int a0 0]} }):wpAny (Wp prog w) A (ZB (.ref d)) Q E s:=by
 obtain⟨o,ax,hc,aD⟩:=aA;have ty:s.TypeIs (.ref d) "dict":=⟨o,ax,hc.1⟩;have no:¬(d==XH)=true:=λz=>by rw[hd]at z;cases z
 refine YD ty F.slot_dict_iter (XC F.slot_dict_iter ty F.entry_dict_iter ?_ (F.args_dict_iter_1 _));unfold Yy.«dict.__iter__» Builtin.Dict.dictSlotNone;refine SB (SB (Yi ty (show wpAny _ _ (pure (Value.ref d)) _ _ s from SL ?_)));show wpAny _ _ (Builtin.Dict.showsAll d >>= _) _ _ s
 unfold Builtin.Dict.showsAll;rw[Tl no];refine SB (SL (SB (X0 ax aD (SB (Yq ax aD (SB (W1 (SL ?_))))))));exact⟨_,rfl,"dict_keyiterator",_,⟨_,Heap.get?_push_size _ rfl,rfl⟩,F.slot_dict_keyiterator_next.lookup,by simpa[Y4]using hq⟩
theorem Ha{Q:Option SZ->TD->Prop}(dY:A.handled=none)(hit:s.heap.IsKeyIter it d i es.size a0)(aA:oy s.heap d es a0)(more:∀e h',es[i]?=some e->h'.IsKeyIter it d (i+1) es.size a0->Heap.SameBut it s.heap h'->Q (some e.key) {s with heap:=h' })(done:∀h',es[i]?=none->Heap.ExtBut it s.heap h'->Q none {s with heap:=h' }):wpAny (Wp prog w) A (YS (.ref it)) Q E s:=by
 have ty:=hit.typeIs;obtain⟨agG,hi,Q8,sn⟩:=hit;obtain⟨o,ax,hc,aD⟩:=aA;have own:Builtin.Dict_items.ownsTuple "dict_keyiterator"=false:=by decide
 have cd:¬((i:Int)<0):=by lia
 have none_:¬(Value.ref d==Value.none)=true:=SP;unfold YS;refine SB (Zg (X9 (name:="__next__") ty F.slot_dict_keyiterator_next (XC F.slot_dict_keyiterator_next ty F.entry_dict_keyiterator_next ?_ (F.args_dict_keyiterator_next_1 _))));refine SB (SL (SB (SB ?_)))
 first|refine SB (XR ty (SL (SB (YA hi sn ?_))))|refine SB (X6 ty (SL (SB (YA hi sn ?_))))
 rw[own];show wpAny _ _ (if(Value.ref d==Value.none)=true then _ else _) _ _ s
 rw[Tl none_];refine SB (SL (SB (X0 ax aD ?_)));rw[Tl (by simp)];refine SB (SL (SB (Yq ax aD ?_)));rw[Tl (by simp)];refine SL ?_;simp only[cd,if_false,WZ];cases q:es[i]? with
 |some e=>
  let h1:=s.heap.update it (Obj.mapFields (·.setIfInBounds 1 (Y4 ((i:Int)+1))))
  have ci:h1.IsKeyIter it d (i+1) es.size a0:=by
   refine⟨_,Heap.get?_update_self _ hi ?_,(Obj.cls_mapFields ..).trans Q8,?_⟩
   ·exact Obj.isFreed_of_fields (Obj.data_mapFields sn _)
   rw[Obj.data_mapFields sn];simp[Y4]
  refine SB ?_
  first|refine SB (XR ty (SL (SB (Yj ty ?_))))|refine SB (X6 ty (SL (SB (Yj ty ?_))))
  show wpAny _ _ (ZG (.ref it) 1 (Y4 ((i:Int)+1)) >>= _) _ _ s
  refine SB (Y6 hi sn (by simp) (SB (Xu (SB (Yj (s:={s with heap:=h1}) ci.typeIs ?_)))));exact SL (SL ⟨_,rfl,SL (more e h1 q ci (Heap.SameBut.update ..))⟩)
 |none=>
  refine SB ?_
  first|refine SB (XR ty (SL ?_))|refine SB (X6 ty (SL ?_))
  show wpAny _ _ (ZG (.ref it) 0 .none >>= _) _ _ s
  refine SB (Y6 hi sn (by simp) ?_);show wpAny _ _ (newExc (.type "StopIteration") [] >>= _) _ _ _
  unfold newExc newTuple;refine SB (SB (W1 (SB (m:=YB _ _) (Y' (a:=Value.none) (by first|rfl|(unfold YB;rfl)) (W1 ?_ (by size_fits)))) (by size_fits)));unfold raiseNew;refine SB (wpAny_handled ?_);rw[show A.in1.handled=none from dY];refine SB (SL (wpAny_throw ?_));refine SB (X4 (T:="StopIteration") (b:=true) (by exact⟨_,Heap.get?_push_size _ rfl,rfl⟩) isSubtype_stop ?_);exact SL (done _ q (((Heap.SameBut.update ..).extBut.push _).push _))
theorem Q9{k v:SZ}{hsh:Int}{Q:Option SZ->TD->Prop}(dY:A.handled=none)(hit:s.heap.IsKeyIter it d i es.size a0)(aA:oy s.heap d es a0)(al:es[i]?=some ⟨hsh,k,v⟩)(hq:∀h',h'.IsKeyIter it d (i+1) es.size a0->Heap.SameBut it s.heap h'->Q (some k) {s with heap:=h' }):wpAny (Wp prog w) A (YS (.ref it)) Q E s:=
 Ha dY hit aA (λe h' q a b=>by rw[al]at q;cases q;exact hq h' a b) λh' q _=>by rw[al]at q;cases q
theorem Q'{Q:Option SZ->TD->Prop}(dY:A.handled=none)(hit:s.heap.IsKeyIter it d i es.size a0)(aA:oy s.heap d es a0)(al:es.size<=i)(hq:∀h',Heap.ExtBut it s.heap h'->Q none {s with heap:=h' }):wpAny (Wp prog w) A (YS (.ref it)) Q E s:=
 Ha dY hit aA (λe h' q _ _=>by rw[VE al]at q;cases q) λh' _ fS=>hq h' fS
end
def Hb(b:Bool)(a:TI)(a0:Nat)(ks:List ZZ)(as:ZV)(vs:ZL):ha where
 go:=λi H=>H a=some (hB b a a0 ks as vs)/\i<ks.length
 yld:=λi H x ak=>ak=H/\∃c,as[i]?=some c/\x=.ref c
 stop:=λi H=>H a=some (hB b a a0 ks as vs)/\ks.length<=i
theorem Hc{b:Bool}:∀{ks:List ZZ}{as:ZV}{us:ZU},as.length=ks.length->us.length=ks.length->(kL b ks as us).length=ks.length
 |[],_,_,_,_=>by simp[kL]
 |k::ks,[],_,h,_=>by simp at h
 |k::ks,_::_,[],_,h=>by simp at h
 |k::ks,a::as,u::us,h1,aa=>by rw[kL,SM,SM,Hc (by simpa using h1) (by simpa using aa)]
theorem BB{b:Bool}:∀{ks:List ZZ}{as:ZV}{us:ZU}{i:Nat},as.length=ks.length->us.length=ks.length->i<ks.length->∃k c u,as[i]?=some c/\us[i]?=some u/\(kL b ks as us)[i]?=some ⟨o3 b k,.ref c,u⟩
 |[],_,_,i,_,_,h=>by simp at h
 |k::ks,[],_,_,h,_,_=>by simp at h
 |k::ks,_::_,[],_,_,h,_=>by simp at h
 |k::ks,a::as,u::us,0,_,_,_=>⟨k,a,u,rfl,rfl,rfl⟩
 |k::ks,a::as,u::us,i+1,h1,aa,aH=>by
  obtain⟨k',c,fi,aG,a8,eY⟩:=BB (b:=b) (ks:=ks) (as:=as) (us:=us) (i:=i) (by simpa using h1) (by simpa using aa) (by simpa using aH);exact⟨k',c,fi,by simpa using aG,by simpa using a8,by simpa[kL]using eY⟩
section
variable{P:WF}{w:Xx}{K:Su}{bj:WP}{b:Bool}{a:TI}{a0:Nat}{ks:List ZZ}{as:ZV}{vs:ZL}
theorem so{H:am}{h:XB}(ok:e7 P w H h)(e:H a=some (hB b a a0 ks as vs)):∃us es,oy h a es a0/\es.toList=kL b ks as us/\as.length=ks.length/\us.length=ks.length/\es.size=ks.length/\bN vs us/\(a==XH)=false:=by
 obtain⟨⟨h1,aa,aH,a6,us,cH,o,es,ey,nj,qV,qW,ul⟩,_⟩:=(show gl P w H h a (hB b a a0 ks as vs)from ok a _ e);have sj:=cH.length;exact⟨us,es,⟨o,ey,nj,qV⟩,qW,aa,by lia,by rw[<-UU,qW,Hc aa (by lia)],cH,a6⟩
theorem Ra(it:TI):oV P w K bj (Hb b a a0 ks as vs) [it] it (λi h=>h.IsKeyIter it a i ks.length a0) where
 mem:=by simp
 obj:=λi h st c hc=>by
  have e:c=it:=by simpa using hc
  subst e;obtain⟨o,e,_,d⟩:=st;exact⟨o,e,λv z=>by rw[d]at z;cases z⟩
 keep:=λi h h' st k=>st.at λo e=>k it (by simp) o e
 item:=by
  intro X eJ hw dJ hc i aj s σ H E I bD st aF;subst eJ hw dJ;obtain⟨ay,hi⟩:=aF;obtain⟨us,es,gu,ni,bQ,bS,e2,_⟩:=so I.hok ay;obtain⟨k,c,u,BC,xh,aD⟩:=BB (b:=b) bQ bS hi;obtain⟨dL,aT,bd,bA,c7,d1⟩:=bD it (by simp);refine Q9 (I.ok.hd hc) (by rw[e2];exact st) gu (hsh:=o3 b k) (k:=.ref c) (v:=u) (by rw[<-UE,ni];exact aD) λh' jI eb=>?_;rw[e2]at jI;have a':Inv X aj σ H {s with heap:=h' }:=I.turned (t':=s.toks) (λc' o ae e=>(eb.2 c' ae).trans e) dL aT bA c7 d1;obtain⟨o,e,c2,d⟩:=id jI;exact⟨.ref c,rfl,vz (s:={s with heap:=h' }) e c2 d (by decide) ⟨.ref c,H,a',rfl,⟨rfl,c,BC,rfl⟩,jI,λhx ae=>(bD hx ae).1⟩⟩
 done:=by
  intro X eJ hw dJ hc i aj s σ H E I bD st aF;subst eJ hw dJ;obtain⟨ay,hi⟩:=aF;obtain⟨us,es,gu,ni,bQ,bS,e2,_⟩:=so I.hok ay;obtain⟨dL,aT,bd,bA,c7,d1⟩:=bD it (by simp);exact Q' (I.ok.hd hc) (by rw[e2];exact st) gu (by lia) λh' fS=>⟨rfl,I.turned (t':=s.toks) (λc' o ae e=>fS c' o ae e) dL aT bA c7 d1⟩
 self:=λ_ _ _ _ _ st h=>wpAny_pyIter_keyiter st h
end
def Rb(eK:bK):gI:=λσ H R=>eK σ H λx au=>∃b a a0 ks as vs,x=.ref a/\au a=some (hB b a a0 ks as vs)/\R (Hb b a a0 ks as vs) au
section
variable{X:aU}{bj:WP}
theorem Rc{l:WP}{eK:bK}(ap:bY X l eK):iy X bj l (Rb eK):=by
 intro aj s σ H R I h;refine cl (ap aj s σ H _ I h) λv aC ⟨x,au,a',aq,aM⟩=>?_;obtain⟨b,a,a0,ks,as,vs,e,ay,q⟩:=aM;subst e;cases aq;obtain⟨us,es,gu,ni,bQ,bS,e2,_,av⟩:=so a'.hok ay;refine Q7 av gu ?_;refine⟨aC.heap.objs.size,[aC.heap.objs.size],_,_,au,rfl,a'.kept (t':=aC.toks) λb o e=>Heap.get?_push_of_some _ e,Ra _,⟨_,Heap.get?_push_size _ rfl,rfl,by rw[e2];rfl⟩,λc hc=>?_,q⟩;have e:c=aC.heap.objs.size:=by simpa using hc
 subst e;exact a'.fpOk (SF _) (a'.hok.fresh (SF _))
end
section
variable{K:Su}{B H:am}
theorem BD:∀{vs:ZL}{l:ZI},Reps K B vs (l.map D.int)->vs=l.map V.int
 |_,[],r=>by cases r;rfl
 |_,i::l,r=>by
  rw[SH]at r;cases r with
  |cons h t=>rw[h.intV,BD t];rfl
theorem Hd(s:cw B H):∀{vs:ZL}{k:ZZ},Reps K B vs (k.map λks=>.tup (ks.map D.int))->∃as:ZV,vs=as.map V.ref/\Paired (λ(l:ZI) c=>H c=some (.tup (l.map V.int))) k as
 |_,[],r=>by cases r;exact⟨[],rfl,.nil⟩
 |_,l::k,r=>by
  rw[SH]at r;cases r with
  |cons h t=>
   obtain⟨c,us,rfl,hc,rs⟩:=h.tupV;rw[BD rs]at hc;obtain⟨as,rfl,p⟩:=Hd s t;exact⟨c::as,rfl,.cons (s _ _ hc) p⟩
theorem sq{b:Bool}{k:ZZ}{v:V}(r:bU K B v (gr b k)):∃c,v=.ref c:=by
 unfold gr at r;split at r
 ·obtain⟨c,_,rfl,_⟩:=r.tupV;exact⟨c,rfl⟩
 obtain⟨c,_,rfl,_⟩:=r.tupV;exact⟨c,rfl⟩
theorem qX{b:Bool}{k:ZZ}{c:TI}(s:cw B H)(ae:b=false->∃l,k=[l])(r:bU K B (.ref c) (gr b k)):mw H b k c:=by
 cases b with
 |false=>
  obtain⟨l,rfl⟩:=ae rfl;obtain⟨c',us,e,hc,rs⟩:=(show bU K B (.ref c) (.tup (l.map D.int))from r).tupV;cases e;rw[BD rs]at hc;exact⟨l,rfl,s _ _ hc⟩
 |true=>
  obtain⟨c',us,e,hc,rs⟩:=(show bU K B (.ref c) (.tup (k.map λks=>.tup (ks.map D.int)))from r).tupV;cases e;obtain⟨as,rfl,p⟩:=Hd s rs;exact⟨as,s _ _ hc,p⟩
theorem my{b:Bool}(s:cw B H):∀{ks:List ZZ}{as:ZV},(b=false->∀k∈ks,∃l,k=[l])->Reps K B (as.map V.ref) (ks.map (gr b))->Paired (mw H b) ks as
 |[],[],_,_=>.nil
 |[],_::_,_,r=>by cases r
 |_::_,[],_,r=>by cases r
 |k::ks,a::as,ae,r=>by
  rw[SH,SH]at r;cases r with
  |cons h t=>exact .cons (qX s (λz=>ae z k Sw) h) (my s (λz k' m=>ae z k' (Sy _ m)) t)
theorem He{b:Bool}{z:V}{xi:D}(jn:bU K B z xi)(k:ZZ):∀{ks:List ZZ}{vs:ZL}{ds:ZK},Reps K B vs ds->bU K B ((bo ks vs k).getD z) ((bo ks ds k).getD xi)
 |[],_,_,_=>by simp only[bo,U9];exact jn
 |_::_,_,_,.nil=>by simp only[bo,U9];exact jn
 |k'::ks,_,_,.cons h t=>by
  rw[bo,bo];by_cases e:k'=k
  ·rw[Tk e,Tk e];exact h
  rw[Tl e,Tl e];exact He (b:=b) jn k t
theorem Hf{d:D}(k:ZZ):∀{ks:List ZZ}{vs:ZL}{ds:ZK},Reps K B vs ds->bo ks ds k=some d->∃v,bo ks vs k=some v/\bU K B v d
 |[],_,_,_,e=>by simp[bo]at e
 |_::_,_,_,.nil,e=>by simp[bo]at e
 |k'::ks,_,_,.cons h t,e=>by
  rw[bo]at e⊢;by_cases z:k'=k
  ·rw[Tk z]at e⊢;cases e;exact⟨_,rfl,h⟩
  rw[Tl z]at e⊢;exact Hf k t e
theorem Hg{v:V}{d:D}(r:bU K B v d)(k:ZZ):∀{ks:List ZZ}{vs:ZL}{ds:ZK},Reps K B vs ds->Reps K B (fU ks vs k v) (fU ks ds k d)
 |[],_,_,t=>by simp only[fU];exact t
 |_::_,_,_,.nil=>by simp only[fU];exact .nil
 |k'::ks,_,_,.cons h t=>by
  rw[fU,fU];refine .cons ?_ (Hg r k t);by_cases e:k'=k
  ·rw[Tk e,Tk e];exact r
  rw[Tl e,Tl e];exact h
theorem Re{v:V}{d:D}(r:bU K B v d)(k:ZZ){ks:List ZZ}{vs:ZL}{ds:ZK}(t:Reps K B vs ds):Reps K B (gP ks vs k v) (gP ks ds k d):=by
 unfold gP;by_cases m:k∈ks
 ·rw[Tk m,Tk m];exact Hg r k t
 rw[Tl m,Tl m];exact t.append (.cons r .nil)
theorem Rf{b:Bool}{c:TI}{k:ZZ}{ks:List ZZ}{as:ZV}(r:bU K B (.ref c) (gr b k))(t:Reps K B (as.map V.ref) (ks.map (gr b))):
  Reps K B ((if k∈ks then as else as++[c]).map V.ref) ((eO ks k).map (gr b)):=by
 unfold eO;by_cases m:k∈ks
 ·rw[Tk m,Tk m];exact t
 rw[Tl m,Tl m,Sz,Sz];exact t.append (.cons r .nil)
end
def qY(b:Bool)(k:ZZ):Prop:=b=false->∃l,k=[l]
theorem Rg{b:Bool}{k:ZZ}{ks:List ZZ}(h:b=false->∀k∈ks,∃l,k=[l])(ah:qY b k):b=false->∀k'∈eO ks k,∃l,k'=[l]:=λz k' m=>by
 unfold eO at m;split at m
 ·exact h z k' m
 rcases SK.mp m with m|m
 ·exact h z k' m
 rw[SN.mp m];exact ah z
def Rh(b:Bool)(i:Nat):cQ:=λU ρ=>U.nx (ρ.set i (.own (.d b none [] [])))
def Ri(b:Bool)(n:Nat)(gi mz:bg):bg:=λρ k=>∃t ks ds,ρ[n]?=some (.own (.d b t ks ds))/\gi ρ λy=>mz ρ λz=>∃aJ,y=gr b aJ/\qY b aJ/\k ((bo ks ds aJ).getD z)
def Rj(b:Bool)(n:Nat)(gi xj:bg):cQ:=λU ρ=>xj ρ λd=>∃t ks ds,ρ[n]?=some (.own (.d b t ks ds))/\gi ρ λy=>∃aJ,y=gr b aJ/\qY b aJ/\ks.length<TT/\U.nx (ρ.set n (.own (.d b t (eO ks aJ) (gP ks ds aJ d))))
def Rk(b:Bool)(oz gi:bg):bg:=λρ k=>oz ρ λx=>gi ρ λy=>∃ks ds aJ d,x=.dct b ks ds/\y=gr b aJ/\qY b aJ/\bo ks ds aJ=some d/\k d
def Rl(u:bg):df:=λρ k=>u ρ λx=>∃b ks ds,x=.dct b ks ds/\k (ks.map (gr b))
def Rm(i:Nat)(s:cQ):cQ:=λU ρ=>∃b t ks ds,ρ[i]?=some (.own (.d b t ks ds))/\s U (ρ.set i (.val (.dct b ks ds)))
section
variable{X:aU}{b:Bool}{n:Nat}{x:Str}{px pos fx dd cb qZ:Pos}{o e f i value:WP}{oz gi mz xj:bg}{bj:WP}
theorem Rn{i:Nat}(bF:X.N.Nodup)(hi:X.N[i]?=some x)(al:Loc X.env.scope x)(av:XA (.Dict [] [] qZ) (some (.Name x fx)) pos.line X.env=pure false:=by rfl)(bD:iO X x:=by walk_at"f"):
  fk X (.Assign [.Name x fx] (.Dict [] [] qZ) pos) (Rh b i):=by
 refine⟨_,rI bF hi al (G' (b:=b)) av bD,λU ρ h R W B H σ D e s=>?_⟩;intro p ag;obtain⟨aT,bd,bA⟩:=e.toWd.fresh ag;exact s.nx _ _ B _ h ((e.allocH ag _).setC i aT bA ⟨0,[],[],(λ_ z=>nomatch z),d9,.nil,λ_ _ z=>by simp at z,.nil⟩ λj _ m=>e.notNew ag m rfl) (bJ.refl _ _)
theorem Hh(n:Nat)(a2:X.A.units+4<XO)(aD:br X e gi)(bD:br X f mz)(bF:gG X n x:=by rfl)(aL:gy X.env.scope x:=by walk_at"v")(hd:ed x:=by decide)(dI:gV x:=by decide)(fy:iv X (.Name x px) "get":=by rfl)(hv:kI X cb [e,f]:=by rfl)(fA:iw dd cb:=by rfl)(Bz:X8 cb (UV [e,f] X.env)=[(false,Yl e X.env),(false,Yl f X.env)]:=by rfl):
  br X (.Call (.Attribute (.Name x px) "get" dd) [e,f] [] cb) (Ri b n gi mz):=by
 obtain⟨_,h1,aq⟩:=aD;obtain⟨_,aa,aN⟩:=bD;refine⟨_,Q1 (b:=b) a2 (g9 bF aL hd dI) h1 aa fy hv fA Bz,λρ k z R W B H σ Q ev q=>?_⟩;obtain⟨t,ks,ds,ax,z⟩:=z;obtain⟨a,ai,ar,bb,a0,as,vs,_,b0,d6,hD,gs⟩:=ev.ownC ax;refine⟨_,ai,a,rfl,⟨b,a0,ks,as,vs,b0,my ev.bh hD d6⟩,?_⟩;refine aq ρ _ z R W B H σ _ ev λy v aY au aG aT aE aC=>?_;refine aN ρ _ aG R W aY au σ _ aT λfa dB bG aS a8 bd aI bf=>?_;obtain⟨aJ,rfl,ah,ay⟩:=a8;obtain⟨c,rfl⟩:=sq aC;obtain⟨gK,c1,c2,c3,gn,ur,hg,_,c4,c5,c6,mA⟩:=bd.ownC ax;rw[ai]at c1;cases c1;exact⟨c,gn,ks,ur,hg,aJ,rfl,⟨c4,my bd.bh c6 c5⟩,qX bd.bh ah (aC.mono aI.s),q _ _ bG aS ay bd (aE.trans aI) (He (b:=b) bf aJ mA)⟩
theorem Ro(b:Bool)(a2:X.A.units+4<XO)(ax:br X o oz)(aD:br X e gi)(av:s9 e):br X (.Subscript o e pos) (Rk b oz gi):=by
 obtain⟨_,h1,aq⟩:=ax;obtain⟨_,aa,aN⟩:=aD;refine⟨_,l9 (G6 (b:=b) a2) h1 aa av,λρ k z R W B H σ Q ev q=>?_⟩;refine aq ρ _ z R W B H σ _ ev λx v aY au aG aT aE aC=>?_;refine aN ρ _ aG R W aY au σ _ aT λy dB bG aS a8 bd aI bf=>?_;obtain⟨ks,ds,aJ,d,rfl,rfl,ah,ap,ay⟩:=a8;obtain⟨c,rfl⟩:=sq bf;cases aC.mono aI.s with
 | @dct a _ a0 _ as vs _ hb q0 rQ f1=>
  obtain⟨v,aL,b6⟩:=Hf aJ f1 ap;exact⟨a,c,a0,ks,as,vs,aJ,v,rfl,rfl,⟨bd.bh _ _ hb,my bd.bh rQ q0⟩,qX bd.bh ah bf,aL,q _ _ bG aS ay bd (aE.trans aI) b6⟩
theorem Hi(n:Nat)(a2:X.A.units+4<XO)(aD:br X e gi)(aL:br X value xj)(bF:gG X n x:=by rfl)(Rp:gy X.env.scope x:=by walk_at"v")(hd:ed x:=by decide)(dI:gV x:=by decide)(av:XA value (some (.Subscript (.Name x px) e fx)) pos.line X.env=pure false:=by rfl):
  fk X (.Assign [.Subscript (.Name x px) e fx] value pos) (Rj b n gi xj):=by
 obtain⟨_,h1,aq⟩:=aL;obtain⟨_,aa,aN⟩:=aD;refine⟨_,Q4 (b:=b) a2 (g9 bF Rp hd dI) aa h1 av,λU ρ z R W B H σ D ev ew=>?_⟩;refine aq ρ _ z R W B H σ _ ev λd v aY au aG aT aE aC=>?_;obtain⟨t,ks,ds,ax,aG⟩:=aG;obtain⟨a,ai,ar,bb,_⟩:=aT.ownC ax;refine⟨_,ai,?_⟩;refine aN ρ _ aG R W aY au σ _ aT λy dB bG aS a8 bd aI bf=>?_;obtain⟨aJ,rfl,ah,ap,ay⟩:=a8;obtain⟨c,rfl⟩:=sq bf;obtain⟨gK,c1,c2,c3,a0,as,vs,fl,c4,c5,c6,mA⟩:=bd.ownC ax;rw[ai]at c1;cases c1;refine⟨a,c,a0,ks,as,vs,aJ,rfl,rfl,⟨c4,my bd.bh c6 c5⟩,qX bd.bh ah bf,ap,λgn=>?_⟩;exact ew.nx _ _ bG _ ay (bd.writeC ai ax ⟨gn,_,_,fl,d9,Rf bf c5,Rg c6 ah,Re (aC.mono aI.s) aJ mA⟩) (aE.trans aI)
theorem Rq{st:ZX}{s:cQ}(i:Nat)(h:h6 X st s):h6 X st (Rm i s):=by
 obtain⟨_,h1,aq⟩:=h;refine⟨_,h1,λU ρ h R W B H σ D e ew=>?_⟩;obtain⟨b,t,ks,ds,ax,z⟩:=h;obtain⟨az,bv,g⟩:=e.fzD ax;exact aq U _ z R W az H σ D bv (ew.grow g)
theorem Rr{l:WP}(ap:br X l oz):na X bj l (Rl oz):=by
 obtain⟨_,h1,aq⟩:=ap;refine⟨_,Rc h1,λρ k h R W B H σ Q e q=>?_⟩;refine aq ρ _ h R W B H σ _ e λd v aY au aG ai aE aC=>?_;obtain⟨b,ks,ds,rfl,z⟩:=aG;cases aC with
 | @dct a _ a0 _ as vs _ hb q0 rQ f1=>
  refine⟨b,a,a0,ks,as,vs,rfl,ai.bh _ _ hb,q _ _ aY au z ai aE λak ut i=>⟨λhi=>⟨ut _ _ hb,by simpa using hi⟩,λhi=>⟨ut _ _ hb,by simpa using hi⟩,λx aS hi y=>?_⟩⟩;obtain⟨rfl,c,hc,rfl⟩:=y;obtain⟨d,hd,gu⟩:=q0.getV (i:=i) (v:=.ref c) (by rw[SW,hc];rfl);exact⟨rfl,d,hd,gu⟩
end
theorem pF{A:Xy}{k:Nat}(ao:eF k A):A.units+4<XO:=W2 (Nat.add_le_add_left (by decide:4<=64) _) ao.units
abbrev uu:=Bool->List ZZ->ZK->ZK->(List ZZ->ZK->Prop)->Prop
def xk(K:Su)(n:Nat)(F:uu):iA:=λvs H Q _=>∃(B:am)(a:TI)(us:ZL)(xs:ZK)(b:Bool)(ks:List ZZ)(ds:ZK)(k:List ZZ->ZK->Prop),
 vs=.ref a::us/\F b ks ds xs k/\xs.length+1=n/\cw B H/\B a=none/\lA K B H a (.d b none ks ds)/\Reps K B us xs /\
 ∀jB ds' az ak,k jB ds'->(∀c o,c≠a->H c=some o->ak c=some o)->cw az ak->cw B az->(∀c o,az c=some o->B c=some o\/c=a\/H c=none)->az a=none->lA K az ak a (.d b none jB ds')->Q .non ak
def Rs(m n:Nat)(F:uu)(w:df):cQ:=λU ρ=>∃b t ks ds,ρ[m]?=some (.own (.d b t ks ds))/\w ρ λxs=>xs.length+1=n/\F b ks ds xs λjB ds'=>U.nx (ρ.set m (.own (.d b t jB ds')))
section
variable{K:Su}
theorem Rt{P:WF}{w:Xx}{mg:Str->Option SZ}{base:XB}{x:Str}{st:XE}{N ps:ZT}{lv n:Nat}{F:uu}(qr:cM K mg x st ps)(S:cC N ps (bZ st))(aO:ps.length=n)(hu:∀(f:TI) (cdv:SZ) (A:Xy) (outer:List Tx) (s:TD) (H:am) (E:gW),eF lv (A.deeper (Ve x (bZ st) s.heap.objs.size f cdv))->∃u,h6 (ly kh P w K mg base N x (bZ st) f cdv A outer s H E).nox (kg st) u/\∀b t ks ds xs k,xs.length+1=n->F b ks ds xs k->u {nx:=λρ=>∃jB ds',ρ[0]?=some (.own (.d b t jB ds'))/\k jB ds',rt:=λ_=>False} (.own (.d b t ks ds)::xs.map aK.val++SX (N.length-n) .no)):cj P w K mg base x ps (lv+1) (xk K n F):=by
 refine qr.ok S (λvs H Q E h=>?_) (λf cdv A outer s H vs Q E ao h=>?_)
 ·obtain⟨B,a,us,xs,b,ks,ds,k,rfl,_,ap,_,_,_,rs,_⟩:=h;rw[SM,rs.length,ap,aO]
 obtain⟨B,a,us,xs,b,ks,ds,k,rfl,f4,ap,dP,ae,hc,rs,q⟩:=h;obtain⟨u,⟨t,aR,rt⟩,a2⟩:=hu f cdv A outer s H E ao;obtain⟨a0,as,vs,_,c4,c5,c6,mA⟩:=hc;have eE:=rs.length;have BE:(λc=>if c=a then none else H c:am) a=none:=Tk rfl;have xl:∀c,c≠a->(λc=>if c=a then none else H c:am) c=H c:=λc z=>Tl z;generalize lJ:(λc=>if c=a then none else H c:am)=R at BE xl;have agH:(xs.map aK.val).length=us.length:=by rw[Sv];lia
 have ql:(L2.start N (.ref a::us))[0]?=some (some (.ref a)):=rfl
 have atS:∀i v,us[i]?=some v->(L2.start N (.ref a::us))[i+1]?=some (some v):=λi v h=>by
  have lt:i<us.length:=by
   by_cases z:i<us.length
   ·exact z
   rw[S' (by lia)]at h;cases h
  unfold L2.start;rw[TQ (by rw[Sv,SM];lia),SW,W3,h];rfl
 have look:∀(i:Nat)(aJ:aK),(aK.own (.d b (some a) ks ds)::xs.map aK.val++SX (N.length-n) aK.no)[i]?=some aJ->(i=0/\aJ=.own (.d b (some a) ks ds))\/(∃j d,i=j+1/\xs[j]?=some d/\aJ=.val d)\/aJ=.no:=λi aJ h=>by
  cases i with
  |zero=>exact .inl ⟨rfl,(SO h).symm⟩
  |succ j=>
   rw[To,W3]at h;by_cases z:j<(xs.map aK.val).length
   ·rw[TQ z,SW]at h;cases y:xs[j]? with
    |none=>rw[y]at h;cases h
    |some d=>rw[y]at h;exact .inr (.inl ⟨j,d,rfl,y,(SO h).symm⟩)
   rw[Tr (by lia),Uq]at h;split at h
   ·exact .inr (.inr (SO h).symm)
   cases h
 have ev:aW K R (λ_=>False) B H (L2.start N (.ref a::us)) (.own (.d b (some a) ks ds)::xs.map aK.val++SX (N.length-n) .no):=by
  refine⟨⟨λc o h _=>?_,dP,λ_ z=>z.elim,λ_ z=>z.elim,λ_ z=>z.elim⟩,?_,λi aJ h=>?_,λi j c a7 a5=>?_⟩
  ·by_cases z:c=a
   ·subst z;rw[BE]at h;cases h
   rwa[xl c z]at h
  ·unfold L2.start;simp only[Sx,Sv,SM,T7];lia
  ·rcases look i aJ h with⟨rfl,rfl⟩|⟨j,d,rfl,hd,rfl⟩|rfl
   ·exact⟨a,by rw[ql];rfl,BE,ae,a0,as,vs,λc z=>by cases z;rfl,c4,c5,c6,mA⟩
   ·obtain⟨v,aL,b6⟩:=rs.get hd;exact⟨v,by rw[atS j v aL];rfl,b6⟩
   trivial
  have one:∀i,cF (L2.start N (.ref a::us)) (.own (.d b (some a) ks ds)::xs.map aK.val++SX (N.length-n) .no) i c->i=0:=λi m=>by
   rcases m with⟨_,z|⟨_,z⟩⟩|⟨_,z,_⟩
   rotate_right
   ·rcases look i _ z with⟨rfl,y⟩|⟨j,d,rfl,hd,y⟩|y<;>cases y
   ·rcases look i _ z with⟨rfl,y⟩|⟨j,d,rfl,hd,y⟩|y<;>cases y
   rcases look i _ z with⟨rfl,y⟩|⟨j,d,rfl,hd,y⟩|y
   ·rfl
   ·cases y
   cases y
  rw[one i a7,one j a5]
 refine⟨t,aR,rt _ _ (a2 b (some a) ks ds xs k ap f4) R (λ_=>False) B H (L2.start N (.ref a::us)) _ ev ⟨λρ σ az ak h e g=>?_,λ_ _ _ _ h=>h.elim,λ_ _ _ _ h=>h.elim,λ_ _ _ _ h=>h.elim⟩⟩;obtain⟨jB,ds',ax,ah⟩:=h;obtain⟨gK,b7,cc,d3,gn,ur,hg,i6,d4,BF,BG,BH⟩:=e.ownC ax;have dv:a=gK:=i6 a rfl;subst dv;refine q jB ds' az ak ah (λc o hc fK=>e.fr c o (by rw[xl c hc];exact fK) λz=>z) e.bh g.s (λc o z=>?_) d3 ⟨gn,ur,hg,(λ_ z=>nomatch z),d4,BF,BG,BH⟩;rcases g.n c o z with y|y
 ·exact .inl y
 by_cases a8:c=a
 ·exact .inr (.inl a8)
 rw[xl c a8]at y;exact .inr (.inr y)
end
section
variable{X:aU}{m n:Nat}{x:Str}{px p pos BI:Pos}{e:WP}{es:ZW}{F:uu}{w:df}
theorem Hj{f:Str}{ps:ZT}{j lv:Nat}(m:Nat)(c:cj X.prog X.w X.K X.mg X.base f ps j (xk X.K n F))(ao:eF lv X.A)(aF:eD X f)(aw:o8 X es w)(bF:gG X m x:=by rfl)(aL:gy X.env.scope x:=by walk_at"v")(hd:ed x:=by decide)(dI:gV x:=by decide)(gC:j<=lv:=by decide)(gA:ed f:=by decide)(aD:UV (.Name x px::es) X.env=(false,Yl (.Name x px) X.env)::UV es X.env:=by rfl)(eh:g8 X pos es:=by rfl)(av:XA (.Call (.Name f p) (.Name x px::es) [] pos) none BI.line X.env=pure false:=by rfl):
  fk X (.Expr (.Call (.Name f p) (.Name x px::es) [] pos) BI) (Rs m n F w):=by
 obtain⟨_,h1,aq⟩:=aw;refine⟨_,rE (o2 c ao aF (d5 (g9 bF aL hd dI) h1 aD) gC gA aD eh) av,λU ρ h R W B H σ D ev ew=>?_⟩;obtain⟨b,t,ks,ds,ax,h⟩:=h;obtain⟨a,ai,ar,bb,_⟩:=ev.ownC ax;refine⟨_,ai,?_⟩;refine aq ρ _ h R W B H σ _ ev λxs vs aY au aG aT aE aC=>?_;obtain⟨Ru,aG⟩:=aG;obtain⟨gK,c1,c2,c3,a0,as,us,fl,c4,c5,c6,mA⟩:=aT.ownC ax;rw[ai]at c1;cases c1;show xk X.K n F ((.ref a::vs)++[]) au _ _
 rw[SQ];refine⟨aY,a,vs,xs,b,ks,ds,_,rfl,aG,Ru,aT.bh,c3,⟨a0,as,us,(λ_ z=>nomatch z),c4,c5,c6,mA⟩,aC,λjB ds' az ak ah fr dP bf n8 Rv xm=>?_⟩;have Hk:¬W a:=λz=>aT.wr a z c2;have h3:cF σ ρ m a:=.inl ⟨ai,.inr ⟨_,ax⟩⟩
 have nb:∀c,c≠a->aY c=none->au c≠none->az c=none:=λc hc h1 aa=>by
  cases z:az c with
  |none=>rfl
  |some o=>
   rcases n8 c o z with y|y|y
   ·rw[h1]at y;cases y
   ·exact absurd y hc
   exact absurd y aa
 have dL:aW X.K R W aY au (σ.set m (some .non)) (ρ.set m .no):=aT.set m trivial λ_ _ z=>by rcases z with z|⟨_,z⟩<;>cases z
 have wd:Wd R W az ak:=by
  refine⟨λc o h nw=>fr c o (by rintro rfl;rw[c2]at h;cases h) (aT.fr c o h nw),dP,λc z=>?_,λc z=>?_,aT.wr⟩
  ·obtain⟨dy,fa,pG,_⟩:=aT.wh c z;exact nb c (by rintro rfl;exact Hk z) (aT.wb c z) (by rw[pG];simp)
  obtain⟨dy,fa,pG,mc⟩:=aT.wh c z;exact⟨dy,fa,fr c _ (by rintro rfl;exact Hk z) pG,mc⟩
 have keep:∀c,c≠a->au c≠none->ak c=au c:=λc hc aO=>by
  cases z:au c with
  |none=>exact absurd z aO
  |some o=>exact fr c o hc z
 have bd:aW X.K R W az ak (σ.set m (some .non)) (ρ.set m .no):=dL.move wd bf λi c mu=>by
  have ne:c≠a:=by
   rintro rfl;obtain⟨lG,mu⟩:=rT mu (by simp) (by simp) rfl;exact lG (aT.sep i m c mu h3)
  obtain⟨dy,fa⟩:=dL.mutOk mu;refine⟨nb c ne dy fa,λz=>?_,λ_=>keep c ne fa⟩;obtain⟨c',eI,_,_,sr⟩:=dL.bagAt z;rw[o6 mu z]at eI;cases eI;obtain⟨x1,hK,j0,jC⟩:=sr;exact⟨x1,hK,by rw[keep c ne fa];exact j0,jC⟩
 obtain⟨gn,ur,jR,_,d4,BF,BG,BH⟩:=xm
 have bA:=bd.setC m (c:=.d b t jB ds') c2 Rv ⟨gn,ur,jR,fl,d4,BF,BG,BH⟩ λj bC mu=>by
  obtain⟨lG,mu⟩:=rT mu (by simp) (by simp) rfl;exact lG (aT.sep j m a mu h3)
 rw[TY,TY]at bA
 have q:σ.set m (some (.ref a))=σ:=by
  apply Uk;intro j;by_cases z:m=j
  ·subst z
   have lt:m<σ.length:=by
    by_cases z:m<σ.length
    ·exact z
    rw[S' (by lia)]at ai;cases ai
   rw[TK lt,ai]
  rw[TF z]
 rw[q]at bA;refine ew.nx _ _ az ak ah bA (aE.trans ⟨bf,λc o z=>?_⟩);rcases n8 c o z with y|y|y
 ·exact .inl y
 ·subst y;exact .inr c2
 exact .inr (aT.toWd.fresh y).1
end
end L3
namespace Cut
open PySem L2 L3
abbrev fV(ps:ZJ):D:=.lst (ps.map aQ)
theorem Hl{α β:Type}{f:α->β}{L:List α}{i:Int}(h1 : -(L.length:Int)<=i)(aa:i<L.length):∃x∈L,eu (L.map f) i=some (f x):=by
 have e:∃j,L2.ixN (L.map f).length i=some j/\j<L.length:=by
  unfold L2.ixN;rw[Sv];by_cases h0:0<=i
  ·rw[Tk h0,Tk aa];exact⟨_,rfl,by lia⟩
  rw[Tl h0,Tk h1];exact⟨_,rfl,by lia⟩
 obtain⟨j,e,bC⟩:=e;refine⟨L[j],V5 _,?_⟩;unfold eu;rw[e];simp[bC]
end Cut
namespace Cut
open PySem L2 L3
open PySem.Builtin.Int (intBits)
abbrev Hm:=Z1
theorem xn{α:Type}{f g:α->D}{s:cQ}{U:iE}{i j:Nat}(I:List α->ZM->Prop):∀{rs done:List α}{ρ:ZM},I done ρ->
  (∀(pre:List α)(e:α)(rest:List α) ρ,done++rs=pre++e::rest->I pre ρ->∀N:ZM->Prop,(∀dn,I (pre++[e]) dn->N dn)->s {U with nx:=N,ct:=N,bk:=U.nx} ((ρ.set i (.val (f e))).set j (.val (g e))))->(∀ρ,I (done++rs) ρ->U.nx ρ)->
  jP (me 2 (g2 (fb i) (g2 (fb j) md))) s U (rs.map λe=>.tup [f e,g e]) ρ
 |[],done,ρ,h0,_,aa=>aa ρ (by rw[SQ];exact h0)
 |e::rs,done,ρ,h0,h1,aa=>by
  refine⟨_,rfl,rfl,_,_,rfl,_,_,rfl,rfl,h1 done e rs ρ rfl h0 _ λdn ao=>?_⟩;have eq:done++e::rs=(done++[e])++rs:=by simp
  exact xn I ao (λpre bv rest ρ h=>h1 pre bv rest ρ (by rw[eq];exact h)) λρ h=>aa ρ (by rw[eq];exact h)
end Cut
namespace Cut
open PySem L2 L3
def fF(p:ab):List Int:=[p.1,p.2.1,p.2.2]
def k3(l:ab):Int:=(Th (Th l.1.natAbs l.2.1.natAbs) l.2.2.natAbs:Nat)
def mB(l:ab):Prop:=l.1<0\/(l.1=0/\l.2.1<0)
instance(l:ab):Decidable (mB l):=by unfold mB;infer_instance
def hk(l:ab):Int:=if mB l then -k3 l else k3 l
def ij(l:ab):ab:=(l.1/hk l,l.2.1/hk l,l.2.2/hk l)
theorem Hn(l:ab):k3 l∣l.1/\k3 l∣l.2.1/\k3 l∣l.2.2:=by
 unfold k3;refine⟨?_,?_,?_⟩
 ·exact UI.mpr (Vc (UZ _ _) (UZ _ _))
 ·exact UI.mpr (Vc (UZ _ _) (Vb _ _))
 exact UI.mpr (Vb _ _)
theorem uv(l:ab):hk l∣l.1/\hk l∣l.2.1/\hk l∣l.2.2:=by
 obtain⟨a,b,c⟩:=Hn l;unfold hk;split
 ·exact⟨UG.mpr a,UG.mpr b,UG.mpr c⟩
 exact⟨a,b,c⟩
theorem Rw(c:Int)(l:ab):k3 (sc c l)=c.natAbs*k3 l:=by
 unfold k3 sc;dsimp only;rw[Tw,Tw,Tw,Vd,Vd,Int.natCast_mul]
theorem Rx{c:Int}{l:ab}(hc:c≠0)(ap:l.1≠0\/l.2.1≠0):hk (sc c l)=c*hk l:=by
 have down:mB (sc c l)↔(if 0<c then mB l else ¬mB l):=by
  unfold mB sc;dsimp only;split
  ·rename_i h
   constructor
   ·rintro(z|⟨z,y⟩)
    ·exact .inl (by
      by_cases q:l.1<0
      ·exact q
      have:=Tu (Tg h) (show 0<=l.1 by lia)
      lia)
    have z:=(Tt.mp z).resolve_left hc;refine .inr ⟨z,?_⟩;by_cases q:l.2.1<0
    ·exact q
    have:=Tu (Tg h) (show 0<=l.2.1 by lia);lia
   rintro(z|⟨z,y⟩)
   ·exact .inl (S1 h z)
   exact .inr ⟨by rw[z,S2],S1 h y⟩
  rename_i h
  have h:c<0:=by lia
  constructor
  ·rintro(z|⟨z,y⟩) (q|⟨q,r⟩)
   ·have:=Uw h q;lia
   ·rw[q,S2]at z;lia
   ·have z:=(Tt.mp z).resolve_left hc;lia
   have:=Uw h r;lia
  intro z;have aG:¬l.1<0:=λq=>z (.inl q);by_cases q:l.1=0
  ·refine .inr ⟨by rw[q,S2],T4 h ?_⟩;have a8:¬l.2.1<0:=λr=>z (.inr ⟨q,r⟩);rcases ap with w|w
   ·exact absurd q w
   lia
  exact .inl (T4 h (by lia))
 unfold hk;rw[Rw];by_cases h:0<c
 ·rw[Tk h]at down;have e:((c.natAbs:Nat):Int)=c:=by lia
  by_cases d:mB l
  ·rw[Tk (down.mpr d),Tk d,e,Int.mul_neg]
  rw[Tl (λz=>d (down.mp z)),Tl d,e]
 rw[Tl h]at down;have e:((c.natAbs:Nat):Int) = -c:=by lia
 by_cases d:mB l
 ·rw[Tl (λz=>down.mp z d),Tk d,e,Int.mul_neg,Us]
 rw[Tk (down.mpr d),Tl d,e,Us,V6]
theorem xo{l:ab}(ap:l.1≠0\/l.2.1≠0):hk l≠0:=by
 have g:k3 l≠0:=λz=>by
  obtain⟨a,b,_⟩:=Hn l;rw[z]at a b;have a:=Int.zero_dvd.mp a;have b:=Int.zero_dvd.mp b;rcases ap with h|h<;>contradiction
 unfold hk;split
 ·lia
 exact g
theorem BJ{c x g:Int}(hc:c≠0)(aF:g≠0)(h:g∣x):c*x/(c*g)=x/g:=by
 obtain⟨k,rfl⟩:=h;rw[W4 _ aF,<-Uj,W4 _ (S0 hc aF)]
theorem pH{c:Int}{l:ab}(hc:c≠0)(ap:l.1≠0\/l.2.1≠0):ij (sc c l)=ij l:=by
 obtain⟨a,b,d⟩:=uv l;have g:=xo ap;unfold ij;rw[Rx hc ap];unfold sc;dsimp only;rw[BJ hc g a,BJ hc g b,BJ hc g d]
def eU(p q:ab):ab:=ij (crs p q)
def ez(p q x:ab):List ZI:=[fF (eU p q),fF x]
def fu(φ:ZZ->Int)(p q:ab):Rat:=((φ (ez p q p):Int):Rat)-((φ (ez p q q):Int):Rat)
def eA(φ:ZZ->Int)(ps:ZJ):Rat:=eT (fu φ) (dk ps)
def fW(φ:ZZ->Int)(rs:Z1):Rat:=(rs.map (eA φ)).sum
def cP(rs bz:Z1):Prop:=∀φ,fW φ rs=fW φ bz
theorem Ry{l w:ab}(ap:l.1≠0\/l.2.1≠0)(hw:w.1≠0\/w.2.1≠0)(h:crs l w=(0,0,0)):ij l=ij w:=by
 have h1:l.2.1*w.2.2-l.2.2*w.2.1=0:=UF (·.1) h;have aa:l.2.2*w.1-l.1*w.2.2=0:=UF (·.2.1) h;have aH:l.1*w.2.1-l.2.1*w.1=0:=UF (·.2.2) h;by_cases a:l.1=0
 ·have b:l.2.1≠0:=ap.resolve_left λz=>z a
  have eI:w.1=0:=by
   rw[a]at aH;have:l.2.1*w.1=0:=by lia
   exact(Tt.mp this).resolve_left b
  have fQ:w.2.1≠0:=hw.resolve_left λz=>z eI;have e:sc w.2.1 l=sc l.2.1 w:=e3 (by show w.2.1*l.1=l.2.1*w.1;rw[a,eI];simp) (by show w.2.1*l.2.1=l.2.1*w.2.1;rw[S6]) (by show w.2.1*l.2.2=l.2.1*w.2.2;grind);rw[<-pH fQ ap,e,pH b hw]
 have eI:w.1≠0:=λz=>by
  rw[z]at aH;have:l.1*w.2.1=0:=by lia
  have:=(Tt.mp this).resolve_left a;rcases hw with q|q
  ·exact q z
  exact q this
 have e:sc w.1 l=sc l.1 w:=e3 (by show w.1*l.1=l.1*w.1;rw[S6]) (by show w.1*l.2.1=l.1*w.2.1;grind) (by show w.1*l.2.2=l.1*w.2.2;grind);rw[<-pH eI ap,e,pH a hw]
theorem mC{u v:ab}(a2:aX u)(aL:aX v)(h:u≠v):(crs u v).1≠0\/(crs u v).2.1≠0:=by
 by_cases a:(crs u v).1=0
 ·right;intro b;have a:u.2.1*v.2.2-u.2.2*v.2.1=0:=a;have b:u.2.2*v.1-u.1*v.2.2=0:=b;obtain⟨ai,ar,bb⟩:=vV a2 aL (by grind) (by grind);exact h (e3 ai ar bb)
 exact .inl a
theorem Rz{l u v:ab}(a2:ln l u=0)(aL:ln l v=0):crs l (crs u v)=(0,0,0):=by
 unfold ln at a2 aL;refine e3 ?_ ?_ ?_<;>simp only[crs]<;>grind
theorem RA{l u v:ab}(ap:l.1≠0\/l.2.1≠0)(a2:aX u)(aL:aX v)(h:u≠v)(ju:ln l u=0)(lv:ln l v=0):eU u v=ij l:=(Ry ap (mC a2 aL h) (Rz ju lv)).symm
theorem RB(u v:ab):crs v u=sc (-1) (crs u v):=by refine e3 ?_ ?_ ?_<;>simp only[crs,sc]<;>grind
theorem Ho{u v:ab}(a2:aX u)(aL:aX v):eU v u=eU u v:=by
 by_cases h:u=v
 ·rw[h]
 unfold eU;rw[RB,pH (by decide) (mC a2 aL h)]
theorem BK{s b:Int}{x w:ab}(av:s≠0)(ae:b≠0)(hw:w.1≠0\/w.2.1≠0)(e:sc s x=sc b w):ij x=ij w:=by
 obtain⟨ai,ar,_⟩:=AQ e
 have al:x.1≠0\/x.2.1≠0:=by
  rcases hw with h|h
  ·left;intro z;rw[z,S2]at ai;exact S0 ae h ai.symm
  right;intro z;rw[z,S2]at ar;exact S0 ae h ar.symm
 rw[<-pH av al,e,pH ae hw]
theorem xp{p q m:ab}(ag:aX p)(ay:aX q)(h:p≠q)(b:hj p q m):eU p m=eU p q/\eU m q=eU p q:=by
 obtain⟨s,a,c,s0,f7,fl,e⟩:=b;obtain⟨ai,ar,bb⟩:s*m.1=a*p.1+c*q.1/\s*m.2.1=a*p.2.1+c*q.2.1/\s*m.2.2=a*p.2.2+c*q.2.2:=⟨UF (·.1) e,UF (·.2.1) e,UF (·.2.2) e⟩;have w:=mC ag ay h;constructor
 ·refine BK (s:=s) (b:=c) (by lia) (by lia) w ?_;refine e3 ?_ ?_ ?_<;>simp only[crs,sc]<;>grind
 refine BK (s:=s) (b:=a) (by lia) (by lia) w ?_;refine e3 ?_ ?_ ?_<;>simp only[crs,sc]<;>grind
section
variable(φ:ZZ->Int)(l:ab)
def ny(x:ab):Rat:=((φ [fF (ij l),fF x]:Int):Rat)
def ik(p q:ab):Rat:=fu φ p q-(ny φ l p-ny φ l q)
end
theorem Hp{T1 T2:ab->ab->Rat}:∀(es:List (ab×ab)),eT (λp q=>T1 p q-T2 p q) es=eT T1 es-eT T2 es
 |[]=>by rw[iK,iK,iK];grind
 |e::es=>by rw[hJ,hJ,hJ,Hp es];grind
theorem xq{T1 T2:ab->ab->Rat}:∀{es:List (ab×ab)},(∀e∈es,T1 e.1 e.2=T2 e.1 e.2)->eT T1 es=eT T2 es
 |[],_=>rfl
 |e::es,h=>by rw[hJ,hJ,h e Sw,xq λe aD=>h e (Sy _ aD)]
theorem RC(h:ab->Rat)(ps:ZJ):eT (λp q=>h p-h q) (dk ps)=0:=by
 cases ps with
 |nil=>rfl
 |cons a r=>
  have e:bT (bT (0,0,1) (a::r)) (a::r)=bT (0,0,1) (a::r):=sd (by simp);unfold dk;rw[GR,e];grind
theorem BL(φ:ZZ->Int)(l:ab)(ps:ZJ):eT (ik φ l) (dk ps)=eA φ ps:=by
 unfold ik eA;rw[Hp (T1:=fu φ) (T2:=λp q=>ny φ l p-ny φ l q),RC];grind
theorem BM(φ:ZZ->Int)(u:ab):fu φ u u=0:=by unfold fu;grind
theorem xr{φ:ZZ->Int}{l u v:ab}(ap:l.1≠0\/l.2.1≠0)(a2:aX u)(aL:aX v)(ju:ln l u=0)(lv:ln l v=0):ik φ l u v=0:=by
 by_cases h:u=v
 ·subst h;unfold ik;rw[BM];grind
 unfold ik fu ny ez;rw[RA ap a2 aL h ju lv];grind
section
variable{l o:ab}{ps:ZJ}
theorem Hq(φ:ZZ->Int)(ap:l.1≠0\/l.2.1≠0)(ax:aX o)(lo:ln l o=0)(aL:∀p∈ps,aX p):eA φ (c0 (ln l) (a1 l) ps)=eT (i8 (ln l) (a1 l) (ik φ l)) (dk ps):=by
 have uw:∀p q,aX p->aX q->ln l p*ln l q<0->aX (a1 l p q):=λp q ag ay c=>by
  rw[<-ot ag ay];exact gv (ou ag ay c)
 have hz:∀u v,aX u->aX v->ln l u=0->ln l v=0->ik φ l u v=0:=λu v a2 aL a b=>xr ap a2 aL a b;unfold c0;split
 ·rw[<-BL φ l];exact GN (V:=aX) hz (λp q ag ay c=>⟨uw p q ag ay c,ug c⟩) o ax lo aL
 rename_i n
 rw[Bu (V:=aX) hz λe aD=>?_]
 ·rfl
 obtain⟨h1,aa⟩:=lP aD;have a:¬0<ln l e.1:=λz=>n ⟨_,h1,z⟩;have b:¬0<ln l e.2:=λz=>n ⟨_,aa,z⟩;exact⟨aL _ h1,aL _ aa,by lia,by lia⟩
theorem Hr(φ:ZZ->Int)(ap:l.1≠0\/l.2.1≠0)(ax:aX o)(lo:ln l o=0)(aL:∀p∈ps,aX p):eA φ (c0 (λc => -ln l c) (a1 l) ps)=eT (i8 (λc => -ln l c) (a1 l) (ik φ l)) (dk ps):=by
 have uw:∀p q,aX p->aX q->ln l p*ln l q<0->aX (a1 l p q):=λp q ag ay c=>by
  rw[<-ot ag ay];exact gv (ou ag ay c)
 have hz:∀u v,aX u->aX v -> -ln l u=0 -> -ln l v=0->ik φ l u v=0:=λu v a2 aL a b=>xr ap a2 aL (by lia) (by lia);unfold c0;split
 ·rw[<-BL φ l];refine GN (f:=λc => -ln l c) (V:=aX) hz (λp q ag ay c=>?_) o ax (by show -ln l o=0;lia) aL;have c:ln l p*ln l q<0:=by rwa[Uy]at c
  exact⟨uw p q ag ay c,by show -ln l (a1 l p q)=0;rw[ug c];rfl⟩
 rename_i n
 rw[Bu (f:=λc => -ln l c) (V:=aX) hz λe aD=>?_]
 ·rfl
 obtain⟨h1,aa⟩:=lP aD;have a:¬0 < -ln l e.1:=λz=>n ⟨_,h1,z⟩;have b:¬0 < -ln l e.2:=λz=>n ⟨_,aa,z⟩;exact⟨aL _ h1,aL _ aa,by show -ln l e.1<=0;lia,by show -ln l e.2<=0;lia⟩
theorem BN{p q:ab}(c:ln l p*ln l q<0):p≠q:=by
 rintro rfl
 have:0<=ln l p*ln l p:=by
  rcases Int.le_total 0 (ln l p)with h|h
  ·exact Tu h h
  exact Vl h h
 lia
theorem RD{φ:ZZ->Int}{p q m:ab}(ag:aX p)(ay:aX q)(h:p≠q)(b:hj p q m):ik φ l p m+ik φ l m q=ik φ l p q:=by
 obtain⟨ai,ar⟩:=xp ag ay h b;unfold ik fu ez;rw[ai,ar];grind
theorem RE(φ:ZZ->Int)(ap:l.1≠0\/l.2.1≠0)(ax:aX o)(lo:ln l o=0)(aL:∀p∈ps,aX p):eA φ (c0 (ln l) (a1 l) ps)+eA φ (c0 (λc => -ln l c) (a1 l) ps)=eA φ ps:=by
 rw[Hq φ ap ax lo aL,Hr φ ap ax lo aL,<-BL φ l];refine GO λe aD=>?_;obtain⟨h1,aa⟩:=lP aD;exact Qx (V:=aX) (λu v a2 aL a b=>xr ap a2 aL a b) (aL _ h1) (aL _ aa) λc=>RD (aL _ h1) (aL _ aa) (BN c) (sb c)
end
def kD:ZI->ab
 |[a,b,c]=>(a,b,c)
 |_=>(0,0,0)
theorem xt(p:ab):kD (fF p)=p:=rfl
def lT(s:Int)(φ:ZZ->Int)(l:ab):ZZ->Int
 |[k,x]=>if 0<s*ln l (kD x)then φ [k,x]-φ [fF (ij l),x]-(φ [k,fF (nP (crs l (kD k)))]-φ [fF (ij l),fF (nP (crs l (kD k)))])else 0
 |_=>0
theorem BO{l p q:ab}(ag:aX p)(ay:aX q)(h:p≠q)(aO:(crs l (crs p q)).2.2≠0):nP (crs l (eU p q))=nP (crs l (crs p q)):=by
 have w:=mC ag ay h;have g:=xo w;obtain⟨b7,cc,d3⟩:=uv (crs p q)
 have e:crs p q=sc (hk (crs p q)) (eU p q):=by
  unfold eU ij sc;refine e3 ?_ ?_ ?_
  ·exact(UQ b7).symm
  ·exact(UQ cc).symm
  exact(UQ d3).symm
 have ar:crs l (crs p q)=sc (hk (crs p q)) (crs l (eU p q)):=by
  conv=>lhs;rw[e]
  refine e3 ?_ ?_ ?_<;>simp only[crs,sc]<;>grind
 have pt:=gv aO;obtain⟨c,fl,hc⟩:=kr aO;exact(r6 (M:=crs l (eU p q)) (h:=nP (crs l (crs p q))) g fl pt (by rw[<-ar];exact hc)).2
theorem Hs{l p q:ab}(ag:aX p)(ay:aX q)(lp:ln l p≠0)(lQ:ln l q=0):nP (crs l (eU p q))=q/\nP (crs l (eU q p))=q:=by
 have ne:p≠q:=by rintro rfl;exact lp lQ
 have e:crs l (crs p q)=sc (-ln l p) q:=by
  unfold ln at lQ⊢;refine e3 ?_ ?_ ?_<;>simp only[crs,sc]<;>grind
 have uf:=ay.1
 have aO:(crs l (crs p q)).2.2≠0:=by
  rw[e];exact S0 (by lia) (by lia)
 have a:nP (crs l (eU p q))=q:=by
  rw[BO ag ay ne aO];exact(r6 (M:=crs l (crs p q)) (G:=1) (c :=-ln l p) (by decide) (by lia) ay (by rw[e];unfold sc;simp)).2
 exact⟨a,by rw[Ho ag ay];exact a⟩
theorem xu(a b:Int):((a-b:Int):Rat)=(a:Rat)-(b:Rat):=by grind
section
variable{l:ab}{φ:ZZ->Int}
theorem xv{s:Int}{k:ZI}{x:ab}(h:0<s*ln l x):((lT s φ l [k,fF x]:Int):Rat)=((φ [k,fF x]:Int):Rat)-ny φ l x-(((φ [k,fF (nP (crs l (kD k)))]:Int):Rat)-ny φ l (nP (crs l (kD k)))):=by
 have e:lT s φ l [k,fF x]=φ [k,fF x]-φ [fF (ij l),fF x]-(φ [k,fF (nP (crs l (kD k)))]-φ [fF (ij l),fF (nP (crs l (kD k)))]):=by
  show(if 0<s*ln l x then _ else _)=_
  rw[Tk h]
 rw[e,xu,xu,xu];rfl
theorem q1{s:Int}{k:ZI}{x:ab}(h:¬0<s*ln l x):((lT s φ l [k,fF x]:Int):Rat)=0:=by
 have e:lT s φ l [k,fF x]=0:=by
  show(if 0<s*ln l x then _ else _)=_
  rw[Tl h]
 rw[e];rfl
theorem Ht(ap:l.1≠0\/l.2.1≠0){p q:ab}(ag:aX p)(ay:aX q){s:Int}(av:s=1\/s = -1):i8 (λc=>s*ln l c) (a1 l) (ik φ l) p q=fu (lT s φ l) p q:=by
 have xw:∀a b:Int,(s*a)*(s*b)=a*b:=λa b=>by rcases av with rfl|rfl<;>grind
 unfold i8;dsimp only;rw[xw];have s0:∀x:Int,s*x=0->x=0:=λx h=>by rcases av with rfl|rfl<;>lia
 have key:fu (lT s φ l) p q=((lT s φ l [fF (eU p q),fF p]:Int):Rat)-((lT s φ l [fF (eU p q),fF q]:Int):Rat):=rfl;rw[key];rcases T3 (s*ln l p) 0 with a|a|a
 ·rw[Tl (show ¬0<=s*ln l p by lia),q1 (show ¬0<s*ln l p by lia)];by_cases b:0<s*ln l q
  ·have c:ln l p*ln l q<0:=by rw[<-xw];exact T4 a b
   have ne:=BN c;obtain⟨ai,ar⟩:=xp ag ay ne (sb c);have em:nP (crs l (kD (fF (eU p q))))=a1 l p q:=by rw[xt,BO ag ay ne (ou ag ay c),ot ag ay]
   rw[Tk c,xv b,em];unfold ik fu ez;rw[ar];grind
  have c:¬ln l p*ln l q<0:=by rw[<-xw];have:=Vl (show s*ln l p<=0 by lia) (show s*ln l q<=0 by lia);lia
  rw[Tl c,q1 b];grind
 ·have lp:=s0 _ a;have c:¬ln l p*ln l q<0:=by rw[lp,TZ];lia
  rw[Tk (show 0<=s*ln l p by lia),q1 (show ¬0<s*ln l p by lia),Tl c];rcases T3 (s*ln l q) 0 with b|b|b
  ·rw[Tl (show ¬0<=s*ln l q by lia),q1 (show ¬0<s*ln l q by lia)];grind
  ·rw[Tk (show 0<=s*ln l q by lia),q1 (show ¬0<s*ln l q by lia),xr ap ag ay lp (s0 _ b)];grind
  have lQ:ln l q≠0:=λz=>by rw[z,S2]at b;lia
  have em:nP (crs l (kD (fF (eU p q))))=p:=by rw[xt];exact(Hs ay ag lQ lp).2
  rw[Tk (show 0<=s*ln l q by lia),xv b,em];unfold ik fu ez;grind
 have lp:ln l p≠0:=λz=>by rw[z,S2]at a;lia
 rw[Tk (show 0<=s*ln l p by lia),xv a];rcases T3 (s*ln l q) 0 with b|b|b
 ·have c:ln l p*ln l q<0:=by rw[<-xw];exact S1 a b
  have ne:=BN c;obtain⟨ai,ar⟩:=xp ag ay ne (sb c);have em:nP (crs l (kD (fF (eU p q))))=a1 l p q:=by rw[xt,BO ag ay ne (ou ag ay c),ot ag ay]
  rw[Tl (show ¬0<=s*ln l q by lia),Tk c,q1 (show ¬0<s*ln l q by lia),em];unfold ik fu ez;rw[ai];grind
 ·have em:nP (crs l (kD (fF (eU p q))))=q:=by rw[xt];exact(Hs ag ay lp (s0 _ b)).1
  rw[Tk (show 0<=s*ln l q by lia),q1 (show ¬0<s*ln l q by lia),em];unfold ik fu ez;grind
 rw[Tk (show 0<=s*ln l q by lia),xv b];unfold ik fu ez;grind
theorem Hu{o:ab}{ps:ZJ}(ap:l.1≠0\/l.2.1≠0)(ax:aX o)(lo:ln l o=0)(aL:∀p∈ps,aX p):eA φ (c0 (ln l) (a1 l) ps)=eA (lT 1 φ l) ps/\eA φ (c0 (λc => -ln l c) (a1 l) ps)=eA (lT (-1) φ l) ps:=by
 rw[Hq φ ap ax lo aL,Hr φ ap ax lo aL];constructor
 ·refine xq λe aD=>?_;obtain⟨h1,aa⟩:=lP aD;have:=Ht (φ:=φ) ap (aL _ h1) (aL _ aa) (s:=1) (.inl rfl);rw[<-this];congr 1;funext c;rw[Wg]
 refine xq λe aD=>?_;obtain⟨h1,aa⟩:=lP aD;have:=Ht (φ:=φ) ap (aL _ h1) (aL _ aa) (s :=-1) (.inr rfl);rw[<-this];congr 1;funext c;rw[Int.neg_one_mul]
end
theorem cP.keep{l o:ab}{rs bz:Z1}(h:cP rs bz)(ap:l.1≠0\/l.2.1≠0)(ax:aX o)(lo:ln l o=0)(ao:∀ps∈rs,∀p∈ps,aX p)(ay:∀ps∈bz,∀p∈ps,aX p):
  cP (rs.map (c0 (ln l) (a1 l))) (bz.map (c0 (ln l) (a1 l)))/\cP (rs.map (c0 (λc => -ln l c) (a1 l))) (bz.map (c0 (λc => -ln l c) (a1 l))):=by
 have one:∀(L:Z1) φ,(∀ps∈L,∀p∈ps,aX p)->fW φ (L.map (c0 (ln l) (a1 l)))=fW (lT 1 φ l) L:=λL φ bI=>by
  unfold fW;rw[SR];congr 1;exact Ud λps ag=>(Hu ap ax lo (bI ps ag)).1
 have two:∀(L:Z1) φ,(∀ps∈L,∀p∈ps,aX p)->fW φ (L.map (c0 (λc => -ln l c) (a1 l)))=fW (lT (-1) φ l) L:=λL φ bI=>by
  unfold fW;rw[SR];congr 1;exact Ud λps ag=>(Hu ap ax lo (bI ps ag)).2
 exact⟨λφ=>by rw[one rs φ ao,one bz φ ay];exact h _,λφ=>by rw[two rs φ ao,two bz φ ay];exact h _⟩
theorem Hv(m:ab->ab):∀(z:ab)(L:ZJ),cW (m z) (L.map m)=(cW z L).map λe=>(m e.1,m e.2)
 |_,[]=>rfl
 |z,p::L=>by
  show(m z,m p)::cW (m p) (L.map m)=_
  rw[Hv m p L];rfl
theorem Hw(m:ab->ab):∀(z:ab)(L:ZJ),bT (m z) (L.map m)=m (bT z L)
 |_,[]=>rfl
 |z,p::L=>Hw m p L
theorem BP(m:ab->ab)(ps:ZJ):dk (ps.map m)=(dk ps).map λe=>(m e.1,m e.2):=by
 cases ps with
 |nil=>rfl
 |cons a r=>
  unfold dk
  have e:bT (0,0,1) ((a::r).map m)=m (bT (0,0,1) (a::r)):=by
   rw[<-Hw m (0,0,1) (a::r)];exact sd (by simp)
  rw[e,Hv]
theorem RF{T:ab->ab->Rat}(m:ab->ab)(es:List (ab×ab)):eT T (es.map λe=>(m e.1,m e.2))=eT (λp q=>T (m p) (m q)) es:=by
 unfold eT;rw[SR];rfl
structure k4 (m A:ab->ab):Prop where
 lin:∀c l,A (sc c l)=sc c (A l)
 ne:∀l:ab,(l.1≠0\/l.2.1≠0)->(A l).1≠0\/(A l).2.1≠0
 pt:∀p,aX p->aX (m p)
 ln:∀p q,aX p->aX q->∃g h:Int,g≠0/\h≠0/\sc g (crs (m p) (m q))=sc h (A (crs p q))
def BQ(m A:ab->ab)(φ:ZZ->Int):ZZ->Int
 |[k,x]=>φ [fF (ij (A (kD k))),fF (m (kD x))]
 |_=>0
theorem Hx{p q:ab}:crs p q=sc (hk (crs p q)) (eU p q):=by
 obtain⟨b7,cc,d3⟩:=uv (crs p q);unfold eU ij sc;refine e3 ?_ ?_ ?_
 ·exact(UQ b7).symm
 ·exact(UQ cc).symm
 exact(UQ d3).symm
theorem RG{p q:ab}(ag:aX p)(ay:aX q)(h:p≠q):(eU p q).1≠0\/(eU p q).2.1≠0:=by
 have w:=mC ag ay h;rw[Hx]at w;rcases w with w|w
 ·exact .inl λz=>w (by show _*(eU p q).1=0;rw[z,S2])
 exact .inr λz=>w (by show _*(eU p q).2.1=0;rw[z,S2])
theorem k4.line{m A:ab->ab}(M:k4 m A){p q:ab}(ag:aX p)(ay:aX q)(h:p≠q):eU (m p) (m q)=ij (A (eU p q)):=by
 obtain⟨g,c,ft,fl,e⟩:=M.ln p q ag ay;have w:=mC ag ay h;have ai:eU (m p) (m q)=ij (A (crs p q)):=BK ft fl (M.ne _ w) e;rw[ai]
 conv=>lhs;rw[Hx,M.lin]
 exact pH (xo w) (M.ne _ (RG ag ay h))
theorem k4.side{m A:ab->ab}(M:k4 m A)(φ:ZZ->Int){p q:ab}(ag:aX p)(ay:aX q):fu φ (m p) (m q)=fu (BQ m A φ) p q:=by
 by_cases h:p=q
 ·subst h;rw[BM,BM]
 unfold fu ez;rw[M.line ag ay h];rfl
theorem k4.ring{m A:ab->ab}(M:k4 m A)(φ:ZZ->Int){ps:ZJ}(aL:∀p∈ps,aX p):eA φ (ps.map m)=eA (BQ m A φ) ps:=by
 unfold eA;rw[BP,RF];refine xq λe aD=>?_;obtain⟨h1,aa⟩:=lP aD;exact M.side φ (aL _ h1) (aL _ aa)
theorem k4.bal{m A:ab->ab}(M:k4 m A){rs bz:Z1}(h:cP rs bz)(ao:∀ps∈rs,∀p∈ps,aX p)(ay:∀ps∈bz,∀p∈ps,aX p):cP (rs.map λps=>ps.map m) (bz.map λps=>ps.map m):=λφ=>by
 have one:∀(L:Z1),(∀ps∈L,∀p∈ps,aX p)->fW φ (L.map λps=>ps.map m)=fW (BQ m A φ) L:=λL bI=>by
  unfold fW;rw[SR];congr 1;exact Ud λps ag=>M.ring φ (bI ps ag)
 rw[one rs ao,one bz ay];exact h _
def slA(v l:ab):ab:=(l.1*v.2.2,l.2.1*v.2.2,l.2.2*v.2.2-l.1*v.1-l.2.1*v.2.1)
def ss(l:ab):ab:=(-l.1,-l.2.1,l.2.2)
theorem BR{v:ab}(aL:0<v.2.2):k4 (λp=>nP (sld v p)) (slA v):=by
 refine⟨λc l=>?_,λl h=>?_,λp ag=>gv ?_,λp q ag ay=>?_⟩
 ·refine e3 ?_ ?_ ?_<;>simp only[slA,sc]<;>grind
 ·rcases h with h|h
  ·exact .inl (S0 h (by lia))
  exact .inr (S0 h (by lia))
 ·have:=ag.1;show p.2.2*v.2.2≠0
  exact S0 (by lia) (by lia)
 have c8:(sld v p).2.2≠0:=S0 (by have:=ag.1;lia) (by lia);have cO:(sld v q).2.2≠0:=S0 (by have:=ay.1;lia) (by lia);obtain⟨aE,aG,ai⟩:=kr c8;obtain⟨aI,a8,ar⟩:=kr cO;refine⟨aE*aI,v.2.2,S0 aG a8,by lia,?_⟩;rw[<-AR,<-ai,<-ar];refine e3 ?_ ?_ ?_<;>simp only[crs,sc,slA,sld]<;>grind
theorem q2:k4 trn ss:=by
 refine⟨λc l=>?_,λl h=>?_,λp ag=>z2 ag,λp q ag ay=>⟨1,1,by decide,by decide,?_⟩⟩
 ·refine e3 ?_ ?_ ?_<;>simp only[ss,sc]<;>grind
 ·rcases h with h|h
  ·exact .inl (by show -l.1≠0;lia)
  exact .inr (by show -l.2.1≠0;lia)
 refine e3 ?_ ?_ ?_<;>simp only[crs,sc,ss,trn]<;>grind
theorem Hy(φ:ZZ->Int)(a:ab)(r:ZJ):eA φ (r++[a])=eA φ (a::r):=by
 unfold eA;rw[<-Bs]
 have e:dk (r++[a])=cW a (r++[a]):=by
  unfold dk;rw[pA];rfl
 rw[e]
end Cut
namespace Cut
open PySem L2 L3
open PySem.Builtin.Int (intBits)
theorem RH{ps:ZJ}{i:Nat}(h:i<ps.length):∃p q,p∈ps/\q∈ps/\eu (ps.map aQ) ((i:Int)-1)=some (aQ p)/\eu (ps.map aQ) (i:Int)=some (aQ q)/\(p,q)∈dk ps/\(dk ps).take (i+1)=(dk ps).take i++[(p,q)]:=by
 obtain⟨p,mp,ag⟩:=Hl (f:=id) (L:=ps) (i:=(i:Int)-1) (by lia) (by lia);obtain⟨q,BS,ay⟩:=Hl (f:=id) (L:=ps) (i:=(i:Int)) (by lia) (by lia);rw[List.map_id]at ag ay;have ai:bx ps ((i+ps.length-1)%ps.length)=p:=wu (SO ((F' h).symm.trans (qJ ag)));have ar:bx ps i=q:=wu (SO ((nq h).symm.trans (qJ ay)));have q3:(dk ps).take (i+1)=(dk ps).take i++[(p,q)]:=by rw[QC h,ai,ar]
 exact⟨p,q,mp,BS,qJ ag,qJ ay,Wh (i:=i+1) (by rw[q3];simp),q3⟩
theorem Hz{α:Type}(k:ZZ)(x:α):∀{ks:List ZZ}{ds:List α}(key:ZZ),ds.length=ks.length->bo (eO ks k) (gP ks ds k x) key=if key=k then some x else bo ks ds key:=by
 have hT:∀{ks:List ZZ}{ds:List α}(key:ZZ),ds.length=ks.length->bo ks (fU ks ds k x) key=if key=k/\k∈ks then some x else bo ks ds key:=by
  intro ks;induction ks with
  |nil=>intro ds key h;simp[bo]
  |cons k' ks b9=>
   intro ds key h;cases ds with
   |nil=>simp at h
   |cons d ds=>
    have b9:=b9 (ds:=ds) key (by simpa using h);rw[fU,bo,bo];by_cases e:k'=key
    ·rw[Tk e,Tk e];by_cases ar:k'=k
     ·rw[Tk ar,Tk ⟨by rw[<-e,ar],by rw[ar];simp⟩]
     rw[Tl ar,Tl (λz=>ar (e.trans z.1))]
    rw[Tl e,Tl e,b9];by_cases z:key=k/\k∈ks
    ·rw[Tk z,Tk ⟨z.1,Sy _ z.2⟩]
    rw[Tl z,Tl (λy=>z ⟨y.1,by
     rcases SG.mp y.2 with q|q
     ·exact absurd (q.symm.trans y.1.symm) e
     exact q⟩)]
 have ux:∀{ks:List ZZ}{ds:List α}(key:ZZ),ds.length=ks.length->bo (ks++[k]) (ds++[x]) key=(bo ks ds key).or (if k=key then some x else none):=by
  intro ks;induction ks with
  |nil=>
   intro ds key h;cases ds with
   |nil=>simp[bo]
   |cons d ds=>simp at h
  |cons k' ks b9=>
   intro ds key h;cases ds with
   |nil=>simp at h
   |cons d ds=>
    have b9:=b9 (ds:=ds) key (by simpa using h);rw[To,To,bo,bo];by_cases e:k'=key
    ·rw[Tk e,Tk e];rfl
    rw[Tl e,Tl e,b9]
 intro ks ds key h;unfold eO gP;by_cases m:k∈ks
 ·rw[Tk m,Tk m,hT key h];by_cases e:key=k
  ·rw[Tk ⟨e,m⟩,Tk e]
  rw[Tl (λz=>e z.1),Tl e]
 rw[Tl m,Tl m,ux key h];by_cases e:key=k
 ·subst e;rw[(pE h).mpr m,Tk rfl];rfl
 rw[Tl e,Tl (λz=>e z.symm)];cases bo ks ds key<;>rfl
theorem HA{α:Type}{k:ZZ}{x:α}{ks:List ZZ}{ds:List α}(h:ds.length=ks.length):(gP ks ds k x).length=(eO ks k).length/\(eO ks k).length<=ks.length+1:=by
 unfold eO gP;by_cases m:k∈ks
 ·rw[Tk m,Tk m,By];exact⟨h,by lia⟩
 rw[Tl m,Tl m,Sx,Sx,h];exact⟨rfl,SF _⟩
theorem lk_map{α β:Type}(f:α->β):∀(ks:List ZZ)(ds:List α)(key:ZZ),bo ks (ds.map f) key=(bo ks ds key).map f
 |[],_,_=>by simp[bo]
 |_::_,[],_=>by simp[bo]
 |k'::ks,d::ds,key=>by
  rw[SH,bo,bo];by_cases e:k'=key
  ·rw[Tk e,Tk e];rfl
  rw[Tl e,Tl e,lk_map f ks ds key]
theorem HB{α β:Type}(f:α->β)(k:ZZ)(x:α)(ks:List ZZ)(ds:List α):(gP ks ds k x).map f=gP ks (ds.map f) k (f x):=by
 have hT:∀(ks:List ZZ)(ds:List α),(fU ks ds k x).map f=fU ks (ds.map f) k (f x):=by
  intro ks;induction ks with
  |nil=>intro ds;simp[fU]
  |cons k' ks b9=>
   intro ds;cases ds with
   |nil=>simp[fU]
   |cons d ds=>
    rw[fU,SH,b9,SH,fU];by_cases e:k'=k
    ·rw[Tk e,Tk e]
    rw[Tl e,Tl e]
 unfold gP;by_cases m:k∈ks
 ·rw[Tk m,Tk m,hT]
 rw[Tl m,Tl m,Sz];rfl
def uy(key:ZZ)(e:ab×ab):Int:=(if key=ez e.1 e.2 e.1 then 1 else 0)-(if key=ez e.1 e.2 e.2 then 1 else 0)
def pI(key:ZZ)(es:List (ab×ab)):Int:=(es.map (uy key)).sum
def pJ(key:ZZ)(rs:Z1):Int:=(rs.map λps=>pI key (dk ps)).sum
theorem BU:∀(l:ZI),((l.sum:Int):Rat)=(l.map λx:Int=>(x:Rat)).sum
 |[]=>by simp
 |a::l=>by
  rw[Tb,SH,Tb,<-BU l];grind
theorem RI{rs bz:Z1}(h:cP rs bz)(key:ZZ):pJ key rs=pJ key bz:=by
 have one:∀L:Z1,((pJ key L:Int):Rat)=fW (λk=>if key=k then 1 else 0) L:=λL=>by
  unfold pJ fW;rw[BU,SR];congr 1;refine Ud λps _=>?_;show((pI key (dk ps):Int):Rat)=_
  unfold pI eA eT;rw[BU,SR];congr 1;refine Ud λe _=>?_;show((uy key e:Int):Rat)=_
  unfold uy fu;rw[xu]
 have:=h (λk=>if key=k then 1 else 0);rw[<-one,<-one]at this;exact_mod_cast this
def nz(ps:ZJ):Prop:=ps.length<=75/\(∀e∈dk ps,(crs e.1 e.2).1≠0\/(crs e.1 e.2).2.1≠0)/\∀p∈ps,cp 4000 p
theorem HC{g x:Int}{n:Nat}(h:g∣x)(fe:x≠0)(b:SC x<=n):SC g<=n:=by
 refine intBits_le_iff.mpr (W2 ?_ (intBits_le_iff.mp b));exact VT (by lia) (Ut.mpr h)
theorem RJ{l:ab}{n:Nat}(b1:SC l.1<=n)(b2:SC l.2.1<=n)(w:l.1≠0\/l.2.1≠0):SC (hk l)<=n:=by
 obtain⟨b7,cc,_⟩:=uv l;rcases w with h|h
 ·exact HC b7 h b1
 exact HC cc h b2
theorem HD(ks:List ZZ)(vs:ZI)(key:ZZ):(bo ks (vs.map D.int) key).getD (.int 0)=.int ((bo ks vs key).getD 0):=by
 rw[lk_map];cases bo ks vs key<;>rfl
def j1(p q:ab)(t:Int):ab:=cy (p.1*q.2.2*(3-t)+q.1*p.2.2*t) (p.2.1*q.2.2*(3-t)+q.2.1*p.2.2*t) (p.2.2*q.2.2*3)
theorem HE:eqD (.str "high") (.str "low")=false:=by
 unfold eqD;exact @decide_eq_false _ (T' _) λh=>absurd (D.str.inj h) (by decide)
theorem HF:eqD (.str "low") (.str "low")=true:=pd _
theorem RK{ps:ZJ}{k:Nat}(h:k<ps.length)(aa:2<=ps.length):eu (ps.map aQ) ((k:Int)-2)=some (aQ (bx ps ((k+ps.length-2)%ps.length))):=by
 by_cases z:2<=k
 ·have e:(k+ps.length-2)%ps.length=k-2:=by
   rw[show k+ps.length-2=(k-2)+ps.length by lia,UM,Td (by lia)]
  rw[e,show((k:Int)-2)=((k-2:Nat):Int) by lia];exact nq (by lia)
 have e:(k+ps.length-2)%ps.length=k+ps.length-2:=Td (by lia);rw[e,mo (by lia)];unfold eu ixN;rw[Tl (by lia),Tk (by rw[Sv];lia)];show(ps.map aQ)[_]?=_
 rw[SW,Sv,show((k:Int)-2+(ps.length:Int)).toNat=k+ps.length-2 by lia,SU (by lia)];rfl
theorem HG{x:Int}(h:cJ x=1):0<x:=by
 unfold cJ at h;split at h
 ·assumption
 split at h<;>lia
theorem fg.turn{ps:ZJ}(h:fg ps){k:Nat}(ah:k<ps.length):0<be (bx ps ((k+ps.length-2)%ps.length)) (bx ps ((k+ps.length-1)%ps.length)) (bx ps k):=by
 have e2:=h.1
 have e:((k+ps.length-2)%ps.length+1)%ps.length=(k+ps.length-1)%ps.length:=by
  rw[Nat.mod_add_mod];congr 1;lia
 have HH:∀d,0<d->d<ps.length->k≠(k+ps.length-d)%ps.length:=λd i6 b7 z=>by
  by_cases y:d<=k
  ·rw[show k+ps.length-d=(k-d)+ps.length by lia,UM,Td (by lia)]at z;lia
  rw[Td (by lia)]at z;lia
 have:=h.2 ((k+ps.length-2)%ps.length) k (Uv _ (by lia)) ah (HH 2 (by decide) (by lia)) (by rw[e];exact HH 1 (by decide) (by lia));rw[e]at this;exact HG this
theorem RL(p q r:ab):be p q r=be q r p:=by unfold be crs;grind
theorem fg.fan{ps:ZJ}(h:fg ps){k:Nat}(dS:0<k)(ah:k+1<ps.length):0<be (bx ps 0) (bx ps k) (bx ps (k+1)):=by
 have:=h.2 k 0 (by lia) (by lia) (by lia) (by rw[Td ah];lia);rw[Td ah]at this;rw[RL];exact HG this
theorem RM{p s:ab}(ag:aX p)(av:aX s)(iT:Bool):cy ((1-2*(if iT then 1 else 0))*(p.1*s.2.2-s.1*p.2.2)) ((1-2*(if iT then 1 else 0))*(p.2.1*s.2.2-s.2.1*p.2.2)) (p.2.2*s.2.2)=if iT=true then trn (nP (sld (trn s) p))else nP (sld (trn s) p):=by
 have e:sld (trn s) p=(p.1*s.2.2-s.1*p.2.2,p.2.1*s.2.2-s.2.1*p.2.2,p.2.2*s.2.2):=by
  refine e3 ?_ ?_ ?_<;>simp only[sld,trn]<;>grind
 have cd:(sld (trn s) p).2.2≠0:=by
  rw[e];exact S0 (SA ag.1) (SA av.1)
 cases iT with
 |false=>
  simp only[TH,if_false,S2,Wi,Wg];unfold nP;rw[e]
 |true=>
  simp only[if_true];obtain⟨g,ft,aF⟩:=kr cd;refine(r6 (M:=((1-2*1)*(p.1*s.2.2-s.1*p.2.2),(1-2*1)*(p.2.1*s.2.2-s.2.1*p.2.2),p.2.2*s.2.2)) (h:=trn (nP (sld (trn s) p))) (G:=1) (c:=g) (by decide) ft (z2 (gv cd)) ?_).2;rw[e]at aF⊢;obtain⟨h1,aa,aH⟩:p.1*s.2.2-s.1*p.2.2=g*(nP (p.1*s.2.2-s.1*p.2.2,p.2.1*s.2.2-s.2.1*p.2.2,p.2.2*s.2.2)).1/\p.2.1*s.2.2-s.2.1*p.2.2=g*(nP (p.1*s.2.2-s.1*p.2.2,p.2.1*s.2.2-s.2.1*p.2.2,p.2.2*s.2.2)).2.1/\p.2.2*s.2.2=g*(nP (p.1*s.2.2-s.1*p.2.2,p.2.1*s.2.2-s.2.1*p.2.2,p.2.2*s.2.2)).2.2:=⟨UF (·.1) aF,UF (·.2.1) aF,UF (·.2.2) aF⟩;refine e3 ?_ ?_ ?_
  ·show 1*((1-2*1)*(p.1*s.2.2-s.1*p.2.2))=g * -(nP _).1;grind
  ·show 1*((1-2*1)*(p.2.1*s.2.2-s.2.1*p.2.2))=g * -(nP _).2.1;grind
  show 1*(p.2.2*s.2.2)=g*(nP _).2.2;grind
theorem pK(s:ba):fT s=s.1.map λp=>if s.2.1=true then trn (nP (sld (trn s.2.2) p))else nP (sld (trn s.2.2) p):=by
 unfold fT;by_cases h:s.2.1=true
 ·rw[Tk h,SR];refine Ud λp _=>?_;rw[Tk h];rfl
 rw[Tl h];refine Ud λp _=>?_;rw[Tl h]
theorem HI(a p:ab):be a p p=0:=by unfold be crs;grind
theorem fg.side{ps:ZJ}(h:fg ps){p q:ab}(hf:(p,q)∈dk ps):p≠q:=by
 rw[w6]at hf;obtain⟨i,hi,e⟩:=SJ.mp hf;have hi:=TB.mp hi;have t:=h.turn hi;obtain⟨rfl,rfl⟩:=Prod.mk.inj e;intro z;rw[z,HI]at t;lia
theorem k4.rg{m A:ab->ab}(M:k4 m A){ps:ZJ}(aL:∀p∈ps,aX p)(aD:∀e∈dk ps,(crs e.1 e.2).1≠0\/(crs e.1 e.2).2.1≠0):∀e∈dk (ps.map m),(crs e.1 e.2).1≠0\/(crs e.1 e.2).2.1≠0:=λe h=>by
 rw[BP]at h;obtain⟨d,hd,rfl⟩:=SJ.mp h;obtain⟨h1,aa⟩:=lP hd;obtain⟨g,c,ft,fl,q⟩:=M.ln d.1 d.2 (aL _ h1) (aL _ aa);obtain⟨aM,a4,_⟩:=AQ q;rcases M.ne _ (aD d hd)with w|w
 ·exact .inl λz=>S0 fl w (by rw[<-aM];show g*(crs (m d.1) (m d.2)).1=0;rw[show(crs (m d.1) (m d.2)).1=0 from z,S2])
 exact .inr λz=>S0 fl w (by rw[<-a4];show g*(crs (m d.1) (m d.2)).2.1=0;rw[show(crs (m d.1) (m d.2)).2.1=0 from z,S2])
theorem HJ(s:ba):(fT s).length=s.1.length:=by rw[pK,Sv]
theorem pL{α:Type}{f:α->Nat}{m:Nat}:∀{l:List α},(∀x∈l,f x<=m)->(l.map f).sum<=l.length*m
 |[],_=>by simp
 |x::l,h=>by
  rw[SH,Tb,SM];have h1:=h x Sw;have aa:=pL (l:=l) λy aP=>h y (Sy _ aP);rw[Nat.add_mul,Nat.one_mul];lia
theorem HK(a b:Bool):eqD (.bl a) (.bl b)=(a==b):=by
 by_cases h:a=b
 ·subst h;rw[pd];simp
 have:eqD (.bl a) (.bl b)=false:=by
  unfold eqD;exact @decide_eq_false _ (T' _) λz=>h (D.bl.inj z)
 rw[this];cases a<;>cases b<;>first|rfl|exact absurd rfl h
theorem HL{ps:ZJ}(cv:fg ps)(ag:∀p∈ps,cT 4000 p)(ap:ps.length<=75):nz ps:=⟨ap,λe aD=>by
 obtain⟨h1,aa⟩:=lP aD
 exact mC (ag _ h1).pt (ag _ aa).pt (cv.side aD),λp h=>(ag p h).bp⟩
def ce(x:Int×Int):ab:=crs (cy (x.1*1) (0*x.2) (x.2*1)) (cy (x.1*1) (1*x.2) (x.2*1))
def cz(x:Int×Int):ab:=crs (cy (0*x.2) (x.1*1) (1*x.2)) (cy (1*x.2) (x.1*1) (1*x.2))
theorem lU{x y u v:Int}{m n:Nat}(cE:SC x<=m)(lV:SC y<=m)(nA:SC u<=n)(j2:SC v<=n)(bQ:a3 x y)(bS:a3 u v):cp (m+n) (cy (x*v) (u*y) (y*v)):=
 cp.nP (p:=(x*v,u*y,y*v)) ⟨TE cE j2,by rw[Nat.add_comm];exact TE nA lV,TE lV j2⟩ (S0 (SA bQ.1) (SA bS.1))
def bX(w pt:Int×Int):Int×Int:=dF (w.1*pt.2-pt.1*w.2) (w.2*pt.2)
noncomputable def dU(x:Int×Int)(b:Bool)(sh:ZN):List ba:=if b then dA (ln (ce x)) (a1 (ce x)) sh else dA (λc => -ln (ce x) c) (a1 (ce x)) sh
noncomputable def fX(x:Int×Int)(b:Bool)(sh:ZN):List ba:=if b then dA (ln (cz x)) (a1 (cz x)) sh else dA (λc => -ln (cz x) c) (a1 (cz x)) sh
def spL(s:Int×Int)(hi:Bool):Bool:=(!hi)==decide (0<s.1)
def bt(s w pt:Int×Int)(hi:Bool):Int×Int:=bB s (if hi then bX w pt else pt)
def bw(s w pt:Int×Int)(hi:Bool):Int×Int:=if spL s hi then pt else bX w pt
def stA(s w pt:Int×Int)(hi:Bool):ab:=dh (if spL s hi then(0,1)else(-(bX w pt).1,(bX w pt).2)) (if hi then(-(bt s w pt hi).1,(bt s w pt hi).2)else(0,1))
def stB(s w pt:Int×Int)(hi:Bool):ab:=dh (if spL s hi then(-pt.1,pt.2)else(0,1)) (if hi then(0,1)else(-(bt s w pt hi).1,(bt s w pt hi).2))
def stC(s w pt:Int×Int)(hi:Bool):ab:=dh (if spL s hi then(-pt.1,pt.2)else(0,1)) (if hi then(-(bt s w pt hi).1,(bt s w pt hi).2)else(0,1))
noncomputable def hX(s w pt:Int×Int)(hi:Bool)(sh:ZN):List ba:=(dU (bw s w pt hi) (spL s hi) sh).map (lN (stA s w pt hi))
noncomputable def hl(s w pt:Int×Int)(hi:Bool)(sh:ZN):List ba:=(fX (bt s w pt hi) (!hi) (dU (bw s w pt hi) (!spL s hi) sh)).map (lN (stB s w pt hi))
noncomputable def g4(s w pt:Int×Int)(hi:Bool)(sh:ZN):List ba:=(fX (bt s w pt hi) hi (dU (bw s w pt hi) (!spL s hi) sh)).map (lN (stC s w pt hi))
section
variable{s w pt:Int×Int}
theorem RN{x:Int×Int}(ls:a3 s.1 s.2)(s0:s.1≠0)(c1:SC s.1<=21)(c2:SC s.2<=21)(h7:a3 x.1 x.2)(fe:0<x.1)(b1:SC x.1<=47)(b2:SC x.2<=47):a3 (bB s x).1 (bB s x).2/\0<(bB s x).1/\SC (bB s x).1<=68/\SC (bB s x).2<=68:=by
 have cE:=r9 ls h7 s0 fe;obtain⟨_,_,aM,a4⟩:=jx (t:=(if s.1<0 then -s.1 else s.1)*x.1) (b:=s.2*x.2) (l' ls.1 h7.1)
 have i':SC (if s.1<0 then -s.1 else s.1)<=21:=by
  split
  ·exact TW c1
  exact c1
 exact⟨cE.lh,cE.h0,gd aM (TE i' b1),gd a4 (TE c2 b2)⟩
theorem HM(x:Int×Int)(b:Bool)(sh:ZN):(dU x b sh).length<=sh.length:=by
 unfold dU;cases b
 ·exact sf _
 exact sf _
theorem HN(x:Int×Int)(b:Bool)(sh:ZN):(fX x b sh).length<=sh.length:=by
 unfold fX;cases b
 ·exact sf _
 exact sf _
end
theorem oA{b:Bool}{A B:Prop}(h1:b=true->A)(aa:b=false->B):if b=true then A else B:=by
 cases b with
 |true=>rw[Tk rfl];exact h1 rfl
 |false=>rw[Tl SP];exact aa rfl
theorem j3(φ:ZZ->Int)(ps:ZJ)(rs:Z1):fW φ (ps::rs)=eA φ ps+fW φ rs:=by unfold fW;rw[SH,Tb]
theorem uz(φ:ZZ->Int):∀rs bz:Z1,fW φ (rs++bz)=fW φ rs+fW φ bz
 |[],bz=>by rw[Te];show _=(0:Rat)+_;grind
 |ps::rs,bz=>by rw[To,j3,j3,uz φ rs bz];grind
theorem q4(φ:ZZ->Int)(ps:ZJ):fW φ [ps]=eA φ ps:=by rw[j3];show _+(0:Rat)=_;grind
theorem BV(φ:ZZ->Int)(f:ab->Int)(mt:ab->ab->ab):∀sh:ZN,fW φ ((dA f mt sh).map λs=>s.1)=fW φ (sh.map λs=>c0 f mt s.1)
 |[]=>rfl
 |s::sh=>by
  have b9:=BV φ f mt sh
  have e:dA f mt (s::sh)=dA f mt [s]++dA f mt sh:=by
   unfold dA;rw[<-U3,<-Sz];rfl
  rw[e,Sz,uz,b9,SH,j3];congr 1;cases c:(c0 f mt s.1).isEmpty with
  |true=>
   rw[w4 c,Wj.mp c];rfl
  |false=>
   rw[w3 c];exact q4 φ _
section
variable{l o:ab}{sh:ZN}{bz:ZJ}
theorem pM(h:cP (sh.map λs=>s.1) [bz])(ap:l.1≠0\/l.2.1≠0)(ax:aX o)(lo:ln l o=0)(ao:∀s∈sh,∀p∈s.1,aX p)(ay:∀p∈bz,aX p):
  cP ((dA (ln l) (a1 l) sh).map λs=>s.1) [c0 (ln l) (a1 l) bz]/\cP ((dA (λc => -ln l c) (a1 l) sh).map λs=>s.1) [c0 (λc => -ln l c) (a1 l) bz]:=by
 obtain⟨a,b⟩:=h.keep ap ax lo (λps ag=>by
  obtain⟨s,av,rfl⟩:=SJ.mp ag
  exact ao s av) (λps ag=>by rw[SN.mp ag];exact ay)
 rw[SR]at a b;exact⟨λφ=>by rw[BV];exact a φ,λφ=>by rw[BV];exact b φ⟩
theorem RO{g:ab}(aF:0<g.2.2)(h:cP (sh.map λs=>s.1) [bz])(ao:∀s∈sh,∀p∈s.1,aX p)(ay:∀p∈bz,aX p):cP ((sh.map (lN g)).map λs=>s.1) [bz.map λp=>nP (sld g p)]:=by
 have:=(BR aF).bal h (λps ag=>by
  obtain⟨s,av,rfl⟩:=SJ.mp ag
  exact ao s av) (λps ag=>by rw[SN.mp ag];exact ay)
 rw[SR]at this;rw[SR];exact this
end
theorem RP{s:ba}(av:aX s.2.2):∃A,k4 (λp=>if s.2.1=true then trn (nP (sld (trn s.2.2) p))else nP (sld (trn s.2.2) p)) A:=by
 have a7:=BR (v:=trn s.2.2) av.1;by_cases h:s.2.1=true
 ·refine⟨λl=>ss (slA (trn s.2.2) l),⟨λc l=>by rw[a7.lin,q2.lin],λl ap=>q2.ne _ (a7.ne l ap),λp ag=>by rw[Tk h];exact q2.pt _ (a7.pt p ag),λp q ag ay=>?_⟩⟩;simp only[Tk h];obtain⟨g,c,ft,fl,e⟩:=a7.ln p q ag ay;obtain⟨g',c',RR,RS,bv⟩:=q2.ln _ _ (a7.pt p ag) (a7.pt q ay);refine⟨g*g',c*c',S0 ft RR,S0 fl RS,?_⟩
  have ar:sc g (ss (crs (nP (sld (trn s.2.2) p)) (nP (sld (trn s.2.2) q))))=sc c (ss (slA (trn s.2.2) (crs p q))):=by
   rw[<-q2.lin,e,q2.lin]
  have dQ:∀(a b:Int)(x:ab),sc (a*b) x=sc a (sc b x):=λa b x=>by refine e3 ?_ ?_ ?_<;>simp only[sc]<;>grind
  have RT:∀(a b:Int)(x:ab),sc a (sc b x)=sc b (sc a x):=λa b x=>by refine e3 ?_ ?_ ?_<;>simp only[sc]<;>grind
  rw[dQ,bv,RT,ar,<-dQ,S6 c']
 refine⟨slA (trn s.2.2),⟨a7.lin,a7.ne,λp ag=>by rw[Tl h];exact a7.pt p ag,λp q ag ay=>?_⟩⟩;simp only[Tl h];exact a7.ln p q ag ay
theorem RU{l o:ab}{s:ba}(φ:ZZ->Int)(av:aX s.2.2)(ap:l.1≠0\/l.2.1≠0)(ax:aX o)(lo:ln l o=0)(aL:∀p∈s.1,aX p):eA φ (fT (c0 (ln l) (a1 l) s.1,s.2))+eA φ (fT (c0 (λc => -ln l c) (a1 l) s.1,s.2))=eA φ (fT s):=by
 obtain⟨A,M⟩:=RP av
 have uw:∀p q,aX p->aX q->ln l p*ln l q<0->aX (a1 l p q):=λp q ag ay c=>by
  rw[<-ot ag ay];exact gv (ou ag ay c)
 have kp:∀f:ab->Int,(∀p q,f p*f q<0->ln l p*ln l q<0)->∀p∈c0 f (a1 l) s.1,aX p:=λf bD p ag=>by
  unfold c0 at ag;split at ag
  ·rcases wQ ag with⟨h,_⟩|⟨a,aw,b,ae,c,e⟩
   ·exact aL p h
   rw[e];exact uw a b (aL a aw) (aL b ae) (bD a b c)
  cases ag
 have ai:=M.ring φ (kp (ln l) λp q h=>h);have ar:=M.ring φ (kp (λc => -ln l c) λp q h=>by rwa[Uy]at h);have bb:=M.ring φ aL;rw[pK,pK,pK,ai,ar,bb];exact RE _ ap ax lo aL
theorem RV{g p q:ab}(aF:aX g)(ag:aX p)(ay:aX q):nP (sld (trn (nP (sld g q))) (nP (sld g p)))=nP (sld (trn q) p):=by
 have ki:∀{a b:ab},aX a->aX b->(sld a b).2.2≠0:=λaw ae=>S0 (SA ae.1) (SA aw.1);obtain⟨lW,f7,dv⟩:=kr (ki aF ag);obtain⟨iL,kt,fS⟩:=kr (ki aF ay);obtain⟨nB,h0,BW⟩:=kr (ki ay.trn ag);have dY:aX (nP (sld (trn q) p)):=gv (ki ay.trn ag);obtain⟨ca,cn,fm⟩:(sld g p).1=lW*(nP (sld g p)).1/\(sld g p).2.1=lW*(nP (sld g p)).2.1/\(sld g p).2.2=lW*(nP (sld g p)).2.2:=⟨UF (·.1) dv,UF (·.2.1) dv,UF (·.2.2) dv⟩;obtain⟨b1,b2,b3⟩:(sld g q).1=iL*(nP (sld g q)).1/\(sld g q).2.1=iL*(nP (sld g q)).2.1/\(sld g q).2.2=iL*(nP (sld g q)).2.2:=⟨UF (·.1) fS,UF (·.2.1) fS,UF (·.2.2) fS⟩;obtain⟨h1,aa,aH⟩:(sld (trn q) p).1=nB*(nP (sld (trn q) p)).1/\(sld (trn q) p).2.1=nB*(nP (sld (trn q) p)).2.1/\(sld (trn q) p).2.2=nB*(nP (sld (trn q) p)).2.2:=⟨UF (·.1) BW,UF (·.2.1) BW,UF (·.2.2) BW⟩;generalize nP (sld g p)=a at *;generalize nP (sld g q)=b at *;generalize nP (sld (trn q) p)=h at *;simp only[sld,trn]at ca cn fm b1 b2 b3 h1 aa aH;refine(r6 (M:=sld (trn b) a) (h:=h) (G:=lW*iL) (c:=g.2.2*g.2.2*nB) (S0 f7 kt) (S0 (S0 (SA aF.1) (SA aF.1)) h0) dY ?_).2;refine e3 ?_ ?_ ?_<;>simp only[sc,sld,trn]
 ·have:lW*iL*(a.1*b.2.2 + -b.1*a.2.2)=(lW*a.1)*(iL*b.2.2)-(iL*b.1)*(lW*a.2.2):=by grind
  rw[this,<-ca,<-b3,<-b1,<-fm];have:g.2.2*g.2.2*nB*h.1=g.2.2*g.2.2*(nB*h.1):=by grind
  rw[this,<-h1];grind
 ·have:lW*iL*(a.2.1*b.2.2 + -b.2.1*a.2.2)=(lW*a.2.1)*(iL*b.2.2)-(iL*b.2.1)*(lW*a.2.2):=by grind
  rw[this,<-cn,<-b3,<-b2,<-fm];have:g.2.2*g.2.2*nB*h.2.1=g.2.2*g.2.2*(nB*h.2.1):=by grind
  rw[this,<-aa];grind
 have:lW*iL*(a.2.2*b.2.2)=(lW*a.2.2)*(iL*b.2.2):=by grind
 rw[this,<-fm,<-b3];have:g.2.2*g.2.2*nB*h.2.2=g.2.2*g.2.2*(nB*h.2.2):=by grind
 rw[this,<-aH];grind
theorem RW{g:ab}{s:ba}(aF:aX g)(av:aX s.2.2)(aL:∀p∈s.1,aX p):fT (lN g s)=fT s:=by
 rw[pK,pK];unfold lN;dsimp only;rw[SR];refine Ud λp ag=>?_;show(if s.2.1=true then trn (nP (sld (trn (nP (sld g s.2.2))) (nP (sld g p))))else nP (sld (trn (nP (sld g s.2.2))) (nP (sld g p))))=_
 rw[RV aF (aL p ag) av]
def d0(φ:ZZ->Int)(b:Bool)(L:ZN):Rat:=fW φ ((L.filter λs=>s.2.1==b).map fT)
theorem lX(φ:ZZ->Int)(b:Bool)(L M:ZN):d0 φ b (L++M)=d0 φ b L+d0 φ b M:=by unfold d0;rw[U3,Sz,uz]
theorem HO(φ:ZZ->Int)(b:Bool):d0 φ b []=0:=rfl
theorem xx(φ:ZZ->Int)(b:Bool)(s:ba):d0 φ b [s]=if s.2.1==b then eA φ (fT s)else 0:=by
 unfold d0;by_cases h:(s.2.1==b)=true
 ·rw[Tk h,WU (by exact h)];exact q4 φ _
 rw[Tl h,WV (by exact h)];rfl
theorem BX(φ:ZZ->Int)(b:Bool)(s:ba)(L:ZN):d0 φ b (s::L)=d0 φ b [s]+d0 φ b L:=by rw[<-lX];rfl
theorem xy(φ:ZZ->Int)(b:Bool){g:ab}(aF:aX g):∀{L:ZN},(∀s∈L,aX s.2.2/\∀p∈s.1,aX p)->d0 φ b (L.map (lN g))=d0 φ b L
 |[],_=>rfl
 |s::L,h=>by
  obtain⟨h1,aa⟩:=h s Sw;rw[SH,BX,BX φ b s,xy φ b aF λt aR=>h t (Sy _ aR),xx,xx,RW aF h1 aa];rfl
theorem BY(φ:ZZ->Int)(b:Bool){l o:ab}(ap:l.1≠0\/l.2.1≠0)(ax:aX o)(lo:ln l o=0):∀{L:ZN},(∀s∈L,aX s.2.2/\∀p∈s.1,aX p)->d0 φ b (dA (ln l) (a1 l) L)+d0 φ b (dA (λc => -ln l c) (a1 l) L)=d0 φ b L
 |[],_=>by show d0 φ b []+d0 φ b []=_;rw[HO];grind
 |s::L,h=>by
  obtain⟨h1,aa⟩:=h s Sw;have b9:=BY φ b ap ax lo λt aR=>h t (Sy _ aR);have e:∀f:ab->Int,dA f (a1 l) (s::L)=dA f (a1 l) [s]++dA f (a1 l) L:=λf=>uh (f:=f) [s] L
  have one:∀f:ab->Int,d0 φ b (dA f (a1 l) [s])=if s.2.1==b then eA φ (fT (c0 f (a1 l) s.1,s.2))else 0:=λf=>by
   cases c:(c0 f (a1 l) s.1).isEmpty with
   |true=>
    rw[w4 c,HO,Wj.mp c,pK];split
    ·rfl
    rfl
   |false=>rw[w3 c,xx]
  have fs:=RU φ h1 ap ax lo aa;rw[e,e,lX,lX,one,one,BX,xx,<-b9];by_cases c:(s.2.1==b)=true
  ·rw[Tk c,Tk c,Tk c,<-fs];grind
  rw[Tl c,Tl c,Tl c];grind
theorem pN{x:Int×Int}(l:a3 x.1 x.2):((ce x).1≠0\/(ce x).2.1≠0)/\aX (cy (x.1*1) (0*x.2) (x.2*1))/\ln (ce x) (cy (x.1*1) (0*x.2) (x.2*1))=0:=by
 have cd:x.2*1≠0:=by have:=l.1;lia
 have p1:aX (cy (x.1*1) (0*x.2) (x.2*1)):=gv (p:=(x.1*1,0*x.2,x.2*1)) cd;have p2:aX (cy (x.1*1) (1*x.2) (x.2*1)):=gv (p:=(x.1*1,1*x.2,x.2*1)) cd
 have ne:cy (x.1*1) (0*x.2) (x.2*1)≠cy (x.1*1) (1*x.2) (x.2*1):=λz=>by
  obtain⟨_,ai,ar,_⟩:=lL (a:=x.1*1) (b:=0*x.2) cd;obtain⟨q,aT,bd,_⟩:=lL (a:=x.1*1) (b:=1*x.2) cd;rw[z,bd]at ar;have ih:=q.1;have nC:=l.1;have:1*x.2*(cy (x.1*1) (1*x.2) (x.2*1)).2.2=0:=by rw[ar];simp
  have:=SE (show 0<1*x.2 by lia) ih;lia
 refine⟨mC p1 p2 ne,p1,?_⟩;unfold ce ln crs;grind
theorem pO{x:Int×Int}(l:a3 x.1 x.2):((cz x).1≠0\/(cz x).2.1≠0)/\aX (cy (0*x.2) (x.1*1) (1*x.2))/\ln (cz x) (cy (0*x.2) (x.1*1) (1*x.2))=0:=by
 have cd:1*x.2≠0:=by have:=l.1;lia
 have p1:aX (cy (0*x.2) (x.1*1) (1*x.2)):=gv (p:=(0*x.2,x.1*1,1*x.2)) cd;have p2:aX (cy (1*x.2) (x.1*1) (1*x.2)):=gv (p:=(1*x.2,x.1*1,1*x.2)) cd
 have ne:cy (0*x.2) (x.1*1) (1*x.2)≠cy (1*x.2) (x.1*1) (1*x.2):=λz=>by
  obtain⟨_,ai,ar,_⟩:=lL (a:=0*x.2) (b:=x.1*1) cd;obtain⟨q,aT,bd,_⟩:=lL (a:=1*x.2) (b:=x.1*1) cd;rw[z,aT]at ai;have ih:=q.1;have nC:=l.1;have:1*x.2*(cy (1*x.2) (x.1*1) (1*x.2)).2.2=0:=by rw[ai];simp
  have:=SE (show 0<1*x.2 by lia) ih;lia
 refine⟨mC p1 p2 ne,p1,?_⟩;unfold cz ln crs;grind
theorem RX(φ:ZZ->Int)(b c:Bool){x:Int×Int}(l:a3 x.1 x.2){L:ZN}(h:∀s∈L,aX s.2.2/\∀p∈s.1,aX p):d0 φ b (dU x c L)+d0 φ b (dU x (!c) L)=d0 φ b L:=by
 obtain⟨db,dV,fG⟩:=pN l;have:=BY φ b db dV fG h;cases c with
 |true=>exact this
 |false=>rw[<-this];show d0 φ b (dA _ _ L)+d0 φ b (dA _ _ L)=_;grind
theorem RY(φ:ZZ->Int)(b c:Bool){x:Int×Int}(l:a3 x.1 x.2){L:ZN}(h:∀s∈L,aX s.2.2/\∀p∈s.1,aX p):d0 φ b (fX x c L)+d0 φ b (fX x (!c) L)=d0 φ b L:=by
 obtain⟨db,dV,fG⟩:=pO l;have:=BY φ b db dV fG h;cases c with
 |true=>exact this
 |false=>rw[<-this];show d0 φ b (dA _ _ L)+d0 φ b (dA _ _ L)=_;grind
theorem q5(a:Rat):(0:Rat)/a=0:=by grind
theorem HP(d:Rat):d<0\/d=0\/0<d:=by grind
def cK(p:ab)(x y:Rat):Prop:=aX p/\kB p=x/\kC p=y
theorem BZ{a b c d:Int}(ae:0<b)(hd:0<d)(h:(a:Rat)/b=(c:Rat)/d):a*d=c*b:=by
 have kt:=fh ae;have i6:=fh hd;have:(a:Rat)*d=c*b:=by grind
 exact_mod_cast this
theorem cK.eq{p q:ab}{x y:Rat}(h:cK p x y)(g:cK q x y):p=q:=by
 obtain⟨ag,h1,aa⟩:=h;obtain⟨pP,aE,aI⟩:=g;obtain⟨ai,ar,bb⟩:=vV ag pP (BZ ag.1 pP.1 (h1.trans aE.symm)) (BZ ag.1 pP.1 (aa.trans aI.symm));exact e3 ai ar bb
theorem cK.to{p:ab}{x y hA fL:Rat}(h:cK p x y)(ai:x=hA)(ar:y=fL):cK p hA fL:=by subst ai ar;exact h
def bu(r:Int×Int):Rat:=(r.1:Rat)/r.2
theorem su{a b n:Int}(aO:0<n):cK (cy a b n) ((a:Rat)/n) ((b:Rat)/n):=by
 obtain⟨p,ai,ar,_⟩:=lL (a:=a) (b:=b) (SA aO);have cd:=fh aO;have p0:=fh p.1;have aT:(((cy a b n).1:Int):Rat)*n=a*((cy a b n).2.2:Int):=by exact_mod_cast ai
 have bd:(((cy a b n).2.1:Int):Rat)*n=b*((cy a b n).2.2:Int):=by exact_mod_cast ar
 refine⟨p,?_,?_⟩
 ·unfold kB;grind
 unfold kC;grind
theorem uA{w h:Int×Int}(lw:0<w.2)(lh:0<h.2):cK (dh w h) (bu w) (bu h):=by
 have w0:=fh lw;have h0:=fh lh;refine(su (SE lw lh)).to ?_ ?_<;>(unfold bu;push_cast;grind)
theorem uB{w:Int×Int}(l:a3 w.1 w.2):cK (w.1,0,w.2) (bu w) 0:=⟨wE l,rfl,by unfold kC;show((0:Int):Rat)/_=0;exact q5 _⟩
theorem uC{w:Int×Int}(l:a3 w.1 w.2):cK (0,w.1,w.2) 0 (bu w):=⟨wF l,by unfold kB;show((0:Int):Rat)/_=0;exact q5 _,rfl⟩
theorem xz:cK (0,0,1) 0 0:=⟨⟨by decide,by decide⟩,by unfold kB;exact q5 _,by unfold kC;exact q5 _⟩
theorem eo{g p:ab}{a b x y:Rat}(aF:cK g a b)(ag:cK p x y):cK (nP (sld g p)) (x+a) (y+b):=by
 obtain⟨aE,aI,g3⟩:=aF;obtain⟨p1,p2,ow⟩:=ag;have gz:=fh aE.1;have nD:=fh p1.1;refine(su (a:=(sld g p).1) (b:=(sld g p).2.1) (n:=(sld g p).2.2) (SE p1.1 aE.1)).to ?_ ?_
 ·rw[<-aI,<-p2];unfold kB sld;dsimp only;push_cast;grind
 rw[<-g3,<-ow];unfold kC sld;dsimp only;push_cast;grind
theorem HQ{p q r:ab}{x1 dy hK fa j0 pG:Rat}(ag:cK p x1 dy)(ay:cK q hK fa)(ao:cK r j0 pG):∃k:Rat,0<k/\((be p q r:Int):Rat)=k*((hK-x1)*(pG-dy)-(fa-dy)*(j0-x1)):=by
 obtain⟨p1,p2,ow⟩:=ag;obtain⟨aM,a4,dx⟩:=ay;obtain⟨aq,aN,d2⟩:=ao;have nD:=fh p1.1;have agI:=fh aM.1;have jn:=fh aq.1;refine⟨((p.2.2*q.2.2*r.2.2:Int):Rat),?_,?_⟩
 ·have:=SE (SE p1.1 aM.1) aq.1;exact_mod_cast this
 rw[<-p2,<-ow,<-a4,<-dx,<-aN,<-d2];unfold be crs kB kC;dsimp only;push_cast;grind
section
variable{X:Int×Int}{c:ab}{x y:Rat}
theorem uD(l:a3 X.1 X.2)(hc:cK c x y):∃k:Rat,0<k/\((ln (ce X) c:Int):Rat)=k*(bu X-x):=by
 have fe:=fh l.1;have a:cK (cy (X.1*1) (0*X.2) (X.2*1)) (bu X) 0:=(su (by have:=l.1;lia)).to (by unfold bu;simp) (by simp;exact q5 _);have b:cK (cy (X.1*1) (1*X.2) (X.2*1)) (bu X) 1:=(su (by have:=l.1;lia)).to (by unfold bu;simp) (by simp;grind);obtain⟨k,dS,e⟩:=HQ a b hc;exact⟨k,dS,by show((be _ _ c:Int):Rat)=_;rw[e];grind⟩
theorem sv(l:a3 X.1 X.2)(hc:cK c x y):∃k:Rat,0<k/\((ln (cz X) c:Int):Rat)=k*(y-bu X):=by
 have fe:=fh l.1;have a:cK (cy (0*X.2) (X.1*1) (1*X.2)) 0 (bu X):=(su (by have:=l.1;lia)).to (by simp;exact q5 _) (by unfold bu;simp);have b:cK (cy (1*X.2) (X.1*1) (1*X.2)) 1 (bu X):=(su (by have:=l.1;lia)).to (by simp;grind) (by unfold bu;simp);obtain⟨k,dS,e⟩:=HQ a b hc;exact⟨k,dS,by show((be _ _ c:Int):Rat)=_;rw[e];grind⟩
end
theorem q6{n:Int}{k d:Rat}(dS:0<k)(e:(n:Rat)=k*d)(h:0<d):0<n:=by
 have:(0:Rat)<n:=by rw[e];exact UR dS h
 exact_mod_cast this
theorem sw{n:Int}{k d:Rat}(dS:0<k)(e:(n:Rat)=k*d)(h:d<0):n<0:=by
 have:0 < -n:=q6 dS (d :=-d) (by push_cast;rw[e];grind) (by grind);lia
theorem B0{n:Int}{k d:Rat}(e:(n:Rat)=k*d)(h:d=0):n=0:=by
 rw[h]at e;have:(n:Rat)=0:=by rw[e];grind
 exact_mod_cast this
section
variable{X:Int×Int}{c p q:ab}{x y x1 dy hK fa:Rat}
theorem sx(l:a3 X.1 X.2)(hc:cK c x y)(h:x<bu X):0<ln (ce X) c:=by
 obtain⟨k,dS,e⟩:=uD l hc;exact q6 dS e (by grind)
theorem sy(l:a3 X.1 X.2)(hc:cK c x y)(h:bu X<x):ln (ce X) c<0:=by
 obtain⟨k,dS,e⟩:=uD l hc;exact sw dS e (by grind)
theorem sA(l:a3 X.1 X.2)(hc:cK c x y)(h:bu X<y):0<ln (cz X) c:=by
 obtain⟨k,dS,e⟩:=sv l hc;exact q6 dS e (by grind)
theorem sB(l:a3 X.1 X.2)(hc:cK c x y)(h:y<bu X):ln (cz X) c<0:=by
 obtain⟨k,dS,e⟩:=sv l hc;exact sw dS e (by grind)
theorem xA(l:a3 X.1 X.2)(hc:cK c x y)(h:y=bu X):ln (cz X) c=0:=by
 obtain⟨k,dS,e⟩:=sv l hc;exact B0 e (by grind)
theorem pQ(l:a3 X.1 X.2)(ag:cK p x1 dy)(ay:cK q hK fa)(h:ln (ce X) p*ln (ce X) q<0)(aP:(y-dy)*(hK-x1)=(bu X-x1)*(fa-dy)):cK (a1 (ce X) p q) (bu X) y:=by
 have pm:aX (a1 (ce X) p q):=by rw[<-ot ag.1 ay.1];exact gv (ou ag.1 ay.1 h)
 obtain⟨a,b,sC,ex,gc⟩:=GQ (sb h) ag.1.1 ay.1.1 pm.1;have uE:cK (a1 (ce X) p q) (kB (a1 (ce X) p q)) (kC (a1 (ce X) p q)):=⟨pm,rfl,rfl⟩;obtain⟨k,dS,e⟩:=uD l uE;rw[ug h]at e
 have xe:kB (a1 (ce X) p q)=bu X:=by
  have ci:k≠0:=by intro z;rw[z]at dS;exact absurd dS (by decide)
  have:k*(bu X-kB (a1 (ce X) p q))=0:=by rw[<-e];rfl
  grind
 have ne:hK-x1≠0:=λz=>by
  obtain⟨cu,uF,ar⟩:=uD l ag;obtain⟨gt,uG,bb⟩:=uD l ay;have B1:hK=x1:=by grind
  rw[B1]at bb;rcases HP (bu X-x1)with d|d|d
  ·have ca:=sw uF ar d;have cn:=sw uG bb d;have:=Uw ca cn;lia
  ·have ca:=B0 ar d;rw[ca,TZ]at h;lia
  have ca:=q6 uF ar d;have cn:=q6 uG bb d;have:=SE ca cn;lia
 refine uE.to xe ?_;rw[gc,ag.2.2,ay.2.2];rw[ex,ag.2.1,ay.2.1]at xe;have dv:a=1-b:=by grind
 subst dv;grind
theorem xB(l:a3 X.1 X.2)(ag:cK p x1 dy)(ay:cK q hK fa)(h:ln (cz X) p*ln (cz X) q<0)(al:(x-x1)*(fa-dy)=(bu X-dy)*(hK-x1)):cK (a1 (cz X) p q) x (bu X):=by
 have pm:aX (a1 (cz X) p q):=by rw[<-ot ag.1 ay.1];exact gv (ou ag.1 ay.1 h)
 obtain⟨a,b,sC,ex,gc⟩:=GQ (sb h) ag.1.1 ay.1.1 pm.1;have uE:cK (a1 (cz X) p q) (kB (a1 (cz X) p q)) (kC (a1 (cz X) p q)):=⟨pm,rfl,rfl⟩;obtain⟨k,dS,e⟩:=sv l uE;rw[ug h]at e
 have HR:kC (a1 (cz X) p q)=bu X:=by
  have ci:k≠0:=by intro z;rw[z]at dS;exact absurd dS (by decide)
  have:k*(kC (a1 (cz X) p q)-bu X)=0:=by rw[<-e];rfl
  grind
 have ne:fa-dy≠0:=λz=>by
  obtain⟨cu,uF,ar⟩:=sv l ag;obtain⟨gt,uG,bb⟩:=sv l ay;have B1:fa=dy:=by grind
  rw[B1]at bb;rcases HP (dy-bu X)with d|d|d
  ·have ca:=sw uF ar d;have cn:=sw uG bb d;have:=Uw ca cn;lia
  ·have ca:=B0 ar d;rw[ca,TZ]at h;lia
  have ca:=q6 uF ar d;have cn:=q6 uG bb d;have:=SE ca cn;lia
 refine uE.to ?_ HR;rw[ex,ag.2.1,ay.2.1];rw[gc,ag.2.2,ay.2.2]at HR;have dv:a=1-b:=by grind
 subst dv;grind
end
end Cut
namespace Cut
open PySem L2 L3
section
variable{f:ab->Int}{mt:ab->ab->ab}{a b c d:ab}
theorem xC:dz f mt [a,b,c]=kp f a++cB f mt a b++(kp f b++cB f mt b c++(kp f c++cB f mt c a++[])):=rfl
theorem pR:dz f mt [a,b,c,d]=kp f a++cB f mt a b++(kp f b++cB f mt b c++(kp f c++cB f mt c d++(kp f d++cB f mt d a++[]))):=rfl
theorem gw(h:0<=f a):kp f a=[a]:=by unfold kp;rw[Tk h]
theorem iM(h:f a<0):kp f a=[]:=by unfold kp;rw[Tl (by lia)]
theorem jD(h:(0<f a/\f b<0)\/(f a<0/\0<f b)):cB f mt a b=[mt a b]:=by
 unfold cB;rcases h with⟨h1,aa⟩|⟨h1,aa⟩
 ·rw[Tk (S1 h1 aa)]
 rw[Tk (T4 h1 aa)]
theorem f8(h:(0<=f a/\0<=f b)\/(f a<=0/\f b<=0)):cB f mt a b=[]:=by
 unfold cB;rcases h with⟨h1,aa⟩|⟨h1,aa⟩
 ·rw[Tl (by have:=Tu h1 aa;lia)]
 rw[Tl (by have:=Vl h1 aa;lia)]
theorem lY{ps:ZJ}(p:ab)(ag:p∈ps)(h:0<f p):c0 f mt ps=dz f mt ps:=w7 ⟨p,ag,h⟩
theorem HS(aw:0<f a)(ae:f b<0)(hc:f c<0):c0 f mt [a,b,c]=[a,mt a b,mt c a]:=by
 rw[lY a (by simp) aw,xC,gw (by lia),jD (.inl ⟨aw,ae⟩),iM ae,f8 (.inr ⟨by lia,by lia⟩),iM hc,jD (.inr ⟨hc,aw⟩)];rfl
theorem HU(aw:f a<0)(ae:0<f b)(hc:0<f c):c0 f mt [a,b,c]=[mt a b,b,c,mt c a]:=by
 rw[lY b (by simp) ae,xC,iM aw,jD (.inr ⟨aw,ae⟩),gw (by lia),f8 (.inl ⟨by lia,by lia⟩),gw (by lia),jD (.inl ⟨hc,aw⟩)];rfl
theorem HV(aw:f a<0)(ae:0<f b)(hc:f c<0):c0 f mt [a,b,c]=[mt a b,b,mt b c]:=by
 rw[lY b (by simp) ae,xC,iM aw,jD (.inr ⟨aw,ae⟩),gw (by lia),jD (.inl ⟨ae,hc⟩),iM hc,f8 (.inr ⟨by lia,by lia⟩)];rfl
theorem HW(aw:0<f a)(ae:f b<0)(hc:0<f c):c0 f mt [a,b,c]=[a,mt a b,mt b c,c]:=by
 rw[lY a (by simp) aw,xC,gw (by lia),jD (.inl ⟨aw,ae⟩),iM ae,jD (.inr ⟨ae,hc⟩),gw (by lia),f8 (.inl ⟨by lia,by lia⟩)];rfl
theorem RZ(aw:f a<0)(ae:f b<0)(hc:0<f c)(hd:f d=0):c0 f mt [a,b,c,d]=[mt b c,c,d]:=by
 rw[lY c (by simp) hc,pR,iM aw,f8 (.inr ⟨by lia,by lia⟩),iM ae,jD (.inr ⟨ae,hc⟩),gw (by lia),f8 (.inl ⟨by lia,by lia⟩),gw (by lia),f8 (.inr ⟨by lia,by lia⟩)];rfl
theorem R1(aw:0<f a)(ae:0<f b)(hc:f c<0)(hd:f d=0):c0 f mt [a,b,c,d]=[a,b,mt b c,d]:=by
 rw[lY a (by simp) aw,pR,gw (by lia),f8 (.inl ⟨by lia,by lia⟩),gw (by lia),jD (.inl ⟨ae,hc⟩),iM hc,f8 (.inr ⟨by lia,by lia⟩),gw (by lia),f8 (.inl ⟨by lia,by lia⟩)];rfl
theorem R2(aw:0<f a)(ae:f b=0)(hc:f c<0)(hd:f d<0):c0 f mt [a,b,c,d]=[a,b,mt d a]:=by
 rw[lY a (by simp) aw,pR,gw (by lia),f8 (.inl ⟨by lia,by lia⟩),gw (by lia),f8 (.inr ⟨by lia,by lia⟩),iM hc,f8 (.inr ⟨by lia,by lia⟩),iM hd,jD (.inr ⟨hd,aw⟩)];rfl
theorem R3(aw:f a<0)(ae:f b=0)(hc:0<f c)(hd:0<f d):c0 f mt [a,b,c,d]=[b,c,d,mt d a]:=by
 rw[lY c (by simp) hc,pR,iM aw,f8 (.inr ⟨by lia,by lia⟩),gw (by lia),f8 (.inl ⟨by lia,by lia⟩),gw (by lia),f8 (.inl ⟨by lia,by lia⟩),gw (by lia),jD (.inl ⟨hd,aw⟩)];rfl
theorem R4(aw:f a<0)(ae:f b<0)(hc:f c=0)(hd:0<f d):c0 f mt [a,b,c,d]=[c,d,mt d a]:=by
 rw[lY d (by simp) hd,pR,iM aw,f8 (.inr ⟨by lia,by lia⟩),iM ae,f8 (.inr ⟨by lia,by lia⟩),gw (by lia),f8 (.inl ⟨by lia,by lia⟩),gw (by lia),jD (.inl ⟨hd,aw⟩)];rfl
theorem R5(aw:0<f a)(ae:0<f b)(hc:f c=0)(hd:f d<0):c0 f mt [a,b,c,d]=[a,b,c,mt d a]:=by
 rw[lY a (by simp) aw,pR,gw (by lia),f8 (.inl ⟨by lia,by lia⟩),gw (by lia),f8 (.inl ⟨by lia,by lia⟩),gw (by lia),f8 (.inr ⟨by lia,by lia⟩),iM hd,jD (.inr ⟨hd,aw⟩)];rfl
theorem R6(aw:f a=0)(ae:0<f b)(hc:f c<0)(hd:f d<0):c0 f mt [a,b,c,d]=[a,b,mt b c]:=by
 rw[lY b (by simp) ae,pR,gw (by lia),f8 (.inl ⟨by lia,by lia⟩),gw (by lia),jD (.inl ⟨ae,hc⟩),iM hc,f8 (.inr ⟨by lia,by lia⟩),iM hd,f8 (.inr ⟨by lia,by lia⟩)];rfl
theorem R7(aw:f a=0)(ae:f b<0)(hc:0<f c)(hd:0<f d):c0 f mt [a,b,c,d]=[a,mt b c,c,d]:=by
 rw[lY c (by simp) hc,pR,gw (by lia),f8 (.inr ⟨by lia,by lia⟩),iM ae,jD (.inr ⟨ae,hc⟩),gw (by lia),f8 (.inl ⟨by lia,by lia⟩),gw (by lia),f8 (.inl ⟨by lia,by lia⟩)];rfl
end
theorem uH{t b:Int}(ae:0<b):bu (dF t b)=(t:Rat)/b:=by
 obtain⟨l,e,_,_⟩:=jx (t:=t) (b:=b) (SA ae);have kt:=fh ae;have nC:=fh l.1;have f:(((dF t b).1:Int):Rat)*b=t*((dF t b).2:Int):=by exact_mod_cast e
 unfold bu;grind
theorem R8(a b:Int):bu (-a,b) = -bu (a,b):=by unfold bu;push_cast;grind
theorem mD{r:Int×Int}(h:0<r.1)(aa:0<r.2):0<bu r:=by
 have a:(0:Rat)<r.1:=by exact_mod_cast h
 have b:(0:Rat)<r.2:=by exact_mod_cast aa
 unfold bu;rw[Rat.div_def];exact UR a (Rat.inv_pos.mpr b)
section
variable{g:ab}{L:ZN}{ring:ZJ}
theorem nE{HX:ZJ}(aF:aX g)(h:cP (L.map λs=>s.1) [ring])(ao:∀s∈L,∀p∈s.1,aX p)(ay:∀p∈ring,aX p)(e:ring.map (λp=>nP (sld g p))=HX):cP ((L.map (lN g)).map λs=>s.1) [HX]:=by
 rw[<-e];exact RO aF.1 h ao ay
theorem B2{a:ab}{r:ZJ}(aF:aX g)(h:cP (L.map λs=>s.1) [ring])(ao:∀s∈L,∀p∈s.1,aX p)(ay:∀p∈ring,aX p)(e:ring.map (λp=>nP (sld g p))=r++[a]):cP ((L.map (lN g)).map λs=>s.1) [a::r]:=λφ=>by
 have:=nE aF h ao ay e φ;rw[this,q4,q4,Hy]
end
theorem pS{a b c gK hx c':ab}(h1:a=gK)(aa:b=hx)(aH:c=c'):[a,b,c]=[gK,hx,c']:=by rw[h1,aa,aH]
theorem xD{a b c d gK hx c' d':ab}(h1:a=gK)(aa:b=hx)(aH:c=c')(a6:d=d'):[a,b,c,d]=[gK,hx,c',d']:=by rw[h1,aa,aH,a6]
theorem lZ{a b c:ab}{P:ab->Prop}(h1:P a)(aa:P b)(aH:P c):∀p∈[a,b,c],P p:=by simp;exact⟨h1,aa,aH⟩
theorem pT{a b c d:ab}{P:ab->Prop}(h1:P a)(aa:P b)(aH:P c)(a6:P d):∀p∈[a,b,c,d],P p:=by simp;exact⟨h1,aa,aH,a6⟩
end Cut
namespace L2
open PySem PySem.Spec PyProof.Rows PySem.W
variable{X:aU}
theorem R9:n1 X (.builtin "sorted") (λxs H Q=>∃(p:TI)(ns:ZI),xs=[.ref p]/\H p=some (.lst (ns.map V.int))/\ns.length<64/\∀kE:ZI,kE.Perm ns->kE.Pairwise (· <= ·)->∀l,H l=none->Q (.ref l) (upd H l (.lst (kE.map V.int)))):=by
 intro aj s σ H xs us Q I r h;obtain⟨p,ns,rfl,ag,aO,q⟩:=h;obtain⟨u,rfl,bn⟩:=vals1 r;cases bn;obtain⟨its,b6,cr,hz⟩:=I.list (cN.of ag);have eE:=b6.length;rw[Sv]at eE;refine sorted_ints cr.isList (intsAre_of b6) (by lia) λout kE ca cn fm=>?_;obtain⟨e,aD⟩:=sortedAll_at s.heap its out;have ap:=cn.length_eq;exact⟨.ref (s.heap.objs.size+1),_,I.laid (t':=s.toks) (λ_ _=>sortedAll_old) (TV _) (show gl X.prog X.w _ _ _ (.lst (kE.map V.int))from⟨by rw[Sv,XN];lia,out.toList,e,zT ca,aD⟩),rfl,q kE cn fm _ (I.hok.fresh (TV _))⟩
end L2
namespace L3
open PySem L2
variable{X:aU}{e:WP}{u:bg}{p pos:Pos}
def R'(u:bg):df:=λρ k=>u ρ λx=>∃ns:ZI,x=.lst (ns.map D.int)/\ns.length<64/\∀kE:ZI,kE.Perm ns->kE.Pairwise (· <= ·)->k (kE.map D.int)
theorem Sa(aw:br X e u)(aF:eD X "sorted")(aA:X.mg "sorted"=none)(av:eQ X e []:=by rfl):kM X (.Call (.Name "sorted" p) [e] [] pos) (R' u):=by
 obtain⟨_,h1,aq⟩:=aw;refine⟨_,qg R9 aF aA (by decide +kernel) (d5 h1 fj av) (by decide) (by decide) av rfl,λρ k h R W B H σ Q e q=>?_⟩;refine aq ρ _ h R W B H σ _ e λd v aY au aG ai aE aC=>?_;obtain⟨ns,rfl,aO,z⟩:=aG;obtain⟨a,vs,rfl,aw,rs⟩:=aC.lstV;have ev:=Ag rs;subst ev;refine⟨a,ns,rfl,ai.bh _ _ aw,aO,λkE p1 p2 p ag=>?_⟩;obtain⟨aT,bd,bA,c7,d1⟩:=ai.newO ag (Reps.ints kE);exact q _ p _ aY _ (z kE p1 p2) aT aE bd bA c7 (Reps.ints kE) d1
end L3
namespace L2
open PySem PySem.Spec PyProof.Rows PySem.W
variable{X:aU}
def Sb:V->ZL->am->cq->Prop:=λx vs H Q=>∃l b xs dM,x=.ref l/\vs=[.ref b]/\H l=some (.lst xs)/\H b=some (.tup dM)/\xs.length+dM.length<=TT/\Q .non (upd H l (.lst (xs++dM)))
theorem Sc:te X "list.extend" Sb:=by
 intro aj s σ H x vs v us Q I bn b6 h;obtain⟨l,b,xs,dM,rfl,rfl,fK,hb,hz,q⟩:=h;cases bn;obtain⟨u,rfl,hs⟩:=b6.one;cases hs;obtain⟨z,its,n,r,ap,e⟩:=I.lstM fK;obtain⟨a8,g0,aN,ar⟩:=I.hok b _ hb;have vO:=aN.length;obtain⟨kA,uI,B3,cO,hd2⟩:=ar;have kf:its.toArray.size+g0.toArray.size<=TT:=by rw[SS,SS];lia
 have zP:¬(!its.toArray.isEmpty&&Builtin.List.listTooLong (its.toArray.size+g0.toArray.size))=true:=by
  rw[EA kf,Bool.and_false];exact SP
 refine XC F.slot_list_extend ⟨_,e,rfl⟩ F.entry_list_extend ?_ (F.args_list_extend_2 _ _);show wpAny _ _ (Builtin.List.listExtendWith (.ref l) (.ref b) .none) _ _ s
 unfold Builtin.List.listExtendWith;refine SB (wpAny_typeOf (T:="tuple") ⟨kA,uI,B3⟩ ?_);rw[Tk (by rw[show(Value.type "tuple"==Value.type "tuple")=true from rfl];simp)];refine SB (YW uI hd2 ?_);refine SB (YW e rfl ?_);rw[Tl zP];refine SB (Zh e rfl ?_ (by rw[SS];lia) (by rw[Array.size_append];lia));refine SL ⟨_,rfl,?_⟩;refine⟨.non,_,I.lset (t':=s.toks) (its':=its++g0) fK e (by simp) (r.append aN) ?_,rfl,q⟩;rw[Sx];lia
end L2
namespace L3
open PySem L2
section
variable{K:Su}{B:am}
theorem Reps.eraseIdx:∀{vs:ZL}{ds:ZK}(i:Nat),Reps K B vs ds->Reps K B (vs.eraseIdx i) (ds.eraseIdx i)
 |_,_,_,.nil=>.nil
 |_,_,0,.cons _ t=>t
 |_,_,i+1,.cons r t=>.cons r (Reps.eraseIdx i t)
end
variable{X:aU}{e:WP}{u:bg}{F:ck}{pos:Pos}
def Sd(i j:Nat)(F:ck)(u:bg):cQ:=λU ρ=>∃ds:ZK,ρ[i]?=some (.own ds)/\ρ[j]?=some .bag/\u ρ λd=>∃(n:Nat)(z:D),d=.int n/\n<1000/\ds[n]?=some z/\F [.bag,.val z] λr=>∃es,r=.val (.tup es)/\ds.length+es.length<=TT/\U.nx (ρ.set i (.own (ds.eraseIdx n++es)))
theorem Se(i j:Nat){f x y:Str}{ps:ZT}{r4 lv:Nat}{px mE er oB dd cb j4 il sD:Pos}(c:cj X.prog X.w X.K X.mg X.base f ps r4 (cm X.K 2 F))(ao:eF lv X.A)(aF:eD X f)(aD:br X e u)(gC:r4<=lv:=by decide)(bF:gG X i x:=by rfl)(aL:gy X.env.scope x:=by walk_at"v")(hd:ed x:=by decide)(dI:gV x:=by decide)(Sf:gG X j y:=by rfl)(t4:gy X.env.scope y:=by walk_at"v")(hd2:ed y:=by decide)(Sg:gV y:=by decide)(gA:ed f:=by decide)(fy:iv X (.Name x px) "extend":=by rfl)(B4:iv X (.Name x mE) "pop":=by rfl)(hv:kI X cb [.Call (.Name f oB) [.Name y er,.Call (.Attribute (.Name x mE) "pop" j4) [e] [] il] [] sD]:=by rfl)(B5:kI X il [e]:=by rfl)(fA:iw dd cb:=by rfl)(B6:iw j4 il:=by rfl)(av:UV [.Call (.Name f oB) [.Name y er,.Call (.Attribute (.Name x mE) "pop" j4) [e] [] il] [] sD] X.env=(false,Yl (.Call (.Name f oB) [.Name y er,.Call (.Attribute (.Name x mE) "pop" j4) [e] [] il] [] sD) X.env)::UV [] X.env:=by rfl)(nu:UV [.Name y er,.Call (.Attribute (.Name x mE) "pop" j4) [e] [] il] X.env=(false,Yl (.Name y er) X.env)::UV [.Call (.Attribute (.Name x mE) "pop" j4) [e] [] il] X.env:=by rfl)(lu:UV [.Call (.Attribute (.Name x mE) "pop" j4) [e] [] il] X.env=(false,Yl (.Call (.Attribute (.Name x mE) "pop" j4) [e] [] il) X.env)::UV [] X.env:=by rfl)(qD:eQ X e []:=by rfl)(kJ:g8 X cb []:=by rfl)(B7:g8 X il []:=by rfl)(eh:(X8 sD (UV [.Call (.Attribute (.Name x mE) "pop" j4) [e] [] il] X.env)).any (·.1)=false:=by rfl)(iZ:XA (.Call (.Attribute (.Name x px) "extend" dd) [.Call (.Name f oB) [.Name y er,.Call (.Attribute (.Name x mE) "pop" j4) [e] [] il] [] sD] [] cb) none pos.line X.env=pure false:=by rfl):
  fk X (.Expr (.Call (.Attribute (.Name x px) "extend" dd) [.Call (.Name f oB) [.Name y er,.Call (.Attribute (.Name x mE) "pop" j4) [e] [] il] [] sD] [] cb) pos) (Sd i j F u):=by
 obtain⟨_,h1,aq⟩:=aD;refine⟨_,rE (qj T9 WJ WK Sc (g9 bF aL hd dI) (d5 (o2 c ao aF (d5 (g9 Sf t4 hd2 Sg) (d5 (qj T9 Vp Vq ED (g9 bF aL hd dI) (d5 h1 fj qD) B4 B5 B6 qD B7) fj lu) nu) gC gA nu eh) fj av) fy hv fA av kJ) iZ,λU ρ h R W B H σ D e s=>?_⟩;obtain⟨ds,ax,ae,h⟩:=h;obtain⟨a,vs,ai,ar,bb,b0,d6⟩:=e.ownAt ax;obtain⟨b,b1,b2⟩:=e.bagAt ae;refine⟨_,ai,.inl ⟨rfl,vs,cN.of b0⟩,?_⟩;refine⟨_,b1,?_⟩;refine⟨_,ai,.inl ⟨rfl,vs,cN.of b0⟩,?_⟩;refine aq ρ _ h R W B H σ _ e λd v aY au aG aT aE aC=>?_;obtain⟨n,z,rfl,aO,hz,f4⟩:=aG;obtain⟨gK,hg,ci,cu,gt,gg,jr⟩:=aT.ownAt ax;rw[ai]at ci;cases ci;obtain⟨w,hw,l6⟩:=jr.get hz
 have de:n<hg.length:=by
  rcases U4 n hg.length with q|q
  ·exact q
  rw[S' q]at hw;cases hw
 cases aC;refine⟨a,hg,n,n,w,rfl,rfl,gg,by lia,by lia,?_,hw,?_⟩
 ·rw[YG (by lia) (by lia)];rfl
 have bd:=aT.write ai ax (jr.eraseIdx n);have k5:i≠j:=λq=>by rw[q,ae]at ax;cases ax
 have hi:i<ρ.length:=by
  rcases U4 i ρ.length with q|q
  ·exact q
  rw[S' q]at ax;cases ax
 have Sh:(ρ.set i (.own (ds.eraseIdx n)))[j]?=some .bag:=by rw[TF k5];exact ae
 refine rW (E:=vQ) (as:=[.bag j,.val z]) bd (.bag b1 Sh (.val l6 .nil)) rfl f4 λr v bG aS ah bA g3 res=>?_;obtain⟨es,rfl,ap,q7⟩:=ah;obtain⟨p,fZ,rfl,ag,ny⟩:=bU.tupV res;have uI:(ρ.set i (.own (ds.eraseIdx n)))[i]?=some (.own (ds.eraseIdx n)):=TK hi;obtain⟨gK,g5,HY,agJ,agK,Si,HZ⟩:=bA.ownAt uI;rw[ai]at HY;cases HY;have c7:=bA.write ai uI (HZ.append ny);rw[TY]at c7;refine⟨a,p,g5,fZ,rfl,rfl,Si,bA.bh _ _ ag,?_,s.nx _ _ bG _ q7 c7 (aE.trans g3)⟩;rw[HZ.length,ny.length];have:=zO ds n;lia
end L3
namespace Cut
open PySem L2 L3
open PySem.Builtin.Int (intBits)
theorem H0{p q:ab}{t:Int}(ag:0<p.2.2)(ay:0<q.2.2)(dg:1<=t)(cU:t<=2):hj p q (j1 p q t):=by
 have cd:0<p.2.2*q.2.2*3:=SE (SE ag ay) (by decide);obtain⟨g,ft,aF⟩:=kr (p:=(p.1*q.2.2*(3-t)+q.1*p.2.2*t,p.2.1*q.2.2*(3-t)+q.2.1*p.2.2*t,p.2.2*q.2.2*3)) (SA cd);have pt:=(gv (p:=(p.1*q.2.2*(3-t)+q.1*p.2.2*t,p.2.1*q.2.2*(3-t)+q.2.1*p.2.2*t,p.2.2*q.2.2*3)) (SA cd)).1;have bb:p.2.2*q.2.2*3=g*(j1 p q t).2.2:=UF (·.2.2) aF
 have gp:0<g:=by
  rcases Int.lt_or_le 0 g with h|h
  ·exact h
  have:g*(j1 p q t).2.2<=0:=Int.mul_nonpos_of_nonpos_of_nonneg h (Tg pt);lia
 refine⟨g,q.2.2*(3-t),p.2.2*t,gp,SE ay (by lia),SE ag (by lia),?_⟩;show sc g (j1 p q t)=_
 rw[show sc g (j1 p q t)=_ from aF.symm];refine e3 ?_ ?_ ?_<;>simp only[hh]<;>grind
theorem H1{m:Nat}{p q:ab}{t:Int}(ag:cT m p)(ay:cT m q)(dg:1<=t)(cU:t<=2):cT (2*m+3) (j1 p q t):=by
 have cd:0<p.2.2*q.2.2*3:=SE (SE ag.pt.1 ay.pt.1) (by decide);have b1:SC (3-t)<=2:=intBits_le_iff.mpr (by have e:(2:Nat)^2=4:=rfl;rw[e];lia);have b2:SC t<=2:=intBits_le_iff.mpr (by have e:(2:Nat)^2=4:=rfl;rw[e];lia);refine⟨gv (p:=(p.1*q.2.2*(3-t)+q.1*p.2.2*t,p.2.1*q.2.2*(3-t)+q.2.1*p.2.2*t,p.2.2*q.2.2*3)) (SA cd),cp.nP (p:=(p.1*q.2.2*(3-t)+q.1*p.2.2*t,p.2.1*q.2.2*(3-t)+q.2.1*p.2.2*t,p.2.2*q.2.2*3)) ⟨?_,?_,?_⟩ (SA cd)⟩
 ·exact SD (XI (TE (TE ag.bp.a ay.bp.c) b1) (TE (TE ay.bp.a ag.bp.c) b2)) (by lia)
 ·exact SD (XI (TE (TE ag.bp.b ay.bp.c) b1) (TE (TE ay.bp.b ag.bp.c) b2)) (by lia)
 exact SD (TE (TE ag.bp.c ay.bp.c) (show SC 3<=2 by decide)) (by lia)
theorem T0.half{B D:ZJ}{a b c d m n:ab}(h:T0 (b::B++(d::D)))(ap:3<=(b::B).length+(d::D).length)(dv:bT b B=a)(jz:bT d D=c)(aA:hj c b m)(aO:hj a d n):T0 (m::(b::B)++[n]):=by
 obtain⟨X,H2⟩:∃X,b::B=X++[a]:=by
  obtain⟨X,e⟩:=wY (z:=b) (r:=b::B) (by simp);exact⟨X,by rw[e];show _=X++[a];rw[<-dv];rfl⟩
 cases D with
 |nil=>
  have jz:d=c:=jz;subst jz;cases B with
  |nil=>simp at ap
  |cons b2 B=>
   have dv:bT b2 B=a:=dv
   obtain⟨Y,B8⟩:∃Y,b2::B=Y++[a]:=by
    obtain⟨Y,e⟩:=wY (z:=b2) (r:=b2::B) (by simp);exact⟨Y,by rw[e];show _=Y++[a];rw[<-dv];rfl⟩
   rw[B8]at h⊢;have h1:T0 ((b::(Y++[a]))++[d]):=h
   have aa:T0 (Y++a::d::b::[]):=by
    have:=T0.turn (xs:=[b]) (ys:=(Y++[a])++[d]) h1;simpa using this
   have aH:=T0.off aa aO aA;have a6:T0 ((Y++[a,n])++[m,b]):=by simpa using aH
   have cH:=T0.turn a6;simpa using cH
 |cons cc D=>
  have jz:bT cc D=c:=jz
  obtain⟨Y,B8⟩:∃Y,cc::D=Y++[c]:=by
   obtain⟨Y,e⟩:=wY (z:=cc) (r:=cc::D) (by simp);exact⟨Y,by rw[e];show _=Y++[c];rw[<-jz];rfl⟩
  have h1:T0 ((b::B)++[d,c]):=by
   refine T0.sub ?_ h;refine Ux (Vj _) (WR _ ?_);rw[B8];exact WS _ _
  rw[H2]at h1;have aa:T0 (X++a::d::[c]):=by simpa using h1
  have aH:=T0.back aa aO;have a6:T0 ((b::B)++([n]++[c])):=by rw[H2];simpa using aH
  have cH:T0 ([c]++((b::B)++[n])):=T0.turn (ys:=[c]) (xs:=(b::B)++[n]) (by simpa using a6);have ey:T0 ([]++c::b::(B++[n])):=by simpa using cH
  have nj:=T0.on ey aA;simpa using nj
theorem B9(φ:ZZ->Int){p q:ab}(ag:aX p)(ay:aX q):fu φ p q+fu φ q p=0:=by
 unfold fu ez;rw[Ho ag ay];grind
theorem H3(φ:ZZ->Int){p q m:ab}(ag:aX p)(ay:aX q)(h:p≠q)(b:hj p q m):fu φ p m+fu φ m q=fu φ p q:=by
 obtain⟨ai,ar⟩:=xp ag ay h b;unfold fu ez;rw[ai,ar];grind
theorem Sj(φ:ZZ->Int){B D:ZJ}{a b c d m n:ab}(dv:bT b B=a)(jz:bT d D=c)(aA:hj c b m)(aO:hj a d n)(pa:aX a)(pb:aX b)(g6:aX c)(qZ:aX d)(pm:aX m)(pn:aX n)(h1:c≠b)(aa:a≠d):
  eA φ (m::(b::B)++[n])+eA φ (n::(d::D)++[m])=eA φ (b::B++(d::D)):=by
 have ai:dk (m::(b::B)++[n])=(n,m)::(m,b)::(cW b B++[(a,n)]):=by
  unfold dk;rw[show bT (0,0,1) (m::(b::B)++[n])=n from by rw[pA];rfl];show(n,m)::(m,b)::cW b (B++[n])=_
  rw[pz,dv];rfl
 have ar:dk (n::(d::D)++[m])=(m,n)::(n,d)::(cW d D++[(c,m)]):=by
  unfold dk;rw[show bT (0,0,1) (n::(d::D)++[m])=m from by rw[pA];rfl];show(m,n)::(n,d)::cW d (D++[m])=_
  rw[pz,jz];rfl
 have bb:dk (b::B++(d::D))=(c,b)::(cW b B++((a,d)::cW d D)):=by
  unfold dk;rw[show bT (0,0,1) (b::B++(d::D))=c from by rw[pA];exact jz];show(c,b)::cW b (B++(d::D))=_
  rw[pz,dv];rfl
 unfold eA;rw[ai,ar,bb];simp only[hJ,wZ,iK];have ci:=B9 φ pn pm;have cu:=H3 φ g6 pb h1 aA;have gt:=H3 φ pa qZ aa aO;grind
theorem H4(φ:ZZ->Int):∀A B:ZJ,eA φ (A++B)=eA φ (B++A)
 |[],B=>by rw[SQ];rfl
 |a::A,B=>by
  have h:=H4 φ A (B++[a]);rw[show a::A++B=a::(A++B)from rfl,<-Hy,SV,h,SV];rfl
def sE(ps:ZJ)(i j:Nat)(p q:ab):List ab:=[p]++(ps.drop (i+1)).take (j-i)++[q]
def sF(ps:ZJ)(i j:Nat)(p q:ab):List ab:=[q]++ps.drop (j+1)++ps.take (i+1)++[p]
theorem B'{ps:ZJ}{i:Nat}(h:i<ps.length):ps.drop i=bx ps i::ps.drop (i+1):=by
 rw[Uu h,mo h]
structure Ca (m n:Nat) (ps bz rs:ZJ):Prop where
 a:fg bz
 b:fg rs
 la:bz.length<=n
 lb:rs.length<=n
 pa:∀x∈bz,cT m x
 pb:∀x∈rs,cT m x
 bal:∀φ,eA φ bz+eA φ rs=eA φ ps
theorem Sk{m:Nat}{ps:ZJ}{i j:Nat}{t u:Int}(cv:fg ps)(ag:∀x∈ps,cT m x)(l5:i<j)(bC:j<ps.length)(dg:1<=t)(cU:t<=2)(db:1<=u)(dV:u<=2):
  Ca (2*m+3) (ps.length+1) ps (sE ps i j (j1 (bx ps i) (bx ps (i+1)) t) (j1 (bx ps j) (bx ps ((j+1)%ps.length)) u)) (sF ps i j (j1 (bx ps i) (bx ps (i+1)) t) (j1 (bx ps j) (bx ps ((j+1)%ps.length)) u)):=by
 have e2:=cv.1;have cu:(j+1)%ps.length<ps.length:=Uv _ (by lia);have Cb:=ag _ (om (show i<ps.length by lia));have Cc:=ag _ (om (show i+1<ps.length by lia));have Cd:=ag _ (om bC);have Ce:=ag _ (om cu);have ep:=H0 Cb.pt.1 Cc.pt.1 dg cU;have nF:=H0 Cd.pt.1 Ce.pt.1 db dV;have gm:=H1 Cb Cc dg cU;have n8:=H1 Cd Ce db dV;generalize j1 (bx ps i) (bx ps (i+1)) t=M at ep gm⊢;generalize j1 (bx ps j) (bx ps ((j+1)%ps.length)) u=N at nF n8⊢
 obtain⟨B,sG⟩:∃B,(ps.drop (i+1)).take (j-i)=bx ps (i+1)::B:=by
  rw[B' (show i+1<ps.length by lia),show j-i=(j-i-1)+1 by lia,V0];exact⟨_,rfl⟩
 have Cf:(bx ps (i+1)::B).length=j-i:=by rw[<-sG,TP,Ur];lia
 have Cg:bT (bx ps (i+1)) B=bx ps j:=by
  have:=w5 (bx ps (i+1)) (bx ps (i+1)::B) (by simp);rw[show bT (bx ps (i+1)) (bx ps (i+1)::B)=bT (bx ps (i+1)) B from rfl]at this;rw[this,Cf,<-sG];have al:j-i-1<((ps.drop (i+1)).take (j-i)).length:=by rw[TP,Ur];lia
  rw[mo al,mo bC,W5,List.getElem_drop];congr 1;lia
 obtain⟨D,sH⟩:∃D,ps.drop (j+1)++ps.take (i+1)=bx ps ((j+1)%ps.length)::D:=by
  by_cases z:j+1<ps.length
  ·rw[Td z,B' z];exact⟨_,rfl⟩
  have e:j+1=ps.length:=by lia
  rw[e,V7,UJ,Te];have:=B' (show 0<ps.length by lia);rw[V1]at this;rw[this,V0];exact⟨_,rfl⟩
 have rX:(bx ps ((j+1)%ps.length)::D).length=ps.length-(j-i):=by rw[<-sH,Sx,TP,Ur];lia
 have Ch:bT (bx ps ((j+1)%ps.length)) D=bx ps i:=by
  have ec:bT (bx ps ((j+1)%ps.length)) D=bT (0,0,1) (bx ps ((j+1)%ps.length)::D):=rfl;have aR:ps.take (i+1)≠[]:=λz=>by have:=UF S7 z;rw[TP,TR]at this;lia
  rw[ec,<-sH,pA,w5 _ _ aR];have al:(ps.take (i+1)).length-1<(ps.take (i+1)).length:=by rw[TP];lia
  rw[mo al,mo (show i<ps.length by lia),W5];congr 1;rw[TP];lia
 have whole:ps=ps.take (i+1)++((ps.drop (i+1)).take (j-i)++ps.drop (j+1)):=by
  conv=>lhs;rw[<-W6 (i+1) ps]
  congr 1
  conv=>lhs;rw[<-W6 (j-i) (ps.drop (i+1))]
  rw[List.drop_drop];congr 2;lia
 have ea:T0 ps:=(qO ps).mpr cv.tri
 have s1:T0 (bx ps (i+1)::B++(bx ps ((j+1)%ps.length)::D)):=by
  rw[<-sG,<-sH,<-SV];refine T0.turn (xs:=ps.take (i+1)) ?_;rwa[whole]at ea
 have ap:3<=(bx ps (i+1)::B).length+(bx ps ((j+1)%ps.length)::D).length:=by rw[Cf,rX];lia
 have ca:=T0.half s1 ap Cg Ch ep nF;have cn:=T0.half (T0.turn s1) (by lia) Ch Cg nF ep;have xE:sE ps i j M N=M::(bx ps (i+1)::B)++[N]:=by unfold sE;rw[sG];rfl
 have kF:sF ps i j M N=N::(bx ps ((j+1)%ps.length)::D)++[M]:=by unfold sF;rw[SV [N],sH];rfl
 have gQ:∀x∈ps,cT (2*m+3) x:=λx h=>(ag x h).mono (by lia);have Sl:∀x∈bx ps (i+1)::B,x∈ps:=λx h=>by rw[<-sG]at h;exact W7 (Wh h)
 have Sm:∀x∈bx ps ((j+1)%ps.length)::D,x∈ps:=λx h=>by
  rw[<-sH]at h;rcases SK.mp h with h|h
  ·exact W7 h
  exact Wh h
 have c8:bx ps i≠bx ps (i+1):=cv.side (by
  rw[w6];refine SJ.mpr ⟨i+1,TB.mpr (by lia),?_⟩
  rw[show i+1+ps.length-1=i+ps.length by lia,UM,Td (by lia)])
 have cO:bx ps j≠bx ps ((j+1)%ps.length):=cv.side (by
  rw[w6];refine SJ.mpr ⟨(j+1)%ps.length,TB.mpr cu,?_⟩;congr 1;by_cases z:j+1<ps.length
  ·rw[Td z,show j+1+ps.length-1=j+ps.length by lia,UM,Td bC]
  rw[show j+1=ps.length by lia,V7,U2,Td (by lia)];congr 1
  lia)
 refine⟨?_,?_,?_,?_,?_,?_,λφ=>?_⟩
 ·rw[xE];refine qN.cvx ?_ ((qO _).mp ca)
  first|(simp;done)|(simp;lia)
 ·rw[kF];refine qN.cvx ?_ ((qO _).mp cn)
  first|(simp;done)|(simp;lia)
 ·rw[xE,To,SM,Sx,Cf]
  first|(simp;done)|(simp;lia)
 ·rw[kF,To,SM,Sx,rX]
  first|(simp;done)|(simp;lia)
 ·rw[xE];intro x al;rcases SK.mp al with al|al
  ·rcases SG.mp al with rfl|al
   ·exact gm
   exact gQ x (Sl x al)
  rw[SN.mp al];exact n8
 ·rw[kF];intro x al;rcases SK.mp al with al|al
  ·rcases SG.mp al with rfl|al
   ·exact n8
   exact gQ x (Sm x al)
  rw[SN.mp al];exact gm
 rw[xE,kF,Sj φ Cg Ch ep nF Cd.pt Cc.pt Cb.pt Ce.pt gm.pt n8.pt c8 cO,<-sG,<-sH,<-SV,<-H4 φ (ps.take (i+1))];rw[<-whole]
end Cut
namespace Cut
theorem Sn{ns:ZI}{x y:Int}(h:ns.Perm [x,y])(s:ns.Pairwise (· <= ·)):(ns=[x,y]/\x<=y)\/(ns=[y,x]/\y<=x):=by
 match ns,h.length_eq with
 |[a,b],_=>
  have iH:a<=b:=by simpa using s
  have aw:a∈[x,y]:=h.mem_iff.mp (by simp);have ae:b∈[x,y]:=h.mem_iff.mp (by simp);have al:x∈[a,b]:=h.mem_iff.mpr (by simp);have aP:y∈[a,b]:=h.mem_iff.mpr (by simp);simp at aw ae al aP;rcases aw with rfl|rfl
  ·have:b=y:=by lia
   subst this;exact .inl ⟨rfl,iH⟩
  have:b=x:=by lia
  subst this;exact .inr ⟨rfl,iH⟩
theorem So{ns:ZI}{a b:Int}{n:Nat}(f7:0<=a)(ca:a<n)(kt:0<=b)(b1:b<(n:Int)-1)(pm:ns.Perm [a,b+if decide (a<=b)=true then 1 else 0])(xF:ns.Pairwise (· <= ·)):∃I J:Nat,ns=[(I:Int),(J:Int)]/\I<J/\J<n:=by
 obtain⟨c,hc,c1,c2,c3⟩:∃c:Int,(b+if decide (a<=b)=true then 1 else 0)=c/\a≠c/\0<=c/\c<n:=by
  by_cases h:a<=b
  ·rw[Xw h,Tk rfl];exact⟨b+1,rfl,by lia,by lia,by lia⟩
  rw[decide_eq_false h,Tl SP];exact⟨b+0,rfl,by lia,by lia,by lia⟩
 rw[hc]at pm;rcases Sn pm xF with⟨rfl,l⟩|⟨rfl,l⟩
 ·exact⟨a.toNat,c.toNat,by rw[U5 f7,U5 c2],by lia,by lia⟩
 exact⟨c.toNat,a.toNat,by rw[U5 f7,U5 c2],by lia,by lia⟩
end Cut
namespace Cut
open PySem L2 L3
theorem Sp{α:Type}{xs:List α}{i j:Nat}(h:i<=j)(aa:j<=xs.length):gE xs (some ((i:Nat):Int)) (some ((j:Nat):Int))=(xs.drop i).take (j-i):=by
 have ai:HT.sIx xs.length 0 (some ((i:Nat):Int))=i:=by
  unfold HT.sIx
  first|lia|(simp only[];split<;>lia)|(split<;>lia)|(dsimp only;split<;>(try split)<;>lia)
 have ar:HT.sIx xs.length xs.length (some ((j:Nat):Int))=j:=by
  unfold HT.sIx
  first|lia|(simp only[];split<;>lia)|(split<;>lia)|(dsimp only;split<;>(try split)<;>lia)
 unfold gE;rw[ai,ar]
theorem Sq{ps:ZJ}{i j:Nat}{p q:ab}(h:i<j)(aa:j<ps.length):fV (sE ps i j p q)=.lst ([aQ p]++gE (ps.map aQ) (some ((i:Int)+1)) (some ((j:Int)+1))++[aQ q]):=by
 have e:=Sp (xs:=ps) (i:=i+1) (j:=j+1) (by lia) (by lia);rw[show((i:Int)+1)=((i+1:Nat):Int) by lia,show((j:Int)+1)=((j+1:Nat):Int) by lia,Af,e,show j+1-(i+1)=j-i by lia];show D.lst ((sE ps i j p q).map aQ)=_
 unfold sE;rw[Sz,Sz];rfl
theorem Sr{ps:ZJ}{i j:Nat}{p q:ab}(h:i<j)(aa:j<ps.length):fV (sF ps i j p q)=.lst ([aQ q]++gE (ps.map aQ) (some ((j:Int)+1)) none++gE (ps.map aQ) none (some ((i:Int)+1))++[aQ p]):=by
 have ai:=FG (xs:=ps) (i:=(j:Int)+1) (by lia) (by lia);have ar:=FH (xs:=ps) (i:=(i:Int)+1) (by lia) (by lia);rw[Af,Af,ai,ar,show((j:Int)+1).toNat=j+1 by lia,show((i:Int)+1).toNat=i+1 by lia];show D.lst ((sF ps i j p q).map aQ)=_
 unfold sF;rw[Sz,Sz,Sz];rfl
theorem H5(φ:ZZ->Int):∀{rs:Z1}{n:Nat}{r:ZJ},rs[n]?=some r->fW φ (rs.eraseIdx n)+eA φ r=fW φ rs
 |[],_,_,h=>by simp at h
 |q::rs,0,r,h=>by
  have e:q=r:=by simpa using h
  subst e;rw[List.eraseIdx_cons_zero,j3];grind
 |q::rs,n+1,r,h=>by
  have:=H5 φ (rs:=rs) (n:=n) (r:=r) (by simpa using h);rw[Wx,j3,j3];grind
end Cut
namespace Cut
open PySem L2 L3
open PySem.Builtin.Int (intBits)
theorem Ci{α β:Type}(f:α->β):∀(l:List α)(n:Nat),(l.map f).eraseIdx n=(l.eraseIdx n).map f
 |[],_=>rfl
 |_::_,0=>rfl
 |x::l,n+1=>by
  show f x::(l.map f).eraseIdx n=f x::(l.eraseIdx n).map f
  rw[Ci f l n]
section
variable{s w pt:Int×Int}
theorem aaa{x:Int×Int}(ls:a3 s.1 s.2)(s0:s.1≠0)(c1:SC s.1<=21)(c2:SC s.2<=21)(h7:a3 x.1 x.2)(fe:0<x.1)(b1:SC x.1<=47)(b2:SC x.2<=47)(hi:Bool):nz (cV s hi x):=by
 obtain⟨_,_,aH,a6⟩:=RN ls s0 c1 c2 h7 fe b1 b2;have b:=r9 ls h7 s0 fe;exact HL (Gd b hi) (λp ag=>(b.cornG hi (b8 b1) (b8 b2) (b8 aH) (b8 a6) p ag).mono (by decide)) (by rw[Gc];decide)
end
end Cut
namespace L2
open PySem PySem.Spec PyProof.Rows PySem.W
section
variable{prog:WF}{w:Xx}{A:Xy}{E:SZ->TD->Prop}{s:TD}{vs:ZU}{R:Nat->Int}{κ:SortKind}
theorem aab{l:TI}{Q:ZU->TD->Prop}(ap:s.heap.IsList l vs.toArray)(xG:vs.length<=TT)(h:∀h':XB,s.heap.objs.size<=h'.objs.size->(∀b o,s.heap.get? b=some o->h'.get? b=some o)->Q vs {s with heap:=h' }):wpAny (Wp prog w) A (collect (.ref l)) Q E s:=by
 refine collect_list ap (h _ ?_ λb o z=>?_) xG
 ·rw[Heap.size_update,size_push'];exact TV _
 exact(Heap.SameBut.update _ _ _).extBut b o (S3 (Heap.lt_size z)) (Heap.get?_push_of_some _ z)
end
end L2
namespace L3
open PySem L2
section
variable{prog:WF}{w:Xx}{A:Xy}{E:SZ->TD->Prop}{s:TD}{d it:TI}{i a0:Nat}{es:Array YC}{ok ji:SZ}
theorem H6{Q:Option SZ->TD->Prop}(dY:A.handled=none)(hit:Yn s.heap it d i es.size a0 ok ji)(aA:oy s.heap d es a0)(more:∀e h',es[i]?=some e->Zi h' it d (i+1) es.size a0 e.key e.val s.heap.objs.size->h'.get? s.heap.objs.size=some {cls:=.type "tuple",data:=.seq #[e.key,e.val]}->(∀b o,b≠it->s.heap.get? b=some o->h'.get? b=some o)->Q (some (.ref s.heap.objs.size)) {s with heap:=h' })(done:∀h',es[i]?=none->Heap.ExtBut it s.heap h'->Q none {s with heap:=h' }):wpAny (Wp prog w) A (YS (.ref it)) Q E s:=by
 obtain⟨ag,g,oC,cZ,os⟩:=s;have ty:Shared.TypeIs ⟨ag,g,oC,cZ,os⟩ (.ref it) "dict_itemiterator":=⟨_,hit,rfl⟩;obtain⟨o,ax,hc,aD⟩:=aA;have own:Builtin.Dict_items.ownsTuple "dict_itemiterator"=true:=by decide
 have cd:¬((i:Int)<0):=by lia
 have none_:¬(Value.ref d==Value.none)=true:=SP;unfold YS;refine SB (Zg (X9 (name:="__next__") ty F.slot_dict_itemiterator_next (XC F.slot_dict_itemiterator_next ty F.entry_dict_itemiterator_next ?_ (F.args_dict_itemiterator_next_1 _))));refine SB (SL (SB (SB ?_)))
 first|refine SB (XM ty (SL (SB (YA hit rfl ?_))))|refine SB (X2 ty (SL (SB (YA hit rfl ?_))))
 simp only[own,if_true];show wpAny _ _ (if(Value.ref d==Value.none)=true then _ else _) _ _ ⟨ag,g,oC,cZ,os⟩
 rw[Tl none_];refine SB (SL (SB (X0 ax aD ?_)));rw[Tl (by simp)];refine SB (SL (SB (Yq ax aD ?_)));rw[Tl (by simp)];refine SL ?_;simp only[cd,if_false,WZ];cases q:es[i]? with
 |some e=>
  dsimp only;refine SB ?_
  first|refine SB (XM ty (SL (SB (XS ty ?_))))|refine SB (X2 ty (SL (SB (XS ty ?_))))
  show wpAny _ _ (ZG (.ref it) 3 (Y4 ((i:Int)+1)) >>= _) _ _ ⟨ag,g,oC,cZ,os⟩
  refine SB (XU hit (by simp) λh1 ca (b1:Heap.SameBut it ag h1)=>?_)
  replace ca:Yn h1 it d (i+1) es.size a0 ok ji:=by
   unfold Yn;rw[show((i+1:Nat):Int)=(i:Int)+1 by lia];simpa[Y4]using ca
  have H7:Shared.TypeIs ⟨h1,g,oC,cZ,os⟩ (.ref it) "dict_itemiterator":=⟨_,ca,rfl⟩;refine SB (Xu (SB (XS H7 (SB (XS H7 ?_)))));show wpAny _ _ (Builtin.Dict_items.pairFromOwner (.ref it) 6 e.key e.val) _ _ ⟨h1,g,oC,cZ,os⟩
  unfold Builtin.Dict_items.pairFromOwner;refine SB (wpAny_newTuple ?_);have aG:h1.objs.size=ag.objs.size:=b1.1;have Bj:it<ag.objs.size:=Heap.lt_size hit;let T:Obj:={cls:=.type "tuple",data:=.seq #[e.key,e.val]}
  have cn:Yn (h1.push T) it d (i+1) es.size a0 ok ji:=Heap.get?_push_of_some _ ca;have cU:(h1.push T).get? ag.objs.size=some T:=by rw[<-aG];exact Heap.get?_push_size _ rfl
  have cu:∀b o,b≠it->ag.get? b=some o->(h1.push T).get? b=some o:=λb o n x=>Heap.get?_push_of_some _ (b1.extBut b o n x);show wpAny _ _ (Builtin.Dict_items.ownedTupleIsFree (.ref it) >>= _) _ _ ⟨h1.push T,g,oC,cZ,os⟩
  rw[aG];generalize h1.push T=aa at cn cU cu;refine SB ?_;unfold Builtin.Dict_items.ownedTupleIsFree;refine SB (Yd cn rfl (x:=.none) rfl (SL ?_));simp only[if_true];refine SB (Yd cn rfl (x:=ok) rfl (SB (Yd cn rfl (x:=ji) rfl (SB (XU cn (by simp) λaH fm (b3:Heap.SameBut it aa aH)=>?_)))));replace fm:Yn aH it d (i+1) es.size a0 e.key ji:=fm;refine SB (XU fm (by simp) λa6 nG (b4:Heap.SameBut it aH a6)=>?_);replace nG:Yn a6 it d (i+1) es.size a0 e.key e.val:=nG;refine SB (XU nG (by simp) λcH Cj (Ck:Heap.SameBut it a6 cH)=>?_);replace Cj:Zi cH it d (i+1) es.size a0 e.key e.val ag.objs.size:=Cj;refine SB (XU Cj (by simp) λey Cm (Cn:Heap.SameBut it cH ey)=>?_);replace Cm:Zi ey it d (i+1) es.size a0 e.key e.val ag.objs.size:=Cm;have up:∀b o,b≠it->aa.get? b=some o->ey.get? b=some o:=λb o n x=>Cn.extBut b o n (Ck.extBut b o n (b4.extBut b o n (b3.extBut b o n x)));exact SB (YJ (SL (SL ⟨_,rfl,SL (more e ey q Cm (up _ _ (T5 Bj) cU) λb o n x=>up b o n (cu b o n x))⟩)))
 |none=>
  refine SB ?_
  first|refine SB (XM ty (SL ?_))|refine SB (X2 ty (SL ?_))
  show wpAny _ _ (ZG (.ref it) 2 .none >>= _) _ _ ⟨ag,g,oC,cZ,os⟩
  refine SB (Y6 hit rfl (by simp) ?_);show wpAny _ _ (newExc (.type "StopIteration") [] >>= _) _ _ _
  unfold newExc newTuple;refine SB (SB (W1 (SB (m:=YB _ _) (Y' (a:=Value.none) (by first|rfl|(unfold YB;rfl)) (W1 ?_ (by size_fits)))) (by size_fits)));unfold raiseNew;refine SB (wpAny_handled ?_);rw[show A.in1.handled=none from dY];refine SB (SL (wpAny_throw ?_));refine SB (X4 (T:="StopIteration") (b:=true) (by exact⟨_,Heap.get?_push_size _ rfl,rfl⟩) isSubtype_stop ?_);exact SL (done _ q (((Heap.SameBut.update ..).extBut.push _).push _))
theorem aac{v:TI}{Q:SZ->TD->Prop}(aL:s.heap.IsItemsView v d)(aA:oy s.heap d es a0)(hq:Q (.ref s.heap.objs.size) {s with heap:=s.heap.push {cls:=.type "dict_itemiterator",data:=.fields #[.none,.bool false,.ref d,.int 0 0,.int es.size 0,.int a0 0,.none,.none]} }):wpAny (Wp prog w) A (ZB (.ref v)) Q E s:=by
 have H8:=aL.typeIs;obtain⟨p,ag,Co,dp⟩:=aL;obtain⟨o,ax,hc,aD⟩:=aA;have own:Builtin.Dict_items.ownsTuple "dict_itemiterator"=true:=by decide
 refine YD H8 F.slot_dict_items_iter (XC F.slot_dict_items_iter H8 F.entry_dict_items_iter ?_ (F.args_dict_items_iter_1 _));unfold Yy.«dict_items.__iter__»;refine SB (SL (SB ?_));unfold Builtin.Dict_items.dictOf;refine SB (Yd ag dp (x:=.ref d) rfl (SL (SB ?_)));unfold Builtin.Dict_items.newIterator;refine SB (X0 ax aD (SB (Yq ax aD ?_)));simp only[own,if_true];refine W1 (SL ⟨_,rfl,"dict_itemiterator",_,⟨_,Heap.get?_push_size _ rfl,rfl⟩,F.slot_dict_itemiterator_next.lookup,?_⟩) (by simp only[sizeOk,Builtin.Dict_items.ownedTupleFields,SS,Sx,SM,TR,XN];lia);simpa[Y4,Builtin.Dict_items.ownedTupleFields]using hq
theorem aad(d:TI)(hd:(d==XH)=false):
  MeetsIn prog w (Yy.«dict.items» ⟨[.ref d],[]⟩) (λ_ R s=>(∃es a0,oy s.heap d es a0)/\R (.ok (.ret (.ref s.heap.objs.size))) {s with heap:=s.heap.push {cls:=.type "dict_items",data:=.fields #[.ref d]} }):=
 .of_wp λA R s ⟨⟨es,a0,aA⟩,h⟩=>by
  obtain⟨o,ax,hc,aD⟩:=aA;have ty:s.TypeIs (.ref d) "dict":=⟨o,ax,hc.1⟩;have no:¬(d==XH)=true:=λz=>by rw[hd]at z;cases z
  unfold Yy.«dict.items» Builtin.Dict.noArgs;refine SB (SB (Yi ty (show wpAny _ _ (pure d) _ _ s from SL ?_)));show wpAny _ _ (Builtin.Dict.showsAll d >>= _) _ _ s
  unfold Builtin.Dict.showsAll;rw[Tl no];exact SB (SL (SB (W1 (SL ⟨_,rfl,h⟩))))
end
end L3
namespace L2
open PySem PySem.Spec PyProof.Rows PySem.W L3
def H9(b:Bool)(a:TI)(a0:Nat)(ks:List ZZ)(as:ZV)(vs:ZL):ha where
 go:=λi H=>H a=some (hB b a a0 ks as vs)/\i<ks.length
 yld:=λi H x ak=>∃p c y,H p=none/\x=.ref p/\ak=upd H p (.tup [.ref c,y])/\as[i]?=some c/\vs[i]?=some y
 stop:=λi H=>H a=some (hB b a a0 ks as vs)/\ks.length<=i
section
variable{P:WF}{w:Xx}{K:Su}{b:Bool}{a:TI}{a0:Nat}{ks:List ZZ}{as:ZV}{vs:ZL}{jy:ZW}{k:Nat}{pos:Pos}
theorem aae:entryFor table "dict_itemiterator.__iter__"=some Yy.«dict_keyiterator.__iter__»:=entryFor_alias (id':="dict_keyiterator.__iter__") (by kernel_rfl) rfl (by decide +kernel) (by kernel_rfl)
theorem aaf(it:TI):oV P w K (.Tuple jy k pos) (H9 b a a0 ks as vs) [it] it (λi h=>∃x y,Yn h it a i ks.length a0 x y) where
 mem:=by simp
 obj:=λi h st c hc=>by
  have e:c=it:=by simpa using hc
  subst e;obtain⟨x,y,st⟩:=st;exact⟨_,st,λv z=>by cases z⟩
 keep:=λi h h' st kp=>by
  obtain⟨x,y,st⟩:=st;exact⟨x,y,kp it (by simp) _ st⟩
 item:=by
  intro X eJ hw dJ hc i aj s σ H E I bD st aF;subst eJ hw dJ;obtain⟨ay,hi⟩:=aF;obtain⟨fe,e1,st⟩:=st;obtain⟨us,es,gu,ni,bQ,bS,e2,b6,_⟩:=so I.hok ay;obtain⟨k',c,u,BC,xh,aD⟩:=BB (b:=b) bQ bS hi
  obtain⟨y,aP,cg⟩:∃y,vs[i]?=some y/\RelV y u:=by
   have lt:i<vs.length:=by rw[b6.length];lia
   obtain⟨fi,sg,dn⟩:=b6.get (SU lt);rw[xh]at sg;cases sg;exact⟨_,SU lt,dn⟩
  have qS:=bD it (by simp);have Bh:it<s.heap.objs.size:=Heap.lt_size st;have wT:s.heap.objs.size≠it:=T5 Bh;refine H6 (I.ok.hd hc) (by rw[e2];exact st) gu (λe h1 q out aR kp=>⟨_,rfl,wpAny_letOwnedTupleGo_items out λaa wS eb=>?_⟩) (λh1 q _=>?_)
  ·rw[<-UE,ni,aD]at q;cases q;rw[e2]at wS
   have Bi:Inv X aj σ (upd H s.heap.objs.size (.tup [.ref c,y])) {s with heap:=s.heap.push {cls:=.type "tuple",data:=.seq #[.ref c,u]} }:=
    I.laid (t':=s.toks) (λ_ _ q=>Heap.get?_push_of_some _ q) (SF _) ⟨eW,[.ref c,u],.cons rfl (.cons cg .nil),⟨_,Heap.get?_push_size _ rfl,rfl,_,rfl⟩⟩
   have H':gH X aj (upd H s.heap.objs.size (.tup [.ref c,y])) it:=⟨by rw[bV (Ta wT)];exact qS.1,qS.2⟩;obtain⟨dL,aT,bd,bA,c7,d1⟩:=id H'
   have a':Inv X aj σ (upd H s.heap.objs.size (.tup [.ref c,y])) {s with heap:=aa}:=Bi.turned (t':=s.toks) (λhx o n q=>by
    rw[eb.2 hx n];by_cases z:hx=s.heap.objs.size
    ·subst z;rw[Heap.get?_push_size _ rfl]at q;rw[<-q];exact aR
    refine kp hx o n ?_;rw[<-q]
    exact(Heap.get?_push_ne s.heap hx _ z).symm) dL aT bA c7 d1
   refine⟨.ref s.heap.objs.size,_,a',rfl,⟨s.heap.objs.size,c,y,I.fresh,rfl,rfl,BC,aP⟩,⟨_,_,wS⟩,λhx ae=>?_⟩;have:hx=it:=by simpa using ae
   subst this;exact dL
  rw[<-UE,ni,aD]at q;cases q
 done:=by
  intro X eJ hw dJ hc i aj s σ H E I bD st aF;subst eJ hw dJ;obtain⟨ay,hi⟩:=aF;obtain⟨fe,e1,st⟩:=st;obtain⟨us,es,gu,ni,bQ,bS,e2,_⟩:=so I.hok ay;obtain⟨dL,aT,bd,bA,c7,d1⟩:=bD it (by simp);refine H6 (I.ok.hd hc) (by rw[e2];exact st) gu (λe h1 q _ _ _=>?_) λh' _ fS=>⟨rfl,I.turned (t':=s.toks) (λc' o ae e=>fS c' o ae e) dL aT bA c7 d1⟩;rw[VE (by lia)]at q;cases q
 self:=λ_ _ _ _ _ st h=>by
  obtain⟨x,y,st⟩:=st;have ty:Shared.TypeIs _ (.ref it) "dict_itemiterator":=⟨_,st,rfl⟩;refine YD ty F.slot_dict_itemiterator_iter (XC F.slot_dict_itemiterator_iter ty aae ?_ (F.args_dict_itemiterator_iter_1 _));show wpAny _ _ (ret (.ref it)) _ _ _
  exact SL ⟨_,rfl,"dict_itemiterator",_,ty,F.slot_dict_itemiterator_next.lookup,h⟩
def aag(eK:bK):gI:=λσ H R=>eK σ H λx au=>∃b a a0 ks as vs,x=.ref a/\mx au b a a0 ks as vs/\R (H9 b a a0 ks as vs) au
theorem aah{X:aU}{k0 dd cb:Pos}{l:WP}{eK:bK}(ap:bY X l eK)(fy:iv X l "items":=by rfl)(fA:iw dd cb:=by rfl):iy X (.Tuple jy k k0) (.Call (.Attribute l "items" dd) [] [] cb) (aag eK):=by
 intro aj s σ H R I h;refine wpAny_Call_method (T:="dict") (id:="dict.items") fy rfl fA We W8 PySem.F.type_dict_items (cl (ap aj s σ H _ I h) λv aC ⟨x,au,a',aq,b,a,a0,ks,as,vs,e,hW,q⟩=>?_);subst e;obtain rfl:v=Value.ref a:=aq;obtain⟨dg,cU⟩:=hW.typ a';refine⟨dg,cU,?_⟩;obtain⟨us,es,gu,ni,bQ,bS,e2,_,av⟩:=so a'.hok hW.h;show wpAny _ _ (callWith cb (.builtin "dict.items") [.ref a] [] []) _ _ aC
 refine method_meetsIn W8 PySem.F.entry_dict_items rfl (Ww ⟨rfl,dg,PySem.F.args_dict_items_1 _,_,aad a av,⟨es,a0,gu⟩,?_⟩)
 have Am:oy (aC.heap.push {cls:=.type "dict_items",data:=.fields #[.ref a]}) a es a0:=by
  obtain⟨o,ax,z⟩:=gu;exact⟨o,Heap.get?_push_of_some _ ax,z⟩
 have da:Inv X aj σ au {aC with heap:=aC.heap.push {cls:=.type "dict_items",data:=.fields #[.ref a]} }:=a'.kept (t':=aC.toks) λb o e=>Heap.get?_push_of_some _ e;refine aac (s:={aC with heap:=aC.heap.push {cls:=.type "dict_items",data:=.fields #[.ref a]} }) ⟨_,Heap.get?_push_size _ rfl,rfl,rfl⟩ Am ?_;refine⟨_,[_],_,_,au,rfl,da.kept (t':=aC.toks) λb o e=>Heap.get?_push_of_some _ e,aaf _,⟨_,_,by rw[e2];exact Heap.get?_push_size _ rfl⟩,λc hc=>?_,q⟩;rw[SN.mp hc];exact da.fpOk (SF _) (da.hok.fresh (SF _))
end
end L2
namespace L3
open PySem L2
section
variable{K:Su}{u:bg}{w:df}
def Ia(K:Su)(B:am)(J:ha)(ds:ZK):Prop:=∀(H:am),cw B H->∀i,(i<ds.length->J.go i H)/\(ds.length<=i->J.stop i H)/\∀x ak,i<ds.length->J.yld i H x ak->∃q vs es,H q=none/\x=.ref q/\ak=upd H q (.tup vs)/\ds[i]?=some (.tup es)/\Reps K B vs es
def Ib(K:Su)(t:gI)(u:df):Prop:=∀(ρ:ZM)(k:ZK->Prop),u ρ k->∀(R:am)(W:TI->Prop)(B H:am)(σ:St)(Q:ha->am->Prop),aW K R W B H σ ρ->
 (∀ds J az ak,k ds->aW K R W az ak σ ρ->bJ R B az->Ia K az J ds->Q J ak)->t σ H Q
def Ic(X:aU)(bj e:WP)(u:df):Prop:=∃t,iy X bj e t/\Ib X.K t u
variable{X:aU}{cI dc bj:WP}{dr:ZW}{scope:XV}{bM:List (Str×TI)}{ts fr:ZT}{js:ZP}{f6:eZ}{dE:dO}{pos:Pos}
def oD(b:Bool):List ZZ->ZK->ZK
 |k::ks,d::ds=>.tup [gr b k,d]::oD b ks ds
 |_,_=>[]
theorem Ie{b:Bool}:∀{ks:List ZZ}{ds:ZK},ds.length=ks.length->(oD b ks ds).length=ks.length
 |[],_,_=>by simp[oD]
 |_::_,[],h=>by simp at h
 |k::ks,d::ds,h=>by simp[oD,Ie (b:=b) (ks:=ks) (ds:=ds) (by simpa using h)]
theorem Ig{b:Bool}:∀{ks:List ZZ}{ds:ZK}{i:Nat}{k:ZZ}{d:D},ks[i]?=some k->ds[i]?=some d->(oD b ks ds)[i]?=some (.tup [gr b k,d])
 |[],_,_,_,_,h,_=>by simp at h
 |_::_,[],_,_,_,_,h=>by simp at h
 |k::ks,d::ds,0,_,_,h1,aa=>by simp at h1 aa;subst h1 aa;rfl
 |k::ks,d::ds,i+1,_,_,h1,aa=>by
  have:=Ig (b:=b) (ks:=ks) (ds:=ds) (i:=i) (by simpa using h1) (by simpa using aa);simpa[oD]using this
def aai(u:bg):df:=λρ k=>u ρ λx=>∃b ks ds,x=.dct b ks ds/\ds.length=ks.length/\k (oD b ks ds)
theorem aaj{k0 dd cb:Pos}{jy:ZW}{aJ:Nat}{l:WP}{oz:bg}(ap:br X l oz)(fy:iv X l "items":=by rfl)(fA:iw dd cb:=by rfl):Ic X (.Tuple jy aJ k0) (.Call (.Attribute l "items" dd) [] [] cb) (aai oz):=by
 obtain⟨_,h1,aq⟩:=ap;refine⟨_,aah h1 fy fA,λρ k h R W B H σ Q e q=>?_⟩;refine aq ρ _ h R W B H σ _ e λd v aY au aG ai aE aC=>?_;obtain⟨b,ks,ds,rfl,ld,z⟩:=aG;cases aC with
 | @dct a _ a0 _ as vs _ hb q0 rQ f1=>
  have la:as.length=ks.length:=by have:=q0.length;simpa using this
  have lv:=f1.length;refine⟨b,a,a0,ks,as,vs,rfl,⟨ai.bh _ _ hb,my ai.bh rQ q0⟩,?_⟩;refine q _ _ aY au z ai aE λak ut i=>?_;rw[Ie ld];refine⟨λhi=>⟨ut _ _ hb,hi⟩,λhi=>⟨ut _ _ hb,hi⟩,λx aS hi y=>?_⟩;obtain⟨p,c,y,ag,rfl,rfl,hc,aP⟩:=y;obtain⟨d,hd,gu⟩:=f1.getV aP;obtain⟨k1,Ih,aak⟩:=q0.getV (i:=i) (v:=.ref c) (by rw[SW,hc];rfl);have kx:ks[i]?=some ks[i]:=SU hi;rw[SW,kx]at Ih;cases Ih;exact⟨p,_,_,ag,rfl,rfl,Ig kx hd,.cons aak (.cons gu .nil)⟩
end
theorem Cp{h:Cut.F2->D}{u:bg}{fs:ZM}:∀{rs:List Cut.F2}{eM eL:aK}{k:ZK->Prop},(∀r∈rs,∀k:D->Prop,k (h r)->u (.val (.int r.1)::.val (.int r.2)::fs) k)->k (rs.map h)->hI (me 2 (g2 (fb 0) (g2 (fb 1) md))) iI u (rs.map Cut.dR) (eM::eL::fs) k
 |[],_,_,_,_,ah=>ah
 |r::rs,eM,eL,k,a2,ah=>by
  refine⟨_,rfl,rfl,_,_,rfl,_,_,rfl,rfl,?_⟩;show(if true=true then u (.val (.int r.1)::.val (.int r.2)::fs) λy=>hI (me 2 (g2 (fb 0) (g2 (fb 1) md))) iI u (rs.map Cut.dR) (.val (.int r.1)::.val (.int r.2)::fs) λys=>k (y::ys)else hI (me 2 (g2 (fb 0) (g2 (fb 1) md))) iI u (rs.map Cut.dR) (.val (.int r.1)::.val (.int r.2)::fs) k)
  rw[Tk rfl];exact a2 r Sw _ (Cp (λq ay=>a2 q (Sy _ ay)) ah)
section
variable{prog:WF}{w:Xx}{K:Type}[DecidableEq K]{knd:HeapKind prog w K}{A:Xy}{E:SZ->TD->Prop}{s:TD}
theorem aal{d a:TI}{xs:List (K×TI×SZ)}{k:K}{v:SZ}{Q:SZ->TD->Prop}(a2:knd.room A)(qe:knd.is s.heap k a)(aA:s.heap.DictOfH knd d xs)(h1:∀p,Zy xs k=some p->Q p.2 {s with toks:=s.toks+knd.draws k})(aa:Zy xs k=none->∀h',h'.DictOfH knd d (storedH xs k a v)->Heap.SameBut d s.heap h'->Q v {s with heap:=h',toks:=s.toks+knd.draws k})(kf:xs.length<=TT):wpAny (Wp prog w) A (Y7 d (.ref a) v) Q E s:=by
 obtain⟨o,es,a0,ax,hc,hd,aD,Ii,aO⟩:=aA;unfold Y7
 try with_reducible refine Xu ?_
 refine SB (knd.pyHash a2 qe ?_);refine SB (wpAny_dictFind_heap (s:={s with toks:=s.toks+knd.draws k}) a2 qe ax hd aD Ii aO ?_ ?_)
 ·intro qh;have aam:k∉xs.map (·.1):=not_mem_keys_of_get qh
  refine SB (Yb (SB (wpAny_updateDictKeys (hz:=by have e:=size_of_entries aD;lia) (s:={s with toks:=s.toks+knd.draws k}) ax hd (SL (aa (Yg qh) _ ⟨_,_,a0+1,Heap.get?_update_self _ ax (Obj.isFreed_of_dict (Obj.data_mapDictKeys hd _)),
   hc.mapDictKeys _,Obj.data_mapDictKeys hd _,?_,?_,?_⟩ (Heap.SameBut.update ..))))))
  ·rw[Zz (Yg qh)];simp[aD,Zk]
  ·rw[Zz (Yg qh)];intro x al;rcases SK.mp al with al|al
   ·exact knd.keeps (Ii x al) ax hd (Heap.SameBut.update ..)
   simp only[SN]at al;subst al;exact knd.keeps qe ax hd (Heap.SameBut.update ..)
  rw[Zz (Yg qh)];rw[Sz,Wf];refine⟨aO,by simp,?_⟩;intro x al y aP;simp only[SH,Ts,SN]at aP;subst aP;exact λe=>aam (e▸al)
 intro j p bC;refine SB (X0 (s:={s with toks:=s.toks+knd.draws k}) ax hd ?_);rw[entry_at aD j,bC];exact SB (Yb (SL (h1 p (atKey_of_get aO bC))))
theorem aan(knd:HeapKind prog w K)(d a:TI)(hd:(d==XH)=false)(v:SZ):
  MeetsIn prog w (Yy.«dict.setdefault» ⟨[.ref d,.ref a,v],[]⟩) (λA R s=>knd.room A.in1/\∃k xs,knd.is s.heap k a/\s.heap.DictOfH knd d xs/\xs.length<=TT /\
   (∀p,Zy xs k=some p->R (.ok (.ret p.2)) {s with toks:=s.toks+knd.draws k}) /\
   (Zy xs k=none->∀h',h'.DictOfH knd d (storedH xs k a v)->Heap.SameBut d s.heap h'->R (.ok (.ret v)) {s with heap:=h',toks:=s.toks+knd.draws k})):=
 .of_wp λA R s ⟨a2,k,xs,qe,aA,hz,h1,aa⟩=>by
  unfold Yy.«dict.setdefault»;refine SB ?_;unfold Builtin.Dict.keyAndDefault;refine SB (Yi aA.typeIs ?_);show wpAny _ _ (pure (d,Value.ref a,some v)) _ _ s
  refine SL ?_;show wpAny _ _ (if(d==XH)=true then _ else(Y7 d (.ref a) v >>= _)) _ _ s
  rw[Tl (by rw[hd];exact SP)];exact SB (aal a2 qe aA (λp ag=>SL ⟨p.2,rfl,h1 p ag⟩) (λaO h' uJ tO=>SL ⟨v,rfl,aa aO h' uJ tO⟩) hz)
end
def aao(b:Bool):V->ZL->am->cq->Prop:=λx xs H Q=>∃a c z a0 ks as vs k,x=.ref a/\xs=[.ref c,z]/\mx H b a a0 ks as vs/\mw H b k c/\ks.length<TT /\
 (∀v,bo ks vs k=some v->Q v H)/\(bo ks vs k=none->∀gn,Q z (upd H a (hB b a gn (ks++[k]) (as++[c]) (vs++[z]))))
section
variable{X:aU}{b:Bool}
theorem aap(a2:X.A.units+4<XO):ta X "dict.setdefault" (aao b):=by
 intro aj s σ H x xs v us Q I bn rs h;obtain⟨a,c,z,G9,ks,as,vs,k,rfl,rfl,hW,ox,ap,aM,a4⟩:=h;obtain rfl:v=Value.ref a:=bn;obtain⟨db,dV,rfl,aq,aN⟩:=rs.two;obtain rfl:db=Value.ref c:=aq;obtain⟨h1,aa,aH,a6,us,cH,hH,ey⟩:=hW.raw I.hok;have sj:=cH.length
 have le:(en ks as us).length=ks.length:=by
  have:=UF S7 (xf (as:=as) (us:=us) aa (by lia))
  rwa [Sv]at this
 have g:=si (as:=as) (us:=us) k aa (by lia);refine Zr W9 hH.typeIs PySem.F.entry_dict_setdefault (PySem.F.args_dict_setdefault_3 _ _ _) (aan (k1 X.prog X.w b) a c a6 dV) ⟨uk a2,k,en ks as us,ox.is I.hok,hH,by lia,λp ag=>?_,λaO h' lR eb=>?_⟩
 ·rw[ag]at g;have f1:=sk (ks:=ks) k cH;rw[<-g]at f1;cases q:bo ks vs k with
  |none=>rw[q]at f1;exact f1.elim
  |some Cq=>rw[q]at f1;exact⟨Cq,H,I.tok _,f1,aM Cq q⟩
 rw[aO]at g;have f1:=sk (ks:=ks) k cH;rw[<-g]at f1
 have Ij:bo ks vs k=none:=by
  cases q:bo ks vs k with
  |none=>rfl
  |some Cq=>rw[q]at f1;exact f1.elim
 have j':k∉ks:=(pE aH).mp Ij;rw[GY k c dV aa (by lia),Tl j']at lR;have ai:eO ks k=ks++[k]:=Tl j';have ar:gP ks us k dV=us++[dV]:=Tl j';rw[ai,ar]at lR;obtain⟨bO,es,a0,ky,kA,wJ,ii,Q5,Q6⟩:=lR;refine⟨z,_,?_,aN,a4 Ij a0⟩;refine I.write (x:=a) (e:=a) (by rw[hW.h];trivial) (.inl rfl) (λc' q ae z=>(eb.2 c' ae).trans z) ⟨bO,ky⟩ ?_;have nd:(ks++[k]).Nodup:=by have:=G8 (k:=k) ey;rwa [ai]at this
 refine⟨⟨by rw[Sx,Tn];lia,by rw[Sx,Sx,aa];rfl,by rw[Sx,Sx,aH];rfl,a6,_,Paired.snoc cH aN,bO,es,ky,kA,wJ,?_,nd⟩,⟨bO,ky⟩,?_⟩
 ·rw[ii,xc (P:=X.prog) (w:=X.w)]
 rintro aE aI ⟨aG,a8,eY,dN,jR,jT,um,nQ,uo,uq⟩ ah;exact⟨aG,a8,eY,dN,jR,jT,um,nQ,ah _ uo,uq⟩
end
def mF:List ZZ->Z0->ZZ->D->Z0
 |k'::ks,ds::dss,k,d=>if k'=k then(ds++[d])::dss else ds::mF ks dss k d
 |_,dss,_,_=>dss
def pU(ks:List ZZ)(dss:Z0)(k:ZZ)(d:D):List ZK:=if k∈ks then mF ks dss k d else dss++[[d]]
theorem uK{α:Type}:∀{ks:List ZZ}{as:List α}{k:ZZ}{x:α},bo ks as k=some x->∃j:Nat,as[j]?=some x/\∀{β:Type}(ds:List β),ds.length=as.length->bo ks ds k=ds[j]?
 |[],_,_,_,h=>by simp[bo]at h
 |_::_,[],_,_,h=>by simp[bo]at h
 |k'::ks,a::as,k,x,h=>by
  rw[bo]at h;by_cases e:k'=k
  ·rw[Tk e]at h;cases h;refine⟨0,rfl,λds ap=>?_⟩;cases ds with
   |nil=>simp at ap
   |cons d ds=>rw[bo,Tk e];rfl
  rw[Tl e]at h;obtain⟨j,h1,aa⟩:=uK h;refine⟨j+1,by simpa using h1,λds ap=>?_⟩;cases ds with
  |nil=>simp at ap
  |cons d ds=>rw[bo,Tl e,aa ds (by simpa using ap)];rfl
theorem Ik{α:Type}:∀{ks:List ZZ}{as:List α}{k:ZZ}{x:α},bo ks as k=some x->∃j:Nat,as[j]?=some x/\∀(dss:Z0)(ds:ZK)(d:D),dss.length=as.length->dss[j]?=some ds->bo ks dss k=some ds/\mF ks dss k d=dss.set j (ds++[d])
 |[],_,_,_,h=>by simp[bo]at h
 |_::_,[],_,_,h=>by simp[bo]at h
 |k'::ks,a::as,k,x,h=>by
  rw[bo]at h;by_cases e:k'=k
  ·rw[Tk e]at h;cases h;refine⟨0,rfl,λdss ds d ap hd=>?_⟩;cases dss with
   |nil=>simp at ap
   |cons y dss=>
    cases(show y=ds by simpa using hd);exact⟨by rw[bo,Tk e],by rw[mF,Tk e];rfl⟩
  rw[Tl e]at h;obtain⟨j,h1,aa⟩:=Ik h;refine⟨j+1,by simpa using h1,λdss ds d ap hd=>?_⟩;cases dss with
  |nil=>simp at ap
  |cons y dss=>
   obtain⟨aH,a6⟩:=aa dss ds d (by simpa using ap) (by simpa using hd);exact⟨by rw[bo,Tl e,aH],by rw[mF,Tl e,a6];rfl⟩
theorem Il:∀(ks:List ZZ)(dss:Z0)(k:ZZ)(d:D),(mF ks dss k d).length=dss.length
 |[],_,_,_=>by simp[mF]
 |_::_,[],_,_=>by simp[mF]
 |k'::ks,y::dss,k,d=>by
  rw[mF];split
  ·rfl
  rw[SM,Il ks dss k d,SM]
theorem aaq{ks:List ZZ}{dss:Z0}{k:ZZ}{d:D}(h:dss.length=ks.length):(pU ks dss k d).length=(eO ks k).length:=by
 unfold eO pU;split
 ·rw[Il];exact h
 rw[Sx,Sx,h];rfl
section
variable{K:Su}{R:am}{W:TI->Prop}{B az H ak:am}{σ:St}{ρ:ZM}
theorem aar{i:Nat}{v:V}(h:σ[i]?=some (some v)):σ.set i (some v)=σ:=by
 apply Uk;intro j;by_cases z:i=j
 ·subst z
  have lt:i<σ.length:=by
   by_cases z:i<σ.length
   ·exact z
   rw[S' (by lia)]at h;cases h
  rw[TK lt,h]
 rw[TF z]
theorem aas{i:Nat}{k:aK}(h:ρ[i]?=some k):ρ.set i k=ρ:=by
 apply Uk;intro j;by_cases z:i=j
 ·subst z
  have lt:i<ρ.length:=by
   by_cases z:i<ρ.length
   ·exact z
   rw[S' (by lia)]at h;cases h
  rw[TK lt,h]
 rw[TF z]
theorem aW.deepW(e:aW K R W B H σ ρ){i:Nat}{c c':ge}{x:TI}{o:eg}(ax:ρ[i]?=some (.deep c))(al:x∈c.adr::c.ins)(aw:c'.adr=c.adr)(sub:∀y∈c'.ins,y∈c.ins)(nd:(c'.adr::c'.ins).Nodup)(ok:o5 K (tn R B c') (upd H x o) c'):aW K R W B (upd H x o) σ (ρ.set i (.deep c')):=by
 obtain⟨b7,cc⟩:=e.deepAt ax;have q8:=cc.fr x al;have nw:¬W x:=λz=>e.wr x z q8.1;have hf:cF σ ρ i x:=.inr ⟨c,ax,al⟩
 have uL:∀y∈c'.adr::c'.ins,y∈c.adr::c.ins:=λy aP=>by
  rcases SG.mp aP with z|z
  ·rw[z,aw];exact Sw
  exact Sy _ (sub y z)
 refine⟨⟨λb u q z=>?_,λb u q=>?_,e.wb,λb z=>?_,e.wr⟩,by rw[Ui];exact e.len,λj k q=>?_,λa b y aP hz=>?_⟩
 ·rw[bV (by rintro rfl;rw[q8.1]at q;cases q)];exact e.fr b u q z
 ·rw[bV (by rintro rfl;rw[q8.2]at q;cases q)];exact e.bh b u q
 ·exact(e.wh b z).upd (by rintro rfl;exact nw z)
 ·rcases iV q with⟨rfl,rfl⟩|⟨n,q⟩
  ·exact⟨by rw[aw,b7];rfl,λy aP=>cc.fr y (uL y aP),nd,ok⟩
  have z:=e.ok j k q;have ne:∀y,cF σ ρ j y->y≠x:=λy m=>by rintro rfl;exact n (e.sep j i y m hf)
  cases k with
  |no=>trivial
  |new d=>exact z
  |pin v d=>exact z
  |val d=>exact z
  |own es=>
   obtain⟨b,aG,a8,eY,dN⟩:=z;exact⟨b,aG,a8,eY,dN.mono (cw.refl _) (bV (ne b (.inl ⟨hC aG,.inr ⟨es,q⟩⟩)))⟩
  |deep d=>exact⟨z.1,z.2.fr,z.2.nd,z.2.ok.mono (cw.refl _) λb gU=>bV (ne b (.inr ⟨d,q,gU⟩))⟩
  |bag=>
   obtain⟨b,aG,a8,eY,dN⟩:=z;exact⟨b,aG,a8,eY,dN.upd (ne b (.inl ⟨hC aG,.inl q⟩))⟩
 have back:∀a,cF σ (ρ.set i (.deep c')) a y->cF σ ρ a y:=λa m=>by
  rcases m with⟨a7,a5⟩|⟨d,a7,a5⟩
  ·refine .inl ⟨a7,?_⟩;rcases a5 with a5|⟨es,a5⟩
   ·rcases iV a5 with⟨_,z⟩|⟨_,a5⟩
    ·cases z
    exact .inl a5
   rcases iV a5 with⟨_,z⟩|⟨_,a5⟩
   ·cases z
   exact .inr ⟨es,a5⟩
  rcases iV a7 with⟨rfl,z⟩|⟨_,a7⟩
  ·cases z;exact .inr ⟨c,ax,uL y a5⟩
  exact .inr ⟨d,a7,a5⟩
 exact e.sep a b y (back a aP) (back b hz)
theorem aW.deepN(e:aW K R W B H σ ρ){i:Nat}{c c':ge}{p:TI}{vs:ZL}{o:eg}(ax:ρ[i]?=some (.deep c))(ag:H p=some (.lst vs))(ao:R p=none)(ae:B p=none)(aA:∀j,¬cF σ ρ j p)(aw:c'.adr=c.adr)(sub:∀y∈c'.ins,y∈c.ins\/y=p)(nd:(c'.adr::c'.ins).Nodup)(ok:o5 K (tn R B c') (upd H c.adr o) c'):aW K R W B (upd H c.adr o) σ (ρ.set i (.deep c')):=by
 obtain⟨b7,cc⟩:=e.deepAt ax;have q8:=cc.fr c.adr Sw;have nw:¬W c.adr:=λz=>e.wr _ z q8.1;have hf:cF σ ρ i c.adr:=.inr ⟨c,ax,Sw⟩
 have uL:∀y∈c'.adr::c'.ins,y∈c.adr::c.ins\/y=p:=λy aP=>by
  rcases SG.mp aP with z|z
  ·rw[z,aw];exact .inl Sw
  exact(sub y z).imp (Sy _) id
 refine⟨⟨λb u q z=>?_,λb u q=>?_,e.wb,λb z=>?_,e.wr⟩,by rw[Ui];exact e.len,λj k q=>?_,λa b y aP hz=>?_⟩
 ·rw[bV (by rintro rfl;rw[q8.1]at q;cases q)];exact e.fr b u q z
 ·rw[bV (by rintro rfl;rw[q8.2]at q;cases q)];exact e.bh b u q
 ·exact(e.wh b z).upd (by rintro rfl;exact nw z)
 ·rcases iV q with⟨rfl,rfl⟩|⟨n,q⟩
  ·exact⟨by rw[aw,b7];rfl,λy aP=>by
    rcases uL y aP with z|rfl
    ·exact cc.fr y z
    exact⟨ao,ae⟩,nd,ok⟩
  have z:=e.ok j k q;have ne:∀y,cF σ ρ j y->y≠c.adr:=λy m=>by rintro rfl;exact n (e.sep j i _ m hf)
  cases k with
  |no=>trivial
  |new d=>exact z
  |pin v d=>exact z
  |val d=>exact z
  |own es=>
   obtain⟨b,aG,a8,eY,dN⟩:=z;exact⟨b,aG,a8,eY,dN.mono (cw.refl _) (bV (ne b (.inl ⟨hC aG,.inr ⟨es,q⟩⟩)))⟩
  |deep d=>exact⟨z.1,z.2.fr,z.2.nd,z.2.ok.mono (cw.refl _) λb gU=>bV (ne b (.inr ⟨d,q,gU⟩))⟩
  |bag=>
   obtain⟨b,aG,a8,eY,dN⟩:=z;exact⟨b,aG,a8,eY,dN.upd (ne b (.inl ⟨hC aG,.inl q⟩))⟩
 have back:∀a,cF σ (ρ.set i (.deep c')) a y->cF σ ρ a y\/(a=i/\y=p):=λa m=>by
  rcases m with⟨a7,a5⟩|⟨d,a7,a5⟩
  ·refine .inl (.inl ⟨a7,?_⟩);rcases a5 with a5|⟨es,a5⟩
   ·rcases iV a5 with⟨_,z⟩|⟨_,a5⟩
    ·cases z
    exact .inl a5
   rcases iV a5 with⟨_,z⟩|⟨_,a5⟩
   ·cases z
   exact .inr ⟨es,a5⟩
  rcases iV a7 with⟨rfl,z⟩|⟨_,a7⟩
  ·cases z;rcases uL y a5 with z|z
   ·exact .inl (.inr ⟨c,ax,z⟩)
   exact .inr ⟨rfl,z⟩
  exact .inl (.inr ⟨d,a7,a5⟩)
 rcases back a aP with h1|⟨h1,qx⟩
 ·rcases back b hz with aa|⟨aa,qy⟩
  ·exact e.sep a b y h1 aa
  subst qy;exact absurd h1 (aA a)
 rcases back b hz with aa|⟨aa,_⟩
 ·subst qx;exact absurd aa (aA b)
 rw[h1,aa]
end
def aat(r:V->ZL->am->cq->Prop)(to:bK)(t:e8):bK:=λσ H Q=>to σ H λx au=>(∃a,x=.ref a/\G5 au a)/\t σ au λxs aS=>r x xs aS Q
theorem Im{X:aU}{o e:WP}{es:ZW}{to:bK}{t:e8}{name:Str}{dd cb:Pos}{id:String}{r:V->ZL->am->cq->Prop}(slot:Slot "dict" name id)(td:typeOf (.builtin id)=pure (.type "method_descriptor"))(aA:ta X id r)(ax:bY X o to)(aw:hp X (e::es) t)(fy:iv X o name:=by rfl)(hv:kI X cb (e::es):=by rfl)(fA:iw dd cb:=by rfl)(av:eQ X e es:=by rfl)(kJ:g8 X cb es:=by rfl):
  bY X (.Call (.Attribute o name dd) (e::es) [] cb) (aat r to t):=by
 intro aj s σ H Q I h;refine YM fy hv fA rfl (cl (ax aj s σ H _ I h) λv aC ⟨x,au,a',aq,⟨a,dv,b1,G7,ks1,as1,lS,hW⟩,aM⟩=>?_);subst dv;obtain rfl:v=Value.ref a:=aq;obtain⟨h1,aa⟩:=hW.typ a';refine⟨"dict",id,We,slot,td,h1,aa,?_⟩;have h2:=aw cb aj aC σ au _ a' aM;rw[av]at h2⊢;refine Calls.callWith_builtin (by show(false||(X8 cb (UV es X.env)).any (·.1))=false;rw[kJ]<;>rfl) (Calls.evalArgs_plain ?_);exact cl h2 λus bf ⟨vs,aS,da,aN,a4⟩=>aA aj bf σ aS (.ref a) vs (.ref a) us Q da rfl aN a4
def aau(b:Bool)(i:Nat):cQ:=λU ρ=>∀a,U.nx (ρ.set i (.deep (.dl b a [] [] [])))
def aav(b:Bool)(n:Nat)(gi mz:bg):cQ:=λU ρ=>∃a ks as dss,ρ[n]?=some (.deep (.dl b a ks as dss))/\gi ρ λy=>∃aJ,y=gr b aJ/\qY b aJ/\ks.length<TT/\dss.length=ks.length/\(∀ds,bo ks dss aJ=some ds->ds.length<TT) /\
 ∀as1 dss1,mz (ρ.set n (.deep (.dl b a (eO ks aJ) as1 dss1))) λd=>U.nx (ρ.set n (.deep (.dl b a (eO ks aJ) as1 (pU ks dss aJ d))))
section
variable{X:aU}{b:Bool}{n:Nat}{x:Str}{px pos fx dd cb j4 il qZ cr:Pos}{e f:WP}{gi mz:bg}
theorem aaw{i:Nat}(bF:X.N.Nodup)(hi:X.N[i]?=some x)(al:Loc X.env.scope x)(av:XA (.Dict [] [] qZ) (some (.Name x fx)) pos.line X.env=pure false:=by rfl)(bD:iO X x:=by walk_at"f"):
  fk X (.Assign [.Name x fx] (.Dict [] [] qZ) pos) (aau b i):=by
 refine⟨_,rI bF hi al (G' (b:=b)) av bD,λU ρ h R W B H σ D e s=>?_⟩;intro p ag;obtain⟨aT,bd,bA⟩:=e.toWd.fresh ag;refine s.nx _ _ B _ (h p) ((e.allocH ag _).set i ⟨rfl,λa aw=>?_,by simp[ge.adr,ge.ins],0,[],d9,.nil,λ_ _ z=>by simp at z,rfl,λj a ds z=>by simp at z⟩ (λa _ z=>by rcases z with z|⟨_,z⟩<;>cases z) λa aw j _ m=>?_) (bJ.refl _ _)
 ·have:a=p:=by simpa[ge.adr,ge.ins]using aw
  subst this;exact⟨aT,bA⟩
 have:a=p:=by simpa[aK.adrs,ge.adr,ge.ins]using aw
 subst this;exact e.notNew ag m rfl
theorem Io{α:Type}:∀{ks:List ZZ}{ds:List α}{k:ZZ}{x:α},bo ks ds k=some x->k∈ks
 |[],_,_,_,h=>by simp[bo]at h
 |_::_,[],_,_,h=>by simp[bo]at h
 |k'::ks,d::ds,k,x,h=>by
  rw[bo]at h;by_cases e:k'=k
  ·rw[e];exact Sw
  rw[Tl e]at h;exact Sy _ (Io h)
theorem Ip{K:Su}{t:bK}{U:iE}{D:nS}{ρ d7:ZM}{R:am}{W:TI->Prop}{B Iq H:am}{σ:St}{a x:TI}{ks1 ks:List ZZ}{as as1:ZV}{dss dss1:List (List L3.D)}{j:Nat}{ds:List L3.D}{F:L3.D->List (List L3.D)}(aN:e' K t mz)(ev:aW K R W B H σ d7)(ax:ρ[n]?=some (.deep (.dl b a ks as dss)))(ai:ρ.set n (.deep (.dl b a ks1 as1 dss1))=d7)(al:as1[j]?=some x)(hd:dss1[j]?=some ds)(ap:ds.length<TT)(g:bJ R Iq B)(ew:tq K R W Iq U D)(ay:mz (ρ.set n (.deep (.dl b a ks1 as1 dss1))) λd=>U.nx (ρ.set n (.deep (.dl b a ks1 as1 (F d)))))(f4:∀d,F d=dss1.set j (ds++[d])):
  vM K "list" (.ref x) H/\vG t vF σ H λxs cG=>EB (.ref x) xs cG λ_ jv=>D.nx σ jv:=by
 have Ir:n<ρ.length:=by
  by_cases z:n<ρ.length
  ·exact z
  rw[S' (by lia)]at ax;cases ax
 have sI:d7[n]?=some (.deep (.dl b a ks1 as1 dss1)):=by rw[<-ai,TK Ir]
 obtain⟨_,cc⟩:=ev.deepAt sI;obtain⟨_,_,_,_,_,mA⟩:=cc.ok;obtain⟨vs,aL,_⟩:=mA.at_ j x ds al hd;refine⟨.inl ⟨rfl,vs,cN.of aL⟩,?_⟩;rw[ai]at ay;refine aN d7 _ ay R W B H σ _ ev λd v bG aS a8 bd aI bf=>?_;obtain⟨d3,d4⟩:=bd.deepAt sI;obtain⟨gn,k6,b0,d6,hD,gs⟩:=d4.ok;have Cr:aS a=some (hB b a gn ks1 k6 (as1.map V.ref)):=b0;obtain⟨hg,Cs,Is⟩:=gs.at_ j x ds al hd;have q9:(a::as1).Nodup:=d4.nd;have cB:x∈as1:=S9 al;have aax:a≠x:=λz=>(Tq.mp q9).1 (by rw[z];exact cB);refine⟨x,hg,v,rfl,rfl,Cs,by rw[Is.length];exact ap,?_⟩;have bA:=bd.deepW (c':=.dl b a ks1 as1 (F d)) (x:=x) (o:=.lst (hg++[v])) sI (Sy _ cB) rfl (λy aP=>aP) q9 ⟨gn,k6,by rw[bV aax];exact Cr,d6,hD,by rw[f4,Ui];exact gs.len,λi y es aP kG=>?_⟩
 ·rw[<-ai,TY]at bA;exact ew.nx _ _ bG _ a8 bA (g.trans aI)
 rw[f4]at kG;by_cases z:j=i
 ·subst z;rw[al]at aP;cases aP;rw[TK (by have:=TJ.mp hd;exact this.1)]at kG;cases kG;exact⟨_,d9,Is.append (.cons bf .nil)⟩
 rw[TF z]at kG;obtain⟨us,xh,aay⟩:=gs.at_ i y es aP kG;refine⟨us,?_,aay⟩;rw[bV ?_]
 ·exact xh
 rintro rfl;have bQ:i<as1.length:=(TJ.mp aP).1;exact z ((WH bQ (Tq.mp q9).2).mp (aP.trans al.symm)).symm
theorem aaz(n:Nat)(a2:X.A.units+4<XO)(aD:br X e gi)(bD:br X f mz)(bF:gG X n x:=by rfl)(aL:gy X.env.scope x:=by walk_at"v")(hd:ed x:=by decide)(dI:gV x:=by decide)(fy:iv X (.Name x px) "setdefault":=by rfl)(hv:kI X cb [e,.List [] cr]:=by rfl)(fA:iw dd cb:=by rfl)(nu:UV [e,.List [] cr] X.env=(false,Yl e X.env)::UV [.List [] cr] X.env:=by rfl)(lu:UV [.List [] cr] X.env=(false,Yl (.List [] cr) X.env)::UV [] X.env:=by rfl)(aaA:(X8 cb (UV [.List [] cr] X.env)).any (·.1)=false:=by rfl)(B4:iv X (.Call (.Attribute (.Name x px) "setdefault" dd) [e,.List [] cr] [] cb) "append":=by rfl)(B5:kI X il [f]:=by rfl)(B6:iw j4 il:=by rfl)(qD:eQ X f []:=by rfl)(B7:g8 X il []:=by rfl)(iZ:XA (.Call (.Attribute (.Call (.Attribute (.Name x px) "setdefault" dd) [e,.List [] cr] [] cb) "append" j4) [f] [] il) none pos.line X.env=pure false:=by rfl):
  fk X (.Expr (.Call (.Attribute (.Call (.Attribute (.Name x px) "setdefault" dd) [e,.List [] cr] [] cb) "append" j4) [f] [] il) pos) (aav b n gi mz):=by
 obtain⟨_,h1,aq⟩:=aD;obtain⟨_,aa,aN⟩:=bD
 refine⟨_,rE (qj T9 VV VW vN
  (Im W9 PySem.F.type_dict_setdefault (aap (b:=b) a2) (g9 bF aL hd dI) (d5 h1 (d5 (vH fj) fj lu) nu) fy hv fA nu aaA)
  (d5 aa fj qD) B4 B5 B6 qD B7) iZ,λU ρ h R W B H σ D ev ew=>?_⟩
 obtain⟨a,ks,as,dss,ax,h⟩:=h;obtain⟨b7,cc⟩:=ev.deepAt ax;obtain⟨a0,m8,c4,c5,c6,mA⟩:=cc.ok;refine⟨_,b7,⟨a,rfl,b,a0,ks,m8,_,c4,my ev.bh c6 c5⟩,?_⟩;refine aq ρ _ h R W B H σ _ ev λy v aY au aG aT aE aC=>?_;obtain⟨aJ,rfl,ah,ap,agL,hz,ay⟩:=aG;obtain⟨c,rfl⟩:=sq aC;refine⟨Ti _,λp ag=>?_⟩;obtain⟨aM,a4,dx⟩:=aT.toWd.fresh ag;have bd:=aT.allocH ag (.lst []);have j':∀j,¬cF σ ρ j p:=λj m=>aT.notNew ag m rfl;obtain⟨_,d3⟩:=bd.deepAt ax;obtain⟨gn,k6,b0,d6,hD,gs⟩:=d3.ok;have Cr:(upd au p (.lst [])) a=some (hB b a gn ks k6 (as.map V.ref)):=b0;have xH:as.length=dss.length:=gs.len;have q9:(a::as).Nodup:=d3.nd;have agM:bo ks dss aJ=none\/∃ds,bo ks dss aJ=some ds:=by cases bo ks dss aJ with|none=>exact .inl rfl|some ds=>exact .inr ⟨ds,rfl⟩
 refine⟨a,c,.ref p,gn,ks,k6,as.map V.ref,aJ,rfl,rfl,⟨Cr,my bd.bh hD d6⟩,qX bd.bh ah aC,ap,λv aL=>?_,λaO xI=>?_⟩
 ·
  obtain⟨j,cS,eN⟩:=Ik aL
  have aaB:j<dss.length:=by
   have:=TJ.mp cS;obtain⟨z,_⟩:=this;rw[Sv]at z;lia
  have n6:=SU aaB
  obtain⟨x1,aaC,rfl⟩:∃x1,as[j]?=some x1/\v=.ref x1:=by
   rw[SW]at cS;cases q:as[j]? with
   |none=>rw[q]at cS;cases cS
   |some x1=>rw[q]at cS;exact⟨x1,rfl,(SO cS).symm⟩
  have m:aJ∈ks:=by
   by_cases z:aJ∈ks
   ·exact z
   have ib:(as.map V.ref).length=ks.length:=by
    have:=(eN dss dss[j] .non (by rw[Sv];lia) n6).1;obtain⟨_,aH,_⟩:=uK this
    exact absurd aH (by
     have:=Io aL
     exact absurd this z)
   exact absurd ((pE ib).mpr z) (by rw[aL];simp)
  have kx:eO ks aJ=ks:=Tk m;refine Ip (ds:=dss[j]) aN bd ax (by rw[kx];exact aas ax) aaC n6 (hz _ (eN dss dss[j] .non (by rw[Sv];lia) n6).1) aE ew (ay as dss) λd=>?_;rw[<-(eN dss dss[j] d (by rw[Sv];lia) n6).2];unfold pU;rw[Tk m]
 have ib:(as.map V.ref).length=ks.length:=by
  rw[Sv];lia
 have m:aJ∉ks:=(pE ib).mp aO;have kx:eO ks aJ=ks++[aJ]:=Tl m;rw[Sv]at ib
 have pa:a≠p:=λz=>by
  have:=cc.ok;obtain⟨_,Ct⟩:=aT.deepAt ax;exact Ct.ok.ne (a:=a) Sw (by rw[z];exact ag)
 have pin:p∉as:=λz=>by
  obtain⟨_,Ct⟩:=aT.deepAt ax;exact Ct.ok.ne (a:=p) (Sy _ z) ag
 have It:(a::(as++[p])).Nodup:=by
  rw[<-To,Wf];refine⟨q9,by simp,λx al y aP=>?_⟩;rw[SN.mp aP];rcases SG.mp al with z|z
  ·rw[z];exact pa
  rintro rfl;exact pin z
 have bA:=bd.deepN (c':=.dl b a (ks++[aJ]) (as++[p]) (dss++[[]])) (p:=p) (vs:=[]) (o:=hB b a xI (ks++[aJ]) (k6++[c]) (as.map V.ref++[.ref p])) ax d9 aM dx j' rfl (λy aP=>by
   rcases SK.mp aP with z|z
   ·exact .inl z
   exact .inr (SN.mp z)) It ⟨xI,k6++[c],by
   show upd _ a _ a=_
   rw[d9,Sz];rfl,?_,?_,by rw[Sx,Sx,xH];rfl,λi y es aP kG=>?_⟩
 ·have bA:aW X.K R W aY (upd (upd au p (.lst [])) a (hB b a xI (ks++[aJ]) (k6++[c]) (as.map V.ref++[.ref p]))) σ (ρ.set n (.deep (.dl b a (eO ks aJ) (as++[p]) (dss++[[]])))):=by rw[kx];exact bA
  refine Ip (F:=λd=>pU ks dss aJ d) (ds:=[]) (j:=as.length) (x:=p) (as1:=as++[p]) (dss1:=dss++[[]]) (ks1:=eO ks aJ) aN bA ax rfl (by rw[Tr (SF _)];simp) (by rw[xH,Tr (SF _)];simp) (by decide) aE ew (ay _ _) λd=>?_;unfold pU;rw[Tl m,xH,List.set_append_right _ _ (SF _)];simp
 ·rw[Sz,Sz];exact d6.append (.cons aC .nil)
 ·intro z k' aaD;rcases SK.mp aaD with w|w
  ·exact hD z k' w
  rw[SN.mp w];exact ah z
 have aaE:y≠a:=by
  rintro rfl;have:y∈as++[p]:=S9 aP;exact(Tq.mp It).1 this
 show ∃vs,upd _ a _ y=_/\_
 rw[bV aaE];by_cases z:i<as.length
 ·rw[TQ z]at aP;rw[TQ (by lia)]at kG;exact gs.at_ i y es aP kG
 rw[Tr (by lia)]at aP kG
 have fN:i-as.length=0:=by
  by_cases q:i-as.length=0
  ·exact q
  rw[S' (by simp;lia)]at aP;cases aP
 rw[fN]at aP;rw[<-xH,fN]at kG;simp at aP kG;subst aP kG;exact⟨[],d9,.nil⟩
end
section
variable{K:Su}{R:am}{W:TI->Prop}{B az H ak:am}{σ:St}{ρ:ZM}
theorem aW.fzIn:∀{as:ZV}{dss:Z0}{B:am},aW K R W B H σ ρ->as.Nodup->ma K B H as dss->(∀a∈as,R a=none/\B a=none/\∀i,¬cF σ ρ i a)->∃az,aW K R W az H σ ρ/\bJ R B az/\Reps K az (as.map V.ref) (dss.map D.lst)/\∀a,a∉as->az a=B a
 |[],[],B,e,_,_,_=>⟨B,e,bJ.refl _ _,.nil,λ_ _=>rfl⟩
 |[],_::_,_,_,_,h,_=>by have:=h.len;simp at this
 |_::_,[],_,_,_,h,_=>by have:=h.len;simp at this
 |a::as,ds::dss,B,e,nd,h,bD=>by
  obtain⟨vs,h1,aa⟩:=h.at_ 0 a ds rfl rfl;obtain⟨aT,bd,bA⟩:=bD a Sw;obtain⟨ai,aE⟩:=e.freeze h1 aT bd bA;obtain⟨c8,cO⟩:=Tq.mp nd
  have h':ma K (upd B a (.lst vs)) H as dss:=⟨by have:=h.len;simpa using this,λi x es al aD=>by
   obtain⟨us,db,dV⟩:=h.at_ (i+1) x es (by simpa using al) (by simpa using aD)
   exact⟨us,db,dV.mono aE.s⟩⟩
  obtain⟨bG,ar,aI,aN,kA⟩:=aW.fzIn ai cO h' λx al=>by
   obtain⟨aM,a4,dx⟩:=bD x (Sy _ al);exact⟨aM,by rw[bV (by rintro rfl;exact c8 al)];exact a4,dx⟩
  refine⟨bG,ar,aE.trans aI,.cons (.lst (aI.s _ _ d9) (aa.mono (aE.trans aI).s)) aN,λx al=>?_⟩;rw[kA x λz=>al (Sy _ z),bV (by rintro rfl;exact al Sw)]
theorem aW.fzDL(e:aW K R W B H σ ρ){i:Nat}{c:ge}(ax:ρ[i]?=some (.deep c)):∃az,bJ R B az/\aW K R W az H σ (ρ.set i (.val (match c with|.ll _ _ dss=>.lst (dss.map D.lst)|.dl b _ ks _ dss=>.dct b ks (dss.map D.lst)|.nl _ ds=>.lst ds))):=by
 obtain⟨b7,cc⟩:=e.deepAt ax;have f:=e.setV (d:=.non) i (v:=.non) .non
 have hf:∀x∈c.adr::c.ins,∀j,¬cF (σ.set i (some V.non)) (ρ.set i (.val .non)) j x:=λx al j m=>by
  obtain⟨n,m⟩:=rT m (by simp) (by simp) rfl;exact n (e.sep j i x m (.inr ⟨c,ax,al⟩))
 have Ir:i<ρ.length:=by
  by_cases z:i<ρ.length
  ·exact z
  rw[S' (by lia)]at ax;cases ax
 have e9:∀(o:eg)(dss:Z0)(d:D),H c.adr=some o->ma K B H c.ins dss->(∀bG,cw B bG->bG c.adr=some o->Reps K bG (c.ins.map V.ref) (dss.map D.lst)->bU K bG (.ref c.adr) d)->∃az,bJ R B az/\aW K R W az H σ (ρ.set i (.val d)):=λo dss d h1 aa aH=>by
  obtain⟨c8,cO⟩:=Tq.mp cc.nd;obtain⟨bG,ar,aI,aN,kA⟩:=f.fzIn cO aa λx al=>⟨(cc.fr x (Sy _ al)).1,(cc.fr x (Sy _ al)).2,hf x (Sy _ al)⟩;obtain⟨aM,a4⟩:=cc.fr c.adr Sw;obtain⟨bb,g3⟩:=ar.freezeO h1 aM (by rw[kA _ c8];exact a4) (hf _ Sw);refine⟨_,aI.trans g3,?_⟩;have b0:=bb.setV i (aH _ (aI.trans g3).s d9 (aN.mono g3.s));rwa[TY,TY,aar b7]at b0
 cases c with
 |ll a as dss=>exact e9 _ dss _ cc.ok.1 cc.ok.2 λbG s h r=>.lst h r
 |dl b a ks as dss=>
  obtain⟨a0,m8,h1,aa,aH,a6⟩:=cc.ok;exact e9 _ dss _ h1 a6 λbG s h r=>.dct h (aa.mono s) aH r
 |nl a ds=>
  obtain⟨vs,h1,aa⟩:=cc.ok;exact e9 _ [] _ h1 ⟨rfl,λi a ds z=>by simp[ge.ins]at z⟩ λbG s h r=>.lst h ((aa.mono tm).mono s)
end
def aaF(i:Nat)(s:cQ):cQ:=λU ρ=>∃b a ks as dss,ρ[i]?=some (.deep (.dl b a ks as dss))/\s U (ρ.set i (.val (.dct b ks (dss.map D.lst))))
section
variable{X:aU}{bj:WP}{w:df}{pos:Pos}
theorem aaG{st:ZX}{s:cQ}(i:Nat)(h:h6 X st s):h6 X st (aaF i s):=by
 obtain⟨_,h1,aq⟩:=h;refine⟨_,h1,λU ρ h R W B H σ D e ew=>?_⟩;obtain⟨b,a,ks,as,dss,ax,z⟩:=h;obtain⟨az,g,bv⟩:=e.fzDL ax;exact aq U _ z R W az H σ D bv (ew.grow g)
end
end L3
namespace Cut
open PySem L2 L3
open PySem.Builtin.Int (intBits)
theorem Iu{n N:Int}{m:Nat}(cd:0<n)(i7:0<N)(h:n∣N)(b:SC N<=m):SC n<=m:=by
 have:=Int.le_of_dvd i7 h;rw[intBits_le_iff]at b⊢;lia
end Cut
namespace L3
open PySem L2
theorem Iv{α:Type}{f g h:α->D}{u:bg}{fs:ZM}:∀{rs:List α}{eM eL:aK}{k:ZK->Prop},(∀r∈rs,∀k:D->Prop,k (h r)->u (.val (f r)::.val (g r)::fs) k)->k (rs.map h)->hI (me 2 (g2 (fb 0) (g2 (fb 1) md))) iI u (rs.map λr=>.tup [f r,g r]) (eM::eL::fs) k
 |[],_,_,_,_,ah=>ah
 |r::rs,eM,eL,k,a2,ah=>by
  refine⟨_,rfl,rfl,_,_,rfl,_,_,rfl,rfl,?_⟩;show(if true=true then u (.val (f r)::.val (g r)::fs) λy=>hI (me 2 (g2 (fb 0) (g2 (fb 1) md))) iI u (rs.map λr=>.tup [f r,g r]) (.val (f r)::.val (g r)::fs) λys=>k (y::ys)else hI (me 2 (g2 (fb 0) (g2 (fb 1) md))) iI u (rs.map λr=>.tup [f r,g r]) (.val (f r)::.val (g r)::fs) k)
  rw[Tk rfl];exact a2 r Sw _ (Iv (λq ay=>a2 q (Sy _ ay)) ah)
section
variable{X:aU}{e:WP}{es:ZW}{w:df}{u db dV:bg}{p pos:Pos}{n:Nat}{agN F2:ck}
theorem Reps.dropLast{K:Su}{B:am}:∀{vs:ZL}{ds:ZK},Reps K B vs ds->Reps K B vs.dropLast ds.dropLast
 |_,_,.nil=>.nil
 |_,_,.cons r .nil=>.nil
 |_,_,.cons r (.cons aN t)=>.cons r (Reps.dropLast (.cons aN t))
end
end L3
namespace Cut
open PySem L2 L3
open PySem.Builtin.Int (intBits)
theorem aaH{l a b c:ab}(ap:l.1≠0\/l.2.1≠0)(aw:ln l a=0)(ae:ln l b=0)(hc:ln l c=0)(g6:0<c.2.2):be a b c=0:=by
 have ai:l.1*be a b c=0:=by
  unfold ln at aw ae hc;unfold be crs;grind
 have ar:l.2.1*be a b c=0:=by
  unfold ln at aw ae hc;unfold be crs;grind
 rcases ap with h|h
 ·exact(Tt.mp ai).resolve_left h
 exact(Tt.mp ar).resolve_left h
theorem aaI{l:ab}{bz:ZJ}(ap:l.1≠0\/l.2.1≠0)(t:T0 bz)(ag:∀p∈bz,0<p.2.2):(bz.filter λx=>decide (ln l x=0)).length<=2:=by
 have cU:=t.sub (List.filter_sublist (p:=λx=>decide (ln l x=0)))
 have z:∀x∈bz.filter λx=>decide (ln l x=0),ln l x=0/\0<x.2.2:=λx al=>by
  have:=TN.mp al;exact⟨by simpa using this.2,ag x this.1⟩
 match h:bz.filter λx=>decide (ln l x=0),cU,z with
 |[],_,_=>simp
 |[_],_,_=>simp
 |[_,_],_,_=>simp
 |a::b::c::r,cU,z=>
  exfalso
  have:=cU.1.1 c (by simp);have e:=aaH ap (z a (by simp)).1 (z b (by simp)).1 (z c (by simp)).1 (z c (by simp)).2;lia
def pos(f:ab->Int)(ps:ZJ):Nat:=(ps.filter λx=>decide (0<f x)).length
theorem Iw{f:ab->Int}{mt:ab->ab->ab}(aA:∀p q,f p*f q<0->f (mt p q)=0):∀(ps:ZJ)(w:ab),pos f (di f mt ps w)<=pos f ps
 |[],_=>SF _
 |p::r,w=>by
  have b9:=Iw aA r w;show pos f (kp f p++cB f mt p (r.headD w)++di f mt r w)<=_
  unfold pos at b9⊢;rw[U3,U3,Sx,Sx]
  have h1:((kp f p).filter λx=>decide (0<f x)).length=if 0<f p then 1 else 0:=by
   unfold kp;by_cases z:0<f p
   ·rw[Tk (by lia),Tk z];simp[z]
   rw[Tl z];by_cases y:0<=f p
   ·rw[Tk y];simp[z]
   rw[Tl y];rfl
  have aa:((cB f mt p (r.headD w)).filter λx=>decide (0<f x)).length=0:=by
   unfold cB;by_cases z:f p*f (r.headD w)<0
   ·rw[Tk z,Vr,Tl (by rw[aA _ _ z];decide)];rfl
   rw[Tl z];rfl
  rw[h1,aa,Vr];by_cases z:0<f p
  ·rw[Tk z,Tk (by simpa using z),SM];lia
  rw[Tl z,Tl (by simpa using z)];lia
theorem aaJ{l:ab}{mt:ab->ab->ab}{ps:ZJ}(hQ:ov l mt)(ap:l.1≠0\/l.2.1≠0)(t:T0 (dz (ln l) mt ps))(ag:∀p∈dz (ln l) mt ps,0<p.2.2):(dz (ln l) mt ps).length<=ps.length+1:=by
 have a8:=aaI ap t ag;have agO:pos (ln l) (dz (ln l) mt ps)<=pos (ln l) ps:=Iw (λp q h=>(hQ p q h).2) ps _
 have Ix:∀bz:ZJ,(∀x∈bz,0<=ln l x)->bz.length=pos (ln l) bz+(bz.filter λx=>decide (ln l x=0)).length:=by
  intro bz;induction bz with
  |nil=>intro _;rfl
  |cons q bz b9=>
   intro h;have i:=b9 λx al=>h x (Sy _ al);have ih:=h q Sw;unfold pos at i⊢;rw[Vr,Vr];by_cases z:ln l q=0
   ·rw[Tl (by simp[z]),Tk (by simp[z]),SM,SM];lia
   rw[Tk (by simp;lia),Tl (by simp[z]),SM,SM];lia
 have aaK:∀x∈dz (ln l) mt ps,0<=ln l x:=λx al=>by
  rcases wQ al with⟨_,h⟩|⟨p,_,q,_,h,rfl⟩
  ·exact h
  have:=(hQ p q h).2;lia
 have e:=Ix _ aaK;have le:pos (ln l) ps<=ps.length:=Vm _ _;by_cases all:pos (ln l) ps=ps.length
 ·
  have ux:∀x∈ps,0<ln l x:=λx al=>by
   have:=List.length_filter_eq_length_iff.mp all x al;simpa using this
  have aaL:(dz (ln l) mt ps).filter (λx=>decide (ln l x=0))=[]:=by
   rw[List.filter_eq_nil_iff];intro x al;rcases wQ al with⟨h,_⟩|⟨p,h1,q,aa,h,rfl⟩
   ·have:=ux x h;simp;lia
   have a:=ux p h1;have b:=ux q aa;have:=SE a b;lia
  rw[aaL]at e;simp at e;lia
 lia
structure gR (b m n t:Nat) (s:ba):Prop where
 cv:fg s.1
 rb:w9 b m s.1
 ln:s.1.length<=n
 st:cT t s.2.2
theorem gR.mono{b m n t hx dH ka t':Nat}{s:ba}(h:gR b m n t s)(h1:b<=hx)(aa:m<=dH)(aH:n<=ka)(a6:t<=t'):gR hx dH ka t' s:=
 ⟨h.cv,⟨λx al=>(h.rb.pts x al).mono h1,λe aD=>by obtain⟨g,a,c⟩:=h.rb.lin e aD;exact⟨g,a.mono aa,c⟩⟩,SD h.ln aH,h.st.mono a6⟩
theorem w9.cut2{b c m:Nat}{l:ab}{ps:ZJ}(h:w9 b m ps)(bl:cp c l)(Cu:c<=m)(ap:l.1≠0\/l.2.1≠0\/l.2.2≠0)(o:ab)(ax:Cut.ln l o=0)(aA:c+m+1<=b)(e0:ab)(e:e0=l\/e0=jA l):w9 b m (dz (Cut.ln e0) (a1 l) ps):=by
 have hQ:ov e0 (a1 l):=by
  rcases e with rfl|rfl
  ·exact wX _
  exact(wX _).ng
 have q7:∀u,Cut.ln e0 u=0↔Cut.ln l u=0:=λu=>by
  rcases e with rfl|rfl
  ·exact Iff.rfl
  rw[qT];lia
 have h3:∀p q,Cut.ln e0 p*Cut.ln e0 q<0->Cut.ln l p*Cut.ln l q<0:=λp q z=>by
  rcases e with rfl|rfl
  ·exact z
  rwa[qT,qT,Uy]at z
 refine⟨λx al=>?_,Qu (f:=Cut.ln e0) (mt:=a1 l) (ps:=ps) (C:=λu v=>∃g:ab,cp m g/\(g.1≠0\/g.2.1≠0\/g.2.2≠0)/\Cut.ln g u=0/\Cut.ln g v=0) (λu v a2 aL=>⟨l,bl.mono Cu,ap,(q7 u).mp a2,(q7 v).mp aL⟩) o ((q7 o).mpr ax) (λe aD _ _=>h.lin e aD) λe aD c=>?_⟩
 ·rcases QG al with⟨h1,_⟩|⟨e,aD,c,rfl⟩
  ·exact h.pts x h1
  have c:=h3 _ _ c;obtain⟨a7,a5⟩:=lP aD;have gp:=(h.pts _ a7).pt;have pP:=(h.pts _ a5).pt;have cd:=ou gp pP c;obtain⟨g,g1,ft,uM,uN⟩:=h.lin e aD
  have aaM:(crs e.1 e.2).1≠0\/(crs e.1 e.2).2.1≠0\/(crs e.1 e.2).2.2≠0:=by
   apply UB;intro z;refine cd ?_;have aG:(crs e.1 e.2).1=0:=UB λy=>z (.inl y);have a8:(crs e.1 e.2).2.1=0:=UB λy=>z (.inr (.inl y));show l.1*(crs e.1 e.2).2.1-l.2.1*(crs e.1 e.2).1=0
   rw[aG,a8];grind
  obtain⟨a,hx,aw,ae,h8⟩:=par ft uM uN aaM;obtain⟨cO,ar⟩:=QH (l:=l) aw ae h8 cd;rw[<-ot gp pP,ar];exact⟨gv cO,(cp.nP (bl.crs g1) cO).mono aA⟩
 obtain⟨g,g1,ft,uM,uN⟩:=h.lin e aD;obtain⟨kw,z⟩:=hQ _ _ c;exact⟨z,λ_=>⟨g,g1,ft,uM,kw.ln0 uM uN⟩,λ_=>⟨g,g1,ft,kw.ln0 uM uN,uN⟩⟩
theorem sJ{b c m n t:Nat}{l o:ab}{sh:ZN}(h:∀s∈sh,gR b m n t s)(bl:cp c l)(Cu:c<=m)(ap:l.1≠0\/l.2.1≠0)(ax:Cut.ln l o=0)(aA:c+m+1<=b)(e0:ab)(e:e0=l\/e0=jA l):∀s∈dA (Cut.ln e0) (a1 l) sh,gR b m (n+1) t s:=λs av=>by
 obtain⟨q,ay,rfl,c⟩:=QB av;have g:=h q ay
 have hQ:ov e0 (a1 l):=by
  rcases e with rfl|rfl
  ·exact wX _
  exact(wX _).ng
 have Cv:e0.1≠0\/e0.2.1≠0:=by
  rcases e with rfl|rfl
  ·exact ap
  rcases ap with z|z
  ·exact .inl (by unfold jA sc;dsimp only;lia)
  exact .inr (by unfold jA sc;dsimp only;lia)
 obtain⟨ea,e2⟩:=Qe hQ.meets ((qO q.1).mpr g.cv.tri) g.cv.1 c;have rb:=g.rb.cut2 bl Cu (ap.imp id .inl) o ax aA e0 e;refine⟨qN.cvx e2 ((qO _).mp ea),rb,?_,g.st⟩;have:=aaJ hQ Cv ea λp ag=>(rb.pts p ag).pt.1;have:=g.ln;show(dz (Cut.ln e0) (a1 l) q.1).length<=n+1
 lia
theorem cp.slA{m g:Nat}{l v:ab}(ap:cp m l)(aL:cp g v):cp (m+g+2) (slA v l):=by
 refine⟨SD (TE ap.a aL.c) (by lia),SD (TE ap.b aL.c) (by lia),?_⟩;have a:=TE ap.c aL.c;have b:=TE ap.a aL.a;have c:=TE ap.b aL.b;have d:=Yx a b;rw[Nat.max_self]at d;have e:=Yx d (SD c (TV _));rwa[Nat.max_self]at e
theorem aaN{v l p:ab}:∃c:Int,Cut.ln (slA v l) (Cut.sld v p)=c*Cut.ln l p:=⟨v.2.2*v.2.2,by
 unfold slA Cut.sld Cut.ln;dsimp only
 grind⟩
theorem gR.slid{b m n t g:Nat}{v:ab}{s:ba}(h:gR b m n t s)(aL:cT g v):gR (b+g+1) (m+g+2) n (t+g+1) (lN v s):=by
 have eM:=aL.pt.1;refine⟨?_,⟨λx al=>?_,λe aD=>?_⟩,?_,⟨gv (t7 aL.pt h.st.pt),aL.bp.sldN h.st.bp aL.pt h.st.pt⟩⟩
 ·exact h.cv.sl aL.pt λp ag=>(h.rb.pts p ag).pt
 ·obtain⟨p,ag,rfl⟩:=SJ.mp al;have:=h.rb.pts p ag;exact⟨gv (t7 aL.pt this.pt),aL.bp.sldN this.bp aL.pt this.pt⟩
 ·have aD:e∈dk (s.1.map λp=>nP (Cut.sld v p)):=aD;rw[BP]at aD;obtain⟨d,hd,rfl⟩:=SJ.mp aD;obtain⟨l,bl,nC,aG,a8⟩:=h.rb.lin d hd
  have on:∀p,aX p->Cut.ln l p=0->Cut.ln (slA v l) (nP (Cut.sld v p))=0:=λp ag z=>by
   obtain⟨c,hc⟩:=aaN (v:=v) (l:=l) (p:=p);rw[z,S2]at hc;obtain⟨k,dS,ah⟩:=kr (t7 aL.pt ag);rw[ah,Bg]at hc;exact(Tt.mp hc).resolve_left dS
  obtain⟨a7,a5⟩:=lP hd;refine⟨slA v l,bl.slA aL.bp,?_,on _ (h.rb.pts _ a7).pt aG,on _ (h.rb.pts _ a5).pt a8⟩;unfold slA;dsimp only;by_cases z:l.1=0
  ·by_cases y:l.2.1=0
   ·have:l.2.2≠0:=by
     rcases nC with q|q|q
     ·exact absurd z q
     ·exact absurd y q
     exact q
    refine .inr (.inr ?_);rw[z,y,TZ,TZ,Wi,Wi];exact S0 this (by lia)
   exact .inr (.inl (S0 y (by lia)))
  exact .inl (S0 z (by lia))
 show(s.1.map _).length<=n
 rw[Sv];exact h.ln
structure Cw (s:ba):Prop where
 ps:∀p∈s.1,cT 2770 p
 ln:s.1.length<=75
 st:cT 2770 s.2.2
theorem gR.gm{b m n t:Nat}{s:ba}(h:gR b m n t s)(h1:b<=2770)(aa:n<=75)(aH:t<=2770):Cw s:=⟨λp ag=>(h.rb.pts p ag).mono h1,SD h.ln aa,h.st.mono aH⟩
def Cx(sh:ZN):D:=.lst (sh.map bH)
theorem Cy{X:Int×Int}{q:Nat}(l:a3 X.1 X.2)(b1:SC X.1<=q)(b2:SC X.2<=q):cp (2*q+5) (ce X):=by
 have aE:=lU (x:=X.1) (y:=X.2) (u:=0) (v:=1) (n:=2) b1 b2 (by decide) (by decide) l ⟨by decide,by decide⟩;have aI:=lU (x:=X.1) (y:=X.2) (u:=1) (v:=1) (n:=2) b1 b2 (by decide) (by decide) l ⟨by decide,by decide⟩;exact(aE.crs aI).mono (by lia)
theorem Cz{X:Int×Int}{q:Nat}(l:a3 X.1 X.2)(b1:SC X.1<=q)(b2:SC X.2<=q):cp (2*q+5) (cz X):=by
 have aE:=lU (x:=0) (y:=1) (u:=X.1) (v:=X.2) (m:=2) (by decide) (by decide) b1 b2 ⟨by decide,by decide⟩ l;have aI:=lU (x:=1) (y:=1) (u:=X.1) (v:=X.2) (m:=2) (by decide) (by decide) b1 b2 ⟨by decide,by decide⟩ l;exact(aE.crs aI).mono (by lia)
abbrev fH:=F2×F2×ZN
abbrev ZQ:=List fH
def d8(b:fH):D:=.tup [dR b.1,dR b.2.1,Cx b.2.2]
theorem aaO{a b:F2}{p q:Nat}(bQ:a3 a.1 a.2)(bS:a3 b.1 b.2)(b1:SC a.1<=p)(b2:SC a.2<=p)(b3:SC b.1<=q)(b4:SC b.2<=q):cT (p+q) (dh a b):=⟨(lL (n:=a.2*b.2) (SA (SE bQ.1 bS.1))).1,lU b1 b2 b3 b4 bQ bS⟩
theorem aaP{a b:F2}(bQ:a3 a.1 a.2)(bS:a3 b.1 b.2)(e:bu a=bu b):a=b:=by
 have c:=BZ bQ.1 bS.1 e;have h1:=wB (t:=a.1) (b:=a.2) bQ (SA bQ.1) rfl;have aa:=wB (t:=a.1) (b:=a.2) bS (SA bQ.1) c.symm;exact h1.symm.trans aa
end Cut
namespace L3
open PySem L2
theorem aaQ{α:Type}(xs:List α)(x:α):gE (xs++[x]) none (some (-1))=xs:=by
 unfold gE;have ai:HT.sIx (xs++[x]).length 0 none=0:=rfl
 have ar:HT.sIx (xs++[x]).length (xs++[x]).length (some (-1))=xs.length:=by
  unfold HT.sIx;simp
  try lia
 rw[ai,ar,V1,Nat.sub_zero,List.take_left]
end L3
namespace Cut
open PySem L2 L3
def eV(φ:ZZ->Int)(b:Bool)(xJ:List ZN):Rat:=(xJ.map (d0 φ b)).sum
theorem pV(φ:ZZ->Int)(b:Bool)(S:ZN)(xJ:List ZN):eV φ b (S::xJ)=d0 φ b S+eV φ b xJ:=by unfold eV;rw[SH,Tb]
theorem kH(φ:ZZ->Int)(b:Bool):∀(A B:List ZN),eV φ b (A++B)=eV φ b A+eV φ b B
 |[],B=>by show _=(0:Rat)+_;rw[Te];grind
 |S::A,B=>by rw[To,pV,pV,kH φ b A B];grind
theorem CA(φ:ZZ->Int)(b:Bool)(S:ZN):eV φ b [S]=d0 φ b S:=by rw[pV];show _+(0:Rat)=_;grind
end Cut
namespace Cut
open PySem L2 L3
open PySem.Builtin.Int (intBits)
def j5(m:Nat):Nat->Nat
 |0=>m
 |s+1=>2*j5 m s+3
structure q' (m n:Nat) (ps:ZJ) (s:Nat) (rs:Z1):Prop where
 ln:rs.length=s+1
 cv:∀r∈rs,fg r
 le:∀r∈rs,r.length<=n+s
 gp:∀r∈rs,∀p∈r,cT (j5 m s) p
 bal:∀φ,fW φ rs=eA φ ps
theorem aaR{m n:Nat}{ps:ZJ}(cv:fg ps)(ag:∀p∈ps,cT m p)(ap:ps.length<=n):q' m n ps 0 [ps]:=
 ⟨rfl,λr ao=>by rw[SN.mp ao];exact cv,λr ao=>by rw[SN.mp ao];exact ap,λr ao=>by rw[SN.mp ao];exact ag,λφ=>q4 φ ps⟩
theorem Iy(m s:Nat):j5 m s<=j5 m (s+1):=by show j5 m s<=2*j5 m s+3;lia
theorem q'.step{ps bz us:ZJ}{m cd s n:Nat}{rs:Z1}{r:ZJ}(h:q' m cd ps s rs)(aO:rs[n]?=some r)(ok:Ca (2*j5 m s+3) (r.length+1) r bz us):q' m cd ps (s+1) (rs.eraseIdx n++[bz,us]):=by
 have aA:r∈rs:=S9 aO
 have de:n<rs.length:=by
  rcases U4 n rs.length with q|q
  ·exact q
  rw[S' q]at aO;cases aO
 have xK:=h.le r aA
 have mem:∀{P:ZJ->Prop},(∀x∈rs,P x)->P bz->P us->∀x∈rs.eraseIdx n++[bz,us],P x:=λa b c x al=>by
  rcases SK.mp al with al|al
  ·exact a x (List.mem_of_mem_eraseIdx al)
  simp at al;rcases al with rfl|rfl
  ·exact b
  exact c
 refine⟨?_,mem h.cv ok.a ok.b,mem (λx al=>Nat.le_succ_of_le (h.le x al)) (SD ok.la (by lia)) (SD ok.lb (by lia)),mem (λx al p ag=>(h.gp x al p ag).mono (Iy m s)) ok.pa ok.pb,λφ=>?_⟩
 ·rw[Sx,W' de,h.ln];show _+2=_;have:=h.ln;lia
 have e:=H5 φ aO;have b:=ok.bal φ;have t:=h.bal φ;rw[uz,j3,q4];grind
structure uO (m n:Nat) (s:ba):Prop where
 ps:∀p∈s.1,cT m p
 cv:fg s.1
 ln:s.1.length<=n
 st:cT 20 s.2.2
theorem aaS(p q:ab):ln (crs p q) q=0:=by show be p q q=0;exact HI _ _
theorem uO.px{m n b:Nat}{s:ba}(h:uO m n s)(ae:m<=b):gR b (m+m+1) n 20 s:=
 ⟨h.cv,⟨λp ag=>(h.ps p ag).mono ae,λe aD=>by
  obtain⟨h1,aa⟩:=lP aD;refine⟨crs e.1 e.2,(h.ps _ h1).bp.crs (h.ps _ aa).bp,?_,QF _ _,aaS _ _⟩;rcases mC (h.ps _ h1).pt (h.ps _ aa).pt (h.cv.side aD)with z|z
  ·exact .inl z
  exact .inr (.inl z)⟩,h.ln,h.st⟩
theorem q'.sheet{m n:Nat}{ps:ZJ}{s c:Nat}{sh:ZN}(h:q' m n ps s (sh.map λt=>t.1))(av:s<=c)(aA:j5 m s<=j5 m c)(st:∀t∈sh,cT 20 t.2.2):(∀t∈sh,uO (j5 m c) (n+c) t)/\sh.length<=c+1/\cP (sh.map λt=>t.1) [ps]:=by
 refine⟨λt aR=>?_,?_,λφ=>by rw[h.bal φ,q4]⟩
 ·have uJ:t.1∈sh.map λt=>t.1:=SJ.mpr ⟨t,aR,rfl⟩;exact⟨λp ag=>(h.gp _ uJ p ag).mono aA,h.cv _ uJ,SD (h.le _ uJ) (by lia),st t aR⟩
 have:=h.ln;rw[Sv]at this;lia
theorem CB{m:Nat}:∀{s c:Nat},s<=c->j5 m s<=j5 m c
 |s,0,h=>by rw[show s=0 by lia];exact SF _
 |s,c+1,h=>by
  by_cases e:s=c+1
  ·rw[e];exact SF _
  exact SD (CB (s:=s) (c:=c) (by lia)) (Iy m c)
theorem aaT{x y n:Int}(fe : -40<=x)(x1:x<=40)(e1 : -40<=y)(dy:y<=40)(cd:0<n)(c8:n<=3):cT 20 (cy x y n):=by
 have b:∀z:Int,-40<=z->z<=40->SC z<=20:=λz lM aG=>SD (intBits_le_iff.mpr (show z.natAbs<2^6 by show z.natAbs<64;lia)) (by decide);exact⟨gv (p:=(x,y,n)) (SA cd),cp.nP (p:=(x,y,n)) ⟨b x fe x1,b y e1 dy,b n (by lia) (by lia)⟩ (SA cd)⟩
end Cut
namespace L2
open PySem PySem.Spec PyProof.Rows PySem.W L3
section
variable{X:aU}{aj:ZY}{σ:St}{H:am}{s:TD}{h':XB}
theorem Inv.turnedL{t':Nat}{fs:ZV}(I:Inv X aj σ H s)(k:∀b o,b∉fs->s.heap.get? b=some o->h'.get? b=some o)(f:∀b∈fs,gH X aj H b):Inv X aj σ H {s with heap:=h',toks:=t' }:=by
 have mU:∀b u,H b=some u->b∉fs:=λb u q m=>by rw[(f b m).1]at q;cases q
 refine I.step (g':=s.gens) (d':=s.drawn) (ch:=fs) (λb ae=>?_) (λb o _ _ hc q _=>k b o hc q) (λb o _ _ hc q _=>⟨o.slots,k b o hc q⟩) (λ_ _ _ _ n=>n)
  (λb o hc q=>⟨o,k b o hc q⟩) (λ_ _ e=>e) (λ_ _ _ e=>e) (λb ps q=>⟨#[],by rw[q];simp⟩) (λm aA=>?_) (λb u q=>?_) I.bare
 ·obtain⟨fN,ff,i2,pw,jY,py⟩:=f b ae;exact⟨pw,ff,jY,py⟩
 ·obtain⟨o,es,a0,ax,r⟩:=aA;refine⟨o,es,a0,k _ o (λm=>?_) ax,r⟩;obtain⟨_,ff,_⟩:=f _ m;exact ff rfl
 refine(I.hok b u q).stay (λc v hc y=>k c v ?_ y) (λ_ q=>q) (λ_ _ q=>q) λ_ _ _ q=>q;rcases hc with z|z
 ·rw[z];exact mU b u q
 exact mU c _ z
end
end L2
namespace L2
open PySem PySem.Spec PyProof.Rows PySem.W
def nH:eg:=.ext λ_=>True
theorem CC{P:WF}{w:Xx}{H:am}{h:XB}{a:TI}{o:Obj}(e:h.get? a=some o):gl P w H h a (.frz o nH):=⟨e,trivial,⟨o,e⟩,λ_ _ _ _=>trivial⟩
def sK(K:Zu)(mg:Str->Option SZ)(cdv:SZ)(q:Str):Prop:=
 ∃c P,cdv=.ref c/\(P,q)∈zo K/\Uf≠P/\(∀h,K.In h->CodeHd h c P)/\∀h,K.In h->h.BuiltinsAt mg P
def sL(H:am)(f:TI)(qual:Str)(params:X1)(body:WP)(scope:XV)(clos:List (Str×TI)):Prop:=
 ∃pm c hL oc u vs t,H f=some (.frz (ZH "<lambda>" qual params body scope clos pm c hL) nH)/\H c=some (.frz oc u)/\oc.data=.fields vs/\vs[1]?=some (.str qual t)
theorem aaU{pos p:Pos}{c cv:SZ}:∀(l:ZU),TriplesOk l->YO pos (l++[Y4 p.line,Y4 p.col,c])=some cv->YO pos l=some cv\/cv=c:=λl=>by
 fun_induction TriplesOk l with
 |case1=>
  intro _ h;simp only[Te,YO,Y4]at h;split at h
  ·exact .inr (SO h).symm
  cases h
 |case2 a t b u x rest b9=>
  intro h e;simp only[To,YO]at e⊢;split at e
  ·rename_i hc;rw[Tk hc];exact .inl e
  rename_i hc;rw[Tl hc];exact b9 h e
 |case3 l h1 aa=>intro h;exact h.elim
section
variable{X:aU}{params:X1}{body:WP}{scope:XV}{pos:Pos}{clos:List (Str×TI)}
theorem aaV(LT:sK X.K X.mg X.env.code (X.env.qual++"<lambda>"))(uP:defaultsOf params X.env=([],[]))(jS:Zo scope X.env=pure clos){aj:ZY}{s:TD}{σ:St}{H:am}{Q:cq}(I:Inv X aj σ H s)(h:∀(f:TI) (ak:am),(∀b o,H b=some o->ak b=some o)->(∀b,ak b=none->H b=none)->sL ak f (X.env.qual++"<lambda>") params body scope clos->Q (.ref f) ak):
  wpAny (Wp X.prog X.w) X.A (Yl (.Lambda params body scope pos) X.env) (gY X aj σ Q) X.xe s:=by
 obtain⟨c,P,jz,aA,aaW,hd,ae⟩:=LT;obtain⟨ps,t,sM,ec⟩:=I.tabs _ aA;obtain⟨bz,eJ,hn,good⟩:=I.hok P _ sM;have C:=hd _ I.kIn;have G:s.heap.Ns Uf X.mg:=I.mod.glob.keeps I.bk;have Iz:=ae _ I.kIn;refine kla_eval uP ?_;cases hc:YO pos bz.toList with
 |some cv=>
  obtain⟨c',oc,u,vs,ho,dg,cU,rfl,ai,ar,bb,b0⟩:=good pos cv hc
  have eq:ho=X.env.qual++"<lambda>":=by
   rw[ec]at b0;have:=SO b0;injection this with z _
   exact z.symm
  subst eq;refine kla_makeFunctionHit jS I.ok.glob G jz C eJ hn hc Iz λhL h' cZ kp sz=>?_;have fr:H h'.objs.size=none:=I.hok.fresh sz;have da:=I.laid (t':=cZ) (a:=h'.objs.size) (o:=.frz (ZH "<lambda>" (X.env.qual++"<lambda>") params body scope clos ((X.mg "__name__").getD .none) c' hL) nH) (h':=h'.push (ZH "<lambda>" (X.env.qual++"<lambda>") params body scope clos ((X.mg "__name__").getD .none) c' hL)) (λb o e=>Heap.get?_push_of_some _ (kp b o e)) sz (CC (Heap.get?_push_size _ rfl));refine⟨.ref h'.objs.size,_,da,rfl,h _ _ (λb o e=>by rw[bV (hm e fr)];exact e) (λb e=>?_) ⟨_,c',hL,oc,u,vs,dg,d9,by rw[bV (hm ai fr)];exact ai,ar,bb⟩⟩;by_cases z:b=h'.objs.size
  ·rw[z];exact fr
  rwa[bV z]at e
 |none=>
  refine kla_makeFunction jS I.ok.glob G jz C eJ hn hc aaW Iz λc' hL h' cZ ra IA lt rc IB=>?_;obtain⟨c2,oc,vs,IC,aaX,rB,ID,ay⟩:=rc;cases aaX;have fr:H c'=none:=I.hok.fresh IA;have agP:P≠c':=λz=>by rw[z,fr]at sM;cases sM
  have IE:∀b,H b=none->b≠P:=λb n z=>by rw[z,sM]at n;cases n
  have un:f0 X.fs [] H (upd H c' (.frz oc nH)) s.heap h':=by
   refine⟨λb o e n _ _=>ra b o (IE b n) e,λb o e n _ _=>⟨o.slots,ra b o (IE b n) e⟩,λb o e n _=>?_,λb o e _=>?_,λb xs q=>by rw[bV (hm q fr)];exact q,λb o u q=>by rw[bV (hm q fr)];exact q,λb p q=>⟨#[],by rw[bV (hm q fr),q];simp⟩⟩
   ·rw[bV (S3 (S8 (Heap.lt_size e) IA))];exact n
   by_cases z:b=P
   ·rw[z];exact⟨_,IB⟩
   exact⟨o,ra b o z e⟩
  have ax:e7 X.prog X.w (upd H c' (.frz oc nH)) h':=λb u q=>by
   by_cases z:b=c'
   ·subst z;rw[d9]at q;cases q;exact CC rB
   rw[bV z]at q;by_cases IF:b=P
   ·subst IF;rw[sM]at q;cases q;refine⟨_,IB,by rw[Xa];exact TriplesOk_snoc _ _ _ _ hn,λp cv IG=>?_⟩;rw[Xa]at IG;rcases aaU _ hn IG with y|rfl
    ·obtain⟨ci,cu,gt,gg,jr,aaY,aaZ,a7,a5,hR⟩:=good p cv y;exact⟨ci,cu,gt,gg,jr,aaY,aaZ,a7,by rw[bV (hm a5 fr)];exact a5,hR⟩
    exact⟨c',oc,nH,vs,_,IC,t,rfl,d9,ID,ay,ec⟩
   refine(I.hok b u q).stay (λd v aa0 y=>ra d v ?_ y) (λd y=>by rw[bV (hm y fr)];exact y) (λd xs y=>by rw[bV (hm y fr)];exact y) λd bO u y=>by rw[bV (hm y fr)];exact y
   rcases aa0 with y|y
   ·rw[y];exact IF
   intro w;rw[w,sM]at y;cases y
  have a':Inv X aj σ (upd H c' (.frz oc nH)) {s with heap:=h',toks:=cZ}:=I.un un ax;have CD:upd H c' (.frz oc nH) h'.objs.size=none:=a'.hok.fresh (SF _);have da:=a'.laid (t':=cZ) (a:=h'.objs.size) (o:=.frz (ZH "<lambda>" (X.env.qual++"<lambda>") params body scope clos ((X.mg "__name__").getD .none) c' hL) nH) (h':=h'.push (ZH "<lambda>" (X.env.qual++"<lambda>") params body scope clos ((X.mg "__name__").getD .none) c' hL)) (λb o e=>Heap.get?_push_of_some _ e) (SF _) (CC (Heap.get?_push_size _ rfl));have IH:c'≠h'.objs.size:=S3 lt;refine⟨.ref h'.objs.size,_,da,rfl,h _ _ (λb o e=>by rw[bV (hm (o:=o) (by rw[bV (hm e fr)];exact e) CD),bV (hm e fr)];exact e) (λb e=>?_) ⟨_,c',hL,oc,nH,vs,IC,d9,by rw[bV IH];exact d9,ID,ay⟩⟩;by_cases z:b=h'.objs.size
  ·rw[z];rwa[bV (Ta IH)]at CD
  rw[bV z]at e;by_cases a8:b=c'
  ·rw[a8];exact fr
  rwa[bV a8]at e
end
def CE(qual:Str)(scope:XV)(clos:List (Str×TI))(L f:TI)(eH:SZ):Env:=newEnv scope L Uf clos (qual++".<locals>.") (some f) eH none XW
def uQ(X:aU)(A:Xy)(N:ZT)(qual:Str)(scope:XV)(clos:List (Str×TI))(f:TI)(eH:SZ)(s:TD)(H:am):aU:=
 {X with A:=A.deeper (CE qual scope clos s.heap.objs.size f eH),N:=N,s₀:=s,H₀:=H,env:=CE qual scope clos s.heap.objs.size f eH,outer:=X.stack,stack:=CE qual scope clos s.heap.objs.size f eH::X.stack,ex:=[],fn:=λ_=>false,calm:=true,pn:=[],xe:=λ_ _=>False}
structure xL (X:aU) (x:Str) (fr:ZT) (js:ZP) (scope:XV) (clos:List (Str×TI)):Prop where
 kind:scope.kind=.function
 co:scope.isCoroutine=false
 gen:scope.isGenerator=false
 par:scope.names.lookup x=some .local
 nocell:∀y∈scope.names,y.2≠.cell
 free:∀y,scope.names.lookup y=some .free->∃c,clos.lookup y=some c
 sub:∀y c,clos.lookup y=some c->X.env.cells.lookup y=some c
 len:fr.length=js.length
 nd:(x::fr).Nodup
 frs:∀(i:Nat)(y:Str)(j:Nat),fr[i]?=some y->js[i]?=some j->X.N[j]?=some y/\scope.names.lookup y=some .free/\(X.env.kindOf y=some .cell\/X.env.kindOf y=some .free)
theorem aa1{X:aU}{A:Xy}{aj:ZY}{s:TD}{σ:St}{H:am}{Q:cq}{f:TI}{qual x:Str}{params:X1}{body:WP}{scope:XV}{clos:List (Str×TI)}{fr:ZT}{js:ZP}{u:SZ}{v:V}{E:SZ->TD->Prop}(h2:A.frames=some X.stack)(dY:A.handled=none)(aa2:A.depth<Yw)(I:Inv X aj σ H s)(F:sL H f qual params body scope clos)(S:xL X x fr js scope clos)(b6:RelV v u)(qk:∀pm c hL,YY (kla_fn "<lambda>" qual params body scope clos pm (.ref c) hL) ⟨[u],[]⟩=pure [(x,u)])(hu:∀eH,∃bW,bY (uQ X A (x::fr) qual scope clos f eH s H) body bW/\bW (some v::js.map λj=>(σ[j]?).join) H Q):
  wpAny (Wp X.prog X.w) A (call (.ref f) [u]) (qf X.stack X.prog X.w H s Q) E s:=by
 obtain⟨pm,c,hL,oc,mb,vs,t,aa3,kF,dC,aa4⟩:=F;obtain⟨bD,_⟩:=I.hok f _ aa3;obtain⟨hc,_⟩:=I.hok c _ kF;obtain⟨bW,aR,ay⟩:=hu (.ref c);refine wpAny_call (YU (R:=λr s'=>match r with|.ok (.ret w)=>qf X.stack X.prog X.w H s Q w s'|_=>False) ?_ λr s' ao=>?_);rotate_left
 ·cases r with
  |error e=>exact Tp ao
  |ok iT=>
   cases iT with
   |ret w=>exact ao
   |next=>exact Tp ao
   |brk=>exact Tp ao
   |cont=>exact Tp ao
 refine kla_callFunE aa2 bD rfl S.co S.gen rfl ⟨c,oc,vs,t,rfl,hc,dC,aa4⟩ ?_;rw[qk pm c hL];refine SL (Y2 S.nocell (λy aP=>by rw[SN.mp aP];exact S.par) (λh1 m4 wn=>⟨I.nolimit.fresh _ wn,?_⟩) S.kind);have gg:∀b o,s.heap.get? b=some o->h1.get? b=some o:=λb o e=>wn.extBut b o (S3 (Heap.lt_size e)) (Heap.get?_push_of_some _ e)
 have ok:(uQ X A (x::fr) qual scope clos f (.ref c) s H).Ok:=by
  refine⟨I.ok.mod,S.kind,rfl,rfl,SF _,λy z d ai ar=>I.ok.inj y z d (S.sub _ _ ai) (S.sub _ _ ar),λy aP=>?_,λy d z=>absurd z SP,λ_=>dY,Around.frames_deeper h2,.inr ⟨rfl,rfl⟩,λb ae=>absurd (show b∈([]:ZV)from ae) (by simp),I.bs,SD I.ok.bsz I.sz,λb _ _ ae=>absurd (show b∈([]:ZV)from ae) (by simp),λb ae=>absurd (show b∈([]:ZV)from ae) (by simp),I.stack,I.stkFree,I.tabs⟩;have aP:scope.names.lookup y=some .cell\/scope.names.lookup y=some .free:=aP;rcases aP with aP|aP
  ·exact absurd rfl (S.nocell _ (mem_of_lookup aP))
  exact S.free y aP
 have J:Inv (uQ X A (x::fr) qual scope clos f (.ref c) s H) [] (some v::js.map λj=>(σ[j]?).join) H {s with heap:=h1,toks:=s.toks+[(x,u)].length}:=by
  refine⟨ok,rfl,I.bare,f0.kept gg,⟨_,m4,λi y w ai ar bb=>?_⟩,λy d e=>?_,I.fresh,λy d e=>I.freeC y d (S.sub _ _ e),λp ag=>absurd (show p∈([]:ZY)from ag) (by simp),I.hok.kept gg,?_⟩
  ·cases i with
   |zero=>
    have ai:some x=some y:=ai;have ar:some (some v)=some (some w):=ar;cases ai;cases ar;exact⟨u,b6,.inl ⟨S.par,by simp⟩⟩
   |succ i=>
    have ai:fr[i]?=some y:=ai;have ar:(js.map λj=>(σ[j]?).join)[i]?=some (some w):=ar;rw[SW]at ar;obtain⟨j,AA,ar⟩:=UA.mp ar;obtain⟨xM,xN,II⟩:=S.frs i y j ai AA
    have mG:σ[j]?=some (some w):=by
     cases z:σ[j]? with
     |none=>rw[z]at ar;cases ar
     |some l3=>rw[z]at ar;cases ar;rfl
    obtain⟨m,_,lk⟩:=I.loc;obtain⟨dV,aN,bS⟩:=lk j y w xM mG (by rcases II with z|z;exact .inr (.inl z);exact .inr (.inr z));refine⟨dV,aN,.inr ⟨.inr xN,?_⟩⟩;obtain⟨d,gO⟩:=S.free y xN;have xO:=S.sub _ _ gO;rcases bS with⟨z,_⟩|⟨_,cc,bb,aa5⟩
    ·rcases II with dy|dy<;>rw[z]at dy<;>cases dy
    rw[xO]at bb;cases bb;obtain⟨o,ax,aa6⟩:=aa5;exact⟨d,gO,o,gg _ _ ax,aa6⟩
  ·obtain⟨w,o,ax,r⟩:=I.cell y d (S.sub _ _ e);exact⟨w,o,gg _ _ ax,r⟩
  show(some v::js.map λj=>(σ[j]?).join).length=(x::fr).length
  simp[S.len]
 refine kla_codeExpr (XG (aR [] _ _ H _ J ay) (λw s' av=>?_) λe s' av=>Tp av);obtain⟨nR,ak,xP,dn,ho⟩:=av;exact⟨nR,ak,xP.os,xP.bare,xP.base,xP.hok,dn,ho⟩
end L2
namespace L2
open PySem PySem.Spec PyProof.Rows PySem.W L3
theorem sN{α β:Type}{g:α->β}{m n:List β}(p:m.Perm n):∀{l:List α},n=l.map g->∃e0:List α,e0.Perm l/\e0.map g=m:=by
 induction p with
 |nil=>intro l e;exact⟨[],by rw[List.map_eq_nil_iff.mp e.symm],rfl⟩
 |cons x _ b9=>
  intro l e;cases l with
  |nil=>cases e
  |cons a l=>
   rw[SH]at e;obtain⟨rfl,bv⟩:=Ub e;obtain⟨e0,l7,rfl⟩:=b9 bv;exact⟨a::e0,l7.cons a,rfl⟩
 |swap x y _=>
  intro l e
  match l,e with
  |a::b::l,e=>
   simp only[SH,UP]at e;obtain⟨rfl,rfl,rfl⟩:=e;exact⟨b::a::l,Xb _ _ _,rfl⟩
 |trans _ _ ff i2=>
  intro l e;obtain⟨bS,p2,ar⟩:=i2 e;obtain⟨bQ,p1,ai⟩:=ff ar.symm;exact⟨bQ,p1.trans p2,ai⟩
theorem aa7{kz:ZI}:∀{xs:ZL}{vs:ZU},bN xs vs->∃ts:List (Int×V×SZ),ts.map (λt=>(t.1,t.2.1))=kz.zip xs/\ts.map (λt=>(t.1,t.2.2))=kz.zip vs/\∀t∈ts,RelV t.2.1 t.2.2:=by
 induction kz with
 |nil=>intro xs vs _;exact⟨[],rfl,rfl,λt h=>absurd h TS⟩
 |cons k kz b9=>
  intro xs vs r;cases r with
  |nil=>exact⟨[],rfl,rfl,λt h=>absurd h TS⟩
  |cons a r=>
   obtain⟨ts,ai,ar,h⟩:=b9 r
   exact⟨(k,_,_)::ts,by rw[SH,ai];rfl,by rw[SH,ar];rfl,λt aR=>by
    rcases SG.mp aR with rfl|aR
    ·exact a
    exact h t aR⟩
theorem IJ:∀{ts:List (Int×V×SZ)},(∀t∈ts,RelV t.2.1 t.2.2)->bN (ts.map λt=>t.2.1) (ts.map λt=>t.2.2)
 |[],_=>.nil
 |t::ts,h=>.cons (h t Sw) (IJ λx al=>h x (Sy _ al))
def iN(H ak:am):Prop:=∀b o,H b=some o->ak b=some o
section
variable{X:aU}{aj:ZY}{σ:St}{H:am}{s:TD}{a kS f:TI}{vs:ZU}{xs:ZL}{kz:ZI}{ai:Nat}{P:Wc->TD->Prop}{E:SZ->TD->Prop}
theorem aa8{keys:Array SZ}{e:Nat}{A:Xy}(I:Inv X aj σ H s)(fB:gH X aj H a)(k7:gH X aj H kS)(ne:kS≠a)(ah:s.heap.get? kS=some (Yu "list" keys e))(aw:s.heap.get? a=some (Yu "list" #[] ai))(oE:X.base.get? a=none)(bk:X.base.get? kS=none)(BA:YV keys.toList kz)(eE:kz.length=vs.length)(oF:vs.length<64)(b6:bN xs vs)(h:∀(s':TD) (bz:List (Int×V)),bz.Perm (kz.zip xs)->bz.Pairwise (λp q=>p.1<=q.1)->Inv X aj σ (upd H a (.lst (bz.map Ul))) s'->P (.done (.ret .none)) s'):
  wpAny (Wp X.prog X.w) A (ksk_end a false vs.toArray ai (.ref kS) keys) P E s:=by
 obtain⟨m,aA,ap⟩:=I.loc;let news:=(Pn s.heap).filter λp=>(X.base.get? p.1).isNone&&(p.1 != X.env.locals&&(p.1 != kS&&p.1 != a))
 have aa9:∀b o,s.heap.get? b=some o->X.base.get? b=none->b≠X.env.locals->b≠kS->b≠a->(b,o)∈news:=λb o q aM a4 dx hO=>by
  refine TN.mpr ⟨?_,?_⟩
  ·exact T6.mpr ⟨b,TB.mpr (Heap.lt_size q),by rw[q];rfl⟩
  simp[aM,a4,dx,hO]
 have CF:∀p∈news,s.heap.get? p.1=some p.2/\p.1≠X.env.locals/\X.base.get? p.1=none/\p.1≠kS/\p.1≠a:=λp ag=>by
  obtain⟨aM,a4⟩:=TN.mp ag;simp only[TL,Option.isNone_iff_eq_none,bne_iff_ne,ne_eq]at a4;refine⟨?_,a4.2.1,a4.1,a4.2.2.1,a4.2.2.2⟩;obtain⟨i,_,dx⟩:=T6.mp aM;obtain⟨o,hO,rfl⟩:=UA.mp dx;exact hO
 have F:Fr X.base X.env.locals s.heap m:=⟨aA,I.bk,SD I.ok.bsz I.ok.above⟩
 have N:News X.base X.env.locals s.heap (news++[(kS,Yu "list" keys e),(a,Yu "list" #[] ai)]):=λp ag=>by
  rcases SK.mp ag with ag|ag
  ·obtain⟨aM,a4,dx,_⟩:=CF p ag;exact⟨aM,a4,dx⟩
  simp only[SG,TS,or_false]at ag;rcases ag with rfl|rfl
  ·exact⟨ah,k7.2.1,bk⟩
  exact⟨aw,fB.2.1,oE⟩
 refine ksk_end_ F N ne (λp ag=>(CF p ag).2.2.2.1) (λp ag=>(CF p ag).2.2.2.2) BA eE oF λh' cZ out c CG pu aa'=>?_;obtain⟨ps,qC,AF,jX⟩:=aa';obtain⟨ts,dg,cU,hn⟩:=aa7 (kz:=kz) b6;obtain⟨sO,l7,q3⟩:=sN qC cU.symm
 have kept:∀b o,b≠X.env.locals->b∉[kS,a]->s.heap.get? b=some o->h'.get? b=some o:=λb o aM a4 dx=>by
  simp only[SG,TS,or_false,not_or]at a4;cases z:X.base.get? b with
  |some bO=>
   have:=I.bk b bO z;rw[dx]at this;cases this;exact CG.keep b _ z
  |none=>exact(pu (b,o) (Sy _ (aa9 b o dx z aM a4.1 a4.2))).1
 have Cv:h'.get? a=some (Yu "list" out c):=(pu _ Sw).1;have kK:∀b u,H b=some u->b≠a:=λb u q z=>by rw[z,fB.1]at q;cases q
 have ch:∀b∈[kS,a],(b∈X.ex\/X.s₀.heap.objs.size<=b)/\b≠X.env.locals/\(∀x c,X.env.cells.lookup x=some c->c≠b)/\∀p∈X.pn++aj,p.1≠b:=λb ae=>by
  simp only[SG,TS,or_false]at ae;rcases ae with rfl|rfl
  ·exact⟨k7.2.2.2.1,k7.2.1,k7.2.2.2.2.1,k7.2.2.2.2.2⟩
  exact⟨fB.2.2.2.1,fB.2.1,fB.2.2.2.2.1,fB.2.2.2.2.2⟩
 refine h {s with heap:=h',toks:=cZ} (sO.map λt=>(t.1,t.2.1)) (by rw[<-dg];exact l7.map _) ?_ ?_
 ·rw[<-q3]at jX;rw[Xc]at jX⊢;exact jX.imp λ{x y} z=>by simpa using z
 have em:(sO.map λt=>(t.1,t.2.1)).map Ul=sO.map λt=>t.2.1:=by rw[SR];rfl
 have aba:out.toList=sO.map λt=>t.2.2:=by rw[AF,<-q3,SR];rfl
 have ln:sO.length<=TT:=by
  have aM:=l7.length_eq;have a4:=UF S7 cU;rw[Sv,List.length_zip]at a4;rw[XN];lia
 rw[em];refine I.step (ch:=[kS,a]) (h':=h') (g':=s.gens) (d':=s.drawn) (t':=cZ) ch (λb o aM _ dx hO _=>kept b o aM dx hO) (λb o aM _ dx hO _=>⟨o.slots,kept b o aM dx hO⟩) (λb o aM _ dx=>?_) (λb o aM a4=>?_) (λb x q=>by rw[bV (kK _ _ q)];exact q) (λb o u q=>by rw[bV (kK _ _ q)];exact q) (λb p q=>⟨#[],by rw[bV (kK _ _ q),q];simp⟩) (λa5 aa=>?_) (λb u q=>?_) I.bare
 ·rw[bV (λz=>aM (by rw[z];simp))];exact dx
 ·by_cases z:b=X.env.locals
  ·rw[z];obtain⟨fJ,es,a0,q,_⟩:=CG.ns;exact⟨fJ,q⟩
  exact⟨o,kept b o z aM a4⟩
 ·have:a5=m:=by
   obtain⟨ky,agQ,G7,aM,a4,_,dx⟩:=aa;obtain⟨kA,agR,xI,aq,aN,_,d2⟩:=aA;rw[aM]at aq;cases aq;rw[a4]at aN;cases aN;funext n;rw[<-dx,<-d2]
  rw[this];exact CG.ns
 by_cases z:b=a
 ·subst z;rw[d9]at q;cases q;exact⟨by rw[Sv];exact ln,sO.map λt=>t.2.2,c,IJ λt aR=>hn t (l7.mem_iff.mp aR),by rw[<-aba];simpa using Cv⟩
 rw[bV z]at q;refine(I.hok b u q).stay (λd v hd y=>kept d v ?_ ?_ y) (λd y=>by rw[bV (kK _ _ y)];exact y) (λd x y=>by rw[bV (kK _ _ y)];exact y) λd bO u y=>by rw[bV (kK _ _ y)];exact y
 ·intro w;rcases hd with y|y
  ·rw[<-y,w,I.free]at q;cases q
  rw[w,I.free]at y;cases y
 simp only[SG,TS,or_false,not_or];rcases hd with y|y
 ·subst y;exact⟨λw=>(by rw[w,k7.1]at q;cases q),z⟩
 exact⟨λw=>(by rw[w,k7.1]at y;cases y),kK _ _ y⟩
end
theorem gH.at{X:aU}{aj:ZY}{H ak:am}{b:TI}(f:gH X aj H b)(n:ak b=none):gH X aj ak b:=⟨n,f.2⟩
section
variable{X:aU}{A:Xy}{aj:ZY}{σ:St}{H:am}{s:TD}{a kS f:TI}{vs:ZU}{xs:ZL}{kz:ZI}{ai:Nat}{P:Wc->TD->Prop}{E:SZ->TD->Prop}
theorem abb(I:Inv X aj σ H s)(fB:gH X aj H a)(k7:gH X aj H kS)(ne:kS≠a)(ah:s.heap.get? kS=some (Yu "list" #[] 0))(aw:s.heap.get? a=some (Yu "list" #[] ai))(oE:X.base.get? a=none)(bk:X.base.get? kS=none)(sa:a∉frs X.stack)(rd:kS∉frs X.stack)(eE:kz.length=vs.length)(oF:vs.length<64)(b6:bN xs vs)(turn:∀(i:Nat) (v:SZ) (k:Int),vs[i]?=some v->kz[i]?=some k->∀(ak:am) (s':TD),Inv X aj σ ak s'->iN H ak->wpAny (Wp X.prog X.w) A (call (.ref f) [v]) (qf X.stack X.prog X.w ak s' λy aS=>y=.int k/\iN ak aS) (λ_ _=>False) s')(h:∀(s':TD) (ak:am) (bz:List (Int×V)),iN H ak->ak a=none->bz.Perm (kz.zip xs)->bz.Pairwise (λp q=>p.1<=q.1)->Inv X aj σ (upd ak a (.lst (bz.map Ul))) s'->P (.done (.ret .none)) s'):
  wpAny (Wp X.prog X.w) A (ksk_rest a (.ref f) false vs.toArray ai (.ref kS)) P E s:=by
 unfold ksk_rest;refine SB (Yb ?_);rw[List.forIn_toArray]
 refine SB (ksk_fold (λi s'=>∃ak oG e,Inv X aj σ ak s'/\iN H ak/\ak a=none/\ak kS=none/\s'.heap.get? kS=some (Yu "list" oG e)/\s'.heap.get? a=some (Yu "list" #[] ai)/\YV oG.toList (kz.take i)) vs 0 s
  ⟨H,#[],0,I,λ_ _ q=>q,fB.1,k7.1,ah,aw,by simpa using IntsAre.nil⟩ ?step ?done)
 case step=>
  rintro j v aC aL ⟨au,oG,e,a',aE,c8,cO,ci,ca,hi⟩;simp only[U2]at hi⊢;have bC:j<vs.length:=(TJ.mp aL).1;obtain⟨k,IK⟩:∃k,kz[j]?=some k:=⟨_,SU (by lia)⟩
  have hz:oG.size<=vs.length:=by
   have q:=hi.length;rw[UU,TP]at q;lia
  refine SB (Zg (XG (turn j v k aL IK au aC a' aE) (λu bf aD=>?_) λ_ _ q=>q.elim));obtain⟨y,aS,os,bare,un,ax,r,rfl,aI⟩:=aD;obtain⟨cU,rfl⟩:=r;have da:=a'.call' (ch:=[]) os un ax bare (λb z=>absurd z (by simp));have cu:=un.keep kS _ ci cO rd (by simp);have cn:=un.keep a _ ca c8 sa (by simp);have a5:=un.free kS _ ci cO (by simp);have a7:=un.free a _ ca c8 (by simp)
  try dsimp only
  have eb:=Heap.SameBut.update bf.heap kS (Obj.mapSeq (·.push (.int k cU)));obtain⟨c2,B3⟩:∃c2,(bf.heap.update kS (Obj.mapSeq (·.push (.int k cU)))).get? kS=some (Yu "list" (oG.push (.int k cU)) c2):=⟨_,get?_update_seq cu (·.push (.int k cU))⟩;have kx:kz.take (j+1)=kz.take j++[k]:=by rw[List.take_add_one,IK];simp
  have dv:(oG.push (Value.int k cU)).toList=oG.toList++[Value.int k cU]:=by simp
  refine SB (Zh cu rfl ?_ (by rw[XN];lia) (SD (VM (Array.size_push ..)) (by rw[XN];lia)));have cY:Inv X aj σ aS {bf with heap:=bf.heap.update kS (Obj.mapSeq (·.push (.int k cU))),toks:=bf.toks}:=da.turnedL (fs:=[kS]) (λb o q z=>(eb.2 b (λw=>q (by rw[w];simp))).trans z) (λb ae=>by rw[SN.mp ae];exact k7.at a5);exact SL ⟨rfl,aS,_,c2,cY,λb o q=>aI b o (aE b o q),a7,a5,B3,(eb.2 a ne.symm).trans cn,by rw[dv,kx];exact ksk_snoc hi⟩
 case done=>
  rintro aC ⟨au,oG,e,a',aE,c8,cO,ci,ca,hi⟩
  have abc:YV oG.toList kz:=by
   have z:kz.take (0+vs.length)=kz:=Vi (by lia);rwa[z]at hi
  try dsimp only
  refine SB (YW ci rfl ?_);exact aa8 a' (fB.at c8) (k7.at cO) ne ci ca oE bk abc eE oF b6 λs' bz p1 p2 J=>h s' au bz aE c8 p1 p2 J
end
end L2
namespace L2
open PySem PySem.Spec PyProof.Rows PySem.W
section
variable{prog:WF}{w:Xx}{A:Xy}{E:SZ->TD->Prop}{s:TD}
theorem abd{R:ZC->TD->Prop}{r S:TI}{a b c:Int}{t u v:Tok}{n:Nat}(dY:A.handled=none)(ao:IsRange s.heap r a b c t u v)(CH:Builtin.Range.small a b c=true)(aO:Builtin.Range.rangeSize a b c=n)(eE:n<=2^24)(ga:s.heap.get? S=some {cls:=.type "list",data:=.seq #[]})(h:∀(h':XB) (cZ:Nat) (acc:Array SZ) (c':Nat),(∀b o,b≠S->s.heap.get? b=some o->h'.get? b=some o)->h'.get? S=some {cls:=.type "list",dict:=none,data:=.seq acc c',slots :=#[]}->ItemsOf (λi v=>∃t,v=.int (a+i*c) t) acc n->R (.ok (.ret (.ref S))) {s with heap:=h',toks:=cZ}):
  codeAny (Wp prog w) A (.builtin "list.__iadd__" ⟨[.ref S,.ref r],[]⟩) R s:=by
 refine Yr PySem.F.entry_list_iadd ?_;rw[Around.under_plainId Xd _];exact wpAny_extend_range dY ao CH aO eE S _ 0 ga h
theorem abe{r:TI}{a b c:Int}{t u v:Tok}{n:Nat}{Q:ZU->TD->Prop}(dY:A.handled=none)(ao:IsRange s.heap r a b c t u v)(CH:Builtin.Range.small a b c=true)(aO:Builtin.Range.rangeSize a b c=n)(eE:n<=2^24)(h:∀(h':XB) (cZ:Nat) (acc:Array SZ),s.heap.objs.size<=h'.objs.size->(∀b o,s.heap.get? b=some o->h'.get? b=some o)->ItemsOf (λi v=>∃t,v=.int (a+i*c) t) acc n->Q acc.toList {s with heap:=h',toks:=cZ}):
  wpAny (Wp prog w) A (collect (.ref r)) Q E s:=by
 unfold collect;refine SB (wpAny_runValue (Yr PySem.F.entry_proto_collect ?_));rw[Around.under_plainId PySem.F.plain_proto_collect _];show wpAny _ A.in1 (newList [] >>= λl=>again (.builtin "list.__iadd__" ⟨[l,.ref r],[]⟩)) _ _ s
 refine SB (W1 ?_);refine SL ⟨Ym Xd _,?_⟩;refine abd (s:={s with heap:=s.heap.push {cls:=.type "list",data:=.seq #[]} }) dY (Heap.get?_push_of_some _ ao) CH aO eE (Heap.get?_push_size _ rfl) λh' cZ abf c' kp ga hi=>?_;show wpAny _ A (load s.heap.objs.size >>= _) _ _ _
 refine SB (wpAny_load ga ?_);exact SL (h h' cZ abf (UC (Heap.lt_size ga)) (λb o e=>kp b o (S3 (Heap.lt_size e)) (Heap.get?_push_of_some _ e)) hi)
end
theorem abg{n:Nat}{acc:Array SZ}(h:ItemsOf (λi v=>∃t,v=.int ((0:Int)+i*1) t) acc n):bN ((S4 n).map λi:Nat=>V.int i) acc.toList:=by
 obtain⟨hz,hi⟩:=h
 have key:∀(l:ZU)(k:Nat),(∀(j:Nat)(v:SZ),l[j]?=some v->∃t,v=.int ((0:Int)+((k+j:Nat):Int)*1) t)->bN ((VY k l.length).map λi:Nat=>V.int i) l:=by
  intro l;induction l with
  |nil=>exact λk _=>.nil
  |cons v l b9=>
   intro k ah;rw[SM,List.range'_succ,SH];refine .cons ?_ (b9 (k+1) λj nR bC=>?_)
   ·obtain⟨t,e⟩:=ah 0 v rfl;exact⟨t,by rw[e];congr 1;lia⟩
   obtain⟨t,e⟩:=ah (j+1) nR (by simpa using bC);exact⟨t,by rw[e];congr 1;lia⟩
 have:=key acc.toList 0 λj v bC=>by
  rw[UE]at bC;simpa using hi j v bC
 rwa [show acc.toList.length=n from by simpa using hz,<-WI]at this
def abh(bL:e8):bK:=λσ H Q=>bL σ H λvs au=>∃j:Int,vs=[.int j]/\∀p,au p=none->Q (.ref p) (upd au p (.rng 0 j))
section
variable{X:aU}
theorem abi{a:WP}{bL:e8}{p pos:Pos}(aF:eD X "range")(aA:X.mg "range"=none)(aw:hp X [a] bL)(av:UV [a] X.env=[(false,Yl a X.env)]:=by rfl):bY X (.Call (.Name "range" p) [a] [] pos) (abh bL):=by
 intro aj s σ H Q I h;refine Call_ (nU I aF aA boot_range (UW (cl (aw pos aj s σ H _ I h) λus aC ⟨vs,au,a',aq,aM⟩=>?_) av rfl));obtain⟨j,e,q⟩:=aM;subst e;obtain⟨u,rfl,t,rfl⟩:=vals1 aq;refine call_range_1 ⟨.ref _,_,a'.laid (o:=.rng 0 j) (λb o e=>Heap.get?_push_of_some _ e) (SF _) ⟨_,_,_,Heap.get?_push_size _ rfl⟩,rfl,q _ (a'.hok.fresh (SF _))⟩
end
end L2
namespace L2
open PySem PySem.Spec PyProof.Rows PySem.W L3
section
variable{X:aU}{aj:ZY}{σ:St}{H:am}{s:TD}{l f:TI}{xs:ZL}{kz:ZI}{Q:cq}
theorem abj(I:Inv X aj σ H s)(col:∀(zX:SZ->TD->Prop) (p9:ZU->TD->Prop),(∀(h':XB) (cZ:Nat) (vs:ZU),s.heap.objs.size<=h'.objs.size->(∀b o,s.heap.get? b=some o->h'.get? b=some o)->bN xs vs->p9 vs {s with heap:=h',toks:=cZ})->wpAny (Wp X.prog X.w) X.A.in1 (collect (.ref l)) p9 zX s)(eE:kz.length=xs.length)(oF:xs.length<64)(turn:∀(i:Nat) (x:V) (v:SZ) (k:Int),xs[i]?=some x->RelV x v->kz[i]?=some k->∀(ak:am) (s':TD),Inv X aj σ ak s'->iN H ak->wpAny (Wp X.prog X.w) X.A.in1.in1 (call (.ref f) [v]) (qf X.stack X.prog X.w ak s' λy aS=>y=.int k/\iN ak aS) (λ_ _=>False) s')(q:∀(ak:am) (p:TI) (bz:List (Int×V)),iN H ak->ak p=none->bz.Perm (kz.zip xs)->bz.Pairwise (λp q=>p.1<=q.1)->Q (.ref p) (upd ak p (.lst (bz.map Ul)))):
  wpAny (Wp X.prog X.w) X.A (call (.builtin "sorted") [.ref l] [(Str.ofString "key",.ref f)]) (gY X aj σ Q) X.xe s:=by
 refine call_function_entry_kw kind_sorted plain_sorted entry_sorted (ksk_s1 _ _) ?_;unfold Yy.«sorted»;refine SB (m:=checkCount "sorted" 1 1 _) (SL (SB (col _ _ λh1 cZ vs aG ci b6=>SB (wpAny_newList ?_ (by rw[XN,<-b6.length];lia)))));have ln:=b6.length;have xG:vs.length<=TT:=by rw[XN];lia
 let aa:=h1.push (Yu "list" vs.toArray 0)
 have a4:aa.get? h1.objs.size=some (Yu "list" vs.toArray 0):=Heap.get?_push_size _ rfl;show wpAny (Wp X.prog X.w) X.A.in1 _ _ _ {s with toks:=cZ,heap:=aa}
 refine SB (Xu (wpAny_call_entry_kw (s:={s with toks:=cZ,heap:=aa}) slot_list_sort ⟨_,a4,rfl⟩ entry_list_sort ?body (ksk_l1 _ _)))
 case body=>
  show wpAny (Wp X.prog X.w) X.A.in1.in1 (Yy.«list.sort» ⟨[.ref h1.objs.size],[(Str.ofString "key",.ref f)]⟩) _ _ _
  rw[ksk_t1];unfold ksk_tree;refine SB (YW (s:={s with toks:=cZ,heap:=aa}) a4 rfl ?_);refine SB (Zh (s:={s with toks:=cZ,heap:=aa}) a4 rfl ?_ (by rw[SS];exact xG) (Ti _));obtain⟨ai,sI⟩:∃ai,(aa.update h1.objs.size (Obj.mapSeq λ_=>(#[]:Array SZ))).get? h1.objs.size=some (Yu "list" #[] ai):=⟨_,get?_update_seq a4 λ_ => #[]⟩;have eb:=Heap.SameBut.update aa h1.objs.size (Obj.mapSeq λ_=>(#[]:Array SZ));refine SB (seqEpoch_at (s:={s with toks:=cZ,heap:=aa.update h1.objs.size (Obj.mapSeq λ_=>(#[]:Array SZ))}) sI rfl ?_);refine SB (wpAny_newTuple ?_ (by show vs.length<=_;exact xG));refine SB (wpAny_newList ?_ (Ti _));refine Xu ?_;let aH:=aa.update h1.objs.size (Obj.mapSeq λ_=>(#[]:Array SZ))
  let a6:=aH.push (Yu "tuple" vs.toArray 0)
  let cH:=a6.push (Yu "list" #[] 0)
  have kp:∀b o,s.heap.get? b=some o->cH.get? b=some o:=λb o e=>by
   have lt:=S8 (Heap.lt_size e) aG;exact Heap.get?_push_of_some _ (Heap.get?_push_of_some _ ((eb.2 b (S3 lt)).trans (Heap.get?_push_of_some _ (ci b o e))))
  have IL:h1.objs.size<a6.objs.size:=by
   show _<(aH.push _).objs.size
   rw[Heap.size_push,Heap.size_update,Heap.size_push];lia
  have nX:Inv X aj σ H {s with toks:=cZ,heap:=cH}:=I.kept kp
  have e9:∀b,s.heap.objs.size<=b->gH X aj H b/\X.base.get? b=none/\b∉frs X.stack:=λb ae=>by
   refine⟨I.fpOk ae (I.hok.fresh ae),Heap.get?_none_of_le (SD (SD I.ok.bsz I.sz) ae),λz=>?_⟩;rcases SG.mp (I.stkSub b z)with y|y
   ·exact absurd (S8 I.lt ae) (by rw[y];exact TU _)
   exact I.nofs ae y
  obtain⟨fB,oE,sa⟩:=e9 h1.objs.size aG;obtain⟨k7,bk,rd⟩:=e9 a6.objs.size (SD aG (UC IL))
  refine abb (s:={s with toks:=cZ,heap:=cH}) (a:=h1.objs.size) (kS:=a6.objs.size) nX fB k7 (T5 IL) (Heap.get?_push_size _ rfl) (Heap.get?_push_of_some _ (Heap.get?_push_of_some _ sI)) oE bk sa rd (eE.trans ln) (by lia) b6 (λi v k aL ah=>by
   obtain⟨x,ex,bn⟩:=b6.getR aL
   exact turn i x v k ex bn ah) λs' ak bz g n p1 p2 J=>⟨_,rfl,SL ⟨_,rfl,.ref h1.objs.size,_,J,rfl,q ak _ bz g n p1 p2⟩⟩
end
theorem sL.grow{H ak:am}{f:TI}{qual:Str}{params:X1}{body:WP}{scope:XV}{clos:List (Str×TI)}(F:sL H f qual params body scope clos)(g:iN H ak):sL ak f qual params body scope clos:=by
 obtain⟨pm,c,hL,oc,u,vs,t,ai,ar,r⟩:=F;exact⟨pm,c,hL,oc,u,vs,t,g _ _ ai,g _ _ ar,r⟩
theorem iN.trans{H au aS:am}(a:iN H au)(b:iN au aS):iN H aS:=λx o q=>b x o (a x o q)
def uR(H:am)(l:TI)(xs:ZL):Prop:=H l=some (.lst xs)\/∃n:Nat,n<64/\H l=some (.rng 0 n)/\xs=(S4 n).map λi:Nat=>V.int i
theorem uR.grow{H ak:am}{l:TI}{xs:ZL}(h:uR H l xs)(g:iN H ak):uR ak l xs:=by
 rcases h with h|⟨n,z,h,e⟩
 ·exact .inl (g _ _ h)
 exact .inr ⟨n,z,g _ _ h,e⟩
def IM(Rd:bK->Prop)(σ:St)(au:am)(js:ZP)(Q:cq)(vs:ZL):Prop:=∃(l:TI)(xs:ZL)(kz:ZI),vs=[.ref l]/\uR au l xs/\xs.length<64/\kz.length=xs.length /\
 (∀(i:Nat)(x:V)(k:Int),xs[i]?=some x->kz[i]?=some k->∀ak,iN au ak->∀bW:bK,Rd bW->bW (some x::js.map λj=>(σ[j]?).join) ak λy aS=>y=.int k/\iN ak aS) /\
 ∀(ak:am)(p:TI)(bz:List (Int×V)),iN au ak->ak p=none->bz.Perm (kz.zip xs)->bz.Pairwise (λa b=>a.1<=b.1)->Q (.ref p) (upd ak p (.lst (bz.map Ul)))
def abk(Rd:bK->Prop)(bL:e8)(js:ZP):bK:=λσ H Q=>bL σ H λvs au=>IM Rd σ au js Q vs
section
variable{X:aU}{a:WP}{bL:e8}{p pos lp kp:Pos}{params:X1}{body:WP}{scope:XV}{clos:List (Str×TI)}{x:Str}{fr:ZT}{js:ZP}{Rd:bK->Prop}{k:Nat}
theorem abl(ao:eF k X.A)(aF:eD X "sorted")(aA:X.mg "sorted"=none)(aw:hp X [a] bL)(LT:sK X.K X.mg X.env.code (X.env.qual++"<lambda>"))(uP:defaultsOf params X.env=([],[]))(jS:Zo scope X.env=pure clos)(S:xL X x fr js scope clos)(qk:∀u pm c hL,YY (kla_fn "<lambda>" (X.env.qual++"<lambda>") params body scope clos pm (.ref c) hL) ⟨[u],[]⟩=pure [(x,u)])(hu:∀f eH s H,∃bW,bY (uQ X X.A.in1.in1 (x::fr) (X.env.qual++"<lambda>") scope clos f eH s H) body bW/\Rd bW)(av:X8 pos (UV [a] X.env)=(false,Yl a X.env)::X8 pos (UV [] X.env):=by rfl)(eh:(X8 pos (UV [a] X.env)).any (·.1)=false:=by rfl):
  bY X (.Call (.Name "sorted" p) [a] [⟨some "key",.Lambda params body scope lp,kp⟩] pos) (abk Rd bL js):=by
 intro aj s σ H Q I h;refine XT (nU I aF aA (by decide +kernel:XK "sorted"=some (.builtin "sorted")) ?_);refine callWith_kw (cl (aw pos aj s σ H _ I h) λus aC ⟨vs,au,a',aq,aM⟩=>?_) av eh;obtain⟨l,xs,kz,rfl,ap,oF,hz,ask,q⟩:=aM;obtain⟨u,rfl,hs⟩:=vals1 aq;cases hs;refine kws_cons (cl (aaV (Q:=λy aS=>∃f,y=.ref f/\iN au aS/\sL aS f (X.env.qual++"<lambda>") params body scope clos) LT uP jS a' λf aS g _ F=>⟨f,rfl,g,F⟩) λu bf ⟨y,aS,da,cg,f,gc,aI,F⟩=>?_);subst gc;cases cg;refine kws_nil ?_;show wpAny (Wp X.prog X.w) X.A (call (.builtin "sorted") [.ref l] [(Str.ofString "key",.ref f)]) (gY X aj σ Q) X.xe bf
 refine abj (xs:=xs) (kz:=kz) da (λzX p9 ay=>?_) hz oF (λi x v aJ ex bn ah cG cR cY g3=>?_) λcG qC bz g3 qc p1 p2=>q cG qC bz (aI.trans g3) qc p1 p2
 ·rcases ap.grow aI with ap|⟨n,aO,ah,rfl⟩
  ·obtain⟨its,b6,cr,_⟩:=da.list (cN.of ap);exact aab cr.isList (by rw[XN,<-b6.length];lia) λh' z kp=>ay h' bf.toks its z kp b6
  obtain⟨t,u,v,e⟩:=da.hok _ _ ah;exact abe (n:=n) (show X.A.handled=none from ao.hd) e (small_one (by lia) (by lia) (by lia) (by lia)) (by rw[rangeSize_one];split<;>lia) (by lia) λh' cZ acc z kp hi=>ay h' cZ acc.toList z kp (abg hi)
 refine aa1 (A:=X.A.in1.in1) (show X.A.frames=some X.stack from cY.ok.frames) (show X.A.handled=none from ao.hd) (show X.A.depth<Yw from ao.depth) cY (F.grow g3) S bn (λpm c hL=>qk v pm c hL) λeH=>?_;obtain⟨bW,aR,gu⟩:=hu f eH cR cG;exact⟨bW,aR,ask i _ aJ ex ah cG (aI.trans g3) bW gu⟩
end
end L2
namespace L3
open PySem L2 PySem.W
def IN(b':bg)(js:ZP)(ds:ZK)(ρ:ZM)(k:ZK->Prop):Prop:=∃key:D->Int,ds.length<64/\(∀j∈js,ρ[j]?≠some .bag)/\(∀d∈ds,b' (.val d::js.map (kT ρ)) λy=>y=.int (key d)) /\
 ∀ds':ZK,ds'.Perm ds->ds'.Pairwise (λa b=>key a<=key b)->k ds'
def abm(u b':bg)(js:ZP):df:=λρ k=>u ρ λx=>∃n:Nat,x=.int n/\IN b' js ((S4 n).map λi:Nat=>D.int i) ρ k
theorem aW.grown{K:Zu}{R:am}{W:TI->Prop}{B H ak:am}{σ:St}{ρ:ZM}(e:aW K R W B H σ ρ)(g:iN H ak):aW K R W B ak σ ρ:=
 e.unframe (λa o h _=>g a o h) λa h=>by
  obtain⟨x,y,q,r⟩:=(e.frW_B h).2;exact⟨x,y,g _ _ q,r⟩
theorem IP{K:Zu}{B:am}:∀{vs:ZL}{ds:ZK},Reps K B vs ds->∀p∈ds.zip vs,bU K B p.2 p.1
 |_,_,.nil,p,ag=>by cases ag
 |_,_,.cons a r,p,ag=>by
  rw[Vn]at ag;rcases SG.mp ag with rfl|ag
  ·exact a
  exact IP r p ag
theorem CI{K:Zu}{B:am}:∀{dM:List (D×V)},(∀p∈dM,bU K B p.2 p.1)->Reps K B (dM.map Ul) (dM.map Vs)
 |[],_=>.nil
 |p::dM,h=>.cons (h p Sw) (CI λq ay=>h q (Sy _ ay))
theorem IQ(key:D->Int):∀(ds:ZK)(vs:ZL),(ds.map key).zip vs=(ds.zip vs).map λp=>(key p.1,p.2)
 |[],_=>by simp
 |_::_,[]=>by simp
 |d::ds,v::vs=>by rw[SH,Vn,Vn,SH,IQ key ds vs]
theorem abn{K:Zu}{B:am}(n:Nat):Reps K B ((S4 n).map λi:Nat=>V.int i) ((S4 n).map λi:Nat=>D.int i):=by
 induction S4 n with
 |nil=>exact .nil
 |cons a l b9=>exact .cons (.int _) b9
theorem abo{K:Zu}{b':bg}{js:ZP}{R:am}{W:TI->Prop}{aY au:am}{σ:St}{ρ:ZM}{ds:ZK}{vs:ZL}{l:TI}{aJ:ZK->Prop}{Q:cq}(oe:js.Nodup)(ai:aW K R W aY au σ ρ)(ap:uR au l vs)(rs:Reps K aY vs ds)(a2:IN b' js ds ρ aJ)(q:∀ds a vs ak,aJ ds->aW K R W aY ak σ ρ->R a=none->aY a=none->ak a=some (.lst vs)->Reps K aY vs ds->(∀i,¬cF σ ρ i a)->Q (.ref a) ak):IM (λbW=>e' K bW b') σ au js Q [.ref l]:=by
 obtain⟨key,oF,nb,ae,ah⟩:=a2;have ln:=rs.length;refine⟨l,vs,ds.map key,rfl,ap,by lia,by rw[Sv];lia,λi OF agS al IR aS aI bW gu=>?_,λaS qC bz aI cO p1 p2=>?_⟩
 ·rw[SW]at IR;obtain⟨tl,gO,rfl⟩:=UA.mp IR;obtain⟨cc,xO,hT⟩:=rs.getV al;rw[gO]at xO;cases xO;have ar:=ai.grown aI;have m2:=(ar.within 1 oe).setV 0 hT;refine gu _ _ (ae tl (S9 gO)) _ _ _ _ _ _ m2 λd3 af lB cG eY bb g3 cR=>?_;subst eY;refine⟨by cases cR;rfl,λb o ay=>?_⟩;refine bb.fr b o ay λ⟨j,bC,_,abp⟩=>nb j bC abp
 rw[IQ]at p1;obtain⟨dM,nD,rfl⟩:=sN p1 rfl;have f1:∀z∈dM,bU K aY z.2 z.1:=λz hz=>IP rs z (nD.mem_iff.mp hz);have ev:(dM.map λp=>(key p.1,p.2)).map Ul=dM.map Ul:=by rw[SR];rfl
 rw[ev];have ar:=ai.grown aI;obtain⟨aT,bd,bA,c7,d1⟩:=ar.newO cO (CI f1);refine q _ qC _ _ (ah (dM.map Vs) ?_ ?_) aT bd bA c7 (CI f1) d1
 ·have:=nD.map Vs;rwa[List.map_fst_zip (by lia)]at this
 rw[Xc]at p2⊢;exact p2
section
variable{X:aU}{a:WP}{u b':bg}{p hT IS pos lp kp:Pos}{params:X1}{body:WP}{scope:XV}{clos:List (Str×TI)}{x:Str}{fr:ZT}{js:ZP}{k:Nat}
theorem abq(ao:eF k X.A)(aw:br X a u)(abr:eD X "range")(abt:X.mg "range"=none)(aF:eD X "sorted")(aA:X.mg "sorted"=none)(LT:sK X.K X.mg X.env.code (X.env.qual++"<lambda>"))(uP:defaultsOf params X.env=([],[]))(jS:Zo scope X.env=pure clos)(S:xL X x fr js scope clos)(oe:js.Nodup)(qk:∀u pm c hL,YY (kla_fn "<lambda>" (X.env.qual++"<lambda>") params body scope clos pm (.ref c) hL) ⟨[u],[]⟩=pure [(x,u)])(hu:∀f eH s H,br (uQ X X.A.in1.in1 (x::fr) (X.env.qual++"<lambda>") scope clos f eH s H) body b')(uS:eQ X a []:=by rfl)(nu:UV [a] X.env=[(false,Yl a X.env)]:=by rfl):
  kM X (.Call (.Name "sorted" p) [.Call (.Name "range" hT) [a] [] IS] [⟨some "key",.Lambda params body scope lp,kp⟩] pos) (abm u b' js):=by
 obtain⟨_,h1,aq⟩:=aw;refine⟨_,abl (Rd:=λbW=>e' X.K bW b') ao aF aA (d5 (abi abr abt (d5 h1 fj uS) nu) fj rfl) LT uP jS S qk (λf eH s H=>hu f eH s H) rfl rfl,λρ aJ h R W B H σ Q e q=>?_⟩;refine aq ρ _ h R W B H σ _ e λd v aY au aG ai aE aC=>?_;obtain⟨n,rfl,ah⟩:=aG;refine⟨n,by rw[aC.intV],λp ag=>?_⟩;have ar:=ai.allocH ag (.rng 0 n);refine abo oe ar (.inr ⟨n,?_,d9,rfl⟩) (abn n) ah λds a vs ak z e aT bd bA c7 d1=>q ds a vs aY ak z e aE aT bd bA c7 d1;obtain⟨_,oF,_⟩:=ah;simpa using oF
end
end L3
namespace L2
open PySem PySem.Spec PyProof.Rows PySem.W
section
variable{prog:WF}{w:Xx}{A:Xy}{E:SZ->TD->Prop}{s:TD}
theorem abu(a v:SZ):argsOk "max" ⟨[a],[(Str.ofString "default",v)]⟩:=by unfold argsOk;kernel_rfl
theorem abv{id:String}{b:Yy}{args:ZU}{xQ:List (Str×SZ)}{Q:SZ->TD->Prop}(ah:builtinKind id=none)(ag:plainId id=true)(ae:entryFor table id=some b)(aw:argsOk id ⟨args,xQ⟩)(hc:wpAny (Wp prog w) A.in1 (b ⟨args,xQ⟩) (λe9 s'=>match e9 with
   |.done f=>(match (Except.ok f:ZC)with|.ok (.ret v)=>Q v s'|.ok _=>False|.error e=>E e s')
   |.again c'=>c'.quiet=true/\codeAny (Wp prog w) A c' (λr s'=>match r with|.ok (.ret v)=>Q v s'|.ok _=>False|.error e=>E e s') s') E s):wpAny (Wp prog w) A (call (.builtin id) args xQ) Q E s:=by
 refine wpAny_call (codeAny_call_builtin ag ae ?_);simp only[checkBuiltinCall,ah];cases q:Manifest.signature? id with
 |none=>exact SL hc
 |some sig=>
  have z:Bind.checkArgs id sig ⟨args,xQ⟩=pure ():=by simpa only[argsOk,q]using aw
  simp only[z];exact SL hc
def IT(G:Int->Prop)(arr:Array SZ):Prop:=arr = #[]\/∃m t,arr = #[.int m t,.int m t]/\G m
theorem abw{I S:TI}{cA wr:ZV}{n:Nat}{P:Nat->SZ->Prop}{St:Nat->XB->Prop}{R:ZC->TD->Prop}{G:Int->Prop}{d:SZ}(W:Walks prog w A.in1 I cA wr n P St)(eJ:∀i v,P i v->∃m t,v=.int m t/\G m)(IU:S∉cA):
  ∀(k i:Nat)(s:TD)(arr:Array SZ)(c:Nat),n-i=k->i<=n->St i s.heap->IT G arr->s.heap.get? S=some {cls:=.type "list",dict:=none,data:=.seq arr c,slots :=#[]}->
  (∀v h' cZ,(v=d\/∃m t,v=.int m t/\G m)->(∀b o,b∉wr->b≠S->s.heap.get? b=some o->h'.get? b=some o)->R (.ok (.ret v)) {s with heap:=h',toks:=cZ})->
  codeAny (Wp prog w) A (.builtin "max.loop" ⟨[.ref I,.none,.ref S],[(Str.ofString "default",d)]⟩) R s:=by
 have nw:S∉wr:=λh=>IU (W.sub _ h);have j':(toString "max"++toString ".loop":String)="max.loop":=by decide
 intro k;induction k with
 |zero=>
  intro i s arr c ah hi st ae ga lJ;have e:i=n:=by lia
  subst e;refine Yr Xe ?_;rw[Around.under_plainId US _];show wpAny _ A.in1 (seqItems? (.ref S) >>= _) _ _ s
  refine SB (Yz ga rfl ?_);show wpAny _ A.in1 (tryCatch (YS (.ref I)) _ >>= _) _ _ s
  refine SB (Y8 (W.done s _ _ st λh' cZ kp=>?_));have sP:=kp S _ nw ga;rcases ae with rfl|⟨m,t,rfl,g⟩
  ·exact SB (Yb (SL (lJ d h' cZ (.inl rfl) λb o x _ z=>kp b o x z)))
  show wpAny _ A.in1 (updateSeq S (λ_ => #[]) >>= _) _ _ _
  refine SB (YX sP rfl (SB (YJ (SL ?_))));exact lJ _ _ cZ (.inr ⟨m,t,rfl,g⟩) λb o x y z=>(Heap.get?_update_other _ _ (Ta y)).trans (kp b o x z)
 |succ k b9=>
  intro i s arr c ah hi st ae ga lJ;have lt:i<n:=by lia
  refine Yr Xe ?_;rw[Around.under_plainId US _];show wpAny _ A.in1 (seqItems? (.ref S) >>= _) _ _ s
  refine SB (Yz ga rfl ?_);show wpAny _ A.in1 (tryCatch (YS (.ref I)) _ >>= _) _ _ s
  refine SB (Y8 (W.item i s _ _ lt st λv h' cZ f2 jI kp=>?_));have sP:=kp S _ nw ga;obtain⟨m,t,rfl,g⟩:=eJ i v f2
  have put:∀xR:Array SZ,IT G xR->codeAny (Wp prog w) A (.builtin "max.loop" ⟨[.ref I,.none,.ref S],[(Str.ofString "default",d)]⟩) R {s with heap:=h'.update S (Obj.mapSeq λ_=>xR),toks:=cZ}:=λxR oE=>
   b9 (i+1) _ xR _ (by lia) lt (W.frame _ _ _ jI λb ae o e=>(Heap.get?_update_other _ _ (λh:S=b=>IU (by rw[h];exact ae))).trans e) oE (Heap.get?_update_self _ sP rfl) λv aa CJ CK CL=>lJ v aa CJ CK λb o x y z=>CL b o x y ((Heap.get?_update_other _ _ (Ta y)).trans (kp b o x z))
  rcases ae with rfl|⟨dW,ea,rfl,ft⟩
  ·show wpAny _ A.in1 (updateSeq S (λ_ => #[.int m t,.int m t]) >>= _) _ _ _
   refine SB (YX sP rfl ?_);rw[j'];exact SL ⟨Ym US _,put _ (.inr ⟨m,t,rfl,g⟩)⟩
  show wpAny _ A.in1 (tryCatch (Yv [.int m t,.int m t] (richCompare .Gt (.int m t) (.int dW ea) >>= _)) _ >>= _) _ _ _
  refine SB (Y8 (Xu (SB (CmpOf.ints_gt (P:=λi v=>∃t,v=.int (if i=0 then m else dW) t) (λi=>if i=0 then m else dW) (λ_ _ h=>h) 0 1 _ _ _ _ _ ⟨t,rfl⟩ ⟨ea,rfl⟩ ?_))));refine SB (Xu (XD ?_));refine SB (YJ (SL ?_));refine wpAny_ite_split (λ_=>?_) λ_=>?_
  ·refine SB (YX sP rfl (SB (YJ ?_)));rw[j'];exact SL ⟨Ym US _,put _ (.inr ⟨m,t,rfl,g⟩)⟩
  refine SB (YJ ?_);rw[j'];exact SL ⟨Ym US _,b9 (i+1) _ _ c (by lia) lt jI (.inr ⟨dW,ea,rfl,ft⟩) sP λv aa CJ CK CL=>lJ v aa CJ CK λb o x y z=>CL b o x y (kp b o x z)⟩
theorem abx{l:TI}{vs:ZU}{d:SZ}{G:Int->Prop}{Q:SZ->TD->Prop}(dY:A.handled=none)(ap:s.heap.IsList l vs.toArray)(aL:∀v∈vs,∃m t,v=.int m t/\G m)(h:∀v h' cZ,(v=d\/∃m t,v=.int m t/\G m)->(∀b o,s.heap.get? b=some o->h'.get? b=some o)->Q v {s with heap:=h',toks:=cZ}):
  wpAny (Wp prog w) A (call (.builtin "max") [.ref l] [(Str.ofString "default",d)]) Q E s:=by
 have j':(toString "max"++toString ".loop":String)="max.loop":=by decide
 refine abv PySem.F.kind_max PySem.F.plain_max PySem.F.entry_max (abu _ _) ?_;show wpAny _ A.in1 (Builtin.Builtins.bindParams "max" ["key","default"] 0 ⟨[],[(Str.ofString "default",d)]⟩ >>= _) _ _ s
 refine SB (Y' (show Builtin.Builtins.bindParams "max" ["key","default"] 0 ⟨[],[(Str.ofString "default",d)]⟩=pure [none,some d]from rfl) ?_);refine SB (SL ?_);have IV:l<s.heap.objs.size:=by obtain⟨_,e,_⟩:=ap;exact Heap.lt_size e
 refine SB (Yc ap ?_);refine SB (W1 ?_);rw[j'];let h1:=s.heap.push {cls:=.type "list_iterator",data:=.fields #[.ref l,.int 0 0]}
 have W:=Walks.list (prog:=prog) (w:=w) (A:=A.in1) dY s.heap.objs.size l (S3 IV) vs.toArray;have st:h1.IsListIter s.heap.objs.size l 0/\h1.IsList l vs.toArray:=⟨⟨_,Heap.get?_push_size _ rfl,rfl,rfl⟩,ap.push _⟩;have aG:h1.objs.size=s.heap.objs.size+1:=Heap.size_push _ _
 have oS:h1.objs.size∉[s.heap.objs.size,l]:=by
  intro m;rw[aG]at m;rcases SG.mp m with e|m
  ·exact absurd e (T5 (Nat.lt_succ_self _))
  rcases SG.mp m with e|m
  ·exact absurd e (T5 (Xf IV))
  cases m
 refine SL ⟨Ym US _,abw (G:=G) (S:=h1.objs.size) W (λi v e=>?_) oS _ 0 _ #[] _ rfl (Ti _) (W.frame _ _ _ st λb _ o e=>Heap.get?_push_of_some _ e) (.inl rfl) (Heap.get?_push_size _ rfl) λv h' cZ f2 kp=>?_⟩
 ·rw[List.getElem?_toArray]at e;exact aL v (S9 e)
 refine h v h' cZ f2 λb o e=>?_;have lb:=Heap.lt_size e
 exact kp b o (λm=>by
  rcases SG.mp m with e|m
  ·exact absurd e (S3 lb)
  cases m) (by rw[aG];exact S3 (Xf lb)) (Heap.get?_push_of_some _ (Heap.get?_push_of_some _ e))
end
def aby(bL:e8)(k2:bK):bK:=λσ H Q=>bL σ H λvs au=>∃(l:TI)(ns:ZI),vs=[.ref l]/\au l=some (.lst (ns.map V.int))/\k2 σ au λy aS=>∃d,y=.int d/\aS l=some (.lst (ns.map V.int))/\∀m,(m=d\/m∈ns)->Q (.int m) aS
theorem IW:∀{ns:ZI}{vs:ZU},bN (ns.map V.int) vs->∀v∈vs,∃m t,v=.int m t/\m∈ns
 |[],_,.nil,v,h=>by cases h
 |n::ns,_,.cons r t,v,h=>by
  rcases SG.mp h with rfl|h
  ·obtain⟨t,e⟩:=r;exact⟨n,t,e,Sw⟩
  obtain⟨m,t,e,q⟩:=IW t v h;exact⟨m,t,e,Sy _ q⟩
section
variable{X:aU}{a d:WP}{bL:e8}{k2:bK}{p pos kp:Pos}{k:Nat}
theorem abz(ao:eF k X.A)(aF:eD X "max")(aA:X.mg "max"=none)(aw:hp X [a] bL)(hd:bY X d k2)(av:X8 pos (UV [a] X.env)=(false,Yl a X.env)::X8 pos (UV [] X.env):=by rfl)(eh:(X8 pos (UV [a] X.env)).any (·.1)=false:=by rfl):
  bY X (.Call (.Name "max" p) [a] [⟨some "default",d,kp⟩] pos) (aby bL k2):=by
 intro aj s σ H Q I h;refine XT (nU I aF aA (by decide +kernel:XK "max"=some (.builtin "max")) ?_);refine callWith_kw (cl (aw pos aj s σ H _ I h) λus aC ⟨vs,au,a',aq,aM⟩=>?_) av eh;obtain⟨l,ns,rfl,ap,aM⟩:=aM;obtain⟨u,rfl,hs⟩:=vals1 aq;cases hs;refine kws_cons (cl (hd aj aC σ au _ a' aM) λu bf ⟨y,aS,da,cg,d,gc,vO,q⟩=>?_);subst gc;obtain⟨t,rfl⟩:=cg;refine kws_nil ?_;obtain⟨its,b6,cr,_⟩:=da.list (cN.of vO);show wpAny (Wp X.prog X.w) X.A (call (.builtin "max") [.ref l] [(Str.ofString "default",.int d t)]) (gY X aj σ Q) X.xe bf
 refine abx (G:=λm=>m∈ns) (show X.A.handled=none from ao.hd) cr.isList (IW b6) λv h' cZ f2 kp=>?_;rcases f2 with rfl|⟨m,t',rfl,abA⟩
 ·exact⟨.int d,aS,da.kept kp,⟨_,rfl⟩,q d (.inl rfl)⟩
 exact⟨.int m,aS,da.kept kp,⟨_,rfl⟩,q m (.inr abA)⟩
end
end L2
namespace L3
open PySem L2 PySem.W
def abB(u xS:bg):bg:=λρ k=>u ρ λx=>∃ns:ZI,x=.lst (ns.map D.int)/\xS ρ λy=>∃d,y=.int d/\∀m,(m=d\/m∈ns)->k (.int m)
theorem abC{X:aU}{a d:WP}{u xS:bg}{p pos kp:Pos}{k:Nat}(ao:eF k X.A)(aw:br X a u)(hd:br X d xS)(aF:eD X "max")(aA:X.mg "max"=none)(uS:eQ X a []:=by rfl)(av:X8 pos (UV [a] X.env)=(false,Yl a X.env)::X8 pos (UV [] X.env):=by rfl)(eh:(X8 pos (UV [a] X.env)).any (·.1)=false:=by rfl):
  br X (.Call (.Name "max" p) [a] [⟨some "default",d,kp⟩] pos) (abB u xS):=by
 obtain⟨_,h1,aq⟩:=aw;obtain⟨_,aa,aN⟩:=hd;refine⟨_,abz ao aF aA (d5 h1 fj uS) aa av eh,λρ aJ h R W B H σ Q e q=>?_⟩;refine aq ρ _ h R W B H σ _ e λx v aY au aG ai aE aC=>?_;obtain⟨ns,rfl,aG⟩:=aG;obtain⟨l,vs,rfl,ap,rs⟩:=aC.lstV;have ev:=Ag rs;subst ev;refine⟨l,ns,rfl,ai.bh _ _ ap,aN ρ _ aG R W aY au σ _ ai λy v bG aS a8 ar aI bf=>?_⟩;obtain⟨d,rfl,a8⟩:=a8;exact⟨d,by rw[bf.intV],ar.bh _ _ (aI.s _ _ ap),λm aA=>q _ _ bG aS (a8 m aA) ar (aE.trans aI) (.int m)⟩
end L3
namespace L3
open PySem L2 PySem.W PyProof.Rows
def xT(K:Zu)(mg:Str->Option SZ)(x:Str):Prop:=∀f o fd,mg x=some (.ref f)->K.lookup f=some o->o.data=.func fd->sK K mg fd.code (x++".<locals>."++"<lambda>")
section
variable{P:WF}{w:Xx}{K:Zu}{mg:Str->Option SZ}{base:XB}{x:Str}{st:XE}{N ps:ZT}
theorem abD{k:Nat}{sp:iA}(F:cM K mg x st ps)(L:xT K mg x)(S:cC N ps (bZ st))(len:∀vs H Q E,sp vs H Q E->vs.length=ps.length)(hu:∀(f:TI) (cdv:SZ) (A:Xy) (outer:List Tx) (s:TD) (H:am) (vs:ZL) (Q:cq) (E:gW),sK K mg cdv (x++".<locals>."++"<lambda>")->eF k (A.deeper (Y5 x (bZ st) s.heap.objs.size f cdv))->sp vs H Q E->∃t,jh (ly kh P w K mg base N x (bZ st) f cdv A outer s H E).nox (kg st) t/\t {nx:=λ_ ak=>Q .non ak,rt:=Q} (L2.start N vs) H):cj P w K mg base x ps (k+1) sp:=by
 obtain⟨f,fd,m,tk,b⟩:=F.ex;refine⟨f,fd,m,tk.kp,b,?_⟩;obtain⟨oc,od,kV,doc,pm,an,cdv,ct,osl,rfl,lk,dI⟩:=tk.ex;refine En lk dI S len λA outer s H vs Q E ao oZ=>?_;obtain⟨t,h,q⟩:=hu f cdv A outer s H vs Q E (L f _ _ m lk rfl) ao oZ;exact⟨t,h.nox,q⟩
theorem abE{lv n:Nat}{F:ck}(qr:cM K mg x st ps)(L:xT K mg x)(S:cC N ps (bZ st))(aO:ps.length=n)(hu:∀(f:TI) (cdv:SZ) (A:Xy) (outer:List Tx) (s:TD) (H:am) (E:gW),sK K mg cdv (x++".<locals>."++"<lambda>")->eF lv (A.deeper (Ve x (bZ st) s.heap.objs.size f cdv))->∃u,h6 (ly kh P w K mg base N x (bZ st) f cdv A outer s H E).nox (kg st) u/\∀as k,as.length=n->F as k->u {nx:=λ_=>k (.val .non),rt:=k} (as++SX (N.length-n) .no)):cj P w K mg base x ps (lv+1) (cm K n F):=by
 refine abD qr L S (λvs H Q E h=>?_) (λf cdv A outer s H vs Q E LT ao h=>?_)
 ·obtain⟨W,B,as,k,_,ap,_,_,_,fp,_⟩:=h;rw[fp.length,ap,aO]
 obtain⟨W,B,as,k,f4,ap,ae,dP,hw,fp,q⟩:=h;obtain⟨u,⟨t,aR,rt⟩,a2⟩:=hu f cdv A outer s H E LT ao;have ev:=aW.start (N:=N) (VU ae) dP hw fp;rw[ap]at ev;refine⟨t,aR,rt _ _ (a2 as k ap f4) H W B H (L2.start N vs) _ ev ⟨λρ σ az ak h e g=>?_,λ_ _ _ _ h=>h.elim,λ_ _ _ _ h=>h.elim,λr v az ak h e g z=>q r v az ak h ⟨e,g,z⟩⟩⟩;exact q _ _ az ak h ⟨e.toWd,g,.non⟩
end
theorem CM{α:Type}{y:Str}{v:α}:∀{l:List (Str×α)},l.lookup y=some v->(y,v)∈l
 |[],h=>by cases h
 |p::l,h=>by
  rw[VZ]at h;by_cases e:(y==p.1)=true
  ·rw[e]at h;have:=SO h;have gc:y=p.1:=by simpa using e
   rw[gc,<-this];exact Sw
  rw[show(y==p.1)=false from by simpa using e]at h;exact Sy _ (CM h)
theorem abF{X:aU}{x:Str}{fr:ZT}{js:ZP}{scope:XV}{clos:List (Str×TI)}(h1:scope.kind=.function)(aa:scope.isCoroutine=false)(aH:scope.isGenerator=false)(a6:scope.names.lookup x=some .local)(cH:(scope.names.all λp=>match p.2 with|.cell=>false|.free=>(clos.lookup p.1).isSome|_=>true)=true)(ey:(clos.map λp=>X.env.cells.lookup p.1)=clos.map λp=>some p.2)(nj:(x::fr).Nodup)(qV:(js.map λj=>X.N[j]?)=fr.map some)(qW:(fr.map λy=>scope.names.lookup y)=fr.map λ_=>some .free)(ul:(fr.map λy=>X.env.kindOf y)=fr.map λ_=>some .cell):xL X x fr js scope clos:=by
 have all:=Vg.mp cH;have at_:∀{α β:Type}{f g:α->β}{l:List α},l.map f=l.map g->∀a∈l,f a=g a:=λh a m=>List.map_inj_left.mp h a m;refine⟨h1,aa,aH,a6,λy aP e=>?_,λy aP=>?_,λy c hc=>at_ ey _ (CM hc),?_,nj,λi y j aP bC=>?_⟩
 ·have:=all y aP;rw[e]at this;cases this
 ·have:=all _ (CM aP);exact VJ.mp this
 ·have:=UF S7 qV;simpa using this.symm
 have IX:=S9 aP;refine⟨?_,at_ qW y IX,.inl (at_ ul y IX)⟩;have:=UF (λl=>l[i]?) qV;simp only[SW,bC,aP,UK]at this;exact SO this
end L3
namespace L3
open PySem PySem.W L2
def k8(h:XB)(a:TI):Option Obj:=(h.get? a).filter λo => !isTab o
def IY(h:XB):Zu:=(S4 h.objs.size).filterMap λa=>(k8 h a).map λo=>(a,o)
def re(x:Str):Str:=x++".<locals>."++"<lambda>"
def uT(P:TI)(q:Str):Obj:=⟨.none,none,.fields #[.ref P,.str q 0],#[]⟩
def CN(h:XB)(ls:ZT):Zu:=ls.filterMap λx=>(lm h x).map λP=>(Uf,uT P (re x))
def nI(h:XB)(ls:ZT):Zu:=IY h++CN h ls
theorem rf{h:XB}{a:TI}{o:Obj}(e:h.get? a=some o)(n:isTab o=false):k8 h a=some o:=by simp[k8,e,n,Option.filter]
theorem CO{h:XB}{a:TI}{o:Obj}(e:k8 h a=some o):h.get? a=some o:=by
 unfold k8 at e;exact(Option.filter_eq_some_iff.mp e).1
theorem abG(h:XB)(a:TI):(IY h).lookup a=k8 h a:=by
 refine(FN (k8 h) a _).trans ?_;by_cases e:a<h.objs.size
 ·rw[Tk (TB.mpr e)]
 rw[Tl (λz=>e (TB.mp z))];simp[k8,Heap.get?_none_of_le (Nat.le_of_not_lt e)]
theorem CP{h:XB}{a:TI}(n:a≠Uf):∀ls:ZT,(CN h ls).lookup a=none
 |[]=>rfl
 |x::ls=>by
  unfold CN;cases q:lm h x with
  |none=>
   rw[WM (by rw[q];rfl)];exact CP n ls
  |some P=>
   rw[WN (b:=(Uf,uT P (re x))) (by rw[q];rfl),VZ];have:(a==Uf)=false:=by simpa using n
   rw[this];exact CP n ls
theorem abH{h:XB}{ls:ZT}{CQ:Obj}(aA:k8 h Uf=some CQ)(a:TI):(nI h ls).lookup a=k8 h a:=by
 unfold nI;rw[List.lookup_append,abG];by_cases e:a=Uf
 ·subst e;rw[aA];rfl
 rw[CP e];simp
section
variable{h:XB}{K:Zu}(dJ:∀a,K.lookup a=k8 h a)
include dJ
theorem rh{name:Str}{r:Option SZ}(e:lj h name=some r):nsIn K Uf name=some r:=by
 unfold lj at e;split at e
 ·rename_i es a0 sl ax
  unfold nsIn;rw[dJ,rf ax rfl];exact e
 cases e
theorem abI{eH:SZ}{q:Str}(e:yh h eH q=true):codeIn K eH q=true:=by
 unfold yh at e;split at e
 ·split at e
  ·rename_i c bM hW vs sl ax
   split at e
   ·rename_i x n t r aL
    have el:isTab ⟨bM,hW,.fields vs,sl⟩=false:=by
     have:vs.isEmpty=false:=by
      cases z:vs.isEmpty with
      |false=>rfl
      |true=>
       rw[Vt]at z;rw[z]at aL;cases aL
     unfold isTab;simp only[this];rfl
    unfold codeIn;simp only[dJ,rf ax el,aL];exact e
   cases e
  cases e
 cases e
theorem abJ{x:Str}{st:XE}(e:yi h x=yj x st):wx K x st:=by
 unfold yi at e;split at e
 ·rename_i f bD
  split at e
  ·rename_i oc od fd osl ax
   obtain⟨j',Ea,ps,agT,sc,agU,bM,agV,k1,doc,pm,an,cdv,ct,nA⟩:=fd;rw[AS]at e;simp only[Vu,Uz]at e;obtain⟨rfl,rfl,rfl,rfl,rfl,rfl,rfl,rfl,rfl,e⟩:=e;have lk:=(dJ f).trans (rf ax rfl);refine⟨f,_,rh dJ bD,MU (oc:=oc) (od:=od) (osl:=osl) (kV:=k1) (doc:=doc) (pm:=pm) (an:=an) (cdv:=cdv) (ct:=ct) lk (abI dJ e) ?_⟩;unfold keepIn;simp only[lk]
  rw[AS]at e;cases e
 rw[AS]at e;cases e
theorem abK{x:Str}{i j:Int}(e:yk h x=some (x,i,j)):wy K x i j:=by
 unfold yk at e;split at e
 ·rename_i p ag
  split at e
  ·rename_i od its n sl ax
   split at e
   ·rename_i og iR r4 qK hi
    simp only[Vu,Uz]at e;obtain⟨_,rfl,rfl⟩:=e;have dv:its = #[.int og iR,.int r4 qK]:=Array.toList_inj.mp hi;subst dv;exact⟨p,od,sl,n,iR,qK,rh dJ ag,(dJ p).trans (rf ax rfl)⟩
   cases e
  cases e
 cases e
theorem abL{x:Str}{c:Int ⊕ Str}(e:yl h x=some (x,c)):FQ K x c:=by
 unfold yl at e;split at e
 ·rename_i i t ag
  simp only[Vu,Uz]at e;obtain⟨_,rfl⟩:=e;exact⟨t,rh dJ ag⟩
 ·rename_i i t ag
  simp only[Vu,Uz]at e;obtain⟨_,rfl⟩:=e;exact⟨t,rh dJ ag⟩
 cases e
theorem tab_of{t:l2}{w:Xx}{s:TD}(av:s.heap=h)(e:ym t s=yn t w):Tab t K:=by
 subst av;simp only[ym,yn,Uz]at e;obtain⟨ai,ar,bb,b0⟩:=e;refine⟨?_,?_,?_,?_⟩
 ·generalize t.fs=l at ai;induction l with
  |nil=>trivial
  |cons p l b9=>
   simp only[SH,UP]at ai;exact⟨abJ dJ ai.1,b9 ai.2⟩
 ·generalize t.bs=l at ar;induction l with
  |nil=>trivial
  |cons p l b9=>
   simp only[SH,UP]at ar;exact⟨rh dJ ar.1,b9 ar.2⟩
 ·generalize t.ts=l at bb;induction l with
  |nil=>trivial
  |cons p l b9=>
   simp only[SH,UP]at bb;exact⟨abK dJ bb.1,b9 bb.2⟩
 generalize t.cs=l at b0;induction l with
 |nil=>trivial
 |cons p l b9=>
  simp only[SH,UP]at b0;exact⟨abL dJ b0.1,b9 b0.2⟩
end
theorem abM{o:Obj}(e:isTab o=true):o={cls:=.none,data:=.fields #[]}:=by
 obtain⟨bM,hW,dt,sl⟩:=o;unfold isTab at e;split at e
 ·rename_i vs aL
  have Cs:dt=.fields vs:=aL;subst Cs;rw[TL,TL]at e;obtain⟨⟨ai,ar⟩,bb⟩:=e;rw[Vt]at ai;have AB:sl = #[]:=Vt.mp ar;subst ai AB;split at bb
  ·rename_i h1 aa
   have qx:bM=.none:=h1;have qy:hW=none:=aa;subst qx qy;rfl
  cases bb
 cases e
theorem IZ{h:XB}{x:Str}{P:TI}(e:lm h x=some P):∃f of fd c oc,lj h x=some (some (.ref f))/\h.get? f=some of/\of.data=.func fd/\fd.code=.ref c/\h.get? c=some oc/\isTab oc=false /\
  ∀aa:XB,aa.get? c=some oc->CodeHd aa c P/\isCodeTable aa P:=by
 unfold lm at e;split at e
 ·rename_i f bD
  split at e
  ·rename_i bM hW fd sl ax
   split at e
   ·rename_i c hc
    split at e
    ·rename_i agW vs agX rB
     split at e
     ·rename_i agY iT tf abN bj b sm tt qB abO gs CR Az
      split at e
      ·cases e
      rename_i ne
      cases e;have abP:vs.getD 11 .none=.ref P:=by rw[Array.getD_eq_getD_getElem?,qB];rfl
      refine⟨f,_,fd,c,_,bD,ax,rfl,hc,rB,?_,λaa q=>⟨⟨_,vs,iT,tf,abN,bj,b,sm,tt,q,rfl,rfl,qB,abP,abO,gs,CR,Az,ne⟩,c,_,vs,q,rfl,rfl,qB⟩⟩
      have:vs.isEmpty=false:=by
       cases z:vs.isEmpty with
       |false=>rfl
       |true=>
        rw[Vt]at z;rw[z]at qB;cases qB
      unfold isTab;simp only[this];rfl
     cases e
    cases e
   cases e
  cases e
 cases e
theorem CS{h:XB}{ep:TI}(e:vj h=some ep):∃o,lj h "__builtins__"=some (some (.ref ep))/\h.get? ep=some o/\isTab o=false/\o.cls=.type "module"/\o.dict=some XW/\o.data=.plain:=by
 unfold vj at e;split at e
 ·rename_i b ae
  split at e
  ·rename_i d sl ax
   split at e
   ·rename_i z
    cases e;subst z;exact⟨_,ae,ax,rfl,rfl,rfl,rfl⟩
   cases e
  cases e
 cases e
structure ri (h:XB) (ls:ZT) (ep:TI):Prop where
 m:vj h=some ep
 b:ep≠XW
 g:ep≠Uf
 t:∀x∈ls,∃P,lm h x=some P/\P≠Uf/\P≠ep/\h.get? P=some {cls:=.none,data:=.fields #[]}/\(ls.find? λy=>lm h y==some P)=some x
theorem abQ{h:XB}{ls:ZT}(e:yo h ls=true):∃ep,ri h ls ep:=by
 unfold yo at e;split at e
 ·rename_i ep aA
  rw[TL,TL]at e;obtain⟨⟨ai,ar⟩,bb⟩:=e;refine⟨ep,aA,by simpa using ai,by simpa using ar,λx al=>?_⟩;have ex:=Vg.mp bb x al;unfold DN at ex;rw[TL]at ex;obtain⟨b0,d6⟩:=ex;split at b0
  ·rename_i P eJ
   rw[TL,TL]at b0;obtain⟨⟨hD,gs⟩,CT⟩:=b0;split at CT
   ·rename_i o ax
    refine⟨P,eJ,by simpa using hD,by simpa using gs,by rw[ax,abM CT],?_⟩;rw[eJ]at d6;exact eq_of_beq d6
   cases CT
  cases b0
 cases e
theorem I0{h:XB}{x:Str}{r:Option SZ}(e:lj h x=some r):∃o,h.get? Uf=some o/\isTab o=false/\∀vs,o.data≠.fields vs:=by
 unfold lj at e;split at e
 ·rename_i ax
  exact⟨_,ax,rfl,λvs z=>by cases z⟩
 cases e
def CU(K:Zu)(x:Str):Prop:=∀(h:XB)(mg:Str->Option SZ),K.In h->h.Ns Uf mg->xT K mg x
section
variable{h:XB}{ls:ZT}{ep:TI}(L:ri h ls ep)
include L
theorem ri.at(a:TI):(nI h ls).lookup a=k8 h a:=by
 obtain⟨o,ae,_⟩:=CS L.m;obtain⟨CQ,e,n,_⟩:=I0 ae;exact abH (rf e n) a
theorem ri.inn:(nI h ls).In h:=λa o e=>CO ((L.at a).symm.trans e)
theorem ri.lad{x:Str}(al:x∈ls):CU (nI h ls) x:=by
 intro aa mg X G f o fd aA lk hd;obtain⟨P,pW,nP,nb,eJ,_⟩:=L.t x al;obtain⟨H',of,agZ,c,oc,ai,ar,bb,b0,d6,hD,gs⟩:=IZ pW;obtain⟨bO,b1,b2,b3,b4,Ck,Cn⟩:=CS L.m;have a7:=mg_of X G (rh L.at ai);have a5:=mg_of X G (rh L.at b1);rw[aA]at a7;cases a7;have q:=CO ((L.at f).symm.trans lk);rw[ar]at q;cases q;rw[bb]at hd;cases hd;have hh:∀aa:XB,(nI h ls).In aa->aa.get? c=some oc:=λaa X=>X _ _ ((L.at c).trans (rf d6 hD));refine⟨c,P,b0,?_,λz=>nP z.symm,λaH CV=>(gs aH (hh aH CV)).1,λaH CV=>⟨ep,bO,a5,L.b,L.g,λz=>nb z.symm,CV _ _ ((L.at ep).trans (rf b2 b3)),b4,Ck,Cn⟩⟩;refine T6.mpr ⟨(Uf,uT P (re x)),S5 _ (T6.mpr ⟨x,al,by rw[pW];rfl⟩),?_⟩;simp[uT,re]
theorem ri.marked{p:TI×Str}(ag:p∈zo (nI h ls)):∃x∈ls,lm h x=some p.1/\p.2=re x:=by
 obtain⟨⟨b,bO⟩,mem,e⟩:=T6.mp ag;rcases SK.mp mem with m|m
 ·obtain⟨a,_,q⟩:=T6.mp m;obtain⟨fJ,hO,pX⟩:=UA.mp q;cases pX;have g:=CO hO;obtain⟨_,ae,_⟩:=CS L.m;obtain⟨CQ,ai,_,bb⟩:=I0 ae;obtain⟨bM,hW,dt,sl⟩:=bO;split at e
  ·rename_i dY
   cases dY;split at e
   ·split at e
    ·rename_i z
     rw[z,ai]at g;cases g;exact absurd rfl (bb _)
    cases e
   cases e
  cases e
 obtain⟨x,al,q⟩:=T6.mp m;obtain⟨P,hO,pX⟩:=UA.mp q;cases pX;simp[uT]at e;exact⟨x,al,by rw[hO,<-e],by rw[<-e]⟩
end
def T0(h:XB)(ls:ZT):am:=λb=>(ls.find? λy=>lm h y==some b).map λx=>.tbl #[.str (re x) 0]
def saysL(t:l2)(ls:ZT)(_:Xx)(h:XB):Prop:=∃(h1:XB)(ep:TI),(∀b o,h1.get? b=some o->h.get? b=some o)/\ri h1 ls ep/\Tab t (nI h1 ls)
theorem ofL(t:l2)(ls:ZT)(w:Xx)(s:TD)(e:sX t ls s=sY t w):saysL t ls w s.heap:=by
 simp only[sX,sY,Uz]at e;obtain⟨ep,L⟩:=abQ e.2;exact⟨s.heap,ep,λ_ _ e=>e,L,tab_of L.at rfl e.1⟩
theorem keepsL(t:l2)(ls:ZT)(w:Xx)(h h':XB)(y:saysL t ls w h)(k:∀b o,h.get? b=some o->h'.get? b=some o):saysL t ls w h':=by
 obtain⟨h1,ep,x,r⟩:=y;exact⟨h1,ep,λb o e=>k _ _ (x _ _ e),r⟩
theorem walkL{l:OpenLaw}{k:Nat}{q:WF}{loose:ZT}{XP:(Str->Option SZ)->XB->Prop}{t:l2}{ls:ZT}{d:DefRec}(aO:l.most=some 63)(zR:d.params.defaults=[])(ao:eF k Zn)(F:∀(w:Xx) (K:Zu) (mg:Str->Option SZ) (fB:TI) (h:XB),(∀x∈ls,CU K x)->Tab t K->K.In h->h.Ns Uf mg->mg d.name=some (.ref fB)->∃fd:X3,(∀(s:TD) (u:SZ),ZE s fd ⟨[u],[]⟩ [("_law_script",u)])/\∀base:XB,K.In base->base.Ns Uf mg->ke l.prog w K mg base kh k fB fd ["_law_script"] (wi K)):
  WalkO q loose XP (saysL t ls) l.row.toRowW d [] (λf vs=>PySem.call f vs):=by
 refine Att.attach_call aO zR λw s₀ dX mg gU fB o pm eH doc a vs ns G Y ax hd dI tg zS hints eE aF=>?_;obtain⟨h1,ep,l0,L,T⟩:=Y;have o0:(nI h1 ls).In dX.heap:=L.inn.keeps l0;obtain⟨fd,ae,f4⟩:=F w (nI h1 ls) mg fB _ (λx al=>L.lad al) T o0 G.T.g tg;refine MP o0 G.T.g G.T.b G.T.builtins G.T.nolimit aF zS hints (b8 eE) ao f4 ae (T0 h1 ls) (λb u z=>?_) (λp ag=>?_) (λH EF ga=>⟨a,ns,rfl,ga,eE,λ_=>rfl⟩) λH e s' z=>z
 ·obtain⟨x,ai,rfl⟩:=UA.mp z;have al:=List.mem_of_find?_eq_some ai;have tb:lm h1 x=some b:=by simpa using List.find?_some ai
  obtain⟨P,pW,_,_,eJ,_⟩:=L.t x al;rw[tb]at pW;cases pW;obtain⟨_,_,_,c,oc,_,_,_,_,d6,_,gs⟩:=IZ tb;refine⟨⟨_,rfl⟩,l0 _ _ eJ,?_,(gs _ (l0 _ _ d6)).2⟩;rw[L.at];unfold k8;rw[eJ];rfl
 obtain⟨x,al,ai,ar⟩:=L.marked ag;obtain⟨P,pW,_,_,_,CW⟩:=L.t x al;rw[ai]at pW;cases pW;refine⟨#[.str (re x) 0],0,?_,by rw[ar];rfl⟩;unfold T0;rw[CW];rfl
end L3
namespace L3
open PySem L2
def abR(b:Bool):V->ZL->am->cq->Prop:=λx xs H Q=>∃a c a0 ks as vs k,x=.ref a/\xs=[.ref c]/\mx H b a a0 ks as vs/\mw H b k c/\Q ((bo ks vs k).getD .non) H
section
variable{X:aU}{b:Bool}
theorem abS(a2:X.A.units+4<XO):ta X "dict.get" (abR b):=by
 intro aj s σ H x xs v us Q I bn rs h;obtain⟨a,c,G9,ks,as,vs,k,rfl,rfl,hW,ox,q⟩:=h;obtain rfl:v=Value.ref a:=bn;obtain⟨db,rfl,aq⟩:=rs.one;obtain rfl:db=Value.ref c:=aq;obtain⟨h1,aa,aH,a6,us,cH,hH,ey⟩:=hW.raw I.hok;have sj:=cH.length;refine Zr Vo hH.typeIs WY (PySem.F.args_dict_get_2 _ _) (meetsH_dict_get (k1 X.prog X.w b) a c a6) ⟨uk a2,k,en ks as us,ox.is I.hok,hH,?_⟩;rw[si k aa (by lia)];exact⟨_,H,I.tok _,G4 (d:=.non) (sk k cH) rfl,q⟩
end
def abT(b:Bool)(n:Nat)(gi:bg):dO:=λρ k=>∃a ks as dss,ρ[n]?=some (.deep (.dl b a ks as dss))/\gi ρ λy=>∃aJ,y=gr b aJ/\qY b aJ/\k (match bo ks dss aJ with|some ds => !ds.isEmpty|none=>false)
section
variable{X:aU}{b:Bool}{e:WP}{gi:bg}{x:Str}{px dd cb:Pos}
theorem abU(n:Nat)(a2:X.A.units+4<XO)(aD:br X e gi)(bF:gG X n x:=by rfl)(aL:gy X.env.scope x:=by walk_at"v")(hd:ed x:=by decide)(dI:gV x:=by decide)(fy:iv X (.Name x px) "get":=by rfl)(hv:kI X cb [e]:=by rfl)(fA:iw dd cb:=by rfl)(av:eQ X e []:=by rfl)(eh:g8 X cb []:=by rfl)(aR:∀whole,Zb (.Call (.Attribute (.Name x px) "get" dd) [e] [] cb) X.env whole=(do let v <-whole;YR (Expr.Call (.Attribute (.Name x px) "get" dd) [e] [] cb).pos;Yv [v] (ZA v)):=by intro _;rfl):
  h5 X (.Call (.Attribute (.Name x px) "get" dd) [e] [] cb) (abT b n gi):=by
 obtain⟨_,h1,aq⟩:=aD;refine⟨_,zD (Im Vo WX (abS (b:=b) a2) (g9 bF aL hd dI) (d5 h1 fj av) fy hv fA av eh) aR,λρ k h R W B H σ Q ev q=>?_⟩;obtain⟨a,ks,as,dss,ax,h⟩:=h;obtain⟨b7,cc⟩:=ev.deepAt ax;obtain⟨a0,m8,c4,c5,c6,mA⟩:=cc.ok;refine⟨_,b7,⟨a,rfl,b,a0,ks,m8,_,c4,my ev.bh c6 c5⟩,?_⟩;refine aq ρ _ h R W B H σ _ ev λy v aY au aG aT aE aC=>?_;obtain⟨aJ,rfl,ah,ay⟩:=aG;obtain⟨c,rfl⟩:=sq aC;obtain⟨_,d3⟩:=aT.deepAt ax;obtain⟨gn,k6,b0,d6,hD,gs⟩:=d3.ok;refine⟨a,c,gn,ks,k6,as.map V.ref,aJ,rfl,rfl,⟨b0,my aT.bh hD d6⟩,qX aT.bh ah aC,?_⟩;have ln:as.length=dss.length:=gs.len;rw[Cut.lk_map];cases l:bo ks as aJ with
 |none=>
  have ld:bo ks dss aJ=none:=by
   cases bS:bo ks dss aJ with
   |none=>rfl
   |some ds=>
    obtain⟨j,cS,eN⟩:=uK bS;have:=eN as ln;have lt:=(TJ.mp cS).1;rw[l,SU (by lia)]at this;cases this
  rw[ld]at ay;exact⟨false,rfl,q _ aY au ay aT aE⟩
 |some p=>
  obtain⟨j,cS,eN⟩:=uK l;have lt:=(TJ.mp cS).1;have ld:bo ks dss aJ=some (dss[j]'(by lia)):=by rw[eN dss ln.symm,SU]
  rw[ld]at ay;obtain⟨vs,ag,rs⟩:=gs.at_ j p _ cS (SU (by lia));refine⟨!vs.isEmpty,.inl ⟨vs,cN.of ag,rfl⟩,q _ aY au ?_ aT aE⟩;have ap:=rs.length
  have:vs.isEmpty=(dss[j]'(by lia)).isEmpty:=by
   cases vs with
   |nil=>cases z:dss[j]'(by lia)with
    |nil=>rfl
    |cons _ _=>rw[z]at ap;cases ap
   |cons _ _=>cases z:dss[j]'(by lia)with
    |nil=>rw[z]at ap;cases ap
    |cons _ _=>rfl
  rw[this];exact ay
end
abbrev k9:=ZM->(D->ZM->Prop)->Prop
def abV(K:Su)(t:bK)(u:k9):Prop:=∀(ρ:ZM)(k:D->ZM->Prop),u ρ k->∀(R:am)(W:TI->Prop)(B H:am)(σ:St)(Q:cq),aW K R W B H σ ρ->
 (∀d v bi az ak,k d bi->aW K R W az ak σ bi->bJ R B az->bU K az v d->Q v ak)->t σ H Q
def oH(X:aU)(e:WP)(u:k9):Prop:=∃t,bY X e t/\abV X.K t u
def abW(u:bg):k9:=λρ k=>u ρ λd=>k d ρ
theorem I1{X:aU}{e:WP}{u:bg}(h:br X e u):oH X e (abW u):=by
 obtain⟨t,h,r⟩:=h;exact⟨t,h,λρ k z R W B H σ Q e q=>r ρ _ z R W B H σ Q e λd v az ak z e g s=>q d v ρ az ak z e g s⟩
theorem I2{α:Type}:∀{l:List α}{i j:Nat}{a:α},l.Nodup->l[i]?=some a->l[j]?=some a->i=j
 |[],_,_,_,_,h,_=>by simp at h
 |b::l,0,0,_,_,_,_=>rfl
 |b::l,0,j+1,a,nd,h1,aa=>by
  simp at h1 aa;subst h1;exact absurd (S9 aa) (Tq.mp nd).1
 |b::l,i+1,0,a,nd,h1,aa=>by
  simp at h1 aa;subst aa;exact absurd (S9 h1) (Tq.mp nd).1
 |b::l,i+1,j+1,a,nd,h1,aa=>by
  simp at h1 aa;rw[I2 (Tq.mp nd).2 h1 aa]
def lc:List ZZ->Z0->ZZ->ZK->Z0
 |k'::ks,y::dss,k,ds=>if k'=k then ds::dss else y::lc ks dss k ds
 |_,dss,_,_=>dss
theorem CX{α:Type}:∀{ks:List ZZ}{as:List α}{k:ZZ}{x:α},bo ks as k=some x->∃j:Nat,as[j]?=some x/\∀(dss:Z0)(ds:ZK),dss.length=as.length->bo ks dss k=dss[j]?/\lc ks dss k ds=dss.set j ds
 |[],_,_,_,h=>by simp[bo]at h
 |_::_,[],_,_,h=>by simp[bo]at h
 |k'::ks,a::as,k,x,h=>by
  rw[bo]at h;by_cases e:k'=k
  ·rw[Tk e]at h;cases h;refine⟨0,rfl,λdss ds ap=>?_⟩;cases dss with
   |nil=>simp at ap
   |cons y dss=>exact⟨by rw[bo,Tk e];rfl,by rw[lc,Tk e];rfl⟩
  rw[Tl e]at h;obtain⟨j,h1,aa⟩:=CX h;refine⟨j+1,by simpa using h1,λdss ds ap=>?_⟩;cases dss with
  |nil=>simp at ap
  |cons y dss=>
   obtain⟨aH,a6⟩:=aa dss ds (by simpa using ap);exact⟨by rw[bo,Tl e,aH];rfl,by rw[lc,Tl e,a6];rfl⟩
theorem I3:∀(ks:List ZZ)(dss:Z0)(k:ZZ)(ds:ZK),(lc ks dss k ds).length=dss.length
 |[],_,_,_=>by simp[lc]
 |_::_,[],_,_=>by simp[lc]
 |k'::ks,y::dss,k,ds=>by
  rw[lc];split
  ·rfl
  rw[SM,I3 ks dss k ds,SM]
def abX(b:Bool)(n:Nat)(gi:bg):k9:=λρ k=>∃a ks as dss,ρ[n]?=some (.deep (.dl b a ks as dss))/\gi ρ λy=>∃aJ ds d,y=gr b aJ/\qY b aJ/\bo ks dss aJ=some (ds++[d])/\k d (ρ.set n (.deep (.dl b a ks as (lc ks dss aJ ds))))
section
variable{X:aU}{b:Bool}{e:WP}{gi:bg}{x:Str}{px I4 dd cb:Pos}
theorem abY(n:Nat)(a2:X.A.units+4<XO)(aD:br X e gi)(av:s9 e)(bF:gG X n x:=by rfl)(aL:gy X.env.scope x:=by walk_at"v")(hd:ed x:=by decide)(dI:gV x:=by decide)(fy:iv X (.Subscript (.Name x px) e I4) "pop":=by rfl)(fA:iw dd cb:=by rfl):
  oH X (.Call (.Attribute (.Subscript (.Name x px) e I4) "pop" dd) [] [] cb) (abX b n gi):=by
 obtain⟨_,h1,aq⟩:=aD;refine⟨_,Ez T9 Vp Vq EC (l9 (G6 (b:=b) a2) (g9 bF aL hd dI) h1 av) fy fA,λρ k h R W B H σ Q ev q=>?_⟩;obtain⟨a,ks,as,dss,ax,h⟩:=h;obtain⟨b7,cc⟩:=ev.deepAt ax;refine⟨_,b7,?_⟩;refine aq ρ _ h R W B H σ _ ev λy v aY au aG aT aE aC=>?_;obtain⟨aJ,ds,d,rfl,ah,ap,ay⟩:=aG;obtain⟨c,rfl⟩:=sq aC;obtain⟨_,d3⟩:=aT.deepAt ax;obtain⟨gn,k6,b0,d6,hD,gs⟩:=d3.ok;have ln:as.length=dss.length:=gs.len;obtain⟨kQ,ci,cu⟩:=CX ap
 obtain⟨p,ag⟩:∃p,bo ks as aJ=some p:=by
  obtain⟨j,cS,eN⟩:=uK ap;rw[eN as ln];exact⟨_,SU (by have:=(TJ.mp cS).1;lia)⟩
 obtain⟨j,cS,eN⟩:=CX ag;obtain⟨pr,CY⟩:=eN dss ds ln.symm;have I5:dss[j]?=some (ds++[d]):=pr.symm.trans ap;obtain⟨vs,ms,rs⟩:=gs.at_ j p _ cS I5;have ll:=rs.length;rw[Sx,Tn]at ll;obtain⟨fL,m3,cg⟩:=rs.get (i:=ds.length) (d:=d) (by simp);have mem:p∈as:=S9 cS;have pa:p≠a:=λz=>(Tq.mp d3.nd).1 (z▸mem);refine⟨a,c,gn,ks,k6,as.map V.ref,aJ,.ref p,rfl,rfl,⟨b0,my aT.bh hD d6⟩,qX aT.bh ah aC,by rw[Cut.lk_map,ag];rfl,.inl ⟨rfl,vs,cN.of ms⟩,p,vs,fL,rfl,rfl,ms,by rw[ll];exact m3,?_⟩;have q9:as.Nodup:=(Tq.mp d3.nd).2;have bd:=aT.deepW (c':=.dl b a ks as (lc ks dss aJ ds)) (x:=p) (o:=.lst vs.dropLast) ax (Sy _ mem) rfl (λy aP=>aP) d3.nd ⟨gn,k6,by rw[bV (Ta pa)];exact b0,d6,hD,by rw[I3];exact ln,λi gK ds' aw p8=>?_⟩
 ·exact q _ _ _ aY _ ay bd aE cg
 rw[CY]at p8;by_cases k5:i=j
 ·subst k5;rw[cS]at aw;cases aw;rw[TK (by have:=(TJ.mp I5).1;lia)]at p8;cases p8;have:=rs.dropLast;rw[Xg]at this;exact⟨_,d9,this⟩
 rw[TF (Ta k5)]at p8;obtain⟨hg,eI,fQ⟩:=gs.at_ i gK ds' aw p8;refine⟨hg,?_,fQ⟩;rw[bV]
 ·exact eI
 intro z;subst z;exact k5 (I2 q9 aw cS)
end
def abZ(i:Nat)(u:k9):cQ:=λU ρ=>(∃ds:ZK,ρ[i]?=some (.own ds))/\u ρ λd bi=>∃ds:ZK,bi[i]?=some (.own ds)/\ds.length<TT/\U.nx (bi.set i (.own (ds++[d])))
def ab0(j:Nat):k9:=λρ k=>∃(ds:ZK)(z:D),ρ[j]?=some (.own (ds++[z]))/\k z (ρ.set j (.own ds))
section
variable{X:aU}{e:WP}{u:k9}{pos:Pos}
theorem ab1(i:Nat){x:Str}{px dd cb:Pos}(aD:oH X e u)(bF:gG X i x:=by rfl)(aL:gy X.env.scope x:=by walk_at"v")(hd:ed x:=by decide)(dI:gV x:=by decide)(fy:iv X (.Name x px) "append":=by rfl)(hv:kI X cb [e]:=by rfl)(fA:iw dd cb:=by rfl)(av:eQ X e []:=by rfl)(kJ:g8 X cb []:=by rfl)(iZ:XA (.Call (.Attribute (.Name x px) "append" dd) [e] [] cb) none pos.line X.env=pure false:=by rfl):fk X (.Expr (.Call (.Attribute (.Name x px) "append" dd) [e] [] cb) pos) (abZ i u):=by
 obtain⟨_,h1,aq⟩:=aD;refine⟨_,rE (qj T9 VV VW vN (g9 bF aL hd dI) (d5 h1 fj av) fy hv fA av kJ) iZ,λU ρ h R W B H σ D e s=>?_⟩;obtain⟨⟨ds,ax⟩,h⟩:=h;obtain⟨a,vs,ai,ar,bb,b0,d6⟩:=e.ownAt ax;refine⟨_,ai,.inl ⟨rfl,vs,cN.of b0⟩,?_⟩;refine aq ρ _ h R W B H σ _ e λd v bi aY au aG aT aE aC=>?_;obtain⟨ds',mS,ap,aG⟩:=aG;obtain⟨gK,hg,ci,cu,gt,gg,jr⟩:=aT.ownAt mS;rw[ai]at ci;cases ci;exact⟨a,hg,v,rfl,rfl,gg,by rw[jr.length];exact ap,s.nx _ _ aY _ aG (aT.write ai mS (jr.append (.cons aC .nil))) aE⟩
theorem I6(j:Nat){x:Str}{px dd cb:Pos}(bC:gG X j x:=by rfl)(aL:gy X.env.scope x:=by walk_at"v")(hd:ed x:=by decide)(dI:gV x:=by decide)(fy:iv X (.Name x px) "pop":=by rfl)(fA:iw dd cb:=by rfl):oH X (.Call (.Attribute (.Name x px) "pop" dd) [] [] cb) (ab0 j):=by
 refine⟨_,Ez T9 Vp Vq EC (g9 bC aL hd dI) fy fA,λρ k h R W B H σ Q f q=>?_⟩;obtain⟨ds,z,ax,h⟩:=h;obtain⟨a,vs,aM,a4,dx,hO,pX⟩:=f.ownAt ax;have ll:=pX.length;rw[Sx,Tn]at ll;obtain⟨fL,m3,cg⟩:=pX.get (i:=ds.length) (d:=z) (by simp);refine⟨_,aM,.inl ⟨rfl,vs,cN.of hO⟩,a,vs,fL,rfl,rfl,hO,by rw[ll];exact m3,?_⟩
 have bA:=f.write aM ax (ds':=ds) (vs:=vs.dropLast) (by
  have:=pX.dropLast
  rwa [Xg]at this)
 exact q _ _ _ B _ h bA (bJ.refl _ _) cg
end
def ab2(u:k9)(g:eZ):cQ:=λU ρ=>u ρ λd bi=>g d bi U.nx
abbrev pY:=ZM->(ZK->ZM->Prop)->Prop
def ab3(K:Su)(t:e8)(u:pY):Prop:=∀(ρ:ZM)(k:ZK->ZM->Prop),u ρ k->∀(R:am)(W:TI->Prop)(B H:am)(σ:St)(Q:ZL->am->Prop),aW K R W B H σ ρ->
 (∀ds vs bi az ak,k ds bi->aW K R W az ak σ bi->bJ R B az->Reps K az vs ds->Q vs ak)->t σ H Q
def uU(X:aU)(es:ZW)(u:pY):Prop:=∃t,hp X es t/\ab3 X.K t u
def ab4:pY:=λρ k=>k [] ρ
def ab5(u:k9)(w:pY):pY:=λρ k=>u ρ λd d7=>w d7 λds rj=>k (d::ds) rj
def ab6(w:pY):k9:=λρ k=>w ρ λds bi=>ds.length<=TT/\k (.tup ds) bi
def ab7(n:Nat)(F:ck)(w:pY):k9:=λρ k=>w ρ λds bi=>ds.length=n/\F (ds.map aK.val) λr=>lE r λd=>k d bi
section
variable{X:aU}{e:WP}{es:ZW}{u:k9}{w:pY}{pos p:Pos}{n:Nat}{F:ck}
theorem CZ{bj:WP}{g:eZ}(aD:oH X e u)(aF:km X bj g)(av:XY [bj] e pos.line X.env=pure false:=by rfl)(hw:XZ [bj] e X.env=pure none:=by rfl)(h1:(Xz [bj] X.env).map (·.2)=[Y3 bj X.env]:=by rfl):fk X (.Assign [bj] e pos) (ab2 u g):=by
 obtain⟨_,aw,aq⟩:=aD;obtain⟨_,ae,aN⟩:=aF;refine⟨_,rG aw ae av hw h1,λU ρ h R W B H σ D e s=>?_⟩;refine aq ρ _ h R W B H σ _ e λd v d7 aY au aG ai aE aC=>?_;exact aN d d7 _ aG R W aY au σ v _ ai aC λbi bm a8 ar _=>s.nx _ _ aY au a8 ar aE
theorem I7:uU X [] ab4:=⟨_,fj,λρ k h R W B H σ Q e q=>q [] [] ρ B H h e (bJ.refl _ _) .nil⟩
theorem xU(aD:oH X e u)(kG:uU X es w)(av:eQ X e es:=by rfl):uU X (e::es) (ab5 u w):=by
 obtain⟨_,h1,aq⟩:=aD;obtain⟨_,aa,aN⟩:=kG;refine⟨_,d5 h1 aa av,λρ k h R W B H σ Q e q=>?_⟩;refine aq ρ _ h R W B H σ _ e λd v d7 aY au aG ai aE aC=>?_;exact aN d7 _ aG R W aY au σ _ ai λds vs rj bG aS a8 ar aI bf=>q _ _ rj bG aS a8 ar (aE.trans aI) (.cons (aC.mono aI.s) bf)
theorem ab8{x1}(h:uU X es w):oH X (.Tuple es x1 pos) (ab6 w):=by
 obtain⟨_,h1,aq⟩:=h;refine⟨_,zG h1,λρ k z R W B H σ Q e q=>?_⟩;refine aq ρ _ z R W B H σ _ e λds vs d7 aY au aG ai aE aC=>?_;refine⟨by rw[aC.length];exact aG.1,λp ag=>?_⟩;have aI:=ai.grow ag (.tup vs);exact q _ _ d7 _ _ aG.2 (ai.alloc ag _) (aE.trans aI) (.tup d9 (aC.mono aI.s))
theorem I8{K:Su}{B:am}{σ:St}{ρ:ZM}:∀{vs:ZL}{ds:ZK},Reps K B vs ds->kk K B σ ρ vs (ds.map Arg.val)
 |_,_,.nil=>.nil
 |_,_,.cons a r=>.val a (I8 r)
theorem C0:∀ds:ZK,(ds.map Arg.val).map Arg.sl=ds.map aK.val
 |[]=>rfl
 |_::ds=>by rw[SH,SH,SH,C0 ds];rfl
theorem I9:∀ds:ZK,kN (ds.map aK.val)=0
 |[]=>rfl
 |_::ds=>I9 ds
theorem ab9{x:Str}{ps:ZT}{j lv:Nat}(c:cj X.prog X.w X.K X.mg X.base x ps j (cm X.K n F))(ao:eF lv X.A)(aF:eD X x)(aw:uU X (e::es) w)(gC:j<=lv:=by decide)(gA:ed x:=by decide)(aD:eQ X e es:=by rfl)(eh:g8 X pos es:=by rfl):
  oH X (.Call (.Name x p) (e::es) [] pos) (ab7 n F w):=by
 obtain⟨_,h1,aq⟩:=aw;refine⟨_,o2 c ao aF h1 gC gA aD eh,λρ k h R W B H σ Q e q=>?_⟩;refine aq ρ _ h R W B H σ _ e λds vs d7 aY au aG ai aE aC=>?_;rw[SQ]
 have ab':sh (ds.map Arg.val) n=true:=by
  unfold sh;rw[C0,I9,Sv,aG.1];simp
 refine rW ai (I8 aC) ab' (by rw[C0];exact aG.2) λr v bG aS ah ar aI res=>?_;cases r with
 |no=>exact ah.elim
 |bag=>exact ah.elim
 |pin v d=>exact ah.elim
 |deep c=>exact ah.elim
 |val d=>exact q d v d7 bG aS ah ar (aE.trans aI) res
 |new d=>exact q d v d7 bG aS ah ar (aE.trans aI) (bU.mono tm res)
 |own c=>
  cases c with
  |d _ _ _ _=>exact ah.elim
  |l ds=>
  obtain⟨a,rfl,aT,bd,us,bA,c7⟩:=res
  obtain⟨bb,g3⟩:=ar.freeze bA (ai.toWd.fresh aT).1 bd λi m=>absurd aT (by
   have a7:cF σ d7 i a:=m
   exact(ai.mutOk a7).2)
  exact q _ _ d7 _ _ ah bb ((aE.trans aI).trans g3) (.lst d9 (c7.mono g3.s))
end
def aca(i:Nat):dO:=λρ k=>∃ds:ZK,ρ[i]?=some (.own ds)/\k (!ds.isEmpty)
section
variable{X:aU}
theorem I'(i:Nat){x:Str}{px:Pos}(bF:gG X i x:=by rfl)(aL:gy X.env.scope x:=by walk_at"v")(hd:ed x:=by decide)(dI:gV x:=by decide)(aD:∀whole,Zb (.Name x px) X.env whole=(do let v <-whole;YR (Expr.Name x px).pos;Yv [v] (ZA v)):=by intro _;rfl):h5 X (.Name x px) (aca i):=by
 refine⟨_,zD (g9 bF aL hd dI) aD,λρ k h R W B H σ Q e q=>?_⟩;obtain⟨ds,ax,ah⟩:=h;obtain⟨a,vs,aM,a4,dx,hO,rs⟩:=e.ownAt ax;refine⟨_,aM,!vs.isEmpty,.inl ⟨vs,cN.of hO,rfl⟩,q _ B H ?_ e (bJ.refl _ _)⟩
 have:vs.isEmpty=ds.isEmpty:=by
  have ap:=rs.length;cases vs with
  |nil=>cases ds with
   |nil=>rfl
   |cons d ds=>simp at ap
  |cons v vs=>cases ds with
   |nil=>simp at ap
   |cons d ds=>rfl
 rw[this];exact ah
end
def acb(j:Nat)(u:bg):k9:=λρ k=>∃ds:ZK,ρ[j]?=some (.own ds)/\u ρ λd=>∃(n:Nat)(z:D),d=.int n/\n<1000/\ds[n]?=some z/\k z (ρ.set j (.own (.l (ds.eraseIdx n))))
section
variable{X:aU}{e:WP}{u:bg}
theorem acd(j:Nat){x:Str}{px dd cb:Pos}(aD:br X e u)(bC:gG X j x:=by rfl)(aL:gy X.env.scope x:=by walk_at"v")(hd:ed x:=by decide)(dI:gV x:=by decide)(fy:iv X (.Name x px) "pop":=by rfl)(hv:kI X cb [e]:=by rfl)(fA:iw dd cb:=by rfl)(av:eQ X e []:=by rfl)(kJ:g8 X cb []:=by rfl):
  oH X (.Call (.Attribute (.Name x px) "pop" dd) [e] [] cb) (acb j u):=by
 obtain⟨_,h1,aq⟩:=aD;refine⟨_,qj T9 Vp Vq ED (g9 bC aL hd dI) (d5 h1 fj av) fy hv fA av kJ,λρ k h R W B H σ Q f q=>?_⟩;obtain⟨ds,ax,h⟩:=h;obtain⟨a,vs,ai,ar,bb,b0,d6⟩:=f.ownAt ax;refine⟨_,ai,.inl ⟨rfl,vs,cN.of b0⟩,?_⟩;refine aq ρ _ h R W B H σ _ f λd v aY au aG aT aE aC=>?_;obtain⟨n,z,rfl,aO,hz,ah⟩:=aG;obtain⟨gK,hg,ci,cu,gt,gg,jr⟩:=aT.ownAt ax;rw[ai]at ci;cases ci;obtain⟨w,hw,l6⟩:=jr.get hz
 have de:n<hg.length:=by
  rcases U4 n hg.length with q|q
  ·exact q
  rw[S' q]at hw;cases hw
 cases aC;refine⟨a,hg,n,n,w,rfl,rfl,gg,by lia,by lia,?_,hw,?_⟩
 ·rw[YG (by lia) (by lia)];rfl
 have bd:=aT.write ai ax (jr.eraseIdx n);exact q _ _ _ aY _ ah bd aE l6
end
abbrev l1:=Nat->ZM->(ZM->ZK->Prop)->Prop
def C1(u:bg):l1:=λn ρ k=>n<TT/\u ρ λy=>k ρ [y]
def lf(g:eZ)(dE:dO)(gj:l1):ZK->l1
 |[],_,ρ,k=>k ρ []
 |d::ds,n,ρ,k=>g d ρ λd7=>dE d7 λb=>if b=true then gj n d7 λrj ys=>lf g dE gj ds (n+ys.length) rj λic dM=>k ic (ys++dM)else lf g dE gj ds n d7 k
def Ja(w:df)(g:eZ)(dE:dO)(gj:l1):l1:=λn ρ k=>w ρ λds=>lf g dE gj ds n ρ k
def Jb(w:df)(g:eZ)(dE:dO)(gj:l1)(el:Nat)(js:ZP):df:=λρ k=>w ρ λds=>lf g dE gj ds 0 (SX el .no++js.map (kT ρ)) λ_ r=>k r
section
variable{K:Su}{X:aU}{u:bg}{w:df}{pos p:Pos}
structure jE (K:Su) (R:am) (W:TI->Prop) (D:TI) (B H:am) (σ:St) (ρ:ZM) (es:List L3.D):Prop where
 ev:aW K R W B H σ ρ
 r:R D=none
 b:B D=none
 nw:¬W D
 mu:∀j a,cF σ ρ j a->W a
 l:∃ys,H D=some (.lst ys)/\Reps K B ys es
def sQ(K:Su)(em:TI->jw)(gj:l1):Prop:=∀(n:Nat)(ρ:ZM)(k:ZM->List L3.D->Prop),gj n ρ k->∀(R:am)(W:TI->Prop)(D:TI)(B H:am)(σ:St)(es:List L3.D)(Q:St->am->Prop),jE K R W D B H σ ρ es->es.length=n->
 (∀bi az ak bm nw,k bi nw->jE K R W D az ak bm bi (es++nw)->bJ R B az->Q bm ak)->em D σ H Q
theorem jE.same{R:am}{W:TI->Prop}{D:TI}{B H az ak:am}{σ:St}{ρ:ZM}{es:List L3.D}(m:jE K R W D B H σ ρ es)(e:aW K H W az ak σ ρ)(g:bJ H B az):jE K R W D az ak σ ρ es/\bJ R B az:=by
 obtain⟨ys,aP,cg⟩:=m.l;obtain⟨hD,AI⟩:=m.ev.unbase m.mu e g;refine⟨⟨hD,m.r,?_,m.nw,m.mu,ys,e.fr D _ aP m.nw,cg.mono g.s⟩,AI⟩;cases AH:az D with
 |none=>rfl
 |some o=>
  rcases g.n D o AH with z|z
  ·rw[m.b]at z;cases z
  rw[aP]at z;cases z
theorem ace{bW:bK}(h1:e' K bW u):sQ K (wj bW) (C1 u):=by
 intro n ρ k h R W D B H σ es Q m aO q;obtain⟨ap,h⟩:=h;refine h1 ρ _ h H W B H σ _ (m.ev.rebase m.mu) λy v qG gq jT d6 lK mZ=>?_;obtain⟨jF,iG⟩:=m.same d6 lK;obtain⟨ys,aP,cg⟩:=jF.l;have mh:ys.length=es.length:=cg.length;refine⟨ys,aP,by lia,q ρ qG _ σ [y] jT ⟨jF.ev.scribble jF.r jF.b (λj h3=>jF.nw (jF.mu j D h3)) _,jF.r,jF.b,jF.nw,jF.mu,_,d9,cg.append (.cons mZ .nil)⟩ iG⟩
theorem acf{g:fR}{tt:ee}{em:TI->jw}{f6:eZ}{dE:dO}{gj:l1}(aF:o7 K g f6)(aR:h4 K tt dE)(aA:sQ K em gj){R:am}{W:TI->Prop}{D:TI}{aY au:am}{σ:St}{ρ:ZM}{es:List L3.D}{J:ha}{ds:List L3.D}(it:kl K aY J ds)(m:jE K R W D aY au σ ρ es){k:ZM->List L3.D->Prop}(z:lf f6 dE gj ds es.length ρ k){Q:St->am->Prop}(ay:∀bi az ak bm nw,k bi nw->jE K R W D az ak bm bi (es++nw)->bJ R aY az->Q bm ak):∃V:Nat->Nat->St->am->Prop,(∃n,V 0 n σ au)/\tL J g tt (em D) V Q:=by
 refine⟨λi n kq ak=>∃az nw i4,n=ds.length-i/\i<=ds.length/\jE K R W D az ak kq i4 (es++nw)/\bJ R aY az/\lf f6 dE gj (ds.drop i) (es++nw).length i4 λbi r=>k bi (nw++r),⟨ds.length,aY,[],ρ,by simp,Ti _,by simpa using m,bJ.refl _ _,by simpa using z⟩,?_⟩;rintro i n kq aS ⟨bG,nw,i4,rfl,hi,a5,aI,a8⟩;obtain⟨dg,cU,jp⟩:=it aS (aI.s.trans a5.ev.bh) i;by_cases de:i<ds.length
 ·refine .inr ⟨dg de,λx ak y=>?_⟩;obtain⟨rfl,d,hd,bn⟩:=jp x ak de y
  have gO:ds.drop i=d::ds.drop (i+1):=by
   rw[Uu de];rw[SU de]at hd;rw[SO hd]
  rw[gO]at a8;refine aF d i4 _ a8 R W bG ak kq x _ a5.ev (bn.mono aI.s) λic gZ eY bb h3=>?_;have hR:jE K R W D bG ak gZ ic (es++nw):=⟨bb,a5.r,a5.b,a5.nw,λj a w=>a5.mu j a (h3 j a w),a5.l⟩;refine aR ic _ eY ak W bG ak gZ _ (bb.rebase hR.mu) λb kU jv dN b0 fE=>?_;obtain⟨eB,iG⟩:=hR.same b0 fE;cases b with
  |false=>
   rw[Tl SP]at dN⊢;exact⟨ds.length-(i+1),by lia,kU,nw,ic,rfl,de,eB,aI.trans iG,dN⟩
  |true=>
   rw[Tk rfl]at dN⊢;refine aA _ ic _ dN R W D kU jv gZ _ _ eB rfl λC2 qG gq qA uV jT jF lK=>?_;rw[SV]at jF;refine⟨ds.length-(i+1),by lia,qG,nw++uV,C2,rfl,de,jF,(aI.trans iG).trans lK,?_⟩;rw[<-SV,Sx (bs:=uV)];simpa[SV]using jT
 have eq:i=ds.length:=by lia
 subst eq;rw[UJ]at a8;exact .inl ⟨cU (SF _),ay i4 bG aS kq nw (by simpa[lf]using a8) a5 aI⟩
theorem acg{et:gI}{g:fR}{tt:ee}{em:TI->jw}{f6:eZ}{dE:dO}{gj:l1}(h0:tr K et w)(aF:o7 K g f6)(aR:h4 K tt dE)(aA:sQ K em gj):sQ K (λD=>Fs et g tt (em D)) (Ja w f6 dE gj):=by
 intro n ρ k h R W D B H σ es Q m aO q;subst aO;refine h0 ρ _ h H W B H σ _ (m.ev.rebase m.mu) λds J aY au aG ai aE it=>?_;obtain⟨a7,iG⟩:=m.same ai aE;exact acf aF aR aA it a7 aG λbi az ak bm nw a b c=>q bi az ak bm nw a b (iG.trans c)
variable{cI fN ff i2 ea dg cU:WP}{dL aT bd:ZW}{scope:XV}{bM:List (Str×TI)}{ts fr:ZT}{js:ZP}{ft aE aI:eZ}{C3 db dV:dO}{eI fQ:df}
theorem ach{bj it:WP}{α:Type}{Xs:α->aU}(dJ:∀a,(Xs a).K=K)(h:∀a,na (Xs a) bj it w):∃t,(∀a,iy (Xs a) bj it t)/\tr K t w:=by
 refine⟨λσ H Q=>∀a,∃t,iy (Xs a) bj it t/\tr K t w/\t σ H Q,λa aj s σ H Q I q=>?_,λρ k q R W B H σ Q e z a=>?_⟩
 ·obtain⟨t,aR,_,ay⟩:=q a;exact aR aj s σ H Q I ay
 obtain⟨t,aR,ao⟩:=h a;rw[dJ a]at ao;exact⟨t,aR,ao,ao ρ k q R W B H σ Q e z⟩
abbrev aci:=TI×TD×am×ZV
end
section
variable{K:Su}{X:aU}{u:bg}{w:df}{pos p:Pos}
theorem jE.alloc{R:am}{W:TI->Prop}{D:TI}{B H:am}{σ:St}{ρ:ZM}{es:List L3.D}(m:jE K R W D B H σ ρ es){q:TI}(ay:H q=none)(o:eg):jE K R W D (upd B q o) (upd H q o) σ ρ es/\bJ R B (upd B q o):=by
 obtain⟨ys,aP,cg⟩:=m.l;have n:D≠q:=λz=>by rw[z,ay]at aP;cases aP
 have g:=m.ev.grow ay o;exact⟨⟨m.ev.alloc ay o,m.r,by rw[bV n];exact m.b,m.nw,m.mu,ys,by rw[bV n];exact aP,cg.mono g.s⟩,g⟩
theorem acj{g:fR}{tt:ee}{em:TI->jw}{f6:eZ}{dE:dO}{gj:l1}(aF:o7 K g f6)(aR:h4 K tt dE)(aA:sQ K em gj){R:am}{W:TI->Prop}{D:TI}{aY au:am}{σ:St}{ρ:ZM}{es:List L3.D}{J:ha}{ds:List L3.D}(it:Ia K aY J ds)(m:jE K R W D aY au σ ρ es){k:ZM->List L3.D->Prop}(z:lf f6 dE gj ds es.length ρ k){Q:St->am->Prop}(ay:∀bi az ak bm nw,k bi nw->jE K R W D az ak bm bi (es++nw)->bJ R aY az->Q bm ak):∃V:Nat->Nat->St->am->Prop,(∃n,V 0 n σ au)/\tL J g tt (em D) V Q:=by
 refine⟨λi n kq ak=>∃az nw i4,n=ds.length-i/\i<=ds.length/\jE K R W D az ak kq i4 (es++nw)/\bJ R aY az/\lf f6 dE gj (ds.drop i) (es++nw).length i4 λbi r=>k bi (nw++r),⟨ds.length,aY,[],ρ,by simp,Ti _,by simpa using m,bJ.refl _ _,by simpa using z⟩,?_⟩;rintro i n kq aS ⟨bG,nw,i4,rfl,hi,a5,aI,a8⟩;obtain⟨dg,cU,jp⟩:=it aS (aI.s.trans a5.ev.bh) i;by_cases de:i<ds.length
 ·refine .inr ⟨dg de,λx ak y=>?_⟩;obtain⟨ih,xV,Jc,uf,rfl,rfl,hd,bn⟩:=jp x ak de y
  have gO:ds.drop i=.tup Jc::ds.drop (i+1):=by
   rw[Uu de];rw[SU de]at hd;rw[SO hd]
  rw[gO]at a8;obtain⟨a5,ack⟩:=a5.alloc uf (.tup xV);have aI:=aI.trans ack;have Jd:bU K (upd bG ih (.tup xV)) (.ref ih) (.tup Jc):=.tup d9 (bn.mono aI.s);generalize upd aS ih (.tup xV)=ak at a5;generalize upd bG ih (.tup xV)=bG at a5 aI Jd;refine aF _ i4 _ a8 R W bG ak kq _ _ a5.ev Jd λic gZ eY bb h3=>?_;have hR:jE K R W D bG ak gZ ic (es++nw):=⟨bb,a5.r,a5.b,a5.nw,λj a w=>a5.mu j a (h3 j a w),a5.l⟩;refine aR ic _ eY ak W bG ak gZ _ (bb.rebase hR.mu) λb kU jv dN b0 fE=>?_;obtain⟨eB,iG⟩:=hR.same b0 fE;cases b with
  |false=>
   rw[Tl SP]at dN⊢;exact⟨ds.length-(i+1),by lia,kU,nw,ic,rfl,de,eB,aI.trans iG,dN⟩
  |true=>
   rw[Tk rfl]at dN⊢;refine aA _ ic _ dN R W D kU jv gZ _ _ eB rfl λC2 qG gq qA uV jT jF lK=>?_;rw[SV]at jF;refine⟨ds.length-(i+1),by lia,qG,nw++uV,C2,rfl,de,jF,(aI.trans iG).trans lK,?_⟩;rw[<-SV,Sx (bs:=uV)];simpa[SV]using jT
 have eq:i=ds.length:=by lia
 subst eq;rw[UJ]at a8;exact .inl ⟨cU (SF _),ay i4 bG aS kq nw (by simpa[lf]using a8) a5 aI⟩
theorem acl{et:gI}{g:fR}{tt:ee}{em:TI->jw}{f6:eZ}{dE:dO}{gj:l1}{el:Nat}{js:ZP}(h0:Ib K et w)(aF:o7 K g f6)(aR:h4 K tt dE)(aA:sQ K em gj)(oe:js.Nodup):vX K (wm et g tt em el js) (Jb w f6 dE gj el js):=by
 intro ρ k h R W B H σ Q e q;refine h0 ρ _ h R W B H σ _ e λds J aY au aG ai aE it=>?_;intro D jJ;obtain⟨aT,bd,bA⟩:=ai.toWd.fresh jJ;have tP:∀i,¬cF σ ρ i D:=λi m=>ai.notNew jJ m rfl;have ei:=ai.within el oe
 have qF:∀j a,cF (SX el none++iU σ js) (SX el .no++js.map (kT ρ)) j a->∃j,j∈js/\σ[j]?=some (some (V.ref a))/\ρ[j]?=some aK.bag:=λj a m=>by
  have a4:=(ei.mutOk m).2;rcases m with⟨a7,z|⟨es,z⟩⟩|⟨c,z,th⟩
  ·obtain⟨c,c1,c2,_⟩:=ei.bagAt z;rw[a7]at c1;cases c1;rcases c2 with c2|c2
   ·exact c2
   exact absurd c2 a4
  ·obtain⟨c,c1,c2,_⟩:=ei.ownC z;rw[a7]at c1;cases c1;exact absurd c2 a4
  exact absurd ((ei.deepAt z).2.fr a th).1 a4
 generalize tQ:(λa=>∃j,j∈js/\σ[j]?=some (some (V.ref a))/\ρ[j]?=some aK.bag)=ko at ei;have qF:∀j a,cF (SX el none++iU σ js) (SX el .no++js.map (kT ρ)) j a->ko a:=λj a m=>by rw[<-tQ];exact qF j a m
 have hU:∀a,ko a->∃i:Nat,σ[i]?=some (some (.ref a))/\ρ[i]?=some .bag:=λa z=>by
  rw[<-tQ]at z;obtain⟨j,_,z⟩:=z;exact⟨j,z⟩
 have tR:¬ko D:=λz=>by
  obtain⟨og,dy,fa⟩:=hU D z;exact tP og (.inl ⟨dy,.inl fa⟩)
 refine acj aF aR aA (R:=au) (W:=ko) (es:=[]) it ⟨ei.allocH jJ _,jJ,bA,tR,qF,[],d9,.nil⟩ aG λbi bG aS bm nw a a5 aI=>?_;obtain⟨ys,aP,cg⟩:=a5.l;obtain⟨b0,fE⟩:=ai.after hU a5.ev.toWd aI;exact q _ D ys bG aS a b0 (aE.trans fE) aT a5.b aP cg tP
variable{cI fN ff ea dg:WP}{dL aT:ZW}{scope:XV}{bM:List (Str×TI)}{ts fr:ZT}{js:ZP}{ft aE:eZ}{C3 db:dO}{eI:df}
theorem acm{i:Nat}{y:Str}{er mm:Pos}(bF:X.N.Nodup)(qE:X.N[i]?=some y)(aP:X.env.scope.names.lookup y=some .local)(h0:Ic X ea fN w)(acn:∀C s H ex,km (ek X (ts++fr) scope bM C s H ex) ea ft)(aco:∀C s H ex,qH (ek X (ts++fr) scope bM C s H ex) dL C3)(h1:∀C s H ex,na (ek X (ts++fr) scope bM C s H ex) dg ff eI)(acp:∀C s H ex,km (ek X (ts++fr) scope bM C s H ex) dg aE)(acq:∀C s H ex,qH (ek X (ts++fr) scope bM C s H ex) aT db)(ob:∀C s H ex,br (ek X (ts++fr) scope bM C s H ex) cI u)(F:ph X scope bM fr js)(tS:js.Nodup:=by decide)(hc:X.calm=true:=by rfl)(uS:∀v,Xr fN X.env v=pure v:=by intro _;rfl)(nu:∀env v,Xr ff env v=pure v:=by intro _ _;rfl)(iZ:XA (.ListComp cI [⟨ea,fN,dL,0⟩,⟨dg,ff,aT,0⟩] scope pos) (some (.Name y er)) mm.line X.env=pure true:=by rfl):
  fk X (.Assign [.Name y er] (.ListComp cI [⟨ea,fN,dL,0⟩,⟨dg,ff,aT,0⟩] scope pos) mm) (Aa i (Jb w ft C3 (Ja eI aE db (C1 u)) ts.length js)):=by
 obtain⟨_,p0,hF⟩:=h0;let Xs:aci->aU:=λa=>ek X (ts++fr) scope bM a.1 a.2.1 a.2.2.1 a.2.2.2
 obtain⟨_,acr,acs⟩:=ws (K:=X.K) (Xs:=Xs) (λ_=>rfl) λa=>acn a.1 a.2.1 a.2.2.1 a.2.2.2;obtain⟨_,act,acu⟩:=wq (K:=X.K) (Xs:=Xs) (λ_=>rfl) λa=>aco a.1 a.2.1 a.2.2.1 a.2.2.2;obtain⟨_,p1,aq⟩:=ach (K:=X.K) (Xs:=Xs) (λ_=>rfl) λa=>h1 a.1 a.2.1 a.2.2.1 a.2.2.2;obtain⟨_,acv,acw⟩:=ws (K:=X.K) (Xs:=Xs) (λ_=>rfl) λa=>acp a.1 a.2.1 a.2.2.1 a.2.2.2;obtain⟨_,acx,acy⟩:=wq (K:=X.K) (Xs:=Xs) (λ_=>rfl) λa=>acq a.1 a.2.1 a.2.2.1 a.2.2.2;obtain⟨_,C4,mj⟩:=AJ (K:=X.K) (Xs:=Xs) (λ_=>rfl) λa=>ob a.1 a.2.1 a.2.2.1 a.2.2.2;refine⟨_,Fz bF qE aP p0 (λC s H ex=>acr (C,s,H,ex)) (λC s H ex=>act (C,s,H,ex)) (λD C s H ex=>?_) (λ_ _ _=>Og) F hc uS iZ,λU ρ h R W B H σ D e s=>acl hF acs acu (acg aq acw acy (ace mj)) tS ρ _ h R W B H σ _ e λds a vs aY au aG ai aE aT bd bA c7 d1=>s.nx _ _ aY au aG (ai.setO i aT bd bA c7 λj _=>d1 j) aE⟩;exact OC (Y:=Xs (C,s,H,ex)) (p1 _) (acv _) (acx _) (Ay (Y:=Xs (C,s,H,ex)) (C4 _) λ_ _ z=>z) (λ_ _ z=>z) hc (nu _) rfl λ_=>Oh
end
section
variable{K:Su}{R:am}{W:TI->Prop}{B az H ak:am}{σ:St}{ρ:ZM}
theorem xW{i j:Nat}{b a:TI}{c:lz}(m:cF (σ.set i (some (.ref b))) (ρ.set i (.own c)) j a):(j=i/\a=b)\/(j≠i/\cF σ ρ j a):=by
 rcases tp m with⟨e,⟨z,_⟩|z⟩|m
 ·cases z;exact .inl ⟨e,rfl⟩
 ·cases z
 exact .inr m
def uW:aK->aK
 |.val d=>.val d
 |_=>.no
theorem acz{i:Nat}{a:TI}(m:cF σ (ρ.map uW) i a):False:=by
 have key:∀k,(ρ.map uW)[i]?=some k->k=.no\/∃d,k=.val d:=λk h=>by
  rw[SW]at h;cases q:ρ[i]? with
  |none=>rw[q]at h;cases h
  |some s=>
   rw[q]at h;have h:=SO h;subst h;cases s<;>first|exact .inl rfl|exact .inr ⟨_,rfl⟩
 rcases m with⟨_,h|⟨ds,h⟩⟩|⟨c,h,_⟩
 ·rcases key _ h with z|⟨d,z⟩<;>cases z
 ·rcases key _ h with z|⟨d,z⟩<;>cases z
 rcases key _ h with z|⟨d,z⟩<;>cases z
theorem aW.hide(e:aW K R W B H σ ρ):aW K H (λ_=>False) B H σ (ρ.map uW):=by
 refine⟨⟨λ_ _ z _=>z,e.bh,λ_ z=>z.elim,λ_ z=>z.elim,λ_ z=>z.elim⟩,by rw[Sv];exact e.len,λi k h=>?_,λi j a m _=>(acz m).elim⟩;rw[SW]at h;cases q:ρ[i]? with
 |none=>rw[q]at h;cases h
 |some s=>
  rw[q]at h;have h:=SO h;subst h;have z:=e.ok i _ q;cases s with
  |val d=>exact z
  |_=>trivial
theorem aW.unhide{bi:ZM}{bm:St}(e:aW K R W B H σ ρ)(bv:aW K H (λ_=>False) az ak bm bi)(g:bJ H B az):aW K R W az ak σ ρ/\bJ R B az:=by
 have st:∀a o,H a=some o->ak a=some o:=λa o h=>bv.fr a o h λz=>z
 have nb:∀a,B a=none->H a≠none->az a=none:=λa h1 aa=>by
  cases q:az a with
  |none=>rfl
  |some o=>
   rcases g.n a o q with z|z
   ·rw[h1]at z;cases z
   exact absurd z aa
 have acA:∀a,H a≠none->ak a=H a:=λa h=>by
  cases q:H a with
  |none=>exact absurd q h
  |some o=>exact st a o q
 have g1:∀a,gf H a->gf ak a:=λa ⟨x,y,h1,aa⟩=>⟨x,y,st _ _ h1,aa⟩;have nF:∀a,gf H a->H a≠none:=λa ⟨x,y,h1,_⟩=>by rw[h1];simp
 refine⟨e.move ⟨λa o h nw=>st a o (e.fr a o h nw),bv.bh,λa z=>nb a (e.wb a z) (nF a (e.wh a z)),λa z=>g1 a (e.wh a z),e.wr⟩ g.s λi a m=>?_,g.s,λa o h=>?_⟩
 ·obtain⟨a7,a5⟩:=e.mutOk m;refine⟨nb a a7 a5,λz=>?_,λ_=>acA a a5⟩;obtain⟨b,ai,_,_,b0⟩:=e.bagAt z;rw[o6 m z]at ai;cases ai;exact g1 _ b0
 rcases g.n a o h with z|z
 ·exact .inl z
 exact .inr (e.toWd.fresh z).1
end
section
variable{X:aU}{e:WP}{es:ZW}{w:jL}{pos:Pos}{n:Nat}{F:ck}
def acB(i j k:Nat):cQ:=λU ρ=>∃b7 cc d3:ZK,ρ[i]?=some (.own b7)/\ρ[j]?=some (.own cc)/\ρ[k]?=some (.own d3)/\∀p as,U.rt (.deep (.ll p as [b7,cc,d3]))
theorem acC(i j k:Nat){x y z:Str}{px er nD pt:Pos}{x1}(l5:i≠j)(Je:i≠k)(gC:j≠k)(hi:gG X i x:=by rfl)(bC:gG X j y:=by rfl)(ah:gG X k z:=by rfl)(acD:gy X.env.scope x:=by walk_at"v")(acE:gy X.env.scope y:=by walk_at"v")(qU:gy X.env.scope z:=by walk_at"v")(fv:ed x:=by decide)(uX:ed y:=by decide)(xi:ed z:=by decide)(acF:gV x:=by decide)(qM:gV y:=by decide)(acG:gV z:=by decide):
  fk X (.Return (some (.Tuple [.Name x px,.Name y er,.Name z nD] x1 pt)) pos) (acB i j k):=by
 refine⟨_,nW (zG (d5 (g9 hi acD fv acF) (d5 (g9 bC acE uX qM) (d5 (g9 ah qU xi acG) fj rfl) rfl) rfl)),λU ρ h R W B H σ D e s=>?_⟩;obtain⟨b7,cc,d3,h1,aa,aH,q7⟩:=h;obtain⟨ca,eL,aM,aT,b1,c1,aq⟩:=e.ownAt h1;obtain⟨cn,dB,a4,bd,b2,c2,aN⟩:=e.ownAt aa;obtain⟨fm,af,dx,bA,b3,c3,d2⟩:=e.ownAt aH
 have ne:∀{i j:Nat}{a b:TI}{d d':lz},i≠j->σ[i]?=some (some (.ref a))->ρ[i]?=some (.own d)->σ[j]?=some (some (.ref b))->ρ[j]?=some (.own d')->a≠b:=λaO p1 p2 ow acH z=>by
  subst z;exact aO (e.sep _ _ _ (.inl ⟨p1,.inr ⟨_,p2⟩⟩) (.inl ⟨ow,.inr ⟨_,acH⟩⟩))
 have uY:=ne l5 aM h1 a4 aa;have C5:=ne Je aM h1 dx aH;have C6:=ne gC a4 aa dx aH;refine⟨_,aM,_,a4,_,dx,hN,λp ag=>?_⟩;have np:∀{a:TI}{vs:ZL},H a=some (.lst vs)->a≠p:=λh z=>by rw[z,ag]at h;cases h
 refine s.rt _ _ B _ (q7 p [ca,cn,fm]) (e.toWd.allocH ag _) (bJ.refl _ _) ⟨rfl,d9,⟨rfl,λi a ds aE aI=>?_⟩,λa aw=>?_,?_⟩
 ·match i with
  |0=>cases aE;cases aI;exact⟨eL,by rw[bV (np c1)];exact c1,aq⟩
  |1=>cases aE;cases aI;exact⟨dB,by rw[bV (np c2)];exact c2,aN⟩
  |2=>cases aE;cases aI;exact⟨af,by rw[bV (np c3)];exact c3,d2⟩
  |i+3=>cases aE
 ·have aw:a∈[ca,cn,fm]:=aw;simp only[SG,TS,or_false]at aw;rcases aw with rfl|rfl|rfl
  ·exact⟨aT,b1⟩
  ·exact⟨bd,b2⟩
  exact⟨bA,b3⟩
 show[ca,cn,fm].Nodup
 simp[uY,C5,C6]
def acI(i j k:Nat)(n:Nat)(F:ck)(w:jL):cQ:=λU ρ=>w ρ λas=>sh as n=true/\F (as.map Arg.sl) λr=>∃p bs b7 cc d3,r=.deep (.ll p bs [b7,cc,d3])/\U.nx (((ρ.set i (.own (.l b7))).set j (.own (.l cc))).set k (.own (.l d3)))
theorem acJ{f:Str}{ps:ZT}{w' lv:Nat}{i j k:Nat}{x y z:Str}{px er nD pt oB g6:Pos}{ix:Nat}(c:cj X.prog X.w X.K X.mg X.base f ps w' (cm X.K n F))(ao:eF lv X.A)(aF:eD X f)(hc:X.calm=true)(aw:m' X (e::es) w)(bF:X.N.Nodup)(l5:i≠j)(Je:i≠k)(gC:j≠k)(hi:X.N[i]?=some x)(bC:X.N[j]?=some y)(ah:X.N[k]?=some z)(h7:Loc X.env.scope x)(mh:Loc X.env.scope y)(bT:Loc X.env.scope z)(ap:w'<=lv:=by decide)(gA:ed f:=by decide)(aD:eQ X e es:=by rfl)(eh:g8 X g6 es:=by rfl)(CW:iO X x:=by walk_at"f")(xN:iO X y:=by walk_at"f")(fz:iO X z:=by walk_at"f")(av:XY [.Tuple [.Name x px,.Name y er,.Name z nD] ix pt] (.Call (.Name f oB) (e::es) [] g6) pos.line X.env=pure false:=by rfl)(hw:XZ [.Tuple [.Name x px,.Name y er,.Name z nD] ix pt] (.Call (.Name f oB) (e::es) [] g6) X.env=pure none:=by rfl):
  fk X (.Assign [.Tuple [.Name x px,.Name y er,.Name z nD] ix pt] (.Call (.Name f oB) (e::es) [] g6) pos) (acI i j k n F w):=by
 obtain⟨_,h1,aq⟩:=aw;refine⟨_,rG (o2 c ao aF h1 ap gA aD eh) (D4 hc (vw (vv bF hi h7 CW) (vw (vv bF bC mh xN) (vw (vv bF ah bT fz) D3 rfl) rfl) rfl) rfl rfl) av hw rfl,λU ρ h R W B H σ D e s=>?_⟩;refine aq ρ _ h R W B H σ _ e λas vs aY au aG ai aE aC=>?_;rw[SQ];refine rW ai aC aG.1 aG.2 λr v bG aS ah ar aI res=>?_;obtain⟨p,bs,b7,cc,d3,rfl,ah⟩:=ah;obtain⟨rfl,ag,xX,fr,nd⟩:=res;have len:bs.length=3:=xX.len
 obtain⟨b1,b2,b3,rfl⟩:∃b1 b2 b3,bs=[b1,b2,b3]:=by
  match bs,len with
  |[b1,b2,b3],_=>exact⟨b1,b2,b3,rfl⟩
 obtain⟨eL,c1,dg⟩:=xX.at_ 0 b1 b7 rfl rfl;obtain⟨dB,c2,cU⟩:=xX.at_ 1 b2 cc rfl rfl;obtain⟨af,c3,jp⟩:=xX.at_ 2 b3 d3 rfl rfl;have fr:∀a∈[b1,b2,b3],au a=none/\bG a=none:=fr;have nd:[b1,b2,b3].Nodup:=nd;simp only[Tq,SG,TS,or_false,not_or]at nd;obtain⟨⟨uY,C5⟩,C6,_⟩:=nd;have C7:∀a∈[b1,b2,b3],R a=none/\bG a=none/\∀i,¬cF σ ρ i a:=λa aw=>⟨(ai.toWd.fresh (fr a aw).1).1,(fr a aw).2,λi m=>(ai.mutOk m).2 (fr a aw).1⟩;obtain⟨x1,hK,j0⟩:=C7 b1 (by simp);obtain⟨dy,fa,pG⟩:=C7 b2 (by simp);obtain⟨eI,fQ,lr⟩:=C7 b3 (by simp);have C8:=ar.setO i x1 hK c1 dg λq _=>j0 q
 have C9:=C8.setO j dy fa c2 cU λq _ m=>by
  rcases xW m with⟨_,z⟩|⟨_,m⟩
  ·exact uY z.symm
  exact pG _ m
 have acK:=C9.setO k eI fQ c3 jp λq _ m=>by
  rcases xW m with⟨_,z⟩|⟨_,m⟩
  ·exact C6 z.symm
  rcases xW m with⟨_,z⟩|⟨_,m⟩
  ·exact C5 z.symm
  exact lr _ m
 exact⟨p,[.ref b1,.ref b2,.ref b3],rfl,eX.of ag,rfl,_,_,rfl,_,_,rfl,_,_,rfl,rfl,s.nx _ _ bG aS ah acK (aE.trans aI)⟩
def acL(i j:Nat)(eI fQ:df):cQ:=λU ρ=>eI ρ λb7=>fQ (ρ.map uW) λcc=>U.nx ((ρ.set i (.own (.l b7))).set j (.own (.l cc)))
theorem acM{i j:Nat}{x y:Str}{a b:WP}{eI fQ:df}{px er pt:Pos}{ix cu l4}(hc:X.calm=true)(bF:X.N.Nodup)(hi:X.N[i]?=some x)(bC:X.N[j]?=some y)(l5:i≠j)(al:X.env.scope.names.lookup x=some .local)(aP:X.env.scope.names.lookup y=some .local)(aw:kM X a eI)(ae:kM X b fQ)(hw:XZ [.Tuple [.Name x px,.Name y er] ix pt] (.Tuple [a,b] cu l4) X.env=pure (some [x,y]))(h1:UV [a,b] X.env=(false,Yl a X.env)::UV [b] X.env:=by rfl)(aa:eQ X b []:=by rfl)(av:XY [.Tuple [.Name x px,.Name y er] ix pt] (.Tuple [a,b] cu l4) pos.line X.env=pure false:=by rfl):
  fk X (.Assign [.Tuple [.Name x px,.Name y er] ix pt] (.Tuple [a,b] cu l4) pos) (acL i j eI fQ):=by
 obtain⟨_,p1,aq⟩:=aw;obtain⟨_,p2,aN⟩:=ae;refine⟨_,D5 hc bF hi bC l5 al aP (d5 p1 (d5 p2 fj aa) h1) hw av,λU ρ h R W B H σ D e s=>?_⟩;refine aq ρ _ h R W B H σ _ e λb7 ca eL aY au aG ai aE aT bd bA c7 d1=>?_;refine aN _ _ aG au (λ_=>False) aY au σ _ ai.hide λcc cn dB bG aS a8 ar aI aM a4 dx hO pX=>?_;obtain⟨bb,g3⟩:=ai.unhide ar aI;have uY:cn≠ca:=by rintro rfl;rw[bA]at aM;cases aM
 have C':bG ca=none:=by
  cases z:bG ca with
  |none=>rfl
  |some o=>
   rcases aI.n ca o z with y|y
   ·rw[bd]at y;cases y
   rw[bA]at y;cases y
 have C8:=bb.setO i aT C' (ar.fr ca _ bA λz=>z) (c7.mono aI.s) λq _=>d1 q
 have C9:=C8.setO j (ai.toWd.fresh aM).1 a4 dx hO λq _ m=>by
  rcases xW m with⟨_,z⟩|⟨_,m⟩
  ·exact uY z
  exact(ai.mutOk m).2 aM
 exact⟨_,_,rfl,s.nx _ _ bG aS a8 C9 (aE.trans g3)⟩
end
section
variable{K:Su}{B:am}
theorem Jf:∀{vs:ZL}{ds:ZK}{W:TI->Prop},Reps K B vs ds->kO K W B vs (ds.map aK.val)
 |_,_,_,.nil=>.nil
 |_,_,_,.cons h r=>.val h (Jf r)
theorem Jg:∀ds:ZK,kN (ds.map aK.val)=0
 |[]=>rfl
 |_::r=>Jg r
end
section
variable{X:aU}{f7:WP}{es:ZW}{w:df}{F:ck}{pos p:Pos}
def acN(n:Nat)(F:ck)(u:ZM->Prop->Prop)(w:df):bg:=λρ k=>u ρ (w (ρ.map uW) λds=>ds.length+1=n/\F (.bag::ds.map aK.val) λr=>lE r k)
theorem Jh{n:Nat}{x:Str}{ps:ZT}{j lv:Nat}{un:ZM->Prop->Prop}(c:cj X.prog X.w X.K X.mg X.base x ps j (cm X.K n F))(ao:eF lv X.A)(aF:eD X x)(aw:Ai X f7 un)(ae:o8 X es w)(gC:j<=lv:=by decide)(gA:ed x:=by decide)(aD:eQ X f7 es:=by rfl)(eh:g8 X pos es:=by rfl):
  br X (.Call (.Name x p) (f7::es) [] pos) (acN n F un w):=by
 obtain⟨_,h1,aq⟩:=aw;obtain⟨_,aa,aN⟩:=ae;refine⟨_,o2 c ao aF (d5 h1 aa aD) gC gA aD eh,λρ k h R W B H σ Q e q=>?_⟩;refine aq ρ _ h R W B H σ _ e λa aY au aG ai aE aT bd bA c7=>?_;refine aN _ _ aG au (λ_=>False) aY au σ _ ai.hide λds vs bG aS a8 ar aI bf=>?_;obtain⟨ap,f4⟩:=a8;obtain⟨bb,g3⟩:=ai.unhide ar aI;have wO:au a≠none:=by obtain⟨_,_,q,_⟩:=bA;rw[q];simp
 have C':bG a=none:=by
  cases z:bG a with
  |none=>rfl
  |some o=>
   rcases aI.n a o z with y|y
   ·rw[bd]at y;cases y
   exact absurd y wO
 have g1:gf aS a:=by
  obtain⟨x1,dy,aM,a4⟩:=bA;exact⟨x1,dy,ar.fr a _ aM λz=>z,a4⟩
 show cm X.K n F ((.ref a::vs)++[]) aS Q vQ
 rw[SQ];refine⟨λb=>b=a,bG,.bag::ds.map aK.val,_,f4,by rw[SM,Sv];exact ap,by show Nat.ble (kN (ds.map aK.val)+1) 1=true;rw[Jg];rfl,bb.bh,λb ae=>by subst ae;exact⟨C',g1⟩,.bag rfl (Jf bf),λr v lB cG ah ex=>?_⟩;obtain⟨b0,fE⟩:=bb.after2 (λb ae=>by subst ae;exact⟨aT,c7⟩) ex.wd ex.g;have res:=ex.res;have iG:=(aE.trans g3).trans fE;cases r with
 |no=>exact ah.elim
 |bag=>exact ah.elim
 |pin v d=>exact ah.elim
 |deep c=>exact ah.elim
 |val d=>exact q d v lB cG ah b0 iG res
 |new d=>exact q d v lB cG ah b0 iG (bU.mono tm res)
 |own c=>
  cases c with
  |d _ _ _ _=>exact ah.elim
  |l ds=>
  obtain⟨c,rfl,ci,cu,us,gt,gg⟩:=res;obtain⟨d6,lK⟩:=b0.freeze gt (bb.toWd.fresh ci).1 cu λi m=>absurd ci (bb.mutOk (show cF σ ρ i c from m)).2;exact q _ _ _ _ ah d6 (iG.trans lK) (.lst d9 (gg.mono lK.s))
end
theorem Da{α:Type}{f:α->D}{h:α->ZK}{g:eZ}{gj:l1}{I:ZM->Prop}{L:Nat}:∀{xs:List α}{n:Nat}{ρ:ZM}{k:ZM->ZK->Prop},(∀x∈xs,∀n ρ (k:ZM->ZK->Prop),I ρ->n+(h x).length<=L->(∀bi,I bi->k bi (h x))->g (f x) ρ λd7=>gj n d7 k)->I ρ->n+(xs.flatMap h).length<=L->(∀bi,I bi->k bi (xs.flatMap h))->lf g iI gj (xs.map f) n ρ k
 |[],n,ρ,k,_,i,_,ah=>ah ρ i
 |x::xs,n,ρ,k,av,i,ap,ah=>by
  rw[Xh,Sx]at ap
  have:=av x Sw n ρ (λrj ys=>lf g iI gj (xs.map f) (n+ys.length) rj λic dM=>k ic (ys++dM)) i (by lia) λbi og=>Da (λy aP=>av y (Sy _ aP)) og (by lia) λAd acO=>by
   have:=ah Ad acO
   rwa [Xh]at this
  exact this
theorem Ji{α:Type}{f h:α->D}{g:eZ}{u:bg}{I:ZM->Prop}:∀{xs:List α}{ρ:ZM}{k:ZK->Prop},(∀x∈xs,∀ρ (cu:D->ZM->Prop),I ρ->(∀bi,I bi->cu (h x) bi)->g (f x) ρ λd7=>u d7 λy=>cu y d7)->I ρ->k (xs.map h)->hI g iI u (xs.map f) ρ k
 |[],_,_,_,_,ah=>ah
 |x::xs,ρ,k,av,i,ah=>av x Sw ρ (λy d7=>hI g iI u (xs.map f) d7 λys=>k (y::ys)) i λbi og=>Ji (λy aP=>av y (Sy _ aP)) og ah
end L3
namespace Cut
open PySem L2 L3
open PySem.Builtin.Int (intBits)
def ja(x:ba):Prop:=∃b m n t,gR b m n t x
theorem ja.ps{x:ba}(h:ja x):∀p∈x.1,aX p:=λp ag=>by
 obtain⟨_,_,_,_,h⟩:=h;exact(h.rb.pts p ag).pt
theorem ja.st{x:ba}(h:ja x):aX x.2.2:=by
 obtain⟨_,_,_,_,h⟩:=h;exact h.st.pt
theorem Jj{f:ab->Int}{mt:ab->ab->ab}{sh:ZN}{s:ba}(h:s∈dA f mt sh):∃t∈sh,s∈dA f mt [t]:=by
 unfold dA at h⊢;obtain⟨h1,aa⟩:=TN.mp h;obtain⟨t,aR,rfl⟩:=SJ.mp h1;exact⟨t,aR,TN.mpr ⟨by simp,aa⟩⟩
theorem xY{c:Nat}{l o:ab}{sh:ZN}(h:∀s∈sh,ja s)(bl:cp c l)(ap:l.1≠0\/l.2.1≠0)(ax:Cut.ln l o=0)(e0:ab)(e:e0=l\/e0=jA l):∀s∈dA (Cut.ln e0) (a1 l) sh,ja s:=λs av=>by
 obtain⟨t,aR,ai⟩:=Jj av;obtain⟨b,m,n,u,ag⟩:=h t aR;have q:=sJ (b:=b+c+m+c+1) (m:=m+c) (sh:=[t]) (λs av=>by rw[SN.mp av];exact ag.mono (by lia) (by lia) (SF n) (SF u)) bl (by lia) ap ax (by lia) e0 e;exact⟨_,_,_,_,q s ai⟩
structure eC (s w pt:Int×Int):Prop where
 ls:a3 s.1 s.2
 lw:a3 w.1 w.2
 lp:a3 pt.1 pt.2
 s0:s.1≠0
 w0:0<w.1
 p0:0<pt.1
 lt:pt.1*w.2<w.1*pt.2
 c1:SC s.1<=21
 c2:SC s.2<=21
 c3:SC w.1<=175
 c4:SC w.2<=175
 c5:SC pt.1<=175
 c6:SC pt.2<=175
 d3:SC (bX w pt).1<=175
 d4:SC (bX w pt).2<=175
section
variable{s w pt:Int×Int}
theorem eC.r(h:eC s w pt):a3 (bX w pt).1 (bX w pt).2/\0<(bX w pt).1/\SC (bX w pt).1<=175/\SC (bX w pt).2<=175:=by
 have cd:0<w.2*pt.2:=SE h.lw.1 h.lp.1;obtain⟨l,e,aM,a4⟩:=jx (t:=w.1*pt.2-pt.1*w.2) (b:=w.2*pt.2) (SA cd);refine⟨l,?_,h.d3,h.d4⟩
 have:0<(bX w pt).1*(w.2*pt.2):=by
  show 0<(dF _ _).1*(w.2*pt.2)
  rw[e];have:=h.lt;exact SE (by lia) l.1
 exact UL this cd
theorem rk{x:Int×Int}(ls:a3 s.1 s.2)(s0:s.1≠0)(c1:SC s.1<=21)(c2:SC s.2<=21)(h7:a3 x.1 x.2)(fe:0<x.1)(b1:SC x.1<=175)(b2:SC x.2<=175):a3 (bB s x).1 (bB s x).2/\0<(bB s x).1/\SC (bB s x).1<=196/\SC (bB s x).2<=196:=by
 have cE:=r9 ls h7 s0 fe;obtain⟨_,_,aM,a4⟩:=jx (t:=(if s.1<0 then -s.1 else s.1)*x.1) (b:=s.2*x.2) (l' ls.1 h7.1)
 have i':SC (if s.1<0 then -s.1 else s.1)<=21:=by
  split
  ·exact TW c1
  exact c1
 exact⟨cE.lh,cE.h0,gd aM (TE i' b1),gd a4 (TE c2 b2)⟩
theorem eC.h(h:eC s w pt)(hi:Bool):a3 (bt s w pt hi).1 (bt s w pt hi).2/\0<(bt s w pt hi).1/\SC (bt s w pt hi).1<=196/\SC (bt s w pt hi).2<=196:=by
 obtain⟨aq,aN,d2,ht⟩:=h.r;unfold bt;cases hi with
 |true=>exact rk h.ls h.s0 h.c1 h.c2 aq aN d2 ht
 |false=>exact rk h.ls h.s0 h.c1 h.c2 h.lp h.p0 (b8 h.c5) (b8 h.c6)
theorem eC.x(h:eC s w pt)(hi:Bool):a3 (bw s w pt hi).1 (bw s w pt hi).2/\0<(bw s w pt hi).1/\SC (bw s w pt hi).1<=175/\SC (bw s w pt hi).2<=175:=by
 unfold bw;cases spL s hi with
 |true=>exact⟨h.lp,h.p0,b8 h.c5,b8 h.c6⟩
 |false=>exact h.r
theorem Db{x y:Int×Int}(h7:a3 x.1 x.2)(mh:a3 y.1 y.2)(b1:SC x.1<=196)(b2:SC x.2<=196)(b3:SC y.1<=196)(b4:SC y.2<=196):cT 392 (dh x y):=⟨gv (p:=(x.1*y.2,y.1*x.2,x.2*y.2)) (l' h7.1 mh.1),lU b1 b2 b3 b4 h7 mh⟩
theorem eC.stA(h:eC s w pt)(hi:Bool):cT 400 (stA s w pt hi):=by
 obtain⟨aq,_,d2,ht⟩:=h.r;obtain⟨h1,_,aH,a6⟩:=h.h hi;have ng:∀{x y:Int},a3 x y->a3 (-x) y:=λl=>⟨l.1,by rw[Ua];exact l.2⟩;have hM:a3 0 1:=⟨by decide,by decide⟩;unfold Cut.stA;refine(Db ?_ ?_ ?_ ?_ ?_ ?_).mono (by decide)
 ·split
  ·exact hM
  exact ng aq
 ·split
  ·exact ng h1
  exact hM
 ·split
  ·show SC 0<=196;decide
  exact SD (TW d2) (by decide)
 ·split
  ·show SC 1<=196;decide
  exact b8 ht
 ·split
  ·exact TW aH
  show SC 0<=196;decide
 split
 ·exact a6
 show SC 1<=196;decide
theorem eC.stB(h:eC s w pt)(hi:Bool):cT 400 (stB s w pt hi):=by
 obtain⟨h1,_,aH,a6⟩:=h.h hi;have ng:∀{x y:Int},a3 x y->a3 (-x) y:=λl=>⟨l.1,by rw[Ua];exact l.2⟩;have hM:a3 0 1:=⟨by decide,by decide⟩;unfold Cut.stB;refine(Db ?_ ?_ ?_ ?_ ?_ ?_).mono (by decide)
 ·split
  ·exact ng h.lp
  exact hM
 ·split
  ·exact hM
  exact ng h1
 ·split
  ·exact SD (TW h.c5) (by decide)
  show SC 0<=196;decide
 ·split
  ·exact b8 h.c6
  show SC 1<=196;decide
 ·split
  ·show SC 0<=196;decide
  exact TW aH
 split
 ·show SC 1<=196;decide
 exact a6
theorem eC.stC(h:eC s w pt)(hi:Bool):cT 400 (stC s w pt hi):=by
 obtain⟨h1,_,aH,a6⟩:=h.h hi;have ng:∀{x y:Int},a3 x y->a3 (-x) y:=λl=>⟨l.1,by rw[Ua];exact l.2⟩;have hM:a3 0 1:=⟨by decide,by decide⟩;unfold Cut.stC;refine(Db ?_ ?_ ?_ ?_ ?_ ?_).mono (by decide)
 ·split
  ·exact ng h.lp
  exact hM
 ·split
  ·exact ng h1
  exact hM
 ·split
  ·exact SD (TW h.c5) (by decide)
  show SC 0<=196;decide
 ·split
  ·exact b8 h.c6
  show SC 1<=196;decide
 ·split
  ·exact TW aH
  show SC 0<=196;decide
 split
 ·exact a6
 show SC 1<=196;decide
theorem eC.rR(h:eC s w pt):bu (bX w pt)=bu w-bu pt:=by
 have a:=fh h.lw.1;have b:=fh h.lp.1;unfold bX;rw[uH (SE h.lw.1 h.lp.1)];unfold bu;push_cast;grind
theorem eC.rH(h:eC s w pt):∃k:Rat,0<k/\∀x:Int×Int,0<x.2->bu (bB s x)=k*bu x:=by
 have bf:=h.ls.1;have a:=fh bf;have sa:0<(if s.1<0 then -s.1 else s.1):=by have:=h.s0;split<;>lia
 refine⟨bu (if s.1<0 then -s.1 else s.1,s.2),mD sa bf,λx al=>?_⟩;have b:=fh al;unfold bB;rw[uH (SE bf al)];unfold bu;push_cast;grind
end
theorem uZ{s w pt:Int×Int}(h:eC s w pt)(hi b:Bool){sh:ZN}(av:∀x∈sh,ja x):∀x∈dU (bw s w pt hi) b sh,ja x:=by
 obtain⟨x1,_,j0,jC⟩:=h.x hi;obtain⟨db,dV,fG⟩:=pN x1;have b':=Cy x1 j0 jC;unfold dU;cases b with
 |true=>exact xY av b' db fG _ (.inl rfl)
 |false=>
  have:=xY av b' db fG (jA (ce (bw s w pt hi))) (.inr rfl);rwa[se]at this
theorem u0{s w pt:Int×Int}(h:eC s w pt)(hi b:Bool){sh:ZN}(av:∀x∈sh,ja x):∀x∈fX (bt s w pt hi) b sh,ja x:=by
 obtain⟨x1,_,j0,jC⟩:=h.h hi;obtain⟨db,dV,fG⟩:=pO x1;have b':=Cz x1 j0 jC;unfold fX;cases b with
 |true=>exact xY av b' db fG _ (.inl rfl)
 |false=>
  have:=xY av b' db fG (jA (cz (bt s w pt hi))) (.inr rfl);rwa[se]at this
theorem Jk{s w pt:Int×Int}(al:eC s w pt)(hi:Bool){sh:ZN}(av:∀x∈sh,ja x)(b:Bool):cP (((hX s w pt hi sh++hl s w pt hi sh++g4 s w pt hi sh).filter λs=>s.2.1==b).map fT) ((sh.filter λs=>s.2.1==b).map fT):=λφ=>by
 show d0 φ b _=d0 φ b _
 have ih:∀x∈sh,aX x.2.2/\∀p∈x.1,aX p:=λx h=>⟨(av x h).st,λp ag=>(av x h).ps p ag⟩;have aE:=λc=>uZ al hi c av;have aI:=λc=>u0 al hi c (aE (!spL s hi));have aM:∀c,∀x∈dU (bw s w pt hi) c sh,aX x.2.2/\∀p∈x.1,aX p:=λc x h=>⟨(aE c x h).st,λp ag=>(aE c x h).ps p ag⟩;have a4:∀c,∀x∈fX (bt s w pt hi) c (dU (bw s w pt hi) (!spL s hi) sh),aX x.2.2/\∀p∈x.1,aX p:=λc x h=>⟨(aI c x h).st,λp ag=>(aI c x h).ps p ag⟩;rw[lX,lX];unfold hX hl g4;rw[xy φ b (al.stA hi).pt (aM _),xy φ b (al.stB hi).pt (a4 _),xy φ b (al.stC hi).pt (a4 _)];have ai:=RY φ b hi (al.h hi).1 (aM (!spL s hi));have ar:=RX φ b (spL s hi) (al.x hi).1 ih;rw[<-ar,<-ai];grind
structure acP (s w pt:Int×Int) (hi:Bool) (k W P R:Rat):Prop where
 P0:0<P
 R0:0<R
 W0:0<W
 eR:R=W-P
 kp0:0<k*P
 kr0:0<k*R
 kw0:k*W=k*P+k*R
 x1:a3 (bw s w pt hi).1 (bw s w pt hi).2
 h1:a3 (bt s w pt hi).1 (bt s w pt hi).2
 iB:cK (w.1,0,w.2) W 0
 iC:cK (dh w (bB s w)) W (k*W)
 iD:cK (0,(bB s w).1,(bB s w).2) 0 (k*W)
 rX0:bu (bw s w pt hi)=if spL s hi then P else R
 rH0:bu (bt s w pt hi)=k*if hi then R else P
 iSA:cK (stA s w pt hi) (if spL s hi then 0 else -R) (if hi then -(k*if hi then R else P)else 0)
 iSB:cK (stB s w pt hi) (if spL s hi then -P else 0) (if hi then 0 else -(k*if hi then R else P))
 iSC:cK (stC s w pt hi) (if spL s hi then -P else 0) (if hi then -(k*if hi then R else P)else 0)
 iP0:cK (pt.1,0,pt.2) P 0
 iPt:cK (dh pt (bB s pt)) P (k*P)
 i0P:cK (0,(bB s pt).1,(bB s pt).2) 0 (k*P)
 iR0:cK ((bX w pt).1,0,(bX w pt).2) R 0
 iRt:cK (dh (bX w pt) (bB s (bX w pt))) R (k*R)
 i0R:cK (0,(bB s (bX w pt)).1,(bB s (bX w pt)).2) 0 (k*R)
 iRP:cK (dh (bX w pt) (bB s pt)) R (k*P)
theorem Dc{x y:Int×Int}{X Y:Rat}(a b:Bool)(h1:a3 x.1 x.2)(aa:a3 y.1 y.2)(ol:bu x=X)(kY:bu y=Y):cK (dh (if a then(-x.1,x.2)else(0,1)) (if b then(-y.1,y.2)else(0,1))) (if a then -X else 0) (if b then -Y else 0):=by
 have n:∀(c:Bool)(z:Int×Int)(Z:Rat),a3 z.1 z.2->bu z=Z->0<(if c then(-z.1,z.2)else(0,1):Int×Int).2/\bu (if c then(-z.1,z.2)else(0,1))=if c then -Z else 0:=λc z Z h e=>by
  cases c with
  |true=>exact⟨h.1,(R8 _ _).trans (UF _ e)⟩
  |false=>exact⟨(by decide:(0:Int)<1),q5 _⟩
 exact(uA (n a _ _ h1 ol).1 (n b _ _ aa kY).1).to (n a _ _ h1 ol).2 (n b _ _ aa kY).2
theorem xZ{s w pt:Int×Int}(al:eC s w pt)(hi:Bool):∃k W P R:Rat,acP s w pt hi k W P R:=by
 obtain⟨k,dS,l0⟩:=al.rH;obtain⟨aq,aN,d2,ht⟩:=al.r;have Jl:=rk al.ls al.s0 al.c1 al.c2 aq aN d2 ht;have Dd:=rk al.ls al.s0 al.c1 al.c2 al.lp al.p0 al.c5 al.c6;have Jm:=rk al.ls al.s0 al.c1 al.c2 al.lw al.w0 al.c3 al.c4;have eR:=al.rR;have P0:=mD al.p0 al.lp.1;have R0:=mD aN aq.1;have h1:=(al.h hi).1;have rH:bu (bt s w pt hi)=k*if hi then bu (bX w pt)else bu pt:=by cases hi<;>exact l0 _ (by first|exact al.lp.1|exact aq.1)
 have ne:∀(b:Bool)(x y:Int×Int),(if b then x else y)=if !b then y else x:=λb x y=>by cases b<;>rfl
 have nr:∀(b:Bool)(x y:Rat),(if b then x else y)=if !b then y else x:=λb x y=>by cases b<;>rfl
 refine⟨k,bu w,bu pt,bu (bX w pt),P0,R0,mD al.w0 al.lw.1,eR,UR dS P0,UR dS R0,by rw[eR];grind,(al.x hi).1,h1,uB al.lw,(uA al.lw.1 Jm.1.1).to rfl (l0 w al.lw.1),(uC Jm.1).to rfl (l0 w al.lw.1),by unfold bw;split<;>rfl,rH,?_,?_,?_,uB al.lp,(uA al.lp.1 Dd.1.1).to rfl (l0 pt al.lp.1),(uC Dd.1).to rfl (l0 pt al.lp.1),uB aq,(uA aq.1 Jl.1.1).to rfl (l0 _ aq.1),(uC Jl.1).to rfl (l0 _ aq.1),(uA aq.1 Dd.1.1).to rfl (l0 pt al.lp.1)⟩
 ·unfold stA;rw[ne (spL s hi),nr (spL s hi)];exact Dc _ _ aq h1 rfl rH
 ·unfold stB;rw[ne hi (0,1),nr hi 0];exact Dc _ _ al.lp h1 rfl rH
 exact Dc _ _ al.lp h1 rfl rH
theorem acQ{s w pt:Int×Int}(al:eC s w pt)(sp:0<s.1){sh:ZN}(av:∀x∈sh,ja x)(h:cP (sh.map λs=>s.1) [cV s false w]):cP ((hX s w pt false sh).map λs=>s.1) [cV s false pt]/\cP ((hl s w pt false sh).map λs=>s.1) [cV s false (bX w pt)]/\cP ((g4 s w pt false sh).map λs=>s.1) [kv (bX w pt) (bB s pt)]:=by
 obtain⟨k,W,P,R,P0,R0,W0,eR,kp0,kr0,kw0,x1,h1,iB,iC,iD,rX0,rH0,iSA,iSB,iSC,iP0,iPt,i0P,iR0,iRt,i0R,iRP⟩:=xZ al false;have j6:spL s false=true:=by unfold spL;rw[Xw sp];rfl
 simp only[j6,TH,if_true,if_false]at rX0 rH0 iSA iSB iSC;have aE:=λb=>uZ al false b av;have aI:=λb=>u0 al false b (aE (!spL s false));have ca:=(al.stA false).pt;have cn:=(al.stB false).pt;have fm:=(al.stC false).pt;have jb:cK (0,0,1) 0 0:=xz;have fY:=jb;have kF:cV s false w=[(0,0,1),(w.1,0,w.2),dh w (bB s w)]:=by unfold cV;rw[Tk sp];rfl
 rw[kF]at h;generalize De:((0,0,1):ab)=A at fY h;generalize Df:((w.1,0,w.2):ab)=B at iB h;generalize Dg:dh w (bB s w)=C at iC h;generalize Dh:((0,(bB s w).1,(bB s w).2):ab)=D at iD h;obtain⟨db,dV,fG⟩:=pN x1;obtain⟨eL,dB,af⟩:=pO h1;have oI:=sx x1 fY (by rw[rX0];grind);have iY:=sy x1 iB (by rw[rX0];grind);have iW:=sy x1 iC (by rw[rX0];grind);have e4:cK (a1 (ce (bw s w pt false)) A B) (P) (0):=(pQ x1 fY iB (S1 oI iY) (by rw[rX0];grind)).to rX0 rfl;have e5:cK (a1 (ce (bw s w pt false)) C A) (P) (k*P):=(pQ x1 iC fY (T4 iW oI) (by rw[rX0];grind)).to rX0 rfl;have mH:=pM h db dV fG (λt aR p ag=>(av t aR).ps p ag) (lZ fY.1 iB.1 iC.1)
 have j7:cP ((dU (bw s w pt false) (spL s false) sh).map λs=>s.1) [[A,a1 (ce (bw s w pt false)) A B,a1 (ce (bw s w pt false)) C A]]:=by
  rw[j6];have z:=mH.1;rwa[HS (f:=ln (ce (bw s w pt false))) oI iY iW]at z
 have j8:cP ((dU (bw s w pt false) (!spL s false) sh).map λs=>s.1) [[a1 (ce (bw s w pt false)) A B,B,C,a1 (ce (bw s w pt false)) C A]]:=by
  rw[j6];have z:=mH.2;rwa[HU (f:=λc => -ln (ce (bw s w pt false)) c) (by show -ln (ce (bw s w pt false)) A<0;lia) (by show 0 < -ln (ce (bw s w pt false)) B;lia) (by show 0 < -ln (ce (bw s w pt false)) C;lia)]at z
 generalize a1 (ce (bw s w pt false)) A B=a7 at e4 j7 j8;generalize a1 (ce (bw s w pt false)) C A=a5 at e5 j7 j8;have rl:=sB h1 e4 (by rw[rH0]<;>grind);have u1:=sB h1 iB (by rw[rH0]<;>grind);have u2:=sA h1 iC (by rw[rH0]<;>grind);have rm:=xA h1 e5 (by rw[rH0]<;>grind);have in1:cK (a1 (cz (bt s w pt false)) B C) (W) (k*P):=(xB h1 iB iC (T4 u1 u2) (by rw[rH0];grind)).to rfl rH0;have mI:=pM j8 eL dB af (λt aR p ag=>(aE _ t aR).ps p ag) (pT e4.1 iB.1 iC.1 e5.1)
 have mJ:cP ((fX (bt s w pt false) (!false) (dU (bw s w pt false) (!spL s false) sh)).map λs=>s.1) [[a1 (cz (bt s w pt false)) B C,C,a5]]:=by
  have z:=mI.1;rwa[RZ (f:=ln (cz (bt s w pt false))) rl u1 u2 rm]at z
 have mK:cP ((fX (bt s w pt false) false (dU (bw s w pt false) (!spL s false) sh)).map λs=>s.1) [[a7,B,a1 (cz (bt s w pt false)) B C,a5]]:=by
  have z:=mI.2;rwa[R1 (f:=λc => -ln (cz (bt s w pt false)) c) (by show 0 < -ln (cz (bt s w pt false)) a7;lia) (by show 0 < -ln (cz (bt s w pt false)) B;lia) (by show -ln (cz (bt s w pt false)) C<0;lia) (by show -ln (cz (bt s w pt false)) a5=0;lia)]at z
 generalize a1 (cz (bt s w pt false)) B C=c8 at in1 mJ mK;refine⟨?_,?_,?_⟩
 ·rw[show cV s false pt=_ from by unfold cV;rw[Tk sp]];exact nE ca j7 (λt aR p ag=>(aE _ t aR).ps p ag) (lZ fY.1 e4.1 e5.1) (pS (((eo iSA fY).to (by grind) (by grind)).eq jb) (((eo iSA e4).to (by grind) (by grind)).eq iP0) (((eo iSA e5).to (by grind) (by grind)).eq iPt))
 ·rw[show cV s false (bX w pt)=_ from by unfold cV;rw[Tk sp]];exact B2 cn mJ (λt aR p ag=>(aI _ t aR).ps p ag) (lZ in1.1 iC.1 e5.1) (pS (((eo iSB in1).to (by grind) (by grind)).eq iR0) (((eo iSB iC).to (by grind) (by grind)).eq iRt) (((eo iSB e5).to (by grind) (by grind)).eq jb))
 exact nE fm mK (λt aR p ag=>(aI _ t aR).ps p ag) (pT e4.1 iB.1 in1.1 e5.1) (xD (((eo iSC e4).to (by grind) (by grind)).eq jb) (((eo iSC iB).to (by grind) (by grind)).eq iR0) (((eo iSC in1).to (by grind) (by grind)).eq iRP) (((eo iSC e5).to (by grind) (by grind)).eq i0P))
theorem acR{s w pt:Int×Int}(al:eC s w pt)(sp:0<s.1){sh:ZN}(av:∀x∈sh,ja x)(h:cP (sh.map λs=>s.1) [cV s true w]):cP ((hX s w pt true sh).map λs=>s.1) [cV s true pt]/\cP ((hl s w pt true sh).map λs=>s.1) [cV s true (bX w pt)]/\cP ((g4 s w pt true sh).map λs=>s.1) [kv (bX w pt) (bB s pt)]:=by
 obtain⟨k,W,P,R,P0,R0,W0,eR,kp0,kr0,kw0,x1,h1,iB,iC,iD,rX0,rH0,iSA,iSB,iSC,iP0,iPt,i0P,iR0,iRt,i0R,iRP⟩:=xZ al true;have j6:spL s true=false:=by unfold spL;rw[Xw sp];rfl
 simp only[j6,TH,if_true,if_false]at rX0 rH0 iSA iSB iSC;have aE:=λb=>uZ al true b av;have aI:=λb=>u0 al true b (aE (!spL s true));have ca:=(al.stA true).pt;have cn:=(al.stB true).pt;have fm:=(al.stC true).pt;have jb:cK (0,0,1) 0 0:=xz;have fY:=jb;have kF:cV s true w=[(0,0,1),dh w (bB s w),(0,(bB s w).1,(bB s w).2)]:=by unfold cV;rw[Tk sp];rfl
 rw[kF]at h;generalize De:((0,0,1):ab)=A at fY h;generalize Df:((w.1,0,w.2):ab)=B at iB h;generalize Dg:dh w (bB s w)=C at iC h;generalize Dh:((0,(bB s w).1,(bB s w).2):ab)=D at iD h;obtain⟨db,dV,fG⟩:=pN x1;obtain⟨eL,dB,af⟩:=pO h1;have oI:=sx x1 fY (by rw[rX0];grind);have iW:=sy x1 iC (by rw[rX0];grind);have oJ:=sx x1 iD (by rw[rX0];grind);have e4:cK (a1 (ce (bw s w pt true)) A C) (R) (k*R):=(pQ x1 fY iC (S1 oI iW) (by rw[rX0];grind)).to rX0 rfl;have e5:cK (a1 (ce (bw s w pt true)) C D) (R) (k*W):=(pQ x1 iC iD (T4 iW oJ) (by rw[rX0];grind)).to rX0 rfl;have mH:=pM h db dV fG (λt aR p ag=>(av t aR).ps p ag) (lZ fY.1 iC.1 iD.1)
 have j7:cP ((dU (bw s w pt true) (spL s true) sh).map λs=>s.1) [[a1 (ce (bw s w pt true)) A C,C,a1 (ce (bw s w pt true)) C D]]:=by
  rw[j6];have z:=mH.2;rwa[HV (f:=λc => -ln (ce (bw s w pt true)) c) (by show -ln (ce (bw s w pt true)) A<0;lia) (by show 0 < -ln (ce (bw s w pt true)) C;lia) (by show -ln (ce (bw s w pt true)) D<0;lia)]at z
 have j8:cP ((dU (bw s w pt true) (!spL s true) sh).map λs=>s.1) [[A,a1 (ce (bw s w pt true)) A C,a1 (ce (bw s w pt true)) C D,D]]:=by
  rw[j6];have z:=mH.1;rwa[HW (f:=ln (ce (bw s w pt true))) oI iW oJ]at z
 generalize a1 (ce (bw s w pt true)) A C=a7 at e4 j7 j8;generalize a1 (ce (bw s w pt true)) C D=a5 at e5 j7 j8;have u3:=sB h1 fY (by rw[rH0]<;>grind);have rl:=xA h1 e4 (by rw[rH0]<;>grind);have rm:=sA h1 e5 (by rw[rH0]<;>grind);have u4:=sA h1 iD (by rw[rH0]<;>grind);have in1:cK (a1 (cz (bt s w pt true)) D A) (0) (k*R):=(xB h1 iD fY (S1 u4 u3) (by rw[rH0];grind)).to rfl rH0;have mI:=pM j8 eL dB af (λt aR p ag=>(aE _ t aR).ps p ag) (pT fY.1 e4.1 e5.1 iD.1)
 have mJ:cP ((fX (bt s w pt true) (!true) (dU (bw s w pt true) (!spL s true) sh)).map λs=>s.1) [[A,a7,a1 (cz (bt s w pt true)) D A]]:=by
  have z:=mI.2;rwa[R2 (f:=λc => -ln (cz (bt s w pt true)) c) (by show 0 < -ln (cz (bt s w pt true)) A;lia) (by show -ln (cz (bt s w pt true)) a7=0;lia) (by show -ln (cz (bt s w pt true)) a5<0;lia) (by show -ln (cz (bt s w pt true)) D<0;lia)]at z
 have mK:cP ((fX (bt s w pt true) true (dU (bw s w pt true) (!spL s true) sh)).map λs=>s.1) [[a7,a5,D,a1 (cz (bt s w pt true)) D A]]:=by
  have z:=mI.1;rwa[R3 (f:=ln (cz (bt s w pt true))) u3 rl rm u4]at z
 generalize a1 (cz (bt s w pt true)) D A=c8 at in1 mJ mK;refine⟨?_,?_,?_⟩
 ·rw[show cV s true pt=_ from by unfold cV;rw[Tk sp]];exact nE ca j7 (λt aR p ag=>(aE _ t aR).ps p ag) (lZ e4.1 iC.1 e5.1) (pS (((eo iSA e4).to (by grind) (by grind)).eq jb) (((eo iSA iC).to (by grind) (by grind)).eq iPt) (((eo iSA e5).to (by grind) (by grind)).eq i0P))
 ·rw[show cV s true (bX w pt)=_ from by unfold cV;rw[Tk sp]];exact nE cn mJ (λt aR p ag=>(aI _ t aR).ps p ag) (lZ fY.1 e4.1 in1.1) (pS (((eo iSB fY).to (by grind) (by grind)).eq jb) (((eo iSB e4).to (by grind) (by grind)).eq iRt) (((eo iSB in1).to (by grind) (by grind)).eq i0R))
 exact B2 fm mK (λt aR p ag=>(aI _ t aR).ps p ag) (pT e4.1 e5.1 iD.1 in1.1) (xD (((eo iSC e4).to (by grind) (by grind)).eq iR0) (((eo iSC e5).to (by grind) (by grind)).eq iRP) (((eo iSC iD).to (by grind) (by grind)).eq i0P) (((eo iSC in1).to (by grind) (by grind)).eq jb))
theorem acS{s w pt:Int×Int}(al:eC s w pt)(sp:¬0<s.1){sh:ZN}(av:∀x∈sh,ja x)(h:cP (sh.map λs=>s.1) [cV s false w]):cP ((hX s w pt false sh).map λs=>s.1) [cV s false pt]/\cP ((hl s w pt false sh).map λs=>s.1) [cV s false (bX w pt)]/\cP ((g4 s w pt false sh).map λs=>s.1) [kv (bX w pt) (bB s pt)]:=by
 obtain⟨k,W,P,R,P0,R0,W0,eR,kp0,kr0,kw0,x1,h1,iB,iC,iD,rX0,rH0,iSA,iSB,iSC,iP0,iPt,i0P,iR0,iRt,i0R,iRP⟩:=xZ al false;have j6:spL s false=false:=by unfold spL;rw[decide_eq_false sp];rfl
 simp only[j6,TH,if_true,if_false]at rX0 rH0 iSA iSB iSC;have aE:=λb=>uZ al false b av;have aI:=λb=>u0 al false b (aE (!spL s false));have ca:=(al.stA false).pt;have cn:=(al.stB false).pt;have fm:=(al.stC false).pt;have jb:cK (0,0,1) 0 0:=xz;have fY:=jb;have kF:cV s false w=[(0,0,1),(w.1,0,w.2),(0,(bB s w).1,(bB s w).2)]:=by unfold cV;rw[Tl sp];rfl
 rw[kF]at h;generalize De:((0,0,1):ab)=A at fY h;generalize Df:((w.1,0,w.2):ab)=B at iB h;generalize Dg:dh w (bB s w)=C at iC h;generalize Dh:((0,(bB s w).1,(bB s w).2):ab)=D at iD h;obtain⟨db,dV,fG⟩:=pN x1;obtain⟨eL,dB,af⟩:=pO h1;have oI:=sx x1 fY (by rw[rX0];grind);have iY:=sy x1 iB (by rw[rX0];grind);have oJ:=sx x1 iD (by rw[rX0];grind);have e4:cK (a1 (ce (bw s w pt false)) A B) (R) (0):=(pQ x1 fY iB (S1 oI iY) (by rw[rX0];grind)).to rX0 rfl;have e5:cK (a1 (ce (bw s w pt false)) B D) (R) (k*P):=(pQ x1 iB iD (T4 iY oJ) (by rw[rX0];grind)).to rX0 rfl;have mH:=pM h db dV fG (λt aR p ag=>(av t aR).ps p ag) (lZ fY.1 iB.1 iD.1)
 have j7:cP ((dU (bw s w pt false) (spL s false) sh).map λs=>s.1) [[a1 (ce (bw s w pt false)) A B,B,a1 (ce (bw s w pt false)) B D]]:=by
  rw[j6];have z:=mH.2;rwa[HV (f:=λc => -ln (ce (bw s w pt false)) c) (by show -ln (ce (bw s w pt false)) A<0;lia) (by show 0 < -ln (ce (bw s w pt false)) B;lia) (by show -ln (ce (bw s w pt false)) D<0;lia)]at z
 have j8:cP ((dU (bw s w pt false) (!spL s false) sh).map λs=>s.1) [[A,a1 (ce (bw s w pt false)) A B,a1 (ce (bw s w pt false)) B D,D]]:=by
  rw[j6];have z:=mH.1;rwa[HW (f:=ln (ce (bw s w pt false))) oI iY oJ]at z
 generalize a1 (ce (bw s w pt false)) A B=a7 at e4 j7 j8;generalize a1 (ce (bw s w pt false)) B D=a5 at e5 j7 j8;have u3:=sB h1 fY (by rw[rH0]<;>grind);have rl:=sB h1 e4 (by rw[rH0]<;>grind);have rm:=xA h1 e5 (by rw[rH0]<;>grind);have u4:=sA h1 iD (by rw[rH0]<;>grind);have in1:cK (a1 (cz (bt s w pt false)) D A) (0) (k*P):=(xB h1 iD fY (S1 u4 u3) (by rw[rH0];grind)).to rfl rH0;have mI:=pM j8 eL dB af (λt aR p ag=>(aE _ t aR).ps p ag) (pT fY.1 e4.1 e5.1 iD.1)
 have mJ:cP ((fX (bt s w pt false) (!false) (dU (bw s w pt false) (!spL s false) sh)).map λs=>s.1) [[a5,D,a1 (cz (bt s w pt false)) D A]]:=by
  have z:=mI.1;rwa[R4 (f:=ln (cz (bt s w pt false))) u3 rl rm u4]at z
 have mK:cP ((fX (bt s w pt false) false (dU (bw s w pt false) (!spL s false) sh)).map λs=>s.1) [[A,a7,a5,a1 (cz (bt s w pt false)) D A]]:=by
  have z:=mI.2;rwa[R5 (f:=λc => -ln (cz (bt s w pt false)) c) (by show 0 < -ln (cz (bt s w pt false)) A;lia) (by show 0 < -ln (cz (bt s w pt false)) a7;lia) (by show -ln (cz (bt s w pt false)) a5=0;lia) (by show -ln (cz (bt s w pt false)) D<0;lia)]at z
 generalize a1 (cz (bt s w pt false)) D A=c8 at in1 mJ mK;refine⟨?_,?_,?_⟩
 ·rw[show cV s false pt=_ from by unfold cV;rw[Tl sp]];exact nE ca j7 (λt aR p ag=>(aE _ t aR).ps p ag) (lZ e4.1 iB.1 e5.1) (pS (((eo iSA e4).to (by grind) (by grind)).eq jb) (((eo iSA iB).to (by grind) (by grind)).eq iP0) (((eo iSA e5).to (by grind) (by grind)).eq i0P))
 ·rw[show cV s false (bX w pt)=_ from by unfold cV;rw[Tl sp]];exact B2 cn mJ (λt aR p ag=>(aI _ t aR).ps p ag) (lZ e5.1 iD.1 in1.1) (pS (((eo iSB e5).to (by grind) (by grind)).eq iR0) (((eo iSB iD).to (by grind) (by grind)).eq i0R) (((eo iSB in1).to (by grind) (by grind)).eq jb))
 exact nE fm mK (λt aR p ag=>(aI _ t aR).ps p ag) (pT fY.1 e4.1 e5.1 in1.1) (xD (((eo iSC fY).to (by grind) (by grind)).eq jb) (((eo iSC e4).to (by grind) (by grind)).eq iR0) (((eo iSC e5).to (by grind) (by grind)).eq iRP) (((eo iSC in1).to (by grind) (by grind)).eq i0P))
theorem acT{s w pt:Int×Int}(al:eC s w pt)(sp:¬0<s.1){sh:ZN}(av:∀x∈sh,ja x)(h:cP (sh.map λs=>s.1) [cV s true w]):cP ((hX s w pt true sh).map λs=>s.1) [cV s true pt]/\cP ((hl s w pt true sh).map λs=>s.1) [cV s true (bX w pt)]/\cP ((g4 s w pt true sh).map λs=>s.1) [kv (bX w pt) (bB s pt)]:=by
 obtain⟨k,W,P,R,P0,R0,W0,eR,kp0,kr0,kw0,x1,h1,iB,iC,iD,rX0,rH0,iSA,iSB,iSC,iP0,iPt,i0P,iR0,iRt,i0R,iRP⟩:=xZ al true;have j6:spL s true=true:=by unfold spL;rw[decide_eq_false sp];rfl
 simp only[j6,TH,if_true,if_false]at rX0 rH0 iSA iSB iSC;have aE:=λb=>uZ al true b av;have aI:=λb=>u0 al true b (aE (!spL s true));have ca:=(al.stA true).pt;have cn:=(al.stB true).pt;have fm:=(al.stC true).pt;have jb:cK (0,0,1) 0 0:=xz;have fY:=jb;have kF:cV s true w=[(0,(bB s w).1,(bB s w).2),(w.1,0,w.2),dh w (bB s w)]:=by unfold cV;rw[Tl sp];rfl
 rw[kF]at h;generalize De:((0,0,1):ab)=A at fY h;generalize Df:((w.1,0,w.2):ab)=B at iB h;generalize Dg:dh w (bB s w)=C at iC h;generalize Dh:((0,(bB s w).1,(bB s w).2):ab)=D at iD h;obtain⟨db,dV,fG⟩:=pN x1;obtain⟨eL,dB,af⟩:=pO h1;have oJ:=sx x1 iD (by rw[rX0];grind);have iY:=sy x1 iB (by rw[rX0];grind);have iW:=sy x1 iC (by rw[rX0];grind);have e4:cK (a1 (ce (bw s w pt true)) D B) (P) (k*R):=(pQ x1 iD iB (S1 oJ iY) (by rw[rX0];grind)).to rX0 rfl;have e5:cK (a1 (ce (bw s w pt true)) C D) (P) (k*W):=(pQ x1 iC iD (T4 iW oJ) (by rw[rX0];grind)).to rX0 rfl;have mH:=pM h db dV fG (λt aR p ag=>(av t aR).ps p ag) (lZ iD.1 iB.1 iC.1)
 have j7:cP ((dU (bw s w pt true) (spL s true) sh).map λs=>s.1) [[D,a1 (ce (bw s w pt true)) D B,a1 (ce (bw s w pt true)) C D]]:=by
  rw[j6];have z:=mH.1;rwa[HS (f:=ln (ce (bw s w pt true))) oJ iY iW]at z
 have j8:cP ((dU (bw s w pt true) (!spL s true) sh).map λs=>s.1) [[a1 (ce (bw s w pt true)) D B,B,C,a1 (ce (bw s w pt true)) C D]]:=by
  rw[j6];have z:=mH.2;rwa[HU (f:=λc => -ln (ce (bw s w pt true)) c) (by show -ln (ce (bw s w pt true)) D<0;lia) (by show 0 < -ln (ce (bw s w pt true)) B;lia) (by show 0 < -ln (ce (bw s w pt true)) C;lia)]at z
 generalize a1 (ce (bw s w pt true)) D B=a7 at e4 j7 j8;generalize a1 (ce (bw s w pt true)) C D=a5 at e5 j7 j8;have rl:=xA h1 e4 (by rw[rH0]<;>grind);have u1:=sB h1 iB (by rw[rH0]<;>grind);have u2:=sA h1 iC (by rw[rH0]<;>grind);have rm:=sA h1 e5 (by rw[rH0]<;>grind);have in1:cK (a1 (cz (bt s w pt true)) B C) (W) (k*R):=(xB h1 iB iC (T4 u1 u2) (by rw[rH0];grind)).to rfl rH0;have mI:=pM j8 eL dB af (λt aR p ag=>(aE _ t aR).ps p ag) (pT e4.1 iB.1 iC.1 e5.1)
 have mJ:cP ((fX (bt s w pt true) (!true) (dU (bw s w pt true) (!spL s true) sh)).map λs=>s.1) [[a7,B,a1 (cz (bt s w pt true)) B C]]:=by
  have z:=mI.2;rwa[R6 (f:=λc => -ln (cz (bt s w pt true)) c) (by show -ln (cz (bt s w pt true)) a7=0;lia) (by show 0 < -ln (cz (bt s w pt true)) B;lia) (by show -ln (cz (bt s w pt true)) C<0;lia) (by show -ln (cz (bt s w pt true)) a5<0;lia)]at z
 have mK:cP ((fX (bt s w pt true) true (dU (bw s w pt true) (!spL s true) sh)).map λs=>s.1) [[a7,a1 (cz (bt s w pt true)) B C,C,a5]]:=by
  have z:=mI.1;rwa[R7 (f:=ln (cz (bt s w pt true))) rl u1 u2 rm]at z
 generalize a1 (cz (bt s w pt true)) B C=c8 at in1 mJ mK;refine⟨?_,?_,?_⟩
 ·rw[show cV s true pt=_ from by unfold cV;rw[Tl sp]];exact nE ca j7 (λt aR p ag=>(aE _ t aR).ps p ag) (lZ iD.1 e4.1 e5.1) (pS (((eo iSA iD).to (by grind) (by grind)).eq i0P) (((eo iSA e4).to (by grind) (by grind)).eq iP0) (((eo iSA e5).to (by grind) (by grind)).eq iPt))
 ·rw[show cV s true (bX w pt)=_ from by unfold cV;rw[Tl sp]];exact nE cn mJ (λt aR p ag=>(aI _ t aR).ps p ag) (lZ e4.1 iB.1 in1.1) (pS (((eo iSB e4).to (by grind) (by grind)).eq i0R) (((eo iSB iB).to (by grind) (by grind)).eq iR0) (((eo iSB in1).to (by grind) (by grind)).eq iRt))
 exact nE fm mK (λt aR p ag=>(aI _ t aR).ps p ag) (pT e4.1 in1.1 iC.1 e5.1) (xD (((eo iSC e4).to (by grind) (by grind)).eq jb) (((eo iSC in1).to (by grind) (by grind)).eq iR0) (((eo iSC iC).to (by grind) (by grind)).eq iRP) (((eo iSC e5).to (by grind) (by grind)).eq i0P))
theorem acU{s w pt:Int×Int}(al:eC s w pt)(hi:Bool){sh:ZN}(av:∀x∈sh,ja x)(h:cP (sh.map λs=>s.1) [cV s hi w]):cP ((hX s w pt hi sh).map λs=>s.1) [cV s hi pt]/\cP ((hl s w pt hi sh).map λs=>s.1) [cV s hi (bX w pt)]/\cP ((g4 s w pt hi sh).map λs=>s.1) [kv (bX w pt) (bB s pt)]:=by
 by_cases sp:0<s.1
 ·cases hi with
  |false=>exact acQ al sp av h
  |true=>exact acR al sp av h
 cases hi with
 |false=>exact acS al sp av h
 |true=>exact acT al sp av h
abbrev dw:=F2×ZN
abbrev ZO:=List dw
abbrev nJ:=F2×ZN×ZN
abbrev ZS:=List nJ
def dC(c:dw):D:=.tup [dR c.1,.lst (c.2.map bH)]
def nK(p:nJ):D:=.tup [dR p.1,.lst (p.2.1.map bH),.lst (p.2.2.map bH)]
def rn(w:F2):List ZI:=[[w.1,w.2]]
def jc(k:ZZ)(d:D):D:=.tup [gr false k,d]
def fI:List ZZ->Z0->ZK
 |k::ks,ds::dss=>ds.map (jc k)++fI ks dss
 |_,_=>[]
theorem Jn{k:ZZ}{d:D}:∀{ks:List ZZ}{dss:Z0},dss.length=ks.length->k∈ks->(fI ks (mF ks dss k d)).Perm (jc k d::fI ks dss)
 |[],_,_,m=>by cases m
 |k'::ks,[],h,_=>by simp at h
 |k'::ks,ds::dss,h,m=>by
  rw[mF];by_cases e:k'=k
  ·rw[Tk e,fI,fI,Sz,e];simp only[SH,Ts,SV,Xi];exact Vv
  rw[Tl e,fI,fI];have m:k∈ks:=(SG.mp m).resolve_left λz=>e z.symm;exact((Jn (by simpa using h) m).append_left _).trans Vv
theorem Jo{k:ZZ}{d:D}:∀{ks:List ZZ}{dss:Z0},dss.length=ks.length->fI (ks++[k]) (dss++[[d]])=fI ks dss++[jc k d]
 |[],[],_=>rfl
 |[],_::_,h=>by simp at h
 |_::_,[],h=>by simp at h
 |k'::ks,ds::dss,h=>by
  rw[To,To,fI,fI,Jo (by simpa using h),SV]
theorem acV{ks:List ZZ}{dss:Z0}{k:ZZ}{d:D}(h:dss.length=ks.length):(fI (eO ks k) (pU ks dss k d)).Perm (jc k d::fI ks dss):=by
 unfold eO pU;by_cases m:k∈ks
 ·rw[Tk m,Tk m];exact Jn h m
 rw[Tl m,Tl m,Jo h];exact Xj _ _
theorem Jp{k:ZZ}{d:D}{es:ZK}:∀{ks:List ZZ}{dss:Z0},bo ks dss k=some (es++[d])->(fI ks dss).Perm (jc k d::fI ks (lc ks dss k es))/\(lc ks dss k es).length=dss.length
 |[],_,h=>by simp[bo]at h
 |_::_,[],h=>by simp[bo]at h
 |k'::ks,ds::dss,h=>by
  rw[bo]at h;rw[lc];by_cases e:k'=k
  ·rw[Tk e]at h⊢;have h:=SO h;subst h;refine⟨?_,rfl⟩;rw[fI,fI,Sz,e];simp only[SH,Ts,SV,Xi];exact Vv
  rw[Tl e]at h⊢;obtain⟨p,l⟩:=Jp h;refine⟨?_,by rw[SM,SM,l]⟩;rw[fI,fI];exact(p.append_left _).trans Vv
theorem Di{k:ZZ}{ds:ZK}:∀{ks:List ZZ}{dss:Z0},bo ks dss k=some ds->(∀d∈ds,jc k d∈fI ks dss)/\ds.length<=(fI ks dss).length
 |[],_,h=>by simp[bo]at h
 |_::_,[],h=>by simp[bo]at h
 |k'::ks,es::dss,h=>by
  rw[bo]at h;rw[fI,Sx,Sv];by_cases e:k'=k
  ·rw[Tk e]at h;have h:=SO h;subst h;subst e;exact⟨λd hd=>TC _ (SJ.mpr ⟨d,hd,rfl⟩),by lia⟩
  rw[Tl e]at h;obtain⟨a,b⟩:=Di h;exact⟨λd hd=>S5 _ (a d hd),by lia⟩
theorem Jq{w:F2}{d:D}{c:dw}(h:dC c=jc (rn w) d):c.1=w/\d=.lst (c.2.map bH):=by
 unfold dC jc at h;have e:gr false (rn w)=dR w:=rfl;rw[e]at h;injection h with h
 injection h with h1 aa
 injection aa with aa _
 refine⟨?_,aa.symm⟩;unfold dR at h1;injection h1 with h1
 injection h1 with a b
 injection b with b _
 injection a with a
 injection b with b
 exact TA a b
theorem acW{k:ZZ}{d:D}{c:dw}(h:dC c=jc k d):d=.lst (c.2.map bH):=by
 unfold dC jc at h;injection h with h
 injection h with h1 aa
 injection aa with aa _
 exact aa.symm
theorem u5:∀{ks:List ZZ}{dss:Z0},oD false ks (dss.map D.lst)=(ks.zip dss).map (λx=>D.tup [gr false x.1,.lst x.2])/\fI ks dss=(ks.zip dss).flatMap λx=>x.2.map (jc x.1)
 |[],dss=>by cases dss<;>exact⟨rfl,rfl⟩
 |_::_,[]=>⟨rfl,rfl⟩
 |k::ks,ds::dss=>by
  obtain⟨a,b⟩:=u5 (ks:=ks) (dss:=dss);refine⟨?_,?_⟩
  ·rw[SH,oD,a];rfl
  rw[fI,b];rfl
theorem Jr{α β:Type}{f:α->β}:∀{l:List β},(∀x∈l,∃c,x=f c)->∃cs:List α,l=cs.map f
 |[],_=>⟨[],rfl⟩
 |x::l,h=>by
  obtain⟨c,rfl⟩:=h x Sw;obtain⟨cs,rfl⟩:=Jr λy aP=>h y (Sy _ aP);exact⟨c::cs,rfl⟩
theorem acX{s o:ba}(h:bH s=bH o):s=o:=by
 unfold bH at h;injection h with h
 injection h with a h
 injection h with b h
 injection h with c _
 injection a with a
 injection b with b
 exact TA ((Wk λ_ _ h=>wu h).mp a) (TA b (wu c))
theorem acY{c e:dw}(h:dC c=dC e):c=e:=by
 obtain⟨a,b⟩:=Jq (w:=e.1) (d:=.lst (e.2.map bH)) h;injection b with b
 exact TA a ((Wk λ_ _ h=>acX h).mp b).symm
def jd(N:Nat)(x:ba):Prop:=∃b m n t,gR b m n t x/\400<=m/\m+401<=b/\b<=1990/\n<=N/\t<=2000
theorem jd.gz{N:Nat}{x:ba}(h:jd N x):ja x:=by
 obtain⟨b,m,n,t,h,_⟩:=h;exact⟨b,m,n,t,h⟩
theorem jd.bp{N:Nat}{x:ba}(h:jd N x):∀c∈x.1,cp 1990 c/\aX c:=λc hc=>by
 obtain⟨b,m,n,t,h,_,_,aH,_⟩:=h;exact⟨(h.rb.pts c hc).bp.mono aH,(h.rb.pts c hc).pt⟩
theorem jd.ln{N:Nat}{x:ba}(h:jd N x):x.1.length<=N:=by
 obtain⟨b,m,n,t,h,_,_,_,a6,_⟩:=h;exact SD h.ln a6
theorem jd.gm{N:Nat}{x:ba}(h:jd N x)(bF:N<=75):Cw x:=by
 obtain⟨b,m,n,t,h,_,_,aH,a6,cH⟩:=h;exact h.gm (by lia) (by lia) (by lia)
theorem x0{c N:Nat}{l o:ab}{sh:ZN}(h:∀s∈sh,jd N s)(bl:cp c l)(hc:c<=400)(ap:l.1≠0\/l.2.1≠0)(ax:Cut.ln l o=0)(e0:ab)(e:e0=l\/e0=jA l):∀s∈dA (Cut.ln e0) (a1 l) sh,jd (N+1) s:=λs av=>by
 obtain⟨t,aR,ai⟩:=Jj av;obtain⟨b,m,n,u,ag,h1,aa,aH,a6,cH⟩:=h t aR;have q:=sJ (sh:=[t]) (λs av=>by rw[SN.mp av];exact ag) bl (by lia) ap ax (by lia) e0 e;exact⟨b,m,n+1,u,q s ai,h1,aa,aH,by lia,cH⟩
section
variable{s w pt:Int×Int}
theorem eC.up(h:eC s w pt)(hi:Bool):cp 355 (ce (bw s w pt hi)):=by
 obtain⟨x1,_,j0,jC⟩:=h.x hi;exact Cy x1 j0 jC
theorem eC.lv(h:eC s w pt)(hi:Bool):cp 397 (cz (bt s w pt hi)):=by
 obtain⟨x1,_,j0,jC⟩:=h.h hi;exact Cz x1 j0 jC
theorem acZ(h:eC s w pt)(hi b:Bool){N:Nat}{sh:ZN}(av:∀x∈sh,jd N x):∀x∈dU (bw s w pt hi) b sh,jd (N+1) x:=by
 obtain⟨db,dV,fG⟩:=pN (h.x hi).1;unfold dU;cases b with
 |true=>exact x0 av (h.up hi) (by decide) db fG _ (.inl rfl)
 |false=>
  have:=x0 av (h.up hi) (by decide) db fG (jA (ce (bw s w pt hi))) (.inr rfl);rwa[se]at this
theorem ac0(h:eC s w pt)(hi b:Bool){N:Nat}{sh:ZN}(av:∀x∈sh,jd N x):∀x∈fX (bt s w pt hi) b sh,jd (N+1) x:=by
 obtain⟨db,dV,fG⟩:=pO (h.h hi).1;unfold fX;cases b with
 |true=>exact x0 av (h.lv hi) (by decide) db fG _ (.inl rfl)
 |false=>
  have:=x0 av (h.lv hi) (by decide) db fG (jA (cz (bt s w pt hi))) (.inr rfl);rwa[se]at this
end
structure im (s:F2) (Wd:F2->Prop) (L:Nat->ba->Prop) (eP:Nat):Prop where
 ls:a3 s.1 s.2
 s0:s.1≠0
 c1:SC s.1<=21
 c2:SC s.2<=21
 lw:∀v,Wd v->a3 v.1 v.2/\0<v.1/\SC v.1<=175/\SC v.2<=175
 sub:∀v u,Wd v->Wd u->u.1*v.2<v.1*u.2->Wd (bX v u)
 fit:∀k x,k<=eP->L k x->jd 60 x
 cut:∀k hi v u sh,k<eP->eC s v u->Wd v->Wd u->Wd (bX v u)->(∀x∈sh,L k x)->∀x∈hX s v u hi sh++hl s v u hi sh++g4 s v u hi sh,L (k+1) x
 mono:∀k x,L k x->L (k+1) x
section
variable{s:F2}{Wd:F2->Prop}{L:Nat->ba->Prop}{eP:Nat}
theorem im.sp(h:im s Wd L eP){v u:F2}(aL:Wd v)(a2:Wd u)(lt:u.1*v.2<v.1*u.2):eC s v u:=by
 obtain⟨ca,cn,fm,nG⟩:=h.lw v aL;obtain⟨b1,b2,b3,b4⟩:=h.lw u a2;obtain⟨_,_,d3,d4⟩:=h.lw _ (h.sub v u aL a2 lt);exact⟨h.ls,ca,b1,h.s0,cn,b2,lt,h.c1,h.c2,fm,nG,b3,b4,d3,d4⟩
theorem im.up(h:im s Wd L eP){k j:Nat}{x:ba}(al:L k x)(le:k<=j):L j x:=by
 obtain⟨d,rfl⟩:=Nat.le.dest le;clear le;induction d with
 |zero=>exact al
 |succ d b9=>exact h.mono _ _ b9
structure gS (s:F2) (Wd:F2->Prop) (L:Nat->ba->Prop) (hi:Bool) (k:Nat) (c:dw):Prop where
 w:Wd c.1
 px:∀x∈c.2,L k x
 ln:c.2.length<=3
 bal:cP (c.2.map λx=>x.1) [cV s hi c.1]
structure lg (L:Nat->ba->Prop) (k n:Nat) (b:fH):Prop where
 lw:a3 b.1.1 b.1.2
 w0:0<b.1.1
 lh:a3 b.2.1.1 b.2.1.2
 h0:0<b.2.1.1
 b1:SC b.1.1<=175
 b2:SC b.1.2<=175
 b3:SC b.2.1.1<=196
 b4:SC b.2.1.2<=196
 px:∀x∈b.2.2,L k x
 ln:b.2.2.length<=n
 bal:cP (b.2.2.map λx=>x.1) [kv b.1 b.2.1]
theorem gS.up{hi:Bool}(h:im s Wd L eP){k j:Nat}{c:dw}(hc:gS s Wd L hi k c)(le:k<=j):gS s Wd L hi j c:=⟨hc.w,λx al=>h.up (hc.px x al) le,hc.ln,hc.bal⟩
theorem lg.up(h:im s Wd L eP){k j n:Nat}{b:fH}(ae:lg L k n b)(le:k<=j):lg L j n b:=⟨ae.lw,ae.w0,ae.lh,ae.h0,ae.b1,ae.b2,ae.b3,ae.b4,λx al=>h.up (ae.px x al) le,ae.ln,ae.bal⟩
theorem gS.split(h:im s Wd L eP){hi:Bool}{k:Nat}{v u:F2}{sh:ZN}(ah:k<eP)(hc:gS s Wd L hi k (v,sh))(a2:Wd u)(lt:u.1*v.2<v.1*u.2):
  gS s Wd L hi (k+1) (u,hX s v u hi sh)/\gS s Wd L hi (k+1) (bX v u,hl s v u hi sh)/\lg L (k+1) 3 (bX v u,bB s u,g4 s v u hi sh):=by
 have z:=h.sp hc.w a2 lt;have wr:=h.sub v u hc.w a2 lt;have px:=h.cut k hi v u sh ah z hc.w a2 wr hc.px;obtain⟨b7,cc,d3⟩:=acU z hi (λx al=>(h.fit k x (by lia) (hc.px x al)).gz) hc.bal;have nC:sh.length<=3:=hc.ln;have bQ:∀b,(dU (bw s v u hi) b sh).length<=3:=λb=>SD (HM _ _ _) nC;have bS:∀b,(fX (bt s v u hi) b (dU (bw s v u hi) (!spL s hi) sh)).length<=3:=λb=>SD (HN _ _ _) (bQ _);obtain⟨aq,aN,d2,ht⟩:=h.lw _ wr;obtain⟨db,dV,fG,ac1⟩:=h.lw _ a2;obtain⟨aE,aI,g3,fE⟩:=rk h.ls h.s0 h.c1 h.c2 db dV fG ac1;refine⟨⟨a2,λx al=>px x (TC _ (TC _ al)),?_,b7⟩,⟨wr,λx al=>px x (TC _ (S5 _ al)),?_,cc⟩,⟨aq,aN,aE,aI,d2,ht,g3,fE,λx al=>px x (S5 _ al),?_,d3⟩⟩
 ·show(hX s v u hi sh).length<=3
  unfold hX;rw[Sv];exact bQ _
 ·show(hl s v u hi sh).length<=3
  unfold hl;rw[Sv];exact bS _
 show(g4 s v u hi sh).length<=3
 unfold g4;rw[Sv];exact bS _
end
theorem Js{α:Type}{f:α->Rat}{a b:List α}(h:a.Perm b):(a.map f).sum=(b.map f).sum:=by
 induction h with
 |nil=>rfl
 |cons x _ b9=>rw[SH,SH,Tb,Tb,b9]
 |swap x y l=>rw[SH,SH,SH,SH,Tb,Tb,Tb,Tb];grind
 |trans _ _ i j=>rw[i,j]
def dm(cs:ZO):Rat:=(cs.map λc=>bu c.1).sum
theorem mL(a b:ZO):dm (a++b)=dm a+dm b:=by unfold dm;rw[Sz,Ue]
theorem pZ(c:dw):dm [c]=bu c.1:=by unfold dm;rw[SH,Tb,Ts,Vw,Rat.add_zero]
theorem Jt{a b:ZO}(h:a.Perm b):dm a=dm b:=Js h
theorem Ju(φ:ZZ->Int)(c:Bool){a b:List ZN}(h:a.Perm b):eV φ c a=eV φ c b:=Js h
theorem ac2{a b:F2}(la:a3 a.1 a.2)(lb:a3 b.1 b.2)(h:a.1*b.2=b.1*a.2):a=b:=by
 refine aaP la lb ?_;have e:(a.1:Rat)*b.2=b.1*a.2:=by exact_mod_cast h
 have f7:=fh la.1;have kt:=fh lb.1;unfold bu;grind
def io(cs:ZO):List ZN:=cs.map λc=>c.2
def li(bs:ZQ):List ZN:=bs.map λb=>b.2.2
def p1(ps:ZS):List dw:=ps.map λp=>(p.1,p.2.1)
def p2(ps:ZS):List dw:=ps.map λp=>(p.1,p.2.2)
structure g7 (s:F2) (Wd:F2->Prop) (L:Nat->ba->Prop) (hi:Bool) (k:Nat) (os dG ps:ZO) (cE:ZQ):Prop where
 o:∀c∈dG,gS s Wd L hi k c
 p:∀c∈ps,gS s Wd L hi k c
 b:∀b∈cE,lg L k 3 b
 f:∀φ c,eV φ c (io dG)+eV φ c (io ps)+eV φ c (li cE)=eV φ c (io os)
 w:dm dG+dm ps=dm os
section
variable{s:F2}{Wd:F2->Prop}{L:Nat->ba->Prop}{eP:Nat}{hi:Bool}{k:Nat}{os dG ps:ZO}{cE:ZQ}
theorem g7.up(h:im s Wd L eP){j:Nat}(m:g7 s Wd L hi k os dG ps cE)(le:k<=j):g7 s Wd L hi j os dG ps cE:=⟨λc hc=>(m.o c hc).up h le,λc hc=>(m.p c hc).up h le,λb ae=>(m.b b ae).up h le,m.f,m.w⟩
theorem g7.start(ax:∀c∈os,gS s Wd L hi k c)(p:(ps++dG).Perm os):g7 s Wd L hi k os dG ps []:=by
 refine⟨λc hc=>ax c (p.mem_iff.mp (S5 _ hc)),λc hc=>ax c (p.mem_iff.mp (TC _ hc)),(λb ae=>by cases ae),λφ c=>?_,?_⟩
 ·unfold io li;rw[<-Ju φ c (p.map λc=>c.2),Sz,kH,Ts,show eV φ c []=0 from rfl];grind
 rw[<-Jt p,mL];grind
theorem g7.whole{c:dw}(m:g7 s Wd L hi k os (dG++[c]) ps cE):g7 s Wd L hi k os dG (ps++[c]) cE:=by
 have hc:=m.o c (by simp);refine⟨λx al=>m.o x (TC _ al),λx al=>?_,m.b,λφ b=>?_,?_⟩
 ·rcases SK.mp al with z|z
  ·exact m.p x z
  rw[SN.mp z];exact hc
 ·have:=m.f φ b;unfold io at this⊢;rw[Sz,kH]at this⊢;grind
 have:=m.w;rw[mL]at this⊢;grind
theorem g7.split(h:im s Wd L eP){v u:F2}{sh:ZN}(m:g7 s Wd L hi k os (dG++[(v,sh)]) ps cE)(ah:k<eP)(a2:Wd u)(lt:u.1*v.2<v.1*u.2):g7 s Wd L hi (k+1) os (dG++[(bX v u,hl s v u hi sh)]) (ps++[(u,hX s v u hi sh)]) (cE++[(bX v u,bB s u,g4 s v u hi sh)]):=by
 have hc:=m.o (v,sh) (by simp);obtain⟨aC,bf,cR⟩:=hc.split h ah a2 lt;have z:=h.sp hc.w a2 lt;have dH:=m.up h (TV k);refine⟨λx al=>?_,λx al=>?_,λb ae=>?_,λφ b=>?_,?_⟩
 ·rcases SK.mp al with y|y
  ·exact dH.o x (TC _ y)
  rw[SN.mp y];exact bf
 ·rcases SK.mp al with y|y
  ·exact dH.p x y
  rw[SN.mp y];exact aC
 ·rcases SK.mp ae with y|y
  ·exact dH.b b y
  rw[SN.mp y];exact cR
 ·have f:=m.f φ b;have rd:d0 φ b (hX s v u hi sh++hl s v u hi sh++g4 s v u hi sh)=d0 φ b sh:=Jk z hi (λx al=>(h.fit k x (by lia) (hc.px x al)).gz) b φ;rw[lX,lX]at rd;unfold io li at f⊢;rw[Sz,Sz,Sz,kH,kH,kH];rw[Sz,kH]at f;simp only[SH,Ts,CA]at f⊢;grind
 have w:=m.w;have r:=z.rR;rw[mL,pZ]at w;rw[mL,pZ,mL,pZ];show dm dG+bu (bX v u)+(dm ps+bu u)=_
 rw[r];have w:dm dG+bu v+dm ps=dm os:=w;grind
end
theorem ac3{s w:F2}(ls:a3 s.1 s.2)(s0:s.1≠0)(lw:a3 w.1 w.2)(w0:0<w.1):cP [cV s false w,cV s true w] [kv w (bB s w)]:=λφ=>by
 have cE:=r9 ls lw s0 w0;have Bc:aX ((0,0,1):ab):=⟨(show(0:Int)<1 by decide),by decide⟩;have ac4:=cE.top.1;have ac5:aX ((w.1,0,w.2):ab):=(uB lw).1;have ac6:aX ((0,(bB s w).1,(bB s w).2):ab):=(uC cE.lh).1;unfold cV kv;generalize((0,0,1):ab)=A at *;generalize((w.1,0,w.2):ab)=ag0 at *;generalize dh w (bB s w)=ag1 at *;generalize((0,(bB s w).1,(bB s w).2):ab)=ag2 at *;have ec:fW φ []=0:=rfl;have d2:∀a b c:ab,eA φ [a,b,c]=fu φ c a+(fu φ a b+(fu φ b c+0)):=λa b c=>rfl;have ht:∀a b c d:ab,eA φ [a,b,c,d]=fu φ d a+(fu φ a b+(fu φ b c+(fu φ c d+0))):=λa b c d=>rfl;rw[j3,j3,j3,ec];by_cases sp:0<s.1
 ·rw[Tk sp,Tk sp,Tl SP,Tk rfl,d2,d2,ht];have:=B9 φ ac4 Bc;grind
 rw[Tl sp,Tl sp,Tl SP,Tk rfl,d2,d2,ht];have:=B9 φ ac6 ac5;grind
structure m1 (s:F2) (Wd:F2->Prop) (L:Nat->ba->Prop) (eP:Nat) (os ts:ZO) (hd:Bool) (rs:ZO) (bs:ZQ):Prop where
 r:∀c∈rs,gS s Wd L hd eP c
 b:∀b∈bs,lg L eP 6 b
 nb:bs.length<=2*(os.length+ts.length)
 np:(bs.map λb=>b.2.2.length).sum<=9*(os.length+ts.length)
 nr:rs.length<=os.length+ts.length
 f:∀φ c,eV φ c (io rs)+eV φ c (li bs)=eV φ c (io os)+eV φ c (io ts)
 w:dm rs=if hd=true then dm ts-dm os else dm os-dm ts
 h:hd=true->rs≠[]
section
variable{s:F2}{Wd:F2->Prop}{L:Nat->ba->Prop}{eP:Nat}
theorem lg.more{k n m:Nat}{b:fH}(h:lg L k n b)(le:n<=m):lg L k m b:=⟨h.lw,h.w0,h.lh,h.h0,h.b1,h.b2,h.b3,h.b4,h.px,SD h.ln le,h.bal⟩
theorem Jv(bI:im s Wd L eP){k:Nat}{w:F2}{sa eb:ZN}(a:gS s Wd L false k (w,sa))(b:gS s Wd L true k (w,eb)):lg L k 6 (w,bB s w,sa++eb):=by
 obtain⟨eI,fQ,lr,sr⟩:=bI.lw _ a.w;obtain⟨aE,aI,g3,fE⟩:=rk bI.ls bI.s0 bI.c1 bI.c2 eI fQ lr sr;refine⟨eI,fQ,aE,aI,lr,sr,g3,fE,λx al=>?_,?_,λφ=>?_⟩
 ·rcases SK.mp al with z|z
  ·exact a.px x z
  exact b.px x z
 ·have x1:sa.length<=3:=a.ln;have hK:eb.length<=3:=b.ln;show(sa++eb).length<=6
  rw[Sx];lia
 show fW φ ((sa++eb).map λx=>x.1)=_
 rw[Sz,uz,a.bal φ,b.bal φ,<-ac3 bI.ls bI.s0 eI fQ φ,j3,j3,j3,j3];have ec:fW φ []=0:=rfl;rw[ec];grind
theorem ac7(bI:im s Wd L eP){os ts dG ots:ZO}{ps:ZS}{cE gk:ZQ}(a7:g7 s Wd L false eP os dG (p1 ps) cE)(a5:g7 s Wd L true eP ts ots (p2 ps) gk)(z:dG=[]\/ots=[])(n:ps.length<=os.length+ts.length)(nb:cE.length+gk.length<=os.length+ts.length)(cO:dG.length+ots.length<=os.length+ts.length):m1 s Wd L eP os ts (!ots.isEmpty) (dG++ots) (cE++gk++ps.map λp=>(p.1,bB s p.1,p.2.1++p.2.2)):=by
 have eI:=a7.w;have fQ:=a5.w;have C4:dm (p1 ps)=dm (p2 ps):=by unfold dm p1 p2;rw[SR,SR];rfl
 have made:∀φ c,eV φ c (li (ps.map λp=>(p.1,bB s p.1,p.2.1++p.2.2)))=eV φ c (io (p1 ps))+eV φ c (io (p2 ps)):=λφ c=>by
  clear a7 a5 eI fQ C4 n nb;unfold li io p1 p2;rw[SR,SR,SR];induction ps with
  |nil=>show(0:Rat)=0+0;grind
  |cons p ps b9=>
   rw[SH,SH,SH,pV,pV,pV,b9];show d0 φ c (p.2.1++p.2.2)+_=d0 φ c p.2.1+_+(d0 φ c p.2.2+_)
   rw[lX];grind
 refine⟨λc hc=>?_,λb ae=>?_,?_,?_,by rw[Sx];exact cO,λφ c=>?_,?_,λh q=>?_⟩
 ·rcases z with rfl|rfl
  ·rw[Te]at hc;have:ots.isEmpty=false:=by cases ots with|nil=>cases hc|cons _ _=>rfl
   rw[this];exact a5.o c hc
  rw[SQ]at hc;exact a7.o c hc
 ·rcases SK.mp ae with y|y
  ·rcases SK.mp y with y|y
   ·exact(a7.b b y).more (by decide)
   exact(a5.b b y).more (by decide)
  obtain⟨p,ag,rfl⟩:=SJ.mp y;exact Jv bI (a7.p _ (SJ.mpr ⟨p,ag,rfl⟩)) (a5.p _ (SJ.mpr ⟨p,ag,rfl⟩))
 ·rw[Sx,Sx,Sv];lia
 ·rw[Sz,Sz,Ue,Ue];have aC:=pL (f:=λb:fH=>b.2.2.length) (m:=3) (l:=cE) λb ae=>(a7.b b ae).ln;have bf:=pL (f:=λb:fH=>b.2.2.length) (m:=3) (l:=gk) λb ae=>(a5.b b ae).ln
  have cR:=pL (f:=λb:fH=>b.2.2.length) (m:=6) (l:=ps.map λp=>(p.1,bB s p.1,p.2.1++p.2.2)) λb ae=>by
   obtain⟨p,ag,rfl⟩:=SJ.mp ae;exact(Jv bI (a7.p _ (SJ.mpr ⟨p,ag,rfl⟩)) (a5.p _ (SJ.mpr ⟨p,ag,rfl⟩))).ln
  rw[Sv]at cR;lia
 ·have aT:=a7.f φ c;have bd:=a5.f φ c;have e:∀a b:ZQ,eV φ c (li (a++b))=eV φ c (li a)+eV φ c (li b):=λa b=>by unfold li;rw[Sz,kH]
  have ar:eV φ c (io (dG++ots))=eV φ c (io dG)+eV φ c (io ots):=by unfold io;rw[Sz,kH]
  rw[e,e,made,ar];grind
 ·rw[mL];have ec:dm []=0:=rfl;rcases z with rfl|rfl
  ·cases q:ots.isEmpty with
   |true=>
    have q:=Wj.mp q;subst q;rw[ec]at eI fQ⊢;show(0:Rat)+0=if(!true)=true then _ else _
    rw[Tl (by decide)];grind
   |false=>
    rw[ec]at eI⊢;rw[Tk (show(!false)=true from rfl)];grind
  rw[ec]at fQ⊢;rw[Tl (by decide)];grind
 have q:=List.append_eq_nil_iff.mp q;rw[q.2]at h;cases h
end
structure j9 (s:ba):Prop where
 ln:s.1.length<=34
 cv:fg s.1
 ps:∀p∈s.1,cT 2600 p
 st:cT 1200 s.2.2
theorem j9.side{s:ba}(h:j9 s):∀e∈dk s.1,(crs e.1 e.2).1≠0\/(crs e.1 e.2).2.1≠0:=λe aD=>by
 obtain⟨h1,aa⟩:=lP aD;exact mC (h.ps _ h1).pt (h.ps _ aa).pt (h.cv.side aD)
theorem j9.rg{s:ba}(h:j9 s):nz s.1:=⟨b8 h.ln,h.side,λp ag=>(h.ps p ag).bp.mono (by decide)⟩
theorem j9.first{s:ba}(h:j9 s):nz (fT s)/\∀p∈fT s,aX p:=by
 have st:=h.st;have sl:∀p∈s.1,cT 3801 (nP (sld (trn s.2.2) p)):=λp ag=>(st.trn.sl (h.ps p ag)).mono (by decide);have aL:∀p∈s.1,aX p:=λp ag=>(h.ps p ag).pt;have aq:=(BR (v:=trn s.2.2) st.pt.1).rg aL h.side;unfold fT;split
 ·have t4:∀p∈s.1.map (λp=>nP (sld (trn s.2.2) p)),aX p:=λp ag=>by
   obtain⟨q,ay,rfl⟩:=SJ.mp ag;exact(sl q ay).pt
  refine⟨⟨by rw[Sv,Sv];exact b8 h.ln,q2.rg t4 aq,λp ag=>?_⟩,λp ag=>?_⟩
  ·obtain⟨q,ay,rfl⟩:=SJ.mp ag;obtain⟨r,ao,rfl⟩:=SJ.mp ay;exact(sl r ao).trn.bp.mono (by decide)
  obtain⟨q,ay,rfl⟩:=SJ.mp ag;obtain⟨r,ao,rfl⟩:=SJ.mp ay;exact(sl r ao).trn.pt
 refine⟨⟨by rw[Sv];exact b8 h.ln,aq,λp ag=>?_⟩,λp ag=>?_⟩
 ·obtain⟨r,ao,rfl⟩:=SJ.mp ag;exact(sl r ao).bp.mono (by decide)
 obtain⟨r,ao,rfl⟩:=SJ.mp ag;exact(sl r ao).pt
theorem gR.pcw{b m n t:Nat}{s:ba}(h:gR b m n t s)(ae:b<=2600)(aO:n<=34)(aR:t<=1200):j9 s:=⟨SD h.ln aO,h.cv,λp ag=>(h.rb.pts p ag).mono ae,h.st.mono aR⟩
section
variable{s v u:F2}
theorem ac8(z:eC s v u)(hi c:Bool){q b m n t:Nat}{sh:ZN}(aM:SC (bw s v u hi).1<=q)(a4:SC (bw s v u hi).2<=q)(h:∀x∈sh,gR b m n t x)(h1:2*q+5<=m)(aa:2*q+5+m+1<=b):∀x∈dU (bw s v u hi) c sh,gR b m (n+1) t x:=by
 obtain⟨db,dV,fG⟩:=pN (z.x hi).1;have bp:=Cy (z.x hi).1 aM a4;unfold dU;cases c with
 |true=>exact sJ h bp h1 db fG aa _ (.inl rfl)
 |false=>
  have:=sJ h bp h1 db fG aa (jA (ce (bw s v u hi))) (.inr rfl);rwa[se]at this
theorem ac9(z:eC s v u)(hi c:Bool){q b m n t:Nat}{sh:ZN}(aM:SC (bt s v u hi).1<=q)(a4:SC (bt s v u hi).2<=q)(h:∀x∈sh,gR b m n t x)(h1:2*q+5<=m)(aa:2*q+5+m+1<=b):∀x∈fX (bt s v u hi) c sh,gR b m (n+1) t x:=by
 obtain⟨db,dV,fG⟩:=pO (z.h hi).1;have bp:=Cz (z.h hi).1 aM a4;unfold fX;cases c with
 |true=>exact sJ h bp h1 db fG aa _ (.inl rfl)
 |false=>
  have:=sJ h bp h1 db fG aa (jA (cz (bt s v u hi))) (.inr rfl);rwa[se]at this
theorem Dj{x y:F2}{q r:Nat}(h7:a3 x.1 x.2)(mh:a3 y.1 y.2)(b1:SC x.1<=q)(b2:SC x.2<=q)(b3:SC y.1<=r)(b4:SC y.2<=r):cT (q+r) (dh x y):=⟨gv (p:=(x.1*y.2,y.1*x.2,x.2*y.2)) (l' h7.1 mh.1),lU b1 b2 b3 b4 h7 mh⟩
theorem ac'(z:eC s v u)(hi:Bool){q r:Nat}(ih:1<=q)(hF:1<=r)(ca:SC (bX v u).1<=q)(cn:SC (bX v u).2<=q)(fm:SC u.1<=q)(nG:SC u.2<=q)(b1:SC (bt s v u hi).1<=r)(b2:SC (bt s v u hi).2<=r):cT (q+r) (stA s v u hi)/\cT (q+r) (stB s v u hi)/\cT (q+r) (stC s v u hi):=by
 have ng:∀{x y:Int},a3 x y->a3 (-x) y:=λl=>⟨l.1,by rw[Ua];exact l.2⟩;have hM:a3 0 1:=⟨by decide,by decide⟩;have fN:∀{n:Nat},1<=n->SC 0<=n/\SC 1<=n:=λh=>⟨SD (show SC 0<=1 by decide) h,SD (show SC 1<=1 by decide) h⟩;have xK:=z.r.1;have lh:=(z.h hi).1
 have t6:∀c:Bool,a3 (if c=true then(0,1)else(-(bX v u).1,(bX v u).2):F2).1 (if c=true then(0,1)else(-(bX v u).1,(bX v u).2):F2).2/\SC (if c=true then(0,1)else(-(bX v u).1,(bX v u).2):F2).1<=q/\SC (if c=true then(0,1)else(-(bX v u).1,(bX v u).2):F2).2<=q:=λc=>by
  cases c with
  |true=>exact⟨hM,fN ih⟩
  |false=>exact⟨ng xK,TW ca,cn⟩
 have sR:∀c:Bool,a3 (if c=true then(-u.1,u.2)else(0,1):F2).1 (if c=true then(-u.1,u.2)else(0,1):F2).2/\SC (if c=true then(-u.1,u.2)else(0,1):F2).1<=q/\SC (if c=true then(-u.1,u.2)else(0,1):F2).2<=q:=λc=>by
  cases c with
  |true=>exact⟨ng z.lp,TW fm,nG⟩
  |false=>exact⟨hM,fN ih⟩
 have qL:∀c:Bool,a3 (if c=true then(-(bt s v u hi).1,(bt s v u hi).2)else(0,1):F2).1 (if c=true then(-(bt s v u hi).1,(bt s v u hi).2)else(0,1):F2).2/\SC (if c=true then(-(bt s v u hi).1,(bt s v u hi).2)else(0,1):F2).1<=r/\SC (if c=true then(-(bt s v u hi).1,(bt s v u hi).2)else(0,1):F2).2<=r:=λc=>by
  cases c with
  |true=>exact⟨ng lh,TW b1,b2⟩
  |false=>exact⟨hM,fN hF⟩
 have Dk:∀c:Bool,a3 (if c=true then(0,1)else(-(bt s v u hi).1,(bt s v u hi).2):F2).1 (if c=true then(0,1)else(-(bt s v u hi).1,(bt s v u hi).2):F2).2/\SC (if c=true then(0,1)else(-(bt s v u hi).1,(bt s v u hi).2):F2).1<=r/\SC (if c=true then(0,1)else(-(bt s v u hi).1,(bt s v u hi).2):F2).2<=r:=λc=>by
  cases c with
  |true=>exact⟨hM,fN hF⟩
  |false=>exact⟨ng lh,TW b1,b2⟩
 exact⟨Dj (t6 (spL s hi)).1 (qL hi).1 (t6 _).2.1 (t6 _).2.2 (qL _).2.1 (qL _).2.2,Dj (sR (spL s hi)).1 (Dk hi).1 (sR _).2.1 (sR _).2.2 (Dk _).2.1 (Dk _).2.2,Dj (sR (spL s hi)).1 (qL hi).1 (sR _).2.1 (sR _).2.2 (qL _).2.1 (qL _).2.2⟩
theorem ada(z:eC s v u)(hi:Bool){q r b m n t:Nat}{sh:ZN}(ih:1<=q)(ag3:q<=r)(ca:SC (bX v u).1<=q)(cn:SC (bX v u).2<=q)(fm:SC u.1<=q)(nG:SC u.2<=q)(b1:SC (bt s v u hi).1<=r)(b2:SC (bt s v u hi).2<=r)(h:∀x∈sh,gR b m n t x)(h1:2*r+5<=m)(aa:2*r+5+m+1<=b):
  ∀x∈hX s v u hi sh++hl s v u hi sh++g4 s v u hi sh,gR (b+(q+r)+1) (m+(q+r)+2) (n+2) (t+(q+r)+1) x:=by
 have ra:SC (bw s v u hi).1<=q/\SC (bw s v u hi).2<=q:=by
  unfold bw;split
  ·exact⟨fm,nG⟩
  exact⟨ca,cn⟩
 obtain⟨aE,aI,g3⟩:=ac' z hi ih (by lia) ca cn fm nG b1 b2;have c1:=λc=>ac8 z hi c ra.1 ra.2 h (by lia) (by lia);have c2:=λc=>ac9 z hi c b1 b2 (c1 (!spL s hi)) h1 aa;intro x al;rcases SK.mp al with al|al
 ·rcases SK.mp al with al|al
  ·obtain⟨y,aP,rfl⟩:=SJ.mp al;exact((c1 _ y aP).slid aE).mono (by lia) (by lia) (by lia) (by lia)
  obtain⟨y,aP,rfl⟩:=SJ.mp al;exact((c2 _ y aP).slid aI).mono (by lia) (by lia) (by lia) (by lia)
 obtain⟨y,aP,rfl⟩:=SJ.mp al;exact((c2 _ y aP).slid g3).mono (by lia) (by lia) (by lia) (by lia)
end
def du(w:F2)(N:Nat)(v:F2):Prop:=a3 v.1 v.2/\∃j:Nat,0<j/\j<=N/\bu v*(N:Rat)=bu w*(j:Rat)
theorem du.self{w:F2}(l:a3 w.1 w.2):du w 1 w:=⟨l,1,by decide,SF _,rfl⟩
theorem du.up{w v:F2}{N:Nat}(h:du w N v)(m:Nat)(dW:0<m):du w (N*m) v:=by
 obtain⟨l,j,kQ,cS,e⟩:=h;refine⟨l,j*m,Nat.mul_pos kQ dW,Nat.mul_le_mul_right _ cS,?_⟩;push_cast;grind
theorem du.pos{w v:F2}{N:Nat}(lw:a3 w.1 w.2)(w0:0<w.1)(h:du w N v):0<v.1:=by
 obtain⟨l,j,kQ,cS,e⟩:=h;have p:=mD w0 lw.1;have adb:(0:Rat)<(j:Rat):=by exact_mod_cast kQ
 have u6:(0:Rat)<(N:Rat):=by exact_mod_cast S8 kQ cS
 have q:0<bu v*(N:Rat):=by rw[e];exact UR p adb
 have pD:0<bu v:=by
  apply UB;intro z;have z:bu v<=0:=Vx.mp z;have:=Xk z (Wl u6);rw[Rat.zero_mul]at this;exact absurd q (Vx.mpr this)
 have bS:(0:Rat)<(v.2:Rat):=by exact_mod_cast l.1
 have ar:(v.1:Rat)=bu v*v.2:=by unfold bu;have:=fh l.1;grind
 have:(0:Rat)<(v.1:Rat):=by rw[ar];exact UR pD bS
 exact_mod_cast this
theorem du.bits{w v:F2}{N:Nat}(lw:a3 w.1 w.2)(w0:0<w.1)(c1:SC w.1<=10)(c2:SC w.2<=10)(bF:N<=256)(h:du w N v):SC v.1<=19/\SC v.2<=19:=by
 have eM:=h.pos lw w0;obtain⟨l,j,kQ,cS,e⟩:=h;have i7:0<N:=S8 kQ cS
 have bb:v.1*(w.2*N)=w.1*j*v.2:=by
  have a:=fh l.1;have b:=fh lw.1
  have:(v.1:Rat)*((w.2:Rat)*(N:Rat))=(w.1:Rat)*(j:Rat)*(v.2:Rat):=by
   unfold bu at e;grind
  exact_mod_cast this
 have Co:Nat.Coprime v.1.natAbs v.2.natAbs:=l.2
 have b7:v.2∣w.2*N:=by
  have d:v.2.natAbs∣v.1.natAbs*(w.2*N).natAbs:=by rw[<-Tw,bb,Tw];exact Nat.dvd_mul_left _ _
  exact Ut.mp (Xl Co.symm d)
 have cc:v.1∣w.1*j:=by
  have d:v.1.natAbs∣v.2.natAbs*(w.1*j).natAbs:=by rw[VR,<-Tw,<-bb,Tw];exact Nat.dvd_mul_right _ _
  exact Ut.mp (Xl Co d)
 have nb:∀{n:Nat},n<=256->SC (n:Int)<=9:=λh=>intBits_le_iff.mpr (by show((_:Nat):Int).natAbs<512;lia);have fQ:=lw.1;exact⟨Iu eM (SE w0 (by lia)) cc (TE c1 (nb (by lia))),Iu l.1 (SE fQ (by lia)) b7 (TE c2 (nb bF))⟩
theorem adc{u v:F2}(ju:a3 u.1 u.2)(lv:a3 v.1 v.2)(lt:u.1*v.2<v.1*u.2):bu u<bu v:=by
 have a:(0:Rat)<(u.2:Rat):=by exact_mod_cast ju.1
 have b:(0:Rat)<(v.2:Rat):=by exact_mod_cast lv.1
 have c:(u.1:Rat)*v.2<v.1*u.2:=by exact_mod_cast lt
 unfold bu;rw[Rat.div_lt_iff a];have e:(v.1:Rat)/v.2*u.2=v.1*u.2/v.2:=by grind
 rw[e,Rat.lt_div_iff b];exact c
theorem du.sub{w v u:F2}{N:Nat}(lw:a3 w.1 w.2)(w0:0<w.1)(aL:du w N v)(a2:du w N u)(lt:u.1*v.2<v.1*u.2):du w N (bX v u):=by
 obtain⟨lv,j,kQ,cS,ai⟩:=aL;obtain⟨ju,i,fN,ff,ar⟩:=a2;have cd:0<v.2*u.2:=SE lv.1 ju.1
 have r:bu (bX v u)=bu v-bu u:=by
  unfold bX;rw[uH cd];have a:=fh lv.1;have b:=fh ju.1;unfold bu;push_cast;grind
 have p:=mD w0 lw.1;have u6:(0:Rat)<(N:Rat):=by exact_mod_cast S8 kQ cS
 have k5:i<j:=by
  have q:=adc ju lv lt;have a4:bu u*(N:Rat)<bu v*(N:Rat):=Rat.mul_lt_mul_of_pos_right q u6;rw[ai,ar]at a4;apply UB;intro z;have z:(j:Rat)<=(i:Rat):=by exact_mod_cast Nat.not_lt.mp z
  have:=Rat.mul_le_mul_of_nonneg_left z (Wl p);exact absurd a4 (Vx.mpr this)
 refine⟨(jx (t:=v.1*u.2-u.1*v.2) (b:=v.2*u.2) (SA cd)).1,j-i,by lia,by lia,?_⟩
 have c:((j-i:Nat):Rat)=(j:Rat)-(i:Rat):=by
  have h:((j-i:Nat):Rat)+(i:Rat)=(j:Rat):=by exact_mod_cast Xm (UC k5)
  grind
 rw[r,c];grind
theorem du.part{w v:F2}{N:Nat}{d:Int}(h:du w N v)(i6:1<=d)(b7:d<=3):du w (N*4) (dF (v.1*d) (v.2*4))/\(dF (v.1*d) (v.2*4)).1*v.2<v.1*(dF (v.1*d) (v.2*4)).2\/v.1<=0:=by
 by_cases z:v.1<=0
 ·exact .inr z
 refine .inl ?_;obtain⟨l,j,kQ,cS,e⟩:=h;have cd:0<v.2*4:=by have:=l.1;lia
 obtain⟨bS,ar,_,_⟩:=jx (t:=v.1*d) (b:=v.2*4) (SA cd)
 have IS:bu (dF (v.1*d) (v.2*4))*4=bu v*(d:Rat):=by
  rw[uH cd];have a:=fh l.1;unfold bu;push_cast;grind
 have lR:((d.toNat:Nat):Int)=d:=U5 (by lia);have oC:((d.toNat:Nat):Rat)=(d:Rat):=by exact_mod_cast UF (Int.cast:Int->Rat) lR
 refine⟨⟨bS,j*d.toNat,Nat.mul_pos kQ (by lia),?_,?_⟩,?_⟩
 ·exact Nat.mul_le_mul cS (by lia)
 ·push_cast;rw[oC];grind
 have eL:0<v.1:=by lia
 have k:(dF (v.1*d) (v.2*4)).1*(v.2*4)=v.1*d*(dF (v.1*d) (v.2*4)).2:=ar;generalize dF (v.1*d) (v.2*4)=x at *;have hK:=bS.1;have ca:x.1*v.2*4=v.1*x.2*d:=by grind
 have cn:0<v.1*x.2:=SE eL hK;have fm:v.1*x.2*d<=v.1*x.2*3:=Int.mul_le_mul_of_nonneg_left b7 (Tg cn);lia
def gT(k:Nat)(x:ba):Prop:=gR (802+51*k) (400+51*k) (6+2*k) (20+51*k) x
theorem gT.pcw{k:Nat}{x:ba}(h:gT k x)(ah:k<=14):j9 x:=gR.pcw h (by lia) (by lia) (by lia)
theorem add{s w:F2}(ls:a3 s.1 s.2)(s0:s.1≠0)(c1:SC s.1<=10)(c2:SC s.2<=10)(lw:a3 w.1 w.2)(w0:0<w.1)(c3:SC w.1<=10)(c4:SC w.2<=10):im s (du w 256) gT 14:=by
 refine⟨ls,s0,by lia,by lia,λv aL=>?_,λv u aL a2 lt=>aL.sub lw w0 a2 lt,λk x ah al=>⟨_,_,_,_,al,by lia,by lia,by lia,by lia,by lia⟩,λk hi v u sh ah z aL a2 ao al x aA=>?_,λk x al=>gR.mono al (by lia) (by lia) (by lia) (by lia)⟩
 ·obtain⟨b1,b2⟩:=aL.bits lw w0 c3 c4 (by decide);exact⟨aL.1,aL.pos lw w0,by lia,by lia⟩
 obtain⟨b1,b2⟩:=ao.bits lw w0 c3 c4 (by decide);obtain⟨b3,b4⟩:=a2.bits lw w0 c3 c4 (by decide)
 have ae:∀y:F2,a3 y.1 y.2->0<y.1->SC y.1<=19->SC y.2<=19->SC (bB s y).1<=29/\SC (bB s y).2<=29:=λy mh e1 dy fa=>by
  obtain⟨_,_,aM,a4⟩:=jx (t:=(if s.1<0 then -s.1 else s.1)*y.1) (b:=s.2*y.2) (l' ls.1 mh.1)
  have i':SC (if s.1<0 then -s.1 else s.1)<=10:=by
   split
   ·exact TW c1
   exact c1
  exact⟨gd aM (TE i' dy),gd a4 (TE c2 fa)⟩
 have dY:SC (bt s v u hi).1<=29/\SC (bt s v u hi).2<=29:=by
  unfold bt;split
  ·exact ae _ ao.1 (ao.pos lw w0) b1 b2
  exact ae _ a2.1 (a2.pos lw w0) b3 b4
 exact(ada z hi (q:=19) (r:=29) (by decide) (by decide) b1 b2 b3 b4 dY.1 dY.2 al (by lia) (by lia) x aA).mono (by lia) (by lia) (by lia) (by lia)
theorem ade{w h:F2}(b:ie w h)(b1:SC w.1<=270)(b2:SC w.2<=270)(b3:SC h.1<=270)(b4:SC h.2<=270):nz (kv w h):=HL b.cvx (λp ag=>by
 have z:SC 0<=4000:=by decide
 have m:∀{z:Int},SC z<=270->SC z<=4000:=λh=>b8 h;unfold kv at ag;simp only[SG,TS,or_false]at ag;rcases ag with rfl|rfl|rfl|rfl
 ·exact⟨⟨by decide,by decide⟩,⟨by decide,by decide,by decide⟩⟩
 ·exact⟨(uB b.lw).1,⟨m b1,z,m b2⟩⟩
 ·exact(aaO b.lw b.lh b1 b2 b3 b4).mono (by decide)
 exact⟨(uC b.lh).1,⟨z,m b3,m b4⟩⟩) (by show 4<=75;decide)
section
variable{s w:Int×Int}
theorem Jw(ls:a3 s.1 s.2)(lw:a3 w.1 w.2)(s0:s.1≠0)(w0:0<w.1)(c1:SC s.1<=10)(c2:SC s.2<=10)(c3:SC w.1<=10)(c4:SC w.2<=10)(hi:Bool):fg (cV s hi w)/\(∀p∈cV s hi w,cT 30 p)/\(cV s hi w).length<=3:=by
 have b:=r9 ls lw s0 w0;obtain⟨_,_,aM,a4⟩:=jx (t:=(if s.1<0 then -s.1 else s.1)*w.1) (b:=s.2*w.2) (l' ls.1 lw.1)
 have i':SC (if s.1<0 then -s.1 else s.1)<=10:=by
  split
  ·exact TW c1
  exact c1
 have b3:SC (bB s w).1<=20:=gd aM (TE i' c3);have b4:SC (bB s w).2<=20:=gd a4 (TE c2 c4);have m:∀{x:Int},SC x<=10->SC x<=30:=λh=>b8 h;have a5:∀{x:Int},SC x<=20->SC x<=30:=λh=>b8 h;have z:SC 0<=30:=by decide
 have cd:w.2*(bB s w).2≠0:=l' b.lw.1 b.lh.1;have ft:cT 30 (0,0,1):=⟨⟨(show(0:Int)<1 by decide),(show Ss (Ss 0 0:Nat) 1=1 by decide)⟩,z,z,(show SC 1<=30 by decide)⟩;have aE:cT 30 (w.1,0,w.2):=⟨wE b.lw,m c3,z,m c4⟩;have aI:cT 30 (dh w (bB s w)):=⟨b.top.1,(lU c3 c4 b3 b4 b.lw b.lh).mono (by decide)⟩;have g3:cT 30 (0,(bB s w).1,(bB s w).2):=⟨wF b.lh,z,a5 b3,a5 b4⟩;refine⟨Gd b hi,λp ag=>?_,VM (Gc hi)⟩;unfold cV at ag;split at ag<;>split at ag<;>(simp only[SG,TS,or_false]at ag;rcases ag with rfl|rfl|rfl<;>assumption)
end
theorem Jx{α:Type}:∀{l:List α}{n:Nat}{x:α},l[n]?=some x->(x::l.eraseIdx n).Perm l
 |[],_,_,h=>by simp at h
 |y::l,0,x,h=>by simp at h;subst h;exact Wm _
 |y::l,n+1,x,h=>by
  have h:l[n]?=some x:=by simpa using h
  exact(Xb y x _).trans ((Jx h).cons y)
theorem adf{w v u:F2}{N:Nat}(aL:du w N v)(a2:du w N u)(lt:u.1*v.2<v.1*u.2)(lw:a3 w.1 w.2)(w0:0<w.1):du w N (bX v u):=aL.sub lw w0 a2 lt
structure oK (s w:F2) (hi:Bool) (sh:ZN) (i:Nat) (cs:ZO) (bs:ZQ):Prop where
 c:∀c∈cs,gS s (du w 256) gT hi i c/\du w (4^i) c.1
 b:∀b∈bs,lg gT i 3 b
 f:∀φ c,eV φ c (io cs)+eV φ c (li bs)=d0 φ c sh
 w:dm cs=bu w
 n:cs.length=i+1
 nb:bs.length=i
section
variable{s w:F2}{hi:Bool}{sh:ZN}{i:Nat}{cs:ZO}{bs:ZQ}
theorem du.top{v:F2}{i:Nat}(h:du w (4^i) v)(hi:i<=4):du w 256 v:=by
 have e:4^i*4^(4-i)=256:=by rw[<-Nat.pow_add,show i+(4-i)=4 by lia]
 have:=h.up (4^(4-i)) (Nat.pow_pos (by decide));rwa[e]at this
theorem oK.start(lw:a3 w.1 w.2)(av:∀x∈sh,gT 0 x)(ap:sh.length<=3)(bal:cP (sh.map λx=>x.1) [cV s hi w]):oK s w hi sh 0 [(w,sh)] []:=by
 have one:∀c∈[((w,sh):dw)],c=(w,sh):=λc h=>SN.mp h;refine⟨λc hc=>?_,(λb h=>by cases h),λφ c=>?_,?_,rfl,rfl⟩
 ·rw[one c hc];have z:du w (4^0) w:=du.self lw;exact⟨⟨z.top (by decide),av,ap,bal⟩,z⟩
 ·show eV φ c [sh]+eV φ c []=_
  rw[CA,show eV φ c []=0 from rfl,Rat.add_zero]
 rw[pZ]
theorem oK.step(bI:im s (du w 256) gT 14)(lw:a3 w.1 w.2)(w0:0<w.1)(h:oK s w hi sh i cs bs)(jY:i<4){n:Nat}{v:F2}{here:ZN}(aO:cs[n]?=some (v,here)){d:Int}(i6:1<=d)(b7:d<=3){pt:F2}(a0:pt=dF (v.1*d) (v.2*4)):
  eC s v pt/\(∀x∈here,jd 60 x)/\here.length<=3/\oK s w hi sh (i+1) ([(bX v pt,hl s v pt hi here)]++cs.eraseIdx n++[(pt,hX s v pt hi here)]) (bs++[(bX v pt,bB s pt,g4 s v pt hi here)]):=by
 have lt:n<cs.length:=by
  rcases U4 n cs.length with q|q
  ·exact q
  rw[S' q]at aO;cases aO
 have em:cs[n]=(v,here):=by rw[SU lt]at aO;exact SO aO
 have pm:((v,here)::cs.eraseIdx n).Perm cs:=by rw[<-em];exact Jx (SU lt)
 obtain⟨co,Jy⟩:=h.c _ (pm.mem_iff.mp Sw);have eM:=(bI.lw v co.w).2.1;rcases Jy.part i6 b7 with⟨wp,cr⟩|z
 ·rw[<-a0]at wp cr;have Dl:du w (4^(i+1)) pt:=wp;have Jz:=Dl.top (by lia);obtain⟨aC,bf,cR⟩:=co.split bI (by lia) Jz cr;have z:=bI.sp co.w Jz cr;have ef:du w (4^(i+1)) v:=Jy.up 4 (by decide)
  have wr:du w (4^(i+1)) (bX v pt):=by
   exact adf ef Dl cr lw w0
  have up:∀c∈cs,gS s (du w 256) gT hi (i+1) c/\du w (4^(i+1)) c.1:=λc hc=>⟨(h.c c hc).1.up bI (TV i),(h.c c hc).2.up 4 (by decide)⟩;refine⟨z,λx al=>bI.fit i x (by lia) (co.px x al),co.ln,λc hc=>?_,λb ae=>?_,λφ c=>?_,?_,?_,?_⟩
  ·rcases SK.mp hc with q|q
   ·rcases SK.mp q with q|q
    ·rw[SN.mp q];exact⟨bf,wr⟩
    exact up c (pm.mem_iff.mp (Sy _ q))
   rw[SN.mp q];exact⟨aC,Dl⟩
  ·rcases SK.mp ae with q|q
   ·exact(h.b b q).up bI (TV i)
   rw[SN.mp q];exact cR
  ·have f:=h.f φ c;have rd:d0 φ c (hX s v pt hi here++hl s v pt hi here++g4 s v pt hi here)=d0 φ c here:=Jk z hi (λx al=>(bI.fit i x (by lia) (co.px x al)).gz) c φ;rw[lX,lX]at rd;have e:=Ju φ c (pm.map λc=>c.2);unfold io li at f⊢;rw[Sz,Sz,Sz,kH,kH,kH];rw[SH,pV]at e;simp only[SH,Ts,CA];have e:d0 φ c here+eV φ c ((cs.eraseIdx n).map λc=>c.2)=eV φ c (cs.map λc=>c.2):=e;grind
  ·have e:=Jt pm;have r:=z.rR;have ai:dm ((v,here)::cs.eraseIdx n)=bu v+dm (cs.eraseIdx n):=by unfold dm;rw[SH,Tb]
   rw[mL,mL,pZ,pZ];show bu (bX v pt)+dm (cs.eraseIdx n)+bu pt=_
   rw[r];have hw:=h.w;grind
  ·have:=h.n;rw[Sx,Sx,W' lt];simp only[Tn];lia
  rw[Sx,h.nb];rfl
 exact absurd z (by show ¬v.1<=0;lia)
end
def ro(w:F2)(N:Nat)(v:F2):Prop:=a3 v.1 v.2/\∃j:Nat,j<=N/\bu v*(N:Rat)=bu w*(j:Rat)
theorem du.wz{w v:F2}{N:Nat}(h:du w N v):ro w N v:=by
 obtain⟨l,j,_,cS,e⟩:=h;exact⟨l,j,cS,e⟩
theorem JA{v:F2}(l:a3 v.1 v.2)(h:bu v=0):v.1=0:=by
 have a:=fh l.1;have:(v.1:Rat)=0:=by unfold bu at h;grind
 exact_mod_cast this
theorem ro.bits{w v:F2}(lw:a3 w.1 w.2)(w0:0<w.1)(c1:SC w.1<=10)(c2:SC w.2<=10)(h:ro w 256 v):SC v.1<=19/\SC v.2<=19:=by
 obtain⟨l,j,cS,e⟩:=h;rcases Wq j with z|z
 ·subst z
  have ec:bu v=0:=by
   have:bu v*((256:Nat):Rat)=0:=by rw[e];show bu w*((0:Nat):Rat)=0;grind
   have k:((256:Nat):Rat)=256:=rfl;rw[k]at this;grind
  have eL:=JA l ec;have g:=l.2;rw[eL]at g
  have dB:v.2=1:=by
   have:(Ss 0 v.2:Int)=v.2.natAbs:=by rw[Int.gcd_zero_left]
   have p:=l.1;lia
  rw[eL,dB];exact⟨by decide,by decide⟩
 exact du.bits (N:=256) lw w0 c1 c2 (by decide) ⟨l,j,z,cS,e⟩
theorem JB{v u:F2}(lv:a3 v.1 v.2)(ju:a3 u.1 u.2):a3 (bX v u).1 (bX v u).2/\bu (bX v u)=bu v-bu u:=by
 have cd:0<v.2*u.2:=SE lv.1 ju.1;refine⟨(jx (t:=v.1*u.2-u.1*v.2) (b:=v.2*u.2) (SA cd)).1,?_⟩;unfold bX;rw[uH cd];have a:=fh lv.1;have b:=fh ju.1;unfold bu;push_cast;grind
theorem ro.sub{w v u:F2}{N:Nat}(lw:a3 w.1 w.2)(w0:0<w.1)(aL:ro w N v)(a2:du w N u)(le:bu u<=bu v):ro w N (bX v u):=by
 obtain⟨lv,j,cS,ai⟩:=aL;obtain⟨ju,i,fN,ff,ar⟩:=a2;obtain⟨l,r⟩:=JB lv ju;have p:=mD w0 lw.1;have u6:(0:Rat)<(N:Rat):=by exact_mod_cast S8 fN ff
 have k5:i<=j:=by
  have a4:bu u*(N:Rat)<=bu v*(N:Rat):=Xk le (Wl u6);rw[ai,ar]at a4;apply UB;intro z;have z:(j:Rat)<(i:Rat):=by exact_mod_cast Nat.not_le.mp z
  have:=Rat.mul_lt_mul_of_pos_left z p;exact absurd a4 (Rat.not_le.mpr this)
 refine⟨l,j-i,by lia,?_⟩
 have c:((j-i:Nat):Rat)=(j:Rat)-(i:Rat):=by
  have h:((j-i:Nat):Rat)+(i:Rat)=(j:Rat):=by exact_mod_cast Xm k5
  grind
 rw[r,c];grind
theorem Dm{cs:ZO}(h:∀c∈cs,0<bu c.1):0<=dm cs/\(cs≠[]->0<dm cs):=by
 induction cs with
 |nil=>exact⟨Rat.le_refl,λz=>absurd rfl z⟩
 |cons c r b9=>
  have i:=(b9 λx al=>h x (Sy _ al)).1;have p:=h c Sw;have e:dm (c::r)=bu c.1+dm r:=by unfold dm;rw[SH,Tb]
  rw[e];constructor
  ·grind
  intro _;grind
section
variable{s w:F2}
theorem adg{os ts rs:ZO}{bs:ZQ}{h h':Bool}{wd:F2}(bI:im s (du w 256) gT 14)(p:m1 s (du w 256) gT 14 os ts h' rs bs)(w0:0<bu wd)(e:(if h=true then dm ts-dm os else dm os-dm ts)=bu wd):h'=h/\dm rs=bu wd:=by
 have pos:=Dm (cs:=rs) λc hc=>by
  obtain⟨a,b,_,_⟩:=bI.lw _ (p.r c hc).w;exact mD b a.1
 have jX:=p.w;cases h with
 |true=>
  cases h' with
  |true=>exact⟨rfl,by rw[jX];exact e⟩
  |false=>
   rw[Tl SP]at jX;rw[Tk rfl]at e;have:=pos.1
   exfalso
   grind
 |false=>
  cases h' with
  |false=>exact⟨rfl,by rw[jX];exact e⟩
  |true=>
   rw[Tk rfl]at jX;rw[Tl SP]at e;have:=pos.2 (p.h rfl)
   exfalso
   grind
theorem adh{os ts rs:ZO}{bs:ZQ}{h':Bool}(bI:im s (du w 256) gT 14)(p:m1 s (du w 256) gT 14 os ts h' rs bs)(e:dm os=dm ts):h'=false/\rs=[]:=by
 have pos:=Dm (cs:=rs) λc hc=>by
  obtain⟨a,b,_,_⟩:=bI.lw _ (p.r c hc).w;exact mD b a.1
 have jX:dm rs=0:=by
  rw[p.w,e];cases h' with
  |true=>rw[Tk rfl];grind
  |false=>rw[Tl SP];grind
 have z:rs=[]:=by
  apply UB;intro n;have:=pos.2 n;rw[jX]at this;exact absurd this (Vx.mpr Rat.le_refl)
 refine⟨?_,z⟩;cases h' with
 |true=>exact absurd z (p.h rfl)
 |false=>rfl
end
theorem JC(φ:ZZ->Int)(b:Bool):∀L:List ZN,d0 φ b L.flatten=eV φ b L
 |[]=>rfl
 |S::L=>by rw[List.flatten_cons,lX,pV,JC φ b L]
end Cut
namespace L3
theorem mM{s t:cQ}{U:iE}{ρ:ZM}(i:Nat)(v:aK)(first:∀N:ZM->Prop,(∀bi,bi=ρ.set i v->N bi)->s {U with nx:=N} ρ)(rest:t U (ρ.set i v)):qt s t U ρ:=first _ λ_ e=>by rw[e];exact rest
theorem x2{s t:cQ}{U:iE}{ρ:ZM}(i j:Nat)(v w:aK)(first:∀N:ZM->Prop,(∀bi,bi=(ρ.set i v).set j w->N bi)->s {U with nx:=N} ρ)(rest:t U ((ρ.set i v).set j w)):qt s t U ρ:=first _ λ_ e=>by rw[e];exact rest
end L3
namespace L3
open PySem L2
section
variable{X:aU}
theorem ei(i:Nat){x:Str}{n:Int}{j:Nat}{p1 p2 ow:Pos}(bF:gG X i x:=by rfl)(aL:gy X.env.scope x:=by walk_at"v")(hd:ed x:=by decide)(dI:gV x:=by decide):br X (.Subscript (.Name x p1) (.Constant (.int n) j p2) ow) (z6 (jm i) (iW (.int n))):=gD (af i bF aL hd dI) bq (λ_ _=>rfl)
theorem cL(i:Nat){x:Str}{e:WP}{u:bg}{pos fx:Pos}(bF:X.N.Nodup)(aD:br X e u)(hi:gG X i x:=by rfl)(al:Loc X.env.scope x:=by exact SI rfl)(av:XA e (some (.Name x fx)) pos.line X.env=pure false:=by rfl)(bD:iO X x:=by walk_at"f"):fk X (.Assign [.Name x fx] e pos) (E9 i u):=v6 bF hi al aD av bD
theorem cf(i:Nat){x:Str}{pos:Pos}(bF:X.N.Nodup)(hi:gG X i x:=by rfl)(al:Loc X.env.scope x:=by exact SI rfl)(bD:iO X x:=by walk_at"f"):km X (.Name x pos) (fb i):=fq bF hi al bD
theorem bc{n:Nat}{F:ck}{w:jL}{e:WP}{es:ZW}{p pos:Pos}{x:Str}{ps:ZT}{j lv:Nat}(c:cj X.prog X.w X.K X.mg X.base x ps j (cm X.K n F))(ao:eF lv X.A)(aw:m' X (e::es) w)(aF:eD X x:=by rfl)(gC:j<=lv:=by decide)(gA:ed x:=by decide)(aD:eQ X e es:=by rfl)(eh:g8 X pos es:=by rfl):br X (.Call (.Name x p) (e::es) [] pos) (v3 n F w):=Nq c ao aF aw gC gA aD eh
end
end L3
namespace Cut
open PySem L2 L3
open PySem.Builtin.Int (intBits)
structure JD (mg:Str->Option SZ):Prop where
 len_:mg "len"=none
 abs_:mg "abs"=none
 int_:mg "int"=none
 bool_:mg "bool"=none
 tuple_:mg "tuple"=none
 isinstance_:mg "isinstance"=none
 range_:mg "range"=none
 all_:mg "all"=none
 sum_:mg "sum"=none
 list_:mg "list"=none
 ValueError_:mg "ValueError"=none
 zip_:mg "zip"=none
 str_:mg "str"=none
 enumerate_:mg "enumerate"=none
 set_:mg "set"=none
 max_:mg "max"=none
 min_:mg "min"=none
 sorted_:mg "sorted"=none
 dict_:mg "dict"=none
local macro_rules | `(tactic| walk_at"bu") => `(tactic| first | assumption | exact Yx (by walk_at"bu") (by walk_at"bu") | exact XI (by walk_at"bu") (by walk_at"bu") | exact TE (by walk_at"bu") (by walk_at"bu") | exact TW (by walk_at"bu") | exact intBits_fdiv_le (by walk_at"bu") | exact zY (by omega) (by omega) | fail)
local macro_rules | `(tactic| walk_at"bits") => `(tactic| ((with_reducible show SC _ ≤ _); first | assumption | exact SD (zY (by omega) (by omega)) (by decide) | decide +kernel | exact SD (by walk_at"bu") (by first | omega | decide) | fail))
local macro_rules | `(tactic| walk_at"sd") => `(tactic| first | ((with_reducible show SC _ ≤ _); walk_at"bits") | ((with_reducible show zU _ _); exact ⟨by walk_at"bits", by walk_at"bits"⟩) | ((with_reducible show vR _ _); exact ⟨by omega, by walk_at"bits"⟩) | ((with_reducible show (_ : Int) < _); first | omega | decide +kernel) | ((with_reducible show (_ : Int) ≤ _); first | omega | decide +kernel) | ((with_reducible show Ec _ _); exact ⟨by decide, by decide, by decide⟩) | ((with_reducible show S7 _ ≤ TT); first | (show 2 ≤ TT; decide) | (show 3 ≤ TT; decide) | (show 1 ≤ TT; decide) | (show 0 ≤ TT; decide) | (show 4 ≤ TT; decide)) | fail)
local macro_rules | `(tactic| walk_at"w1") => `(tactic| first | refine ⟨_, rfl, ?_⟩ | refine ⟨_, _, rfl, rfl, ?_⟩ | refine ⟨_, _, rfl, rfl, by walk_at"sd", ?_⟩ | refine ⟨_, _, _, .inl rfl, rfl, rfl, ?_⟩ | refine ⟨_, _, _, .inr rfl, rfl, rfl, ?_⟩ | refine ⟨_, _, rfl, fun _ => rfl, ?_⟩ | refine ⟨by walk_at"sd", ?_⟩ | refine ⟨rfl, ?_⟩)
local macro_rules | `(tactic| walk_at"w") => `(tactic| repeat walk_at"w1")
local macro_rules | `(tactic| walk_at"wd") => `(tactic| (walk_at"w"; try dsimp only [lE]))
local macro_rules | `(tactic| walk_at"it") => `(tactic| first | exact .inl (by assumption) | exact .inr (by assumption))
local macro_rules | `(tactic| walk_at"r0") => `(tactic| repeat (first | refine ⟨_, rfl, ?_⟩ | refine ⟨_, _, rfl, rfl, ?_⟩ | refine ⟨_, _, _, _, rfl, rfl, by walk_at"it", rfl, ?_⟩ | refine ⟨by walk_at"sd", ?_⟩))
local macro_rules | `(tactic| walk_at"rd") => `(tactic| (walk_at"r0"; try dsimp only))
local macro_rules | `(tactic| walk_at"fall") => `(tactic| first | exact Tz.mpr ⟨rfl, by walk_at"fall"⟩ | exact Tc _)
local macro_rules | `(tactic| walk_at"fal2") => `(tactic| first | exact Tc _ | exact Tz.mpr ⟨fun h => absurd h (by decide), by walk_at"fal2"⟩ | exact Tz.mpr ⟨fun _ => ⟨_, rfl⟩, by walk_at"fal2"⟩)
local macro_rules | `(tactic| walk_at"fsub") => `(tactic| exact hV (by walk_at"fall"))
local macro_rules | `(tactic| walk_at"fhas") => `(tactic| exact ag4 (by walk_at"fal2"))
local macro_rules | `(tactic| walk_at"ffr") => `(tactic| (intro i y e; rcases i with _ | _ | _ | _ | _ | i <;> first | (cases e; done) | (cases e; exact ⟨_, rfl, rfl, rfl, SI rfl, _, rfl⟩)))
local macro_rules | `(tactic| walk_at"sc") => `(tactic| exact ⟨rfl, rfl, rfl, by decide +kernel, rfl, by decide +kernel, by decide +kernel⟩)
local macro_rules | `(tactic| walk_at"b1") => `(tactic| exact fun _ _ F => F.binds (jU fun _ _ _ _ _ _ _ => rfl))
local macro_rules | `(tactic| walk_at"b2") => `(tactic| exact fun _ _ F => F.binds (gh fun _ _ _ _ _ _ _ _ => rfl))
local macro_rules | `(tactic| walk_at"b3") => `(tactic| exact fun _ _ F => F.binds (oi fun _ _ _ _ _ _ _ _ _ => rfl))
local macro_rules | `(tactic| walk_at"b4") => `(tactic| exact fun _ _ F => F.binds (AT fun _ _ _ _ _ _ _ _ _ _ => rfl))
local macro_rules | `(tactic| walk_at"b5") => `(tactic| exact fun _ _ F => F.binds (wA fun _ _ _ _ _ _ _ _ _ _ _ => rfl))
abbrev FnT(N:List Str)(k:Nat)(s:Scope):=cC N (N.take k) s
theorem adi:FnT ["_law_script","_law_k"] 2 (bZ yQ):=by walk_at"sc"
theorem adj:FnT ["_law_cell_here"] 1 (bZ yR):=by walk_at"sc"
theorem JE:FnT ["_law_bag_here","_law_many","_law_found"] 2 (bZ yS):=by walk_at"sc"
theorem sS:FnT ["_law_one","_law_other","_law_rest"] 2 (bZ yT):=by walk_at"sc"
def adk  : ck:=λas k=>∃(a b:Int),as=[.val (.int a),.val (.int b)]/\k (.val (.int (Ss a b:Nat)))
theorem Dn:FnT ["_law_top","_law_bottom","_law_often"] 2 (bZ yU):=by walk_at"sc"
def adl  : ck:=λas k=>∃(t b:Int),as=[.val (.int t),.val (.int b)]/\(0<b)/\(SC b<=9000)/\k (.val (dR (dF t b)))
theorem JF:FnT ["_law_x","_law_y","_law_bottom","_law_often"] 3 (bZ yV):=by walk_at"sc"
def adm  : ck:=λas k=>∃(x y n:Int),as=[.val (.int x),.val (.int y),.val (.int n)]/\(0<n)/\(SC n<=9000)/\k (.val (aQ (cy x y n)))
theorem adn:FnT ["_law_found"] 1 (bZ yW):=by walk_at"sc"
def ado  : ck:=λas k=>∃(i:Int),as=[.val (.int i)]/\k (.val (.bl true))
theorem sT:FnT ["_law_p","_law_q","_law_a","_law_b","_law_c","_law_often"] 2 (bZ yX):=by walk_at"sc"
def adp  : ck:=λas k=>∃(p q:ab),as=[.val (aQ p),.val (aQ q)]/\((crs p q).1≠0\/(crs p q).2.1≠0)/\(cp 4000 p)/\(cp 4000 q)/\k (.val (aQ (eU p q)))
theorem u7:FnT ["_law_tally","_law_rings","_law_number","_law_ring","_law_k","_law_p","_law_q","_law_line_here"] 3 (bZ yY):=by walk_at"sc"
def adq:uu:=λb ks ds xs k=>∃(vs:ZI)(rs:Hm)(m:Int),  b=true/\xs=[(.lst (rs.map fV)),(.int m)]/\(ds=vs.map D.int)/\(vs.length=ks.length)/\(∀ps∈rs,nz ps)/\(m=1\/m = -1)/\(ks.length+2*(rs.map S7).sum<=10000)/\∀fP g5,g5.length=fP.length->fP.length<=ks.length+2*(rs.map S7).sum->(∀key,(bo fP g5 key).getD 0=(bo ks vs key).getD 0+m*pJ key rs)->k fP (g5.map D.int)
theorem JG:FnT ["_law_rings","_law_others","_law_tally"] 2 (bZ yZ):=by walk_at"sc"
def ads  : ck:=λas k=>∃(rs bz:Hm),as=[.val (.lst (rs.map fV)),.val (.lst (bz.map fV))]/\(∀ps∈rs,nz ps)/\(∀ps∈bz,nz ps)/\((rs.map S7).sum+(bz.map S7).sum<=4000)/\(cP rs bz)/\k (.val (.bl true))
theorem Do:FnT ["_law_p","_law_q","_law_r","_law_found"] 3 (bZ y0):=by walk_at"sc"
def adt  : ck:=λas k=>∃(p q r:ab),as=[.val (aQ p),.val (aQ q),.val (aQ r)]/\(cp 2950 p)/\(cp 2950 q)/\(cp 2950 r)/\k (.val (.bl (decide (0<be p q r))))
theorem adu:FnT ["_law_p"] 1 (bZ y1):=by walk_at"sc"
def adv  : ck:=λas k=>∃(p:ab),as=[.val (aQ p)]/\(aX p)/\k (.val (.bl true))
theorem Dp:FnT ["_law_ring","_law_turns","_law_fans"] 1 (bZ y2):=by walk_at"sc"
def adw  : ck:=λas k=>∃(ps:ZJ),as=[.val (.lst (ps.map aQ))]/\(ps.length<=75)/\(fg ps)/\(∀p∈ps,cT 2950 p)/\k (.val (.bl true))
theorem Dq:FnT ["_law_p","_law_q","_law_part_here","_law_many","_law_x","_law_y"] 4 (bZ y3):=by walk_at"sc"
def adx  : ck:=λas k=>∃(p q:ab)(t:Int),as=[.val (aQ p),.val (aQ q),.val (.int t),.val (.int 3)]/\(cT 2000 p)/\(cT 2000 q)/\(1<=t)/\(t<=2)/\k (.val (aQ (j1 p q t)))
theorem rp:FnT ["_law_bag_here","_law_ring","_law_i","_law_j","_law_p","_law_q"] 2 (bZ y4):=by walk_at"sc"
def ady  : ck:=λas k=>∃(ps:ZJ)(m:Nat),as=[.bag,.val (fV ps)]/\(fg ps)/\(∀x∈ps,cT m x)/\(m<=700)/\(ps.length<=50)/\∀bz rs,Ca (2*m+3) (ps.length+1) ps bz rs->k (.val (.tup [fV bz,fV rs]))
theorem rq:FnT ["_law_bag_here","_law_ring","_law_cuts","_law_parts","_law_k","_law_made","_law_part_here","_law_flag","_law_x"] 3 (bZ y5):=by walk_at"sc"
def adz  : ck:=λas k=>∃(ps:ZJ),as=[.bag,.val (fV ps),.val (.int 2)]/\(fg ps)/\(∀x∈ps,cT 30 x)/\(ps.length<=4)/\∀sh:ZN,(∀t∈sh,uO (j5 30 2) 6 t)->sh.length<=3->cP (sh.map λt=>t.1) [ps]->k (.val (.lst (sh.map bH)))
theorem oL:FnT ["_law_piece","_law_ring","_law_flag","_law_step","_law_sign","_law_made","_law_p","_law_x","_law_y"] 1 (bZ y6):=by walk_at"sc"
def JH  : ck:=λas k=>∃(s:ba),as=[.val (bH s)]/\(s.1.length<=75)/\(∀p∈s.1,cT 2600 p)/\(cT 1200 s.2.2)/\k (.val (.lst ((fT s).map aQ)))
theorem Dr:FnT ["_law_olds","_law_news","_law_flag","_law_near"] 2 (bZ y7):=by walk_at"sc"
def adA  : ck:=λas k=>∃(os ns:ZN),as=[.val (.lst (os.map bH)),.val (.lst (ns.map bH))]/\(os.length<=6)/\(ns.length<=115)/\(∀s∈os,j9 s)/\(∀s∈ns,j9 s)/\(∀b:Bool,cP ((ns.filter λs=>s.2.1==b).map fT) ((os.filter λs=>s.2.1==b).map fT))/\(∀s∈os,s.1.length<=6)/\k (.val (.bl true))
theorem JI:FnT ["_law_sheet_here","_law_ring","_law_piece"] 2 (bZ y8):=by walk_at"sc"
def adB  : ck:=λas k=>∃(sh:ZN)(bz:ZJ),as=[.val (.lst (sh.map bH)),.val (.lst (bz.map aQ))]/\(sh.length<=100)/\(∀s∈sh,j9 s)/\(nz bz)/\(cP (sh.map λs=>s.1) [bz])/\k (.val (.bl true))
theorem adC:FnT ["_law_one","_law_other"] 2 (bZ y9):=by walk_at"sc"
def adD  : ck:=λas k=>∃(r s:F2),as=[.val (dR r),.val (dR s)]/\(0<r.2)/\(0<s.2)/\(SC r.1<=1000)/\(SC r.2<=1000)/\(SC s.1<=1000)/\(SC s.2<=1000)/\k (.val (dR (dF (r.1*s.1) (r.2*s.2))))
theorem adE:FnT ["_law_one","_law_other"] 2 (bZ y'):=by walk_at"sc"
def adF  : ck:=λas k=>∃(r s:F2),as=[.val (dR r),.val (dR s)]/\(0<r.2)/\(0<s.2)/\(SC r.1<=1000)/\(SC r.2<=1000)/\(SC s.1<=1000)/\(SC s.2<=1000)/\k (.val (dR (dF (r.1*s.2-s.1*r.2) (r.2*s.2))))
theorem adG:FnT ["_law_x","_law_y"] 2 (bZ za):=by walk_at"sc"
def adH  : ck:=λas k=>∃(r s:F2),as=[.val (dR r),.val (dR s)]/\(0<r.2)/\(0<s.2)/\(SC r.1<=1000)/\(SC r.2<=1000)/\(SC s.1<=1000)/\(SC s.2<=1000)/\k (.val (aQ (cy (r.1*s.2) (s.1*r.2) (r.2*s.2))))
theorem adI:FnT ["_law_wide","_law_high_here"] 2 (bZ zb):=by walk_at"sc"
def adJ  : ck:=λas k=>∃(w h:F2),as=[.val (dR w),.val (dR h)]/\(a3 w.1 w.2)/\(a3 h.1 h.2)/\(SC w.1<=400)/\(SC w.2<=400)/\(SC h.1<=400)/\(SC h.2<=400)/\k (.val (.lst ((kv w h).map aQ)))
theorem adK:FnT ["_law_found"] 1 (bZ zd):=by walk_at"sc"
def adL  : ck:=λas k=>∃(r:F2),as=[.val (dR r)]/\(a3 r.1 r.2)/\(0<r.1)/\k (.val (.bl true))
theorem adM:FnT ["_law_found"] 1 (bZ zc):=by walk_at"sc"
def adN  : ck:=λas k=>∃(w h:F2)(sh:ZN),as=[.val (.tup [dR w,dR h,.lst (sh.map bH)])]/\(a3 w.1 w.2)/\(a3 h.1 h.2)/\(SC w.1<=270)/\(SC w.2<=270)/\(SC h.1<=270)/\(SC h.2<=270)/\(0<w.1)/\(0<h.1)/\(sh.length<=100)/\(∀s∈sh,j9 s)/\(cP (sh.map λs=>s.1) [kv w h])/\k (.val (.bl true))
theorem adO:FnT ["_law_bag_here"] 1 (bZ ze):=by walk_at"sc"
def adP  : ck:=λas k =>  as=[.bag]/\∀r:F2,a3 r.1 r.2->0<r.1->SC r.1<=10->SC r.2<=10->k (.val (dR r))
theorem adQ:FnT ["_law_slope_here","_law_wide"] 2 (bZ zf):=by walk_at"sc"
def adR  : ck:=λas k=>∃(s w:F2),as=[.val (dR s),.val (dR w)]/\(a3 s.1 s.2)/\(a3 w.1 w.2)/\(s.1≠0)/\(0<w.1)/\(SC s.1<=64)/\(SC s.2<=64)/\(SC w.1<=64)/\(SC w.2<=64)/\k (.val (dR (bB s w)))
theorem u8:FnT ["_law_slope_here","_law_hand","_law_wide","_law_one","_law_two","_law_three","_law_four"] 3 (bZ zg):=by walk_at"sc"
def adS  : ck:=λas k=>∃(s w:Int×Int)(hi:Bool),as=[.val (dR s),.val (.str (if hi=true then"high" else"low")),.val (dR w)]/\(a3 s.1 s.2)/\(a3 w.1 w.2)/\(s.1≠0)/\(0<w.1)/\(SC s.1<=64)/\(SC s.2<=64)/\(SC w.1<=64)/\(SC w.2<=64)/\k (.val (.lst ((cV s hi w).map aQ)))
theorem Ds:FnT ["_law_bag_here","_law_top","_law_bottom"] 1 (bZ zh):=by walk_at"sc"
def adT  : ck:=λas k =>  as=[.bag]/\∀s:F2,a3 s.1 s.2->s.1≠0->SC s.1<=10->SC s.2<=10->k (.val (dR s))
theorem Dt:FnT ["_law_some","_law_made","_law_one"] 1 (bZ zi):=by walk_at"sc"
def adU  : ck:=λas k=>∃(bs:ZQ),as=[.val (.lst (bs.map d8))]/\((bs.map λb=>b.2.2.length).sum<=400)/\k (.val (.lst ((bs.map λb=>b.2.2).flatten.map bH)))
theorem x3:FnT ["one","other"] 2 (bZ yp):=by walk_at"sc"
def adV  : ck:=λas k=>∃(a b:Int),as=[.val (.int a),.val (.int b)]/\k (.val (.int (Ss a b:Nat)))
theorem rr:FnT ["one","other","a","b","n","c","d","m"] 2 (bZ yB):=by walk_at"sc"
def adW  : ck:=λas k=>∃(p q:ab),as=[.val (aQ p),.val (aQ q)]/\(cp 4000 p)/\(cp 4000 q)/\k (.val (aQ (crs p q)))
theorem JJ:FnT ["line","p","turn"] 2 (bZ yC):=by walk_at"sc"
def adX  : ck:=λas k=>∃(c r:ab),as=[.val (aQ c),.val (aQ r)]/\(cp 2000 c)/\(cp 2000 r)/\k (.val (.int (cJ (c.1*r.1+c.2.1*r.2.1+c.2.2*r.2.2))))
theorem Du:FnT ["a","b","n","divisor"] 3 (bZ yy):=by walk_at"sc"
def adY  : ck:=λas k=>∃(a b n:Int),as=[.val (.int a),.val (.int b),.val (.int n)]/\(n≠0)/\(SC n<=9000)/\k (.val (aQ (cy a b n)))
theorem x4:FnT ["p","q","r","s","a","b","n"] 4 (bZ yD):=by walk_at"sc"
def adZ  : ck:=λas k=>∃(p q r s:ab),as=[.val (aQ p),.val (aQ q),.val (aQ r),.val (aQ s)]/\(cp 700 p)/\(cp 700 q)/\(cp 1990 r)/\(cp 1990 s)/\((crs (crs p q) (crs r s)).2.2≠0)/\k (.val (aQ (nP (crs (crs p q) (crs r s)))))
theorem oM:FnT ["ring","p","q","line","corner","hands","left","right","place","after","between"] 3 (bZ yE):=by walk_at"sc"
def ad0  : ck:=λas k=>∃(ps:ZJ)(p q:ab),as=[.val (.lst (ps.map aQ)),.val (aQ p),.val (aQ q)]/\(cp 300 p)/\(cp 300 q)/\(∀c∈ps,cp 1990 c/\aX c)/\(ps.length<=1000)/\k (.val (.tup [.lst ((c0 (ln (crs p q)) (a1 (crs p q)) ps).map aQ),.lst ((c0 (λc => -ln (crs p q) c) (a1 (crs p q)) ps).map aQ)]))
theorem p3:FnT ["sheet","p","q","left","right","ring","is_turned","step","left_ring","right_ring"] 3 (bZ yF):=by walk_at"sc"
def ad1  : ck:=λas k=>∃(sh:ZN)(p q:ab),as=[.val (.lst (sh.map bH)),.val (aQ p),.val (aQ q)]/\(cp 300 p)/\(cp 300 q)/\(∀s∈sh,∀c∈s.1,cp 1990 c/\aX c)/\(∀s∈sh,s.1.length<=1000)/\(sh.length<=1000)/\k (.val (.tup [.lst ((dA (ln (crs p q)) (a1 (crs p q)) sh).map bH),.lst ((dA (λc => -ln (crs p q) c) (a1 (crs p q)) sh).map bH)]))
theorem JK:FnT ["x","y","shared"] 2 (bZ yz):=by walk_at"sc"
def ad2  : ck:=λas k=>∃(fv uX:D)(x y u v:Int),as=[.val fv,.val uX]/\(tW fv=some [.int x,.int y])/\(tW uX=some [.int u,.int v])/\(a3 x y)/\(a3 u v)/\(SC x<=4000)/\(SC y<=4000)/\(SC u<=4000)/\(SC v<=4000)/\k (.val (aQ (cy (x*v) (u*y) (y*v))))
theorem ad3:FnT ["sheet","place"] 2 (bZ yG):=by walk_at"sc"
def ad4  : ck:=λas k=>∃(sh:ZN)(x:F2),as=[.val (.lst (sh.map bH)),.val (dR x)]/\(a3 x.1 x.2)/\(SC x.1<=200)/\(SC x.2<=200)/\(∀s∈sh,∀c∈s.1,cp 1990 c/\aX c)/\(∀s∈sh,s.1.length<=1000)/\(sh.length<=1000)/\k (.val (.tup [.lst ((dA (ln (ce x)) (a1 (ce x)) sh).map bH),.lst ((dA (λc => -ln (ce x) c) (a1 (ce x)) sh).map bH)]))
theorem Dv:FnT ["sheet","height","above","below"] 2 (bZ yH):=by walk_at"sc"
def ad5  : ck:=λas k=>∃(sh:ZN)(x:F2),as=[.val (.lst (sh.map bH)),.val (dR x)]/\(a3 x.1 x.2)/\(SC x.1<=200)/\(SC x.2<=200)/\(∀s∈sh,∀c∈s.1,cp 1990 c/\aX c)/\(∀s∈sh,s.1.length<=1000)/\(sh.length<=1000)/\k (.val (.tup [.lst ((dA (λc => -ln (cz x) c) (a1 (cz x)) sh).map bH),.lst ((dA (ln (cz x)) (a1 (cz x)) sh).map bH)]))
theorem mN:FnT ["p","step","a","b","n","right","up","parts","shared","x","y","divisor"] 2 (bZ yA):=by walk_at"sc"
def ad6  : ck:=λas k=>∃(p g:ab),as=[.val (aQ p),.val (aQ g)]/\(aX p)/\(cp 3000 p)/\(aX g)/\(cp 1000 g)/\k (.val (aQ (nP (sld g p))))
theorem ad7:FnT ["sheet","step"] 2 (bZ yJ):=by walk_at"sc"
def ad8  : ck:=λas k=>∃(sh:ZN)(g:ab),as=[.val (.lst (sh.map bH)),.val (aQ g)]/\(sh.length<=400)/\(∀s∈sh,Cw s)/\(cT 450 g)/\k (.val (.lst ((sh.map (lN g)).map bH)))
theorem ad9:FnT ["one","other"] 2 (bZ yu):=by walk_at"sc"
def ad'  : ck:=λas k=>∃(x y u v:Int),as=[.val (dR (x,y)),.val (dR (u,v))]/\(SC x<=4000)/\(SC y<=4000)/\(SC u<=4000)/\(SC v<=4000)/\k (.val (.bl (decide (x*v<u*y))))
theorem aea:FnT ["one"] 1 (bZ yv):=by walk_at"sc"
def aeb  : ck:=λas k=>∃(x y:Int),as=[.val (dR (x,y))]/\k (.val (dR (-x,y)))
theorem x5:FnT ["one","other","shared","top","divisor"] 2 (bZ yq):=by walk_at"sc"
def aec  : ck:=λas k=>∃(x y u v:Int),as=[.val (dR (x,y)),.val (dR (u,v))]/\(a3 x y)/\(a3 u v)/\(SC x<=4000)/\(SC y<=4000)/\(SC u<=4000)/\(SC v<=4000)/\k (.val (dR (dF (x*v+u*y) (y*v))))
theorem aed:FnT ["one","other"] 2 (bZ yr):=by walk_at"sc"
def aee  : ck:=λas k=>∃(x y u v:Int),as=[.val (dR (x,y)),.val (dR (u,v))]/\(a3 x y)/\(a3 u v)/\(SC x<=4000)/\(SC y<=4000)/\(SC u<=4000)/\(SC v<=4000)/\k (.val (dR (dF (x*v-u*y) (y*v))))
theorem Dw:FnT ["one","other","first","second"] 2 (bZ yt):=by walk_at"sc"
def aef  : ck:=λas k=>∃(x y u v:Int),as=[.val (dR (x,y)),.val (dR (u,v))]/\(a3 x y)/\(a3 u v)/\(SC x<=4000)/\(SC y<=4000)/\(SC u<=4000)/\(SC v<=4000)/\k (.val (dR (dF (x*u) (y*v))))
theorem aeg:FnT ["one"] 1 (bZ yw):=by walk_at"sc"
def aeh  : ck:=λas k=>∃(x y:Int),as=[.val (dR (x,y))]/\k (.val (dR (if x<0 then -x else x,y)))
theorem hY:FnT ["slope","hand","wide","sheet","part","rest","steep","is_low","part_is_left","height","left","right","part_sheet","others","below","above","rest_sheet","box","down","part_step","aside","rest_step","box_step","told_box"] 5 (bZ yK):=by walk_at"sc"
def aei  : ck:=λas k=>∃(s w pt:F2)(hi:Bool)(sh:ZN),as=[.val (dR s),.val (.str (if hi=true then"high" else"low")),.val (dR w),.val (.lst (sh.map bH)),.val (dR pt)]/\(eC s w pt)/\(∀x∈sh,jd 60 x)/\(sh.length<=20)/\k (.val (.tup [.lst ((hX s w pt hi sh).map bH),.lst ((hl s w pt hi sh).map bH),.tup [dR (bX w pt),dR (bB s pt),.lst ((g4 s w pt hi sh).map bH)]]))
theorem aej:FnT ["sheet"] 1 (bZ yI):=by walk_at"sc"
def JL  : ck:=λas k=>∃(sh:ZN),as=[.val (.lst (sh.map bH))]/\(sh.length<=100)/\k (.own (sh.map bH))
theorem oN:FnT ["ones","others","waiting","wide","sheet","pairs","ones_left","others_left"] 2 (bZ yM):=by walk_at"sc"
def aek  : ck:=λas k=>∃(os ts:ZO),as=[.val (.lst (os.map dC)),.val (.lst (ts.map dC))]/\(os.length<=40)/\(ts.length<=40)/\(∀c∈os++ts,c.2.length<=100)/\∀(ps:ZS)(ip eK:ZO),(ps.map (λp=>(p.1,p.2.1))++ip).Perm os->(ps.map (λp=>(p.1,p.2.2))++eK).Perm ts->∀p as,k (.deep (.ll p as [ps.map nK,ip.map dC,eK.map dC]))
theorem JM:FnT ["ratios","most"] 1 (bZ yx):=by walk_at"sc"
def ael  : ck:=λas k=>∃(cs:List F2),as=[.val (.lst (cs.map dR))]/\(cs.length<64)/\(∀c∈cs,0<c.2/\SC c.1<=900/\SC c.2<=900)/\∀ns:ZI,ns.length=cs.length->k (.own (ns.map D.int))
theorem Dx:FnT ["corners","places","order"] 1 (bZ yL):=by walk_at"sc"
def ru(c:F2×D):D:=.tup [dR c.1,c.2]
def aem  : ck:=λas k=>∃(cs:List (F2×D)),as=[.val (.lst (cs.map ru))]/\(cs.length<64)/\(∀c∈cs,0<c.1.2/\SC c.1.1<=900/\SC c.1.2<=900)/\∀x6:List (F2×D),x6.Perm cs->k (.own (x6.map ru))
theorem jG:FnT ["slope","hand","ones","other_hand","others","pairs","boxes","other_boxes","wide","sheet","other_wide","other_sheet","rest","box"] 5 (bZ yN):=by walk_at"sc"
def aen  : ck:=λas k=>∃(s:F2)(Wd:F2->Prop)(L:Nat->ba->Prop)(eP dS:Nat)(hi ax:Bool)(os ts:ZO),as=[.val (dR s),.val (.str (if hi=true then"high" else"low")),.val (.lst (os.map dC)),.val (.str (if ax=true then"high" else"low")),.val (.lst (ts.map dC))]/\(im s Wd L eP)/\(dS+os.length+ts.length<=eP)/\(os.length+ts.length<=40)/\(∀c∈os,gS s Wd L hi dS c)/\(∀c∈ts,gS s Wd L ax dS c)/\∀(ps:ZS)(cE gk:ZQ)(dG ots:ZO),g7 s Wd L hi eP os dG (p1 ps) cE->g7 s Wd L ax eP ts ots (p2 ps) gk->(dG=[]\/ots=[])->ps.length<=os.length+ts.length->cE.length+gk.length<=os.length+ts.length->dG.length+ots.length<=os.length+ts.length->k (.val (.tup [.lst (ps.map nK),.lst (cE.map d8),.lst (gk.map d8),.lst (dG.map dC),.lst (ots.map dC)]))
theorem aeo:FnT ["slope","wide","low","high"] 4 (bZ yO):=by walk_at"sc"
def aep  : ck:=λas k=>∃(s w:F2)(a b:ZN),as=[.val (dR s),.val (dR w),.val (.lst (a.map bH)),.val (.lst (b.map bH))]/\(a3 s.1 s.2)/\(a3 w.1 w.2)/\(SC s.1<=21)/\(SC s.2<=21)/\(SC w.1<=175)/\(SC w.2<=175)/\(a.length+b.length<=1000)/\k (.val (d8 (w,bB s w,a++b)))
theorem p4:FnT ["slope","low","high","pairs","boxes","other_boxes","low_rest","high_rest","made","hand"] 3 (bZ yP):=by walk_at"sc"
def aeq  : ck:=λas k=>∃(s:F2)(Wd:F2->Prop)(L:Nat->ba->Prop)(eP dS:Nat)(os ts:ZO),as=[.val (dR s),.val (.lst (os.map dC)),.val (.lst (ts.map dC))]/\(im s Wd L eP)/\(dS+os.length+ts.length<=eP)/\(os.length+ts.length<=40)/\(∀c∈os,gS s Wd L false dS c)/\(∀c∈ts,gS s Wd L true dS c)/\∀(hd:Bool)(rs:ZO)(bs:ZQ),m1 s Wd L eP os ts hd rs bs->k (.val (.tup [.str (if hd=true then"high" else"low"),.lst (rs.map dC),.lst (bs.map d8)]))
theorem mO:FnT ["_law_bag_here","_law_slope_here","_law_hand","_law_wide","_law_sheet_here","_law_some","_law_boxes","_law_k","_law_first_here","_law_here","_law_part_here","_law_one","_law_other","_law_box_here"] 5 (bZ zj):=by walk_at"sc"
def aer  : ck:=λas k=>∃(s w:F2)(hi:Bool)(sh:ZN),as=[.bag,.val (dR s),.val (.str (if hi=true then"high" else"low")),.val (dR w),.val (.lst (sh.map bH))]/\(im s (du w 256) gT 14)/\(a3 w.1 w.2)/\(0<w.1)/\(∀x∈sh,gT 0 x)/\(sh.length<=3)/\(cP (sh.map λx=>x.1) [cV s hi w])/\∀(i:Nat)(cs:ZO)(bs:ZQ),2<=i->i<=4->oK s w hi sh i cs bs->k (.val (.tup [.lst (cs.map dC),.lst (bs.map d8)]))
theorem sU:FnT ["_law_slope_here","_law_low_here","_law_high_here","_law_hand","_law_wide","_law_found","_law_left_here","_law_one","_law_sheet_here"] 5 (bZ zk):=by walk_at"sc"
def aes  : ck:=λas k=>∃(s w wd:F2)(h:Bool)(os ts:ZO),as=[.val (dR s),.val (.lst (os.map dC)),.val (.lst (ts.map dC)),.val (.str (if h=true then"high" else"low")),.val (dR wd)]/\(im s (du w 256) gT 14)/\(a3 w.1 w.2)/\(0<w.1)/\(SC w.1<=10)/\(SC w.2<=10)/\(os.length+ts.length<=10)/\(∀c∈os,gS s (du w 256) gT false 4 c)/\(∀c∈ts,gS s (du w 256) gT true 4 c)/\(du w 256 wd)/\((if h=true then dm ts-dm os else dm os-dm ts)=bu wd)/\k (.val (.bl true))
theorem mP:FnT ["_law_script","_law_bag_here","_law_slope_here","_law_wide","_law_near","_law_far","_law_low_here","_law_boxes","_law_high_here","_law_others","_law_found"] 1 (bZ zl):=by walk_at"sc"
structure aet (K:Su) (mg:Str->Option SZ):Prop where
 f_greatest_divisor:cM K mg "greatest_divisor" yp ["one","other"]
 f_plus:cM K mg "plus" yq ["one","other"]
 f_minus:cM K mg "minus" yr ["one","other"]
 f_times:cM K mg "times" yt ["one","other"]
 f_under:cM K mg "under" yu ["one","other"]
 f_against:cM K mg "against" yv ["one"]
 f_unsigned:cM K mg "unsigned" yw ["one"]
 f_ranks:cM K mg "ranks" yx ["ratios"]
 f_point:cM K mg "point" yy ["a","b","n"]
 f_at:cM K mg "at" yz ["x","y"]
 f_slid:cM K mg "slid" yA ["p","step"]
 f_crossed:cM K mg "crossed" yB ["one","other"]
 f_hand_of:cM K mg "hand_of" yC ["line","p"]
 f_meet:cM K mg "meet" yD ["p","q","r","s"]
 f_cut_ring:cM K mg "cut_ring" yE ["ring","p","q"]
 f_cut_sheet:cM K mg "cut_sheet" yF ["sheet","p","q"]
 f_cut_upright:cM K mg "cut_upright" yG ["sheet","place"]
 f_cut_level:cM K mg "cut_level" yH ["sheet","height"]
 f_copied:cM K mg "copied" yI ["sheet"]
 f_moved:cM K mg "moved" yJ ["sheet","step"]
 f_split:cM K mg "split" yK ["slope","hand","wide","sheet","part"]
 f_widest_last:cM K mg "widest_last" yL ["corners"]
 f_alike:cM K mg "alike" yM ["ones","others"]
 f_matched:cM K mg "matched" yN ["slope","hand","ones","other_hand","others"]
 f_box_of:cM K mg "box_of" yO ["slope","wide","low","high"]
 f_paired:cM K mg "paired" yP ["slope","low","high"]
 f_law_cell:cM K mg "_law_cell" yQ ["_law_script","_law_k"]
 f_law_bag:cM K mg "_law_bag" yR ["_law_cell_here"]
 f_law_draw:cM K mg "_law_draw" yS ["_law_bag_here","_law_many"]
 f_law_measure:cM K mg "_law_measure" yT ["_law_one","_law_other"]
 f_law_low:cM K mg "_law_low" yU ["_law_top","_law_bottom"]
 f_law_spot:cM K mg "_law_spot" yV ["_law_x","_law_y","_law_bottom"]
 f_law_whole:cM K mg "_law_whole" yW ["_law_found"]
 f_law_line:cM K mg "_law_line" yX ["_law_p","_law_q"]
 f_law_count:cM K mg "_law_count" yY ["_law_tally","_law_rings","_law_number"]
 f_law_part:cM K mg "_law_part" yZ ["_law_rings","_law_others"]
 f_law_left:cM K mg "_law_left" y0 ["_law_p","_law_q","_law_r"]
 f_law_is_spot:cM K mg "_law_is_spot" y1 ["_law_p"]
 f_law_is_bulging:cM K mg "_law_is_bulging" y2 ["_law_ring"]
 f_law_between:cM K mg "_law_between" y3 ["_law_p","_law_q","_law_part_here","_law_many"]
 f_law_cut:cM K mg "_law_cut" y4 ["_law_bag_here","_law_ring"]
 f_law_sheet:cM K mg "_law_sheet" y5 ["_law_bag_here","_law_ring","_law_cuts"]
 f_law_first:cM K mg "_law_first" y6 ["_law_piece"]
 f_law_kept:cM K mg "_law_kept" y7 ["_law_olds","_law_news"]
 f_law_lies:cM K mg "_law_lies" y8 ["_law_sheet_here","_law_ring"]
 f_law_product:cM K mg "_law_product" y9 ["_law_one","_law_other"]
 f_law_less:cM K mg "_law_less" y' ["_law_one","_law_other"]
 f_law_pin:cM K mg "_law_pin" za ["_law_x","_law_y"]
 f_law_box:cM K mg "_law_box" zb ["_law_wide","_law_high_here"]
 f_law_is_box:cM K mg "_law_is_box" zc ["_law_found"]
 f_law_is_low:cM K mg "_law_is_low" zd ["_law_found"]
 f_law_size:cM K mg "_law_size" ze ["_law_bag_here"]
 f_law_high:cM K mg "_law_high" zf ["_law_slope_here","_law_wide"]
 f_law_corner:cM K mg "_law_corner" zg ["_law_slope_here","_law_hand","_law_wide"]
 f_law_slope:cM K mg "_law_slope" zh ["_law_bag_here"]
 f_law_pieces:cM K mg "_law_pieces" zi ["_law_some"]
 f_law_splits:cM K mg "_law_splits" zj ["_law_bag_here","_law_slope_here","_law_hand","_law_wide","_law_sheet_here"]
 f_law_rest_is:cM K mg "_law_rest_is" zk ["_law_slope_here","_law_low_here","_law_high_here","_law_hand","_law_wide"]
 G_NOTHING:ww K mg "NOTHING" [0,1]
 L_widest_last:xT K mg "widest_last"
section aeu
variable(B:JD mg)(Y:aet K mg)
include B Y
theorem Dy :
  cj P w K mg base "_law_cell" ["_law_script","_law_k"] 1 (cm K 2 Fm):=by
 refine cj.imp (sp:=Fl K) ?_ (λvs H Q E h=>N' h);refine Y.f_law_cell.ok (k:=0) adi (λvs H Q E h=>?_) (λf cdv A outer s H vs Q E ao h=>?_)
 ·obtain⟨a,k,ns,rfl,ga,h0,q⟩:=h;rfl
 obtain⟨a,k,ns,rfl,ga,h0,q⟩:=h;refine⟨_,(oT (vt (qd n4 (f2 1) (qg zN (by rfl) B.len_ (by decide +kernel) (d5 (f2 0) fj)) (dZ _)) (qa (nW (l9 zL (f2 0) (f2 1) (λ_ _=>rfl)))) vr) (qa (nW fw))),?_⟩;refine⟨_,rfl,_,rfl,a,_,rfl,.inl ga,_,_,rfl,rfl,_,rfl,?_⟩;refine hy (λc=>?_) (λc=>?_)
 ·rw[Sv]at c;have ah:k.toNat<ns.length:=by lia
  have kx:k=((k.toNat:Nat):Int):=by lia
  have z:eu (ns.map V.int) ((k.toNat:Nat):Int)=some (.int ns[k.toNat]):=Bk (by rw[SW,SU ah]<;>rfl);rw[<-kx]at z;exact⟨_,rfl,_,rfl,a,_,_,_,rfl,rfl,ga,z,q _⟩
 exact q _
theorem Dz :
  cj P w K mg base "_law_bag" ["_law_cell_here"] 1 (cm K 1 Fo):=by
 refine cj.imp (sp:=Fn) ?_ (λvs H Q E h=>Oa h);refine Y.f_law_bag.ok (k:=0) adj (λvs H Q E h=>?_) (λf cdv A outer s H vs Q E ao h=>?_)
 ·obtain⟨c,rfl,q⟩:=h;rfl
 obtain⟨c,rfl,q⟩:=h;refine⟨_,(oT (vt (qd vE (f2 0) (f' zB fw fw) (dZ _)) (qa (nW (vH (d5 (f' n3 (f2 0) (f' ti (f' zB fw fw) (f' zB fw fw))) (d5 (f' n3 (f2 0) fw) fj))))) vr) (qa (nW (vH (d5 fw (d5 (f' n3 (f' vD (f' ti (f' n3 (f2 0) fw) fw) fw) fw) fj)))))),?_⟩;walk_at"rd";refine hy (λg=>?_) (λg=>?_)
 ·walk_at"rd";refine(λp ag=>q p _ _ ag (Ug _ (by decide +kernel)) (Ug _ (by decide)) (Um _ (by decide)))
 have dW:=Ug c (show(2147483647:Int)≠0 by decide);have a7:=Um c (show(0:Int)<2147483647 by decide);walk_at"rd";refine(λp ag=>q p _ _ ag (by decide) (Ug _ (by decide)) (Um _ (by decide)))
theorem iq :
  cj P w K mg base "_law_draw" ["_law_bag_here","_law_many"] 1 (cm K 2 (Fq 400)):=by
 refine cj.imp (sp:=Fp 400) ?_ (λvs H Q E h=>Ob h);refine Y.f_law_draw.ok (k:=0) JE (λvs H Q E h=>?_) (λf cdv A outer s H vs Q E ao h=>?_)
 ·obtain⟨b,m,rfl,⟨x,y,ae,fe,e1,dy⟩,dW,a7,q⟩:=h;rfl
 obtain⟨b,m,rfl,⟨x,y,ae,fe,e1,dy⟩,dW,a7,q⟩:=h;refine⟨_,(oT (vt (qd vE (l9 qn (f2 0) fw (λ_ _=>rfl)) (f2 1) (dZ _)) (oT (rI (i:=2) JE.nd rfl (SI rfl) (f' n3 (l9 qn (f2 0) fw (λ_ _=>rfl)) (f2 1))) (oT (rG (f' vS (l9 qn (f2 0) fw (λ_ _=>rfl)) (f2 1)) (zs (f2 0) fw zM)) (qa (nW (f2 2))))) vr) (oT (rG fw (zs (f2 0) fw zM)) (oT (rG (f' n3 (f' vD (f' ti (l9 qn (f2 0) fw (λ_ _=>rfl)) fw) fw) fw) (zs (f2 0) fw zM)) (qa (nW (f' n3 (f' vS (f' n3 (f' ti (l9 qn (f2 0) fw (λ_ _=>rfl)) (f' vD (f' vS (l9 qn (f2 0) fw (λ_ _=>rfl)) fw) fw)) fw) fw) (f2 1))))))),?_⟩;walk_at"rd";refine hy (λg=>?_) (λg=>?_)
 ·walk_at"rd";refine⟨b,_,_,_,rfl,rfl,ae,rfl,?_⟩;refine⟨_,rfl,?_⟩;refine q _ _ (m6.upd b H _) ⟨_,_,d9,?_,e1,dy⟩ (Ug _ (by lia)) (Um _ dW);exact Int.fdiv_nonneg fe (Tg dW)
 walk_at"rd";refine⟨b,_,_,_,rfl,rfl,ae,rfl,?_⟩;have rv:(upd H b (.lst ([V.int x,V.int y].set (Vy 0) (V.int 0)))) b=some (.lst [.int 0,.int y]):=d9;have ai:=m6.upd b H (.lst ([V.int x,V.int y].set (Vy 0) (V.int 0)));generalize upd H b (.lst ([V.int x,V.int y].set (Vy 0) (V.int 0)))=au at rv ai⊢;have a5:=Ug (y*48271+4099) (show(2147483647:Int)≠0 by decide);have hR:=Um (y*48271+4099) (show(0:Int)<2147483647 by decide);walk_at"rd";refine⟨b,_,_,_,rfl,rfl,rv,rfl,?_⟩;generalize(y*48271+4099)%2147483647=z at a5 hR⊢;have oO:(upd au b (.lst ([V.int 0,V.int y].set (Vy 1) (V.int z)))) b=some (.lst [.int 0,.int z]):=d9;have dS:=Int.ediv_nonneg a5 (show(0:Int)<=65536 by decide);have ci:z/65536<=z:=Int.ediv_le_self _ a5;have kx:Int.fdiv z 65536=z/65536:=Int.fdiv_eq_ediv_of_nonneg z (by decide);have AC:SC (Int.fdiv z 65536+7)<=64:=by rw[kx];exact zY (by lia) (by lia)
 walk_at"rd";refine q _ _ (ai.trans (m6.upd b au _)) ⟨_,_,oO,by decide,a5,hR⟩ (Ug _ (by lia)) (Um _ dW)
theorem p5 :
  cj P w K mg base "_law_measure" ["_law_one","_law_other"] 2 (cm K 2 adk):=by
 refine dq Y.f_law_measure sS rfl (λ_ _ _ _ _ _ _ ao=>⟨_,(aZ (cL 0 sS.nd (rY (af 0) (by rfl) B.abs_)) (aZ (cL 1 sS.nd (rY (af 1) (by rfl) B.abs_)) (aZ (Ae PassesOwn.never (hE (f:=λi j=>decide (j<i)) oX (af 1) bq (dZ _)) (aZ (cL 2 sS.nd (v1 (af 0) (af 1))) (aZ (cL 0 sS.nd (af 1)) (bE (cL 1 sS.nd (af 2)))))) (bE (cD (af 0)))))),?_⟩);rintro as k ap ⟨a,b,rfl,ah⟩;refine c9 rfl ?_;walk_at"wd";refine⟨λm ρ=>∃(x y:Int)(v:aK),ρ=[.val (.int x),.val (.int y),v]/\0<=x/\0<=y/\Ss x y=Ss a b/\m=y.toNat,⟨_,_,_,_,rfl,?_,?_,EO a b,rfl⟩,?_⟩
 ·split<;>lia
 ·split<;>lia
 rintro m ρ ⟨x,y,v,rfl,fe,e1,aF,rfl⟩;walk_at"wd";refine hy (λg=>?_) (λg=>?_)
 ·walk_at"wd";have dW:=Ug x (show y≠0 by lia);have a7:=Um x g;exact⟨_,by lia,_,_,_,rfl,e1,dW,by rw[EN fe g];exact aF,rfl⟩
 have e:y=0:=by lia
 subst e;refine⟨_,rfl,?_⟩;rw[<-gcd_zero_left fe,aF];exact ah
theorem x7 :
  cj P w K mg base "_law_low" ["_law_top","_law_bottom"] 3 (cm K 2 adl):=by
 refine dq Y.f_law_low Dn rfl (λ_ _ _ _ _ _ _ ao=>⟨_,(aZ (cL 2 Dn.nd (bc (p5 B Y) ao (aB (af 0) (aB (af 1) a9)))) (aZ (fM (hE (f:=λi j=>decide (i<j)) n4 (af 1) bq (dZ _)) (bE (cL 2 Dn.nd (nc (af 2)))) f5) (bE (cD (dj (aV (fo (af 0) (af 2)) (aV (fo (af 1) (af 2)) bP))))))),?_⟩);rintro as k ap ⟨t,b,rfl,ae,u9,ah⟩;refine c9 rfl ?_;have gp:=qo (t:=t) (b:=b) (by lia);have iL:=oh (a:=t) (b:=b) (by lia) u9;have e:tV t b=((Ss t b:Nat):Int):=by unfold tV;rw[Tl (by lia)]
 have ah:k (.val (.tup [.int (t.fdiv ((Ss t b:Nat):Int)),.int (b.fdiv ((Ss t b:Nat):Int))])):=by
  have h:=ah;unfold dR dF at h;rwa[e]at h
 walk_at"w";refine⟨_,_,rfl,?_⟩;walk_at"wd";refine hy (λg=>absurd g (by lia)) (λ_=>?_);walk_at"w";exact ah
theorem x8 :
  cj P w K mg base "_law_spot" ["_law_x","_law_y","_law_bottom"] 3 (cm K 3 adm):=by
 refine dq Y.f_law_spot JF rfl (λ_ _ _ _ _ _ _ ao=>⟨_,(aZ (cL 3 JF.nd (bc (p5 B Y) ao (aB (bc (p5 B Y) ao (aB (af 0) (aB (af 1) a9))) (aB (af 2) a9)))) (bE (cD (dj (aV (fo (af 0) (af 3)) (aV (fo (af 1) (af 3)) (aV (fo (af 2) (af 3)) bP))))))),?_⟩);rintro as k ap ⟨x,y,n,rfl,aO,nF,ah⟩;refine c9 rfl ?_;walk_at"w";refine⟨_,_,rfl,?_⟩;walk_at"w";refine⟨_,_,rfl,?_⟩;have cd:n≠0:=by lia
 have gp:=FI (a:=x) (b:=y) cd;have iL:=FJ (a:=x) (b:=y) cd nF;have e:kX x y n=g3 x y n:=by unfold kX;rw[Tl (by lia)]
 have pj:((Ss ((Ss x y:Nat):Int) n:Nat):Int)=g3 x y n:=O9 x y n
 have ah:k (.val (.tup [.int (x.fdiv (g3 x y n)),.int (y.fdiv (g3 x y n)),.int (n.fdiv (g3 x y n))])):=by
  have h:=ah;unfold aQ cy at h;rwa[e]at h
 rw[pj];generalize g3 x y n=g at gp iL ah⊢;walk_at"w";exact ah
theorem DA :
  cj P w K mg base "_law_whole" ["_law_found"] 2 (cm K 1 ado):=by
 refine dq Y.f_law_whole adn rfl (λ_ _ _ _ _ _ _ ao=>⟨_,(bE (cD (rV (n' (T:="int") (af 0) (by rfl) B.isinstance_ (nV (v:=.ty "int") (u:=.type "int") (by rfl) B.int_ (by decide +kernel) rfl) rfl rfl rfl) (tx (Nh (n' (T:="bool") (af 0) (by rfl) B.isinstance_ (nV (v:=.ty "bool") (u:=.type "bool") (by rfl) B.bool_ (by decide +kernel) rfl) rfl rfl rfl)))))),?_⟩);rintro as k ap ⟨i,rfl,ah⟩;refine c9 rfl ?_;refine⟨_,rfl,_,_,rfl,λ_=>rfl,_,rfl,EM ?_⟩;exact⟨_,rfl,_,_,rfl,λ_=>rfl,_,rfl,ah⟩
theorem aev :
  cj P w K mg base "_law_line" ["_law_p","_law_q"] 3 (cm K 2 adp):=by
 refine dq Y.f_law_line sT rfl (λ_ _ _ _ _ _ _ ao=>⟨_,(aZ (cL 2 sT.nd (gL (cx (ei 0) (ei 1)) (cx (ei 0) (ei 1)))) (aZ (cL 3 sT.nd (gL (cx (ei 0) (ei 1)) (cx (ei 0) (ei 1)))) (aZ (cL 4 sT.nd (gL (cx (ei 0) (ei 1)) (cx (ei 0) (ei 1)))) (aZ (cL 5 sT.nd (bc (p5 B Y) ao (aB (bc (p5 B Y) ao (aB (af 2) (aB (af 3) a9))) (aB (af 4) a9)))) (aZ (fM (nf (w_or (hE (f:=λi j=>decide (i<j)) n4 (af 2) bq (dZ _)) (o9 (nf (w_and (hE (f:=λi j=>decide (i=j)) n7 (af 2) bq (dZ _)) (E4 (hE (f:=λi j=>decide (i<j)) n4 (af 3) bq (dZ _)))))))) (bE (cL 5 sT.nd (nc (af 5)))) f5) (bE (cD (dj (aV (fo (af 2) (af 5)) (aV (fo (af 3) (af 5)) (aV (fo (af 4) (af 5)) bP))))))))))),?_⟩);rintro as k ap ⟨p,q,rfl,w,bp,hZ,ah⟩;refine c9 (r:=[.val (aQ p),.val (aQ q),.no,.no,.no,.no]) rfl ?_;have h1:=bp.a;have aa:=bp.b;have aH:=bp.c;have a6:=hZ.a;have cH:=hZ.b;have ey:=hZ.c;have b1:SC (crs p q).1<=8500:=by show SC (p.2.1*q.2.2-p.2.2*q.2.1)<=_;walk_at"bits"
 have b2:SC (crs p q).2.1<=8500:=by show SC (p.2.2*q.1-p.1*q.2.2)<=_;walk_at"bits"
 have b3:SC (crs p q).2.2<=8500:=by show SC (p.1*q.2.1-p.2.1*q.1)<=_;walk_at"bits"
 walk_at"w";refine⟨(crs p q).1,(crs p q).2.1,rfl,?_⟩;walk_at"wd";refine⟨((Ss (crs p q).1 (crs p q).2.1:Nat):Int),(crs p q).2.2,rfl,?_⟩;dsimp only[lE];refine c9 (r:=[.val (aQ p),.val (aQ q),.val (.int (crs p q).1),.val (.int (crs p q).2.1),.val (.int (crs p q).2.2),.val (.int (k3 (crs p q)))]) rfl ?_;unfold eU at ah;generalize crs p q=l at w b1 b2 b3 ah;refine h9 (λρ=>ρ=[.val (aQ p),.val (aQ q),.val (.int l.1),.val (.int l.2.1),.val (.int l.2.2),.val (.int (hk l))]) ?_ (λN aJ=>?_);rotate_left
 ·have yes:mB l->N [.val (aQ p),.val (aQ q),.val (.int l.1),.val (.int l.2.1),.val (.int l.2.2),.val (.int (-k3 l))]:=λd=>aJ _ (by unfold hk;rw[Tk d]);have no:¬mB l->N [.val (aQ p),.val (aQ q),.val (.int l.1),.val (.int l.2.1),.val (.int l.2.2),.val (.int (k3 l))]:=λd=>aJ _ (by unfold hk;rw[Tl d]);refine⟨_,rfl,_,_,rfl,rfl,_,rfl,hy (λg=>?_) (λg=>?_)⟩
  ·exact⟨_,rfl,_,rfl,yes (.inl g)⟩
  refine⟨_,rfl,_,_,rfl,rfl,_,rfl,hy (λaI=>?_) (λaI=>no λd=>d.elim g λz=>aI z.1)⟩;refine⟨_,rfl,_,_,rfl,rfl,_,rfl,hy (λg3=>?_) (λg3=>no λd=>d.elim g λz=>g3 z.2)⟩;exact⟨_,rfl,_,rfl,yes (.inr ⟨aI,g3⟩)⟩
 rintro ρ rfl;have ag5:=xo w;have bO:=RJ b1 b2 w;obtain⟨b7,cc,d3⟩:=uv l;have aT:=Wn b7;have bd:=Wn cc;have bA:=Wn d3;have ah:k (.val (.tup [.int (l.1.fdiv (hk l)),.int (l.2.1.fdiv (hk l)),.int (l.2.2.fdiv (hk l))])):=by rw[aT,bd,bA];exact ah
 walk_at"w";exact ah
theorem JN :
  cj P w K mg base "_law_count" ["_law_tally","_law_rings","_law_number"] 4 (xk K 3 adq):=by
 refine Rt Y.f_law_count u7 rfl (λ_ _ _ _ _ _ _ ao=>⟨_,(bE (kR PassesOwn.never rfl (gN (af 1)) (cf 3 u7.nd) (bE (kR PassesOwn.never rfl (v7 (kP (af 3) (by rfl) B.len_) (by rfl) B.range_) (cf 4 u7.nd) (aZ (Fa (i:=5) (j:=6) rfl u7.nd rfl rfl (by decide) rfl rfl (aV (gD (af 3) (gL (af 4) bq) (λ_ _=>rfl)) (aV (gD (af 3) (af 4) (λ_ _=>rfl)) bP)) rfl) (aZ (cL 7 u7.nd (bc (aev B Y) ao (aB (af 5) (aB (af 6) a9)))) (aZ (Hi (b:=true) 0 (pF ao) (dj (aV (af 7) (aV (af 5) bP))) (f3 (Hh (b:=true) 0 (pF ao) (dj (aV (af 7) (aV (af 5) bP))) bq) (af 2))) (bE (Hi (b:=true) 0 (pF ao) (dj (aV (af 7) (aV (af 6) bP))) (gL (Hh (b:=true) 0 (pF ao) (dj (aV (af 7) (aV (af 6) bP))) bq) (af 2))))))))))),?_⟩);rintro b t ks ds xs k ap ⟨vs,rs,m,rfl,rfl,gO,aL,ao,aA,ap,ah⟩;refine c9 rfl ?_;subst gO;have gQ:20000<=TT:=by decide
 refine⟨_,rfl,_,rfl,?_⟩;refine qI (f:=fV) (rs:=rs) (done:=[]) (λpre ρ=>∃(ks1:List ZZ)(lS:ZI)(af ef mQ ir e6:aK),ρ=[.own (.d true t ks1 (lS.map D.int)),.val (.lst (rs.map fV)),.val (.int m),af,ef,mQ,ir,e6]/\lS.length=ks1.length/\ks1.length<=ks.length+2*(pre.map S7).sum/\∀key,(bo ks1 lS key).getD 0=(bo ks vs key).getD 0+m*pJ key pre) ⟨ks,vs,_,_,_,_,_,rfl,aL,by simp,λkey=>by simp[pJ]⟩ ?_ (λρ h=>?_);rotate_left
 ·obtain⟨ks1,lS,af,ef,mQ,ir,e6,rfl,h1,aa,aH⟩:=h;rw[Te]at aa aH;exact⟨ks1,_,rfl,ah ks1 lS h1 aa aH⟩
 rintro pre ps rest ρ aD ⟨ks1,lS,af,ef,mQ,ir,e6,rfl,h1,aa,aH⟩ N aJ;rw[Te]at aD;have mem:ps∈rs:=by rw[aD];simp
 obtain⟨ca,cn,fm⟩:=ao ps mem;have Ix:(rs.map S7).sum=(pre.map S7).sum+(ps.length+(rest.map S7).sum):=by rw[aD,Sz,Ue,SH,Tb]
 have len:(ps.map aQ).length=ps.length:=Sv ..;refine⟨_,rfl,_,rfl,_,rfl,by lia,by rw[len];lia,?_⟩;rw[len,show((ps.length:Nat):Int).toNat=ps.length by lia];refine AN (λi ρ=>∃(fP:List ZZ)(g5:ZI)(ef mQ ir e6:aK),ρ=[.own (.d true t fP (g5.map D.int)),.val (.lst (rs.map fV)),.val (.int m),.val (fV ps),ef,mQ,ir,e6]/\g5.length=fP.length/\fP.length<=ks1.length+2*i/\∀key,(bo fP g5 key).getD 0=(bo ks1 lS key).getD 0+m*pI key ((dk ps).take i)) ⟨ks1,lS,_,_,_,_,rfl,h1,by lia,λkey=>by simp[pI]⟩ ?_ (λρ h=>?_);rotate_left
 ·obtain⟨fP,g5,ef,mQ,ir,e6,rfl,cS,eN,pr⟩:=h;have x9:=QD ps;rw[x9]at pr;refine aJ _ ⟨fP,g5,_,_,_,_,_,rfl,cS,?_,λkey=>?_⟩
  ·rw[Sz,Ue];simp only[SH,Ts,Tb,Vw];lia
  rw[pr key,aH key];unfold pJ;rw[Sz,Ue];simp only[SH,Ts,Tb,Vw];grind
 clear aJ;rintro i ρ hi ⟨fP,g5,ef,mQ,ir,e6,rfl,cS,eN,pr⟩ N aJ;obtain⟨p,q,mp,BS,gp,pP,hf,q3⟩:=RH hi;refine⟨_,rfl,_,rfl,_,_,rfl,rfl,_,_,_,.inr rfl,rfl,gp,_,rfl,_,rfl,_,_,_,.inr rfl,rfl,pP,aQ p,aQ q,rfl,?_⟩;refine⟨_,rfl,_,rfl,rfl,p,q,rfl,cn _ hf,fm p mp,fm q BS,?_⟩;dsimp only[lE];obtain⟨bQ,bS⟩:=HA (k:=ez p q p) (x:=(bo fP g5 (ez p q p)).getD 0+m) cS;refine h9 (λρ=>ρ=[.own (.d true t (eO fP (ez p q p)) ((gP fP g5 (ez p q p) ((bo fP g5 (ez p q p)).getD 0+m)).map D.int)),.val (.lst (rs.map fV)),.val (.int m),.val (fV ps),.val (.int i),.val (aQ p),.val (aQ q),.val (aQ (eU p q))]) ?_ (λDB rx=>?_);rotate_left
 ·refine⟨t,fP,_,rfl,_,rfl,_,rfl,eW,ez p q p,rfl,(λz=>nomatch z),_,rfl,(bo fP g5 (ez p q p)).getD 0,m,HD _ _ _,rfl,?_⟩;refine⟨t,fP,_,rfl,_,rfl,_,rfl,eW,ez p q p,rfl,(λz=>nomatch z),by lia,?_⟩;exact rx _ (by rw[HB];rfl)
 rintro ρ rfl;generalize aew:eO fP (ez p q p)=mR at bQ bS;generalize aex:gP fP g5 (ez p q p) ((bo fP g5 (ez p q p)).getD 0+m)=p6 at bQ
 have g3:∀key,(bo mR p6 key).getD 0=(bo fP g5 key).getD 0+(if key=ez p q p then m else 0):=λkey=>by
  rw[<-aew,<-aex,Hz _ _ key cS];by_cases e:key=ez p q p
  ·rw[Tk e,Tk e,e];rfl
  rw[Tl e,Tl e];lia
 obtain⟨e2,JO⟩:=HA (k:=ez p q q) (x:=(bo mR p6 (ez p q q)).getD 0-m) bQ;refine⟨t,mR,_,rfl,_,rfl,_,rfl,eW,ez p q q,rfl,(λz=>nomatch z),_,rfl,(bo mR p6 (ez p q q)).getD 0,m,HD _ _ _,rfl,?_⟩;refine⟨t,mR,_,rfl,_,rfl,_,rfl,eW,ez p q q,rfl,(λz=>nomatch z),by lia,?_⟩;refine aJ _ ⟨eO mR (ez p q q),gP mR p6 (ez p q q) ((bo mR p6 (ez p q q)).getD 0-m),.val (.int i),.val (aQ p),.val (aQ q),.val (aQ (eU p q)),by rw[HB];rfl,e2,by lia,λkey=>?_⟩;rw[Hz _ _ key bQ,q3]
 have b0:pI key ((dk ps).take i++[(p,q)])=pI key ((dk ps).take i)+uy key (p,q):=by
  unfold pI;rw[Sz,Ue];simp
 have fE:((if key=ez p q q then some ((bo mR p6 (ez p q q)).getD 0-m)else bo mR p6 key).getD 0:Int)=(bo mR p6 key).getD 0-(if key=ez p q q then m else 0):=by
  by_cases e:key=ez p q q
  ·rw[Tk e,Tk e,e];rfl
  rw[Tl e,Tl e];lia
 rw[fE,g3 key,pr key,b0];unfold uy;dsimp only;split<;>split<;>grind
theorem JP :
  cj P w K mg base "_law_part" ["_law_rings","_law_others"] 5 (cm K 2 ads):=by
 refine dq Y.f_law_part JG rfl (λ_ _ _ _ _ _ _ ao=>⟨_,(aZ (Rn (b:=true) (i:=2) JG.nd rfl (Uh rfl)) (aZ (Hj 2 (JN B Y) ao (by rfl) (aV (af 0) (aV bq bP))) (aZ (Hj 2 (JN B Y) ao (by rfl) (aV (af 1) (aV (nc bq) bP))) (Rq 2 (bE (cD (wt (dD (kW (ts:=["_law_key"]) (fr:=["_law_tally"]) (js:=[2]) (Rr (af 2)) (λ_ _ _ _=>(fq (i:=0) (show SY (["_law_key","_law_tally"]:ZT) by decide +kernel) rfl (SI rfl))) (λ_ _ _ _=>iJ) (λ_ _ _ _=>(lC (f:=λi j=>decide (i=j)) n7 (Ro true (pF ao) (af 1) (af 0) (λ_ _=>rfl)) bq (dZ _))) ⟨rfl,by decide +kernel,rfl,by decide +kernel,hV (Tz.mpr ⟨rfl,(Tc _)⟩),ia rfl,by walk_at"ffr",rfl⟩)) rfl (by rfl) B.all_))))))),?_⟩);rintro as k ap ⟨rs,bz,rfl,ao,ay,ap,bal,ah⟩;refine c9 rfl ?_;have gQ:20000<=TT:=by decide
 refine⟨true,none,[],[],rfl,_,rfl,rfl,[],rs,1,rfl,rfl,rfl,rfl,ao,.inl rfl,by simp;lia,λks1 lS bQ bS e2=>?_⟩;refine⟨true,none,ks1,_,rfl,_,rfl,1,rfl,rfl,lS,bz,-1,rfl,rfl,rfl,bQ,ay,.inr rfl,?_,λfP g5 a7 a5 hR=>?_⟩
 ·simp at bS;lia
 have z:∀key,(bo fP g5 key).getD 0=0:=λkey=>by
  rw[hR key,e2 key,RI bal key];simp[bo];lia
 simp at bS;refine⟨true,none,fP,_,rfl,_,rfl,true,fP,_,rfl,by rw[Sv];lia,?_⟩;refine mn (f:=gr true) (h:=λ_=>D.bl true) (λkey aA k ah=>?_) ?_
 ·have some:bo fP (g5.map D.int) key=some (.int 0):=by
   have e:=z key;rw[lk_map];cases q:bo fP g5 key with
   |none=>exact absurd aA ((pE a7).mp q)
   |some v=>rw[q]at e;rw[show v=0 from e];rfl
  exact⟨_,rfl,_,rfl,fP,_,key,_,rfl,rfl,(λz=>nomatch z),some,_,_,rfl,rfl,ah⟩
 refine⟨_,rfl,λd hd=>?_,ah⟩;obtain⟨_,_,e⟩:=SJ.mp hd;exact e.symm
theorem JQ :
  cj P w K mg base "_law_left" ["_law_p","_law_q","_law_r"] 2 (cm K 3 adt):=by
 refine dq Y.f_law_left Do rfl (λ_ _ _ _ _ _ _ ao=>⟨_,(aZ (cL 3 Do.nd (cx (ei 0) (gL (cx (ei 1) (ei 2)) (cx (ei 1) (ei 2))))) (aZ (Qz (i:=3) Do.nd rfl (SI rfl) (cx (ei 0) (gL (cx (ei 1) (ei 2)) (cx (ei 1) (ei 2))))) (bE (cD (lC (f:=λi j=>decide (j<i)) oX (f3 (af 3) (cx (ei 0) (gL (cx (ei 1) (ei 2)) (cx (ei 1) (ei 2))))) bq (dZ _)))))),?_⟩);rintro as k ap ⟨p,q,r,rfl,bp,hZ,nL,ah⟩;refine c9 rfl ?_;have h1:=bp.a;have aa:=bp.b;have aH:=bp.c;have a6:=hZ.a;have cH:=hZ.b;have ey:=hZ.c;have nj:=nL.a;have qV:=nL.b;have qW:=nL.c;have e:be p q r=p.1*(q.2.1*r.2.2-q.2.2*r.2.1)+p.2.1*(q.2.2*r.1-q.1*r.2.2)+p.2.2*(q.1*r.2.1-q.2.1*r.1):=by unfold be crs;grind
 rw[e]at ah;walk_at"w";exact ah
theorem JR :
  cj P w K mg base "_law_is_spot" ["_law_p"] 3 (cm K 1 adv):=by
 refine dq Y.f_law_is_spot adu rfl (λ_ _ _ _ _ _ _ ao=>⟨_,(aZ (fM (nf (w_or (hS (fC (n' (T:="tuple") (af 0) (by rfl) B.isinstance_ (nV (v:=.ty "tuple") (u:=.type "tuple") (by rfl) B.tuple_ (by decide +kernel) rfl) rfl rfl rfl))) (w_or (hE (f:=λi j => !decide (i=j)) tj (kP (af 0) (by rfl) B.len_) bq (dZ _)) (o9 (hS (fC (wt (dD (kW (ts:=["_law_number"]) (fr:=[]) (js:=[]) (Fb (af 0)) (λ_ _ _ _=>(fq (i:=0) (show SY (["_law_number"]:ZT) by decide +kernel) rfl (SI rfl))) (λ_ _ _ _=>iJ) (λ_ _ _ _=>(bc (DA B Y) ao (aB (af 0) a9))) ⟨rfl,by decide +kernel,rfl,by decide +kernel,hV (Tc _),ia rfl,by walk_at"ffr",rfl⟩)) rfl (by rfl) B.all_))))))) (bE (cD iX)) f5) (bE (cD (rV (lC (f:=λi j=>decide (j<i)) oX (ei 0) bq (dZ _)) (tx (lC (f:=λi j=>decide (i=j)) n7 (bc (p5 B Y) ao (aB (bc (p5 B Y) ao (aB (ei 0) (aB (ei 0) a9))) (aB (ei 0) a9))) bq (dZ _))))))),?_⟩);rintro as k ap ⟨p,rfl,ag,ah⟩;refine c9 rfl ?_;have pj:((Ss ((Ss p.1 p.2.1:Nat):Int) p.2.2:Nat):Int)=1:=by rw[ag.2];rfl
 have cd:=ag.1;refine r0 (λN aJ=>?_) ?_
 ·refine⟨_,rfl,_,_,rfl,λ_=>rfl,_,rfl,gB ?_⟩;refine⟨_,rfl,_,rfl,_,_,rfl,rfl,_,rfl,gB ?_⟩;refine⟨_,rfl,_,rfl,hN,?_⟩;refine mn (f:=D.int) (h:=λ_=>D.bl true) (rs:=[p.1,p.2.1,p.2.2]) (λi hi k ah=>⟨_,rfl,rfl,i,rfl,ah⟩) ?_;exact⟨_,rfl,λd hd=>by simp at hd;exact hd,_,rfl,gB aJ⟩
 walk_at"w";rw[Tk (Xw cd)];walk_at"w";refine⟨_,_,rfl,?_⟩;walk_at"w";refine⟨_,_,rfl,?_⟩;rw[pj];exact⟨_,_,rfl,rfl,ah⟩
theorem aey :
  cj P w K mg base "_law_is_bulging" ["_law_ring"] 4 (cm K 1 adw):=by
 refine dq Y.f_law_is_bulging Dp rfl (λ_ _ _ _ _ _ _ ao=>⟨_,(aZ (fM (nf (w_or (hS (fC (n' (T:="list") (af 0) (by rfl) B.isinstance_ (nV (v:=.ty "list") (u:=.type "list") (by rfl) B.list_ (by decide +kernel) rfl) rfl rfl rfl))) (w_or (hE (f:=λi j=>decide (i<j)) n4 (kP (af 0) (by rfl) B.len_) bq (dZ _)) (o9 (hS (fC (wt (dD (kW (ts:=["_law_p"]) (fr:=[]) (js:=[]) (gN (af 0)) (λ_ _ _ _=>(fq (i:=0) (show SY (["_law_p"]:ZT) by decide +kernel) rfl (SI rfl))) (λ_ _ _ _=>iJ) (λ_ _ _ _=>(bc (JR B Y) ao (aB (af 0) a9))) ⟨rfl,by decide +kernel,rfl,by decide +kernel,hV (Tc _),ia rfl,by walk_at"ffr",rfl⟩)) rfl (by rfl) B.all_))))))) (bE (cD iX)) f5) (aZ (tU 1 (tT (i:=1) Dp.nd rfl rfl (ts:=["_law_k"]) (fr:=["_law_ring"]) (js:=[0]) (v7 (kP (af 0) (by rfl) B.len_) (by rfl) B.range_) (λ_ _ _ _=>(fq (i:=0) (show SY (["_law_k","_law_ring"]:ZT) by decide +kernel) rfl (SI rfl))) (λ_ _ _ _=>iJ) (λ_ _ _ _=>(bc (JQ B Y) ao (aB (gD (af 1) (gL (af 0) bq) (λ_ _=>rfl)) (aB (gD (af 1) (gL (af 0) bq) (λ_ _=>rfl)) (aB (gD (af 1) (af 0) (λ_ _=>rfl)) a9))))) ⟨rfl,by decide +kernel,rfl,by decide +kernel,hV (Tz.mpr ⟨rfl,(Tc _)⟩),ia rfl,by walk_at"ffr",rfl⟩)) (aZ (tU 2 (tT (i:=2) Dp.nd rfl rfl (ts:=["_law_k"]) (fr:=["_law_ring"]) (js:=[0]) (QJ bq (gL (kP (af 0) (by rfl) B.len_) bq) (by rfl) B.range_) (λ_ _ _ _=>(fq (i:=0) (show SY (["_law_k","_law_ring"]:ZT) by decide +kernel) rfl (SI rfl))) (λ_ _ _ _=>iJ) (λ_ _ _ _=>(bc (JQ B Y) ao (aB (ei 1) (aB (gD (af 1) (af 0) (λ_ _=>rfl)) (aB (gD (af 1) (f3 (af 0) bq) (λ_ _=>rfl)) a9))))) ⟨rfl,by decide +kernel,rfl,by decide +kernel,hV (Tz.mpr ⟨rfl,(Tc _)⟩),ia rfl,by walk_at"ffr",rfl⟩)) (bE (cD (rV (Fi (ao.units) iX (af 1) (by rfl)) (tx (Fi (ao.units) iX (af 2) (by rfl))))))))),?_⟩);rintro as k ap ⟨ps,rfl,ap,cv,ag,ah⟩;refine c9 rfl ?_;have gQ:75<=TT:=by decide
 have e2:=cv.1;have len:(ps.map aQ).length=ps.length:=Sv ..;have gp:∀n,n<ps.length->cT 2950 (bx ps n):=λn h=>ag _ (om h);refine r0 (λN aJ=>?_) ?_
 ·refine⟨_,rfl,_,_,rfl,λ_=>rfl,_,rfl,gB ?_⟩;refine⟨_,rfl,_,rfl,_,_,rfl,rfl,_,rfl,hy (λg=>by rw[len]at g;lia) (λ_=>?_)⟩;refine⟨_,rfl,_,rfl,by rw[len];lia,?_⟩;refine mn (f:=aQ) (h:=λ_=>D.bl true) (λp aA k ah=>⟨_,rfl,rfl,p,rfl,(ag p aA).pt,ah⟩) ?_;exact⟨_,rfl,λd hd=>by obtain⟨_,_,e⟩:=SJ.mp hd;exact e.symm,_,rfl,gB aJ⟩
 refine h9 (λρ=>ρ=[.val (.lst (ps.map aQ)),.val (.lst ((S4 ps.length).map λ_=>D.bl true)),.no]) ?_ (λN aJ=>?_);rotate_left
 ·refine⟨_,rfl,_,rfl,_,rfl,by lia,by rw[len];lia,by rw[Sv,U1];lia,?_⟩;rw[len,show((ps.length:Nat):Int).toNat=ps.length by lia];refine mn (f:=λt:Nat=>D.int t) (h:=λ_=>D.bl true) (λi hi k ah=>?_) ⟨_,rfl,aJ _ rfl⟩;have hi:=TB.mp hi;refine⟨_,rfl,_,rfl,_,_,rfl,rfl,_,_,_,.inr rfl,rfl,RK hi (by lia),_,rfl,_,rfl,_,_,rfl,rfl,_,_,_,.inr rfl,rfl,F' hi,_,rfl,_,rfl,_,_,_,.inr rfl,rfl,nq hi,rfl,_,_,_,rfl,(gp _ (Uv _ (by lia))).bp,(gp _ (Uv _ (by lia))).bp,(gp _ hi).bp,?_⟩;rw[Xw (cv.turn hi)];exact ah
 rintro ρ rfl;refine h9 (λρ=>ρ=[.val (.lst (ps.map aQ)),.val (.lst ((S4 ps.length).map λ_=>D.bl true)),.val (.lst ((S4 (ps.length-2)).map λ_=>D.bl true))]) ?_ (λN aJ=>?_);rotate_left
 ·walk_at"w"
  have JS:∀t:Nat,t+1<ps.length->eu (ps.map aQ) (1+(t:Int))=some (aQ (bx ps (t+1))):=λt h=>by
   rw[show(1+(t:Int))=((t+1:Nat):Int) by lia];exact nq h
  refine⟨⟨by decide,by decide,by rw[len];lia,by rw[len];lia⟩,by rw[Sv,U1,len];lia,?_⟩;rw[len,show((ps.length:Int)-1-1).toNat=ps.length-2 by lia];refine mn (f:=λt:Nat=>D.int (1+t)) (h:=λ_=>D.bl true) (λi hi k ah=>?_) ⟨_,rfl,aJ _ rfl⟩;have hi:=TB.mp hi;refine⟨_,rfl,_,_,_,.inr rfl,rfl,nq (n:=0) (by lia),_,rfl,_,rfl,_,_,_,.inr rfl,rfl,JS i (by lia),_,rfl,_,rfl,_,_,rfl,rfl,_,_,_,.inr rfl,rfl,by rw[show(1+(i:Int)+1)=(1+((i+1:Nat):Int)) by lia];exact JS (i+1) (by lia),rfl,_,_,_,rfl,(gp 0 (by lia)).bp,(gp (i+1) (by lia)).bp,(gp (i+2) (by lia)).bp,?_⟩;rw[Xw (cv.fan (k:=i+1) (by lia) (by lia))];exact ah
 rintro ρ rfl
 have JT:∀n:Nat,¬D.bl false∈(S4 n).map λ_=>D.bl true:=λn h=>by
  obtain⟨_,_,e⟩:=SJ.mp h;cases e
 have hb:∀n:Nat,∀e∈(S4 n).map (λ_=>D.bl true),has .B e=true:=λn e h=>by
  obtain⟨_,_,rfl⟩:=SJ.mp h;rfl
 refine⟨_,rfl,.B,_,.inl rfl,rfl,hb _,by decide,λb ae=>?_⟩
 have fS:b=false:=by
  cases b with
  |false=>rfl
  |true=>exact absurd (ae.mp rfl) (JT _)
 subst fS;refine⟨_,rfl,?_⟩;rw[Tk rfl];refine⟨_,rfl,.B,_,.inl rfl,rfl,hb _,by decide,λb ae=>?_⟩
 have fS:b=false:=by
  cases b with
  |false=>rfl
  |true=>exact absurd (ae.mp rfl) (JT _)
 subst fS;exact ah
theorem JU :
  cj P w K mg base "_law_between" ["_law_p","_law_q","_law_part_here","_law_many"] 4 (cm K 4 adx):=by
 refine dq Y.f_law_between Dq rfl (λ_ _ _ _ _ _ _ ao=>⟨_,(aZ (cL 4 Dq.nd (f3 (cx (cx (ei 0) (ei 1)) (gL (af 3) (af 2))) (cx (cx (ei 1) (ei 0)) (af 2)))) (aZ (cL 5 Dq.nd (f3 (cx (cx (ei 0) (ei 1)) (gL (af 3) (af 2))) (cx (cx (ei 1) (ei 0)) (af 2)))) (bE (cD (bc (x8 B Y) ao (aB (af 4) (aB (af 5) (aB (cx (cx (ei 0) (ei 1)) (af 3)) a9)))))))),?_⟩);rintro as k ap ⟨p,q,t,rfl,ag,ay,dg,cU,ah⟩;refine c9 rfl ?_;have h1:=ag.bp.a;have aa:=ag.bp.b;have aH:=ag.bp.c;have a6:=ay.bp.a;have cH:=ay.bp.b;have ey:=ay.bp.c;have cd:0<p.2.2*q.2.2*3:=SE (SE ag.pt.1 ay.pt.1) (by decide);walk_at"w";exact⟨_,_,_,rfl,cd,by walk_at"bits",ah⟩
theorem aez :
  cj P w K mg base "_law_cut" ["_law_bag_here","_law_ring"] 5 (cm K 2 ady):=by
 refine dq Y.f_law_cut rp rfl (λ_ _ _ _ _ _ _ ao=>⟨_,(aZ (cL 2 rp.nd (bc (iq B Y) ao (gM 0 (aB (kP (af 1) (by rfl) B.len_) a9)))) (aZ (cL 3 rp.nd (bc (iq B Y) ao (gM 0 (aB (gL (kP (af 1) (by rfl) B.len_) bq) a9)))) (aZ (hG (dD (Sa (dD (fD (aV (af 2) (aV (f3 (af 3) (v5 (lC (f:=λi j=>decide (j<=i)) vE (af 3) (af 2) (dZ _)) (by rfl) B.int_)) bP)))) (by rfl) B.sorted_)) (FU (n:=2) rfl (bR (cf 2 rp.nd) (bR (cf 3 rp.nd) eS)))) (aZ (cL 4 rp.nd (bc (JU B Y) ao (aB (gD (af 1) (af 2) (λ_ _=>rfl)) (aB (gD (af 1) (f3 (af 2) bq) (λ_ _=>rfl)) (aB (f3 bq (bc (iq B Y) ao (gM 0 (aB bq a9)))) (aB bq a9)))))) (aZ (cL 5 rp.nd (bc (JU B Y) ao (aB (gD (af 1) (af 3) (λ_ _=>rfl)) (aB (gD (af 1) (v1 (f3 (af 3) bq) (kP (af 1) (by rfl) B.len_)) (λ_ _=>rfl)) (aB (f3 bq (bc (iq B Y) ao (gM 0 (aB bq a9)))) (aB bq a9)))))) (bE (cD (dj (aV (dD (jq (dD (jq (dD (fD (aV (af 4) bP))) (dD (tD (af 1) (qu (f3 (af 2) bq)) (qu (f3 (af 3) bq)))))) (dD (fD (aV (af 5) bP))))) (aV (dD (jq (dD (jq (dD (jq (dD (fD (aV (af 5) bP))) (dD (tD (af 1) (qu (f3 (af 3) bq)) tC)))) (dD (tD (af 1) tC (qu (f3 (af 2) bq)))))) (dD (fD (aV (af 4) bP))))) bP)))))))))),?_⟩);rintro as k ap ⟨ps,m,rfl,cv,ag,aA,ap,ah⟩;refine c9 rfl ?_;have e2:=cv.1;have len:(ps.map aQ).length=ps.length:=Sv ..;have gQ:=vi;have gp:∀n,n<ps.length->cT 2000 (bx ps n):=λn h=>(ag _ (om h)).mono (by lia);walk_at"w";intro a f7 ca;walk_at"w";intro b kt b1;rw[len]at ca b1;walk_at"w";refine .inr ⟨_,rfl,_,_,rfl,rfl,eW,[a,_],rfl,by show 2<64;decide,λns pm xF=>?_⟩;obtain⟨I,J,rfl,k5,x'⟩:=So f7 ca kt b1 pm xF;clear pm xF;refine⟨_,rfl,rfl,_,_,rfl,_,_,rfl,rfl,_,rfl,_,rfl,_,_,_,.inr rfl,rfl,nq (show I<ps.length by lia),_,rfl,_,rfl,_,_,rfl,rfl,_,_,_,.inr rfl,rfl,nq (n:=I+1) (show I+1<ps.length by lia),?_⟩;walk_at"w";intro c fl c1;walk_at"w";refine⟨bx ps I,bx ps (I+1),1+c,rfl,gp _ (by lia),gp _ (by lia),by lia,by lia,?_⟩;have cu:(J+1)%ps.length<ps.length:=Uv _ (by lia)
 have u':eu (ps.map aQ) (((J:Int)+1)%((ps.map aQ).length:Int))=some (aQ (bx ps ((J+1)%ps.length))):=by
  rw[len,show((J:Int)+1)%(ps.length:Int)=(((J+1)%ps.length:Nat):Int) by push_cast;rfl];exact nq cu
 refine⟨_,rfl,_,rfl,_,_,_,.inr rfl,rfl,nq (n:=J) x',_,rfl,_,rfl,_,_,rfl,rfl,_,rfl,_,rfl,_,_,rfl,rfl,by rw[len];lia,_,_,_,.inr rfl,rfl,u',?_⟩;walk_at"w";intro d i6 b7;walk_at"w";refine⟨bx ps J,bx ps ((J+1)%ps.length),1+d,rfl,gp _ (by lia),gp _ cu,by lia,by lia,?_⟩;have ok:=Sk (t:=1+c) (u:=1+d) cv ag k5 x' (by lia) (by lia) (by lia) (by lia);generalize j1 (bx ps I) (bx ps (I+1)) (1+c)=M at ok⊢;generalize j1 (bx ps J) (bx ps ((J+1)%ps.length)) (1+d)=N at ok⊢;have aC:=A6 (ps.map aQ) (some ((I:Int)+1)) (some ((J:Int)+1));have bf:=A6 (ps.map aQ) (some ((J:Int)+1)) none;have cR:=A6 (ps.map aQ) none (some ((I:Int)+1));have ah:=ah _ _ ok;rw[Sq k5 x',Sr k5 x']at ah;walk_at"w";refine⟨by simp only[Sx,SM,TR];lia,?_⟩;walk_at"w";refine⟨by simp only[Sx,SM,TR];lia,?_⟩;walk_at"w";refine⟨by simp only[Sx,SM,TR];lia,?_⟩;walk_at"w";refine⟨by simp only[Sx,SM,TR];lia,?_⟩;walk_at"w";refine⟨by simp only[Sx,SM,TR];lia,?_⟩;walk_at"w";exact ah
theorem JV :
  cj P w K mg base "_law_sheet" ["_law_bag_here","_law_ring","_law_cuts"] 6 (cm K 3 adz):=by
 refine dq Y.f_law_sheet rq rfl (λ_ _ _ _ _ _ _ ao=>⟨_,(aZ (jO (i:=3) rq.nd rfl (SI rfl) (fD (aV (af 1) bP))) (aZ (kR PassesOwn.never rfl (v7 (bc (iq B Y) ao (gM 0 (aB (f3 (af 2) bq) a9))) (by rfl) B.range_) (cf 4 rq.nd) (bE (Se 3 0 (aez B Y) ao (by rfl) (bc (iq B Y) ao (gM 0 (aB (E8 3 (by rfl) B.len_) a9)))))) (aZ (jO (i:=5) rq.nd rfl (SI rfl) (fD bP)) (iF 3 (aZ (kR PassesOwn.never rfl (gN (af 3)) (cf 6 rq.nd) (aZ (cL 7 rq.nd (lC (f:=λi j=>decide (i=j)) n7 (bc (iq B Y) ao (gM 0 (aB bq a9))) bq (dZ _))) (aZ (cL 8 rq.nd (gL (bc (iq B Y) ao (gM 0 (aB bq a9))) bq)) (bE (jQ 5 (dj (aV (af 6) (aV (af 7) (aV (bc (x8 B Y) ao (aB (af 8) (aB (gL (bc (iq B Y) ao (gM 0 (aB bq a9))) bq) (aB (f3 bq (bc (iq B Y) ao (gM 0 (aB bq a9)))) a9)))) bP))))))))) (iF 5 (bE (cD (af 5))))))))),?_⟩);rintro as k ap ⟨ps,rfl,cv,ag,ap,ah⟩;refine c9 rfl ?_;have gQ:=vi;walk_at"w";intro c fl c1;refine⟨_,rfl,by lia,by lia,?_⟩;refine AN (λi ρ=>∃(rs:Z1)(ef:aK),ρ=[.bag,.val (fV ps),.val (.int 2),.own (.l (rs.map fV)),ef,.no,.no,.no,.no]/\q' 30 4 ps i rs) ⟨[ps],_,rfl,aaR cv ag ap⟩ ?_ (λρ h=>?_)
 ·rintro i ρ hi ⟨rs,ef,rfl,ok⟩ N aJ;have xK:=ok.ln;have len:(rs.map fV).length=rs.length:=Sv ..;refine⟨rs.map fV,rfl,rfl,?_⟩;walk_at"w";intro n cd c8;obtain⟨j,rfl⟩:∃j:Nat,n=j:=⟨n.toNat,by lia⟩;have bC:j<rs.length:=by lia
  have ao:rs[j]?=some rs[j]:=SU bC;have aA:rs[j]∈rs:=V5 bC;generalize rs[j]=r at ao aA;have le:=ok.le r aA;refine⟨j,fV r,rfl,by lia,by rw[SW,ao];rfl,?_⟩;refine⟨r,j5 30 i,rfl,ok.cv r aA,ok.gp r aA,SD (CB (c:=2) (by lia)) (by decide),by lia,λbz us co=>?_⟩;refine⟨[fV bz,fV us],rfl,by rw[len];show rs.length+2<=_;lia,aJ _ ⟨rs.eraseIdx j++[bz,us],.val (.int i),?_,ok.step ao co⟩⟩;rw[Sz,Ci];rfl
 obtain⟨rs,ef,rfl,ok⟩:=h;walk_at"w";have xK:=ok.ln;refine qI (f:=fV) (rs:=rs) (done:=[]) (λpre ρ=>∃(sh:ZN)(ef ir e6 eG:aK),ρ=[.bag,.val (fV ps),.val (.int 2),.val (.lst (rs.map fV)),ef,.own (.l (sh.map bH)),ir,e6,eG]/\(sh.map λt=>t.1)=pre/\∀t∈sh,cT 20 t.2.2) ⟨[],_,_,_,_,rfl,rfl,λt aR=>absurd aR (by simp)⟩ ?_ (λρ h=>?_);rotate_left
 ·obtain⟨sh,ef,ir,e6,eG,rfl,e,st⟩:=h;rw[Te]at e;rw[<-e]at ok;obtain⟨h1,aa,aH⟩:=ok.sheet (c:=2) (by lia) (CB (by lia)) st;exact⟨_,rfl,_,rfl,ah sh h1 aa aH⟩
 rintro pre r rest ρ aD ⟨sh,ef,ir,e6,eG,rfl,e,st⟩ N aJ;walk_at"w";intro f dL aT;walk_at"w";intro x fe x1;walk_at"w";intro y e1 dy;walk_at"w";intro z lM aG;walk_at"w";refine⟨x-40,y-40,1+z,rfl,by lia,by walk_at"bits",?_⟩;have jo:=aaT (x:=x-40) (y:=y-40) (n:=1+z) (by lia) (by lia) (by lia) (by lia) (by lia) (by lia)
 have ag6:sh.length<=rs.length:=by
  have q:=UF S7 aD;rw[Te,Sx,SM,<-e,Sv]at q;lia
 refine⟨hN,by rw[Sv];lia,aJ _ ⟨sh++[(r,decide (f=0),cy (x-40) (y-40) (1+z))],_,_,_,_,by rw[Sz];rfl,by rw[Sz,e];rfl,λt aR=>?_⟩⟩;rcases SK.mp aR with aR|aR
 ·exact st t aR
 rw[SN.mp aR];exact jo
theorem JW :
  cj P w K mg base "_law_first" ["_law_piece"] 4 (cm K 1 JH):=by
 refine dq Y.f_law_first oL rfl (λ_ _ _ _ _ _ _ ao=>⟨_,(aZ (hG (af 0) (fc (n:=3) rfl (bR (cf 1 oL.nd) (bR (cf 2 oL.nd) (bR (cf 3 oL.nd) eS))))) (aZ (cL 4 oL.nd (gL bq (cx bq (v5 (af 2) (by rfl) B.int_)))) (aZ (jO (i:=5) oL.nd rfl (SI rfl) (fD bP)) (aZ (kR PassesOwn.never rfl (gN (af 1)) (cf 6 oL.nd) (aZ (cL 7 oL.nd (gL (cx (ei 6) (ei 3)) (cx (ei 3) (ei 6)))) (aZ (cL 8 oL.nd (gL (cx (ei 6) (ei 3)) (cx (ei 3) (ei 6)))) (bE (jQ 5 (bc (x8 B Y) ao (aB (cx (af 4) (af 7)) (aB (cx (af 4) (af 8)) (aB (cx (ei 6) (ei 3)) a9))))))))) (iF 5 (bE (cD (af 5)))))))),?_⟩);rintro as k ap ⟨s,rfl,ap,ag,av,ah⟩;refine c9 rfl ?_;have gQ:75<=TT:=by decide
 have h1:=av.bp.a;have aa:=av.bp.b;have aH:=av.bp.c;refine⟨_,rfl,_,rfl,rfl,_,_,rfl,_,_,rfl,_,_,rfl,rfl,?_⟩;walk_at"w"
 have wK:(if s.2.1=true then(1:Int)else 0)=0\/(if s.2.1=true then(1:Int)else 0)=1:=by
  cases s.2.1<;>simp
 have aeA:SC (if s.2.1=true then(1:Int)else 0)<=9:=by rcases wK with e|e<;>rw[e]<;>decide
 have g1:SC (1-2*(if s.2.1=true then(1:Int)else 0))<=9:=by rcases wK with e|e<;>rw[e]<;>decide
 refine .inr ⟨s.2.1,rfl,2,_,rfl,rfl,⟨by decide,b8 aeA⟩,1,_,rfl,rfl,?_⟩
 have ah:k (.val (.lst ((s.1.map λp=>cy ((1-2*(if s.2.1=true then 1 else 0))*(p.1*s.2.2.2.2-s.2.2.1*p.2.2)) ((1-2*(if s.2.1=true then 1 else 0))*(p.2.1*s.2.2.2.2-s.2.2.2.1*p.2.2)) (p.2.2*s.2.2.2.2)).map aQ))):=by
  rw[pK]at ah;have e:(s.1.map λp=>cy ((1-2*(if s.2.1=true then 1 else 0))*(p.1*s.2.2.2.2-s.2.2.1*p.2.2)) ((1-2*(if s.2.1=true then 1 else 0))*(p.2.1*s.2.2.2.2-s.2.2.2.1*p.2.2)) (p.2.2*s.2.2.2.2))=s.1.map λp=>if s.2.1=true then trn (nP (sld (trn s.2.2) p))else nP (sld (trn s.2.2) p):=Ud λp aA=>RM (ag p aA).pt av.pt s.2.1
  rw[e];exact ah
 dsimp only;generalize(1-2*(if s.2.1=true then(1:Int)else 0))=g at g1 ah⊢;refine c9 rfl ?_;walk_at"wd";refine qI (f:=aQ) (rs:=s.1) (done:=[]) (λpre ρ=>∃ir e6 eG,ρ=[.val (bH s),.val (.lst (s.1.map aQ)),.val (.bl s.2.1),.val (aQ s.2.2),.val (.int g),.own ((pre.map λp=>cy (g*(p.1*s.2.2.2.2-s.2.2.1*p.2.2)) (g*(p.2.1*s.2.2.2.2-s.2.2.2.1*p.2.2)) (p.2.2*s.2.2.2.2)).map aQ),ir,e6,eG]) ⟨_,_,_,rfl⟩ ?_ (λρ h=>?_);rotate_left
 ·obtain⟨ir,e6,eG,rfl⟩:=h;exact⟨_,rfl,_,rfl,ah⟩
 rintro pre p rest ρ aD ⟨ir,e6,eG,rfl⟩ N aJ;have aA:p∈s.1:=by rw[Te]at aD;rw[aD];simp
 have a6:=(ag p aA).bp.a;have cH:=(ag p aA).bp.b;have ey:=(ag p aA).bp.c;have cr:pre.length<s.1.length:=by rw[Te]at aD;rw[aD,Sx,SM];lia
 walk_at"w";refine⟨_,_,_,rfl,SE (ag p aA).pt.1 av.pt.1,by walk_at"bits",by rw[Sv,Sv];lia,aJ _ ⟨.val (aQ p),.val (.int (p.1*s.2.2.2.2-s.2.2.1*p.2.2)),.val (.int (p.2.1*s.2.2.2.2-s.2.2.2.1*p.2.2)),?_⟩⟩;rw[Sz,Sz];rfl
theorem aeB :
  cj P w K mg base "_law_kept" ["_law_olds","_law_news"] 6 (cm K 2 adA):=by
 refine dq Y.f_law_kept Dr rfl (λ_ _ _ _ _ _ _ ao=>⟨_,(aZ (kR PassesOwn.never rfl (Fb (dj (aV iX (aV iX bP)))) (fq (i:=2) Dr.nd rfl (Uh rfl)) (aZ (tU 3 (tT (i:=3) Dr.nd rfl rfl (ts:=["_law_piece"]) (fr:=["_law_flag"]) (js:=[2]) (gN (af 1)) (λ_ _ _ _=>(fq (i:=0) (show SY (["_law_piece","_law_flag"]:ZT) by decide +kernel) rfl (SI rfl))) (λ_ _ _ _=>(FE (As (ao.units) (ei 0) (af 1) (dZ _)))) (λ_ _ _ _=>(bc (JW B Y) ao (aB (af 0) a9))) ⟨rfl,by decide +kernel,rfl,by decide +kernel,hV (Tz.mpr ⟨rfl,(Tc _)⟩),ia rfl,by walk_at"ffr",rfl⟩)) (bE (fM (hS (fC (bc (JP B Y) ao (aB (af 3) (aB (dD (kW (ts:=["_law_piece"]) (fr:=["_law_flag"]) (js:=[2]) (gN (af 0)) (λ_ _ _ _=>(fq (i:=0) (show SY (["_law_piece","_law_flag"]:ZT) by decide +kernel) rfl (SI rfl))) (λ_ _ _ _=>(FE (As (ao.units) (ei 0) (af 1) (dZ _)))) (λ_ _ _ _=>(bc (JW B Y) ao (aB (af 0) a9))) ⟨rfl,by decide +kernel,rfl,by decide +kernel,hV (Tz.mpr ⟨rfl,(Tc _)⟩),ia rfl,by walk_at"ffr",rfl⟩)) a9))))) (bE (cD iX)) f5)))) (bE (cD iX))),?_⟩);rintro as k ap ⟨os,ns,rfl,ax,aO,o1,m4,bal,ey,ah⟩;refine c9 rfl ?_;have gQ:1000<=TT:=by decide
 refine h9 (λρ=>∃dB af,ρ=[.val (.lst (os.map bH)),.val (.lst (ns.map bH)),dB,af]) ?_ (λN aJ=>?_)
 ·rintro ρ ⟨dB,af,rfl⟩;exact ah
 refine⟨eW,_,rfl,?_⟩;refine qI (f:=D.bl) (rs:=[false,true]) (done:=[]) (λ_ ρ=>∃dB af,ρ=[.val (.lst (os.map bH)),.val (.lst (ns.map bH)),dB,af]) ⟨_,_,rfl⟩ ?_ (λρ h=>aJ _ h);clear aJ;rintro pre b rest ρ aD ⟨dB,af,rfl⟩ N aJ
 have flt:∀(L:ZN),(∀s∈L,j9 s)->L.length<=115->∀(k:ZK->Prop),k (((L.filter λs=>s.2.1==b).map fT).map fV)->hI (fb 0) (iY (tJ false (z6 (jm 0) (iW (D.int 1))) (jm 1))) (v3 1 JH (z9 (jm 0) z8)) (L.map bH) [.no,.val (.bl b)] k:=λL bI ap k ah=>by
  refine Bx (f:=bH) (h:=λs=>fV (fT s)) (P:=λs=>s.2.1==b) (λs aA k ah=>?_) (λs aA k ah=>?_) (by rwa[SR]at ah)
  ·refine⟨_,rfl,_,_,_,.inl rfl,rfl,rfl,_,rfl,.B,rfl,rfl,by decide,_,rfl,?_⟩;rw[HK];exact ah
  have g6:=bI s aA;exact⟨_,rfl,rfl,s,rfl,b8 g6.ln,λp ag=>(g6.ps p ag),g6.st.mono (by decide),ah⟩
 have sz:∀(L:ZN),(∀s∈L,j9 s)->L.length<=115->((((L.filter λs=>s.2.1==b).map fT)).map S7).sum<=3910:=λL bI ap=>by
  rw[SR]
  have:=pL (f:=S7∘fT) (m:=34) (l:=L.filter λs=>s.2.1==b) λs aA=>by
   show(fT s).length<=34
   rw[HJ];exact(bI s (TN.mp aA).1).ln
  have bS:=Vm (λs:ba=>s.2.1==b) L;lia
 have rg:∀(L:ZN),(∀s∈L,j9 s)->∀ps∈(L.filter λs=>s.2.1==b).map fT,nz ps:=λL bI ps ag=>by
  obtain⟨s,aA,rfl⟩:=SJ.mp ag;exact(bI s (TN.mp aA).1).first.1
 refine h9 (λρ=>ρ=[.val (.lst (os.map bH)),.val (.lst (ns.map bH)),.val (.bl b),.val (.lst (((ns.filter λs=>s.2.1==b).map fT).map fV))]) ?_ (λDB rx=>?_);rotate_left
 ·refine⟨_,rfl,_,rfl,by rw[Sv];lia,?_⟩;exact flt ns m4 aO _ ⟨_,rfl,rx _ rfl⟩
 rintro ρ rfl;refine⟨_,rfl,_,rfl,_,rfl,by rw[Sv];lia,?_⟩;refine flt os o1 (by lia) _ ?_
 have aG:((((os.filter λs=>s.2.1==b).map fT)).map S7).sum<=36:=by
  rw[SR]
  have:=pL (f:=S7∘fT) (m:=6) (l:=os.filter λs=>s.2.1==b) λs aA=>by
   show(fT s).length<=6
   rw[HJ];exact ey s (TN.mp aA).1
  have bS:=Vm (λs:ba=>s.2.1==b) os;lia
 have a8:=sz ns m4 aO;exact⟨rfl,_,_,rfl,rg ns m4,rg os o1,by lia,bal b,_,rfl,gB (aJ _ ⟨_,_,rfl⟩)⟩
theorem JX :
  cj P w K mg base "_law_lies" ["_law_sheet_here","_law_ring"] 6 (cm K 2 adB):=by
 refine dq Y.f_law_lies JI rfl (λ_ _ _ _ _ _ _ ao=>⟨_,(aZ (fM (hS (fC (n' (T:="list") (af 0) (by rfl) B.isinstance_ (nV (v:=.ty "list") (u:=.type "list") (by rfl) B.list_ (by decide +kernel) rfl) rfl rfl rfl))) (bE (cD iX)) f5) (aZ (kR PassesOwn.never rfl (gN (af 0)) (cf 2 JI.nd) (aZ (fM (nf (w_or (hS (fC (n' (T:="tuple") (af 2) (by rfl) B.isinstance_ (nV (v:=.ty "tuple") (u:=.type "tuple") (by rfl) B.tuple_ (by decide +kernel) rfl) rfl rfl rfl))) (w_or (hE (f:=λi j => !decide (i=j)) tj (kP (af 2) (by rfl) B.len_) bq (dZ _)) (o9 (hS (fC (n' (T:="bool") (ei 2) (by rfl) B.isinstance_ (nV (v:=.ty "bool") (u:=.type "bool") (by rfl) B.bool_ (by decide +kernel) rfl) rfl rfl rfl))))))) (bE (cD iX)) f5) (bE (fM (nf (w_or (hS (fC (bc (aey B Y) ao (aB (ei 2) a9)))) (o9 (hS (fC (bc (JR B Y) ao (aB (ei 2) a9))))))) (bE (cD iX)) f5)))) (bE (cD (bc (JP B Y) ao (aB (dD (kW (ts:=["_law_piece"]) (fr:=[]) (js:=[]) (gN (af 0)) (λ_ _ _ _=>(fq (i:=0) (show SY (["_law_piece"]:ZT) by decide +kernel) rfl (SI rfl))) (λ_ _ _ _=>iJ) (λ_ _ _ _=>(ei 0)) ⟨rfl,by decide +kernel,rfl,by decide +kernel,hV (Tc _),ia rfl,by walk_at"ffr",rfl⟩)) (aB (dD (fD (aV (af 1) bP))) a9))))))),?_⟩);rintro as k ap ⟨sh,bz,rfl,ap,av,ay,bal,ah⟩;refine c9 rfl ?_;have gQ:1000<=TT:=by decide
 refine r0 (λN aJ=>?_) ?_
 ·exact⟨_,rfl,_,_,rfl,λ_=>rfl,_,rfl,gB aJ⟩
 refine h9 (λρ=>∃dB,ρ=[.val (.lst (sh.map bH)),.val (.lst (bz.map aQ)),dB]) ?_ (λN aJ=>?_);rotate_left
 ·refine⟨_,rfl,_,rfl,?_⟩;refine qI (f:=bH) (rs:=sh) (done:=[]) (λ_ ρ=>∃dB,ρ=[.val (.lst (sh.map bH)),.val (.lst (bz.map aQ)),dB]) ⟨_,rfl⟩ ?_ (λρ h=>aJ _ h);rintro pre s rest ρ aD ⟨dB,rfl⟩ N aJ;have g6:=av s (by rw[Te]at aD;rw[aD];simp);refine r0 (λDB rx=>?_) ?_
  ·refine⟨_,rfl,_,_,rfl,λ_=>rfl,_,rfl,gB ?_⟩;refine⟨_,rfl,_,rfl,_,_,rfl,rfl,_,rfl,gB ?_⟩;exact⟨_,rfl,_,_,_,.inl rfl,rfl,rfl,_,_,rfl,λ_=>rfl,_,rfl,gB rx⟩
  refine⟨_,rfl,_,_,_,.inl rfl,rfl,rfl,rfl,s.1,rfl,b8 g6.ln,g6.cv,λp ag=>(g6.ps p ag).mono (by decide),_,rfl,gB ?_⟩;exact⟨_,rfl,_,_,_,.inl rfl,rfl,rfl,rfl,s.2.2,rfl,g6.st.pt,_,rfl,gB (aJ _ ⟨_,rfl⟩)⟩
 rintro ρ ⟨dB,rfl⟩;refine⟨_,rfl,_,rfl,by rw[Sv];lia,?_⟩;refine mn (f:=bH) (h:=λs=>fV s.1) (λs aA k ah=>⟨_,rfl,_,_,_,.inl rfl,rfl,rfl,ah⟩) ?_;have eK:=pL (f:=λs:ba=>s.1.length) (m:=34) (l:=sh) λs aA=>(av s aA).ln;refine⟨_,rfl,vg,rfl,sh.map (λs=>s.1),[bz],by rw[SR];rfl,?_,?_,?_,bal,ah⟩
 ·intro ps ag;obtain⟨s,aA,rfl⟩:=SJ.mp ag;exact(av s aA).rg
 ·intro ps ag;rw[SN.mp ag];exact ay
 rw[SR];have e:(sh.map (S7∘λs=>s.1)).sum=(sh.map λs:ba=>s.1.length).sum:=rfl;have:=ay.1;rw[e];simp only[SH,Ts,Tb,Vw];lia
theorem JY :
  cj P w K mg base "_law_product" ["_law_one","_law_other"] 4 (cm K 2 adD):=by
 refine dq Y.f_law_product adC rfl (λ_ _ _ _ _ _ _ ao=>⟨_,(bE (cD (bc (x7 B Y) ao (aB (cx (ei 0) (ei 1)) (aB (cx (ei 0) (ei 1)) a9))))),?_⟩);rintro as k ap ⟨r,s,rfl,h1,aa,b1,b2,b3,b4,ah⟩;refine c9 rfl ?_;walk_at"w";exact⟨_,_,rfl,SE h1 aa,by walk_at"bits",ah⟩
theorem JZ :
  cj P w K mg base "_law_less" ["_law_one","_law_other"] 4 (cm K 2 adF):=by
 refine dq Y.f_law_less adE rfl (λ_ _ _ _ _ _ _ ao=>⟨_,(bE (cD (bc (x7 B Y) ao (aB (gL (cx (ei 0) (ei 1)) (cx (ei 1) (ei 0))) (aB (cx (ei 0) (ei 1)) a9))))),?_⟩);rintro as k ap ⟨r,s,rfl,h1,aa,b1,b2,b3,b4,ah⟩;refine c9 rfl ?_;walk_at"w";exact⟨_,_,rfl,SE h1 aa,by walk_at"bits",ah⟩
theorem DC :
  cj P w K mg base "_law_pin" ["_law_x","_law_y"] 4 (cm K 2 adH):=by
 refine dq Y.f_law_pin adG rfl (λ_ _ _ _ _ _ _ ao=>⟨_,(bE (cD (bc (x8 B Y) ao (aB (cx (ei 0) (ei 1)) (aB (cx (ei 1) (ei 0)) (aB (cx (ei 0) (ei 1)) a9)))))),?_⟩);rintro as k ap ⟨r,s,rfl,h1,aa,b1,b2,b3,b4,ah⟩;refine c9 rfl ?_;walk_at"w";exact⟨_,_,_,rfl,SE h1 aa,by walk_at"bits",ah⟩
theorem J0 :
  cj P w K mg base "_law_box" ["_law_wide","_law_high_here"] 5 (cm K 2 adJ):=by
 refine dq Y.f_law_box adI rfl (λ_ _ _ _ _ _ _ ao=>⟨_,(bE (cD (dD (fD (aV (dj (aV bq (aV bq (aV bq bP)))) (aV (bc (DC B Y) ao (aB (af 0) (aB (dj (aV bq (aV bq bP))) a9))) (aV (bc (DC B Y) ao (aB (af 0) (aB (af 1) a9))) (aV (bc (DC B Y) ao (aB (dj (aV bq (aV bq bP))) (aB (af 1) a9))) bP)))))))),?_⟩);rintro as k ap ⟨w,h,rfl,bQ,bS,b1,b2,b3,b4,ah⟩;refine c9 rfl ?_;have ex:cy (w.1*1) (0*w.2) (w.2*1)=(w.1,0,w.2):=by rw[U7,TZ,U7];exact FM (wE bQ)
 have gc:cy (0*h.2) (h.1*1) (1*h.2)=(0,h.1,h.2):=by rw[TZ,U7,Wg];exact FM (wF bS)
 refine⟨hN,_,rfl,eW,rfl,w,(0,1),rfl,bQ.1,by decide,b8 b1,b8 b2,by decide,by decide,?_⟩;rw[ex];refine⟨_,rfl,_,rfl,rfl,w,h,rfl,bQ.1,bS.1,b8 b1,b8 b2,b8 b3,b8 b4,eW,_,rfl,rfl,(0,1),h,rfl,by decide,bS.1,by decide,by decide,b8 b3,b8 b4,?_⟩;rw[gc];exact⟨by show 4<=TT;decide,ah⟩
theorem J1 :
  cj P w K mg base "_law_is_low" ["_law_found"] 3 (cm K 1 adL):=by
 refine dq Y.f_law_is_low adK rfl (λ_ _ _ _ _ _ _ ao=>⟨_,(aZ (fM (nf (w_or (hS (fC (n' (T:="tuple") (af 0) (by rfl) B.isinstance_ (nV (v:=.ty "tuple") (u:=.type "tuple") (by rfl) B.tuple_ (by decide +kernel) rfl) rfl rfl rfl))) (w_or (hE (f:=λi j => !decide (i=j)) tj (kP (af 0) (by rfl) B.len_) bq (dZ _)) (w_or (hS (fC (bc (DA B Y) ao (aB (ei 0) a9)))) (o9 (hS (fC (bc (DA B Y) ao (aB (ei 0) a9))))))))) (bE (cD iX)) f5) (bE (cD (rV (lC (f:=λi j=>decide (j<i)) oX (ei 0) bq (dZ _)) (rV (lC (f:=λi j=>decide (j<i)) oX (ei 0) bq (dZ _)) (tx (lC (f:=λi j=>decide (i=j)) n7 (bc (p5 B Y) ao (aB (ei 0) (aB (ei 0) a9))) bq (dZ _)))))))),?_⟩);rintro as k ap ⟨r,rfl,ap,h0,ah⟩;refine c9 rfl ?_;have pj:((Ss r.1 r.2:Nat):Int)=1:=by rw[ap.2];rfl
 have cd:=ap.1;refine r0 (λN aJ=>?_) ?_
 ·refine⟨_,rfl,_,_,rfl,λ_=>rfl,_,rfl,gB ?_⟩;refine⟨_,rfl,_,rfl,_,_,rfl,rfl,_,rfl,gB ?_⟩;refine⟨_,rfl,_,_,_,.inl rfl,rfl,rfl,rfl,r.1,rfl,_,rfl,gB ?_⟩;exact⟨_,rfl,_,_,_,.inl rfl,rfl,rfl,rfl,r.2,rfl,_,rfl,gB aJ⟩
 walk_at"w";rw[Tk (Xw h0)];walk_at"w";rw[Tk (Xw cd)];walk_at"w";refine⟨_,_,rfl,?_⟩;rw[pj];exact⟨_,_,rfl,rfl,ah⟩
theorem aeC :
  cj P w K mg base "_law_is_box" ["_law_found"] 7 (cm K 1 adN):=by
 refine dq Y.f_law_is_box adM rfl (λ_ _ _ _ _ _ _ ao=>⟨_,(aZ (fM (nf (w_or (hS (fC (n' (T:="tuple") (af 0) (by rfl) B.isinstance_ (nV (v:=.ty "tuple") (u:=.type "tuple") (by rfl) B.tuple_ (by decide +kernel) rfl) rfl rfl rfl))) (w_or (hE (f:=λi j => !decide (i=j)) tj (kP (af 0) (by rfl) B.len_) bq (dZ _)) (w_or (hS (fC (bc (J1 B Y) ao (aB (ei 0) a9)))) (o9 (hS (fC (bc (J1 B Y) ao (aB (ei 0) a9))))))))) (bE (cD iX)) f5) (bE (cD (bc (JX B Y) ao (aB (ei 0) (aB (bc (J0 B Y) ao (aB (ei 0) (aB (ei 0) a9))) a9)))))),?_⟩);rintro as k ap ⟨w,h,sh,rfl,bQ,bS,b1,b2,b3,b4,w0,h0,ap,av,bal,ah⟩;refine c9 rfl ?_;refine r0 (λN aJ=>?_) ?_
 ·refine⟨_,rfl,_,_,rfl,λ_=>rfl,_,rfl,gB ?_⟩;refine⟨_,rfl,_,rfl,_,_,rfl,rfl,_,rfl,gB ?_⟩;refine⟨_,rfl,_,_,_,.inl rfl,rfl,rfl,rfl,w,rfl,bQ,w0,_,rfl,gB ?_⟩;exact⟨_,rfl,_,_,_,.inl rfl,rfl,rfl,rfl,h,rfl,bS,h0,_,rfl,gB aJ⟩
 exact⟨_,rfl,_,_,_,.inl rfl,rfl,rfl,_,rfl,_,_,_,.inl rfl,rfl,rfl,_,rfl,_,_,_,.inl rfl,rfl,rfl,rfl,w,h,rfl,bQ,bS,b8 b1,b8 b2,b8 b3,b8 b4,rfl,sh,kv w h,rfl,ap,av,ade ⟨bQ,bS,w0,h0⟩ b1 b2 b3 b4,bal,ah⟩
theorem J2 :
  cj P w K mg base "_law_size" ["_law_bag_here"] 4 (cm K 1 adP):=by
 refine dq Y.f_law_size adO rfl (λ_ _ _ _ _ _ _ ao=>⟨_,(aZ (fM (hE (f:=λi j=>decide (i=j)) n7 (bc (iq B Y) ao (gM 0 (aB bq a9))) bq (dZ _)) (bE (cD (bc (x7 B Y) ao (aB (f3 bq (bc (iq B Y) ao (gM 0 (aB bq a9)))) (aB (f3 bq (bc (iq B Y) ao (gM 0 (aB bq a9)))) a9))))) f5) (bE (cD (bc (x7 B Y) ao (aB (f3 bq (bc (iq B Y) ao (gM 0 (aB bq a9)))) (aB (f3 bq (bc (iq B Y) ao (gM 0 (aB bq a9)))) a9)))))),?_⟩);rintro as k ap ⟨rfl,ah⟩;refine c9 rfl ?_
 have e9:∀t b:Int,0<t->0<b->SC t<=10->SC b<=10->k (.val (dR (dF t b))):=λt b ea kt kw u9=>by
  obtain⟨l,e,aM,a4⟩:=jx (t:=t) (b:=b) (SA kt);refine ah _ l ?_ (gd aM kw) (gd a4 u9);have:0<(dF t b).1*b:=by rw[e];exact SE ea l.1
  exact UL this kt
 have sV:∀x:Int,0<=x->x<=1000->SC x<=10:=λx fe x1=>intBits_le_iff.mpr (by show x.natAbs<1024;lia);walk_at"w";intro c fl c1;walk_at"wd";refine hy (λ_=>?_) (λ_=>?_)
 ·walk_at"w";intro x fe x1;walk_at"w";intro y e1 dy;walk_at"w";exact⟨1+x,1+y,rfl,by lia,SD (sV (1+y) (by lia) (by lia)) (by decide),e9 _ _ (by lia) (by lia) (sV _ (by lia) (by lia)) (sV _ (by lia) (by lia))⟩
 walk_at"w";intro x fe x1;walk_at"w";intro y e1 dy;walk_at"w";exact⟨1+x,1+y,rfl,by lia,SD (sV (1+y) (by lia) (by lia)) (by decide),e9 _ _ (by lia) (by lia) (sV _ (by lia) (by lia)) (sV _ (by lia) (by lia))⟩
theorem aeD :
  cj P w K mg base "_law_high" ["_law_slope_here","_law_wide"] 5 (cm K 2 adR):=by
 refine dq Y.f_law_high adQ rfl (λ_ _ _ _ _ _ _ ao=>⟨_,(bE (cD (bc (JY B Y) ao (aB (dj (aV (rY (ei 0) (by rfl) B.abs_) (aV (ei 0) bP))) (aB (af 1) a9))))),?_⟩);rintro as k ap ⟨s,w,rfl,ls,lw,s0,w0,c1,c2,c3,c4,ah⟩;refine c9 rfl ?_
 have i':SC (if s.1<0 then -s.1 else s.1)<=64:=by
  split
  ·exact TW c1
  exact c1
 walk_at"w";exact⟨(if s.1<0 then -s.1 else s.1,s.2),w,rfl,ls.1,lw.1,b8 i',b8 c2,b8 c3,b8 c4,ah⟩
theorem DD :
  cj P w K mg base "_law_corner" ["_law_slope_here","_law_hand","_law_wide"] 6 (cm K 3 adS):=by
 refine dq Y.f_law_corner u8 rfl (λ_ _ _ _ _ _ _ ao=>⟨_,(aZ (hG (bc (J0 B Y) ao (aB (af 2) (aB (bc (aeD B Y) ao (aB (af 0) (aB (af 2) a9))) a9))) (FU (n:=4) rfl (bR (cf 3 u8.nd) (bR (cf 4 u8.nd) (bR (cf 5 u8.nd) (bR (cf 6 u8.nd) eS)))))) (aZ (fM (hE (f:=λi j=>decide (j<i)) oX (ei 0) bq (dZ _)) (bE (cD (dD (fD (aV (af 3) (aV (gD (dD (fD (aV (af 4) (aV (af 5) bP)))) (v5 (tK (ao.units) (af 1) jM (dZ _)) (by rfl) B.int_) (λ_ _=>rfl)) (aV (gD (dD (fD (aV (af 5) (aV (af 6) bP)))) (v5 (tK (ao.units) (af 1) jM (dZ _)) (by rfl) B.int_) (λ_ _=>rfl)) bP))))))) f5) (aZ (fM (As (ao.units) (af 1) jM (dZ _)) (bE (cD (dD (fD (aV (af 3) (aV (af 4) (aV (af 6) bP))))))) f5) (bE (cD (dD (fD (aV (af 6) (aV (af 4) (aV (af 5) bP)))))))))),?_⟩);rintro as k ap ⟨s,w,hi,rfl,ls,lw,s0,w0,c1,c2,c3,c4,ah⟩;refine c9 rfl ?_;have cE:=r9 ls lw s0 w0;have aeE:s.2*w.2≠0:=l' ls.1 lw.1
 have ae:SC (bB s w).1<=140/\SC (bB s w).2<=140:=by
  obtain⟨_,_,aM,a4⟩:=jx (t:=(if s.1<0 then -s.1 else s.1)*w.1) aeE
  have i':SC (if s.1<0 then -s.1 else s.1)<=64:=by
   split
   ·exact TW c1
   exact c1
  exact⟨SD (gd aM (TE i' c3)) (by decide),SD (gd a4 (TE c2 c4)) (by decide)⟩
 obtain⟨rv,oO⟩:=ae;have hT:0<s.1->dF (s.1*w.1) (s.2*w.2)=bB s w:=PY;have ag7:s.1<0->dF (s.1*w.1) (s.2*w.2)=(-(bB s w).1,(bB s w).2):=PZ ls lw;have ag8:∀{z:Int},SC z<=64->SC z<=4000:=λh=>b8 h;have ag9:∀{z:Int},SC z<=140->SC z<=4000:=λh=>b8 h;walk_at"w";refine⟨s,w,rfl,ls,lw,s0,w0,c1,c2,c3,c4,rfl,w,bB s w,rfl,lw,cE.lh,b8 c3,b8 c4,b8 rv,b8 oO,_,rfl,rfl,_,_,rfl,_,_,rfl,_,_,rfl,_,_,rfl,rfl,?_⟩;unfold cV at ah;refine⟨_,rfl,_,_,_,.inl rfl,rfl,rfl,_,_,rfl,rfl,_,rfl,?_⟩;refine hy (λsp=>?_) (λsp=>?_)
 ·rw[Tk sp]at ah;cases hi with
  |true=>
   rw[Tk rfl]at ah;walk_at"w";refine⟨.S,rfl,rfl,by decide,.inr ⟨_,rfl,?_⟩⟩;rw[show eqD (D.str (if true=true then Str.ofString "high" else Str.ofString "low")) (D.str (Str.ofString "high"))=true from Ga];refine⟨_,_,_,.inr rfl,rfl,rfl,?_⟩;walk_at"w";refine⟨.S,rfl,rfl,by decide,.inr ⟨_,rfl,?_⟩⟩;rw[show eqD (D.str (if true=true then Str.ofString "high" else Str.ofString "low")) (D.str (Str.ofString "high"))=true from Ga];exact⟨_,_,_,.inr rfl,rfl,rfl,hN,ah⟩
  |false=>
   rw[Tl SP]at ah;walk_at"w";refine⟨.S,rfl,rfl,by decide,.inr ⟨_,rfl,?_⟩⟩;rw[show eqD (D.str (if false=true then Str.ofString "high" else Str.ofString "low")) (D.str (Str.ofString "high"))=false from Gb];refine⟨_,_,_,.inr rfl,rfl,rfl,?_⟩;walk_at"w";refine⟨.S,rfl,rfl,by decide,.inr ⟨_,rfl,?_⟩⟩;rw[show eqD (D.str (if false=true then Str.ofString "high" else Str.ofString "low")) (D.str (Str.ofString "high"))=false from Gb];exact⟨_,_,_,.inr rfl,rfl,rfl,hN,ah⟩
 rw[Tl sp]at ah;cases hi with
 |true=>
  rw[Tk rfl]at ah;refine⟨_,rfl,.S,rfl,rfl,by decide,_,rfl,?_⟩;rw[show eqD (D.str (if true=true then Str.ofString "high" else Str.ofString "low")) (D.str (Str.ofString "low"))=false from HE];exact⟨_,rfl,_,rfl,_,rfl,hN,ah⟩
 |false=>
  rw[Tl SP]at ah;refine⟨_,rfl,.S,rfl,rfl,by decide,_,rfl,?_⟩;rw[show eqD (D.str (if false=true then Str.ofString "high" else Str.ofString "low")) (D.str (Str.ofString "low"))=true from HF];exact⟨_,rfl,_,rfl,_,rfl,hN,ah⟩
theorem aeF :
  cj P w K mg base "_law_slope" ["_law_bag_here"] 5 (cm K 1 adT):=by
 refine dq Y.f_law_slope Ds rfl (λ_ _ _ _ _ _ _ ao=>⟨_,(aZ (hG (bc (J2 B Y) ao (gM 0 a9)) (fc (n:=2) rfl (bR (cf 1 Ds.nd) (bR (cf 2 Ds.nd) eS)))) (bE (cD (dj (aV (cx (gL bq (cx bq (bc (iq B Y) ao (gM 0 (aB bq a9))))) (af 1)) (aV (af 2) bP)))))),?_⟩);rintro as k ap ⟨rfl,ah⟩;refine c9 rfl ?_;walk_at"w";intro r nC hF b1 b2;refine⟨_,rfl,rfl,_,_,rfl,_,_,rfl,rfl,?_⟩;walk_at"w";intro c fl c1;walk_at"w";obtain rfl|rfl:c=0\/c=1:=by lia
 ·exact ah ((1-2*0)*r.1,r.2) (by show a3 ((1-2*0)*r.1) r.2;rw[show(1-2*0:Int)*r.1=r.1 by lia];exact nC) (by show(1-2*0:Int)*r.1≠0;lia) (by show SC ((1-2*0)*r.1)<=10;rw[show(1-2*0:Int)*r.1=r.1 by lia];exact b1) b2
 exact ah ((1-2*1)*r.1,r.2) (by show a3 ((1-2*1)*r.1) r.2;rw[show(1-2*1:Int)*r.1 = -r.1 by lia];exact⟨nC.1,by rw[Ua];exact nC.2⟩) (by show(1-2*1:Int)*r.1≠0;lia) (by show SC ((1-2*1)*r.1)<=10;rw[show(1-2*1:Int)*r.1 = -r.1 by lia];exact TW b1) b2
theorem aeG :
  cj P w K mg base "_law_pieces" ["_law_some"] 2 (cm K 1 adU):=by
 refine dq Y.f_law_pieces Dt rfl (λ_ _ _ _ _ _ _ ao=>⟨_,(aZ (jO (i:=1) Dt.nd rfl (SI rfl) (fD bP)) (aZ (kR PassesOwn.never rfl (gN (af 0)) (cf 2 Dt.nd) (bE (O8 1 (gD (af 2) (nc bq) (λ_ _=>rfl))))) (iF 1 (bE (cD (af 1)))))),?_⟩);rintro as k ap ⟨bs,rfl,ap,ah⟩;refine c9 rfl ?_;have gQ:=vi;refine h9 (λρ=>ρ=[.val (.lst (bs.map d8)),.own (.l ((((([]:ZQ).map λb=>b.2.2).flatten)).map bH)),.no]) ?_ (λN aJ=>⟨Ti _,aJ _ rfl⟩);rintro ρ rfl;refine h9 (λρ=>∃dB:aK,ρ=[.val (.lst (bs.map d8)),.own (.l ((bs.map λb=>b.2.2).flatten.map bH)),dB]) ?_ (λN aJ=>?_)
 ·rintro ρ ⟨dB,rfl⟩;exact⟨_,rfl,_,rfl,ah⟩
 refine⟨_,rfl,_,rfl,?_⟩;refine qI (f:=d8) (rs:=bs) (done:=[]) (λpre ρ=>∃dB:aK,ρ=[.val (.lst (bs.map d8)),.own (.l ((pre.map λb=>b.2.2).flatten.map bH)),dB]) ⟨_,rfl⟩ ?_ (λρ h=>?_);rotate_left
 ·obtain⟨dB,rfl⟩:=h;exact aJ _ ⟨dB,rfl⟩
 rintro pre x rest ρ aD ⟨dB,rfl⟩ DB rx;rw[Te]at aD
 have lp:(pre.map λb=>b.2.2).flatten.length+x.2.2.length<=400:=by
  rw[Xn,SR]
  have e:(pre.map λb=>b.2.2.length).sum+(x.2.2.length+(rest.map λb=>b.2.2.length).sum)<=400:=by
   rw[aD]at ap;simpa using ap
  have ar:(List.map (S7∘λb:fH=>b.2.2) pre).sum=(pre.map λb=>b.2.2.length).sum:=rfl;lia
 refine⟨_,rfl,_,rfl,_,rfl,_,_,_,.inl rfl,rfl,(rfl:eu [dR x.1,dR x.2.1,Cx x.2.2] (-1)=some (Cx x.2.2)),x.2.2.map bH,rfl,by rw[Sv,Sv];lia,?_⟩
 have e:(pre.map λb=>b.2.2).flatten.map bH++x.2.2.map bH=((pre++[x]).map λb=>b.2.2).flatten.map bH:=by
  rw[Sz,List.flatten_append,Sz];simp
 rw[e];exact rx _ ⟨_,rfl⟩
theorem nM :
  cj P w K mg base "greatest_divisor" ["one","other"] 2 (cm K 2 adV):=by
 refine dq Y.f_greatest_divisor x3 rfl (λ_ _ _ _ _ _ _ ao=>⟨_,(aZ (cL 0 x3.nd (rY (af 0) (by rfl) B.abs_)) (aZ (cL 1 x3.nd (rY (af 1) (by rfl) B.abs_)) (aZ (Ae PassesOwn.never (hE (f:=λi j => !decide (i=j)) tj (af 1) bq (dZ _)) (bE (Fa (i:=0) (j:=1) rfl x3.nd rfl rfl (by decide) rfl rfl (aV (af 1) (aV (v1 (af 0) (af 1)) bP)) rfl))) (bE (cD (af 0)))))),?_⟩);rintro as k ap ⟨a,b,rfl,ah⟩;refine c9 rfl ?_;walk_at"wd";refine⟨λm ρ=>∃(x y:Int),ρ=[.val (.int x),.val (.int y)]/\0<=x/\0<=y/\Ss x y=Ss a b/\m=y.toNat,⟨_,_,_,rfl,?_,?_,EO a b,rfl⟩,?_⟩
 ·split<;>lia
 ·split<;>lia
 rintro m ρ ⟨x,y,rfl,fe,e1,aF,rfl⟩;walk_at"wd";refine MZ (λg=>?_) (λg=>?_)
 ·have g:0<y:=by lia
  walk_at"wd";have dW:=Ug x (show y≠0 by lia);have a7:=Um x g;exact⟨_,_,rfl,_,by lia,_,_,rfl,e1,dW,by rw[EN fe g];exact aF,rfl⟩
 subst g;refine⟨_,rfl,?_⟩;rw[<-gcd_zero_left fe,aF];exact ah
theorem ya :
  cj P w K mg base "crossed" ["one","other"] 2 (cm K 2 adW):=by
 refine dq Y.f_crossed rr rfl (λ_ _ _ _ _ _ _ ao=>⟨_,(aZ (hG (af 0) (fc (n:=3) rfl (bR (cf 2 rr.nd) (bR (cf 3 rr.nd) (bR (cf 4 rr.nd) eS))))) (aZ (hG (af 1) (fc (n:=3) rfl (bR (cf 5 rr.nd) (bR (cf 6 rr.nd) (bR (cf 7 rr.nd) eS))))) (bE (cD (dj (aV (gL (cx (af 3) (af 7)) (cx (af 4) (af 6))) (aV (gL (cx (af 4) (af 5)) (cx (af 2) (af 7))) (aV (gL (cx (af 2) (af 6)) (cx (af 3) (af 5))) bP)))))))),?_⟩);rintro as k ap ⟨p,q,rfl,bp,hZ,ah⟩;refine c9 rfl ?_;have h1:=bp.a;have aa:=bp.b;have aH:=bp.c;have a6:=hZ.a;have cH:=hZ.b;have ey:=hZ.c;walk_at"w";refine⟨_,_,rfl,_,_,rfl,_,_,rfl,rfl,?_⟩;walk_at"w";refine⟨_,_,rfl,_,_,rfl,_,_,rfl,rfl,?_⟩;walk_at"w";exact ah
theorem aeH :
  cj P w K mg base "hand_of" ["line","p"] 2 (cm K 2 adX):=by
 refine dq Y.f_hand_of JJ rfl (λ_ _ _ _ _ _ _ ao=>⟨_,(aZ (cL 2 JJ.nd (f3 (f3 (cx (ei 0) (ei 1)) (cx (ei 0) (ei 1))) (cx (ei 0) (ei 1)))) (aZ (fM (hE (f:=λi j=>decide (j<i)) oX (af 2) bq (dZ _)) (bE (cD bq)) f5) (aZ (fM (hE (f:=λi j=>decide (i<j)) n4 (af 2) bq (dZ _)) (bE (cD (nc bq))) f5) (bE (cD bq))))),?_⟩);rintro as k ap ⟨c,r,rfl,DE,nL,ah⟩;refine c9 rfl ?_;have h1:=DE.a;have aa:=DE.b;have aH:=DE.c;have a6:=nL.a;have cH:=nL.b;have ey:=nL.c;walk_at"wd";unfold cJ at ah;refine hy (λg=>?_) (λg=>?_)
 ·rwa[Tk g]at ah
 rw[Tl g]at ah;walk_at"wd";refine hy (λaI=>?_) (λaI=>?_)
 ·rw[Tk aI]at ah;walk_at"w";exact ah
 rwa[Tl aI]at ah
theorem aeI :
  cj P w K mg base "point" ["a","b","n"] 3 (cm K 3 adY):=by
 refine dq Y.f_point Du rfl (λ_ _ _ _ _ _ _ ao=>⟨_,(aZ (fM (hE (f:=λi j=>decide (i=j)) n7 (af 2) bq (dZ _)) (bE E') f5) (aZ (cL 3 Du.nd (bc (nM B Y) ao (aB (bc (nM B Y) ao (aB (af 2) (aB (af 0) a9))) (aB (af 1) a9)))) (aZ (fM (hE (f:=λi j=>decide (i<j)) n4 (af 2) bq (dZ _)) (bE (cL 3 Du.nd (nc (af 3)))) f5) (bE (cD (dj (aV (fo (af 0) (af 3)) (aV (fo (af 1) (af 3)) (aV (fo (af 2) (af 3)) bP))))))))),?_⟩);rintro as k ap ⟨a,b,n,rfl,aO,nF,ah⟩;refine c9 rfl ?_;walk_at"wd";refine hy (λg=>absurd g aO) (λ_=>?_);walk_at"w";refine⟨_,_,rfl,?_⟩;walk_at"w";refine⟨_,_,rfl,?_⟩;dsimp only[lE];have gp:=FI (a:=a) (b:=b) aO;have iL:=FJ (a:=a) (b:=b) aO nF;rw[O' a b n];refine h9 (λρ=>ρ=[.val (.int a),.val (.int b),.val (.int n),.val (.int (kX a b n))]) ?_ (λN aJ=>?_)
 ·rintro ρ rfl;have i6:kX a b n≠0:=by unfold kX;split<;>lia
  have J3:SC (kX a b n)<=9000:=by
   unfold kX;split
   ·exact TW iL
   exact iL
  walk_at"w";exact ah
 walk_at"wd";refine hy (λg=>?_) (λg=>?_)
 ·walk_at"w";refine aJ _ ?_;unfold kX;rw[Tk g];rfl
 refine aJ _ ?_;unfold kX;rw[Tl g];rfl
theorem aeJ :
  cj P w K mg base "meet" ["p","q","r","s"] 4 (cm K 4 adZ):=by
 refine dq Y.f_meet x4 rfl (λ_ _ _ _ _ _ _ ao=>⟨_,(aZ (hG (bc (ya B Y) ao (aB (bc (ya B Y) ao (aB (af 0) (aB (af 1) a9))) (aB (bc (ya B Y) ao (aB (af 2) (aB (af 3) a9))) a9))) (fc (n:=3) rfl (bR (cf 4 x4.nd) (bR (cf 5 x4.nd) (bR (cf 6 x4.nd) eS))))) (aZ (fM (hE (f:=λi j=>decide (i=j)) n7 (af 6) bq (dZ _)) (bE E') f5) (bE (cD (bc (aeI B Y) ao (aB (af 4) (aB (af 5) (aB (af 6) a9)))))))),?_⟩);rintro as k ap ⟨p,q,r,s,rfl,bp,hZ,nL,bs,aO,ah⟩;refine c9 rfl ?_;have b1:=bp.crs hZ;have b2:=nL.crs bs;have b3:=b1.crs b2;refine⟨_,rfl,_,rfl,rfl,p,q,rfl,bp.mono (by decide),hZ.mono (by decide),_,rfl,_,rfl,rfl,r,s,rfl,nL.mono (by decide),bs.mono (by decide),rfl,_,_,rfl,b1.mono (by decide),b2.mono (by decide),?_⟩;generalize crs (crs p q) (crs r s)=m at *;obtain⟨x,y,z⟩:=m;have aO:z≠0:=aO;have aeK:SC z<=9000:=b8 b3.c;refine⟨_,rfl,rfl,_,_,rfl,_,_,rfl,_,_,rfl,rfl,?_⟩;walk_at"wd";refine hy (λg=>absurd g aO) (λ_=>?_);exact⟨_,rfl,_,rfl,_,rfl,rfl,x,y,z,rfl,aO,aeK,ah⟩
theorem aeL :
  cj P w K mg base "cut_ring" ["ring","p","q"] 5 (cm K 3 ad0):=by
 refine dq Y.f_cut_ring oM rfl (λ_ _ _ _ _ _ _ ao=>⟨_,(aZ (v6 (i:=3) oM.nd rfl (Uh rfl) (bc (ya B Y) ao (aB (af 1) (aB (af 2) a9)))) (aZ (tU 5 (tT (i:=5) oM.nd rfl rfl (ts:=["corner"]) (fr:=["line"]) (js:=[3]) (gN (af 0)) (λ_ _ _ _=>(fq (i:=0) (show SY (["corner","line"]:ZT) by decide +kernel) rfl (SI rfl))) (λ_ _ _ _=>iJ) (λ_ _ _ _=>(bc (aeH B Y) ao (aB (af 1) (aB (af 0) a9)))) ⟨rfl,by decide +kernel,rfl,by decide +kernel,hV (Tz.mpr ⟨rfl,(Tc _)⟩),ia rfl,by walk_at"ffr",rfl⟩)) (aZ (jO (i:=6) oM.nd rfl (SI rfl) (fD bP)) (aZ (jO (i:=7) oM.nd rfl (SI rfl) (fD bP)) (aZ (Qo PassesOwn.never rfl (af 0) (by rfl) B.enumerate_ (fc (n:=2) rfl (bR (cf 8 oM.nd) (bR (cf 4 oM.nd) eS))) (aZ (fM (hE (f:=λi j=>decide (j<=i)) vE (gD (af 5) (af 8) (λ_ _=>rfl)) bq (dZ _)) (bE (jQ 6 (af 4))) f5) (aZ (fM (hE (f:=λi j=>decide (i<=j)) LW (gD (af 5) (af 8) (λ_ _=>rfl)) bq (dZ _)) (bE (jQ 7 (af 4))) f5) (aZ (cL 9 oM.nd (v1 (f3 (af 8) bq) (kP (af 0) (by rfl) B.len_))) (bE (fM (hE (f:=λi j=>decide (i<j)) n4 (cx (gD (af 5) (af 8) (λ_ _=>rfl)) (gD (af 5) (af 9) (λ_ _=>rfl))) bq (dZ _)) (aZ (cL 10 oM.nd (bc (aeJ B Y) ao (aB (af 1) (aB (af 2) (aB (af 4) (aB (gD (af 0) (af 9) (λ_ _=>rfl)) a9)))))) (aZ (jQ 6 (af 10)) (bE (jQ 7 (af 10))))) f5)))))) (iF 7 (iF 6 (bE (cD (dj (aV (lD (Fj (ao.units) bq (af 5) (by rfl)) (af 6) (dD (fD bP))) (aV (lD (Fj (ao.units) (nc bq) (af 5) (by rfl)) (af 7) (dD (fD bP))) bP)))))))))))),?_⟩);rintro as k ap ⟨ps,p,q,rfl,bp,hZ,ae,ap,ah⟩;refine c9 rfl ?_;have e2:=(bp.crs hZ).mono (show 300+300+1<=700 by decide);refine⟨_,rfl,_,rfl,rfl,p,q,rfl,bp.mono (by decide),hZ.mono (by decide),_,rfl,_,rfl,by rw[Sv];exact b8 ap,?_⟩;refine mn (f:=aQ) (h:=λc=>D.int (cJ (ln (crs p q) c))) (fs:=[.val (aQ (crs p q))]) (λr ao gt DF=>⟨_,rfl,_,rfl,rfl,crs p q,r,rfl,e2.mono (by decide),(ae r ao).1.mono (by decide),DF⟩) ?_;refine⟨_,rfl,?_⟩;walk_at"wd";have J4:ps.headD (ps.headD (0,0,1))=ps.headD (0,0,1):=by cases ps<;>rfl
 refine GC (f:=aQ) (done:=[]) (λpre ρ=>∃ef eG gF v10 rest,ps=pre++rest/\ρ=[.val (.lst (ps.map aQ)),.val (aQ p),.val (aQ q),.val (aQ (crs p q)),ef,.val (.lst (ps.map λc=>D.int (cJ (ln (crs p q) c)))),.own ((di (ln (crs p q)) (a1 (crs p q)) pre (rest.headD (ps.headD (0,0,1)))).map aQ),.own ((di (λc => -ln (crs p q) c) (a1 (crs p q)) pre (rest.headD (ps.headD (0,0,1)))).map aQ),eG,gF,v10]) ⟨_,_,_,_,ps,rfl,rfl⟩ ?_ ?_
 ·rintro pre c rest ρ eq ⟨ef,eG,gF,v10,aeM,ec,rfl⟩ N aJ;have eq:ps=pre++c::rest:=by simpa using eq
  have DG:aeM=c::rest:=by rw[ec]at eq;exact Xo eq
  subst DG;have hc:c∈ps:=by rw[eq];simp
  have u':eu (ps.map λc=>D.int (cJ (ln (crs p q) c))) (pre.length:Int)=some (D.int (cJ (ln (crs p q) c))):=by
   have:=Qs (h:=λc=>D.int (cJ (ln (crs p q) c))) (pre:=pre) (rest:=rest) (c:=c);rwa[<-eq]at this
  have an:=GG (h:=λc=>D.int (cJ (ln (crs p q) c))) eq J4;have aeN:=GG (h:=aQ) eq J4;show qt _ _ _ [.val (.lst (ps.map aQ)),.val (aQ p),.val (aQ q),.val (aQ (crs p q)),.val (aQ c),.val (.lst (ps.map λc=>D.int (cJ (ln (crs p q) c)))),.own ((di (ln (crs p q)) (a1 (crs p q)) pre c).map aQ),.own ((di (λc => -ln (crs p q) c) (a1 (crs p q)) pre c).map aQ),.val (.int pre.length),gF,v10]
  have eh:pre.length<=1000:=by rw[eq,Sx]at ap;lia
  have aG:=Bl (f:=ln (crs p q)) (mt:=a1 (crs p q)) (ps:=pre) (w:=c);have a8:=Bl (f:=λc => -ln (crs p q) c) (mt:=a1 (crs p q)) (ps:=pre) (w:=c);have gQ:5000<=TT:=by decide
  refine h9 (λρ=>ρ=[.val (.lst (ps.map aQ)),.val (aQ p),.val (aQ q),.val (aQ (crs p q)),.val (aQ c),.val (.lst (ps.map λc=>D.int (cJ (ln (crs p q) c)))),.own ((di (ln (crs p q)) (a1 (crs p q)) pre c++kp (ln (crs p q)) c).map aQ),.own ((di (λc => -ln (crs p q) c) (a1 (crs p q)) pre c).map aQ),.val (.int pre.length),gF,v10]) ?_ (λN aJ=>?_);rotate_left
  ·refine⟨_,rfl,_,rfl,_,_,_,.inr rfl,rfl,u',_,_,rfl,rfl,_,rfl,hy (λg=>?_) (λg=>?_)⟩
   ·refine⟨_,rfl,_,rfl,by rw[Sv];lia,aJ _ ?_⟩;rw[GI (GE.mp g),Sz];rfl
   refine aJ _ ?_;rw[GJ (λz=>g (GE.mpr z)),SQ]
  rintro ρ rfl;refine h9 (λρ=>ρ=[.val (.lst (ps.map aQ)),.val (aQ p),.val (aQ q),.val (aQ (crs p q)),.val (aQ c),.val (.lst (ps.map λc=>D.int (cJ (ln (crs p q) c)))),.own ((di (ln (crs p q)) (a1 (crs p q)) pre c++kp (ln (crs p q)) c).map aQ),.own ((di (λc => -ln (crs p q) c) (a1 (crs p q)) pre c++kp (λc => -ln (crs p q) c) c).map aQ),.val (.int pre.length),gF,v10]) ?_ (λN aJ=>?_);rotate_left
  ·refine⟨_,rfl,_,rfl,_,_,_,.inr rfl,rfl,u',_,_,rfl,rfl,_,rfl,hy (λg=>?_) (λg=>?_)⟩
   ·refine⟨_,rfl,_,rfl,by rw[Sv];lia,aJ _ ?_⟩;rw[GI (f:=λc => -ln (crs p q) c) (c:=c) (by have:=GF.mp g;show 0 <= -ln (crs p q) c;lia),Sz (l₂:=[c])];rfl
   refine aJ _ ?_;rw[GJ (f:=λc => -ln (crs p q) c) (c:=c) (λz=>g (GF.mpr (by have z:0 <= -ln (crs p q) c:=z;lia))),SQ]
  rintro ρ rfl;have pos:(0:Int)<((ps.map aQ).length:Int):=by rw[Sv,eq,Sx,SM];lia
  refine⟨_,rfl,_,_,rfl,rfl,_,rfl,_,rfl,_,_,rfl,rfl,pos,?_⟩;rw[Sv];have ci:(kp (ln (crs p q)) c).length<=1:=by unfold kp;split<;>simp
  have cu:(kp (λc => -ln (crs p q) c) c).length<=1:=by unfold kp;split<;>simp
  refine⟨_,rfl,_,rfl,_,_,_,.inr rfl,rfl,u',_,rfl,_,rfl,_,_,_,.inr rfl,rfl,an,_,_,rfl,rfl,⟨GH _,GH _⟩,_,_,rfl,rfl,_,rfl,hy (λg=>?_) (λg=>?_)⟩
  ·have lt:=GD.mp g
   have J5:rest.headD (ps.headD (0,0,1))∈ps:=by
    cases rest with
    |nil=>
     cases ps with
     |nil=>cases hc
     |cons a r=>exact Sw
    |cons d rest=>rw[eq];simp
   have g6:=(ae c hc).2;have pn:=(ae _ J5).2;refine⟨_,rfl,_,rfl,_,rfl,_,rfl,_,rfl,_,_,_,.inr rfl,rfl,aeN,rfl,p,q,c,rest.headD (ps.headD (0,0,1)),rfl,bp.mono (by decide),hZ.mono (by decide),(ae c hc).1.mono (by decide),(ae _ J5).1.mono (by decide),ou g6 pn lt,?_⟩;rw[ot g6 pn];refine⟨_,rfl,_,rfl,by rw[Sv,Sx];lia,_,rfl,_,rfl,by rw[Sv,Sx];lia,aJ _ ⟨.val (aQ c),.val (.int pre.length),.val (.int (((pre.length:Int)+1)%(ps.length:Int))),.val (aQ (a1 (crs p q) c (rest.headD (ps.headD (0,0,1))))),rest,by rw[eq];simp,?_⟩⟩;rw[wU,wU,mr lt,mr (f:=λc => -ln (crs p q) c) (by rw[Uy];exact lt),Sz (l₂:=[a1 (crs p q) c (rest.headD (ps.headD (0,0,1)))]),Sz (l₂:=[a1 (crs p q) c (rest.headD (ps.headD (0,0,1)))])];rfl
  refine aJ _ ⟨.val (aQ c),.val (.int pre.length),.val (.int (((pre.length:Int)+1)%(ps.length:Int))),v10,rest,by rw[eq];simp,?_⟩;have nl:¬ln (crs p q) c*ln (crs p q) (rest.headD (ps.headD (0,0,1)))<0:=λz=>g (GD.mpr z);rw[wU,wU,lO nl,lO (by rw[Uy];exact nl),SQ,SQ];rfl
 rintro ρ ⟨ef,eG,gF,v10,rest,ec,rfl⟩
 have DG:rest=[]:=by
  have:ps++[]=ps++rest:=by rw[SQ];exact ec
  exact(Xo this).symm
 subst DG
 have DH:∀e∈ps.map (λc=>D.int (cJ (ln (crs p q) c))),has .I e=true:=λe aD=>by
  obtain⟨_,_,rfl⟩:=SJ.mp aD;rfl
 refine⟨_,rfl,_,rfl,_,rfl,.I,_,.inl rfl,rfl,DH,by decide,λb1 rv=>⟨_,rfl,?_⟩⟩;cases b1 with
 |true=>
  rw[w7 (GK.mp (rv.mp rfl))]at ah;refine ml rfl ⟨_,rfl,?_⟩;refine⟨_,rfl,_,rfl,.I,_,.inl rfl,rfl,DH,by decide,λb2 oO=>⟨_,rfl,?_⟩⟩;cases b2 with
  |true=>
   rw[w7 (w8.mpr (wV.mp (oO.mp rfl)))]at ah;exact ml rfl ⟨_,rfl,eW,ah⟩
  |false=>
   rw[Bw (λz=>SP (oO.mpr (wV.mpr (w8.mp z))))]at ah;exact lH rfl ⟨vh,eW,ah⟩
 |false=>
  rw[Bw (λz=>SP (rv.mpr (GK.mpr z)))]at ah;refine lH rfl ⟨vh,?_⟩;refine⟨_,rfl,_,rfl,.I,_,.inl rfl,rfl,DH,by decide,λb2 oO=>⟨_,rfl,?_⟩⟩;cases b2 with
  |true=>
   rw[w7 (w8.mpr (wV.mp (oO.mp rfl)))]at ah;exact ml rfl ⟨_,rfl,eW,ah⟩
  |false=>
   rw[Bw (λz=>SP (oO.mpr (wV.mpr (w8.mp z))))]at ah;exact lH rfl ⟨vh,eW,ah⟩
theorem J6 :
  cj P w K mg base "cut_sheet" ["sheet","p","q"] 6 (cm K 3 ad1):=by
 refine dq Y.f_cut_sheet p3 rfl (λ_ _ _ _ _ _ _ ao=>⟨_,(aZ (jO (i:=3) p3.nd rfl (SI rfl) (fD bP)) (aZ (jO (i:=4) p3.nd rfl (SI rfl) (fD bP)) (aZ (kR PassesOwn.never rfl (gN (af 0)) (fc (n:=3) rfl (bR (cf 5 p3.nd) (bR (cf 6 p3.nd) (bR (cf 7 p3.nd) eS)))) (aZ (hG (bc (aeL B Y) ao (aB (af 5) (aB (af 1) (aB (af 2) a9)))) (fc (n:=2) rfl (bR (cf 8 p3.nd) (bR (cf 9 p3.nd) eS)))) (aZ (fM (Bn (af 8)) (bE (jQ 3 (dj (aV (af 8) (aV (af 6) (aV (af 7) bP)))))) f5) (bE (fM (Bn (af 9)) (bE (jQ 4 (dj (aV (af 9) (aV (af 6) (aV (af 7) bP)))))) f5))))) (iF 4 (iF 3 (bE (cD (dj (aV (af 3) (aV (af 4) bP)))))))))),?_⟩);rintro as k ap ⟨sh,p,q,rfl,bp,hZ,ae,va,ap,ah⟩;refine c9 rfl ?_;have gQ:5000<=TT:=by decide
 walk_at"wd";refine F8 (done:=[]) (λpre ρ=>∃mQ ir e6 eG gF,ρ=[.val (.lst (sh.map bH)),.val (aQ p),.val (aQ q),.own ((dA (ln (crs p q)) (a1 (crs p q)) pre).map bH),.own ((dA (λc => -ln (crs p q) c) (a1 (crs p q)) pre).map bH),mQ,ir,e6,eG,gF]) ⟨_,_,_,_,_,rfl⟩ ?_ ?_
 ·rintro pre x rest ρ he ⟨mQ,ir,e6,eG,gF,rfl⟩ N aJ;have he:sh=pre++x::rest:=by simpa using he
  have al:x∈sh:=by rw[he];simp
  have eh:pre.length<1000:=by have:=UF S7 he;simp at this;lia
  have c1:=sf (f:=ln (crs p q)) (mt:=a1 (crs p q)) pre;have c2:=sf (f:=λc => -ln (crs p q) c) (mt:=a1 (crs p q)) pre;refine⟨_,rfl,_,rfl,_,rfl,rfl,x.1,p,q,rfl,bp,hZ,ae x al,va x al,_,rfl,rfl,_,_,rfl,_,_,rfl,rfl,?_⟩;show qt (Ab (Bm (jm 8)) (Ah 3 (v2 (nh (jm 8) (nh (jm 6) (nh (jm 7) tz))))) z') (Ab (Bm (jm 9)) (Ah 4 (v2 (nh (jm 9) (nh (jm 6) (nh (jm 7) tz))))) z') _ [.val (.lst (sh.map bH)),.val (aQ p),.val (aQ q),.own ((dA (ln (crs p q)) (a1 (crs p q)) pre).map bH),.own ((dA (λc => -ln (crs p q) c) (a1 (crs p q)) pre).map bH),.val (.lst (x.1.map aQ)),.val (.bl x.2.1),.val (aQ x.2.2),.val (.lst ((c0 (ln (crs p q)) (a1 (crs p q)) x.1).map aQ)),.val (.lst ((c0 (λc => -ln (crs p q) c) (a1 (crs p q)) x.1).map aQ))]
  refine h9 (λρ=>ρ=[.val (.lst (sh.map bH)),.val (aQ p),.val (aQ q),.own ((dA (ln (crs p q)) (a1 (crs p q)) (pre++[x])).map bH),.own ((dA (λc => -ln (crs p q) c) (a1 (crs p q)) pre).map bH),.val (.lst (x.1.map aQ)),.val (.bl x.2.1),.val (aQ x.2.2),.val (.lst ((c0 (ln (crs p q)) (a1 (crs p q)) x.1).map aQ)),.val (.lst ((c0 (λc => -ln (crs p q) c) (a1 (crs p q)) x.1).map aQ))]) ?_ (λN aJ=>?_);rotate_left
  ·refine⟨_,rfl,_,rfl,?_⟩;cases c:(c0 (ln (crs p q)) (a1 (crs p q)) x.1).isEmpty with
   |false=>
    refine ml (by rw[U6,c];rfl) ?_;refine⟨_,rfl,_,rfl,_,rfl,_,rfl,hN,by rw[Sv];lia,aJ _ ?_⟩;rw[uh,w3 c,Sz];rfl
   |true=>
    refine lH (by rw[U6,c];rfl) (aJ _ ?_);rw[uh,w4 c,SQ]
  rintro ρ rfl;refine⟨_,rfl,_,rfl,?_⟩;cases c:(c0 (λc => -ln (crs p q) c) (a1 (crs p q)) x.1).isEmpty with
  |false=>
   refine ml (by rw[U6,c];rfl) ?_;refine⟨_,rfl,_,rfl,_,rfl,_,rfl,hN,by rw[Sv];lia,aJ _ ⟨.val (.lst (x.1.map aQ)),.val (.bl x.2.1),.val (aQ x.2.2),.val (.lst ((c0 (ln (crs p q)) (a1 (crs p q)) x.1).map aQ)),.val (.lst ((c0 (λc => -ln (crs p q) c) (a1 (crs p q)) x.1).map aQ)),?_⟩⟩;rw[uh (f:=λc => -ln (crs p q) c),w3 c,Sz (l₂:=[(c0 (λc => -ln (crs p q) c) (a1 (crs p q)) x.1,x.2)])];rfl
  |true=>
   refine lH (by rw[U6,c];rfl) (aJ _ ⟨.val (.lst (x.1.map aQ)),.val (.bl x.2.1),.val (aQ x.2.2),.val (.lst ((c0 (ln (crs p q)) (a1 (crs p q)) x.1).map aQ)),.val (.lst ((c0 (λc => -ln (crs p q) c) (a1 (crs p q)) x.1).map aQ)),?_⟩);rw[uh (f:=λc => -ln (crs p q) c),w4 c,SQ]
 rintro ρ ⟨mQ,ir,e6,eG,gF,rfl⟩;exact⟨_,rfl,_,rfl,_,rfl,_,rfl,eW,ah⟩
theorem ry :
  cj P w K mg base "at" ["x","y"] 3 (cm K 2 ad2):=by
 refine dq Y.f_at JK rfl (λ_ _ _ _ _ _ _ ao=>⟨_,(aZ (cL 2 JK.nd (bc (nM B Y) ao (aB (pi (af 0) bq (λ_ _=>rfl)) (aB (pi (af 1) bq (λ_ _=>rfl)) a9)))) (bE (cD (dj (aV (cx (pi (af 0) bq (λ_ _=>rfl)) (fo (pi (af 1) bq (λ_ _=>rfl)) (af 2))) (aV (cx (pi (af 1) bq (λ_ _=>rfl)) (fo (pi (af 0) bq (λ_ _=>rfl)) (af 2))) (aV (cx (fo (pi (af 0) bq (λ_ _=>rfl)) (af 2)) (pi (af 1) bq (λ_ _=>rfl))) bP))))))),?_⟩);rintro as k ap ⟨fv,uX,x,y,u,v,rfl,al,aP,bQ,bS,cE,lV,nA,j2,ah⟩;refine c9 rfl ?_;have eM:v≠0:=SA bS.1;have sp:=qo (t:=y) (b:=v) eM;have eb:=oh (a:=y) (b:=v) eM j2;rw[<-PL bQ bS]at ah;refine⟨_,rfl,_,_,_,al,rfl,rfl,_,rfl,_,_,_,aP,rfl,rfl,rfl,_,_,rfl,?_⟩;generalize((Ss y v:Nat):Int)=s at *;have b1:SC (v.fdiv s)<=4000:=gd (Xv _ _) j2;have b2:SC (y.fdiv s)<=4000:=gd (Xv _ _) lV;have hd:∀z:Int,SC s<=9000->vR z s:=λz _=>⟨by lia,b8 eb⟩;refine⟨_,rfl,_,_,_,al,rfl,rfl,_,rfl,_,_,_,aP,rfl,rfl,_,rfl,_,_,rfl,rfl,hd _ (b8 eb),_,_,rfl,rfl,⟨by walk_at"bits",by walk_at"bits"⟩,_,rfl,_,_,_,aP,rfl,rfl,_,rfl,_,_,_,al,rfl,rfl,_,rfl,_,_,rfl,rfl,hd _ (b8 eb),_,_,rfl,rfl,⟨by walk_at"bits",by walk_at"bits"⟩,_,rfl,_,_,_,al,rfl,rfl,_,rfl,_,_,rfl,rfl,hd _ (b8 eb),_,rfl,_,_,_,aP,rfl,rfl,_,_,rfl,rfl,⟨by walk_at"bits",by walk_at"bits"⟩,hN,?_⟩;exact ah
theorem aeO :
  cj P w K mg base "cut_upright" ["sheet","place"] 7 (cm K 2 ad4):=by
 refine dq Y.f_cut_upright ad3 rfl (λ_ _ _ _ _ _ _ ao=>⟨_,(bE (cD (bc (J6 B Y) ao (aB (af 0) (aB (bc (ry B Y) ao (aB (af 1) (aB (dj (aV bq (aV bq bP))) a9))) (aB (bc (ry B Y) ao (aB (af 1) (aB (dj (aV bq (aV bq bP))) a9))) a9)))))),?_⟩);rintro as k ap ⟨sh,x,rfl,bQ,b1,b2,ae,va,ap,ah⟩;refine c9 rfl ?_;have i7:a3 0 1:=⟨by decide,by decide⟩;have kZ:a3 1 1:=⟨by decide,by decide⟩;have dN:SC 0<=4000:=by decide
 have ii:SC 1<=4000:=by decide
 have jC:SC x.1<=4000:=b8 b1;have mc:SC x.2<=4000:=b8 b2;have aE:cp 300 (cy (x.1*1) (0*x.2) (x.2*1)):=(lU (n:=10) b1 b2 (by decide) (by decide) bQ i7).mono (by decide);have aI:cp 300 (cy (x.1*1) (1*x.2) (x.2*1)):=(lU (n:=10) b1 b2 (by decide) (by decide) bQ kZ).mono (by decide);exact⟨_,rfl,_,rfl,eW,rfl,_,_,x.1,x.2,0,1,rfl,rfl,rfl,bQ,i7,jC,mc,dN,ii,_,rfl,eW,rfl,_,_,x.1,x.2,1,1,rfl,rfl,rfl,bQ,kZ,jC,mc,ii,ii,rfl,sh,_,_,rfl,aE,aI,ae,va,ap,ah⟩
theorem aeP :
  cj P w K mg base "cut_level" ["sheet","height"] 7 (cm K 2 ad5):=by
 refine dq Y.f_cut_level Dv rfl (λ_ _ _ _ _ _ _ ao=>⟨_,(aZ (hG (bc (J6 B Y) ao (aB (af 0) (aB (bc (ry B Y) ao (aB (dj (aV bq (aV bq bP))) (aB (af 1) a9))) (aB (bc (ry B Y) ao (aB (dj (aV bq (aV bq bP))) (aB (af 1) a9))) a9)))) (fc (n:=2) rfl (bR (cf 2 Dv.nd) (bR (cf 3 Dv.nd) eS)))) (bE (cD (dj (aV (af 3) (aV (af 2) bP)))))),?_⟩);rintro as k ap ⟨sh,x,rfl,bQ,b1,b2,ae,va,ap,ah⟩;refine c9 rfl ?_;have i7:a3 0 1:=⟨by decide,by decide⟩;have kZ:a3 1 1:=⟨by decide,by decide⟩;have dN:SC 0<=4000:=by decide
 have ii:SC 1<=4000:=by decide
 have jC:SC x.1<=4000:=b8 b1;have mc:SC x.2<=4000:=b8 b2;have aE:cp 300 (cy (0*x.2) (x.1*1) (1*x.2)):=(lU (m:=10) (by decide) (by decide) b1 b2 i7 bQ).mono (by decide);have aI:cp 300 (cy (1*x.2) (x.1*1) (1*x.2)):=(lU (m:=10) (by decide) (by decide) b1 b2 kZ bQ).mono (by decide);exact⟨_,rfl,eW,_,rfl,rfl,_,_,0,1,x.1,x.2,rfl,rfl,rfl,i7,bQ,dN,ii,jC,mc,eW,_,rfl,rfl,_,_,1,1,x.1,x.2,rfl,rfl,rfl,kZ,bQ,ii,ii,jC,mc,rfl,sh,_,_,rfl,aE,aI,ae,va,ap,_,rfl,rfl,_,_,rfl,_,_,rfl,rfl,_,rfl,_,rfl,eW,ah⟩
theorem J7 :
  cj P w K mg base "slid" ["p","step"] 3 (cm K 2 ad6):=by
 refine dq Y.f_slid mN rfl (λ_ _ _ _ _ _ _ ao=>⟨_,(aZ (hG (af 0) (fc (n:=3) rfl (bR (cf 2 mN.nd) (bR (cf 3 mN.nd) (bR (cf 4 mN.nd) eS))))) (aZ (hG (af 1) (fc (n:=3) rfl (bR (cf 5 mN.nd) (bR (cf 6 mN.nd) (bR (cf 7 mN.nd) eS))))) (aZ (cL 8 mN.nd (bc (nM B Y) ao (aB (af 4) (aB (af 7) a9)))) (aZ (cL 9 mN.nd (f3 (cx (af 2) (fo (af 7) (af 8))) (cx (af 5) (fo (af 4) (af 8))))) (aZ (cL 10 mN.nd (f3 (cx (af 3) (fo (af 7) (af 8))) (cx (af 6) (fo (af 4) (af 8))))) (aZ (cL 11 mN.nd (bc (nM B Y) ao (aB (bc (nM B Y) ao (aB (af 8) (aB (af 9) a9))) (aB (af 10) a9)))) (bE (cD (dj (aV (fo (af 9) (af 11)) (aV (fo (af 10) (af 11)) (aV (cx (fo (af 4) (af 8)) (fo (af 7) (af 11))) bP)))))))))))),?_⟩);rintro as k ap ⟨p,g,rfl,J8,bp,J9,g1,ah⟩;refine c9 rfl ?_;obtain⟨a,b,n⟩:=p;obtain⟨r,w,m⟩:=g;have h1:SC a<=3000:=bp.a;have aa:SC b<=3000:=bp.b;have aH:SC n<=3000:=bp.c;have a6:SC r<=1000:=g1.a;have cH:SC w<=1000:=g1.b;have ey:SC m<=1000:=g1.c;have cd:n≠0:=SA J8.1;have dW:m≠0:=SA J9.1;have sp:=qo (t:=n) (b:=m) dW;have eb:=oh (a:=n) (b:=m) dW ey;have cr:=λX Y d=>PM (a:=a) (b:=b) (n:=n) (r:=r) (w:=w) (m:=m) J8 J9 (s:=((Ss n m:Nat):Int)) (X:=X) (Y:=Y) (d:=d) rfl;have ah:k (.val (aQ (cy (a*m+r*n) (b*m+w*n) (n*m)))):=ah;refine⟨_,rfl,_,rfl,rfl,_,_,rfl,_,_,rfl,_,_,rfl,rfl,?_⟩;refine⟨_,rfl,_,rfl,rfl,_,_,rfl,_,_,rfl,_,_,rfl,rfl,?_⟩;walk_at"w";refine⟨_,_,rfl,?_⟩;dsimp only[lE];generalize((Ss n m:Nat):Int)=s at *;have b1:SC (m.fdiv s)<=1000:=gd (Xv _ _) ey;have b2:SC (n.fdiv s)<=3000:=gd (Xv _ _) aH;have tb:SC (a*m.fdiv s+r*n.fdiv s)<=4001:=XI (TE h1 b1) (TE a6 b2);have b':SC (b*m.fdiv s+w*n.fdiv s)<=4001:=XI (TE aa b1) (TE cH b2);have cr:=λd=>cr _ _ d rfl rfl;walk_at"w";refine⟨_,_,rfl,?_⟩;dsimp only[lE];walk_at"w";refine⟨_,_,rfl,?_⟩;dsimp only[lE];generalize a*m.fdiv s+r*n.fdiv s=X at *;generalize b*m.fdiv s+w*n.fdiv s=Y at *;have cr:=cr _ rfl;have a0:=nm (a:=s) (b:=X) (.inl (SA sp))
 have fS:SC ((Ss s X:Nat):Int)<=1000:=by
  rw[TX];exact oh (SA sp) eb
 generalize((Ss s X:Nat):Int)=e at *;have dp:=nm (a:=e) (b:=Y) (.inl (SA a0))
 have J3:SC ((Ss e Y:Nat):Int)<=1000:=by
  rw[TX];exact oh (SA a0) fS
 generalize((Ss e Y:Nat):Int)=d at *;have b3:SC (m.fdiv d)<=1000:=gd (Xv _ _) ey;rw[<-cr]at ah;walk_at"w";exact ah
theorem DI :
  cj P w K mg base "moved" ["sheet","step"] 4 (cm K 2 ad8):=by
 refine dq Y.f_moved ad7 rfl (λ_ _ _ _ _ _ _ ao=>⟨_,(bE (cD (dD (kW (ts:=["ring","is_turned","elder_step"]) (fr:=["step"]) (js:=[1]) (gN (af 0)) (λ_ _ _ _=>(fc (n:=3) rfl (bR (fq (i:=0) (show SY (["ring","is_turned","elder_step","step"]:ZT) by decide +kernel) rfl (SI rfl)) (bR (fq (i:=1) (show SY (["ring","is_turned","elder_step","step"]:ZT) by decide +kernel) rfl (SI rfl)) (bR (fq (i:=2) (show SY (["ring","is_turned","elder_step","step"]:ZT) by decide +kernel) rfl (SI rfl)) eS))))) (λ_ _ _ _=>iJ) (λ_ _ _ _=>(dj (aV (dD (kW (ts:=["corner"]) (fr:=["step"]) (js:=[3]) (gN (af 0)) (λ_ _ _ _=>(fq (i:=0) (show SY (["corner","step"]:ZT) by decide +kernel) rfl (SI rfl))) (λ_ _ _ _=>iJ) (λ_ _ _ _=>(bc (J7 B Y) ao (aB (af 0) (aB (af 1) a9)))) ⟨rfl,by decide +kernel,rfl,by decide +kernel,hV (Tz.mpr ⟨rfl,(Tc _)⟩),ia rfl,by walk_at"ffr",rfl⟩)) (aV (af 1) (aV (bc (J7 B Y) ao (aB (af 2) (aB (af 3) a9))) bP))))) ⟨rfl,by decide +kernel,rfl,by decide +kernel,hV (Tz.mpr ⟨rfl,(Tc _)⟩),ia rfl,by walk_at"ffr",rfl⟩)))),?_⟩);rintro as k ap ⟨sh,g,rfl,ap,av,aF,ah⟩;refine c9 rfl ?_;have gQ:1000<=TT:=by decide
 refine⟨_,rfl,_,rfl,by rw[Sv];lia,?_⟩;refine A5 (h:=λs=>bH (lN g s)) (fs:=[.val (aQ g)]) (λs aeQ cu pp=>?_) (by rwa[SR]at ah);have l:=av s aeQ;have ln:=l.ln;refine⟨_,rfl,_,rfl,by rw[Sv];lia,?_⟩;refine mn (f:=aQ) (h:=λp=>aQ (nP (sld g p))) (fs:=[.val (aQ g)]) (λr ao gt DF=>⟨_,rfl,_,rfl,rfl,r,g,rfl,(l.ps r ao).pt,((l.ps r ao).bp.mono (by decide)),aF.pt,(aF.bp.mono (by decide)),DF⟩) ?_;refine⟨_,rfl,_,rfl,_,rfl,rfl,s.2.2,g,rfl,l.st.pt,(l.st.bp.mono (by decide)),aF.pt,(aF.bp.mono (by decide)),hN,?_⟩;rw[PV (λp=>nP (sld g p))];exact pp
theorem J' :
  cj P w K mg base "under" ["one","other"] 2 (cm K 2 ad'):=by
 refine dq Y.f_under ad9 rfl (λ_ _ _ _ _ _ _ ao=>⟨_,(bE (cD (lC (f:=λi j=>decide (i<j)) n4 (cx (ei 0) (ei 1)) (cx (ei 1) (ei 0)) (dZ _)))),?_⟩);rintro as k ap ⟨x,y,u,v,rfl,cE,lV,nA,j2,ah⟩;refine c9 rfl ?_;walk_at"w";exact ah
theorem yb :
  cj P w K mg base "against" ["one"] 2 (cm K 1 aeb):=by
 refine dq Y.f_against aea rfl (λ_ _ _ _ _ _ _ ao=>⟨_,(bE (cD (dj (aV (nc (ei 0)) (aV (ei 0) bP))))),?_⟩);rintro as k ap ⟨x,y,rfl,ah⟩;refine c9 rfl ?_;walk_at"w";exact ah
theorem aeR :
  cj P w K mg base "plus" ["one","other"] 3 (cm K 2 aec):=by
 refine dq Y.f_plus x5 rfl (λ_ _ _ _ _ _ _ ao=>⟨_,(aZ (cL 2 x5.nd (bc (nM B Y) ao (aB (ei 0) (aB (ei 1) a9)))) (aZ (cL 3 x5.nd (f3 (cx (ei 0) (fo (ei 1) (af 2))) (cx (ei 1) (fo (ei 0) (af 2))))) (aZ (cL 4 x5.nd (bc (nM B Y) ao (aB (af 2) (aB (af 3) a9)))) (bE (cD (dj (aV (fo (af 3) (af 4)) (aV (cx (fo (ei 0) (af 2)) (fo (ei 1) (af 4))) bP)))))))),?_⟩);rintro as k ap ⟨x,y,u,v,rfl,bQ,bS,cE,lV,nA,j2,ah⟩;refine c9 rfl ?_;have eM:v≠0:=SA bS.1;have sp:=qo (t:=y) (b:=v) eM;have eb:=oh (a:=y) (b:=v) eM j2;have cr:=λtop d=>PD bQ bS (s:=((Ss y v:Nat):Int)) (top:=top) (d:=d) rfl;walk_at"w";refine⟨_,_,rfl,?_⟩;dsimp only[lE];generalize((Ss y v:Nat):Int)=s at *;have b1:SC (v.fdiv s)<=4000:=gd (Xv _ _) j2;have b2:SC (y.fdiv s)<=4000:=gd (Xv _ _) lV;have tb:SC (x*v.fdiv s+u*y.fdiv s)<=8001:=XI (TE cE b1) (TE nA b2);have cr:=λd=>cr _ d rfl;walk_at"w";refine⟨_,_,rfl,?_⟩;dsimp only[lE];generalize x*v.fdiv s+u*y.fdiv s=top at *;have cr:=cr _ rfl;have dp:=nm (a:=s) (b:=top) (.inl (SA sp))
 have J3:SC ((Ss s top:Nat):Int)<=4000:=by
  rw[TX];exact oh (SA sp) eb
 generalize((Ss s top:Nat):Int)=d at *;have b3:SC (v.fdiv d)<=4000:=gd (Xv _ _) j2;rw[<-cr]at ah;walk_at"w";exact ah
theorem aeS :
  cj P w K mg base "minus" ["one","other"] 4 (cm K 2 aee):=by
 refine dq Y.f_minus aed rfl (λ_ _ _ _ _ _ _ ao=>⟨_,(bE (cD (bc (aeR B Y) ao (aB (af 0) (aB (bc (yb B Y) ao (aB (af 1) a9)) a9))))),?_⟩);rintro as k ap ⟨x,y,u,v,rfl,bQ,bS,cE,lV,nA,j2,ah⟩;refine c9 rfl ?_;refine⟨_,rfl,_,rfl,rfl,u,v,rfl,rfl,x,y,-u,v,rfl,bQ,⟨bS.1,by rw[Ua];exact bS.2⟩,cE,lV,TW nA,j2,?_⟩;rw[Us,<-Int.sub_eq_add_neg];exact ah
theorem DJ :
  cj P w K mg base "times" ["one","other"] 3 (cm K 2 aef):=by
 refine dq Y.f_times Dw rfl (λ_ _ _ _ _ _ _ ao=>⟨_,(aZ (cL 2 Dw.nd (bc (nM B Y) ao (aB (ei 0) (aB (ei 1) a9)))) (aZ (cL 3 Dw.nd (bc (nM B Y) ao (aB (ei 1) (aB (ei 0) a9)))) (bE (cD (dj (aV (cx (fo (ei 0) (af 2)) (fo (ei 1) (af 3))) (aV (cx (fo (ei 0) (af 3)) (fo (ei 1) (af 2))) bP))))))),?_⟩);rintro as k ap ⟨x,y,u,v,rfl,bQ,bS,cE,lV,nA,j2,ah⟩;refine c9 rfl ?_;have eM:v≠0:=SA bS.1;have e1:y≠0:=SA bQ.1;have cA:=qo (t:=x) (b:=v) eM;have wK:=oh (a:=x) (b:=v) eM j2;have ag:=qo (t:=u) (b:=y) e1;have ae:=oh (a:=u) (b:=y) e1 lV;rw[<-PF bQ bS]at ah;walk_at"w";refine⟨_,_,rfl,?_⟩;walk_at"w";refine⟨_,_,rfl,?_⟩;generalize((Ss x v:Nat):Int)=f at *;generalize((Ss u y:Nat):Int)=g at *;have b1:SC (x.fdiv f)<=4000:=gd (Xv _ _) cE;have b2:SC (u.fdiv g)<=4000:=gd (Xv _ _) nA;have b3:SC (y.fdiv g)<=4000:=gd (Xv _ _) lV;have b4:SC (v.fdiv f)<=4000:=gd (Xv _ _) j2;walk_at"w";exact ah
theorem Ka :
  cj P w K mg base "unsigned" ["one"] 2 (cm K 1 aeh):=by
 refine dq Y.f_unsigned aeg rfl (λ_ _ _ _ _ _ _ ao=>⟨_,(bE (cD (dj (aV (rY (ei 0) (by rfl) B.abs_) (aV (ei 0) bP))))),?_⟩);rintro as k ap ⟨x,y,rfl,ah⟩;refine c9 rfl ?_;walk_at"w";exact ah
theorem DK :
  cj P w K mg base "split" ["slope","hand","wide","sheet","part"] 8 (cm K 5 aei):=by
 refine dq Y.f_split hY rfl (λ_ _ _ _ _ _ _ ao=>⟨_,(aZ (cL 5 hY.nd (bc (aeS B Y) ao (aB (af 2) (aB (af 4) a9)))) (aZ (cL 6 hY.nd (bc (Ka B Y) ao (aB (af 0) a9))) (aZ (cL 7 hY.nd (tK (ao.units) (af 1) jM (dZ _))) (aZ (cL 8 hY.nd (tK (ao.units) (af 7) (lC (f:=λi j=>decide (j<i)) oX (ei 0) bq (dZ _)) (dZ _))) (aZ (cL 9 hY.nd (bc (DJ B Y) ao (aB (af 6) (aB (lD (fC (af 7)) (af 4) (af 5)) a9)))) (aZ (hG (bc (aeO B Y) ao (aB (af 3) (aB (lD (fC (af 8)) (af 4) (af 5)) a9))) (fc (n:=2) rfl (bR (cf 10 hY.nd) (bR (cf 11 hY.nd) eS)))) (aZ (hG (lD (fC (af 8)) (dj (aV (af 10) (aV (af 11) bP))) (dj (aV (af 11) (aV (af 10) bP)))) (fc (n:=2) rfl (bR (cf 12 hY.nd) (bR (cf 13 hY.nd) eS)))) (aZ (hG (bc (aeP B Y) ao (aB (af 13) (aB (af 9) a9))) (fc (n:=2) rfl (bR (cf 14 hY.nd) (bR (cf 15 hY.nd) eS)))) (aZ (hG (lD (fC (af 7)) (dj (aV (af 15) (aV (af 14) bP))) (dj (aV (af 14) (aV (af 15) bP)))) (fc (n:=2) rfl (bR (cf 16 hY.nd) (bR (cf 17 hY.nd) eS)))) (aZ (cL 18 hY.nd (bc (yb B Y) ao (aB (af 9) a9))) (aZ (cL 19 hY.nd (bc (ry B Y) ao (aB (lD (fC (af 8)) (tX Y.G_NOTHING (by rfl)) (bc (yb B Y) ao (aB (af 5) a9))) (aB (lD (fC (af 7)) (tX Y.G_NOTHING (by rfl)) (af 18)) a9)))) (aZ (cL 20 hY.nd (lD (fC (af 8)) (bc (yb B Y) ao (aB (af 4) a9)) (tX Y.G_NOTHING (by rfl)))) (aZ (cL 21 hY.nd (bc (ry B Y) ao (aB (af 20) (aB (lD (fC (af 7)) (af 18) (tX Y.G_NOTHING (by rfl))) a9)))) (aZ (cL 22 hY.nd (bc (ry B Y) ao (aB (af 20) (aB (lD (fC (af 7)) (tX Y.G_NOTHING (by rfl)) (af 18)) a9)))) (aZ (cL 23 hY.nd (dj (aV (af 5) (aV (bc (DJ B Y) ao (aB (af 6) (aB (af 4) a9))) (aV (bc (DI B Y) ao (aB (af 17) (aB (af 22) a9))) bP))))) (bE (cD (dj (aV (bc (DI B Y) ao (aB (af 12) (aB (af 19) a9))) (aV (bc (DI B Y) ao (aB (af 16) (aB (af 21) a9))) (aV (af 23) bP))))))))))))))))))))),?_⟩);rintro as k ap ⟨s,w,pt,hi,sh,rfl,al,av,ap,ah⟩;refine c9 (r:=[.val (dR s),.val (.str (if hi=true then"high" else"low")),.val (dR w),.val (.lst (sh.map bH)),.val (dR pt),.no,.no,.no,.no,.no,.no,.no,.no,.no,.no,.no,.no,.no,.no,.no,.no,.no,.no,.no]) rfl ?_;have gQ:1000<=TT:=by decide
 obtain⟨aq,aN,d2,ht⟩:=al.r;obtain⟨h1,aa,aH,a6⟩:=al.h hi;obtain⟨x1,hK,j0,jC⟩:=al.x hi;have i7:tW (.ktup ([0,1].map D.int))=some [.int 0,.int 1]:=rfl;have hM:a3 0 1:=⟨by decide,by decide⟩;have dN:SC 0<=4000:=by decide
 have ii:SC 1<=4000:=by decide
 have eB:∀{z:Int}{n:Nat},SC z<=n->n<=4000->SC z<=4000:=λh l=>SD h l;have ng:∀{x y:Int},a3 x y->a3 (-x) y:=λl=>⟨l.1,by rw[Ua];exact l.2⟩;have aE:=λb=>acZ al hi b av;have aI:=λb=>ac0 al hi b (aE (!spL s hi));have c8:∀b,(dU (bw s w pt hi) b sh).length<=20:=λb=>SD (HM _ _ _) ap;have cO:∀b,(fX (bt s w pt hi) b (dU (bw s w pt hi) (!spL s hi) sh)).length<=20:=λb=>SD (HN _ _ _) (c8 _)
 have i':SC (if s.1<0 then -s.1 else s.1)<=21:=by
  split
  ·exact TW al.c1
  exact al.c1
 have la:a3 (if s.1<0 then -s.1 else s.1) s.2:=by
  split
  ·exact ng al.ls
  exact al.ls
 refine mM 5 (.val (dR (bX w pt))) (λN aJ=>?_) ?_
 ·exact⟨_,rfl,_,rfl,rfl,w.1,w.2,pt.1,pt.2,rfl,al.lw,al.lp,eB al.c3 (by decide),eB al.c4 (by decide),eB al.c5 (by decide),eB al.c6 (by decide),aJ _ rfl⟩
 dsimp only[Tv];refine mM 6 (.val (dR (if s.1<0 then -s.1 else s.1,s.2))) (λN aJ=>?_) ?_
 ·exact⟨_,rfl,rfl,s.1,s.2,rfl,aJ _ rfl⟩
 dsimp only[Tv];refine mM 7 (.val (.bl (!hi))) (λN aJ=>?_) ?_
 ·refine⟨_,rfl,.S,rfl,rfl,by decide,aJ _ ?_⟩;cases hi with
  |true=>rw[show eqD (D.str (if true=true then Str.ofString "high" else Str.ofString "low")) (D.str (Str.ofString "low"))=false from HE];rfl
  |false=>rw[show eqD (D.str (if false=true then Str.ofString "high" else Str.ofString "low")) (D.str (Str.ofString "low"))=true from HF];rfl
 dsimp only[Tv];refine mM 8 (.val (.bl (spL s hi))) (λN aJ=>?_) ?_
 ·refine⟨_,rfl,_,rfl,_,_,_,.inl rfl,rfl,rfl,_,_,rfl,rfl,.B,rfl,rfl,by decide,aJ _ ?_⟩;rw[HK];rfl
 dsimp only[Tv];refine mM 9 (.val (dR (bt s w pt hi))) (λN aJ=>?_) ?_
 ·refine⟨_,rfl,_,rfl,_,rfl,?_⟩;unfold bt at aJ;cases hi with
  |true=>
   exact gB ⟨_,rfl,rfl,_,_,_,_,rfl,la,aq,eB i' (by decide),eB al.c2 (by decide),eB d2 (by decide),eB ht (by decide),aJ _ rfl⟩
  |false=>
   exact EM ⟨_,rfl,rfl,_,_,_,_,rfl,la,al.lp,eB i' (by decide),eB al.c2 (by decide),eB al.c5 (by decide),eB al.c6 (by decide),aJ _ rfl⟩
 dsimp only[Tv];refine x2 10 11 (.val (.lst ((dU (bw s w pt hi) true sh).map bH))) (.val (.lst ((dU (bw s w pt hi) false sh).map bH))) (λN aJ=>?_) ?_
 ·have Kb:∀t∈sh,∀c∈t.1,cp 1990 c/\aX c:=λt aR=>(av t aR).bp;have Kc:∀t∈sh,t.1.length<=1000:=λt aR=>SD (av t aR).ln (by decide);refine⟨_,rfl,_,rfl,_,rfl,oA (λc=>?_) (λc=>?_)⟩
  ·have ex:bw s w pt hi=pt:=by unfold bw;rw[c];rfl
   exact⟨_,rfl,rfl,sh,pt,rfl,al.lp,b8 al.c5,b8 al.c6,Kb,Kc,b8 ap,_,rfl,rfl,_,_,rfl,_,_,rfl,rfl,aJ _ (by rw[ex];rfl)⟩
  have ex:bw s w pt hi=bX w pt:=by unfold bw;rw[c];rfl
  exact⟨_,rfl,rfl,sh,bX w pt,rfl,aq,b8 d2,b8 ht,Kb,Kc,b8 ap,_,rfl,rfl,_,_,rfl,_,_,rfl,rfl,aJ _ (by rw[ex];rfl)⟩
 dsimp only[Tv];refine x2 12 13 (.val (.lst ((dU (bw s w pt hi) (spL s hi) sh).map bH))) (.val (.lst ((dU (bw s w pt hi) (!spL s hi) sh).map bH))) (λN aJ=>?_) ?_
 ·refine⟨_,rfl,_,rfl,oA (λc=>?_) (λc=>?_)⟩
  ·exact⟨_,rfl,_,rfl,eW,_,rfl,rfl,_,_,rfl,_,_,rfl,rfl,aJ _ (by rw[c];rfl)⟩
  exact⟨_,rfl,_,rfl,eW,_,rfl,rfl,_,_,rfl,_,_,rfl,rfl,aJ _ (by rw[c];rfl)⟩
 dsimp only[Tv];refine x2 14 15 (.val (.lst ((fX (bt s w pt hi) false (dU (bw s w pt hi) (!spL s hi) sh)).map bH))) (.val (.lst ((fX (bt s w pt hi) true (dU (bw s w pt hi) (!spL s hi) sh)).map bH))) (λN aJ=>?_) ?_
 ·exact⟨_,rfl,_,rfl,rfl,dU (bw s w pt hi) (!spL s hi) sh,bt s w pt hi,rfl,h1,b8 aH,b8 a6,λt aR=>(aE _ t aR).bp,λt aR=>SD (aE _ t aR).ln (by decide),SD (c8 _) (by decide),_,rfl,rfl,_,_,rfl,_,_,rfl,rfl,aJ _ rfl⟩
 dsimp only[Tv];refine x2 16 17 (.val (.lst ((fX (bt s w pt hi) (!hi) (dU (bw s w pt hi) (!spL s hi) sh)).map bH))) (.val (.lst ((fX (bt s w pt hi) hi (dU (bw s w pt hi) (!spL s hi) sh)).map bH))) (λN aJ=>?_) ?_
 ·refine⟨_,rfl,_,rfl,oA (λc=>?_) (λc=>?_)⟩
  ·have f4:hi=false:=by cases hi<;>first|rfl|cases c
   exact⟨_,rfl,_,rfl,eW,_,rfl,rfl,_,_,rfl,_,_,rfl,rfl,aJ _ (by subst f4;rfl)⟩
  have ej:hi=true:=by cases hi<;>first|rfl|cases c
  exact⟨_,rfl,_,rfl,eW,_,rfl,rfl,_,_,rfl,_,_,rfl,rfl,aJ _ (by subst ej;rfl)⟩
 dsimp only[Tv];refine mM 18 (.val (dR (-(bt s w pt hi).1,(bt s w pt hi).2))) (λN aJ=>?_) ?_
 ·exact⟨_,rfl,rfl,(bt s w pt hi).1,(bt s w pt hi).2,rfl,aJ _ rfl⟩
 dsimp only[Tv];refine mM 19 (.val (aQ (stA s w pt hi))) (λN aJ=>?_) ?_
 ·refine⟨_,rfl,_,rfl,oA (λc=>?_) (λc=>?_)⟩
  ·refine⟨_,rfl,_,rfl,oA (λe=>?_) (λe=>?_)⟩
   ·have f4:hi=false:=by cases hi<;>first|rfl|cases e
    exact⟨rfl,_,_,0,1,0,1,rfl,i7,i7,hM,hM,dN,ii,dN,ii,aJ _ (by unfold stA;rw[c,f4];rfl)⟩
   have ej:hi=true:=by cases hi<;>first|rfl|cases e
   exact⟨_,rfl,rfl,_,_,0,1,-(bt s w pt hi).1,(bt s w pt hi).2,rfl,i7,rfl,hM,ng h1,dN,ii,eB (TW aH) (by decide),eB a6 (by decide),aJ _ (by rw[show stA s w pt hi=_ from by unfold stA;rw[c,Tk ej]];rfl)⟩
  refine⟨_,rfl,rfl,(bX w pt).1,(bX w pt).2,rfl,_,rfl,_,rfl,oA (λe=>?_) (λe=>?_)⟩
  ·have f4:hi=false:=by cases hi<;>first|rfl|cases e
   exact⟨rfl,_,_,-(bX w pt).1,(bX w pt).2,0,1,rfl,rfl,i7,ng aq,hM,eB (TW d2) (by decide),eB ht (by decide),dN,ii,aJ _ (by unfold stA;rw[c,f4];rfl)⟩
  have ej:hi=true:=by cases hi<;>first|rfl|cases e
  exact⟨_,rfl,rfl,_,_,-(bX w pt).1,(bX w pt).2,-(bt s w pt hi).1,(bt s w pt hi).2,rfl,rfl,rfl,ng aq,ng h1,eB (TW d2) (by decide),eB ht (by decide),eB (TW aH) (by decide),eB a6 (by decide),aJ _ (by rw[show stA s w pt hi=_ from by unfold stA;rw[c,Tk ej]];rfl)⟩
 dsimp only[Tv];refine mM 20 (.val (if spL s hi=true then dR (-pt.1,pt.2)else .ktup ([0,1].map D.int))) (λN aJ=>?_) ?_
 ·refine⟨_,rfl,_,rfl,oA (λc=>?_) (λc=>?_)⟩
  ·exact⟨_,rfl,rfl,pt.1,pt.2,rfl,aJ _ (by rw[Tk c])⟩
  exact aJ _ (by rw[c];rfl)
 dsimp only[Tv]
 have aeT:∃a b:Int,tW (if spL s hi=true then dR (-pt.1,pt.2)else .ktup ([0,1].map D.int))=some [.int a,.int b]/\a3 a b/\SC a<=4000/\SC b<=4000/\(if spL s hi=true then(-pt.1,pt.2)else(0,1))=(a,b):=by
  by_cases c:spL s hi=true
  ·rw[Tk c,Tk c];exact⟨-pt.1,pt.2,rfl,ng al.lp,eB (TW al.c5) (by decide),eB al.c6 (by decide),rfl⟩
  rw[Tl c,Tl c];exact⟨0,1,rfl,hM,dN,ii,rfl⟩
 obtain⟨yc,sC,ff,i2,pw,jY,py⟩:=aeT;refine mM 21 (.val (aQ (stB s w pt hi))) (λN aJ=>?_) ?_
 ·refine⟨_,rfl,_,rfl,_,rfl,oA (λe=>?_) (λe=>?_)⟩
  ·have f4:hi=false:=by cases hi<;>first|rfl|cases e
   exact⟨_,rfl,rfl,_,_,yc,sC,-(bt s w pt hi).1,(bt s w pt hi).2,rfl,ff,rfl,i2,ng h1,pw,jY,eB (TW aH) (by decide),eB a6 (by decide),aJ _ (by rw[show stB s w pt hi=_ from by unfold stB;rw[py,Tl (by rw[f4];exact SP)]];rfl)⟩
  have ej:hi=true:=by cases hi<;>first|rfl|cases e
  exact⟨rfl,_,_,yc,sC,0,1,rfl,ff,i7,i2,hM,pw,jY,dN,ii,aJ _ (by rw[show stB s w pt hi=_ from by unfold stB;rw[py,Tk ej]];rfl)⟩
 dsimp only[Tv];refine mM 22 (.val (aQ (stC s w pt hi))) (λN aJ=>?_) ?_
 ·refine⟨_,rfl,_,rfl,_,rfl,oA (λe=>?_) (λe=>?_)⟩
  ·have f4:hi=false:=by cases hi<;>first|rfl|cases e
   exact⟨rfl,_,_,yc,sC,0,1,rfl,ff,i7,i2,hM,pw,jY,dN,ii,aJ _ (by rw[show stC s w pt hi=_ from by unfold stC;rw[py,Tl (by rw[f4];exact SP)]];rfl)⟩
  have ej:hi=true:=by cases hi<;>first|rfl|cases e
  exact⟨_,rfl,rfl,_,_,yc,sC,-(bt s w pt hi).1,(bt s w pt hi).2,rfl,ff,rfl,i2,ng h1,pw,jY,eB (TW aH) (by decide),eB a6 (by decide),aJ _ (by rw[show stC s w pt hi=_ from by unfold stC;rw[py,Tk ej]];rfl)⟩
 dsimp only[Tv];have aeU:=(al.stA hi).mono (show 400<=450 by decide);have aeV:=(al.stB hi).mono (show 400<=450 by decide);have aeW:=(al.stC hi).mono (show 400<=450 by decide);refine mM 23 (.val (.tup [dR (bX w pt),dR (bB s pt),.lst ((g4 s w pt hi sh).map bH)])) (λN aJ=>?_) ?_
 ·exact⟨_,rfl,_,rfl,_,rfl,rfl,_,_,pt.1,pt.2,rfl,la,al.lp,eB i' (by decide),eB al.c2 (by decide),eB al.c5 (by decide),eB al.c6 (by decide),_,rfl,_,rfl,rfl,fX (bt s w pt hi) hi (dU (bw s w pt hi) (!spL s hi) sh),stC s w pt hi,rfl,SD (cO _) (by decide),(λx aA=>(aI _ x aA).gm (by decide)),aeW,hN,aJ _ rfl⟩
 dsimp only[Tv];exact⟨_,rfl,_,rfl,rfl,dU (bw s w pt hi) (spL s hi) sh,stA s w pt hi,rfl,SD (c8 _) (by decide),λx aA=>(aE _ x aA).gm (by decide),aeU,_,rfl,_,rfl,rfl,fX (bt s w pt hi) (!hi) (dU (bw s w pt hi) (!spL s hi) sh),stB s w pt hi,rfl,SD (cO _) (by decide),(λx aA=>(aI _ x aA).gm (by decide)),aeV,_,rfl,hN,ah⟩
theorem yd :
  cj P w K mg base "copied" ["sheet"] 2 (cm K 1 JL):=by
 refine dq Y.f_copied aej rfl (λ_ _ _ _ _ _ _ ao=>⟨_,(bE (Ac (kW (ts:=["ring","is_turned","step"]) (fr:=[]) (js:=[]) (gN (af 0)) (λ_ _ _ _=>(fc (n:=3) rfl (bR (fq (i:=0) (show SY (["ring","is_turned","step"]:ZT) by decide +kernel) rfl (SI rfl)) (bR (fq (i:=1) (show SY (["ring","is_turned","step"]:ZT) by decide +kernel) rfl (SI rfl)) (bR (fq (i:=2) (show SY (["ring","is_turned","step"]:ZT) by decide +kernel) rfl (SI rfl)) eS))))) (λ_ _ _ _=>iJ) (λ_ _ _ _=>(dj (aV (dD (NR (af 0) (by rfl) B.list_)) (aV (af 1) (aV (af 2) bP))))) ⟨rfl,by decide +kernel,rfl,by decide +kernel,hV (Tc _),ia rfl,by walk_at"ffr",rfl⟩))),?_⟩);rintro as k ap ⟨sh,rfl,ap,ah⟩;refine c9 rfl ?_;refine⟨_,rfl,_,rfl,by rw[Sv,Vz];lia,?_⟩;exact A5 (h:=bH) (fs:=[]) (λs av cu pp=>⟨_,rfl,_,.inl rfl,_,rfl,_,rfl,hN,pp⟩) ah
theorem aeX :
  cj P w K mg base "alike" ["ones","others"] 3 (cm K 2 aek):=by
 refine dq Y.f_alike oN rfl (λ_ _ _ _ _ _ _ ao=>⟨_,(aZ (aaw (b:=false) (i:=2) oN.nd rfl (SI rfl)) (aZ (kR PassesOwn.never rfl (gN (af 1)) (fc (n:=2) rfl (bR (cf 3 oN.nd) (bR (cf 4 oN.nd) eS))) (bE (aaz (b:=false) 2 (pF ao) (af 3) (af 4)))) (aZ (jO (i:=5) oN.nd rfl (SI rfl) (fD bP)) (aZ (jO (i:=6) oN.nd rfl (SI rfl) (fD bP)) (aZ (kR PassesOwn.never rfl (gN (af 0)) (fc (n:=2) rfl (bR (cf 3 oN.nd) (bR (cf 4 oN.nd) eS))) (bE (fM (abU (b:=false) 2 (pF ao) (af 3)) (bE (ab1 5 (ab8 (xU (I1 (af 3)) (xU (I1 (bc (yd B Y) ao (aB (af 4) a9))) (xU (ab9 (yd B Y) ao (by rfl) (xU (abY (b:=false) 2 (pF ao) (af 3) (λ_ _=>rfl)) I7)) I7)))))) (bE (jQ 6 (dj (aV (af 3) (aV (bc (yd B Y) ao (aB (af 4) a9)) bP)))))))) (aaG 2 (aZ (acm (i:=7) oN.nd rfl rfl (ts:=["wide","sheets","sheet"]) (fr:=[]) (js:=[]) (aaj (af 2)) (λ_ _ _ _=>(fc (n:=2) rfl (bR (fq (i:=0) (show SY (["wide","sheets","sheet"]:ZT) by decide +kernel) rfl (SI rfl)) (bR (fq (i:=1) (show SY (["wide","sheets","sheet"]:ZT) by decide +kernel) rfl (SI rfl)) eS)))) (λ_ _ _ _=>iJ) (λ_ _ _ _=>(gN (af 1))) (λ_ _ _ _=>(fq (i:=2) (show SY (["wide","sheets","sheet"]:ZT) by decide +kernel) rfl (SI rfl))) (λ_ _ _ _=>iJ) (λ_ _ _ _=>(dj (aV (af 0) (aV (bc (yd B Y) ao (aB (af 2) a9)) bP)))) ⟨rfl,by decide +kernel,rfl,by decide +kernel,hV (Tc _),ia rfl,by walk_at"ffr",rfl⟩) (bE (acC 5 6 7 (by decide) (by decide) (by decide)))))))))),?_⟩);rintro as k ap ⟨os,ts,rfl,ax,aR,ag,ah⟩;refine c9 rfl ?_;have gQ:5000<=TT:=by decide
 intro a;dsimp only;refine h9 (λρ=>∃(ks:List ZZ)(as:ZV)(dss:Z0)(af ef:aK),ρ=[.val (.lst (os.map dC)),.val (.lst (ts.map dC)),.deep (.dl false a ks as dss),af,ef,.no,.no,.no]/\dss.length=ks.length/\(fI ks dss).Perm (ts.map dC)/\ks.length<=40) ?_ (λN aJ=>?_);rotate_left
 ·refine⟨_,rfl,_,rfl,?_⟩;refine xn (f:=λc:dw=>dR c.1) (g:=λc:dw=>.lst (c.2.map bH)) (rs:=ts) (done:=[]) (λpre ρ=>∃(ks:List ZZ)(as:ZV)(dss:Z0)(af ef:aK),ρ=[.val (.lst (os.map dC)),.val (.lst (ts.map dC)),.deep (.dl false a ks as dss),af,ef,.no,.no,.no]/\dss.length=ks.length/\(fI ks dss).Perm (pre.map dC)/\ks.length<=pre.length) ⟨[],[],[],_,_,rfl,rfl,Wm _,SF _⟩ ?_ (λρ ⟨ks,as,dss,af,ef,e,h1,aa,aH⟩=>aJ _ ⟨ks,as,dss,af,ef,e,h1,aa,SD aH aR⟩);rintro pre c rest ρ he ⟨ks,as,dss,af,ef,rfl,h1,aa,aH⟩ N aJ;have eh:pre.length<40:=by have:=UF S7 he;rw[Te,Sx,SM]at this;lia
  have iT:=aa.length_eq;rw[Sv]at iT;refine⟨a,ks,as,dss,rfl,_,rfl,rn c.1,rfl,λ_=>⟨_,rfl⟩,by lia,h1,λds hd=>by have:=(Di hd).2;lia,λas1 dss1=>⟨_,rfl,?_⟩⟩;refine aJ _ ⟨_,as1,_,_,_,rfl,aaq h1,?_,?_⟩
  ·rw[Sz];exact(acV h1).trans ((aa.cons _).trans (Xj _ _).symm)
  rw[Sx,Tn];unfold eO;split
  ·lia
  rw[Sx,Tn];lia
 rintro ρ ⟨ks,as,dss,af,ef,rfl,h1,aa,aH⟩;refine⟨Ti _,Ti _,?_⟩;dsimp only;refine h9 (λρ=>∃(ks:List ZZ)(as:ZV)(dss:Z0)(ps:ZS)(ip:ZO)(af ef:aK),ρ=[.val (.lst (os.map dC)),.val (.lst (ts.map dC)),.deep (.dl false a ks as dss),af,ef,.own (ps.map nK),.own (ip.map dC),.no]/\dss.length=ks.length/\((ps.map λp=>dC (p.1,p.2.2))++fI ks dss).Perm (ts.map dC)/\(ps.map (λp=>(p.1,p.2.1))++ip).Perm os) ?_ (λN aJ=>?_);rotate_left
 ·refine⟨_,rfl,_,rfl,?_⟩;refine xn (f:=λc:dw=>dR c.1) (g:=λc:dw=>.lst (c.2.map bH)) (rs:=os) (done:=[]) (λpre ρ=>∃(as:ZV)(dss:Z0)(ps:ZS)(ip:ZO)(af ef:aK),ρ=[.val (.lst (os.map dC)),.val (.lst (ts.map dC)),.deep (.dl false a ks as dss),af,ef,.own (ps.map nK),.own (ip.map dC),.no]/\dss.length=ks.length/\((ps.map λp=>dC (p.1,p.2.2))++fI ks dss).Perm (ts.map dC)/\(ps.map (λp=>(p.1,p.2.1))++ip).Perm pre) ⟨as,dss,[],[],_,_,rfl,h1,aa,Wm _⟩ ?_ (λρ ⟨as,dss,ps,ip,af,ef,e,h1,aa,aH⟩=>aJ _ ⟨ks,as,dss,ps,ip,af,ef,e,h1,aa,aH⟩);clear h1 aa as dss af ef;rintro pre c rest ρ he ⟨as,dss,ps,ip,af,ef,rfl,h1,aa,a6⟩ N aJ;have he:os=pre++c::rest:=by simpa using he
  have hc:c∈os:=by rw[he];simp
  have bM:=ag c (TC _ hc);have eh:pre.length<40:=by have:=UF S7 he;rw[Sx,SM]at this;lia
  have JO:=a6.length_eq;rw[Sx,Sv]at JO;have no:ip.length<40/\ps.length<40:=by lia
  refine⟨a,ks,as,dss,rfl,_,rfl,rn c.1,rfl,λ_=>⟨_,rfl⟩,?_⟩;have left:=aJ [.val (.lst (os.map dC)),.val (.lst (ts.map dC)),.deep (.dl false a ks as dss),.val (dR c.1),.val (.lst (c.2.map bH)),.own (ps.map nK),.own (ip.map dC++[dC c]),.no] ⟨as,dss,ps,ip++[c],_,_,by rw[Sz];rfl,h1,aa,by rw[<-SV];exact a6.append_right _⟩;cases q:bo ks dss (rn c.1)with
  |none=>exact lH rfl ⟨_,rfl,_,rfl,_,rfl,rfl,c.2,rfl,bM,eW,by rw[Sv];lia,left⟩
  |some ds=>
   rcases VA ds with rfl|⟨es,d,rfl⟩
   ·exact lH rfl ⟨_,rfl,_,rfl,_,rfl,rfl,c.2,rfl,bM,eW,by rw[Sv];lia,left⟩
   rw[VB]at q⊢;obtain⟨t,vb,bW⟩:=SJ.mp (aa.mem_iff.mp (S5 _ ((Di q).1 d (by simp))));obtain⟨dg,cU⟩:=Jq bW;subst cU;have eK:=ag t (S5 _ vb);obtain⟨p1,p2⟩:=Jp q;refine ml (by cases es<;>rfl) ⟨⟨_,rfl⟩,_,rfl,_,rfl,rfl,c.2,rfl,bM,?_⟩;refine⟨a,ks,as,dss,rfl,_,rfl,rn c.1,es,_,rfl,λ_=>⟨_,rfl⟩,q,rfl,t.2,rfl,eK,hN,_,rfl,by rw[Sv];lia,aJ _ ⟨as,_,ps++[(c.1,c.2,t.2)],ip,_,_,by rw[Sz];rfl,by rw[p2];exact h1,?_,?_⟩⟩
   ·rw[Sz,SV];refine Wo (Xp _ ?_) aa;have e:jc (rn c.1) (.lst (t.2.map bH))=dC (c.1,t.2):=rfl;rw[e]at p1;exact p1.symm
   rw[Sz,SV];refine Wo (Xp _ ?_) (Wo (by rw[<-SV]) (a6.append_right [c]));exact List.perm_append_comm
 rintro ρ ⟨ks,as,dss,ps,ip,af,ef,rfl,h1,aa,a6⟩;refine⟨_,_,_,_,_,rfl,_,rfl,false,ks,_,rfl,by rw[Sv];exact h1,?_⟩;rw[u5.1]
 have x9:∀x∈fI ks dss,∃t:dw,t∈ts/\dC t=x:=λx al=>by
  obtain⟨t,vb,bW⟩:=SJ.mp (aa.mem_iff.mp (S5 _ al));exact⟨t,vb,bW⟩
 have iT:(fI ks dss).length<=40:=by have:=aa.length_eq;rw[Sx,Sv,Sv]at this;lia
 refine Da (xs:=ks.zip dss) (f:=λx=>D.tup [gr false x.1,.lst x.2]) (h:=λx=>x.2.map (jc x.1)) (I:=λρ=>∃a b c,ρ=[a,b,c]) (n:=0) (L:=4096) (λx al n ρ k i aO ah=>?_) ⟨_,_,_,rfl⟩ (by rw[<-u5.2];lia) (λbi _=>?_)
 ·obtain⟨a,b,c,rfl⟩:=i;refine⟨_,rfl,rfl,_,_,rfl,_,_,rfl,rfl,_,rfl,_,rfl,?_⟩;have bb:(x.2.flatMap λd=>[jc x.1 d])=x.2.map (jc x.1):=by rw[List.map_eq_flatMap]
  suffices z:lf (fb 2) iI (C1 (v2 (nh (jm 0) (nh (v3 1 JL (z9 (jm 2) z8)) tz)))) (x.2.map id) n [.val (gr false x.1),.val (.lst x.2),c] k by rwa [List.map_id]at z
  refine Da (f:=id) (h:=λd=>[jc x.1 d]) (I:=λρ=>∃c,ρ=[.val (gr false x.1),.val (.lst x.2),c]) (L:=4096) (λd hd n ρ k i aO ah=>?_) ⟨_,rfl⟩ (by rw[bb];exact aO) (λbi ⟨c,e⟩=>by rw[bb];exact ah bi ⟨_,_,_,e⟩);obtain⟨c,rfl⟩:=i;obtain⟨t,vb,bW⟩:=x9 (jc x.1 d) (by rw[u5.2];exact List.mem_flatMap.mpr ⟨x,al,SJ.mpr ⟨d,hd,rfl⟩⟩);have b0:=acW bW;subst b0;have aO:n+1<=4096:=aO;exact⟨by lia,_,rfl,_,rfl,rfl,t.2,rfl,ag t (S5 _ vb),eW,ah _ ⟨_,rfl⟩⟩
 rw[<-u5.2]
 obtain⟨eK,d6⟩:=Jr (f:=dC) (l:=fI ks dss) λx al=>by
  obtain⟨t,_,bW⟩:=x9 x al;exact⟨t,bW.symm⟩
 rw[d6]at aa⊢
 have ey:(ps.map (λp=>(p.1,p.2.2))++eK).Perm ts:=by
  have gs:(ps.map λp=>dC (p.1,p.2.2))++eK.map dC=((ps.map λp=>(p.1,p.2.2))++eK).map dC:=by rw[Sz,SR];rfl
  rw[gs]at aa;obtain⟨e0,aM,a4⟩:=sN aa rfl;rwa[(Wk λ_ _ h=>acY h).mp a4]at aM
 exact⟨_,_,_,rfl,rfl,rfl,λp as=>ah ps ip eK a6 ey p as⟩
theorem aeY :
  cj P w K mg base "ranks" ["ratios"] 2 (cm K 1 ael):=by
 refine dq Y.f_ranks JM rfl (λ_ _ _ _ _ _ _ ao=>⟨_,(aZ (v6 (i:=1) JM.nd rfl (Uh rfl) (abC ao (dD (kW (ts:=["top","bottom"]) (fr:=[]) (js:=[]) (gN (af 0)) (λ_ _ _ _=>(fc (n:=2) rfl (bR (fq (i:=0) (show SY (["top","bottom"]:ZT) by decide +kernel) rfl (SI rfl)) (bR (fq (i:=1) (show SY (["top","bottom"]:ZT) by decide +kernel) rfl (SI rfl)) eS)))) (λ_ _ _ _=>iJ) (λ_ _ _ _=>(af 1)) ⟨rfl,by decide +kernel,rfl,by decide +kernel,hV (Tc _),ia rfl,by walk_at"ffr",rfl⟩)) bq (by rfl) B.max_)) (bE (Ac (kW (ts:=["top","bottom"]) (fr:=["most"]) (js:=[1]) (gN (af 0)) (λ_ _ _ _=>(fc (n:=2) rfl (bR (fq (i:=0) (show SY (["top","bottom","most"]:ZT) by decide +kernel) rfl (SI rfl)) (bR (fq (i:=1) (show SY (["top","bottom","most"]:ZT) by decide +kernel) rfl (SI rfl)) eS)))) (λ_ _ _ _=>iJ) (λ_ _ _ _=>(fo (cx (cx (af 0) (af 2)) (af 2)) (af 1))) ⟨rfl,by decide +kernel,rfl,by decide +kernel,hV (Tz.mpr ⟨rfl,(Tc _)⟩),ia rfl,by walk_at"ffr",rfl⟩)))),?_⟩);rintro as k ap ⟨cs,rfl,ap,hc,ah⟩;refine c9 rfl ?_;have bT:(cs.map dR).length<=TT:=by rw[Sv,Vz];lia
 refine⟨_,rfl,_,rfl,bT,?_⟩;refine Cp (h:=λr=>.int r.2) (λr _ k ah=>⟨_,rfl,ah⟩) ?_;refine⟨cs.map (·.2),by rw[SR];rfl,1,rfl,λm aA=>?_⟩
 have ep:SC m<=900:=by
  rcases aA with rfl|aA
  ·decide
  obtain⟨c,h,rfl⟩:=SJ.mp aA;exact(hc c h).2.2
 refine⟨_,rfl,_,rfl,bT,?_⟩;refine Cp (h:=λr=>.int ((r.1*m*m).fdiv r.2)) (λr h k ah=>?_) ?_
 ·obtain⟨h0,h1,aa⟩:=hc r h;have aG:SC (r.1*m)<=9000:=SD (TE h1 ep) (by decide);exact⟨_,rfl,_,rfl,r.1,m,rfl,rfl,⟨by lia,by lia⟩,_,rfl,r.1*m,m,rfl,rfl,⟨aG,by lia⟩,_,rfl,r.1*m*m,r.2,rfl,rfl,⟨by lia,by lia⟩,ah⟩
 have:=ah (cs.map λr=>(r.1*m*m).fdiv r.2) (by simp)
 rwa [SR]at this
theorem Kd :
  cj P w K mg base "widest_last" ["corners"] 3 (cm K 1 aem):=by
 refine abE Y.f_widest_last Y.L_widest_last Dx rfl (λf cdv A outer s H E LT ao=>⟨_,(aZ (v6 (i:=2) Dx.nd rfl (Uh rfl) (bc (aeY B Y) ao (aB (dD (kW (ts:=["wide","sheet"]) (fr:=[]) (js:=[]) (gN (af 0)) (λ_ _ _ _=>(fc (n:=2) rfl (bR (fq (i:=0) (show SY (["wide","sheet"]:ZT) by decide +kernel) rfl (SI rfl)) (bR (fq (i:=1) (show SY (["wide","sheet"]:ZT) by decide +kernel) rfl (SI rfl)) eS)))) (λ_ _ _ _=>iJ) (λ_ _ _ _=>(af 0)) ⟨rfl,by decide +kernel,rfl,by decide +kernel,hV (Tc _),ia rfl,by walk_at"ffr",rfl⟩)) a9))) (aZ (cL 1 Dx.nd (dD (abq (x:="place") (fr:=["order"]) (js:=[2]) ao (kP (af 0) (by rfl) B.len_) (by rfl) B.range_ (by rfl) B.sorted_ LT rfl rfl (abF rfl rfl rfl rfl rfl rfl (by decide) rfl rfl rfl) (by decide) (λ_ _ _ _=>rfl) (λ_ _ _ _=>(gD (af 1) (af 0) (λ_ _=>rfl)))))) (bE (Ac (kW (ts:=["place"]) (fr:=["corners"]) (js:=[0]) (gN (af 1)) (λ_ _ _ _=>(fq (i:=0) (show SY (["place","corners"]:ZT) by decide +kernel) rfl (SI rfl))) (λ_ _ _ _=>iJ) (λ_ _ _ _=>(gD (af 1) (af 0) (λ_ _=>rfl))) ⟨rfl,by decide +kernel,rfl,by decide +kernel,hV (Tz.mpr ⟨rfl,(Tc _)⟩),ia rfl,by walk_at"ffr",rfl⟩))))),?_⟩);rintro as k ap ⟨cs,rfl,ap,hc,ah⟩;refine c9 rfl ?_;have bT:(cs.map ru).length<=TT:=by rw[Sv,Vz];lia
 refine⟨_,rfl,_,rfl,bT,?_⟩;refine Iv (f:=λc:F2×D=>dR c.1) (g:=λc=>c.2) (h:=λc=>dR c.1) (λr _ k ah=>⟨_,rfl,ah⟩) ?_;refine⟨rfl,cs.map Vs,by rw[SR];rfl,by rw[Sv];exact ap,λc h=>?_,λns aO=>?_⟩
 ·obtain⟨z,hz,rfl⟩:=SJ.mp h;exact hc z hz
 rw[Sv]at aO;refine⟨_,rfl,cs.length,by simp[rX],cs.length,rfl,λd=>match d with|.int i=>ns.getD i.toNat 0|_=>0,by simpa using ap,λj bC=>?_,λd hd=>?_,λds' p1 _=>?_⟩
 ·rcases SN.mp bC with rfl
  intro z;cases z
 ·obtain⟨i,hi,rfl⟩:=SJ.mp hd;have lt:i<ns.length:=by rw[aO];exact TB.mp hi
  refine⟨_,rfl,_,rfl,ns.map D.int,i,.int (ns[i]),.inr rfl,rfl,qJ (AO lt),?_⟩;simp[List.getD,lt]
 obtain⟨is,DL,rfl⟩:=sN p1 rfl;refine⟨_,rfl,_,rfl,?_,?_⟩
 ·rw[Sv,DL.length_eq,U1,Vz];lia
 refine mn (f:=λi:Nat=>D.int i) (h:=λi=>ru ((cs[i]?).getD ((0,0),.non))) (λi hi k ah=>?_) ?_
 ·have lt:i<cs.length:=TB.mp (DL.mem_iff.mp hi);refine⟨_,rfl,_,rfl,cs.map ru,i,ru cs[i],.inr rfl,rfl,qJ (AO lt),?_⟩;rwa[SU lt]at ah
 have:=ah (is.map λi=>(cs[i]?).getD ((0,0),.non)) ?_
 ·rwa [SR]at this
 have e:(S4 cs.length).map (λi=>(cs[i]?).getD ((0,0),.non))=cs:=by
  refine List.ext_getElem (by simp) λi h1 aa=>?_;simp[aa]
 have:=DL.map λi=>(cs[i]?).getD ((0,0),D.non)
 rwa [e]at this
theorem aeZ :
  cj P w K mg base "matched" ["slope","hand","ones","other_hand","others"] 9 (cm K 5 aen):=by
 refine dq Y.f_matched jG rfl (λ_ _ _ _ _ _ _ ao=>⟨_,(aZ (acJ (i:=5) (j:=2) (k:=4) (aeX B Y) ao (by rfl) rfl (aB (af 2) (aB (af 4) a9)) jG.nd (by decide) (by decide) (by decide) rfl rfl rfl (SI rfl) (SI rfl) (SI rfl)) (iF 4 (iF 2 (aZ (acM (i:=2) (j:=4) rfl jG.nd rfl rfl (by decide) rfl rfl (E6 (Kd B Y) ao (by rfl) (aB (af 2) a9)) (E6 (Kd B Y) ao (by rfl) (aB (af 4) a9)) rfl) (aZ (jO (i:=6) jG.nd rfl (SI rfl) (fD bP)) (aZ (jO (i:=7) jG.nd rfl (SI rfl) (fD bP)) (aZ (Ae PassesOwn.never (nf (w_and (I' 2) (E4 (I' 4)))) (aZ (CZ (I6 2) (fc (n:=2) rfl (bR (cf 8 jG.nd) (bR (cf 9 jG.nd) eS)))) (aZ (CZ (I6 4) (fc (n:=2) rfl (bR (cf 10 jG.nd) (bR (cf 11 jG.nd) eS)))) (aZ (fM (fC (bc (J' B Y) ao (aB (af 10) (aB (af 8) a9)))) (aZ (hG (bc (DK B Y) ao (aB (af 0) (aB (af 1) (aB (af 8) (aB (af 9) (aB (af 10) a9)))))) (fc (n:=3) rfl (bR (cf 9 jG.nd) (bR (cf 12 jG.nd) (bR (cf 13 jG.nd) eS))))) (aZ (jQ 2 (dj (aV (ei 13) (aV (af 12) bP)))) (aZ (jQ 6 (af 13)) (bE (cL 8 jG.nd (af 10)))))) (bE (fM (fC (bc (J' B Y) ao (aB (af 8) (aB (af 10) a9)))) (aZ (hG (bc (DK B Y) ao (aB (af 0) (aB (af 3) (aB (af 10) (aB (af 11) (aB (af 8) a9)))))) (fc (n:=3) rfl (bR (cf 11 jG.nd) (bR (cf 12 jG.nd) (bR (cf 13 jG.nd) eS))))) (aZ (jQ 4 (dj (aV (ei 13) (aV (af 12) bP)))) (bE (jQ 7 (af 13))))) f5))) (bE (jQ 5 (dj (aV (af 8) (aV (af 9) (aV (af 11) bP)))))))))) (iF 4 (iF 2 (iF 7 (iF 6 (iF 5 (bE (cD (dj (aV (af 5) (aV (af 6) (aV (af 7) (aV (af 2) (aV (af 4) bP)))))))))))))))))))),?_⟩);rintro as k ap ⟨s,Wd,L,eP,dS,hi,ax,os,ts,rfl,bI,Ke,aO,co,ct,ah⟩;refine c9 rfl ?_;have gQ:5000<=TT:=by decide
 have wd:∀{dY:Bool}{j:Nat}{c:dw},gS s Wd L dY j c->0<c.1.2/\SC c.1.1<=900/\SC c.1.2<=900:=λh=>by
  obtain⟨a,b,c,d⟩:=bI.lw _ h.w;exact⟨a.1,by lia,by lia⟩
 have ye:∀l:ZO,(l.map λc=>(c.1,D.lst (c.2.map bH))).map ru=l.map dC:=λl=>by rw[SR];rfl
 refine⟨_,rfl,_,rfl,rfl,os,ts,rfl,by lia,by lia,λc hc=>?_,λps ip eK aM a4 p as=>⟨_,_,_,_,_,rfl,?_⟩⟩
 ·rcases SK.mp hc with z|z
  ·have:=(co c z).ln;lia
  have:=(ct c z).ln;lia
 have c8:=aM.length_eq;have cO:=a4.length_eq;rw[Sx,Sv]at c8 cO;refine⟨_,rfl,_,rfl,_,rfl,rfl,ip.map (λc=>(c.1,D.lst (c.2.map bH))),by rw[ye];rfl,by rw[Sv];lia,λc hc=>?_,λx6 g6=>⟨_,rfl,?_⟩⟩
 ·obtain⟨c,z,rfl⟩:=SJ.mp hc;exact wd (co c (aM.mem_iff.mp (S5 _ z)))
 obtain⟨ae0,po,rfl⟩:=sN g6 rfl;refine⟨_,rfl,rfl,eK.map (λc=>(c.1,D.lst (c.2.map bH))),by rw[ye];rfl,by rw[Sv];lia,λc hc=>?_,λx6 g6=>⟨_,rfl,?_⟩⟩
 ·obtain⟨c,z,rfl⟩:=SJ.mp hc;exact wd (ct c (a4.mem_iff.mp (S5 _ z)))
 obtain⟨ae1,pt,rfl⟩:=sN g6 rfl;rw[ye,ye];have a7:=g7.start co ((po.append_left (p1 ps)).trans aM);have a5:=g7.start ct ((pt.append_left (p2 ps)).trans a4);have bQ:=po.length_eq;have bS:=pt.length_eq;refine⟨Ti _,Ti _,?_⟩;dsimp only;generalize ae2:D.str (if hi=true then Str.ofString "high" else Str.ofString "low")=yf at *;generalize ae3:D.str (if ax=true then Str.ofString "high" else Str.ofString "low")=eg at *;refine h9 (λρ=>∃(dG ots:ZO)(ps:ZS)(cE gk:ZQ)(eG gF v10 v11 je jf:aK),ρ=[.val (dR s),.val yf,.own (dG.map dC),.val eg,.own (ots.map dC),.own (ps.map nK),.own (cE.map d8),.own (gk.map d8),eG,gF,v10,v11,je,jf]/\g7 s Wd L hi eP os dG (p1 ps) cE/\g7 s Wd L ax eP ts ots (p2 ps) gk/\(dG=[]\/ots=[])/\ps.length<=os.length+ts.length/\cE.length+gk.length<=os.length+ts.length/\dG.length+ots.length<=os.length+ts.length) ?_ (λN aJ=>?_)
 ·rintro ρ ⟨dG,ots,ps,cE,gk,eG,gF,v10,v11,je,jf,rfl,a,b,c,d,d',e⟩;exact⟨_,rfl,_,rfl,_,rfl,_,rfl,_,rfl,_,rfl,_,rfl,_,rfl,_,rfl,_,rfl,show 5<=TT by decide,ah ps cE gk dG ots a b c d d' e⟩
 refine⟨λm ρ=>∃(j:Nat)(dG ots:ZO)(ps:ZS)(cE gk:ZQ)(eG gF v10 v11 je jf:aK),ρ=[.val (dR s),.val yf,.own (dG.map dC),.val eg,.own (ots.map dC),.own (ps.map nK),.own (cE.map d8),.own (gk.map d8),eG,gF,v10,v11,je,jf]/\g7 s Wd L hi j os dG (p1 ps) cE/\g7 s Wd L ax j ts ots (p2 ps) gk/\m=dG.length+ots.length/\j+m<=eP/\ps.length+m<=os.length+ts.length/\cE.length+gk.length+m<=os.length+ts.length/\m<=os.length+ts.length,⟨_,dS,ae0,ae1,ps,[],[],_,_,_,_,_,_,rfl,a7,a5,rfl,by lia,by lia,by rw[TR];lia,by lia⟩,?_⟩;clear a7 a5 aM a4 c8 cO bQ bS po pt;rintro m ρ ⟨j,dG,ots,ps,cE,gk,eG,gF,v10,v11,je,jf,rfl,a7,a5,rfl,Kf,xm,Kg,Kh⟩;have done:(dG=[]\/ots=[])->N [.val (dR s),.val yf,.own (dG.map dC),.val eg,.own (ots.map dC),.own (ps.map nK),.own (cE.map d8),.own (gk.map d8),eG,gF,v10,v11,je,jf]:=λz=>aJ _ ⟨dG,ots,ps,cE,gk,_,_,_,_,_,_,rfl,a7.up bI (by lia),a5.up bI (by lia),z,by lia,by lia,by lia⟩;rcases VA dG with rfl|⟨dG,c,rfl⟩
 ·exact⟨_,rfl,lH rfl (lH rfl (done (.inl rfl)))⟩
 rcases VA ots with rfl|⟨ots,d,rfl⟩
 ·exact⟨_,rfl,ml (by rw[VB];simp) ⟨_,rfl,lH rfl (done (.inr rfl))⟩⟩
 clear done;simp only[VB]at a7 a5 Kf xm Kg Kh⊢;simp only[Sz,SH,Ts,Sx,Tn]at Kf xm Kg Kh⊢;refine⟨_,rfl,ml (by simp) ⟨_,rfl,ml (by simp) ?_⟩⟩;have hc:=a7.o c (by simp);have hd:=a5.o d (by simp);obtain⟨c1,c2,c3,c4⟩:=bI.lw _ hc.w;obtain⟨b7,cc,d3,d4⟩:=bI.lw _ hd.w;have b4:∀{z:Int},SC z<=175->SC z<=4000:=λh=>b8 h;have ib:∀l:ZO,(l.map dC).length=l.length:=λl=>Sv ..;refine⟨_,_,rfl,_,rfl,rfl,_,_,rfl,_,_,rfl,rfl,?_⟩;dsimp only;refine⟨_,_,rfl,_,rfl,rfl,_,_,rfl,_,_,rfl,rfl,?_⟩;dsimp only;refine h9 (λρ=>∃(vc vd:ZO)(w:F2)(sa eb:ZN)(ve vf:ZQ)(v10 je jf:aK),ρ=[.val (dR s),.val yf,.own (vc.map dC),.val eg,.own (vd.map dC),.own (ps.map nK),.own (ve.map d8),.own (vf.map d8),.val (dR w),.val (.lst (sa.map bH)),v10,.val (.lst (eb.map bH)),je,jf]/\g7 s Wd L hi (j+1) os vc (p1 ps++[(w,sa)]) ve/\g7 s Wd L ax (j+1) ts vd (p2 ps++[(w,eb)]) vf/\vc.length+vd.length<=dG.length+ots.length+1/\ve.length+vf.length<=cE.length+gk.length+1) ?_ (λN aJ=>?_)
 ·rintro ρ ⟨vc,vd,w,sa,eb,ve,vf,v10,je,jf,rfl,a,b,ai,ar⟩;refine⟨_,rfl,_,rfl,_,rfl,_,rfl,hN,by rw[Sv];lia,_,?_,j+1,vc,vd,ps++[(w,sa,eb)],ve,vf,_,_,_,_,_,_,by rw[Sz];rfl,?_,?_,rfl,?_,?_,?_,?_⟩
  ·lia
  ·unfold p1 at a⊢;rw[Sz];exact a
  ·unfold p2 at b⊢;rw[Sz];exact b
  ·lia
  ·rw[Sx,Tn];lia
  ·lia
  lia
 refine⟨_,rfl,_,rfl,rfl,d.1.1,d.1.2,c.1.1,c.1.2,rfl,b4 d3,b4 d4,b4 c3,b4 c4,_,rfl,hy (λlt=>?_) (λc8=>?_)⟩
 ·subst ae2;refine⟨_,rfl,_,rfl,_,rfl,_,rfl,_,rfl,rfl,s,c.1,d.1,hi,c.2,rfl,bI.sp hc.w hd.w lt,λx al=>bI.fit j x (by lia) (hc.px x al),by have:=hc.ln;lia,_,rfl,rfl,_,_,rfl,_,_,rfl,_,_,rfl,rfl,_,rfl,_,rfl,_,0,_,.inl rfl,rfl,rfl,_,rfl,eW,by rw[ib];lia,_,rfl,_,rfl,by rw[Sv];lia,_,rfl,aJ _ ⟨dG++[(bX c.1 d.1,hl s c.1 d.1 hi c.2)],ots,d.1,hX s c.1 d.1 hi c.2,d.2,cE++[(bX c.1 d.1,bB s d.1,g4 s c.1 d.1 hi c.2)],gk,.val (dR d.1),.val (.lst ((hl s c.1 d.1 hi c.2).map bH)),.val (d8 (bX c.1 d.1,bB s d.1,g4 s c.1 d.1 hi c.2)),?_,a7.split bI (by lia) hd.w lt,(a5.whole).up bI (by lia),?_,?_⟩⟩
  ·rw[Sz,Sz];rfl
  ·rw[Sx,Tn];lia
  rw[Sx,Tn];lia
 refine⟨_,rfl,_,rfl,rfl,c.1.1,c.1.2,d.1.1,d.1.2,rfl,b4 c3,b4 c4,b4 d3,b4 d4,_,rfl,hy (λlt=>?_) (λcO=>?_)⟩
 ·subst ae3;refine⟨_,rfl,_,rfl,_,rfl,_,rfl,_,rfl,rfl,s,d.1,c.1,ax,d.2,rfl,bI.sp hd.w hc.w lt,λx al=>bI.fit j x (by lia) (hd.px x al),by have:=hd.ln;lia,_,rfl,rfl,_,_,rfl,_,_,rfl,_,_,rfl,rfl,_,rfl,_,rfl,_,0,_,.inl rfl,rfl,rfl,_,rfl,eW,by rw[ib];lia,_,rfl,_,rfl,by rw[Sv];lia,aJ _ ⟨dG,ots++[(bX d.1 c.1,hl s d.1 c.1 ax d.2)],c.1,c.2,hX s d.1 c.1 ax d.2,cE,gk++[(bX d.1 c.1,bB s c.1,g4 s d.1 c.1 ax d.2)],.val (dR d.1),.val (.lst ((hl s d.1 c.1 ax d.2).map bH)),.val (d8 (bX d.1 c.1,bB s c.1,g4 s d.1 c.1 ax d.2)),?_,(a7.whole).up bI (by lia),a5.split bI (by lia) hc.w lt,?_,?_⟩⟩
  ·rw[Sz,Sz];rfl
  ·rw[Sx,Tn];lia
  rw[Sx,Tn];lia
 have e:c.1=d.1:=ac2 c1 b7 (by lia);refine aJ _ ⟨dG,ots,c.1,c.2,d.2,cE,gk,_,_,_,rfl,(a7.whole).up bI (by lia),?_,by lia,by lia⟩;rw[e];exact(a5.whole).up bI (by lia)
theorem ae4 :
  cj P w K mg base "box_of" ["slope","wide","low","high"] 4 (cm K 4 aep):=by
 refine dq Y.f_box_of aeo rfl (λ_ _ _ _ _ _ _ ao=>⟨_,(bE (cD (dj (aV (af 1) (aV (bc (DJ B Y) ao (aB (bc (Ka B Y) ao (aB (af 0) a9)) (aB (af 1) a9))) (aV (dD (jq (af 2) (af 3))) bP)))))),?_⟩);rintro as k ap ⟨s,w,a,b,rfl,ls,lw,c1,c2,c3,c4,ap,ah⟩;refine c9 rfl ?_;have gQ:5000<=TT:=by decide
 have i':SC (if s.1<0 then -s.1 else s.1)<=4000:=by
  split
  ·exact SD (TW c1) (by decide)
  exact b8 c1
 have la:a3 (if s.1<0 then -s.1 else s.1) s.2:=by
  split
  ·exact⟨ls.1,by rw[Ua];exact ls.2⟩
  exact ls
 refine⟨_,rfl,_,rfl,rfl,s.1,s.2,rfl,_,rfl,rfl,_,_,w.1,w.2,rfl,la,lw,i',b8 c2,b8 c3,b8 c4,_,rfl,_,rfl,_,_,rfl,rfl,by rw[Sv,Sv];lia,hN,?_⟩;rw[<-Sz];exact ah
theorem Ki :
  cj P w K mg base "paired" ["slope","low","high"] 10 (cm K 3 aeq):=by
 refine dq Y.f_paired p4 rfl (λ_ _ _ _ _ _ _ ao=>⟨_,(aZ (hG (bc (aeZ B Y) ao (aB (af 0) (aB jM (aB (af 1) (aB jM (aB (af 2) a9)))))) (fc (n:=5) rfl (bR (cf 3 p4.nd) (bR (cf 4 p4.nd) (bR (cf 5 p4.nd) (bR (cf 6 p4.nd) (bR (cf 7 p4.nd) eS))))))) (aZ (tU 8 (tT (i:=8) p4.nd rfl rfl (ts:=["wide","low_sheet","high_sheet"]) (fr:=["slope"]) (js:=[0]) (gN (af 3)) (λ_ _ _ _=>(fc (n:=3) rfl (bR (fq (i:=0) (show SY (["wide","low_sheet","high_sheet","slope"]:ZT) by decide +kernel) rfl (SI rfl)) (bR (fq (i:=1) (show SY (["wide","low_sheet","high_sheet","slope"]:ZT) by decide +kernel) rfl (SI rfl)) (bR (fq (i:=2) (show SY (["wide","low_sheet","high_sheet","slope"]:ZT) by decide +kernel) rfl (SI rfl)) eS))))) (λ_ _ _ _=>iJ) (λ_ _ _ _=>(bc (ae4 B Y) ao (aB (af 3) (aB (af 0) (aB (af 1) (aB (af 2) a9)))))) ⟨rfl,by decide +kernel,rfl,by decide +kernel,hV (Tz.mpr ⟨rfl,(Tc _)⟩),ia rfl,by walk_at"ffr",rfl⟩)) (aZ (cL 9 p4.nd (lD (Bn (af 7)) jM jM)) (bE (cD (dj (aV (af 9) (aV (dD (jq (af 6) (af 7))) (aV (dD (jq (dD (jq (af 4) (af 5))) (af 8))) bP))))))))),?_⟩);rintro as k ap ⟨s,Wd,L,eP,dS,os,ts,rfl,bI,Ke,aO,co,ct,ah⟩;refine c9 rfl ?_;have gQ:5000<=TT:=by decide
 refine⟨_,rfl,_,rfl,_,rfl,rfl,s,Wd,L,eP,dS,false,true,os,ts,rfl,bI,Ke,aO,co,ct,λps cE gk dG ots a7 a5 z n nb cO=>?_⟩;refine⟨_,rfl,rfl,_,_,rfl,_,_,rfl,_,_,rfl,_,_,rfl,_,_,rfl,rfl,_,rfl,_,rfl,by rw[Sv];lia,?_⟩;refine Ji (f:=nK) (h:=λp=>d8 (p.1,bB s p.1,p.2.1++p.2.2)) (I:=λρ=>∃a b c,ρ=[a,b,c,.val (dR s)]) (λp ag ρ cu i aa=>?_) ⟨_,_,_,rfl⟩ ?_
 ·obtain⟨a,b,c,rfl⟩:=i;have ca:=a7.p (p.1,p.2.1) (SJ.mpr ⟨p,ag,rfl⟩);have cn:=a5.p (p.1,p.2.2) (SJ.mpr ⟨p,ag,rfl⟩);obtain⟨eI,fQ,lr,sr⟩:=bI.lw _ ca.w;have x1:p.2.1.length<=3:=ca.ln;have hK:p.2.2.length<=3:=cn.ln;exact⟨_,rfl,rfl,_,_,rfl,_,_,rfl,_,_,rfl,rfl,_,rfl,_,rfl,_,rfl,_,rfl,rfl,s,p.1,p.2.1,p.2.2,rfl,bI.ls,eI,bI.c1,bI.c2,lr,sr,by lia,aa _ ⟨_,_,_,rfl⟩⟩
 refine⟨_,rfl,?_⟩;have ok:=ac7 bI a7 a5 z n nb cO;have em:(ps.map λp=>d8 (p.1,bB s p.1,p.2.1++p.2.2))=(ps.map λp=>(p.1,bB s p.1,p.2.1++p.2.2)).map d8:=by rw[SR];rfl
 have ib:∀l:ZO,(l.map dC).length=l.length:=λl=>Sv ..;have lb:∀l:ZQ,(l.map d8).length=l.length:=λl=>Sv ..;rw[em];have lp:(ps.map λp=>(p.1,bB s p.1,p.2.1++p.2.2)).length=ps.length:=Sv ..;have ah:=ah _ _ _ ok;generalize(ps.map λp=>(p.1,bB s p.1,p.2.1++p.2.2))=made at ah lp⊢;rw[Sz,Sz,Sz]at ah;refine⟨_,rfl,_,rfl,?_⟩;rw[U6];have e9:∀x:D,x=.str (if(!ots.isEmpty)=true then Str.ofString "high" else Str.ofString "low")->k (.val (.tup [x,.lst (dG.map dC++ots.map dC),.lst (cE.map d8++gk.map d8++made.map d8)])):=λx e=>by rw[e];exact ah
 cases q:ots.isEmpty with
 |true=>
  rw[q]at e9;exact lH rfl ⟨_,rfl,_,rfl,_,rfl,_,_,rfl,rfl,by rw[ib,ib];lia,_,rfl,_,rfl,_,_,rfl,rfl,by rw[lb,lb];lia,_,rfl,_,_,rfl,rfl,by rw[Sx,lb,lb,lb];lia,hN,e9 _ rfl⟩
 |false=>
  rw[q]at e9;exact ml rfl ⟨_,rfl,_,rfl,_,rfl,_,_,rfl,rfl,by rw[ib,ib];lia,_,rfl,_,rfl,_,_,rfl,rfl,by rw[lb,lb];lia,_,rfl,_,_,rfl,rfl,by rw[Sx,lb,lb,lb];lia,hN,e9 _ rfl⟩
theorem Kj :
  cj P w K mg base "_law_splits" ["_law_bag_here","_law_slope_here","_law_hand","_law_wide","_law_sheet_here"] 9 (cm K 5 aer):=by
 refine dq Y.f_law_splits mO rfl (λ_ _ _ _ _ _ _ ao=>⟨_,(aZ (jO (i:=5) mO.nd rfl (SI rfl) (fD (aV (dj (aV (af 3) (aV (af 4) bP))) bP))) (aZ (jO (i:=6) mO.nd rfl (SI rfl) (fD bP)) (aZ (kR PassesOwn.never rfl (v7 (f3 bq (bc (iq B Y) ao (gM 0 (aB bq a9)))) (by rfl) B.range_) (cf 7 mO.nd) (aZ (CZ (acd 5 (bc (iq B Y) ao (gM 0 (aB (E8 5 (by rfl) B.len_) a9)))) (fc (n:=2) rfl (bR (cf 8 mO.nd) (bR (cf 9 mO.nd) eS)))) (aZ (cL 10 mO.nd (bc (JY B Y) ao (aB (af 8) (aB (dj (aV (f3 bq (bc (iq B Y) ao (gM 0 (aB bq a9)))) (aV bq bP))) a9)))) (aZ (hG (bc (DK B Y) ao (aB (af 1) (aB (af 2) (aB (af 8) (aB (af 9) (aB (af 10) a9)))))) (fc (n:=3) rfl (bR (cf 11 mO.nd) (bR (cf 12 mO.nd) (bR (cf 13 mO.nd) eS))))) (iF 5 (aZ (jO (i:=5) mO.nd rfl (SI rfl) (jq (dD (jq (dD (fD (aV (dj (aV (bc (JZ B Y) ao (aB (af 8) (aB (af 10) a9))) (aV (af 12) bP))) bP))) (af 5))) (dD (fD (aV (dj (aV (af 10) (aV (af 11) bP))) bP))))) (bE (jQ 6 (af 13))))))))) (iF 6 (iF 5 (bE (cD (dj (aV (af 5) (aV (af 6) bP)))))))))),?_⟩);rintro as k ap ⟨s,w,hi,sh,rfl,bI,lw,w0,av,ap,bal,ah⟩;refine c9 rfl ?_;have gQ:=vi;have st:=oK.start (s:=s) lw av ap bal;refine⟨_,rfl,_,rfl,eW,vg,Ti _,?_⟩;dsimp only;refine h9 (λρ=>∃(i:Nat)(cs:ZO)(bs:ZQ)(e6 eG gF v10 v11 je jf:aK),ρ=[.bag,.val (dR s),.val (.str (if hi=true then"high" else"low")),.val (dR w),.val (.lst (sh.map bH)),.own (cs.map dC),.own (bs.map d8),e6,eG,gF,v10,v11,je,jf]/\2<=i/\i<=4/\oK s w hi sh i cs bs) ?_ (λN aJ=>?_)
 ·rintro ρ ⟨i,cs,bs,e6,eG,gF,v10,v11,je,jf,rfl,i2,jY,h⟩;exact⟨_,rfl,_,rfl,_,rfl,_,rfl,eW,ah i cs bs i2 jY h⟩
 walk_at"w";intro c fl c1;refine⟨_,_,rfl,rfl,_,rfl,by lia,by lia,?_⟩;refine AN (λi ρ=>∃(cs:ZO)(bs:ZQ)(e6 eG gF v10 v11 je jf:aK),ρ=[.bag,.val (dR s),.val (.str (if hi=true then"high" else"low")),.val (dR w),.val (.lst (sh.map bH)),.own (cs.map dC),.own (bs.map d8),e6,eG,gF,v10,v11,je,jf]/\oK s w hi sh i cs bs) ⟨_,_,_,_,_,_,_,_,_,rfl,st⟩ ?_ (λρ ⟨cs,bs,e6,eG,gF,v10,v11,je,jf,e,h⟩=>aJ _ ⟨_,cs,bs,e6,eG,gF,v10,v11,je,jf,e,by lia,by lia,h⟩);rintro i ρ ag' ⟨cs,bs,e6,eG,gF,v10,v11,je,jf,rfl,h⟩ N aJ;have jY:i<4:=by lia
 have hh:=h.n;have lb:=h.nb;have len:(cs.map dC).length=cs.length:=Sv ..;refine⟨cs.map dC,rfl,?_⟩;walk_at"w";intro n cd c8;obtain⟨j,rfl⟩:∃j:Nat,n=j:=⟨n.toNat,by lia⟩;have bC:j<cs.length:=by lia
 have ao:cs[j]?=some cs[j]:=SU bC;generalize cs[j]=c at ao;refine⟨j,dC c,rfl,by lia,by rw[SW,ao];rfl,?_⟩;refine⟨_,rfl,rfl,_,_,rfl,_,_,rfl,rfl,_,rfl,?_⟩;walk_at"w";intro d i6 b7;walk_at"w";obtain⟨z,fit,e2,nx⟩:=h.step bI lw w0 jY (v:=c.1) (here:=c.2) ao (d:=1+d) (by lia) (by lia) rfl;have hc:=(h.c c (S9 ao)).1;obtain⟨eL,dB,af,ef⟩:=bI.lw _ hc.w;have a7:∀{x:Int},SC x<=175->SC x<=1000:=λh=>b8 h;refine⟨c.1,(1+d,4),rfl,eL.1,(show(0:Int)<4 by decide),a7 af,a7 ef,SD (QA (x:=1+d) (by lia) (by lia)) (by decide),(show SC 4<=1000 by decide),?_⟩;generalize dF (c.1.1*(1+d)) (c.1.2*4)=pt at z nx⊢;refine⟨_,rfl,_,rfl,_,rfl,_,rfl,_,rfl,rfl,s,c.1,pt,hi,c.2,rfl,z,fit,by lia,_,rfl,rfl,_,_,rfl,_,_,rfl,_,_,rfl,rfl,_,rfl,?_⟩;have le:(cs.map dC).eraseIdx j=(cs.eraseIdx j).map dC:=Ci ..;have ll:(cs.eraseIdx j).length<=4:=SD (List.length_eraseIdx_le ..) (by lia);rw[le];have ib:((cs.eraseIdx j).map dC).length=(cs.eraseIdx j).length:=Sv ..;refine⟨_,rfl,_,rfl,rfl,c.1,pt,rfl,eL.1,z.lp.1,a7 af,a7 ef,a7 z.c5,a7 z.c6,_,rfl,eW,vg,_,rfl,_,_,rfl,rfl,by rw[ib];show 1+_<=_;lia,_,rfl,_,rfl,eW,vg,_,_,rfl,rfl,by rw[Sx,ib];show 1+_+1<=_;lia,_,rfl,_,rfl,by rw[Sv];lia,aJ _ ⟨_,_,.val (.int i),.val (dR c.1),.val (.lst (c.2.map bH)),.val (dR pt),.val (.lst ((hX s c.1 pt hi c.2).map bH)),.val (.lst ((hl s c.1 pt hi c.2).map bH)),.val (d8 (bX c.1 pt,bB s pt,g4 s c.1 pt hi c.2)),?_,nx⟩⟩;rw[Sz,Sz,Sz];rfl
theorem Kk :
  cj P w K mg base "_law_rest_is" ["_law_slope_here","_law_low_here","_law_high_here","_law_hand","_law_wide"] 11 (cm K 5 aes):=by
 refine dq Y.f_law_rest_is sU rfl (λ_ _ _ _ _ _ _ ao=>⟨_,(aZ (cL 5 sU.nd (bc (Ki B Y) ao (aB (af 0) (aB (af 1) (aB (af 2) a9))))) (aZ (cL 6 sU.nd (af 4)) (aZ (kR PassesOwn.never rfl (gN (ei 5)) (fc (n:=2) rfl (bR (cf 7 sU.nd) (bR (cf 8 sU.nd) eS))) (aZ (fM (hS (fC (bc (JX B Y) ao (aB (af 8) (aB (bc (DD B Y) ao (aB (af 0) (aB (af 3) (aB (af 7) a9)))) a9))))) (bE (cD iX)) f5) (bE (cL 6 sU.nd (bc (JZ B Y) ao (aB (af 6) (aB (af 7) a9))))))) (bE (cD (rV (tK (ao.units) (ei 5) (af 3) (dZ _)) (tx (lC (f:=λi j=>decide (i=j)) n7 (ei 6) bq (dZ _))))))))),?_⟩);rintro as k ap ⟨s,w,wd,h,os,ts,rfl,bI,lw,w0,c3,c4,aO,co,ct,hw,e,ah⟩;refine c9 rfl ?_;have gQ:5000<=TT:=by decide
 refine⟨_,rfl,_,rfl,_,rfl,rfl,s,du w 256,gT,14,4,os,ts,rfl,bI,by lia,by lia,co,ct,λh' rs bs po=>?_⟩;have wp:0<bu wd:=mD (hw.pos lw w0) hw.1.1;obtain⟨dY,fZ⟩:=adg bI po wp e;subst dY
 rename Bool=>h
 refine⟨_,rfl,?_⟩;dsimp only;have a7:∀{x:Int},SC x<=19->SC x<=1000:=λh=>b8 h;have Kl:∀{x:Int},SC x<=19->SC x<=64:=λh=>b8 h;have eB:∀{x:Int},SC x<=19->SC x<=47:=λh=>b8 h;refine h9 (λρ=>∃(x:F2)(e6 eG:aK),ρ=[.val (dR s),.val (.lst (os.map dC)),.val (.lst (ts.map dC)),.val (.str (if h=true then"high" else"low")),.val (dR wd),.val (.tup [.str (if h=true then"high" else"low"),.lst (rs.map dC),.lst (bs.map d8)]),.val (dR x),e6,eG]/\x.1=0) ?_ (λN aJ=>?_)
 ·rintro ρ ⟨x,e6,eG,rfl,fe⟩;have CR:decide (x.1=0)=true:=Xw fe;refine⟨_,rfl,_,0,_,.inl rfl,rfl,rfl,_,rfl,.S,rfl,rfl,by decide,_,rfl,ml (by rw[Tl SP];exact pd _) ⟨_,rfl,_,0,_,.inl rfl,rfl,rfl,_,_,rfl,rfl,?_⟩⟩;dsimp only;rw[CR];exact ah
 refine⟨_,rfl,_,1,_,.inl rfl,rfl,rfl,_,rfl,?_⟩;refine xn (f:=λc:dw=>dR c.1) (g:=λc:dw=>.lst (c.2.map bH)) (rs:=rs) (done:=[]) (λpre ρ=>∃(x:F2)(e6 eG:aK),ρ=[.val (dR s),.val (.lst (os.map dC)),.val (.lst (ts.map dC)),.val (.str (if h=true then"high" else"low")),.val (dR wd),.val (.tup [.str (if h=true then"high" else"low"),.lst (rs.map dC),.lst (bs.map d8)]),.val (dR x),e6,eG]/\ro w 256 x/\bu x=bu wd-dm pre) ⟨wd,_,_,rfl,hw.wz,by show bu wd=bu wd-0;grind⟩ ?_ ?_
 ·rintro pre c rest ρ he ⟨x,e6,eG,rfl,al,ex⟩ N aJ;have he:rs=pre++c::rest:=by simpa using he
  have aA:c∈rs:=by rw[he];simp
  have hc:=po.r c aA;obtain⟨b1,b2⟩:=du.bits lw w0 c3 c4 (by decide) hc.w;obtain⟨b3,b4⟩:=al.bits lw w0 c3 c4;obtain⟨aM,a4,_,_⟩:=bI.lw _ hc.w;have aC:SC s.1<=64:=b8 bI.c1;have bf:SC s.2<=64:=b8 bI.c2;have e2:=hc.ln;refine⟨_,rfl,_,rfl,_,rfl,_,rfl,rfl,s,c.1,h,rfl,bI.ls,aM,bI.s0,a4,aC,bf,Kl b1,Kl b2,rfl,c.2,cV s h c.1,rfl,by lia,λt aR=>(hc.px t aR).pcw (by decide),aaa bI.ls bI.s0 bI.c1 bI.c2 aM a4 (eB b1) (eB b2) h,hc.bal,_,rfl,gB ?_⟩
  have le:bu c.1<=bu x:=by
   have aha:=(Dm (cs:=rest) λd hd=>by
    obtain⟨a,b,_,_⟩:=bI.lw _ (po.r d (by rw[he];simp[hd])).w
    exact mD b a.1).1
   have ar:dm (c::rest)=bu c.1+dm rest:=by unfold dm;rw[SH,Tb]
   rw[he,mL,ar]at fZ;grind
  refine⟨_,rfl,_,rfl,rfl,x,c.1,rfl,al.1.1,aM.1,a7 b3,a7 b4,a7 b1,a7 b2,aJ _ ⟨bX x c.1,_,_,rfl,al.sub lw w0 hc.w le,?_⟩⟩;rw[(JB al.1 aM).2,ex,mL,pZ];grind
 rintro ρ ⟨x,e6,eG,rfl,al,ex⟩;refine aJ _ ⟨x,e6,eG,rfl,JA al.1 ?_⟩;rw[ex,Te,fZ];grind
theorem ae5{f:TI}{fd:X3}(F:m5 K "law" "law" zl f fd):
  ke P w K mg base kh 12 f fd ["_law_script"] (wi K):=by
 refine ke.imp (sp:=cm K 1 Fk) ?_ (λvs H Q E h=>N9 h);refine N8 (lv:=11) F mP rfl (λ_ _ _ _ _ _ ao=>⟨_,(aZ (NW (i:=1) mP.nd rfl (SI rfl) (Aj (Dz B Y) ao (by rfl) (aB (bc (Dy B Y) ao (aB (af 0) (aB bq a9))) a9))) (aZ (cL 2 mP.nd (bc (aeF B Y) ao (gM 1 a9))) (aZ (cL 3 mP.nd (bc (J2 B Y) ao (gM 1 a9))) (aZ (cL 4 mP.nd (bc (JV B Y) ao (gM 1 (aB (bc (DD B Y) ao (aB (af 2) (aB jM (aB (af 3) a9)))) (aB bq a9))))) (aZ (cL 5 mP.nd (bc (JV B Y) ao (gM 1 (aB (bc (DD B Y) ao (aB (af 2) (aB jM (aB (af 3) a9)))) (aB bq a9))))) (aZ (hG (Jh (Kj B Y) ao (by rfl) (Aj (Dz B Y) ao (by rfl) (aB (bc (Dy B Y) ao (aB (af 0) (aB bq a9))) a9)) (aV (af 2) (aV jM (aV (af 3) (aV (af 4) bP))))) (fc (n:=2) rfl (bR (cf 6 mP.nd) (bR (cf 7 mP.nd) eS)))) (aZ (hG (Jh (Kj B Y) ao (by rfl) (Aj (Dz B Y) ao (by rfl) (aB (bc (Dy B Y) ao (aB (af 0) (aB bq a9))) a9)) (aV (af 2) (aV jM (aV (af 3) (aV (af 5) bP))))) (fc (n:=2) rfl (bR (cf 8 mP.nd) (bR (cf 9 mP.nd) eS)))) (aZ (cL 10 mP.nd (bc (Ki B Y) ao (aB (af 2) (aB (af 6) (aB (af 8) a9))))) (aZ (fM (nf (w_or (N7 (ao.units) (O6 (af 10) tC (qu bq)) (dj (aV jM (aV (dD (fD bP)) bP))) (dZ _)) (o9 (hS (fC (wt (dD (kW (ts:=["_law_box_here"]) (fr:=[]) (js:=[]) (gN (dD (jq (dD (jq (ei 10) (af 7))) (af 9)))) (λ_ _ _ _=>(fq (i:=0) (show SY (["_law_box_here"]:ZT) by decide +kernel) rfl (SI rfl))) (λ_ _ _ _=>iJ) (λ_ _ _ _=>(bc (aeC B Y) ao (aB (af 0) a9))) ⟨rfl,by decide +kernel,rfl,by decide +kernel,hV (Tc _),ia rfl,by walk_at"ffr",rfl⟩)) rfl (by rfl) B.all_)))))) (bE (cD iX)) f5) (aZ (fM (hS (fC (bc (aeB B Y) ao (aB (dD (jq (af 4) (af 5))) (aB (bc (aeG B Y) ao (aB (dD (jq (dD (jq (ei 10) (af 7))) (af 9))) a9)) a9))))) (bE (cD iX)) f5) (aZ (fM (hS (fC (bc (Kk B Y) ao (aB (af 2) (aB (dD (tD (af 6) (qu bq) tC)) (aB (af 8) (aB jM (aB (gD (ei 6) bq (λ_ _=>rfl)) a9)))))))) (bE (cD iX)) f5) (bE (cD (bc (Kk B Y) ao (aB (af 2) (aB (af 6) (aB (dD (tD (af 8) tC (qu (nc bq)))) (aB jM (aB (gD (gD (af 8) (nc bq) (λ_ _=>rfl)) bq (λ_ _=>rfl)) a9))))))))))))))))))),?_⟩);rintro as k ap ⟨ns,rfl,ahb,ah⟩;refine c9 rfl ?_;have gQ:5000<=TT:=by decide
 have cU:2<=TT:=by decide
 have m:∀{z:Int}{a b:Nat},SC z<=a->a<=b->SC z<=b:=λh g=>SD h g;walk_at"w";refine⟨ns,0,rfl,by decide,λz=>?_⟩;refine⟨rfl,z,rfl,rfl,rfl,rfl,rfl,λs ls s0 c1 c2=>?_⟩;refine⟨rfl,rfl,rfl,λw lw w0 c3 c4=>?_⟩;have bI:=add ls s0 c1 c2 lw w0 c3 c4;have drawn:∀{sh:ZN},(∀t∈sh,uO (j5 30 2) 6 t)->∀t∈sh,gT 0 t:=λh t aR=>((h t aR).px (b:=802) (by decide)).mono (SF _) (by decide) (SF _) (SF _);obtain⟨eL,aE,c8⟩:=Jw ls lw s0 w0 c1 c2 c3 c4 false;obtain⟨dB,aI,cO⟩:=Jw ls lw s0 w0 c1 c2 c3 c4 true;refine⟨rfl,_,rfl,_,rfl,rfl,s,w,false,rfl,ls,lw,s0,w0,b8 c1,b8 c2,b8 c3,b8 c4,rfl,cV s false w,rfl,eL,aE,by lia,λsa aw la oE=>?_⟩;refine⟨rfl,_,rfl,_,rfl,rfl,s,w,true,rfl,ls,lw,s0,w0,b8 c1,b8 c2,b8 c3,b8 c4,rfl,cV s true w,rfl,dB,aI,by lia,λeb ae lb u9=>?_⟩;refine⟨_,rfl,rfl,ns,1,rfl,by decide,λaG=>?_⟩;refine⟨rfl,aG,rfl,rfl,_,rfl,_,rfl,_,rfl,rfl,s,w,false,sa,rfl,bI,lw,w0,drawn aw,la,oE,λi cs bs i2 jY oP=>?_⟩;refine⟨_,rfl,rfl,_,_,rfl,_,_,rfl,rfl,_,rfl,rfl,ns,2,rfl,by decide,λa8=>?_⟩;refine⟨rfl,a8,rfl,rfl,_,rfl,_,rfl,_,rfl,rfl,s,w,true,eb,rfl,bI,lw,w0,drawn ae,lb,u9,λj ct kw eN CY mG=>?_⟩;refine⟨_,rfl,rfl,_,_,rfl,_,_,rfl,rfl,?_⟩;have Km:=oP.n;have xM:=mG.n;have ahc:=oP.nb;have ahd:=mG.nb;have co:∀c∈cs,gS s (du w 256) gT false 4 c:=λc hc=>(oP.c c hc).1.up bI jY;have yg:∀c∈ct,gS s (du w 256) gT true 4 c:=λc hc=>(mG.c c hc).1.up bI CY;refine⟨_,rfl,_,rfl,_,rfl,rfl,s,du w 256,gT,14,4,cs,ct,rfl,bI,by lia,by lia,co,yg,λhd rs cE po=>?_⟩;obtain⟨ae6,ae7⟩:=adh bI po (by rw[oP.w,mG.w]);subst ae6 ae7;have ae8:=po.nb;have ae9:=po.np;have sW:∀l:ZQ,(l.map d8).length=l.length:=λl=>Sv ..
 have all:∀b∈cE++bs++kw,lg gT 14 6 b:=λb ae=>by
  rcases SK.mp ae with q|q
  ·rcases SK.mp q with q|q
   ·exact po.b b q
   exact((oP.b b q).up bI (by lia)).more (by decide)
  exact((mG.b b q).up bI (by lia)).more (by decide)
 have DM:cE.map d8++bs.map d8++kw.map d8=(cE++bs++kw).map d8:=by rw[Sz,Sz]
 have bQ:(cE.map d8).length+(bs.map d8).length<=TT:=by rw[sW,sW];lia
 have bS:(cE.map d8++bs.map d8).length+(kw.map d8).length<=TT:=by rw[Sx,sW,sW,sW];lia
 refine⟨_,rfl,_,rfl,_,rfl,(λz=>absurd z.2 (by show ¬(HT.sIx 3 3 (some 2)=3);decide)),?_⟩
 have jz:gE [D.str (if false=true then Str.ofString "high" else Str.ofString "low"),.lst (([]:ZO).map dC),.lst (cE.map d8)] none (some 2)=[D.str (Str.ofString "low"),.lst []]:=by
  rw[FH (by decide) (by show(2:Int)<=3;decide)];rfl
 rw[jz];refine⟨Ti _,cU,.T [.S,.L .I],rfl,rfl,by decide,_,rfl,lH (by rw[Tk rfl,pd];rfl) ?_⟩;refine⟨_,rfl,_,_,_,.inl rfl,rfl,rfl,_,rfl,_,_,rfl,rfl,bQ,_,rfl,_,_,rfl,rfl,bS,?_⟩;rw[DM];refine⟨_,rfl,by rw[sW,Sx,Sx];lia,?_⟩;refine mn (f:=d8) (h:=λ_=>.bl true) (λb ae cu pp=>?_) ?_
 ·have q:=all b ae;exact⟨_,rfl,rfl,b.1,b.2.1,b.2.2,rfl,q.lw,q.lh,m q.b1 (by decide),m q.b2 (by decide),m q.b3 (by decide),m q.b4 (by decide),q.w0,q.h0,b8 q.ln,λx al=>(q.px x al).pcw (by decide),q.bal,pp⟩
 refine⟨_,rfl,(λd hd=>by obtain⟨_,_,rfl⟩:=SJ.mp hd;rfl),_,rfl,gB ?_⟩;have Kn:∀l:ZN,(l.map bH).length=l.length:=λl=>Sv ..;have lsum:∀{L:ZQ}{k:Nat},(∀b∈L,lg gT k 3 b)->(L.map λb=>b.2.2.length).sum<=L.length*3:=λh=>pL λb ae=>(h b ae).ln;have ae':=lsum oP.b;have sum2:=lsum mG.b
 have np:((cE++bs++kw).map λb=>b.2.2.length).sum<=115:=by
  rw[Sz,Sz,Ue,Ue];lia
 have Ko:((cE++bs++kw).map λb=>b.2.2).flatten.length<=115:=by
  rw[Xn,SR];exact np
 refine⟨_,rfl,_,rfl,_,_,rfl,rfl,by rw[Kn,Kn];lia,_,rfl,_,_,_,.inl rfl,rfl,rfl,_,rfl,_,_,rfl,rfl,bQ,_,rfl,_,_,rfl,rfl,bS,?_⟩;rw[DM];refine⟨rfl,cE++bs++kw,rfl,b8 np,?_⟩;rw[<-Sz];refine⟨rfl,sa++eb,_,rfl,by rw[Sx];lia,Ko,?_,?_,?_,?_,?_⟩
 ·intro x al;rcases SK.mp al with q|q
  ·exact(drawn aw x q).pcw (by decide)
  exact(drawn ae x q).pcw (by decide)
 ·intro x al;obtain⟨l,ap,al⟩:=List.mem_flatten.mp al;obtain⟨b,ae,rfl⟩:=SJ.mp ap;exact((all b ae).px x al).pcw (by decide)
 ·intro b φ;show d0 φ b _=d0 φ b _
  have aT:=po.f φ b;have bd:=oP.f φ b;have bA:=mG.f φ b;rw[JC,lX,Sz,Sz,kH,kH];have dL:eV φ b (io [])=0:=rfl;rw[dL]at aT;unfold li at aT bd bA;grind
 ·intro x al;rcases SK.mp al with q|q
  ·exact(aw x q).ln
  exact(ae x q).ln
 refine⟨_,rfl,gB ?_⟩;have Kp:=oP.w;have Kq:=mG.w;have afa:∀c∈cs,du w 256 c.1:=λc hc=>(co c hc).w;have afb:∀c∈ct,du w 256 c.1:=λc hc=>(yg c hc).w;clear oP mG po all DM bQ bS np Ko ae' sum2 lsum ae9 ae8
 obtain⟨fl,rz,rfl⟩:∃c r,cs=c::r:=by
  cases cs with
  |nil=>rw[TR]at Km;lia
  |cons c r=>exact⟨c,r,rfl⟩
 rw[SM]at Km
 have ai:gE ((fl::rz).map dC) (some 1) none=rz.map dC:=by
  rw[FG (by decide) (by rw[Sv,SM];lia)];rfl
 have ar:dm (fl::rz)=bu fl.1+dm rz:=by unfold dm;rw[SH,Tb]
 refine⟨_,rfl,_,rfl,_,rfl,_,rfl,?_⟩;rw[ai];refine⟨_,rfl,_,rfl,(fl::rz).map dC,0,dC fl,.inr rfl,rfl,Pi,[dR fl.1,.lst (fl.2.map bH)],0,dR fl.1,.inl rfl,rfl,rfl,rfl,s,w,fl.1,true,rz,ct,rfl,bI,lw,w0,c3,c4,by lia,(λc hc=>co c (Sy _ hc)),yg,afa fl Sw,?_,?_⟩
 ·rw[Tk rfl,Kq];rw[ar]at Kp;grind
 refine⟨_,rfl,gB ?_⟩
 obtain⟨hn,ea,rfl⟩:∃r c,ct=r++[c]:=by
  rcases VA ct with z|⟨r,c,z⟩
  ·rw[z,TR]at xM;lia
  exact⟨r,c,by rw[z,VB]⟩
 rw[Sx,Tn]at xM;have em:(hn++[ea]).map dC=hn.map dC++[dC ea]:=by rw[Sz];rfl
 have bb:gE ((hn++[ea]).map dC) none (some (-1))=hn.map dC:=by
  rw[em,aaQ]
 have dv:eu ((hn++[ea]).map dC) (-1)=some (dC ea):=by
  have:=O3 (rs:=(hn++[ea]).map dC) (i:=0) (by rw[Sv,Sx];simp);rw[show((-1:Int)-((0:Nat):Int)) = -1 from rfl]at this;rw[this];simp
 refine⟨_,rfl,_,rfl,_,rfl,_,rfl,_,rfl,_,rfl,?_⟩;rw[show gE ((hn++[ea]).map dC) none (some (-1))=hn.map dC from bb];refine⟨_,rfl,_,rfl,(hn++[ea]).map dC,-1,dC ea,.inr rfl,rfl,dv,[dR ea.1,.lst (ea.2.map bH)],0,dR ea.1,.inl rfl,rfl,rfl,rfl,s,w,ea.1,false,fl::rz,hn,rfl,bI,lw,w0,c3,c4,by rw[SM];lia,co,(λc hc=>yg c (TC _ hc)),afb ea (by simp),?_,ah⟩;rw[Tl SP,Kp];rw[mL,pZ]at Kq;grind
end aeu
theorem all_mk{l:PySem.W.OpenLaw}{w:Xx}{K:Su}{h:XB}{mg:Str->Option SZ}{fB:TI}(Z:∀x∈lams,CU K x)(Y:Tab tabs K)(X:K.In h)(G:h.Ns Uf mg)(afc:mg "law"=some (.ref fB))
  : ∃fd:X3,(∀(s:TD)(v:SZ),ZE s fd ⟨[v],[]⟩ [("_law_script",v)])/\∀base:XB,K.In base->base.Ns Uf mg->ke l.prog w K mg base kh 12 fB fd ["_law_script"] (wi K):=by
 obtain⟨⟨afd,afe,aff,afg,afh,afi,afj,afk,x_point,x_at,afl,afm,afn,afo,afp,afq,afr,afs,aft,afu,afv,afw,afx,afy,afz,afA,afB,afC,afD,afE,afF,afG,afH,afI,afJ,afK,afL,afM,afN,afO,afP,afQ,afR,afS,afT,afU,afV,afW,afX,afY,afZ,af0,af1,af2,af3,af4,af5,af6,af7,_⟩,⟨af8,af9,af',aga,agb,agc,agd,age,agf,agg,agh,agi,agj,agk,agl,agm,agn,ago,agp,_⟩,⟨agq,_⟩,⟨_⟩⟩:=Y;obtain⟨dL,agr,dW,Kr⟩:=af7;have e:=afc.symm.trans (PySem.W.mg_of X G dW);cases e;have B:JD mg:=⟨Tf X G af8,Tf X G af9,Tf X G af',Tf X G aga,Tf X G agb,Tf X G agc,Tf X G agd,Tf X G age,Tf X G agf,Tf X G agg,Tf X G agh,Tf X G agi,Tf X G agj,Tf X G agk,Tf X G agl,Tf X G agm,Tf X G agn,Tf X G ago,Tf X G agp⟩;have G_NOTHING:=agq.gtup X G;have L_widest_last:=Z "widest_last" (by decide) h mg X G;refine⟨agr,λs v=>?_,λbase _ _=>?_⟩
 ·obtain⟨_,_,_,_,_,_,_,_,_,rfl,_⟩:=Kr.ex;exact .of_eq rfl
 exact ae5 B ⟨afd.fnd X G (by walk_at"b2"),afe.fnd X G (by walk_at"b2"),aff.fnd X G (by walk_at"b2"),afg.fnd X G (by walk_at"b2"),afh.fnd X G (by walk_at"b2"),afi.fnd X G (by walk_at"b1"),afj.fnd X G (by walk_at"b1"),afk.fnd X G (by walk_at"b1"),x_point.fnd X G (by walk_at"b3"),x_at.fnd X G (by walk_at"b2"),afl.fnd X G (by walk_at"b2"),afm.fnd X G (by walk_at"b2"),afn.fnd X G (by walk_at"b2"),afo.fnd X G (by walk_at"b4"),afp.fnd X G (by walk_at"b3"),afq.fnd X G (by walk_at"b3"),afr.fnd X G (by walk_at"b2"),afs.fnd X G (by walk_at"b2"),aft.fnd X G (by walk_at"b1"),afu.fnd X G (by walk_at"b2"),afv.fnd X G (by walk_at"b5"),afw.fnd X G (by walk_at"b1"),afx.fnd X G (by walk_at"b2"),afy.fnd X G (by walk_at"b5"),afz.fnd X G (by walk_at"b4"),afA.fnd X G (by walk_at"b3"),afB.fnd X G (by walk_at"b2"),afC.fnd X G (by walk_at"b1"),afD.fnd X G (by walk_at"b2"),afE.fnd X G (by walk_at"b2"),afF.fnd X G (by walk_at"b2"),afG.fnd X G (by walk_at"b3"),afH.fnd X G (by walk_at"b1"),afI.fnd X G (by walk_at"b2"),afJ.fnd X G (by walk_at"b3"),afK.fnd X G (by walk_at"b2"),afL.fnd X G (by walk_at"b3"),afM.fnd X G (by walk_at"b1"),afN.fnd X G (by walk_at"b1"),afO.fnd X G (by walk_at"b4"),afP.fnd X G (by walk_at"b2"),afQ.fnd X G (by walk_at"b3"),afR.fnd X G (by walk_at"b1"),afS.fnd X G (by walk_at"b2"),afT.fnd X G (by walk_at"b2"),afU.fnd X G (by walk_at"b2"),afV.fnd X G (by walk_at"b2"),afW.fnd X G (by walk_at"b2"),afX.fnd X G (by walk_at"b2"),afY.fnd X G (by walk_at"b1"),afZ.fnd X G (by walk_at"b1"),af0.fnd X G (by walk_at"b1"),af1.fnd X G (by walk_at"b2"),af2.fnd X G (by walk_at"b3"),af3.fnd X G (by walk_at"b1"),af4.fnd X G (by walk_at"b1"),af5.fnd X G (by walk_at"b5"),af6.fnd X G (by walk_at"b5"),G_NOTHING,L_widest_last⟩ Kr
end Cut
open PySem PySem.W PyProof.Rows
set_option maxRecDepth 100000 in
set_option maxHeartbeats 0 in
theorem PySem.Challenge.cw_slidecut_k41_whole_split_and_paired_holds : PySem.Challenge.rw_slidecut_k41_whole_split_and_paired.Holds := by
 refine holds_law Cut.said fun said => holds_open (XP := XL Zpw []) (YP := L3.saysL Cut.tabs Cut.lams) Cut.left (L3.ofL Cut.tabs Cut.lams) (L3.keepsL Cut.tabs Cut.lams) (fun s e => xl_of s (Xq.mp e).1) XL.keeps (by rfl) (by rfl) (by rfl) (fun s e => recFacts_of (Xq.mp e).2) (by rfl) said (by decide +kernel) ⟨rfl, rfl, rfl, rfl, rfl, by decide +kernel⟩ ?hw ?hc
 case hw => w_witness2
 case hc => exact L3.walkL (k := 12) rfl rfl ⟨rfl, by decide, by decide⟩ fun w K mg fB h Z Y X G tg => Cut.all_mk Z Y X G tg
#print axioms PySem.Challenge.cw_slidecut_k41_whole_split_and_paired_holds