import PyProof.Rows.All
import Open.Line
import KE.KIsAll
import KE.KItem
import KE.IntBitsLaws
import OpenK.KCls
import OpenK.KList
import OpenK.KWalk
import OpenK.KCall
import OpenK.KMake
import KE.KLam
import KE.KSortKey
import PyProof.ListRange
import Wide.FinOn
import Lean
import PyProof.EqAt
import PyProof.EqKinds
import PyProof.TupleCall
import PyProof.AttrMissHeap
import PyProof.Cells
import PyProof.AutoListH
import PyProof.AutoSeq1
import PyProof.SeqI3
import PyProof.Rows.SortWalk
import PyProof.DictItemsLoops
import PyProof.Rows.Range3
import PyProof.DictRoadsH
import PyProof.DictKinds
import PyProof.DictIter
import PyProof.DictWalks
import PyProof.DictValues
import PyProof.FactsAll.dict_values
import PyProof.FactsAll.dict_valueiterator
import PyProof.NeKinds
import PyProof.ExcBaseAll.ValueError
import PyProof.ZipIter
import PyProof.ListCopy
import PyProof.CollectWalk
import PyProof.SliceStr2
import PyProof.Rows.StrFirst
import PyProof.StrLawsFirst
import PyProof.StrLawsIn
import PyProof.StrBlockI
import PyProof.Rows.StrNews
import PyProof.EnumMake
import PyProof.EnumFor
import PyProof.EnumStmt
import PyProof.Rows.SetFrom
import PyProof.MinMaxWalk
import PyProof.WalkInts
import PyProof.FactsAll.tuple_1
import PyProof.FactsAll.tuple_2
import PySem.Challenge.RW_slidecut_k27_whole_rows_of_cuts_and_slid
open PySem renaming intBits_mul_le→wp,Value→KB,Shared→KF,Addr→KT,sizeLine→Np,mainGlobals→Nr,wpAny_bind→Nt,Expr→Nu,intBits_neg_le→Nv,starEach→Nw,foldedSetIterable→Nx,Program→Ny,model→Nz,wpAny_pure→NA,behindInMarks→NB,intBits_add_le→NC,World→NE,sliceBounds→NF,wpAny_passesOwn→NG,Heap→NH,Stmt→NI,Around→NJ,assignEach→NK,intBits_sub_le→NL,compareOp→NM,wpAny_mono→NN,wpAny_truthy_bool→NO,FuncData→NP,bootBuiltins→NQ,wpAny_getItem_list_slice→NR,importedModules→NS,swapsWith→NT,wpAny_execs_nil→NU,letOwnedTupleGo→NV,binaryOp→NX,wpAny_Call_Name_kw→NY,Scope→N0,builtinsNs→N1,wpAny_standAt→N2,swapsWithSole→N3,swappedStores→N4,Comprehension→N5,treeTable→N7,slicePick→N9,compEnvC→N',intBits_le_of_natAbs→Oa,intBits_le_iff→Ob,natAbs_fdiv_le→Oc,Arguments→Od,assignInOrder→Of,wpAny_holding→Og,PassesOwn→Oh,intBits_le_64→Oi,cLine→Oj,NameKind→Ol,evalPart_none→On,eval→Op,sysModules→Oq,holding→Os,callerA→Ot,sliceRange→Ou,assign→Ov,codeAny_mono→Ow,seqIndex_neg→Ox,compTurn→OA,backTo→OB,isTrue→OC,standAt→OD,seqIndex_of→OF,bindName→OG,BindsTo→OH,bindArgs→OI
open PySem.Builtin.Int renaming intBits→KM
open PyProof.Rows renaming assignInOrder_cons→NW,subscriptTail_builtinR→N6,AllBare→N8,envOfC→Om,subscriptTail→Oo,IntsAre→OE
open PySem.W renaming openEnds→Oe,openSeen→Oy,openGood→Oz
abbrev M2:=@if_pos
abbrev No:=@if_neg
abbrev Nq:=@congrArg
abbrev ND:=@decide_eq_false
abbrev NZ:=@decide_eq_true
open PySem.W renaming Frag->JS,mg_none_of->Kt,kia_one->KO,fnOf->Lo,keepIn->LJ,instObj->Me,methodObj->Mf,lookIn->Mk,kitOne->Ml,codeIn->Mn,plainGet->MO,findIn->MP,kitx_list->MQ,kitx_dict->MR,cellsFrom_some->MS
open List renaming mem_cons_self->J1,mem_cons_of_mem->J3,length_map->J5,mem_cons->J6,mem_map->J',append_nil->Kb,mem_append->Kc,mem_append_right->Kg,length_append->Kh,getElem?_map->Kj,length_cons->Kk,size_toArray->Kl,getElem?_eq_getElem->Km,replicate->Kp,mem_singleton->Ks,mem_append_left->Ku,Nodup->Ky,range->KA,append_assoc->KD,map_append->KH,forall_mem_nil->KI,getElem?_append_right->KP,mem_of_getElem?->KQ,map_cons->KR,forall_mem_cons->KS,getElem?_eq_none->KW,map_congr_left->KX,map_map->KY,length_replicate->K6,getElem?_append_left->Ld,mem_range->Lk,getElem?_set_ne->Ll,length_take->Lm,getElem?_replicate->Ln,singleton_sublist->Ls,length_set->Lx,nil_append->LA,sum_cons->LB,mem_filter->LF,getElem?_eq_some_iff->LG,getElem?_set_self->LH,nodup_cons->LK,length->LL,length_drop->LM,reverse_cons->LN,take_of_length_le->LO,getElem?_of_mem->LU,ext_getElem?->LV,length_nil->LW,getElem_mem->L5,filter_cons->Ma,sum_append->Mc,isEmpty_map->Md,filterMap_cons->Mh,mem_filterMap->Mj,of_mem_zip->Mm,getElem?_range->Mu,drop_eq_getElem_cons->Mw,drop_length->Mx,range_succ->MA,map_id->MC,length_pos_iff->MG,dropLast_concat_getLast->MH,exists_mem_of_ne_nil->MI,filter_append->MJ,length_singleton->MV,getElem?_eq_none_iff->M5,eq_nil_of_length_eq_zero->M6,all_eq_true->M7,filterMap_append->M8,take_add_one->M9,take_length->M',cons_append->Nd,length_filter_le->Nf,getElem_toArray->Ni,mem_of_mem_take->Nj,append_cancel_left->Nk
open Int renaming gcd->J2,ne_of_gt->J8,mul_pos->J9,mul_zero->Kd,mul_comm->Kn,mul_neg_of_pos_of_neg->Ko,mul_eq_zero->Kq,mul_nonneg->Kv,le_of_lt->Kw,mul_ne_zero->Kx,dvd_trans->KG,natAbs_mul->KN,mul_assoc->KV,natAbs_dvd_natAbs->K0,eq_of_mul_eq_mul_right->K1,lt_trichotomy->K2,neg_mul_neg->K3,pos_of_mul_pos_right->K7,lt_or_eq_of_le->K9,zero_mul->Lg,emod_nonneg->Li,emod_lt_of_pos->Lj,neg_mul->Lp,mul_le_mul_of_nonneg_right->LC,gcd_comm->LP,mul_fdiv_cancel_left->LQ,gcd_dvd_right->LY,eq_of_mul_eq_mul_left->LZ,dvd_mul_of_dvd_right->L4,mul_pos_of_neg_of_neg->L6,le_of_dvd->L',dvd_mul_left->Mb,gcd_pos_of_ne_zero_right->Mp,ofNat_dvd_left->Mq,neg_dvd->Mr,toNat_natCast->MB,gcd_dvd_left->MD,dvd_coe_gcd->ME,dvd_mul_right->ML,eq_ofNat_of_zero_le->MX,pos_of_mul_pos_left->Nb,gcd_pos_of_ne_zero_left->Nc,lt_or_gt_of_ne->Ng
open Nat renaming le_trans->J4,le_refl->J7,gcd->Kr,lt_of_lt_of_le->Kz,ne_of_lt->KJ,mod_eq_of_lt->KZ,lt_irrefl->K5,mod_lt->Lf,ne_of_gt->LI,dvd_gcd->LR,gcd_mul_right->LS,le_of_lt->Mg,gcd_comm->Mo,zero_le->Mv,zero_add->Mz,add_mod_right->MF,max_self->MM,gcd_dvd_right->MY,eq_of_mul_eq_mul_left->MZ,le_of_ble_eq_true->M1,pow_le_pow_right->Nl
open Rat renaming intCast_mul->Ka,intCast_add->K4,le_of_lt->Lh,mul_le_mul_of_nonneg_right->Lu,intCast_eq_zero_iff->L8,intCast_neg->L9,mul_nonneg->MK
open Bool renaming false_ne_true->Ke,eq_iff_iff->My,beq_eq_decide_eq->MW,and_eq_true->M3,and_eq_true_iff->Nm
open Or renaming inl->Kf,inr->K'
open Option.some renaming inj->Ki,injEq->L0
open Ne renaming symm->KC
open Classical renaming byContradiction->KL,propDecidable->Lq
open False renaming elim->KU
open List.cons renaming inj->K8,injEq->L1
open Sum renaming inl->La,inr->Lb
open PySem renaming mem_of_lookup->Lc,Env->Le,sizeLine->LD,natAbs_fdiv_le->Ms
open List.Sublist renaming append->Lr,refl->L7
open Prod renaming ext->Lv
open True renaming intro->Lw
open Option renaming map_some->Ly,isSome_iff_exists->MT,getD_none->MU,map_eq_some_iff->Na
open Prod.mk renaming injEq->Lz
open ForInStep renaming yield->LX
open PyProof.Rows renaming callWith_type1->Mi,envOfC->M0
open PySem.Builtin.Int renaming intBits->Mt
open Array renaming length_toList->MN
open PySem.F renaming plainAttrs_list->M4,slot_list_index->Nh
open PySem.MeetsSeq.EqGives renaming int->Nn
abbrev OW:=List (PySem.Addr×PySem.Obj)
abbrev OV:=List PySem.Stmt
abbrev OU:=List PySem.Expr
abbrev OT:=List PySem.Addr
abbrev OS:=List PySem.Value
abbrev OR:=List PySem.Str
abbrev OP:=List Nat
abbrev OO:=List Int
abbrev OX:=List OO
open PySem.Challenge renaming rw_slidecut_k27_whole_rows_of_cuts_and_slid->Zrw,pw_slidecut_k27_whole_rows_of_cuts_and_slid->Zpw
set_option Elab.async false
set_option linter.all false
local macro_rules | `(tactic| walk_at"v") => `(tactic| first | exact Kf rfl | exact K' (Kf rfl) | exact K' (K' rfl))
local macro_rules | `(tactic| walk_at"f") => `(tactic| first | exact .inl rfl | exact .inr rfl | assumption)
theorem hf:3<=LD:=by decide
theorem kn:2<=LD:=by decide
theorem oe:0<=LD:=by decide
theorem Jt:10000<=LD:=by decide
theorem ko{a b c:Nat}(h:a<=b)(g:b<=c:=by decide):a<=c:=J4 h g
namespace L3
open PySem PySem.W PySem.Spec PySem.Calls
open PyProof.Rows hiding K
def kq(h:NH)(name:Str):Option (Option KB):=match h.get? Nr with
 |some ⟨_,_,.dict a _,_⟩=>(match a.toList.find? (·.key.isStr name)with
   |some e=>some (some e.val)
   |none=>if a.toList.any (·.refKey)then none else some none)
 |_=>none
def qs(h:NH)(a:KB)(q:Str):Bool:=match a with
 |.ref c=>(match h.get? c with
   |some ⟨_,_,.fields b,_⟩=>(match b.toList with|_::.str n _::_=>n==q|_=>false)
   |_=>false)
 |_=>false
def og(h:NH)(x:Str):Option (Str×Str×Od×FuncBody×N0×KT×List (Str×KT)×KB×KT×Bool):=match kq h x with
 |some (some (.ref f))=>(match h.get? f with
  |some ⟨_,_,.func a,_⟩=>some (a.name,a.qualname,a.params,a.body,a.scope,a.globals,a.closure,a.defaults,a.builtins,qs h a.code x)
  |_=>none)
 |_=>none
def oh(x:Str)(st:NI):Option (Str×Str×Od×FuncBody×N0×KT×List (Str×KT)×KB×KT×Bool):=match st with
 |.FunctionDef _ a b _ _ _ sc _ _ _=>some (x,x,a,.stmts b,sc,Nr,[],.none,N1,true)
 |_=>some (x,x,⟨[],[],none,[],[],none,[]⟩,.stmts [],{kind:=.function,names:=[],isGenerator:=false,isCoroutine:=false},Nr,[],.none,N1,true)
def oi(h:NH)(x:Str):Option (Str×Int×Int):=match kq h x with
 |some (some (.ref p))=>(match h.get? p with
  |some ⟨.type "tuple",_,.seq a _,_⟩=>(match a.toList with|[.int i _,.int j _]=>some (x,i,j)|_=>none)
  |_=>none)
 |_=>none
def oj(h:NH)(x:Str):Option (Str×(Int ⊕ Str)):=match kq h x with
 |some (some (.int i _))=>some (x,.inl i)
 |some (some (.str s _))=>some (x,.inr s)
 |_=>none
abbrev dh(x:Str)(s:NI):Str×NI:=(x,s)
structure jE where
 fs:List (Str×NI)
 bs:OR
 ts:List (Str×Int×Int)
 cs:List (Str×(Int ⊕ Str))
abbrev i9:Type:=List (Option (Str×Str×Od×FuncBody×N0×KT×List (Str×KT)×KB×KT×Bool))×List (Option (Option KB))×List (Option (Str×Int×Int))×List (Option (Str×(Int ⊕ Str)))
def ml(t:jE)(s:KF):i9:=(t.fs.map λp=>og s.heap p.1,t.bs.map λb=>kq s.heap b,t.ts.map λp=>oi s.heap p.1,t.cs.map λp=>oj s.heap p.1)
def mm(t:jE)(_:NE):i9:=(t.fs.map λp=>oh p.1 p.2,t.bs.map λ_=>some none,t.ts.map λp=>some p,t.cs.map λp=>some p)
theorem gr{b c d:Type}{E:Option b}{F:b->c×d}{a:c×d}(e:E.map (λs=>(F s).1)=some a.1)(f:E.map (λs=>(F s).2)=some a.2):E.map F=some a:=by
 cases E with
 |none=>cases e
 |some x=>
  have g:=Ki e;have h:=Ki f;exact Nq some (Lv g h)
theorem zy{p q:Ny}{loose:OR}{Xt:KF->Bool}{b:Type}{Yf:KF->b}{Ya:NE->b}{N:Nat}(c:∀w:NE,(Oe N7 p w N).map (λs=>(Oy q loose (NS p.main.body) Xt true s).1)=some (Oz q loose).1)(d:∀w:NE,(Oe N7 p w N).map (λs=>(Oy q loose (NS p.main.body) Xt true s).2)=some (Oz q loose).2)(e:∀w:NE,(Oe N7 p w N).map Yf=some (Ya w)):LeftO p q loose Xt Yf Ya N:=
 λw=>gr (F:=λs=>(Oy q loose (NS p.main.body) Xt true s,Yf s)) (a:=(Oz q loose,Ya w)) (gr (c w) (d w)) (e w)
section
def c0(i:Nat):NI:=Zpw.main.body.getD i (.Pass ⟨0,0,0,0⟩)
abbrev qt:NI:=c0 4
abbrev qu:NI:=c0 6
abbrev qv:NI:=c0 7
abbrev qw:NI:=c0 8
abbrev qx:NI:=c0 9
abbrev qy:NI:=c0 10
abbrev qz:NI:=c0 11
abbrev qA:NI:=c0 13
abbrev qB:NI:=c0 14
abbrev qC:NI:=c0 15
abbrev qD:NI:=c0 16
abbrev qE:NI:=c0 17
abbrev qF:NI:=c0 18
abbrev qG:NI:=c0 20
abbrev qH:NI:=c0 21
abbrev qI:NI:=c0 22
abbrev qJ:NI:=c0 23
abbrev qK:NI:=c0 24
abbrev qL:NI:=c0 25
abbrev qM:NI:=c0 26
abbrev qN:NI:=c0 27
abbrev qO:NI:=c0 28
abbrev qP:NI:=c0 29
abbrev qQ:NI:=c0 30
abbrev qR:NI:=c0 31
abbrev qS:NI:=c0 32
abbrev qT:NI:=c0 33
abbrev qU:NI:=c0 34
abbrev qV:NI:=c0 35
abbrev qW:NI:=c0 36
abbrev qX:NI:=c0 37
abbrev qY:NI:=c0 38
abbrev qZ:NI:=c0 39
def fK:jE:=⟨[dh "greatest_divisor" qt,dh "point" qu,dh "slid" qv,dh "turned" qw,dh "crossed" qx,dh "hand_of" qy,dh "meet" qz,dh "fresh" qA,dh "first_ring" qB,dh "cut_ring" qC,dh "cut_sheet" qD,dh "moved" qE,dh "half_turned" qF,dh "_law_cell" qG,dh "_law_bag" qH,dh "_law_digit" qI,dh "_law_point" qJ,dh "_law_slid" qK,dh "_law_turned" qL,dh "_law_side" qM,dh "_law_is_point" qN,dh "_law_is_convex" qO,dh "_law_within" qP,dh "_law_twice_area" qQ,dh "_law_added" qR,dh "_law_place" qS,dh "_law_step" qT,dh "_law_three" qU,dh "_law_bulging" qV,dh "_law_spot" qW,dh "_law_deed" qX,dh "_law_led" qY,dh "law" qZ],["len","abs","int","bool","tuple","isinstance","range","all","sum","list","ValueError","zip","str","enumerate","set","max","min","sorted","dict"],[],[]⟩
set_option maxRecDepth 100000
set_option maxHeartbeats 0
theorem iI:Zrw.wellSaid=true:=by kernel_rfl
theorem zz:∀w:NE,(Oe N7 Zrw.row.prog w 20000).map (λs=>(Oy Zpw [] (NS Zrw.row.prog.main.body) (λs=>xlAt Zpw [] s&&recOk (RowW.records (OpenRow.toRowW Zrw.row)) s) true s).1)=some (Oz Zpw []).1:=λw=>by kernel_rfl
theorem zA:∀w:NE,(Oe N7 Zrw.row.prog w 20000).map (λs=>(Oy Zpw [] (NS Zrw.row.prog.main.body) (λs=>xlAt Zpw [] s&&recOk (RowW.records (OpenRow.toRowW Zrw.row)) s) true s).2)=some (Oz Zpw []).2:=λw=>by kernel_rfl
theorem zB:∀w:NE,(Oe N7 Zrw.row.prog w 20000).map (ml fK)=some (mm fK w):=λw=>by kernel_rfl
theorem left:LeftO Zrw.row.prog Zpw [] (λs=>xlAt Zpw [] s&&recOk (RowW.records (OpenRow.toRowW Zrw.row)) s) (ml fK) (mm fK) 20000:=zy (p:=Zrw.row.prog) (q:=Zpw) (loose:=[]) (Xt:=(λs=>xlAt Zpw [] s&&recOk (RowW.records (OpenRow.toRowW Zrw.row)) s)) (Yf:=ml fK) (Ya:=mm fK) (N:=20000) zz zA zB
end
set_option Elab.async false
set_option linter.all false
set_option maxRecDepth 100000
abbrev fp:=Sum Int Str
def uj:fp->KB->Bool
 |.inl k,v=>Value.isInt k v
 |.inr x,v=>Value.isStrOf x v
def zC(w:NE):fp->Int
 |.inl k=>hashInt k
 |.inr x=>hashStr w x
theorem iZ:∀{k:fp}{v:KB},uj k v=true->(∃i t,k=La i/\v=Value.int i t)\/(∃x t,k=Lb x/\v=Value.str x t)
 |.inl i,v,h=>by
  obtain⟨t,e⟩:=Value.isInt_shape (k:=i) (v:=v) h;exact .inl ⟨i,t,rfl,e⟩
 |.inr x,v,h=>by
  obtain⟨t,e⟩:=Value.isStrOf_shape (x:=x) (v:=v) h;exact .inr ⟨x,t,rfl,e⟩
theorem zD(a b:Int):decide ((La a:fp)=La b)=(a==b):=by
 by_cases e:a=b
 ·subst e;simp
 have h:¬(La a:fp)=La b:=λq=>e (Sum.inl.inj q);rw[ND h];exact(beq_eq_false_iff_ne.mpr e).symm
theorem zE(a b:Str):decide ((Lb a:fp)=Lb b)=decide (a=b):=by
 by_cases e:a=b
 ·subst e;simp
 have h:¬(Lb a:fp)=Lb b:=λq=>e (Sum.inr.inj q);rw[ND h,ND e]
theorem zF(a:Int)(b:Str):decide ((La a:fp)=Lb b)=false:=ND (λq=>nomatch q)
theorem zG(a:Str)(b:Int):decide ((Lb a:fp)=La b)=false:=ND (λq=>nomatch q)
def q0(c:Ny)(w:NE):PySem.KeyKind c w fp where
 is:=uj
 hash:=zC w
 inj:=λv a b l g=>by
  rcases iZ l with⟨i,t,rfl,rfl⟩|⟨x,t,rfl,rfl⟩
  ·rcases iZ g with⟨j,u,rfl,e⟩|⟨y,u,rfl,e⟩
   ·injection e with d _;rw[d]
   exact nomatch e
  rcases iZ g with⟨j,u,rfl,e⟩|⟨y,u,rfl,e⟩
  ·exact nomatch e
  injection e with d _;rw[d]
 byValue:=λk v h=>by
  rcases iZ h with⟨i,t,rfl,rfl⟩|⟨x,t,rfl,rfl⟩<;>rfl
 pyHash:=λf h=>by
  rcases iZ f with⟨i,t,rfl,rfl⟩|⟨x,t,rfl,rfl⟩
  ·exact wpAny_pyHash_int h
  exact wpAny_pyHash_str h
 eqBool:=λm f h=>by
  rcases iZ m with⟨i,t,rfl,rfl⟩|⟨x,t,rfl,rfl⟩
  ·rcases iZ f with⟨j,u,rfl,rfl⟩|⟨y,u,rfl,rfl⟩
   ·rw[zD]at h;exact wpAny_eqBool_int h
   rw[zF]at h;exact SeqAt.EqAt.int_str i t y u _ _ _ _ h
  rcases iZ f with⟨j,u,rfl,rfl⟩|⟨y,u,rfl,rfl⟩
  ·rw[zG]at h;exact SeqAt.EqAt.str_int x t j u _ _ _ _ h
  rw[zE]at h;exact wpAny_eqBool_str h
 «strs»:=λk x t v h=>by
  rcases iZ h with⟨i,u,rfl,e⟩|⟨y,u,rfl,e⟩
  ·exact nomatch e
  injection e with d _
  subst d
  cases v<;>rfl
inductive V where
 |non|bl (b:Bool)|int (i:Int)|str (x:Str)|byt (b:Array UInt8)|flt (b:UInt64)|ref (a:KT)|ty (n:String)
 deriving DecidableEq
abbrev OK:=List V
def dx:V->KB->Prop
 |.non,u=>u=Value.none
 |.bl b,u=>u=Value.bool b
 |.int i,u=>∃t,u=Value.int i t
 |.str x,u=>∃t,u=Value.str x t
 |.byt b,u=>∃t,u=Value.bytes b t
 |.flt b,u=>∃t,u=Value.float b t
 |.ref a,u=>u=Value.ref a
 |.ty n,u=>u=Value.type n
abbrev bG:OK->OS->Prop:=Paired dx
theorem bG.length{a:OK}{b:OS}(r:bG a b):a.length=b.length:=Paired.length r
theorem bG.get:∀{a:OK}{b:OS}{i:Nat}{x:V},bG a b->a[i]?=some x->∃u,b[i]?=some u/\dx x u
 |_,_,_,_,.nil,e=>by simp at e
 |_,_,0,_,.cons r _,e=>by simp at e;subst e;exact⟨_,rfl,r⟩
 |_,_,i+1,x,.cons _ t,e=>by
  obtain⟨u,c,d⟩:=bG.get (i:=i) (x:=x) t (by simpa using e);exact⟨u,by simpa using c,d⟩
theorem bG.set{x:V}{u:KB}(r:dx x u):∀{a:OK}{b:OS}(i:Nat),bG a b->bG (a.set i x) (b.set i u)
 |_,_,_,.nil=>.nil
 |_,_,0,.cons _ t=>.cons r t
 |_,_,i+1,.cons q t=>.cons q (bG.set r i t)
theorem bG.append:∀{a b:OK}{c d:OS},bG a c->bG b d->bG (a++b) (c++d)
 |_,_,_,_,.nil,s=>s
 |_,_,_,_,.cons r t,s=>.cons r (bG.append t s)
theorem bG.take:∀{a:OK}{b:OS}(n:Nat),bG a b->bG (a.take n) (b.take n)
 |_,_,0,_=>.nil
 |_,_,_+1,.nil=>.nil
 |_,_,n+1,.cons r t=>.cons r (bG.take n t)
theorem bG.drop:∀{a:OK}{b:OS}(n:Nat),bG a b->bG (a.drop n) (b.drop n)
 |_,_,0,r=>r
 |_,_,_+1,.nil=>.nil
 |_,_,n+1,.cons _ t=>bG.drop n t
def q1:Option V->Option KB->Prop
 |some v,some u=>dx v u
 |none,none=>True
 |_,_=>False
def q2{a:Type}:List (a×V)->List (a×KB)->Prop:=Paired λ(p:a×V)(q:a×KB)=>p.1=q.1/\dx p.2 q.2
def kV:fp->V
 |.inl i=>.int i
 |.inr x=>.str x
inductive dz where
 |lst(xs:OK)
 |tup(xs:OK)
 |dK(kvs:List (fp×V))|dT (kvs:List (List fp×V))
 |set(S:Int->Bool)(n:Nat)
 |ins(C dA:KT)(fs:List (Str×V))
 |own(x:KT)
 |xd(fs:List (Str×V))
 |met(f x:KT)
 |rng(lo aF:Int)
 |frz(o:Obj)(u:dz)
 |tbl(ps:Array KB)
 |ext(φ:NH->Prop)
abbrev ak:=KT->Option dz
def dQ(H:ak)(a:KT)(o:dz):ak:=λb=>if b=a then some o else H b
theorem fq{H:ak}{a:KT}{o:dz}:dQ H a o a=some o:=by unfold dQ;rw[M2 rfl]
theorem cL{H:ak}{a b:KT}{o:dz}(h:b≠a):dQ H a o b=H b:=by unfold dQ;rw[No h]
theorem i0{H:ak}{a b:KT}{o:dz}(h:H a=some o)(c:H b=none):a≠b:=by
 intro e;subst e;rw[h]at c;cases c
def zH(H:ak)(h:NH)(a:KT)(g:Array KB):Prop:=∃b:Array KB,h.get? a=some {cls:=.none,data:=.fields b}/\TriplesOk b.toList /\
 ∀posQz d,codeAmong posQz b.toList=some d->∃c e u f q t i,d=.ref c/\H c=some (.frz e u)/\e.data=.fields f/\f[1]?=some (.str q t)/\g[0]?=some (.str q i)
def iD(K:JS):List (KT×Str):=K.filterMap λp=>match p with
 | (b,⟨.none,_,.fields a,_⟩)=>(match a.toList with|[.ref P,.str q _]=>if b=Nr then some (P,q)else none|_=>none)
 |_=>none
def jF(K:JS)(H:ak):Prop:=∀p∈iD K,∃a t,H p.1=some (.tbl a)/\a[0]?=some (.str p.2 t)
section
variable(P:Ny)(w:NE)
def eR(H:ak)(h:NH)(a:KT):dz->Prop
 |.lst d=>d.length<=Np/\∃(b:OS)(n:Nat),bG d b/\h.get? a=some {cls:=.type "list",data:=.seq b.toArray n}
 |.tup d=>d.length<=Np/\∃b:OS,bG d b/\IsTup h a b.toArray
 |.dK c=>c.length<=Np/\(a==Oq)=false/\∃k,q2 c k/\h.DictOf (q0 P w) a k
 |.dT c=>c.length<=Np/\(a==Oq)=false/\∃d:List (List fp×KT×KB),
   Paired (λ(p:List fp×V)(q:List fp×KT×KB)=>p.1=q.1/\H q.2.1=some (.tup (p.1.map kV))/\dx p.2 q.2.2) c d /\
   ∃o l s,h.get? a=some o/\o.ExactDict/\o.data=.dict l s/\l.toList=d.map (entryOfKey (tupleKind (q0 P w)))/\(d.map (·.1)).Nodup
 |.set S n=>h.SetOf (intKind P w) a S n
 |.ins C i g=>H i=some (.own a)/\g.length<=1000/\i≠a/\h.get? a=some (Me C i) /\
   ∃e,h.Ns1 i e/\(∀f,q1 (g.lookup f) (e f))/\PySem.Within e (g.map (·.1))
 |.own _=>∃o,h.get? a=some o
 |.xd g=>∃e,h.Ns1 a e/\∀f,q1 (g.lookup f) (e f)
 |.rng lo y=>∃t u v,h.get? a=some {cls:=.type "range",data:=.fields #[.int lo t,.int y u,.int 1 v]}
 |.frz o u=>h.get? a=some o/\eR H h a u
 |.tbl z=>zH H h a z
 |.met f x=>h.get? a=some (Mf (.ref f) (.ref x))
 |.ext j=>j h/\(∃o,h.get? a=some o)/\∀m r:NH,j m->(∀o,m.get? a=some o->r.get? a=some o)->j r
def dU(H:ak)(h:NH):Prop:=∀a o,H a=some o->eR P w H h a o
end
section
variable{P:Ny}{w:NE}{H i:ak}{h h':NH}{a:KT}{o:dz}
theorem eR.lt(x:eR P w H h a o):a<h.objs.size:=by
 cases o with
 |lst c=>obtain⟨_,_,_,_,e⟩:=x;exact Heap.lt_size e
 |tup c=>obtain⟨_,_,_,p⟩:=x;exact p.lt
 |dK b=>obtain⟨_,_,_,_,o,_,_,e,_⟩:=x;exact Heap.lt_size e
 |dT b=>obtain⟨_,_,_,_,o,_,_,e,_⟩:=x;exact Heap.lt_size e
 |set S n=>obtain⟨o,_,_,_,e,_⟩:=x;exact Heap.lt_size e
 |ins C g d=>obtain⟨_,_,_,e,_⟩:=x;exact Heap.lt_size e
 |own y=>obtain⟨_,e⟩:=x;exact Heap.lt_size e
 |xd d=>obtain⟨_,⟨_,_,_,e,_⟩,_⟩:=x;exact Heap.lt_size e
 |rng lo i=>obtain⟨_,_,_,e⟩:=x;exact Heap.lt_size e
 |frz j u=>obtain⟨e,_⟩:=x;exact Heap.lt_size e
 |tbl k=>obtain⟨_,e,_⟩:=x;exact Heap.lt_size e
 |met f y=>exact Heap.lt_size (show h.get? a=some _ from x)
 |ext l=>obtain⟨_,⟨_,e⟩,_⟩:=x;exact Heap.lt_size e
theorem Paired.iT{d e:Type}{F G:d->e->Prop}:∀{g:List d}{c:List e},Paired F g c->(∀a b,F a b->G a b)->Paired G g c
 |_,_,.nil,_=>.nil
 |_,_,.cons r t,f=>.cons (f _ _ r) (Paired.iT t f)
theorem eR.fM(x:eR P w H h a o)(k:∀b u,(b=a\/H b=some (.own a))->h.get? b=some u->h'.get? b=some u)(J:∀b,H b=some (.own a)->i b=some (.own a))(K:∀b A,H b=some (.tup A)->i b=some (.tup A))(L:∀b j u,H b=some (.frz j u)->i b=some (.frz j u)):eR P w i h' a o:=by
 induction o with
 |lst A=>obtain⟨z,s,n,r,e⟩:=x;exact⟨z,s,n,r,k _ _ (.inl rfl) e⟩
 |tup A=>obtain⟨z,s,r,j,e,c⟩:=x;exact⟨z,s,r,j,k _ _ (.inl rfl) e,c⟩
 |dK B=>obtain⟨z,y,E,r,j,l,m,e,c⟩:=x;exact⟨z,y,E,r,j,l,m,k _ _ (.inl rfl) e,c⟩
 |dT B=>
  obtain⟨z,y,A,r,j,l,m,e,c⟩:=x;exact⟨z,y,A,Paired.iT r λp q z=>⟨z.1,K _ _ z.2.1,z.2.2⟩,j,l,m,k _ _ (.inl rfl) e,c⟩
 |set S n=>obtain⟨j,l,m,t,e,c⟩:=x;exact⟨j,l,m,t,k _ _ (.inl rfl) e,c⟩
 |ins C ab M=>
  obtain⟨d,z,N,e,F,⟨G,l,m,I,c⟩,r⟩:=x;exact⟨J _ d,z,N,k _ _ (.inl rfl) e,F,⟨G,l,m,k _ _ (.inr d) I,c⟩,r⟩
 |own y=>obtain⟨j,e⟩:=x;exact⟨j,k _ _ (.inl rfl) e⟩
 |xd M=>obtain⟨F,⟨G,l,m,e,c⟩,r⟩:=x;exact⟨F,⟨G,l,m,k _ _ (.inl rfl) e,c⟩,r⟩
 |rng lo ae=>obtain⟨t,u,v,e⟩:=x;exact⟨t,u,v,k _ _ (.inl rfl) e⟩
 |frz j u O=>obtain⟨e,q⟩:=x;exact⟨k _ _ (.inl rfl) e,O q⟩
 |tbl af=>
  obtain⟨Q,e,R,g⟩:=x;refine⟨Q,k _ _ (.inl rfl) e,R,λposQz T U=>?_⟩;obtain⟨c,W,u,E,q,t,X,Y,I,Z⟩:=g posQz T U;exact⟨c,W,u,E,q,t,X,Y,L _ _ _ I,Z⟩
 |met f y=>
  have e:h.get? a=some (Mf (.ref f) (.ref y)):=x;show h'.get? a=some (Mf (.ref f) (.ref y))
  exact k a _ (.inl rfl) e
 |ext ag=>obtain⟨p,⟨o,e⟩,st⟩:=x;exact⟨st _ _ p λo q=>k _ _ (.inl rfl) q,⟨o,k _ _ (.inl rfl) e⟩,st⟩
theorem dU.lt(x:dU P w H h)(e:H a=some o):a<h.objs.size:=(x a o e).lt
theorem dU.fresh(x:dU P w H h)(e:h.objs.size<=a):H a=none:=by
 cases q:H a with
 |none=>rfl
 |some u=>exact absurd (Kz (x.lt q) e) (K5 _)
theorem dU.kept(x:dU P w H h)(k:∀b u,h.get? b=some u->h'.get? b=some u):dU P w H h':=λa o e=>
 (x a o e).fM (λb u _ q=>k b u q) (λ_ q=>q) (λ_ _ q=>q) λ_ _ _ q=>q
theorem dU.laid(x:dU P w H h)(k:∀b u,h.get? b=some u->h'.get? b=some u)(g:h.objs.size<=a)(new:eR P w (dQ H a o) h' a o):dU P w (dQ H a o) h':=λb u e=>by
 have d:=x.fresh g;by_cases f:b=a
 ·subst f;rw[fq]at e;cases e;exact new
 rw[cL f]at e;exact(x b u e).fM (λc v _ q=>k c v q) (λc q=>by rw[cL (i0 q d)];exact q) (λc i q=>by rw[cL (i0 q d)];exact q) λc j u q=>by rw[cL (i0 q d)];exact q
end
def ol(H:ak)(a:KT)(u:dz):Prop:=H a=some u\/∃o,H a=some (.frz o u)
theorem ol.ok{P:Ny}{w:NE}{H:ak}{h:NH}{a:KT}{u:dz}(r:ol H a u)(x:dU P w H h):eR P w H h a u:=by
 rcases r with r|⟨o,r⟩
 ·exact x a u r
 obtain⟨_,q⟩:=x a _ r;exact q
def om:Option dz->Prop
 |some (.lst _)=>True
 |some (.dK _)=>True
 |some (.dT _)=>True
 |some (.set _ _)=>True
 |some (.ins _ _ _)=>True
 |some (.ext _)=>True
 |_=>False
section
variable{P:Ny}{w:NE}{H:ak}{h a:NH}{x e:KT}{d:dz}
theorem dU.write(ok:dU P w H h)(m:om (H x))(n:e=x\/H e=some (.own x))(k:∀b u,b≠e->h.get? b=some u->a.get? b=some u)(s:∃u,a.get? e=some u)(new:eR P w (dQ H x d) a x d):dU P w (dQ H x d) a:=λb u q=>by
 have o:∀c y,H c=some (.own y)->c≠x:=λc y r z=>by subst z;rwa[r]at m
 have t:∀c f,H c=some (.tup f)->c≠x:=λc f r z=>by subst z;rwa[r]at m
 have A:∀c g u,H c=some (.frz g u)->c≠x:=λc g u r z=>by subst z;rwa[r]at m
 by_cases i:b=x
 ·subst i;rw[fq]at q;cases q;exact new
 rw[cL i]at q;by_cases j:b=e
 ·have p:H b=some (.own x):=by
   rcases n with z|z
   ·exact absurd (j.trans z) i
   rw[j];exact z
  rw[q]at p;cases p;obtain⟨v,B⟩:=s;exact⟨v,by rw[j];exact B⟩
 refine(ok b u q).fM (λc v l r=>k c v ?_ r) (λc r=>by rw[cL (o c b r)];exact r) (λc f r=>by rw[cL (t c f r)];exact r) λc g u r=>by rw[cL (A c g u r)];exact r
 rcases l with rfl|l
 ·exact j
 rintro rfl;rcases n with z|z
 ·exact o c b l z
 rw[l]at z;cases z;exact i rfl
end
structure dZ(fs ex:OT)(H aj:ak)(h h':NH):Prop where
 keep:∀b o,h.get? b=some o->H b=none->b∉fs->b∉ex->h'.get? b=some o
 slot:∀b o,h.get? b=some o->H b=none->b∈fs->b∉ex->∃sl,h'.get? b=some {o with slots:=sl}
 free:∀b o,h.get? b=some o->H b=none->b∉ex->aj b=none
 there:∀b o,h.get? b=some o->b∉ex->∃dL,h'.get? b=some dL
 fo:∀b xs,H b=some (.tup xs)->aj b=some (.tup xs)
 fb:∀b o u,H b=some (.frz o u)->aj b=some (.frz o u)
 e3:∀b ps,H b=some (.tbl ps)->∃more,aj b=some (.tbl (ps++more))
section
variable{c l d m:OT}{H g j:ak}{h f i h':NH}{a x e:KT}{o:dz}
theorem dZ.any(u:dZ c d H g h f){b:KT}{a:Obj}(q:h.get? b=some a)(n:H b=none)(e:b∉d):∃j,f.get? b=some {a with slots:=j}:=by
 by_cases i:b∈c
 ·exact u.slot b a q n i e
 exact⟨a.slots,u.keep b a q n i e⟩
theorem dZ.kept(k:∀b u,h.get? b=some u->h'.get? b=some u):dZ c d H H h h':=
 ⟨λb a q _ _ _=>k b a q,λb a q _ _ _=>⟨a.slots,k b a q⟩,λ_ _ _ n _=>n,λb a q _=>⟨a,k b a q⟩,λ_ _ q=>q,λ_ _ _ q=>q,λ_ e q=>⟨#[],by rw[q];simp⟩⟩
theorem dZ.refl:dZ c d H H h h:=dZ.kept λ_ _ q=>q
theorem dZ.laid(k:∀b u,h.get? b=some u->h'.get? b=some u)(f:h.objs.size<=a)(e:H a=none):dZ c d H (dQ H a o) h h' where
 keep:=λb u q _ _ _=>k b u q
 slot:=λb u q _ _ _=>⟨u.slots,k b u q⟩
 free:=λb u q n _=>by rw[cL (KJ (Kz (Heap.lt_size q) f))];exact n
 there:=λb u q _=>⟨u,k b u q⟩
 fo:=λb g q=>by rw[cL (i0 q e)];exact q
 fb:=λb u g q=>by rw[cL (i0 q e)];exact q
 e3:=λb i q=>⟨#[],by rw[cL (i0 q e),q];simp⟩
theorem dZ.write(a:om (H x))(l:e=x\/H e=some (.own x))(k:∀b u,b≠e->h.get? b=some u->h'.get? b=some u)(m:∃u,h'.get? e=some u):dZ c d H (dQ H x o) h h':=by
 have g:∀b,H b=none->b≠x:=λb n z=>by subst z;rwa[n]at a
 have i:∀b,H b=none->b≠e:=λb n z=>by
  subst z;rcases l with r|r
  ·exact g b n r
  rw[n]at r;cases r
 have f:∀b u,H b=some u->¬om (some u)->b≠x:=λb u q p z=>by subst z;rw[q]at a;exact p a
 refine⟨λb u q n _ _=>k b u (i b n) q,λb u q n _ _=>⟨u.slots,k b u (i b n) q⟩,λb u q n _=>by rw[cL (g b n)];exact n,λb u q _=>?_,
  λb s q=>by rw[cL (f b _ q λz=>z)];exact q,λb u s q=>by rw[cL (f b _ q λz=>z)];exact q,λb t q=>⟨#[],by rw[cL (f b _ q λz=>z),q];simp⟩⟩
 by_cases j:b=e
 ·subst j;exact m
 exact⟨u,k b u j q⟩
end
def op(h:NH)(H:ak):List KT:=(KA h.objs.size).filter λa=>(H a).isSome
def i1(h:NH)(H:ak):NH:=PySem.W.hideAll h (op h H)
theorem zL(h:NH)(H:ak):(i1 h H).objs.size=h.objs.size:=PySem.W.hideAll_size _ _
theorem zM{h:NH}{H:ak}{b:KT}{o:Obj}(e:h.get? b=some o)(n:H b=none):(i1 h H).get? b=some o:=
 PySem.W.hideAll_get _ e λa=>by
  have q:(H b).isSome=true:=(LF.mp a).2;rw[n]at q;simp at q
theorem zN{h:NH}{H:ak}{b:KT}{o:Obj}(e:(i1 h H).get? b=some o):h.get? b=some o/\H b=none:=by
 have a:h.get? b=some o:=PySem.W.of_hideAll (op h H) e;refine⟨a,?_⟩;cases q:H b with
 |none=>rfl
 |some x=>
  have c:b∈op h H:=LF.mpr ⟨Lk.mpr (Heap.lt_size a),by simp[q]⟩;have z:(i1 h H).get? b=none:=PySem.W.hideAll_none (op h H) c;rw[z]at e;cases e
structure Mod(K:JS)(mg:Str->Option KB)(base:NH):Prop where
 jC:K.In base
 glob:base.Ns Nr mg
 blt:∃e8,base.Ns N1 e8/\∀x:Str,x≠"__name__"->e8 x=NQ x
 nolimit:base.NoLimit
structure aS where
 prog:Ny
 w:NE
 K:JS
 mg:Str->Option KB
 base:NH
 A:NJ
 N:OR
 s₀:KF
 H₀:ak
 env:Env
 outer:List Env
 stack:List Env
 ex:OT
 fn:Str->Bool
 calm:Bool
 pn:OW
 xe:KB->KF->Prop
abbrev q3(X:aS)(p:Pos)(a:OU):Prop:=((OB p (Nw a X.env)).all (λx => !x.1)&&(backToKw p (keywordEach [] X.env)).all (λx=>x.1.isSome)&&decide (a.length+([]:List Keyword).length+(if([]:List Keyword).isEmpty then 0 else 1)<30))=true
abbrev e9(X:aS)(e:Nu)(a:OU):Prop:=Nw (e::a) X.env=(false,Op e X.env)::Nw a X.env
abbrev eS(x:Str):Prop:=(x==("__debug__":Str))=false
abbrev jG(x:Str):Prop:=(x==("__classdict__":Str))=false
abbrev iq(X:aS)(x:Str):Prop:=X.fn x=true\/X.env.scope.names.lookup x=some .local
abbrev q4(X:aS)(o:Nu)(x:Str):Prop:=attributeBase o x X.env (Op o X.env)=Op o X.env
abbrev ir(X:aS)(p:Pos)(a:OU):Prop:=(OB p (Nw a X.env)).any (·.1)=false
abbrev q5(p q:Pos):Prop:=(p.endLine==q.line)=true
abbrev i2(X:aS)(i:Nat)(x:Str):Prop:=X.N[i]?=some x
def hE(l:List Env):List KT:=l.filterMap (·.frame)
abbrev aS.fs(X:aS):List KT:=hE X.outer
def i3(sc:N0)(x:Str):Prop:=sc.names.lookup x=some .local\/sc.names.lookup x=some .cell\/sc.names.lookup x=some .free
def g7(sc:N0)(x:Str):Prop:=sc.names.lookup x=some .local\/sc.names.lookup x=some .cell
def i'(a:Env)(h:NH)(m:Str->Option KB)(x:Str)(u:KB):Prop:=
 (a.kindOf x=some .local/\m x=some u)\/((a.kindOf x=some .cell\/a.kindOf x=some .free)/\∃c,a.cells.lookup x=some c/\h.IsCell c (some u))
structure aS.Ok(X:aS):Prop where
 mod:Mod X.K X.mg X.base
 kind:X.env.scope.kind=.function
 glob:X.env.globals=Nr
 blt:X.env.builtins=N1
 above:X.s₀.heap.objs.size<=X.env.locals
 inj:∀x y c,X.env.cells.lookup x=some c->X.env.cells.lookup y=some c->x=y
 has:∀x,(X.env.kindOf x=some .cell\/X.env.kindOf x=some .free)->∃c,X.env.cells.lookup x=some c
 i7:∀x c,X.fn x=true->X.env.cells.lookup x=some c->X.s₀.heap.objs.size<=c
 hd:X.calm=true->X.A.handled=none
 frames:X.A.frames=some X.stack
 i_:X.stack=X.outer\/(X.stack=X.env::X.outer/\X.env.frame=some X.env.locals)
 ji:∀b∈X.ex,b≠X.env.locals/\∀x c,X.env.cells.lookup x=some c->c≠b
 bs:∀b o,X.base.get? b=some o->X.s₀.heap.get? b=some o/\X.H₀ b=none
 h_:X.base.objs.size<=X.s₀.heap.objs.size
 gL:∀b o,X.base.get? b=some o->b∉X.ex
 gR:∀b∈X.ex,b∉X.fs
 eV:X.s₀.heap.FunFrames X.base X.outer
 iv:∀b∈X.fs,X.H₀ b=none
 tab:jF X.K X.H₀
structure b_(X:aS)(ag:OW)(σ:List (Option V))(H:ak)(s:KF):Prop where
 ok:X.Ok
 os:s.os=X.s₀.os
 bare:N8 s.gens
 base:dZ X.fs X.ex X.H₀ H X.s₀.heap s.heap
 loc:∃m,s.heap.Ns X.env.locals m/\∀(i:Nat)(x:Str)(v:V),X.N[i]?=some x->σ[i]?=some (some v)->i3 X.env.scope x->∃u,dx v u/\i' X.env s.heap m x u
 cell:∀x c,X.env.cells.lookup x=some c->∃v,s.heap.IsCell c v
 free:H X.env.locals=none
 ej:∀x c,X.env.cells.lookup x=some c->H c=none
 pin:∀p∈X.pn++ag,s.heap.get? p.1=some p.2/\H p.1=none/\p.1≠X.env.locals/\p.1∉X.fs/\∀v,p.2.data≠.cell v
 dR:dU X.prog X.w H s.heap
 len:σ.length=X.N.length
section
variable{X:aS}{f:OW}{B:List (Option V)}{H C:ak}{s:KF}{h':NH}
theorem aS.Ok.jz(ok:X.Ok){b:KT}{o:Obj}(e:X.base.get? b=some o):b∉X.fs:=λa=>by
 have:=(ok.eV.mem a).1;rw[e]at this;cases this
theorem b_.bs(I:b_ X f B H s):∀b o,X.base.get? b=some o->s.heap.get? b=some o/\H b=none:=λb o e=>
 ⟨I.base.keep b o (I.ok.bs b o e).1 (I.ok.bs b o e).2 (I.ok.jz e) (I.ok.gL b o e),I.base.free b o (I.ok.bs b o e).1 (I.ok.bs b o e).2 (I.ok.gL b o e)⟩
theorem b_.bk(I:b_ X f B H s):∀b o,X.base.get? b=some o->s.heap.get? b=some o:=λb o e=>(I.bs b o e).1
theorem jF.grow{K:JS}{H C:ak}(x:jF K H)(g:∀b c,H b=some (.tbl c)->∃a,C b=some (.tbl (c++a))):jF K C:=λp d=>by
 obtain⟨c,t,e,q⟩:=x p d;obtain⟨a,f⟩:=g _ _ e;refine⟨_,t,f,?_⟩
 have:0<c.size:=by
  rcases Nat.eq_zero_or_pos c.size with z|z
  ·rw[Array.getElem?_eq_none (by lia)]at q;cases q
  exact z
 rw[Array.getElem?_append_left this];exact q
theorem b_.tabs(I:b_ X f B H s):jF X.K H:=I.ok.tab.grow I.base.e3
theorem b_.mod(I:b_ X f B H s):Mod X.K X.mg X.base:=I.ok.mod
theorem b_.fv(I:b_ X f B H s):X.K.In s.heap:=I.ok.mod.jC.keeps I.bk
theorem b_.lt(I:b_ X f B H s):X.env.locals<s.heap.objs.size:=let⟨_,a,_⟩:=I.loc;a.lt
theorem b_.sz(I:b_ X f B H s):X.s₀.heap.objs.size<=s.heap.objs.size:=J4 I.ok.above (Mg I.lt)
theorem b_.iP(I:b_ X f B H s){a:KT}(h:s.heap.objs.size<=a):a∉X.fs:=λb=>by
 obtain⟨_,o,c,_⟩:=I.ok.eV.mem b;exact absurd (Kz (Heap.lt_size c) (J4 I.sz h)) (K5 _)
theorem b_.jN(I:b_ X f B H s):∀x c,X.env.cells.lookup x=some c->c≠X.env.locals:=λx c e z=>by
 obtain⟨v,o,a,b⟩:=I.cell x c e;obtain⟨m,⟨h,i,j,d,g,_⟩,_⟩:=I.loc;rw[z,d]at a;cases a;rw[g]at b;cases b
theorem b_.eV(I:b_ X f B H s):s.heap.FunFrames X.base X.outer:=by
 have all:∀(l:List Env),(∀b∈hE l,b∈X.fs)->X.s₀.heap.FunFrames X.base l->s.heap.FunFrames X.base l:=by
  intro l;induction l with
  |nil=>intro _ _;trivial
  |cons env r h=>
   intro g i;obtain⟨j,⟨L,o,a,k,m,n⟩,p⟩:=i;have c:L∈X.fs:=g L (by unfold hE;rw[Mh,a];exact J1);obtain⟨q,e⟩:=I.base.slot L o m (I.ok.iv L c) c λz=>I.ok.gR L z c;exact⟨j,⟨L,_,a,k,e,n⟩,h (λb d=>g b (by unfold hE;rw[Mh,a];exact J3 _ d)) p⟩
 exact all X.outer (λ_ d=>d) I.ok.eV
theorem b_.stack(I:b_ X f B H s):s.heap.FunFrames X.base X.stack:=by
 rcases I.ok.i_ with e|⟨e,a⟩
 ·rw[e];exact I.eV
 rw[e];obtain⟨m,b,_⟩:=I.loc;refine .cons (by rw[I.ok.kind];decide) a b ?_ I.eV;exact Heap.get?_none_of_le (J4 I.ok.h_ I.ok.above)
theorem b_.fL(I:b_ X f B H s):∀b∈hE X.stack,b∈X.env.locals::X.fs:=λb a=>by
 rcases I.ok.i_ with e|⟨e,c⟩
 ·rw[e]at a;exact J3 _ a
 rw[e]at a;unfold hE at a;rwa[Mh,c]at a
theorem b_.gm(I:b_ X f B H s):∀b∈hE X.stack,H b=none:=λb a=>by
 rcases J6.mp (I.fL b a)with e|a
 ·rw[e];exact I.free
 obtain⟨_,o,c,_⟩:=I.ok.eV.mem a;exact I.base.free b o c (I.ok.iv b a) λz=>I.ok.gR b z a
theorem b_.step{g':Array GenState}{t':Nat}{d':Drawn}{ch:OT}(I:b_ X f B H s)(F:∀b∈ch,(b∈X.ex\/X.s₀.heap.objs.size<=b)/\b≠X.env.locals/\(∀x c,X.env.cells.lookup x=some c->c≠b)/\∀p∈X.pn++f,p.1≠b)(g:∀b o,b≠X.env.locals->b∉X.fs->b∉ch->s.heap.get? b=some o->H b=none->h'.get? b=some o)(j:∀b o,b≠X.env.locals->b∈X.fs->b∉ch->s.heap.get? b=some o->H b=none->∃Q,h'.get? b=some {o with slots:=Q})(free:∀b o,b∉ch->s.heap.get? b=some o->H b=none->C b=none)(y:∀b o,b∉ch->s.heap.get? b=some o->∃G,h'.get? b=some G)(J:∀b t,H b=some (.tup t)->C b=some (.tup t))(K:∀b o u,H b=some (.frz o u)->C b=some (.frz o u))(L:∀b O,H b=some (.tbl O)->∃more,C b=some (.tbl (O++more)))(Z:∀m,s.heap.Ns X.env.locals m->h'.Ns X.env.locals m)(dR:dU X.prog X.w C h')(ab:N8 g'):
  b_ X f B C {s with heap:=h',gens:=g',drawn:=d',toks:=t' }:=by
 have S:∀b o,X.s₀.heap.get? b=some o->b≠X.env.locals:=λb o e=>KJ (Kz (Heap.lt_size e) I.ok.above)
 have P:∀b o,X.s₀.heap.get? b=some o->b∉X.ex->b∉ch:=λb o e a A=>by
  rcases(F b A).1 with z|z
  ·exact a z
  exact absurd (Kz (Heap.lt_size e) z) (K5 _)
 have cellK:∀x c,X.env.cells.lookup x=some c->∀v,s.heap.IsCell c v->h'.IsCell c v:=λx c e v ⟨o,E,R⟩=>by
  have M:c∉ch:=λz=>(F c z).2.2.1 x c e rfl;by_cases T:c∈X.fs
  ·obtain⟨Q,q⟩:=j c o (I.jN x c e) T M E (I.ej x c e);exact⟨_,q,R⟩
  exact⟨o,g c o (I.jN x c e) T M E (I.ej x c e),R⟩
 refine⟨I.ok,I.os,ab,⟨λb o e n A a=>?_,λb o e n A a=>?_,λb o e n a=>?_,λb o e a=>?_,λb t e=>J b t (I.base.fo b t e),λb o t e=>K b o t (I.base.fb b o t e),λb O e=>?_⟩,?_,λx c e=>?_,?_,λx c e=>?_,λp U=>?_,dR,I.len⟩
 ·exact g b o (S b o e) A (P b o e a) (I.base.keep b o e n A a) (I.base.free b o e n a)
 ·obtain⟨Q,h⟩:=I.base.slot b o e n A a;obtain⟨ae,N⟩:=j b _ (S b o e) A (P b o e a) h (I.base.free b o e n a);exact⟨ae,N⟩
 ·obtain⟨G,h⟩:=I.base.there b o e a;exact free b G (P b o e a) h (I.base.free b o e n a)
 ·obtain⟨G,h⟩:=I.base.there b o e a;exact y b G (P b o e a) h
 ·obtain⟨vs,h⟩:=I.base.e3 b O e;obtain⟨ag,N⟩:=L b _ h;exact⟨vs++ag,by rw[N,Array.append_assoc]⟩
 ·obtain⟨m,aj,ao⟩:=I.loc;refine⟨m,Z m aj,λi x v h N aq=>?_⟩;obtain⟨u,r,l⟩:=ao i x v h N aq;refine⟨u,r,?_⟩;rcases l with l|⟨k,c,e,z⟩
  ·exact .inl l
  exact .inr ⟨k,c,e,cellK x c e _ z⟩
 ·obtain⟨v,z⟩:=I.cell x c e;exact⟨v,cellK x c e v z⟩
 ·obtain⟨m,⟨o,_,_,E,_⟩,_⟩:=I.loc;exact free _ o (λz=>(F _ z).2.1 rfl) E I.free
 ·obtain⟨v,o,E,R⟩:=I.cell x c e;exact free c o (λz=>(F c z).2.2.1 x c e rfl) E (I.ej x c e)
 obtain⟨e,n,W,Y,d⟩:=I.pin p U;have M:p.1∉ch:=λz=>(F p.1 z).2.2.2 p U rfl;exact⟨g p.1 p.2 W Y M e n,free p.1 p.2 M e n,W,Y,d⟩
theorem b_.un{t':Nat}(I:b_ X f B H s)(u:dZ X.fs [] H C s.heap h')(dR:dU X.prog X.w C h'):b_ X f B C {s with heap:=h',toks:=t' }:=by
 obtain⟨m,⟨o,l,p,c,r⟩,_⟩:=id I.loc;obtain⟨q,g⟩:=u.any c I.free (by simp)
 exact I.step (g':=s.gens) (d':=s.drawn) (ch:=[]) (λ_ z=>nomatch z) (λb o _ a _ e n=>u.keep b o e n a (by simp)) (λb o _ a _ e n=>u.slot b o e n a (by simp)) (λb o _ e n=>u.free b o e n (by simp)) (λb o _ e=>u.there b o e (by simp)) u.fo u.fb u.e3 (λt h=>by
  obtain⟨v,i,j,d,k⟩:=h;rw[c]at d;cases d
  exact⟨_,i,j,g,k⟩) dR I.bare
theorem b_.call{g':Array GenState}{t':Nat}{d':Drawn}{ch:OT}(I:b_ X f B H s)(u:dZ (hE X.stack) ch H C s.heap h')(dR:dU X.prog X.w C h')(j:N8 g')(g:∀b∈ch,(b∈X.ex\/X.s₀.heap.objs.size<=b)/\b≠X.env.locals/\(∀x c,X.env.cells.lookup x=some c->c≠b)/\∀p∈X.pn++f,p.1≠b):
  b_ X f B C {s with heap:=h',gens:=g',drawn:=d',toks:=t' }:=by
 obtain⟨m,⟨o,y,A,h,r⟩,_⟩:=id I.loc;obtain⟨E,d⟩:=u.any h I.free λz=>(g _ z).2.1 rfl
 exact I.step (ch:=ch) g (λb o d k a e n=>u.keep b o e n (λz=>(J6.mp (I.fL b z)).elim d k) a) (λb o _ _ a e n=>u.any e n a) (λb o a e n=>u.free b o e n a) (λb o a e=>u.there b o e a) u.fo u.fb u.e3 (λF l=>by
  obtain⟨G,q,t,i,v⟩:=l;rw[h]at i;cases i
  exact⟨_,q,t,d,v⟩) dR j
theorem b_.turned{t':Nat}{a:KT}(I:b_ X f B H s)(k:∀b o,b≠a->s.heap.get? b=some o->h'.get? b=some o)(i:H a=none)(g:a≠X.env.locals)(j:a∈X.ex\/X.s₀.heap.objs.size<=a)(l:∀x c,X.env.cells.lookup x=some c->c≠a)(t:∀p∈X.pn++f,p.1≠a):b_ X f B H {s with heap:=h',toks:=t' }:=by
 have h:∀b u,H b=some u->b≠a:=λb u e z=>by rw[z,i]at e;cases e
 refine I.step (g':=s.gens) (d':=s.drawn) (ch:=[a]) (λb w=>?_) (λb o _ _ d e _=>k b o (λz=>d (by simp[z])) e) (λb o _ _ d e _=>⟨o.slots,k b o (λz=>d (by simp[z])) e⟩) (λ_ _ _ _ n=>n)
  (λb o d e=>⟨o,k b o (λz=>d (by simp[z])) e⟩) (λ_ _ e=>e) (λ_ _ _ e=>e) (λb F e=>⟨#[],by rw[e];simp⟩) (λm y=>?_) (λb u e=>?_) I.bare
 ·have e:b=a:=by simpa using w
  subst e;exact⟨j,g,l,t⟩
 ·obtain⟨o,A,C,E,r⟩:=y;exact⟨o,A,C,k _ o (KC g) E,r⟩
 refine(I.dR b u e).fM (λc v d q=>k c v ?_ q) (λ_ q=>q) (λ_ _ q=>q) λ_ _ _ q=>q;rcases d with z|z
 ·rw[z];exact h b u e
 exact h c _ z
theorem b_.tok(I:b_ X f B H s)(t:Nat):b_ X f B H {s with toks:=t}:=I.un (h':=s.heap) (t':=t) dZ.refl I.dR
theorem b_.kept{t':Nat}(I:b_ X f B H s)(k:∀b u,s.heap.get? b=some u->h'.get? b=some u):b_ X f B H {s with heap:=h',toks:=t' }:=I.un (dZ.kept k) (I.dR.kept k)
theorem b_.laid{a:KT}{o:dz}{t':Nat}(I:b_ X f B H s)(k:∀b u,s.heap.get? b=some u->h'.get? b=some u)(c:s.heap.objs.size<=a)(new:eR X.prog X.w (dQ H a o) h' a o):
  b_ X f B (dQ H a o) {s with heap:=h',toks:=t' }:=I.un (dZ.laid k c (I.dR.fresh c)) (I.dR.laid k c new)
theorem b_.write{x e:KT}{o:dz}{t':Nat}(I:b_ X f B H s)(a:om (H x))(c:e=x\/H e=some (.own x))(k:∀b u,b≠e->s.heap.get? b=some u->h'.get? b=some u)(d:∃u,h'.get? e=some u)(new:eR X.prog X.w (dQ H x o) h' x o):b_ X f B (dQ H x o) {s with heap:=h',toks:=t' }:=I.un (dZ.write a c k d) (I.dR.write a c k d new)
theorem b_.e_{a:OW}(I:b_ X f B H s)(h:∀p∈a,s.heap.get? p.1=some p.2/\H p.1=none/\p.1≠X.env.locals/\p.1∉X.fs/\∀v,p.2.data≠.cell v):b_ X a B H s:=
 ⟨I.ok,I.os,I.bare,I.base,I.loc,I.cell,I.free,I.ej,λp b=>(Kc.mp b).elim (λz=>I.pin p (Ku _ z)) (h p),I.dR,I.len⟩
theorem up{N:OR}(c:N.Nodup){i j:Nat}{x:Str}(a:N[i]?=some x)(b:N[j]?=some x):i=j:=by
 obtain⟨f,d⟩:=LG.mp a;obtain⟨g,e⟩:=LG.mp b;exact(List.getElem_inj c).mp (d.trans e.symm)
theorem zQ{M:Model}{A:NJ}{E:KB->KF->Prop}{i:Nat}{x:Str}{v:V}{u:KB}{Q:Unit->KF->Prop}(I:b_ X f B H s)(au:X.N.Nodup)(O:X.N[i]?=some x)(C:g7 X.env.scope x)(r:dx v u)(h:∀T,b_ X f (B.set i (some v)) H T->(∃a,Heap.SameBut a s.heap T.heap/\(a=X.env.locals\/X.env.cells.lookup x=some a))->Q () T)(aH:iq X x:=by walk_at"f"):wpAny M A (storeName X.env x u) Q E s:=by
 obtain⟨m,U,aw⟩:=id I.loc;have aI:(X.env.scope.kind==.class||(X.env.scope.kind==.module&&X.env.locals != X.env.globals))=false:=by rw[I.ok.kind];rfl
 have ax:i<B.length:=by rw[I.len];exact(LG.mp O).1
 have J:=I.jN
 have tracked:∀{a:KT}{h':NH},(∃o,s.heap.get? a=some o/\H a=none)->Heap.SameBut a s.heap h'->dU X.prog X.w H h':=λ{a h'} aJ g b aK e=>by
  obtain⟨_,_,aB⟩:=aJ;refine(I.dR b aK e).fM (λc P t q=>(g.2 c ?_).trans q) (λ_ q=>q) (λ_ _ q=>q) λ_ _ _ q=>q;rintro rfl;rcases t with rfl|t
  ·rw[aB]at e;cases e
  rw[aB]at t;cases t
 rcases C with G|G
 ·refine wpAny_storeName_local G U (λh' aL g=>?_) aI;obtain⟨aN,_,_,aP,_⟩:=id U;refine h _ ⟨I.ok,I.os,I.bare,⟨λb o e n K C=>?_,λb o e n K C=>?_,I.base.free,λb o e C=>?_,I.base.fo,I.base.fb,I.base.e3⟩,⟨_,aL,λj y W l F Y=>?_⟩,λy c e=>?_,I.free,I.ej,λp Z=>?_,tracked ⟨aN,aP,I.free⟩ g,by simpa using I.len⟩ ⟨_,g,.inl rfl⟩
  ·exact(g.2 b (KJ (Kz (Heap.lt_size e) I.ok.above))).trans (I.base.keep b o e n K C)
  ·obtain⟨ab,l⟩:=I.base.slot b o e n K C;exact⟨ab,(g.2 b (KJ (Kz (Heap.lt_size e) I.ok.above))).trans l⟩
  ·obtain⟨ae,l⟩:=I.base.there b o e C;exact⟨ae,(g.2 b (KJ (Kz (Heap.lt_size e) I.ok.above))).trans l⟩
  ·by_cases L:j=i
   ·subst L;rw[O]at l;cases l;rw[LH ax]at F;cases F;exact⟨u,r,.inl ⟨G,by simp⟩⟩
   rw[Ll (KC L)]at F;obtain⟨vs,ag,q⟩:=aw j y W l F Y;refine⟨vs,ag,?_⟩;rcases q with⟨k,e⟩|⟨k,c,e,z⟩
   ·refine .inl ⟨k,?_⟩;have:y≠x:=λe=>L (up au l (e▸O));simp[this,e]
   exact .inr ⟨k,c,e,z.sameBut g (J y c e)⟩
  ·obtain⟨P,z⟩:=I.cell y c e;exact⟨P,z.sameBut g (J y c e)⟩
  obtain⟨e,n,R,aj,d⟩:=I.pin p Z;exact⟨(g.2 p.1 R).trans e,n,R,aj,d⟩
 have aq:X.fn x=true:=by
  rcases aH with z|z
  ·exact z
  rw[z]at G;cases G
 obtain⟨c,t⟩:=I.ok.has x (.inl G);obtain⟨P,z⟩:=I.cell x c t;refine wpAny_storeName_cell I.ok.kind G t z (λh' or g=>?_);obtain⟨aC,aD,aQ⟩:=id z;refine h {s with heap:=h' } ⟨I.ok,I.os,I.bare,⟨λb o e n K C=>?_,λb o e n K C=>?_,I.base.free,λb o e C=>?_,I.base.fo,I.base.fb,I.base.e3⟩,⟨m,U.sameBut g (KC (J x c t)),λj y W l F Y=>?_⟩,λy S e=>?_,I.free,I.ej,λp Z=>?_,tracked ⟨aC,aD,I.ej x c t⟩ g,by simpa using I.len⟩ ⟨c,g,.inr t⟩
 ·exact(g.2 b (KJ (Kz (Heap.lt_size e) (I.ok.i7 x c aq t)))).trans (I.base.keep b o e n K C)
 ·obtain⟨ab,l⟩:=I.base.slot b o e n K C;exact⟨ab,(g.2 b (KJ (Kz (Heap.lt_size e) (I.ok.i7 x c aq t)))).trans l⟩
 ·obtain⟨ae,l⟩:=I.base.there b o e C;exact⟨ae,(g.2 b (KJ (Kz (Heap.lt_size e) (I.ok.i7 x c aq t)))).trans l⟩
 ·by_cases L:j=i
  ·subst L;rw[O]at l;cases l;rw[LH ax]at F;cases F;exact⟨u,r,.inr ⟨.inl G,c,t,or⟩⟩
  rw[Ll (KC L)]at F;obtain⟨vs,ag,q⟩:=aw j y W l F Y;refine⟨vs,ag,?_⟩;rcases q with q|⟨k,S,e,aT⟩
  ·exact .inl q
  refine .inr ⟨k,S,e,aT.sameBut g ?_⟩;rintro rfl;exact L (up au l (I.ok.inj _ _ _ e t▸O))
 ·by_cases aG:S=c
  ·subst aG;exact⟨_,or⟩
  obtain⟨aV,aX⟩:=I.cell y S e;exact⟨aV,aX.sameBut g aG⟩
 obtain⟨e,n,R,aj,d⟩:=I.pin p Z;refine⟨(g.2 p.1 ?_).trans e,n,R,aj,d⟩;intro q;rw[q,aD]at e;have aZ:aC=p.2:=Ki e;exact d P (by rw[<-aZ];exact aQ)
theorem mq{M:Model}{A:NJ}{E:KB->KF->Prop}{i:Nat}{x:Str}{v:V}{u:KB}{Q:Unit->KF->Prop}(I:b_ X f B H s)(b:X.N.Nodup)(c:X.N[i]?=some x)(d:g7 X.env.scope x)(r:dx v u)(h:∀a,b_ X f (B.set i (some v)) H a->Q () a)(e:iq X x:=by walk_at"f"):wpAny M A (storeName X.env x u) Q E s:=
 zQ I b c d r (λa g _=>h a g) e
theorem b_.i6{s':KF}{ch:OT}(I:b_ X f B H s)(a:s'.os=s.os)(u:dZ (hE X.stack) ch H C s.heap s'.heap)(dR:dU X.prog X.w C s'.heap)(d:N8 s'.gens)(g:∀b∈ch,(b∈X.ex\/X.s₀.heap.objs.size<=b)/\b≠X.env.locals/\(∀x c,X.env.cells.lookup x=some c->c≠b)/\∀p∈X.pn++f,p.1≠b):b_ X f B C s':=by
 obtain⟨h',g',d',t',h⟩:=s';have e:h=s.os:=a;subst e;exact I.call (g':=g') (t':=t') (d':=d') u dR d g
end
abbrev eT:=KB->Option KT->ak->Prop
abbrev St:=List (Option V)
abbrev b5:=V->ak->Prop
abbrev bx:=St->ak->b5->Prop
abbrev c2:=St->ak->(Bool->ak->Prop)->Prop
abbrev ek:=St->ak->(OK->ak->Prop)->Prop
structure jH where
 nx:St->ak->Prop
 rt:b5
 bk:St->ak->Prop:=λ_ _=>False
 ct:St->ak->Prop:=λ_ _=>False
abbrev el:=jH->St->ak->Prop
def fu(X:aS)(b:OW)(c:St)(Q:b5)(u:KB)(d:KF):Prop:=∃v a,b_ X b c a d/\dx v u/\Q v a
def ot(X:aS)(c:OW)(d:St)(Q:Bool->ak->Prop)(b:Bool)(e:KF):Prop:=∃a,b_ X c d a e/\Q b a
def zW(X:aS)(c:OW)(d:St)(Q:OK->ak->Prop)(e:OS)(f:KF):Prop:=∃a b,b_ X c d b f/\bG a e/\Q a b
def mr(X:aS)(c:OW)(D:jH)(f:Flow)(d:KF):Prop:=
 match f with
 |.next=>∃b a,b_ X c b a d/\D.nx b a
 |.brk=>∃b a,b_ X c b a d/\D.bk b a
 |.cont=>∃b a,b_ X c b a d/\D.ct b a
 |.ret u=>∃v b a,b_ X c b a d/\dx v u/\D.rt v a
def bK(X:aS)(e:Nu)(t:bx):Prop:=
 ∀(b:OW)(s:KF)(a:St)(H:ak)(Q:b5),b_ X b a H s->t a H Q->wpAny (Nz X.prog X.w) X.A (Op e X.env) (fu X b a Q) X.xe s
def gh(X:aS)(e:Nu)(t:c2):Prop:=
 ∀(b:OW)(s:KF)(a:St)(H:ak)(Q:Bool->ak->Prop),b_ X b a H s->t a H Q->wpAny (Nz X.prog X.w) X.A (OC e X.env (Op e X.env)) (ot X b a Q) X.xe s
def i5(X:aS)(e:Nu)(t:c2):Prop:=
 ∀(c:Sem KB)(b:OW)(s:KF)(a:St)(H:ak)(Q:Bool->ak->Prop),b_ X b a H s->t a H Q->wpAny (Nz X.prog X.w) X.A (OC e X.env c) (ot X b a Q) X.xe s
theorem i5.pt{X:aS}{e:Nu}{t:c2}(h:i5 X e t):gh X e t:=h _
def gi(X:aS)(c:OU)(t:ek):Prop:=
 ∀(pos:Pos)(b:OW)(s:KF)(a:St)(H:ak)(Q:OK->ak->Prop),b_ X b a H s->t a H Q->wpAny (Nz X.prog X.w) X.A (spliced (OB pos (Nw c X.env))) (zW X b a Q) X.xe s
def fV(X:aS)(st:NI)(t:el):Prop:=
 ∀(a:OW)(s:KF)(b:St)(H:ak)(D:jH),b_ X a b H s->t D b H->wpAny (Nz X.prog X.w) X.A (exec st X.env) (mr X a D) X.xe s
def gj(X:aS)(st:OV)(t:el):Prop:=
 ∀(a:OW)(s:KF)(b:St)(H:ak)(D:jH),b_ X a b H s->t D b H->wpAny (Nz X.prog X.w) X.A (execs st X.env) (mr X a D) X.xe s
theorem bW{b:Type}{t:Sem b}{Q c:b->KF->Prop}{M:Model}{A:NJ}{E:KB->KF->Prop}{s:KF}(h:wpAny M A t Q E s)(d:∀a s,Q a s->c a s):wpAny M A t c E s:=NN h d λ_ _ x=>x
section
variable{X:aS}
def q9(i:Nat):bx:=λa H Q=>∃v,a[i]?=some (some v)/\Q v H
def mu(v:V):bx:=λ_ H Q=>Q v H
theorem lj{i:Nat}{x:Str}{f:Pos}(k:X.N[i]?=some x)(n:i3 X.env.scope x)(b:eS x:=by decide)(o:jG x:=by decide):bK X (.Name x f) (q9 i):=by
 intro p s q H Q I h;obtain⟨v,e,h⟩:=h;obtain⟨m,t,w⟩:=I.loc;obtain⟨u,r,l⟩:=w i x v k e n;have d:fu X p q Q u s:=⟨v,H,I,r,h⟩;rcases l with⟨a,y⟩|⟨a,c,g,j⟩
 ·exact wpAny_Name (wpAny_loadName_local I.ok.kind a t y d) b
 rcases a with a|a
 ·exact wpAny_Name (wpAny_loadName_cell I.ok.kind a g j d) b
 exact wpAny_Name (wpAny_loadName_free I.ok.kind a g j d o) b
theorem eH{i j posQz}:bK X (.Constant (.int i) j posQz) (mu (.int i)):=λ_ _ _ H _ I h=>wpAny_Constant_int ⟨.int i,H,I.tok _,⟨_,rfl⟩,h⟩
theorem zX{b j posQz}:bK X (.Constant (.bool b) j posQz) (mu (.bl b)):=λ_ _ _ H _ I h=>Constant_bool ⟨.bl b,H,I,rfl,h⟩
def ew(X:aS)(x:Str):Prop:=X.env.kindOf x=some .globalImplicit
theorem zY{E:KB->KF->Prop}{a:OW}{s:KF}{b:St}{H:ak}{x:Str}{u:KB}{f:Pos}{Q:KB->KF->Prop}(I:b_ X a b H s)(c:ew X x)(d:X.mg x=some u)(h:Q u s)(e:eS x:=by decide):wpAny (Nz X.prog X.w) X.A (Op (.Name x f) X.env) Q E s:=
 Calls.Name_function_global I.ok.kind c (Calls.loadGlobal_global (by rw[I.ok.glob];exact I.mod.glob.keeps I.bk) d h) e
theorem mv{E:KB->KF->Prop}{a:OW}{s:KF}{b:St}{H:ak}{x:Str}{u:KB}{f:Pos}{Q:KB->KF->Prop}(I:b_ X a b H s)(c:ew X x)(d:X.mg x=none)(e:NQ x=some u)(h:Q u s)(g:x≠"__name__":=by decide)(i:eS x:=by decide):wpAny (Nz X.prog X.w) X.A (Op (.Name x f) X.env) Q E s:=by
 obtain⟨l,j,k⟩:=I.mod.blt;exact Calls.Name_function_global I.ok.kind c (Calls.loadGlobal_builtin (by rw[I.ok.glob];exact I.mod.glob.keeps I.bk) d (by rw[I.ok.blt];exact j.keeps I.bk) ((k x g).trans e) h) i
theorem ou{x:Str}{v:V}{u:KB}{f:Pos}(a:ew X x)(b:X.mg x=none)(c:NQ x=some u)(r:dx v u)(d:x≠"__name__":=by decide)(e:eS x:=by decide):bK X (.Name x f) (mu v):=
 λ_ _ _ H _ I h=>mv I a b c ⟨v,H,I,r,h⟩ d e
variable{a b:Nu}{ta n:bx}{f:Pos}
def uw(t:bx):c2:=λd H Q=>t d H λx e=>∃c,x=.bl c/\Q c e
theorem zZ{e:Nu}{t:bx}(h:bK X e t)(b:∀a,OC e X.env a=(do let v <-a;OD e.pos;Os [v] (truthy v)):=by intro _;rfl):gh X e (uw t):=by
 intro c s f H Q I g;refine isTrue_plain (bW (h c s f H _ I g) λv m ⟨x,i,j,k,l⟩=>?_) (b _);obtain⟨d,rfl,q⟩:=l;cases k;exact NO ⟨i,j,q⟩
variable{k o:c2}{g:OU}
def ux(t u:c2):c2:=λd H Q=>t d H λc e=>if c=true then u d e Q else Q false e
def uy(t u:c2):c2:=λd H Q=>t d H λc e=>if c=true then Q true e else u d e Q
def uz(t:c2):c2:=λd H Q=>t d H λc e=>Q (!c) e
theorem z0(b:gh X a k):i5 X (.BoolOp .And [a] f) k:=by
 intro i d s g H Q I h;refine isTrue_and (bW (b d s g H Q I h) λc j e=>?_);cases c with
 |true=>exact isTrue_and_nil e
 |false=>exact e
theorem z1(b:gh X a k):i5 X (.BoolOp .Or [a] f) k:=by
 intro i d s g H Q I h;refine isTrue_or (bW (b d s g H Q I h) λc j e=>?_);cases c with
 |false=>exact isTrue_or_nil e
 |true=>exact e
theorem z2(m:gh X a k)(n:i5 X (.BoolOp .And (b::g) f) o):i5 X (.BoolOp .And (a::b::g) f) (ux k o):=by
 intro p d s e H Q I h;refine isTrue_and (bW (m d s e H _ I h) λc q ⟨i,j,l⟩=>?_);cases c with
 |true=>exact n p d q e i Q j l
 |false=>exact⟨i,j,l⟩
theorem z3(m:gh X a k)(n:i5 X (.BoolOp .Or (b::g) f) o):i5 X (.BoolOp .Or (a::b::g) f) (uy k o):=by
 intro p d s e H Q I h;refine isTrue_or (bW (m d s e H _ I h) λc q ⟨i,j,l⟩=>?_);cases c with
 |true=>exact⟨i,j,l⟩
 |false=>exact n p d q e i Q j l
theorem z4(b:gh X a k):gh X (.UnaryOp .Not a f) (uz k):=by
 intro d s e H Q I h;exact isTrue_not (b d s e H (λc g=>Q (!c) g) I h)
def z5(ta n:bx):bx:=λd H Q=>ta d H λx e=>∃c,x=.bl c/\if c=true then n d e Q else Q (.bl false) e
def z6(ta:bx):bx:=λd H Q=>ta d H λx e=>∃c,x=.bl c/\Q (.bl (!c)) e
theorem z7{b}{t:bx}(h:bK X a t):bK X (.BoolOp b [a] f) t:=λc s d H Q I e=>BoolOp_one (h c s d H Q I e)
theorem z8(l:bK X a ta)(m:bK X (.BoolOp .And (b::g) f) n):bK X (.BoolOp .And (a::b::g) f) (z5 ta n):=by
 intro e s i H Q I h;refine BoolOp_and (bW (l e s i H _ I h) λv o ⟨x,j,k,p,d⟩=>?_);obtain⟨c,rfl,d⟩:=d;cases p;refine NO ?_;cases c with
 |true=>exact m e o i j Q k d
 |false=>exact⟨.bl false,j,k,rfl,d⟩
theorem z9(d:bK X a ta):bK X (.UnaryOp .Not a f) (z6 ta):=by
 intro e s g H Q I h;refine UnaryOp_ (bW (d e s g H _ I h) λv l ⟨x,i,j,k,b⟩=>?_);obtain⟨c,rfl,b⟩:=b;cases k;exact not_of (NO ⟨.bl (!c),i,j,rfl,b⟩)
def z'(t:c2)(ta n:bx):bx:=λd H Q=>t d H λc e=>if c=true then ta d e Q else n d e Q
theorem Aa{c:Nu}(o:gh X c k)(p:bK X a ta)(q:bK X b n):bK X (.IfExp c a b f) (z' k ta n):=by
 intro e s g H Q I h;refine wpAny_IfExp (bW (o e s g H _ I h) λd i ⟨j,l,m⟩=>?_);cases d with
 |true=>exact p e i g j Q l m
 |false=>exact q e i g j Q l m
end
def cf(K:JS)(H:ak)(a:KT)(c:OK):Prop:=
 ol H a (.lst c) \/
  ∃(o:Obj)(b:Array KB)(n:Nat),K.lookup a=some o/\o.cls=.type "list"/\o.dict=none/\o.data=.seq b n/\b.size<=Np/\bG c b.toList
def dM(K:JS)(H:ak)(a:KT)(c:OK):Prop:=
 ol H a (.tup c) \/
  ∃(o:Obj)(b:Array KB)(n:Nat),K.lookup a=some o/\o.cls=.type "tuple"/\o.data=.seq b n/\b.size<=Np/\bG c b.toList
def Ab:KB->Option V
 |.none=>some .non
 |.bool b=>some (.bl b)
 |.int i _=>some (.int i)
 |.str x _=>some (.str x)
 |.bytes b _=>some (.byt b)
 |.float b _=>some (.flt b)
 |.ref a=>some (.ref a)
 |.type n=>some (.ty n)
 |_=>none
theorem dx.abs{x:V}{u:KB}(r:dx x u):Ab u=some x:=by
 cases x with
 |non=>cases r;rfl
 |bl _=>cases r;rfl
 |int _=>obtain⟨t,rfl⟩:=r;rfl
 |str _=>obtain⟨t,rfl⟩:=r;rfl
 |byt _=>obtain⟨t,rfl⟩:=r;rfl
 |flt _=>obtain⟨t,rfl⟩:=r;rfl
 |ref _=>cases r;rfl
 |ty _=>cases r;rfl
theorem dx.inj{x y:V}{u:KB}(r:dx x u)(q:dx y u):x=y:=Ki (r.abs.symm.trans q.abs)
theorem bG.inj:∀{a b:OK}{c:OS},bG a c->bG b c->a=b
 |_,_,_,.nil,.nil=>rfl
 |_,_,_,.cons r t,.cons d e=>by rw[r.inj d,bG.inj t e]
section
variable{X:aS}{c:OW}{g:St}{H:ak}{s:KF}{a:KT}{b f:OK}
theorem cf.of{K:JS}(h:H a=some (.lst b)):cf K H a b:=.inl (.inl h)
theorem dM.of{K:JS}(h:H a=some (.tup b)):dM K H a b:=.inl (.inl h)
theorem b_.list(I:b_ X c g H s)(h:cf X.K H a b):∃d:OS,bG b d/\PlainL s.heap a d.toArray/\b.length<=Np:=by
 rcases h with h|⟨o,d,n,f,i,j,k,l,r⟩
 ·obtain⟨z,d,n,r,e⟩:=h.ok I.dR;exact⟨d,r,⟨_,n,e,rfl,rfl,rfl⟩,z⟩
 refine⟨d.toList,r,⟨o,n,I.fv a o f,i,j,by simpa using k⟩,?_⟩;have e:=r.length;simp only[MN]at e;lia
theorem b_.tuple(I:b_ X c g H s)(h:dM X.K H a b):∃d:OS,bG b d/\IsTup s.heap a d.toArray/\b.length<=Np:=by
 rcases h with h|⟨o,d,n,f,i,j,k,r⟩
 ·obtain⟨z,d,r,p⟩:=h.ok I.dR;exact⟨d,r,p,z⟩
 refine⟨d.toList,r,⟨o,I.fv a o f,i,n,by simpa using j⟩,?_⟩;have e:=r.length;simp only[MN]at e;lia
theorem b_.ft(I:b_ X c g H s)(h:cf X.K H a b)(h':cf X.K H a f):b=f:=by
 obtain⟨j,r,⟨o,n,e,_,_,d⟩,_⟩:=I.list h;obtain⟨i,m,⟨q,t,k,_,_,l⟩,_⟩:=I.list h';rw[e]at k;cases k;rw[d]at l;injection l with p _
 have:j=i:=by simpa using Nq Array.toList p
 subst this;exact r.inj m
theorem b_.gz(I:b_ X c g H s)(h:dM X.K H a b)(h':dM X.K H a f):b=f:=by
 obtain⟨j,r,⟨o,e,_,n,d⟩,_⟩:=I.tuple h;obtain⟨i,m,⟨q,k,_,t,l⟩,_⟩:=I.tuple h';rw[e]at k;cases k;rw[d]at l;injection l with p _
 have:j=i:=by simpa using Nq Array.toList p
 subst this;exact r.inj m
end
abbrev aS.eX(X:aS)(E:KB->KF->Prop):aS:={X with xe:=E}
abbrev aS.hK(X:aS):aS:=X.eX λ_ _=>False
theorem aS.Ok.eX{X:aS}(ok:X.Ok)(E:KB->KF->Prop):(X.eX E).Ok:=
 ⟨ok.mod,ok.kind,ok.glob,ok.blt,ok.above,ok.inj,ok.has,ok.i7,ok.hd,ok.frames,ok.i_,ok.ji,ok.bs,ok.h_,ok.gL,ok.gR,ok.eV,ok.iv,ok.tab⟩
theorem aS.Ok.d_{X:aS}{E:KB->KF->Prop}(ok:(X.eX E).Ok):X.Ok:=
 ⟨ok.mod,ok.kind,ok.glob,ok.blt,ok.above,ok.inj,ok.has,ok.i7,ok.hd,ok.frames,ok.i_,ok.ji,ok.bs,ok.h_,ok.gL,ok.gR,ok.eV,ok.iv,ok.tab⟩
section
variable{X:aS}{a:OW}{b:St}{H:ak}{s:KF}{E:KB->KF->Prop}
theorem b_.eX(I:b_ X a b H s)(E:KB->KF->Prop):b_ (X.eX E) a b H s:=⟨I.ok.eX E,I.os,I.bare,I.base,I.loc,I.cell,I.free,I.ej,I.pin,I.dR,I.len⟩
theorem b_.d_(I:b_ (X.eX E) a b H s):b_ X a b H s:=⟨I.ok.d_,I.os,I.bare,I.base,I.loc,I.cell,I.free,I.ej,I.pin,I.dR,I.len⟩
theorem mr.d_{D:jH}{f:Flow}{d:KF}(h:mr (X.eX E) a D f d):mr X a D f d:=by
 cases f with
 |next=>obtain⟨b,c,I,q⟩:=h;exact⟨b,c,I.d_,q⟩
 |brk=>obtain⟨b,c,I,q⟩:=h;exact⟨b,c,I.d_,q⟩
 |cont=>obtain⟨b,c,I,q⟩:=h;exact⟨b,c,I.d_,q⟩
 |ret u=>obtain⟨v,b,c,I,r,q⟩:=h;exact⟨v,b,c,I.d_,r,q⟩
theorem gj.hK{st:OV}{t:el}(h:gj X.hK st t):gj X st t:=λa s b H D I c=>
 NN (h a s b H D (I.eX _) c) (λ_ _ q=>q.d_) λ_ _ z=>KU z
end
section
variable{X:aS}{st:NI}{j:OV}{t u:el}{e:Nu}{i:bx}{g:Pos}
def Ac:el:=λD a H=>D.nx a H
def Ad(t u:el):el:=λD a H=>t {D with nx:=u D} a H
theorem q':gj X [] Ac:=λ_ _ a H _ I h=>NU ⟨a,H,I,h⟩
theorem lm(b:fV X st t)(c:gj X j u):gj X (st::j) (Ad t u):=by
 intro a s d H D I h;refine wpAny_execs_cons (bW (b a s d H {D with nx:=u D} I h) λf e q=>?_);cases f with
 |next=>
  obtain⟨g,i,k,q⟩:=q;exact c a e g i D k q
 |ret v=>exact q
 |brk=>exact q
 |cont=>exact q
theorem lp(a:fV X st t):gj X [st] t:=by
 intro b s c H D I h;refine wpAny_execs_cons (bW (a b s c H D I h) λf d q=>?_);cases f with
 |next=>exact NU q
 |ret v=>exact q
 |brk=>exact q
 |cont=>exact q
def Ae:el:=λD a H=>D.bk a H
def Af:el:=λD a H=>D.ct a H
theorem Ag:fV X (.Break g) Ae:=λ_ _ a H _ I h=>wpAny_Break ⟨a,H,I,h⟩
theorem Ah:fV X (.Continue g) Af:=λ_ _ a H _ I h=>wpAny_Continue ⟨a,H,I,h⟩
theorem b_.quiet{a:OW}{b:St}{H:ak}{s:KF}(I:b_ X a b H s):interactive X.env=false:=by simp[interactive,I.ok.kind]
def Ai(i:bx):el:=λD a H=>i a H λ_ b=>D.nx a b
theorem Aj(b:bK X e i)(c:NT e none g.line X.env=pure false:=by rfl):fV X (.Expr e g) (Ai i):=by
 intro d s a H D I h;exact wpAny_Expr_any (bW (b d s a H _ I h) λv l ⟨x,f,j,m,k⟩=>⟨a,f,j,k⟩) I.quiet c
def Ak(i:bx):el:=λD a H=>i a H D.rt
theorem jI(b:bK X e i):fV X (.Return (some e) g) (Ak i):=by
 intro c s a H D I h;exact wpAny_Return_some (bW (b c s a H _ I h) λv l ⟨x,d,f,j,k⟩=>⟨x,a,d,f,j,k⟩)
def Al(c:c2)(t u:el):el:=λD a H=>c a H λb d=>if b=true then t D a d else u D a d
theorem ra{c:Nu}{a b:OV}{i:c2}(n:gh X c i)(o:gj X a t)(p:gj X b u):fV X (.If c a b g) (Al i t u):=by
 intro e s f H D I h;refine wpAny_If (bW (n e s f H _ I h) λd j ⟨k,l,m⟩=>?_);cases d with
 |true=>exact o e j f k D l m
 |false=>exact p e j f k D l m
def Am:el:=λ_ _ _=>False
theorem An:fV X st Am:=λ_ _ _ _ _ _ h=>h.elim
end
abbrev eo:=V->St->ak->(St->ak->Prop)->Prop
abbrev jJ:=OK->St->ak->(St->ak->Prop)->Prop
def gk(X:aS)(a:Nu)(t:eo):Prop:=
 ∀(b:OW)(s:KF)(c:St)(H:ak)(v:V)(u:KB)(Q:St->ak->Prop),b_ X b c H s->dx v u->t v c H Q->
  wpAny (Nz X.prog X.w) X.A (Ov a X.env u) (λ_ f=>∃d e,b_ X b d e f/\Q d e) X.xe s
def mw(X:aS)(g:OU)(t:jJ):Prop:=
 ∀(a:OW)(s:KF)(b:St)(H:ak)(c:OK)(d:OS)(Q:St->ak->Prop),b_ X a b H s->bG c d->t c b H Q->
  wpAny (Nz X.prog X.w) X.A (Of ((NK g X.env).map (·.2)) d) (λ_ h=>∃e f,b_ X a e f h/\Q e f) X.xe s
abbrev rb:=V->V->V->ak->(ak->Prop)->Prop
def uA(X:aS)(t:rb):Prop:=
 ∀(a:OW)(s:KF)(b:St)(H:ak)(o i v:V)(c d u:KB)(Q:ak->Prop),b_ X a b H s->dx o c->dx i d->dx v u->t o i v H Q->
  wpAny (Nz X.prog X.w) X.A (setItem c d u) (λ_ f=>∃e,b_ X a b e f/\Q e) X.xe s
section
variable{X:aS}{c:Pos}
def mx(i:Nat):eo:=λv a H Q=>Q (a.set i (some v)) H
theorem Ao{i:Nat}{x:Str}(a:X.N.Nodup)(b:X.N[i]?=some x)(d:g7 X.env.scope x)(e:iq X x:=by walk_at"f"):gk X (.Name x c) (mx i):=by
 intro g s j H v u Q I r h;exact wpAny_assign_Name (mq I a b d r (λk f=>⟨_,H,f,h⟩) e)
def Ap:jJ:=λa b H Q=>a=[]/\Q b H
def Aq(t:eo)(u:jJ):jJ:=λa b H Q=>∃v r,a=v::r/\t v b H λd e=>u r d e Q
theorem Ar:mw X [] Ap:=by
 intro b s a H c d Q I r h;obtain⟨e,h⟩:=h;subst e;cases r;exact assignInOrder_nil ⟨a,H,I,h⟩
theorem As{e:Nu}{a:OU}{t:eo}{u:jJ}(c:gk X e t)(d:mw X a u)(f:(NK (e::a) X.env).map (·.2)=Ov e X.env::(NK a X.env).map (·.2):=by rfl):mw X (e::a) (Aq t u):=by
 intro b s g H p q Q I r h;obtain⟨v,w,i,h⟩:=h;subst i;cases r with
 |cons r j=>
  rw[f];refine NW (bW (c b s g H _ _ _ I r h) λ_ k ⟨l,m,n,o⟩=>?_);exact d b k l m _ _ Q n j o
def At(K:JS)(n:Nat)(t:jJ):eo:=λv d H Q=>∃a b,v=.ref a/\dM K H a b/\b.length=n/\t b d H Q
theorem Au{d:OU}{k:Nat}{t:jJ}{n:Nat}(l:X.calm=true)(h:mw X d t)(m:(NK d X.env).length=n:=by rfl)(p:(NK d X.env).findIdx? (·.1)=none:=by rfl):gk X (.Tuple d k c) (At X.K n t):=by
 intro g s i H v u Q I r f;obtain⟨a,q,w,x,y,f⟩:=f;subst w;cases r;obtain⟨z,j,A,F⟩:=I.tuple x;refine assign_Tuple_tuple (I.ok.hd l) A (by simp[m,<-y,j.length]) p λB C=>?_;have E:b_ X g i H {s with heap:=B }:=I.kept (t':=s.toks) λb o e=>C b o (KJ (Heap.lt_size e)) e;exact h g _ i H q _ Q E (by simpa using j) f
def Av(b d:bx)(t:rb):eo:=λv a H Q=>b a H λo e=>d a e λi f=>t o i v f λg=>Q a g
theorem uB{o i:Nu}{f g:bx}{t:rb}(j:bK X o f)(k:bK X i g)(l:uA X t)(m:∀v,Ov (.Subscript o i c) X.env v=(do
   let a <-Os [v] (Op o X.env)
   let b <-Os [v,a] (Op i X.env)
   OD c
   Os [v,a,b] (setItem a b v)
   release [v,a,b] []):=by intro _;rfl):gk X (.Subscript o i c) (Av f g t):=by
 intro e s d H v u Q I r h;rw[m];refine Nt (Og (bW (j e s d H _ I h) λa n ⟨x,p,q,w,z⟩=>?_));refine Nt (Og (bW (k e n d p _ q z) λb A ⟨y,B,C,E,F⟩=>?_));refine Nt (N2 (Nt (Og (bW (l e A d B x y v a b u _ C w E r F) λ_ L ⟨G,J,K⟩=>?_))));exact wpAny_release ⟨d,G,J,K⟩
def ow(b:bx)(g:eo):el:=λD a H=>b a H λx d=>g x a d D.nx
theorem re{a e:Nu}{b:bx}{g:eo}(i:bK X e b)(j:gk X a g)(k:N3 [a] e c.line X.env=pure false:=by rfl)(l:N4 [a] e X.env=pure none:=by rfl)(m:(NK [a] X.env).map (·.2)=[Ov a X.env]:=by rfl):fV X (.Assign [a] e c) (ow b g):=by
 intro d s f H D I h;refine wpAny_Assign_stores (bW (i d s f H _ I h) λv n ⟨x,o,p,r,t⟩=>?_) k l;rw[m];exact bW (j d n f o x v _ p r t) λ_ u q=>q
theorem ox{i:Nat}{x:Str}{e:Nu}{a:bx}{b:Pos}(d:X.N.Nodup)(f:X.N[i]?=some x)(g:g7 X.env.scope x)(j:bK X e a)(k:NT e (some (.Name x b)) c.line X.env=pure false:=by rfl)(l:iq X x:=by walk_at"f"):
  fV X (.Assign [.Name x b] e c) (ow a (mx i)):=by
 intro m s n H D I h;refine wpAny_Assign_Name (bW (j m s n H _ I h) λv u ⟨y,o,p,q,r⟩=>?_) k;exact mq p d f g q (λw t=>⟨_,o,t,r⟩) l
def Aw(i j:Nat)(ta:ek):el:=λD a H=>ta a H λb d=>∃v w,b=[v,w]/\D.nx ((a.set i (some v)).set j (some w)) d
theorem Ax{i j:Nat}{x y:Str}{a b:Nu}{ta:ek}{k l m:Pos}{n r t}(K:X.calm=true)(z:X.N.Nodup)(L:X.N[i]?=some x)(M:X.N[j]?=some y)(O:i≠j)(B:X.env.scope.names.lookup x=some .local)(C:X.env.scope.names.lookup y=some .local)(P:gi X [a,b] ta)(Q:N4 [.Tuple [.Name x k,.Name y l] n m] (.Tuple [a,b] r t) X.env=pure (some [x,y]))(R:N3 [.Tuple [.Name x k,.Name y l] n m] (.Tuple [a,b] r t) c.line X.env=pure false:=by rfl):
  fV X (.Assign [.Tuple [.Name x k,.Name y l] n m] (.Tuple [a,b] r t) c) (Aw i j ta):=by
 intro E s F H D I h;rw[exec_Assign_arm];refine Nt (N2 ?_);rw[R];refine Nt (NA ?_);rw[No (by decide)];refine Nt (Tuple_ (bW (P _ E s F H _ I h) λS d ⟨ax,G,T,U,u⟩=>?_));obtain⟨v,w,W,u⟩:=u;subst W
 obtain⟨f,g,rfl,Y,Z⟩:∃f g,S=[f,g]/\dx v f/\dx w g:=by
  cases U with
  |cons p q=>
   cases q with
   |cons ab ae=>
    cases ae;exact⟨_,_,rfl,p,ab⟩
 refine wpAny_newObj_type ?_ kn;have af:b_ X E F G {d with heap:=d.heap.push {cls:=.type "tuple",data:=.seq [f,g].toArray} }:=T.kept (t':=d.toks) λb o e=>Heap.get?_push_of_some _ e;rw[Q];refine Nt (NA ?_);show wpAny (Nz X.prog X.w) X.A (do rule "assign.swapped-stores";let items <-unpackItems (.ref d.heap.objs.size) 2 none;Of [λv=>OG X.env y v,λv=>OG X.env x v] items.reverse;pure Flow.next) _ _ _;refine Nt (wpAny_rule (Nt (unpackItems_tuple (items :=#[f,g]) (I.ok.hd K) (IsTup.new d.heap _) λh' ah=>?_)));have aj:=af.kept (h':=h') (t':=d.toks) λb o e=>ah b o (KJ (Heap.lt_size e)) e;show wpAny _ _ (Of [λv=>OG X.env y v,λv=>OG X.env x v] [g,f] >>= λ_=>pure Flow.next) _ _ _
 refine Nt (NW (wpAny_bindName (mq aj z M (.inl C) Z (λaA aq=>?_) (.inr C))));refine NW (wpAny_bindName (mq aq z L (.inl B) Y (λaB J=>assignInOrder_nil (NA ?_)) (.inr B)));rw[List.set_comm _ _ (KC O)]at J;exact⟨_,G,J,u⟩
end
section
variable{X:aS}{a:Pos}
def Ay(c:c2)(i:el):el:=λD d H=>∃W:Nat->St->ak->Prop,(∃m,W m d H)/\∀m d H,W m d H->
 c d H λb e=>if b=true then ∃N:St->ak->Prop,(∀f g,N f g->∃h,h<m/\W h f g)/\i {D with nx:=N,ct:=N,bk:=D.nx} d e else D.nx d e
theorem Az{c:Nu}{d:OV}{u:c2}{x:el}(y:Oh (Nz X.prog X.w) X.A X.env X.xe)(J:gh X c u)(K:gj X d x):fV X (.While c d [] a) (Ay u x):=by
 intro m s L H D I h;obtain⟨W,⟨M,O⟩,e⟩:=h;refine wpAny_While (codeAny_whileLoop (λn P=>∃z B,b_ X m z B P/\W n z B) ?_ M ⟨L,H,I,O⟩);rintro n Q ⟨j,C,R,S⟩;refine NG y (bW (J m Q j C _ R (e n j C S)) λb T ⟨E,F,k⟩=>?_);cases b with
 |true=>
  obtain⟨N,G,k⟩:=k;rw[M2 rfl];refine NG y (bW (K m T j E _ F k) λf U l=>?_);cases f with
  |next=>
   obtain⟨g,i,o,p⟩:=l;obtain⟨q,r,t⟩:=G g i p;exact⟨q,r,g,i,o,t⟩
  |cont=>
   obtain⟨g,i,o,p⟩:=l;obtain⟨q,r,t⟩:=G g i p;exact⟨q,r,g,i,o,t⟩
  |brk=>exact l
  |ret v=>exact l
 |false=>
  rw[No Ke];exact NU ⟨j,E,F,k⟩
end
structure fZ where
 go:Nat->ak->Prop
 ix:Nat->ak->V->ak->Prop
 stop:Nat->ak->Prop
def gO(X:aS)(a:OW)(H:ak)(b:KT):Prop:=
 H b=none/\b≠X.env.locals/\b∉X.fs/\(b∈X.ex\/X.s₀.heap.objs.size<=b)/\(∀x c,X.env.cells.lookup x=some c->c≠b)/\∀p∈X.pn++a,p.1≠b
theorem b_.gP{X:aS}{d:OW}{g:St}{H f:ak}{s:KF}{b:KT}(I:b_ X d g H s)(a:s.heap.objs.size<=b)(h:f b=none):gO X d f b:=by
 refine⟨h,LI (Kz I.lt a),I.iP a,.inr (J4 I.sz a),λx c e z=>?_,λp i z=>?_⟩
 ·obtain⟨v,q⟩:=I.cell x c e;exact absurd (Kz q.lt (by rw[z];exact a)) (K5 _)
 exact absurd (Kz (Heap.lt_size (I.pin p i).1) (by rw[z];exact a)) (K5 _)
structure lq(P:Ny)(w:NE)(K:JS)(a6:Nu)(J:fZ)(bM:OT)(it:KT)(ey:Nat->NH->Prop):Prop where
 mem:it∈bM
 obj:∀i h,ey i h->∀b∈bM,∃o,h.get? b=some o/\∀v,o.data≠.cell v
 keep:∀i h h',ey i h->(∀b∈bM,∀o,h.get? b=some o->h'.get? b=some o)->ey i h'
 item:∀(X:aS),X.prog=P->X.w=w->X.K=K->X.calm=true->∀(i:Nat)(ag:OW)(s:KF)(σ:St)(H:ak)(E:KB->KF->Prop),b_ X ag σ H s->(∀b∈bM,gO X ag H b)->ey i s.heap->J.go i H->
  wpAny (Nz P w) X.A (pyNext (.ref it)) (λr aG=>∃u,r=some u /\
   wpAny (Nz P w) X.A (NV a6 (.ref it) u) (λ_ br=>∃x aj,b_ X ag σ aj br/\dx x u/\J.ix i H x aj/\ey (i+1) br.heap/\∀b∈bM,aj b=none) E aG) E s
 done:∀(X:aS),X.prog=P->X.w=w->X.K=K->X.calm=true->∀(i:Nat)(ag:OW)(s:KF)(σ:St)(H:ak)(E:KB->KF->Prop),b_ X ag σ H s->(∀b∈bM,gO X ag H b)->ey i s.heap->J.stop i H->
  wpAny (Nz P w) X.A (pyNext (.ref it)) (λr aG=>r=none/\b_ X ag σ H aG) E s
 self:∀(A:NJ)(i:Nat)(s:KF)(Q:KB->KF->Prop)(E:KB->KF->Prop),ey i s.heap->Q (.ref it) s->wpAny (Nz P w) A (pyIter (.ref it)) Q E s
abbrev fG:=St->ak->(fZ->ak->Prop)->Prop
def uC(X:aS)(c:OW)(h:St)(i:Nu)(R:fZ->ak->Prop)(j:KB)(d:KF):Prop:=
 ∃(e:KT)(f:OT)(g:Nat->NH->Prop)(J:fZ)(a:ak),j=.ref e/\b_ X c h a d/\lq X.prog X.w X.K i J f e g/\g 0 d.heap/\(∀b∈f,gO X c a b)/\R J a
def hX(X:aS)(c d:Nu)(wi:fG):Prop:=
 ∀(b:OW)(s:KF)(a:St)(H:ak)(R:fZ->ak->Prop),b_ X b a H s->wi a H R->
  wpAny (Nz X.prog X.w) X.A (Op d X.env) (λv e=>wpAny (Nz X.prog X.w) X.A (pyIter v) (uC X b a c R) X.xe e) X.xe s
theorem rh{M:Model}{A:NJ}{E:KB->KF->Prop}{s:KF}{b:Nu}{c:KT}{u:KB}{o:Obj}{n:String}{d:Array KB}{Q:Unit->KF->Prop}(e:s.heap.get? c=some o)(f:o.cls=.type n)(g:o.data=.fields d)(i:["enumerate","zip","dict_itemiterator","dict_reverseitemiterator","odict_iterator","itertools.zip_longest","itertools.pairwise"].contains n=false)(a:Q () s): wpAny M A (NV b (.ref c) u) Q E s:=by
  unfold NV
  cases b<;>first
    |exact NA a
    | (cases u<;>first
        |exact NA a
        | (refine Nt (wpAny_load e ?_)
           rw[f,g];show wpAny M A (if(["enumerate","zip","dict_itemiterator","dict_reverseitemiterator","odict_iterator","itertools.zip_longest","itertools.pairwise"].contains n&&d[0]?==some (rawInt _))=true then _ else _) Q E s
           rw[No (by intro h;rw[i,Bool.false_and]at h;cases h)]
           exact NA a))
def ri(K:JS)(a:KT):fZ:=
 ⟨λi H=>∃b x,cf K H a b/\b[i]?=some x,λi H x c=>c=H/\∀b,cf K H a b->b[i]?=some x,λi H=>∃b,cf K H a b/\b.length<=i⟩
def rj(K:JS)(a:KT):fZ:=
 ⟨λi H=>∃b x,dM K H a b/\b[i]?=some x,λi H x c=>c=H/\∀b,dM K H a b->b[i]?=some x,λi H=>∃b,dM K H a b/\b.length<=i⟩
def oy(lo:Int)(n:Nat):fZ:=⟨λi _=>i<n,λi H x a=>a=H/\x=.int (lo+i),λi _=>n<=i⟩
theorem AA{P:Ny}{w:NE}{K:JS}{R:Nu}(a f:KT):lq P w K R (ri K a) [f] f (λi h=>h.IsListIter f a i) where
 mem:=by simp
 obj:=λi h st b g=>by
  have e:b=f:=by simpa using g
  subst e;obtain⟨o,e,c,d⟩:=st;exact⟨o,e,λv z=>by rw[d]at z;cases z⟩
 keep:=λi h j st k=>st.at λo e=>k f (by simp) o e
 item:=by
  intro X n q r M i N s O H E I l st t;subst n q r;obtain⟨S,x,m,y⟩:=t;obtain⟨A,B,p,T⟩:=I.list m;obtain⟨u,U,W⟩:=B.get y;obtain⟨C,F,Y,G,J,L⟩:=l f (by simp);refine wpAny_pyNext_list_item st p.isList (x:=u) (by simpa using U) λj Q Z=>?_;have ab:b_ X N O H {s with heap:=j }:=I.turned (t':=s.toks) (λb o g e=>(Z.2 b g).trans e) C F G J L;obtain⟨o,e,c,d⟩:=id Q;exact⟨u,rfl,rh (s:={s with heap:=j }) e c d (by decide) ⟨x,H,ab,W,⟨rfl,λah ae=>by rw[I.ft ae m];exact y⟩,Q,λb g=>(l b g).1⟩⟩
 done:=by
  intro X n q r M i N s O H E I l st t;subst n q r;obtain⟨S,m,y⟩:=t;obtain⟨A,B,p,T⟩:=I.list m;obtain⟨C,F,Y,G,J,L⟩:=l f (by simp);have ai:=B.length;exact wpAny_pyNext_list_end (I.ok.hd M) st p.isList (by simp;lia) λj vs=>⟨rfl,I.turned (t':=s.toks) (λb o g e=>vs b o g e) C F G J L⟩
 self:=λ_ _ _ _ _ st h=>wpAny_pyIter_listiter st h
theorem AB{P:Ny}{w:NE}{K:JS}{R:Nu}(a f:KT):lq P w K R (rj K a) [f] f (λi h=>h.IsTupleIter f a i) where
 mem:=by simp
 obj:=λi h st b g=>by
  have e:b=f:=by simpa using g
  subst e;obtain⟨o,e,c,d⟩:=st;exact⟨o,e,λv z=>by rw[d]at z;cases z⟩
 keep:=λi h l st k=>st.at λo e=>k f (by simp) o e
 item:=by
  intro X q r t M i N s O H E I m st y;subst q r t;obtain⟨S,x,n,A⟩:=y;obtain⟨j,B,p,T⟩:=I.tuple n;obtain⟨u,U,W⟩:=B.get A;obtain⟨C,F,Y,G,J,L⟩:=m f (by simp);refine wpAny_pyNext_tuple_item st (show s.heap.IsTuple a j.toArray from p) (x:=u) (by simpa using U) λl Q Z=>?_;have ab:b_ X N O H {s with heap:=l }:=I.turned (t':=s.toks) (λb o g e=>(Z.2 b g).trans e) C F G J L;obtain⟨o,e,c,d⟩:=id Q;exact⟨u,rfl,rh (s:={s with heap:=l }) e c d (by decide) ⟨x,H,ab,W,⟨rfl,λah ae=>by rw[I.gz ae n];exact A⟩,Q,λb g=>(m b g).1⟩⟩
 done:=by
  intro X q r t M i N s O H E I m st y;subst q r t;obtain⟨S,n,A⟩:=y;obtain⟨j,B,p,T⟩:=I.tuple n;obtain⟨C,F,Y,G,J,L⟩:=m f (by simp);have ai:=B.length;exact wpAny_pyNext_tuple_end (I.ok.hd M) st (show s.heap.IsTuple a j.toArray from p) (by simp;lia) λl vs=>⟨rfl,I.turned (t':=s.toks) (λb o g e=>vs b o g e) C F G J L⟩
 self:=λ_ _ _ _ _ st h=>wpAny_pyIter_tupleiter st h
theorem AC{P:Ny}{w:NE}{K:JS}{G:Nu}(a:KT)(lo:Int)(n:Nat):lq P w K G (oy lo n) [a] a (λi h=>IsRangeIter h a (lo+(i:Nat)*1) ((n:Int)-(i:Nat)) 1) where
 mem:=by simp
 obj:=λi h st b c=>by
  have e:b=a:=by simpa using c
  subst e
  exact⟨_,st,λv z=>by
   have J:Data.fields _=Data.cell v:=z
   cases J⟩
 keep:=λi h d st k=>k a (by simp) _ st
 item:=by
  intro X g j l m i A s B H E I f st p;subst g j l;obtain⟨q,r,L,u,x,y⟩:=f a (by simp);have W:=Walks.range (prog:=X.prog) (w:=X.w) (I.ok.hd m) a lo 1 n;refine W.item i s _ _ p st λv d C M F N=>?_;obtain⟨t,rfl⟩:=M;have O:b_ X A B H {s with heap:=d,toks:=C}:=I.turned (λb o c e=>N b o (by simpa using c) e) q r u x y;refine⟨_,rfl,rh (s:={s with heap:=d,toks:=C}) (n:="range_iterator") F rfl rfl (by decide) ⟨.int (lo+i),H,O,⟨t,?_⟩,⟨rfl,rfl⟩,F,λb c=>(f b c).1⟩⟩;rw[Int.mul_one]
 done:=by
  intro X g j l m i A s B H E I f st p;subst g j l;obtain⟨q,r,L,u,x,y⟩:=f a (by simp);exact wpAny_pyNext_range_end (I.ok.hd m) st (by have:n<=i:=p;lia) λd Q=>⟨rfl,I.turned (t':=s.toks) (λb o c e=>Q b o c e) q r u x y⟩
 self:=λ_ _ _ _ _ st h=>wpAny_pyIter_rangeiter st h
section
variable{X:aS}{c:Nu}
def AD(K:JS)(d:bx):fG:=λe H R=>d e H λx b=>∃a,x=.ref a/\(∃f,cf K b a f)/\R (ri K a) b
def AE(K:JS)(d:bx):fG:=λe H R=>d e H λx b=>∃a,x=.ref a/\(∃f,dM K b a f)/\R (rj K a) b
theorem AF{l:Nu}{g:bx}(i:bK X l g):hX X c l (AD X.K g):=by
 intro j s k H R I h;refine bW (i j s k H _ I h) λv d ⟨x,m,f,n,r⟩=>?_;obtain⟨a,e,⟨y,t⟩,q⟩:=r;subst e;cases n;obtain⟨u,z,p,A⟩:=f.list t;refine wpAny_pyIter_list p.isList ?_;refine⟨d.heap.objs.size,[d.heap.objs.size],_,_,m,rfl,f.kept (t':=d.toks) λb o e=>Heap.get?_push_of_some _ e,AA a _,⟨_,Heap.get?_push_size _ rfl,rfl,rfl⟩,λb w=>?_,q⟩;have e:b=d.heap.objs.size:=by simpa using w
 subst e;exact f.gP (J7 _) (f.dR.fresh (J7 _))
theorem AG{l:Nu}{i:bx}(j:bK X l i):hX X c l (AE X.K i):=by
 intro k s m H R I h;refine bW (j k s m H _ I h) λv d ⟨x,n,f,r,t⟩=>?_;obtain⟨a,e,⟨y,u⟩,q⟩:=t;subst e;cases r;obtain⟨g,z,p,A⟩:=f.tuple u;refine wpAny_pyIter_tuple (show d.heap.IsTuple a g.toArray from p) ?_;refine⟨d.heap.objs.size,[d.heap.objs.size],_,_,n,rfl,f.kept (t':=d.toks) λb o e=>Heap.get?_push_of_some _ e,AB a _,⟨_,Heap.get?_push_size _ rfl,rfl,rfl⟩,λb w=>?_,q⟩;have e:b=d.heap.objs.size:=by simpa using w
 subst e;exact f.gP (J7 _) (f.dR.fresh (J7 _))
theorem AH{f:OW}{g:St}{H:ak}{s:KF}{R:fZ->ak->Prop}{E:KB->KF->Prop}{lo a:Int}{t u v:Tok}{h:Nat}(I:b_ X f g H s)(j : -(2^62)<=lo)(k:lo<2^62)(l : -(2^62)<=a)(m:a<2^62)(q:R (oy lo (a-lo).toNat) H):wpAny (Nz X.prog X.w) X.A (pyIter (.ref s.heap.objs.size)) (uC X f g c R) E {s with heap:=s.heap.push {cls:=.type "range",data:=.fields #[.int lo t,.int a u,.int 1 v]},toks:=h}:=by
 refine wpAny_pyIter_range (IsRange.new ..) (small_one j k l m) ?_;have i:b_ X f g H {s with heap:=s.heap.push {cls:=.type "range",data:=.fields #[.int lo t,.int a u,.int 1 v]},toks:=h}:=I.kept λb o e=>Heap.get?_push_of_some _ e
 refine⟨(s.heap.push {cls:=.type "range",data:=.fields #[.int lo t,.int a u,.int 1 v]}).objs.size,[(s.heap.push {cls:=.type "range",data:=.fields #[.int lo t,.int a u,.int 1 v]}).objs.size],_,_,H,rfl,
  i.kept (t':=h) λb o e=>Heap.get?_push_of_some _ e,AC _ lo (a-lo).toNat,?_,λb n=>?_,q⟩
 ·have p:lo+((0:Nat):Int)*1=lo:=by simp
  have r:(((a-lo).toNat:Nat):Int)-((0:Nat):Int)=Builtin.Range.rangeSize lo a 1:=by rw[rangeSize_one];split<;>lia
  show IsRangeIter _ _ (lo+((0:Nat):Int)*1) ((((a-lo).toNat:Nat):Int)-((0:Nat):Int)) 1
  rw[p,r];exact Heap.get?_push_size _ rfl
 have e:b=(s.heap.push {cls:=.type "range",data:=.fields #[.int lo t,.int a u,.int 1 v]}).objs.size:=by simpa using n
 subst e;exact i.gP (J7 _) (i.dR.fresh (J7 _))
def AI(ta:ek):fG:=λa H R=>ta a H λb d=>∃j:Int,b=[.int j] /\ -(2^62)<=j/\j<2^62/\R (oy 0 j.toNat) d
theorem AJ{a:Nu}{ta:ek}{p b:Pos}(f:ew X "range")(g:X.mg "range"=none)(i:gi X [a] ta)(k:Nw [a] X.env=[(false,Op a X.env)]:=by rfl):hX X c (.Call (.Name "range" p) [a] [] b) (AI ta):=by
 intro l s m H R I h;refine Call_ (mv I f g boot_range (Mi (bW (i b l s m H _ I h) λw x ⟨y,z,n,o,d⟩=>?_) k rfl));obtain⟨j,e,d,u,q⟩:=d;subst e;cases o with
 |cons r v=>
  cases v;obtain⟨t,rfl⟩:=r;exact call_range_1 (AH n (by lia) (by lia) d u (by simpa using q))
def AK(wi:fG)(g:eo)(f:el):el:=λD a H=>wi a H λJ h=>∃W:Nat->Nat->St->ak->Prop,(∃m,W 0 m a h)/\∀i m a H,W i m a H->
 (J.stop i H/\D.nx a H)\/(J.go i H/\∃N:St->ak->Prop,(∀d b,N d b->∃e,e<m/\W (i+1) e d b)/\∀x b,J.ix i H x b->g x a b λj k=>f {D with nx:=N,ct:=N,bk:=D.nx} j k)
def mC(a:OT)(h:NH):List (KT×Obj):=a.filterMap λb=>(h.get? b).map λo=>(b,o)
theorem oz{a:OT}{h:NH}{b:KT}{o:Obj}(c:b∈a)(e:h.get? b=some o):(b,o)∈mC a h:=Mj.mpr ⟨b,c,by rw[e];rfl⟩
theorem AL{a:OT}{h:NH}{p:KT×Obj}(c:p∈mC a h):p.1∈a/\h.get? p.1=some p.2:=by
 obtain⟨b,d,e⟩:=Mj.mp c;cases q:h.get? b with
 |none=>rw[q]at e;cases e
 |some o=>
  rw[q]at e;have f:(b,o)=p:=Ki e;subst f;exact⟨d,q⟩
theorem b_.pinned{a:OW}{f:St}{H:ak}{s:KF}{c:OT}(I:b_ X a f H s)(i:∀b∈c,gO X a H b)(j:∀b∈c,∃o,s.heap.get? b=some o/\∀v,o.data≠.cell v):b_ X (a++mC c s.heap) f H s:=
 I.e_ λp k=>(Kc.mp k).elim (λz=>I.pin p (Kg _ z)) λz=>by
  obtain⟨g,e⟩:=AL z;obtain⟨l,m,n,_⟩:=i p.1 g;obtain⟨o,h,d⟩:=j p.1 g;rw[e]at h;cases h;exact⟨e,l,m,n,d⟩
theorem b_.eb{a c:OW}{b:St}{H:ak}{s:KF}(I:b_ X (a++c) b H s):b_ X a b H s:=I.e_ λp d=>I.pin p (Kg _ (Ku _ d))
theorem uD{L:Nu}{q:OV}{wi:fG}{g:eo}{S:el}{M:Pos}(z:Oh (Nz X.prog X.w) X.A X.env X.xe)(U:X.calm=true)(aC:hX X c L wi)(aD:gk X c g)(a:gj X q S)(aI:∀x,Nx L X.env x=pure x:=by intro _;rfl):fV X (.For c L q [] M) (AK wi g S):=by
 intro y s Y H D I h;refine wpAny_For (bW (aC y s Y H _ I h) λv bY aJ=>bW aJ λbZ b0 aK=>?_) aI;obtain⟨b7,B,Z,J,aL,e,aN,T,aP,vs,W,⟨aQ,aT⟩,C⟩:=aK;subst e;have O:∀{p:ak},(∀b∈B,p b=none)->∀b∈B,gO X y p b:=λaV b a=>⟨aV b a,(vs b a).2⟩;refine codeAny_forLoop_any (λn ai=>∃i E p,b_ X y E p ai/\Z i ai.heap/\(∀b∈B,p b=none)/\W i n E p) ?_ aQ ⟨0,Y,aL,aN,aP,λb a=>(vs b a).1,aT⟩;rintro n aq ⟨i,F,K,au,av,aw,aX⟩;rcases C i n F K aX with⟨stop,aZ⟩|⟨a3,N,a4,step⟩
 ·refine NG z (bW (T.done X rfl rfl rfl U i y aq F K X.xe au (O aw) av stop) λr a6 ⟨P,a'⟩=>?_);subst P;exact NU ⟨F,K,a',aZ⟩
 refine NG z (bW (T.item X rfl rfl rfl U i y aq F K X.xe au (O aw) av a3) λr a6 ⟨u,P,bb⟩=>?_);subst P;refine NG z (bW bb λ_ ay ⟨x,aA,bf,bg,bj,Q,bo⟩=>?_);have bA:=bf.pinned (O bo) (T.obj _ _ Q);refine NG z (bW (aD _ ay F aA x u _ bA bg (step x aA bj)) λ_ bD ⟨c1,bH,bI,bJ⟩=>?_);refine NG z (bW (a _ bD c1 bH _ bI bJ) λf R t=>?_)
 have again:∀{j:St}{k:ak},b_ X (y++mC B ay.heap) j k R->N j k->∃m,m<n/\∃i E p,b_ X y E p R/\Z i R.heap/\(∀b∈B,p b=none)/\W i m E p:=λ{j k} l G=>by
  obtain⟨bO,bP,bV⟩:=a4 j k G;refine⟨bO,bP,i+1,j,k,l.eb,T.keep _ _ _ Q λb a o e=>(l.pin (b,o) (Kg _ (Kg _ (oz a e)))).1,λb a=>?_,bV⟩;obtain⟨o,e,d⟩:=T.obj _ _ Q b a;exact(l.pin (b,o) (Kg _ (Kg _ (oz a e)))).2.1
 cases f with
 |next=>obtain⟨j,k,l,G⟩:=t;exact again l G
 |cont=>obtain⟨j,k,l,G⟩:=t;exact again l G
 |brk=>obtain⟨j,k,l,t⟩:=t;exact⟨j,k,l.eb,t⟩
 |ret v=>obtain⟨bU,j,k,l,bX,t⟩:=t;exact⟨bU,j,k,l.eb,bX,t⟩
end
abbrev f2:=V->V->ak->b5->Prop
def ee(X:aS)(f:KB->KB->Sem KB)(r:f2):Prop:=
 ∀(a:OW)(s:KF)(b:St)(H:ak)(x y:V)(v u:KB)(Q:b5),b_ X a b H s->dx x v->dx y u->r x y H Q->
  wpAny (Nz X.prog X.w) X.A (f v u) (fu X a b Q) X.xe s
def rl(X:aS)(f:KB->Sem KB)(r:V->ak->b5->Prop):Prop:=
 ∀(a:OW)(s:KF)(b:St)(H:ak)(x:V)(v:KB)(Q:b5),b_ X a b H s->dx x v->r x H Q->
  wpAny (Nz X.prog X.w) X.A (f v) (fu X a b Q) X.xe s
def jO(X:aS)(f:KB)(r:OK->ak->b5->Prop):Prop:=
 ∀(a:OW)(s:KF)(b:St)(H:ak)(c:OK)(d:OS)(Q:b5),b_ X a b H s->bG c d->r c H Q->
  wpAny (Nz X.prog X.w) X.A (call f d) (fu X a b Q) X.xe s
def AU(X:aS)(r:V->ak->(Bool->ak->Prop)->Prop):Prop:=
 ∀(a:OW)(s:KF)(b:St)(H:ak)(x:V)(v:KB)(Q:Bool->ak->Prop),b_ X a b H s->dx x v->r x H Q->
  wpAny (Nz X.prog X.w) X.A (truthy v) (ot X a b Q) X.xe s
def ja(r:f2)(ta b:bx):bx:=λa H Q=>ta a H λx c=>b a c λy d=>r x y d Q
def rm(r:V->ak->b5->Prop)(ta:bx):bx:=λa H Q=>ta a H λx b=>r x b Q
def kB(C:Int->Int->Prop)(g:Int->Int->V):f2:=λx y H Q=>∃i j,x=.int i/\y=.int j/\C i j/\Q (g i j) H
def hG(g:Int->Int->V):f2:=λx y H Q=>∃i j,x=.int i/\y=.int j/\Q (g i j) H
def rn(g:Int->V):V->ak->b5->Prop:=λx H Q=>∃i,x=.int i/\Q (g i) H
section
variable{X:aS}{a b c:Nu}{ta e k:bx}{d:Pos}
theorem ro(k:bK X a ta)(l:bK X b e){g:OW}{s:KF}{c:St}{H:ak}{R:V->V->ak->Prop}(I:b_ X g c H s)(h:ta c H λx j=>e c j λy d=>R x y d){Q:KB->KF->Prop}{f:KB->KB->Sem KB}(m:∀v u i x y d,b_ X g c d i->dx x v->dx y u->R x y d->wpAny (Nz X.prog X.w) X.A (f v u) Q X.xe i):
  wpAny (Nz X.prog X.w) X.A (Op a X.env) (λv n=>wpAny (Nz X.prog X.w) X.A (Op b X.env) (λu o=>wpAny (Nz X.prog X.w) X.A (f v u) Q X.xe o) X.xe n) X.xe s:=by
 refine bW (k g s c H _ I h) λv p ⟨x,j,q,r,t⟩=>?_;refine bW (l g p c j _ q t) λu i ⟨y,d,z,B,C⟩=>?_;exact m v u i x y d z r B C
theorem fw{c:Operator}{r:f2}(f:ee X (NX c) r)(g:bK X a ta)(i:bK X b e):bK X (.BinOp a c b d) (ja r ta e):=by
 intro j s k H Q I h;exact wpAny_BinOp (ro g i I h λv u l x y m n o p q=>f j l k m x y v u Q n o p q)
theorem AW{b:UnaryOp}{r:V->ak->b5->Prop}(f:rl X (unaryOp b) r)(g:bK X a ta):bK X (.UnaryOp b a d) (rm r ta):=by
 intro c s e H Q I h;exact UnaryOp_ (bW (g c s e H _ I h) λv i ⟨x,j,k,l,m⟩=>f c i e j x v Q k l m)
theorem mE{f:KB->KB->Sem KB}{C:Int->Int->Prop}{g:Int->Int->Int}(rule:∀(i j:Int)(t u:Tok)(s:KF)(Q E:KB->KF->Prop),C i j->Q (.int (g i j) s.toks) {s with toks:=s.toks+1}->wpAny (Nz X.prog X.w) X.A (f (.int i t) (.int j u)) Q E s):
  ee X f (kB C λi j=>.int (g i j)):=by
 intro e s k H x y v u Q I a b h;obtain⟨i,j,rfl,rfl,c,q⟩:=h;obtain⟨t,rfl⟩:=a;obtain⟨d,rfl⟩:=b;exact rule i j t d s _ _ c ⟨.int (g i j),H,I.tok _,⟨_,rfl⟩,q⟩
theorem uH{f:KB->KB->Sem KB}{g:Int->Int->Int}(rule:∀(i j:Int)(t u:Tok)(s:KF)(Q E:KB->KF->Prop),Q (.int (g i j) s.toks) {s with toks:=s.toks+1}->wpAny (Nz X.prog X.w) X.A (f (.int i t) (.int j u)) Q E s):
  ee X f (hG λi j=>.int (g i j)):=by
 intro d s e H x y v u Q I a b h;obtain⟨i,j,rfl,rfl,q⟩:=h;obtain⟨t,rfl⟩:=a;obtain⟨c,rfl⟩:=b;exact rule i j t c s _ _ ⟨.int (g i j),H,I.tok _,⟨_,rfl⟩,q⟩
theorem ls{f:KB->KB->Sem KB}{g:Int->Int->Bool}(rule:∀(i j:Int)(t u:Tok)(s:KF)(Q E:KB->KF->Prop),Q (.bool (g i j)) s->wpAny (Nz X.prog X.w) X.A (f (.int i t) (.int j u)) Q E s):
  ee X f (hG λi j=>.bl (g i j)):=by
 intro d s e H x y v u Q I a b h;obtain⟨i,j,rfl,rfl,q⟩:=h;obtain⟨t,rfl⟩:=a;obtain⟨c,rfl⟩:=b;exact rule i j t c s _ _ ⟨.bl (g i j),H,I,rfl,q⟩
def uI(i j:Int):Prop:=0<=j/\j<=1000000/\i.natAbs<2^64
def rp(i j:Int):Prop:=(-(2^64)<i/\i<2^64)\/(-(2^64)<j/\j<2^64)
theorem rp.ok{i j:Int}(h:rp i j):IntMulOk i j:=by
 rcases h with⟨a,b⟩|⟨a,b⟩
 ·exact .of_left (Oi a b)
 exact .of_right (Oi a b)
theorem uJ:ee X (NX .Add) (hG λi j=>.int (i+j)):=uH λ_ _ _ _ _ _ _ q=>add_int q
theorem AX:ee X (NX .Sub) (hG λi j=>.int (i-j)):=uH λ_ _ _ _ _ _ _ q=>sub_int q
theorem AY:ee X (NX .Mult) (kB rp λi j=>.int (i*j)):=mE λ_ _ _ _ _ _ _ a q=>mul_int q a.ok
theorem lu:ee X (NX .Mod) (kB (λ_ j=>0<j) λi j=>.int (i%j)):=mE λi j _ _ _ _ _ a q=>by
 have b:(0:Int)<j:=a;exact mod_int' (by lia) (by rw[Int.fmod_eq_emod_of_nonneg i (by lia)];exact q)
theorem AZ:ee X (NX .Pow) (kB uI λi j=>.int (i^j.toNat)):=mE λ_ _ _ _ _ _ _ a q=>pow_int_small a.1 a.2.1 a.2.2 q
theorem A0{f:KB->Sem KB}{g:Int->Int}(rule:∀(i:Int)(t:Tok)(s:KF)(Q E:KB->KF->Prop),Q (.int (g i) s.toks) {s with toks:=s.toks+1}->wpAny (Nz X.prog X.w) X.A (f (.int i t)) Q E s):
  rl X f (rn λi=>.int (g i)):=by
 intro b s c H x v Q I a h;obtain⟨i,rfl,q⟩:=h;obtain⟨t,rfl⟩:=a;exact rule i t s _ _ ⟨.int (g i),H,I.tok _,⟨_,rfl⟩,q⟩
theorem A1:rl X (unaryOp .USub) (rn λi=>.int (-i)):=A0 λ_ _ _ _ _ q=>neg_int q
end
section
variable{X:aS}{a b c:Nu}{ta f g:bx}{d:Pos}
theorem kC:ee X (NM .Lt) (hG λi j=>.bl (decide (i<j))):=ls λ_ _ _ _ _ _ _ q=>lt_int q
theorem A2:ee X (NM .LtE) (hG λi j=>.bl (decide (i<=j))):=ls λ_ _ _ _ _ _ _ q=>le_int q
theorem kD:ee X (NM .Gt) (hG λi j=>.bl (decide (j<i))):=ls λ_ _ _ _ _ _ _ q=>gt_int q
theorem uK:ee X (NM .GtE) (hG λi j=>.bl (decide (j<=i))):=ls λ_ _ _ _ _ _ _ q=>ge_int q
theorem dd(b:Nu){a:CmpOp}(h:a≠.In:=by decide)(c:a≠.NotIn:=by decide):NB a b=false:=by
 have d:(a==CmpOp.In)=false:=by cases a<;>first|rfl|exact absurd rfl h
 have e:(a==CmpOp.NotIn)=false:=by cases a<;>first|rfl|exact absurd rfl c
 cases b<;>simp[NB,d,e]
theorem rq{c:CmpOp}{r:f2}(e:ee X (NM c) r)(g:bK X a ta)(i:bK X b f)(j:NB c b=false):bK X (.Compare a [c] [b] d) (ja r ta f):=by
 intro k s l H Q I h;exact wpAny_Compare1 (ro g i I h λv u m x y n o p t q=>e k m l n x y v u Q o p t q) j
def A3(t:bx):c2:=λe H Q=>t e H λx h=>∃k,x=.bl k/\Q k h
theorem lw{g:CmpOp}{r:f2}(l:ee X (NM g) r)(m:bK X a ta)(n:bK X b f)(o:NB g b=false):gh X (.Compare a [g] [b] d) (A3 (ja r ta f)):=by
 intro i s j H Q I h
 refine wpAny_isTrue_Compare1 (bW (m i s j H _ I h) λv p ⟨x,q,t,w,A⟩=>bW (n i p j q _ t A) λu B ⟨y,C,E,F,G⟩=>
  bW (l i B j C x y v u _ E w F G) λc N ⟨z,J,K,L,k,e,M⟩=>?_) o
 subst e;cases L;exact NO ⟨J,K,M⟩
def uL(K:JS)(x:V)(H:ak)(k:Bool):Prop:=
 match x with
 |.non=>k=false
 |.bl b=>k=b
 |.int i=>k=(i != 0)
 |.str y=>y.length<=Np/\k=((y.length:Int) != 0)
 |.byt y=>y.size<=Np/\k=((y.size:Int) != 0)
 |.ref p=>(∃xs,cf K H p xs/\k = !xs.isEmpty)\/(∃xs,dM K H p xs/\k = !xs.isEmpty)\/∃kvs,H p=some (.dK kvs)/\k = !kvs.isEmpty
 |_=>False
theorem A4{a:Type}{kvs:List (a×V)}{vs:List (a×KB)}(r:q2 kvs vs):(!vs.isEmpty) = !kvs.isEmpty:=by
 cases r<;>rfl
theorem uM{xs:OK}{its:OS}(r:bG xs its):(!its.toArray.isEmpty) = !xs.isEmpty:=by
 cases r<;>simp
theorem mF:(Np:Nat)<2^63:=by rw[sizeLine_eq];decide
theorem A5:AU X (λx H Q=>∃k,uL X.K x H k/\Q k H):=by
 intro z s A H x v Q I c h;obtain⟨k,e,q⟩:=h;have B:=mF;have C:Np=16777216:=sizeLine_eq;cases x with
 |non=>
  cases c;have a:k=false:=e;subst a;exact truthy_none ⟨H,I,q⟩
 |bl b=>
  cases c;have a:k=b:=e;subst a;exact NO ⟨H,I,q⟩
 |int i=>
  obtain⟨t,rfl⟩:=c;have a:k=(i != 0):=e;subst a;exact PySem.P.truthy_int ⟨H,I,q⟩
 |str y=>
  obtain⟨t,rfl⟩:=c;obtain⟨o,a⟩:y.length<=Np/\k=((y.length:Int) != 0):=e;subst a;exact PySem.P.truthy_str (by lia) ⟨H,I.tok _,q⟩
 |byt y=>
  obtain⟨t,rfl⟩:=c;obtain⟨o,a⟩:y.size<=Np/\k=((y.size:Int) != 0):=e;subst a;exact PySem.W.truthy_bytes (by lia) ⟨H,I.tok _,q⟩
 |ref p=>
  cases c;have a:(∃xs,cf X.K H p xs/\k = !xs.isEmpty)\/(∃xs,dM X.K H p xs/\k = !xs.isEmpty)\/∃kvs,H p=some (.dK kvs)/\k = !kvs.isEmpty:=e;rcases a with⟨xs,d,a⟩|⟨xs,d,a⟩|⟨kvs,d,a⟩
  ·subst a;obtain⟨g,r,j,l⟩:=I.list d;have n:=r.length;exact wpAny_truthy_list j.isList (by simp only[Kl];lia) ⟨H,I.tok _,by rw[uM r];exact q⟩
  ·subst a;obtain⟨g,r,j,l⟩:=I.tuple d;have n:=r.length;exact truthy_tuple j (by simp only[Kl];lia) ⟨H,I.tok _,by rw[uM r];exact q⟩
  subst a;obtain⟨l,u,f,r,m⟩:kvs.length<=Np/\(p==Oq)=false/\∃f,q2 kvs f/\s.heap.DictOf (q0 X.prog X.w) p f:=I.dR p _ d;have n:kvs.length=f.length:=Paired.length r;exact wpAny_truthy_dict u m (by lia) ⟨H,I.tok _,by rw[A4 r];exact q⟩
 |_=>exact(show False from e).elim
theorem A6(f:bK X a ta)(g:∀c,OC a X.env c=(do let v <-c;OD a.pos;Os [v] (truthy v))):
  gh X a (λb H Q=>ta b H λx d=>∃k,uL X.K x d k/\Q k d):=by
 intro e s b H Q I h;exact isTrue_plain (bW (f e s b H _ I h) λv i ⟨x,j,l,m,n⟩=>A5 e i b j x v Q l m n) (g _)
theorem eM{x:V}{a:OS}(r:bG [x] a):∃u,a=[u]/\dx x u:=by
 cases r with
 |cons b c=>cases c;exact⟨_,rfl,b⟩
theorem iC{x y:V}{a:OS}(r:bG [x,y] a):∃u b,a=[u,b]/\dx x u/\dx y b:=by
 cases r with
 |cons c d=>
  cases d with
  |cons e f=>cases f;exact⟨_,_,rfl,c,e⟩
theorem A7:jO X (.builtin "abs") (λa H Q=>∃i,a=[.int i]/\Q (.int (if i<0 then -i else i)) H):=by
 intro b s c H a d Q I r h;obtain⟨i,rfl,q⟩:=h;obtain⟨u,rfl,t,rfl⟩:=eM r;exact call_abs_int λu e=>⟨.int (if i<0 then -i else i),H,I.tok _,⟨_,rfl⟩,q⟩
theorem uN:jO X (.type "int") (λa H Q=>(∃i,a=[.int i]/\Q (.int i) H)\/∃k,a=[.bl k]/\Q (.int (if k then 1 else 0)) H):=by
 intro c s d H a e Q I r h;rcases h with⟨i,rfl,q⟩|⟨k,rfl,q⟩
 ·obtain⟨u,rfl,t,rfl⟩:=eM r;exact call_int_int ⟨.int i,H,I,⟨_,rfl⟩,q⟩
 obtain⟨u,rfl,b⟩:=eM r;cases b;exact call_int_bool ⟨.int (if k then 1 else 0),H,I.tok _,⟨_,rfl⟩,q⟩
end
structure rr(h:NH)(x dA C:KT)(d6:Str->Option KB):Prop where
 obj:h.get? x=some (Me C dA)
 ns:h.Ns1 dA d6
 ne:dA≠x
theorem A8{h:NH}{b:KT}{c:Str->Option KB}(n:h.Ns1 b c):∃d,h.get? b=some d/\∀name,Mk name d=some (c name):=by
 obtain⟨o,f,r,g,i,j,_,k⟩:=n;refine⟨o,g,λname=>?_⟩;have e:=k name;unfold nsFind findBy at e;rw[<-Array.find?_toList]at e;unfold Mk;rw[i];dsimp only;split
 ·rename_i y q
  rw[q]at e;exact Nq some e
 rename_i q
 rw[q]at e
 have a:f.toList.any (·.refKey)=false:=by
  rw[List.any_eq_false];intro y l;obtain⟨z,t,m⟩:=j y (Array.mem_toList_iff.mp l);simp[DictEntry.refKey,m]
 have p:¬f.toList.any (·.refKey)=true:=by rw[a];exact Ke
 rw[No p];exact Nq some e
theorem rr.look{h:NH}{x b C:KT}{c:Str->Option KB}(I:rr h x b C c):∃a,PySem.W.InstAt h x (Me C b) C (some a)/\∀name,Mk name a=some (c name):=
 let⟨a,d,e⟩:=A8 I.ns
 ⟨a,⟨I.obj,rfl,rfl,d⟩,e⟩
section
variable{P:Ny}{w:NE}{H i:ak}{h g:NH}{a C c:KT}{b j:List (Str×V)}
theorem A'(i:dU P w H h)(e:H a=some (.ins C c b)):∃g,rr h a c C g/\(∀f,q1 (b.lookup f) (g f))/\PySem.Within g (b.map (·.1))/\b.length<=1000/\H c=some (.own a):=by
 obtain⟨d,z,j,k,g,n,r,q⟩:=(show eR P w H h a (.ins C c b)from i a _ e);exact⟨g,⟨k,n,j⟩,r,q,z,d⟩
end
structure ru(K:JS)(C:KT):Prop where
 pg:MO K C Str.empty=true
 hd:PySem.W.hasDictIn K C=true
 po:PySem.W.plainOver K C=true
 sa:MP K (.ref C) "__setattr__"=some (some (.builtin "object.__setattr__"))
theorem ru.get{K:JS}{C:KT}(c:ru K C)(f:Str):MO K C f=true:=c.pg
section
variable{X:aS}{f:OW}{d:St}{H:ak}{s:KF}{A:NJ}{E Q:KB->KF->Prop}{c:KB}{b:Bool}
inductive gS(K:JS)(H:ak):V->KB->Prop where
 |non:gS K H .non (.type "NoneType")
 |bl(x:Bool):gS K H (.bl x) (.type "bool")
 |int(i:Int):gS K H (.int i) (.type "int")
 |str(x:Str):gS K H (.str x) (.type "str")
 |flt(x:UInt64):gS K H (.flt x) (.type "float")
 |lst{a:KT}{xs:OK}(e:H a=some (.lst xs)):gS K H (.ref a) (.type "list")
 |frz{a:KT}{o:Obj}{xs:OK}(e:H a=some (.frz o (.lst xs))):gS K H (.ref a) (.type "list")
 |tup{a:KT}{xs:OK}(e:H a=some (.tup xs)):gS K H (.ref a) (.type "tuple")
 |dK{a:KT}{kvs:List (fp×V)}(e:H a=some (.dK kvs)):gS K H (.ref a) (.type "dict")
 |dT{a:KT}{kvs:List (List fp×V)}(e:H a=some (.dT kvs)):gS K H (.ref a) (.type "dict")
 |ins{a C dA:KT}{fs:List (Str×V)}(e:H a=some (.ins C dA fs))(bD:ru K C) (av:MP K (.ref C) "__class__"=some (some (.builtin "object.__class__")))
   (aO:PySem.W.specialIn K (.builtin "object.__class__") "__get__"=some (some (.builtin "getset_descriptor.__get__"))) (uO:PySem.W.takesIn K (.builtin "object.__class__")=some true)
   (aH:PySem.W.mroIn K C (.type "object")=some true):gS K H (.ref a) (.ref C)
theorem Ba{x:V}{u t:KB}(I:b_ X f d H s)(g:dx x u)(ty:gS X.K H x t)(e:Ml X.K t c=some b)(h:∀B,Q (.bool b) {s with toks:=B}):
  wpAny (Nz X.prog X.w) A (call (.builtin "isinstance") [u,c]) Q E s:=by
 cases ty with
 |non=>cases(show u=Value.none from g);exact KO PySem.W.kitx_none I.fv Lw e (λz=>nomatch z) h
 |bl y=>cases(show u=Value.bool y from g);exact KO PySem.W.kitx_bool I.fv Lw e (λz=>nomatch z) h
 |int i=>obtain⟨t,q⟩:=(show ∃t,u=Value.int i t from g);cases q;exact KO PySem.W.kitx_int I.fv Lw e (λz=>nomatch z) h
 |str y=>obtain⟨t,q⟩:=(show ∃t,u=Value.str y t from g);cases q;exact KO PySem.W.kitx_str I.fv Lw e (λz=>nomatch z) h
 |flt y=>obtain⟨t,q⟩:=(show ∃t,u=Value.float y t from g);cases q;exact KO PySem.W.kitx_float I.fv Lw e (λz=>nomatch z) h
 | @lst a m j=>
  cases(show u=Value.ref a from g);obtain⟨_,_,n,_,k⟩:=(show eR X.prog X.w H s.heap a (.lst m)from I.dR a _ j);exact KO MQ I.fv ⟨_,k,rfl⟩ e (λz=>nomatch z) h
 | @frz a F m j=>
  cases(show u=Value.ref a from g);obtain⟨_,_,_,n,_,k⟩:=(show eR X.prog X.w H s.heap a (.frz F (.lst m))from I.dR a _ j);exact KO MQ I.fv ⟨_,k,rfl⟩ e (λz=>nomatch z) h
 | @tup a m j=>
  cases(show u=Value.ref a from g);obtain⟨_,_,_,p⟩:=(show eR X.prog X.w H s.heap a (.tup m)from I.dR a _ j);obtain⟨o,k,r,_⟩:=p;exact KO PySem.W.kitx_tuple I.fv ⟨o,k,r⟩ e (λz=>nomatch z) h
 | @dK a l j=>
  cases(show u=Value.ref a from g);obtain⟨_,_,S,_,p⟩:=(show eR X.prog X.w H s.heap a (.dK l)from I.dR a _ j);obtain⟨o,G,L,k,r,_⟩:=p;exact KO MR I.fv ⟨o,k,r.1⟩ e (λz=>nomatch z) h
 | @dT a l j=>
  cases(show u=Value.ref a from g);obtain⟨_,_,m,_,o,G,L,k,r,_⟩:=(show eR X.prog X.w H s.heap a (.dT l)from I.dR a _ j);exact KO MR I.fv ⟨o,k,r.1⟩ e (λz=>nomatch z) h
 | @ins a C T U j v M N P R=>
  cases(show u=Value.ref a from g);obtain⟨Y,O,_⟩:=A' I.dR j;obtain⟨Z,J,_⟩:=O.look;exact KO (PySem.W.kitx_own (v.get _) v.hd M N P R) I.fv J e (λz=>nomatch z) h
end
structure d1(k:Nat)(A:NJ):Prop where
 hd:A.handled=none
 dp:A.depth+3*k+5<recursionLimit
 un:A.units+16*k+200<Oj
theorem d1.mono{j k:Nat}{A:NJ}(r:d1 k A)(h:j<=k):d1 j A:=⟨r.hd,by have:=r.dp;lia,by have:=r.un;lia⟩
theorem d1.deeper{k:Nat}{A:NJ}(r:d1 (k+1) A)(a:Env):d1 k (A.deeper a):=
 ⟨r.hd,by have:=r.dp;show A.depth+1+3*k+5<_;lia,by have:=r.un;show A.units+3+16*k+200<_;lia⟩
theorem d1.depth{k:Nat}{A:NJ}(r:d1 k A):A.depth<recursionLimit:=by have:=r.dp;lia
theorem d1.units{k:Nat}{A:NJ}(r:d1 k A):A.units+64<Oj:=by have:=r.un;lia
def rv:ek:=λ_ H Q=>Q [] H
def rx(ta:bx)(b:ek):ek:=λa H Q=>ta a H λx c=>b a c λd e=>Q (x::d) e
section
variable{X:aS}{e:Nu}{c:OU}{d:bx}{t:ek}{a:Pos}
theorem fJ:gi X [] rv:=λ_ _ _ _ H Q I h=>Calls.spliced_nil ⟨[],H,I,.nil,h⟩
theorem ez(g:bK X e d)(i:gi X c t)(j:e9 X e c:=by rfl):gi X (e::c) (rx d t):=by
 intro a b s f H Q I h;rw[j];show wpAny _ _ (spliced ((false,Op e X.env)::OB a (Nw c X.env))) _ _ s
 refine Calls.spliced_cons (bW (g b s f H _ I h) λu k ⟨x,l,m,n,o⟩=>?_);exact bW (i a b k f l _ m o) λy z ⟨p,q,r,v,w⟩=>⟨x::p,q,r,.cons n v,w⟩
def Bb(t:ek):bx:=λg H Q=>t g H λb f=>b.length<=Np/\∀p,f p=none->Q (.ref p) (dQ f p (.tup b))
def Bc(t:ek):bx:=λg H Q=>t g H λb f=>b.length<=Np/\∀p,f p=none->Q (.ref p) (dQ f p (.lst b))
theorem Bd{i}(h:gi X c t):bK X (.Tuple c i a) (Bb t):=by
 intro j s k H Q I l;refine wpAny_Tuple_spliced (bW (h a j s k H _ I l) λm d ⟨n,f,g,r,z,q⟩=>⟨by rw[<-r.length];exact z,?_⟩);have o:f d.heap.objs.size=none:=g.dR.fresh (J7 _);refine⟨.ref d.heap.objs.size,dQ f d.heap.objs.size (.tup n),g.laid (t':=d.toks) (λb u e=>Heap.get?_push_of_some _ e) (J7 _) ?_,rfl,q _ o⟩;exact⟨z,m,r,⟨_,Heap.get?_push_size _ rfl,rfl,_,rfl⟩⟩
theorem uP(h:gi X c t):bK X (.List c a) (Bc t):=by
 intro i s j H Q I k;refine wpAny_List_spliced (bW (h a i s j H _ I k) λl d ⟨m,f,g,r,z,q⟩=>⟨by rw[<-r.length];exact z,?_⟩);have n:f d.heap.objs.size=none:=g.dR.fresh (J7 _);refine⟨.ref d.heap.objs.size,dQ f d.heap.objs.size (.lst m),g.laid (t':=d.toks) (λb u e=>Heap.get?_push_of_some _ e) (J7 _) ?_,rfl,q _ n⟩;exact⟨z,l,0,r,Heap.get?_push_size _ rfl⟩
end
abbrev f3:=OK->ak->b5->eT->Prop
abbrev iy:=List Env->ak->KF->eT->KB->KF->Prop
structure oB(P:Ny)(w:NE)(K:JS)(mg:Str->Option KB)(base:NH)(A:NJ)(outer:List Env)(s:KF)(H:ak):Prop where
 frames:A.frames=some outer
 mod:Mod K mg base
 bs:∀b o,base.get? b=some o->s.heap.get? b=some o/\H b=none
 h_:base.objs.size<=s.heap.objs.size
 eV:s.heap.FunFrames base outer
 iv:∀b∈hE outer,H b=none
 dR:dU P w H s.heap
 bare:N8 s.gens
 tab:jF K H
def ry(a:List Env)(P:Ny)(w:NE)(H:ak)(s:KF)(Q:b5)(u:KB)(b:KF):Prop:=
 ∃v c,b.os=s.os/\N8 b.gens/\dZ (hE a) [] H c s.heap b.heap/\dU P w c b.heap/\dx v u/\Q v c
def Be(c:iy)(a:List Env)(P:Ny)(w:NE)(H:ak)(s:KF)(Q:b5)(E:eT)(r:Result)(b:KF):Prop:=
 match r with
 |.ok (.ret u)=>ry a P w H s Q u b
 |.ok _=>False
 |.error e=>c a H s E e b
structure gT(P:Ny)(w:NE)(K:JS)(mg:Str->Option KB)(base:NH)(dW:iy)(k:Nat)(f:KT)(fd:NP)(ps:OR)(sp:f3):Prop where
 len:∀vs H Q E,sp vs H Q E->vs.length=ps.length
 run:∀(A:NJ)(outer:List Env)(s:KF)(H:ak)(args:Args)(aK:OS)(vs:OK)(Q:b5)(E:eT),d1 k A->oB P w K mg base A outer s H->OH s fd args (ps.zip aK)->bG vs aK->sp vs H Q E->
  codeAny (Nz P w) A (.call (.ref f) args) (Be dW outer P w H s Q E) s
theorem gT.imp{P:Ny}{w:NE}{K:JS}{c:Str->Option KB}{a:NH}{dW:iy}{k:Nat}{f:KT}{d:NP}{e:OR}{sp g:f3}(F:gT P w K c a dW k f d e sp)(h:∀b H Q E,g b H Q E->sp b H Q E):gT P w K c a dW k f d e g:=
 ⟨λb H Q E q=>F.len b H Q E (h _ _ _ _ q),λA outer s H args i b Q E j l m n o=>F.run A outer s H args i b Q E j l m n (h _ _ _ _ o)⟩
section
variable{X:aS}{c:OW}{e:St}{H:ak}{s a:KF}
theorem b_.jL(I:b_ X c e H s):oB X.prog X.w X.K X.mg X.base X.A X.stack s H:=
 ⟨I.ok.frames,I.ok.mod,I.bs,J4 I.ok.h_ I.sz,I.stack,I.gm,I.dR,I.bare,I.tabs⟩
theorem b_.after{Q:b5}{u:KB}(I:b_ X c e H s)(h:ry X.stack X.prog X.w H s Q u a):fu X c e Q u a:=by
 obtain⟨v,f,os,bare,un,dR,r,q⟩:=h;obtain⟨i,g,d,t,j⟩:=a;obtain rfl:j=s.os:=os;exact⟨v,f,I.call (h':=i) (g':=g) (d':=d) (t':=t) (ch:=[]) un dR bare (λb z=>absurd z (by simp)),r,q⟩
end
def uQ(a:f3)(b:OK)(E:eT)(t:ek):bx:=λc H Q=>t c H λd e=>a (d++b) e Q E
def eB(K:JS)(d:NP)(b:OR)(c:OS):Prop:=
 ∀(s:KF)(a:OS),K.In s.heap->(a++c).length=b.length->OH s d ⟨a,[]⟩ (b.zip (a++c))
theorem eB.all{K:JS}{c:NP}{b:OR}(h:∀a:OS,a.length=b.length->OI c ⟨a,[]⟩=pure (b.zip a)):eB K c b []:=λs a _ d=>by
 rw[Kb]at d⊢;exact .of_eq (h a d)
def rz(b:iy)(X:aS)(E:eT):Prop:=∀(c:OW)(d:St)(H:ak)(s:KF)(e:KB)(a:KF),b_ X c d H s->b X.stack H s E e a->X.xe e a
section
variable{X:aS}{l:iy}{k:Nat}{f C:KT}{j:NP}{d:OR}{i:f3}{c:OK}{b:OS}{E:eT}{x m:Str}{p a n:Pos}{e o:Nu}{g:OU}{ta:bx}{t:ek}
theorem Bg{n:OW}{o:St}{H:ak}{s:KF}{Q:b5}{a:OS}{m:OK}(F:gT X.prog X.w X.K X.mg X.base l k f j d i)(q:d1 k X.A)(t:eB X.K j d b)(v:bG c b)(x:rz l X E)(I:b_ X n o H s)(r:bG m a)(h:i (m++c) H Q E):wpAny (Nz X.prog X.w) X.A (call (.ref f) a) (fu X n o Q) X.xe s:=by
 have p:bG (m++c) (a++b):=r.append v;have y:(a++b).length=d.length:=by rw[<-p.length];exact F.len _ _ _ _ h
 refine wpAny_call (Ow (F.run X.A X.stack s H ⟨a,[]⟩ (a++b) (m++c) Q E q I.jL (t s a I.fv y) p h) λr z g=>?_);cases r with
 |error e=>exact x n o H s e z I g
 |ok B=>
  cases B with
  |ret u=>exact I.after g
  |next=>exact KU g
  |brk=>exact KU g
  |cont=>exact KU g
theorem Bh(F:gT X.prog X.w X.K X.mg X.base l k f j d i)(n:d1 k X.A)(o:ew X x)(u:X.mg x=some (.ref f))(v:LJ X.K (.ref f)=true)(y:eB X.K j d b)(z:bG c b)(B:rz l X E)(C:gi X (e::g) t)(G:eS x:=by decide)(J:e9 X e g:=by rfl)(L:ir X a g:=by rfl):
  bK X (.Call (.Name x p) (e::g) [] a) (uQ i c E t):=by
 intro M s N H Q I h;refine NY (zY I o u ?_ G);refine PySem.W.callWith_K (h₀:=X.base) I.ok.mod.jC v (bW (C a M s N H _ I h) λO P ⟨R,S,m,r,q⟩=>⟨m.fv,?_⟩) J L;exact Bg F n y z B m r q
end
structure cM(N P:OR)(sc:N0):Prop where
 kind:sc.kind=.function
 co:sc.isCoroutine=false
 gen:sc.isGenerator=false
 nd:N.Nodup
 pre:N.take P.length=P
 par:∀x∈P,sc.names.lookup x=some .local\/sc.names.lookup x=some .cell
 hR:∀y∈sc.names,y.2≠.free
theorem uR{kindOf:Str->Option Ol}{x:Str}:∀{a:List (Str×KB)}{m:Str->Option KB},(∀v,(x,v)∉a)->bindL kindOf a m x=m x
 |[],_,_=>rfl
 | (n,v)::r,m,h=>by
  unfold bindL;rw[uR λw b=>h w (J3 _ b)];split
  ·have:x≠n:=by rintro rfl;exact h v J1
   simp[this]
  rfl
theorem uS{kindOf:Str->Option Ol}{x:Str}:∀{a:List (Str×KB)}{m:Str->Option KB},(∀v,(x,v)∉a)->bindC kindOf a m x=m x
 |[],_,_=>rfl
 | (n,v)::r,m,h=>by
  unfold bindC;rw[uS λw b=>h w (J3 _ b)];split
  ·rfl
  have:x≠n:=by rintro rfl;exact h v J1
  simp[this]
theorem uT{kindOf:Str->Option Ol}{x:Str}{v:KB}:∀{P:OR}{a:OS}{i:Nat}{m:Str->Option KB},P.Nodup->P[i]?=some x->a[i]?=some v->kindOf x=some .local->
  bindL kindOf (P.zip a) m x=some v
 |[],_,_,_,_,h,_,_=>by simp at h
 |_::_,[],_,_,_,_,h,_=>by simp at h
 |p::P,w::a,0,m,d,b,c,e=>by
  simp at b c;subst b;subst c;show bindL kindOf ((p,w)::P.zip a) m p=_
  unfold bindL;rw[uR λv f=>(LK.mp d).1 (Mm f).1,M2 e];simp
 |p::P,w::a,i+1,m,d,b,c,e=>by
  show bindL kindOf ((p,w)::P.zip a) m x=_
  unfold bindL;exact uT (i:=i) (LK.mp d).2 (by simpa using b) (by simpa using c) e
theorem uU{kindOf:Str->Option Ol}{x:Str}{v:KB}:∀{P:OR}{a:OS}{i:Nat}{m:Str->Option KB},P.Nodup->P[i]?=some x->a[i]?=some v->kindOf x≠some .local->
  bindC kindOf (P.zip a) m x=some v
 |[],_,_,_,_,h,_,_=>by simp at h
 |_::_,[],_,_,_,_,h,_=>by simp at h
 |p::P,w::a,0,m,d,b,c,e=>by
  simp at b c;subst b;subst c;show bindC kindOf ((p,w)::P.zip a) m p=_
  unfold bindC;rw[uS λv f=>(LK.mp d).1 (Mm f).1,No e];simp
 |p::P,w::a,i+1,m,d,b,c,e=>by
  show bindC kindOf ((p,w)::P.zip a) m x=_
  unfold bindC;exact uU (i:=i) (LK.mp d).2 (by simpa using b) (by simpa using c) e
def et(N:OR)(a:OK):St:=a.map some++Kp (N.length-a.length) none
def jb(g:iy)(P:Ny)(w:NE)(K:JS)(mg:Str->Option KB)(base:NH)(N:OR)(b:Str)(a:N0)(f:KT)(c:KB)(A:NJ)(outer:List Env)(s:KF)(H:ak)(E:eT):aS where
 prog:=P
 w:=w
 K:=K
 mg:=mg
 base:=base
 A:=A.deeper (Om b a s.heap.objs.size f c)
 N:=N
 s₀:=s
 H₀:=H
 env:=Om b a s.heap.objs.size f c
 outer:=outer
 stack:=Om b a s.heap.objs.size f c::outer
 ex:=[]
 calm:=true
 fn:=λ_=>true
 pn:=[]
 xe:=λe h=>wpAny (Nz P w) (A.deeper (Om b a s.heap.objs.size f c)) (leaving (Om b a s.heap.objs.size f c) e) (λ_ d=>g outer H s E e d) (λi d=>g outer H s E i d) h
theorem uV{sc:N0}{n:Nat}{x:Str}(h:sc.names.lookup x=some .cell):∃c,(cellsFrom n sc.names []).lookup x=some c:=by
 have q:=MS sc.names n [] (.inl h);exact MT.mp q
theorem Bi{Q:iy}{P:Ny}{w:NE}{K:JS}{L:Str->Option KB}{l:NH}{N o:OR}{F:Str}{d:N0}{f:KT}{G:KB}{A:NJ}{g:List Env}{s R:KF}{H:ak}{E:eT}{M:OS}{t:OK}(S:cM N o d)(X:A.handled=none)(m:oB P w K L l A g s H)(af:t.length=o.length)(r:bG t M)(x:InCallC s s.heap.objs.size (bindL (Om F d s.heap.objs.size f G).kindOf (o.zip M) λ_=>none) (cellsFrom (s.heap.objs.size+1) d.names []) (bindC (Om F d s.heap.objs.size f G).kindOf (o.zip M) λ_=>none) R):
  b_ (jb Q P w K L l N F d f G A g s H E) [] (et N t) H R:=by
 have ag:o.length<=N.length:=by have:=Nq LL S.pre;rw[Lm]at this;lia
 obtain⟨I,ai,rfl,T⟩:=x.done;have O:∀b:KT,b∉(jb Q P w K L l N F d f G A g s H E).ex:=λb z=>absurd (show b∈([]:OT)from z) (by simp)
 refine⟨⟨m.mod,S.kind,rfl,rfl,J7 _,λy z c I j=>?_,λy B=>?_,λy c _ h=>?_,λ_=>X,Around.frames_deeper m.frames,.inr ⟨rfl,rfl⟩,λb z=>absurd z (O b),m.bs,m.h_,λb _ _=>O b,λb z=>absurd z (O b),m.eV,m.iv,m.tab⟩,
  rfl,m.bare,dZ.kept T,⟨_,x.toInCall.ns,λi y v I j aj=>?_⟩,λy c h=>⟨_,x.cell y c h⟩,m.dR.fresh (J7 _),λy c h=>?_,λp C=>absurd (show p∈([]:OW)from C) (by simp),m.dR.kept T,?_⟩
 ·exact name_of_addr x.apart (Lc I) (Lc j)
 ·have B:d.names.lookup y=some .cell\/d.names.lookup y=some .free:=B;rcases B with B|B
  ·exact uV B
  exact absurd rfl (S.hR _ (Lc B))
 ·exact Mg (x.above y c (Lc h))
 ·have J:i<t.length:=by
   unfold et at j;by_cases J:i<t.length
   ·exact J
   rw[KP (by simpa using J)]at j;rw[Ln]at j;split at j<;>cases j
  have Y:t[i]?=some v:=by
   unfold et at j;rw[Ld (by simpa using J),Kj]at j;cases e:t[i]? with
   |none=>rw[e]at j;cases j
   |some a=>rw[e]at j;cases j;rfl
  obtain⟨u,U,Z⟩:=r.get Y
  have C:o[i]?=some y:=by
   rw[<-S.pre,List.getElem?_take_of_lt (by lia)];exact I
  have W:o.Nodup:=by rw[<-S.pre];exact S.nd.sublist (List.take_sublist _ _)
  refine⟨u,Z,?_⟩;rcases S.par y (KQ C)with k|k
  ·exact .inl ⟨k,uT W C U k⟩
  obtain⟨c,e⟩:=uV (n:=s.heap.objs.size+1) k;refine .inr ⟨.inl k,c,e,?_⟩;have q:=x.cell y c e;rwa[uU W C U (by show d.names.lookup y≠_;rw[k];decide)]at q
 ·exact m.dR.fresh (Mg (x.above y c (Lc h)))
 unfold et;show _=N.length
 rw[Kh,J5,K6];lia
theorem Bj{F:iy}{P:Ny}{w:NE}{K:JS}{G:Str->Option KB}{g:NH}{k:Nat}{f:KT}{name m:Str}{h:Od}{i:OV}{a:N0}{X kV z Y d Z hc:KB}{ab au:Option KT}{O:Array (Option KB)}{N L:OR}{sp:f3}(lk:K.lookup f=some ⟨hc,au,.func (Lo name m h i a X kV z Y ab d Z),O⟩)(av:Mn K d m=true)(S:cM N L a)(B:∀j H Q E,sp j H Q E->j.length=L.length)(aw:∀(A:NJ)(c:List Env)(s:KF)(H:ak)(j:OK)(Q:b5)(E:eT),d1 k (A.deeper (Om m a s.heap.objs.size f d))->sp j H Q E->∃t,gj (jb F P w K G g N m a f d A c s H E) i t/\t {nx:=λ_ l=>Q .non l,rt:=Q} (et N j) H):
  gT P w K G g F (k+1) f (Lo name m h i a X kV z Y ab d Z) L sp:=by
 refine⟨B,λA c s H args ay j Q E R C aB r ae=>?_⟩;have aC:=B _ _ _ _ ae;have ag:K.In s.heap:=C.mod.jC.keeps λb o e=>(C.bs b o e).1;have lim:s.heap.NoLimit:=C.mod.nolimit.keeps λb o e=>(C.bs b o e).1
 have aF:∀y∈L.zip ay,a.names.lookup y.1=some .local\/(a.names.lookup y.1=some .cell/\((cellsFrom (s.heap.objs.size+1) a.names []).lookup y.1).isSome=true):=λ⟨n,v⟩ aH=>by
  rcases S.par n (Mm aH).1 with q|q
  ·exact .inl q
  exact .inr ⟨q,MS _ _ _ (.inl q)⟩
 refine codeAny_call_function R.depth (ag _ _ lk) rfl S.co S.gen rfl (PySem.W.codeRec_of ag av) (aB _ _ _ _ ?_);refine wpAny_newFunctionEnv_cells S.kind aF λaJ aL ah x=>?_;subst aL;refine⟨lim.keeps x.toInCall.keep,codeAny_func ?_⟩;obtain⟨t,aN,aO⟩:=aw A c s H j Q E (R.deeper _) ae;have I:b_ (jb F P w K G g N m a f d A c s H E) [] (et N j) H ah:=Bi S R.hd C aC r x;refine NN (aN [] ah (et N j) H _ I aO) (λaP T p=>?_) λe T p=>p
 have ai:∀{M:St}{l:ak}{v:V}{u:KB},b_ (jb F P w K G g N m a f d A c s H E) [] M l T->dx v u->Q v l->ry c P w H s Q u T:=
  λ{M l v u} J U q=>⟨v,l,J.os,J.bare,J.base,J.dR,U,q⟩
 cases aP with
 |ret u=>
  obtain⟨v,M,l,J,U,q⟩:=p;exact ai J U q
 |next=>
  obtain⟨M,l,J,q⟩:=p;exact ai (v:=V.non) (u:=Value.none) J rfl q
 |brk=>
  obtain⟨_,_,_,q⟩:=p;exact KU q
 |cont=>
  obtain⟨_,_,_,q⟩:=p;exact KU q
section
variable{X:aS}{x:Str}{p a:Pos}{e:Nu}{b:OU}{t:ek}{id T:String}{r:OK->ak->b5->Prop}
def rB(r:OK->ak->b5->Prop)(t:ek):bx:=λc H Q=>t c H λd f=>r d f Q
theorem mJ(f:jO X (.builtin id) r)(g:ew X x)(i:X.mg x=none)(j:NQ x=some (.builtin id))(k:gi X (e::b) t)(l:x≠"__name__":=by decide)(m:eS x:=by decide)(n:e9 X e b:=by rfl)(o:ir X a b:=by rfl):bK X (.Call (.Name x p) (e::b) [] a) (rB r t):=by
 intro c s d H Q I h;refine NY (mv I g i j ?_ l m);exact PyProof.Rows.callWith_builtin1 (bW (k a c s d H _ I h) λq u ⟨v,w,y,z,A⟩=>f c u d w v q Q y z A) n o
theorem rC(f:jO X (.type T) r)(g:ew X x)(i:X.mg x=none)(j:NQ x=some (.type T))(k:gi X (e::b) t)(l:x≠"__name__":=by decide)(m:eS x:=by decide)(n:e9 X e b:=by rfl)(o:ir X a b:=by rfl):bK X (.Call (.Name x p) (e::b) [] a) (rB r t):=by
 intro c s d H Q I h;refine NY (mv I g i j ?_ l m);exact Mi (bW (k a c s d H _ I h) λq u ⟨v,w,y,z,A⟩=>f c u d w v q Q y z A) n o
end
namespace HT
section
variable{a:Ny}{w:NE}{A:NJ}{E:KB->KF->Prop}{s:KF}
def sIx(n d:Nat):Option Int->Nat
 |none=>d
 |some v=>if v<0 then(v+(n:Int)).toNat else min v.toNat n
end
end HT
abbrev lz:=St->ak->(Option Int->ak->Prop)->Prop
def mK(X:aS)(e:Option Nu)(t:lz):Prop:=
 ∀(b:OW)(s:KF)(a:St)(H:ak)(Q:Option Int->ak->Prop),b_ X b a H s->t a H Q->
  wpAny (Nz X.prog X.w) X.A (evalPart e X.env) (λu d=>∃o c,b_ X b a c d/\IsPart u o/\Q o c) X.xe s
def Bl:lz:=λ_ H Q=>Q none H
def Bm(t:bx):lz:=λa H Q=>t a H λx b=>∃i,x=.int i/\Q (some i) b
theorem fP{a:OO}:∀{b:OS},bG (a.map V.int) b->OE b a:=by
 induction a with
 |nil=>intro b r;rw[List.map_nil]at r;cases r;exact .nil
 |cons n a c=>
  intro b r;rw[KR]at r;cases r with
  |cons d f=>
   obtain⟨t,e⟩:=d;subst e;exact .cons n t (c f)
section
variable{X:aS}{e:Nu}{c:bx}{lo a:Option Nu}{f d:lz}{g j:Pos}
theorem Bn:mK X none Bl:=by
 intro a s b H Q I h;rw[On];exact NA ⟨none,H,I,.none,h⟩
theorem Bo(h:bK X e c):mK X (some e) (Bm c):=by
 intro a s b H Q I d;rw[evalPart_some];refine bW (h a s b H _ I d) λu l ⟨x,f,g,j,k⟩=>?_;obtain⟨i,rfl,q⟩:=k;obtain⟨t,rfl⟩:=j;exact⟨some i,f,g,.int i t,q⟩
def uX(X:aS)(r:V->Option Int->Option Int->ak->b5->Prop):Prop:=
 ∀(b:OW)(s:KF)(h:St)(H:ak)(x:V)(v i k:KB)(lo a:Option Int)(l:KT)(Q:b5),b_ X b h H s->dx x v->s.heap.IsSliceOf l i k .none->IsPart i lo->IsPart k a->r x lo a H Q->
  ∃T id,typeLookup (.type T) "__getitem__"=pure (some (.builtin id))/\s.TypeIs v T/\wpAny (Nz X.prog X.w) X.A (getItem v (.ref l)) (fu X b h Q) X.xe s
def Bp(r:V->Option Int->Option Int->ak->b5->Prop)(c:bx)(f d:lz):bx:=λb H Q=>c b H λx h=>f b h λl i=>d b i λu k=>r x l u k Q
theorem Bq{r:V->Option Int->Option Int->ak->b5->Prop}(t:uX X r)(y:bK X e c)(z:mK X lo f)(B:mK X a d):bK X (.Subscript e (.Slice lo a none j) g) (Bp r c f d):=by
 intro k s m H Q I h;refine Subscript_ (bW (y k s m H _ I h) λv C ⟨x,E,F,G,J⟩=>?_);refine wpAny_Slice (bW (z k C m E _ F J) λn K ⟨l,L,M,N,O⟩=>bW (B k K m L _ M O) λo i ⟨u,p,P,R,S⟩=>?_);rw[On];refine NA ?_;have U:b_ X k m p {i with heap:=i.heap.push {cls:=.type "slice",data:=.fields #[n,o,.none]} }:=P.kept (t':=i.toks) λb ab q=>Heap.get?_push_of_some _ q;obtain⟨T,id,W,Y,Z⟩:=t k {i with heap:=i.heap.push {cls:=.type "slice",data:=.fields #[n,o,.none]} } m p x v n o l u i.heap.objs.size Q U G (Heap.IsSliceOf.new ..) N R S;show wpAny (Nz X.prog X.w) X.A (Oo e (.Slice lo a none j) v (.ref i.heap.objs.size)) (fu X k m Q) X.xe {i with heap:=i.heap.push {cls:=.type "slice",data:=.fields #[n,o,.none]} }
 exact tail_any (ops:=[.ref i.heap.objs.size,v]) Y W Z (by with_unfolding_all rfl)
def oE(b:OK)(lo a:Option Int):List V:=(b.drop (HT.sIx b.length 0 lo)).take (HT.sIx b.length b.length a-HT.sIx b.length 0 lo)
theorem Br(b:OK)(lo a:Option Int):(oE b lo a).length<=b.length:=by
 unfold oE;rw[Lm,LM];lia
end
def hg(n:Nat)(i:Int):Option Nat:=if 0<=i then(if i<n then some i.toNat else none)else if -(n:Int)<=i then some (i+n).toNat else none
def dv{a:Type}(b:List a)(i:Int):Option a:=(hg b.length i).bind λj=>b[j]?
theorem uY{n:Nat}{i:Int}{j:Nat}(h:hg n i=some j):seqIndex? i n=some j/\j<n /\ -(n:Int)<=i/\i<n:=by
 unfold hg at h;by_cases b:0<=i
 ·rw[M2 b]at h;by_cases a:i<n
  ·rw[M2 a]at h;have e:i.toNat=j:=Ki h;exact⟨by rw[OF b a,e],by lia,by lia,a⟩
  rw[No a]at h;cases h
 rw[No b]at h;by_cases a : -(n:Int)<=i
 ·rw[M2 a]at h;have e:(i+n).toNat=j:=Ki h;exact⟨by rw[Ox (by lia) a,e],by lia,a,by lia⟩
 rw[No a]at h;cases h
theorem uZ{b:Type}{a:List b}{i:Int}{v:b}(h:dv a i=some v):∃j,seqIndex? i a.length=some j/\a[j]?=some v/\j<a.length /\ -(a.length:Int)<=i/\i<a.length:=by
 unfold dv at h;cases e:hg a.length i with
 |none=>rw[e]at h;cases h
 |some j=>
  rw[e]at h;obtain⟨c,d,f,g⟩:=uY e;exact⟨j,c,h,d,f,g⟩
def u0(b:Nu):Prop:=∀o i,subscripted b false o i=operate [o,i] (getItem o i)
def oF(X:aS)(r:f2):Prop:=
 ∀(value slice:Nu)(a:OW)(s:KF)(b:St)(H:ak)(x y:V)(v u:KB)(Q:b5),b_ X a b H s->dx x v->dx y u->r x y H Q->
  subscripted slice false v u=operate [v,u] (getItem v u)->wpAny (Nz X.prog X.w) X.A (Oo value slice v u) (fu X a b Q) X.xe s
def Bs(X:aS)(id:String)(r:V->OK->ak->b5->Prop):Prop:=
 ∀(a:OW)(s:KF)(b:St)(H:ak)(x:V)(c:OK)(v:KB)(d:OS)(Q:b5),b_ X a b H s->dx x v->bG c d->r x c H Q->
  wpAny (Nz X.prog X.w) X.A (call (.builtin id) (v::d)) (fu X a b Q) X.xe s
section
variable{X:aS}{a b:Nu}{ta B:bx}{A:Pos}
theorem kE{r:f2}(c:oF X r)(d:bK X a ta)(e:bK X b B)(f:u0 b):bK X (.Subscript a b A) (ja r ta B):=by
 intro g s i H Q I h;exact Subscript_ (ro d e I h λv u j x y k l m n q=>c a b g j i k x y v u Q l m n q (f _ _))
def Bt(K:JS):f2:=λx y H Q=>∃p c i v,x=.ref p/\y=.int i/\cf K H p c/\dv c i=some v/\Q v H
def Bu(K:JS):f2:=λx y H Q=>∃p c i v,x=.ref p/\y=.int i/\dM K H p c/\dv c i=some v/\Q v H
theorem u1:oF X (Bt X.K):=by
 intro value b f s g H x y v u Q I o A h k;obtain⟨p,N,i,z,rfl,rfl,B,C,q⟩:=h;cases o;obtain⟨t,rfl⟩:=A;obtain⟨c,r,d,O⟩:=I.list B;obtain⟨j,a,E,P,F,G⟩:=uZ C;obtain⟨w,l,J⟩:=r.get E;have L:=r.length;have R:=mF;have m:fu X f g Q w s:=⟨z,H,I,J,q⟩;by_cases n:0<=i
 ·have e:i.toNat=j:=by
   rw[OF n G]at a;exact Ki a
  exact item_listR d.isList n (by lia) (by rw[e];simpa using l) m k
 have e:(i+(c.toArray.size:Int)).toNat=j:=by
  rw[Ox (by lia) F]at a;rw[Kl,<-L];exact Ki a
 exact N6 (x:=w) d.isList.typeIs slot_list_getitem.lookup
  (wpAny_getItem_list_neg (Q:=λr M=>r=w/\fu X f g Q r M) d.isList (by lia) (by rw[Kl]<;>lia) (by lia) (by rw[e];simpa using l) ⟨rfl,m⟩) k
theorem Bv:oF X (Bu X.K):=by
 intro value a b s c H x y v u Q I e f h g;obtain⟨p,G,i,z,rfl,rfl,k,l,q⟩:=h;cases e;obtain⟨t,rfl⟩:=f;obtain⟨m,r,d,J⟩:=I.tuple k;obtain⟨j,n,o,L,M,N⟩:=uZ l;obtain⟨w,A,B⟩:=r.get o;have C:=r.length;have O:=mF;have E:fu X b c Q w s:=⟨z,H,I,B,q⟩
 exact N6 (x:=w) d.typeIs slot_tuple_getitem.lookup
  (getItem_tuple (j:=j) (Q:=λr F=>r=w/\fu X b c Q r F) d (by lia) (by lia) (by rw[Kl,<-C];exact n) (by simpa using A) ⟨rfl,E⟩) g
theorem Bw(a:OS)(n j:Nat)(u:KB):Obj.mapSeq (·.setIfInBounds j u) {cls:=.type "list",data:=.seq a.toArray n}={cls:=.type "list",data:=.seq (a.set j u).toArray n}:=by
 simp[Obj.mapSeq]
theorem b_.lst{c:OW}{d:St}{H:ak}{s:KF}{p:KT}{b:OK}(I:b_ X c d H s)(h:H p=some (.lst b)):
  ∃(a:OS)(n:Nat),bG b a/\s.heap.get? p=some {cls:=.type "list",data:=.seq a.toArray n}/\b.length<=Np:=by
 obtain⟨z,a,n,r,e⟩:=I.dR p _ h;exact⟨a,n,r,e,z⟩
theorem b_.hV{i:OW}{j:St}{H:ak}{s:KF}{p:KT}{l d:OK}{c its':OS}{n g:Nat}{f:Obj->Obj}(I:b_ X i j H s)(h:H p=some (.lst l))(m:s.heap.get? p=some {cls:=.type "list",data:=.seq c.toArray n})(k:f {cls:=.type "list",data:=.seq c.toArray n}={cls:=.type "list",data:=.seq its'.toArray g})(r:bG d its')(o:d.length<=Np)(t:Nat):
  b_ X i j (dQ H p (.lst d)) {s with heap:=s.heap.update p f,toks:=t}:=by
 have e:(s.heap.update p f).get? p=some {cls:=.type "list",data:=.seq its'.toArray g}:=by
  rw[Heap.get?_update_self f m (by rw[k]<;>rfl),k]
 refine I.write (x:=p) (e:=p) (by rw[h];trivial) (.inl rfl) (λb u v q=>(Heap.get?_update_other _ _ (KC v)).trans q) ⟨_,e⟩ ?_;exact⟨o,its',g,r,e⟩
def Bx:V->V->V->ak->(ak->Prop)->Prop:=λo i v H Q=>∃p c k j,o=.ref p/\i=.int k/\H p=some (.lst c)/\hg c.length k=some j/\Q (dQ H p (.lst (c.set j v)))
theorem u2:uA X Bx:=by
 intro x s y H o i v G J u Q I z A B h;obtain⟨p,C,k,j,rfl,rfl,f,E,q⟩:=h;cases z;obtain⟨t,rfl⟩:=A;obtain⟨a,n,r,c,F⟩:=I.lst f;obtain⟨b,K,g,l⟩:=uY E;have d:=r.length;have L:=mF
 have m:b_ X x y (dQ H p (.lst (C.set j v))) {s with heap:=s.heap.update p (Obj.mapSeq (·.setIfInBounds j u))}:=
  I.hV f c (Bw a n j u) (r.set B j) (by rw[Lx];exact F) s.toks
 by_cases w:0<=k
 ·have e:k.toNat=j:=by
   rw[OF w l]at b;exact Ki b
  exact PySem.W.ki_setAt c w (by lia) (by rw[Kl,<-d];exact l) (by rw[e];exact⟨_,m,q⟩)
 have e:(k+(a.toArray.size:Int)).toNat=j:=by
  rw[Ox (by lia) g]at b;rw[Kl,<-d];exact Ki b
 exact PySem.W.ki_setBack c (by lia) (by rw[Kl,<-d];exact g) (by lia) (by rw[e];exact⟨_,m,q⟩)
theorem Bz(lo a:Option Int)(n:Nat):(NF lo a none n).1=((HT.sIx n 0 lo:Nat):Int)/\(NF lo a none n).2.1=((HT.sIx n n a:Nat):Int)/\(NF lo a none n).2.2=1:=by
 refine⟨?_,?_,rfl⟩
 ·cases lo with
  |none=>simp[NF,HT.sIx]
  |some i=>
   simp only[NF,HT.sIx,MU,show(1:Int)>0 by decide,if_true];by_cases h:i<0
   ·simp only[h,if_true]<;>lia
   simp only[h,if_false]<;>lia
 cases a with
 |none=>simp[NF,HT.sIx]
 |some i=>
  simp only[NF,HT.sIx,MU,show(1:Int)>0 by decide,if_true];by_cases h:i<0
  ·simp only[h,if_true]<;>lia
  simp only[h,if_false]<;>lia
theorem BA(a:OS)(lo b:Option Int):N9 a.toArray lo b none=((a.drop (HT.sIx a.length 0 lo)).take (HT.sIx a.length a.length b-HT.sIx a.length 0 lo)).toArray:=by
 obtain⟨c,d,e⟩:=Bz lo b a.toArray.size;unfold N9;rw[c,d,e];simp only[sliceRange_one,pick_run,Kl]<;>rfl
def BB(K:JS):V->Option Int->Option Int->ak->b5->Prop:=λx lo d H Q=>∃a c,x=.ref a/\cf K H a c/\∀p,H p=none->Q (.ref p) (dQ H p (.lst (oE c lo d)))
theorem BC:uX X (BB X.K):=by
 intro p s t H x v u w lo d y Q I f g i j h;obtain⟨a,c,rfl,k,q⟩:=h;cases f;obtain⟨l,r,e,m⟩:=I.list k;have n:=r.length;refine⟨"list",_,slot_list_getitem.lookup,e.isList.typeIs,?_⟩;refine NR e.isList g i j .none (by simp) ?_ (by rw[Kl]<;>lia);rw[BA,<-n];refine⟨.ref s.heap.objs.size,_,I.laid (t':=s.toks) (o:=.lst (oE c lo d)) (λb z q=>Heap.get?_push_of_some _ q) (J7 _) ?_,rfl,q _ (I.dR.fresh (J7 _))⟩;exact⟨J4 (Br c lo d) m,_,0,(r.drop (HT.sIx c.length 0 lo)).take (HT.sIx c.length c.length d-HT.sIx c.length 0 lo),Heap.get?_push_size _ rfl⟩
theorem u3:jO X (.builtin "len") (λg H Q=>∃p a,g=[.ref p]/\(cf X.K H p a\/dM X.K H p a)/\Q (.int a.length) H):=by
 intro k s l H g m Q I r h;obtain⟨p,a,rfl,b,q⟩:=h;obtain⟨u,rfl,i⟩:=eM r;cases i;have n:=mF;rcases b with b|b
 ·obtain⟨c,d,e,j⟩:=I.list b;have f:=d.length;exact Calls.call_len_list e.isList (by simp only[Kl]<;>lia) ⟨.int a.length,H,I.tok _,⟨s.toks+1,by rw[Kl,f]⟩,q⟩
 obtain⟨c,d,e,j⟩:=I.tuple b;have f:=d.length;exact len_tuple e (by simp only[Kl]<;>lia) ⟨.int a.length,H,I.tok _,⟨s.toks+1,by rw[Kl,f]⟩,q⟩
theorem BD:jO X (.type "list") (λx H Q=>∃p d,x=[.ref p]/\(cf X.K H p d\/dM X.K H p d)/\∀l,H l=none->Q (.ref l) (dQ H l (.lst d))):=by
 intro A s B H x F Q I r h;obtain⟨p,d,rfl,i,q⟩:=h;obtain⟨u,rfl,C⟩:=eM r;cases C
 have y:∀(a:OS),bG d a->d.length<=Np->∀(c:NH)(f:Nat),(∀b z,s.heap.get? b=some z->c.get? b=some z)->
   c.get? s.heap.objs.size=some {cls:=.type "list",dict:=none,data:=.seq a.toArray f,slots :=#[]}->fu X A B Q (.ref s.heap.objs.size) {s with heap:=c }:=λa g j c f kp e=>
  ⟨.ref s.heap.objs.size,_,I.laid (t':=s.toks) kp (J7 _) (show eR X.prog X.w _ c _ (.lst d)from⟨j,a,f,g,e⟩),rfl,q _ (I.dR.fresh (J7 _))⟩
 rcases i with i|i
 ·obtain⟨a,g,k,j⟩:=I.list i;have E:=g.length;obtain⟨o,m,t,n,v⟩:=k.isList;exact call_list_seq p (.inl rfl) m t v (λc f kp e=>y a g j c f kp e) (by simp only[Kl]<;>lia)
 obtain⟨a,g,k,j⟩:=I.tuple i;have E:=g.length;obtain⟨o,m,t,n,v⟩:=k;exact call_list_seq p (.inr rfl) m t v (λc f kp e=>y a g j c f kp e) (by simp only[Kl]<;>lia)
def u4(K:JS)(T:String)(x:V)(H:ak):Prop:=match x with
 |.str _=>T="str"
 |.int _=>T="int"
 |.ref p=>(T="list"/\∃d,cf K H p d)\/(T="tuple"/\∃o,K.lookup p=some o/\o.cls=.type "tuple"/\o.dict=none) \/
   (T="dict"/\((∃c,H p=some (.dK c))\/∃c,H p=some (.dT c)))\/(T="set"/\∃S n,H p=some (.set S n))
 |_=>False
theorem BE{l:OW}{m:St}{H:ak}{s:KF}{T:String}{x:V}{v:KB}(I:b_ X l m H s)(r:dx x v)(ty:u4 X.K T x H):
  s.TypeIs v T/\∀a,v=.ref a->∃j,s.heap.get? a=some j/\j.dict=none:=by
 cases x with
 |str z=>
  obtain⟨t,rfl⟩:=r;cases(show T="str" from ty);exact⟨typeIs_str s z t,λ_ e=>nomatch e⟩
 |int i=>
  obtain⟨t,rfl⟩:=r;cases(show T="int" from ty);exact⟨typeIs_int s i t,λ_ e=>nomatch e⟩
 |ref p=>
  cases r;rcases ty with⟨rfl,y,q⟩|⟨rfl,o,b,u,f⟩|⟨rfl,b⟩|⟨rfl,S,n,b⟩
  ·obtain⟨w,_,k,_⟩:=I.list q;refine⟨k.isList.typeIs,λa e=>?_⟩;cases e;obtain⟨o,n,e,c,f,_⟩:=k;exact⟨o,e,f⟩
  ·refine⟨⟨o,I.fv p o b,u⟩,λa e=>?_⟩;cases e;exact⟨o,I.fv _ o b,f⟩
  ·have z:∃o,s.heap.get? p=some o/\o.ExactDict:=by
    rcases b with⟨g,b⟩|⟨g,b⟩
    ·obtain⟨_,_,_,_,o,_,_,e,d,_⟩:=I.dR p _ b;exact⟨o,e,d⟩
    obtain⟨_,_,_,_,o,_,_,e,d,_⟩:=I.dR p _ b;exact⟨o,e,d⟩
   obtain⟨o,e,d⟩:=z;refine⟨⟨o,e,d.1⟩,λa h=>?_⟩;cases h;exact⟨o,e,d.2.1⟩
  obtain⟨o,_,_,_,e,d,_⟩:=I.dR p _ b;refine⟨⟨o,e,d.1⟩,λa h=>?_⟩;cases h;exact⟨o,e,d.2.1⟩
 |_=>exact KU ty
def BF(K:JS)(T:String)(r:V->OK->ak->b5->Prop)(m:bx)(t:ek):bx:=λc H Q=>m c H λx d=>u4 K T x d/\t c d λe f=>r x e f Q
variable{o e:Nu}{d:OU}{m:bx}{t:ek}{name:Str}{C g:Pos}{T id:String}{r:V->OK->ak->b5->Prop}
theorem u5(k:PlainAttrs T)(a:Slot T name id)(l:typeOf (.builtin id)=pure (.type "method_descriptor"))(n:Bs X id r)(p:bK X o m)(q:gi X (e::d) t)(u:q4 X o name:=by rfl)(w:q3 X g (e::d):=by rfl)(y:q5 C g:=by rfl)(z:e9 X e d:=by rfl)(A:ir X g d:=by rfl):
  bK X (.Call (.Attribute o name C) (e::d) [] g) (BF X.K T r m t):=by
 intro b s c H Q I h;refine wpAny_Call_method_late u w y rfl (bW (p b s c H _ I h) λv B ⟨x,E,f,i,ty,F⟩=>?_);obtain⟨G,J⟩:=BE f i ty;refine⟨T,id,k,a,l,G,J,?_⟩;have j:=q g b B c E _ f F;rw[z]at j⊢;refine Calls.callWith_builtin (by show(false||(OB g (Nw d X.env)).any (·.1))=false;rw[A]<;>rfl) (Calls.evalArgs_plain ?_);exact bW j λL M ⟨N,O,P,R,S⟩=>n b M c O x N v L Q P i R S
end
def u6(X:aS)(id:String)(r:V->OK->ak->b5->Prop):Prop:=
 ∀(a:OW)(s:KF)(b:St)(H:ak)(x:V)(c:OK)(v:KB)(d:OS)(Q:b5),b_ X a b H s->dx x v->bG c d->r x c H Q->
  wpAny (Nz X.prog X.w) X.A (call (.builtin id) (v::d)) (fu X a b Q) X.xe s
theorem bG.one:∀{x:V}{a:OS},bG [x] a->∃u,a=[u]/\dx x u
 |_,_,.cons r .nil=>⟨_,rfl,r⟩
theorem bG.reverse{a:OK}{b:OS}(h:bG a b):bG a.reverse b.reverse:=by
 induction h with
 |nil=>exact .nil
 |cons r t c=>rw[LN,LN];exact bG.append c (.cons r .nil)
section
variable{X:aS}{d:OW}{c:St}{H:ak}{s:KF}{l b:KT}{g a h:OK}
theorem b_.jB{b its':OS}{n:Nat}{f:Array KB->Array KB}{t':Nat}(I:b_ X d c H s)(h:H l=some (.lst g))(e:s.heap.get? l=some {cls:=.type "list",data:=.seq b.toArray n})(j:f b.toArray=its'.toArray)(k:bG a its')(m:a.length<=Np):
  b_ X d c (dQ H l (.lst a)) {s with heap:=s.heap.update l (Obj.mapSeq f),toks:=t' }:=by
 have q:=PySem.IsL.update e f;rw[j]at q;refine I.write (x:=l) (e:=l) (by rw[h];exact trivial) (.inl rfl) (λr u o p=>(Heap.get?_update_other s.heap (Obj.mapSeq f) (KC o)).trans p) ⟨_,q⟩ ?_;exact⟨m,its',_,k,q⟩
theorem b_.iY{its:OS}{t':Nat}(I:b_ X d c H s)(b:bG a its)(e:a.length<=Np):
  b_ X d c (dQ H s.heap.objs.size (.lst a)) {s with heap:=s.heap.push {cls:=.type "list",data:=.seq its.toArray},toks:=t' }:=
 I.laid (λ_ _ q=>Heap.get?_push_of_some _ q) (J7 _) ⟨e,its,0,b,Heap.get?_push_size _ rfl⟩
theorem b_.fresh(I:b_ X d c H s):H s.heap.objs.size=none:=I.dR.fresh (J7 _)
theorem b_.hb(I:b_ X d c H s)(b:H l=some (.lst g)):g.length<=Np/\∃(a:OS)(n:Nat),bG g a/\g.length=a.length/\s.heap.get? l=some {cls:=.type "list",data:=.seq a.toArray n}:=by
 obtain⟨z,a,n,r,e⟩:=I.dR l _ b;exact⟨z,a,n,r,r.length,e⟩
end
section
variable{X:aS}
def BH:V->OK->ak->b5->Prop:=λx b H Q=>∃l a y,x=.ref l/\b=[y]/\H l=some (.lst a)/\a.length<Np/\Q .non (dQ H l (.lst (a++[y])))
theorem u7:u6 X "list.append" BH:=by
 intro g s i H x j v k Q I c d h;obtain⟨l,m,y,rfl,rfl,b,o,q⟩:=h;cases c;obtain⟨u,rfl,f⟩:=d.one;obtain⟨z,a,n,r,p,e⟩:=I.hb b;refine call_meets F.slot_list_append ⟨_,e,rfl⟩ F.entry_list_append (F.args_list_append_2 _ _) (PySem.list_append l a.toArray n u (by rw[Kl];lia)) ⟨e,?_⟩;refine⟨.non,_,I.jB (its':=a++[u]) b e (by simp) (r.append (.cons f .nil)) ?_,rfl,q⟩;rw[Kh,MV];lia
def BI:f2:=λx y H Q=>∃l b a c,x=.ref l/\y=.ref b/\H l=some (.lst a)/\H b=some (.lst c)/\a.length+c.length<=Np/\∀p,H p=none->Q (.ref p) (dQ H p (.lst (a++c)))
theorem BJ:ee X (NX .Add) BI:=by
 intro o s p H x y v u Q I d f h;obtain⟨l,b,t,w,rfl,rfl,g,i,A,q⟩:=h;cases d;cases f;obtain⟨z,a,n,r,B,e⟩:=I.hb g;obtain⟨C,c,E,j,F,k⟩:=I.hb i;refine PySem.P.add_list e k ?_ (by rw[Kl,Kl];lia);have m:a.toArray++c.toArray=(a++c).toArray:=by simp
 rw[m];exact⟨.ref _,_,I.iY (t':=s.toks) (r.append j) (by rw[Kh];lia),rfl,q _ I.fresh⟩
end
section
variable{a:Ny}{w:NE}{A:NJ}{E:KB->KF->Prop}{s:KF}
set_option maxRecDepth 100000 in
end
namespace Att
theorem BK{P:Params}{h:NH}:∀(c:OO)(d:OS),WellAll P h d (c.map WData.int)->OE d c:=by
 intro c;induction c with
 |nil=>
  intro d w;rw[List.map_nil]at w;cases w;exact .nil
 |cons n c e=>
  intro d w;rw[KR]at w;cases w with
  |cons a b=>
   cases a;exact .cons _ _ (e _ b)
theorem BL{l:OpenLaw}{n:Nat}(k:l.most=some n){P:Params}{h:NH}{args:List WData}{c:OS}(g:l.row.toRowW.claim.pre args=true)(m:WellAll P h c args):
  ∃a i b,c=[Value.ref a]/\args=[WData.list (b.map WData.int)]/\h.get? a=some {cls:=.type "list",data:=.seq i.toArray}/\OE i b/\b.length<=n:=by
 have p:WShape.hasAll [] args [.list .int]=true:=(pre_splitW g).1;have j:l.pre.holds [] {args:=args}=true:=(pre_splitW g).2;obtain⟨d,r,rfl,s,t⟩:=hasAllW_cons p;obtain rfl:=hasAllW_nil t;obtain⟨B,rfl,u⟩:=hasW_list s;obtain⟨b,rfl⟩:=items_int u
 have v:b.length<=n:=by
  unfold OpenLaw.pre at j
  have f:(WTm.not (.lt (.lit (.int (n:Int))) (.len (.arg 0)))).holds [] {args:=[.list (b.map .int)]}=true:=by
   have f:=(holds_andW j).1;rwa[k]at f
  have e:=condW_of f (w_not (w_lt w_lit (w_len_list (w_arg rfl))));rw[J5]at e;refine Nat.le_of_not_lt λq=>?_;have w:(n:Int)<((b.length:Nat):Int):=by lia
  first
   | (rw[NZ w]at e;exact absurd e (by decide))
   | (simp at e;lia)
 cases m with
 |cons x y=>
  cases y;cases x with
  |list z A=>exact⟨_,_,b,rfl,rfl,z,BK b _ A,v⟩
theorem BO(l:OpenLaw)(args:List WData):l.row.toRowW.claim.post args (.bool true) args=true:=
 postW_of (r:=l.row.toRowW) (X:=(true==true))
  (show WShape.has [] (.bool true) .bool=true by first|rfl|decide|simp[WShape.has,WShape.arms,WShape.armsAll])
  (show(WTm.eq .res (.lit (.bool true))).value [] {args:=args,res:=some (.bool true),after:=args}=some (.bool (true==true))from w_eq_bool (w_res rfl) w_lit) rfl
theorem attach_call{l:OpenLaw}{n:Nat}{q:Ny}{b:OR}{v:(Str->Option KB)->NH->Prop}{x:NE->NH->Prop}{d:DefRec}(A:l.most=some n)(B:d.params.defaults=[])(call:∀(w:NE)(c e:KF)(k t:Str->Option KB)(j:KT)(o:Obj)(u m g:KB)(a:KT)(i:OS)(p:OO),Ground q b [] v w c k t e.heap->x w e.heap->e.heap.get? j=some o->o.data=.func (docDef d.name d.params d.body d.scope u m g)->e.heap.CodeRec m d.name->k d.name=some (.ref j)->e.heap.get? a=some {cls:=.type "list",data:=.seq i.toArray}->OE i p->p.length<=n->e.gens = #[]->codeAny (Nz l.prog w) Ot (.call (.ref j) ⟨[.ref a],[]⟩) (λr s=>r=.ok (.ret (.bool true))/\OldK e.heap s.heap/\s.os=e.os/\N8 s.gens) e):
  WalkO q b v x l.row.toRowW d [] (λf i=>PySem.call f i):=by
 intro w c e k t G Y j o u m g E kV F H I y J K args z U L W X M Z;obtain rfl:E=.none:=Dflts.none y B;obtain rfl:kV=.none:=Dflts.noKw y;obtain⟨a,i,p,rfl,rfl,N,h,O⟩:=BL A L M;refine enter_call (Ow (call w c e k t j o u m g a i p G Y F (fd_plain H) I J N h O K) λr s P=>?_);obtain⟨rfl,Q,R,S⟩:=P;exact⟨.inl ⟨.bool true,.bool true,[],rfl,λ_=>rfl,.bool true,BO l _,λ_=>⟨List.Pairwise.nil,λ_ T=>(nomatch T)⟩⟩,Q,R,S⟩
end Att
theorem u8:∀{a:OS}{b:OO},OE a b->bG (b.map V.int) a
 |_,_,.nil=>.nil
 |_,_,.cons n t h=>.cons ⟨t,rfl⟩ (u8 h)
def u9(H:ak):Prop:=∀b,H b=none\/(∃o a,H b=some (.frz o (.lst a)))\/∃c,H b=some (.tbl c)
theorem BP{P:Ny}{w:NE}{K:JS}{J T:Str->Option KB}{aq:iy}{k:Nat}{U a:KT}{au:NP}{x:Str}{sp:f3}{c:KF}{C:OS}{G:OO}(aw:K.In c.heap)(ay:c.heap.Ns Nr J)(f:c.heap.Ns N1 T)(aQ:∀x:Str,x≠"__name__"->T x=NQ x)(aT:c.heap.NoLimit)(aV:c.gens = #[])(L:c.heap.get? a=some {cls:=.type "list",data:=.seq C.toArray})(aC:OE C G)(aD:G.length<=Np)(aX:d1 k Ot)(F:∀base:NH,K.In base->base.Ns Nr J->gT P w K J base aq k U au [x] sp)(aZ:∀(s:KF)(u:KB),OH s au ⟨[u],[]⟩ [(x,u)])(T0:ak)(l:∀b u,T0 b=some u->(∃j,u=dz.tbl j)/\c.heap.get? b=some {cls:=.none,data:=.fields #[]}/\K.lookup b=none/\isCodeTable c.heap b)(aG:jF K T0)(a0:∀H:ak,u9 H->cf K H a (G.map V.int)->sp [.ref a] H (λv _=>v=.bl true) λ_ _ _=>False)(a4:∀H e g,aq [] H c (λ_ _ _=>False) e g->False):
  codeAny (Nz P w) Ot (.call (.ref U) ⟨[.ref a],[]⟩) (λr g=>r=.ok (.ret (.bool true))/\OldK c.heap g.heap/\g.os=c.os/\N8 g.gens) c:=by
 have aH:=u8 aC;have a5:=aC.length
 have core:∀H:ak,u9 H->cf K H a (G.map V.int)->dU P w H c.heap->(∀b u,H b=some u->(b=a/\∃o B,u=.frz o (.lst B))\/T0 b=some u)->(∀b u,H b=some u->K.lookup b=none)->jF K H->
   codeAny (Nz P w) Ot (.call (.ref U) ⟨[.ref a],[]⟩) (λr g=>r=.ok (.ret (.bool true))/\OldK c.heap g.heap/\g.os=c.os/\N8 g.gens) c:=by
  intro H a6 a' M W bb bg;have aI:∀{b:KT}{o:Obj},c.heap.get? b=some o->H b=none->(i1 c.heap H).get? b=some o:=λe n=>zM e n
  have bj:∀{b:KT}{o:Obj}{Q:Array DictEntry}{R:Nat},c.heap.get? b=some o->o.data=.dict Q R->H b=none:=λ{b o Q R} e d=>by
   cases q:H b with
   |none=>rfl
   |some u=>
    rcases W b u q with⟨X,_⟩|X
    ·subst X;rw[L]at e;cases e;cases d
    rw[(l b u X).2.1]at e;cases e;cases d
  have S:∀{b:KT}{m:Str->Option KB},c.heap.Ns b m->(i1 c.heap H).Ns b m:=λ{b m} ⟨o,Q,R,e,d,r⟩=>⟨o,Q,R,aI e (bj e d),d,r⟩
  have aJ:K.In (i1 c.heap H):=λb o e=>aI (aw b o e) (by
   cases q:H b with
   |none=>rfl
   |some u=>rw[bb b u q]at e;cases e)
  have bo:Mod K J (i1 c.heap H):=⟨aJ,S ay,⟨T,S f,aQ⟩,let⟨br,bu,bA⟩:=aT;⟨br,S bu,bA⟩⟩;have bD:oB P w K J (i1 c.heap H) Ot [] c H:=⟨rfl,bo,λb o e=>zN e,Nat.le_of_eq (zL _ _),trivial,λb f=>absurd (show b∈([]:OT)from f) (by simp),M,.of_eq aV,bg⟩;refine Ow ((F _ aJ (S ay)).run Ot [] c H ⟨[.ref a],[]⟩ [.ref a] [.ref a] _ _ aX bD (aZ c (.ref a)) (.cons rfl .nil) (a0 H a6 a')) λr g h=>?_;cases r with
  |error e=>exact(a4 H e g h).elim
  |ok c1=>
   cases c1 with
   |next=>exact KU h
   |brk=>exact KU h
   |cont=>exact KU h
   |ret u=>
    obtain⟨v,bO,os,N,Y,aK,bC,q⟩:=h;have bH:v=.bl true:=q;subst bH;obtain rfl:u=Value.bool true:=bC
    have aL:∀b u,H b=some u->T0 b=some u->∃I,g.heap.get? b=some {cls:=.none,data:=.fields I}:=λb u q z=>by
     obtain⟨⟨j,rfl⟩,_⟩:=l b u z;obtain⟨aN,Z⟩:=Y.e3 b j q;obtain⟨I,y,_⟩:=aK b _ Z;exact⟨I,y⟩
    have aO:∀b o E B,c.heap.get? b=some o->H b=some (.frz E (.lst B))->g.heap.get? b=some o:=λb o E B e z=>by
     have Z:=Y.fb b E _ z;obtain⟨A,_⟩:=M b _ z;obtain⟨y,_⟩:=aK b _ Z;rw[e]at A;cases A;exact y
    have aP:∀b o,c.heap.get? b=some o->H b=none->g.heap.get? b=some o:=λb o e q=>Y.keep b o e q (by intro z;exact absurd (show b∈([]:OT)from z) (by simp)) (by simp);refine⟨rfl,⟨λb o e=>?_,λb o e=>?_⟩,os,N⟩
    ·cases q:H b with
     |none=>exact .inl (aP b o e q)
     |some u=>
      rcases W b u q with⟨_,E,B,rfl⟩|z
      ·exact .inl (aO b o E B e q)
      obtain⟨I,y⟩:=aL b u q z;obtain⟨_,A,_,bI⟩:=l b u z;rw[e]at A;cases A;exact .inr (.inl ⟨bI,rfl,#[],I,rfl,by rw[y];simp⟩)
    cases q:H b with
    |none=>exact⟨o,aP b o e q⟩
    |some u=>
     rcases W b u q with⟨_,E,B,rfl⟩|z
     ·exact⟨o,aO b o E B e q⟩
     obtain⟨I,y⟩:=aL b u q z;exact⟨_,y⟩
 have tok:∀(H:ak) b u,T0 b=some u->eR P w H c.heap b u:=λH b u z=>by
  obtain⟨⟨j,rfl⟩,e,_⟩:=l b u z;exact⟨#[],e,trivial,λposQz bV bJ=>by cases bJ⟩
 have bM:T0 a=none:=by
  cases z:T0 a with
  |none=>rfl
  |some u=>have:=(l a u z).2.1;rw[L]at this;cases this
 cases ag:K.lookup a with
 |some o=>
  have e:=aw a o ag;rw[L]at e;cases e;refine core T0 (λb=>?_) (.inr ⟨_,C.toArray,_,ag,rfl,rfl,rfl,by rw[Kl,a5];exact aD,by simpa using aH⟩) (λb u z=>tok T0 b u z) (λb u z=>.inr z) (λb u z=>(l b u z).2.2.1) aG;cases z:T0 b with
  |none=>exact .inl rfl
  |some u=>obtain⟨⟨j,rfl⟩,_⟩:=l b u z;exact .inr (.inr ⟨j,rfl⟩)
 |none=>
  have O:∀b,b≠a->(if b=a then some (dz.frz {cls:=.type "list",data:=.seq C.toArray} (.lst (G.map V.int)))else T0 b)=T0 b:=λb f=>No f;refine core (λb=>if b=a then some (.frz {cls:=.type "list",data:=.seq C.toArray} (.lst (G.map V.int)))else T0 b) (λb=>?_) (.inl (.inr ⟨{cls:=.type "list",data:=.seq C.toArray},M2 rfl⟩)) (λb u z=>?_) (λb u z=>?_) (λb u z=>?_) (λp bN=>?_)
  ·by_cases f:b=a
   ·exact .inr (.inl ⟨_,_,M2 f⟩)
   dsimp only;rw[O b f];cases z:T0 b with
   |none=>exact .inl rfl
   |some u=>obtain⟨⟨j,rfl⟩,_⟩:=l b u z;exact .inr (.inr ⟨j,rfl⟩)
  ·by_cases f:b=a
   ·have ao:=(M2 f).symm.trans z;cases ao;subst f;exact⟨L,by rw[J5];exact aD,C,_,aH,L⟩
   exact tok _ b u ((O b f).symm.trans z)
  ·by_cases f:b=a
   ·have ao:=(M2 f).symm.trans z;cases ao;exact .inl ⟨f,_,_,rfl⟩
   exact .inr ((O b f).symm.trans z)
  ·by_cases f:b=a
   ·rw[f];exact ag
   exact(l b u ((O b f).symm.trans z)).2.2.1
  obtain⟨j,t,A,y⟩:=aG p bN;have f:p.1≠a:=λz=>by rw[z,bM]at A;cases A
  exact⟨j,t,(O _ f).trans A,y⟩
def kF(s:NI):Od:=match s with
 |.FunctionDef _ a _ _ _ _ _ _ _ _=>a
 |_=>{posonlyargs:=[],args:=[],vararg:=none,kwonlyargs:=[],kw_defaults:=[],kwarg:=none,defaults:=[]}
def h1(s:NI):List NI:=match s with
 |.FunctionDef _ _ b _ _ _ _ _ _ _=>b
 |_=>[]
def b9(s:NI):N0:=match s with
 |.FunctionDef _ _ _ _ _ _ sc _ _ _=>sc
 |_=>{kind:=.function,names:=[],isGenerator:=false,isCoroutine:=false}
abbrev h2:iy:=λ_ _ _ _ _ _=>False
abbrev jU:eT:=λ_ _ _=>False
theorem BW{X:aS}:rz h2 X jU:=λ_ _ _ _ _ _ _ h=>h.elim
structure iA(K:JS)(x cV:Str)(st:NI)(f:KT)(fd:NP):Prop where
 ex:∃(oc:KB)(od:Option KT)(kV doc pm:KB)(an:Option KT)(cdv ct:KB)(osl:Array (Option KB)),
  fd=Lo x cV (kF st) (h1 st) (b9 st) .none kV doc pm an cdv ct/\K.lookup f=some ⟨oc,od,.func fd,osl⟩/\Mn K cdv cV=true
 kp:LJ K (.ref f)=true
section
variable{P:Ny}{w:NE}{K:JS}{b:Str->Option KB}{a:NH}
theorem iA.ok{x cV:Str}{st:NI}{f:KT}{fd:NP}{N e:OR}{k:Nat}{sp:f3}(F:iA K x cV st f fd)(S:cM N e (b9 st))(g:∀d H Q E,sp d H Q E->d.length=e.length)(i:∀(cdv:KB)(A:NJ)(c:List Env)(s:KF)(H:ak)(d:OK)(Q:b5)(E:eT),d1 k (A.deeper (Om cV (b9 st) s.heap.objs.size f cdv))->sp d H Q E->∃t,gj (jb h2 P w K b a N cV (b9 st) f cdv A c s H E).hK (h1 st) t/\t {nx:=λ_ j=>Q .non j,rt:=Q} (et N d) H):gT P w K b a h2 (k+1) f fd e sp:=by
 obtain⟨oc,od,kV,doc,pm,an,cdv,ct,osl,rfl,lk,l⟩:=F.ex;refine Bj lk l S g λA c s H d Q E m n=>?_;obtain⟨t,h,q⟩:=i cdv A c s H d Q E m n;exact⟨t,h.hK,q⟩
theorem iA.binds{x cV:Str}{st:NI}{f:KT}{fd:NP}{a:OR}(F:iA K x cV st f fd)(h:∀(kV doc pm:KB)(an:Option KT)(cdv ct:KB)(b:OS),b.length=a.length->OI (Lo x cV (kF st) (h1 st) (b9 st) .none kV doc pm an cdv ct) ⟨b,[]⟩=pure (a.zip b)):eB K fd a []:=by
 obtain⟨oc,od,kV,doc,pm,an,cdv,ct,osl,rfl,lk,c⟩:=F.ex;exact .all (h kV doc pm an cdv ct)
theorem BX{x a:Str}{st:NI}{f:KT}{oc:KB}{od an:Option KT}{osl:Array (Option KB)}{kV doc pm cdv ct:KB}(l:K.lookup f=some ⟨oc,od,.func (Lo x a (kF st) (h1 st) (b9 st) .none kV doc pm an cdv ct),osl⟩)(c:Mn K cdv a=true)(k:LJ K (.ref f)=true):iA K x a st f (Lo x a (kF st) (h1 st) (b9 st) .none kV doc pm an cdv ct):=⟨⟨oc,od,kV,doc,pm,an,cdv,ct,osl,rfl,l,c⟩,k⟩
end
section
variable{X:aS}
theorem fy(i:Nat){x:Str}{a:Pos}(b:i2 X i x:=by rfl)(c:i3 X.env.scope x:=by walk_at"v")(d:eS x:=by decide)(e:jG x:=by decide):bK X (.Name x a) (q9 i):=lj b c d e
end
theorem lA{A B:Prop}(h:B):if false=true then A else B:=by
 rw[No Ke];exact h
theorem BY{A B:Prop}(h:A):if true=true then A else B:=by
 rw[M2 rfl];exact h
def b2(H a:ak):Prop:=∀b o,H b=some o->a b=some o
theorem b2.refl(H:ak):b2 H H:=λ_ _ h=>h
theorem b2.trans{H d e:ak}(a:b2 H d)(b:b2 d e):b2 H e:=λc o h=>b c o (a c o h)
theorem b2.free{H a:ak}(e:b2 H a){l:KT}(h:a l=Option.none):H l=Option.none:=by
 cases q:H l with
 |none=>rfl
 |some o=>
  rw[e l o q]at h;cases h
theorem b2.seq{K:JS}{H b:ak}{a:KT}{c:OK}(e:b2 H b)(h:cf K H a c):cf K b a c:=by
 rcases h with(h|⟨o,h⟩)|h
 ·exact .inl (.inl (e _ _ h))
 ·exact .inl (.inr ⟨o,e _ _ h⟩)
 exact .inr h
set_option maxHeartbeats 4000000
def rJ(i j:Int):Prop:=KM i<=9000/\KM j<=9000
def lB(_ j:Int):Prop:=j≠0/\KM j<=9000
theorem BZ{x y:Int}(h:KM y<=9000):Builtin.divisionGoesByPylong x y=false:=by
 by_cases a:y=0
 ·subst a;exact PyProof.noPylong_small (by decide)
 refine PyProof.noPylong_of_log2 ?_;have q:=intBits_le_iff.mp h;have b:y.natAbs≠0:=by lia
 exact(Nat.log2_lt b).mpr q
section
variable{X:aS}{a b:Nu}{ta g:bx}{d:Pos}
theorem rK:ee X (NX .Mult) (kB rJ λi j=>.int (i*j)):=mE λ_ _ _ _ _ _ _ a q=>mul_int q (IntMulOk.of_le a.1 a.2 (by decide))
theorem rL:ee X (NX .FloorDiv) (kB lB λi j=>.int (i.fdiv j)):=mE λ_ _ _ _ _ _ _ a q=>floordiv_int a.1 q (.inl (BZ a.2))
theorem lC:ee X (NM .Eq) (hG λi j=>.bl (decide (i=j))):=ls λ_ _ _ _ _ _ _ q=>eq_int (by rw[MW];exact q)
theorem jV:ee X (NM .NotEq) (hG λi j=>.bl (!decide (i=j))):=ls λ_ _ _ _ _ _ _ q=>ne_int (by rw[bne,MW];exact q)
def B0(H:ak)(p:KT)(c:OK):Prop:=H p=some (.tup c)\/H p=some (.lst c)
def B1:f2:=λx y H Q=>∃p c i v,x=.ref p/\y=.int i/\B0 H p c/\dv c i=some v/\Q v H
theorem lD:oF X B1:=by
 intro value a c s d H x y v u Q I e f h g;obtain⟨p,j,i,z,k,l,b,m,q⟩:=h;rcases b with b|b
 ·exact Bv value a c s d H x y v u Q I e f ⟨p,j,i,z,k,l,dM.of b,m,q⟩ g
 exact u1 value a c s d H x y v u Q I e f ⟨p,j,i,z,k,l,cf.of b,m,q⟩ g
theorem B2:jO X (.builtin "isinstance") (λa H Q=>∃x t n b,a=[x,.ty n]/\gS X.K H x t/\Ml X.K t (.type n)=some b/\Q (.bl b) H):=by
 intro f s g H a i Q I r h;obtain⟨x,t,n,b,rfl,ty,e,q⟩:=h;obtain⟨u,j,rfl,c,d⟩:=iC r;cases d;exact Ba I c ty e λk=>⟨.bl b,H,I.tok _,rfl,q⟩
structure cq(P:Ny)(w:NE)(K:JS)(mg:Str->Option KB)(base:NH)(x:Str)(ps:OR)(k:Nat)(sp:f3):Prop where
 ex:∃f fd,mg x=some (.ref f)/\LJ K (.ref f)=true/\eB K fd ps []/\gT P w K mg base h2 k f fd ps sp
structure c3(K:JS)(mg:Str->Option KB)(x:Str)(st:NI)(ps:OR):Prop where
 ex:∃f fd,mg x=some (.ref f)/\iA K x x st f fd/\eB K fd ps []
theorem cq.imp{P:Ny}{w:NE}{K:JS}{d:Str->Option KB}{a:NH}{x:Str}{e:OR}{k:Nat}{sp g:f3}(c:cq P w K d a x e k sp)(h:∀i H Q E,g i H Q E->sp i H Q E):cq P w K d a x e k g:=by
 obtain⟨f,j,m,kp,b,F⟩:=c.ex;exact⟨f,j,m,kp,b,F.imp h⟩
theorem oJ{x:Str}{g:OR}{j k:Nat}{sp:f3}{p:Pos}{e:Nu}{a:OU}{t:ek}(c:cq X.prog X.w X.K X.mg X.base x g j sp)(h:d1 k X.A)(i:ew X x)(l:gi X (e::a) t)(n:j<=k:=by decide)(o:eS x:=by decide)(q:e9 X e a:=by rfl)(r:ir X d a:=by rfl):
  bK X (.Call (.Name x p) (e::a) [] d) (uQ sp [] jU t):=by
 obtain⟨f,s,m,kp,b,F⟩:=c.ex;exact Bh F (h.mono n) i m kp b .nil BW l o q r
theorem c3.ok{P:Ny}{w:NE}{K:JS}{h:Str->Option KB}{a:NH}{x:Str}{st:NI}{N g:OR}{k:Nat}{sp:f3}(F:c3 K h x st g)(S:cM N g (b9 st))(i:∀d H Q E,sp d H Q E->d.length=g.length)(l:∀(f:KT)(e:KB)(A:NJ)(c:List Env)(s:KF)(H:ak)(d:OK)(Q:b5)(E:eT),d1 k (A.deeper (Om x (b9 st) s.heap.objs.size f e))->sp d H Q E->∃t,gj (jb h2 P w K h a N x (b9 st) f e A c s H E).hK (h1 st) t/\t {nx:=λ_ n=>Q .non n,rt:=Q} (et N d) H):cq P w K h a x g (k+1) sp:=by
 obtain⟨f,o,m,j,b⟩:=F.ex;exact⟨f,o,m,j.kp,b,j.ok S i (l f)⟩
end
theorem eY{p:Prop}[Decidable p]{A B:Prop}(a:p->A)(b:¬p->B):if decide p=true then A else B:=by
 by_cases h:p
 ·rw[NZ h];exact a h
 rw[ND h];exact b h
theorem mU{p:Prop}[Decidable p]{A B:Prop}(a:¬p->A)(b:p->B):if(!decide p)=true then A else B:=by
 by_cases h:p
 ·rw[NZ h];exact b h
 rw[ND h];exact a h
def mV(b:KT)(H c:ak):Prop:=∀a o,a≠b->H a=some o->c a=some o
theorem mV.upd(b:KT)(H:ak)(o:dz):mV b H (L3.dQ H b o):=λa u n h=>by rw[cL n];exact h
theorem oK{H:ak}{p:KT}(h:H p=none)(o:dz):b2 H (L3.dQ H p o):=λb u q=>by rw[cL (i0 q h)];exact q
theorem dU.but{P:Ny}{w:NE}{H:ak}{h d:NH}{C:KT}(x:dU P w H h)(n:H C=none)(k:∀b u,b≠C->h.get? b=some u->d.get? b=some u):dU P w H d:=λa o e=>
 (x a o e).fM (λb u c q=>k b u (by rcases c with rfl|c;exact i0 e n;exact i0 c n) q) (λ_ q=>q) (λ_ _ q=>q) λ_ _ _ q=>q
theorem dZ.but{c d:OT}{H g:ak}{h i j:NH}{C:KT}(u:dZ c d H g h i)(a:h.get? C=none)(k:∀b u,b≠C->i.get? b=some u->j.get? b=some u):dZ c d H g h j where
 keep:=λb o q n f e=>k b o (by rintro rfl;rw[a]at q;cases q) (u.keep b o q n f e)
 slot:=λb o q n f e=>by
  obtain⟨l,z⟩:=u.slot b o q n f e;exact⟨l,k b _ (by rintro rfl;rw[a]at q;cases q) z⟩
 free:=u.free
 there:=λb o q e=>by
  obtain⟨m,z⟩:=u.there b o q e;exact⟨m,k b _ (by rintro rfl;rw[a]at q;cases q) z⟩
 fo:=u.fo
 fb:=u.fb
 e3:=u.e3
def dj(X:aS)(N:OR)(a:N0)(e:List (Str×KT))(C:KT)(s:KF)(H:ak)(b:OT):aS:=
 {X with N:=N,s₀:=s,H₀:=H,env:=N' a e C X.env,outer:=X.stack,ex:=b,fn:=λ_=>false,pn:=[],xe:=λ_ _=>False}
def gq(a:St)(b:OP):St:=b.map λj=>(a[j]?).join
theorem bG.gN:∀{a:OK}{b:OS}{i:Nat}{u:KB},bG a b->b[i]?=some u->∃x,a[i]?=some x/\dx x u
 |_,_,_,_,.nil,e=>by simp at e
 |_,_,0,_,.cons r _,e=>by simp at e;subst e;exact⟨_,rfl,r⟩
 |_,_,i+1,u,.cons _ t,e=>by
  obtain⟨x,c,d⟩:=bG.gN (i:=i) (u:=u) t (by simpa using e);exact⟨x,by simpa using c,d⟩
section
variable{X:aS}
theorem B3(g:X.calm=true):jO X (.builtin "sum") (λd H Q=>∃(l:KT)(a:OO),d=[.ref l]/\H l=some (.lst (a.map V.int))/\Q (.int a.sum) H):=by
 intro v s w H d x Q I r h;obtain⟨l,a,rfl,i,q⟩:=h;obtain⟨u,rfl,j⟩:=eM r;cases j;obtain⟨c,k,m,y⟩:=I.list (cf.of i);have e:=fP k;obtain⟨b,f⟩:=e.allInts.items;have n:s.heap.IsList l (intItems b):=f▸m.isList;refine sum_intListG (I.ok.hd g) n λz A B o=>?_
 have p:a=b.toList.map (·.1):=by
  rw[<-nums_intItems,<-f];exact(show numsOf c.toArray.toList=a from e.numsOf).symm
 have t:preSum (numAt b) b.size=a.sum:=by
  rw[preSum_eq,LO (by simp),p]
 rw[t];exact⟨.int a.sum,H,I.kept o,⟨_,rfl⟩,q⟩
end
theorem mW{x:Int}(a : -(2^64)<x)(b:x<2^64):KM x<=64:=Oi a b
theorem jW{x t:Int}{n:Nat}(h:x.natAbs<=t.natAbs)(a:KM t<=n):KM x<=n:=Oa h a
theorem rN{x y:Int}(a:0<=x)(b:0<y):J2 y (x%y)=J2 x y:=by
 obtain⟨m,rfl⟩:=MX a;obtain⟨n,rfl⟩:=MX (Kw b);have e:((m:Int)%(n:Int))=((m%n:Nat):Int):=rfl;rw[e];show Kr n (m%n)=Kr m n
 rw[Mo m n,Nat.gcd_rec n m,Mo]
theorem vh(a b:Int):J2 (if a<0 then -a else a) (if b<0 then -b else b)=J2 a b:=by
 have e:∀z:Int,(if z<0 then -z else z).natAbs=z.natAbs:=λz=>by split<;>lia
 unfold J2;rw[e,e]
theorem gcd_zero_left{x:Int}(h:0<=x):((J2 x 0:Nat):Int)=x:=by
 rw[Int.gcd_zero_right];lia
theorem B4{t b:Int}(a:b≠0):0<((J2 t b:Nat):Int):=by
 have:0<J2 t b:=Mp t a;lia
theorem vi{k n m:Int}(h:k∣n*m)(g:J2 k n=1):k∣m:=by
 have q:=Int.dvd_gcd_mul_iff_dvd_mul.mpr h;rw[g]at q;simpa using q
def iB(x y z:Int):Prop:=0<z/\J2 (J2 x y:Nat) z=1
theorem oL(a b n:Int):J2 (J2 a n:Nat) b=Kr (Kr a.natAbs b.natAbs) n.natAbs:=by
 show Kr (Kr a.natAbs n.natAbs) b.natAbs=_
 rw[Nat.gcd_assoc,Mo n.natAbs,<-Nat.gcd_assoc]
theorem rO(a b n:Int):J2 (J2 a b:Nat) n=Kr (Kr a.natAbs b.natAbs) n.natAbs:=rfl
theorem B5(a b n:Int):J2 (J2 n a:Nat) b=J2 (J2 a n:Nat) b:=by
 rw[LP n a]
theorem vj{a b n:Int}(c:n≠0):0<((J2 (J2 a n:Nat) b:Nat):Int):=by
 rw[oL];have:0<Kr (Kr a.natAbs b.natAbs) n.natAbs:=Nat.gcd_pos_of_pos_right _ (by lia);lia
theorem vk(a b n:Int):((J2 (J2 a n:Nat) b:Nat):Int)∣a/\((J2 (J2 a n:Nat) b:Nat):Int)∣b/\((J2 (J2 a n:Nat) b:Nat):Int)∣n:=by
 rw[oL];have c:=Nat.gcd_dvd_left (Kr a.natAbs b.natAbs) n.natAbs;have d:=MY (Kr a.natAbs b.natAbs) n.natAbs;refine⟨?_,?_,?_⟩
 ·exact Mq.mpr (Nat.dvd_trans c (Nat.gcd_dvd_left _ _))
 ·exact Mq.mpr (Nat.dvd_trans c (MY _ _))
 exact Mq.mpr d
theorem vl{a b n g s:Int}(B:n≠0)(i:g=(J2 (J2 a n:Nat) b:Nat))(e:s=g/\0<n\/s = -g/\n<0):
  iB (a.fdiv s) (b.fdiv s) (n.fdiv s)/\a.fdiv s*n=a*n.fdiv s/\b.fdiv s*n=b*n.fdiv s/\(a.fdiv s).natAbs<=a.natAbs/\(b.fdiv s).natAbs<=b.natAbs/\(n.fdiv s).natAbs<=n.natAbs:=by
 have r:0<g:=by rw[i];exact vj B
 obtain⟨t,u,v⟩:=vk a b n;rw[<-i]at t u v;have j:s≠0:=by rcases e with⟨h,_⟩|⟨h,_⟩<;>lia
 have k:∀z:Int,g∣z->s∣z:=λz c=>by
  rcases e with⟨h,_⟩|⟨h,_⟩<;>rw[h]
  ·exact c
  exact Mr.mpr c
 obtain⟨x,l⟩:=k a t;obtain⟨y,m⟩:=k b u;obtain⟨z,c⟩:=k n v;have w:a.fdiv s=x:=by rw[l];exact LQ x j
 have A:b.fdiv s=y:=by rw[m];exact LQ y j
 have f:n.fdiv s=z:=by rw[c];exact LQ z j
 refine⟨⟨?_,?_⟩,?_,?_,Ms a s,Ms b s,Ms n s⟩
 ·rw[f];rcases e with⟨h,d⟩|⟨h,d⟩
  ·rw[c,h]at d;exact K7 d r
  rw[c,h]at d;have:0<g*z:=by rw[Lp]at d;lia
  exact K7 this r
 ·rw[w,A,f,rO];rw[oL,l,m,c,KN,KN,KN,Nat.gcd_mul_left,Nat.gcd_mul_left]at i;have C:s.natAbs=g.toNat:=by rcases e with⟨h,_⟩|⟨h,_⟩<;>lia
  have posQz:0<s.natAbs:=by lia
  have q:s.natAbs*Kr (Kr x.natAbs y.natAbs) z.natAbs=s.natAbs*1:=by lia
  exact MZ posQz q
 ·rw[w,f];have o:x*n=x*(s*z):=by rw[<-c]
  have p:a*z=s*x*z:=by rw[<-l]
  rw[o,p,<-KV,Kn x s]
 rw[A,f];have o:y*n=y*(s*z):=by rw[<-c]
 have p:b*z=s*y*z:=by rw[<-m]
 rw[o,p,<-KV,Kn y s]
theorem rP{x y z b c a:Int}(g:J2 (J2 x y:Nat) z=1)(d:x*a=b*z)(e:y*a=c*z):z∣a:=by
 have f:z.natAbs∣x.natAbs*a.natAbs:=⟨b.natAbs,by rw[<-KN,d,KN,Nat.mul_comm]⟩;have h:z.natAbs∣y.natAbs*a.natAbs:=⟨c.natAbs,by rw[<-KN,e,KN,Nat.mul_comm]⟩;have i:z.natAbs∣z.natAbs*a.natAbs:=⟨a.natAbs,rfl⟩;have q:=LR (LR f h) i;rw[LS,LS]at q;rw[rO]at g;rw[g,Nat.one_mul]at q;exact K0.mp q
theorem rQ{x y z b c a:Int}(h:iB x y z)(f:iB b c a)(d:x*a=b*z)(e:y*a=c*z):x=b/\y=c/\z=a:=by
 have i:=rP h.2 d e;have j:=rP f.2 d.symm e.symm;have k:z=a:=Int.dvd_antisymm (Kw h.1) (Kw f.1) i j;subst k;have g:z≠0:=J8 h.1;exact⟨K1 g d,K1 g e,rfl⟩
theorem B6{a b n:Int}{k:Nat}(c:n≠0)(h:Mt n<=k):Mt ((J2 (J2 a n:Nat) b:Nat):Int)<=k:=by
 refine PySem.intBits_le_of_natAbs ?_ h;exact Nat.le_of_dvd (by lia) (K0.mpr (vk a b n).2.2)
theorem B7{u v:Int}(a:0<u)(b:0<v):u*v≠0:=J8 (J9 a b)
theorem vm{x y z:Int}(h:iB x y z):iB (-x) (-y) z:=by
 refine⟨h.1,?_⟩;have g:=h.2;rw[rO]at g⊢;rw[Int.natAbs_neg,Int.natAbs_neg];exact g
inductive D where
 |non|bl (b:Bool)|int (i:Int)|str (x:Str)|ty (n:String)|tup (xs:List D)|lst (xs:List D)|scr (ns:OO)|ktup (xs:List D)|kfn (f:KT)|dct (b:Bool) (ks:List OX) (ds:List D)
abbrev OM:=List D
inductive jX where
 |l(ds:OM)|d (b:Bool) (t:Option KT) (ks:List OX) (ds:OM)
instance:Coe OM jX:=⟨jX.l⟩
inductive f5 where
 |ll(a:KT)(as:OT)(iw:List OM)|dl (b:Bool) (a:KT) (ks:List OX) (as:OT) (iw:List OM)|nl (a:KT) (ds:OM)
def f5.adr:f5->KT
 |.ll a _ _=>a
 |.dl _ a _ _ _=>a
 |.nl a _=>a
def f5.ins:f5->OT
 |.ll _ a _=>a
 |.dl _ _ _ a _=>a
 |.nl _ _=>[]
def f5.iw:f5->List OM
 |.ll _ _ x=>x
 |.dl _ _ _ _ x=>x
 |.nl _ _=>[]
inductive aM where
 |no|val (d:D)|own (c:jX)|bag|new (d:D)|pin (v:V) (d:D)|deep (c:f5)
abbrev OL:=List aM
def B8(b:Bool)(k:OX):Int:=
 if b then reduceHash (Builtin.Tuple.tupleHashOf (k.map λa=>reduceHash (Builtin.Tuple.tupleHashOf (a.map hashInt))))else reduceHash (Builtin.Tuple.tupleHashOf ((k.headD []).map hashInt))
def rR(b:Bool)(k:OX):D:=if b then .tup (k.map λa=>.tup (a.map D.int))else .tup ((k.headD []).map D.int)
def vn(b:Bool):List OX->OT->OS->List DictEntry
 |k::c,a::d,u::e=>⟨B8 b k,.ref a,u⟩::vn b c d e
 |_,_,_=>[]
def rS(b:Bool)(a:KT)(i:Nat)(c:List OX)(d:OT)(e:OK):dz:=.ext λh=>c.length<=Np/\d.length=c.length/\e.length=c.length/\(a==Oq)=false /\
 ∃f:OS,bG e f/\∃o g,h.get? a=some o/\o.ExactDict/\o.data=.dict g i/\g.toList=vn b c d f/\c.Nodup
mutual
inductive bz(K:JS)(B:ak):V->D->Prop where
 |non:bz K B .non .non
 |bl(b:Bool):bz K B (.bl b) (.bl b)
 |int(i:Int):bz K B (.int i) (.int i)
 |str(x:Str):bz K B (.str x) (.str x)
 |ty(n:String):bz K B (.ty n) (.ty n)
 |tup{a:KT}{vs:OK}{ds:OM}(h:B a=some (.tup vs))(r:c9 K B vs ds):bz K B (.ref a) (.tup ds)
 |lst{a:KT}{vs:OK}{ds:OM}(h:B a=some (.lst vs))(r:c9 K B vs ds):bz K B (.ref a) (.lst ds)
 |scr{a:KT}{ns:OO}(h:cf K B a (ns.map V.int)):bz K B (.ref a) (.scr ns)
 |ktup{a:KT}{vs:OK}{ds:OM}(h:dM K B a vs)(r:c9 K B vs ds):bz K B (.ref a) (.ktup ds)
 |kfn(f:KT):bz K B (.ref f) (.kfn f)
 |dct{a:KT}{b:Bool}{cm:Nat}{ks:List OX}{as:OT}{vs:OK}{ds:OM}(h:B a=some (rS b a cm ks as vs))(al:c9 K B (as.map V.ref) (ks.map (rR b)))(af:b=false->∀k∈ks,∃l,k=[l])(r:c9 K B vs ds):bz K B (.ref a) (.dct b ks ds)
inductive c9(K:JS)(B:ak):OK->OM->Prop where
 |nil:c9 K B [] []
 |cons{v:V}{d:D}{vs:OK}{ds:OM}(h:bz K B v d)(r:c9 K B vs ds):c9 K B (v::vs) (d::ds)
end
theorem B9{K:JS}{H b:ak}{a:KT}{c:OK}(e:b2 H b)(h:dM K H a c):dM K b a c:=by
 rcases h with(h|⟨o,h⟩)|h
 ·exact .inl (.inl (e _ _ h))
 ·exact .inl (.inr ⟨o,e _ _ h⟩)
 exact .inr h
section
variable{K:JS}{B a:ak}
mutual
theorem bz.mono(s:b2 B a):∀{v:V}{d:D},bz K B v d->bz K a v d
 |_,_,.non=>.non
 |_,_,.bl b=>.bl b
 |_,_,.int i=>.int i
 |_,_,.str x=>.str x
 |_,_,.ty n=>.ty n
 |_,_,.tup h r=>.tup (s _ _ h) (c9.mono s r)
 |_,_,.lst h r=>.lst (s _ _ h) (c9.mono s r)
 |_,_,.scr h=>.scr (s.seq h)
 |_,_,.ktup h r=>.ktup (B9 s h) (c9.mono s r)
 |_,_,.kfn f=>.kfn f
 |_,_,.dct h al af r=>.dct (s _ _ h) (c9.mono s al) af (c9.mono s r)
theorem c9.mono(s:b2 B a):∀{vs:OK}{ds:OM},c9 K B vs ds->c9 K a vs ds
 |_,_,.nil=>.nil
 |_,_,.cons h r=>.cons (bz.mono s h) (c9.mono s r)
end
theorem c9.length:∀{a:OK}{b:OM},c9 K B a b->a.length=b.length
 |_,_,.nil=>rfl
 |_,_,.cons _ r=>by rw[Kk,Kk,r.length]
theorem c9.get:∀{a:OK}{b:OM}{i:Nat}{d:D},c9 K B a b->b[i]?=some d->∃v,a[i]?=some v/\bz K B v d
 |_,_,_,_,.nil,e=>by simp at e
 |_,_,0,_,.cons h _,e=>by simp at e;subst e;exact⟨_,rfl,h⟩
 |_,_,i+1,d,.cons _ r,e=>by
  obtain⟨v,c,f⟩:=c9.get (i:=i) (d:=d) r (by simpa using e);exact⟨v,by simpa using c,f⟩
theorem c9.fa:∀{a:OK}{b:OM}{i:Nat}{v:V},c9 K B a b->a[i]?=some v->∃d,b[i]?=some d/\bz K B v d
 |_,_,_,_,.nil,e=>by simp at e
 |_,_,0,_,.cons h _,e=>by simp at e;subst e;exact⟨_,rfl,h⟩
 |_,_,i+1,v,.cons _ r,e=>by
  obtain⟨d,c,f⟩:=c9.fa (i:=i) (v:=v) r (by simpa using e);exact⟨d,by simpa using c,f⟩
theorem c9.append:∀{a b:OK}{c d:OM},c9 K B a c->c9 K B b d->c9 K B (a++b) (c++d)
 |_,_,_,_,.nil,s=>s
 |_,_,_,_,.cons h r,s=>.cons h (c9.append r s)
theorem c9.take:∀{a:OK}{b:OM}(n:Nat),c9 K B a b->c9 K B (a.take n) (b.take n)
 |_,_,0,_=>.nil
 |_,_,_+1,.nil=>.nil
 |_,_,n+1,.cons h r=>.cons h (c9.take n r)
theorem c9.drop:∀{a:OK}{b:OM}(n:Nat),c9 K B a b->c9 K B (a.drop n) (b.drop n)
 |_,_,0,r=>r
 |_,_,_+1,.nil=>.nil
 |_,_,n+1,.cons _ r=>c9.drop n r
theorem c9.ints:∀(a:OO),c9 K B (a.map V.int) (a.map D.int)
 |[]=>.nil
 |n::r=>.cons (.int n) (c9.ints r)
end
def eI(H:ak)(b:KT):Prop:=∃x y:Int,H b=some (.lst [.int x,.int y])/\0<=x/\0<=y/\y<2147483647
def cD(d:St)(b:OL)(i:Nat)(a:KT):Prop:=(d[i]?=some (some (.ref a))/\(b[i]?=some .bag\/∃e,b[i]?=some (.own e)))\/∃c,b[i]?=some (.deep c)/\a∈c.adr::c.ins
structure Wd(R:ak)(W:KT->Prop)(B H:ak):Prop where
 fr:∀a o,R a=some o->¬W a->H a=some o
 bh:b2 B H
 wb:∀a,W a->B a=none
 wh:∀a,W a->eI H a
 wr:∀a,W a->R a≠none
open Classical in
noncomputable def gX(R:ak)(W:KT->Prop)(B:ak):ak:=λa=>match R a with
 |some (.lst b)=>if W a then B a else some (.lst b)
 |_=>B a
theorem oN{R:ak}{W:KT->Prop}{B b:ak}(s:b2 B b):b2 (gX R W B) (gX R W b):=λa o h=>by
 unfold gX at h⊢;split at h
 ·split at h
  ·rename_i z;rw[M2 z];exact s a o h
  rename_i z;rw[No z];exact h
 exact s a o h
def je(K:JS)(B H:ak)(a:KT):jX->Prop
 |.l f=>∃e,H a=some (.lst e)/\c9 K B e f
 |.d b t g f=>∃i h e,(∀c,t=some c->c=a)/\H a=some (rS b a i g h e)/\c9 K B (h.map V.ref) (g.map (rR b))/\(b=false->∀k∈g,∃l,k=[l])/\c9 K B e f
theorem je.mono{K:JS}{B j H k:ak}{a:KT}{c:jX}(h:je K B H a c)(s:b2 B j)(e:k a=H a):je K j k a c:=by
 cases c with
 |l m=>obtain⟨f,g,i⟩:=h;exact⟨f,by rw[e];exact g,i.mono s⟩
 |d b t u m=>obtain⟨n,o,f,p,g,i,q,r⟩:=h;exact⟨n,o,f,p,by rw[e];exact g,i.mono s,q,r.mono s⟩
theorem je.ne{K:JS}{B H:ak}{a:KT}{c:jX}(h:je K B H a c):H a≠none:=by
 cases c with
 |l f=>obtain⟨g,e,i⟩:=h;rw[e];simp
 |d b t j f=>obtain⟨k,m,g,_,e,_⟩:=h;rw[e];simp
structure jY(K:JS)(B H:ak)(as:OT)(iw:List OM):Prop where
 len:as.length=iw.length
 at_:∀(i:Nat)(a:KT)(ds:OM),as[i]?=some a->iw[i]?=some ds->∃vs,H a=some (.lst vs)/\c9 K B vs ds
theorem jY.mono{K:JS}{B d H f:ak}{c:OT}{b:List OM}(h:jY K B H c b)(s:b2 B d)(e:∀a∈c,f a=H a):jY K d f c b:=
 ⟨h.len,λi a j g k=>by
  obtain⟨l,m,n⟩:=h.at_ i a j g k
  exact⟨l,by rw[e a (KQ g)];exact m,n.mono s⟩⟩
theorem jY.ne{K:JS}{B H:ak}{b:OT}{c:List OM}(h:jY K B H b c){a:KT}(m:a∈b):H a≠none:=by
 obtain⟨i,d⟩:=LU m
 have lt:i<b.length:=by
  by_cases z:i<b.length
  ·exact z
  rw[KW (by lia)]at d;cases d
 obtain⟨f,e,_⟩:=h.at_ i a _ d (Km (by rw[<-h.len];exact lt));rw[e];simp
def jZ(R B:ak):ak:=λa=>match B a with
 |some (.lst b)=>if(R a).isNone then some (.lst b)else none
 |o=>o
theorem oO{R B:ak}:b2 (jZ R B) B:=λa o h=>by
 unfold jZ at h;split at h
 ·rename_i b e
  split at h
  ·rw[e];exact h
  cases h
 exact h
theorem B'{R B b:ak}(s:b2 B b):b2 (jZ R B) (jZ R b):=λa o h=>by
 have d:=s a o (oO a o h);unfold jZ at h⊢;rw[d];split at h
 ·rename_i c e
  split at h
  ·rename_i z
   have:=Ki h;subst this;dsimp only;rw[M2 z]
  cases h
 rename_i f
 cases o with
 |lst c=>exact absurd h (f c)
 |_=>rfl
def rT(R B:ak):f5->ak
 |.nl _ _=>jZ R B
 |_=>B
theorem Ca{R B b:ak}(s:b2 B b)(c:f5):b2 (rT R B c) (rT R b c):=by
 cases c with
 |nl a d=>exact B' s
 |_=>exact s
def lF(K:JS)(B H:ak):f5->Prop
 |.ll a d c=>H a=some (.lst (d.map V.ref))/\jY K B H d c
 |.dl b a e d c=>∃h f,H a=some (rS b a h e f (d.map V.ref))/\c9 K B (f.map V.ref) (e.map (rR b))/\(b=false->∀k∈e,∃l,k=[l])/\jY K B H d c
 |.nl a i=>∃g,H a=some (.lst g)/\c9 K B g i
structure vo(K:JS)(R B H:ak)(c:f5):Prop where
 fr:∀a∈c.adr::c.ins,R a=none/\B a=none
 nd:(c.adr::c.ins).Nodup
 ok:lF K (rT R B c) H c
theorem lF.mono{K:JS}{B i H j:ak}{c:f5}(h:lF K B H c)(s:b2 B i)(e:∀a∈c.adr::c.ins,j a=H a):lF K i j c:=by
 cases c with
 |ll a k d=>exact⟨by rw[e a J1];exact h.1,h.2.mono s λx m=>e x (J3 _ m)⟩
 |dl b a r k d=>
  obtain⟨l,n,f,g,o,p⟩:=h;exact⟨l,n,by rw[e a J1];exact f,g.mono s,o,p.mono s λx m=>e x (J3 _ m)⟩
 |nl a t=>obtain⟨q,f,g⟩:=h;exact⟨q,by rw[e a J1];exact f,g.mono s⟩
theorem lF.ne{K:JS}{B H:ak}{c:f5}(h:lF K B H c){a:KT}(m:a∈c.adr::c.ins):H a≠none:=by
 cases c with
 |ll b g d=>
  rcases J6.mp m with e|m
  ·rw[show a=b from e,h.1];simp
  exact h.2.ne m
 |dl b p k g d=>
  obtain⟨l,n,f,i,o,j⟩:=h;rcases J6.mp m with e|m
  ·rw[show a=p from e,f];simp
  exact j.ne m
 |nl b q=>
  obtain⟨r,f,i⟩:=h;rcases J6.mp m with e|m
  ·rw[show a=b from e,f];simp
  simp[f5.ins]at m
def vp(K:JS)(R:ak)(W:KT->Prop)(B H:ak)(o:Option V):aM->Prop
 |.no=>True
 |.val d=>∃v,o=some v/\bz K B v d
 |.own c=>∃a,o=some (.ref a)/\R a=none/\B a=none/\je K B H a c
 |.bag=>∃b,o=some (.ref b)/\(W b\/R b=none)/\B b=none/\eI H b
 |.new d=>∃v,o=some v/\bz K (gX R W B) v d
 |.pin v d=>o=some v/\bz K (gX R W B) v d
 |.deep c=>o=some (.ref c.adr)/\vo K R B H c
structure aW(K:JS)(R:ak)(W:KT->Prop)(B H:ak)(σ:St)(ρ:OL):Prop extends Wd R W B H where
 len:σ.length=ρ.length
 ok:∀(i:Nat)(k:aM),ρ[i]?=some k->vp K R W B H (σ[i]?).join k
 sep:∀(i j:Nat)(a:KT),cD σ ρ i a->cD σ ρ j a->i=j
structure bE(R B aC:ak):Prop where
 s:b2 B aC
 n:∀a o,aC a=some o->B a=some o\/R a=none
theorem bE.refl(R B:ak):bE R B B:=⟨b2.refl _,λ_ _ h=>.inl h⟩
theorem bE.trans{R B b c:ak}(g:bE R B b)(h:bE R b c):bE R B c:=⟨g.s.trans h.s,λa o e=>(h.n a o e).elim (g.n a o) .inr⟩
theorem Wd.fresh{R:ak}{W:KT->Prop}{B H:ak}(w:Wd R W B H){p:KT}(h:H p=none):R p=none/\¬W p/\B p=none:=by
 have a:¬W p:=λz=>by
  obtain⟨x,y,e,_⟩:=w.wh p z;rw[h]at e;cases e
 refine⟨?_,a,w.bh.free h⟩;cases q:R p with
 |none=>rfl
 |some o=>rw[w.fr p o q a]at h;cases h
theorem gt{a:Type}{o:Option (Option a)}{v:a}(h:o.join=some v):o=some (some v):=by
 cases o with
 |none=>cases h
 |some x=>exact Nq some h
section
variable{K:JS}{R:ak}{W:KT->Prop}{B C H E:ak}{A:St}{t:OL}
theorem aW.val(e:aW K R W B H A t){i:Nat}{d:D}(h:t[i]?=some (.val d)):∃v,A[i]?=some (some v)/\bz K B v d:=by
 obtain⟨v,a,b⟩:=e.ok i _ h;exact⟨v,gt a,b⟩
theorem aW.ownAt(e:aW K R W B H A t){i:Nat}{c:OM}(h:t[i]?=some (.own c)):∃a b,A[i]?=some (some (.ref a))/\R a=none/\B a=none/\H a=some (.lst b)/\c9 K B b c:=by
 obtain⟨a,d,f,g,b,j,k⟩:=e.ok i _ h;exact⟨a,b,gt d,f,g,j,k⟩
theorem aW.g_(e:aW K R W B H A t){i:Nat}{c:jX}(h:t[i]?=some (.own c)):∃a,A[i]?=some (some (.ref a))/\R a=none/\B a=none/\je K B H a c:=by
 obtain⟨a,b,d⟩:=e.ok i _ h;exact⟨a,gt b,d⟩
theorem aW.d7(e:aW K R W B H A t){i:Nat}(h:t[i]?=some .bag):∃b,A[i]?=some (some (.ref b))/\(W b\/R b=none)/\B b=none/\eI H b:=by
 obtain⟨a,c,d⟩:=e.ok i _ h;exact⟨a,gt c,d⟩
theorem aW.gg(e:aW K R W B H A t){i:Nat}{c:f5}(h:t[i]?=some (.deep c)):A[i]?=some (some (.ref c.adr))/\vo K R B H c:=by
 obtain⟨a,b⟩:=e.ok i _ h;exact⟨gt a,b⟩
theorem aW.dV(e:aW K R W B H A t){i:Nat}{a:KT}(m:cD A t i a):B a=none/\H a≠none:=by
 rcases m with⟨g,d|⟨k,d⟩⟩|⟨c,g,d⟩
 ·obtain⟨b,f,_,h,x,y,j,_⟩:=e.d7 d;rw[g]at f;cases f;exact⟨h,by rw[j];simp⟩
 ·obtain⟨b,f,_,h,j⟩:=e.g_ d;rw[g]at f;cases f;exact⟨h,j.ne⟩
 have q:=(e.gg g).2;exact⟨(q.fr a d).2,q.ok.ne d⟩
theorem Cb{i:Nat}{a:KT}(m:cD A t i a)(n:∀c,t[i]?≠some (.deep c)):A[i]?=some (some (.ref a))/\(t[i]?=some .bag\/∃b,t[i]?=some (.own b)):=by
 rcases m with m|⟨c,h,_⟩
 ·exact m
 exact absurd h (n c)
theorem lG{i:Nat}{a:KT}(m:cD A t i a)(h:t[i]?=some .bag):A[i]?=some (some (.ref a)):=(Cb m λc z=>by rw[h]at z;cases z).1
theorem aW.move(e:aW K R W B H A t)(w:Wd R W C E)(s:b2 B C)(m:∀i a,cD A t i a->C a=none/\(t[i]?=some .bag->eI E a)/\(t[i]?≠some .bag->E a=H a)):aW K R W C E A t:=by
 refine⟨w,e.len,λi k h=>?_,e.sep⟩;cases k with
 |no=>trivial
 |new d=>
  obtain⟨v,f,g⟩:=e.ok i _ h;exact⟨v,f,g.mono (oN s)⟩
 |pin v d=>
  obtain⟨f,g⟩:=e.ok i _ h;exact⟨f,g.mono (oN s)⟩
 |val d=>
  obtain⟨v,f,g⟩:=e.ok i _ h;exact⟨v,f,g.mono s⟩
 |own r=>
  obtain⟨a,f,g,u,p⟩:=e.ok i _ h;obtain⟨l,o,n⟩:=m i a (.inl ⟨gt f,.inr ⟨r,h⟩⟩);exact⟨a,f,g,l,p.mono s (n (by rw[h];simp))⟩
 |deep c=>
  obtain⟨f,g⟩:=e.ok i _ h
  have q:∀a∈c.adr::c.ins,C a=none/\E a=H a:=λa j=>by
   obtain⟨l,o,n⟩:=m i a (.inr ⟨c,h,j⟩);exact⟨l,n (by rw[h];simp)⟩
  exact⟨f,λa j=>⟨(g.fr a j).1,(q a j).1⟩,g.nd,g.ok.mono (Ca s c) λa j=>(q a j).2⟩
 |bag=>
  obtain⟨b,f,g,u,p⟩:=e.ok i _ h;obtain⟨l,o,n⟩:=m i b (.inl ⟨gt f,.inl h⟩);exact⟨b,f,g,l,o h⟩
theorem eI.upd{H:ak}{b p:KT}{o:dz}(h:eI H b)(n:b≠p):eI (L3.dQ H p o) b:=by
 obtain⟨x,y,e,q⟩:=h;exact⟨x,y,by rw[cL n];exact e,q⟩
theorem Wd.alloc(w:Wd R W B H){p:KT}(h:H p=none)(o:dz):Wd R W (dQ B p o) (dQ H p o):=by
 obtain⟨c,b,e⟩:=w.fresh h;refine⟨λa u q d=>?_,λa u q=>?_,λa z=>?_,λa z=>?_,w.wr⟩
 ·rw[cL (by rintro rfl;rw[c]at q;cases q)];exact w.fr a u q d
 ·unfold L3.dQ at q⊢;split
  ·rename_i z;rwa[M2 z]at q
  rename_i z;rw[No z]at q;exact w.bh a u q
 ·rw[cL (by rintro rfl;exact b z)];exact w.wb a z
 exact(w.wh a z).upd (by rintro rfl;exact b z)
theorem Wd.eA(w:Wd R W B H){p:KT}(h:H p=none)(o:dz):Wd R W B (dQ H p o):=by
 obtain⟨b,c,d⟩:=w.fresh h;refine⟨λa u q e=>?_,λa u q=>?_,w.wb,λa z=>?_,w.wr⟩
 ·rw[cL (by rintro rfl;rw[b]at q;cases q)];exact w.fr a u q e
 ·rw[cL (by rintro rfl;rw[d]at q;cases q)];exact w.bh a u q
 exact(w.wh a z).upd (by rintro rfl;exact c z)
theorem aW.eU(e:aW K R W B H A t){p:KT}(h:H p=none){i:Nat}{a:KT}(m:cD A t i a):a≠p:=by
 rintro rfl;exact(e.dV m).2 h
theorem aW.alloc(e:aW K R W B H A t){p:KT}(h:H p=none)(o:dz):aW K R W (dQ B p o) (dQ H p o) A t:=by
 obtain⟨g,j,d⟩:=e.toWd.fresh h;refine e.move (e.toWd.alloc h o) (oK d o) λi a m=>?_;have n:=e.eU h m;refine⟨by rw[cL n];exact(e.dV m).1,λz=>?_,λ_=>cL n⟩;obtain⟨b,c,_,_,f⟩:=e.d7 z;rw[lG m z]at c;cases c;exact f.upd n
theorem aW.eA(e:aW K R W B H A t){p:KT}(h:H p=none)(o:dz):aW K R W B (dQ H p o) A t:=by
 refine e.move (e.toWd.eA h o) (b2.refl _) λi a m=>?_;have n:=e.eU h m;refine⟨(e.dV m).1,λz=>?_,λ_=>cL n⟩;obtain⟨b,c,_,_,d⟩:=e.d7 z;rw[lG m z]at c;cases c;exact d.upd n
theorem aW.grow(e:aW K R W B H A t){p:KT}(h:H p=none)(o:dz):bE R B (dQ B p o):=by
 obtain⟨b,d,c⟩:=e.toWd.fresh h;refine⟨oK c o,λa u q=>?_⟩;by_cases z:a=p
 ·subst z;exact .inr b
 rw[cL z]at q;exact .inl q
theorem aW.hi(e:aW K R W B H A t){a:KT}{o:dz}(h:H a=some o)(d:R a=none)(f:B a=none)(j:∀i,¬cD A t i a):aW K R W (dQ B a o) H A t/\bE R B (dQ B a o):=by
 have k:¬W a:=λz=>e.wr a z d;refine⟨e.move ⟨e.fr,λb u q=>?_,λb z=>?_,e.wh,e.wr⟩ (oK f _) (λi b m=>?_),⟨oK f _,λb u q=>?_⟩⟩
 ·by_cases z:b=a
  ·subst z;rw[fq]at q;cases q;exact h
  rw[cL z]at q;exact e.bh b u q
 ·rw[cL (by rintro rfl;exact k z)];exact e.wb b z
 ·have n:b≠a:=by rintro rfl;exact j i m
  refine⟨by rw[cL n];exact(e.dV m).1,λz=>?_,λ_=>rfl⟩;obtain⟨c,g,_,_,l⟩:=e.d7 z;rw[lG m z]at g;cases g;exact l
 by_cases z:b=a
 ·subst z;exact .inr d
 rw[cL z]at q;exact .inl q
theorem aW.freeze(e:aW K R W B H A t){a:KT}{b:OK}(h:H a=some (.lst b))(c:R a=none)(d:B a=none)(f:∀i,¬cD A t i a):aW K R W (dQ B a (.lst b)) H A t/\bE R B (dQ B a (.lst b)):=e.hi h c d f
theorem jf{a:Type}{l:List a}{i j:Nat}{x y:a}(h:(l.set i x)[j]?=some y):(j=i/\y=x)\/(j≠i/\l[j]?=some y):=by
 by_cases e:i=j
 ·subst e;rw[List.getElem?_set_self']at h;cases q:l[i]? with
  |none=>rw[q]at h;cases h
  |some z=>rw[q]at h;exact .inl ⟨rfl,(Ki h).symm⟩
 rw[Ll e]at h;exact .inr ⟨λz=>e z.symm,h⟩
def aM.ib:aM->OT
 |.deep c=>c.adr::c.ins
 |_=>[]
theorem oP{i j:Nat}{v:V}{k:aM}{a:KT}(m:cD (A.set i (some v)) (t.set i k) j a):(j=i/\((v=.ref a/\(k=.bag\/∃f,k=.own f))\/a∈k.ib))\/(j≠i/\cD A t j a):=by
 rcases m with⟨d,b⟩|⟨c,d,b⟩
 ·rcases jf d with⟨e,d⟩|⟨e,d⟩
  ·refine .inl ⟨e,.inl ⟨(Ki d).symm,?_⟩⟩;rcases b with b|⟨f,b⟩
   ·rcases jf b with⟨_,b⟩|⟨n,_⟩
    ·exact .inl b.symm
    exact absurd e n
   rcases jf b with⟨_,b⟩|⟨n,_⟩
   ·exact .inr ⟨f,b.symm⟩
   exact absurd e n
  refine .inr ⟨e,.inl ⟨d,?_⟩⟩;rcases b with b|⟨f,b⟩
  ·rcases jf b with⟨n,_⟩|⟨_,b⟩
   ·exact absurd n e
   exact .inl b
  rcases jf b with⟨n,_⟩|⟨_,b⟩
  ·exact absurd n e
  exact .inr ⟨f,b⟩
 rcases jf d with⟨e,d⟩|⟨e,d⟩
 ·exact .inl ⟨e,.inr (by rw[<-d];exact b)⟩
 exact .inr ⟨e,.inr ⟨c,d,b⟩⟩
theorem vt{i j:Nat}{v:V}{k:aM}{a:KT}(m:cD (A.set i (some v)) (t.set i k) j a)(b:k≠.bag)(d:∀c,k≠.own c)(e:k.ib=[]):j≠i/\cD A t j a:=by
 rcases oP m with⟨_,⟨_,z|⟨c,z⟩⟩|z⟩|m
 ·exact absurd z b
 ·exact absurd z (d c)
 ·rw[e]at z;cases z
 exact m
theorem aW.set(e:aW K R W B H A t)(i:Nat){v:V}{k:aM}(s:vp K R W B H (some v) k)(l:∀a,v=.ref a->(k=.bag\/∃u,k=.own u)->∀j,j≠i->¬cD A t j a)(m:∀a∈k.ib,∀j,j≠i->¬cD A t j a:=by intro _ z;cases z):aW K R W B H (A.set i (some v)) (t.set i k):=by
 refine⟨e.toWd,by rw[Lx,Lx];exact e.len,λj w h=>?_,λx y a C o=>?_⟩
 ·rcases jf h with⟨rfl,rfl⟩|⟨n,h⟩
  ·have lt:j<A.length:=by
    rw[e.len];by_cases z:j<t.length
    ·exact z
    rw[KW (by rw[Lx];lia)]at h;cases h
   have q:((A.set j (some v))[j]?).join=some v:=by rw[LH lt];rfl
   rw[q];exact s
  rw[Ll (λz=>n z.symm)];exact e.ok j w h
 rcases oP C with⟨E,c⟩|⟨p,d⟩
 ·rcases oP o with⟨r,_⟩|⟨f,b⟩
  ·rw[E,r]
  rcases c with⟨F,G⟩|c
  ·exact absurd b (l a F G y f)
  exact absurd b (m a c y f)
 rcases oP o with⟨r,g⟩|⟨f,b⟩
 ·rcases g with⟨I,J⟩|g
  ·exact absurd d (l a I J x p)
  exact absurd d (m a g x p)
 exact e.sep x y a d b
theorem aW.gA(e:aW K R W B H A t)(i:Nat){v:V}{d:D}(r:bz K B v d):aW K R W B H (A.set i (some v)) (t.set i (.val d)):=
 e.set i ⟨v,rfl,r⟩ λ_ _ z=>by rcases z with z|⟨_,z⟩<;>cases z
theorem aW.iG(e:aW K R W B H A t)(i:Nat){a:KT}{c:OK}{d:OM}(f:R a=none)(g:B a=none)(h:H a=some (.lst c))(r:c9 K B c d)(k:∀j,j≠i->¬cD A t j a):aW K R W B H (A.set i (some (.ref a))) (t.set i (.own d)):=
 e.set i ⟨a,rfl,f,g,c,h,r⟩ λb z _=>by cases z;exact k
theorem aW.hH(e:aW K R W B H A t){i:Nat}{a:KT}{c l:jX}{o:dz}(h:A[i]?=some (some (.ref a)))(p:t[i]?=some (.own c))(r:je K B (dQ H a o) a l):aW K R W B (dQ H a o) A (t.set i (.own l)):=by
 obtain⟨S,J,s,L,T⟩:=e.g_ p;rw[h]at J;cases J;have M:¬W a:=λz=>e.wr a z s;have C:cD A t i a:=.inl ⟨h,.inr ⟨c,p⟩⟩;refine⟨⟨λb u q z=>?_,λb u q=>?_,e.wb,λb z=>?_,e.wr⟩,by rw[Lx];exact e.len,λj k q=>?_,λx y b N O=>?_⟩
 ·rw[cL (by rintro rfl;rw[s]at q;cases q)];exact e.fr b u q z
 ·rw[cL (by rintro rfl;rw[L]at q;cases q)];exact e.bh b u q
 ·exact(e.wh b z).upd (by rintro rfl;exact M z)
 ·rcases jf q with⟨rfl,rfl⟩|⟨n,q⟩
  ·exact⟨a,by rw[h];rfl,s,L,r⟩
  have z:=e.ok j k q;cases k with
  |no=>trivial
  |new d=>exact z
  |pin v d=>exact z
  |val d=>exact z
  |own P=>
   obtain⟨b,g,E,F,G⟩:=z;exact⟨b,g,E,F,G.mono (b2.refl _) (cL (by rintro rfl;exact n (e.sep j i b (.inl ⟨gt g,.inr ⟨P,q⟩⟩) C)))⟩
  |deep d=>
   exact⟨z.1,z.2.fr,z.2.nd,z.2.ok.mono (b2.refl _) λb Q=>cL (by rintro rfl;exact n (e.sep j i b (.inr ⟨d,q,Q⟩) C))⟩
  |bag=>
   obtain⟨b,g,E,F,G⟩:=z;exact⟨b,g,E,F,G.upd (by rintro rfl;exact n (e.sep j i b (.inl ⟨gt g,.inl q⟩) C))⟩
 have back:∀x,cD A (t.set i (.own l)) x b->cD A t x b:=λx m=>by
  rcases m with⟨f,I⟩|⟨d,f,I⟩
  ·by_cases z:x=i
   ·subst z;exact .inl ⟨f,.inr ⟨c,p⟩⟩
   refine .inl ⟨f,?_⟩;rwa[Ll (λw=>z w.symm)]at I
  rcases jf f with⟨_,z⟩|⟨_,f⟩
  ·cases z
  exact .inr ⟨d,f,I⟩
 exact e.sep x y b (back x N) (back y O)
theorem aW.write(e:aW K R W B H A t){i:Nat}{a:KT}{d c:OM}{b:OK}(h:A[i]?=some (some (.ref a)))(f:t[i]?=some (.own d))(r:c9 K B b c):aW K R W B (dQ H a (.lst b)) A (t.set i (.own c)):=
 e.hH h f ⟨b,fq,r⟩
theorem aW.fz(e:aW K R W B H A t){i:Nat}{b:OM}(k:t[i]?=some (.own b)):∃C,aW K R W C H A (t.set i (.val (.lst b)))/\bE R B C:=by
 obtain⟨a,w,c,l,o,p,r⟩:=e.ownAt k;have u:cD A t i a:=.inl ⟨c,.inr ⟨b,k⟩⟩;have f:=(e.gA (d:=.non) i (v:=.non) .non)
 have h:=f.freeze p l o (λj m=>by
  obtain⟨n,m⟩:=vt m (by simp) (by simp) rfl
  exact n (e.sep j i a m u))
 refine⟨_,?_,h.2⟩;have g:=h.1.gA i (v:=.ref a) (d:=.lst b) (.lst fq (r.mono h.2.s));rw[List.set_set,List.set_set]at g
 have q:A.set i (some (.ref a))=A:=by
  apply LV;intro j;by_cases z:i=j
  ·subst z
   have lt:i<A.length:=by
    by_cases z:i<A.length
    ·exact z
    rw[KW (by lia)]at c;cases c
   rw[LH lt,c]
  rw[Ll z]
 rwa[q]at g
end
abbrev a9:=OL->(D->Prop)->Prop
abbrev dr:=OL->(OM->Prop)->Prop
abbrev cW:=OL->(Bool->Prop)->Prop
inductive gF where
 |val(d:D)|bag (i:Nat)
abbrev OQ:=List gF
abbrev hM:=OL->(OQ->Prop)->Prop
structure gu where
 nx:OL->Prop
 rt:aM->Prop
 bk:OL->Prop:=λ_=>False
 ct:OL->Prop:=λ_=>False
abbrev cw:=gu->OL->Prop
abbrev e0:=D->OL->(OL->Prop)->Prop
abbrev j0:=OM->OL->(OL->Prop)->Prop
section
variable(K:JS)
def dD(t:bx)(u:a9):Prop:=∀(a:OL)(k:D->Prop),u a k->∀(R:ak)(W:KT->Prop)(B H:ak)(b:St)(Q:b5),aW K R W B H b a->
 (∀d v c e,k d->aW K R W c e b a->bE R B c->bz K c v d->Q v e)->t b H Q
def rU(t:bx)(u:dr):Prop:=∀(b:OL)(k:OM->Prop),u b k->∀(R:ak)(W:KT->Prop)(B H:ak)(c:St)(Q:b5),aW K R W B H c b->
 (∀f a g d e,k f->aW K R W d e c b->bE R B d->R a=none->d a=none->e a=some (.lst g)->c9 K d g f->(∀i,¬cD c b i a)->Q (.ref a) e)->t c H Q
def gv(t:c2)(u:cW):Prop:=∀(a:OL)(k:Bool->Prop),u a k->∀(R:ak)(W:KT->Prop)(B H:ak)(c:St)(Q:Bool->ak->Prop),aW K R W B H c a->
 (∀b d e,k b->aW K R W d e c a->bE R B d->Q b e)->t c H Q
def oQ(t:ek)(u:dr):Prop:=∀(a:OL)(k:OM->Prop),u a k->∀(R:ak)(W:KT->Prop)(B H:ak)(b:St)(Q:OK->ak->Prop),aW K R W B H b a->
 (∀d e c f,k d->aW K R W c f b a->bE R B c->c9 K c e d->Q e f)->t b H Q
inductive hk(B:ak)(σ:St)(ρ:OL):OK->OQ->Prop where
 |nil:hk B σ ρ [] []
 |val{v:V}{d:D}{vs:OK}{as:OQ}(h:bz K B v d)(r:hk B σ ρ vs as):hk B σ ρ (v::vs) (.val d::as)
 |bag{v:V}{i:Nat}{vs:OK}{as:OQ}(h:σ[i]?=some (some v))(af:ρ[i]?=some .bag)(r:hk B σ ρ vs as):hk B σ ρ (v::vs) (.bag i::as)
def Cd(t:ek)(u:hM):Prop:=∀(a:OL)(k:OQ->Prop),u a k->∀(R:ak)(W:KT->Prop)(B H:ak)(b:St)(Q:OK->ak->Prop),aW K R W B H b a->
 (∀d e c f,k d->aW K R W c f b a->bE R B c->hk K c b a e d->Q e f)->t b H Q
def Ce(R B:ak):f5->ak
 |.dl _ _ _ _ _=>jZ R B
 |_=>B
def rV(R B H:ak)(v:V):aM->Prop
 |.no=>False
 |.val d=>bz K B v d
 |.own c=>∃a,v=.ref a/\R a=none/\B a=none/\je K B H a c
 |.bag=>∃b,v=.ref b/\R b=none/\B b=none/\eI H b
 |.new d=>bz K (jZ R B) v d
 |.pin _ _=>False
 |.deep c=>v=.ref c.adr/\H c.adr=some (.tup (c.ins.map V.ref))/\jY K (Ce R B c) H c.ins c.iw/\(∀a∈c.ins,R a=none/\B a=none)/\c.ins.Nodup
structure oR(R:ak)(W:KT->Prop)(B:ak)(U:gu)(D:jH):Prop where
 nx:∀ρ σ aC aj,U.nx ρ->aW K R W aC aj σ ρ->bE R B aC->D.nx σ aj
 bk:∀ρ σ aC aj,U.bk ρ->aW K R W aC aj σ ρ->bE R B aC->D.bk σ aj
 ct:∀ρ σ aC aj,U.ct ρ->aW K R W aC aj σ ρ->bE R B aC->D.ct σ aj
 rt:∀r v aC aj,U.rt r->Wd R W aC aj->bE R B aC->rV K R aC aj v r->D.rt v aj
def vv(t:el)(u:cw):Prop:=∀(U:gu)(a:OL),u U a->∀(R:ak)(W:KT->Prop)(B H:ak)(b:St)(D:jH),aW K R W B H b a->oR K R W B U D->t D b H
def oS(g:eo)(u:e0):Prop:=∀(d:D)(b:OL)(k:OL->Prop),u d b k->∀(R:ak)(W:KT->Prop)(B H:ak)(c:St)(v:V)(Q:St->ak->Prop),aW K R W B H c b->bz K B v d->
 (∀e f,k e->aW K R W B H f e->(∀j a,cD f e j a->cD c b j a)->Q f H)->g v c H Q
def Cf(g:jJ)(u:j0):Prop:=∀(f:OM)(b:OL)(k:OL->Prop),u f b k->∀(R:ak)(W:KT->Prop)(B H:ak)(c:St)(h:OK)(Q:St->ak->Prop),aW K R W B H c b->c9 K B h f->
 (∀d e,k d->aW K R W B H e d->(∀j a,cD e d j a->cD c b j a)->Q e H)->g h c H Q
def iE(B:ak)(J:fZ)(a:OM):Prop:=∀(H:ak),b2 B H->∀i,(i<a.length->J.go i H)/\(a.length<=i->J.stop i H)/\∀x b,i<a.length->J.ix i H x b->b=H/\∃d,a[i]?=some d/\bz K B x d
def vw(t:fG)(u:dr):Prop:=∀(a:OL)(k:OM->Prop),u a k->∀(R:ak)(W:KT->Prop)(B H:ak)(b:St)(Q:fZ->ak->Prop),aW K R W B H b a->
 (∀d J c e,k d->aW K R W c e b a->bE R B c->iE K c J d->Q J e)->t b H Q
end
theorem oR.grow{K:JS}{R:ak}{W:KT->Prop}{B c:ak}{U:gu}{D:jH}(s:oR K R W B U D)(g:bE R B c):oR K R W c U D:=
 ⟨λa b C H h e q=>s.nx a b C H h e (g.trans q),λa b C H h e q=>s.bk a b C H h e (g.trans q),λa b C H h e q=>s.ct a b C H h e (g.trans q),λr v C H h e q z=>s.rt r v C H h e (g.trans q) z⟩
section
variable(X:aS)
def bc(e:Nu)(u:a9):Prop:=∃t,bK X e t/\dD X.K t u
def jg(e:Nu)(u:dr):Prop:=∃t,bK X e t/\rU X.K t u
def fN(e:Nu)(u:cW):Prop:=∃t,gh X e t/\gv X.K t u
def kG(e:Nu)(u:cW):Prop:=∃t,i5 X e t/\gv X.K t u
def lH(a:OU)(u:dr):Prop:=∃t,gi X a t/\oQ X.K t u
def j1(a:OU)(u:hM):Prop:=∃t,gi X a t/\Cd X.K t u
def eD(s:NI)(u:cw):Prop:=∃t,fV X s t/\vv X.K t u
def hl(s:OV)(u:cw):Prop:=∃t,gj X s t/\vv X.K t u
def iF(e:Nu)(u:e0):Prop:=∃t,gk X e t/\oS X.K t u
def oT(e:OU)(u:j0):Prop:=∃t,mw X e t/\Cf X.K t u
def lI(a e:Nu)(u:dr):Prop:=∃t,hX X a e t/\vw X.K t u
end
def fO(i:Nat):a9:=λa k=>∃d,a[i]?=some (.val d)/\k d
def oU(d:D):a9:=λ_ k=>k d
def kH(C:Int->Int->Prop)(g:Int->Int->D)(b c:a9):a9:=λa k=>b a λx=>c a λy=>∃i j,x=.int i/\y=.int j/\C i j/\k (g i j)
def mY(g:Int->Int->D)(b c:a9):a9:=λa k=>b a λx=>c a λy=>∃i j,x=.int i/\y=.int j/\k (g i j)
def vx(a:a9):a9:=λb k=>a b λx=>∃i,x=.int i/\k (.int (-i))
section
variable{K:JS}{X:aS}
theorem Cg(i:Nat):dD K (q9 i) (fO i):=by
 intro b k h R W B H c Q e q;obtain⟨d,h,z⟩:=h;obtain⟨v,a,r⟩:=e.val h;exact⟨v,a,q d v B H z e (bE.refl _ _) r⟩
theorem vy{v:V}{d:D}(h:∀B,bz K B v d):dD K (mu v) (oU d):=λa k z R W B H b Q e q=>q d v B H z e (bE.refl _ _) (h B)
theorem mZ{ta g:bx}{n o:a9}{r:f2}{f:D->D->(D->Prop)->Prop}(l:dD K ta n)(m:dD K g o)(p:∀(x y:D)(k:D->Prop),f x y k->∀(R:ak)(W:KT->Prop)(B H:ak)(b:St)(a:OL)(v w:V)(Q:b5),aW K R W B H b a->bz K B v x->bz K B w y->(∀d v c i,k d->aW K R W c i b a->bE R B c->bz K c v d->Q v i)->r v w H Q):
  dD K (ja r ta g) (λa k=>n a λx=>o a λy=>f x y k):=by
 intro a k h R W B H b Q e q;refine l a _ h R W B H b _ e λx v t z A C E F=>?_;refine m a _ A R W t z b _ C λy w G I J L j M=>?_;exact p x y k J R W G I b a v w Q L (F.mono j.s) M λd u N O P S g3 T=>q d u N O P S ((E.trans j).trans g3) T
theorem Ch{ta:bx}{n:a9}{r:V->ak->b5->Prop}{f:D->(D->Prop)->Prop}(i:dD K ta n)(j:∀(x:D)(k:D->Prop),f x k->∀(R:ak)(W:KT->Prop)(B H:ak)(b:St)(a:OL)(v:V)(Q:b5),aW K R W B H b a->bz K B v x->(∀d v c g,k d->aW K R W c g b a->bE R B c->bz K c v d->Q v g)->r v H Q):
  dD K (rm r ta) (λa k=>n a λx=>f x k):=by
 intro a k h R W B H b Q e q;refine i a _ h R W B H b _ e λx v l m o p s t=>?_;exact j x k o R W l m b a v Q p t λd u w y z A g3 C=>q d u w y z A (s.trans g3) C
theorem bz.d4{B:ak}{v:V}{i:Int}(r:bz K B v (.int i)):v=.int i:=by cases r;rfl
theorem bz.hy{B:ak}{v:V}{b:Bool}(r:bz K B v (.bl b)):v=.bl b:=by cases r;rfl
theorem bz.iM{B:ak}{v:V}(r:bz K B v .non):v=.non:=by cases r;rfl
theorem bz.e2{B:ak}{v:V}{b:OM}(r:bz K B v (.tup b)):∃a c,v=.ref a/\B a=some (.tup c)/\c9 K B c b:=by
 cases r with|tup h r=>exact⟨_,_,rfl,h,r⟩
theorem bz.ep{B:ak}{v:V}{b:OM}(r:bz K B v (.lst b)):∃a c,v=.ref a/\B a=some (.lst c)/\c9 K B c b:=by
 cases r with|lst h r=>exact⟨_,_,rfl,h,r⟩
theorem bz.hJ{B:ak}{v:V}{b:OO}(r:bz K B v (.scr b)):∃a,v=.ref a/\cf K B a (b.map V.int):=by
 cases r with|scr h=>exact⟨_,rfl,h⟩
theorem rW{C:Int->Int->Prop}{f:Int->Int->V}{g:Int->Int->D}{ta a:bx}{n o:a9}(b:∀B i j,bz K B (f i j) (g i j))(c:dD K ta n)(d:dD K a o):dD K (ja (kB C f) ta a) (kH C g n o):=
 mZ c d λx y k h R W B H s t v w Q e l m q=>by
  obtain⟨i,j,rfl,rfl,p,r⟩:=h;exact⟨i,j,l.d4,m.d4,p,q _ _ B H r e (bE.refl _ _) (b B i j)⟩
theorem oV{f:Int->Int->V}{g:Int->Int->D}{ta a:bx}{n o:a9}(b:∀B i j,bz K B (f i j) (g i j))(c:dD K ta n)(d:dD K a o):dD K (ja (hG f) ta a) (mY g n o):=
 mZ c d λx y k h R W B H r s v w Q e l m q=>by
  obtain⟨i,j,rfl,rfl,p⟩:=h;exact⟨i,j,l.d4,m.d4,q _ _ B H p e (bE.refl _ _) (b B i j)⟩
theorem Ci{ta:bx}{n:a9}(a:dD K ta n):dD K (rm (rn λi=>.int (-i)) ta) (vx n):=
 Ch (f:=λx k=>∃i,x=.int i/\k (.int (-i))) a λx k h R W B H d g v Q e b q=>by
  obtain⟨i,rfl,c⟩:=h;exact⟨i,b.d4,q _ _ B H c e (bE.refl _ _) (.int _)⟩
variable{a b:Nu}{n o:a9}{l:Pos}
theorem am(i:Nat){x:Str}{l:Pos}(a:i2 X i x:=by rfl)(b:i3 X.env.scope x:=by walk_at"v")(c:eS x:=by decide)(d:jG x:=by decide):bc X (.Name x l) (fO i):=⟨_,lj a b c d,Cg i⟩
theorem a7{i j l}:bc X (.Constant (.int i) j l) (oU (.int i)):=⟨_,eH,vy λ_=>.int _⟩
theorem hm{b j l}:bc X (.Constant (.bool b) j l) (oU (.bl b)):=⟨_,zX,vy λ_=>.bl _⟩
theorem eJ(c:bc X a n)(d:bc X b o):bc X (.BinOp a .Add b l) (mY (λi j=>.int (i+j)) n o):=by
 obtain⟨_,e,f⟩:=c;obtain⟨_,g,h⟩:=d;exact⟨_,fw uJ e g,oV (λ_ _ _=>.int _) f h⟩
theorem gw(c:bc X a n)(d:bc X b o):bc X (.BinOp a .Sub b l) (mY (λi j=>.int (i-j)) n o):=by
 obtain⟨_,e,f⟩:=c;obtain⟨_,g,h⟩:=d;exact⟨_,fw AX e g,oV (λ_ _ _=>.int _) f h⟩
theorem cx(c:bc X a n)(d:bc X b o):bc X (.BinOp a .Mult b l) (kH rJ (λi j=>.int (i*j)) n o):=by
 obtain⟨_,e,f⟩:=c;obtain⟨_,g,h⟩:=d;exact⟨_,fw rK e g,rW (λ_ _ _=>.int _) f h⟩
theorem gY(c:bc X a n)(d:bc X b o):bc X (.BinOp a .FloorDiv b l) (kH lB (λi j=>.int (i.fdiv j)) n o):=by
 obtain⟨_,e,f⟩:=c;obtain⟨_,g,h⟩:=d;exact⟨_,fw rL e g,rW (λ_ _ _=>.int _) f h⟩
theorem m0(c:bc X a n)(d:bc X b o):bc X (.BinOp a .Mod b l) (kH (λ_ j=>0<j) (λi j=>.int (i%j)) n o):=by
 obtain⟨_,e,f⟩:=c;obtain⟨_,g,h⟩:=d;exact⟨_,fw lu e g,rW (λ_ _ _=>.int _) f h⟩
theorem jh(b:bc X a n):bc X (.UnaryOp .USub a l) (vx n):=by
 obtain⟨_,c,d⟩:=b;exact⟨_,AW A1 c,Ci d⟩
def vz(c:CmpOp)(f:Int->Int->Bool)(X:aS):Prop:=ee X (NM c) (hG λi j=>.bl (f i j))
theorem rX{c:CmpOp}{f:Int->Int->Bool}(d:vz c f X)(e:bc X a n)(g:bc X b o)(h:NB c b=false):bc X (.Compare a [c] [b] l) (mY (λi j=>.bl (f i j)) n o):=by
 obtain⟨_,k,m⟩:=e;obtain⟨_,p,q⟩:=g;exact⟨_,rq d k p h,oV (λ_ _ _=>.bl _) m q⟩
def lJ(n:a9):cW:=λd k=>n d λx=>∃c,x=.bl c/\k c
def vA(u:cW):cW:=λd k=>u d λc=>k (!c)
def vB(u w:cW):cW:=λd k=>u d λc=>if c=true then w d k else k false
def vC(u w:cW):cW:=λd k=>u d λc=>if c=true then k true else w d k
theorem m1{ta:bx}{n:a9}(a:dD K ta n):gv K (uw ta) (lJ n):=by
 intro b k h R W B H d Q e q;refine a b _ h R W B H d _ e λx v f g i j l m=>?_;obtain⟨c,rfl,o⟩:=i;exact⟨c,m.hy,q c f g o j l⟩
theorem iH{e:Nu}{u:a9}(h:bc X e u)(b:∀a,OC e X.env a=(do let v <-a;OD e.pos;Os [v] (truthy v)):=by intro _;rfl):fN X e (lJ u):=by
 obtain⟨_,c,d⟩:=h;exact⟨_,zZ c b,m1 d⟩
theorem d9{c:CmpOp}{f:Int->Int->Bool}(d:vz c f X)(e:bc X a n)(g:bc X b o)(h:NB c b=false):fN X (.Compare a [c] [b] l) (lJ (mY (λi j=>.bl (f i j)) n o)):=by
 obtain⟨_,k,m⟩:=e;obtain⟨_,p,q⟩:=g;exact⟨_,lw d k p h,m1 (oV (λ_ _ _=>.bl _) m q)⟩
theorem Cj{t:c2}{u:cW}(h:gv K t u):gv K (uz t) (vA u):=λa k z R W B H c Q e q=>h a _ z R W B H c _ e λb d f g i j=>q (!b) d f g i j
theorem Ck{t d:c2}{u f:cW}(h:gv K t u)(o:gv K d f):gv K (ux t d) (vB u f):=by
 intro g k z R W B H i Q e q;refine h g _ z R W B H i _ e λb j l a m n=>?_;cases b with
 |true=>
  rw[M2 rfl]at a⊢;exact o g _ a R W j l i _ m λc p r s v w=>q c p r s v (n.trans w)
 |false=>
  rw[No Ke]at a⊢;exact q false j l a m n
theorem Cm{t d:c2}{u f:cW}(h:gv K t u)(o:gv K d f):gv K (uy t d) (vC u f):=by
 intro g k z R W B H i Q e q;refine h g _ z R W B H i _ e λb j l a m n=>?_;cases b with
 |false=>
  rw[No Ke]at a⊢;exact o g _ a R W j l i _ m λc p r s v w=>q c p r s v (n.trans w)
 |true=>
  rw[M2 rfl]at a⊢;exact q true j l a m n
theorem lK{u:cW}(h:fN X a u):fN X (.UnaryOp .Not a l) (vA u):=by
 obtain⟨_,b,c⟩:=h;exact⟨_,z4 b,Cj c⟩
theorem Cn{u:cW}(h:fN X a u):kG X (.BoolOp .And [a] l) u:=by
 obtain⟨_,b,c⟩:=h;exact⟨_,z0 b,c⟩
theorem m2{u:cW}(h:fN X a u):kG X (.BoolOp .Or [a] l) u:=by
 obtain⟨_,b,c⟩:=h;exact⟨_,z1 b,c⟩
theorem iz{c:OU}{u d:cW}(h:fN X a u)(e:kG X (.BoolOp .And (b::c) l) d):kG X (.BoolOp .And (a::b::c) l) (vB u d):=by
 obtain⟨_,f,g⟩:=h;obtain⟨_,i,j⟩:=e;exact⟨_,z2 f i,Ck g j⟩
theorem gG{c:OU}{u d:cW}(h:fN X a u)(e:kG X (.BoolOp .Or (b::c) l) d):kG X (.BoolOp .Or (a::b::c) l) (vC u d):=by
 obtain⟨_,f,g⟩:=h;obtain⟨_,i,j⟩:=e;exact⟨_,z3 f i,Cm g j⟩
theorem lL{u:cW}(h:kG X a u):fN X a u:=by
 obtain⟨_,b,c⟩:=h;exact⟨_,b.pt,c⟩
def Co(u w:a9):a9:=λd k=>u d λx=>∃c,x=.bl c/\if c=true then w d k else k (.bl false)
def Cp(u:a9):a9:=λd k=>u d λx=>∃c,x=.bl c/\k (.bl (!c))
theorem Cq{b:BoolOp}(h:bc X a n):bc X (.BoolOp b [a] l) n:=by
 obtain⟨_,c,d⟩:=h;exact⟨_,z7 c,d⟩
theorem Cr{f:OU}(h:bc X a n)(u:bc X (.BoolOp .And (b::f) l) o):bc X (.BoolOp .And (a::b::f) l) (Co n o):=by
 obtain⟨_,y,A⟩:=h;obtain⟨_,i,C⟩:=u;refine⟨_,z8 y i,λj k z R W B H m Q e q=>?_⟩;refine A j _ z R W B H m _ e λx v p r g s t E=>?_;obtain⟨c,rfl,g⟩:=g;refine⟨c,E.hy,?_⟩;cases c with
 |true=>
  rw[M2 rfl]at g⊢;exact C j _ g R W p r m _ s λd w F G i I J K=>q d w F G i I (t.trans J) K
 |false=>
  rw[No Ke]at g⊢;exact q _ _ p r g s t (.bl _)
theorem Cs(h:bc X a n):bc X (.UnaryOp .Not a l) (Cp n):=by
 obtain⟨_,d,f⟩:=h;refine⟨_,z9 d,λg k z R W B H i Q e q=>?_⟩;refine f g _ z R W B H i _ e λx v j m b o p r=>?_;obtain⟨c,rfl,b⟩:=b;exact⟨c,r.hy,q _ _ j m b o p (.bl _)⟩
def Ct(c:cW)(u w:a9):a9:=λd k=>c d λb=>if b=true then u d k else w d k
theorem vD{c:Nu}{t:cW}(A:fN X c t)(C:bc X a n)(E:bc X b o):bc X (.IfExp c a b l) (Ct t n o):=by
 obtain⟨_,F,G⟩:=A;obtain⟨_,I,J⟩:=C;obtain⟨_,f,K⟩:=E;refine⟨_,Aa F I f,λh k z R W B H i Q e q=>?_⟩;refine G h _ z R W B H i _ e λc u v g x y=>?_;cases c with
 |true=>
  rw[M2 rfl]at g⊢;exact J h _ g R W u v i _ x λd w j m f p r s=>q d w j m f p (y.trans r) s
 |false=>
  rw[No Ke]at g⊢;exact K h _ g R W u v i _ x λd w j m f p r s=>q d w j m f p (y.trans r) s
def m3:dr:=λ_ k=>k []
def h4(u:a9)(w:dr):dr:=λc k=>u c λd=>w c λe=>k (d::e)
variable{e:Nu}{A:OU}{u:a9}{w:dr}
theorem Cu:oQ K rv m3:=λa k h R W B H b Q e q=>q [] [] B H h e (bE.refl _ _) .nil
theorem Cv{a:bx}{t:ek}(g:dD K a u)(i:oQ K t w):oQ K (rx a t) (h4 u w):=by
 intro b k h R W B H c Q e q;refine g b _ h R W B H c _ e λd v j l m n o p=>?_;refine i b _ m R W j l c _ n λC E r x y z f A=>?_;exact q _ _ r x y z (o.trans f) (.cons (p.mono f.s) A)
theorem du:lH X [] m3:=⟨_,fJ,Cu⟩
theorem bB(a:bc X e u)(b:lH X A w)(c:e9 X e A:=by rfl):lH X (e::A) (h4 u w):=by
 obtain⟨_,d,f⟩:=a;obtain⟨_,g,h⟩:=b;exact⟨_,ez d g c,Cv f h⟩
def oW(w:dr):a9:=λd k=>w d λc=>c.length<=Np/\k (.tup c)
theorem ff{g}(h:lH X A w):bc X (.Tuple A g l) (oW w):=by
 obtain⟨_,i,j⟩:=h;refine⟨_,Bd i,λm k z R W B H n Q e q=>?_⟩;refine j m _ z R W B H n _ e λt o u v a b r c=>?_;refine⟨by rw[c.length];exact a.1,λp d=>?_⟩;have f:=b.grow d (.tup o);exact q _ _ _ _ a.2 (b.alloc d _) (r.trans f) (.tup fq (c.mono f.s))
def Cw(w:dr):dr:=λd k=>w d λc=>c.length<=Np/\k c
theorem hN(h:lH X A w):jg X (.List A l) (Cw w):=by
 obtain⟨_,f,g⟩:=h;refine⟨_,uP f,λj k z R W B H n Q e q=>?_⟩;refine g j _ z R W B H n _ e λo r s x c a t d=>?_;refine⟨by rw[d.length];exact c.1,λp b=>?_⟩;obtain⟨u,y,v⟩:=a.toWd.fresh b;exact q o p r s _ c.2 (a.eA b _) t u v fq d λi m=>a.eU b m rfl
def vE(w:dr):a9:=λc k=>w c λd=>k (.lst d)
theorem Cx{t:bx}(h:rU K t w):dD K t (vE w):=by
 intro c k z R W B H d Q e q;refine h c _ z R W B H d _ e λr a u v x f g i j l m n o=>?_;obtain⟨p,b⟩:=g.freeze m j l o;exact q _ _ _ _ f p (i.trans b) (.lst fq (n.mono b.s))
theorem e1(h:jg X e w):bc X e (vE w):=by
 obtain⟨_,a,b⟩:=h;exact⟨_,a,Cx b⟩
def vF(n o:a9):a9:=λf k=>n f λx=>o f λy=>∃c i d,(x=.tup c\/x=.lst c)/\y=.int i/\dv c i=some d/\k d
theorem vG{B:ak}{b:OK}{a:OM}{i:Int}{d:D}(r:c9 K B b a)(h:dv a i=some d):∃v,dv b i=some v/\bz K B v d:=by
 unfold dv at h⊢;rw[r.length];cases q:hg a.length i with
 |none=>rw[q]at h;cases h
 |some j=>
  rw[q]at h;exact r.get h
theorem ea(c:bc X a n)(w:bc X b o)(A:u0 b):bc X (.Subscript a b l) (vF n o):=by
 obtain⟨_,C,E⟩:=c;obtain⟨_,F,G⟩:=w;refine⟨_,kE lD C F A,mZ E G λx y k h R W B H J K v L Q e s t q=>?_⟩;obtain⟨M,i,d,I,rfl,c,u⟩:=h;rcases I with rfl|rfl
 ·obtain⟨p,f,rfl,g,j⟩:=s.e2;obtain⟨z,m,r⟩:=vG j c;exact⟨p,f,i,z,rfl,t.d4,.inl (e.bh _ _ g),m,q d z B H u e (bE.refl _ _) r⟩
 obtain⟨p,f,rfl,g,j⟩:=s.ep;obtain⟨z,m,r⟩:=vG j c;exact⟨p,f,i,z,rfl,t.d4,.inr (e.bh _ _ g),m,q d z B H u e (bE.refl _ _) r⟩
end
abbrev ci:=OL->(aM->Prop)->Prop
def iJ:OL->Nat
 |[]=>0
 |.bag::r=>iJ r+1
 |_::r=>iJ r
inductive hO(K:JS)(W:KT->Prop)(B:ak):OK->OL->Prop where
 |nil:hO K W B [] []
 |val{v:V}{d:D}{vs:OK}{as:OL}(h:bz K B v d)(r:hO K W B vs as):hO K W B (v::vs) (.val d::as)
 |bag{b:KT}{vs:OK}{as:OL}(h:W b)(r:hO K W B vs as):hO K W B (.ref b::vs) (.bag::as)
structure Cy(K:JS)(W:KT->Prop)(B H:ak)(v:V)(r:aM)(aC aj:ak):Prop where
 wd:Wd H W aC aj
 g:bE H B aC
 res:rV K H aC aj v r
def cj(K:JS)(n:Nat)(F:ci):f3:=λd H Q _=>∃(W:KT->Prop)(B:ak)(b:OL)(k:aM->Prop),F b k/\b.length=n/\Nat.ble (iJ b) 1=true/\b2 B H/\(∀a,W a->B a=none/\eI H a)/\hO K W B d b /\
 ∀r v e c,k r->Cy K W B H v r e c->Q v c
section
variable{K:JS}{R:ak}{W:KT->Prop}{B l H p:ak}{G:St}{C:OL}
theorem hO.length:∀{a:OK}{b:OL},hO K W B a b->a.length=b.length
 |_,_,.nil=>rfl
 |_,_,.val _ r=>by rw[Kk,Kk,r.length]
 |_,_,.bag _ r=>by rw[Kk,Kk,r.length]
theorem hO.get:∀{a:OK}{c:OL},hO K W B a c->∀(i:Nat)(k:aM),c[i]?=some k->(∃v d,a[i]?=some v/\k=.val d/\bz K B v d)\/(∃b,a[i]?=some (.ref b)/\k=.bag/\W b)
 |_,_,.nil,i,k,e=>by simp at e
 |_,_,.val h r,0,k,e=>by simp at e;subst e;exact .inl ⟨_,_,rfl,rfl,h⟩
 |_,_,.val h r,i+1,k,e=>by simpa using r.get i k (by simpa using e)
 |_,_,.bag h r,0,k,e=>by simp at e;subst e;exact .inr ⟨_,rfl,rfl,h⟩
 |_,_,.bag h r,i+1,k,e=>by simpa using r.get i k (by simpa using e)
theorem j2:∀{as:OL}{i:Nat},iJ as=0->as[i]?≠some .bag
 |[],i,_=>by simp
 |.bag::r,i,h=>by simp[iJ]at h
 |.no::r,0,h=>by simp
 |.no::r,i+1,h=>by simpa using j2 (as:=r) (i:=i) h
 |.val d::r,0,h=>by simp
 |.val d::r,i+1,h=>by simpa using j2 (as:=r) (i:=i) h
 |.new d::r,0,h=>by simp
 |.new d::r,i+1,h=>by simpa using j2 (as:=r) (i:=i) h
 |.pin v d::r,0,h=>by simp
 |.pin v d::r,i+1,h=>by simpa using j2 (as:=r) (i:=i) h
 |.own d::r,0,h=>by simp
 |.own d::r,i+1,h=>by simpa using j2 (as:=r) (i:=i) h
 |.deep d::r,0,h=>by simp
 |.deep d::r,i+1,h=>by simpa using j2 (as:=r) (i:=i) h
theorem kI:∀{as:OL}{i j:Nat},iJ as<=1->as[i]?=some .bag->as[j]?=some .bag->i=j
 |[],i,j,_,e,_=>by simp at e
 |.bag::r,0,0,_,_,_=>rfl
 |.bag::r,0,j+1,h,_,e=>absurd (by simpa using e) (j2 (as:=r) (i:=j) (by simp[iJ]at h;exact h))
 |.bag::r,i+1,_,h,e,_=>absurd (by simpa using e) (j2 (as:=r) (i:=i) (by simp[iJ]at h;exact h))
 |.no::r,0,_,_,e,_=>by simp at e
 |.no::r,i+1,0,_,_,e=>by simp at e
 |.no::r,i+1,j+1,h,e,a=>by rw[kI (as:=r) (i:=i) (j:=j) h (by simpa using e) (by simpa using a)]
 |.val d::r,0,_,_,e,_=>by simp at e
 |.val d::r,i+1,0,_,_,e=>by simp at e
 |.val d::r,i+1,j+1,h,e,a=>by rw[kI (as:=r) (i:=i) (j:=j) h (by simpa using e) (by simpa using a)]
 |.new d::r,0,_,_,e,_=>by simp at e
 |.new d::r,i+1,0,_,_,e=>by simp at e
 |.new d::r,i+1,j+1,h,e,a=>by rw[kI (as:=r) (i:=i) (j:=j) h (by simpa using e) (by simpa using a)]
 |.pin v d::r,0,_,_,e,_=>by simp at e
 |.pin v d::r,i+1,0,_,_,e=>by simp at e
 |.pin v d::r,i+1,j+1,h,e,a=>by rw[kI (as:=r) (i:=i) (j:=j) h (by simpa using e) (by simpa using a)]
 |.own d::r,0,_,_,e,_=>by simp at e
 |.own d::r,i+1,0,_,_,e=>by simp at e
 |.own d::r,i+1,j+1,h,e,a=>by rw[kI (as:=r) (i:=i) (j:=j) h (by simpa using e) (by simpa using a)]
 |.deep d::r,0,_,_,e,_=>by simp at e
 |.deep d::r,i+1,0,_,_,e=>by simp at e
 |.deep d::r,i+1,j+1,h,e,a=>by rw[kI (as:=r) (i:=i) (j:=j) h (by simpa using e) (by simpa using a)]
theorem aW.after{k:KT->Prop}(e:aW K R W B H G C)(A:∀a,k a->∃i:Nat,G[i]?=some (some (.ref a))/\C[i]?=some .bag)(r:Wd H k l p)(g:bE H B l):aW K R W l p G C/\bE R B l:=by
 have E:∀a,B a=none->H a≠none->l a=none:=λa c v=>by
  cases q:l a with
  |none=>rfl
  |some o=>
   rcases g.n a o q with z|z
   ·rw[c]at z;cases z
   exact absurd z v
 have st:∀a,¬k a->H a≠none->p a=H a:=λa c v=>by
  cases q:H a with
  |none=>exact absurd q v
  |some o=>exact r.fr a o q c
 have F:∀a,eI H a->eI p a:=λa h=>by
  by_cases z:k a
  ·exact r.wh a z
  obtain⟨x,y,t,q⟩:=h;exact⟨x,y,by rw[st a z (by rw[t];simp)];exact t,q⟩
 have J:∀a,eI H a->H a≠none:=λa ⟨x,y,t,_⟩=>by rw[t];simp
 refine⟨e.move ⟨λa o h I=>?_,r.bh,λa h=>E a (e.wb a h) (J a (e.wh a h)),λa h=>F a (e.wh a h),e.wr⟩ g.s (λi a m=>⟨E a (e.dV m).1 (e.dV m).2,λz=>?_,λz=>?_⟩),⟨g.s,λa o h=>?_⟩⟩
 ·have c:=e.fr a o h I;refine r.fr a o c λz=>?_;obtain⟨i,w,u⟩:=A a z;obtain⟨b,d,f,_⟩:=e.d7 u;rw[w]at d;cases d;rcases f with f|f
  ·exact I f
  rw[f]at h;cases h
 ·obtain⟨b,d,_,_,L⟩:=e.d7 z;rw[lG m z]at d;cases d;exact F _ L
 ·refine st a (λq=>?_) (e.dV m).2;obtain⟨j,w,u⟩:=A a q;have:=e.sep i j a m (.inl ⟨w,.inl u⟩);subst this;exact z u
 rcases g.n a o h with z|z
 ·exact .inl z
 exact .inr (e.toWd.fresh z).1
theorem aW.start{N:OR}{f:OK}{e:OL}(o:iJ e<=1)(p:b2 B H)(g:∀a,W a->B a=none/\eI H a)(l:hO K W B f e):aW K H W B H (L3.et N f) (e++Kp (N.length-e.length) .no):=by
 have s:=l.length;have t:Wd H W B H:=⟨λ_ _ h _=>h,p,λa h=>(g a h).1,λa h=>(g a h).2,λa h=>by obtain⟨x,y,q,_⟩:=(g a h).2;rw[q];simp⟩
 have lo:∀i k,e[i]?=some k->(L3.et N f)[i]?=(f[i]?).map some:=λi k h=>by
  have lt:i<e.length:=by
   by_cases z:i<e.length
   ·exact z
   rw[KW (by lia)]at h;cases h
  unfold L3.et;rw[Ld (by rw[J5];lia),Kj]
 have cs:∀(i:Nat)(k:aM),(e++Kp (N.length-e.length) aM.no)[i]?=some k->e[i]?=some k\/k=aM.no:=λi k h=>by
  by_cases z:i<e.length
  ·rw[Ld z]at h;exact .inl h
  rw[KP (by lia)]at h;rw[Ln]at h;split at h
  ·exact .inr (Ki h).symm
  cases h
 have u:∀i:Nat,(e++Kp (N.length-e.length) aM.no)[i]?=some aM.bag->e[i]?=some aM.bag:=λi h=>by
  rcases cs i _ h with h|h
  ·exact h
  cases h
 refine⟨t,by unfold L3.et;simp[s],λi k h=>?_,λi j a w A=>?_⟩
 ·rcases cs i k h with h|rfl
  ·rw[lo i k h];rcases l.get i k h with⟨v,d,n,rfl,r⟩|⟨b,n,rfl,r⟩
   ·rw[n];exact⟨v,rfl,r⟩
   rw[n];exact⟨b,rfl,.inl r,(g b r).1,(g b r).2⟩
  trivial
 have one:∀i,cD (L3.et N f) (e++Kp (N.length-e.length) aM.no) i a->e[i]?=some .bag:=λi m=>by
  rcases m with⟨_,z|⟨C,z⟩⟩|⟨c,z,_⟩
  ·exact u i z
  ·rcases cs i _ z with z|z
   ·rcases l.get i _ z with⟨v,d,_,q,_⟩|⟨b,_,q,_⟩<;>cases q
   cases z
  rcases cs i _ z with z|z
  ·rcases l.get i _ z with⟨v,d,_,q,_⟩|⟨b,_,q,_⟩<;>cases q
  cases z
 exact kI o (one i w) (one j A)
theorem dJ{P:Ny}{w:NE}{m:Str->Option KB}{c:NH}{x:Str}{st:NI}{N i:OR}{y n:Nat}{F:ci}(M:c3 K m x st i)(S:cM N i (b9 st))(O:i.length=n)(R:∀(f:KT)(b:KB)(A:NJ)(a:List Le)(s:KF)(H:ak)(E:eT),d1 y (A.deeper (M0 x (b9 st) s.heap.objs.size f b))->∃u,hl (jb h2 P w K m c N x (b9 st) f b A a s H E).hK (h1 st) u/\∀d k,d.length=n->F d k->u {nx:=λ_=>k (.val .non),rt:=k} (d++Kp (N.length-n) .no)):cq P w K m c x i (y+1) (cj K n F):=by
 refine M.ok S (λJ H Q E h=>?_) (λf b A a s H J Q E T h=>?_)
 ·obtain⟨W,B,d,k,_,j,_,_,_,o,_⟩:=h;rw[o.length,j,O]
 obtain⟨W,B,d,k,U,j,X,Y,Z,o,q⟩:=h;obtain⟨u,⟨t,ab,I⟩,ae⟩:=R f b A a s H E T;have L:=aW.start (N:=N) (M1 X) Y Z o;rw[j]at L;refine⟨t,ab,I _ _ (ae d k j U) H W B H (L3.et N J) _ L ⟨λC G l p h e g=>?_,λ_ _ _ _ h=>h.elim,λ_ _ _ _ h=>h.elim,λr v l p h e g z=>q r v l p h ⟨e,g,z⟩⟩⟩;exact q _ _ l p h ⟨e.toWd,g,.non⟩
end
def gF.sl:gF->aM
 |.val d=>.val d
 |.bag _=>.bag
@[reducible] def h6:aM->(D->Prop)->Prop
 |.val d,k=>k d
 |.own (.l a),k=>k (.lst a)
 |.new d,k=>k d
 |_,_=>False
def Cz:hM:=λ_ k=>k []
def CA(u:a9)(w:hM):hM:=λa k=>u a λd=>w a λb=>k (.val d::b)
def CB(i:Nat)(w:hM):hM:=λa k=>a[i]?=some .bag/\w a λb=>k (.bag i::b)
def sh(a:OQ)(n:Nat):Bool:=Nat.beq a.length n&&Nat.ble (iJ (a.map gF.sl)) 1
def vH(n:Nat)(F:ci)(w:hM):a9:=λb k=>w b λa=>sh a n=true/\F (a.map gF.sl) λr=>h6 r k
section
variable{K:JS}{X:aS}{e:Nu}{f:OU}{u:a9}{w:hM}{o p:Pos}{n:Nat}{F:ci}
theorem bv:j1 X [] Cz:=⟨_,fJ,λa k h R W B H b Q e q=>q [] [] B H h e (bE.refl _ _) .nil⟩
theorem aR(g:bc X e u)(i:j1 X f w)(j:e9 X e f:=by rfl):j1 X (e::f) (CA u w):=by
 obtain⟨_,l,m⟩:=g;obtain⟨_,n,o⟩:=i;refine⟨_,ez l n j,λa k h R W B H b Q e q=>?_⟩;refine m a _ h R W B H b _ e λd v p r t x y z=>?_;refine o a _ t R W p r b _ x λI J A C E F c G=>?_;exact q _ _ A C E F (y.trans c) (.val (z.mono c.s) G)
theorem fg(i:Nat){x:Str}{a:Pos}(g:j1 X f w)(j:i2 X i x:=by rfl)(l:i3 X.env.scope x:=by walk_at"v")(m:eS x:=by decide)(n:jG x:=by decide)(o:Nw (.Name x a::f) X.env=(false,Op (.Name x a) X.env)::Nw f X.env:=by rfl):j1 X (.Name x a::f) (CB i w):=by
 obtain⟨_,p,r⟩:=g;refine⟨_,ez (lj j l m n) p o,λs k h R W B H t Q e q=>?_⟩;obtain⟨c,h⟩:=h;obtain⟨b,d,E⟩:=e.d7 c;refine⟨_,d,?_⟩;refine r s _ h R W B H t _ e λF G u v y z A C=>?_;exact q _ _ u v y z A (.bag d c C)
theorem hk.toIn{B:ak}{d:St}{g:OL}{W:KT->Prop}{R H:ak}{l:KT->Prop}(e:aW K R l B H d g):∀{j:OK}{f:OQ},hk K B d g j f->(∀i b,gF.bag i∈f->d[i]?=some (some (.ref b))->W b)->hO K W B j (f.map gF.sl)
 |_,_,.nil,_=>.nil
 |_,_,.val h r,a=>.val h (hk.toIn e r λi b m=>a i b (J3 _ m))
 |_,_,.bag h n r,a=>by
  obtain⟨b,k,_⟩:=e.d7 n;rw[h]at k;cases k;exact .bag (a _ b J1 h) (hk.toIn e r λi c m=>a i c (J3 _ m))
theorem hk.gW{B:ak}{c:St}{a:OL}:∀{d:OK}{b:OQ}{i:Nat},hk K B c a d b->gF.bag i∈b->a[i]?=some .bag
 |_,_,_,.nil,m=>by simp at m
 |_,_,_,.val h r,m=>by
  rcases J6.mp m with m|m
  ·cases m
  exact r.gW m
 |_,_,_,.bag h e r,m=>by
  rcases J6.mp m with m|m
  ·cases m;exact e
  exact r.gW m
theorem vI{R:ak}{W:KT->Prop}{B H:ak}{d:St}{l:OL}{s:OK}{c:OQ}{k:aM->Prop}{Q:b5}{E:eT}(e:aW K R W B H d l)(ok:hk K B d l s c)(o:sh c n=true)(w:F (c.map gF.sl) k)(q:∀r v f j,k r->aW K R W f j d l->bE R B f->rV K H f j v r->Q v j):cj K n F s H Q E:=by
 rw[sh,M3]at o;have x:c.length=n:=Nat.eq_of_beq_eq_true o.1;have t:∀a,(∃i:Nat,gF.bag i∈c/\d[i]?=some (some (.ref a)))->∃i:Nat,d[i]?=some (some (.ref a))/\l[i]?=some .bag:=λa ⟨i,m,z⟩=>⟨i,z,ok.gW m⟩;refine⟨λa=>∃i:Nat,gF.bag i∈c/\d[i]?=some (some (.ref a)),B,c.map gF.sl,k,w,by rw[J5];exact x,o.2,e.bh,λa h=>?_,ok.toIn e λi b m z=>⟨i,m,z⟩,λr v f j y p=>?_⟩
 ·obtain⟨i,A,C⟩:=t a h;obtain⟨b,u,_,G,I⟩:=e.d7 C;rw[A]at u;cases u;exact⟨G,I⟩
 obtain⟨J,L⟩:=e.after t p.wd p.g;exact q r v f j y J L p.res
theorem CD{x:Str}{N:OR}{j C:Nat}(c:cq X.prog X.w X.K X.mg X.base x N j (cj X.K n F))(O:d1 C X.A)(P:ew X x)(S:j1 X (e::f) w)(T:j<=C:=by decide)(U:eS x:=by decide)(Y:e9 X e f:=by rfl)(Z:ir X o f:=by rfl):
  bc X (.Call (.Name x p) (e::f) [] o) (vH n F w):=by
 obtain⟨_,ae,af⟩:=S;refine⟨_,oJ c O P ae T U Y Z,λE k h R W B H G Q e q=>?_⟩;refine af E _ h R W B H G _ e λaA aC aD aF I t u ag=>?_;rw[Kb];refine vI t ag I.1 I.2 λr v J L b y z g=>?_;cases r with
 |no=>exact b.elim
 |bag=>exact b.elim
 |pin v d=>exact b.elim
 |deep c=>exact b.elim
 |val d=>exact q d v J L b y (u.trans z) g
 |new d=>exact q d v J L b y (u.trans z) (bz.mono oO g)
 |own c=>
  cases c with
  |d _ _ _ _=>exact b.elim
  |l aH=>
  obtain⟨a,rfl,M,ah,aI,aj,hc⟩:=g
  obtain⟨ao,g3⟩:=y.freeze aj (t.toWd.fresh M).1 ah λi m=>absurd M (by
   have ay:cD G E i a:=m
   exact(t.dV ay).2)
  exact q _ _ _ _ b ao ((u.trans z).trans g3) (.lst fq (hc.mono g3.s))
end
def vJ:D->Option Nat
 |.tup a=>some a.length
 |.lst a=>some a.length
 |.scr b=>some b.length
 |_=>none
def CE(u:a9):a9:=λa k=>u a λx=>∃n,vJ x=some n/\k (.int n)
def CF(u:a9):a9:=λa k=>u a λx=>∃i,x=.int i/\k (.int (if i<0 then -i else i))
def CG(u:a9):a9:=λa k=>u a λx=>(∃i,x=.int i/\k (.int i))\/∃c,x=.bl c/\k (.int (if c then 1 else 0))
def vK:D->Option String
 |.int _=>some "int"
 |.bl _=>some "bool"
 |.tup _=>some "tuple"
 |.lst _=>some "list"
 |.non=>some "NoneType"
 |.str _=>some "str"
 |_=>none
def CH(u:a9)(n:String):a9:=λa k=>u a λx=>∃t b,vK x=some t/\(∀K,Ml K (.type t) (.type n)=some b)/\k (.bl b)
section
variable{K:JS}{X:aS}{e:Nu}{j:OU}{u:a9}{g p:Pos}{n:Nat}
theorem oZ{g:bx}{r:OK->ak->b5->Prop}{f:D->(D->Prop)->Prop}(j:dD K g u)(l:∀(x:D)(k:D->Prop),f x k->∀(R:ak)(W:KT->Prop)(B H:ak)(b:St)(a:OL)(v:V)(Q:b5),aW K R W B H b a->bz K B v x->(∀d v c i,k d->aW K R W c i b a->bE R B c->bz K c v d->Q v i)->r [v] H Q):
  dD K (rB r (rx g rv)) (λa k=>u a λx=>f x k):=by
 intro a k h R W B H b Q e q;refine j a _ h R W B H b _ e λx v m n o p s t=>?_;exact l x k o R W m n b a v Q p t λd u w y z A g3 C=>q d u w y z A (s.trans g3) C
theorem gy(b:bc X e u)(m:ew X "len")(o:X.mg "len"=none)(l:e9 X e []:=by rfl):bc X (.Call (.Name "len" p) [e] [] g) (CE u):=by
 obtain⟨_,s,t⟩:=b;refine⟨_,mJ u3 m o PySem.boot_len (ez s fJ l) (by decide) (by decide) l,oZ (f:=λx k=>∃n,vJ x=some n/\k (.int n)) t λx k h R W B H w y v Q e i q=>?_⟩;obtain⟨n,d,c⟩:=h;cases x<;>first|(cases d;done)|skip
 ·obtain⟨a,j,rfl,b,r⟩:=i.e2;cases d;rw[<-r.length]at c;exact⟨a,j,rfl,.inr (dM.of (e.bh _ _ b)),q _ _ B H c e (bE.refl _ _) (.int _)⟩
 ·obtain⟨a,j,rfl,b,r⟩:=i.ep;cases d;rw[<-r.length]at c;exact⟨a,j,rfl,.inl (cf.of (e.bh _ _ b)),q _ _ B H c e (bE.refl _ _) (.int _)⟩
 obtain⟨a,rfl,b⟩:=i.hJ;cases d;refine⟨a,_,rfl,.inl (e.bh.seq b),?_⟩;rw[J5];exact q _ _ B H c e (bE.refl _ _) (.int _)
theorem o0(b:bc X e u)(c:ew X "abs")(d:X.mg "abs"=none)(a:e9 X e []:=by rfl):bc X (.Call (.Name "abs" p) [e] [] g) (CF u):=by
 obtain⟨_,j,l⟩:=b;refine⟨_,mJ A7 c d (by decide +kernel) (ez j fJ a) (by decide) (by decide) a,oZ (f:=λx k=>∃i,x=.int i/\k (.int (if i<0 then -i else i))) l λx k h R W B H o r v Q e m q=>?_⟩;obtain⟨i,rfl,n⟩:=h;exact⟨i,by rw[m.d4],q _ _ B H n e (bE.refl _ _) (.int _)⟩
theorem vL(j:bc X e u)(l:ew X "int")(m:X.mg "int"=none)(b:e9 X e []:=by rfl):bc X (.Call (.Name "int" p) [e] [] g) (CG u):=by
 obtain⟨_,n,o⟩:=j;refine⟨_,rC uN l m (by decide +kernel) (ez n fJ b) (by decide) (by decide) b,oZ (f:=λx k=>(∃i,x=.int i/\k (.int i))\/∃c,x=.bl c/\k (.int (if c then 1 else 0))) o λx k h R W B H r s v Q e d q=>?_⟩;rcases h with⟨i,rfl,a⟩|⟨c,rfl,a⟩
 ·exact .inl ⟨i,by rw[d.d4],q _ _ B H a e (bE.refl _ _) (.int _)⟩
 exact .inr ⟨c,by rw[d.hy],q _ _ B H a e (bE.refl _ _) (.int _)⟩
theorem CI{B H:ak}{v:V}{x:D}{t:String}(s:b2 B H)(r:bz K B v x)(h:vK x=some t):gS K H v (.type t):=by
 cases r<;>cases h
 ·exact .non
 ·exact .bl _
 ·exact .int _
 ·exact .str _
 ·exact .tup (s _ _ (by assumption))
 exact .lst (s _ _ (by assumption))
theorem o1{T:String}{y:Str}{a:Pos}(i:bc X e u)(j:ew X "isinstance")(l:X.mg "isinstance"=none)(m:bK X (.Name y a) (mu (.ty T)))(d:Nw [e,.Name y a] X.env=(false,Op e X.env)::Nw [.Name y a] X.env)(n:Nw [.Name y a] X.env=(false,Op (.Name y a) X.env)::Nw [] X.env)(o:(OB g (Nw [.Name y a] X.env)).any (·.1)=false):bc X (.Call (.Name "isinstance" p) [e,.Name y a] [] g) (CH u T):=by
 obtain⟨_,c,r⟩:=i;refine⟨_,mJ B2 j l (by decide +kernel) (ez c (ez m fJ n) d) (by decide) (by decide) d o,λs k h R W B H w Q e q=>?_⟩;refine r s _ h R W B H w _ e λx v A C c f E F=>?_;obtain⟨t,b,G,I,z⟩:=c;exact⟨v,_,T,b,rfl,CI f.bh F G,I _,q _ _ A C z f E (.bl _)⟩
end
section
variable{K:JS}{X:aS}{e:Nu}{C:OU}{u:a9}{w:dr}{f p:Pos}
def r1:cw:=λU a=>U.nx a
def lM(s t:cw):cw:=λU a=>s {U with nx:=t U} a
def CK:cw:=λU a=>U.bk a
def CL:cw:=λU a=>U.ct a
def vM(u:a9):cw:=λU a=>u a λd=>U.rt (.val d)
def CM(w:dr):cw:=λU a=>w a λb=>U.rt (.own b)
def CN(i:Nat):cw:=λU b=>∃a,b[i]?=some (.own a)/\U.rt (.own a)
def vN(i:Nat)(u:a9):cw:=λU a=>u a λd=>U.nx (a.set i (.val d))
def vO(i:Nat)(w:dr):cw:=λU a=>w a λb=>U.nx (a.set i (.own b))
def r2(c:cW)(s t:cw):cw:=λU a=>c a λb=>if b=true then s U a else t U a
def CO(i:Nat)(s:cw):cw:=λU a=>∃b:OM,a[i]?=some (.own b)/\s U (a.set i (.val (.lst b)))
theorem dE:hl X [] r1:=⟨_,q',λU a h R W B H b D e s=>s.nx a b B H h e (bE.refl _ _)⟩
theorem bw{st:NI}{s:cw}(h:eD X st s):hl X [st] s:=by
 obtain⟨_,a,b⟩:=h;exact⟨_,lp a,b⟩
theorem a8{st:NI}{a:OV}{s t:cw}(h:eD X st s)(c:hl X a t):hl X (st::a) (lM s t):=by
 obtain⟨_,d,f⟩:=h;obtain⟨_,i,j⟩:=c;refine⟨_,lm d i,λU k h R W B H l D e b=>?_⟩;exact f _ k h R W B H l _ e ⟨λm n o p z q g=>j U m z R W o p n D q (b.grow g),b.bk,b.ct,b.rt⟩
theorem m7{st:OV}{s:cw}(i:Nat)(h:hl X st s):hl X st (CO i s):=by
 obtain⟨_,a,b⟩:=h;refine⟨_,a,λU l h R W B H c D e d=>?_⟩;obtain⟨m,f,z⟩:=h;obtain⟨j,k,g⟩:=e.fz f;exact b U _ z R W j H c D k (d.grow g)
theorem CP:eD X (.Break f) CK:=⟨_,Ag,λU a h R W B H b D e s=>s.bk a b B H h e (bE.refl _ _)⟩
theorem CQ:eD X (.Continue f) CL:=⟨_,Ah,λU a h R W B H b D e s=>s.ct a b B H h e (bE.refl _ _)⟩
theorem vP{st:NI}:eD X st (λ_ _=>False):=⟨_,An,λU a h=>h.elim⟩
theorem cJ(h:bc X e u):eD X (.Return (some e) f) (vM u):=by
 obtain⟨_,a,b⟩:=h;refine⟨_,jI a,λU c h R W B H g D e s=>?_⟩;exact b c _ h R W B H g _ e λd v i j k l m n=>s.rt _ v i j k l.toWd m n
theorem r3(h:jg X e w):eD X (.Return (some e) f) (CM w):=by
 obtain⟨_,b,c⟩:=h;refine⟨_,jI b,λU d h R W B H g D e s=>?_⟩;exact c d _ h R W B H g _ e λi a j k l m n o p q r t u=>s.rt (.own i) _ k l m n.toWd o ⟨a,rfl,p,q,j,r,t⟩
theorem CR(i:Nat){x:Str}{b:Pos}(c:i2 X i x:=by rfl)(d:i3 X.env.scope x:=by walk_at"v")(g:eS x:=by decide)(j:jG x:=by decide):eD X (.Return (some (.Name x b)) f) (CN i):=by
 refine⟨_,jI (lj c d g j),λU q h R W B H r D e s=>?_⟩;obtain⟨k,l,z⟩:=h;obtain⟨a,m,n,o,p⟩:=e.g_ l;exact⟨_,m,s.rt (.own k) _ B H z e.toWd (bE.refl _ _) ⟨a,rfl,n,o,p⟩⟩
theorem m8{i:Nat}{x:Str}{a:Pos}(b:X.N.Nodup)(c:X.N[i]?=some x)(g:g7 X.env.scope x)(j:bc X e u)(k:NT e (some (.Name x a)) f.line X.env=pure false:=by rfl)(l:iq X x:=by walk_at"f"):
  eD X (.Assign [.Name x a] e f) (vN i u):=by
 obtain⟨_,m,n⟩:=j;refine⟨_,ox b c g m k l,λU o h R W B H p D e s=>?_⟩;exact n o _ h R W B H p _ e λd v q r t w y z=>s.nx _ _ q r t (w.gA i z) y
theorem o2{i:Nat}{x:Str}{b:Pos}(c:X.N.Nodup)(d:X.N[i]?=some x)(g:g7 X.env.scope x)(k:jg X e w)(l:NT e (some (.Name x b)) f.line X.env=pure false:=by rfl)(m:iq X x:=by walk_at"f"):
  eD X (.Assign [.Name x b] e f) (vO i w):=by
 obtain⟨_,n,o⟩:=k;refine⟨_,ox c d g n l m,λU p h R W B H q D e s=>?_⟩;exact o p _ h R W B H q _ e λG a I r t u v y z A C E F=>s.nx _ _ r t u (v.iG i z A C E λj _=>F j) y
theorem dF{c:Nu}{a b:OV}{j:cW}{s t:cw}(p:fN X c j)(q:hl X a s)(r:hl X b t):eD X (.If c a b f) (r2 j s t):=by
 obtain⟨_,u,v⟩:=p;obtain⟨_,w,x⟩:=q;obtain⟨_,y,z⟩:=r;refine⟨_,ra u w y,λU g h R W B H i D e k=>?_⟩;refine v g _ h R W B H i _ e λc l m d n o=>?_;cases c with
 |true=>
  rw[M2 rfl]at d⊢;exact x U g d R W l m i D n (k.grow o)
 |false=>
  rw[No Ke]at d⊢;exact z U g d R W l m i D n (k.grow o)
def eg(i:Nat):e0:=λd a k=>k (a.set i (.val d))
def o3:j0:=λa b k=>a=[]/\k b
def jj(g:e0)(a:j0):j0:=λb c k=>∃d r,b=d::r/\g d c λh=>a r h k
def o4(n:Nat)(b:j0):e0:=λd c k=>∃a,d=.tup a/\a.length=n/\b a c k
def CS(u:a9)(g:e0):cw:=λU a=>u a λd=>g d a U.nx
theorem fQ{i:Nat}{x:Str}(b:X.N.Nodup)(c:X.N[i]?=some x)(g:g7 X.env.scope x)(l:iq X x:=by walk_at"f"):iF X (.Name x f) (eg i):=
 ⟨_,Ao b c g l,λd n k h R W B H o v Q e r q=>q _ _ h (e.gA i r) λj a m=>by
  exact(vt m (by simp) (by simp) rfl).2⟩
theorem hn:oT X [] o3:=⟨_,Ar,λa b k h R W B H c d Q e r q=>by
 obtain⟨rfl,h⟩:=h;cases r
 exact⟨rfl,q _ _ h e λ_ _ m=>m⟩⟩
theorem c4{g:e0}{f:j0}(b:iF X e g)(c:oT X C f)(i:(NK (e::C) X.env).map (·.2)=Ov e X.env::(NK C X.env).map (·.2):=by rfl):oT X (e::C) (jj g f):=by
 obtain⟨_,b,l⟩:=b;obtain⟨_,c,n⟩:=c;refine⟨_,As b c i,λJ o k h R W B H p K Q e r q=>?_⟩;obtain⟨d,s,rfl,h⟩:=h;cases r with
 |cons t u=>
  refine⟨_,_,rfl,l d o _ h R W B H p _ _ e t λv w z x y=>?_⟩;exact n s v k z R W B H w _ _ x u λA E F G I=>q A E F G λj a m=>y j a (I j a m)
theorem ho{i:Nat}{b:j0}{n:Nat}(j:X.calm=true)(h:oT X C b)(l:(NK C X.env).length=n:=by rfl)(m:(NK C X.env).findIdx? (·.1)=none:=by rfl):iF X (.Tuple C i f) (o4 n b):=by
 obtain⟨_,o,p⟩:=h;refine⟨_,Au j o l m,λd s k h R W B H t v Q e r q=>?_⟩;obtain⟨u,rfl,w,h⟩:=h;obtain⟨a,c,rfl,x,g⟩:=r.e2;exact⟨a,c,rfl,dM.of (e.bh _ _ x),by rw[g.length];exact w,p u s k h R W B H t c Q e g q⟩
theorem jk{o:Nu}{g:e0}(j:bc X e u)(k:iF X o g)(l:N3 [o] e f.line X.env=pure false:=by rfl)(m:N4 [o] e X.env=pure none:=by rfl)(n:(NK [o] X.env).map (·.2)=[Ov o X.env]:=by rfl):eD X (.Assign [o] e f) (CS u g):=by
 obtain⟨_,p,q⟩:=j;obtain⟨_,r,t⟩:=k;refine⟨_,re p r l m n,λU a h R W B H b D e s=>?_⟩;refine q a _ h R W B H b _ e λd v c i w x y z=>?_;exact t d a _ w R W c i b v _ x z λE F A C _=>s.nx _ _ c i A C y
def CV(i j:Nat)(w:dr):cw:=λU a=>w a λb=>∃x y,b=[x,y]/\U.nx ((a.set i (.val x)).set j (.val y))
theorem CW{i j:Nat}{x y:Str}{a b:Nu}{c d g:Pos}{k l m}(p:X.calm=true)(q:X.N.Nodup)(r:X.N[i]?=some x)(t:X.N[j]?=some y)(u:i≠j)(v:X.env.scope.names.lookup x=some .local)(z:X.env.scope.names.lookup y=some .local)(A:lH X [a,b] w)(C:N4 [.Tuple [.Name x c,.Name y d] k g] (.Tuple [a,b] l m) X.env=pure (some [x,y]))(E:N3 [.Tuple [.Name x c,.Name y d] k g] (.Tuple [a,b] l m) f.line X.env=pure false:=by rfl):
  eD X (.Assign [.Tuple [.Name x c,.Name y d] k g] (.Tuple [a,b] l m) f) (CV i j w):=by
 obtain⟨_,F,G⟩:=A;refine⟨_,Ax p q r t u v z F C E,λU I h R W B H J D e s=>?_⟩;refine G I _ h R W B H J _ e λT Y K L n M O P=>?_;obtain⟨x,y,rfl,n⟩:=n;cases P with
 |cons Q o=>cases o with
  |cons o S=>
   cases S;exact⟨_,_,rfl,s.nx _ _ K L n ((M.gA i Q).gA j o) O⟩
def CX(c:cW)(s:cw):cw:=λU a=>∃M:Nat->OL->Prop,(∃m,M m a)/\∀m a,M m a->c a λb=>if b=true then s {U with nx:=λg=>∃d,d<m/\M d g,ct:=λg=>∃d,d<m/\M d g,bk:=U.nx} a else U.nx a
theorem vQ{c:Nu}{k:OV}{E:cW}{s:cw}(N:Oh (Nz X.prog X.w) X.A X.env X.xe)(O:fN X c E)(P:hl X k s):eD X (.While c k [] f) (CX E s):=by
 obtain⟨_,Q,S⟩:=O;obtain⟨_,T,Y⟩:=P;refine⟨_,Az N Q T,λU Z h R W B H ay D e y=>?_⟩;obtain⟨M,⟨ae,vs⟩,o⟩:=h;refine⟨λm n i=>∃d a,M m d/\aW X.K R W a i n d/\bE R B a,⟨ae,Z,B,vs,e,bE.refl _ _⟩,?_⟩;rintro m C ag ⟨p,ao,aq,av,F⟩;refine S p _ (o m p aq) R W ao ag C _ av λb G I t J L=>?_;cases b with
 |true=>
  rw[M2 rfl]at t⊢;refine⟨λn i=>∃d a,(∃u,u<m/\M u d)/\aW X.K R W a i n d/\bE R B a,?_,?_⟩
  ·rintro n i ⟨d,a,⟨u,l,q⟩,j,ax⟩;exact⟨u,l,d,a,q,j,ax⟩
  have x:=F.trans L;exact Y _ p t R W G I C _ J ⟨λd n a i z j g=>⟨d,a,z,j,x.trans g⟩,λd n a i z j g=>y.nx d n a i z j (x.trans g),λd n a i z j g=>⟨d,a,z,j,x.trans g⟩,λr v a i z j g q=>y.rt r v a i z j (x.trans g) q⟩
 |false=>
  rw[No Ke]at t⊢;exact y.nx p C G I t J (F.trans L)
theorem iE.list{B:ak}{a:KT}{b:OK}{d:OM}(h:B a=some (.lst b))(r:c9 K B b d):iE K B (ri K a) d:=by
 intro H s i;have f:=s _ _ h;have q:cf K H a b:=cf.of f;refine⟨λc=>?_,λc=>⟨b,q,by rw[r.length];exact c⟩,λx k c ⟨g,j⟩=>⟨g,?_⟩⟩
 ·obtain⟨v,e,_⟩:=r.get (Km c);exact⟨b,v,q,e⟩
 exact r.fa (j b q)
theorem iE.tup{B:ak}{a:KT}{b:OK}{d:OM}(h:B a=some (.tup b))(r:c9 K B b d):iE K B (rj K a) d:=by
 intro H s i;have f:=s _ _ h;have q:dM K H a b:=dM.of f;refine⟨λc=>?_,λc=>⟨b,q,by rw[r.length];exact c⟩,λx k c ⟨g,j⟩=>⟨g,?_⟩⟩
 ·obtain⟨v,e,_⟩:=r.get (Km c);exact⟨b,v,q,e⟩
 exact r.fa (j b q)
theorem iE.rng{B:ak}(n:Nat):iE K B (oy 0 n) ((KA n).map λi:Nat=>D.int i):=by
 intro H s i;rw[J5,List.length_range];refine⟨λa=>a,λa=>a,λx d a ⟨b,c⟩=>⟨b,?_⟩⟩;refine⟨.int i,?_,?_⟩
 ·rw[Kj,Mu a];rfl
 rw[c,Int.zero_add];exact .int _
def CZ(u:a9):dr:=λb k=>u b λd=>∃a,d=.lst a/\k a
def C0(u:a9):dr:=λb k=>u b λd=>∃a,d=.tup a/\k a
def C1(u:a9):dr:=λa k=>u a λd=>∃j,d=.int j /\ -(2^62)<=j/\j<2^62/\k ((KA j.toNat).map λi:Nat=>D.int i)
variable{o:Nu}
theorem g1{l:Nu}(f:bc X l u):lI X o l (CZ u):=by
 obtain⟨_,g,i⟩:=f;refine⟨_,AF g,λj k h R W B H m Q e q=>?_⟩;refine i j _ h R W B H m _ e λd v n p r b s t=>?_;obtain⟨w,rfl,z⟩:=r;obtain⟨a,x,rfl,c,y⟩:=t.ep;exact⟨a,rfl,⟨x,cf.of (b.bh _ _ c)⟩,q w _ n p z b s (iE.list c y)⟩
theorem C2{l:Nu}(f:bc X l u):lI X o l (C0 u):=by
 obtain⟨_,g,i⟩:=f;refine⟨_,AG g,λj k h R W B H m Q e q=>?_⟩;refine i j _ h R W B H m _ e λd v n p r b s t=>?_;obtain⟨w,rfl,z⟩:=r;obtain⟨a,x,rfl,c,y⟩:=t.e2;exact⟨a,rfl,⟨x,dM.of (b.bh _ _ c)⟩,q w _ n p z b s (iE.tup c y)⟩
theorem jl{a:Nu}(c:bc X a u)(g:ew X "range")(i:X.mg "range"=none)(b:Nw [a] X.env=[(false,Op a X.env)]:=by rfl):lI X o (.Call (.Name "range" p) [a] [] f) (C1 u):=by
 obtain⟨_,l,m⟩:=c;refine⟨_,AJ g i (ez l fJ (by exact b)) b,λn k h R W B H r Q e q=>?_⟩;refine m n _ h R W B H r _ e λd v s t w x y A=>?_;obtain⟨j,rfl,C,E,z⟩:=w;exact⟨j,by rw[A.d4],C,E,q _ _ s t z x y (iE.rng _)⟩
def f8(g:e0)(s:cw)(U:gu):OM->OL->Prop
 |[],a=>U.nx a
 |d::b,a=>g d a λc=>s {U with nx:=f8 g s U b,ct:=f8 g s U b,bk:=U.nx} c
def C4(w:dr)(g:e0)(s:cw):cw:=λU a=>w a λb=>f8 g s U b a
theorem hQ{E:Nu}{n:OV}{g:e0}{s:cw}(T:Oh (Nz X.prog X.w) X.A X.env X.xe)(Y:X.calm=true)(M:lI X o E w)(Z:iF X o g)(vs:hl X n s)(ag:∀x,Nx E X.env x=pure x:=by intro _;rfl):eD X (.For o E n [] f) (C4 w g s):=by
 obtain⟨_,aq,av⟩:=M;obtain⟨_,ax,ay⟩:=Z;obtain⟨_,aA,aD⟩:=vs;refine⟨_,uD T Y aq ax aA ag,λU N h R W B H aG D e F=>?_⟩;refine av N _ h R W B H aG _ e λk J G bo aH aI aK aN=>?_;refine⟨λi m l c=>∃b a,m=k.length-i/\i<=k.length/\f8 g s U (k.drop i) b/\aW X.K R W a c l b/\bE R B a/\b2 G a,⟨k.length,N,G,by simp,Mv _,aH,aI,aK,b2.refl _⟩,?_⟩;rintro i m O P ⟨Q,I,rfl,M,u,L,p,C⟩;obtain⟨aO,aQ,aT⟩:=aN P (C.trans L.bh) i;by_cases t:i<k.length
 ·refine .inr ⟨aO t,λl c=>∃b a,f8 g s U (k.drop (i+1)) b/\aW X.K R W a c l b/\bE R B a/\b2 G a,?_,?_⟩
  ·rintro l c ⟨b,a,z,j,aV,aZ⟩;exact⟨k.length-(i+1),by lia,b,a,rfl,t,z,j,aV,aZ⟩
  intro x c y;obtain⟨rfl,d,S,a4⟩:=aT x c t y
  have a6:k.drop i=d::k.drop (i+1):=by
   rw[Mw t];rw[Km t]at S;rw[Ki S]
  rw[a6]at u;refine ay d Q _ u R W I _ O x _ L (a4.mono C) λb l bg j _=>?_;exact aD _ b bg R W I _ l _ j ⟨λb l a c z j g=>⟨b,a,z,j,p.trans g,C.trans g.s⟩,λb l a c z j g=>F.nx b l a c z j (p.trans g),λb l a c z j g=>⟨b,a,z,j,p.trans g,C.trans g.s⟩,λr v a c z j g q=>F.rt r v a c z j (p.trans g) q⟩
 have ei:i=k.length:=by lia
 subst ei;rw[Mx]at u;exact .inl ⟨aQ (J7 _),F.nx Q O I P u L p⟩
end
section
variable{K:JS}{X:aS}{e:Nu}{C:OU}{u:a9}{w:dr}{g p:Pos}
theorem aW.gM{R:ak}{W:KT->Prop}{B H:ak}{b:St}{c:OL}(e:aW K R W B H b c){q:KT}(d:H q=none){a:OK}{f:OM}(r:c9 K B a f):
  aW K R W B (dQ H q (.lst a)) b c/\R q=none/\B q=none/\(dQ H q (.lst a)) q=some (.lst a)/\∀i,¬cD b c i q:=by
 obtain⟨g,j,h⟩:=e.toWd.fresh d;exact⟨e.eA d _,g,h,fq,λi m=>e.eU d m rfl⟩
def f9{b:Type}(a:List b)(lo c:Option Int):List b:=(a.drop (HT.sIx a.length 0 lo)).take (HT.sIx a.length a.length c-HT.sIx a.length 0 lo)
theorem c9.cut{B:ak}{a:OK}{b:OM}(r:c9 K B a b)(lo c:Option Int):c9 K B (f9 a lo c) (f9 b lo c):=by
 unfold f9;rw[r.length];exact(r.drop _).take _
theorem C5{a d:Type}(f:a->d)(b:List a)(lo c:Option Int):f9 (b.map f) lo c=(f9 b lo c).map f:=by
 unfold f9;rw[J5,<-List.map_drop,<-List.map_take]
abbrev lN:=OL->(Option Int->Prop)->Prop
def C6(K:JS)(t:lz)(u:lN):Prop:=∀(a:OL)(k:Option Int->Prop),u a k->∀(R:ak)(W:KT->Prop)(B H:ak)(b:St)(Q:Option Int->ak->Prop),aW K R W B H b a->
 (∀o c d,k o->aW K R W c d b a->bE R B c->Q o d)->t b H Q
def o5(X:aS)(e:Option Nu)(u:lN):Prop:=∃t,mK X e t/\C6 X.K t u
def C7:lN:=λ_ k=>k none
def C8(u:a9):lN:=λa k=>u a λd=>∃i,d=.int i/\k (some i)
theorem vR:o5 X none C7:=⟨_,Bn,λa k h R W B H b Q e q=>q none B H h e (bE.refl _ _)⟩
theorem o6(h:bc X e u):o5 X (some e) (C8 u):=by
 obtain⟨_,a,b⟩:=h;refine⟨_,Bo a,λc k h R W B H f Q e q=>?_⟩;refine b c _ h R W B H f _ e λd v g j l m n o=>?_;obtain⟨i,rfl,z⟩:=l;exact⟨i,o.d4,q _ g j z m n⟩
def r4:D->Option OM
 |.lst a=>some a
 |.scr b=>some (b.map .int)
 |_=>none
theorem vS{B H:ak}{v:V}{x:D}{d:OM}(s:b2 B H)(r:bz K B v x)(h:r4 x=some d):∃a b,v=.ref a/\cf K H a b/\c9 K B b d:=by
 cases x<;>first|(cases h;done)|skip
 ·obtain⟨a,b,rfl,c,e⟩:=r.ep;cases h;exact⟨a,b,rfl,cf.of (s _ _ c),e⟩
 obtain⟨a,rfl,c⟩:=r.hJ;cases h;exact⟨a,_,rfl,s.seq c,c9.ints _⟩
def C9(u:a9)(l h:lN):dr:=λa k=>u a λx=>l a λlo=>h a λc=>∃b,r4 x=some b/\k (f9 b lo c)
theorem r5{lo b:Option Nu}{i j:lN}{o:Pos}(r:bc X e u)(t:o5 X lo i)(w:o5 X b j):jg X (.Subscript e (.Slice lo b none o) g) (C9 u i j):=by
 obtain⟨_,x,y⟩:=r;obtain⟨_,A,C⟩:=t;obtain⟨_,E,F⟩:=w;refine⟨_,Bq BC x A E,λc k h R W B H f Q e q=>?_⟩;refine y c _ h R W B H f _ e λd v G I J K L M=>?_;refine C c _ J R W G I f _ K λlo N O P S l=>?_;refine F c _ P R W N O f _ S λb T aB U m g3=>?_;obtain⟨aC,Y,z⟩:=U;obtain⟨a,Z,rfl,af,n⟩:=vS m.bh (M.mono (l.trans g3).s) Y;refine⟨a,Z,rfl,af,λp ag=>?_⟩;obtain⟨aj,hc,ao,ax,ay⟩:=m.gM ag (n.cut lo b);exact q _ p _ T _ z aj ((L.trans l).trans g3) hc ao ax (n.cut lo b) ay
def C'(u v:a9):dr:=λb k=>u b λx=>v b λy=>∃a C,x=.lst a/\y=.lst C/\a.length+C.length<=Np/\k (a++C)
theorem r6{a b:Nu}{m n:a9}(c:bc X a m)(f:bc X b n):jg X (.BinOp a .Add b g) (C' m n):=by
 obtain⟨_,u,w⟩:=c;obtain⟨_,x,y⟩:=f;refine⟨_,fw BJ u x,λo k h R W B H r Q e q=>?_⟩;refine w o _ h R W B H r _ e λd v A E F G I J=>?_;refine y o _ F R W A E r _ G λaj hc K ao L i t M=>?_;obtain⟨aq,C,rfl,rfl,N,z⟩:=L;obtain⟨a,O,rfl,c,j⟩:=(J.mono t.s).ep;obtain⟨b,P,rfl,f,l⟩:=M.ep;refine⟨a,b,O,P,rfl,rfl,i.bh _ _ c,i.bh _ _ f,by rw[j.length,l.length];exact N,λp S=>?_⟩;obtain⟨T,U,Y,Z,ag⟩:=i.gM S (j.append l);exact q _ p _ K _ z T (I.trans t) U Y Z (j.append l) ag
def Da(u:a9):dr:=λb k=>u b λx=>∃a,(x=.lst a\/x=.tup a)/\k a
theorem Db(b:bc X e u)(y:ew X "list")(A:X.mg "list"=none)(s:e9 X e []:=by rfl):jg X (.Call (.Name "list" p) [e] [] g) (Da u):=by
 obtain⟨_,C,E⟩:=b;refine⟨_,rC BD y A (by decide +kernel) (ez C fJ s) (by decide) (by decide) s,λF k h R W B H G Q e q=>?_⟩;refine E F _ h R W B H G _ e λd v t K I f w x=>?_;obtain⟨L,J,z⟩:=I;rcases J with rfl|rfl
 ·obtain⟨a,i,rfl,b,c⟩:=x.ep;refine⟨a,i,rfl,.inl (cf.of (f.bh _ _ b)),λp j=>?_⟩;obtain⟨l,m,n,o,r⟩:=f.gM j c;exact q _ p _ t _ z l w m n o c r
 obtain⟨a,i,rfl,b,c⟩:=x.e2;refine⟨a,i,rfl,.inr (dM.of (f.bh _ _ b)),λp j=>?_⟩;obtain⟨l,m,n,o,r⟩:=f.gM j c;exact q _ p _ t _ z l w m n o c r
def Dc(u:a9):a9:=λb k=>u b λx=>∃a:OO,x=.lst (a.map .int)/\k (.int a.sum)
theorem r7{B:ak}:∀{a:OO}{b:OK},c9 K B b (a.map D.int)->b=a.map V.int
 |[],_,.nil=>rfl
 |n::r,_,.cons h t=>by rw[h.d4,r7 t];rfl
theorem Dd(c:bc X e u)(i:X.calm=true)(j:ew X "sum")(l:X.mg "sum"=none)(d:e9 X e []:=by rfl):bc X (.Call (.Name "sum" p) [e] [] g) (Dc u):=by
 obtain⟨_,m,n⟩:=c;refine⟨_,mJ (B3 i) j l (by decide +kernel) (ez m fJ d) (by decide) (by decide) d,oZ (f:=λx k=>∃b:OO,x=.lst (b.map .int)/\k (.int b.sum)) n λx k h R W B H t w v Q e o q=>?_⟩;obtain⟨b,rfl,r⟩:=h;obtain⟨a,y,rfl,c,s⟩:=o.ep;cases r7 s;exact⟨a,b,rfl,e.bh _ _ c,q _ _ B H r e (bE.refl _ _) (.int _)⟩
def r8(i:Nat)(u:a9):cw:=λU a=>∃b:OM,a[i]?=some (.own b)/\u a λd=>b.length<Np/\U.nx (a.set i (.own (b++[d])))
theorem lO(i:Nat){x:Str}{c f b:Pos}(q:bc X e u)(r:i2 X i x:=by rfl)(t:i3 X.env.scope x:=by walk_at"v")(w:eS x:=by decide)(y:jG x:=by decide)(z:q4 X (.Name x c) "append":=by rfl)(A:q3 X b [e]:=by rfl)(C:q5 f b:=by rfl)(l:e9 X e []:=by rfl)(E:ir X b []:=by rfl)(G:NT (.Call (.Attribute (.Name x c) "append" f) [e] [] b) none g.line X.env=pure false:=by rfl):eD X (.Expr (.Call (.Attribute (.Name x c) "append" f) [e] [] b) g) (r8 i u):=by
 obtain⟨_,I,J⟩:=q;refine⟨_,Aj (u5 M4 PySem.F.slot_list_append PySem.F.type_list_append u7 (lj r t w y) (ez I fJ l) z A C l E) G,λU K h R W B H L D e s=>?_⟩;obtain⟨Y,j,h⟩:=h;obtain⟨a,M,k,Z,ae,N,af⟩:=e.ownAt j;refine⟨_,k,.inl ⟨rfl,M,cf.of N⟩,?_⟩;refine J K _ h R W B H L _ e λd v O ag m n P Q=>?_;obtain⟨ah,S,o,aj,hc,T,p⟩:=n.ownAt j;rw[k]at o;cases o;exact⟨a,S,v,rfl,rfl,T,by rw[p.length];exact m.1,s.nx _ _ O _ m.2 (n.write k j (p.append (.cons Q .nil))) P⟩
def jn(a:OL)(j:Nat):aM:=match a[j]? with
 |some (.val d)=>.val d
 |some .bag=>.bag
 |_=>.no
theorem aW.gK{R:ak}{W:KT->Prop}{B H:ak}{d:St}{f:OL}(e:aW K R W B H d f){a:KT}(g:R a=none)(k:B a=none)(l:∀i,¬cD d f i a)(o:dz):aW K R W B (dQ H a o) d f:=by
 have p:¬W a:=λz=>e.wr a z g;refine e.move ⟨λb q h z=>?_,λb q h=>?_,e.wb,λb z=>(e.wh b z).upd (by rintro rfl;exact p z),e.wr⟩ (b2.refl _) λi b m=>?_
 ·rw[cL (by rintro rfl;rw[g]at h;cases h)];exact e.fr b q h z
 ·rw[cL (by rintro rfl;rw[k]at h;cases h)];exact e.bh b q h
 have n:b≠a:=by rintro rfl;exact l i m
 refine⟨(e.dV m).1,λz=>?_,λ_=>cL n⟩;obtain⟨c,j,_,_,r⟩:=e.d7 z;rw[lG m z]at j;cases j;exact r.upd n
theorem Df{b:St}{a:OP}{i:Nat}{o:Option V}(h:(gq b a)[i]?=some o):∃j,a[i]?=some j/\o=(b[j]?).join:=by
 unfold gq at h;rw[Kj]at h;cases q:a[i]? with
 |none=>rw[q]at h;cases h
 |some j=>rw[q]at h;exact⟨j,rfl,(Ki h).symm⟩
def Dg(K:JS)(t:bx)(u:OL->Prop->Prop):Prop:=∀(b:OL)(k:Prop),u b k->∀(R:ak)(W:KT->Prop)(B H:ak)(c:St)(Q:b5),aW K R W B H c b->
 (∀a d f,k->aW K R W d f c b->bE R B d->R a=none->d a=none->eI f a->(∀i,¬cD c b i a)->Q (.ref a) f)->t c H Q
def o7(X:aS)(e:Nu)(u:OL->Prop->Prop):Prop:=∃t,bK X e t/\Dg X.K t u
def Dh(n:Nat)(F:ci)(w:hM):OL->Prop->Prop:=λb k=>w b λa=>sh a n=true/\F (a.map gF.sl) λr=>r=.bag/\k
theorem r9{n:Nat}{F:ci}{w:hM}{x:Str}{t:OR}{j l:Nat}(c:cq X.prog X.w X.K X.mg X.base x t j (cj X.K n F))(u:d1 l X.A)(y:ew X x)(z:j1 X (e::C) w)(E:j<=l:=by decide)(G:eS x:=by decide)(I:e9 X e C:=by rfl)(J:ir X g C:=by rfl):
  o7 X (.Call (.Name x p) (e::C) [] g) (Dh n F w):=by
 obtain⟨_,L,M⟩:=z;refine⟨_,oJ c u y L E G I J,λN k h R W B H O Q e q=>?_⟩;refine M N _ h R W B H O _ e λag ah aj hc o b P S=>?_;rw[Kb];refine vI b S o.1 o.2 λr v T U d Y Z f=>?_;obtain⟨rfl,d⟩:=d;obtain⟨a,rfl,s,ae,af⟩:=f;exact q a T U d Y (P.trans Z) (b.toWd.fresh s).1 ae af λi m=>(b.dV m).2 s
def Di(i:Nat)(u:OL->Prop->Prop):cw:=λU a=>u a (U.nx (a.set i .bag))
theorem Dj{i:Nat}{x:Str}{c:Pos}{u:OL->Prop->Prop}(d:X.N.Nodup)(f:X.N[i]?=some x)(k:g7 X.env.scope x)(l:o7 X e u)(m:NT e (some (.Name x c)) g.line X.env=pure false:=by rfl)(n:iq X x:=by walk_at"f"):
  eD X (.Assign [.Name x c] e g) (Di i u):=by
 obtain⟨_,o,p⟩:=l;refine⟨_,ox d f k o m n,λU q h R W B H r D e s=>?_⟩;refine p q _ h R W B H r _ e λa t v w y A C E F G=>s.nx _ _ t v w (y.set i ⟨a,rfl,.inr C,E,F⟩ λb z _ j _=>?_) A;cases z;exact G j
end
inductive fR where
 |I|B|N|S|T (cy:List fR)|L (s:fR)
mutual
def has:fR->D->Bool
 |.I,.int _=>true
 |.B,.bl _=>true
 |.N,.non=>true
 |.S,.str _=>true
 |.T cy,.tup xs=>hass cy xs
 |.L s,.lst xs=>xs.all λx=>has s x
 |_,_=>false
def hass:List fR->OM->Bool
 |[],[]=>true
 |s::cy,x::xs=>has s x&&hass cy xs
 |_,_=>false
end
mutual
def f':fR->Nat
 |.T cy=>deps cy+1
 |.L s=>f' s+1
 |_=>0
def deps:List fR->Nat
 |[]=>0
 |s::cy=>max (f' s) (deps cy)
end
noncomputable def eqD(x y:D):Bool :=@decide (x=y) (Lq _)
theorem m9{x y:D}:eqD x y=true↔x=y:=by unfold eqD;exact @decide_eq_true_iff _ (Lq _)
theorem m'(x:D):eqD x x=true:=m9.mpr rfl
theorem kL{x y:D}{b:Bool}(h:b=true↔x=y):eqD x y=b:=by
 rw[My,m9,h]
section
variable{K:JS}{B:ak}
theorem eK{x:D}(h:has .I x=true):∃i,x=.int i:=by cases x<;>first|exact⟨_,rfl⟩|(simp[has]at h)
theorem o8{x:D}(h:has .B x=true):∃i,x=.bl i:=by cases x<;>first|exact⟨_,rfl⟩|(simp[has]at h)
theorem o9{x:D}(h:has .N x=true):x=.non:=by cases x<;>first|rfl|(simp[has]at h)
theorem eG{x:D}(h:has .S x=true):∃i,x=.str i:=by cases x<;>first|exact⟨_,rfl⟩|(simp[has]at h)
theorem o'{x:D}{a:List fR}(h:has (.T a) x=true):∃b,x=.tup b/\hass a b=true:=by
 cases x<;>first|exact⟨_,rfl,by simpa[has]using h⟩|(simp[has]at h)
theorem pa{x:D}{s:fR}(h:has (.L s) x=true):∃a,x=.lst a/\∀y∈a,has s y=true:=by
 cases x<;>first|exact⟨_,rfl,by simpa[has]using h⟩|(simp[has]at h)
theorem na:∀{a:List fR}{b:OM},hass a b=true->b.length=a.length
 |[],[],_=>rfl
 |[],_::_,h=>by simp[hass]at h
 |_::_,[],h=>by simp[hass]at h
 |s::a,x::b,h=>by
  simp[hass]at h;simp[na h.2]
mutual
theorem kM:∀(sh:fR){x y:D}{v:V},has sh x=true->has sh y=true->bz K B v x->bz K B v y->x=y
 |.I,x,y,v,ab,ae,au,aL=>by
  obtain⟨i,rfl⟩:=eK ab;obtain⟨j,rfl⟩:=eK ae
  have e:=au.d4.symm.trans aL.d4
  cases e;rfl
 |.B,x,y,v,ab,ae,au,aL=>by
  obtain⟨i,rfl⟩:=o8 ab;obtain⟨j,rfl⟩:=o8 ae
  have e:=au.hy.symm.trans aL.hy
  cases e;rfl
 |.N,x,y,v,ab,ae,au,aL=>by rw[o9 ab,o9 ae]
 |.S,x,y,v,ab,ae,au,aL=>by
  obtain⟨i,rfl⟩:=eG ab;obtain⟨j,rfl⟩:=eG ae
  cases au;cases aL;rfl
 |.T cy,x,y,v,ab,ae,au,aL=>by
  obtain⟨xs,rfl,aT⟩:=o' ab;obtain⟨ys,rfl,bJ⟩:=o' ae
  obtain⟨a,vs,rfl,av,hP⟩:=au.e2
  obtain⟨b,dY,e,af,g0⟩:=aL.e2
  cases e
  rw[av]at af;cases af
  rw[reps_fn cy aT bJ hP g0]
 |.L s,x,y,v,ab,ae,au,aL=>by
  obtain⟨xs,rfl,aT⟩:=pa ab;obtain⟨ys,rfl,bJ⟩:=pa ae
  obtain⟨a,vs,rfl,av,hP⟩:=au.ep
  obtain⟨b,dY,e,af,g0⟩:=aL.ep
  cases e
  rw[av]at af;cases af
  have:xs=ys:=by
   apply LV
   intro i
   cases r':xs[i]? with
   |none=>
    have:ys[i]?=none:=by
     have ab:=hP.length
     have ae:=g0.length
     have aV:=M5.mp r'
     exact M5.mpr (by lia)
    rw[this]
   |some d=>
    obtain⟨v,h5,cc⟩:=hP.get r'
    obtain⟨d',iK,Dk⟩:=g0.fa h5
    rw[iK,kM s (aT d (KQ r')) (bJ d' (KQ iK)) cc Dk]
  rw[this]
theorem reps_fn:∀(cy:List fR){xs ys:OM}{vs:OK},hass cy xs=true->hass cy ys=true->c9 K B vs xs->c9 K B vs ys->xs=ys
 |[],xs,ys,vs,ab,ae,au,aL=>by
  have ai:=na ab;have ap:=na ae
  rw[LW]at ai ap
  rw[M6 ai,M6 ap]
 |s::cy,[],ys,vs,ab,ae,au,aL=>by simp[hass]at ab
 |s::cy,x::xs,[],vs,ab,ae,au,aL=>by simp[hass]at ae
 |s::cy,x::xs,y::ys,vs,ab,ae,au,aL=>by
  simp[hass]at ab ae
  cases au with
  |cons cO b7=>cases aL with
   |cons cY df=>rw[kM s ab.1 ae.1 cO cY,reps_fn cy ab.2 ae.2 b7 df]
end
end
section
variable{X:aS}{c:OW}{f:St}{H B:ak}{s:KF}
theorem vW{xs ys:OM}{n:Nat}{e:Nat->Bool}(d:n=xs.length)(f:xs.length=ys.length)(a:∀j,j<n->(e j=true↔xs[j]?=ys[j]?)):((KA n).all e)=true↔xs=ys:=by
 rw[M7];constructor
 ·intro h;apply LV;intro i;by_cases b:i<n
  ·exact(a i b).mp (h i (Lk.mpr b))
  rw[KW (by lia),KW (by lia)]
 rintro rfl j c;exact(a j (Lk.mp c)).mpr rfl
noncomputable def h8(a b:OM)(j:Nat):Bool :=@decide (a[j]?=b[j]?) (Lq _)
theorem nb{a b:OM}{j:Nat}:h8 a b j=true↔a[j]?=b[j]?:=by unfold h8;exact @decide_eq_true_iff _ (Lq _)
theorem vX{xs ys:OM}{j:Nat}{x y:D}(a:xs[j]?=some x)(b:ys[j]?=some y):h8 xs ys j=eqD x y:=by
 rw[My,nb,m9,a,b];constructor
 ·intro h;exact Ki h
 intro h;rw[h]
structure Dl(A:NJ)(s:KF)(u w:KB)(x y:D):Prop where
 rc:SeqAt.RcAt A s u w (eqD x y)
 ne:SeqAt.RcNeAt A s u w (!eqD x y)
 eq:SeqAt.EqAt A s u w (eqD x y)
mutual
theorem nc(I:b_ X c f H s)(cX:b2 B H):∀(sh:fR){A:NJ}{x y:D}{v w:V}{u d0:KB},has sh x=true->has sh y=true->bz X.K B v x->bz X.K B w y->dx v u->dx w d0->A.units+f' sh<Oj->Dl A s u d0 x y
 |.I,A,x,y,v,w,u,d0,ab,ae,au,aL,d3,dP,hu=>by
  obtain⟨i,rfl⟩:=eK ab;obtain⟨j,rfl⟩:=eK ae
  cases au.d4;cases aL.d4
  obtain⟨t,rfl⟩:=d3;obtain⟨t',rfl⟩:=dP
  have e:eqD (.int i) (.int j)=(i==j):=kL (by simp)
  refine⟨?_,?_,?_⟩<;>rw[e]
  ·exact SeqAt.RcAt.int_int i t j t'
  ·exact SeqAt.RcNeAt.int_int i t j t'
  exact SeqAt.EqAt.int_int i t j t'
 |.B,A,x,y,v,w,u,d0,ab,ae,au,aL,d3,dP,hu=>by
  obtain⟨i,rfl⟩:=o8 ab;obtain⟨j,rfl⟩:=o8 ae
  cases au.hy;cases aL.hy
  cases d3;cases dP
  have e:eqD (.bl i) (.bl j)=(i==j):=kL (by simp)
  refine⟨?_,?_,?_⟩<;>rw[e]
  ·exact SeqAt.RcAt.bool_bool i j
  ·exact SeqAt.RcNeAt.bool_bool i j
  exact SeqAt.EqAt.bool_bool i j
 |.N,A,x,y,v,w,u,d0,ab,ae,au,aL,d3,dP,hu=>by
  cases o9 ab;cases o9 ae
  cases au.iM;cases aL.iM
  cases d3;cases dP
  have e:eqD .non .non=true:=m' _
  refine⟨?_,?_,?_⟩<;>rw[e]
  ·exact SeqAt.RcAt.none_none
  ·exact SeqAt.RcNeAt.none_none
  exact SeqAt.EqAt.same _
 |.S,A,x,y,v,w,u,d0,ab,ae,au,aL,d3,dP,hu=>by
  obtain⟨i,rfl⟩:=eG ab;obtain⟨j,rfl⟩:=eG ae
  cases au;cases aL
  obtain⟨t,rfl⟩:=d3;obtain⟨t',rfl⟩:=dP
  have e:eqD (.str i) (.str j)=(i==j):=kL (by simp)
  refine⟨?_,?_,?_⟩<;>rw[e]
  ·exact SeqAt.RcAt.str_str i t j t'
  ·exact SeqAt.RcNeAt.str_str i t j t'
  exact SeqAt.EqAt.str_str i t j t'
 |.T cy,A,x,y,v,w,u,d0,ab,ae,au,aL,d3,dP,hu=>by
  have pb:=au
  have pc:=aL
  obtain⟨xs,rfl,aT⟩:=o' ab;obtain⟨ys,rfl,bJ⟩:=o' ae
  obtain⟨a,vs,rfl,av,hP⟩:=au.e2
  obtain⟨b,dY,rfl,af,g0⟩:=aL.e2
  cases d3;cases dP
  obtain⟨its,bY,cN,_⟩:=I.tuple (dM.of (cX _ _ av))
  obtain⟨gU,bO,da,_⟩:=I.tuple (dM.of (cX _ _ af))
  have dB:f' (.T cy)=deps cy+1:=by simp[f']
  have iL:=na aT
  have pd:=na bJ
  have aP:=hP.length;have bf:=g0.length;have eZ:=bY.length;have hL:=bO.length
  have j4:=eqs_sh I cX cy (A:=A.in1) aT bJ hP g0 bY bO (by show A.units+1+deps cy<Oj;lia)
  have aq:∀j (ab:j<its.toArray.size) (ae:j<gU.toArray.size),SeqAt.EqAt A.in1 s its.toArray[j] gU.toArray[j] (h8 xs ys j):=λj aJ aX=>by
   have:=j4 j (by simpa using aJ) (by simpa using aX)
   simpa using this
  have e:eqD (.tup xs) (.tup ys)=((KA (min its.toArray.size gU.toArray.size)).all (h8 xs ys)&&its.toArray.size==gU.toArray.size):=by
   refine kL ?_
   have aG:its.toArray.size=xs.length:=by simp;lia
   have br:gU.toArray.size=xs.length:=by simp;lia
   rw[aG,br,Nat.min_self,M3]
   have:=vW (xs:=xs) (ys:=ys) (n:=xs.length) (e:=h8 xs ys) rfl (by lia) (λj _=>nb)
   constructor
   ·intro h;rw[this.mp h.1]
   intro h;cases h;exact⟨this.mpr rfl,by simp⟩
  have rc:SeqAt.RcAt A s (.ref a) (.ref b) (eqD (.tup xs) (.tup ys)):=by rw[e];exact SeqAt.RcAt.tuples cN da (by lia) aq
  refine⟨rc,by rw[e];exact SeqAt.RcNeAt.tuples cN da (by lia) aq,?_⟩
  by_cases hp:a=b
  ·subst hp
   have:=kM (.T cy) ab ae pb pc
   rw[this,m']
   exact SeqAt.EqAt.same _
  exact SeqAt.EqAt.of_refs hp rc
 |.L sh,A,x,y,v,w,u,d0,ab,ae,au,aL,d3,dP,hu=>by
  have pb:=au
  have pc:=aL
  obtain⟨xs,rfl,aT⟩:=pa ab;obtain⟨ys,rfl,bJ⟩:=pa ae
  obtain⟨a,vs,rfl,av,hP⟩:=au.ep
  obtain⟨b,dY,rfl,af,g0⟩:=aL.ep
  cases d3;cases dP
  obtain⟨its,bY,cP,_⟩:=I.list (cf.of (cX _ _ av))
  obtain⟨gU,bO,de,_⟩:=I.list (cf.of (cX _ _ af))
  have cN:=cP.isList
  have da:=de.isList
  have dB:f' (.L sh)=f' sh+1:=by simp[f']
  have aP:=hP.length;have bf:=g0.length;have eZ:=bY.length;have hL:=bO.length
  have aq:∀j (ab:j<its.toArray.size) (ae:j<gU.toArray.size),SeqAt.EqAt A.in1 s its.toArray[j] gU.toArray[j] (h8 xs ys j):=λj aJ aX=>by
   have Dm:j<its.length:=by simpa using aJ
   have Dn:j<gU.length:=by simpa using aX
   obtain⟨cS,ai,Do⟩:=bY.gN (Km Dm)
   obtain⟨c',ap,Dp⟩:=bO.gN (Km Dn)
   obtain⟨c1,bg,Dq⟩:=hP.fa ai
   obtain⟨ca,bu,Dr⟩:=g0.fa ap
   rw[vX bg bu]
   have:=(nc I cX sh (A:=A.in1) (aT c1 (KQ bg)) (bJ ca (KQ bu)) Dq Dr Do Dp (by show A.units+1+f' sh<Oj;lia)).eq
   simpa using this
  by_cases j5:its.toArray.size=gU.toArray.size
  ·have aG:its.toArray.size=xs.length:=by simp;lia
   have br:xs.length=ys.length:=by simp at j5;lia
   have e:eqD (.lst xs) (.lst ys)=(KA its.toArray.size).all (h8 xs ys):=by
    refine kL ?_
    rw[vW (xs:=xs) (ys:=ys) aG br (λj _=>nb)]
    constructor
    ·intro h;rw[h]
    intro h;cases h;rfl
   have rc:SeqAt.RcAt A s (.ref a) (.ref b) (eqD (.lst xs) (.lst ys)):=by rw[e];exact SeqAt.RcAt.lists cN da j5 (by lia) aq
   refine⟨rc,by rw[e];exact SeqAt.RcNeAt.lists cN da j5 (by lia) aq,?_⟩
   by_cases hp:a=b
   ·subst hp
    have:=kM (.L sh) ab ae pb pc
    rw[this,m']
    exact SeqAt.EqAt.same _
   exact SeqAt.EqAt.of_refs hp rc
  have e:eqD (.lst xs) (.lst ys)=false:=kL (by
   constructor
   ·intro h;cases h
   intro h;cases h;simp at j5;lia)
  have nf:(its.toArray.size != gU.toArray.size)=true:=by simpa using j5
  have rc:SeqAt.RcAt A s (.ref a) (.ref b) (eqD (.lst xs) (.lst ys)):=by rw[e];exact SeqAt.RcAt.lists_lengths cN da nf (by lia)
  refine⟨rc,by rw[e];exact SeqAt.RcNeAt.lists_lengths cN da nf (by lia),?_⟩
  refine SeqAt.EqAt.of_refs (λhp=>?_) rc
  subst hp
  have:=kM (.L sh) ab ae pb pc
  cases this
  simp at j5;lia
theorem eqs_sh(I:b_ X c f H s)(cX:b2 B H):∀(cy:List fR){A:NJ}{xs ys:OM}{vs dY:OK}{aK kN:OS},hass cy xs=true->hass cy ys=true->c9 X.K B vs xs->c9 X.K B dY ys->bG vs aK->bG dY kN->A.units+deps cy<Oj->
  ∀j (ab:j<aK.length) (ae:j<kN.length),SeqAt.EqAt A s aK[j] kN[j] (h8 xs ys j)
 |[],A,[],ys,_,_,_,_,ab,ae,.nil,aL,.nil,dP,hu,j,aJ,aX=>absurd aJ (by simp)
 |[],A,x::xs,ys,_,_,_,_,ab,ae,au,aL,d3,dP,hu,j,aJ,aX=>by simp[hass]at ab
 |s::cy,A,[],ys,vs,dY,aK,kN,ab,ae,au,aL,d3,dP,hu,j,aJ,aX=>by simp[hass]at ab
 |s::cy,A,x::xs,[],vs,dY,aK,kN,ab,ae,au,aL,d3,dP,hu,j,aJ,aX=>by simp[hass]at ae
 |s::cy,A,x::xs,y::ys,v::vs,w::dY,u::aK,d0::kN,ab,ae,.cons cO b7,.cons cY df,.cons c1 dB,.cons ca gs,hu,0,aJ,aX=>by
  have sb:has s x=true:=by simp[hass]at ab;exact ab.1
  have se:has s y=true:=by simp[hass]at ae;exact ae.1
  have pe:deps (s::cy)=max (f' s) (deps cy):=by simp[deps]
  have:=(nc I cX s (A:=A) sb se cO cY c1 ca (by lia)).eq
  rw[vX (xs:=x::xs) (ys:=y::ys) (j:=0) rfl rfl]
  exact this
 |s::cy,A,x::xs,y::ys,v::vs,w::dY,u::aK,d0::kN,ab,ae,.cons cO b7,.cons cY df,.cons c1 dB,.cons ca gs,hu,j+1,aJ,aX=>by
  have sb:hass cy xs=true:=by simp[hass]at ab;exact ab.2
  have se:hass cy ys=true:=by simp[hass]at ae;exact ae.2
  have pe:deps (s::cy)=max (f' s) (deps cy):=by simp[deps]
  have:=eqs_sh I cX cy (A:=A) sb se b7 df dB gs (by lia) j (by simpa using aJ) (by simpa using aX)
  have e:h8 (x::xs) (y::ys) (j+1)=h8 xs ys j:=by
   rw[My,nb,nb];simp
  rw[e]
  exact this
end
def sf(K:JS)(a:Bool):f2:=λx y H Q=>∃B d e sh,bz K B x d/\bz K B y e/\b2 B H/\has sh d=true/\has sh e=true/\f' sh<=50/\Q (.bl (if a then !eqD d e else eqD d e)) H
theorem vY(m:X.A.units+64<Oj):ee X (NM .Eq) (sf X.K false):=by
 intro c s f H x y v u Q I a b h;obtain⟨B,d,e,sh,g,i,j,k,l,n,q⟩:=h;exact(nc I j sh (A:=X.A) k l g i a b (by lia)).rc _ _ _ _ ⟨.bl _,H,I,rfl,q⟩
theorem Ds(m:X.A.units+64<Oj):ee X (NM .NotEq) (sf X.K true):=by
 intro c s f H x y v u Q I a b h;obtain⟨B,d,e,sh,g,i,j,k,l,n,q⟩:=h;exact(nc I j sh (A:=X.A) k l g i a b (by lia)).ne _ _ _ _ ⟨.bl _,H,I,rfl,q⟩
def vZ(K:JS)(g:Bool):f2:=λx y H Q=>∃B d a sh,bz K B x d/\(bz K B y (.lst a)\/bz K B y (.tup a))/\b2 B H/\has sh d=true/\(∀e∈a,has sh e=true)/\f' sh<=50/\∀b:Bool,(b=true↔d∈a)->Q (.bl (if g then !b else b)) H
noncomputable def jo(K:JS)(B:ak)(sh:fR)(d:D)(u:KB):Bool :=@decide (∃v,dx v u/\bz K B v d) (Lq _)
theorem sg{K:JS}{sh:fR}{d:D}{u:KB}:jo K B sh d u=true↔∃v,dx v u/\bz K B v d:=by unfold jo;exact @decide_eq_true_iff _ (Lq _)
theorem v0{v w:V}{u:KB}(a:dx v u)(b:dx w u):v=w:=by
 cases v<;>cases w<;>simp only[dx]at a b<;>first
  |rfl
  | (obtain⟨t,rfl⟩:=a;obtain⟨c,e⟩:=b;cases e;rfl)
  | (obtain⟨t,rfl⟩:=a;obtain⟨c,e⟩:=b;cases e;done)
  | (obtain⟨t,rfl⟩:=a;cases b;done)
  | (obtain⟨t,rfl⟩:=b;cases a;done)
  | (subst a;cases b;rfl)
  | (subst a;cases b;done)
theorem v1{K:JS}{sh:fR}{d:D}{g:OK}{b:OM}{a:OS}(i:has sh d=true)(k:∀e∈b,has sh e=true)(r:c9 K B g b)(l:bG g a):a.toArray.any (jo K B sh d)=true↔d∈b:=by
 rw[show a.toArray.any (jo K B sh d)=a.any (jo K B sh d) by simp,List.any_eq_true];constructor
 ·rintro⟨u,n,z⟩;obtain⟨v,o,c⟩:=sg.mp z;obtain⟨j,f⟩:=LU n;obtain⟨w,p,q⟩:=l.gN f;cases v0 o q;obtain⟨e,s,t⟩:=r.fa p;have h:=KQ s;rw[kM sh i (k e h) c t];exact h
 intro m;obtain⟨j,f⟩:=LU m;obtain⟨v,x,c⟩:=r.get f;obtain⟨u,y,A⟩:=l.get x;exact⟨u,KQ y,sg.mpr ⟨v,A,c⟩⟩
theorem v2(I:b_ X c f H s)(n:b2 B H){A:NJ}{sh:fR}{d:D}{h:OK}{i:OM}{a:OS}{x:V}{v:KB}(k:has sh d=true)(o:∀e∈i,has sh e=true)(p:bz X.K B x d)(t:dx x v)(r:c9 X.K B h i)(l:bG h a)(u:A.units+f' sh<Oj):∀y,y∈a.toArray->SeqAt.EqAt A s y v (jo X.K B sh d y):=λy C=>by
 obtain⟨j,E⟩:=LU (show y∈a by simpa using C);obtain⟨w,F,b⟩:=l.gN E;obtain⟨e,G,g⟩:=r.fa F;have m:=o e (KQ G);have q:=(nc I n sh (A:=A) m k g p b t u).eq
 have z:eqD e d=jo X.K B sh d y:=kL (by
  rw[sg];constructor
  ·rintro⟨M,J,L⟩;cases v0 J b;exact kM sh m k g L
  rintro rfl
  exact⟨w,b,g⟩)
 rw[<-z];exact q
theorem Du(w:X.A.units+64<Oj):ee X (NM .In) (vZ X.K false):=by
 intro c s f H x y v u Q I o p h;obtain⟨B,d,z,sh,r,b,i,j,k,C,q⟩:=h;rcases b with b|b
 ·obtain⟨a,t,rfl,l,e⟩:=b.ep;cases p;obtain⟨m,g,n,_⟩:=I.list (cf.of (i _ _ l));exact SeqAt.in_listAt (jo X.K B sh d) n.isList (v2 I i (A:=X.A.in1) j k r o e g (by show X.A.units+1+_<Oj;lia)) ⟨.bl _,H,I,rfl,q _ (v1 j k e g)⟩
 obtain⟨a,t,rfl,l,e⟩:=b.e2;cases p;obtain⟨m,g,n,_⟩:=I.tuple (dM.of (i _ _ l));exact SeqAt.in_tupleAt (jo X.K B sh d) n (v2 I i (A:=X.A.in1) j k r o e g (by show X.A.units+1+_<Oj;lia)) ⟨.bl _,H,I,rfl,q _ (v1 j k e g)⟩
end
section
variable{K:JS}{X:aS}{a b:Nu}{d c:a9}{f:Pos}
def pf(g:Bool)(d c:a9):a9:=λe k=>d e λx=>c e λy=>∃sh,has sh x=true/\has sh y=true/\f' sh<=50/\k (.bl (if g then !eqD x y else eqD x y))
def v3(i:Bool)(d c:a9):a9:=λh k=>d h λx=>c h λy=>∃sh g,(y=.lst g\/y=.tup g)/\has sh x=true/\(∀e∈g,has sh e=true)/\f' sh<=50/\∀b:Bool,(b=true↔x∈g)->k (.bl (if i then !b else b))
theorem sj{ta a:bx}{b:Bool}(f:dD K ta d)(g:dD K a c):dD K (ja (sf K b) ta a) (pf b d c):=
 mZ f g λx y k h R W B H p r v w Q e i j q=>by
  obtain⟨sh,l,m,n,o⟩:=h;exact⟨B,x,y,sh,i,j,e.bh,l,m,n,q _ _ B H o e (bE.refl _ _) (.bl _)⟩
theorem Dv{ta f:bx}{g:Bool}(j:dD K ta d)(a:dD K f c):dD K (ja (vZ K g) ta f) (v3 g d c):=
 mZ j a λx y k h R W B H t u v w Q e l i q=>by
  obtain⟨sh,m,n,o,p,r,s⟩:=h;refine⟨B,x,m,sh,l,?_,e.bh,o,p,r,λb a=>q _ _ B H (s b a) e (bE.refl _ _) (.bl _)⟩;rcases n with rfl|rfl
  ·exact .inl i
  exact .inr i
theorem Dw(e:X.A.units+64<Oj)(g:bc X a d)(h:bc X b c)(i:NB .Eq b=false):bc X (.Compare a [.Eq] [b] f) (pf false d c):=by
 obtain⟨_,j,k⟩:=g;obtain⟨_,l,m⟩:=h;exact⟨_,rq (vY e) j l i,sj k m⟩
theorem Dx(e:X.A.units+64<Oj)(g:bc X a d)(h:bc X b c)(i:NB .Eq b=false):fN X (.Compare a [.Eq] [b] f) (lJ (pf false d c)):=by
 obtain⟨_,j,k⟩:=g;obtain⟨_,l,m⟩:=h;exact⟨_,lw (vY e) j l i,m1 (sj k m)⟩
theorem Dy(e:X.A.units+64<Oj)(g:bc X a d)(h:bc X b c)(i:NB .NotEq b=false):fN X (.Compare a [.NotEq] [b] f) (lJ (pf true d c)):=by
 obtain⟨_,j,k⟩:=g;obtain⟨_,l,m⟩:=h;exact⟨_,lw (Ds e) j l i,m1 (sj k m)⟩
theorem sk(e:X.A.units+64<Oj)(g:bc X a d)(h:bc X b c)(i:NB .In b=false):fN X (.Compare a [.In] [b] f) (lJ (v3 false d c)):=by
 obtain⟨_,j,k⟩:=g;obtain⟨_,l,m⟩:=h;exact⟨_,lw (Du e) j l i,m1 (Dv k m)⟩
end
theorem Dz{K:JS}{P:Ny}{w:NE}{y:Str->Option KB}{c:NH}{x j:Str}{st:NI}{f:KT}{C:NP}{N l:OR}{lv n:Nat}{F:ci}(L:iA K x j st f C)(S:cM N l (b9 st))(M:l.length=n)(O:∀(b:KB)(A:NJ)(a:List Le)(s:KF)(H:ak)(E:eT),d1 lv (A.deeper (M0 j (b9 st) s.heap.objs.size f b))->∃u,hl (jb h2 P w K y c N j (b9 st) f b A a s H E).hK (h1 st) u/\∀d k,d.length=n->F d k->u {nx:=λ_=>k (.val .non),rt:=k} (d++Kp (N.length-n) .no)):gT P w K y c h2 (lv+1) f C l (cj K n F):=by
 refine L.ok S (λI H Q E h=>?_) (λb A a s H I Q E R h=>?_)
 ·obtain⟨W,B,d,k,_,i,_,_,_,m,_⟩:=h;rw[m.length,i,M]
 obtain⟨W,B,d,k,T,i,U,X,Y,m,q⟩:=h;obtain⟨u,⟨t,Z,G⟩,ab⟩:=O b A a s H E R;have J:=aW.start (N:=N) (M1 U) X Y m;rw[i]at J;refine⟨t,Z,G _ _ (ab d k i T) H W B H (L3.et N I) _ J ⟨λag ah o p h e g=>?_,λ_ _ _ _ h=>h.elim,λ_ _ _ _ h=>h.elim,λr v o p h e g z=>q r v o p h ⟨e,g,z⟩⟩⟩;exact q _ _ o p h ⟨e.toWd,g,.non⟩
def ph(K:JS):f3:=λc H Q _=>∃(a:KT)(b:OO),c=[.ref a]/\cf K H a (b.map V.int)/\b.length<=63/\∀d,Q (.bl true) d
def v4:ci:=λb k=>∃a:OO,b=[.val (.scr a)]/\a.length<=63/\k (.val (.bl true))
theorem DA{K:JS}{b:OK}{H:ak}{Q:b5}{E:eT}(h:ph K b H Q E):cj K 1 v4 b H Q E:=by
 obtain⟨a,c,rfl,d,e,q⟩:=h;refine⟨λ_=>False,H,[.val (.scr c)],λr=>r=.val (.bl true),⟨c,rfl,e,rfl⟩,rfl,rfl,b2.refl _,λ_ z=>z.elim,.val (.scr d) .nil,λr v j f g i=>?_⟩;subst g;have:=i.res;rw[bz.hy this];exact q f
def v5(K:JS):f3:=λb H Q _=>∃(a:KT)(k:Int)(c:OO),b=[.ref a,.int k]/\cf K H a (c.map V.int)/\0<=k/\∀z,Q (.int z) H
def v6:ci:=λa k=>∃(b:OO)(i:Int),a=[.val (.scr b),.val (.int i)]/\0<=i/\∀z:Int,k (.val (.int z))
theorem Wd.entry{H B:ak}{W:KT->Prop}(c:b2 B H)(b:∀a,W a->B a=none/\eI H a):Wd H W B H:=
 ⟨λ_ _ h _=>h,c,λa h=>(b a h).1,λa h=>(b a h).2,λa h=>by obtain⟨x,y,q,_⟩:=(b a h).2;rw[q];simp⟩
theorem DB{K:JS}{c:OK}{H:ak}{Q:b5}{E:eT}(h:cj K 2 v6 c H Q E):v5 K c H Q E:=by
 obtain⟨W,B,o,k,⟨e,i,rfl,f,g⟩,p,r,d,j,b,q⟩:=h;cases b with
 |val l b=>cases b with
  |val m b=>
   cases b;obtain⟨a,rfl,n⟩:=l.hJ;cases m.d4;exact⟨a,i,e,rfl,d.seq n,f,λz=>q _ _ B H (g z) ⟨Wd.entry d j,bE.refl _ _,.int z⟩⟩
def v7:f3:=λa H Q _=>∃c:Int,a=[.int c]/\∀(b:KT)(x y:Int),H b=none->0<=x->0<=y->y<2147483647->Q (.ref b) (dQ H b (.lst [.int x,.int y]))
def v8:ci:=λa k=>∃c:Int,a=[.val (.int c)]/\k .bag
theorem DC{K:JS}{e:OK}{H:ak}{Q:b5}{E:eT}(h:cj K 1 v8 e H Q E):v7 e H Q E:=by
 obtain⟨W,B,p,k,⟨c,rfl,g⟩,r,s,i,j,a,q⟩:=h;cases a with
 |val l a=>
  cases a;cases l.d4;refine⟨c,rfl,λb x y d m n o=>?_⟩;have f:=Wd.entry i j;exact q .bag _ B _ g ⟨f.eA d _,bE.refl _ _,b,rfl,d,(f.fresh d).2.2,x,y,fq,m,n,o⟩
def v9(a:Nat):f3:=λd H Q _=>∃(b:KT)(m:Int),d=[.ref b,.int m]/\eI H b/\0<m/\KM m<=a/\∀(r:Int)(c:ak),mV b H c->eI c b->0<=r->r<m->Q (.int r) c
def v'(a:Nat):ci:=λb k=>∃m:Int,b=[.bag,.val (.int m)]/\0<m/\KM m<=a/\∀r:Int,0<=r->r<m->k (.val (.int r))
theorem DD{K:JS}{d:Nat}{n:OK}{H:ak}{Q:b5}{E:eT}(h:cj K 2 (v' d) n H Q E):v9 d n H Q E:=by
 obtain⟨W,B,I,k,⟨m,rfl,t,u,v⟩,J,L,p,g,f,q⟩:=h;cases f with
 |bag i f=>cases f with
  |val w f=>
   cases f;cases w.d4
   rename_i b
   refine⟨b,m,rfl,(g b i).2,t,u,λr A j C F G=>?_⟩;have s:=Wd.entry p g;refine q _ _ B A (v r F G) ⟨⟨λa o c l=>j a o (by rintro rfl;exact l i) c,λa o c=>j a o (by rintro rfl;rw[(g _ i).1]at c;cases c) (p a o c),s.wb,λa z=>?_,s.wr⟩,bE.refl _ _,.int r⟩;by_cases e:a=b
   ·subst e;exact C
   obtain⟨x,y,c,l⟩:=(g a z).2;exact⟨x,y,j a _ e c,l⟩
theorem jq{c:Bool}{A B:Prop}(h:c=true)(a:A):if c=true then A else B:=by rw[M2 h];exact a
theorem g4{c:Bool}{A B:Prop}(h:c=false)(b:B):if c=true then A else B:=by rw[h,No Ke];exact b
theorem DE{x y:D}{A B:Prop}(a:x≠y->A)(b:x=y->B):if(!eqD x y)=true then A else B:=by
 by_cases h:x=y
 ·rw[m9.mpr h];exact b h
 have:eqD x y=false:=by
  cases q:eqD x y with
  |false=>rfl
  |true=>exact absurd (m9.mp q) h
 rw[this];exact a h
theorem dG{u:cw}{U:gu}{a r:OL}(e:a=r)(h:u U r):u U a:=by rw[e];exact h
theorem kO{s t:cw}{U:gu}{b:OL}(first:∀N:OL->Prop,N b->s {U with nx:=N} b)(a:t U b):lM s t U b:=first (t U) a
theorem hq{s t:cw}{U:gu}{c:OL}(I:OL->Prop)(a:∀b,I b->t U b)(first:∀N:OL->Prop,(∀b,I b->N b)->s {U with nx:=N} c):lM s t U c:=first _ a
section
variable{X:aS}
theorem hr{a cs:List (Str×KT)}(h:∀p∈a,cs.lookup p.1=some p.2):∀y c,a.lookup y=some c->cs.lookup y=some c:=λy c e=>h (y,c) (Lc e)
theorem hS{a:List (Str×Ol)}{b:List (Str×KT)}(h:(a.all λp => !(p.2==.cell||p.2==.free)||(b.lookup p.1).isSome)=true):∀y,(a.lookup y=some .cell\/a.lookup y=some .free)->∃c,b.lookup y=some c:=λy e=>by
 have key:∀k:Ol,(k==.cell||k==.free)=true->a.lookup y=some k->∃c,b.lookup y=some c:=λk d e=>by
  have q:=M7.mp h (y,k) (Lc e);have q:(!(k==.cell||k==.free)||(b.lookup y).isSome)=true:=q;rw[d]at q;exact MT.mp (by simpa using q)
 rcases e with e|e
 ·exact key _ rfl e
 exact key _ rfl e
end
def h9(X:aS)(c:OU)(d:c2):Prop:=∀(b:OW)(s:KF)(a:St)(H:ak)(Q:Bool->ak->Prop),b_ X b a H s->d a H Q->
 wpAny (Nz X.prog X.w) X.A (forIn c true λt r=>if r=true then do let z <-OC t X.env (Op t X.env);pure (LX z)else pure (LX r)) (ot X b a Q) X.xe s
def DF:c2:=λ_ H Q=>Q true H
theorem DG{X:aS}:h9 X [] DF:=λ_ _ _ H _ I h=>wpAny_tests_nil ⟨H,I,h⟩
theorem DH{X:aS}{c:Nu}{a:c2}(h:gh X c a):h9 X [c] a:=λb s d H Q I q=>wpAny_tests_one (h b s d H Q I q)
def DI(J:fZ)(g:eo)(k:c2)(l:bx)(n:St)(D:KT)(o:ak)(Q:b5):Prop:=∃W:Nat->Nat->St->ak->Prop,(∃m,W 0 m n (dQ o D (.lst [])))/\∀i m e H,W i m e H->
 (J.stop i H/\Q (.ref D) H)\/(J.go i H/\∀x f,J.ix i H x f->g x e f λc p=>k c p λb h=>if b=true then l c h λy j=>∃d,j D=some (.lst d)/\d.length<Np/\∃a,a<m/\W (i+1) a c (dQ j D (.lst (d++[y])))else ∃a,a<m/\W (i+1) a c h)
def sn(wi:fG)(g:eo)(c:c2)(d:bx)(e:Nat)(f:OP):bx:=λa H Q=>wi a H λJ b=>∀D,b D=none->DI J g c d (Kp e none++gq a f) D b Q
abbrev jr:=St->ak->(St->ak->Prop)->Prop
def ni(Y:aS)(f:Sem Fin->Sem Fin)(em:jr):Prop:=∀(a:OW)(s:KF)(b:St)(H:ak)(Q:St->ak->Prop)(k:Sem Fin)(R:Fin->KF->Prop)(E:KB->KF->Prop),b_ Y a b H s->em b H Q->
 (∀c d e,b_ Y a d e c->Q d e->wpAny (Nz Y.prog Y.w) Y.A k R E c)->wpAny (Nz Y.prog Y.w) Y.A (f k) R E s
def nj(e:Nu)(d:Nat)(g f:Nu)(h:OU)(i:Sem Fin->Sem Fin)(c b:KB)(a:Le):Sem Fin:=
 OD f.pos >>= λ_=>pyNext c >>= λr=>match r with
  |none=>pure (Fin.done .next)
  |some v=>NV g c v >>= λ_=>Ov g a v >>= λ_=>
   (forIn h true λt r=>if r=true then do let z <-OC t a (Op t a);pure (LX z)else pure (LX r)) >>= λok=>
    if ok=true then i (again (.compLoop e d c b a))else again (.compLoop e d c b a)
def wa(c:Nu)(a:KB)(b:Le)(k:Sem Fin):Sem Fin:=(Op c b >>= λx=>call (.builtin "list.append") [a,x] >>= λ_=>pure ()) >>= λ_=>k
section
variable{Y:aS}{f p t:Nu}{a:List N5}{C:OU}{sc:N0}{o:Pos}{d:Nat}{c:KB}{wi:fG}{g:eo}{l:c2}{j:bx}{em:jr}{B:Sem Fin->Sem Fin}
def so(j:bx)(D:KT):jr:=λe H Q=>j e H λy h=>∃b,h D=some (.lst b)/\b.length<Np/\Q e (dQ h D (.lst (b++[y])))
def wc(J:fZ)(g:eo)(l:c2)(em:jr)(W:Nat->Nat->St->ak->Prop)(r:St->ak->Prop):Prop:=∀i m h H,W i m h H->
 (J.stop i H/\r h H)\/(J.go i H/\∀x n,J.ix i H x n->g x h n λk s=>l k s λb q=>if b=true then em k q λu v=>∃e,e<m/\W (i+1) e u v else ∃e,e<m/\W (i+1) e k q)
theorem DK{L:KT}{J:fZ}{x:OT}{O:Nat->NH->Prop}(aL:OA (.ListComp f a sc o) d (.ref L) c Y.env=nj (.ListComp f a sc o) d p t C B (.ref L) c Y.env)(T:lq Y.prog Y.w Y.K p J x L O)(av:∀e s,¬Y.xe e s)(aw:Y.calm=true)(aN:gk Y p g)(aP:h9 Y C l)(aQ:ni Y B em){j:OW}{W:Nat->Nat->St->ak->Prop}{QS:St->ak->Prop}{aA:Nat}{s:KF}{U:St}{H:ak}(I:b_ Y j U H s)(st:O 0 s.heap)(aC:∀b∈x,gO Y j H b)(aT:W 0 aA U H)(M:wc J g l em W QS){R:Result->KF->Prop}(aV:∀y k h,b_ Y j k h y->QS k h->R (.ok .next) y):
  codeAny (Nz Y.prog Y.w) Y.A (.compLoop (.ListComp f a sc o) d (.ref L) c Y.env) R s:=by
 have X:∀{h:ak},(∀b∈x,h b=none)->∀b∈x,gO Y j h b:=λaX b m=>⟨aX b m,(aC b m).2⟩;refine codeAny_loop rfl (λn y=>∃i k h,b_ Y j k h y/\O i y.heap/\(∀b∈x,h b=none)/\W i n k h) (λn Z aZ=>?_) aA ⟨0,U,H,I,st,λb m=>(aC b m).1,aT⟩;show wpAny _ Y.A (Sem.onRaise (OA (.ListComp f a sc o) d (.ref L) c Y.env) _) _ _ Z
 rw[aL];unfold nj;refine wpAny_noted (Nt (N2 (Nt ?_)));obtain⟨i,P,ab,aD,aF,aG,a3⟩:=aZ;rcases M i n P ab a3 with⟨stop,q⟩|⟨a4,step⟩
 ·refine NN (T.done Y rfl rfl rfl aw i j Z P ab (λ_ _=>False) aD (X aG) aF stop) (λr a5 ⟨ae,a6⟩=>?_) (λ_ _ z=>z.elim);subst ae;exact NA (aV _ _ _ a6 q)
 refine NN (T.item Y rfl rfl rfl aw i j Z P ab (λ_ _=>False) aD (X aG) aF a4) (λr a5 ⟨u,ae,a'⟩=>?_) (λ_ _ z=>z.elim);subst ae;refine Nt (NN a' (λ_ aH ⟨v,aJ,bb,bf,bg,vs,bj⟩=>?_) (λ_ _ z=>z.elim));have bo:=bb.pinned (X bj) (T.obj _ _ vs)
 have back:∀{E:KF}{Q:St}{F:ak}{ah:Nat},b_ Y (j++mC x aH.heap) Q F E->W (i+1) ah Q F->∃i k h,b_ Y j k h E/\O i E.heap/\(∀b∈x,h b=none)/\W i ah k h:=λ{E Q F ah} G N=>by
  refine⟨i+1,Q,F,G.eb,T.keep _ _ _ vs λb m ai ao=>(G.pin (b,ai) (Kg _ (Kg _ (oz m ao)))).1,λb m=>?_,N⟩;obtain⟨ai,ao,_⟩:=T.obj _ _ vs b m;exact(G.pin (b,ai) (Kg _ (Kg _ (oz m ao)))).2.1
 refine Nt (NN (aN _ aH P aJ v u _ bo bf (step v aJ bg)) (λ_ br ⟨aK,bu,bA,bD⟩=>?_) (λ_ _ z=>(av _ _ z).elim));refine Nt (NN (aP _ br aK bu _ bA bD) (λb E ⟨F,G,S⟩=>?_) (λ_ _ z=>(av _ _ z).elim));cases b with
 |false=>
  rw[No Ke]at S⊢;obtain⟨aq,au,N⟩:=S;exact NA ⟨rfl,aq,au,back G N⟩
 |true=>
  rw[M2 rfl]at S⊢;refine aQ _ E aK F _ _ _ _ G S λy k h c1 tb=>?_;obtain⟨aq,au,N⟩:=tb;exact NA ⟨rfl,aq,au,back c1 N⟩
theorem wf{D:KT}(i:bK Y f j)(a:∀e s,¬Y.xe e s):ni Y (wa f (.ref D) Y.env) (so j D):=by
 intro b s c H Q k R E I h l;unfold wa;refine Nt (Nt (NN (i b s c H _ I h) (λm n ⟨y,d,o,p,g,q,r,t⟩=>?_) (λ_ _ z=>(a _ _ z).elim)));have mt:=u7 (X:=Y) b n c d (.ref D) [y] (.ref D) [m] (λ_ u=>u=dQ d D (.lst (g++[y]))) o rfl (.cons p .nil) ⟨D,g,y,rfl,rfl,q,r,rfl⟩;refine Nt (NN mt (λ_ x ⟨_,A,v,_,w⟩=>?_) (λ_ _ z=>(a _ _ z).elim));subst w;exact NA (l _ _ _ v t)
end
section
variable{X:aS}
structure kQ(X:aS)(scope:N0)(bD:List (Str×KT))(fr:OR)(js:OP):Prop where
 jP:closureFor scope X.env=pure bD
 cell:∀y∈scope.names,y.2≠.cell
 kind:scope.kind=.function
 names:∀y∈scope.names,y.2=.local->scope.names.lookup y.1=some .local
 sub:∀y c,bD.lookup y=some c->X.env.cells.lookup y=some c
 has:∀y,((relabel scope X.env).names.lookup y=some .cell\/(relabel scope X.env).names.lookup y=some .free)->∃c,bD.lookup y=some c
 ke:∀(i:Nat)(y:Str),fr[i]?=some y->∃j:Nat,js[i]?=some j/\X.N[j]?=some y/\X.env.kindOf y=some .cell/\((relabel scope X.env).names.lookup y=some .cell\/(relabel scope X.env).names.lookup y=some .free)/\∃c,bD.lookup y=some c
 len:js.length=fr.length
end
def D2(J:fZ)(g:eo)(a:c2)(em:KT->jr)(b:St)(D:KT)(c:ak)(Q:b5):Prop:=∃W:Nat->Nat->St->ak->Prop,(∃m,W 0 m b (dQ c D (.lst [])))/\wc J g a (em D) W λ_ H=>Q (.ref D) H
def sr(wi:fG)(g:eo)(c:c2)(em:KT->jr)(d:Nat)(e:OP):bx:=λa H Q=>wi a H λJ b=>∀D,b D=none->D2 J g c em (Kp d none++gq a e) D b Q
section
variable{X:aS}
theorem wj{ay M P:Nu}{n:List N5}{Z:OU}{G:Pos}{a:N0}{B:List (Str×KT)}{E K:OR}{aK:OP}{wi:fG}{g:eo}{bo:c2}{em:KT->jr}{c1:KB->Le->Sem Fin->Sem Fin}{use:Option (KB->Sem Unit)}{RQ:KB->KF->Prop}{QE:b5}(b':hX X P M wi)(cb:∀C s H aC,gk (dj X (E++K) a B C s H aC) P g)(cc:∀C s H aC,h9 (dj X (E++K) a B C s H aC) Z bo)(ck:∀D C s H aC,ni (dj X (E++K) a B C s H aC) (c1 (.ref D) (N' a B C X.env)) (em D))(cm:∀aD acc env,OA (.ListComp ay (⟨P,M,Z,0⟩::n) a G) 0 aD acc env=nj (.ListComp ay (⟨P,M,Z,0⟩::n) a G) 0 P M Z (c1 acc env) aD acc env)(F:kQ X a B K aK)(cp:X.calm=true)(cy:∀v,Nx M X.env v=pure v){au:OW}{s:KF}{N:St}{H:ak}(I:b_ X au N H s)(h:sr wi g bo em E.length aK N H QE)(tb:Sem KB)(cC:tb=newList [])(cG:Pos)(cI:∀(D C:KT)(Q:ak)(R:KF)(m:Str->Option KB),R.heap.Ns C m->Q C=none->C≠X.env.locals->X.s₀.heap.objs.size<=C->(∀x c,X.env.cells.lookup x=some c->c≠C)->(∀p∈X.pn++au,p.1≠C)->C∉X.fs->(∀h':NH,(∀b u,b≠C->R.heap.get? b=some u->h'.get? b=some u)->b_ X au N Q {R with heap:=h' })->QE (.ref D) Q->compPost (Nz X.prog X.w) X.A X.xe use RQ (.ref D) C (.ok .next) R):
  wpAny (Nz X.prog X.w) X.A (comprehension (.ListComp ay (⟨P,M,Z,0⟩::n) a G) a X.env cG tb false (Op M X.env) use) RQ X.xe s:=by
 refine wpAny_comprehension_free (use:=use) rfl cy F.jP F.kind F.names (bW (b' au s N H _ I h) λks dA av=>bW av λdB L a3=>?_);obtain⟨aD,O,cN,J,a',rfl,bC,T,aH,bH,a3⟩:=a3;have bN:a' L.heap.objs.size=none:=bC.fresh;obtain⟨W,⟨dC,bb⟩,S⟩:=a3 _ bN;rw[cC];refine wpAny_newObj_type ?_;have d:b_ X au N (dQ a' L.heap.objs.size (.lst [])) {L with heap:=L.heap.push {cls:=.type "list",data:=.seq ([]:OS).toArray} }:=bC.iY (t':=L.toks) (its:=[]) .nil oe;generalize cO:({L with heap:=L.heap.push {cls:=.type "list",data:=.seq ([]:OS).toArray} }:KF)=f at d;have bO:f.heap=L.heap.push {cls:=.type "list",data:=.seq ([]:OS).toArray}:=by rw[<-cO]
 generalize bP:dQ a' L.heap.objs.size (.lst [])=vs at d bb;generalize cP:L.heap.objs.size=D at bN bP bb S;have bf:∀b o,L.heap.get? b=some o->f.heap.get? b=some o:=λb o e=>by rw[bO];exact Heap.get?_push_of_some _ e
 have aw:∀b∈O,gO X au vs b:=λb k=>by
  obtain⟨o,aL,_⟩:=T.obj _ _ aH b k;have lt:=Heap.lt_size aL;refine⟨?_,(bH b k).2⟩;rw[<-bP,cL (by rw[<-cP];exact KJ lt)];exact(bH b k).1
 refine wpAny_newFunctionEnv F.cell (by intro y bg;simp at bg) (λav cQ cR=>?_) F.kind;have cS:f.heap.get? f.heap.objs.size=none:=Heap.get?_none_of_le (J7 _);have ax:∀b o,f.heap.get? b=some o->av.get? b=some o:=λb o e=>cR.extBut b o (KJ (Heap.lt_size e)) (Heap.get?_push_of_some _ e);show codeAny (Nz X.prog X.w) X.A (.compStart (.ListComp ay (⟨P,M,Z,0⟩::n) a G) 0 (.ref aD) (.ref D) (N' a B f.heap.objs.size X.env)) (compPost (Nz X.prog X.w) X.A X.xe use RQ (.ref D) f.heap.objs.size) _
 have ok:(dj X (E++K) a B f.heap.objs.size f vs O).Ok:=by
  refine⟨d.ok.mod,F.kind,d.ok.glob,d.ok.blt,J7 _,λy z c U t=>d.ok.inj y z c (F.sub _ _ U) (F.sub _ _ t),λy bg=>F.has y bg,λy c z=>absurd z Ke,d.ok.hd,d.ok.frames,.inl rfl,λb k=>?_,d.bs,J4 d.ok.h_ d.sz,
   λb o e k=>?_,λb k cT=>?_,d.stack,d.gm,d.tabs⟩
  ·obtain⟨o,aL,_⟩:=T.obj _ _ aH b k;exact⟨KJ (Heap.lt_size (bf b o aL)),λy c e=>(aw b k).2.2.2.2.1 y c (F.sub _ _ e)⟩
  ·obtain⟨_,_,_,z,_⟩:=aw b k;rcases z with z|z
   ·exact d.ok.gL b o e z
   exact absurd (Kz (Heap.lt_size (d.ok.bs b o e).1) z) (K5 _)
  rcases J6.mp (d.fL b cT)with z|z
  ·exact(aw b k).2.1 z
  exact(aw b k).2.2.1 z
 have cV:∀(bj:NH),(∀b u,f.heap.get? b=some u->bj.get? b=some u)->∀(i:Nat)(y:Str)(v:V),K[i]?=some y->(gq N aK)[i]?=some (some v)->∃u,dx v u/\∀m,i' (N' a B f.heap.objs.size X.env) bj m y u:=λbj cX i y v U t=>by
  obtain⟨j,cY,c5,bU,c7,c,bX⟩:=F.ke i y U
  have c':N[j]?=some (some v):=by
   unfold gq at t;rw[Kj,cY,Ly]at t;have t:=Ki t;cases q:N[j]? with
   |none=>rw[q]at t;simp at t
   |some z=>rw[q]at t;simpa using t
  obtain⟨m,aQ,da⟩:=d.loc;obtain⟨u,r,l⟩:=da j y v c5 c' (.inr (.inl bU));refine⟨u,r,λdH=>.inr ⟨c7,c,bX,?_⟩⟩;rcases l with⟨z,_⟩|⟨_,dI,or,df⟩
  ·rw[bU]at z;cases z
  have e:=F.sub _ _ bX;rw[or]at e;cases e;obtain⟨aV,aI,aX⟩:=df;exact⟨aV,cX _ _ aI,aX⟩
 have bY:b_ (dj X (E++K) a B f.heap.objs.size f vs O) [] (Kp E.length none++gq N aK) vs {f with heap:=av,toks:=f.toks+([]:List (Str×KB)).length}:=by
  refine⟨ok,rfl,d.bare,dZ.kept ax,⟨_,cQ,λi y v U t bO=>?_⟩,λy c e=>?_,d.fresh,λy c e=>d.ej y c (F.sub _ _ e),λp aJ=>absurd (show p∈([]:OW)from aJ) (by simp),d.dR.kept ax,?_⟩
  ·by_cases bZ:i<E.length
   ·rw[Ld (by simpa using bZ),Ln,M2 bZ]at t;cases t
   have U:(E++K)[i]?=some y:=U;rw[KP (by lia)]at U;rw[KP (by simp;lia),K6]at t;obtain⟨u,r,l⟩:=cV av ax _ y v U t;exact⟨u,r,l _⟩
  ·obtain⟨v,aV,aI,aX⟩:=d.cell y c (F.sub _ _ e);exact⟨v,aV,ax _ _ aI,aX⟩
  show _=(E++K).length
  rw[Kh,Kh,K6];unfold gq;rw[J5,F.len]
 have de:∀{b0:ak},(∀b∈O,b0 b=none)->∀b∈O,gO (dj X (E++K) a B f.heap.objs.size f vs O) [] b0 b:=λaQ b k=>by
  obtain⟨o,aL,_⟩:=T.obj _ _ aH b k;exact⟨aQ b k,(ok.ji b k).1,ok.gR b k,.inl k,(ok.ji b k).2,λp aJ=>absurd (show p∈([]:OW)from aJ) (by simp)⟩
 have loop:∀a0:KF,a0={f with heap:=av,toks:=f.toks+([]:List (Str×KB)).length}->
   codeAny (Nz X.prog X.w) X.A (.compLoop (.ListComp ay (⟨P,M,Z,0⟩::n) a G) 0 (.ref aD) (.ref D) (N' a B f.heap.objs.size X.env)) (compPost (Nz X.prog X.w) X.A X.xe use RQ (.ref D) f.heap.objs.size) a0:=by
  intro a0 b7;rw[<-b7]at bY;have di:cN 0 a0.heap:=T.keep _ _ _ aH λb _ o e=>by rw[b7];exact ax b o (bf b o e)
  refine DK (Y:=dj X (E++K) a B f.heap.objs.size f vs O) (QS:=λ_ Q=>QE (.ref D) Q) (cm _ _ _) T (λ_ _ z=>z) cp (cb _ _ _ _) (cc _ _ _ _) (ck D _ _ _ _) bY di (de λb k=>(aw b k).1) bb S λR dN Q aq q=>?_;obtain⟨m,aQ,_⟩:=id aq.loc;refine cI D f.heap.objs.size Q R m aQ aq.free (LI d.lt) d.sz (λy c e z=>?_) (λp aJ z=>?_) (d.iP (J7 _)) (λh' b8=>?_) q
  ·obtain⟨v,aV,aI,aX⟩:=d.cell y c e;exact absurd (Heap.lt_size aI) (by rw[z];exact K5 _)
  ·exact absurd (Heap.lt_size (d.pin p aJ).1) (by rw[z];exact K5 _)
  refine d.i6 (s':={R with heap:=h' }) (ch:=O) aq.os ((show dZ (hE X.stack) O vs Q f.heap R.heap from aq.base).but cS b8) (aq.dR.but aq.free b8) aq.bare (λb k=>?_);obtain⟨_,dn,_,dq,dw,dy⟩:=aw b k;exact⟨dq,dn,dw,dy⟩
 exact codeAny_compStart_list (loop _ rfl) (T.self _ 0 _ _ _ (T.keep _ _ _ aH λb _ o e=>ax b o (bf b o e)) (loop _ rfl))
theorem Ef{o d f:Nu}{rest:List N5}{i:OU}{c:Pos}{a:N0}{j:List (Str×KT)}{l n:OR}{p:OP}{wi:fG}{g:eo}{r:c2}{em:KT->jr}{t:KB->Le->Sem Fin->Sem Fin}(x:hX X f d wi)(y:∀C s H k,gk (dj X (l++n) a j C s H k) f g)(z:∀C s H k,h9 (dj X (l++n) a j C s H k) i r)(A:∀D C s H k,ni (dj X (l++n) a j C s H k) (t (.ref D) (N' a j C X.env)) (em D))(B:∀w acc env,OA (.ListComp o (⟨f,d,i,0⟩::rest) a c) 0 w acc env=nj (.ListComp o (⟨f,d,i,0⟩::rest) a c) 0 f d i (t acc env) w acc env)(F:kQ X a j n p)(E:X.calm=true)(G:∀v,Nx d X.env v=pure v):bK X (.ListComp o (⟨f,d,i,0⟩::rest) a c) (sr wi g r em l.length p):=by
 intro P s R H Q I h;rw[eval_ListComp];refine wj x y z A B F E G I h _ rfl _ λD C J S m K _ _ _ _ _ _ L q=>⟨m,K,λM N=>⟨.ref D,J,L M λb u O e=>N.extBut b u O e,rfl,q⟩⟩
end
section
variable{X:aS}
theorem Eg{k d f:Nu}{rest:List N5}{j:OU}{c:Pos}{a:N0}{l:List (Str×KT)}{t w:OR}{K:OP}{wi:fG}{g:eo}{M:c2}{em:KT->jr}{O:KB->Le->Sem Fin->Sem Fin}{i:Nat}{y:Str}{x P:Pos}(ai:X.N.Nodup)(aq:X.N[i]?=some y)(Q:X.env.scope.names.lookup y=some .local)(au:hX X f d wi)(av:∀C s H n,gk (dj X (t++w) a l C s H n) f g)(ax:∀C s H n,h9 (dj X (t++w) a l C s H n) j M)(ay:∀D C s H n,ni (dj X (t++w) a l C s H n) (O (.ref D) (N' a l C X.env)) (em D))(aA:∀R acc env,OA (.ListComp k (⟨f,d,j,0⟩::rest) a c) 0 R acc env=nj (.ListComp k (⟨f,d,j,0⟩::rest) a c) 0 f d j (O acc env) R acc env)(F:kQ X a l w K)(aC:X.calm=true)(aD:∀v,Nx d X.env v=pure v)(aG:NT (.ListComp k (⟨f,d,j,0⟩::rest) a c) (some (.Name y x)) P.line X.env=pure true):
  fV X (.Assign [.Name y x] (.ListComp k (⟨f,d,j,0⟩::rest) a c) P) (ow (sr wi g M em t.length K) (mx i)):=by
 intro B s E H D I h;rw[exec_Assign_Name_used _ _ _ _ aG];refine Nt (N2 (Nt ?_));show wpAny _ X.A (do let _ <-comprehension (.ListComp k (⟨f,d,j,0⟩::rest) a c) a X.env _ (newList []) false (Op d X.env) (some (Ov (.Name y x) X.env))) _ _ s
 refine Nt (bW (wj (RQ:=λ_ S=>∃T U,b_ X B T U S/\D.nx T U) (QE:=λv aH=>mx i v E aH D.nx) au av ax ay aA F aC aD I h _ rfl _ ?_) λ_ S q=>NA (NA q));intro L C G J m aI W Y aJ aK aL aP aQ q;obtain⟨o,aT,aV,aX,Z,r⟩:=id aI;have ab:b_ X B E G J:=aQ J.heap λb u _ e=>e
 have a3:b_ X (B++[(C,o)]) E G J:=ab.e_ λp a4=>by
  rcases Kc.mp a4 with z|z
  ·exact ab.pin p (Kg _ z)
  have z:p=(C,o):=by simpa using z
  subst z;exact⟨aX,W,Y,aP,λv z=>by rw[Z]at z;cases z⟩
 show wpAny _ X.A (Ov (.Name y x) X.env (.ref L)) _ _ _
 refine wpAny_assign_Name (mq a3 ai aq (.inl Q) (v:=.ref L) rfl (λae vs=>?_) (.inr Q));have a5:ae.heap.get? C=some o:=(vs.pin (C,o) (Kg _ (Kg _ (Ks.mpr rfl)))).1;refine⟨m,⟨o,aT,aV,a5,Z,r⟩,λbf a'=>⟨_,G,?_,q⟩⟩;exact vs.eb.turned (t':=ae.toks) (λb u bb e=>a'.extBut b u bb e) W Y (.inr aJ) aK aL
end
section
variable{X:aS}
theorem Ek{k f h:Nu}{l:OU}{i:Pos}{a:N0}{c:List (Str×KT)}{d e:OR}{m:OP}{wi:fG}{g:eo}{n:c2}{j:bx}(o:hX X h f wi)(p:∀C s H b,gk (dj X (d++e) a c C s H b) h g)(q:∀C s H b,h9 (dj X (d++e) a c C s H b) l n)(r:∀C s H b,bK (dj X (d++e) a c C s H b) k j)(F:kQ X a c e m)(t:X.calm=true)(u:∀v,Nx f X.env v=pure v):bK X (.ListComp k [⟨h,f,l,0⟩] a i) (sn wi g n j d.length m):=
 Ef (rest:=[]) (em:=so j) o p q (λD C s H b=>wf (Y:=dj X (d++e) a c C s H b) (r C s H b) λ_ _ z=>z) (λ_ _ _=>rfl) F t u
theorem El{k h j:Nu}{l:OU}{c:Pos}{a:N0}{d:List (Str×KT)}{e f:OR}{n:OP}{wi:fG}{g:eo}{o:c2}{m:bx}{i:Nat}{y:Str}{p q:Pos}(r:X.N.Nodup)(t:X.N[i]?=some y)(u:X.env.scope.names.lookup y=some .local)(w:hX X j h wi)(x:∀C s H b,gk (dj X (e++f) a d C s H b) j g)(A:∀C s H b,h9 (dj X (e++f) a d C s H b) l o)(B:∀C s H b,bK (dj X (e++f) a d C s H b) k m)(F:kQ X a d f n)(E:X.calm=true)(G:∀v,Nx h X.env v=pure v)(I:NT (.ListComp k [⟨j,h,l,0⟩] a c) (some (.Name y p)) q.line X.env=pure true):
  fV X (.Assign [.Name y p] (.ListComp k [⟨j,h,l,0⟩] a c) q) (ow (sn wi g o m e.length n) (mx i)):=
 Eg (rest:=[]) (em:=so m) r t u w x A (λD C s H b=>wf (Y:=dj X (e++f) a d C s H b) (B C s H b) λ_ _ z=>z) (λ_ _ _=>rfl) F E G I
end
def ga(g:e0)(c:cW)(u:a9):OM->OL->(OM->Prop)->Prop
 |[],_,k=>k []
 |d::e,f,k=>g d f λa=>c a λb=>if b=true then u a λy=>ga g c u e a λh=>k (y::h)else ga g c u e a k
def iN:cW:=λ_ k=>k true
def sv(w:dr)(g:e0)(c:cW)(u:a9)(d:Nat)(e:OP):dr:=λa k=>w a λb=>b.length<=Np/\ga g c u b (Kp d .no++e.map (jn a)) k
section
variable{K:JS}{X:aS}{e:Nu}{O:OU}{u:a9}{w:dr}{P p:Pos}
theorem sw{ρ:OL}(j:Nat):jn ρ j=.no\/(∃d,jn ρ j=.val d/\ρ[j]?=some (.val d))\/(jn ρ j=.bag/\ρ[j]?=some .bag):=by
 unfold jn;split
 ·rename_i d a;exact .inr (.inl ⟨d,rfl,a⟩)
 ·rename_i a;exact .inr (.inr ⟨rfl,a⟩)
 exact .inl rfl
theorem aW.within{R:ak}{W:KT->Prop}{B H:ak}{k:St}{ρ:OL}(e:aW K R W B H k ρ)(d:Nat){g:OP}(C:g.Nodup):
  aW K H (λa=>∃j,j∈g/\k[j]?=some (some (.ref a))/\ρ[j]?=some .bag) B H (Kp d none++gq k g) (Kp d .no++g.map (jn ρ)):=by
 have t:∀(a:KT)(j:Nat),k[j]?=some (some (V.ref a))->ρ[j]?=some aM.bag->B a=none/\eI H a:=λa j o p=>by
  obtain⟨c,s,_,u,w⟩:=e.d7 p;rw[o]at s;cases s;exact⟨u,w⟩
 refine⟨⟨λ_ _ z _=>z,e.bh,λa ⟨j,_,o,p⟩=>(t a j o p).1,λa ⟨j,_,o,p⟩=>(t a j o p).2,λa ⟨j,_,o,p⟩=>?_⟩,?_,λn Q h=>?_,λn m a b r=>?_⟩
 ·obtain⟨x,y,q,_⟩:=(t a j o p).2;rw[q];simp
 ·unfold gq;simp
 ·by_cases l:n<d
  ·rw[Ld (by simpa using l),Ln,M2 l]at h;cases h;trivial
  rw[KP (by simp;lia),K6,Kj]at h;cases f:g[n-d]? with
  |none=>rw[f]at h;cases h
  |some j=>
   rw[f]at h;have h:=Ki h
   have E:((Kp d none++gq k g)[n]?).join=(k[j]?).join:=by
    rw[KP (by simp;lia),K6];unfold gq;rw[Kj,f];rfl
   rw[E,<-h];rcases sw (ρ:=ρ) j with z|⟨A,z,i⟩|⟨z,i⟩<;>rw[z]
   ·trivial
   ·obtain⟨v,F,G⟩:=e.ok j _ i;exact⟨v,F,G⟩
   obtain⟨c,s,_,u,w⟩:=e.ok j _ i;exact⟨c,s,.inl ⟨j,KQ f,gt s,i⟩,u,w⟩
 have back:∀n,cD (Kp d none++gq k g) (Kp d .no++g.map (jn ρ)) n a->∃j,d<=n/\g[n-d]?=some j/\cD k ρ j a:=λn I=>by
  rcases I with⟨b,r⟩|⟨c,b,_⟩
  rotate_left
  ·by_cases l:n<d
   ·rw[Ld (by simpa using l),Ln,M2 l]at b;cases b
   rw[KP (by simp;lia),K6,Kj]at b;cases f:g[n-d]? with
   |none=>rw[f]at b;cases b
   |some j=>
    rw[f,Ly]at b;rcases sw (ρ:=ρ) j with z|⟨A,z,i⟩|⟨z,i⟩<;>rw[z]at b<;>cases b
  by_cases l:n<d
  ·rw[Ld (by simpa using l),Ln,M2 l]at b;cases b
  rw[KP (by simp;lia),K6]at b;obtain⟨j,f,J⟩:=Df b;rw[KP (by simp;lia),K6,Kj,f]at r;refine⟨j,by lia,f,.inl ⟨gt J.symm,.inl ?_⟩⟩;rcases sw (ρ:=ρ) j with z|⟨A,z,i⟩|⟨z,i⟩
  ·rw[Ly,z]at r;rcases r with q|⟨_,q⟩<;>cases q
  ·rw[Ly,z]at r;rcases r with q|⟨_,q⟩<;>cases q
  exact i
 obtain⟨j,S,f,L⟩:=back n b;obtain⟨M,T,N,O⟩:=back m r;have:=e.sep j M a L O;subst this
 have P:n-d<g.length:=by
  by_cases z:n-d<g.length
  ·exact z
  rw[KW (by lia)]at f;cases f
 have:=(List.getElem?_inj P C).mp (f.trans N.symm);lia
theorem wo{R:ak}{W:KT->Prop}{B:ak}{a:KT}{b:OK}(h:R a=some (.lst b))(c:¬W a):gX R W B a=some (.lst b):=by
 unfold gX;rw[h];dsimp only;rw[No c]
theorem Es{R:ak}{W:KT->Prop}{B:ak}{a:KT}(h:∀b,R a≠some (.lst b)):gX R W B a=B a:=by
 unfold gX;split
 ·rename_i b e;exact absurd e (h b)
 rfl
theorem wq{R:ak}{W:KT->Prop}{B:ak}{a:KT}{o:dz}(h:gX R W B a=some o):B a=some o\/(¬W a/\R a=some o/\∃b,o=.lst b):=by
 unfold gX at h;split at h
 ·rename_i b e
  split at h
  ·exact .inl h
  rename_i z;cases h;exact .inr ⟨z,e,b,rfl⟩
 exact .inl h
theorem Et{R:ak}{W:KT->Prop}{B H:ak}(w:Wd R W B H):b2 (gX R W B) H:=λa o h=>by
 rcases wq h with h|⟨b,c,_⟩
 ·exact w.bh a o h
 exact w.fr a o c b
theorem ws{R:ak}{W c:KT->Prop}{B d H:ak}(w:Wd R W B H)(s:b2 B d)(m:b2 d H)(i:∀a,c a->R a≠none->W a)(j:∀a,c a->d a=none):b2 (gX R W B) (gX H c d):=λa o h=>by
 have f:=Et w a o h;rcases wq h with h|⟨k,l,b,rfl⟩
 ·have g:=s a o h;by_cases z:c a
  ·rw[j a z]at g;cases g
  by_cases q:∃b,H a=some (.lst b)
  ·obtain⟨b,q⟩:=q;rw[f]at q;cases q;exact wo f z
  rw[Es λb e=>q ⟨b,e⟩];exact g
 exact wo f λz=>k (i a z (by rw[l];simp))
theorem aW.rebase{R:ak}{W:KT->Prop}{B H:ak}{f:St}{g:OL}(e:aW K R W B H f g)(h:∀j a,cD f g j a->W a):aW K H W B H f g:=by
 refine⟨⟨λ_ _ z _=>z,e.bh,e.wb,e.wh,λa z=>by obtain⟨t,u,l,_⟩:=e.wh a z;rw[l];simp⟩,e.len,λj i b=>?_,e.sep⟩;have:=e.ok j i b;cases i with
 |no=>trivial
 |new d=>
  obtain⟨v,m,n⟩:=this;exact⟨v,m,n.mono (ws e.toWd (b2.refl _) e.bh (λ_ z _=>z) e.wb)⟩
 |pin v d=>exact⟨this.1,this.2.mono (ws e.toWd (b2.refl _) e.bh (λ_ z _=>z) e.wb)⟩
 |val d=>exact this
 |own o=>
  obtain⟨a,p,q,_⟩:=this;exact absurd q (e.wr a (h j a (.inl ⟨gt p,.inr ⟨o,b⟩⟩)))
 |deep c=>exact absurd (this.2.fr _ J1).1 (e.wr _ (h j _ (.inr ⟨c,b,J1⟩)))
 |bag=>
  obtain⟨c,k,w,r,s⟩:=this;exact⟨c,k,.inl (h j c (.inl ⟨gt k,.inl b⟩)),r,s⟩
theorem aW.gJ{R:ak}{W:KT->Prop}{B H h r:ak}{i:St}{k:OL}(e:aW K R W B H i k)(l:∀j a,cD i k j a->W a)(f:aW K H W h r i k)(g:bE H B h):aW K R W h r i k/\bE R B h:=by
 refine⟨⟨⟨λa o z t=>f.fr a o (e.fr a o z t) t,f.bh,f.wb,f.wh,e.wr⟩,f.len,λj u b=>?_,f.sep⟩,⟨g.s,λa o z=>?_⟩⟩
 ·have:=f.ok j u b;cases u with
  |no=>trivial
  |new d=>
   obtain⟨v,m,p⟩:=e.ok j _ b;exact⟨v,m,p.mono (oN g.s)⟩
  |pin v d=>
   obtain⟨m,p⟩:=e.ok j _ b;exact⟨m,p.mono (oN g.s)⟩
  |val d=>exact this
  |own x=>
   obtain⟨a,y,A,_⟩:=e.ok j _ b;exact absurd A (e.wr a (l j a (.inl ⟨gt y,.inr ⟨x,b⟩⟩)))
  |deep c=>exact absurd ((e.gg b).2.fr _ J1).1 (e.wr _ (l j _ (.inr ⟨c,b,J1⟩)))
  |bag=>
   obtain⟨c,w,F,C,E⟩:=this;exact⟨c,w,.inl (l j c (.inl ⟨gt w,.inl b⟩)),C,E⟩
 rcases g.n a o z with q|q
 ·exact .inl q
 exact .inr (e.toWd.fresh q).1
theorem wt{wi:fG}{g:eo}{a0:c2}{a3:bx}{E:e0}{l:cW}{G:Nat}{t:OP}(bM:vw K wi w)(bN:oS K g E)(bO:gv K a0 l)(bP:dD K a3 u)(bU:t.Nodup):rU K (sn wi g a0 a3 G t) (sv w E l u G t):=by
 intro I k h R W B H L Q e q;refine bM I _ h R W B H L _ e λf J a4 ay aD ae bY bZ=>?_;obtain⟨cY,aD⟩:=aD;intro D vs;obtain⟨b0,c5,b1⟩:=ae.toWd.fresh vs;have a6:∀i,¬cD L I i D:=λi m=>ae.eU vs m rfl;have ei:=ae.within G bU
 have aG:∀j a,cD (Kp G none++gq L t) (Kp G .no++t.map (jn I)) j a->∃j,j∈t/\L[j]?=some (some (V.ref a))/\I[j]?=some aM.bag:=λj a m=>by
  have aH:=(ei.dV m).2;rcases m with⟨bj,z|⟨O,z⟩⟩|⟨c,z,b6⟩
  ·obtain⟨c,T,M,_⟩:=ei.d7 z;rw[bj]at T;cases T;rcases M with M|M
   ·exact M
   exact absurd M aH
  ·obtain⟨c,T,M,_⟩:=ei.g_ z;rw[bj]at T;cases T;exact absurd M aH
  exact absurd ((ei.gg z).2.fr a b6).1 aH
 generalize bo:(λa=>∃j,j∈t/\L[j]?=some (some (V.ref a))/\I[j]?=some aM.bag)=A at ei;have aG:∀j a,cD (Kp G none++gq L t) (Kp G .no++t.map (jn I)) j a->A a:=λj a m=>by rw[<-bo];exact aG j a m
 have br:∀a,A a->∃i:Nat,L[i]?=some (some (.ref a))/\I[i]?=some .bag:=λa z=>by
  rw[<-bo]at z;obtain⟨j,_,z⟩:=z;exact⟨j,z⟩
 have aK:¬A D:=λz=>by
  obtain⟨b7,b8,cb⟩:=br D z;exact a6 b7 (.inl ⟨b8,.inl cb⟩)
 refine⟨λi m ag C=>∃ah p O U,m=f.length-i/\i<=f.length/\aW K ay A ah C ag U/\bE ay a4 ah/\C D=some (.lst p)/\ah D=none/\(∀j a,cD ag U j a->A a)/\p.length<=i/\c9 K ah p O/\ga E l u (f.drop i) U λr=>k (O++r),
  ⟨f.length,a4,[],[],_,by simp,Mv _,ei.eA vs _,bE.refl _ _,fq,b1,aG,J7 _,.nil,by simpa using aD⟩,?_⟩
 rintro i m ag bA ⟨hc,p,O,U,rfl,c7,aL,X,ao,bD,cc,c8,aN,aq⟩;obtain⟨cg,ck,cm⟩:=bZ bA (X.s.trans aL.bh) i;by_cases P:i<f.length
 ·refine .inr ⟨cg P,λx C y=>?_⟩;obtain⟨rfl,d,tb,cn⟩:=cm x C P y
  have cp:f.drop i=d::f.drop (i+1):=by
   rw[Mw P];rw[Km P]at tb;rw[Ki tb]
  rw[cp]at aq;refine bN d U _ aq ay A hc C ag x _ aL (cn.mono X.s) λY aO cy aQ cz=>?_;have S:∀j a,cD aO Y j a->A a:=λj a m=>cc j a (cz j a m)
  have aT:∀{N:ak},bE C hc N->N D=none:=λ{N} F=>by
   cases cF:N D with
   |none=>rfl
   |some o=>
    rcases F.n D o cF with z|z
    ·rw[bD]at z;cases z
    rw[ao]at z;cases z
  refine bO Y _ cy C A hc C aO _ (aQ.rebase S) λb N bC au Z F=>?_;have cG:bC D=some (.lst p):=Z.fr D _ ao aK;cases b with
  |false=>
   rw[No Ke]at au⊢;obtain⟨av,aV⟩:=aQ.gJ S Z F;exact⟨f.length-(i+1),by lia,N,p,O,Y,rfl,P,av,X.trans aV,cG,aT F,S,by lia,aN.mono F.s,au⟩
  |true=>
   rw[M2 rfl]at au⊢;refine bP Y _ au C A N bC aO _ Z λcH v cI cO cP av aV cQ=>?_;have ax:=F.trans aV;have cR:cO D=some (.lst p):=av.fr D _ ao aK;obtain⟨cS,cV⟩:=aQ.gJ S av ax;refine⟨p,cR,by lia,f.length-(i+1),by lia,cI,p++[v],O++[cH],Y,rfl,P,cS.gK vs (aT ax) (λj m=>aK (S j D m)) _,X.trans cV,fq,aT ax,S,by rw[Kh,MV];lia,(aN.mono ax.s).append (.cons cQ .nil),?_⟩;simpa[KD]using cP
 have cX:i=f.length:=by lia
 subst cX;rw[Mx]at aq;obtain⟨Z,F⟩:=ae.after br aL.toWd X;refine .inl ⟨ck (J7 _),q _ D p hc bA (by simpa[ga]using aq) Z (bY.trans F) b0 bD ao aN a6⟩
def nu(X:aS)(G:OU)(l:cW):Prop:=∃t,h9 X G t/\gv X.K t l
theorem iO:nu X [] iN:=⟨_,DG,λa k h R W B H b Q e q=>q true B H h e (bE.refl _ _)⟩
theorem ww{c:Nu}{l:cW}(h:fN X c l):nu X [c] l:=by
 obtain⟨_,a,b⟩:=h;exact⟨_,DH a,b⟩
theorem wx{M:Nu}{f:Type}{Xs:f->aS}(g:∀a,(Xs a).K=K)(h:∀a,bc (Xs a) M u):∃t,(∀a,bK (Xs a) M t)/\dD K t u:=by
 refine⟨λb H Q=>∀a,∃t,bK (Xs a) M t/\dD K t u/\t b H Q,λa i s b H Q I q=>?_,λj k q R W B H b Q e z a=>?_⟩
 ·obtain⟨t,c,_,l⟩:=q a;exact c i s b H Q I l
 obtain⟨t,c,d⟩:=h a;rw[g a]at d;exact⟨t,c,d,d j k q R W B H b Q e z⟩
theorem wy{G:OU}{l:cW}{f:Type}{Xs:f->aS}(g:∀a,(Xs a).K=K)(h:∀a,nu (Xs a) G l):∃t,(∀a,h9 (Xs a) G t)/\gv K t l:=by
 refine⟨λb H Q=>∀a,∃t,h9 (Xs a) G t/\gv K t l/\t b H Q,λa i s b H Q I q=>?_,λj k q R W B H b Q e z a=>?_⟩
 ·obtain⟨t,c,_,m⟩:=q a;exact c i s b H Q I m
 obtain⟨t,c,d⟩:=h a;rw[g a]at d;exact⟨t,c,d,d j k q R W B H b Q e z⟩
theorem wz{L:Nu}{E:e0}{g:Type}{Xs:g->aS}(i:∀a,(Xs a).K=K)(h:∀a,iF (Xs a) L E):∃t,(∀a,gk (Xs a) L t)/\oS K t E:=by
 refine⟨λv b H Q=>∀a,∃t,gk (Xs a) L t/\oS K t E/\t v b H Q,λa j s b H v x Q I r q=>?_,λd l k q R W B H b v Q e r z a=>?_⟩
 ·obtain⟨t,c,_,m⟩:=q a;exact c j s b H v x Q I r m
 obtain⟨t,c,f⟩:=h a;rw[i a]at f;exact⟨t,c,f,f d l k q R W B H b v Q e r z⟩
variable{M S L:Nu}{G:OU}{f:N0}{A:List (Str×KT)}{ts fr:OR}{js:OP}{E:e0}{l:cW}
theorem kT(c:lI X L S w)(d:∀C s H b,iF (dj X (ts++fr) f A C s H b) L E)(e:∀C s H b,nu (dj X (ts++fr) f A C s H b) G l)(g:∀C s H b,bc (dj X (ts++fr) f A C s H b) M u)(F:kQ X f A fr js)(h:js.Nodup:=by decide)(i:X.calm=true:=by rfl)(j:∀v,Nx S X.env v=pure v:=by intro _;rfl):jg X (.ListComp M [⟨L,S,G,0⟩] f P) (sv w E l u ts.length js):=by
 obtain⟨_,k,m⟩:=c;obtain⟨x,n,o⟩:=wz (K:=X.K) (Xs:=λa:KT×KF×ak×OT=>dj X (ts++fr) f A a.1 a.2.1 a.2.2.1 a.2.2.2) (λ_=>rfl) λa=>d a.1 a.2.1 a.2.2.1 a.2.2.2;obtain⟨y,p,q⟩:=wy (K:=X.K) (Xs:=λa:KT×KF×ak×OT=>dj X (ts++fr) f A a.1 a.2.1 a.2.2.1 a.2.2.2) (λ_=>rfl) λa=>e a.1 a.2.1 a.2.2.1 a.2.2.2;obtain⟨z,r,t⟩:=wx (K:=X.K) (Xs:=λa:KT×KF×ak×OT=>dj X (ts++fr) f A a.1 a.2.1 a.2.2.1 a.2.2.2) (λ_=>rfl) λa=>g a.1 a.2.1 a.2.2.1 a.2.2.2;exact⟨_,Ek k (λC s H b=>n (C,s,H,b)) (λC s H b=>p (C,s,H,b)) (λC s H b=>r (C,s,H,b)) F i j,wt m o q t h⟩
theorem nv{i:Nat}{y:Str}{c d:Pos}(g:X.N.Nodup)(k:X.N[i]?=some y)(m:X.env.scope.names.lookup y=some .local)(n:lI X L S w)(o:∀C s H b,iF (dj X (ts++fr) f A C s H b) L E)(p:∀C s H b,nu (dj X (ts++fr) f A C s H b) G l)(q:∀C s H b,bc (dj X (ts++fr) f A C s H b) M u)(F:kQ X f A fr js)(r:js.Nodup:=by decide)(t:X.calm=true:=by rfl)(x:∀v,Nx S X.env v=pure v:=by intro _;rfl)(z:NT (.ListComp M [⟨L,S,G,0⟩] f P) (some (.Name y c)) d.line X.env=pure true:=by rfl):
  eD X (.Assign [.Name y c] (.ListComp M [⟨L,S,G,0⟩] f P) d) (vO i (sv w E l u ts.length js)):=by
 obtain⟨_,I,J⟩:=n;obtain⟨aD,O,Q⟩:=wz (K:=X.K) (Xs:=λa:KT×KF×ak×OT=>dj X (ts++fr) f A a.1 a.2.1 a.2.2.1 a.2.2.2) (λ_=>rfl) λa=>o a.1 a.2.1 a.2.2.1 a.2.2.2;obtain⟨aG,T,Y⟩:=wy (K:=X.K) (Xs:=λa:KT×KF×ak×OT=>dj X (ts++fr) f A a.1 a.2.1 a.2.2.1 a.2.2.2) (λ_=>rfl) λa=>p a.1 a.2.1 a.2.2.1 a.2.2.2;obtain⟨aH,Z,ab⟩:=wx (K:=X.K) (Xs:=λa:KT×KF×ak×OT=>dj X (ts++fr) f A a.1 a.2.1 a.2.2.1 a.2.2.2) (λ_=>rfl) λa=>q a.1 a.2.1 a.2.2.1 a.2.2.2;refine⟨_,El g k m I (λC s H b=>O (C,s,H,b)) (λC s H b=>T (C,s,H,b)) (λC s H b=>Z (C,s,H,b)) F t x z,λU ae h R W B H af D e s=>?_⟩;exact wt J Q Y ab r ae _ h R W B H af _ e λaI a aK ag ah aj aq au av ax ay aA aC=>s.nx _ _ ag ah aj (aq.iG i av ax ay aA λj _=>aC j) au
theorem pr{st:NI}{s:cw}(i:Nat)(h:eD X st s):eD X st (λU b=>s {U with nx:=λc=>∃d:OM,c[i]?=some (.own d)/\U.nx (c.set i (.val (.lst d)))} b):=by
 obtain⟨_,f,j⟩:=h;refine⟨_,f,λU b h R W B H k D e a=>?_⟩;refine j _ b h R W B H k D e ⟨λc l t m z n g=>?_,a.bk,a.ct,a.rt⟩;obtain⟨d,o,z⟩:=z;obtain⟨p,q,r⟩:=n.fz o;exact a.nx _ l p m z q (g.trans r)
end
theorem sH{b:Type}{f:b->D}{s:cw}{U:gu}{m:Nat}(I:List b->OL->Prop):∀{rs done:List b}{a:OL},I done a->
  (∀(pre:List b)(r:b)(c:List b) a,done++rs=pre++r::c->I pre a->∀N:OL->Prop,(∀g,I (pre++[r]) g->N g)->s {U with nx:=N,ct:=N,bk:=U.nx} (a.set m (.val (f r))))->(∀a,I (done++rs) a->U.nx a)->f8 (eg m) s U (rs.map f) a
 |[],done,a,h,_,d=>d a (by rw[Kb];exact h)
 |r::rs,done,a,h,i,d=>by
  refine i done r rs a rfl h _ λg j=>?_;have e:done++r::rs=(done++[r])++rs:=by simp
  rw[e]at i d;exact sH I j i d
theorem wA{s:cw}{U:gu}{m:Nat}(I:Nat->OL->Prop):∀{n i:Nat}{a:OL},I i a->(∀(j:Nat) a,i<=j->j<i+n->I j a->∀N:OL->Prop,(∀r,I (j+1) r->N r)->s {U with nx:=N,ct:=N,bk:=U.nx} (a.set m (.val (.int j))))->
  (∀a,I (i+n) a->U.nx a)->f8 (eg m) s U ((List.range' i n).map λj:Nat=>D.int j) a
 |0,i,a,b,_,c=>c a b
 |n+1,i,a,b,d,c=>by
  show f8 (eg m) s U (D.int i::(List.range' (i+1) n).map λj:Nat=>D.int j) a
  refine d i a (J7 _) (by lia) b _ λr e=>?_;exact wA I e (λj a k l=>d j a (by lia) (by lia)) λa h=>c a (by rw[show i+(n+1)=i+1+n by lia];exact h)
theorem j8{s:cw}{U:gu}{m n:Nat}{a:OL}(I:Nat->OL->Prop)(b:I 0 a)(c:∀(j:Nat) a,j<n->I j a->∀N:OL->Prop,(∀r,I (j+1) r->N r)->s {U with nx:=N,ct:=N,bk:=U.nx} (a.set m (.val (.int j))))(d:∀a,I n a->U.nx a):f8 (eg m) s U ((KA n).map λj:Nat=>D.int j) a:=by
 rw[List.range_eq_range'];exact wA I b (λj a _ g=>c j a (by lia)) λa h=>d a (by rwa[Mz]at h)
theorem j9{d:Type}{f h:d->D}{u:a9}{fs:OL}:∀{a:List d}{b:aM}{k:OM->Prop},(∀r∈a,∀k:D->Prop,k (h r)->u (.val (f r)::fs) k)->k (a.map h)->ga (eg 0) iN u (a.map f) (b::fs) k
 |[],b,k,_,c=>c
 |r::a,b,k,e,c=>by
  show(if true=true then u (.val (f r)::fs) λy=>ga (eg 0) iN u (a.map f) (.val (f r)::fs) λg=>k (y::g)else ga (eg 0) iN u (a.map f) (.val (f r)::fs) k)
  rw[M2 rfl];exact e r J1 _ (j9 (λq i=>e q (J3 _ i)) c)
theorem EC{b c:Type}{f:b->c}{a:List b}{i:Int}{r:b}(h:dv a i=some r):dv (a.map f) i=some (f r):=by
 unfold dv at h⊢;rw[J5];cases q:hg a.length i with
 |none=>rw[q]at h;cases h
 |some j=>
  rw[q]at h;show(a.map f)[j]?=_
  rw[Kj,show a[j]?=some r from h];rfl
theorem ED{b:Type}{a:List b}{i:Nat}(h:i<a.length):dv a (i:Int)=some a[i]:=by
 unfold dv hg;rw[M2 (by lia),M2 (by lia)];show a[((i:Int)).toNat]?=_
 rw[show((i:Int)).toNat=i by lia,Km h]
theorem EE{b:Type}{a:List b}{i:Int}(e:0<=i)(f:i<=a.length):f9 a (some i) none=a.drop i.toNat:=by
 unfold f9
 have c:HT.sIx a.length 0 (some i)=i.toNat:=by
  unfold HT.sIx
  first|lia|(simp only[];split<;>lia)|(split<;>lia)|(dsimp only;split<;>(try split)<;>lia)
 have d:HT.sIx a.length a.length none=a.length:=rfl;rw[c,d];exact LO (by rw[LM];lia)
theorem EF{b:Type}{a:List b}{i:Int}(e:0<=i)(f:i<=a.length):f9 a none (some i)=a.take i.toNat:=by
 unfold f9
 have c:HT.sIx a.length a.length (some i)=i.toNat:=by
  unfold HT.sIx
  first|lia|(simp only[];split<;>lia)|(split<;>lia)|(dsimp only;split<;>(try split)<;>lia)
 have d:HT.sIx a.length 0 none=0:=rfl;rw[c,d];rfl
section
variable{K:JS}{R:ak}{W:KT->Prop}{B c H d:ak}{j:St}{f:OL}
theorem aW.gZ{k:KT->Prop}(e:aW K R W B H j f)(p:∀a,k a->R a=none/\∀i,¬cD j f i a)(t:Wd H k c d)(g:bE H B c):aW K R W c d j f/\bE R B c:=by
 have v:∀a,B a=none->H a≠none->c a=none:=λa l u=>by
  cases q:c a with
  |none=>rfl
  |some o=>
   rcases g.n a o q with z|z
   ·rw[l]at z;cases z
   exact absurd z u
 have st:∀a,¬k a->H a≠none->d a=H a:=λa l u=>by
  cases q:H a with
  |none=>exact absurd q u
  |some o=>exact t.fr a o q l
 have w:∀a,¬k a->eI H a->eI d a:=λa l ⟨x,y,r,q⟩=>⟨x,y,by rw[st a l (by rw[r];simp)];exact r,q⟩;have C:∀a,eI H a->H a≠none:=λa ⟨x,y,r,_⟩=>by rw[r];simp
 have E:∀a,W a->¬k a:=λa h z=>e.wr a h (p a z).1;refine⟨e.move ⟨λa o h F=>?_,t.bh,λa h=>v a (e.wb a h) (C a (e.wh a h)),λa h=>w a (E a h) (e.wh a h),e.wr⟩ g.s (λi a m=>⟨v a (e.dV m).1 (e.dV m).2,λz=>?_,λz=>?_⟩),⟨g.s,λa o h=>?_⟩⟩
 ·refine t.fr a o (e.fr a o h F) λz=>?_;rw[(p a z).1]at h;cases h
 ·obtain⟨b,A,_,_,G⟩:=e.d7 z;rw[lG m z]at A;cases A;exact w _ (λq=>(p _ q).2 i m) G
 ·exact st a (λq=>(p a q).2 i m) (e.dV m).2
 rcases g.n a o h with z|z
 ·exact .inl z
 exact .inr (e.toWd.fresh z).1
end
section
def aE(p:Int×Int×Int):D:=.tup [.int p.1,.int p.2.1,.int p.2.2]
def g3(a b n:Int):Int:=((J2 (J2 a n:Nat) b:Nat):Int)
def hv(a b n:Int):Int:=if n<0 then -g3 a b n else g3 a b n
def cE(a b n:Int):Int×Int×Int:=(a.fdiv (hv a b n),b.fdiv (hv a b n),n.fdiv (hv a b n))
theorem ju{a b n:Int}(c:n≠0):iB (cE a b n).1 (cE a b n).2.1 (cE a b n).2.2/\(cE a b n).1*n=a*(cE a b n).2.2/\(cE a b n).2.1*n=b*(cE a b n).2.2/\(cE a b n).1.natAbs<=a.natAbs/\(cE a b n).2.1.natAbs<=b.natAbs/\(cE a b n).2.2.natAbs<=n.natAbs:=by
 unfold cE hv;split
 ·exact vl c rfl (.inr ⟨rfl,by assumption⟩)
 exact vl c rfl (.inl ⟨rfl,by lia⟩)
theorem EH(a b n:Int):((J2 (J2 a b:Nat) n:Nat):Int)=g3 a b n:=by
 unfold g3;rw[oL];rfl
theorem EI(a b n:Int):((J2 (J2 n a:Nat) b:Nat):Int)=g3 a b n:=by
 unfold g3;rw[B5]
theorem wB{a b n:Int}(c:n≠0):0<g3 a b n:=vj c
theorem wC{a b n:Int}{k:Nat}(c:n≠0)(h:KM n<=k):KM (g3 a b n)<=k:=B6 c h
theorem sI{a b:Int}{k:Nat}(c:b≠0)(h:KM b<=k):KM ((J2 a b:Nat):Int)<=k:=by
 refine Oa ?_ h;exact Nat.le_of_dvd (by lia) (by simpa using K0.mpr (LY a b))
theorem EJ{x:Int}(a : -(10^30)<x)(b:x<10^30):KM x<=100:=by
 refine intBits_le_iff.mpr ?_;have c:(10:Int)^30=1000000000000000000000000000000:=rfl;have d:(2:Nat)^100=1267650600228229401496703205376:=rfl;rw[c]at a b;rw[d];lia
theorem lU{a s x:Int}(h:a=s*x)(b:s≠0):a.fdiv s=x:=by rw[h];exact LQ x b
theorem EM{a b s x y:Int}(c:a=s*x)(d:b=s*y):J2 a b=s.natAbs*J2 x y:=by rw[c,d,Int.gcd_mul_left]
abbrev aa:=Int×Int×Int
abbrev OJ:=List aa
def a_(p q:aa):aa:=(p.2.1*q.2.2-p.2.2*q.2.1,p.2.2*q.1-p.1*q.2.2,p.1*q.2.1-p.2.1*q.1)
def sc(c:Int)(p:aa):aa:=(c*p.1,c*p.2.1,c*p.2.2)
def eL(a:Int)(p:aa)(b:Int)(q:aa):aa:=(a*p.1+b*q.1,a*p.2.1+b*q.2.1,a*p.2.2+b*q.2.2)
def nP(p:aa):aa:=cE p.1 p.2.1 p.2.2
theorem e4{p q:aa}(a:p.1=q.1)(b:p.2.1=q.2.1)(c:p.2.2=q.2.2):p=q:=Lv a (Lv b c)
variable{P:Ny}{w:NE}{K:JS}{mg:Str->Option KB}{base:NH}
theorem EN{c d:Int}{p q:aa}(h:sc c p=sc d q):c*p.1=d*q.1/\c*p.2.1=d*q.2.1/\c*p.2.2=d*q.2.2:=
 ⟨Nq (·.1) h,Nq (·.2.1) h,Nq (·.2.2) h⟩
theorem wD(c d:Int)(p q:aa):a_ (sc c p) (sc d q)=sc (c*d) (a_ p q):=by
 refine e4 ?_ ?_ ?_<;>simp only[a_,sc]<;>grind
theorem EO(c d:Int)(p:aa):sc c (sc d p)=sc (c*d) p:=by
 refine e4 ?_ ?_ ?_<;>simp only[sc]<;>grind
theorem ia{p:aa}(c:p.2.2≠0):∃g,g≠0/\p=sc g (nP p):=by
 obtain⟨d,e,f,_⟩:=ju (a:=p.1) (b:=p.2.1) c;have h:(nP p).2.2≠0:=J8 d.1;obtain⟨g,i⟩:=rP d.2 e f;have j:g≠0:=λz=>c (by rw[i,z,Kd]);refine⟨g,j,e4 ?_ ?_ ?_⟩
 ·refine K1 h ?_;show p.1*(cE p.1 p.2.1 p.2.2).2.2=g*(cE p.1 p.2.1 p.2.2).1*(cE p.1 p.2.1 p.2.2).2.2
  rw[<-e];grind
 ·refine K1 h ?_;show p.2.1*(cE p.1 p.2.1 p.2.2).2.2=g*(cE p.1 p.2.1 p.2.2).2.1*(cE p.1 p.2.1 p.2.2).2.2
  rw[<-f];grind
 show p.2.2=g*(cE p.1 p.2.1 p.2.2).2.2
 rw[Kn];exact i
abbrev aU(p:aa):Prop:=iB p.1 p.2.1 p.2.2
theorem gc{p:aa}(a:p.2.2≠0):aU (nP p):=(ju a).1
theorem sJ{M h:aa}{G c:Int}(g:G≠0)(f:c≠0)(i:aU h)(e:sc G M=sc c h):M.2.2≠0/\nP M=h:=by
 obtain⟨p,q,j⟩:=EN e;have k:h.2.2≠0:=J8 i.1
 have d:M.2.2≠0:=λz=>by
  rw[z,Kd]at j;exact Kx f k j.symm
 refine⟨d,?_⟩;obtain⟨l,r,s,_⟩:=ju (a:=M.1) (b:=M.2.1) d;have t:M.1*h.2.2=h.1*M.2.2:=LZ (Kx g f) (by grind);have u:M.2.1*h.2.2=h.2.1*M.2.2:=LZ (Kx g f) (by grind);obtain⟨m,n,o⟩:=rQ l i (K1 d (by grind)) (K1 d (by grind));exact e4 m n o
theorem pu{h:aa}(a:aU h):nP h=h:=(sJ (M:=h) (h:=h) (G:=1) (c:=1) (by decide) (by decide) a rfl).2
structure bQ(m:Nat)(p:aa):Prop where
 a:KM p.1<=m
 b:KM p.2.1<=m
 c:KM p.2.2<=m
theorem bQ.mono{m n:Nat}{p:aa}(h:bQ m p)(l:m<=n):bQ n p:=⟨J4 h.a l,J4 h.b l,J4 h.c l⟩
theorem bQ.nP{m:Nat}{p:aa}(h:bQ m p)(d:p.2.2≠0):bQ m (L3.nP p):=by
 obtain⟨_,_,_,e,f,g⟩:=ju (a:=p.1) (b:=p.2.1) d;exact⟨jW e h.a,jW f h.b,jW g h.c⟩
theorem bQ.crs{m n:Nat}{p q:aa}(f:bQ m p)(g:bQ n q):bQ (m+n+1) (L3.a_ p q):=by
 have e:∀{x y u v:Int},KM x<=m->KM y<=n->KM u<=m->KM v<=n->KM (x*y-u*v)<=m+n+1:=λa b c d=>J4 (NL (wp a b) (wp c d)) (by lia);exact⟨e f.b g.c f.c g.b,e f.c g.a f.a g.c,e f.a g.b f.b g.a⟩
end
theorem wF(a:OS):∀m,m<=a.length->(KA m).filterMap (λk=>a[a.length-1-k]?)=a.reverse.take m
 |0,_=>rfl
 |m+1,h=>by
  rw[MA,M8,wF a m (by lia),M9,List.getElem?_reverse (by lia)];congr 1
theorem EP(a:OS):N9 a.toArray none none (some (-1))=a.reverse.toArray:=by
 have b:NF none none (some (-1)) a.toArray.size=((a.length:Int)-1,-1,-1):=by simp[NF]
 unfold N9;rw[b]
 have d:Ou ((a.length:Int)-1) (-1) (-1)=(KA a.length).map λk=>a.length-1-k:=by
  unfold Ou
  have c:(if(-1:Int)>0 then(if(a.length:Int)-1 < -1 then(-1-((a.length:Int)-1) + -1-1) / -1 else 0)else(if(a.length:Int)-1 > -1 then((a.length:Int)-1 - -1 - -1-1)/(- -1)else 0))=(a.length:Int):=by
   rw[No (by decide)];split
   ·rw[show(- -1:Int)=1 by decide,Int.ediv_one];lia
   lia
  simp only[c,MB];refine KX λk f=>?_;lia
 simp only[d,List.filterMap_map];have:=wF a a.length (J7 _);rw[LO (by simp)]at this;rw[<-this]
 have e:((λx=>a.toArray[x]?)∘λk=>a.length-1-k)=λk=>a[a.length-1-k]?:=by
  funext k;simp
 rw[e]
section
variable{X:aS}{e st:Nu}{u b:a9}{c a:Pos}
theorem c9.reverse{K:JS}{B:ak}:∀{a:OK}{b:OM},c9 K B a b->c9 K B a.reverse b.reverse
 |_,_,.nil=>.nil
 |_,_,.cons h r=>by
  rw[LN,LN];exact(c9.reverse r).append (.cons h .nil)
end
section
variable{K:JS}{X:aS}{e:Nu}{f:OU}{u:a9}{w:dr}{c p:Pos}{I:OP}{i:Nat}{b:OV}{d:gu->OL->D->OL->Prop}
theorem bz.hU{B:ak}{v:V}{b:OM}(r:bz K B v (.lst b)):∃a c,v=.ref a/\B a=some (.lst c)/\c9 K B c b:=by
 cases r with|lst h r=>exact⟨_,_,rfl,h,r⟩
end
theorem EQ(a:OS):N9 a.toArray none none (some 1)=a.toArray:=by
 have b:NF none none (some 1) a.toArray.size=(0,(a.length:Int),1):=by simp[NF]
 unfold N9;rw[b]
 have d:Ou 0 (a.length:Int) 1=KA a.length:=by
  unfold Ou
  have c:(if(1:Int)>0 then(if(0:Int)<(a.length:Int)then((a.length:Int)-0+1-1)/1 else 0)else(if(0:Int)>(a.length:Int)then(0-(a.length:Int)-1-1)/(-1)else 0))=(a.length:Int):=by
   rw[M2 (by decide)];split
   ·rw[Int.ediv_one];lia
   lia
  simp only[c,MB];refine(KX (g:=id) λk f=>?_).trans (MC _);show(0+1*(k:Int)).toNat=k
  lia
 simp only[d];congr 1
 have:∀(l:OS)(m:Nat),m<=l.length->(KA m).filterMap (λk=>l[k]?)=l.take m:=by
  intro l m;induction m with
  |zero=>intro _;rfl
  |succ m e=>
   intro h;rw[MA,M8,e (by lia),M9];simp[Km (show m<l.length by lia)]
 have z:=this a a.length (J7 _);rw[M']at z;refine Eq.trans ?_ z;congr 1;funext k;simp
section
variable{X:aS}{e st:Nu}{c d:bx}{g f:Pos}
def hZ(a:List b)(i:Int):List b:=if i=1 then a else a.reverse
def ER(c d:bx)(K:JS):bx:=λh H Q=>c h H λx k=>d h k λi b=>∃n:Int,i=.int n/\(n=1\/n = -1)/\∃a j,x=.ref a/\cf K b a j/\∀p,b p=none->Q (.ref p) (dQ b p (.lst (hZ j n)))
theorem ES(E:bK X e c)(F:bK X st d):bK X (.Subscript e (.Slice none none (some st) g) f) (ER c d X.K):=by
 intro m s p H Q I h;refine Subscript_ (bW (E m s p H _ I h) λv G ⟨x,J,L,M,N⟩=>?_);refine wpAny_Slice ?_;rw[On];refine NA ?_;refine NA ?_;rw[evalPart_some];refine bW (F m G p J _ L N) λu j ⟨i,O,P,R,S⟩=>?_;obtain⟨n,rfl,T,a,k,rfl,U,q⟩:=S;obtain⟨z,rfl⟩:=R;cases M;have l:b_ X m p O {j with heap:=j.heap.push {cls:=.type "slice",data:=.fields #[.none,.none,.int n z]} }:=P.kept (t':=j.toks) λb B q=>Heap.get?_push_of_some _ q;obtain⟨W,r,t,C⟩:=l.list U;have Y:=r.length;show wpAny (Nz X.prog X.w) X.A (Oo e (.Slice none none (some st) g) (.ref a) (.ref j.heap.objs.size)) (fu X m p Q) X.xe {j with heap:=j.heap.push {cls:=.type "slice",data:=.fields #[.none,.none,.int n z]} }
 refine tail_any (ops:=[.ref a,.ref j.heap.objs.size]) t.isList.typeIs slot_list_getitem.lookup ?_ (by with_unfolding_all rfl);have Z:=Y;rcases T with rfl|rfl
 ·have y:hZ k 1=k:=rfl;rw[y]at q;refine NR (st:=some 1) t.isList (Heap.IsSliceOf.new ..) .none .none (.int _ _) (by simp) ?_ (by rw[Kl]<;>lia);rw[EQ];refine⟨.ref _,_,l.laid (t':=j.toks) (o:=.lst k) (λb B q=>Heap.get?_push_of_some _ q) (J7 _) ?_,rfl,q _ (l.dR.fresh (J7 _))⟩;exact⟨by exact C,_,0,r,Heap.get?_push_size _ rfl⟩
 have y:hZ k (-1)=k.reverse:=rfl;rw[y]at q;refine NR (st:=some (-1)) t.isList (Heap.IsSliceOf.new ..) .none .none (.int _ _) (by simp) ?_ (by rw[Kl]<;>lia);rw[EP];refine⟨.ref _,_,l.laid (t':=j.toks) (o:=.lst k.reverse) (λb B q=>Heap.get?_push_of_some _ q) (J7 _) ?_,rfl,q _ (l.dR.fresh (J7 _))⟩;exact⟨by rw[List.length_reverse];exact C,_,0,r.reverse,Heap.get?_push_size _ rfl⟩
end
section
variable{X:aS}{e st:Nu}{u b:a9}{f c p:Pos}{F:ci}{g:Nu}
theorem c9.hand{K:JS}{B:ak}{a:OK}{b:OM}{n:Int}(r:c9 K B a b):c9 K B (L3.hZ a n) (L3.hZ b n):=by
 unfold L3.hZ;split
 ·exact r
 exact r.reverse
def ET(u b:a9):dr:=λa k=>u a λx=>b a λi=>∃n:Int,i=.int n/\(n=1\/n = -1)/\∃d,r4 x=some d/\k (L3.hZ d n)
theorem EU(r:bc X e u)(t:bc X st b):jg X (.Subscript e (.Slice none none (some st) f) c) (ET u b):=by
 obtain⟨_,w,x⟩:=r;obtain⟨_,y,A⟩:=t;refine⟨_,ES w y,λg k h R W B H j Q e q=>?_⟩;refine x g _ h R W B H j _ e λd v C E F G I J=>?_;refine A g _ F R W C E j _ G λi aj K hc L l m M=>?_;obtain⟨n,rfl,N,ax,O,z⟩:=L;obtain⟨a,P,rfl,S,o⟩:=vS l.bh (J.mono m.s) O;refine⟨n,M.d4,N,a,P,rfl,S,λp T=>?_⟩;obtain⟨U,Y,Z,af,ag⟩:=l.gM T o.hand;exact q _ p _ K _ z U (I.trans m) Y Z af o.hand ag
end
def gd(h:NH):Frag:=(KA h.objs.size).filterMap λa=>(h.get? a).map λo=>(a,o)
theorem wG(g:Nat->Option Obj)(a:Nat):∀l:OP,(l.filterMap λb=>(g b).map λo=>(b,o)).lookup a=if a∈l then g a else none
 |[]=>rfl
 |b::l=>by
  have c:=wG g a l;cases q:g b with
  |none=>
   rw[List.filterMap_cons_none (by rw[q];rfl),c];by_cases e:a=b
   ·subst e;rw[q];simp
   simp[e]
  |some o=>
   rw[List.filterMap_cons_some (b:=(b,o)) (by rw[q];rfl),List.lookup_cons];by_cases e:a=b
   ·subst e;simp[q]
   have:(a==b)=false:=by simpa using e
   simp only[this,c,J6,e,false_or]
theorem lV(h:NH)(a:KT):(gd h).lookup a=h.get? a:=by
 refine(wG h.get? a _).trans ?_;by_cases e:a<h.objs.size
 ·rw[M2 (Lk.mpr e)]
 rw[No (λz=>e (Lk.mp z))];exact(Heap.get?_none_of_le (Nat.le_of_not_lt e)).symm
theorem EV(h:NH):Frag.In (gd h) h:=λa o e=>by rwa[lV]at e
theorem nw(h:NH)(name:Str):nsIn (gd h) Nr name=kq h name:=by unfold nsIn kq;rw[lV];rfl
theorem EW(h:NH)(a:KB)(q:Str):codeIn (gd h) a q=qs h a q:=by
 unfold codeIn qs;cases a<;>first|rfl|(simp only[lV];rfl)
def pv(K:Frag)(x:Str)(st:NI):Prop:=∃f a,nsIn K Nr x=some (some (.ref f))/\iA K x x st f a
theorem sK(x:Str)(st:NI):oh x st=some (x,x,kF st,.stmts (h1 st),b9 st,Nr,[],.none,N1,true):=by cases st<;>rfl
theorem EX{h:NH}{x:Str}{st:NI}(e:og h x=oh x st):pv (gd h) x st:=by
 unfold og at e;split at e
 ·rename_i f b
  split at e
  ·rename_i oc od c osl a
   obtain⟨g,i,j,k,sc,l,m,n,d,doc,pm,an,cdv,ct,o⟩:=c;rw[sK]at e;simp only[L0,Lz]at e;obtain⟨rfl,rfl,rfl,rfl,rfl,rfl,rfl,rfl,rfl,e⟩:=e;refine⟨f,_,by rw[nw];exact b,BX (oc:=oc) (od:=od) (osl:=osl) (kV:=d) (doc:=doc) (pm:=pm) (an:=an) (cdv:=cdv) (ct:=ct) (by rw[lV];exact a) (by rw[EW];exact e) ?_⟩;unfold keepIn;simp only[lV,a]
  rw[sK]at e;cases e
 rw[sK]at e;cases e
def sM(K:Frag):List (Str×NI)->Prop
 |[]=>True
 |p::l=>pv K p.1 p.2/\sM K l
def ik(K:Frag):OR->Prop
 |[]=>True
 |b::l=>nsIn K Nr b=some none/\ik K l
def wH(K:Frag)(x:Str)(i j:Int):Prop:=∃p a b n c d,nsIn K Nr x=some (some (.ref p))/\K.lookup p=some ⟨.type "tuple",a,.seq #[.int i c,.int j d] n,b⟩
def sN(K:Frag):List (Str×Int×Int)->Prop
 |[]=>True
 |p::l=>wH K p.1 p.2.1 p.2.2/\sN K l
def wI(K:Frag)(x:Str)(c:Int ⊕ Str):Prop:=match c with
 |.inl i=>∃t,nsIn K Nr x=some (some (.int i t))
 |.inr s=>∃t,nsIn K Nr x=some (some (.str s t))
def sO(K:Frag):List (Str×(Int ⊕ Str))->Prop
 |[]=>True
 |p::l=>wI K p.1 p.2/\sO K l
structure jR(t:jE)(K:Frag):Prop where
 tf:sM K t.fs
 tb:ik K t.bs
 tt:sN K t.ts
 tc:sO K t.cs
def gn(t:jE)(_:NE)(h:NH):Prop:=∃a:NH,(∀b o,a.get? b=some o->h.get? b=some o)/\jR t (gd a)
theorem EY{h:NH}{a:KT}{o:Obj}(m:(a,o)∈gd h):h.get? a=some o:=by
 obtain⟨i,_,q⟩:=Mj.mp m;obtain⟨d,b,c⟩:=Na.mp q;cases c;exact b
theorem E1{h a:NH}{f:Str->Option KB}(k:∀b o,a.get? b=some o->h.get? b=some o)(G:h.Ns Nr f):L3.iD (gd a)=[]:=by
 refine List.filterMap_eq_nil_iff.mpr λp g=>?_;obtain⟨b,c,d,l,m⟩:=p;have e:=k _ _ (EY g);split
 ·rename_i q
  split
  ·split
   ·rename_i z
    cases q;obtain⟨o,n,r,i,j,_⟩:=G;rw[z]at e;rw[i]at e;cases e;cases j
   rfl
  rfl
 rfl
theorem wJ{h:NH}:∀{l:List (Str×NI)},(l.map λp=>og h p.1)=(l.map λp=>oh p.1 p.2)->sM (gd h) l
 |[],_=>trivial
 |p::l,e=>by
  simp only[KR,L1]at e;exact⟨EX e.1,wJ e.2⟩
theorem gx{h:NH}:∀{l:OR},(l.map λb=>kq h b)=(l.map λ_=>some none)->ik (gd h) l
 |[],_=>trivial
 |p::l,e=>by
  simp only[KR,L1]at e;exact⟨by rw[nw];exact e.1,gx e.2⟩
theorem E2{h:NH}{x:Str}{i j:Int}(e:oi h x=some (x,i,j)):wH (gd h) x i j:=by
 unfold oi at e;split at e
 ·rename_i p d
  split at e
  ·rename_i f a n g k
   split at e
   ·rename_i l b m c o
    simp only[L0,Lz]at e;obtain⟨_,rfl,rfl⟩:=e;have q:a = #[.int l b,.int m c]:=Array.toList_inj.mp o;subst q;exact⟨p,f,g,n,b,c,by rw[nw];exact d,by rw[lV];exact k⟩
   cases e
  cases e
 cases e
theorem wK{h:NH}:∀{l:List (Str×Int×Int)},(l.map λp=>oi h p.1)=(l.map λp=>some p)->sN (gd h) l
 |[],_=>trivial
 |p::l,e=>by
  simp only[KR,L1]at e;exact⟨E2 e.1,wK e.2⟩
theorem E3{h:NH}{x:Str}{c:Int ⊕ Str}(e:oj h x=some (x,c)):wI (gd h) x c:=by
 unfold oj at e;split at e
 ·rename_i i t a
  simp only[L0,Lz]at e;obtain⟨_,rfl⟩:=e;exact⟨t,by rw[nw];exact a⟩
 ·rename_i i t a
  simp only[L0,Lz]at e;obtain⟨_,rfl⟩:=e;exact⟨t,by rw[nw];exact a⟩
 cases e
theorem wL{h:NH}:∀{l:List (Str×(Int ⊕ Str))},(l.map λp=>oj h p.1)=(l.map λp=>some p)->sO (gd h) l
 |[],_=>trivial
 |p::l,e=>by
  simp only[KR,L1]at e;exact⟨E3 e.1,wL e.2⟩
theorem kh(t:jE)(w:NE)(s:KF)(e:ml t s=mm t w):gn t w s.heap:=by
 simp only[ml,mm,Lz]at e;exact⟨s.heap,λ_ _ e=>e,wJ e.1,gx e.2.1,wK e.2.2.1,wL e.2.2.2⟩
theorem jK(t:jE)(w:NE)(h a:NH)(y:gn t w h)(k:∀b o,h.get? b=some o->a.get? b=some o):gn t w a:=by
 obtain⟨c,x,r⟩:=y;exact⟨c,λb o e=>k _ _ (x _ _ e),r⟩
theorem pv.en{K:Frag}{h:NH}{c:Str->Option KB}{x:Str}{st:NI}{d:OR}(X:K.In h)(G:h.Ns Nr c)(F:pv K x st)(b:∀f a,iA K x x st f a->eB K a d []):c3 K c x st d:=by
 obtain⟨f,a,m,F⟩:=F;exact⟨f,a,mg_of X G m,F,b f a F⟩
abbrev px(x:Str)(st:NI)(b:OS)(r:List (Str×KB)):Prop:=∀(kV doc c:KB)(d:Option KT)(a e:KB),OI (fnOf x x (kF st) (h1 st) (b9 st) .none kV doc c d a e) ⟨b,[]⟩=pure r
abbrev py(x:Str)(st:NI)(c:OR):Prop:=∀(kV doc d:KB)(e:Option KT)(a f:KB)(b:OS),b.length=c.length->OI (fnOf x x (kF st) (h1 st) (b9 st) .none kV doc d e a f) ⟨b,[]⟩=pure (c.zip b)
section
variable{x:Str}{st:NI}
theorem jv{p:Str}(b:∀a,px x st [a] [(p,a)]):py x st [p]:=λ_ _ _ _ _ _ c d=>match c,d with|[a],_=>b a _ _ _ _ _ _
theorem fS{p q:Str}(c:∀a b,px x st [a,b] [(p,a),(q,b)]):py x st [p,q]:=λ_ _ _ _ _ _ d e=>match d,e with|[a,b],_=>c a b _ _ _ _ _ _
theorem ny{p q r:Str}(d:∀a b c,px x st [a,b,c] [(p,a),(q,b),(r,c)]):py x st [p,q,r]:=λ_ _ _ _ _ _ e f=>match e,f with|[a,b,c],_=>d a b c _ _ _ _ _ _
theorem E4{p q r s:Str}(e:∀a b c d,px x st [a,b,c,d] [(p,a),(q,b),(r,c),(s,d)]):py x st [p,q,r,s]:=λ_ _ _ _ _ _ f g=>match f,g with|[a,b,c,d],_=>e a b c d _ _ _ _ _ _
end
theorem jS{l:OpenLaw}{k:Nat}{q:Ny}{c:OR}{E:(Str->Option KB)->NH->Prop}{t:jE}{d:DefRec}(I:l.most=some 63)(J:d.params.defaults=[])(L:d1 k Ot)(F:∀(w:NE)(K:Frag)(j:Str->Option KB)(m:KT)(h:NH),jR t K->K.In h->h.Ns Nr j->j d.name=some (.ref m)->∃n:NP,(∀(s:KF)(u:KB),OH s n ⟨[u],[]⟩ [("_law_script",u)])/\∀base:NH,K.In base->base.Ns Nr j->gT l.prog w K j base h2 k m n ["_law_script"] (ph K)):
  WalkO q c E (gn t) l.row.toRowW d [] (λf v=>PySem.call f v):=by
 refine Att.attach_call I J λw x M j Z m o ae ag N a v O G Y ai aj hc P Q i y R=>?_;obtain⟨r,A,T⟩:=Y;have B:(gd r).In M.heap:=(EV r).keeps A;have S:=E1 A G.T.g;obtain⟨n,U,W⟩:=F w (gd r) j m _ T B G.T.g P;exact BP B G.T.g G.T.b G.T.builtins G.T.nolimit R Q i (ko y) L W U (λ_=>none) (λb u z=>by cases z) (λp C=>by rw[S]at C;cases C) (λH ao X=>⟨a,O,rfl,X,y,λ_=>rfl⟩) λH e aq z=>z
def c_(g p:aa):aa:=(p.1*g.2.2+g.1*p.2.2,p.2.1*g.2.2+g.2.1*p.2.2,p.2.2*g.2.2)
def dO(p:aa):aa:=(-p.1,-p.2.1,p.2.2)
def pz(p q r s:aa):aa:=a_ (a_ p q) (a_ r s)
def az(p q r:aa):Int:=(a_ p q).1*r.1+(a_ p q).2.1*r.2.1+(a_ p q).2.2*r.2.2
def bt(x:Int):Int:=if 0<x then 1 else if x<0 then -1 else 0
theorem E5{x y c d:Int}(b:0<c)(e:0<d)(h:c*x=d*y):bt x=bt y:=by
 have posQz:0<x↔0<y:=by
  constructor
  ·intro f;have:=J9 b f;rw[h]at this;exact K7 this e
  intro g;have:=J9 e g;rw[<-h]at this;exact K7 this b
 have i:x=0↔y=0:=by
  constructor
  ·intro f;rw[f,Kd]at h;exact(Kq.mp h.symm).resolve_left (J8 e)
  intro g;rw[g,Kd]at h;exact(Kq.mp h).resolve_left (J8 b)
 unfold bt;by_cases a:0<x
 ·rw[M2 a,M2 (posQz.mp a)]
 rw[No a,No (λz=>a (posQz.mpr z))];by_cases j:x=0
 ·rw[No (by lia),No (by have:=i.mp j;lia)]
 have:y≠0:=λz=>j (i.mpr z);have:¬0<y:=λz=>a (posQz.mpr z);rw[M2 (by lia),M2 (by lia)]
structure lX(L:aa->aa):Prop where
 kr:∀c p,L (sc c p)=sc c (L p)
 z:∃k,0<k/\∀p,(L p).2.2=k*p.2.2
 mt:∃d,d≠0/\∀p q r s,pz (L p) (L q) (L r) (L s)=sc d (L (pz p q r s))
 dt:∃d,0<d/\∀p q r,az (L p) (L q) (L r)=d*az p q r
def cs(g c:aa):aa:=(g.2.2*c.1,g.2.2*c.2.1,g.2.2*c.2.2-g.1*c.1-g.2.1*c.2.1)
theorem sP(g p q:aa):a_ (c_ g p) (c_ g q)=sc g.2.2 (cs g (a_ p q)):=by
 refine e4 ?_ ?_ ?_<;>simp only[a_,sc,c_,cs]<;>grind
theorem E6(g u v:aa):a_ (cs g u) (cs g v)=sc g.2.2 (c_ g (a_ u v)):=by
 refine e4 ?_ ?_ ?_<;>simp only[a_,sc,c_,cs]<;>grind
theorem E7{g:aa}(a:0<g.2.2):lX (c_ g):=by
 have b:=J8 a;refine⟨λc p=>by refine e4 ?_ ?_ ?_<;>simp only[sc,c_]<;>grind,⟨g.2.2,a,λp=>by simp only[c_];grind⟩,⟨g.2.2*g.2.2*g.2.2,Kx (Kx b b) b,λp q r s=>?_⟩,⟨g.2.2*g.2.2*g.2.2,J9 (J9 a a) a,λp q r=>?_⟩⟩
 ·unfold pz;rw[sP,sP,wD,E6,EO]
 unfold az;rw[sP];generalize a_ p q=c;simp only[sc,cs,c_];grind
theorem pA(p q:aa):a_ (dO p) (dO q)=dO (a_ p q):=by
 refine e4 ?_ ?_ ?_<;>simp only[a_,dO]<;>grind
theorem E8:lX dO:=by
 refine⟨λc p=>by refine e4 ?_ ?_ ?_<;>simp only[sc,dO]<;>grind,⟨1,by decide,λp=>by simp only[dO];grind⟩,⟨1,by decide,λp q r s=>?_⟩,⟨1,by decide,λp q r=>?_⟩⟩
 ·unfold pz;rw[pA,pA,pA];refine e4 ?_ ?_ ?_<;>simp only[sc]<;>grind
 unfold az;rw[pA];generalize a_ p q=c;simp only[dO];grind
theorem lX.low{L:aa->aa}(l:lX L){p:aa}(b:0<p.2.2):0<(L p).2.2/\∃k,0<k/\L p=sc k (nP (L p)):=by
 obtain⟨k,c,e⟩:=l.z;have posQz:0<(L p).2.2:=by rw[e];exact J9 c b
 obtain⟨g,h,a⟩:=ia (J8 posQz);have d:=(gc (J8 posQz)).1;refine⟨posQz,g,?_,a⟩;have f:(L p).2.2=g*(nP (L p)).2.2:=Nq (λp:aa=>p.2.2) a;rw[f]at posQz;exact Nb posQz d
theorem E9(a b c:Int)(p q r:aa):az (sc a p) (sc b q) (sc c r)=a*b*c*az p q r:=by
 simp only[az,wD];generalize a_ p q=u;simp only[sc];grind
theorem lX.side{L:aa->aa}(l:lX L){p q r:aa}(e:0<p.2.2)(f:0<q.2.2)(g:0<r.2.2):bt (az (nP (L p)) (nP (L q)) (nP (L r)))=bt (az p q r):=by
 obtain⟨_,a,h,i⟩:=l.low e;obtain⟨_,b,j,k⟩:=l.low f;obtain⟨_,c,m,n⟩:=l.low g;obtain⟨d,o,s⟩:=l.dt;refine E5 (J9 (J9 h j) m) o ?_;rw[<-E9,<-i,<-k,<-n,s]
theorem sQ{p:aa}(a:aU p):nP (dO p)=dO p:=pu (vm a)
theorem pC{a b:Int}(h:∀k:Int,k∣a->k∣b->k∣1):J2 a b=1:=by
 have q:=K0.mpr (h _ (MD a b) (LY a b));simpa using q
theorem sR{a b k:Int}(g:J2 a b=1)(c:k∣a)(d:k∣b):k∣1:=by
 have:=ME c d;rwa[g]at this
theorem sS{k n m:Int}(h:k∣n*m)(g:J2 k m=1):k∣n:=vi (by rw[Kn];exact h) g
theorem wO{a b k:Int}(g:J2 a b=1)(h:k∣a):J2 k b=1:=pC λj c d=>sR g (KG c h) d
theorem sT{x y z a b n:Int}(p:iB x y z)(c:n≠0)(g:x*n=a*z)(h:y*n=b*z):cE a b n=(x,y,z):=by
 obtain⟨q,i,j,_⟩:=ju (a:=a) (b:=b) c;obtain⟨d,e,f⟩:=rQ q p (K1 c (by grind)) (K1 c (by grind));exact Lv d (Lv e f)
theorem sU{a b:Int}(h:a≠0\/b≠0):∃x y:Int,a=((J2 a b:Nat):Int)*x/\b=((J2 a b:Nat):Int)*y/\J2 x y=1:=by
 obtain⟨x,c⟩:=MD a b;obtain⟨y,d⟩:=LY a b;refine⟨x,y,c,d,?_⟩
 have posQz:0<J2 a b:=by
  rcases h with h|h
  ·exact Nc b h
  exact Mp a h
 have q:J2 a b=(((J2 a b:Nat):Int)).natAbs*J2 x y:=EM c d;rw[Int.natAbs_natCast]at q;exact MZ posQz (by lia)
theorem wP{a b:Int}(h:a≠0\/b≠0):((J2 a b:Nat):Int)≠0:=by
 have posQz:0<J2 a b:=by
  rcases h with h|h
  ·exact Nc b h
  exact Mp a h
 lia
theorem pD{a b:Int}(h:a≠0\/b≠0):0<((J2 a b:Nat):Int):=by
 have:=wP h;lia
theorem sV{s y:Int}(a:0<s)(h:0<s*y):0<y:=K7 h a
theorem E'{x y z:Int}(h:∀k:Int,k∣x->k∣y->k∣z->k∣1):J2 (J2 x y:Nat) z=1:=
 pC λk a b=>h k (KG a (MD x y)) (KG a (LY x y)) b
theorem Fa{x y z k:Int}(g:J2 (J2 x y:Nat) z=1)(a:k∣x)(b:k∣y)(c:k∣z):k∣1:=sR g (ME a b) c
theorem wQ{a b n r w k N M:Int}(g:J2 (J2 a b:Nat) n=1)(e:N∣n)(d:J2 N M=1)(f:k∣a*M+r*N)(h:k∣b*M+w*N)(c:k∣N):k∣1:=by
 have i:k∣a*M:=by
  have:=Int.dvd_sub f (L4 c (b:=r));simpa using this
 have j:k∣b*M:=by
  have:=Int.dvd_sub h (L4 c (b:=w));simpa using this
 exact Fa g (sS i (wO d c)) (sS j (wO d c)) (KG c e)
theorem Fb{a b n r w m:Int}(K:iB a b n)(L:iB r w m){s X Y d:Int}(x:s=(J2 n m:Nat))(i:X=a*m.fdiv s+r*n.fdiv s)(l:Y=b*m.fdiv s+w*n.fdiv s)(y:d=(J2 ((J2 s X:Nat):Int) Y:Nat)):
  (X.fdiv d,Y.fdiv d,n.fdiv s*m.fdiv d)=cE (a*m+r*n) (b*m+w*n) (n*m):=by
 obtain⟨o,O⟩:=K;obtain⟨P,Q⟩:=L;obtain⟨N,M,f,g,A⟩:=sU (a:=n) (b:=m) (.inl (J8 o));have p:0<s:=by rw[x];exact pD (.inl (J8 o))
 rw[<-x]at f g;have c:=J8 p;rw[lU f c,lU g c]at i l;obtain⟨h,R,S,T,U⟩:=sU (a:=s) (b:=X) (.inl c);have B:=wP (a:=s) (b:=X) (.inl c);obtain⟨E,aw,q,t,W⟩:=sU (a:=((J2 s X:Nat):Int)) (b:=Y) (.inl B);have C:0<d:=by rw[y];exact pD (.inl B)
 rw[<-y]at q t;have u:=J8 C
 have Z:s=d*(E*h):=by
  rw[S]
  conv=>lhs;rw[q]
  rw[KV]
 have F:X=d*(E*R):=by
  rw[T]
  conv=>lhs;rw[q]
  rw[KV]
 have vs:m=d*(E*h*M):=by rw[g,Z,KV]
 rw[lU F u,lU t u,lU f c,lU vs u];have af:0<N:=sV p (by lia);have ag:0<M:=sV p (by lia);have ah:0<E*h:=sV C (by lia);refine(sT ⟨J9 af (J9 ah ag),?_⟩ (J8 (J9 o P)) ?_ ?_).symm
 ·refine E' λk G H aj=>?_;have I:k∣X:=by rw[F];exact L4 G
  have J:k∣Y:=by rw[t];exact L4 H
  have hc:J2 k N=1:=pC λj e v=>wQ O ⟨s,by rw[f,Kn]⟩ A (by rw[<-i];exact KG e I) (by rw[<-l];exact KG e J) v;have aq:J2 k M=1:=pC λj e v=>wQ (a:=r) (b:=w) (n:=m) (r:=a) (w:=b) (N:=M) (M:=N) Q ⟨s,by rw[g,Kn]⟩ (by rw[LP];exact A) (by rw[Int.add_comm,<-i];exact KG e I) (by rw[Int.add_comm,<-l];exact KG e J) v;have au:k∣E*h:=sS (vi aj hc) aq
  have av:k∣E:=by
   have z:=ME au G;rw[Int.gcd_mul_left,U,Nat.mul_one]at z;exact KG z (Int.natAbs_dvd.mpr (Int.dvd_refl E))
  exact sR W av H
 ·grind
 grind
theorem bQ.sld{m n:Nat}{g p:aa}(d:bQ m g)(e:bQ n p):bQ (n+m+1) (L3.c_ g p):=by
 refine⟨?_,?_,?_⟩
 ·exact J4 (NC (wp e.a d.c) (wp d.a e.c)) (by lia)
 ·exact J4 (NC (wp e.b d.c) (wp d.b e.c)) (by lia)
 exact J4 (wp e.c d.c) (by lia)
theorem bQ.trn{m:Nat}{p:aa}(d:bQ m p):bQ m (L3.dO p):=⟨Nv d.a,Nv d.b,d.c⟩
theorem aU.trn{p:aa}(h:aU p):aU (L3.dO p):=vm h
theorem j'{g p:aa}(a:aU g)(b:aU p):(c_ g p).2.2≠0:=B7 b.1 a.1
theorem aU.sld{g p:aa}(a:aU g)(b:aU p):aU (nP (L3.c_ g p)):=gc (j' a b)
theorem bQ.jx{m n:Nat}{g p:aa}(a:bQ m g)(b:bQ n p)(c:aU g)(d:aU p):bQ (n+m+1) (L3.nP (L3.c_ g p)):=(a.sld b).nP (j' c d)
theorem Fl(x:Int):bt (-x) = -bt x:=by
 unfold bt;split<;>split<;>(try split)<;>(try split)<;>lia
theorem Fm(x:Int):(if 0<x then(1:Int)else 0)-(if x<0 then 1 else 0)=bt x:=by
 unfold bt;split<;>split<;>lia
theorem ic(p q:aa):az p q q=0:=by unfold az a_;grind
def bi(a:OJ)(n:Nat):aa:=(a[n]?).getD (0,0,1)
theorem nB{a:OJ}{n:Nat}(h:n<a.length):bi a n=a[n]:=by unfold bi;rw[Km h];rfl
theorem sZ{f:aa->aa}{a:OJ}{n:Nat}(h:n<a.length):bi (a.map f) n=f (bi a n):=by
 rw[nB h,nB (by rw[J5];exact h),List.getElem_map]
theorem hT{ps:OJ}{n:Nat}(h:n<ps.length):bi ps n∈ps:=by rw[nB h];exact L5 h
theorem pF{a:OJ}{n:Nat}(h:n<a.length):dv (a.map aE) (n:Int)=some (aE (bi a n)):=by rw[nB h];exact EC (ED h)
def dS(a:OJ):Prop:=3<=a.length/\∀k j,k<a.length->j<a.length->j≠k->j≠(k+1)%a.length->bt (az (bi a k) (bi a ((k+1)%a.length)) (bi a j))=1
theorem dS.map{f:aa->aa}{a:OJ}(g:∀p q r,p∈a->q∈a->r∈a->bt (az (f p) (f q) (f r))=bt (az p q r))(h:dS a):dS (a.map f):=by
 refine⟨by rw[J5];exact h.1,λk j b c i d=>?_⟩;rw[J5]at b c d⊢;have e:(k+1)%a.length<a.length:=Lf _ (by lia);rw[sZ b,sZ c,sZ e,g _ _ _ (hT b) (hT e) (hT c)];exact h.2 k j b c i d
theorem s0{p q r:aa}(h:bt (az p q r)=1):dS [p,q,r]:=by
 refine⟨by simp,λk j a b f c=>?_⟩;have l:[p,q,r].length=3:=rfl;rw[l]at a b c⊢;have d:az q r p=az p q r:=by unfold az a_;grind
 have e:az r p q=az p q r:=by unfold az a_;grind
 have:k=0\/k=1\/k=2:=by lia
 rcases this with rfl|rfl|rfl
 ·have:j=2:=by lia
  subst this;exact h
 ·have:j=0:=by lia
  subst this;show bt (az q r p)=1
  rw[d];exact h
 have:j=1:=by lia
 subst this;show bt (az r p q)=1
 rw[e];exact h
abbrev bd:=OJ×Bool×aa
abbrev ON:=List bd
def cl(s:bd):D:=.tup [.lst (s.1.map aE),.bl s.2.1,aE s.2.2]
structure cr(m:Nat)(p:aa):Prop where
 pt:aU p
 bp:bQ m p
theorem cr.mono{m n:Nat}{p:aa}(h:cr m p)(l:m<=n):cr n p:=⟨h.pt,h.bp.mono l⟩
def hx(s:bd):bd:=(s.1.map dO,!s.2.1,dO s.2.2)
def iQ(g:aa)(s:bd):bd:=(s.1.map (λp=>nP (c_ g p)),s.2.1,nP (c_ g s.2.2))
theorem cr.trn{m:Nat}{p:aa}(h:cr m p):cr m (L3.dO p):=⟨h.pt.trn,h.bp.trn⟩
theorem cr.sl{m n:Nat}{g p:aa}(a:cr m g)(h:cr n p):cr (n+m+1) (nP (c_ g p)):=⟨a.pt.sld h.pt,a.bp.jx h.bp a.pt h.pt⟩
theorem Fn{p q r:aa}(a:aU p)(b:aU q)(c:aU r):bt (az (dO p) (dO q) (dO r))=bt (az p q r):=by
 have:=E8.side a.1 b.1 c.1;rwa[sQ a,sQ b,sQ c]at this
theorem Fo(p q r:aa):p.1*(q.2.1*r.2.2-q.2.2*r.2.1)-p.2.1*(q.1*r.2.2-q.2.2*r.1)+p.2.2*(q.1*r.2.1-q.2.1*r.1)=az p q r:=by unfold az a_;grind
theorem s1{c:Type}{f:c->D}{d:cW}{u:a9}{e:OL}:∀{a:List c}{g:aM}{k:OM->Prop},(∀r∈a,∀k:Bool->Prop,k false->d (.val (f r)::e) k)->k []->ga (eg 0) d u (a.map f) (g::e) k
 |[],_,_,_,b=>b
 |r::a,g,k,h,b=>by
  refine h r J1 _ ?_;rw[No Ke];exact s1 (λx i=>h x (J3 _ i)) b
theorem wW(k n:Nat):((k:Int)+1)%(n:Int)=(((k+1)%n:Nat):Int):=by
 rw[Int.natCast_emod];rfl
theorem wX{u:a9}{fs:OL}{Pp:aa->Prop}:∀{a:OM}{f:aM}{k:OM->Prop},(∀d∈a,∀k:D->Prop,(∀p,Pp p->k (aE p))->u (.val d::fs) k)->(∀b:OJ,b.length=a.length->(∀p∈b,Pp p)->k (b.map aE))->ga (eg 0) iN u a (f::fs) k
 |[],_,_,_,c=>c [] rfl (λ_ h=>by simp at h)
 |d::a,f,k,h,c=>by
  show(if true=true then u (.val d::fs) λy=>ga (eg 0) iN u a (.val d::fs) λg=>k (y::g)else ga (eg 0) iN u a (.val d::fs) k)
  rw[M2 rfl];refine h d J1 _ λp i=>?_;refine wX (Pp:=Pp) (λx j=>h x (J3 _ j)) λb l m=>?_
  exact c (p::b) (by simp[l]) (λq e=>by
   rcases J6.mp e with rfl|e
   ·exact i
   exact m q e)
theorem wY(x:Int):bt x=1\/bt x = -1\/bt x=0:=by
 unfold bt;split
 ·exact .inl rfl
 split
 ·exact .inr (.inl rfl)
 exact .inr (.inr rfl)
theorem Fp(p q r:aa):az r q p = -az p q r:=by unfold az a_;grind
abbrev s2:e0:=o4 3 (jj (eg 0) (jj (eg 1) (jj (eg 2) o3)))
theorem s3{u:a9}{fs:OL}{h:bd->D}:∀{sh:ON}{b c d:aM}{k:OM->Prop},(∀s∈sh,∀k:D->Prop,k (h s)->u (.val (.lst (s.1.map aE))::.val (.bl s.2.1)::.val (aE s.2.2)::fs) k)->k (sh.map h)->ga s2 iN u (sh.map cl) (b::c::d::fs) k
 |[],_,_,_,_,_,a=>a
 |s::sh,b,c,d,k,e,a=>by
  refine⟨_,rfl,rfl,_,_,rfl,_,_,rfl,_,_,rfl,rfl,?_⟩;show(if true=true then u (.val (.lst (s.1.map aE))::.val (.bl s.2.1)::.val (aE s.2.2)::fs) λy=>ga s2 iN u (sh.map cl) (.val (.lst (s.1.map aE))::.val (.bl s.2.1)::.val (aE s.2.2)::fs) λf=>k (y::f)else ga s2 iN u (sh.map cl) (.val (.lst (s.1.map aE))::.val (.bl s.2.1)::.val (aE s.2.2)::fs) k)
  rw[M2 rfl];refine e s J1 _ ?_;exact s3 (λx g=>e x (J3 _ g)) a
theorem pG(f:aa->aa)(a:OJ):(a.map λp=>aE (f p))=(a.map f).map aE:=by rw[KY];rfl
theorem wZ{a b c:Nat}{s:cw}{U:gu}(I:ON->OL->Prop):∀{sh done:ON}{d:OL},I done d->
  (∀pre x f d,done++sh=pre++x::f->I pre d->∀N:OL->Prop,(∀r,I (pre++[x]) r->N r)->s {U with nx:=N,ct:=N,bk:=U.nx} (((d.set a (.val (.lst (x.1.map aE)))).set b (.val (.bl x.2.1))).set c (.val (aE x.2.2))))->
  (∀d,I (done++sh) d->U.nx d)->f8 (o4 3 (jj (eg a) (jj (eg b) (jj (eg c) o3)))) s U (sh.map cl) d
 |[],done,d,g,_,i=>i d (by rw[Kb];exact g)
 |x::sh,done,d,g,j,i=>by
  refine⟨_,rfl,rfl,_,_,rfl,_,_,rfl,_,_,rfl,rfl,?_⟩;refine j done x sh d rfl g _ λr k=>?_;refine wZ I k (λpre y f d e=>j pre y f d (by rw[<-e];simp)) λd h=>i d ?_;have e:done++[x]++sh=done++x::sh:=by simp
  rw[<-e];exact h
def dg(s:bd):List aa:=if s.2.1=true then(s.1.map λp=>nP (c_ (dO s.2.2) p)).map dO else s.1.map λp=>nP (c_ (dO s.2.2) p)
theorem pH{x:Int}(h:0<x):bt x=1:=by unfold bt;rw[M2 h]
def jw(a:Int×Int)(p q:aa):Int×Int:=(a.1*p.2.2*q.2.2+(p.1*q.2.1-p.2.1*q.1)*a.2,a.2*p.2.2*q.2.2)
def ta(b:OJ)(k:Nat):Int×Int:=(KA k).foldl (λa k=>jw a (bi b ((k+b.length-1)%b.length)) (bi b k)) (0,1)
theorem w0(a:OJ)(k:Nat):ta a (k+1)=jw (ta a k) (bi a ((k+a.length-1)%a.length)) (bi a k):=by
 unfold ta;rw[MA,List.foldl_append];rfl
theorem w1{ps:OJ}{m:Nat}(g:∀p∈ps,cr m p):∀k,k<=ps.length->0<(ta ps k).2/\KM (ta ps k).1<=(2*m+2)*k+1/\KM (ta ps k).2<=(2*m+2)*k+1
 |0,_=>⟨(show(0:Int)<1 by decide),J4 (show KM 0<=1 by decide) (by lia),J4 (show KM 1<=1 by decide) (by lia)⟩
 |k+1,h=>by
  obtain⟨j,l,i⟩:=w1 g k (by lia);have o:0<ps.length:=by lia
  have d:=g _ (hT (ps:=ps) (Lf (k+ps.length-1) o));have f:=g _ (hT (ps:=ps) (n:=k) (by lia));rw[w0];generalize bi ps ((k+ps.length-1)%ps.length)=p at *;generalize bi ps k=q at *;generalize ta ps k=a at *;have e:(2*m+2)*(k+1)+1=(2*m+2)*k+1+(2*m+2):=by rw[Nat.mul_add];lia
  rw[e];refine⟨J9 (J9 j d.pt.1) f.pt.1,?_,?_⟩
  ·refine J4 (NC (m:=(2*m+2)*k+1+m+m) (n:=m+m+1+((2*m+2)*k+1)) ?_ ?_) (by lia)
   ·exact wp (wp l d.bp.c) f.bp.c
   refine wp ?_ i;exact J4 (NL (wp d.bp.a f.bp.b) (wp d.bp.b f.bp.a)) (by lia)
  exact J4 (wp (wp i d.bp.c) f.bp.c) (by lia)
def g6(a:OJ):aa:=cE (ta a a.length).1 0 (ta a a.length).2
theorem w2{a:OJ}{k:Nat}(h:k<a.length):dv (a.map aE) ((k:Int)-1)=some (aE (bi a ((k+a.length-1)%a.length))):=by
 cases k with
 |zero=>
  have e:((0:Nat)+a.length-1)%a.length=a.length-1:=by rw[Mz];exact KZ (by lia)
  rw[e,nB (by lia)];unfold dv hg;rw[No (by lia),M2 (by rw[J5];lia)];show(a.map aE)[_]?=_
  rw[Kj,J5,show(((0:Nat):Int)-1+(a.length:Int)).toNat=a.length-1 by lia,Km (by lia)];rfl
 |succ k=>
  have e:(k+1+a.length-1)%a.length=k:=by
   rw[show k+1+a.length-1=k+a.length by lia,MF];exact KZ (by lia)
  rw[e,show(((k+1:Nat):Int)-1)=(k:Int) by lia];exact pF (by lia)
theorem gf(p q r:aa):az q r p=az p q r:=by unfold az a_;grind
theorem w3(p q r:aa):az q p r = -az p q r:=by unfold az a_;grind
theorem nC(p q:aa):az p p q=0:=by unfold az a_;grind
theorem Fq(o u a b c:aa):az o u b*az o a c=az o u a*az o b c+az o u c*az o a b:=by
 unfold az a_;grind
theorem w4{x:Int}(h:bt x=1):0<x:=by
 unfold bt at h;split at h
 ·assumption
 split at h<;>lia
def kW(a:OJ):Prop:=∀i j k,i<j->j<k->k<a.length->0<az (bi a i) (bi a j) (bi a k)
theorem dS.gV{a:OJ}(h:dS a){k j:Nat}(b:k+1<a.length)(c:j<a.length)(d:j≠k)(e:j≠k+1):0<az (bi a k) (bi a (k+1)) (bi a j):=by
 have:=h.2 k j (by lia) c d (by rw[KZ b];exact e);rw[KZ b]at this;exact w4 this
theorem dS.iu{a:OJ}(h:dS a):kW a:=by
 intro i j k n o b;induction k with
 |zero=>lia
 |succ k c=>
  by_cases e:j=k
  ·subst e;rw[<-gf];exact h.gV b (by lia) (by lia) (by lia)
  have d:=c (by lia) (by lia)
  have f:0<az (bi a i) (bi a k) (bi a (k+1)):=by
   rw[<-gf];exact h.gV b (by lia) (by lia) (by lia)
  have g:=h.gV (k:=i) (j:=k) (by lia) (by lia) (by lia) (by lia);have l:=h.gV (k:=i) (j:=k+1) (by lia) (by lia) (by lia) (by lia)
  have m:0<=az (bi a i) (bi a (i+1)) (bi a j):=by
   by_cases z:j=i+1
   ·subst z;have:az (bi a i) (bi a (i+1)) (bi a (i+1))=0:=ic _ _;lia
   exact Kw (h.gV (by lia) (by lia) (by lia) z)
  have p:=Fq (bi a i) (bi a (i+1)) (bi a j) (bi a k) (bi a (k+1));have q:=Kv m (Kw f);have r:=J9 l d;have:0<az (bi a i) (bi a (i+1)) (bi a k)*az (bi a i) (bi a j) (bi a (k+1)):=by lia
  exact K7 this g
theorem kW.jM{a:OJ}(c:3<=a.length)(h:kW a):dS a:=by
 refine⟨c,λk j d f i b=>pH ?_⟩;by_cases e:k+1<a.length
 ·rw[KZ e]at b⊢;by_cases z:k<j
  ·exact h k (k+1) j (by lia) (by lia) f
  rw[gf];exact h j k (k+1) (by lia) (by lia) e
 have g:k+1=a.length:=by lia
 rw[g,Nat.mod_self]at b⊢;rw[<-gf];exact h 0 j k (by lia) (by lia) d
def T1(a:aa):OJ->Prop
 |[]=>True
 |b::r=>(∀c∈r,0<az a b c)/\T1 a r
def T0:OJ->Prop
 |[]=>True
 |a::r=>T1 a r/\T0 r
theorem T1.sub{a:aa}{l m:OJ}(s:l.Sublist m):T1 a m->T1 a l:=by
 induction s with
 |slnil=>exact id
 |cons b s d=>exact λh=>d h.2
 |cons_cons b s d=>exact λh=>⟨λc e=>h.1 c (s.subset e),d h.2⟩
theorem T0.sub{l m:OJ}(s:l.Sublist m):T0 m->T0 l:=by
 induction s with
 |slnil=>exact id
 |cons b s a=>exact λh=>a h.2
 |cons_cons b s a=>exact λh=>⟨T1.sub s h.1,a h.2⟩
theorem w5(a:aa)(r:OJ)(i:Nat):bi (a::r) (i+1)=bi r i:=rfl
theorem Fs(a:aa)(r:OJ):bi (a::r) 0=a:=rfl
theorem Ft{r:OJ}{i:Nat}(h:i<r.length):bi r i∈r:=by
 induction r generalizing i with
 |nil=>exact absurd h (by simp)
 |cons a r b=>
  cases i with
  |zero=>exact J1
  |succ i=>exact J3 _ (b (by simpa using h))
theorem Fu{r:OJ}{c:aa}(h:c∈r):∃i,i<r.length/\bi r i=c:=by
 induction r with
 |nil=>cases h
 |cons a r b=>
  rcases J6.mp h with rfl|h
  ·exact⟨0,by simp,rfl⟩
  obtain⟨i,d,e⟩:=b h;exact⟨i+1,by simpa using d,e⟩
theorem pI(a:aa):∀r:OJ,T1 a r↔∀j k,j<k->k<r.length->0<az a (bi r j) (bi r k)
 |[]=>⟨λ_ j k _ h=>absurd h (by simp),λ_=>trivial⟩
 |b::r=>by
  constructor
  ·rintro⟨e,f⟩ j k g d;cases k with
   |zero=>lia
   |succ k=>
    have d:k<r.length:=by simpa using d
    cases j with
    |zero=>exact e _ (Ft d)
    |succ j=>exact(pI a r).mp f j k (by lia) d
  intro h;refine⟨λc l=>?_,(pI a r).mpr λj k g d=>h (j+1) (k+1) (by lia) (by simpa using d)⟩;obtain⟨i,m,rfl⟩:=Fu l;exact h 0 (i+1) (by lia) (by simpa using m)
theorem iR:∀c:OJ,T0 c↔kW c
 |[]=>⟨λ_ i j k _ _ h=>absurd h (by simp),λ_=>trivial⟩
 |a::r=>by
  constructor
  ·rintro⟨d,e⟩ i j k g f b;cases k with
   |zero=>lia
   |succ k=>
    cases j with
    |zero=>lia
    |succ j=>
     have b:k<r.length:=by simpa using b
     cases i with
     |zero=>exact(pI a r).mp d j k (by lia) b
     |succ i=>exact(iR r).mp e i j k (by lia) (by lia) b
  intro h;exact⟨(pI a r).mpr λj k f b=>h 0 (j+1) (k+1) (by lia) (by lia) (by simpa using b),(iR r).mpr λi j k d e b=>h (i+1) (j+1) (k+1) (by lia) (by lia) (by simpa using b)⟩
theorem nD(c a b:aa):a_ c (a_ a b)=eL (c.1*b.1+c.2.1*b.2.1+c.2.2*b.2.2) a (-(c.1*a.1+c.2.1*a.2.1+c.2.2*a.2.2)) b:=by
 unfold a_ eL;refine e4 ?_ ?_ ?_<;>dsimp only<;>grind
theorem w6(s t:Int)(a b q r:aa):az (eL s a t b) q r=s*az a q r+t*az b q r:=by unfold az a_ eL;dsimp only;grind
theorem w7(s:Int)(a q r:aa):az (sc s a) q r=s*az a q r:=by unfold az a_ sc;dsimp only;grind
section
theorem w8{b a:aa}:∀{r:OJ},T1 b r->(∀c∈r,0<az b c a)->T1 b (r++[a])
 |[],_,_=>⟨λc e=>absurd e (by simp),trivial⟩
 |d::r,h,k=>⟨λc e=>by
   rcases Kc.mp e with e|e
   ·exact h.1 c e
   rw[Ks.mp e];exact k d J1,w8 h.2 λc e=>k c (J3 _ e)⟩
theorem w9{a:aa}:∀{r:OJ},T0 r->T1 a r->T0 (r++[a])
 |[],_,_=>⟨trivial,trivial⟩
 |b::r,h,k=>⟨w8 h.1 λc d=>by rw[gf];exact k.1 c d,w9 h.2 k.2⟩
theorem T0.jd{a:aa}{r:OJ}(h:T0 (a::r)):T0 (r++[a]):=w9 h.2 h.1
def nE:OJ->OJ->Prop
 |[],_=>True
 |x::a,b=>(∀y∈a,∀z∈b,0<az x y z)/\nE a b
theorem pJ{x:aa}:∀{e b:OJ},T1 x (e++b)↔T1 x e/\T1 x b/\∀y∈e,∀z∈b,0<az x y z
 |[],b=>⟨λh=>⟨trivial,h,λy k=>absurd k (by simp)⟩,λh=>h.2.1⟩
 |y::e,b=>by
  constructor
  ·rintro⟨f,i⟩;obtain⟨l,m,n⟩:=pJ.mp i;refine⟨⟨λc a=>f c (Ku _ a),l⟩,m,λw d z g=>?_⟩;rcases J6.mp d with rfl|d
   ·exact f z (Kg _ g)
   exact n w d z g
  rintro⟨⟨f,i⟩,o,j⟩;refine⟨λc a=>?_,pJ.mpr ⟨i,o,λw d z g=>j w (J3 _ d) z g⟩⟩;rcases Kc.mp a with a|a
  ·exact f c a
  exact j y J1 c a
theorem ie:∀{xs a:OJ},T0 (xs++a)↔T0 xs/\T0 a/\(∀x∈xs,T1 x a)/\nE xs a
 |[],a=>⟨λh=>⟨trivial,h,λy f=>absurd f (by simp),trivial⟩,λh=>h.2.1⟩
 |x::xs,a=>by
  constructor
  ·rintro⟨c,d⟩;obtain⟨g,i,j,k⟩:=ie.mp d;obtain⟨l,m,n⟩:=pJ.mp c;refine⟨⟨l,g⟩,i,λw b=>?_,⟨n,k⟩⟩;rcases J6.mp b with rfl|b
   ·exact m
   exact j w b
  rintro⟨⟨c,d⟩,o,e,p,q⟩;exact⟨pJ.mpr ⟨c,e x J1,p⟩,ie.mpr ⟨d,o,λw b=>e w (J3 _ b),q⟩⟩
theorem pK{b c:OJ}(h:∀x y,(∀z∈b,0<az x y z)->∀z∈c,0<az x y z):∀{a:OJ},nE a b->nE a c
 |[],_=>trivial
 |x::a,k=>⟨λy d=>h x y (k.1 y d),pK h k.2⟩
def fT(p q m:aa):Prop:=∃s a b:Int,0<s/\0<a/\0<b/\sc s m=eL a p b q
theorem Fw{s x y:Int}(b:0<s)(e:s*x=y)(a:0<y):0<x:=by
 rw[<-e]at a;exact K7 a b
theorem nF{p q m u v:aa}(h:fT p q m)(g:0<=az p u v)(i:0<=az q u v)(c:0<az p u v\/0<az q u v):0<az m u v:=by
 obtain⟨s,a,b,j,d,f,e⟩:=h;have k:s*az m u v=a*az p u v+b*az q u v:=by rw[<-w7,e,w6]
 refine Fw j k ?_;have l:=Kv (Kw d) g;have n:=Kv (Kw f) i;rcases c with c|c
 ·have:=J9 d c;lia
 have:=J9 f c;lia
theorem kX{p q m u v:aa}(h:fT p q m)(a:0<=az u p v)(b:0<=az u q v)(c:0<az u p v\/0<az u q v):0<az u m v:=by
 rw[<-gf]at a b⊢;rw[<-gf u p v,<-gf u q v]at c;exact nF h a b c
theorem kY{p q m u v:aa}(h:fT p q m)(a:0<=az u v p)(b:0<=az u v q)(c:0<az u v p\/0<az u v q):0<az u v m:=by
 rw[gf]at a b⊢;rw[gf p u v,gf q u v]at c;exact nF h a b c
theorem s4{p q m:aa}(h:fT p q m):∀{a:OJ},T1 p a->T1 q a->T1 m a
 |[],_,_=>trivial
 |y::a,b,e=>⟨λc d=>nF h (Kw (b.1 c d)) (Kw (e.1 c d)) (.inl (b.1 c d)),s4 h b.2 e.2⟩
theorem dk{x:Int}(z:0<x):0<=x:=Kw z
theorem ig{x:Int}(z:x=0):0<=x:=by lia
theorem T0.back{xs ys:OJ}{p q m:aa}(h:T0 (xs++p::q::ys))(b:fT p q m):T0 (xs++p::m::ys):=by
 obtain⟨k,⟨⟨g,i⟩,l,n⟩,o,r⟩:=ie.mp h;refine ie.mpr ⟨k,⟨⟨λc a=>?_,i⟩,s4 b i l,n⟩,λx s=>?_,pK (λx y d z e=>?_) r⟩
 ·exact kX b (ig (nC p c)) (dk (g c a)) (.inr (g c a))
 ·obtain⟨f,j,t⟩:=o x s;refine⟨λc a=>?_,λc a=>?_,t⟩
  ·rcases J6.mp a with rfl|a
   ·exact kY b (ig (ic x p)) (dk (f q J1)) (.inr (f q J1))
   exact f c (J3 _ a)
  exact kX b (dk (f c (J3 _ a))) (dk (j c a)) (.inr (j c a))
 rcases J6.mp e with rfl|e
 ·exact d _ J1
 rcases J6.mp e with rfl|e
 ·exact kY b (dk (d p J1)) (dk (d q (J3 _ J1))) (.inl (d p J1))
 exact d z (J3 _ (J3 _ e))
theorem T0.on{xs ys:OJ}{p q m:aa}(h:T0 (xs++p::q::ys))(b:fT p q m):T0 (xs++m::q::ys):=by
 obtain⟨k,⟨⟨i,l⟩,j,n⟩,o,r⟩:=ie.mp h;refine ie.mpr ⟨k,⟨⟨λc a=>?_,s4 b l j⟩,j,n⟩,λx s=>?_,pK (λx y d z e=>?_) r⟩
 ·exact nF b (dk (i c a)) (ig (nC q c)) (.inl (i c a))
 ·obtain⟨f,g,t⟩:=o x s;refine⟨λc a=>?_,g,t⟩;rcases J6.mp a with rfl|a
  ·exact kX b (dk (f c J1)) (ig (ic x c)) (.inl (f c J1))
  exact kX b (dk (f c (J3 _ a))) (dk (g c a)) (.inr (g c a))
 rcases J6.mp e with rfl|e
 ·exact kY b (dk (d p J1)) (dk (d q (J3 _ J1))) (.inl (d p J1))
 exact d z (J3 _ e)
theorem T0.off{xs ys:OJ}{p q r m n:aa}(h:T0 (xs++p::q::r::ys))(i:fT p q m)(g:fT q r n):T0 (xs++p::m::n::r::ys):=by
 have v:=T0.on (xs:=xs++[p]) (p:=q) (q:=r) (by rw[KD];exact h) g;rw[KD]at v;obtain⟨G,⟨⟨w,X⟩,A,Y⟩,H,I⟩:=ie.mp h;obtain⟨_,⟨⟨l,J⟩,K,L⟩,M,Z⟩:=ie.mp (show T0 (xs++p::n::r::ys)from v);have N:T0 (xs++p::m::r::ys):=h.back i;obtain⟨_,⟨⟨O,ae⟩,P,vs⟩,g3,af⟩:=ie.mp N;have B:0<az p q n:=kY g (ig (ic p q)) (dk (w r J1)) (.inr (w r J1))
 have Q:∀c∈r::ys,0<az m n c:=λc d=>by
  refine nF i (dk (l c d)) ?_ (.inl (l c d));rcases J6.mp d with rfl|d
  ·exact ig (by
    obtain⟨s,a,b,ag,_,_,e⟩:=g
    have k:s*az q n c=a*az q q c+b*az q c c:=by
     rw[<-gf q n c,<-gf q q c,<-gf q c c,<-w7,e,w6]
    rw[nC,ic,Kd,Kd]at k;rcases Kq.mp k with z|z
    ·lia
    exact z)
  exact dk (kX g (ig (nC q c)) (dk (A.1 c d)) (.inr (A.1 c d)))
 refine ie.mpr ⟨G,⟨⟨λc d=>?_,l,J⟩,⟨Q,P⟩,K,L⟩,λx o=>?_,pK (λx y j z f=>?_) I⟩
 ·rcases J6.mp d with rfl|d
  ·exact kX i (ig (nC p c)) (dk B) (.inr B)
  exact O c d
 ·obtain⟨ah,C,aj⟩:=H x o;obtain⟨E,R,S⟩:=M x o;obtain⟨T,U,aq⟩:=g3 x o;refine⟨λc d=>?_,λc d=>?_,R,S⟩
  ·rcases J6.mp d with rfl|d
   ·exact T c J1
   exact E c d
  rcases J6.mp d with rfl|d
  ·have F:0<az x q c:=kY g (ig (ic x q)) (dk (C r J1)) (.inr (C r J1));exact kX i (dk (E c J1)) (dk F) (.inr F)
  exact U c d
 have t:=j q (J3 _ J1);have u:=j p J1;have W:=j r (J3 _ (J3 _ J1));rcases J6.mp f with rfl|f
 ·exact u
 rcases J6.mp f with rfl|f
 ·exact kY i (dk u) (dk t) (.inl u)
 rcases J6.mp f with rfl|f
 ·exact kY g (dk t) (dk W) (.inl t)
 exact j z (J3 _ (J3 _ f))
def ln(l p:aa):Int:=l.1*p.1+l.2.1*p.2.1+l.2.2*p.2.2
theorem s5(l p q r s:aa):az q r s*ln l p-az p r s*ln l q+az p q s*ln l r-az p q r*ln l s=0:=by
 unfold az a_ ln;grind
theorem T1.one{a:aa}:∀{b:OJ},nE b [a]->T1 a b
 |[],_=>trivial
 |x::b,h=>⟨λc d=>by rw[<-gf];exact h.1 c d a J1,T1.one h.2⟩
theorem T0.gI{a:aa}{r:OJ}(h:T0 (r++[a])):T0 (a::r):=by
 obtain⟨b,_,_,c⟩:=ie.mp h;exact⟨T1.one c,b⟩
theorem T0.turn:∀{xs ys:OJ},T0 (xs++ys)->T0 (ys++xs)
 |[],ys,h=>by rw[Kb];exact h
 |x::xs,ys,h=>by
  have a:T0 (xs++(ys++[x])):=by rw[<-KD];exact T0.jd h
  have b:=T0.turn a;rwa[KD]at b
section
variable(f:aa->Int)(mt:aa->aa->aa)
def kp(p:aa):List aa:=if 0<=f p then[p]else[]
def b3(p q:aa):List aa:=if f p*f q<0 then[mt p q]else[]
def b4:OJ->aa->OJ
 |[],_=>[]
 |p::r,w=>kp f p++b3 f mt p (r.headD w)++b4 r w
def bm(a:OJ):List aa:=b4 f mt a (a.headD (0,0,1))
end
variable{f:aa->Int}{mt:aa->aa->aa}
theorem FC(a b:OJ)(w:aa):(a++b).headD w=a.headD (b.headD w):=by
 cases a<;>rfl
theorem nH(w:aa):∀b a:OJ,b4 f mt (b++a) w=b4 f mt b (a.headD w)++b4 f mt a w
 |[],_=>rfl
 |p::b,a=>by
  show kp f p++b3 f mt p ((b++a).headD w)++b4 f mt (b++a) w=kp f p++b3 f mt p (b.headD (a.headD w))++b4 f mt b (a.headD w)++b4 f mt a w
  rw[nH w b a,FC,KD,KD,KD]
theorem FD(a b:OJ):∃P Q,bm f mt (a++b)=P++Q/\bm f mt (b++a)=Q++P:=by
 cases a with
 |nil=>exact⟨[],bm f mt b,rfl,by rw[Kb,Kb]⟩
 |cons x a=>
  cases b with
  |nil=>exact⟨bm f mt (x::a),[],by rw[Kb,Kb],rfl⟩
  |cons y b=>
   refine⟨b4 f mt (x::a) y,b4 f mt (y::b) x,?_,?_⟩
   ·unfold bm;rw[nH];rfl
   unfold bm;rw[nH];rfl
theorem xb{xs ys:OJ}(h:T0 (bm f mt (ys++xs))/\3<=(bm f mt (ys++xs)).length):T0 (bm f mt (xs++ys))/\3<=(bm f mt (xs++ys)).length:=by
 obtain⟨P,Q,a,b⟩:=FD (f:=f) (mt:=mt) xs ys;rw[a];rw[b]at h;refine⟨T0.turn h.1,?_⟩;have:=h.2;rw[Kh]at this⊢;lia
theorem s6{w:aa}:∀{a:aa}{A:OJ},(∀p∈A++[a],0<=f p)->b4 f mt (A++[a]) w=A++[a]++b3 f mt a w
 |a,[],h=>by
  show kp f a++b3 f mt a w++[]=[a]++b3 f mt a w
  unfold kp;rw[M2 (h a (by simp)),Kb]
 |a,p::A,h=>by
  show kp f p++b3 f mt p ((A++[a]).headD w)++b4 f mt (A++[a]) w=p::A++[a]++b3 f mt a w
  rw[s6 λq c=>h q (J3 _ c)];have d:=h p J1
  have c:0<=f ((A++[a]).headD w):=by
   cases A with
   |nil=>exact h a (by simp)
   |cons b A=>exact h b (by simp)
  unfold kp b3;rw[M2 d,No (by have:=Kv d c;lia)];simp
theorem xc{w:aa}:∀{s:aa}{N:OJ},(∀p∈N++[s],f p<0)->b4 f mt (N++[s]) w=b3 f mt s w
 |s,[],h=>by
  show kp f s++b3 f mt s w++[]=b3 f mt s w
  unfold kp;rw[No (by have:=h s (by simp);lia),Kb,LA]
 |s,p::N,h=>by
  show kp f p++b3 f mt p ((N++[s]).headD w)++b4 f mt (N++[s]) w=b3 f mt s w
  rw[xc λq a=>h q (J3 _ a)];have c:=h p J1
  have a:f ((N++[s]).headD w)<0:=by
   cases N with
   |nil=>exact h s (by simp)
   |cons b N=>exact h b (by simp)
  unfold kp b3;rw[No (by lia),No (by have:=L6 c a;lia)];rfl
def g5(f:aa->Int)(mt:aa->aa->aa):Prop:=∀p q,f p*f q<0->fT p q (mt p q)
theorem ih{p q:aa}(h:f p*f q<0):b3 f mt p q=[mt p q]:=by unfold b3;rw[M2 h]
theorem hW{p q:aa}(h:¬f p*f q<0):b3 f mt p q=[]:=by unfold b3;rw[No h]
theorem neg_mul{a b:Int}(c:0<a)(d:b<0):a*b<0:=Ko c d
theorem FE{b:aa}{A N:OJ}{s:aa}(v:g5 f mt)(h:T0 ((A++[b])++(N++[s])))(w:∀p∈A++[b],0<=f p)(x:∀p∈N++[s],f p<0)(O:3<=((A++[b])++(N++[s])).length)(P:∃p∈A++[b],0<f p):
  T0 (bm f mt ((A++[b])++(N++[s])))/\3<=(bm f mt ((A++[b])++(N++[s]))).length:=by
 obtain⟨a,d,c⟩:∃a d,A++[b]=a::d:=by
  cases A with
  |nil=>exact⟨b,[],rfl⟩
  |cons a A=>exact⟨a,A++[b],rfl⟩
 obtain⟨n,I,i⟩:∃n I,N++[s]=n::I:=by
  cases N with
  |nil=>exact⟨s,[],rfl⟩
  |cons n N=>exact⟨n,N++[s],rfl⟩
 have Y:0<=f a:=w a (by rw[c];exact J1);have Z:0<=f b:=w b (by simp);have Q:f n<0:=x n (by rw[i];exact J1);have J:f s<0:=x s (by simp)
 have e:bm f mt ((A++[b])++(N++[s]))=(A++[b])++b3 f mt b n++b3 f mt s a:=by
  unfold bm;rw[nH,s6 w,xc x,c,i];rfl
 rw[e]
 have two:N≠[]->T0 ((A++[b])++[n,s]):=λz=>by
  refine T0.sub (Lr (L7 _) ?_) h;cases N with
  |nil=>exact absurd rfl z
  |cons m N=>
   have:m=n:=(K8 i).1;subst this;exact List.Sublist.cons_cons _ (List.sublist_append_right N [s])
 have R:T0 ((A++[b])++[n]):=T0.sub (Lr (L7 _) (Ls.mpr (by rw[i];exact J1))) h;have K:T0 ((A++[b])++[s]):=T0.sub (Lr (L7 _) (Ls.mpr (by simp))) h;by_cases y:0<f b
 ·have L:f b*f n<0:=neg_mul y Q;have B:=v b n L;rw[ih L];by_cases j:0<f a
  ·have k:f s*f a<0:=by rw[Kn];exact neg_mul j J
   have o:=v s a k;rw[ih k];refine⟨?_,by simp⟩;by_cases z:N=[]
   ·subst z;have S:s=n:=(K8 i).1;subst S;cases A with
    |nil=>simp at O
    |cons g u=>
     have:g=a:=(K8 c).1;subst this
     have l:T0 (u++b::s::g::[]):=by
      have:=T0.jd (a:=g) (r:=u++[b]++[s]) K;simpa using this
     have C:=T0.gI (a:=g) (r:=u++[b,mt b s,mt s g]) (by simpa using l.off B o);simpa using C
   have t:=two z;have l:T0 (A++b::mt b n::[s]):=T0.back (by simpa using t) B
   have C:T0 (a::(d++[mt b n,s])):=by
    have:T0 ((A++[b])++[mt b n,s]):=by simpa using l
    rwa[c]at this
   have E:T0 ((d++[mt b n])++s::a::[]):=by simpa using T0.jd C
   have F:=T0.gI (a:=a) (r:=d++[mt b n,mt s a]) (by simpa using E.on o);rw[c];simpa using F
  have G:f a=0:=by lia
  have H:A≠[]:=by
   rintro rfl;have:b=a:=(K8 c).1;subst this;exact j y
  rw[hW (by rw[G,Kd];lia),Kb];refine⟨?_,?_⟩
  ·have r:=T0.back (xs:=A) (p:=b) (q:=n) (ys:=[]) (by simpa using R) B;simpa using r
  have:=MG.mpr H;simp;lia
 have T:f b=0:=by lia
 rw[hW (by rw[T,Lg];lia),Kb];by_cases j:0<f a
 ·have k:f s*f a<0:=by rw[Kn];exact neg_mul j J
  have o:=v s a k
  have H:A≠[]:=by
   rintro rfl;have:b=a:=(K8 c).1;subst this;exact y j
  rw[ih k];refine⟨?_,?_⟩
  ·have l:T0 (a::(d++[s])):=by rwa[c]at K
   have E:T0 (d++s::a::[]):=by simpa using T0.jd l
   have F:=T0.gI (a:=a) (r:=d++[mt s a]) (by simpa using E.on o);rw[c];exact F
  have:=MG.mpr H;simp;lia
 have G:f a=0:=by lia
 rw[hW (by rw[G,Kd];lia),Kb];refine⟨T0.sub (List.sublist_append_left _ _) h,?_⟩;obtain⟨p,U,ab⟩:=P;have W:p≠b:=by rintro rfl;lia
 have X:p≠a:=by rintro rfl;lia
 have M:p∈A:=by
  rcases Kc.mp U with q|q
  ·exact q
  exact absurd (Ks.mp q) W
 cases A with
 |nil=>cases M
 |cons g u=>
  have:g=a:=(K8 c).1;subst this;rcases J6.mp M with q|q
  ·exact absurd q X
  have:=List.length_pos_of_mem q;simp;lia
theorem pM{P:aa->Prop}:∀a:OJ,(∀p,P p\/¬P p)->∃A r,a=A++r/\(∀p∈A,P p)/\(r=[]\/∃x c,r=x::c/\¬P x)
 |[],_=>⟨[],[],rfl,λp d=>absurd d (by simp),.inl rfl⟩
 |p::a,em=>by
  rcases em p with h|h
  ·obtain⟨A,r,e,f,g⟩:=pM a em;refine⟨p::A,r,by rw[e];rfl,λq b=>?_,g⟩;rcases J6.mp b with rfl|b
   ·exact h
   exact f q b
  exact⟨[],p::a,rfl,λq b=>absurd b (by simp),.inr ⟨p,a,rfl,h⟩⟩
theorem xg{l p q r s:aa}(h:T0 [p,q,r,s]):¬(0<=ln l p/\ln l q<0/\0<=ln l r/\ln l s<0)/\¬(ln l p<0/\0<=ln l q/\ln l r<0/\0<=ln l s):=by
 obtain⟨⟨e,m,_⟩,⟨n,_⟩,_⟩:=h;have f:=e r (by simp);have g:=e s (by simp);have i:=m s (by simp);have j:=n s (by simp);have k:=s5 l p q r s;constructor
 ·rintro⟨a,b,c,d⟩;have o:=Kv (dk j) a;have t:=Ko i b;have u:=Kv (dk g) c;have v:=Ko f d;lia
 rintro⟨a,b,c,d⟩;have o:=Ko j a;have t:=Kv (dk i) b;have u:=Ko g c;have v:=Kv (dk f) d;lia
theorem xi{a b c d:aa}{A B C D:OJ}(e:a∈A)(f:b∈B)(g:c∈C)(h:d∈D):[a,b,c,d].Sublist (A++(B++(C++D))):=
 Lr (Ls.mpr e) (Lr (Ls.mpr f) (Lr (Ls.mpr g) (Ls.mpr h)))
theorem jy{l:aa}{o:OJ}(aq:g5 (ln l) mt)(h:T0 o)(i:3<=o.length)(f:∃p∈o,0<ln l p):T0 (bm (ln l) mt o)/\3<=(bm (ln l) mt o).length:=by
 have em:∀p,0<=ln l p\/¬0<=ln l p:=λp=>by lia
 have norm:∀A N:OJ,A≠[]->N≠[]->T0 (A++N)->3<=(A++N).length->(∀p∈A,0<=ln l p)->(∀p∈N,ln l p<0)->(∃p∈A,0<ln l p)->T0 (bm (ln l) mt (A++N))/\3<=(bm (ln l) mt (A++N)).length:=λA N au av aw M aB aC aD=>by
  obtain⟨g,b,rfl⟩:∃g b,A=g++[b]:=⟨_,_,(MH au).symm⟩;obtain⟨T,s,rfl⟩:∃T s,N=T++[s]:=⟨_,_,(MH av).symm⟩;exact FE aq aw aB aC M aD
 obtain⟨u,r,rfl,E,aF⟩:=pM (P:=λp=>0<=ln l p) o em;rcases aF with rfl|⟨x,aG,rfl,aH⟩
 ·rw[Kb]at h i f⊢;have aI:u≠[]:=by rintro rfl;simp at i
  obtain⟨g,b,rfl⟩:∃g b,u=g++[b]:=⟨_,_,(MH aI).symm⟩
  have e:bm (ln l) mt (g++[b])=g++[b]:=by
   unfold bm;rw[s6 E,hW,Kb];have U:=E b (by simp)
   have aJ:0<=ln l ((g++[b]).headD (0,0,1)):=by
    cases g with
    |nil=>exact U
    |cons a g=>exact E a (by simp)
   have:=Kv U aJ;lia
  rw[e];exact⟨h,i⟩
 obtain⟨m,W,F,aK,O⟩:=pM (P:=λp=>¬0<=ln l p) (x::aG) (λp=>by lia)
 have Q:m≠[]:=by
  rintro rfl;rcases O with rfl|⟨y,q,e,k⟩
  ·cases F
  rw[e]at F;have:x=y:=(K8 F).1;subst this;exact k aH
 have n:∀p∈m,ln l p<0:=λp f=>by have:=aK p f;lia
 obtain⟨G,H⟩:=MI m Q;rw[F]at h i f⊢;by_cases R:u=[]
 ·subst R;simp only[LA]at h i f⊢;rcases O with rfl|⟨y,q,rfl,k⟩
  ·obtain⟨p,v,I⟩:=f;rw[Kb]at v;have:=n p v;lia
  have k:0<=ln l y:=by lia
  obtain⟨J,X,K,Y,Z⟩:=pM (P:=λp=>0<=ln l p) (y::q) em
  have vs:J≠[]:=by
   rintro rfl;rcases Z with rfl|⟨z,af,e,S⟩
   ·cases K
   rw[e]at K;have:y=z:=(K8 K).1;subst this;exact S k
  rw[K]at h i f⊢
  have ag:∀w∈X,ln l w<0:=λw j=>by
   rcases Z with rfl|⟨z,af,rfl,S⟩
   ·cases j
   by_cases L:0<=ln l w
   ·rcases J6.mp j with rfl|j
    ·exact absurd L S
    obtain⟨ai,aj⟩:=MI J vs;have t:=T0.sub (xi (a:=G) (b:=ai) (c:=z) (d:=w) (A:=m) (B:=J) (C:=[z]) (D:=af) H aj J1 j) (by simpa using h);exact absurd ⟨n G H,Y ai aj,by lia,L⟩ (xg t).2
   lia
  refine xb ?_;rw[KD];refine norm J (X++m) vs (by simp[Q]) (by rw[<-KD];exact T0.turn h) (by simp at i⊢;lia) Y (λp f=>?_) ?_
  ·rcases Kc.mp f with z|z
   ·exact ag p z
   exact n p z
  obtain⟨p,v,I⟩:=f;refine⟨p,?_,I⟩;rcases Kc.mp v with z|z
  ·have:=n p z;lia
  rcases Kc.mp z with z|z
  ·exact z
  have:=ag p z;lia
 obtain⟨hc,ao⟩:=MI u R
 have aN:∀w∈W,0<=ln l w:=λw j=>by
  rcases O with rfl|⟨y,q,rfl,k⟩
  ·cases j
  by_cases L:0<=ln l w
  ·exact L
  have k:0<=ln l y:=by lia
  rcases J6.mp j with rfl|j
  ·exact k
  have t:=T0.sub (xi (a:=hc) (b:=G) (c:=y) (d:=w) (A:=u) (B:=m) (C:=[y]) (D:=q) ao H J1 j) (by simpa using h);exact absurd ⟨E hc ao,n G H,k,by lia⟩ (xg t).1
 rw[<-KD]at h i f⊢;refine xb ?_;rw[<-KD];refine norm (W++u) m (by simp[R]) Q (by rw[KD];exact T0.turn h) (by simp at i⊢;lia) (λp f=>?_) n ?_
 ·rcases Kc.mp f with z|z
  ·exact aN p z
  exact E p z
 obtain⟨p,v,I⟩:=f;refine⟨p,?_,I⟩;rcases Kc.mp v with z|z
 ·rcases Kc.mp z with z|z
  ·exact Kg _ z
  have:=n p z;lia
 exact Ku _ z
end
def aY(l p q:aa):aa:=if 0<p.2.2/\0<q.2.2 then nP (a_ l (a_ p q))else if 0<ln l q then eL (ln l q) p (-ln l p) q else eL (-ln l q) p (ln l p) q
theorem ii{x y:Int}(h:x*y<0):(0<x/\y<0)\/(x<0/\0<y):=by
 rcases K2 x 0 with z|z|z
 ·rcases K2 y 0 with w|w|w
  ·have:=L6 z w;lia
  ·rw[w,Kd]at h;lia
  exact .inr ⟨z,w⟩
 ·rw[z,Lg]at h;lia
 rcases K2 y 0 with w|w|w
 ·exact .inl ⟨z,w⟩
 ·rw[w,Kd]at h;lia
 have:=J9 z w;lia
theorem xp(p:aa):sc 1 p=p:=by unfold sc;simp
theorem FK{g a b:Int}{m p q:aa}(h:eL a p b q=sc g m):sc (-g) m=eL (-a) p (-b) q:=by
 have c:=Nq (λx:aa=>x.1) h;have d:=Nq (λx:aa=>x.2.1) h;have e:=Nq (λx:aa=>x.2.2) h;unfold sc eL at *;dsimp only at c d e⊢;refine e4 ?_ ?_ ?_<;>dsimp only<;>grind
theorem xq{l p q:aa}(h:ln l p*ln l q<0):fT p q (aY l p q):=by
 unfold aY;by_cases w:0<p.2.2/\0<q.2.2
 ·rw[M2 w];have e:a_ l (a_ p q)=eL (ln l q) p (-ln l p) q:=nD l p q;have n:(a_ l (a_ p q)).2.2=ln l q*p.2.2 + -ln l p*q.2.2:=by rw[e];rfl
  rcases ii h with⟨c,a⟩|⟨c,a⟩
  ·have j:ln l q*p.2.2<0:=by rw[Kn];exact Ko w.1 a
   have k : -ln l p*q.2.2<0:=by rw[Kn];exact Ko w.2 (by lia)
   have d:(a_ l (a_ p q)).2.2≠0:=by lia
   obtain⟨g,_,b⟩:=ia d;have f:=(gc d).1;have m:(a_ l (a_ p q)).2.2=g*(nP (a_ l (a_ p q))).2.2:=Nq (λx:aa=>x.2.2) b
   have i:g<0:=by
    by_cases z:g<0
    ·exact z
    have:=Kv (show 0<=g by lia) (dk f);lia
   rw[e]at b;refine⟨-g,-ln l q,ln l p,by lia,by lia,c,?_⟩;have:=FK b;rwa[Int.neg_neg,<-e]at this
  have j:0<ln l q*p.2.2:=J9 a w.1;have k:0 < -ln l p*q.2.2:=J9 (by lia) w.2;have d:(a_ l (a_ p q)).2.2≠0:=by lia
  obtain⟨g,_,b⟩:=ia d;have f:=(gc d).1;have m:(a_ l (a_ p q)).2.2=g*(nP (a_ l (a_ p q))).2.2:=Nq (λx:aa=>x.2.2) b
  have i:0<g:=by
   by_cases z:0<g
   ·exact z
   have:=Kv (show 0 <= -g by lia) (dk f);rw[Lp]at this;lia
  refine⟨g,ln l q,-ln l p,i,a,by lia,?_⟩;rw[<-b,e]
 rw[No w];rcases ii h with⟨c,a⟩|⟨c,a⟩
 ·rw[No (by lia)];exact⟨1,_,_,by decide,by lia,c,xp _⟩
 rw[M2 a];exact⟨1,_,_,by decide,a,by lia,xp _⟩
theorem k1(l p q:aa)(a b:Int):ln l (eL a p b q)=a*ln l p+b*ln l q:=by unfold ln eL;dsimp only;grind
theorem pP(l p:aa)(s:Int):ln l (sc s p)=s*ln l p:=by unfold ln sc;dsimp only;grind
theorem xr{f:aa->Int}{mt:aa->aa->aa}{x:aa}:∀{b:OJ}{w:aa},x∈b4 f mt b w->(x∈b/\0<=f x)\/∃p∈b,∃q,(q∈b\/q=w)/\f p*f q<0/\x=mt p q
 |[],_,h=>by cases h
 |p::r,w,h=>by
  have h:x∈kp f p++b3 f mt p (r.headD w)++b4 f mt r w:=h;rcases Kc.mp h with h|h
  ·rcases Kc.mp h with h|h
   ·unfold kp at h;split at h
    ·rename_i z
     rw[Ks.mp h];exact .inl ⟨J1,z⟩
    cases h
   unfold b3 at h;split at h
   ·rename_i z
    refine .inr ⟨p,J1,r.headD w,?_,z,Ks.mp h⟩;cases r with
    |nil=>exact .inr rfl
    |cons y r=>exact .inl (J3 _ J1)
   cases h
  rcases xr h with⟨c,a⟩|⟨d,c,q,a,e,g⟩
  ·exact .inl ⟨J3 _ c,a⟩
  refine .inr ⟨d,J3 _ c,q,?_,e,g⟩;rcases a with a|a
  ·exact .inl (J3 _ a)
  exact .inr a
theorem nM{f:aa->Int}{mt:aa->aa->aa}{x:aa}{b:OJ}(h:x∈bm f mt b):(x∈b/\0<=f x)\/∃p∈b,∃q∈b,f p*f q<0/\x=mt p q:=by
 rcases xr h with h|⟨p,d,q,c,e⟩
 ·exact .inl h
 refine .inr ⟨p,d,q,?_,e⟩;rcases c with c|c
 ·exact c
 cases b with
 |nil=>cases d
 |cons a r=>rw[c];exact J1
section
variable{X:aS}{a:OW}{d:St}{H:ak}{s:KF}{h':NH}
theorem b_.g9{t':Nat}{it e:KT}(I:b_ X a d H s)(k:∀b o,b≠it->b≠e->s.heap.get? b=some o->h'.get? b=some o)(p:gO X a H it)(t:gO X a H e):b_ X a d H {s with heap:=h',toks:=t' }:=by
 obtain⟨w,j,N,x,A,B⟩:=p;obtain⟨C,l,O,E,F,G⟩:=t;have g:∀b u,H b=some u->b≠it/\b≠e:=λb u q=>⟨(λz=>by rw[z,w]at q;cases q),(λz=>by rw[z,C]at q;cases q)⟩;have h:∀b o,b∉[it,e]->s.heap.get? b=some o->h'.get? b=some o:=λb o f q=>k b o (λz=>f (by simp[z])) (λz=>f (by simp[z])) q
 refine I.step (g':=s.gens) (d':=s.drawn) (ch:=[it,e]) (λb i=>?_) (λb o _ _ f q _=>h b o f q) (λb o _ _ f q _=>⟨o.slots,h b o f q⟩) (λ_ _ _ _ n=>n)
  (λb o f q=>⟨o,h b o f q⟩) (λ_ _ e=>e) (λ_ _ _ e=>e) (λb P q=>⟨#[],by rw[q];simp⟩) (λm J=>?_) (λb u q=>?_) I.bare
 ·rcases J6.mp i with rfl|i
  ·exact⟨x,j,A,B⟩
  rw[Ks.mp i];exact⟨E,l,F,G⟩
 ·obtain⟨o,K,L,M,r⟩:=J;exact⟨o,K,L,k _ o (KC j) (KC l) M,r⟩
 refine(I.dR b u q).fM (λc v f y=>k c v ?_ ?_ y) (λ_ q=>q) (λ_ _ q=>q) λ_ _ _ q=>q
 ·rcases f with z|z
  ·rw[z];exact(g b u q).1
  exact(g c _ z).1
 rcases f with z|z
 ·rw[z];exact(g b u q).2
 exact(g c _ z).2
end
def xt(K:JS)(a:KT):fZ:=
 ⟨λi H=>∃b x,cf K H a b/\b[i]?=some x,λi H x c=>∃p y,H p=none/\x=.ref p/\c=dQ H p (.tup [.int i,y])/\∀b,cf K H a b->b[i]?=some y,λi H=>∃b,cf K H a b/\b.length<=i⟩
theorem FO{P:Ny}{w:NE}{K:JS}{ai:OU}{k:Nat}{B:Pos}(a it e:KT)(R:e≠it):lq P w K (.Tuple ai k B) (xt K a) [e,it] e (λi h=>(∃g,IsEnum h e it (i:Nat) g)/\h.IsListIter it a i) where
 mem:=by simp
 obj:=λi h st b l=>by
  obtain⟨⟨g,j⟩,o,C,c,d⟩:=st;rcases J6.mp l with rfl|l
  ·exact⟨_,j,λv z=>by cases z⟩
  rw[Ks.mp l];exact⟨o,C,λv z=>by rw[d]at z;cases z⟩
 keep:=λi h h' st kp=>by
  obtain⟨⟨g,j⟩,m⟩:=st;exact⟨⟨g,kp e (by simp) _ j⟩,m.at λo q=>kp it (by simp) o q⟩
 item:=by
  intro X F G J S i r s T H E I t st L;subst F G J;obtain⟨aj,x,y,M⟩:=L;obtain⟨⟨g,j⟩,m⟩:=st;obtain⟨N,O,p,ao⟩:=I.list y;obtain⟨u,au,av⟩:=O.get M;have U:=t e (by simp);have W:=t it (by simp);have aw:e<s.heap.objs.size:=Heap.lt_size j;have ax:it<s.heap.objs.size:=by obtain⟨o,C,_⟩:=id m;exact Heap.lt_size C
  refine wpAny_pyNext_enum_item j m p.isList (x:=u) (by simpa using au) R λa5 Q aC aG a6 kp=>⟨_,rfl,wpAny_letOwnedTupleGo_enum Q λaH aJ Y=>?_⟩;have Z:s.heap.objs.size≠e:=LI aw;have vs:s.heap.objs.size≠it:=LI ax
  have aK:b_ X r T (dQ H s.heap.objs.size (.tup [.int i,x])) {s with heap:=s.heap.push {cls:=.type "tuple",data:=.seq #[.int i s.toks,u]},toks:=s.toks+1}:=
   I.laid (t':=s.toks+1) (λ_ _ q=>Heap.get?_push_of_some _ q) (J7 _) ⟨kn,[.int i s.toks,u],.cons ⟨_,rfl⟩ (.cons av .nil),⟨_,Heap.get?_push_size _ rfl,rfl,_,rfl⟩⟩
  have A:∀b,gO X r H b->b≠s.heap.objs.size->gO X r (dQ H s.heap.objs.size (.tup [.int i,x])) b:=λb f n=>⟨by rw[cL n];exact f.1,f.2⟩
  have aL:=aK.g9 (h':=aH) (t':=s.toks+1) (it:=it) (e:=e) (λb o aO ah q=>by
   rw[Y.2 b ah];by_cases z:b=s.heap.objs.size
   ·subst z;rw[Heap.get?_push_size _ rfl]at q;rw[<-q];exact aG
   refine kp b o ah aO ?_;rw[<-q]
   exact(Heap.get?_push_ne s.heap b _ z).symm) (A it W (KC vs)) (A e U (KC Z))
  refine⟨.ref s.heap.objs.size,_,aL,rfl,⟨s.heap.objs.size,x,I.fresh,rfl,rfl,λa' aP=>by rw[I.ft aP y];exact M⟩,⟨⟨_,aJ⟩,aC.at λo q=>(Y.2 it (KC R)).trans q⟩,λb l=>?_⟩;rcases J6.mp l with rfl|l
  ·exact(A _ U (KC Z)).1
  rw[Ks.mp l];exact(A it W (KC vs)).1
 done:=by
  intro X F G J S i r s T H E I t st L;subst F G J;obtain⟨aj,y,M⟩:=L;obtain⟨⟨g,j⟩,m⟩:=st;obtain⟨N,O,p,ao⟩:=I.list y;obtain⟨aT,aV,bb,aX,a0,a3⟩:=t it (by simp);have bf:=O.length;exact wpAny_pyNext_enum_end (I.ok.hd S) j m p.isList (by simp;lia) λh' a4=>⟨rfl,I.turned (t':=s.toks) (λb o l q=>a4 b o l q) aT aV aX a0 a3⟩
 self:=λ_ _ _ _ _ st h=>by
  obtain⟨⟨g,j⟩,_⟩:=st;exact wpAny_pyIter_enum j h
def FS(K:JS)(ta:ek):fG:=λc H R=>ta c H λd b=>∃a,d=[.ref a]/\(∃e,cf K b a e)/\R (xt K a) b
theorem FT{X:aS}{j:OU}{k:Nat}{m:Pos}{a:Nu}{ta:ek}{p f:Pos}(n:ew X "enumerate")(o:X.mg "enumerate"=none)(t:gi X [a] ta)(v:Nw [a] X.env=[(false,Op a X.env)]:=by rfl):hX X (.Tuple j k m) (.Call (.Name "enumerate" p) [a] [] f) (FS X.K ta):=by
 intro w s x H R I h;refine Call_ (mv I n o (by decide +kernel:NQ "enumerate"=some (.type "enumerate")) (Mi (bW (t f w s x H _ I h) λG c ⟨J,y,d,z,A⟩=>?_) v rfl));obtain⟨l,e,⟨L,B⟩,q⟩:=A;subst e;obtain⟨u,rfl,r⟩:=eM z;cases r;obtain⟨C,M,E,N⟩:=d.list B;refine call_enumerate_list E.isList λO i F P kp=>wpAny_pyIter_enum i ?_;refine⟨c.heap.objs.size+1,[c.heap.objs.size+1,c.heap.objs.size],_,_,y,rfl,d.kept (t':=c.toks) kp,FO l c.heap.objs.size (c.heap.objs.size+1) (Nat.succ_ne_self _),⟨⟨_,i⟩,F⟩,λb g=>?_,q⟩;rcases J6.mp g with rfl|g
 ·exact d.gP (Nat.le_succ _) (d.dR.fresh (Nat.le_succ _))
 rw[Ks.mp g];exact d.gP (J7 _) (d.dR.fresh (J7 _))
def nO:Nat->OM->OM
 |_,[]=>[]
 |n,d::r=>.tup [.int (n:Nat),d]::nO (n+1) r
def FU(u:a9)(g:e0)(s:cw):cw:=λU a=>u a λd=>∃b,d=.lst b/\f8 g s U (nO 0 b) a
section
variable{X:aS}{a:Nu}{u:a9}{b p:Pos}
theorem FV{S:OU}{k:Nat}{T:Pos}{C:OV}{g:e0}{s:cw}(aQ:Oh (Nz X.prog X.w) X.A X.env X.xe)(aT:X.calm=true)(aV:bc X a u)(a4:ew X "enumerate")(a6:X.mg "enumerate"=none)(bg:iF X (.Tuple S k T) g)(bo:hl X C s)(Y:Nw [a] X.env=[(false,Op a X.env)]:=by rfl)(bu:∀x,Nx (.Call (.Name "enumerate" p) [a] [] b) X.env x=pure x:=by intro _;rfl){bA:Pos}:
  eD X (.For (.Tuple S k T) (.Call (.Name "enumerate" p) [a] [] b) C [] bA) (FU u g s):=by
 obtain⟨_,bD,c1⟩:=aV;obtain⟨_,tb,bC⟩:=bg;obtain⟨_,bJ,bM⟩:=bo;refine⟨_,uD aQ aT (FT a4 a6 (ez bD fJ (by rw[e9,Y];rfl)) Y) tb bJ bu,λU Z h R W B H bN D e L=>?_⟩;refine c1 Z _ h R W B H bN _ e λd v M b8 N ag bO bP=>?_;obtain⟨o,rfl,N⟩:=N;obtain⟨l,E,rfl,aq,O⟩:=bP.ep;refine⟨l,rfl,⟨E,cf.of (ag.bh _ _ aq)⟩,?_⟩;refine⟨λi m t j=>∃f c,m=o.length-i/\i<=o.length/\f8 g s U (nO i (o.drop i)) f/\aW X.K R W c j t f/\bE R B c/\b2 M c,⟨o.length,Z,M,by simp,Mv _,N,ag,bO,b2.refl _⟩,?_⟩;rintro i m ax ay ⟨aG,bV,rfl,cb,F,G,aI,P⟩;have Q:cf X.K ay l E:=cf.of (G.bh _ _ (P _ _ aq));by_cases I:i<o.length
 ·have bU:i<E.length:=by rw[O.length];exact I
  refine .inr ⟨⟨E,E[i],Q,Km bU⟩,λt j=>∃f c,f8 g s U (nO (i+1) (o.drop (i+1))) f/\aW X.K R W c j t f/\bE R B c/\b2 M c,?_,?_⟩
  ·rintro t j ⟨f,c,z,n,bX,bY⟩;exact⟨o.length-(i+1),by lia,f,c,rfl,I,z,n,bX,bY⟩
  rintro x j ⟨q,y,aK,rfl,rfl,bZ⟩;obtain⟨d,aN,b0⟩:=O.fa (bZ E Q)
  have b1:o.drop i=d::o.drop (i+1):=by
   rw[Mw I];rw[Km I]at aN;rw[Ki aN]
  rw[b1]at F;have g3:=G.grow aK (.tup [.int i,y]);have b6:=G.alloc aK (.tup [.int i,y]);refine bC _ aG _ F R W _ _ ax (.ref q) _ b6 (.tup fq (.cons (.int _) (.cons (b0.mono (P.trans g3.s)) .nil))) λf t b7 n _=>?_;have J:=aI.trans g3;have aO:=P.trans g3.s;exact bM _ f b7 R W _ _ t _ n ⟨λf t c j z n g=>⟨f,c,z,n,J.trans g,aO.trans g.s⟩,λf t c j z n g=>L.nx f t c j z n (J.trans g),λf t c j z n g=>⟨f,c,z,n,J.trans g,aO.trans g.s⟩,λr v c j z n g q=>L.rt r v c j z n (J.trans g) q⟩
 have ei:i=o.length:=by lia
 subst ei;rw[Mx]at F;exact .inl ⟨⟨E,Q,by rw[O.length];exact J7 _⟩,L.nx aG ax bV ay F G aI⟩
end
theorem xy{c:Type}{f:c->D}{s:cw}{U:gu}{i j:Nat}(I:List c->OL->Prop):∀{b done:List c}{a:OL},I done a->
  (∀(pre:List c)(r:c)(d:List c) a,done++b=pre++r::d->I pre a->∀N:OL->Prop,(∀h,I (pre++[r]) h->N h)->s {U with nx:=N,ct:=N,bk:=U.nx} ((a.set i (.val (.int pre.length))).set j (.val (f r))))->(∀a,I (done++b) a->U.nx a)->
  f8 (o4 2 (jj (eg i) (jj (eg j) o3))) s U (nO done.length (b.map f)) a
 |[],done,a,k,_,g=>g a (by rw[Kb];exact k)
 |r::b,done,a,k,l,g=>by
  refine⟨_,rfl,rfl,_,_,rfl,_,_,rfl,rfl,l done r b a rfl k _ λh m=>?_⟩;have e:done++r::b=(done++[r])++b:=by simp
  rw[e]at l g;have:=xy I m l g;rwa[Kh]at this
theorem xz{x y:Int}:bt x*bt y<0↔x*y<0:=by
 constructor
 ·intro h;rcases ii h with⟨a,b⟩|⟨a,b⟩
  ·have c:0<x:=by unfold bt at a;split at a<;>first|assumption|(split at a<;>lia)
   have d:y<0:=by unfold bt at b;split at b<;>first|lia|(split at b<;>first|assumption|lia)
   exact Ko c d
  have c:x<0:=by unfold bt at a;split at a<;>first|lia|(split at a<;>first|assumption|lia)
  have d:0<y:=by unfold bt at b;split at b<;>first|assumption|(split at b<;>lia)
  rw[Kn];exact Ko d c
 intro h;rcases ii h with⟨a,b⟩|⟨a,b⟩
 ·have e:bt x=1:=pH a;have f:bt y = -1:=by unfold bt;rw[No (by lia),M2 b]
  rw[e,f];decide
 have e:bt x = -1:=by unfold bt;rw[No (by lia),M2 a]
 have f:bt y=1:=pH b;rw[e,f];decide
theorem th{x:Int}:0<=bt x↔0<=x:=by unfold bt;split<;>first|lia|(split<;>lia)
theorem xA{x:Int}:bt x<=0↔x<=0:=by unfold bt;split<;>first|lia|(split<;>lia)
theorem FY{pre a:OJ}{c b:aa}(h:(pre++c::a).headD b=b):bi (pre++c::a) ((pre.length+1)%(pre++c::a).length)=a.headD b:=by
 cases a with
 |nil=>
  have e:(pre.length+1)%(pre++[c]).length=0:=by rw[Kh];simp
  rw[e];cases pre with
  |nil=>exact h
  |cons p pre=>exact h
 |cons d a=>
  rw[KZ (by simp)];unfold bi;rw[KP (by lia)];simp
theorem kc{b:Type}{a:List b}{i:Nat}{x:b}(h:a[i]?=some x):dv a (i:Int)=some x:=by
 have lt:i<a.length:=(LG.mp h).1;unfold dv
 have e:L3.hg a.length (i:Int)=some i:=by
  unfold L3.hg;rw[M2 (by lia)];simp[lt]
 rw[e];exact h
theorem FZ{a:Type}{h:aa->a}{pre rest:OJ}{c:aa}:dv ((pre++c::rest).map h) (pre.length:Int)=some (h c):=by
 refine kc ?_;rw[Kj,KP (J7 _)];simp
theorem xB{f:Type}{h:aa->f}{b pre a:OJ}{c d:aa}(e:b=pre++c::a)(g:b.headD d=d):dv (b.map h) (((pre.length:Int)+1)%(b.length:Int))=some (h (a.headD d)):=by
 subst e;have i:0<(pre++c::a).length:=by rw[Kh,Kk];lia
 have lt:=Lf (pre.length+1) i;have j:((pre.length:Int)+1)%((pre++c::a).length:Int)=(((pre.length+1)%(pre++c::a).length:Nat):Int):=by rw[Int.natCast_emod];rfl
 rw[j];refine kc ?_;rw[Kj];have:=FY g;unfold bi at this;rw[Km lt]at this⊢;simp at this;simp[this]
theorem pT{f:aa->Int}{mt:aa->aa->aa}{pre:OJ}{c w:aa}:b4 f mt (pre++[c]) w=b4 f mt pre c++kp f c++b3 f mt c w:=by
 rw[nH];show b4 f mt pre c++(kp f c++b3 f mt c w++[])=_
 rw[Kb,KD]
theorem ti{f:aa->Int}{mt:aa->aa->aa}:∀{ps:OJ}{w:aa},(b4 f mt ps w).length<=2*ps.length
 |[],_=>J7 _
 |p::r,w=>by
  show(kp f p++b3 f mt p (r.headD w)++b4 f mt r w).length<=_
  have h:=ti (f:=f) (mt:=mt) (ps:=r) (w:=w);have a:(kp f p).length<=1:=by unfold kp;split<;>simp
  have b:(b3 f mt p (r.headD w)).length<=1:=by unfold b3;split<;>simp
  rw[Kh,Kh,Kk];lia
theorem F0(x:Int): -1<=bt x/\bt x<=1:=by unfold bt;split<;>first|lia|(split<;>lia)
theorem xC(x:Int):Mt (bt x)<=9000:=by
 have:=F0 x;have a:(10:Int)^30=1000000000000000000000000000000:=rfl;exact J4 (EJ (by lia) (by lia)) (by decide)
theorem xD{f:aa->Int}{c:aa}(h:0<=f c):kp f c=[c]:=by unfold kp;rw[M2 h]
theorem xE{f:aa->Int}{c:aa}(h:¬0<=f c):kp f c=[]:=by unfold kp;rw[No h]
theorem l1{l p q:aa}(a:aU p)(b:aU q):nP (a_ l (a_ p q))=aY l p q:=by unfold aY;rw[M2 ⟨a.1,b.1⟩]
theorem l2{l p q:aa}(e:aU p)(f:aU q)(h:ln l p*ln l q<0):(a_ l (a_ p q)).2.2≠0:=by
 rw[show(a_ l (a_ p q)).2.2=ln l q*p.2.2 + -ln l p*q.2.2 by rw[nD l p q];rfl];have c:=e.1;have d:=f.1;rcases ii h with⟨a,b⟩|⟨a,b⟩
 ·have g:ln l q*p.2.2<0:=by rw[Kn];exact Ko c b
  have i : -ln l p*q.2.2<0:=by rw[Kn];exact Ko d (by lia)
  lia
 have g:0<ln l q*p.2.2:=J9 b c;have i:0 < -ln l p*q.2.2:=J9 (by lia) d;lia
theorem xF{l:aa}{b:OJ}:D.int 1∈b.map (λc=>D.int (bt (ln l c)))↔∃c∈b,0<ln l c:=by
 rw[J'];constructor
 ·rintro⟨c,a,e⟩;exact⟨c,a,w4 (D.int.inj e)⟩
 rintro⟨c,a,h⟩;exact⟨c,a,by rw[pH h]⟩
theorem pU{l:aa}{b:OJ}:D.int (-1)∈b.map (λc=>D.int (bt (ln l c)))↔∃c∈b,ln l c<0:=by
 rw[J'];constructor
 ·rintro⟨c,a,e⟩;refine⟨c,a,?_⟩;have:=D.int.inj e;unfold bt at this;split at this
  ·lia
  split at this<;>lia
 rintro⟨c,a,h⟩;exact⟨c,a,by unfold bt;rw[No (by lia),M2 h]⟩
section
variable{K:JS}{X:aS}{e:Nu}{i:OU}{u:a9}{w:dr}{c p:Pos}
variable{o:Nu}
def tj(u:a9):cW:=λa k=>u a λx=>∃ds,x=.lst ds/\k (!ds.isEmpty)
theorem xG{a:Nu}{f:a9}(c:bc X a f)(l:∀g,OC a X.env g=(do let v <-g;OD a.pos;Os [v] (truthy v)):=by intro _;rfl):fN X a (tj f):=by
 obtain⟨_,m,n⟩:=c;refine⟨_,A6 m l,λo k h R W B H p Q e q=>?_⟩;refine n o _ h R W B H p _ e λx v r s t i u w=>?_;obtain⟨b,rfl,y⟩:=t;obtain⟨a,vs,rfl,c,z⟩:=w.ep;refine⟨!vs.isEmpty,.inl ⟨vs,cf.of (i.bh _ _ c),rfl⟩,q _ r s ?_ i u⟩
 have:vs.isEmpty=b.isEmpty:=by
  have j:=z.length;cases vs with
  |nil=>cases b with
   |nil=>rfl
   |cons d b=>simp at j
  |cons v vs=>cases b with
   |nil=>simp at j
   |cons d b=>rfl
 rw[this];exact y
variable{n m:Nu}{j:OU}{b:N0}{f:List (Str×KT)}{r l:OR}{s:OP}{t:e0}{g:cW}
end
def bS:aa->OJ->List (aa×aa)
 |_,[]=>[]
 |z,p::r=>(z,p)::bS p r
def bq:aa->OJ->aa
 |z,[]=>z
 |_,p::r=>bq p r
def ba(a:OJ):List (aa×aa):=bS (bq (0,0,1) a) a
theorem nQ:∀(z:aa)(A B:OJ),bS z (A++B)=bS z A++bS (bq z A) B
 |_,[],_=>rfl
 |z,p::A,B=>by
  show(z,p)::bS p (A++B)=(z,p)::(bS p A++bS (bq p A) B)
  rw[nQ p A B]
theorem tk:∀(z:aa)(A B:OJ),bq z (A++B)=bq (bq z A) B
 |_,[],_=>rfl
 |_,p::A,B=>tk p A B
theorem nR{z a:aa}{L:OJ}(h:L≠[]):bq z L=bq a L:=by
 cases L with
 |nil=>exact absurd rfl h
 |cons p r=>rfl
theorem tl:∀{z:aa}{L:OJ},L≠[]->bq z L∈L
 |_,[],h=>absurd rfl h
 |z,[p],_=>J1
 |z,p::q::r,_=>J3 _ (tl (z:=p) (L:=q::r) (by simp))
theorem xH:∀{z:aa}{L:OJ}{e:aa×aa},e∈bS z L->(e.1=z\/e.1∈L)/\e.2∈L
 |_,[],_,h=>by cases h
 |z,p::r,e,h=>by
  rcases J6.mp h with rfl|h
  ·exact⟨.inl rfl,J1⟩
  obtain⟨a,b⟩:=xH h;refine⟨.inr ?_,J3 _ b⟩;rcases a with a|a
  ·rw[a];exact J1
  exact J3 _ a
theorem fj{L:OJ}{e:aa×aa}(h:e∈ba L):e.1∈L/\e.2∈L:=by
 have n:L≠[]:=by rintro rfl;cases h
 obtain⟨a,b⟩:=xH h;refine⟨?_,b⟩;rcases a with a|a
 ·rw[a];exact tl n
 exact a
section
variable{f:aa->Int}{mt:aa->aa->aa}
theorem pV{C:aa->aa->Prop}(m:∀u v,f u=0->f v=0->C u v):∀{ps:OJ}{w z:aa},
  (∀p q,(p,q)∈bS (ps.headD w) (ps.tail++[w])->0<=f p->0<=f q->C p q)->
  (∀p q,(p,q)∈bS (ps.headD w) (ps.tail++[w])->f p*f q<0->f (mt p q)=0/\(0<f p->C p (mt p q))/\(0<f q->C (mt p q) q))->
  (0<=f (ps.headD w)->C z (ps.headD w))->(f (ps.headD w)<0->f z=0)->ps≠[]->
  (∀e∈bS z (b4 f mt ps w),C e.1 e.2)/\(0<=f w->C (bq z (b4 f mt ps w)) w)/\(f w<0->f (bq z (b4 f mt ps w))=0)
 |[],_,_,_,_,_,_,G=>absurd rfl G
 |p::r,w,z,j,i,k,n,_=>by
  have k:0<=f p->C z p:=k;have n:f p<0->f z=0:=n
  have l:(p,r.headD w)∈bS p (r++[w]):=by
   cases r with
   |nil=>exact J1
   |cons q r=>exact J1
  have j:∀a b,(a,b)∈bS p (r++[w])->0<=f a->0<=f b->C a b:=j;have i:∀a b,(a,b)∈bS p (r++[w])->f a*f b<0->f (mt a b)=0/\(0<f a->C a (mt a b))/\(0<f b->C (mt a b) b):=i
  have step:(∀e∈bS z (kp f p++b3 f mt p (r.headD w)),C e.1 e.2)/\(0<=f (r.headD w)->C (bq z (kp f p++b3 f mt p (r.headD w))) (r.headD w))/\(f (r.headD w)<0->f (bq z (kp f p++b3 f mt p (r.headD w)))=0):=by
   generalize r.headD w=q at l;by_cases g:0<=f p
   ·rw[show kp f p=[p] by unfold kp;rw[M2 g]];by_cases c:f p*f q<0
    ·rw[ih c];obtain⟨o,x,y⟩:=i p q l c
     have H:0<f p:=by
      rcases ii c with⟨a,_⟩|⟨a,_⟩
      ·exact a
      lia
     have A:f q<0:=by
      rcases ii c with⟨_,a⟩|⟨a,_⟩
      ·exact a
      lia
     refine⟨λe d=>?_,λh=>absurd h (by lia),λ_=>o⟩;rcases J6.mp d with rfl|d
     ·exact k g
     rcases J6.mp d with rfl|d
     ·exact x H
     cases d
    rw[hW c];refine⟨λe d=>?_,λh=>j p q l g h,λh=>?_⟩
    ·rcases J6.mp d with rfl|d
     ·exact k g
     cases d
    show f p=0
    rcases K9 g with a|a
    ·exact absurd (Ko a h) c
    exact a.symm
   rw[show kp f p=[] by unfold kp;rw[No g]];have s:=n (by lia);by_cases c:f p*f q<0
   ·rw[ih c];obtain⟨o,x,y⟩:=i p q l c
    have A:0<f q:=by
     rcases ii c with⟨a,_⟩|⟨_,a⟩
     ·lia
     exact a
    refine⟨λe d=>?_,λ_=>y A,λh=>absurd h (by lia)⟩;rcases J6.mp d with rfl|d
    ·exact m _ _ s o
    cases d
   rw[hW c];refine⟨λe d=>(by cases d),λh=>m _ _ s ?_,λ_=>s⟩;rcases K9 h with a|a
   ·exact absurd (by rw[Kn];exact Ko a (by lia)) c
   exact a.symm
  obtain⟨B,E,F⟩:=step;show(∀e∈bS z (kp f p++b3 f mt p (r.headD w)++b4 f mt r w),C e.1 e.2)/\(0<=f w->C (bq z (kp f p++b3 f mt p (r.headD w)++b4 f mt r w)) w)/\(f w<0->f (bq z (kp f p++b3 f mt p (r.headD w)++b4 f mt r w))=0)
  rw[nQ z (kp f p++b3 f mt p (r.headD w)),tk z (kp f p++b3 f mt p (r.headD w))];cases r with
  |nil=>exact⟨λe d=>by rw[show bS _ (b4 f mt [] w)=[]from rfl,Kb]at d;exact B e d,E,F⟩
  |cons q r=>
   obtain⟨I,J,K⟩:=pV m (ps:=q::r) (w:=w) (z:=bq z (kp f p++b3 f mt p q)) (λa b t=>j a b (J3 _ t)) (λa b t=>i a b (J3 _ t)) E F (by simp);refine⟨λe d=>?_,J,K⟩;rcases Kc.mp d with d|d
   ·exact B e d
   exact I e d
theorem tm{a:aa}{r:OJ}{e:aa×aa}:e∈bS a (r++[a])↔e∈ba (a::r):=by
 have:ba (a::r)=(bq a r,a)::bS a r:=rfl;rw[this,nQ];simp[bS,or_comm]
theorem tn{C:aa->aa->Prop}{ps:OJ}(d:∀u v,f u=0->f v=0->C u v)(o:aa)(g:f o=0)(A:∀e∈ba ps,0<=f e.1->0<=f e.2->C e.1 e.2)(B:∀e∈ba ps,f e.1*f e.2<0->f (mt e.1 e.2)=0/\(0<f e.1->C e.1 (mt e.1 e.2))/\(0<f e.2->C (mt e.1 e.2) e.2)):
  ∀e∈ba (bm f mt ps),C e.1 e.2:=by
 cases ps with
 |nil=>intro e c;cases c
 |cons a r=>
  intro e c;have n:bm f mt (a::r)≠[]:=by intro z;rw[z]at c;cases c
  have i:∀p q,(p,q)∈bS ((a::r).headD a) ((a::r).tail++[a])->0<=f p->0<=f q->C p q:=λp q h=>A (p,q) (tm.mp h);have b:∀p q,(p,q)∈bS ((a::r).headD a) ((a::r).tail++[a])->f p*f q<0->f (mt p q)=0/\(0<f p->C p (mt p q))/\(0<f q->C (mt p q) q):=λp q h=>B (p,q) (tm.mp h);have first:=pV (f:=f) (mt:=mt) (C:=λu v=>u=o\/C u v) (λu v j k=>.inr (d u v j k)) (ps:=a::r) (w:=a) (z:=o) (λp q h x y=>.inr (i p q h x y)) (λp q h x=>⟨(b p q h x).1,λy=>.inr ((b p q h x).2.1 y),λy=>.inr ((b p q h x).2.2 y)⟩) (λ_=>.inl rfl) (λ_=>g) (by simp)
  have l:bq o (b4 f mt (a::r) a)=bq (0,0,1) (bm f mt (a::r)):=nR n;have E:f a<0->f (bq (0,0,1) (bm f mt (a::r)))=0:=λh=>by rw[<-l];exact first.2.2 h
  have F:0<=f a->C (bq (0,0,1) (bm f mt (a::r))) a:=λh=>by
   by_cases m:bq o (b4 f mt (a::r) a)=o
   ·
    have:=pV (f:=f) (mt:=mt) (C:=λu v=>(u=a/\v=a)\/C u v) (λu v j k=>.inr (d u v j k)) (ps:=a::r) (w:=a) (z:=a) (λp q h x y=>.inr (i p q h x y)) (λp q h x=>⟨(b p q h x).1,λy=>.inr ((b p q h x).2.1 y),λy=>.inr ((b p q h x).2.2 y)⟩) (λ_=>.inl ⟨rfl,rfl⟩) (λy=>absurd y (show ¬f a<0 by lia)) (by simp);have t:bq a (b4 f mt (a::r) a)=bq (0,0,1) (bm f mt (a::r)):=nR n;rcases this.2.1 h with⟨s,_⟩|q
    ·rw[t]at s;rw[s];rw[l,s]at m;rw[m];exact d o o g g
    rw[<-t];exact q
   rcases first.2.1 h with q|q
   ·exact absurd q m
   rw[<-l];exact q
  exact(pV d i b F E (by simp)).1 e c
end
theorem xI{a b c s l:aa}:az a b c*ln l s=az b c s*ln l a+az c a s*ln l b+az a b s*ln l c:=by
 unfold az a_ ln;grind
theorem xJ{l s a:aa}(i:0<=ln l a):∀{rest:OJ}{b:aa},rest≠[]->T0 (a::b::rest)->0<=az a b s->(∀e∈bS b rest,0<=az e.1 e.2 s)->0<=az (bq b rest) a s->0<=ln l b->(∀x∈rest,0<=ln l x)->0<=ln l s
 |[],_,h,_,_,_,_,_,_=>absurd rfl h
 |c::rest,b,_,j,p,m,f,q,n=>by
  have r:=m (b,c) J1;have o:=n c J1;by_cases g:az a c s<=0
  ·have t:0<az a b c:=j.1.1 c J1;have e:az c a s = -az a c s:=w3 a c s;have k:=xI (a:=a) (b:=b) (c:=c) (s:=s) (l:=l);have u:=Kv r i;have v:=Kv (show 0<=az c a s by lia) q;have w:=Kv p o
   have A:0<=az a b c*ln l s:=by
    rw[k];exact Int.add_nonneg (Int.add_nonneg u v) w
   by_cases y:0<=ln l s
   ·exact y
   have:=Ko t (show ln l s<0 by lia);lia
  cases rest with
  |nil=>
   have e:az c a s = -az a c s:=w3 a c s;have f:0<=az c a s:=f;lia
  |cons d rest=>
   exact xJ i (b:=c) (by simp) (T0.sub (.cons_cons a (.cons b (L7 _))) j) (by lia) (λe h=>m e (J3 _ h)) f o λx z=>n x (J3 _ z)
theorem pW{l s:aa}{d:OJ}(i:T0 d)(j:3<=d.length)(f:∀e∈ba d,0<=az e.1 e.2 s)(g:∀x∈d,0<=ln l x):0<=ln l s:=by
 match d,i,j,f,g with
 |[],_,h,_,_=>simp at h
 |[_],_,h,_,_=>simp at h
 |[_,_],_,h,_,_=>simp at h
 |a::b::c::r,i,_,f,g=>
  refine xJ (a:=a) (b:=b) (rest:=c::r) (g a J1) (by simp) i ?_ (λe h=>f e ?_) ?_ (g b (by simp)) λx k=>g x (J3 _ (J3 _ k))
  ·exact f (a,b) (J3 _ J1)
  ·exact J3 _ (J3 _ h)
  exact f (bq b (c::r),a) J1
theorem jA(p q r:aa):az p q r=ln (a_ p q) r:=rfl
def fk(l:aa)(mt:aa->aa->aa):Prop:=∀p q,ln l p*ln l q<0->fT p q (mt p q)/\ln l (mt p q)=0
theorem tq{l p q:aa}(h:ln l p*ln l q<0):ln l (aY l p q)=0:=by
 unfold aY;by_cases w:0<p.2.2/\0<q.2.2
 ·rw[M2 w]
  have d:(a_ l (a_ p q)).2.2≠0:=by
   rw[show(a_ l (a_ p q)).2.2=ln l q*p.2.2 + -ln l p*q.2.2 by rw[nD l p q];rfl];rcases ii h with⟨a,b⟩|⟨a,b⟩
   ·have e:ln l q*p.2.2<0:=by rw[Kn];exact Ko w.1 b
    have f : -ln l p*q.2.2<0:=by rw[Kn];exact Ko w.2 (by lia)
    lia
   have e:0<ln l q*p.2.2:=J9 b w.1;have f:0 < -ln l p*q.2.2:=J9 (by lia) w.2;lia
  obtain⟨g,i,j⟩:=ia d;have z:ln l (a_ l (a_ p q))=0:=by rw[show a_ l (a_ p q)=eL (ln l q) p (-ln l p) q from nD l p q,k1];grind
  rw[j,pP]at z;rcases Kq.mp z with y|y
  ·exact absurd y i
  exact y
 rw[No w];by_cases c:0<ln l q
 ·rw[M2 c,k1];grind
 rw[No c,k1];grind
theorem kd(l:aa):fk l (aY l):=λ_ _ h=>⟨xq h,tq h⟩
def fl(l:aa):aa:=sc (-1) l
theorem fA(l p:aa):ln (fl l) p = -ln l p:=by unfold fl ln sc;dsimp only;grind
theorem xK(l:aa):ln (fl l)=λc => -ln l c:=by funext c;exact fA l c
theorem fk.ng{l:aa}{mt:aa->aa->aa}(h:fk l mt):fk (fl l) mt:=λp q c=>by
 rw[fA,fA,K3]at c;refine⟨(h p q c).1,?_⟩;rw[fA,(h p q c).2];rfl
theorem fk.meets{l:aa}{mt:aa->aa->aa}(h:fk l mt):g5 (ln l) mt:=λp q c=>(h p q c).1
theorem fT.ln{p q m g:aa}(h:fT p q m)(c:0<=ln g p)(d:0<=ln g q):0<=L3.ln g m:=by
 obtain⟨s,a,b,f,i,j,e⟩:=h;have k:s*L3.ln g m=a*L3.ln g p+b*L3.ln g q:=by rw[<-pP,e,k1]
 have l:=Kv (dk i) c;have n:=Kv (dk j) d;by_cases y:0<=L3.ln g m
 ·exact y
 have:=Ko f (show L3.ln g m<0 by lia);lia
theorem fT.hY{p q m g:aa}(h:fT p q m)(c:L3.ln g p=0)(d:L3.ln g q=0):L3.ln g m=0:=by
 obtain⟨s,a,b,f,i,j,e⟩:=h;have k:s*L3.ln g m=a*L3.ln g p+b*L3.ln g q:=by rw[<-pP,e,k1]
 rw[c,d,Kd,Kd]at k;rcases Kq.mp k with z|z
 ·lia
 exact z
section
variable{l:aa}{mt:aa->aa->aa}{i:OJ}
theorem pX(c:fk l mt){g:aa}(a:∀x∈i,0<=ln g x):∀x∈bm (ln l) mt i,0<=ln g x:=λx d=>by
 rcases nM d with⟨b,_⟩|⟨p,b,q,e,f,rfl⟩
 ·exact a x b
 exact(c p q f).1.ln (a p b) (a q e)
theorem nS(b:fk l mt):∀x∈bm (ln l) mt i,0<=ln l x:=λx c=>by
 rcases nM c with⟨_,a⟩|⟨p,e,q,a,d,rfl⟩
 ·exact a
 rw[(b p q d).2];exact Int.le_refl 0
theorem xL:∀{z:aa}{r:OJ}{e:aa×aa},e∈bS z r->∃A B,z::r=A++e.1::e.2::B
 |_,[],_,h=>by cases h
 |z,p::r,e,h=>by
  rcases J6.mp h with rfl|h
  ·exact⟨[],r,rfl⟩
  obtain⟨A,B,q⟩:=xL h;exact⟨z::A,B,by rw[q];rfl⟩
theorem xM:∀{z:aa}{r:OJ},r≠[]->∃A,r=A++[bq z r]
 |_,[],h=>absurd rfl h
 |z,[p],_=>⟨[],rfl⟩
 |z,p::q::r,_=>by
  obtain⟨A,e⟩:=xM (z:=p) (r:=q::r) (by simp);exact⟨p::A,Nq (p :: ·) e⟩
theorem F3(c:2<=i.length){e:aa×aa}(b:e∈ba i):∃X Y C,i=X++Y/\Y++X=e.1::e.2::C:=by
 cases i with
 |nil=>simp at c
 |cons a r=>
  have d:r≠[]:=by rintro rfl;simp at c
  rcases J6.mp b with rfl|b
  ·obtain⟨A,f⟩:=xM (z:=a) d;exact⟨a::A,[bq a r],A,Nq (a :: ·) f,rfl⟩
  obtain⟨A,B,q⟩:=xL b;exact⟨A,e.1::e.2::B,B++A,q,by simp⟩
theorem ij(f:T0 i)(j:3<=i.length){e:aa×aa}(g:e∈ba i):(∀x∈i,0<=az e.1 e.2 x)/\∃x∈i,0<az e.1 e.2 x:=by
 obtain⟨X,Y,C,b,d⟩:=F3 (by lia) g;have t:T0 (e.1::e.2::C):=by rw[<-d];exact T0.turn (by rw[<-b];exact f)
 have len:(e.1::e.2::C).length=i.length:=by rw[<-d,b,Kh,Kh];lia
 refine⟨λx a=>?_,?_⟩
 ·have a:x∈e.1::e.2::C:=by
   rw[<-d];rw[b]at a;rcases Kc.mp a with h|h
   ·exact Kg _ h
   exact Ku _ h
  rcases J6.mp a with rfl|a
  ·exact ig (by unfold az a_;grind)
  rcases J6.mp a with rfl|a
  ·exact ig (ic _ _)
  exact dk (t.1.1 x a)
 cases C with
 |nil=>simp at len;lia
 |cons c C=>
  refine⟨c,?_,t.1.1 c J1⟩;have:c∈Y++X:=by rw[d];simp
  rw[b];rcases Kc.mp this with h|h
  ·exact Kg _ h
  exact Ku _ h
theorem tr(a:fk l mt)(b:T0 i)(c:3<=i.length)(f:∃p∈i,0<ln l p){s:aa}(h:∀e∈ba (bm (ln l) mt i),0<=az e.1 e.2 s):(∀e∈ba i,0<=az e.1 e.2 s)/\0<=ln l s:=by
 obtain⟨t,d⟩:=jy a.meets b c f;refine⟨λe g=>?_,pW t d h (nS a)⟩;rw[jA];exact pW t d h (pX a λx j=>(ij b c g).1 x j)
theorem F5(k:fk l mt)(o:aa)(E:ln l o=0)(q:T0 i)(r:3<=i.length)(F:∃p∈i,0<ln l p){s:aa}(h:∀e∈ba i,0<az e.1 e.2 s)(G:0<ln l s):∀e∈ba (bm (ln l) mt i),0<az e.1 e.2 s:=by
 obtain⟨t,H⟩:=jy k.meets q r F
 have key:=tn (f:=ln l) (mt:=mt) (ps:=i) (C:=λu v=>∃g:aa,ln g u=0/\ln g v=0/\(g=l\/∃e∈ba i,g=a_ e.1 e.2)) (λu v I J=>⟨l,I,J,.inl rfl⟩) o E
  (λe j _ _=>⟨a_ e.1 e.2,by show az e.1 e.2 e.1=0;unfold az a_;grind,ic _ _,.inr ⟨e,j,rfl⟩⟩)
  (λe j c=>by
   obtain⟨b,z⟩:=k _ _ c;have m:ln (a_ e.1 e.2) e.1=0:=by show az e.1 e.2 e.1=0;unfold az a_;grind
   have n:ln (a_ e.1 e.2) e.2=0:=ic _ _
   exact⟨z,λ_=>⟨a_ e.1 e.2,m,b.hY m n,.inr ⟨e,j,rfl⟩⟩,λ_=>⟨a_ e.1 e.2,b.hY m n,n,.inr ⟨e,j,rfl⟩⟩⟩)
 intro e j;obtain⟨g,K,L,M⟩:=key e j;obtain⟨x,w,N⟩:=(ij t H j).2
 have A:0<=ln g x/\0<ln g s:=by
  rcases M with rfl|⟨d,B,rfl⟩
  ·exact⟨nS k x w,G⟩
  exact⟨pX k (λy O=>(ij q r B).1 y O) x w,h d B⟩
 have P:=s5 g e.1 e.2 x s;rw[K,L,Kd,Kd]at P;have Q:az e.1 e.2 s*ln g x=az e.1 e.2 x*ln g s:=by lia
 have posQz:=J9 N A.2;rw[<-Q]at posQz
 have R:0<ln g x:=by
  rcases K9 A.1 with a|a
  ·exact a
  rw[<-a,Kd]at posQz;lia
 exact Nb posQz R
end
open Classical in
noncomputable def wi(a:OJ)(s:aa):Int:=if ∃e∈ba a,az e.1 e.2 s<0 then 0 else if ∃e∈ba a,az e.1 e.2 s=0 then -1 else 1
theorem pY{ps:OJ}{s:aa}(h:∀e∈ba ps,0<az e.1 e.2 s):wi ps s=1:=by
 unfold wi;rw[No λ⟨e,a,z⟩=>by have:=h e a;lia,No λ⟨e,a,z⟩=>by have:=h e a;lia]
theorem l4{a:OJ}{s:aa}(h:¬∀e∈ba a,0<=az e.1 e.2 s):wi a s=0:=by
 unfold wi;rw[M2];apply KL;intro n
 exact h λe b=>by
  by_cases z:0<=az e.1 e.2 s
  ·exact z
  exact absurd ⟨e,b,by lia⟩ n
theorem xN{b:OJ}{s:aa}(h:wi b s ≠ -1):(wi b s=1/\∀e∈ba b,0<az e.1 e.2 s)\/(wi b s=0/\¬∀e∈ba b,0<=az e.1 e.2 s):=by
 by_cases c:∃e∈ba b,az e.1 e.2 s<0
 ·refine .inr ⟨?_,λz=>?_⟩
  ·unfold wi;rw[M2 c]
  obtain⟨e,f,q⟩:=c;have:=z e f;lia
 have z:∀e∈ba b,0<=az e.1 e.2 s:=λe f=>by
  by_cases z:0<=az e.1 e.2 s
  ·exact z
  exact absurd ⟨e,f,by lia⟩ c
 by_cases d:∃e∈ba b,az e.1 e.2 s=0
 ·exact absurd (by unfold wi;rw[No c,M2 d]) h
 have p:∀e∈ba b,0<az e.1 e.2 s:=λe f=>by
  have:=z e f;rcases K9 this with a|a
  ·exact a
  exact absurd ⟨e,f,a.symm⟩ d
 exact .inl ⟨pY p,p⟩
section
variable{l:aa}{mt:aa->aa->aa}{a:OJ}
theorem F6(b:fk l mt)(o:aa)(g:ln l o=0)(c:T0 a)(d:3<=a.length)(f:∃p∈a,0<ln l p){s:aa}(i:wi a s ≠ -1)(j:0<ln l s):wi (bm (ln l) mt a) s=wi a s:=by
 rcases xN i with⟨e,h⟩|⟨e,h⟩
 ·rw[e];exact pY (F5 b o g c d f h j)
 rw[e];exact l4 λz=>h (tr b c d f z).1
theorem F7(b:fk l mt)(c:T0 a)(d:3<=a.length)(e:∃p∈a,0<ln l p){s:aa}(f:ln l s<0):wi (bm (ln l) mt a) s=0:=
 l4 λz=>by
  have:=(tr b c d e z).2;lia
theorem xO(b:T0 a)(c:3<=a.length)(d:¬∃p∈a,0<ln l p){s:aa}(f:0<ln l s):wi a s=0:=
 l4 λz=>by
  have:=pW (l:=fl l) b c z λx e=>by
   rw[fA];by_cases y:0<ln l x
   ·exact absurd ⟨x,e,y⟩ d
   lia
  rw[fA]at this;lia
end
def dm(T:aa->aa->Rat)(a:List (aa×aa)):Rat:=(a.map λe=>T e.1 e.2).sum
theorem fB(T:aa->aa->Rat):dm T []=0:=rfl
theorem e6(T:aa->aa->Rat)(e:aa×aa)(a:List (aa×aa)):dm T (e::a)=T e.1 e.2+dm T a:=by unfold dm;rw[KR,LB]
theorem tu(T:aa->aa->Rat):∀b a:List (aa×aa),dm T (b++a)=dm T b+dm T a
 |[],a=>by rw[LA,fB];grind
 |e::b,a=>by rw[Nd,e6,e6,tu T b a];grind
section
variable{f:aa->Int}{mt:aa->aa->aa}{T:aa->aa->Rat}{V:aa->Prop}
def gH(f:aa->Int)(mt:aa->aa->aa)(T:aa->aa->Rat)(p q:aa):Rat:=
 if 0<=f p then(if 0<=f q then T p q else if f p*f q<0 then T p (mt p q)else 0)else(if f p*f q<0 then T (mt p q) q else 0)
def iS(f:aa->Int)(T:aa->aa->Rat)(z p:aa):Rat:=if 0<=f p then T z p else 0
theorem pZ{z p:aa}(h:0<=f p):iS f T z p=T z p:=by unfold iS;rw[M2 h]
theorem p0{z p:aa}(h:¬0<=f p):iS f T z p=0:=by unfold iS;rw[No h]
theorem F8(l:∀u v,V u->V v->f u=0->f v=0->T u v=0){p q z:aa}(m:V z)(vq:V q)(j:f p*f q<0->V (mt p q)/\f (mt p q)=0)(n:f p<0->f z=0):
  dm T (bS z (kp f p++b3 f mt p q))+iS f T (bq z (kp f p++b3 f mt p q)) q=iS f T z p+gH f mt T p q/\(f q<0->f (bq z (kp f p++b3 f mt p q))=0):=by
 by_cases b:0<=f p
 ·rw[show kp f p=[p] by unfold kp;rw[M2 b],pZ b];by_cases c:f p*f q<0
  ·rw[ih c]
   have i:¬0<=f q:=by
    rcases ii c with⟨_,a⟩|⟨a,_⟩<;>lia
   have d:bq z ([p]++[mt p q])=mt p q:=rfl;have g:bS z ([p]++[mt p q])=[(z,p),(p,mt p q)]:=rfl;refine⟨?_,λ_=>by rw[d];exact(j c).2⟩;rw[d,g,p0 i,e6,e6,fB];unfold gH;rw[M2 b,No i,M2 c];dsimp only;grind
  rw[hW c];have d:bq z ([p]++[])=p:=rfl;have g:bS z ([p]++[])=[(z,p)]:=rfl;rw[d,g,e6,fB];refine⟨?_,λh=>?_⟩
  ·unfold gH;rw[M2 b];by_cases e:0<=f q
   ·rw[pZ e,M2 e];dsimp only;grind
   rw[p0 e,No e,No c];dsimp only;grind
  rcases K9 b with a|a
  ·exact absurd (Ko a h) c
  exact a.symm
 rw[show kp f p=[] by unfold kp;rw[No b],p0 b,LA];have k:=n (by lia);unfold gH;rw[No b];by_cases c:f p*f q<0
 ·rw[ih c,M2 c]
  have i:0<=f q:=by
   rcases ii c with⟨a,_⟩|⟨_,a⟩<;>lia
  have d:bq z [mt p q]=mt p q:=rfl;have g:bS z [mt p q]=[(z,mt p q)]:=rfl;have o:T z (mt p q)=0:=l _ _ m (j c).1 k (j c).2;rw[d,g,e6,fB,pZ i];refine⟨?_,λh=>absurd h (by lia)⟩;dsimp only;rw[o];grind
 rw[hW c,No c];have d:bq z []=z:=rfl;have g:bS z []=[]:=rfl;rw[d,g,fB];refine⟨?_,λ_=>k⟩;by_cases e:0<=f q
 ·have r:f q=0:=by
   rcases K9 e with a|a
   ·exact absurd (by rw[Kn];exact Ko a (by lia)) c
   exact a.symm
  rw[pZ e,l _ _ m vq k r]
 rw[p0 e]
theorem tv(k:∀u v,V u->V v->f u=0->f v=0->T u v=0)(a:∀p q,V p->V q->f p*f q<0->V (mt p q)/\f (mt p q)=0):∀{ps:OJ}{w z:aa},(∀p∈ps,V p)->V w->V z->(f (ps.headD w)<0->f z=0)->ps≠[]->
  dm T (bS z (b4 f mt ps w))+iS f T (bq z (b4 f mt ps w)) w=iS f T z (ps.headD w)+dm (gH f mt T) (bS (ps.headD w) (ps.tail++[w]))/\(f w<0->f (bq z (b4 f mt ps w))=0)
 |[],_,_,_,_,_,_,s=>absurd rfl s
 |p::r,w,z,e,l,m,g,_=>by
  have g:f p<0->f z=0:=g;have b:=e p J1
  have vq:V (r.headD w):=by
   cases r with
   |nil=>exact l
   |cons q r=>exact e q (by simp)
  obtain⟨n,h⟩:=F8 (f:=f) (mt:=mt) (T:=T) (V:=V) k m vq (a p _ b vq) g;show dm T (bS z (kp f p++b3 f mt p (r.headD w)++b4 f mt r w))+iS f T (bq z (kp f p++b3 f mt p (r.headD w)++b4 f mt r w)) w=iS f T z p+dm (gH f mt T) (bS p (r++[w]))/\(f w<0->f (bq z (kp f p++b3 f mt p (r.headD w)++b4 f mt r w))=0)
  rw[nQ z (kp f p++b3 f mt p (r.headD w)),tk z (kp f p++b3 f mt p (r.headD w)),tu]
  have t:V (bq z (kp f p++b3 f mt p (r.headD w))):=by
   by_cases o:0<=f p
   ·rw[show kp f p=[p] by unfold kp;rw[M2 o]];by_cases c:f p*f (r.headD w)<0
    ·rw[ih c];exact(a _ _ b vq c).1
    rw[hW c];exact b
   rw[show kp f p=[] by unfold kp;rw[No o]];by_cases c:f p*f (r.headD w)<0
   ·rw[ih c];exact(a _ _ b vq c).1
   rw[hW c];exact m
  cases r with
  |nil=>
   have y:bS (bq z (kp f p++b3 f mt p (([]:OJ).headD w))) (b4 f mt [] w)=[]:=rfl;have i:bS p ([]++[w])=[(p,w)]:=rfl;have d:([]:OJ).headD w=w:=rfl;have j:bq (bq z (kp f p++b3 f mt p (([]:OJ).headD w))) (b4 f mt [] w)=bq z (kp f p++b3 f mt p w):=rfl;rw[y,i,j,fB,e6,fB];rw[d]at n h⊢;refine⟨?_,h⟩;dsimp only;grind
  |cons q r=>
   obtain⟨A,B⟩:=tv k a (ps:=q::r) (w:=w) (z:=bq z (kp f p++b3 f mt p q)) (λx C=>e x (J3 _ C)) l t h (by simp);refine⟨?_,B⟩;have i:bS p (q::r++[w])=(p,q)::bS q (r++[w]):=rfl;have d:(q::r).headD w=q:=rfl;have j:(q::r).tail=r:=rfl;rw[i,e6];rw[d,j]at A;rw[d]at n⊢;dsimp only;grind
theorem xQ(T:aa->aa->Rat)(a:aa)(r:OJ):dm T (bS a (r++[a]))=dm T (ba (a::r)):=by
 have:ba (a::r)=(bq a r,a)::bS a r:=rfl;rw[this,nQ,tu,e6];have:bS (bq a r) [a]=[(bq a r,a)]:=rfl;rw[this,e6,fB];dsimp only;grind
theorem xR(j:∀u v,V u->V v->f u=0->f v=0->T u v=0)(d:∀p q,V p->V q->f p*f q<0->V (mt p q)/\f (mt p q)=0)(o:aa)(s:V o)(t:f o=0){ps:OJ}(b:∀p∈ps,V p):
  dm T (ba (bm f mt ps))=dm (gH f mt T) (ba ps):=by
 cases ps with
 |nil=>rfl
 |cons a r=>
  have k:=b a J1;have first:=tv j d (ps:=a::r) (w:=a) (z:=o) b k s (λ_=>t) (by simp)
  have l:(a::r).headD a=a:=rfl;have m:(a::r).tail=r:=rfl;rw[l,m,xQ]at first
  by_cases n:bm f mt (a::r)=[]
  ·have x:b4 f mt (a::r) a=[]:=n;rw[x]at first
   have g:bS o []=[]:=rfl;have i:bq o []=o:=rfl;rw[g,i,fB]at first
   rw[n];have y:ba []=[]:=rfl;rw[y,fB];have:=first.1
   grind
  have g:bq o (b4 f mt (a::r) a)=bq (0,0,1) (bm f mt (a::r)):=nR n;have A:f a<0->f (bq (0,0,1) (bm f mt (a::r)))=0:=λh=>by rw[<-g];exact first.2 h
  have B:V (bq (0,0,1) (bm f mt (a::r))):=by
   rcases nM (tl (z:=(0,0,1)) n)with⟨h,_⟩|⟨p,C,q,E,c,e⟩
   ·exact b _ h
   rw[e];exact(d p q (b p C) (b q E) c).1
  have snd:=tv j d (ps:=a::r) (w:=a) (z:=bq (0,0,1) (bm f mt (a::r))) b k B A (by simp);rw[l,m,xQ]at snd;have i:bq (bq (0,0,1) (bm f mt (a::r))) (b4 f mt (a::r) a)=bq (0,0,1) (bm f mt (a::r)):=nR n;rw[i]at snd;have:=snd.1;show dm T (bS (bq (0,0,1) (bm f mt (a::r))) (b4 f mt (a::r) a))=_
  grind
theorem tw{T1 T2 T3:aa->aa->Rat}:∀{es:List (aa×aa)},(∀e∈es,T1 e.1 e.2+T2 e.1 e.2=T3 e.1 e.2)->dm T1 es+dm T2 es=dm T3 es
 |[],_=>by rw[fB,fB,fB];grind
 |e::es,h=>by
  have b:=h e J1;have c:=tw (es:=es) λe a=>h e (J3 _ a);rw[e6,e6,e6];grind
theorem F'(e:∀u v,V u->V v->f u=0->f v=0->T u v=0){p q:aa}(g:V p)(vq:V q)(d:f p*f q<0->T p (mt p q)+T (mt p q) q=T p q):gH f mt T p q+gH (λc => -f c) mt T p q=T p q:=by
 have h:(-f p)*(-f q)=f p*f q:=K3 _ _;unfold gH;dsimp only;rw[h];rcases K2 (f p) 0 with a|a|a
 ·rw[No (show ¬0<=f p by lia),M2 (show 0 <= -f p by lia)];rcases K2 (f q) 0 with b|b|b
  ·have c:¬f p*f q<0:=by have:=L6 a b;lia
   rw[No c,M2 (show 0 <= -f q by lia)];grind
  ·have c:¬f p*f q<0:=by rw[b,Kd];lia
   rw[No c,M2 (show 0 <= -f q by lia)];grind
  have c:f p*f q<0:=by rw[Kn];exact Ko b a
  rw[M2 c,No (show ¬0 <= -f q by lia),M2 c];have:=d c;grind
 ·have c:¬f p*f q<0:=by rw[a,Lg];lia
  rw[M2 (show 0<=f p by lia),M2 (show 0 <= -f p by lia),No c];rcases K2 (f q) 0 with b|b|b
  ·rw[No (show ¬0<=f q by lia),M2 (show 0 <= -f q by lia)];grind
  ·rw[M2 (show 0<=f q by lia),M2 (show 0 <= -f q by lia)];have:=e p q g vq a b;grind
  rw[M2 (show 0<=f q by lia),No (show ¬0 <= -f q by lia)];grind
 rw[M2 (show 0<=f p by lia),No (show ¬0 <= -f p by lia)];rcases K2 (f q) 0 with b|b|b
 ·have c:f p*f q<0:=Ko a b;rw[No (show ¬0<=f q by lia),M2 c,M2 c];exact d c
 ·have c:¬f p*f q<0:=by rw[b,Kd];lia
  rw[M2 (show 0<=f q by lia),No c];grind
 have c:¬f p*f q<0:=by have:=J9 a b;lia
 rw[M2 (show 0<=f q by lia),No c];grind
theorem tx(d:∀u v,V u->V v->f u=0->f v=0->T u v=0):∀{es:List (aa×aa)},(∀e∈es,V e.1/\V e.2/\f e.1<=0/\f e.2<=0)->dm (gH f mt T) es=0
 |[],_=>rfl
 |e::es,h=>by
  obtain⟨g,i,j,k⟩:=h e J1;have l:=tx d (es:=es) λe m=>h e (J3 _ m);rw[e6,l];have c:¬f e.1*f e.2<0:=by have:=Int.mul_nonneg_of_nonpos_of_nonpos j k;lia
  have:gH f mt T e.1 e.2=0:=by
   unfold gH;rw[No c,No c];by_cases a:0<=f e.1
   ·rw[M2 a];by_cases b:0<=f e.2
    ·rw[M2 b];exact d _ _ g i (by lia) (by lia)
    rw[No b]
   rw[No a]
  rw[this];grind
end
def bT(p:aa):Rat:=(p.1:Rat)/(p.2.2:Rat)
def bR(p:aa):Rat:=(p.2.1:Rat)/(p.2.2:Rat)
def e7(p q:aa):Rat:=bT p*bR q-bR p*bT q
def dX(o p q:aa):Rat:=(bT p-bT o)*(bR q-bR o)-(bR p-bR o)*(bT q-bT o)
theorem cZ{x:Int}(h:0<x):(x:Rat)≠0:=λz=>by
 have:=L8.mp z;lia
theorem Ga{p q m:aa}(h:fT p q m)(f:0<p.2.2)(g:0<q.2.2)(i:0<m.2.2):∃a b:Rat,a+b=1/\bT m=a*bT p+b*bT q/\bR m=a*bR p+b*bR q:=by
 obtain⟨s,a,b,j,v,w,e⟩:=h;have k:s*m.1=a*p.1+b*q.1:=Nq (λx:aa=>x.1) e;have l:s*m.2.1=a*p.2.1+b*q.2.1:=Nq (λx:aa=>x.2.1) e;have n:s*m.2.2=a*p.2.2+b*q.2.2:=Nq (λx:aa=>x.2.2) e;have y:=cZ j;have z:=cZ i;have A:=cZ f;have B:=cZ g;have C:(s:Rat)*m.1=a*p.1+b*q.1:=by rw[<-Ka,k,K4,Ka,Ka]
 have E:(s:Rat)*m.2.1=a*p.2.1+b*q.2.1:=by rw[<-Ka,l,K4,Ka,Ka]
 have F:(s:Rat)*m.2.2=a*p.2.2+b*q.2.2:=by rw[<-Ka,n,K4,Ka,Ka]
 unfold bT bR;generalize(s:Rat)=c at *;generalize(a:Rat)=o at *;generalize(b:Rat)=r at *;generalize(m.1:Rat)=G at *;generalize(m.2.1:Rat)=H at *;generalize(m.2.2:Rat)=d at *;generalize(p.1:Rat)=I at *;generalize(p.2.1:Rat)=J at *;generalize(p.2.2:Rat)=t at *;generalize(q.1:Rat)=K at *;generalize(q.2.1:Rat)=L at *;generalize(q.2.2:Rat)=u at *;refine⟨o*t/(c*d),r*u/(c*d),?_,?_,?_⟩<;>grind
theorem Gb{o p q m:aa}(h:fT p q m)(c:0<p.2.2)(d:0<q.2.2)(f:0<m.2.2):dX o p m+dX o m q=dX o p q:=by
 obtain⟨a,b,e,g,i⟩:=Ga h c d f;unfold dX;rw[g,i];have:a=1-b:=by grind
 subst this;grind
theorem tz{l p:aa}(a:0<p.2.2)(h:ln l p=0):(l.1:Rat)*bT p+l.2.1*bR p+l.2.2=0:=by
 have h:((l.1*p.1+l.2.1*p.2.1+l.2.2*p.2.2:Int):Rat)=0:=L8.mpr h;rw[K4,K4,Ka,Ka,Ka]at h;have b:=cZ a;unfold bT bR;generalize(p.1:Rat)=c at *;generalize(p.2.1:Rat)=d at *;generalize(p.2.2:Rat)=e at *;grind
theorem Gc{l o u v:aa}(n:l.1≠0\/l.2.1≠0)(p:0<o.2.2)(q:0<u.2.2)(r:0<v.2.2)(lo:ln l o=0)(s:ln l u=0)(t:ln l v=0):dX o u v=0:=by
 have a:=tz p lo;have b:=tz q s;have c:=tz r t;unfold dX;generalize bT o=d at *;generalize bR o=e at *;generalize bT u=i at *;generalize bR u=j at *;generalize bT v=k at *;generalize bR v=m at *;rcases n with h|h
 ·have h:(l.1:Rat)≠0:=λz=>h (L8.mp z);generalize(l.1:Rat)=f at *;generalize(l.2.1:Rat)=g at *;generalize(l.2.2:Rat)=w at *;have x:f*(i-d) = -g*(j-e):=by grind
  have y:f*(k-d) = -g*(m-e):=by grind
  have:f*((i-d)*(m-e)-(j-e)*(k-d))=0:=by grind
  grind
 have h:(l.2.1:Rat)≠0:=λz=>h (L8.mp z);generalize(l.1:Rat)=f at *;generalize(l.2.1:Rat)=g at *;generalize(l.2.2:Rat)=w at *;have x:g*(j-e) = -f*(i-d):=by grind
 have y:g*(m-e) = -f*(k-d):=by grind
 have:g*((i-d)*(m-e)-(j-e)*(k-d))=0:=by grind
 grind
def cU(a:OJ):Rat:=dm e7 (ba a)
theorem xT(h:aa->Rat):∀(z:aa)(L:OJ),dm (λp q=>h p-h q) (bS z L)=h z-h (bq z L)
 |z,[]=>by rw[show bS z []=[]from rfl,fB,show bq z []=z from rfl];grind
 |z,p::L=>by
  rw[show bS z (p::L)=(z,p)::bS p L from rfl,e6,xT h p L,show bq z (p::L)=bq p L from rfl];dsimp only;grind
theorem nU(o:aa)(b:OJ):dm (dX o) (ba b)=cU b:=by
 have t:dm (λp q=>e7 o p-e7 o q) (ba b)=0:=by
  unfold ba;rw[xT];cases b with
  |nil=>rw[show bq (bq (0,0,1) []) []=bq (0,0,1) []from rfl];grind
  |cons a r=>rw[show bq (bq (0,0,1) (a::r)) (a::r)=bq (0,0,1) (a::r)from rfl];grind
 have s:=tw (T1:=e7) (T2:=λp q=>e7 o p-e7 o q) (T3:=dX o) (es:=ba b) λe _=>by
  unfold dX e7;grind
 unfold cU;grind
open Classical in
noncomputable def dc(f:aa->Int)(mt:aa->aa->aa)(a:OJ):List aa:=if ∃c∈a,0<f c then bm f mt a else[]
theorem Gd{l o:aa}{j:OJ}(C:l.1≠0\/l.2.1≠0)(A:0<o.2.2)(lo:ln l o=0)(i:∀p∈j,aU p):
  cU (dc (ln l) (aY l) j)+cU (dc (λc => -ln l c) (aY l) j)=cU j:=by
 have y:∀p q,aU p->aU q->ln l p*ln l q<0->aU (aY l p q):=λp q d g c=>by
  rw[<-l1 d g];exact gc (l2 d g c)
 have w:∀u v,(0<u.2.2)->(0<v.2.2)->ln l u=0->ln l v=0->dX o u v=0:=λu v k i a b=>Gc C A k i lo a b;have B:∀u v,(0<u.2.2)->(0<v.2.2) -> -ln l u=0 -> -ln l v=0->dX o u v=0:=λu v k i a b=>w u v k i (by lia) (by lia)
 have x:∀u:aa,(aU u\/u=o)->0<u.2.2:=λu k=>by
  rcases k with h|h
  ·exact h.1
  rw[h];exact A
 have s:∀p∈j,0<p.2.2:=λp d=>(i p d).1
 have one:cU (dc (ln l) (aY l) j)=dm (gH (ln l) (aY l) (dX o)) (ba j):=by
  unfold dc;split
  ·rw[<-nU o]
   exact xR (V:=λp=>aU p\/p=o) (λu v k i=>w u v (x u k) (x v i)) (λp q d g c=>⟨.inl (by
    rcases d with d|d
    ·rcases g with g|g
     ·exact y p q d g c
     rw[g,lo,Kd]at c;lia
    rw[d,lo,Lg]at c;lia),tq c⟩) o (.inr rfl) lo (λp d=>.inl (i p d))
  rename_i n
  rw[tx (V:=λp=>0<p.2.2) w λe t=>?_]
  ·rfl
  obtain⟨m,r⟩:=fj t;have a:¬0<ln l e.1:=λz=>n ⟨_,m,z⟩;have b:¬0<ln l e.2:=λz=>n ⟨_,r,z⟩;exact⟨s _ m,s _ r,by lia,by lia⟩
 have two:cU (dc (λc => -ln l c) (aY l) j)=dm (gH (λc => -ln l c) (aY l) (dX o)) (ba j):=by
  unfold dc;split
  ·rw[<-nU o];refine xR (f:=λc => -ln l c) (V:=λp=>aU p\/p=o) (λu v k i=>B u v (x u k) (x v i)) (λp q d g c=>?_) o (.inr rfl) (by show -ln l o=0;lia) (λp d=>.inl (i p d));have c:ln l p*ln l q<0:=by rwa[K3]at c
   refine⟨.inl ?_,by show -ln l (aY l p q)=0;rw[tq c];rfl⟩;rcases d with d|d
   ·rcases g with g|g
    ·exact y p q d g c
    rw[g,lo,Kd]at c;lia
   rw[d,lo,Lg]at c;lia
  rename_i n
  rw[tx (f:=λc => -ln l c) (V:=λp=>0<p.2.2) B λe t=>?_]
  ·rfl
  obtain⟨m,r⟩:=fj t;have a:¬0 < -ln l e.1:=λz=>n ⟨_,m,z⟩;have b:¬0 < -ln l e.2:=λz=>n ⟨_,r,z⟩;exact⟨s _ m,s _ r,by show -ln l e.1<=0;lia,by show -ln l e.2<=0;lia⟩
 rw[one,two,<-nU o];refine tw λe t=>?_;obtain⟨m,r⟩:=fj t;exact F' (V:=λp=>0<p.2.2) w (s _ m) (s _ r) λc=>Gb (xq c) (s _ m) (s _ r) (y _ _ (i _ m) (i _ r) c).1
theorem l6{x:Int}(a : -63<=x)(b:x<=63):KM x<=6:=by
 have:∀n:Fin 127,KM ((n.val:Int)-63)<=6:=by decide +kernel
 have:=this ⟨(x+63).toNat,by lia⟩;rwa[show(((x+63).toNat:Nat):Int)-63=x by lia]at this
noncomputable def bL(f:aa->Int)(mt:aa->aa->aa)(sh:ON):List bd:=(sh.map λs=>(dc f mt s.1,s.2)).filter λs => !s.1.isEmpty
theorem p2{f:aa->Int}{mt:aa->aa->aa}:bL f mt []=[]:=rfl
theorem l7{f:aa->Int}{mt:aa->aa->aa}(a b:ON):bL f mt (a++b)=bL f mt a++bL f mt b:=by unfold bL;rw[KH,MJ]
theorem p3{f:aa->Int}{mt:aa->aa->aa}{s:bd}(h:(dc f mt s.1).isEmpty=false):bL f mt [s]=[(dc f mt s.1,s.2)]:=by unfold bL;simp[h]
theorem p4{f:aa->Int}{mt:aa->aa->aa}{s:bd}(h:(dc f mt s.1).isEmpty=true):bL f mt [s]=[]:=by unfold bL;simp[h]
theorem l8{f:aa->Int}{mt:aa->aa->aa}(sh:ON):(bL f mt sh).length<=sh.length:=by
 unfold bL;refine J4 (Nf _ _) ?_;rw[J5];exact J7 _
theorem tB{f:aa->Int}{mt:aa->aa->aa}{sh:ON}{s:bd}(h:s∈bL f mt sh):∃t∈sh,s=(bm f mt t.1,t.2)/\∃c∈t.1,0<f c:=by
 unfold bL at h;obtain⟨b,a⟩:=LF.mp h;obtain⟨t,d,rfl⟩:=J'.mp b;refine⟨t,d,?_⟩;unfold dc at a⊢;split at a
 ·rename_i c;rw[M2 c];exact⟨rfl,c⟩
 simp at a
def vq(a:Int×Int):Rat:=(a.1:Rat)/(a.2:Rat)
theorem Ge{a:Int×Int}{p q:aa}(b:0<a.2)(c:0<p.2.2)(d:0<q.2.2):vq (jw a p q)=vq a+e7 p q:=by
 unfold vq jw e7 bT bR;dsimp only;rw[K4,Ka,Ka,Ka,Rat.intCast_sub,Ka,Ka,Ka,Ka];have e:=cZ b;have f:=cZ c;have g:=cZ d;generalize(a.1:Rat)=h at *;generalize(a.2:Rat)=i at *;generalize(p.1:Rat)=j at *;generalize(p.2.1:Rat)=k at *;generalize(p.2.2:Rat)=l at *;generalize(q.1:Rat)=m at *;generalize(q.2.1:Rat)=n at *;generalize(q.2.2:Rat)=o at *;grind
theorem Gf{a:Int×Int}{p q:aa}(b:0<a.2)(c:0<p.2.2)(d:0<q.2.2):0<(jw a p q).2:=J9 (J9 b c) d
theorem xV:∀{es:List (aa×aa)}{a:Int×Int},0<a.2->(∀e∈es,0<e.1.2.2/\0<e.2.2.2)->0<(es.foldl (λa e=>jw a e.1 e.2) a).2/\vq (es.foldl (λa e=>jw a e.1 e.2) a)=vq a+dm e7 es
 |[],a,b,_=>⟨b,by rw[fB,List.foldl_nil];grind⟩
 |e::es,a,b,h=>by
  obtain⟨c,d⟩:=h e J1;obtain⟨f,g⟩:=xV (es:=es) (a:=jw a e.1 e.2) (Gf b c d) λx i=>h x (J3 _ i);refine⟨f,?_⟩;rw[List.foldl_cons,g,Ge b c d,e6];grind
theorem xW:∀(z:aa)(L:OJ)(k:Nat),k<L.length->(bS z L)[k]?=some (bi (z::L) k,bi L k)
 |_,[],_,h=>absurd h (by simp)
 |z,p::L,0,_=>rfl
 |z,p::L,k+1,h=>by
  have:=xW p L k (by simpa using h);simpa[bS,w5]using this
theorem nV:∀(z:aa)(L:OJ),(bS z L).length=L.length
 |_,[]=>rfl
 |z,p::L=>by simp[bS,nV p L]
theorem xX:∀(z:aa)(L:OJ),L≠[]->bq z L=bi L (L.length-1)
 |_,[],h=>absurd rfl h
 |z,[p],_=>rfl
 |z,p::q::L,_=>by
  have:=xX p (q::L) (by simp);show bq p (q::L)=_
  rw[this];rfl
theorem tC(a:OJ):ba a=(KA a.length).map λk=>(bi a ((k+a.length-1)%a.length),bi a k):=by
 apply LV;intro k;by_cases h:k<a.length
 ·have b:a≠[]:=by rintro rfl;simp at h
  rw[Kj,Mu h];unfold ba;rw[xW _ _ _ h];simp only[Ly];congr 2;cases k with
  |zero=>
   rw[Fs,xX _ _ b,Mz,KZ (by lia)]
  |succ k=>
   rw[w5,show k+1+a.length-1=k+a.length by lia,MF,KZ (by lia)]
 rw[KW (by unfold ba;rw[nV];lia),KW (by simp;lia)]
theorem Gg(b:OJ):ta b b.length=(ba b).foldl (λa e=>jw a e.1 e.2) (0,1):=by
 unfold ta;rw[tC,List.foldl_map]
def fC(p:aa):Rat:=(p.1:Rat)/(p.2.2:Rat)
theorem xY{a n:Int}(c:0<n):aU (cE a 0 n)/\(cE a 0 n).2.1=0/\fC (cE a 0 n)=(a:Rat)/n:=by
 obtain⟨d,g,f,_⟩:=ju (a:=a) (b:=0) (J8 c);refine⟨d,?_,?_⟩
 ·rw[Lg]at f;rcases Kq.mp f with z|z
  ·exact z
  lia
 have h:=cZ c;have i:=cZ d.1;have e:((cE a 0 n).1:Rat)*n=a*(cE a 0 n).2.2:=by rw[<-Ka,g,Ka]
 unfold fC;generalize((cE a 0 n).1:Rat)=x at *;generalize((cE a 0 n).2.2:Rat)=y at *;generalize(a:Rat)=j at *;generalize(n:Rat)=k at *;grind
theorem xZ{ps:OJ}(h:∀p∈ps,0<p.2.2):aU (g6 ps)/\(g6 ps).2.1=0/\fC (g6 ps)=cU ps:=by
 obtain⟨d,f⟩:=xV (es:=ba ps) (a:=(0,1)) (by decide) λe g=>⟨h _ (fj g).1,h _ (fj g).2⟩;rw[<-Gg]at d f;obtain⟨a,b,c⟩:=xY (a:=(ta ps ps.length).1) d;refine⟨a,b,?_⟩;show fC (cE (ta ps ps.length).1 0 (ta ps ps.length).2)=_
 rw[c]
 have:vq (ta ps ps.length)=cU ps:=by
  rw[f];unfold cU vq;rw[show(((0:Int),(1:Int)).1:Rat)=0 from rfl];grind
 exact this
def d5(sh:ON):Rat:=(sh.map λs=>cU s.1).sum
theorem il(s:bd)(sh:ON):d5 (s::sh)=cU s.1+d5 sh:=by unfold d5;rw[KR,LB]
theorem l9:∀a b:ON,d5 (a++b)=d5 a+d5 b
 |[],b=>by rw[LA,show d5 []=0 from rfl];grind
 |s::a,b=>by rw[Nd,il,il,l9 a b];grind
theorem Gh{p q:aa}(d:aU p)(c:aU q)(h:p≠q):(a_ p q).1≠0\/(a_ p q).2.1≠0:=by
 by_cases a:(a_ p q).1=0
 ·by_cases b:(a_ p q).2.1=0
  ·exfalso
   have a:p.2.1*q.2.2-p.2.2*q.2.1=0:=a;have b:p.2.2*q.1-p.1*q.2.2=0:=b;have e:=sT d (J8 c.1) (show p.1*q.2.2=q.1*p.2.2 by grind) (show p.2.1*q.2.2=q.2.1*p.2.2 by grind);have f:=sT c (J8 c.1) (show q.1*q.2.2=q.1*q.2.2 from rfl) (show q.2.1*q.2.2=q.2.1*q.2.2 from rfl);exact h (e.symm.trans f)
  exact .inr b
 exact .inl a
theorem x0{l o:aa}(a:l.1≠0\/l.2.1≠0)(b:0<o.2.2)(lo:ln l o=0):∀{sh:ON},(∀s∈sh,∀p∈s.1,aU p)->d5 (bL (ln l) (aY l) sh)+d5 (bL (λc => -ln l c) (aY l) sh)=d5 sh
 |[],_=>by rw[p2,p2,show d5 []=0 from rfl];grind
 |s::sh,h=>by
  have g:=x0 a b lo (sh:=sh) λt d=>h t (J3 _ d);have k:=Gd a b lo (h s J1)
  have one:∀(f:aa->Int),d5 (bL f (aY l) [s])=cU (dc f (aY l) s.1):=λf=>by
   cases c:(dc f (aY l) s.1).isEmpty with
   |false=>
    rw[p3 c,il,show d5 []=0 from rfl];grind
   |true=>
    rw[p4 c,List.isEmpty_iff.mp c];rfl
  have e:∀(f:aa->Int),d5 (bL f (aY l) (s::sh))=cU (dc f (aY l) s.1)+d5 (bL f (aY l) sh):=λf=>by
   have:s::sh=[s]++sh:=rfl;rw[this,l7,l9,one]
  rw[e,e,il];grind
theorem x1{a:Type}{f:a->Int}:∀{l:List a},(∀x∈l,f x=0)->(l.map f).sum=0
 |[],_=>rfl
 |x::l,h=>by rw[KR,LB,h x J1,x1 λy b=>h y (J3 _ b)];rfl
theorem tD{f:aa->Int}{mt:aa->aa->aa}{a:OJ}(h:∃c∈a,0<f c):dc f mt a=bm f mt a:=by unfold dc;rw[M2 h]
theorem tE{f:aa->Int}{mt:aa->aa->aa}{a:OJ}(h:¬∃c∈a,0<f c):dc f mt a=[]:=by unfold dc;rw[No h]
theorem p5{l:aa}{a:OJ}:(∃c∈a,0<(λc => -ln l c) c)↔∃c∈a,ln l c<0:=
 ⟨λ⟨c,h,z⟩=>⟨c,h,by have z:0 < -ln l c:=z;lia⟩,λ⟨c,h,z⟩=>⟨c,h,by show 0 < -ln l c;lia⟩⟩
theorem x2(a:OJ)(s:aa):wi a s=0\/wi a s = -1\/wi a s=1:=by
 unfold wi;split
 ·exact .inl rfl
 split
 ·exact .inr (.inl rfl)
 exact .inr (.inr rfl)
theorem Gi{a:OJ}{s:aa}(h:∀e∈ba a,0<=az e.1 e.2 s)(z:∃e∈ba a,az e.1 e.2 s=0):wi a s = -1:=by
 unfold wi;rw[No λ⟨e,b,q⟩=>by have:=h e b;lia,M2 z]
theorem Gj{a:OJ}{i:Nat}(h:i<a.length):(ba a).take (i+1)=(ba a).take i++[(bi a ((i+a.length-1)%a.length),bi a i)]:=by
 rw[List.take_succ,tC,Kj,Mu h];rfl
theorem Gk(a:OJ):(ba a).take a.length=ba a:=LO (by unfold ba;rw[nV];exact J7 _)
theorem x3(x:Int):bt x=0↔x=0:=by unfold bt;split<;>first|lia|(split<;>lia)
theorem Gl(p q:aa):ln (a_ p q) p=0:=by show az p q p=0;unfold az a_;grind
theorem x4{f:aa->Int}{mt:aa->aa->aa}{x:aa}:∀{a:OJ}{w:aa},x∈b4 f mt a w->(x∈a/\0<=f x)\/∃e∈bS (a.headD w) (a.tail++[w]),f e.1*f e.2<0/\x=mt e.1 e.2
 |[],_,h=>by cases h
 |p::r,w,h=>by
  have h:x∈kp f p++b3 f mt p (r.headD w)++b4 f mt r w:=h;rcases Kc.mp h with h|h
  ·rcases Kc.mp h with h|h
   ·unfold kp at h;split at h
    ·rename_i z
     rw[Ks.mp h];exact .inl ⟨J1,z⟩
    cases h
   unfold b3 at h;split at h
   ·rename_i z
    refine .inr ⟨(p,r.headD w),?_,z,Ks.mp h⟩;cases r<;>exact J1
   cases h
  rcases x4 h with⟨b,c⟩|⟨e,b,c⟩
  ·exact .inl ⟨J3 _ b,c⟩
  refine .inr ⟨e,?_,c⟩;cases r with
  |nil=>cases h
  |cons q r=>exact J3 _ b
theorem nW{f:aa->Int}{mt:aa->aa->aa}{x:aa}{b:OJ}(h:x∈bm f mt b):(x∈b/\0<=f x)\/∃e∈ba b,f e.1*f e.2<0/\x=mt e.1 e.2:=by
 cases b with
 |nil=>cases h
 |cons a r=>
  rcases x4 h with h|⟨e,c,d⟩
  ·exact .inl h
  exact .inr ⟨e,tm.mp c,d⟩
theorem par{g u v:aa}(j:g.1≠0\/g.2.1≠0\/g.2.2≠0)(k:ln g u=0)(l:ln g v=0)(n:(a_ u v).1≠0\/(a_ u v).2.1≠0\/(a_ u v).2.2≠0):∃a b:Int,a≠0/\b≠0/\sc a (a_ u v)=sc b g:=by
 have t:a_ g (a_ u v)=eL (ln g v) u (-ln g u) v:=nD g u v;rw[k,l]at t;generalize a_ u v=w at *
 have d:g.2.1*w.2.2-g.2.2*w.2.1=0:=by
  have:=Nq (λx:aa=>x.1) t;unfold a_ eL at this;dsimp only at this;grind
 have f:g.2.2*w.1-g.1*w.2.2=0:=by
  have:=Nq (λx:aa=>x.2.1) t;unfold a_ eL at this;dsimp only at this;grind
 have i:g.1*w.2.1-g.2.1*w.1=0:=by
  have:=Nq (λx:aa=>x.2.2) t;unfold a_ eL at this;dsimp only at this;grind
 have c:∀{x y:Int},x≠0->x*y=0->y=0:=λh e=>(Kq.mp e).resolve_left h;rcases j with h|h|h
 ·refine⟨g.1,w.1,h,λz=>?_,?_⟩
  ·rw[z]at f i;have a:=c h (show g.1*w.2.2=0 by grind);have b:=c h (show g.1*w.2.1=0 by grind);rcases n with n|n|n<;>contradiction
  unfold sc;refine e4 ?_ ?_ ?_<;>dsimp only<;>grind
 ·refine⟨g.2.1,w.2.1,h,λz=>?_,?_⟩
  ·rw[z]at d i;have a:=c h (show g.2.1*w.2.2=0 by grind);have b:=c h (show g.2.1*w.1=0 by grind);rcases n with n|n|n<;>contradiction
  unfold sc;refine e4 ?_ ?_ ?_<;>dsimp only<;>grind
 refine⟨g.2.2,w.2.2,h,λz=>?_,?_⟩
 ·rw[z]at d f;have a:=c h (show g.2.2*w.2.1=0 by grind);have b:=c h (show g.2.2*w.1=0 by grind);rcases n with n|n|n<;>contradiction
 unfold sc;refine e4 ?_ ?_ ?_<;>dsimp only<;>grind
section
variable{X:aS}{F:ci}{n:Nu}{f p:Pos}
def Gm(F:ci)(a:Int)(u:OL->Prop->Prop):a9:=λb k=>u b (F [.bag,.val (.int a)] λr=>h6 r k)
theorem Gn{x:Str}{U:OR}{j L:Nat}{M:OL->Prop->Prop}{o:Int}{t y}(c:cq X.prog X.w X.K X.mg X.base x U j (cj X.K 2 F))(Y:d1 L X.A)(Z:ew X x)(ae:o7 X n M)(vs:j<=L:=by decide)(ag:eS x:=by decide)(N:Nw [n,.Constant (.int o) t y] X.env=(false,Op n X.env)::Nw [.Constant (.int o) t y] X.env:=by rfl)(ah:Nw [.Constant (.int o) t y] X.env=(false,Op (.Constant (.int o) t y) X.env)::Nw [] X.env:=by rfl)(aj:(OB f (Nw [.Constant (.int o) t y] X.env)).any (·.1)=false:=by rfl):
  bc X (.Call (.Name x p) [n,.Constant (.int o) t y] [] f) (Gm F o M):=by
 obtain⟨_,hc,ao⟩:=ae;refine⟨_,oJ c Y Z (ez hc (ez eH fJ ah) N) vs ag N aj,λO k h R W B H P Q e q=>?_⟩;refine ao O _ h R W B H P _ e λa ay aA aC z C aD aF aG aH=>?_;show cj X.K 2 F ([.ref a,.int o]++[]) aA Q jU
 rw[Kb];refine⟨λb=>b=a,ay,[.bag,.val (.int o)],_,aC,rfl,rfl,z.bh,λb E=>by subst E;exact⟨aF,aG⟩,.bag rfl (.val (.int _) .nil),λr v S T u G=>?_⟩;obtain⟨I,J⟩:=z.gZ (λb E=>by subst E;exact⟨aD,aH⟩) G.wd G.g;have res:=G.res;cases r with
 |no=>exact u.elim
 |bag=>exact u.elim
 |pin v d=>exact u.elim
 |deep c=>exact u.elim
 |val d=>exact q d v S T u I (C.trans J) res
 |new d=>exact q d v S T u I (C.trans J) (bz.mono oO res)
 |own c=>
  cases c with
  |d _ _ _ _=>exact u.elim
  |l aQ=>
  obtain⟨c,rfl,t,aI,aT,aL,aN⟩:=res;obtain⟨aO,g3⟩:=I.freeze aL (z.toWd.fresh t).1 aI λi m=>absurd t (z.dV (show cD P O i c from m)).2;exact q _ _ _ _ u aO ((C.trans J).trans g3) (.lst fq (aN.mono g3.s))
end
theorem dS.sl{g:aa}{d:OJ}(f:aU g)(e:∀p∈d,aU p)(h:dS d):dS (d.map λp=>nP (c_ g p)):=h.map λp q r a b c=>(E7 f.1).side (e p a).1 (e q b).1 (e r c).1
abbrev kg(a:OJ):D:=.lst (a.map aE)
theorem x5(h:aa->aa):∀(z:aa)(a:OJ),bS (h z) (a.map h)=(bS z a).map λe=>(h e.1,h e.2)
 |_,[]=>rfl
 |z,p::r=>by
  show(h z,h p)::bS (h p) (r.map h)=(h z,h p)::_
  rw[x5 h p r]
theorem x6(h:aa->aa):∀(z:aa)(a:OJ),bq (h z) (a.map h)=h (bq z a)
 |_,[]=>rfl
 |_,p::r=>x6 h p r
theorem Go(h:aa->aa):∀(a:OJ),ba (a.map h)=(ba a).map λe=>(h e.1,h e.2)
 |[]=>rfl
 |p::r=>by
  show bS (bq (h p) (r.map h)) ((p::r).map h)=(bS (bq p r) (p::r)).map _
  rw[x6,x5]
theorem x7{h:aa->aa}{a:OJ}(S:aa×aa->Rat)(b:∀e∈ba a,e7 (h e.1) (h e.2)=S e):cU (a.map h)=((ba a).map S).sum:=by
 unfold cU dm;rw[Go,KY];congr 1;exact KX b
theorem x8{p:aa}(h:0<p.2.2):bT (nP p)=bT p:=by
 obtain⟨c,e,_⟩:=ju (a:=p.1) (b:=p.2.1) (J8 h);have a:=cZ h;have b:=cZ c.1;have e:((nP p).1:Rat)*p.2.2=p.1*(nP p).2.2:=by rw[<-Ka,<-Ka];exact Nq _ e
 have b:((nP p).2.2:Rat)≠0:=b;unfold bT;generalize((nP p).1:Rat)=x at *;generalize((nP p).2.2:Rat)=y at *;generalize(p.1:Rat)=z at *;generalize(p.2.2:Rat)=w at *;grind
theorem x9{p:aa}(h:0<p.2.2):bR (nP p)=bR p:=by
 obtain⟨c,_,e,_⟩:=ju (a:=p.1) (b:=p.2.1) (J8 h);have a:=cZ h;have b:=cZ c.1;have e:((nP p).2.1:Rat)*p.2.2=p.2.1*(nP p).2.2:=by rw[<-Ka,<-Ka];exact Nq _ e
 have b:((nP p).2.2:Rat)≠0:=b;unfold bR;generalize((nP p).2.1:Rat)=x at *;generalize((nP p).2.2:Rat)=y at *;generalize(p.2.1:Rat)=z at *;generalize(p.2.2:Rat)=w at *;grind
theorem Gp(a:OJ):cU (a.map dO)=cU a:=by
 rw[x7 (λe=>e7 e.1 e.2) λe _=>?_]
 ·rfl
 unfold e7 bT bR dO;simp only[L9];grind
theorem p6{g p:aa}(c:0<g.2.2)(d:0<p.2.2):bT (c_ g p)=bT p+bT g/\bR (c_ g p)=bR p+bR g:=by
 have a:=cZ c;have b:=cZ d;unfold bT bR c_;simp only[K4,Ka];generalize(p.1:Rat)=e at *;generalize(p.2.1:Rat)=f at *;generalize(p.2.2:Rat)=h at *;generalize(g.1:Rat)=i at *;generalize(g.2.1:Rat)=j at *;generalize(g.2.2:Rat)=k at *;constructor<;>grind
theorem Gq{g:aa}{b:OJ}(a:0<g.2.2)(h:∀p∈b,0<p.2.2):cU (b.map λp=>nP (c_ g p))=cU b:=by
 have f:bT (dO g) = -bT g/\bR (dO g) = -bR g:=by
  unfold bT bR dO;simp only[L9];constructor<;>grind
 rw[x7 (λe=>dX (dO g) e.1 e.2) λe i=>?_]
 ·exact nU (dO g) b
 have c:=h _ (fj i).1;have d:=h _ (fj i).2;have j:0<(c_ g e.1).2.2:=J9 c a;have k:0<(c_ g e.2).2.2:=J9 d a;unfold e7 dX;rw[x8 j,x9 j,x8 k,x9 k,(p6 a c).1,(p6 a c).2,(p6 a d).1,(p6 a d).2,f.1,f.2];grind
theorem x'(m:aa->aa):∀(z:aa)(L:OJ),bS (m z) (L.map m)=(bS z L).map λe=>(m e.1,m e.2)
 |_,[]=>rfl
 |z,p::L=>by
  show(m z,m p)::bS (m p) (L.map m)=_
  rw[x' m p L];rfl
theorem ya(m:aa->aa):∀(z:aa)(L:OJ),bq (m z) (L.map m)=m (bq z L)
 |_,[]=>rfl
 |z,p::L=>ya m p L
theorem p7(m:aa->aa)(b:OJ):ba (b.map m)=(ba b).map λe=>(m e.1,m e.2):=by
 cases b with
 |nil=>rfl
 |cons a r=>
  unfold ba
  have e:bq (0,0,1) ((a::r).map m)=m (bq (0,0,1) (a::r)):=by
   rw[<-ya m (0,0,1) (a::r)];exact nR (by simp)
  rw[e,x']
theorem Gr{x:Int}(h:bt x=1):0<x:=by
 unfold bt at h;split at h
 ·assumption
 split at h<;>lia
theorem dS.turn{a:OJ}(h:dS a){k:Nat}(c:k<a.length):0<az (bi a ((k+a.length-2)%a.length)) (bi a ((k+a.length-1)%a.length)) (bi a k):=by
 have f:=h.1
 have e:((k+a.length-2)%a.length+1)%a.length=(k+a.length-1)%a.length:=by
  rw[Nat.mod_add_mod];congr 1;lia
 have b:∀d,0<d->d<a.length->k≠(k+a.length-d)%a.length:=λd g i z=>by
  by_cases y:d<=k
  ·rw[show k+a.length-d=(k-d)+a.length by lia,MF,KZ (by lia)]at z;lia
  rw[KZ (by lia)]at z;lia
 have:=h.2 ((k+a.length-2)%a.length) k (Lf _ (by lia)) c (b 2 (by decide) (by lia)) (by rw[e];exact b 1 (by decide) (by lia));rw[e]at this;exact Gr this
theorem tG(s:bd):dg s=s.1.map λp=>if s.2.1=true then dO (nP (c_ (dO s.2.2) p))else nP (c_ (dO s.2.2) p):=by
 unfold dg;by_cases h:s.2.1=true
 ·rw[M2 h,KY];refine KX λp _=>?_;rw[M2 h];rfl
 rw[No h];refine KX λp _=>?_;rw[No h]
theorem Gs(a p:aa):az a p p=0:=by unfold az a_;grind
theorem dS.side{b:OJ}(h:dS b){p q:aa}(c:(p,q)∈ba b):p≠q:=by
 rw[tC]at c;obtain⟨i,a,e⟩:=J'.mp c;have a:=Lk.mp a;have t:=h.turn a;obtain⟨rfl,rfl⟩:=Prod.mk.inj e;intro z;rw[z,Gs]at t;lia
theorem yc(s:bd):(dg s).length=s.1.length:=by rw[tG,J5]
theorem Gu{g p q:aa}(i:aU g)(m:aU p)(n:aU q):nP (c_ (dO (nP (c_ g q))) (nP (c_ g p)))=nP (c_ (dO q) p):=by
 have j:∀{a b:aa},aU a->aU b->(c_ a b).2.2≠0:=λA B=>Kx (J8 B.1) (J8 A.1);obtain⟨d,C,o⟩:=ia (j i m);obtain⟨e,E,r⟩:=ia (j i n);obtain⟨f,F,s⟩:=ia (j n.trn m);have H:aU (nP (c_ (dO q) p)):=gc (j n.trn m);obtain⟨t,u,k⟩:(c_ g p).1=d*(nP (c_ g p)).1/\(c_ g p).2.1=d*(nP (c_ g p)).2.1/\(c_ g p).2.2=d*(nP (c_ g p)).2.2:=⟨Nq (·.1) o,Nq (·.2.1) o,Nq (·.2.2) o⟩;obtain⟨v,w,l⟩:(c_ g q).1=e*(nP (c_ g q)).1/\(c_ g q).2.1=e*(nP (c_ g q)).2.1/\(c_ g q).2.2=e*(nP (c_ g q)).2.2:=⟨Nq (·.1) r,Nq (·.2.1) r,Nq (·.2.2) r⟩;obtain⟨x,y,z⟩:(c_ (dO q) p).1=f*(nP (c_ (dO q) p)).1/\(c_ (dO q) p).2.1=f*(nP (c_ (dO q) p)).2.1/\(c_ (dO q) p).2.2=f*(nP (c_ (dO q) p)).2.2:=⟨Nq (·.1) s,Nq (·.2.1) s,Nq (·.2.2) s⟩;generalize nP (c_ g p)=a at *;generalize nP (c_ g q)=b at *;generalize nP (c_ (dO q) p)=h at *;simp only[c_,dO]at t u k v w l x y z;refine(sJ (M:=c_ (dO b) a) (h:=h) (G:=d*e) (c:=g.2.2*g.2.2*f) (Kx C E) (Kx (Kx (J8 i.1) (J8 i.1)) F) H ?_).2;refine e4 ?_ ?_ ?_<;>simp only[sc,c_,dO]
 ·have:d*e*(a.1*b.2.2 + -b.1*a.2.2)=(d*a.1)*(e*b.2.2)-(e*b.1)*(d*a.2.2):=by grind
  rw[this,<-t,<-l,<-v,<-k];have:g.2.2*g.2.2*f*h.1=g.2.2*g.2.2*(f*h.1):=by grind
  rw[this,<-x];grind
 ·have:d*e*(a.2.1*b.2.2 + -b.2.1*a.2.2)=(d*a.2.1)*(e*b.2.2)-(e*b.2.1)*(d*a.2.2):=by grind
  rw[this,<-u,<-l,<-w,<-k];have:g.2.2*g.2.2*f*h.2.1=g.2.2*g.2.2*(f*h.2.1):=by grind
  rw[this,<-y];grind
 have:d*e*(a.2.2*b.2.2)=(d*a.2.2)*(e*b.2.2):=by grind
 rw[this,<-k,<-l];have:g.2.2*g.2.2*f*h.2.2=g.2.2*g.2.2*(f*h.2.2):=by grind
 rw[this,<-z];grind
theorem Gv{g:aa}{s:bd}(a:aU g)(b:aU s.2.2)(c:∀p∈s.1,aU p):dg (iQ g s)=dg s:=by
 rw[tG,tG];unfold iQ;dsimp only;rw[KY];refine KX λp d=>?_;show(if s.2.1=true then dO (nP (c_ (dO (nP (c_ g s.2.2))) (nP (c_ g p))))else nP (c_ (dO (nP (c_ g s.2.2))) (nP (c_ g p))))=_
 rw[Gu a (c p d) b]
theorem yd(a:Rat):(0:Rat)/a=0:=by grind
def eN(p:aa)(x y:Rat):Prop:=aU p/\bT p=x/\bR p=y
theorem ye{a b c d:Int}(e:0<b)(f:0<d)(h:(a:Rat)/b=(c:Rat)/d):a*d=c*b:=by
 have g:=cZ e;have i:=cZ f;have:(a:Rat)*d=c*b:=by grind
 exact_mod_cast this
theorem eN.eq{p q:aa}{x y:Rat}(h:eN p x y)(g:eN q x y):p=q:=by
 obtain⟨a,c,d⟩:=h;obtain⟨b,e,f⟩:=g;obtain⟨i,j,k⟩:=rQ a b (ye a.1 b.1 (c.trans e.symm)) (ye a.1 b.1 (d.trans f.symm));exact e4 i j k
theorem eN.to{p:aa}{x y a b:Rat}(h:eN p x y)(c:x=a)(d:y=b):eN p a b:=by subst c d;exact h
theorem yf{a b n:Int}(c:0<n):eN (cE a b n) ((a:Rat)/n) ((b:Rat)/n):=by
 obtain⟨p,d,e,_⟩:=ju (a:=a) (b:=b) (J8 c);have f:=cZ c;have g:=cZ p.1;have h:(((cE a b n).1:Int):Rat)*n=a*((cE a b n).2.2:Int):=by exact_mod_cast d
 have i:(((cE a b n).2.1:Int):Rat)*n=b*((cE a b n).2.2:Int):=by exact_mod_cast e
 refine⟨p,?_,?_⟩
 ·unfold bT;grind
 unfold bR;grind
theorem yg{g p:aa}{a b x y:Rat}(e:eN g a b)(f:eN p x y):eN (nP (c_ g p)) (x+a) (y+b):=by
 obtain⟨c,h,g3⟩:=e;obtain⟨d,i,j⟩:=f;have k:=cZ c.1;have l:=cZ d.1;refine(yf (a:=(c_ g p).1) (b:=(c_ g p).2.1) (n:=(c_ g p).2.2) (J9 d.1 c.1)).to ?_ ?_
 ·rw[<-h,<-i];unfold bT c_;dsimp only;push_cast;grind
 rw[<-g3,<-j];unfold bR c_;dsimp only;push_cast;grind
theorem yh{p q r:aa}{a b c d e f:Rat}(j:eN p a b)(l:eN q c d)(m:eN r e f):∃k:Rat,0<k/\((az p q r:Int):Rat)=k*((c-a)*(f-b)-(d-b)*(e-a)):=by
 obtain⟨g,n,o⟩:=j;obtain⟨h,s,t⟩:=l;obtain⟨i,u,v⟩:=m;have w:=cZ g.1;have x:=cZ h.1;have y:=cZ i.1;refine⟨((p.2.2*q.2.2*r.2.2:Int):Rat),?_,?_⟩
 ·have:=J9 (J9 g.1 h.1) i.1;exact_mod_cast this
 rw[<-n,<-o,<-s,<-t,<-u,<-v];unfold az a_ bT bR;dsimp only;push_cast;grind
def k3(t:Bool)(g p:aa):aa:=nP (c_ g (if t=true then dO p else p))
theorem k4{x:Int}:0<(x:Rat)↔0<x:=by exact_mod_cast Iff.rfl
theorem tJ{x:Int}:0<=(x:Rat)↔0<=x:=by exact_mod_cast Iff.rfl
theorem tK{o p q:aa}(b:aU o)(c:aU p)(d:aU q):(0<=az o p q->0<=dX o p q)/\(0<az o p q->0<dX o p q):=by
 obtain⟨k,a,e⟩:=yh (p:=o) (q:=p) (r:=q) ⟨b,rfl,rfl⟩ ⟨c,rfl,rfl⟩ ⟨d,rfl,rfl⟩;have t:(bT p-bT o)*(bR q-bR o)-(bR p-bR o)*(bT q-bT o)=dX o p q:=rfl;rw[t]at e;constructor
 ·intro h;have h:=tJ.mpr h;rw[e]at h;by_cases z:0<=dX o p q
  ·exact z
  have:=Rat.mul_pos a (show 0 < -dX o p q by grind);grind
 intro h;have h:=k4.mpr h;rw[e]at h;by_cases z:0<dX o p q
 ·exact z
 have:=MK (Lh a) (show 0 <= -dX o p q by grind);grind
theorem yi{T:aa->aa->Rat}:∀{es:List (aa×aa)},(∀e∈es,0<=T e.1 e.2)->0<=dm T es
 |[],_=>by rw[fB];grind
 |e::es,h=>by
  rw[e6];have:=yi (T:=T) (es:=es) λx a=>h x (J3 _ a);have:=h e J1;grind
theorem yj{T:aa->aa->Rat}:∀{b:List (aa×aa)},(∀e∈b,0<=T e.1 e.2)->(∃e∈b,0<T e.1 e.2)->0<dm T b
 |[],_,h=>by obtain⟨_,z,_⟩:=h;cases z
 |e::b,h,g=>by
  rw[e6];have d:∀x∈b,0<=T x.1 x.2:=λx c=>h x (J3 _ c);have a:=yi d;obtain⟨x,c,f⟩:=g;rcases J6.mp c with rfl|c
  ·grind
  have:=yj d ⟨x,c,f⟩;have:=h e J1;grind
theorem yk{d:OJ}(h:dS d)(f:∀p∈d,aU p):0<cU d:=by
 have j:=(iR d).mpr h.iu
 match d,h.1 with
 |a::b::c::r,_=>
  rw[<-nU a];have g:=f a (by simp);refine yj (λe i=>?_) ⟨(b,c),?_,?_⟩
  ·obtain⟨k,l⟩:=fj i;refine(tK g (f _ k) (f _ l)).1 ?_;rw[<-gf];exact(ij j h.1 i).1 a (by simp)
  ·show(b,c)∈(_,a)::(a,b)::(b,c)::bS c r
   simp
  refine(tK g (f b (by simp)) (f c (by simp))).2 ?_;have:=h.iu 0 1 2 (by decide) (by decide) (by simp);exact this
theorem Gx{x y n:Int}(d:0<n)(h:x<=y*n):(x:Rat)/n<=y:=by
 have a:(0:Rat)<(n:Rat):=k4.mpr d;have b:(x:Rat)<=(y:Rat)*n:=by rw[<-Ka];exact_mod_cast h
 rw[Rat.div_def];have c:=Lu b (Lh (Rat.inv_pos.mpr a));have e:(y:Rat)*n*(n:Rat)⁻¹=y:=by rw[Rat.mul_assoc,Rat.mul_inv_cancel _ (cZ d),Rat.mul_one]
 rwa[e]at c
theorem Gy{x n:Int}(a:0<n)(h:0<=x):0<=(x:Rat)/n:=by
 rw[Rat.div_def];exact MK (tJ.mpr h) (Lh (Rat.inv_pos.mpr (k4.mpr a)))
theorem ma(p:aa):bT (dO p) = -bT p/\bR (dO p) = -bR p:=by
 constructor
 ·show(((-p.1:Int):Rat))/(p.2.2:Rat) = -((p.1:Rat)/p.2.2)
  rw[L9];grind
 show(((-p.2.1:Int):Rat))/(p.2.2:Rat) = -((p.2.1:Rat)/p.2.2)
 rw[L9];grind
theorem yl{o p q:aa}(a:aU o)(b:aU p)(c:aU q):0<az o p q↔0<dX o p q:=by
 obtain⟨k,d,e⟩:=yh (p:=o) (q:=p) (r:=q) ⟨a,rfl,rfl⟩ ⟨b,rfl,rfl⟩ ⟨c,rfl,rfl⟩;have t:(bT p-bT o)*(bR q-bR o)-(bR p-bR o)*(bT q-bT o)=dX o p q:=rfl;rw[t]at e;refine⟨(tK a b c).2,λh=>?_⟩;have:=Rat.mul_pos d h;rw[<-e]at this;exact k4.mp this
def eO(D:Int)(x:Rat):Prop:=∃k:Int,x*D=k
theorem eO.add{D:Int}{x y:Rat}(h:eO D x)(g:eO D y):eO D (x+y):=by
 obtain⟨a,c⟩:=h;obtain⟨b,d⟩:=g;exact⟨a+b,by rw[K4];grind⟩
theorem eO.sub{D:Int}{x y:Rat}(h:eO D x)(g:eO D y):eO D (x-y):=by
 obtain⟨a,c⟩:=h;obtain⟨b,d⟩:=g;exact⟨a-b,by rw[Rat.intCast_sub];grind⟩
theorem eO.mul{D:Int}{x y:Rat}(h:eO D x)(g:eO D y):eO (D*D) (x*y):=by
 obtain⟨a,c⟩:=h;obtain⟨b,d⟩:=g;exact⟨a*b,by rw[Ka,Ka,<-c,<-d];grind⟩
def iU(D:Int)(p:aa):Prop:=eO D (bT p)/\eO D (bR p)
theorem ym{D:Int}{g:OJ}(h:∀p∈g,iU D p):eO (D*D) (cU g):=by
 unfold cU
 have:∀c:List (aa×aa),(∀e∈c,iU D e.1/\iU D e.2)->eO (D*D) (dm e7 c):=λc=>by
  induction c with
  |nil=>intro _;rw[fB];exact⟨0,by show(0:Rat)*_=0;grind⟩
  |cons e c i=>
   intro h;obtain⟨d,f⟩:=h e J1;rw[e6];refine eO.add ?_ (i λx j=>h x (J3 _ j));unfold e7;exact(d.1.mul f.2).sub (by first|exact f.1.mul d.2|exact d.2.mul f.1)
 exact this _ λe k=>by obtain⟨a,b⟩:=fj k;exact⟨h _ a,h _ b⟩
theorem yn{N:Int}{p:aa}(a:aU p)(b:p.2.1=0)(h:eO N (fC p)):p.2.2∣N:=by
 obtain⟨k,f⟩:=h;have z:=cZ a.1;unfold fC at f;have e:(p.1:Rat)*N=k*p.2.2:=by grind
 have e:p.1*N=k*p.2.2:=by exact_mod_cast e
 have g:=a.2;rw[b]at g
 have i:J2 p.1 p.2.2=1:=by
  rw[<-g];show Kr _ _=Kr (Kr _ _) _
  simp
 have d:p.2.2∣N*p.1:=⟨k,by rw[Kn N,e,Kn]⟩;have d:=K0.mpr d;rw[KN]at d;have c:Nat.Coprime p.2.2.natAbs p.1.natAbs:=by rw[Nat.coprime_comm];exact i
 exact K0.mp (Nat.Coprime.dvd_of_dvd_mul_right c d)
theorem tL{n N:Int}{m:Nat}(c:0<n)(a:0<N)(h:n∣N)(b:KM N<=m):KM n<=m:=by
 have:=L' a h;rw[Ob]at b⊢;lia
theorem yo{p:aa}{N:Int}{m:Nat}(c:aU p)(g:0<N)(h:p.2.2∣N)(b:KM N<=m)(v : -1024<=fC p/\fC p<=1024):KM p.1<=m+11:=by
 have z:=cZ c.1;have d:=k4.mpr c.1;have le:=L' g h;unfold fC at v;have e:(p.1:Rat)=(p.1:Rat)/p.2.2*p.2.2:=by grind
 have a:=Lu v.1 (Lh d);have f:=Lu v.2 (Lh d);rw[<-e]at a f
 have i:(-1024)*p.2.2<=p.1:=by
  have e:((-1024*p.2.2:Int):Rat) = -1024*(p.2.2:Rat):=by rw[Ka];rfl
  rw[<-e]at a;exact Rat.intCast_le_intCast.mp a
 have j:p.1<=1024*p.2.2:=by exact_mod_cast f
 rw[Ob]at b⊢;have:2^(m+11)=2^m*2048:=by rw[Nat.pow_add]
 lia
def nX(p q:aa):aa:=cE (p.1*q.2.2+q.1*p.2.2) 0 (p.2.2*q.2.2)
theorem Gz{p q:aa}(d:aU p)(e:aU q):aU (nX p q)/\(nX p q).2.1=0/\fC (nX p q)=fC p+fC q:=by
 obtain⟨a,b,c⟩:=xY (a:=p.1*q.2.2+q.1*p.2.2) (n:=p.2.2*q.2.2) (J9 d.1 e.1);refine⟨a,b,?_⟩;unfold nX;rw[c,K4,Ka,Ka,Ka];have:=cZ d.1;have:=cZ e.1;unfold fC;grind
theorem GA{p q:aa}(a:aU p)(b:aU q)(c:p.2.1=0)(d:q.2.1=0)(h:fC p=fC q):p=q:=by
 refine eN.eq (x:=bT p) (y:=bR p) ⟨a,rfl,rfl⟩ ⟨b,h.symm,?_⟩;unfold bR;rw[c,d];have e:((0:Int):Rat)=0:=rfl;rw[e];have:=cZ a.1;have:=cZ b.1;grind
theorem GB{l a b c:aa}(g:l.1≠0\/l.2.1≠0)(d:ln l a=0)(e:ln l b=0)(f:ln l c=0)(k:0<c.2.2):az a b c=0:=by
 have i:l.1*az a b c=0:=by
  unfold ln at d e f;unfold az a_;grind
 have j:l.2.1*az a b c=0:=by
  unfold ln at d e f;unfold az a_;grind
 rcases g with h|h
 ·exact(Kq.mp i).resolve_left h
 exact(Kq.mp j).resolve_left h
theorem GC{l:aa}{d:OJ}(g:l.1≠0\/l.2.1≠0)(t:T0 d)(i:∀p∈d,0<p.2.2):(d.filter λx=>decide (ln l x=0)).length<=2:=by
 have f:=t.sub (List.filter_sublist (p:=λx=>decide (ln l x=0)))
 have z:∀x∈d.filter λx=>decide (ln l x=0),ln l x=0/\0<x.2.2:=λx j=>by
  have:=LF.mp j;exact⟨by simpa using this.2,i x this.1⟩
 match h:d.filter λx=>decide (ln l x=0),f,z with
 |[],_,_=>simp
 |[_],_,_=>simp
 |[_,_],_,_=>simp
 |a::b::c::r,f,z=>
  exfalso
  have:=f.1.1 c (by simp);have e:=GB g (z a (by simp)).1 (z b (by simp)).1 (z c (by simp)).1 (z c (by simp)).2;lia
def posQz(f:aa->Int)(a:OJ):Nat:=(a.filter λx=>decide (0<f x)).length
theorem yp{f:aa->Int}{mt:aa->aa->aa}(a:∀p q,f p*f q<0->f (mt p q)=0):∀(ps:OJ)(w:aa),posQz f (b4 f mt ps w)<=posQz f ps
 |[],_=>J7 _
 |p::r,w=>by
  have b:=yp a r w;show posQz f (kp f p++b3 f mt p (r.headD w)++b4 f mt r w)<=_
  unfold posQz at b⊢;rw[MJ,MJ,Kh,Kh]
  have c:((kp f p).filter λx=>decide (0<f x)).length=if 0<f p then 1 else 0:=by
   unfold kp;by_cases z:0<f p
   ·rw[M2 (by lia),M2 z];simp[z]
   rw[No z];by_cases y:0<=f p
   ·rw[M2 y];simp[z]
   rw[No y];rfl
  have d:((b3 f mt p (r.headD w)).filter λx=>decide (0<f x)).length=0:=by
   unfold b3;by_cases z:f p*f (r.headD w)<0
   ·rw[M2 z,Ma,No (by rw[a _ _ z];decide)];rfl
   rw[No z];rfl
  rw[c,d,Ma];by_cases z:0<f p
  ·rw[M2 z,M2 (by simpa using z),Kk];lia
  rw[No z,No (by simpa using z)];lia
theorem GD{l:aa}{mt:aa->aa->aa}{c:OJ}(j:fk l mt)(k:l.1≠0\/l.2.1≠0)(t:T0 (bm (ln l) mt c))(m:∀p∈bm (ln l) mt c,0<p.2.2):(bm (ln l) mt c).length<=c.length+1:=by
 have w:=GC k t m;have y:posQz (ln l) (bm (ln l) mt c)<=posQz (ln l) c:=yp (λp q h=>(j p q h).2) c _
 have n:∀d:OJ,(∀x∈d,0<=ln l x)->d.length=posQz (ln l) d+(d.filter λx=>decide (ln l x=0)).length:=by
  intro d;induction d with
  |nil=>intro _;rfl
  |cons q d o=>
   intro h;have i:=o λx f=>h x (J3 _ f);have A:=h q J1;unfold posQz at i⊢;rw[Ma,Ma];by_cases z:ln l q=0
   ·rw[No (by simp[z]),M2 (by simp[z]),Kk,Kk];lia
   rw[M2 (by simp;lia),No (by simp[z]),Kk,Kk];lia
 have r:∀x∈bm (ln l) mt c,0<=ln l x:=λx f=>by
  rcases nM f with⟨_,h⟩|⟨p,_,q,_,h,rfl⟩
  ·exact h
  have:=(j p q h).2;lia
 have e:=n _ r;have le:posQz (ln l) c<=c.length:=Nf _ _;by_cases all:posQz (ln l) c=c.length
 ·
  have g:∀x∈c,0<ln l x:=λx f=>by
   have:=List.length_filter_eq_length_iff.mp all x f;simpa using this
  have s:(bm (ln l) mt c).filter (λx=>decide (ln l x=0))=[]:=by
   rw[List.filter_eq_nil_iff];intro x f;rcases nM f with⟨h,_⟩|⟨p,u,q,v,h,rfl⟩
   ·have:=g x h;simp;lia
   have a:=g p u;have b:=g q v;have:=J9 a b;lia
  rw[s]at e;simp at e;lia
 lia
structure yq(s:bd):Prop where
 ps:∀p∈s.1,cr 2770 p
 ln:s.1.length<=75
 st:cr 2770 s.2.2
theorem GG{p:aa}(h:p.2.2≠0):(nP p).2.2∣p.2.2:=by
 obtain⟨g,_,e⟩:=ia h;have:p.2.2=g*(nP p).2.2:=Nq (λx:aa=>x.2.2) e;exact⟨g,by rw[this];exact Kn ..⟩
def ki(g h:aa):Int:=if(a_ g h).2.2=0 then 1 else(a_ g h).2.2
def nY(g:aa):OJ->Int
 |[]=>1
 |h::r=>ki g h*nY g r
def iV:OJ->Int
 |[]=>6
 |g::r=>nY g r*iV r
theorem GH(g h:aa):ki g h≠0:=by
 unfold ki;split
 ·decide
 assumption
theorem yr(g:aa):∀r,nY g r≠0
 |[]=>(show(1:Int)≠0 by decide)
 |h::r=>λz=>by
  rcases Kq.mp z with y|y
  ·exact GH _ _ y
  exact yr g r y
theorem yt:∀r,iV r≠0
 |[]=>by decide
 |g::r=>λz=>by
  rcases Kq.mp z with y|y
  ·exact yr _ _ y
  exact yt r y
theorem tN{g h:aa}:∀{r:OJ},h∈r->ki g h∣nY g r
 |k::r,m=>by
  rcases J6.mp m with rfl|m
  ·exact ML _ _
  exact KG (tN m) (Mb _ _)
theorem yu(g h:aa):(a_ g h).2.2 = -(a_ h g).2.2:=by unfold a_;dsimp only;grind
theorem yv{g h:aa}:∀{r:OJ},g∈r->h∈r->(a_ g h).2.2≠0->(a_ g h).2.2∣iV r
 |k::r,d,b,n=>by
  rcases J6.mp d with rfl|c
  ·rcases J6.mp b with rfl|a
   ·exact absurd (by unfold a_;dsimp only;grind) n
   have:=tN (g:=g) a;unfold ki at this;rw[No n]at this;exact KG this (ML _ _)
  rcases J6.mp b with rfl|a
  ·have:=tN (g:=h) c;have e:(a_ h g).2.2≠0:=λz=>n (by rw[yu,z];rfl);unfold ki at this;rw[No e]at this;rw[yu];exact KG (Mr.mpr this) (ML _ _)
  exact KG (yv c a n) (Mb _ _)
theorem GI{m:Nat}{g h:aa}(a:bQ m g)(b:bQ m h):KM (ki g h)<=m+m+1:=by
 unfold ki;split
 ·exact J4 (show KM 1<=1 by decide) (by lia)
 exact(a.crs b).c
theorem yw{m:Nat}{g:aa}(b:bQ m g):∀{r:OJ},(∀h∈r,bQ m h)->KM (nY g r)<=r.length*(m+m+1)+1
 |[],_=>J4 (show KM 1<=1 by decide) (by lia)
 |h::r,a=>by
  refine J4 (wp (GI b (a h J1)) (yw b λk z=>a k (J3 _ z))) ?_;rw[Kk,Nat.add_mul];lia
def nZ(n m:Nat):Nat:=match n with
 |0=>3
 |n+1=>n*(m+m+1)+1+nZ n m
theorem yx{m:Nat}:∀{r:OJ},(∀h∈r,bQ m h)->KM (iV r)<=nZ r.length m
 |[],_=>(show KM 6<=3 by decide)
 |g::r,a=>wp (yw (a g J1) λk z=>a k (J3 _ z)) (yx λk z=>a k (J3 _ z))
theorem yy(m:Nat):∀{a b:Nat},a<=b->nZ a m<=nZ b m
 |a,0,h=>by rw[Nat.le_zero.mp h];exact J7 _
 |a,b+1,h=>by
  rcases Nat.lt_or_ge b a with c|c
  ·rw[show a=b+1 by lia];exact J7 _
  exact J4 (yy m c) (by show _<=b*(m+m+1)+1+nZ b m;lia)
theorem GJ{N:Int}{p:aa}(c:aU p)(h:iU N p):p.2.2∣N:=by
 obtain⟨⟨k,e⟩,⟨j,f⟩⟩:=h;have z:=cZ c.1;unfold bT at e;unfold bR at f;have a:(p.1:Rat)*N=k*p.2.2:=by grind
 have a:p.1*N=k*p.2.2:=by exact_mod_cast a
 have b:(p.2.1:Rat)*N=j*p.2.2:=by grind
 have b:p.2.1*N=j*p.2.2:=by exact_mod_cast b
 have i:p.2.2.natAbs∣p.1.natAbs*N.natAbs:=by
  rw[<-KN,a];exact K0.mpr (Mb _ _)
 have l:p.2.2.natAbs∣p.2.1.natAbs*N.natAbs:=by
  rw[<-KN,b];exact K0.mpr (Mb _ _)
 have m:p.2.2.natAbs∣p.2.2.natAbs*N.natAbs:=Nat.dvd_mul_right _ _;have g:Kr (Kr p.1.natAbs p.2.1.natAbs) p.2.2.natAbs=1:=c.2;have d:=LR (LR i l) m;rw[LS,LS,g,Nat.one_mul]at d;exact K0.mp d
def io(m:Int)(p:aa):Prop:=aU p/\p.2.2∣6/\(0<=bT p/\bT p<=(m:Rat))/\0<=bR p/\bR p<=(m:Rat)
def iW(p:aa):Prop:=cr 6 p/\io 6 p
theorem p9{x m n:Int}(b:0<n)(c:0<=x)(d:x<=m*n):0<=(x:Rat)/n/\(x:Rat)/n<=(m:Rat):=by
 have a:(0:Rat)<(n:Rat):=k4.mpr b;refine⟨Gy b c,Gx b d⟩
theorem yz{x m n:Int}(b:0<n)(h:0<=(x:Rat)/n/\(x:Rat)/n<=(m:Rat)):0<=x/\x<=m*n:=by
 have z:=cZ b;have c:=k4.mpr b;have e:(x:Rat)=(x:Rat)/n*n:=by grind
 have a:=Lu h.1 (Lh c);have d:=Lu h.2 (Lh c);rw[<-e]at a d;rw[Rat.zero_mul]at a;exact⟨tJ.mp a,by exact_mod_cast d⟩
theorem GK{a b n m:Int}(c:0<n)(h:n∣6)(d:0<=a)(e:a<=m*n)(f:0<=b)(g:b<=m*n):io m (nP (a,b,n)):=by
 have i:=yf (a:=a) (b:=b) c;refine⟨i.1,KG (GG (p:=(a,b,n)) (J8 c)) h,?_,?_⟩
 ·rw[show bT (nP (a,b,n))=_ from i.2.1];exact p9 c d e
 rw[show bR (nP (a,b,n))=_ from i.2.2];exact p9 c f g
theorem io.bits{m:Int}{p:aa}(h:io m p):0<=p.1/\p.1<=m*p.2.2/\0<=p.2.1/\p.2.1<=m*p.2.2/\0<p.2.2/\p.2.2<=6:=by
 obtain⟨a,b⟩:=yz h.1.1 h.2.2.1;obtain⟨c,d⟩:=yz h.1.1 h.2.2.2;exact⟨a,b,c,d,h.1.1,L' (by decide) h.2.1⟩
def c6(s:bd)(z:aa):aa:=if s.2.1=true then dO (nP (c_ (dO s.2.2) z))else nP (c_ (dO s.2.2) z)
theorem k5(s:bd):dg s=s.1.map (c6 s):=by
 unfold dg c6;cases s.2.1 with
 |true=>rw[M2 rfl,KY];rfl
 |false=>rfl
def eP(b:Bool):Rat:=if b=true then -1 else 1
theorem yA{p:aa}{x y:Rat}(h:eN p x y):eN (dO p) (-x) (-y):=⟨h.1.trn,by rw[(ma p).1,h.2.1],by rw[(ma p).2,h.2.2]⟩
theorem yB{b:Bool}{p:aa}{x y:Rat}(h:eN p x y):eN (if b=true then dO p else p) (eP b*x) (eP b*y):=by
 cases b with
 |true=>rw[M2 rfl];exact(yA h).to (by unfold eP;rw[M2 rfl];grind) (by unfold eP;rw[M2 rfl];grind)
 |false=>rw[No Ke];exact h.to (by unfold eP;rw[No Ke];grind) (by unfold eP;rw[No Ke];grind)
theorem kj{p:aa}(h:aU p):eN p (bT p) (bR p):=⟨h,rfl,rfl⟩
theorem hz{s:bd}{z:aa}(a:aU s.2.2)(b:aU z):eN (c6 s z) (eP s.2.1*(bT z + -bT s.2.2)) (eP s.2.1*(bR z + -bR s.2.2)):=yB (yg (yA (kj a)) (kj b))
theorem yC(a:Bool):eP a*eP a=1:=by cases a<;>unfold eP<;>simp<;>grind
theorem GL{s:bd}{a b c:aa}(d:aU s.2.2)(e:aU a)(f:aU b)(g:aU c):dX (c6 s a) (c6 s b) (c6 s c)=dX a b c:=by
 unfold dX;rw[(hz d e).2.1,(hz d e).2.2,(hz d f).2.1,(hz d f).2.2,(hz d g).2.1,(hz d g).2.2];have q:=yC s.2.1;grind
theorem tO{s:bd}{a b c:aa}(d:aU s.2.2)(e:aU a)(f:aU b)(g:aU c):0<az (c6 s a) (c6 s b) (c6 s c)↔0<az a b c:=by
 rw[yl (hz d e).1 (hz d f).1 (hz d g).1,GL d e f g,yl e f g]
theorem p'(a b c:aa):az a c b = -az a b c:=by unfold az a_;dsimp only;grind
theorem GM{s:bd}{a b c:aa}(d:aU s.2.2)(e:aU a)(f:aU b)(g:aU c)(h:0<=az a b c):0<=az (c6 s a) (c6 s b) (c6 s c):=by
 apply KL;intro n;have:=(tO d e g f).mp (by rw[p'];lia);rw[p']at this;lia
theorem GN{n:Int}(a:0<n)(b:n<=3):n∣6:=by
 obtain rfl|rfl|rfl:n=1\/n=2\/n=3:=by lia
 ·exact⟨6,rfl⟩
 ·exact⟨3,rfl⟩
 exact⟨2,rfl⟩
theorem tP{a b n:Int}(h:aU (a,b,n))(d:n∣6)(c:0<=a)(e:a<=6*n)(f:0<=b)(g:b<=6*n):io 6 (a,b,n):=⟨h,d,p9 h.1 c e,p9 h.1 f g⟩
theorem GO{p q:aa}(h:io 6 p)(i:io 6 q): -36<=e7 p q/\e7 p q<=36:=by
 obtain⟨_,_,⟨a,b⟩,c,d⟩:=h;obtain⟨_,_,⟨j,e⟩,k,f⟩:=i;have six:((6:Int):Rat)=6:=rfl;rw[six]at b d e f
 have m:∀{x y:Rat},0<=x->x<=6->0<=y->y<=6->0<=x*y/\x*y<=36:=λ{x y} l n g s=>by
  refine⟨MK l g,?_⟩;have o:=Lu n g;have r:(6:Rat)*y<=36:=by grind
  exact Rat.le_trans o r
 obtain⟨t,u⟩:=m a b k f;obtain⟨v,w⟩:=m c d j e;unfold e7;constructor<;>grind
theorem GP{f:OJ}(h:∀p∈f,io 6 p)(l:f.length<=5):cU f<=1024:=by
 have key:∀d:List (aa×aa),(∀e∈d,io 6 e.1/\io 6 e.2)->dm e7 d<=36*(d.length:Rat):=λd=>by
  induction d with
  |nil=>intro _;rw[fB];show(0:Rat)<=36*((0:Nat):Rat);grind
  |cons e d j=>
   intro g;have i:=j λx m=>g x (J3 _ m);have:=(GO (g e J1).1 (g e J1).2).2;rw[e6,Kk];have c:((d.length+1:Nat):Rat)=(d.length:Rat)+1:=by push_cast;rfl
   rw[c];grind
 have n:(ba f).length=f.length:=by unfold ba;rw[nV]
 have k:=key (ba f) λe o=>by obtain⟨a,b⟩:=fj o;exact⟨h _ a,h _ b⟩
 rw[n]at k;have c:((f.length:Nat):Rat)<=5:=by exact_mod_cast l
 unfold cU;grind
theorem mb{s t:cw}{U:gu}{c:OL}(I:OL->Prop)(first:∀N:OL->Prop,(∀a,I a->N a)->s {U with nx:=N} c)(b:∀a,I a->t U a):lM s t U c:=first _ b
theorem qa{u v x y g:aa}(d:0<az u v x)(e:ln g u=0)(f:ln g v=0)(h:ln g x=0):ln g y=0:=by
 have k:=xI (a:=u) (b:=v) (c:=x) (s:=y) (l:=g);rw[e,f,h,Kd,Kd,Kd]at k;exact(Kq.mp (show az u v x*ln g y=0 by lia)).resolve_left (by lia)
theorem yD{l s x:aa}{g:OJ}(j:T0 g)(k:3<=g.length)(n:∀e∈ba g,0<az e.1 e.2 s)(o:∀y∈g,0<=ln l y)(p:x∈g)(t:0<ln l x):0<ln l s:=by
 have u:∀e∈ba g,0<=az e.1 e.2 x:=λe h=>(ij j k h).1 x p
 obtain⟨K,q⟩:∃K:Int,∀e∈ba g,az e.1 e.2 x<=K:=by
  have:∀i:List (aa×aa),∃K:Int,∀e∈i,az e.1 e.2 x<=K:=λi=>by
   induction i with
   |nil=>exact⟨0,λe h=>by cases h⟩
   |cons d i r=>
    obtain⟨K,h⟩:=r;refine⟨max K (az d.1 d.2 x),λe m=>?_⟩;rcases J6.mp m with rfl|m
    ·lia
    have:=h e m;lia
  exact this _
 have f:=pW (l:=l) (s:=eL (max K 1) s (-1) x) j k (λe h=>by
  rw[jA,k1,<-jA,<-jA];have a:=n e h;have b:=q e h;have c:=Int.mul_le_mul_of_nonneg_left (show 1<=az e.1 e.2 s by lia) (show 0<=max K 1 by lia)
  lia) o
 rw[k1]at f;have:0<max K 1*ln l s:=by lia
 exact K7 this (by lia)
theorem k6(ps:OJ)(s:aa):(wi ps s=1/\∀e∈ba ps,0<az e.1 e.2 s)\/(wi ps s=0/\¬∀e∈ba ps,0<=az e.1 e.2 s)\/(wi ps s = -1/\(∀e∈ba ps,0<=az e.1 e.2 s)/\∃e∈ba ps,az e.1 e.2 s=0):=by
 by_cases c:wi ps s = -1
 ·refine .inr (.inr ⟨c,?_⟩);by_cases a:∀e∈ba ps,0<=az e.1 e.2 s
  ·refine⟨a,KL λn=>?_⟩
   have:=pY (ps:=ps) (s:=s) λe b=>by
    have:=a e b;rcases K9 this with q|q
    ·exact q
    exact absurd ⟨e,b,q.symm⟩ n
   rw[c]at this;cases this
  have:=l4 a;rw[c]at this;cases this
 rcases xN c with h|h
 ·exact .inl h
 exact .inr (.inl h)
section
variable{l:aa}{mt:aa->aa->aa}{i:OJ}{s:aa}
theorem yE(m:fk l mt)(o:aa)(K:ln l o=0)(q:T0 i)(r:3<=i.length)(F:∃p∈i,0<ln l p)(h:∀e∈ba i,0<=az e.1 e.2 s)(L:0<=ln l s):∀e∈ba (bm (ln l) mt i),0<=az e.1 e.2 s:=by
 obtain⟨t,M⟩:=jy m.meets q r F
 have key:=tn (f:=ln l) (mt:=mt) (ps:=i) (C:=λu v=>∃g:aa,ln g u=0/\ln g v=0/\(g=l\/∃e∈ba i,g=a_ e.1 e.2)) (λu v N O=>⟨l,N,O,.inl rfl⟩) o K
  (λe j _ _=>⟨a_ e.1 e.2,by show az e.1 e.2 e.1=0;unfold az a_;grind,ic _ _,.inr ⟨e,j,rfl⟩⟩)
  (λe j c=>by
   obtain⟨b,z⟩:=m _ _ c;have w:ln (a_ e.1 e.2) e.1=0:=by show az e.1 e.2 e.1=0;unfold az a_;grind
   have A:ln (a_ e.1 e.2) e.2=0:=ic _ _
   exact⟨z,λ_=>⟨a_ e.1 e.2,w,b.hY w A,.inr ⟨e,j,rfl⟩⟩,λ_=>⟨a_ e.1 e.2,b.hY w A,A,.inr ⟨e,j,rfl⟩⟩⟩)
 intro e j;obtain⟨g,G,H,P⟩:=key e j;obtain⟨x,I,J⟩:=(ij t M j).2
 have B:0<=ln g x/\0<=ln g s/\∃y,ln g y≠0:=by
  rcases P with rfl|⟨d,E,rfl⟩
  ·obtain⟨y,_,k⟩:=F;exact⟨nS m x I,L,y,by lia⟩
  obtain⟨y,_,k⟩:=(ij q r E).2;exact⟨pX m (λy k=>(ij q r E).1 y k) x I,h d E,y,by rw[<-jA];lia⟩
 have Q:=s5 g e.1 e.2 x s;rw[G,H,Kd,Kd]at Q;have R:az e.1 e.2 s*ln g x=az e.1 e.2 x*ln g s:=by lia
 have posQz:=Kv (Kw J) B.2.1;rw[<-R]at posQz
 have S:0<ln g x:=by
  rcases K9 B.1 with a|a
  ·exact a
  obtain⟨y,k⟩:=B.2.2;exact absurd (qa J G H a.symm) k
 by_cases n:0<=az e.1 e.2 s
 ·exact n
 have:=Int.mul_neg_of_neg_of_pos (show az e.1 e.2 s<0 by lia) S;lia
theorem GR(m:fk l mt)(o:aa)(G:ln l o=0)(v:T0 i)(A:3<=i.length)(B:∃p∈i,0<ln l p):
  (wi i s=0->wi (bm (ln l) mt i) s=0)/\(ln l s<0->wi (bm (ln l) mt i) s=0)/\(wi i s=1->0<ln l s->wi (bm (ln l) mt i) s=1)/\(wi i s=1->ln l s=0->wi (bm (ln l) mt i) s = -1)/\(wi i s = -1->0<=ln l s->wi (bm (ln l) mt i) s = -1):=by
 obtain⟨t,E⟩:=jy m.meets v A B
 have J:(∀e∈ba (bm (ln l) mt i),0<=az e.1 e.2 s)->wi (bm (ln l) mt i) s≠1->wi (bm (ln l) mt i) s = -1:=λa n=>by
  rcases k6 (bm (ln l) mt i) s with⟨h,_⟩|⟨_,h⟩|⟨h,_⟩
  ·exact absurd h n
  ·exact absurd a h
  exact h
 refine⟨λz=>l4 λh=>?_,λz=>F7 m v A B z,λz p=>by rw[F6 m o G v A B (by rw[z];decide) p,z],λz p=>?_,λz p=>?_⟩
 ·have a:=(tr m v A B h).1;rcases k6 i s with⟨h,_⟩|⟨_,h⟩|⟨h,_⟩
  ·rw[z]at h;cases h
  ·exact h a
  rw[z]at h;cases h
 ·rcases k6 i s with⟨_,a⟩|⟨h,_⟩|⟨h,_⟩
  ·refine J (yE m o G v A B (λe F=>by have:=a e F;lia) (by lia)) λw=>?_;rcases k6 (bm (ln l) mt i) s with⟨_,b⟩|⟨h,_⟩|⟨h,_⟩
   ·obtain⟨x,M,N⟩:=B
    have H:∃y∈bm (ln l) mt i,0<ln l y:=by
     apply KL;intro n
     obtain⟨f,j,c,r,u⟩:∃f j c r,bm (ln l) mt i=f::j::c::r:=by
      match h:bm (ln l) mt i,E with
      |[],q=>simp at q
      |[_],q=>simp at q
      |[_,_],q=>simp at q
      |f::j::c::r,_=>exact⟨f,j,c,r,rfl⟩
     have C:∀y∈bm (ln l) mt i,ln l y=0:=λy k=>by
      have:=nS m y k;by_cases q:0<ln l y
      ·exact absurd ⟨y,k,q⟩ n
      lia
     have d:0<az f j c:=by
      rw[u]at t;exact t.1.1 c J1
     have:=qa (y:=x) d (C f (by rw[u];simp)) (C j (by rw[u];simp)) (C c (by rw[u];simp));lia
    obtain⟨y,k,I⟩:=H;have:=yD t E b (nS m) k I;lia
   ·rw[w]at h;cases h
   rw[w]at h;cases h
  ·rw[z]at h;cases h
  rw[z]at h;cases h
 rcases k6 i s with⟨h,_⟩|⟨h,_⟩|⟨_,a,e,F,O⟩
 ·rw[z]at h;cases h
 ·rw[z]at h;cases h
 refine J (yE m o G v A B a p) λw=>?_;rcases k6 (bm (ln l) mt i) s with⟨_,b⟩|⟨h,_⟩|⟨h,_⟩
 ·have K:=pX m (g:=a_ e.1 e.2) λy k=>(ij v A F).1 y k;obtain⟨L,_,P⟩:=(ij v A F).2
  have H:∃y∈bm (ln l) mt i,0<ln (a_ e.1 e.2) y:=by
   apply KL;intro n
   obtain⟨f,j,c,r,u⟩:∃f j c r,bm (ln l) mt i=f::j::c::r:=by
    match h:bm (ln l) mt i,E with
    |[],q=>simp at q
    |[_],q=>simp at q
    |[_,_],q=>simp at q
    |f::j::c::r,_=>exact⟨f,j,c,r,rfl⟩
   have C:∀y∈bm (ln l) mt i,ln (a_ e.1 e.2) y=0:=λy k=>by
    have:=K y k;by_cases q:0<ln (a_ e.1 e.2) y
    ·exact absurd ⟨y,k,q⟩ n
    lia
   have d:0<az f j c:=by
    rw[u]at t;exact t.1.1 c J1
   have:=qa (y:=L) d (C f (by rw[u];simp)) (C j (by rw[u];simp)) (C c (by rw[u];simp));rw[<-jA]at this;lia
  obtain⟨y,k,I⟩:=H;have:=yD t E b K k I;rw[<-jA]at this;lia
 ·rw[w]at h;cases h
 rw[w]at h;cases h
end
def eE(s:bd)(z:aa):aa:=k3 s.2.1 s.2.2 z
section
variable{s:bd}{z:aa}
theorem qb(a:aU s.2.2)(b:aU z):eN (eE s z) (eP s.2.1*bT z+bT s.2.2) (eP s.2.1*bR z+bR s.2.2):=yg (kj a) (yB (kj b))
theorem n0(a:aU s.2.2)(b:aU z):c6 s (eE s z)=z:=by
 have l:=qb a b;have q:=yC s.2.1;refine((hz a l.1).to ?_ ?_).eq (kj b)
 ·rw[l.2.1];grind
 rw[l.2.2];grind
theorem tQ{a b c:aa}(d:aU s.2.2)(e:aU a)(f:aU b)(g:aU c):(az (c6 s a) (c6 s b) (c6 s c)<0↔az a b c<0)/\(az (c6 s a) (c6 s b) (c6 s c)=0↔az a b c=0):=by
 have p:=tO d e f g;have n:=tO d e g f;rw[p' (c6 s a) (c6 s b) (c6 s c),p' a b c]at n;lia
theorem GS{ps:OJ}(h:aU s.2.2)(i:aU z)(j:∀p∈ps,aU p):wi (ps.map (c6 s)) z=wi ps (eE s z):=by
 have l:=(qb h i).1
 have g:∀e∈ba ps,(az (c6 s e.1) (c6 s e.2) z<0↔az e.1 e.2 (eE s z)<0)/\(az (c6 s e.1) (c6 s e.2) z=0↔az e.1 e.2 (eE s z)=0):=λe f=>by
  obtain⟨k,m⟩:=fj f;have:=tQ h (j _ k) (j _ m) l;rwa[n0 h i]at this
 have a:(∃e∈ba (ps.map (c6 s)),az e.1 e.2 z<0)↔∃e∈ba ps,az e.1 e.2 (eE s z)<0:=by
  rw[p7];constructor
  ·rintro⟨e,f,q⟩;obtain⟨d,c,rfl⟩:=J'.mp f;exact⟨d,c,(g d c).1.mp q⟩
  rintro⟨d,c,q⟩;exact⟨_,J'.mpr ⟨d,c,rfl⟩,(g d c).1.mpr q⟩
 have b:(∃e∈ba (ps.map (c6 s)),az e.1 e.2 z=0)↔∃e∈ba ps,az e.1 e.2 (eE s z)=0:=by
  rw[p7];constructor
  ·rintro⟨e,f,q⟩;obtain⟨d,c,rfl⟩:=J'.mp f;exact⟨d,c,(g d c).2.mp q⟩
  rintro⟨d,c,q⟩;exact⟨_,J'.mpr ⟨d,c,rfl⟩,(g d c).2.mpr q⟩
 unfold wi;by_cases x:∃e∈ba ps,az e.1 e.2 (eE s z)<0
 ·rw[M2 x,M2 (a.mpr x)]
 rw[No x,No (λy=>x (a.mp y))];by_cases x:∃e∈ba ps,az e.1 e.2 (eE s z)=0
 ·rw[M2 x,M2 (b.mpr x)]
 rw[No x,No (λy=>x (b.mp y))]
end
structure hA(s:bd):Prop where
 cv:dS s.1
 pt:∀p∈s.1,aU p
 sp:aU s.2.2
noncomputable def cA(z:aa)(s:bd):Int:=wi (dg s) z
theorem tR{s:bd}{z:aa}(h:hA s)(a:aU z):cA z s=wi s.1 (eE s z):=by
 unfold cA;rw[k5];exact GS h.sp a h.pt
def k7(z:aa)(sh:ON):Prop:=(∃s∈sh,cA z s = -1)\/((∀s∈sh,cA z s ≠ -1)/\(sh.map (cA z)).sum=1)
theorem GT{f:aa->Int}{mt:aa->aa->aa}{t:bd}(h:∀c∈t.1,0<f c->bm f mt t.1≠[]):((∃c∈t.1,0<f c)/\bL f mt [t]=[(bm f mt t.1,t.2)])\/((¬∃c∈t.1,0<f c)/\bL f mt [t]=[]):=by
 by_cases c:∃c∈t.1,0<f c
 ·have a:dc f mt t.1=bm f mt t.1:=by unfold dc;rw[M2 c]
  refine .inl ⟨c,?_⟩;obtain⟨x,b,d⟩:=c;have e:=h x b d;rw[p3 (by rw[a];exact List.isEmpty_eq_false_iff.mpr e),a]
 have a:dc f mt t.1=[]:=by unfold dc;rw[No c]
 exact .inr ⟨c,p4 (by rw[a];rfl)⟩
section
variable{l o z:aa}{t:bd}
theorem yF(R:l.1≠0\/l.2.1≠0)(K:ln l o=0)(h:hA t)(L:aU z):
  (cA z t=0->∀x∈bL (ln l) (aY l) [t]++bL (λc => -ln l c) (aY l) [t],cA z x=0)/\(cA z t = -1->∃x∈bL (ln l) (aY l) [t]++bL (λc => -ln l c) (aY l) [t],cA z x = -1) /\
  (cA z t=1->(∃x∈bL (ln l) (aY l) [t]++bL (λc => -ln l c) (aY l) [t],cA z x = -1)\/((bL (ln l) (aY l) [t]++bL (λc => -ln l c) (aY l) [t]).map (cA z)).sum=1):=by
 have A:=(iR t.1).mpr h.cv.iu;have B:=h.cv.1;have S:ln (fl l) o=0:=by rw[fA,K];rfl
 rw[<-xK,tR h L]
 have half:∀u,(u=l\/u=fl l)->ln u o=0->((∃c∈t.1,0<ln u c)/\bL (ln u) (aY l) [t]=[(bm (ln u) (aY l) t.1,t.2)]/\cA z (bm (ln u) (aY l) t.1,t.2)=wi (bm (ln u) (aY l) t.1) (eE t z)/\_)\/((¬∃c∈t.1,0<ln u c)/\bL (ln u) (aY l) [t]=[]):=λu e lo=>by
  have G:fk u (aY l):=by
   rcases e with rfl|rfl
   ·exact kd _
   exact(kd _).ng
  have T:∀p q,ln u p*ln u q<0->ln l p*ln l q<0:=λp q z=>by
   rcases e with rfl|rfl
   ·exact z
   rwa[fA,fA,K3]at z
  rcases GT (f:=ln u) (mt:=aY l) (t:=t) (λc U eL e=>by
   have:=(jy G.meets A B ⟨c,U,eL⟩).2;rw[e]at this
   simp at this)with⟨c,i⟩|⟨c,i⟩
  ·refine .inl ⟨c,i,tR (s:=(bm (ln u) (aY l) t.1,t.2)) ⟨kW.jM (jy G.meets A B c).2 ((iR _).mp (jy G.meets A B c).1),λp W=>?_,h.sp⟩ L,GR (s:=eE t z) G o lo A B c⟩;rcases nW W with⟨v,_⟩|⟨d,X,y,rfl⟩
   ·exact h.pt p v
   obtain⟨M,N⟩:=fj X;rw[<-l1 (h.pt _ M) (h.pt _ N)];exact gc (l2 (h.pt _ M) (h.pt _ N) (T _ _ y))
  exact .inr ⟨c,i⟩
 have some:(∃c∈t.1,0<ln l c)\/∃c∈t.1,0<ln (fl l) c:=by
  apply KL;intro n
  have F:∀y∈t.1,ln l y=0:=λy H=>by
   have a:¬0<ln l y:=λq=>n (.inl ⟨y,H,q⟩);have b:¬0<ln (fl l) y:=λq=>n (.inr ⟨y,H,q⟩);rw[fA]at b;lia
  obtain⟨y,H⟩:∃y:aa,ln l y≠0:=by
   rcases R with q|q
   ·exact⟨(1,0,0),by unfold ln;dsimp only;lia⟩
   exact⟨(0,1,0),by unfold ln;dsimp only;lia⟩
  match ag:t.1,B,A,F with
  |[],q,_,_=>simp at q
  |[_],q,_,_=>simp at q
  |[_,_],q,_,_=>simp at q
  |Y::Z::O::r,_,vs,F=>exact H (qa (vs.1.1 O J1) (F Y (by simp)) (F Z (by simp)) (F O (by simp)))
 have v:=half l (.inl rfl) K;have E:=half (fl l) (.inr rfl) S;have aj:=fA l (eE t z);have P:(¬∃c∈t.1,0<ln l c)->0<ln l (eE t z)->wi t.1 (eE t z)=0:=λn p=>xO A B n p;have Q:(¬∃c∈t.1,0<ln (fl l) c)->0<ln (fl l) (eE t z)->wi t.1 (eE t z)=0:=λn p=>xO A B n p;generalize wi t.1 (eE t z)=w at *;refine⟨λe x af=>?_,λe=>?_,λe=>?_⟩
 ·rcases Kc.mp af with q|q
  ·rcases v with⟨_,m,i,k,_⟩|⟨_,m⟩
   ·rw[m]at q;rw[Ks.mp q,i];exact k e
   rw[m]at q;cases q
  rcases E with⟨_,m,i,k,_⟩|⟨_,m⟩
  ·rw[m]at q;rw[Ks.mp q,i];exact k e
  rw[m]at q;cases q
 ·rcases K2 (ln l (eE t z)) 0 with g|g|g
  ·rcases E with⟨_,m,i,_,_,_,_,k⟩|⟨n,_⟩
   ·exact⟨_,Kg _ (by rw[m];exact J1),by rw[i];exact k e (by lia)⟩
   have:=Q n (by lia);lia
  ·rcases v with⟨_,m,i,_,_,_,_,k⟩|⟨n,_⟩
   ·exact⟨_,Ku _ (by rw[m];exact J1),by rw[i];exact k e (by lia)⟩
   rcases E with⟨_,m,i,_,_,_,_,k⟩|⟨I,_⟩
   ·exact⟨_,Kg _ (by rw[m];exact J1),by rw[i];exact k e (by lia)⟩
   rcases some with s|s
   ·exact absurd s n
   exact absurd s I
  rcases v with⟨_,m,i,_,_,_,_,k⟩|⟨n,_⟩
  ·exact⟨_,Ku _ (by rw[m];exact J1),by rw[i];exact k e (by lia)⟩
  have:=P n g;lia
 rcases K2 (ln l (eE t z)) 0 with g|g|g
 ·refine .inr ?_;rcases E with⟨_,m,i,_,_,k,_⟩|⟨n,_⟩
  ·rcases v with⟨_,C,J,_,j,_⟩|⟨n,C⟩
   ·rw[m,C];show cA z _+(cA z _+0)=1
    rw[i,J,k e (by lia),j g];rfl
   rw[m,C];show cA z _+0=1
   rw[i,k e (by lia)];rfl
  have:=Q n (by lia);lia
 ·refine .inl ?_;rcases v with⟨_,m,i,_,_,_,k,_⟩|⟨n,_⟩
  ·exact⟨_,Ku _ (by rw[m];exact J1),by rw[i];exact k e (by lia)⟩
  rcases E with⟨_,m,i,_,_,_,k,_⟩|⟨I,_⟩
  ·exact⟨_,Kg _ (by rw[m];exact J1),by rw[i];exact k e (by lia)⟩
  rcases some with s|s
  ·exact absurd s n
  exact absurd s I
 refine .inr ?_;rcases v with⟨_,m,i,_,_,k,_⟩|⟨n,_⟩
 ·rcases E with⟨_,C,J,_,j,_⟩|⟨n,C⟩
  ·rw[m,C];show cA z _+(cA z _+0)=1
   rw[i,J,k e g,j (by lia)];rfl
  rw[m,C];show cA z _+0=1
  rw[i,k e g];rfl
 have:=P n g;lia
theorem tS{f:aa->Int}{mt:aa->aa->aa}(t:bd)(sh:ON):bL f mt (t::sh)=bL f mt [t]++bL f mt sh:=by rw[<-l7];rfl
theorem GV(m:l.1≠0\/l.2.1≠0)(p:ln l o=0)(r:aU z){sh:ON}(h:∀t∈sh,hA t)(j:k7 z sh):k7 z (bL (ln l) (aY l) sh++bL (λc => -ln l c) (aY l) sh):=by
 have sub:∀{f:aa->Int}{sh:ON},∀t∈sh,∀x∈bL f (aY l) [t],x∈bL f (aY l) sh:=λ{f sh} t b x g=>by
  induction sh with
  |nil=>cases b
  |cons d sh k=>
   rw[tS];rcases J6.mp b with rfl|b
   ·exact Ku _ g
   exact Kg _ (k b)
 have s:∀t∈sh,∀x∈bL (ln l) (aY l) [t]++bL (λc => -ln l c) (aY l) [t],x∈bL (ln l) (aY l) sh++bL (λc => -ln l c) (aY l) sh:=λt b x g=>by
  rcases Kc.mp g with q|q
  ·exact Ku _ (sub t b x q)
  exact Kg _ (sub t b x q)
 by_cases n:∃x∈bL (ln l) (aY l) sh++bL (λc => -ln l c) (aY l) sh,cA z x = -1
 ·exact .inl n
 refine .inr ⟨λx g e=>n ⟨x,g,e⟩,?_⟩
 have no:∀t∈sh,cA z t ≠ -1:=λt b e=>by
  obtain⟨x,g,q⟩:=(yF m p (h t b) r).2.1 e;exact n ⟨x,s t b x g,q⟩
 have sum:(sh.map (cA z)).sum=1:=by
  rcases j with⟨t,b,e⟩|j
  ·exact absurd e (no t b)
  exact j.2
 have key:∀L:ON,(∀t∈L,t∈sh)->((bL (ln l) (aY l) L).map (cA z)).sum+((bL (λc => -ln l c) (aY l) L).map (cA z)).sum=(L.map (cA z)).sum:=λL=>by
  induction L with
  |nil=>intro _;rw[p2,p2];rfl
  |cons t L k=>
   intro u;have i:=k λx g=>u x (J3 _ g);have b:=u t J1;have a:=yF m p (h t b) r
   have one:((bL (ln l) (aY l) [t]++bL (λc => -ln l c) (aY l) [t]).map (cA z)).sum=cA z t:=by
    rcases x2 (dg t) z with e|e|e
    ·rw[x1 (a.1 e)];exact e.symm
    ·exact absurd e (no t b)
    rcases a.2.2 e with⟨x,g,q⟩|q
    ·exact absurd ⟨x,s t b x g,q⟩ n
    rw[q];exact e.symm
   rw[KH,Mc]at one;rw[tS t L,tS (f:=λc => -ln l c) t L,KH,KH,Mc,Mc,KR,LB];lia
 rw[KH,Mc,key sh λ_ h=>h,sum]
end
def cB(M:Int)(g:aa):aa:=(g.1*M,g.2.1*M,g.2.2)
structure g8(b8:OJ)(c:Nat)(g:aa):Prop where
 d:(g.1,g.2.1,0)∈b8
 c:KM g.2.2<=c
structure eF(b8:OJ)(M:Int)(c n:Nat)(x:bd):Prop where
 ok:hA x
 co:∀p∈x.1,∃g h,g8 b8 c g/\g8 b8 c h/\ln (cB M g) p=0/\ln (cB M h) p=0/\g.1*h.2.1-g.2.1*h.1≠0
 li:∀e∈ba x.1,∃g,g8 b8 c g/\ln (cB M g) e.1=0/\ln (cB M g) e.2=0
 le:x.1.length<=n
 st:∃r u:Int,x.2.2.1*M=r*x.2.2.2.2/\x.2.2.2.1*M=u*x.2.2.2.2/\KM r<=c/\KM u<=c
section
variable{t:OJ}{M:Int}{c n:Nat}{x:bd}
theorem eF.mono{f:OJ}{d m:Nat}(h:eF t M c n x)(j:∀e∈t,e∈f)(i:c<=d)(l:n<=m):eF f M d m x:=by
 have q:∀{g},g8 t c g->g8 f d g:=λg=>⟨j _ g.d,J4 g.c i⟩;refine⟨h.ok,λp o=>?_,λe s=>?_,J4 h.le l,?_⟩
 ·obtain⟨g,k,a,b,z⟩:=h.co p o;exact⟨g,k,q a,q b,z⟩
 ·obtain⟨g,a,z⟩:=h.li e s;exact⟨g,q a,z⟩
 obtain⟨r,u,v,w,y,A⟩:=h.st;exact⟨r,u,v,w,J4 y i,J4 A i⟩
theorem GW(M d:Int)(g p:aa):ln (cB (M*d) (g.1,g.2.1,g.2.2*d)) p=d*ln (cB M g) p:=by unfold ln cB;dsimp only;grind
theorem eF.scale{d:Int}{k:Nat}(h:eF t M c n x)(i:KM d<=k):eF t (M*d) (c+k) n x:=by
 have q:∀{g:aa},g8 t c g->g8 t (c+k) (g.1,g.2.1,g.2.2*d):=λg=>⟨g.d,wp g.c i⟩;have f:∀{g p:aa},ln (cB M g) p=0->ln (cB (M*d) (g.1,g.2.1,g.2.2*d)) p=0:=λe=>by rw[GW,e,Kd]
 refine⟨h.ok,λp m=>?_,λe o=>?_,h.le,?_⟩
 ·obtain⟨g,A,a,b,j,l,z⟩:=h.co p m;exact⟨_,_,q a,q b,f j,f l,z⟩
 ·obtain⟨g,a,j,l⟩:=h.li e o;exact⟨_,q a,f j,f l⟩
 obtain⟨r,u,s,v,w,y⟩:=h.st;exact⟨r*d,u*d,by rw[<-KV,s];grind,by rw[<-KV,v];grind,wp w i,wp y i⟩
theorem eF.cut{l o j:aa}{sh:ON}(h:∀s∈sh,eF t M c n s)(N:M≠0)(Y:∀d∈t,d.1≠0\/d.2.1≠0)(O:l.1≠0\/l.2.1≠0)(Z:ln l o=0)(P:g8 t c j)(ae:∃a b:Int,a≠0/\b≠0/\sc a l=sc b (cB M j))(i:aa)(e:i=l\/i=fl l):∀s∈bL (ln i) (aY l) sh,eF t M c (n+1) s:=λs vs=>by
 obtain⟨q,ag,rfl,aj⟩:=tB vs;have g:=h q ag
 have I:fk i (aY l):=by
  rcases e with rfl|rfl
  ·exact kd _
  exact(kd _).ng
 have hc:i.1≠0\/i.2.1≠0:=by
  rcases e with rfl|rfl
  ·exact O
  rcases O with z|z
  ·exact .inl (by unfold fl sc;dsimp only;lia)
  exact .inr (by unfold fl sc;dsimp only;lia)
 have w:∀u,ln i u=0↔ln l u=0:=λu=>by
  rcases e with rfl|rfl
  ·exact Iff.rfl
  rw[fA];lia
 have J:∀u,ln l u=0↔ln (cB M j) u=0:=λu=>by
  obtain⟨a,b,au,aw,e⟩:=ae
  have:a*ln l u=b*ln (cB M j) u:=by
   generalize cB M j=G at *;have aP:a*l.1=b*G.1:=Nq (λx:aa=>x.1) e;have aQ:a*l.2.1=b*G.2.1:=Nq (λx:aa=>x.2.1) e;have aT:a*l.2.2=b*G.2.2:=Nq (λx:aa=>x.2.2) e;unfold ln;grind
  constructor
  ·intro z;rw[z,Kd]at this;exact(Kq.mp this.symm).resolve_left aw
  intro z;rw[z,Kd]at this;exact(Kq.mp this).resolve_left au
 have ax:∀p q,ln i p*ln i q<0->ln l p*ln l q<0:=λp q z=>by
  rcases e with rfl|rfl
  ·exact z
  rwa[fA,fA,K3]at z
 obtain⟨Q,ay⟩:=jy I.meets ((iR q.1).mpr g.ok.cv.iu) g.ok.cv.1 aj
 have R:∀d∈ba q.1,ln i d.1*ln i d.2<0->aU (aY l d.1 d.2):=λd m z=>by
  obtain⟨S,T⟩:=fj m;rw[<-l1 (g.ok.pt _ S) (g.ok.pt _ T)];exact gc (l2 (g.ok.pt _ S) (g.ok.pt _ T) (ax _ _ z))
 have U:∀p∈bm (ln i) (aY l) q.1,aU p:=λp A=>by
  rcases nW A with⟨L,_⟩|⟨d,m,z,rfl⟩
  ·exact g.ok.pt p L
  exact R d m z
 refine⟨⟨kW.jM ay ((iR _).mp Q),U,g.ok.sp⟩,λp A=>?_,?_,?_,g.st⟩
 ·rcases nW A with⟨L,_⟩|⟨d,m,z,rfl⟩
  ·exact g.co p L
  obtain⟨r,B,k,E⟩:=g.li d m;obtain⟨K,y⟩:=I _ _ z;have F:=K.hY k E;have H:=(J _).mp ((w _).mp y);have aB:=(R d m z).1;generalize aY l d.1 d.2=X at *;refine⟨r,j,B,P,F,H,λaV=>?_⟩
  have aC:ln (cB M j) d.1≠0:=λy=>by
   have:=(w _).mpr ((J _).mpr y);rw[this,Lg]at z;exact absurd z (by decide)
  have aF:r.1*M*(X.2.2*ln (cB M j) d.1)=0:=by
   unfold ln cB at k F H⊢;dsimp only at k F H⊢;grind
  have aG:r.2.1*M*(X.2.2*ln (cB M j) d.1)=0:=by
   unfold ln cB at k F H⊢;dsimp only at k F H⊢;grind
  have W:X.2.2*ln (cB M j) d.1≠0:=Kx (J8 aB) aC;have aH:r.1=0:=(Kq.mp ((Kq.mp aF).resolve_right W)).resolve_right N;have aI:r.2.1=0:=(Kq.mp ((Kq.mp aG).resolve_right W)).resolve_right N;exact(Y _ B.d).elim (λz=>z aH) λz=>z aI
 ·refine tn (f:=ln i) (mt:=aY l) (ps:=q.1) (C:=λu v=>∃g:aa,g8 t c g/\ln (cB M g) u=0/\ln (cB M g) v=0) (λu v aK aL=>⟨j,P,(J u).mp ((w u).mp aK),(J v).mp ((w v).mp aL)⟩) o ((w o).mpr Z) (λe aO _ _=>g.li e aO) λd m z=>?_;obtain⟨r,B,k,E⟩:=g.li d m;obtain⟨K,y⟩:=I _ _ z;exact⟨y,λ_=>⟨r,B,k,K.hY k E⟩,λ_=>⟨r,B,K.hY k E,E⟩⟩
 have:=GD I hc Q λp A=>(U p A).1;have:=g.le;show(bm (ln i) (aY l) q.1).length<=n+1
 lia
theorem GY{r u:Int}{v g p:aa}(c:v.1*M=r*v.2.2)(d:v.2.1*M=u*v.2.2):ln (cB M (g.1,g.2.1,g.2.2-(g.1*r+g.2.1*u))) (c_ v p)=v.2.2*ln (cB M g) p:=by
 unfold cB ln c_;dsimp only;have a:g.1*M*(p.1*v.2.2+v.1*p.2.2)=g.1*M*p.1*v.2.2+g.1*r*v.2.2*p.2.2:=by grind
 have b:g.2.1*M*(p.2.1*v.2.2+v.2.1*p.2.2)=g.2.1*M*p.2.1*v.2.2+g.2.1*u*v.2.2*p.2.2:=by grind
 rw[a,b];grind
theorem eF.jt{B:Nat}{v:aa}{r u:Int}(S:∀d∈t,bQ 6 d)(h:eF t M c n x)(l:aU v)(L:v.1*M=r*v.2.2)(N:v.2.1*M=u*v.2.2)(O:KM r<=B)(P:KM u<=B)(T:6+B+1<=c):eF t M (c+1) n (iQ v x):=by
 have s:∀g p,aU p->ln (cB M g) p=0->ln (cB M (g.1,g.2.1,g.2.2-(g.1*r+g.2.1*u))) (nP (c_ v p))=0:=λg p m z=>by
  have e:=GY (p:=p) (g:=g) L N;rw[z,Kd]at e;obtain⟨k,U,f⟩:=ia (j' l m);rw[f,pP]at e;exact(Kq.mp e).resolve_left U
 have q:∀{g:aa},g8 t c g->g8 t (c+1) (g.1,g.2.1,g.2.2-(g.1*r+g.2.1*u)):=λ{g} k=>by
  refine⟨k.d,?_⟩;have d:=S _ k.d;have a:=NC (wp d.a O) (wp d.b P);rw[MM]at a;have b:=NL k.c (J4 a T);rwa[MM]at b
 refine⟨⟨h.ok.cv.sl l h.ok.pt,λp m=>?_,gc (j' l h.ok.sp)⟩,λp m=>?_,λe A=>?_,?_,?_⟩
 ·obtain⟨w,o,rfl⟩:=J'.mp m;exact gc (j' l (h.ok.pt w o))
 ·obtain⟨w,o,rfl⟩:=J'.mp m;obtain⟨g,ag,C,W,E,F,X⟩:=h.co w o;exact⟨_,_,q C,q W,s _ _ (h.ok.pt w o) E,s _ _ (h.ok.pt w o) F,X⟩
 ·have A:e∈ba (x.1.map λp=>nP (c_ v p)):=A;rw[p7]at A;obtain⟨d,Q,rfl⟩:=J'.mp A;obtain⟨g,C,E,F⟩:=h.li d Q;obtain⟨Y,Z⟩:=fj Q;exact⟨_,q C,s _ _ (h.ok.pt _ Y) E,s _ _ (h.ok.pt _ Z) F⟩
 ·show(x.1.map _).length<=n
  rw[J5];exact h.le
 obtain⟨i,j,ab,ae,vs,af⟩:=h.st;obtain⟨k,R,f⟩:=ia (j' l h.ok.sp)
 have ad:∀{a b:Int},KM a<=c->KM b<=B->KM (a+b)<=c+1:=λa b=>by
  have:=NC a (J4 b (show B<=c by lia));rwa[MM]at this
 refine⟨i+r,j+u,?_,?_,ad vs O,ad af P⟩
 ·show(nP (c_ v x.2.2)).1*M=(i+r)*(nP (c_ v x.2.2)).2.2
  generalize nP (c_ v x.2.2)=y at *;have G:x.2.2.1*v.2.2+v.1*x.2.2.2.2=k*y.1:=Nq (λp:aa=>p.1) f;have H:x.2.2.2.2*v.2.2=k*y.2.2:=Nq (λp:aa=>p.2.2) f;refine LZ R ?_;have I:k*(y.1*M)=(x.2.2.1*v.2.2+v.1*x.2.2.2.2)*M:=by rw[G];grind
  have J:k*((i+r)*y.2.2)=(i+r)*(x.2.2.2.2*v.2.2):=by rw[H];grind
  rw[I,J];have K:(x.2.2.1*v.2.2+v.1*x.2.2.2.2)*M=(x.2.2.1*M)*v.2.2+x.2.2.2.2*(v.1*M):=by grind
  rw[K,ab,L];grind
 show(nP (c_ v x.2.2)).2.1*M=(j+u)*(nP (c_ v x.2.2)).2.2
 generalize nP (c_ v x.2.2)=y at *;have G:x.2.2.2.1*v.2.2+v.2.1*x.2.2.2.2=k*y.2.1:=Nq (λp:aa=>p.2.1) f;have H:x.2.2.2.2*v.2.2=k*y.2.2:=Nq (λp:aa=>p.2.2) f;refine LZ R ?_;have I:k*(y.2.1*M)=(x.2.2.2.1*v.2.2+v.2.1*x.2.2.2.2)*M:=by rw[G];grind
 have J:k*((j+u)*y.2.2)=(j+u)*(x.2.2.2.2*v.2.2):=by rw[H];grind
 rw[I,J];have K:(x.2.2.2.1*v.2.2+v.2.1*x.2.2.2.2)*M=(x.2.2.2.1*M)*v.2.2+x.2.2.2.2*(v.2.1*M):=by grind
 rw[K,ae,N];grind
theorem eF.turn(h:eF t M c n x):eF t M c n (hx x):=by
 have u:∀g p,ln (cB M (g.1,g.2.1,-g.2.2)) (dO p) = -ln (cB M g) p:=λg p=>by unfold ln cB dO;dsimp only;grind
 have b:∀g p,ln (cB M g) p=0->ln (cB M (g.1,g.2.1,-g.2.2)) (dO p)=0:=λg p z=>by rw[u,z];rfl
 have q:∀{g:aa},g8 t c g->g8 t c (g.1,g.2.1,-g.2.2):=λk=>⟨k.d,Nv k.c⟩;refine⟨⟨h.ok.cv.map λp q r a v y=>Fn (h.ok.pt p a) (h.ok.pt q v) (h.ok.pt r y),λp a=>?_,h.ok.sp.trn⟩,λp a=>?_,λe f=>?_,?_,?_⟩
 ·obtain⟨w,l,rfl⟩:=J'.mp a;exact(h.ok.pt w l).trn
 ·obtain⟨w,l,rfl⟩:=J'.mp a;obtain⟨g,I,m,A,o,s,B⟩:=h.co w l;exact⟨_,_,q m,q A,b _ _ o,b _ _ s,B⟩
 ·have f:e∈ba (x.1.map dO):=f;rw[p7]at f;obtain⟨d,C,rfl⟩:=J'.mp f;obtain⟨g,m,o,s⟩:=h.li d C;exact⟨_,q m,b _ _ o,b _ _ s⟩
 ·show(x.1.map _).length<=n
  rw[J5];exact h.le
 obtain⟨i,j,E,F,G,H⟩:=h.st;exact⟨-i,-j,by show -x.2.2.1*M = -i*x.2.2.2.2;rw[Lp,E,Lp],by show -x.2.2.2.1*M = -j*x.2.2.2.2;rw[Lp,F,Lp],Nv G,Nv H⟩
theorem eF.fm{k:Nat}(z:∀d∈t,bQ 6 d)(h:eF t M c n x)(B:0<M)(C:KM M<=k)(I:k+6<=c){p:aa}(A:p∈x.1):
  cr (c+7) p/\∃d X Y:Int,0<d/\KM d<=13/\(∃g h,g∈t/\h∈t/\(a_ g h).2.2≠0/\((a_ g h).2.2=d\/(a_ g h).2.2 = -d))/\p.1*(M*d)=X*p.2.2/\p.2.1*(M*d)=Y*p.2.2/\KM X<=c+7/\KM Y<=c+7:=by
 obtain⟨g,f,i,j,l,m,o⟩:=h.co p A;have P:=h.ok.pt p A;have q:=z _ i.d;have r:=z _ j.d
 have J:M*p.1*(g.1*f.2.1-g.2.1*f.1)=p.2.2*(g.2.1*f.2.2-g.2.2*f.2.1):=by
  unfold ln cB at l m;dsimp only at l m;grind
 have K:M*p.2.1*(g.1*f.2.1-g.2.1*f.1)=p.2.2*(g.2.2*f.1-g.1*f.2.2):=by
  unfold ln cB at l m;dsimp only at l m;grind
 have v:KM (g.2.1*f.2.2-g.2.2*f.2.1)<=c+7:=J4 (NL (wp q.b j.c) (wp i.c r.b)) (by lia);have w:KM (g.2.2*f.1-g.1*f.2.2)<=c+7:=J4 (NL (wp i.c r.a) (wp q.a j.c)) (by lia);have y:KM (g.1*f.2.1-g.2.1*f.1)<=13:=J4 (NL (wp q.a r.b) (wp q.b r.a)) (by decide);have u:(a_ (g.1,g.2.1,0) (f.1,f.2.1,0)).2.2=g.1*f.2.1-g.2.1*f.1:=rfl;generalize g.2.1*f.2.2-g.2.2*f.2.1=X at *;generalize g.2.2*f.1-g.1*f.2.2=Y at *;generalize L:g.1*f.2.1-g.2.1*f.1=d at *
 have e:sc (M*d) p=sc p.2.2 (X,Y,M*d):=by
  unfold sc;refine e4 ?_ ?_ ?_<;>dsimp only<;>grind
 have E:M*d≠0:=Kx (J8 B) o;obtain⟨F,H⟩:=sJ (M:=(X,Y,M*d)) (h:=p) (G:=p.2.2) (c:=M*d) (J8 P.1) E P e.symm;refine⟨⟨P,?_⟩,?_⟩
 ·rw[<-H];exact bQ.nP ⟨v,w,J4 (wp C y) (by lia)⟩ F
 rcases Ng o with s|s
 ·exact⟨-d,-X,-Y,by lia,Nv y,⟨_,_,i.d,j.d,by rw[u];exact o,.inr (by rw[u,Int.neg_neg])⟩,by grind,by grind,Nv v,Nv w⟩
 exact⟨d,X,Y,s,y,⟨_,_,i.d,j.d,by rw[u];exact o,.inl u⟩,by grind,by grind,v,w⟩
end
theorem yL{s:bd}(h:hA s):dg (hx s)=dg s:=by
 rw[k5,k5];show(s.1.map dO).map (c6 (hx s))=_
 rw[KY];refine KX λp d=>?_;have P:=h.pt p d;have a:=hz (s:=hx s) h.sp.trn P.trn;have b:=hz (s:=s) h.sp P;have c:eP (!s.2.1) = -eP s.2.1:=by cases s.2.1<;>rfl
 show c6 (hx s) (dO p)=c6 s p
 refine a.eq (b.to ?_ ?_)
 ·show _=eP (!s.2.1)*(bT (dO p) + -bT (dO s.2.2))
  rw[c,(ma p).1,(ma s.2.2).1];grind
 show _=eP (!s.2.1)*(bR (dO p) + -bR (dO s.2.2))
 rw[c,(ma p).2,(ma s.2.2).2];grind
theorem yM{s:bd}{v:aa}(h:hA s)(a:aU v):dg (iQ v s)=dg s:=Gv a h.sp h.pt
def iX(R:OJ)(s:bd):Prop:=∀p∈dg s,∀e∈ba R,0<=az e.1 e.2 p
theorem yN{R:OJ}(c:∀p∈R,aU p){l l':aa}(e:l'=l\/l'=fl l){sh:ON}(ok:∀s∈sh,hA s)(h:∀s∈sh,iX R s):∀s∈bL (ln l') (aY l) sh,iX R s:=λs B=>by
 obtain⟨t,v,rfl,_⟩:=tB B;have k:=h t v;have o:=ok t v
 have C:fk l' (aY l):=by
  rcases e with rfl|rfl
  ·exact kd _
  exact(kd _).ng
 have E:∀p q,ln l' p*ln l' q<0->ln l p*ln l q<0:=λp q z=>by
  rcases e with rfl|rfl
  ·exact z
  rwa[fA,fA,K3]at z
 unfold iX at k⊢;rw[k5]at k⊢;intro p F d i;obtain⟨m,G,rfl⟩:=J'.mp F;show 0<=az d.1 d.2 (c6 t m)
 rcases nW G with⟨H,_⟩|⟨f,I,y,rfl⟩
 ·exact k _ (J'.mpr ⟨m,H,rfl⟩) d i
 obtain⟨j,n⟩:=fj I;obtain⟨r,u⟩:=fj i
 have X:aU (aY l f.1 f.2):=by
  rw[<-l1 (o.pt _ j) (o.pt _ n)];exact gc (l2 (o.pt _ j) (o.pt _ n) (E _ _ y))
 have J:=(C _ _ y).1;have w:=(qb o.sp (c _ r)).1;have x:=(qb o.sp (c _ u)).1
 have back:∀q∈t.1,0<=ln (a_ (eE t d.1) (eE t d.2)) q:=λq A=>by
  rw[<-jA];have a:=tQ o.sp w x (o.pt q A);have b:=k _ (J'.mpr ⟨q,A,rfl⟩) d i;rw[n0 o.sp (c _ r),n0 o.sp (c _ u)]at a;lia
 have:=J.ln (back _ j) (back _ n);rw[<-jA]at this;have g:=GM o.sp w x X this
 rwa [n0 o.sp (c _ r),n0 o.sp (c _ u)]at g
structure eQ(R:OJ)(i:Nat)(sh:ON):Prop where
 sz:∃(b8:OJ)(M:Int),b8.length<=7+i/\(∀d∈b8,bQ 6 d/\(d.1≠0\/d.2.1≠0))/\0<M/\KM M<=3+19*i/\∀s∈sh,eF b8 M (16+21*i) (5+i) s
 hu:∀s∈sh,iX R s
 ar:d5 sh=cU R
 js:∀z,aU z->wi R z=1->k7 z sh
 nn:sh.length<=2^i
theorem eQ.ok{R:OJ}{i:Nat}{sh:ON}(h:eQ R i sh):∀s∈sh,hA s:=λs a=>by
 obtain⟨_,_,_,_,_,_,q⟩:=h.sz;exact(q s a).ok
theorem yQ{z:aa}{f:bd->bd}{A B:ON}(h:∀s∈A,cA z (f s)=cA z s)(j:k7 z (A++B)):k7 z (A.map f++B):=by
 have e:(A.map f).map (cA z)=A.map (cA z):=by rw[KY];exact KX h
 rcases j with⟨s,a,q⟩|⟨no,sum⟩
 ·rcases Kc.mp a with m|m
  ·exact .inl ⟨f s,Ku _ (J'.mpr ⟨s,m,rfl⟩),by rw[h s m];exact q⟩
  exact .inl ⟨s,Kg _ m,q⟩
 refine .inr ⟨λs a=>?_,?_⟩
 ·rcases Kc.mp a with m|m
  ·obtain⟨t,b,rfl⟩:=J'.mp m;rw[h t b];exact no t (Ku _ b)
  exact no s (Kg _ m)
 rw[KH,e,<-KH];exact sum
theorem tU{f:bd->bd}:∀{A:ON},(∀s∈A,cU (f s).1=cU s.1)->d5 (A.map f)=d5 A
 |[],_=>rfl
 |s::A,h=>by rw[KR,il,il,h s J1,tU λt a=>h t (J3 _ a)]
noncomputable def tV(a:Bool)(p q w:aa)(sh:ON):List bd:=(if a=true then(bL (ln (a_ p q)) (aY (a_ p q)) sh).map hx else bL (ln (a_ p q)) (aY (a_ p q)) sh).map (iQ w)++bL (λc => -ln (a_ p q) c) (aY (a_ p q)) sh
theorem eQ.i4{R:OJ}{i:Nat}{sh:ON}(hc:∀p∈R,aU p)(h:eQ R i sh){s:bd}(n:s∈sh){p v w:aa}(J:p∈s.1)(x:cr 6 v)(Z:v.1≠0\/v.2.1≠0)(u:cr 6 w)(au:Bool):eQ R (i+1) (tV au p (nP (c_ v p)) w sh):=by
 have A:=h.ok;obtain⟨E,M,dl,av,aw,K,sz⟩:=h.sz;have aK:∀d∈E,bQ 6 d:=λd h=>(av d h).1;have P:=(A s n).pt p J;obtain⟨_,d,X,Y,aL,ab,_,aN,aO,aP,aT⟩:=(sz s n).fm aK aw K (by lia) J;obtain⟨q,ae⟩:∃q,q=nP (c_ v p):=⟨_,rfl⟩;have Q:aU q:=by rw[ae];exact gc (j' x.pt P)
 obtain⟨k,aV,F⟩:=ia (j' x.pt P);rw[<-ae]at F⊢;have am:=x.pt.1;have ax:=u.pt.1;have O:=P.1;have vs:p.1*v.2.2+v.1*p.2.2=k*q.1:=Nq (λp:aa=>p.1) F;have af:p.2.1*v.2.2+v.2.1*p.2.2=k*q.2.1:=Nq (λp:aa=>p.2.1) F;have ag:p.2.2*v.2.2=k*q.2.2:=Nq (λp:aa=>p.2.2) F
 have aX:p≠q:=λe=>by
  rw[<-e]at vs af ag;have aZ:k=v.2.2:=K1 (J8 O) (by rw[<-ag];grind);rw[aZ]at vs af;rcases Z with z|z
  ·exact(Kx z (J8 O)) (by grind)
  exact(Kx z (J8 O)) (by grind)
 have G:=Gh P Q aX;clear ae F;have a0:0<d*w.2.2:=J9 aL ax;have ay:KM (d*w.2.2)<=19:=wp ab u.bp.c;have H:0<M*(d*w.2.2):=J9 aw a0
 have aA:g8 ((v.2.1,-v.1,0)::E) (16+21*i+20) (v.2.1,-v.1,-(v.2.1*(X*w.2.2) + -v.1*(Y*w.2.2))):=by
  refine⟨J1,Nv ?_⟩;have a:=wp x.bp.b (wp aP u.bp.c);have b:=wp (Nv x.bp.a) (wp aT u.bp.c);exact J4 (NC a b) (by lia)
 have aB:ln (cB (M*(d*w.2.2)) (v.2.1,-v.1,-(v.2.1*(X*w.2.2) + -v.1*(Y*w.2.2)))) p=0:=by
  unfold ln cB;dsimp only;have a:v.2.1*(M*(d*w.2.2))*p.1=v.2.1*w.2.2*(p.1*(M*d)):=by grind
  have b : -v.1*(M*(d*w.2.2))*p.2.1 = -v.1*w.2.2*(p.2.1*(M*d)):=by grind
  rw[a,b,aN,aO];grind
 have a3:ln (cB (M*(d*w.2.2)) (v.2.1,-v.1,-(v.2.1*(X*w.2.2) + -v.1*(Y*w.2.2)))) q=0:=by
  refine(Kq.mp (show k*_=0 from ?_)).resolve_left aV
  have e:k*ln (cB (M*(d*w.2.2)) (v.2.1,-v.1,-(v.2.1*(X*w.2.2) + -v.1*(Y*w.2.2)))) q=v.2.2*ln (cB (M*(d*w.2.2)) (v.2.1,-v.1,-(v.2.1*(X*w.2.2) + -v.1*(Y*w.2.2)))) p:=by
   unfold ln cB;dsimp only;generalize M*(d*w.2.2)=N;generalize -(v.2.1*(X*w.2.2) + -v.1*(Y*w.2.2))=C;have a:k*(v.2.1*N*q.1 + -v.1*N*q.2.1+C*q.2.2)=v.2.1*N*(k*q.1) + -v.1*N*(k*q.2.1)+C*(k*q.2.2):=by grind
   rw[a,<-vs,<-af,<-ag];grind
  rw[e,aB,Kd]
 have aC:=par (g:=cB (M*(d*w.2.2)) (v.2.1,-v.1,-(v.2.1*(X*w.2.2) + -v.1*(Y*w.2.2)))) (by
  rcases Z with z|z
  ·exact .inr (.inl (Kx (by show -v.1≠0;lia) (J8 H)))
  exact .inl (Kx z (J8 H))) aB a3 (G.imp id .inl)
 have S:∀e∈(v.2.1,-v.1,0)::E,bQ 6 e/\(e.1≠0\/e.2.1≠0):=λe r=>by
  rcases J6.mp r with rfl|r
  ·refine⟨⟨x.bp.b,Nv x.bp.a,(show KM 0<=6 by decide)⟩,?_⟩;rcases Z with z|z
   ·exact .inr (show -v.1≠0 by lia)
   exact .inl z
  exact av e r
 have aF:∀t∈sh,eF ((v.2.1,-v.1,0)::E) (M*(d*w.2.2)) (16+21*i+20) (5+i) t:=λt o=>((sz t o).scale ay).mono (λe r=>J3 _ r) (by lia) (J7 _);have lo:ln (a_ p q) p=0:=Gl p q;have U:=eF.cut aF (J8 H) (λe r=>(S e r).2) G lo aA aC _ (.inl rfl);have aG:=eF.cut aF (J8 H) (λe r=>(S e r).2) G lo aA aC (fl (a_ p q)) (.inr rfl);have aH:=yN hc (l:=a_ p q) (.inl rfl) A h.hu;have aJ:=yN hc (l:=a_ p q) (l':=fl (a_ p q)) (.inr rfl) A h.hu;have a4:=x0 G O lo (sh:=sh) λt o=>(A t o).pt;have a5:=λz (W:aU z) (aj:wi R z=1)=>GV G lo W A (h.js z W aj);have bj:=l8 (f:=ln (a_ p q)) (mt:=aY (a_ p q)) sh;have bo:=l8 (f:=λc => -ln (a_ p q) c) (mt:=aY (a_ p q)) sh;rw[xK]at aG aJ;unfold tV;generalize bL (ln (a_ p q)) (aY (a_ p q)) sh=L at *;generalize bL (λc => -ln (a_ p q) c) (aY (a_ p q)) sh=T at *;obtain⟨L2,y⟩:∃L2,L2=if au=true then L.map hx else L:=⟨_,rfl⟩
 rw[<-y]
 have I:∀s∈L2,eF ((v.2.1,-v.1,0)::E) (M*(d*w.2.2)) (16+21*i+20) (5+i+1) s/\iX R s:=λs n=>by
  rw[y]at n;split at n
  ·obtain⟨t,o,rfl⟩:=J'.mp n;exact⟨(U t o).turn,by unfold iX;rw[yL (U t o).ok];exact aH t o⟩
  exact⟨U s n,aH s n⟩
 have a6:d5 L2=d5 L:=by
  rw[y];split
  ·exact tU λs _=>Gp s.1
  rfl
 have a':∀z,k7 z (L++T)->k7 z (L2++T):=λz j=>by
  rw[y];split
  ·exact yQ (λs n=>by unfold cA;rw[yL (U s n).ok]) j
  exact j
 have bb:L2.length=L.length:=by rw[y];split<;>simp
 clear y;refine⟨⟨_,M*(d*w.2.2),?_,S,H,?_,λs n=>?_⟩,λs n=>?_,?_,λz W aj=>?_,?_⟩
 ·rw[Kk];lia
 ·exact J4 (wp K ay) (by lia)
 ·rcases Kc.mp n with m|m
  ·obtain⟨t,o,rfl⟩:=J'.mp m;have bf:w.1*(M*(d*w.2.2))=w.1*(M*d)*w.2.2:=by grind
   have bg:w.2.1*(M*(d*w.2.2))=w.2.1*(M*d)*w.2.2:=by grind
   exact(((I t o).1).jt (B:=22+19*i) (λe r=>(S e r).1) u.pt bf bg (J4 (wp u.bp.a (wp K ab)) (by lia)) (J4 (wp u.bp.b (wp K ab)) (by lia)) (by lia)).mono (λ_ h=>h) (by lia) (by lia)
  exact(aG s m).mono (λ_ h=>h) (by lia) (by lia)
 ·rcases Kc.mp n with m|m
  ·obtain⟨t,o,rfl⟩:=J'.mp m;unfold iX;rw[yM (I t o).1.ok u.pt];exact(I t o).2
  exact aJ s m
 ·rw[l9,tU (f:=iQ w) (λs n=>Gq ax λp J=>((I s n).1.ok.pt p J).1),a6,a4];exact h.ar
 ·exact yQ (λs n=>by unfold cA;rw[yM (I s n).1.ok u.pt]) (a' z (a5 z W aj))
 rw[Kh,J5,bb,Nat.pow_succ];have:=h.nn;lia
def ec(p:aa):Int:=p.1*6/p.2.2
def ed(p:aa):Int:=p.2.1*6/p.2.2
theorem n4{p:aa}(h:iW p):p.1*6=ec p*p.2.2/\p.2.1*6=ed p*p.2.2/\0<=ec p/\ec p<=36/\0<=ed p/\ed p<=36:=by
 obtain⟨f,g,i,j,b,_⟩:=h.2.bits;obtain⟨k,a⟩:=h.2.2.1
 have e:∀x:Int,x*6/p.2.2=x*k:=λx=>by
  rw[a,show x*(p.2.2*k)=p.2.2*(x*k) by grind];exact Int.mul_ediv_cancel_left _ (J8 b)
 have d:0<k:=by
  apply KL;intro z;have:=Int.mul_nonpos_of_nonneg_of_nonpos (Kw b) (show k<=0 by lia);lia
 unfold ec ed;rw[e,e]
 have c:∀{x:Int},0<=x->x<=6*p.2.2->0<=x*k/\x*k<=36:=λl m=>by
  refine⟨Kv l (Kw d),?_⟩;have:=LC m (Kw d);have q:6*p.2.2*k=36:=by rw[KV,<-a];rfl
  lia
 obtain⟨n,o⟩:=c f g;obtain⟨r,s⟩:=c i j;refine⟨?_,?_,n,o,r,s⟩
 ·rw[a];grind
 rw[a];grind
theorem G'{a:OJ}(b:∀p∈a,aU p):dg (a,false,(0,0,1))=a:=by
 rw[k5];show a.map (c6 (a,false,(0,0,1)))=a
 have:∀p∈a,c6 (a,false,(0,0,1)) p=id p:=λp h=>by
  have P:=b p h;have o:aU (0,0,1):=⟨by decide,by decide⟩;refine(hz (s:=(a,false,(0,0,1))) o P).eq ((kj P).to ?_ ?_)
  ·show bT p=eP false*(bT p + -bT (0,0,1))
   have z:bT (0,0,1)=0:=by unfold bT;exact yd _
   rw[z];unfold eP;rw[No Ke];grind
  show bR p=eP false*(bR p + -bR (0,0,1))
  have z:bR (0,0,1)=0:=by unfold bR;exact yd _
  rw[z];unfold eP;rw[No Ke];grind
 rw[KX this,MC]
theorem eQ.start{c:OJ}(t:dS c)(i:∀p∈c,iW p)(R:c.length<=5):eQ c 0 [(c,false,(0,0,1))]:=by
 have u:∀p∈c,aU p:=λp h=>(i p h).1.pt;have B:=G' u;have S:=(iR c).mpr t.iu;have I:∀{x:Int},-36<=x->x<=36->KM x<=6:=λa b=>intBits_le_iff.mpr (by show Int.natAbs _<64;lia);have T:(ba c).length=c.length:=by unfold ba;rw[nV]
 refine⟨⟨(1,0,0)::(0,1,0)::(ba c).map λe=>(ed e.1-ed e.2,ec e.2-ec e.1,0),6,?_,λd j=>?_,by decide,by decide,λs k=>?_⟩,λs k=>?_,?_,λz aw w=>?_,J7 _⟩
 ·rw[Kk,Kk,J5,T];lia
 ·rcases J6.mp j with rfl|j
  ·exact⟨⟨by decide,by decide,by decide⟩,.inl (show(1:Int)≠0 by decide)⟩
  rcases J6.mp j with rfl|j
  ·exact⟨⟨by decide,by decide,by decide⟩,.inr (show(1:Int)≠0 by decide)⟩
  obtain⟨e,f,rfl⟩:=J'.mp j;obtain⟨v,A⟩:=fj f;obtain⟨g,l,J,K,L,M⟩:=n4 (i _ v);obtain⟨C,E,U,W,X,Y⟩:=n4 (i _ A);refine⟨⟨I (by dsimp only;lia) (by dsimp only;lia),I (by dsimp only;lia) (by dsimp only;lia),(show KM 0<=6 by decide)⟩,?_⟩;have Z:=t.side f;apply KL;intro n;have ab:ed e.1=ed e.2:=KL λy=>n (.inl (show ed e.1-ed e.2≠0 by lia));have ae:ec e.1=ec e.2:=KL λy=>n (.inr (show ec e.2-ec e.1≠0 by lia));rw[ae]at g;rw[ab]at l;have N:=u _ v;have O:=u _ A;have ax:=cZ N.1;have ay:=cZ O.1;refine Z ((kj N).eq ((kj O).to ?_ ?_))
  ·have vs:(e.1.1:Rat)*6=(ec e.2:Rat)*e.1.2.2:=by exact_mod_cast g
   have af:(e.2.1:Rat)*6=(ec e.2:Rat)*e.2.2.2:=by exact_mod_cast C
   unfold bT;grind
  have vs:(e.1.2.1:Rat)*6=(ed e.2:Rat)*e.1.2.2:=by exact_mod_cast l
  have af:(e.2.2.1:Rat)*6=(ed e.2:Rat)*e.2.2.2:=by exact_mod_cast E
  unfold bR;grind
 ·rw[Ks.mp k];have F:∀{x:Int},-2592<=x->x<=2592->KM x<=16+21*0:=λa b=>intBits_le_iff.mpr (by show Int.natAbs _<65536;lia);refine⟨⟨t,u,⟨(show(0:Int)<1 by decide),(show J2 (J2 0 0:Nat) 1=1 by decide)⟩⟩,λp h=>?_,λe f=>?_,R,0,0,rfl,rfl,(show KM 0<=16+21*0 by decide),(show KM 0<=16+21*0 by decide)⟩
  ·obtain⟨g,l,J,K,L,M⟩:=n4 (i p h);refine⟨(1,0,-ec p),(0,1,-ed p),⟨J1,F (by dsimp only;lia) (by dsimp only;lia)⟩,⟨J3 _ J1,F (by dsimp only;lia) (by dsimp only;lia)⟩,?_,?_,(show(1:Int)*1-0*0≠0 by decide)⟩
   ·unfold ln cB;dsimp only;grind
   unfold ln cB;dsimp only;grind
  obtain⟨v,A⟩:=fj f;obtain⟨g,l,J,K,L,M⟩:=n4 (i _ v);obtain⟨C,E,U,W,X,Y⟩:=n4 (i _ A)
  have key:∀{a b x y:Int},-36<=a->a<=36->0<=x->x<=36 -> -36<=b->b<=36->0<=y->y<=36 -> -2592 <= -(a*x+b*y) /\ -(a*x+b*y)<=2592:=λ{a b x y} ag g P aB ai aj Q aC=>by
   have aD:=LC g P;have aF:=LC ag P;have aG:=LC aj Q;have aH:=LC ai Q;lia
  obtain⟨hc,av⟩:=key (a:=ed e.1-ed e.2) (b:=ec e.2-ec e.1) (x:=ec e.1) (y:=ed e.1) (by lia) (by lia) (by lia) (by lia) (by lia) (by lia) (by lia) (by lia);refine⟨(ed e.1-ed e.2,ec e.2-ec e.1,-((ed e.1-ed e.2)*ec e.1+(ec e.2-ec e.1)*ed e.1)),⟨J3 _ (J3 _ (J'.mpr ⟨e,f,rfl⟩)),F hc av⟩,?_,?_⟩
  ·unfold ln cB;dsimp only;generalize ec e.1=m at *;generalize ed e.1=o at *;generalize ec e.2=q at *;generalize ed e.2=r at *;have G:(o-r)*6*e.1.1=(o-r)*(e.1.1*6):=by grind
   have H:(q-m)*6*e.1.2.1=(q-m)*(e.1.2.1*6):=by grind
   rw[G,H,g,l];grind
  unfold ln cB;dsimp only;generalize ec e.1=m at *;generalize ed e.1=o at *;generalize ec e.2=q at *;generalize ed e.2=r at *;have G:(o-r)*6*e.2.1=(o-r)*(e.2.1*6):=by grind
  have H:(q-m)*6*e.2.2.1=(q-m)*(e.2.2.1*6):=by grind
  rw[G,H,C,E];grind
 ·rw[Ks.mp k];unfold iX;rw[B];exact λp h e f=>(ij S t.1 f).1 p h
 ·rw[il];show cU c+0=cU c
  grind
 refine .inr ⟨λs k=>?_,?_⟩
 ·rw[Ks.mp k];unfold cA;rw[B,w];decide
 show cA z (c,false,(0,0,1))+0=1
 unfold cA;rw[B,w];rfl
section
variable{R:OJ}{i:Nat}{sh:ON}
theorem tX{M E:Int}{p:aa}(h:iU M p):iU (M*E) p:=by
 obtain⟨⟨a,c⟩,⟨b,d⟩⟩:=h;refine⟨⟨a*E,?_⟩,⟨b*E,?_⟩⟩<;>(push_cast;grind)
theorem tY{N X Y:Int}{p:aa}(a:aU p)(b:p.1*N=X*p.2.2)(c:p.2.1*N=Y*p.2.2):iU N p:=by
 have z:=cZ a.1;have d:(p.1:Rat)*N=X*p.2.2:=by exact_mod_cast b
 have e:(p.2.1:Rat)*N=Y*p.2.2:=by exact_mod_cast c
 refine⟨⟨X,?_⟩,⟨Y,?_⟩⟩
 ·unfold bT;grind
 unfold bR;grind
theorem y2{M:Int}:∀{ps:OJ},(∀p∈ps,∃d:Int,0<d/\KM d<=13/\iU (M*d) p)->∃E:Int,0<E/\KM E<=13*ps.length+1/\∀p∈ps,iU (M*E) p
 |[],_=>⟨1,by decide,by decide,λ_ h=>by cases h⟩
 |p::ps,h=>by
  obtain⟨d,a,b,c⟩:=h p J1;obtain⟨E,jU,e,f⟩:=y2 λq m=>h q (J3 _ m);refine⟨d*E,J9 a jU,J4 (wp b e) (by rw[Kk];lia),λq m=>?_⟩;rcases J6.mp m with rfl|m
  ·rw[<-KV];exact tX c
  rw[show M*(d*E)=M*E*d by grind];exact tX (f q m)
theorem eQ.pos(h:eQ R i sh):∀s∈sh,0<cU s.1:=λs a=>yk (h.ok s a).cv (h.ok s a).pt
theorem n7:∀{A:ON},(∀s∈A,0<cU s.1)->0<=d5 A
 |[],_=>Rat.le_refl
 |s::A,h=>by
  rw[il];have a:=h s J1;have b:=n7 λt c=>h t (J3 _ c);grind
theorem eQ.gp(h:eQ R i sh)(t:i<=6):∀s∈sh,(∀p∈s.1,cr 149 p)/\s.1.length<=11/\cr 142 s.2.2:=λs j=>by
 obtain⟨w,M,dl,k,b,c,sz⟩:=h.sz;have q:=sz s j;refine⟨λp m=>(q.fm (λd h=>(k d h).1) b c (by lia) m).1.mono (by lia),J4 q.le (by lia),q.ok.sp,?_⟩;obtain⟨r,u,a,f,n,o⟩:=q.st;have P:=q.ok.sp;have g:s.2.2.2.2∣M:=GJ P (tY P a f);have le:=L' b g
 have c0:∀{v r:Int},v*M=r*s.2.2.2.2->v.natAbs<=r.natAbs:=λ{v r} e=>by
  have a:v.natAbs*M.natAbs=r.natAbs*s.2.2.2.2.natAbs:=by rw[<-KN,e,KN]
  have x:=P.1;have l:s.2.2.2.2.natAbs<=M.natAbs:=by lia
  have:v.natAbs*M.natAbs<=r.natAbs*M.natAbs:=by rw[a];exact Nat.mul_le_mul_left _ l
  exact Nat.le_of_mul_le_mul_right this (by lia)
 exact⟨J4 (jW (c0 a) n) (by lia),J4 (jW (c0 f) o) (by lia),J4 (tL P.1 b g c) (by lia)⟩
theorem eQ.j6(h:eQ R i sh)(I:i<=6)(J:cU R<=1024){s:bd}(g:s∈sh):aU (g6 s.1)/\(g6 s.1).2.1=0/\fC (g6 s.1)=cU s.1/\bQ 1000 (g6 s.1):=by
 obtain⟨K,M,dl,v,l,m,sz⟩:=h.sz;have q:=sz s g;obtain⟨c,j,e⟩:=xZ λp f=>(q.ok.pt p f).1
 obtain⟨E,jU,w,x⟩:=y2 (M:=M) (ps:=s.1) λp f=>by
  obtain⟨_,d,X,Y,y,C,_,F,G,_⟩:=q.fm (λd h=>(v d h).1) l m (by lia) f;exact⟨d,y,C,tY (q.ok.pt p f) F G⟩
 have n:0<M*E:=J9 l jU;have le:=q.le;have o:KM (M*E)<=261:=J4 (wp m w) (by lia);have z:=ym x;rw[<-e]at z;have r:=yn c j z;have u:0<M*E*(M*E):=J9 n n;have b:=wp o o;have posQz:=h.pos s g
 have one:cU s.1<=d5 sh:=by
  obtain⟨A,B,rfl⟩:=List.append_of_mem g;rw[l9,il];have a:=n7 (A:=A) λt k=>h.pos t (Ku _ k);have b:=n7 (A:=B) λt k=>h.pos t (Kg _ (J3 _ k));grind
 rw[h.ar]at one;have H:=yo c u r b ⟨by rw[e];grind,by rw[e];grind⟩;exact⟨c,j,e,ko H,by rw[j];decide,J4 (tL c.1 u r b) (by decide)⟩
structure t0(done:ON)(P:aa):Prop where
 pt:aU P
 y0:P.2.1=0
 v:fC P=d5 done
theorem eQ.sum(h:eQ R i sh)(W:i<=6)(Z:cU R<=1024){done c:ON}{P:aa}(j:sh=done++c)(s:t0 done P):bQ 7900 P:=by
 have ab:=n7 (A:=done) λt f=>h.pos t (by rw[j];exact Ku _ f);have ae:=n7 (A:=c) λt f=>h.pos t (by rw[j];exact Kg _ f);have ar:=h.ar;obtain⟨a,M,dl,u,w,y,sz⟩:=h.sz
 have each:∀t∈sh,∀p∈t.1,iU (M*iV a) p:=λt f p B=>by
  have q:=sz t f;obtain⟨_,d,X,Y,vs,af,⟨g,ag,G,H,n,I⟩,J,K,_⟩:=q.fm (λd h=>(u d h).1) w y (by lia) B
  have l:d∣iV a:=by
   have:=yv G H n;rcases I with e|e
   ·rwa[e]at this
   rw[e]at this;exact Mr.mp this
  obtain⟨k,L⟩:=l;rw[L,<-KV];exact tX (tY (q.ok.pt p B) J K)
 have o:=yx (m:=6) (r:=a) λd O=>(u d O).1;have o:KM (iV a)<=1100:=J4 o (J4 (yy 6 (show a.length<=13 by lia)) (by decide));have Q:M*iV a≠0:=Kx (J8 w) (yt a);have C:KM (M*iV a)<=1217:=J4 (wp y o) (by lia);generalize M*iV a=N at *
 have z:eO (N*N) (fC P):=by
  rw[s.v]
  have:∀A:ON,(∀t∈A,t∈sh)->eO (N*N) (d5 A):=λA=>by
   induction A with
   |nil=>intro _;exact⟨0,by show(0:Rat)*_=((0:Int):Rat);rw[Rat.zero_mul];rfl⟩
   |cons t A S=>
    intro E;rw[il];exact eO.add (ym (each t (E t J1))) (S λx T=>E x (J3 _ T))
  exact this done λt f=>by rw[j];exact Ku _ f
 have l:=yn s.pt s.y0 z
 have F:0<N*N:=by
  rcases Ng Q with q|q
  ·exact L6 q q
  exact J9 q q
 have b:=wp C C;rw[j,l9]at ar;have U:=yo s.pt F l b ⟨by rw[s.v];grind,by rw[s.v];grind⟩;exact⟨ko U,by rw[s.y0];decide,J4 (tL s.pt.1 F l b) (by decide)⟩
end
theorem Hc{l a:aa}(e:a=l\/a=fl l){sh:ON}(ok:∀s∈sh,hA s):∀s∈bL (ln a) (aY l) sh,hA s:=λs g=>by
 obtain⟨t,i,rfl,c⟩:=tB g;have h:=ok t i
 have j:fk a (aY l):=by
  rcases e with rfl|rfl
  ·exact kd _
  exact(kd _).ng
 have k:∀p q,ln a p*ln a q<0->ln l p*ln l q<0:=λp q z=>by
  rcases e with rfl|rfl
  ·exact z
  rwa[fA,fA,K3]at z
 obtain⟨m,n⟩:=jy j.meets ((iR t.1).mpr h.cv.iu) h.cv.1 c;refine⟨kW.jM n ((iR _).mp m),λp o=>?_,h.sp⟩;rcases nW o with⟨r,_⟩|⟨d,u,y,rfl⟩
 ·exact h.pt p r
 obtain⟨b,f⟩:=fj u;rw[<-l1 (h.pt _ b) (h.pt _ f)];exact gc (l2 (h.pt _ b) (h.pt _ f) (k _ _ y))
theorem y3{p:aa}(a:aU p):nP (c_ (0,0,1) p)=p:=by
 have:c_ (0,0,1) p=p:=by
  unfold c_;refine e4 ?_ ?_ ?_<;>dsimp only<;>lia
 rw[this,pu a]
theorem Hd{s:bd}(h:hA s):iQ (0,0,1) s=s:=by
 unfold iQ;have:∀p∈s.1,nP (c_ (0,0,1) p)=id p:=λp a=>y3 (h.pt p a);rw[KX this,MC,y3 h.sp]
theorem He{R:OJ}{i:Nat}{sh:ON}(b:∀p∈R,aU p)(h:eQ R i sh)(j:i<=5){s:bd}(c:s∈sh){p v:aa}(e:p∈s.1)(f:cr 6 v)(g:v.1≠0\/v.2.1≠0):∀t∈bL (ln (a_ p (nP (c_ v p)))) (aY (a_ p (nP (c_ v p)))) sh,(∀p∈t.1,cr 149 p)/\t.1.length<=11/\cr 142 t.2.2:=λt a=>by
 have o:cr 6 (0,0,1):=⟨⟨by decide,by decide⟩,by decide,by decide,by decide⟩;have d:=(h.i4 b c e f g o false).gp (by lia);refine d t (Ku _ ?_);rw[No Ke];exact J'.mpr ⟨t,a,Hd (Hc (.inl rfl) h.ok t a)⟩
theorem hA.first{s:bd}(h:hA s):dS (dg s):=by
 rw[k5];refine h.cv.map λp q r a b c=>?_;have:=tQ h.sp (h.pt p a) (h.pt q b) (h.pt r c);unfold bt;split<;>split<;>(try split)<;>(try split)<;>lia
theorem y4{s:bd}{m n:Nat}(h:∀p∈s.1,cr n p)(g:cr m s.2.2):∀p∈dg s,cr (n+m+1) p:=by
 rw[k5];intro p b;obtain⟨q,c,rfl⟩:=J'.mp b;have a:=g.trn.sl (h q c);unfold c6;split
 ·exact a.trn
 exact a
theorem iX.wi{R:OJ}{s:bd}(h:iX R s):∀p∈dg s,wi R p≠0:=λp b z=>by
 rcases k6 R p with⟨a,_⟩|⟨_,a⟩|⟨a,_⟩
 ·lia
 ·exact a (h p b)
 lia
theorem y5:∀{c:OO},(1:Int)∈c->∃j:Nat,c[j]?=some 1/\∀m,m<j->c[m]?≠some 1
 |n::c,h=>by
  by_cases e:n=1
  ·exact⟨0,by rw[e];rfl,λm d=>absurd d (Nat.not_lt_zero _)⟩
  obtain⟨j,a,b⟩:=y5 ((J6.mp h).resolve_left λx=>e x.symm);refine⟨j+1,a,λm d=>?_⟩;cases m with
  |zero=>exact λx=>e (Ki x)
  |succ m=>exact b m (by lia)
theorem y6:∀{ns:OO},(∀n∈ns,n=1\/n=0)->ns.sum=1->(1:Int)∈ns
 |[],_,h=>absurd h (by decide)
 |n::ns,a,h=>by
  rcases a n J1 with e|e
  ·rw[e];exact J1
  refine J3 _ (y6 (λx b=>a x (J3 _ b)) ?_);rw[LB,e]at h;lia
section
variable{X:aS}{f y:Nu}{t:a9}{F:ci}{o p:Pos}
def Hf(n:Nat)(F:ci)(t:a9)(u:OL->Prop->Prop):a9:=λa k=>t a λd=>u a (2=n/\F [.val d,.bag] λr=>h6 r k)
theorem Hg{n:Nat}{x:Str}{Z:OR}{j M:Nat}{N:OL->Prop->Prop}(c:cq X.prog X.w X.K X.mg X.base x Z j (cj X.K n F))(ae:d1 M X.A)(vs:ew X x)(ag:bc X y t)(ah:o7 X f N)(aj:j<=M:=by decide)(hc:eS x:=by decide)(O:Nw [y,f] X.env=(false,Op y X.env)::Nw [f] X.env:=by rfl)(ao:e9 X f []:=by rfl)(ay:(OB o (Nw [f] X.env)).any (·.1)=false:=by rfl):
  bc X (.Call (.Name x p) [y,f] [] o) (Hf n F t N):=by
 obtain⟨_,aC,aD⟩:=ag;obtain⟨_,aF,aH⟩:=ah;refine⟨_,oJ c ae vs (ez aC (ez aF fJ ao) O) aj hc O ay,λC k h R W B H E Q e q=>?_⟩;refine aD C _ h R W B H E _ e λaI aL aN aO aQ aT aV aZ=>?_;refine aH C _ aQ R W aN aO E _ aT λa a0 a3 a4 z P a6 bb bf bj=>?_;obtain⟨bo,br⟩:=a4;show cj X.K n F ([aL,.ref a]++[]) a3 Q jU
 rw[Kb];refine⟨λb=>b=a,a0,[.val aI,.bag],_,br,bo,rfl,z.bh,λb G=>by subst G;exact⟨bb,bf⟩,.val (aZ.mono P.s) (.bag rfl .nil),λr v S T u I=>?_⟩;obtain⟨J,bA⟩:=z.gZ (λb G=>by subst G;exact⟨a6,bj⟩) I.wd I.g;have res:=I.res;have L:=(aV.trans P).trans bA;cases r with
 |no=>exact u.elim
 |bag=>exact u.elim
 |pin v d=>exact u.elim
 |deep c=>exact u.elim
 |val d=>exact q d v S T u J L res
 |new d=>exact q d v S T u J L (bz.mono oO res)
 |own c=>
  cases c with
  |d _ _ _ _=>exact u.elim
  |l bI=>
  obtain⟨c,rfl,U,bD,bJ,c1,tb⟩:=res;obtain⟨bC,Y⟩:=J.freeze c1 (z.toWd.fresh U).1 bD λi m=>absurd U (z.dV (show cD E C i c from m)).2;exact q _ _ _ _ u bC (L.trans Y) (.lst fq (tb.mono Y.s))
end
section
variable{X:aS}
def Hi:V->OK->ak->b5->Prop:=λx b H Q=>∃(l:KT)(a:OO)(k:Int)(j:Nat),x=.ref l/\b=[.int k]/\H l=some (.lst (a.map V.int))/\a[j]?=some k/\(∀m,m<j->a[m]?≠some k)/\Q (.int j) H
def isInt(k:Int):KB->Bool
 |.int a _=>a==k
 |_=>false
theorem Hj:u6 X "list.index" Hi:=by
 intro W s Y H x Z v af Q I J K h;obtain⟨l,d,k,j,rfl,rfl,L,o,M,q⟩:=h;cases J;obtain⟨u,rfl,p⟩:=K.one;obtain⟨t,rfl⟩:=p;obtain⟨z,b,n,r,B,e⟩:=I.hb L
 have N:∀(i:Nat)(a:Int),d[i]?=some a->∃c,b[i]?=some (.int a c):=λi a h=>by
  obtain⟨u,O,p⟩:=r.get (i:=i) (x:=.int a) (by rw[Kj,h];rfl);obtain⟨c,rfl⟩:=p;exact⟨c,O⟩
 rw[J5]at B z
 have at2:∀(i:Nat)(h:i<b.length),∃(a:Int)(c:Tok),d[i]?=some a/\b[i]=.int a c:=λi h=>by
  obtain⟨a,C⟩:∃a,d[i]?=some a:=⟨d[i],Km (by lia)⟩;obtain⟨c,E⟩:=N i a C;rw[Km h]at E;exact⟨a,c,C,Ki E⟩
 have G:j<b.length:=by
  rw[<-B];rcases Nat.lt_or_ge j d.length with g|g
  ·exact g
  rw[KW g]at o;cases o
 refine call_meets Nh ⟨_,e,rfl⟩ PySem.F.entry_list_index (PySem.F.args_list_index_2 _ _)
  (PySem.MeetsSeq.list_index l b.toArray n (.int k t) (isInt k) (λy P=>?_) j (by rw[Kl];exact G) (by
   have ah:Np<9223372036854775807:=by decide
   lia) ?_ λm w R=>?_) ⟨e,?_⟩
 ·obtain⟨i,S,rfl⟩:=List.getElem_of_mem (show y∈b by simpa using P);obtain⟨a,c,_,T⟩:=at2 i S;rw[T];exact Nn a k c t
 ·obtain⟨a,c,f,A⟩:=at2 j G;rw[Ni,A];rw[o]at f;cases f;show(k==k)=true
  simp
 ·have w:m<b.length:=by simpa using w
  obtain⟨a,c,f,A⟩:=at2 m w;rw[Ni,A];have U:a≠k:=λz=>M m R (by rw[f,z]);show(a==k)=false
  simp[U]
 exact⟨.int j,H,I.tok _,⟨_,rfl⟩,q⟩
end
def Hm(i:Nat)(k:Int):a9:=λb q=>∃a:OO,b[i]?=some (.val (.lst (a.map D.int)))/\∃j:Nat,a[j]?=some k/\(∀m,m<j->a[m]?≠some k)/\q (.int j)
section
variable{X:aS}
theorem Hn(i:Nat)(k:Int){x:Str}{e g b c:Pos}{d:Nat}(n:i2 X i x:=by rfl)(o:i3 X.env.scope x:=by walk_at"v")(p:eS x:=by decide)(r:jG x:=by decide)(s:q4 X (.Name x e) "index":=by rfl)(t:q3 X b [Expr.Constant (.int k) d c]:=by rfl)(u:q5 g b:=by rfl)(l:Nw [Expr.Constant (.int k) d c] X.env=(false,Op (.Constant (.int k) d c) X.env)::Nw [] X.env:=by rfl)(w:ir X b []:=by rfl):
  bc X (.Call (.Attribute (.Name x e) "index" g) [.Constant (.int k) d c] [] b) (Hm i k):=by
 refine⟨_,u5 M4 Nh PySem.F.type_list_index Hj (lj n o p r) (ez eH fJ l) s t u l w,λM q h R W B H N Q f y=>?_⟩;obtain⟨z,A,j,C,E,G⟩:=h;obtain⟨v,I,J⟩:=f.val A;obtain⟨a,O,rfl,m,K⟩:=J.hU;have L:=r7 K;subst L;refine⟨_,I,.inl ⟨rfl,_,cf.of (f.bh _ _ m)⟩,?_⟩;exact⟨a,z,k,j,rfl,rfl,f.bh _ _ m,C,E,y _ _ B H G f (bE.refl _ _) (.int _)⟩
end
section
variable{X:aS}
theorem ei(i:Nat){x:Str}{n:Int}{j:Nat}{a b c:Pos}(d:i2 X i x:=by rfl)(e:i3 X.env.scope x:=by walk_at"v")(f:eS x:=by decide)(g:jG x:=by decide):bc X (.Subscript (.Name x a) (.Constant (.int n) j b) c) (vF (fO i) (oU (.int n))):=ea (am i d e f g) a7 (λ_ _=>rfl)
theorem cu(i:Nat){x:Str}{e:Nu}{u:a9}{a b:Pos}(c:X.N.Nodup)(d:bc X e u)(f:i2 X i x:=by rfl)(g:g7 X.env.scope x:=by exact Kf rfl)(h:NT e (some (.Name x b)) a.line X.env=pure false:=by rfl)(j:iq X x:=by walk_at"f"):eD X (.Assign [.Name x b] e a) (vN i u):=m8 c f g d h j
theorem cK(i:Nat){x:Str}{a:Pos}(b:X.N.Nodup)(c:i2 X i x:=by rfl)(d:g7 X.env.scope x:=by exact Kf rfl)(e:iq X x:=by walk_at"f"):iF X (.Name x a) (eg i):=fQ b c d e
theorem bF{n:Nat}{F:ci}{w:hM}{e:Nu}{b:OU}{p a:Pos}{x:Str}{f:OR}{j d:Nat}(c:cq X.prog X.w X.K X.mg X.base x f j (cj X.K n F))(g:d1 d X.A)(h:j1 X (e::b) w)(i:ew X x:=by rfl)(k:j<=d:=by decide)(l:eS x:=by decide)(m:e9 X e b:=by rfl)(o:ir X a b:=by rfl):bc X (.Call (.Name x p) (e::b) [] a) (vH n F w):=CD c g i h k l m o
end
section
structure y8(mg:Str->Option KB):Prop where
 ef:mg "len"=none
 hC:mg "abs"=none
 hh:mg "int"=none
 i8:mg "bool"=none
 hI:mg "tuple"=none
 d2:mg "isinstance"=none
 d8:mg "range"=none
 kf:mg "all"=none
 jm:mg "sum"=none
 hD:mg "list"=none
 hF:mg "ValueError"=none
 j3:mg "zip"=none
 j7:mg "str"=none
 gb:mg "enumerate"=none
 j_:mg "set"=none
 kb:mg "max"=none
 ka:mg "min"=none
 jc:mg "sorted"=none
 jT:mg "dict"=none
local macro_rules | `(tactic| walk_at"bu") => `(tactic| first | assumption | exact NL (by walk_at"bu") (by walk_at"bu") | exact NC (by walk_at"bu") (by walk_at"bu") | exact wp (by walk_at"bu") (by walk_at"bu") | exact Nv (by walk_at"bu") | exact intBits_fdiv_le (by walk_at"bu") | exact mW (by omega) (by omega) | fail)
local macro_rules | `(tactic| walk_at"bits") => `(tactic| ((with_reducible show KM _ ≤ _); first | assumption | exact J4 (mW (by omega) (by omega)) (by decide) | decide +kernel | exact J4 (by walk_at"bu") (by first | omega | decide) | fail))
local macro_rules | `(tactic| walk_at"sd") => `(tactic| first | ((with_reducible show KM _ ≤ _); walk_at"bits") | ((with_reducible show rJ _ _); exact ⟨by walk_at"bits", by walk_at"bits"⟩) | ((with_reducible show lB _ _); exact ⟨by omega, by walk_at"bits"⟩) | ((with_reducible show (_ : Int) < _); first | omega | decide +kernel) | ((with_reducible show (_ : Int) ≤ _); first | omega | decide +kernel) | ((with_reducible show uI _ _); exact ⟨by decide, by decide, by decide⟩) | ((with_reducible show LL _ ≤ Np); first | (show 2 ≤ Np; decide) | (show 3 ≤ Np; decide) | (show 1 ≤ Np; decide) | (show 0 ≤ Np; decide) | (show 4 ≤ Np; decide)) | fail)
local macro_rules | `(tactic| walk_at"w1") => `(tactic| first | refine ⟨_, rfl, ?_⟩ | refine ⟨_, _, rfl, rfl, ?_⟩ | refine ⟨_, _, rfl, rfl, by walk_at"sd", ?_⟩ | refine ⟨_, _, _, .inl rfl, rfl, rfl, ?_⟩ | refine ⟨_, _, _, .inr rfl, rfl, rfl, ?_⟩ | refine ⟨_, _, rfl, fun _ => rfl, ?_⟩ | refine ⟨by walk_at"sd", ?_⟩ | refine ⟨rfl, ?_⟩)
local macro_rules | `(tactic| walk_at"w") => `(tactic| repeat walk_at"w1")
local macro_rules | `(tactic| walk_at"wd") => `(tactic| (walk_at"w"; try dsimp only [h6]))
local macro_rules | `(tactic| walk_at"it") => `(tactic| first | exact .inl (by assumption) | exact .inr (by assumption))
local macro_rules | `(tactic| walk_at"r0") => `(tactic| repeat (first | refine ⟨_, rfl, ?_⟩ | refine ⟨_, _, rfl, rfl, ?_⟩ | refine ⟨_, _, _, _, rfl, rfl, by walk_at"it", rfl, ?_⟩ | refine ⟨by walk_at"sd", ?_⟩))
local macro_rules | `(tactic| walk_at"rd") => `(tactic| (walk_at"r0"; try dsimp only))
local macro_rules | `(tactic| walk_at"fall") => `(tactic| first | exact KS.mpr ⟨rfl, by walk_at"fall"⟩ | exact KI _)
local macro_rules | `(tactic| walk_at"fal2") => `(tactic| first | exact KI _ | exact KS.mpr ⟨fun h => absurd h (by decide), by walk_at"fal2"⟩ | exact KS.mpr ⟨fun _ => ⟨_, rfl⟩, by walk_at"fal2"⟩)
local macro_rules | `(tactic| walk_at"fsub") => `(tactic| exact hr (by walk_at"fall"))
local macro_rules | `(tactic| walk_at"fhas") => `(tactic| exact JW (by walk_at"fal2"))
local macro_rules | `(tactic| walk_at"ffr") => `(tactic| (intro i y e; rcases i with _ | _ | _ | _ | _ | i <;> first | (cases e; done) | (cases e; exact ⟨_, rfl, rfl, rfl, Kf rfl, _, rfl⟩)))
local macro_rules | `(tactic| walk_at"sc") => `(tactic| exact ⟨rfl, rfl, rfl, by decide +kernel, rfl, by decide +kernel, by decide +kernel⟩)
local macro_rules | `(tactic| walk_at"b1") => `(tactic| exact fun _ _ F => F.binds (jv fun _ _ _ _ _ _ _ => rfl))
local macro_rules | `(tactic| walk_at"b2") => `(tactic| exact fun _ _ F => F.binds (fS fun _ _ _ _ _ _ _ _ => rfl))
local macro_rules | `(tactic| walk_at"b3") => `(tactic| exact fun _ _ F => F.binds (ny fun _ _ _ _ _ _ _ _ _ => rfl))
local macro_rules | `(tactic| walk_at"b4") => `(tactic| exact fun _ _ F => F.binds (E4 fun _ _ _ _ _ _ _ _ _ _ => rfl))
abbrev eh(N:List Str)(k:Nat)(s:Scope):=cM N (N.take k) s
theorem Hp:eh ["_law_script","_law_k"] 2 (b9 qG):=by walk_at"sc"
theorem Hq:eh ["_law_cell_here"] 1 (b9 qH):=by walk_at"sc"
theorem y9:eh ["_law_bag_here","_law_many","_law_found"] 2 (b9 qI):=by walk_at"sc"
theorem mf:eh ["_law_a","_law_b","_law_n","_law_one","_law_other","_law_rest"] 3 (b9 qJ):=by walk_at"sc"
def Hr  : ci:=λc k=>∃(a b n:Int),c=[.val (.int a),.val (.int b),.val (.int n)]/\(0<n)/\(KM n<=9000)/\k (.val (aE (cE a b n)))
theorem Hs:eh ["_law_p","_law_v"] 2 (b9 qK):=by walk_at"sc"
def Ht  : ci:=λa k=>∃(p g:aa),a=[.val (aE p),.val (aE g)]/\(cr 4000 p)/\(cr 4000 g)/\k (.val (aE (nP (c_ g p))))
theorem Hu:eh ["_law_p"] 1 (b9 qL):=by walk_at"sc"
def Hv  : ci:=λa k=>∃(p:aa),a=[.val (aE p)]/\k (.val (aE (dO p)))
theorem qi:eh ["_law_p","_law_q","_law_r","_law_found"] 3 (b9 qM):=by walk_at"sc"
def Hw  : ci:=λa k=>∃(p q r:aa),a=[.val (aE p),.val (aE q),.val (aE r)]/\(bQ 4000 p)/\(bQ 4000 q)/\(bQ 4000 r)/\k (.val (.int (bt (az p q r))))
theorem y':eh ["_law_p","_law_number"] 1 (b9 qN):=by walk_at"sc"
def Hx  : ci:=λa k=>∃(p:aa),a=[.val (aE p)]/\(aU p)/\(bQ 1000 p)/\k (.val (.bl true))
theorem t1:eh ["_law_ring","_law_k","_law_j"] 1 (b9 qO):=by walk_at"sc"
def Hy  : ci:=λc k=>∃(a:OJ),c=[.val (.lst (a.map aE))]/\(a.length<=1000)/\(∀p∈a,cr 700 p)/\∀b:Bool,(b=true↔dS a)->k (.val (.bl b))
theorem n':eh ["_law_ring","_law_p","_law_found","_law_k","_law_hand"] 2 (b9 qP):=by walk_at"sc"
def Hz  : ci:=λb k=>∃(a:OJ)(s:aa),b=[.val (.lst (a.map aE)),.val (aE s)]/\(a.length<=1000)/\(∀p∈a,cr 700 p)/\(bQ 4000 s)/\k (.val (.int (wi a s)))
theorem kk:eh ["_law_ring","_law_top","_law_bottom","_law_k","_law_p","_law_q"] 1 (b9 qQ):=by walk_at"sc"
def HA  : ci:=λb k=>∃(a:OJ),b=[.val (.lst (a.map aE))]/\(a.length<=11)/\(1<=a.length)/\(∀p∈a,cr 149 p)/\k (.val (aE (g6 a)))
theorem HB:eh ["_law_one","_law_other"] 2 (b9 qR):=by walk_at"sc"
def HC  : ci:=λa k=>∃(p q:aa),a=[.val (aE p),.val (aE q)]/\(0<p.2.2)/\(0<q.2.2)/\(bQ 7900 p)/\(bQ 1000 q)/\k (.val (aE (cE (p.1*q.2.2+q.1*p.2.2) 0 (p.2.2*q.2.2))))
theorem za:eh ["_law_bag_here","_law_most","_law_n"] 2 (b9 qS):=by walk_at"sc"
def HD  : ci:=λa k =>  a=[.bag,.val (.int 6)]/\∀p:aa,iW p->k (.val (aE p))
theorem zb:eh ["_law_bag_here","_law_most","_law_n"] 2 (b9 qT):=by walk_at"sc"
def HE  : ci:=λa k=>∃(m:Int),a=[.bag,.val (.int m)]/\(m=6\/m=9)/\∀p:aa,cr 6 p->k (.val (aE p))
theorem t2:eh ["_law_bag_here","_law_most","_law_ring","_law_hand"] 2 (b9 qU):=by walk_at"sc"
def HF  : ci:=λb k =>  b=[.bag,.val (.int 6)]/\∀a:OJ,a.length=3->dS a->(∀p∈a,iW p)->k (.own (a.map aE))
theorem k8:eh ["_law_bag_here","_law_most","_law_ring","_law_k","_law_p","_law_at_end","_law_more"] 2 (b9 qV):=by walk_at"sc"
def HG  : ci:=λb k =>  b=[.bag,.val (.int 6)]/\∀a:OJ,a.length<=5->dS a->(∀p∈a,iW p)->k (.val (.lst (a.map aE)))
theorem zc:eh ["_law_bag_here","_law_most","_law_n"] 2 (b9 qW):=by walk_at"sc"
def HH  : ci:=λa k =>  a=[.bag,.val (.int 6)]/\∀p:aa,cr 64 p->k (.val (aE p))
theorem zd:eh ["_law_piece","_law_p"] 2 (b9 qY):=by walk_at"sc"
def HI  : ci:=λa k=>∃(m:bd)(z:aa),a=[.val (cl m),.val (aE z)]/\(cr 142 m.2.2)/\(cr 200 z)/\k (.val (aE (k3 m.2.1 m.2.2 z)))
theorem qj:eh ["one","other"] 2 (b9 qt):=by walk_at"sc"
def HJ  : ci:=λc k=>∃(a b:Int),c=[.val (.int a),.val (.int b)]/\k (.val (.int (J2 a b:Nat)))
theorem t3:eh ["a","b","n","divisor"] 3 (b9 qu):=by walk_at"sc"
def HK  : ci:=λc k=>∃(a b n:Int),c=[.val (.int a),.val (.int b),.val (.int n)]/\(n≠0)/\(KM n<=9000)/\k (.val (aE (cE a b n)))
theorem k9:eh ["one","other","a","b","n","c","d","m"] 2 (b9 qx):=by walk_at"sc"
def HL  : ci:=λa k=>∃(p q:aa),a=[.val (aE p),.val (aE q)]/\(bQ 4000 p)/\(bQ 4000 q)/\k (.val (aE (a_ p q)))
theorem ze:eh ["line","p","turn"] 2 (b9 qy):=by walk_at"sc"
def HM  : ci:=λa k=>∃(c r:aa),a=[.val (aE c),.val (aE r)]/\(bQ 2000 c)/\(bQ 2000 r)/\k (.val (.int (bt (c.1*r.1+c.2.1*r.2.1+c.2.2*r.2.2))))
theorem qk:eh ["p","q","r","s","a","b","n"] 4 (b9 qz):=by walk_at"sc"
def HN  : ci:=λa k=>∃(p q r s:aa),a=[.val (aE p),.val (aE q),.val (aE r),.val (aE s)]/\(bQ 700 p)/\(bQ 700 q)/\(bQ 1990 r)/\(bQ 1990 s)/\((a_ (a_ p q) (a_ r s)).2.2≠0)/\k (.val (aE (nP (a_ (a_ p q) (a_ r s)))))
theorem jD:eh ["ring","p","q","line","corner","hands","left","right","place","after","between"] 3 (b9 qC):=by walk_at"sc"
def HO  : ci:=λb k=>∃(a:OJ)(p q:aa),b=[.val (.lst (a.map aE)),.val (aE p),.val (aE q)]/\(bQ 300 p)/\(bQ 300 q)/\(∀c∈a,bQ 1990 c/\aU c)/\(a.length<=1000)/\k (.val (.tup [.lst ((dc (ln (a_ p q)) (aY (a_ p q)) a).map aE),.lst ((dc (λc => -ln (a_ p q) c) (aY (a_ p q)) a).map aE)]))
theorem kl:eh ["sheet","p","q","left","right","ring","is_turned","step","left_ring","right_ring"] 3 (b9 qD):=by walk_at"sc"
def HP  : ci:=λa k=>∃(sh:ON)(p q:aa),a=[.val (.lst (sh.map cl)),.val (aE p),.val (aE q)]/\(bQ 300 p)/\(bQ 300 q)/\(∀s∈sh,∀c∈s.1,bQ 1990 c/\aU c)/\(∀s∈sh,s.1.length<=1000)/\(sh.length<=1000)/\k (.val (.tup [.lst ((bL (ln (a_ p q)) (aY (a_ p q)) sh).map cl),.lst ((bL (λc => -ln (a_ p q) c) (aY (a_ p q)) sh).map cl)]))
theorem HQ:eh ["ring"] 1 (b9 qA):=by walk_at"sc"
def HR  : ci:=λb k=>∃(a:OJ),b=[.val (.lst (a.map aE))]/\k (.val (cl (a,false,(0,0,1))))
theorem ql:eh ["p","a","b","n"] 1 (b9 qw):=by walk_at"sc"
def HS  : ci:=λa k=>∃(p:aa),a=[.val (aE p)]/\k (.val (aE (dO p)))
theorem ip:eh ["p","step","a","b","n","right","up","parts","shared","x","y","divisor"] 2 (b9 qv):=by walk_at"sc"
def HU  : ci:=λa k=>∃(p g:aa),a=[.val (aE p),.val (aE g)]/\(aU p)/\(bQ 3000 p)/\(aU g)/\(bQ 1000 g)/\k (.val (aE (nP (c_ g p))))
theorem mh:eh ["piece","ring","is_turned","step","back","corners"] 1 (b9 qB):=by walk_at"sc"
def HV  : ci:=λa k=>∃(s:bd),a=[.val (cl s)]/\(s.1.length<=64)/\(∀p∈s.1,cr 1000 p)/\(cr 1000 s.2.2)/\k (.own ((dg s).map aE))
theorem HW:eh ["sheet","step"] 2 (b9 qE):=by walk_at"sc"
def HX  : ci:=λa k=>∃(sh:ON)(g:aa),a=[.val (.lst (sh.map cl)),.val (aE g)]/\(sh.length<=400)/\(∀s∈sh,yq s)/\(cr 450 g)/\k (.val (.lst ((sh.map (iQ g)).map cl)))
theorem HY:eh ["sheet"] 1 (b9 qF):=by walk_at"sc"
def HZ  : ci:=λa k=>∃(sh:ON),a=[.val (.lst (sh.map cl))]/\(sh.length<=100)/\(∀s∈sh,s.1.length<=100)/\k (.val (.lst ((sh.map hx).map cl)))
theorem km:eh ["_law_sheet","_law_bag_here","_law_ring","_law_p","_law_q","_law_left","_law_right_part"] 2 (b9 qX):=by walk_at"sc"
def H0  : ci:=λb k=>∃(R:OJ)(i:Nat)(sh:ON),b=[.val (.lst (sh.map cl)),.bag]/\(∀p∈R,aU p)/\(0<cU R)/\(eQ R i sh)/\(i<=5)/\∀a:ON,eQ R (i+1) a->k (.val (.lst (a.map cl)))
theorem ha:eh ["_law_script","_law_ring","_law_sheet","_law_cell_here","_law_piece","_law_lay","_law_area_now","_law_k","_law_bag_here","_law_spot_here","_law_marks_here"] 1 (b9 qZ):=by walk_at"sc"
structure H1(K:JS)(mg:Str->Option KB):Prop where
 er:c3 K mg "greatest_divisor" qt ["one","other"]
 hj:c3 K mg "point" qu ["a","b","n"]
 h3:c3 K mg "slid" qv ["p","step"]
 gQ:c3 K mg "turned" qw ["p"]
 gE:c3 K mg "crossed" qx ["one","other"]
 gD:c3 K mg "hand_of" qy ["line","p"]
 h7:c3 K mg "meet" qz ["p","q","r","s"]
 ht:c3 K mg "fresh" qA ["ring"]
 fi:c3 K mg "first_ring" qB ["piece"]
 f_:c3 K mg "cut_ring" qC ["ring","p","q"]
 fI:c3 K mg "cut_sheet" qD ["sheet","p","q"]
 hs:c3 K mg "moved" qE ["sheet","step"]
 e':c3 K mg "half_turned" qF ["sheet"]
 f7:c3 K mg "_law_cell" qG ["_law_script","_law_k"]
 gC:c3 K mg "_law_bag" qH ["_law_cell_here"]
 fF:c3 K mg "_law_digit" qI ["_law_bag_here","_law_many"]
 fD:c3 K mg "_law_point" qJ ["_law_a","_law_b","_law_n"]
 fX:c3 K mg "_law_slid" qK ["_law_p","_law_v"]
 fh:c3 K mg "_law_turned" qL ["_law_p"]
 fY:c3 K mg "_law_side" qM ["_law_p","_law_q","_law_r"]
 eW:c3 K mg "_law_is_point" qN ["_law_p"]
 eC:c3 K mg "_law_is_convex" qO ["_law_ring"]
 fe:c3 K mg "_law_within" qP ["_law_ring","_law_p"]
 eu:c3 K mg "_law_twice_area" qQ ["_law_ring"]
 fH:c3 K mg "_law_added" qR ["_law_one","_law_other"]
 fE:c3 K mg "_law_place" qS ["_law_bag_here","_law_most"]
 fU:c3 K mg "_law_step" qT ["_law_bag_here","_law_most"]
 fx:c3 K mg "_law_three" qU ["_law_bag_here","_law_most"]
 e5:c3 K mg "_law_bulging" qV ["_law_bag_here","_law_most"]
 fW:c3 K mg "_law_spot" qW ["_law_bag_here","_law_most"]
 f6:c3 K mg "_law_deed" qX ["_law_sheet","_law_bag_here"]
 gB:c3 K mg "_law_led" qY ["_law_piece","_law_p"]
section H2
variable(B:y8 mg)(Y:H1 K mg)
include B Y
theorem zf :
  cq P w K mg base "_law_cell" ["_law_script","_law_k"] 1 (cj K 2 v6):=by
 refine cq.imp (sp:=v5 K) ?_ (λg H Q E h=>DB h);refine Y.f7.ok (k:=0) Hp (λg H Q E h=>?_) (λf i A d s H g Q E n h=>?_)
 ·obtain⟨a,k,b,rfl,e,j,q⟩:=h;rfl
 obtain⟨a,k,b,rfl,e,j,q⟩:=h;refine⟨_,(lm (ra (lw kC (fy 1) (mJ u3 (by rfl) B.ef (by decide +kernel) (ez (fy 0) fJ)) (dd _)) (lp (jI (kE u1 (fy 0) (fy 1) (λ_ _=>rfl)))) q') (lp (jI eH))),?_⟩;refine⟨_,rfl,_,rfl,a,_,rfl,.inl e,_,_,rfl,rfl,_,rfl,?_⟩;refine eY (λc=>?_) (λc=>?_)
 ·rw[J5]at c;have l:k.toNat<b.length:=by lia
  have m:k=((k.toNat:Nat):Int):=by lia
  have z:dv (b.map V.int) ((k.toNat:Nat):Int)=some (.int b[k.toNat]):=kc (by rw[Kj,Km l]<;>rfl);rw[<-m]at z;exact⟨_,rfl,_,rfl,a,_,_,_,rfl,rfl,e,z,q _⟩
 exact q _
theorem t4 :
  cq P w K mg base "_law_bag" ["_law_cell_here"] 1 (cj K 1 v8):=by
 refine cq.imp (sp:=v7) ?_ (λb H Q E h=>DC h);refine Y.gC.ok (k:=0) Hq (λb H Q E h=>?_) (λf d A a s H b Q E l h=>?_)
 ·obtain⟨c,rfl,q⟩:=h;rfl
 obtain⟨c,rfl,q⟩:=h;refine⟨_,(lp (jI (uP (ez (fw AY (fy 0) (rC uN (by rfl) B.hh (by decide +kernel) (ez (rq uK (fy 0) (fw AZ eH eH) (dd _)) fJ))) (ez (fw lu (fy 0) eH) fJ))))),?_⟩;have e:(10:Int)^((18:Int).toNat)=1000000000000000000:=rfl;walk_at"rd";have g:=Li c (show(2147483647:Int)≠0 by decide);have i:=Lj c (show(0:Int)<2147483647 by decide);rw[e];refine .inr ⟨_,rfl,_,_,rfl,rfl,.inr ?_,?_⟩
 ·split<;>constructor<;>decide
 walk_at"rd";refine λp j=>q p _ _ j ?_ g i;split
 ·rename_i h
  have h:1000000000000000000<=c:=by simpa using h
  lia
 lia
theorem hB :
  cq P w K mg base "_law_digit" ["_law_bag_here","_law_many"] 1 (cj K 2 (v' 400)):=by
 refine cq.imp (sp:=v9 400) ?_ (λj H Q E h=>DD h);refine Y.fF.ok (k:=0) y9 (λj H Q E h=>?_) (λf r A c s H j Q E v h=>?_)
 ·obtain⟨b,m,rfl,⟨x,y,d,e,l,n⟩,a,t,q⟩:=h;rfl
 obtain⟨b,m,rfl,⟨x,y,d,e,l,n⟩,a,t,q⟩:=h;refine⟨_,(lm (ra (lw kD (kE lD (fy 0) eH (λ_ _=>rfl)) eH (dd _)) (lm (ox (i:=2) y9.nd rfl (Kf rfl) (fw lu (kE lD (fy 0) eH (λ_ _=>rfl)) (fy 1))) (lm (re (fw rL (kE lD (fy 0) eH (λ_ _=>rfl)) (fy 1)) (uB (fy 0) eH u2)) (lp (jI (fy 2))))) q') (lm (re (fw lu (fw uJ (fw rK (kE lD (fy 0) eH (λ_ _=>rfl)) eH) eH) eH) (uB (fy 0) eH u2)) (lp (jI (fw lu (fw rL (fw lu (fw rK (kE lD (fy 0) eH (λ_ _=>rfl)) eH) eH) eH) (fy 1)))))),?_⟩;walk_at"rd";refine eY (λg=>?_) (λg=>?_)
 ·walk_at"rd";refine⟨b,_,_,_,rfl,rfl,d,rfl,?_⟩;refine⟨_,rfl,?_⟩;refine q _ _ (mV.upd b H _) ⟨_,_,fq,?_,l,n⟩ (Li _ (by lia)) (Lj _ a);exact Int.fdiv_nonneg e (Kw a)
 have o:=Li (y*48271+11) (show(2147483647:Int)≠0 by decide);have p:=Lj (y*48271+11) (show(0:Int)<2147483647 by decide);walk_at"rd";refine⟨b,_,_,_,rfl,rfl,d,rfl,?_⟩;generalize(y*48271+11)%2147483647=z at o p⊢;have u:(dQ H b (.lst ([V.int x,V.int y].set 1 (V.int z)))) b=some (.lst [.int x,.int z]):=fq;walk_at"rd";refine q _ _ (mV.upd b H _) ⟨_,_,u,e,o,p⟩ (Li _ (by lia)) (Lj _ a)
theorem la :
  cq P w K mg base "_law_point" ["_law_a","_law_b","_law_n"] 2 (cj K 3 Hr):=by
 refine dJ Y.fD mf rfl (λ_ _ _ _ _ _ _ F=>⟨_,(a8 (cu 3 mf.nd (o0 (am 0) (by rfl) B.hC)) (a8 (hQ PassesOwn.never rfl (g1 (e1 (hN (bB (o0 (am 1) (by rfl) B.hC) (bB (am 2) du))))) (cK 4 mf.nd) (bw (vQ PassesOwn.never (d9 (f:=λi j=>decide (j<i)) kD (am 4) a7 (dd _)) (a8 (cu 5 mf.nd (m0 (am 3) (am 4))) (a8 (cu 3 mf.nd (am 4)) (bw (cu 4 mf.nd (am 5)))))))) (bw (cJ (ff (bB (gY (am 0) (am 3)) (bB (gY (am 1) (am 3)) (bB (gY (am 2) (am 3)) du)))))))),?_⟩);rintro G k H ⟨a,b,n,rfl,s,z,p⟩;refine dG rfl ?_;have I:=wB (a:=a) (b:=b) (J8 s);have J:=wC (a:=a) (b:=b) (J8 s) z;have e:hv a b n=g3 a b n:=by unfold hv;rw[No (by lia)]
 have A:((J2 ((J2 a b:Nat):Int) n:Nat):Int)=g3 a b n:=EH a b n
 have p:k (.val (.tup [.int (a.fdiv (g3 a b n)),.int (b.fdiv (g3 a b n)),.int (n.fdiv (g3 a b n))])):=by
  have h:=p;unfold aE cE at h;rwa[e]at h
 walk_at"w";dsimp only[f8,eg]
 have C:∀t u:aM,vM (oW (h4 (kH lB (λi j=>D.int (i.fdiv j)) (fO 0) (fO 3)) (h4 (kH lB (λi j=>D.int (i.fdiv j)) (fO 1) (fO 3)) (h4 (kH lB (λi j=>D.int (i.fdiv j)) (fO 2) (fO 3)) m3)))) {nx:=λx=>k (aM.val D.non),rt:=k} [.val (.int a),.val (.int b),.val (.int n),.val (.int (g3 a b n)),t,u]:=λt u=>by
  generalize g3 a b n=g at *;walk_at"w";exact p
 refine⟨λm c=>∃(x y:Int)(v:aM),c=[.val (.int a),.val (.int b),.val (.int n),.val (.int x),.val (.int y),v]/\0<=x/\0<=y/\J2 x y=J2 a b/\m=y.toNat,⟨_,_,_,_,rfl,?_,?_,vh a b,rfl⟩,?_⟩
 ·split<;>lia
 ·split<;>lia
 rintro m c ⟨x,y,v,rfl,d,q,l,rfl⟩;walk_at"wd";refine eY (λg=>?_) (λg=>?_)
 ·walk_at"wd";have r:=Li x (show y≠0 by lia);have E:=Lj x g;exact⟨_,by lia,_,_,_,rfl,q,r,by rw[rN d g];exact l,rfl⟩
 have e:y=0:=by lia
 subst e;have o:=gcd_zero_left d;rw[l]at o;subst o
 try dsimp only[f8,eg]
 refine⟨λm c=>∃(x y:Int)(v:aM),c=[.val (.int a),.val (.int b),.val (.int n),.val (.int x),.val (.int y),v]/\0<=x/\0<=y/\J2 x y=J2 ((J2 a b:Nat):Int) n/\m=y.toNat,⟨_,_,_,_,rfl,?_,?_,rfl,rfl⟩,?_⟩
 ·exact Int.natCast_nonneg _
 ·lia
 rintro m c ⟨x,y,v,rfl,d,q,l,rfl⟩;walk_at"wd";refine eY (λg=>?_) (λg=>?_)
 ·walk_at"wd";have r:=Li x (show y≠0 by lia);have E:=Lj x g;exact⟨_,by lia,_,_,_,rfl,q,r,by rw[rN d g];exact l,rfl⟩
 have e:y=0:=by lia
 subst e;have o:=gcd_zero_left d;rw[l]at o;subst o;rw[A];exact C _ _
theorem t6 :
  cq P w K mg base "_law_slid" ["_law_p","_law_v"] 3 (cj K 2 Ht):=by
 refine dJ Y.fX Hs rfl (λ_ _ _ _ _ _ _ f=>⟨_,(bw (cJ (bF (la B Y) f (aR (eJ (cx (ei 0) (ei 1)) (cx (ei 1) (ei 0))) (aR (eJ (cx (ei 0) (ei 1)) (cx (ei 1) (ei 0))) (aR (cx (ei 0) (ei 1)) bv)))))),?_⟩);rintro i k j ⟨p,g,rfl,d,e,h⟩;refine dG rfl ?_;have l:=d.bp.a;have m:=d.bp.b;have n:=d.bp.c;have o:=e.bp.a;have q:=e.bp.b;have r:=e.bp.c;walk_at"w";exact⟨_,_,_,rfl,J9 d.pt.1 e.pt.1,by walk_at"bits",h⟩
theorem H4 :
  cq P w K mg base "_law_turned" ["_law_p"] 2 (cj K 1 Hv):=by
 refine dJ Y.fh Hu rfl (λ_ _ _ _ _ _ _ b=>⟨_,(bw (cJ (ff (bB (jh (ei 0)) (bB (jh (ei 0)) (bB (ei 0) du)))))),?_⟩);rintro c k d ⟨p,rfl,a⟩;refine dG rfl ?_;walk_at"w";exact a
theorem t7 :
  cq P w K mg base "_law_side" ["_law_p","_law_q","_law_r"] 2 (cj K 3 Hw):=by
 refine dJ Y.fY qi rfl (λ_ _ _ _ _ _ _ l=>⟨_,(a8 (cu 3 qi.nd (cx (ei 0) (gw (cx (ei 1) (ei 2)) (cx (ei 1) (ei 2))))) (a8 (cu 3 qi.nd (gw (am 3) (cx (ei 0) (gw (cx (ei 1) (ei 2)) (cx (ei 1) (ei 2)))))) (a8 (cu 3 qi.nd (eJ (am 3) (cx (ei 0) (gw (cx (ei 1) (ei 2)) (cx (ei 1) (ei 2)))))) (bw (cJ (gw (vL (rX (f:=λi j=>decide (j<i)) kD (am 3) a7 (dd _)) (by rfl) B.hh) (vL (rX (f:=λi j=>decide (i<j)) kC (am 3) a7 (dd _)) (by rfl) B.hh))))))),?_⟩);rintro m k n ⟨p,q,r,rfl,d,e,g,h⟩;refine dG rfl ?_;have o:=d.a;have s:=d.b;have t:=d.c;have u:=e.a;have v:=e.b;have x:=e.c;have y:=g.a;have z:=g.b;have A:=g.c;rw[<-Fo,<-Fm]at h;walk_at"w";refine .inr ⟨_,rfl,?_⟩;walk_at"w";refine .inr ⟨_,rfl,?_⟩;walk_at"w";simp only[decide_eq_true_eq];exact h
theorem H5 :
  cq P w K mg base "_law_is_point" ["_law_p"] 3 (cj K 1 Hx):=by
 refine dJ Y.eW y' rfl (λ_ _ _ _ _ _ _ h=>⟨_,(a8 (dF (lL (gG (lK (iH (o1 (T:="tuple") (am 0) (by rfl) B.d2 (ou (v:=.ty "tuple") (u:=.type "tuple") (by rfl) B.hI (by decide +kernel) rfl) rfl rfl rfl))) (m2 (d9 (f:=λi j => !decide (i=j)) jV (gy (am 0) (by rfl) B.ef) a7 (dd _))))) (bw (cJ hm)) dE) (a8 (hQ PassesOwn.never rfl (C2 (am 0)) (cK 1 y'.nd) (bw (dF (lL (gG (lK (iH (o1 (T:="int") (am 1) (by rfl) B.d2 (ou (v:=.ty "int") (u:=.type "int") (by rfl) B.hh (by decide +kernel) rfl) rfl rfl rfl))) (m2 (iH (o1 (T:="bool") (am 1) (by rfl) B.d2 (ou (v:=.ty "bool") (u:=.type "bool") (by rfl) B.i8 (by decide +kernel) rfl) rfl rfl rfl))))) (bw (cJ hm)) dE))) (bw (cJ (Cr (rX (f:=λi j=>decide (j<i)) kD (ei 0) a7 (dd _)) (Cq (Dw (h.units) (bF (la B Y) h (aR (ei 0) (aR (ei 0) (aR (ei 0) bv)))) (am 0) (dd _)))))))),?_⟩);rintro q k s ⟨p,rfl,g,m,n⟩;refine dG rfl ?_;have o:=m.c;refine kO (λN d=>?_) ?_
 ·refine⟨_,rfl,_,_,rfl,λ_=>rfl,_,rfl,lA ?_⟩;exact⟨_,rfl,_,rfl,_,_,rfl,rfl,_,rfl,lA d⟩
 refine hq (λa=>∃b,a=[.val (aE p),b]) ?_ (λN d=>?_);rotate_left
 ·refine⟨_,rfl,_,rfl,?_⟩;refine sH (f:=D.int) (rs:=[p.1,p.2.1,p.2.2]) (done:=[]) (λ_ a=>∃b,a=[.val (aE p),b]) ⟨_,rfl⟩ ?_ ?_
  ·rintro pre r l a _ ⟨b,rfl⟩ N d;refine⟨_,rfl,_,_,rfl,λ_=>rfl,_,rfl,lA ?_⟩;exact⟨_,rfl,_,_,rfl,λ_=>rfl,_,rfl,lA (d _ ⟨_,rfl⟩)⟩
  rintro a ⟨b,rfl⟩;exact d _ ⟨_,rfl⟩
 rintro a ⟨b,rfl⟩;refine⟨_,rfl,_,_,_,.inl rfl,rfl,rfl,_,_,rfl,rfl,_,rfl,?_⟩;rw[NZ (show(0:Int)<p.2.2 from g.1)];refine BY ?_;refine⟨_,rfl,_,_,_,.inl rfl,rfl,rfl,_,rfl,_,_,_,.inl rfl,rfl,rfl,_,rfl,_,_,_,.inl rfl,rfl,rfl,rfl,p.1,p.2.1,p.2.2,rfl,g.1,ko o,?_⟩;have e:cE p.1 p.2.1 p.2.2=p:=pu g;rw[e];refine⟨_,rfl,.T [.I,.I,.I],rfl,rfl,by decide,?_⟩;rw[m'];exact n
theorem t8 :
  cq P w K mg base "_law_is_convex" ["_law_ring"] 4 (cj K 1 Hy):=by
 refine dJ Y.eC t1 rfl (λ_ _ _ _ _ _ _ H=>⟨_,(a8 (dF (lL (gG (lK (iH (o1 (T:="list") (am 0) (by rfl) B.d2 (ou (v:=.ty "list") (u:=.type "list") (by rfl) B.hD (by decide +kernel) rfl) rfl rfl rfl))) (m2 (d9 (f:=λi j=>decide (i<j)) kC (gy (am 0) (by rfl) B.ef) a7 (dd _))))) (bw (cJ hm)) dE) (a8 (dF (d9 (f:=λi j=>decide (j<i)) kD (gy (e1 (kT (ts:=["_law_p"]) (fr:=[]) (js:=[]) (g1 (am 0)) (λ_ _ _ _=>(fQ (i:=0) (show Ky (["_law_p"]:OR) by decide +kernel) rfl (Kf rfl))) (λ_ _ _ _=>(ww (lK (iH (bF (H5 B Y) H (aR (am 0) bv)))))) (λ_ _ _ _=>(am 0)) ⟨rfl,by decide +kernel,rfl,by decide +kernel,hr (KI _),hS rfl,by walk_at"ffr",rfl⟩)) (by rfl) B.ef) a7 (dd _)) (bw (cJ hm)) dE) (a8 (hQ PassesOwn.never rfl (jl (gy (am 0) (by rfl) B.ef) (by rfl) B.d8) (cK 1 t1.nd) (bw (hQ PassesOwn.never rfl (jl (gy (am 0) (by rfl) B.ef) (by rfl) B.d8) (cK 2 t1.nd) (bw (dF (lL (iz (d9 (f:=λi j => !decide (i=j)) jV (am 2) (am 1) (dd _)) (Cn (d9 (f:=λi j => !decide (i=j)) jV (am 2) (m0 (eJ (am 1) a7) (gy (am 0) (by rfl) B.ef)) (dd _))))) (bw (dF (d9 (f:=λi j => !decide (i=j)) jV (bF (t7 B Y) H (aR (ea (am 0) (am 1) (λ_ _=>rfl)) (aR (ea (am 0) (m0 (eJ (am 1) a7) (gy (am 0) (by rfl) B.ef)) (λ_ _=>rfl)) (aR (ea (am 0) (am 2) (λ_ _=>rfl)) bv)))) a7 (dd _)) (bw (cJ hm)) dE)) dE))))) (bw (cJ hm))))),?_⟩);rintro ai k S ⟨a,rfl,S,s,I⟩;refine dG rfl ?_;have J:¬dS a->k (.val (.bl false)):=λh=>I false ⟨λz=>(by cases z),λz=>absurd z h⟩;have U:dS a->k (.val (.bl true)):=λh=>I true ⟨λ_=>h,λ_=>rfl⟩;have aj:1000<Np:=by decide
 have cmp:∀{k:OM->Prop}{W:aM}{M:cW}{u:a9},(∀p∈a,∀k:Bool->Prop,k false->M [.val (aE p)] k)->k []->ga (eg 0) M u (a.map aE) [W] k:=λt l=>s1 t l;have y:∀n,n<a.length->dv (a.map aE) (n:Int)=some (aE (bi a n)):=λn h=>pF h;have O:(a.map aE).length=a.length:=J5 ..;generalize a.map aE=L at *;by_cases ao:a.length<3
 ·refine⟨_,rfl,_,_,rfl,λ_=>rfl,_,rfl,lA ?_⟩;walk_at"wd";exact eY (λ_=>J λz=>by have:=z.1;lia) (λg=>absurd g (by lia))
 refine kO (λN b=>?_) ?_
 ·refine⟨_,rfl,_,_,rfl,λ_=>rfl,_,rfl,lA ?_⟩;walk_at"wd";exact eY (λg=>absurd g (by lia)) (λ_=>b)
 refine kO (λN b=>?_) ?_
 ·refine⟨_,rfl,_,rfl,by lia,?_⟩;refine cmp (λp Q aq X=>?_) ?_
  ·refine⟨_,rfl,rfl,p,rfl,(s p Q).pt,(s p Q).bp.mono (by decide),_,rfl,?_⟩;exact X
  walk_at"wd";exact eY (λg=>absurd g (by decide)) (λ_=>b)
 have Z:0<a.length:=by lia
 refine hq (λd=>(∃q c,d=[.val (.lst L),q,c])/\dS a) ?_ (λN b=>?_)
 ·rintro d ⟨⟨q,c,rfl⟩,vs⟩;exact U vs
 refine⟨_,rfl,_,rfl,_,rfl,by lia,by lia,?_⟩;rw[show((L.length:Nat):Int).toNat=a.length by lia];refine j8 (λi d=>(∃q c,d=[.val (.lst L),q,c])/\∀k j,k<i->j<a.length->j≠k->j≠(k+1)%a.length->bt (az (bi a k) (bi a ((k+1)%a.length)) (bi a j))=1) ⟨⟨_,_,rfl⟩,λk j h=>absurd h (by lia)⟩ ?_ ?_
 ·rintro i d A ⟨⟨q,c,rfl⟩,C⟩ N b;have R:(i+1)%a.length<a.length:=Lf _ Z;refine⟨_,rfl,_,rfl,_,rfl,by lia,by lia,?_⟩;rw[show((L.length:Nat):Int).toNat=a.length by lia];refine j8 (λm d=>(∃c,d=[.val (.lst L),.val (.int i),c])/\∀j,j<m->j≠i->j≠(i+1)%a.length->bt (az (bi a i) (bi a ((i+1)%a.length)) (bi a j))=1) ⟨⟨_,rfl⟩,λj h=>absurd h (by lia)⟩ ?_ ?_
  ·rintro j d E ⟨⟨c,rfl⟩,F⟩ N b
   have G:∀N:OL->Prop,(∀r,(∃c,r=[.val (.lst L),.val (.int i),c])/\(∀m,m<j+1->m≠i->m≠(i+1)%a.length->bt (az (bi a i) (bi a ((i+1)%a.length)) (bi a m))=1)->N r)->(j≠i->j≠(i+1)%a.length->bt (az (bi a i) (bi a ((i+1)%a.length)) (bi a j))=1)->N [.val (.lst L),.val (.int i),.val (.int j)]:=λN b h=>b _ ⟨⟨_,rfl⟩,λm t l o=>by
    by_cases e:m=j
    ·subst e;exact h l o
    exact F m (by lia) l o⟩
   walk_at"wd";refine mU (λaf=>?_) (λaf=>?_)
   ·refine⟨_,rfl,_,rfl,_,_,rfl,rfl,_,rfl,_,rfl,_,_,rfl,rfl,by show(0:Int)<(L.length:Nat);lia,_,_,rfl,rfl,_,rfl,?_⟩;dsimp only;rw[O,wW];refine mU (λag=>?_) (λag=>?_)
    ·refine⟨_,rfl,_,rfl,_,_,_,.inr rfl,rfl,y i A,_,rfl,_,rfl,_,_,rfl,rfl,_,rfl,_,rfl,_,_,rfl,rfl,by show(0:Int)<(L.length:Nat);lia,_,_,_,.inr rfl,rfl,(by rw[O,wW];exact y _ R),_,rfl,_,rfl,_,_,_,.inr rfl,rfl,y j E,rfl,bi a i,bi a ((i+1)%a.length),bi a j,rfl,(s _ (hT A)).bp.mono (by decide),(s _ (hT R)).bp.mono (by decide),(s _ (hT E)).bp.mono (by decide),?_⟩;walk_at"wd";refine mU (λg3=>?_) (λg3=>?_)
     ·exact J λz=>g3 (z.2 i j A E (by lia) (by lia))
     exact G _ b λ_ _=>g3
    exact G _ b λ_ h=>absurd (by lia) h
   refine g4 rfl ?_;exact G _ b λh=>absurd (by lia) h
  rintro d ⟨⟨c,rfl⟩,F⟩
  exact b _ ⟨⟨_,_,rfl⟩,λk j t l o x=>by
   by_cases e:k=i
   ·subst e;exact F j l o x
   exact C k j (by lia) l o x⟩
 rintro d ⟨⟨q,c,rfl⟩,C⟩;exact b _ ⟨⟨_,_,rfl⟩,by lia,λk j t l o x=>C k j t l o x⟩
theorem qn :
  cq P w K mg base "_law_within" ["_law_ring","_law_p"] 3 (cj K 2 Hz):=by
 refine dJ Y.fe n' rfl (λ_ _ _ _ _ _ _ u=>⟨_,(a8 (cu 2 n'.nd a7) (a8 (hQ PassesOwn.never rfl (jl (gy (am 0) (by rfl) B.ef) (by rfl) B.d8) (cK 3 n'.nd) (a8 (cu 4 n'.nd (bF (t7 B Y) u (aR (ea (am 0) (gw (am 3) a7) (λ_ _=>rfl)) (aR (ea (am 0) (am 3) (λ_ _=>rfl)) (aR (am 1) bv))))) (a8 (dF (d9 (f:=λi j=>decide (i<j)) kC (am 4) a7 (dd _)) (bw (cJ a7)) dE) (bw (dF (d9 (f:=λi j=>decide (i=j)) lC (am 4) a7 (dd _)) (bw (cu 2 n'.nd (jh a7))) dE))))) (bw (cJ (am 2))))),?_⟩);rintro G k v ⟨ps,s,rfl,v,n,y,o⟩;refine dG rfl ?_;refine hq (λb=>b=[.val (.lst (ps.map aE)),.val (aE s),.val (.int 1),.no,.no]) ?_ (λN c=>c _ rfl);rintro b rfl;refine hq (λb=>∃am d:aM,b=[.val (.lst (ps.map aE)),.val (aE s),.val (.int (wi ps s)),am,d]) ?_ (λN c=>?_)
 ·rintro b ⟨am,d,rfl⟩;exact⟨_,rfl,o⟩
 refine⟨_,rfl,_,rfl,_,rfl,by lia,by rw[J5];lia,?_⟩;rw[J5,show((ps.length:Nat):Int).toNat=ps.length by lia];refine j8 (λi b=>∃(am d:aM)(x:Int),b=[.val (.lst (ps.map aE)),.val (aE s),.val (.int x),am,d]/\((x=1/\∀e∈(ba ps).take i,0<az e.1 e.2 s)\/(x = -1/\(∀e∈(ba ps).take i,0<=az e.1 e.2 s)/\∃e∈(ba ps).take i,az e.1 e.2 s=0))) ⟨_,_,1,rfl,.inl ⟨rfl,by simp⟩⟩ ?_ ?_;rotate_left
 ·rintro b ⟨am,d,x,rfl,h⟩;rw[Gk]at h;rcases h with⟨rfl,h⟩|⟨rfl,h,z⟩
  ·exact c _ ⟨_,_,by rw[pY h]⟩
  exact c _ ⟨_,_,by rw[Gi h z]⟩
 rintro i b m ⟨am,d,x,rfl,r⟩ N c;have l:=Gj m;have A:=(n _ (hT (ps:=ps) (Lf (i+ps.length-1) (show 0<ps.length by lia)))).bp.mono (show 700<=4000 by decide);have C:=(n _ (hT m)).bp.mono (show 700<=4000 by decide);refine⟨_,rfl,_,rfl,_,_,rfl,rfl,_,_,_,.inr rfl,rfl,w2 m,?_⟩;refine⟨_,rfl,_,rfl,_,_,_,.inr rfl,rfl,pF m,?_⟩;have mem:(bi ps ((i+ps.length-1)%ps.length),bi ps i)∈ba ps:=Nj (i:=i+1) (by rw[l];simp);generalize bi ps ((i+ps.length-1)%ps.length)=p at *;generalize bi ps i=q at *;refine⟨_,rfl,rfl,p,q,s,rfl,A,C,y,?_⟩;dsimp only[h6];by_cases neg:az p q s<0
 ·have lt:bt (az p q s)<0:=by unfold bt;rw[No (by lia),M2 neg];decide
  refine⟨_,rfl,_,_,rfl,rfl,_,rfl,eY (λ_=>?_) (λg=>absurd lt g)⟩;rwa[l4 λz=>by have this:0<=az p q s:=z _ mem;lia]at o
 refine kO (λN c=>?_) ?_
 ·have H:=th.mpr (show 0<=az p q s by lia);exact⟨_,rfl,_,_,rfl,rfl,_,rfl,eY (λg=>absurd g (by lia)) (λ_=>c)⟩
 refine⟨_,rfl,_,_,rfl,rfl,_,rfl,eY (λg=>?_) (λg=>?_)⟩
 ·have E:=(x3 _).mp g;refine⟨_,rfl,c _ ⟨.val (.int i),.val (.int (bt (az p q s))),-1,rfl,.inr ⟨rfl,λe a=>?_,(p,q),by rw[l];simp,E⟩⟩⟩;rw[l]at a;rcases Kc.mp a with a|a
  ·rcases r with⟨_,h⟩|⟨_,h,_⟩
   ·exact Kw (h e a)
   exact h e a
  rw[Ks.mp a];show 0<=az p q s;lia
 have t:0<az p q s:=by
  have:az p q s≠0:=λz=>g ((x3 _).mpr z);lia
 refine c _ ⟨.val (.int i),.val (.int (bt (az p q s))),x,rfl,?_⟩;rcases r with⟨rfl,h⟩|⟨rfl,h,z⟩
 ·refine .inl ⟨rfl,λe a=>?_⟩;rw[l]at a;rcases Kc.mp a with a|a
  ·exact h e a
  rw[Ks.mp a];exact t
 refine .inr ⟨rfl,λe a=>?_,?_⟩
 ·rw[l]at a;rcases Kc.mp a with a|a
  ·exact h e a
  rw[Ks.mp a];exact Kw t
 obtain⟨e,a,F⟩:=z;exact⟨e,by rw[l];exact Ku _ a,F⟩
theorem zk :
  cq P w K mg base "_law_twice_area" ["_law_ring"] 3 (cj K 1 HA):=by
 refine dJ Y.eu kk rfl (λ_ _ _ _ _ _ _ u=>⟨_,(a8 (cu 1 kk.nd a7) (a8 (cu 2 kk.nd a7) (a8 (hQ PassesOwn.never rfl (jl (gy (am 0) (by rfl) B.ef) (by rfl) B.d8) (cK 3 kk.nd) (a8 (cu 4 kk.nd (ea (am 0) (gw (am 3) a7) (λ_ _=>rfl))) (a8 (cu 5 kk.nd (ea (am 0) (am 3) (λ_ _=>rfl))) (a8 (cu 1 kk.nd (eJ (cx (cx (am 1) (ei 4)) (ei 5)) (cx (gw (cx (ei 4) (ei 5)) (cx (ei 4) (ei 5))) (am 2)))) (bw (cu 2 kk.nd (cx (cx (am 2) (ei 4)) (ei 5)))))))) (bw (cJ (bF (la B Y) u (aR (am 1) (aR a7 (aR (am 2) bv))))))))),?_⟩);rintro A k v ⟨ps,rfl,v,C,n,x⟩;refine dG rfl ?_
 have tok:∀j,j<=ps.length->0<(ta ps j).2/\KM (ta ps j).1<=3400/\KM (ta ps j).2<=3400:=λj y=>by
  obtain⟨l,o,m⟩:=w1 n j y;have:(2*149+2)*j+1<=3400:=by lia
  exact⟨l,J4 o this,J4 m this⟩
 refine hq (λd=>d=[.val (.lst (ps.map aE)),.val (.int 0),.no,.no,.no,.no]) ?_ (λN f=>f _ rfl);rintro d rfl;refine hq (λd=>d=[.val (.lst (ps.map aE)),.val (.int 0),.val (.int 1),.no,.no,.no]) ?_ (λN f=>f _ rfl);rintro d rfl;refine hq (λd=>∃am g h:aM,d=[.val (.lst (ps.map aE)),.val (.int (ta ps ps.length).1),.val (.int (ta ps ps.length).2),am,g,h]) ?_ (λN f=>?_)
 ·rintro d ⟨am,g,h,rfl⟩;obtain⟨l,o,m⟩:=tok ps.length (J7 _);exact⟨_,rfl,_,rfl,rfl,_,0,_,rfl,l,ko m,x⟩
 refine⟨_,rfl,_,rfl,_,rfl,by lia,by rw[J5];lia,?_⟩;rw[J5,show((ps.length:Nat):Int).toNat=ps.length by lia];refine j8 (λi d=>∃am g h:aM,d=[.val (.lst (ps.map aE)),.val (.int (ta ps i).1),.val (.int (ta ps i).2),am,g,h]) ⟨_,_,_,rfl⟩ ?_ (λd ⟨am,g,h,e⟩=>f _ ⟨_,_,_,e⟩);rintro i d r ⟨am,g,h,rfl⟩ N f;obtain⟨l,o,m⟩:=tok i (by lia);have s:=n _ (hT (ps:=ps) (Lf (i+ps.length-1) (show 0<ps.length by lia)));have t:=n _ (hT r);have z:=w0 ps i;refine⟨_,rfl,_,rfl,_,_,rfl,rfl,_,_,_,.inr rfl,rfl,w2 r,_,rfl,_,rfl,_,_,_,.inr rfl,rfl,pF r,?_⟩;generalize bi ps ((i+ps.length-1)%ps.length)=p at *;generalize bi ps i=q at *;have E:=s.bp.a;have F:=s.bp.b;have G:=s.bp.c;have H:=t.bp.a;have I:=t.bp.b;have J:=t.bp.c;walk_at"w";exact f _ ⟨.val (.int i),.val (aE p),.val (aE q),by rw[z];rfl⟩
theorem H7 :
  cq P w K mg base "_law_added" ["_law_one","_law_other"] 3 (cj K 2 HC):=by
 refine dJ Y.fH HB rfl (λ_ _ _ _ _ _ _ e=>⟨_,(bw (cJ (bF (la B Y) e (aR (eJ (cx (ei 0) (ei 1)) (cx (ei 1) (ei 0))) (aR a7 (aR (cx (ei 0) (ei 1)) bv)))))),?_⟩);rintro i k j ⟨p,q,rfl,f,g,b,d,h⟩;refine dG rfl ?_;have l:=b.a;have m:=b.c;have n:=d.a;have o:=d.c;walk_at"w";exact⟨_,_,_,rfl,J9 f g,by walk_at"bits",h⟩
theorem zl :
  cq P w K mg base "_law_place" ["_law_bag_here","_law_most"] 3 (cj K 2 HD):=by
 refine dJ Y.fE za rfl (λ_ _ _ _ _ _ _ a=>⟨_,(a8 (cu 2 za.nd (ea (e1 (hN (bB a7 (bB a7 (bB a7 (bB a7 (bB a7 du))))))) (bF (hB B Y) a (fg 0 (aR a7 bv))) (λ_ _=>rfl))) (bw (cJ (bF (la B Y) a (aR (bF (hB B Y) a (fg 0 (aR (eJ (cx (am 1) (am 2)) a7) bv))) (aR (bF (hB B Y) a (fg 0 (aR (eJ (cx (am 1) (am 2)) a7) bv))) (aR (am 2) bv))))))),?_⟩);rintro i k j ⟨rfl,c⟩;refine dG rfl ?_;refine⟨by show 5<=Np;decide,?_⟩;walk_at"w";intro r d e
 obtain⟨n,b,l,f⟩:∃n:Int,dv [D.int 1,D.int 1,D.int 1,D.int 2,D.int 3] r=some (.int n)/\1<=n/\n<=3:=by
  obtain rfl|rfl|rfl|rfl|rfl:r=0\/r=1\/r=2\/r=3\/r=4:=by lia
  ·exact⟨1,rfl,by decide,by decide⟩
  ·exact⟨1,rfl,by decide,by decide⟩
  ·exact⟨1,rfl,by decide,by decide⟩
  ·exact⟨2,rfl,by decide,by decide⟩
  exact⟨3,rfl,by decide,by decide⟩
 refine⟨_,_,_,.inr rfl,rfl,b,?_⟩;clear b d e r;walk_at"w";intro x g m;walk_at"w";intro y h o;walk_at"w";refine⟨_,_,_,rfl,by lia,by walk_at"bits",?_⟩;exact c (nP (x,y,n)) ⟨⟨gc (p:=(x,y,n)) (by show n≠0;lia),bQ.nP (p:=(x,y,n)) ⟨l6 (x:=x) (by lia) (by lia),l6 (x:=y) (by lia) (by lia),l6 (x:=n) (by lia) (by lia)⟩ (by show n≠0;lia)⟩,GK (by lia) (GN (by lia) f) g (by lia) h (by lia)⟩
theorem zm :
  cq P w K mg base "_law_step" ["_law_bag_here","_law_most"] 3 (cj K 2 HE):=by
 refine dJ Y.fU zb rfl (λ_ _ _ _ _ _ _ a=>⟨_,(a8 (cu 2 zb.nd (ea (e1 (hN (bB a7 (bB a7 (bB a7 (bB a7 du)))))) (bF (hB B Y) a (fg 0 (aR a7 bv))) (λ_ _=>rfl))) (bw (cJ (bF (la B Y) a (aR (gw (bF (hB B Y) a (fg 0 (aR (eJ (cx a7 (am 1)) a7) bv))) (am 1)) (aR (gw (bF (hB B Y) a (fg 0 (aR (eJ (cx a7 (am 1)) a7) bv))) (am 1)) (aR (am 2) bv))))))),?_⟩);rintro f k g ⟨m,rfl,h,c⟩;refine dG rfl ?_;walk_at"w";intro r d e
 obtain⟨n,b,i,j⟩:∃n:Int,dv [D.int 1,D.int 1,D.int 2,D.int 5] r=some (.int n)/\1<=n/\n<=5:=by
  obtain rfl|rfl|rfl|rfl:r=0\/r=1\/r=2\/r=3:=by lia
  ·exact⟨1,rfl,by decide,by decide⟩
  ·exact⟨1,rfl,by decide,by decide⟩
  ·exact⟨2,rfl,by decide,by decide⟩
  exact⟨5,rfl,by decide,by decide⟩
 refine⟨_,_,_,.inr rfl,rfl,b,?_⟩;clear b d e r;walk_at"w";intro x l o;walk_at"w";intro y q s;walk_at"w";refine⟨_,_,_,rfl,by lia,by walk_at"bits",?_⟩;exact c (nP (x-m,y-m,n)) ⟨gc (p:=(x-m,y-m,n)) (by show n≠0;lia),bQ.nP (p:=(x-m,y-m,n)) ⟨l6 (x:=x-m) (by lia) (by lia),l6 (x:=y-m) (by lia) (by lia),l6 (x:=n) (by lia) (by lia)⟩ (by show n≠0;lia)⟩
theorem H8 :
  cq P w K mg base "_law_three" ["_law_bag_here","_law_most"] 4 (cj K 2 HF):=by
 refine dJ Y.fx t2 rfl (λ_ _ _ _ _ _ _ l=>⟨_,(a8 (pr 2 (nv (i:=2) t2.nd rfl rfl (ts:=["_law_k"]) (fr:=["_law_bag_here","_law_most"]) (js:=[0,1]) (jl a7 (by rfl) B.d8) (λ_ _ _ _=>(fQ (i:=0) (show Ky (["_law_k","_law_bag_here","_law_most"]:OR) by decide +kernel) rfl (Kf rfl))) (λ_ _ _ _=>iO) (λ_ _ _ _=>(bF (zl B Y) l (fg 1 (aR (am 2) bv)))) ⟨rfl,by decide +kernel,rfl,by decide +kernel,hr (KS.mpr ⟨rfl,(KS.mpr ⟨rfl,(KI _)⟩)⟩),hS rfl,by walk_at"ffr",rfl⟩)) (a8 (cu 3 t2.nd (bF (t7 B Y) l (aR (ei 2) (aR (ei 2) (aR (ei 2) bv))))) (a8 (dF (d9 (f:=λi j=>decide (i=j)) lC (am 3) a7 (dd _)) (bw (r3 (hN (bB (ff (bB a7 (bB a7 (bB a7 du)))) (bB (ff (bB (am 1) (bB a7 (bB a7 du)))) (bB (ff (bB a7 (bB (am 1) (bB a7 du)))) du)))))) dE) (bw (r3 (EU (am 2) (am 3))))))),?_⟩);rintro F k G ⟨rfl,e⟩;refine dG rfl ?_;refine⟨_,rfl,by decide,by decide,hf,?_⟩;refine wX (Pp:=iW) (fs:=[.bag,.val (.int 6)]) (λd H I o=>?_) (λm t h=>?_)
 ·exact⟨rfl,_,rfl,rfl,rfl,o⟩
 obtain⟨p,q,r,rfl⟩:∃p q r,m=[p,q,r]:=by
  match m,t with
  |[p,q,r],_=>exact⟨p,q,r,rfl⟩
 have M:∀x∈[p,q,r],bQ 4000 x:=λx c=>(h x c).1.bp.mono (by decide);refine⟨_,rfl,_,rfl,_,_,_,.inr rfl,rfl,rfl,_,rfl,_,_,_,.inr rfl,rfl,rfl,_,rfl,_,_,_,.inr rfl,rfl,rfl,rfl,p,q,r,rfl,M p (by simp),M q (by simp),M r (by simp),?_⟩;walk_at"wd";refine eY (λg=>?_) (λg=>?_)
 ·refine⟨hf,_,rfl,hf,_,rfl,hf,hf,?_⟩;refine e [(0,0,1),(6,1,1),(1,6,1)] rfl (s0 (by decide)) λx c=>?_;have s:∀a b n:Int,0<n->J2 (J2 a b:Nat) n=1->KM a<=6->KM b<=6->KM n<=6->io 6 (a,b,n)->iW (a,b,n):=λa b n u v y A C E=>⟨⟨⟨u,v⟩,y,A,C⟩,E⟩;rcases J6.mp c with rfl|c
  ·exact s _ _ _ (by decide) (by decide) (by decide) (by decide) (by decide) (tP ⟨by decide,by decide⟩ ⟨6,rfl⟩ (by decide) (by decide) (by decide) (by decide))
  rcases J6.mp c with rfl|c
  ·exact s _ _ _ (by decide) (by decide) (by decide) (by decide) (by decide) (tP ⟨by decide,by decide⟩ ⟨6,rfl⟩ (by decide) (by decide) (by decide) (by decide))
  rcases J6.mp c with rfl|c
  ·exact s _ _ _ (by decide) (by decide) (by decide) (by decide) (by decide) (tP ⟨by decide,by decide⟩ ⟨6,rfl⟩ (by decide) (by decide) (by decide) (by decide))
  simp at c
 refine⟨_,rfl,_,rfl,_,rfl,?_,_,rfl,?_⟩
 ·rcases wY (az p q r)with z|z|z
  ·exact .inl z
  ·exact .inr z
  exact absurd z g
 rcases wY (az p q r)with z|z|z
 ·rw[z];exact e [p,q,r] rfl (s0 z) h
 ·rw[z];refine e [r,q,p] rfl (s0 (by rw[Fp,Fl,z];rfl)) λx c=>h x ?_;simp at c⊢;rcases c with rfl|rfl|rfl<;>simp
 exact absurd z g
theorem H' :
  cq P w K mg base "_law_bulging" ["_law_bag_here","_law_most"] 5 (cj K 2 HG):=by
 refine dJ Y.e5 k8 rfl (λ_ _ _ _ _ _ _ n=>⟨_,(a8 (cu 2 k8.nd (bF (H8 B Y) n (fg 0 (aR (am 1) bv)))) (a8 (hQ PassesOwn.never rfl (jl (bF (hB B Y) n (fg 0 (aR a7 bv))) (by rfl) B.d8) (cK 3 k8.nd) (a8 (cu 4 k8.nd (bF (zl B Y) n (fg 0 (aR (am 1) bv)))) (bw (hQ PassesOwn.never rfl (jl (gy (am 2) (by rfl) B.ef) (by rfl) B.d8) (cK 5 k8.nd) (a8 (cu 6 k8.nd (e1 (r6 (e1 (r6 (e1 (r5 (am 2) vR (o6 (am 5)))) (e1 (hN (bB (am 4) du))))) (e1 (r5 (am 2) (o6 (am 5)) vR))))) (bw (dF (iH (bF (t8 B Y) n (aR (am 6) bv))) (a8 (cu 2 k8.nd (am 6)) (bw CP)) dE))))))) (bw (cJ (am 2))))),?_⟩);rintro E k l ⟨rfl,v⟩;refine dG rfl ?_;refine⟨rfl,_,rfl,rfl,rfl,λa l g c=>?_⟩;dsimp only[h6];refine hq (λd=>∃(a:OJ)(am m e f:aM),d=[.bag,.val (.int 6),.val (.lst (a.map aE)),am,m,e,f]/\a.length<=5/\dS a/\∀p∈a,iW p) ?_ (λN o=>?_)
 ·rintro d ⟨a,am,m,e,f,rfl,l,g,c⟩;exact⟨_,rfl,v a l g c⟩
 refine⟨rfl,rfl,3,rfl,by decide,by decide +kernel,λr F G=>?_⟩;refine⟨_,rfl,by lia,by lia,?_⟩;refine j8 (λi d=>∃(a:OJ)(am m e f:aM),d=[.bag,.val (.int 6),.val (.lst (a.map aE)),am,m,e,f]/\a.length<=3+i/\dS a/\∀p∈a,iW p) ⟨a,_,_,_,_,rfl,by lia,g,c⟩ ?_ ?_
 ·clear l g c a;rintro i d H ⟨a,am,m,e,f,rfl,l,g,c⟩ N o;refine⟨rfl,_,rfl,rfl,rfl,λp y=>?_⟩;dsimp only[h6];refine⟨_,rfl,_,rfl,_,rfl,by lia,by rw[J5];lia,?_⟩;rw[J5,show((a.length:Nat):Int).toNat=a.length by lia];refine j8 (λj d=>∃e f,d=[.bag,.val (.int 6),.val (.lst (a.map aE)),.val (.int i),.val (aE p),e,f]) ⟨_,_,rfl⟩ ?_ ?_
  ·rintro j d I ⟨e,f,rfl⟩ J z;have L:1000<=Np:=by decide
   have A:f9 (a.map aE) none (some (j:Int))=(a.take j).map aE:=by rw[EF (by lia) (by rw[J5];lia),<-List.map_take];rfl
   have s:f9 (a.map aE) (some (j:Int)) none=(a.drop j).map aE:=by rw[EE (by lia) (by rw[J5];lia),<-List.map_drop];rfl
   have em:(a.take j).map aE++[aE p]++(a.drop j).map aE=(a.take j++p::a.drop j).map aE:=by simp
   walk_at"w";rw[A];refine⟨by simp only[J5,Lm,Kk,LW];lia,?_⟩;refine⟨_,rfl,_,rfl,_,rfl,_,rfl,_,_,rfl,rfl,by rw[s];simp only[Kh,J5,Lm,LM,Kk,LW];lia,?_⟩;dsimp only;rw[s,em]
   have t:∀x∈a.take j++p::a.drop j,iW x:=λx q=>by
    rcases Kc.mp q with h|h
    ·exact c x (Nj h)
    rcases J6.mp h with rfl|h
    ·exact y
    exact c x (List.mem_of_mem_drop h)
   have M:(a.take j++p::a.drop j).length=a.length+1:=by simp only[Kh,Lm,LM,Kk];lia
   generalize a.take j++p::a.drop j=u at *;refine⟨_,rfl,rfl,u,rfl,by lia,λx q=>(t x q).1.mono (by decide),λb C=>⟨_,rfl,?_⟩⟩;cases b with
   |true=>exact⟨_,rfl,o _ ⟨u,_,_,_,_,rfl,by lia,C.mp rfl,t⟩⟩
   |false=>exact z _ ⟨_,_,rfl⟩
  rintro d ⟨e,f,rfl⟩;exact o _ ⟨a,_,_,_,_,rfl,by lia,g,c⟩
 rintro d ⟨a,am,m,e,f,rfl,l,g,c⟩;exact o _ ⟨a,_,_,_,_,rfl,by lia,g,c⟩
theorem Ib :
  cq P w K mg base "_law_spot" ["_law_bag_here","_law_most"] 3 (cj K 2 HH):=by
 refine dJ Y.fW zc rfl (λ_ _ _ _ _ _ _ a=>⟨_,(a8 (cu 2 zc.nd (eJ a7 (bF (hB B Y) a (fg 0 (aR a7 bv))))) (bw (cJ (bF (la B Y) a (aR (gw (bF (hB B Y) a (fg 0 (aR (eJ (cx (eJ (am 1) a7) (am 2)) a7) bv))) (am 2)) (aR (gw (bF (hB B Y) a (fg 0 (aR (eJ (cx (eJ (am 1) a7) (am 2)) a7) bv))) (am 2)) (aR (am 2) bv))))))),?_⟩);rintro c k d ⟨rfl,b⟩;refine dG rfl ?_;walk_at"w";intro r e f;walk_at"w";intro x g h;walk_at"w";intro y i j;walk_at"w";refine⟨_,_,_,rfl,by lia,by walk_at"bits",?_⟩;exact b (nP (x-(1+r),y-(1+r),1+r)) ⟨gc (p:=(x-(1+r),y-(1+r),1+r)) (by show 1+r≠0;lia),bQ.nP (p:=(x-(1+r),y-(1+r),1+r)) ⟨mW (x:=x-(1+r)) (by lia) (by lia),mW (x:=y-(1+r)) (by lia) (by lia),mW (x:=1+r) (by lia) (by lia)⟩ (by show 1+r≠0;lia)⟩
theorem Ic :
  cq P w K mg base "_law_led" ["_law_piece","_law_p"] 4 (cj K 2 HI):=by
 refine dJ Y.gB zd rfl (λ_ _ _ _ _ _ _ c=>⟨_,(a8 (dF (iH (ei 0)) (bw (cu 1 zd.nd (bF (H4 B Y) c (aR (am 1) bv)))) dE) (bw (cJ (bF (t6 B Y) c (aR (am 1) (aR (ei 0) bv)))))),?_⟩);rintro i k j ⟨m,z,rfl,h,d,e⟩;refine dG rfl ?_;unfold k3 at e;refine hq (λf=>f=[.val (cl m),.val (aE (if m.2.1=true then dO z else z))]) ?_ (λN a=>?_);rotate_left
 ·refine⟨_,rfl,_,1,_,.inl rfl,rfl,rfl,_,rfl,?_⟩;by_cases b:m.2.1=true
  ·rw[M2 b]at a;refine jq b ⟨_,rfl,rfl,_,rfl,?_⟩;exact a _ rfl
  rw[No b]at a;exact g4 (by simpa using b) (a _ rfl)
 rintro f rfl
 have g:cr 200 (if m.2.1=true then dO z else z):=by
  split
  ·exact d.trn
  exact d
 exact⟨_,rfl,_,rfl,_,2,_,.inl rfl,rfl,rfl,rfl,_,m.2.2,rfl,g.mono (by decide),h.mono (by decide),e⟩
theorem oa :
  cq P w K mg base "greatest_divisor" ["one","other"] 2 (cj K 2 HJ):=by
 refine dJ Y.er qj rfl (λ_ _ _ _ _ _ _ o=>⟨_,(a8 (cu 0 qj.nd (o0 (am 0) (by rfl) B.hC)) (a8 (cu 1 qj.nd (o0 (am 1) (by rfl) B.hC)) (a8 (vQ PassesOwn.never (d9 (f:=λi j => !decide (i=j)) jV (am 1) a7 (dd _)) (bw (CW (i:=0) (j:=1) rfl qj.nd rfl rfl (by decide) rfl rfl (bB (am 1) (bB (m0 (am 0) (am 1)) du)) rfl))) (bw (cJ (am 0)))))),?_⟩);rintro p k q ⟨a,b,rfl,h⟩;refine dG rfl ?_;walk_at"wd";refine⟨λm c=>∃(x y:Int),c=[.val (.int x),.val (.int y)]/\0<=x/\0<=y/\J2 x y=J2 a b/\m=y.toNat,⟨_,_,_,rfl,?_,?_,vh a b,rfl⟩,?_⟩
 ·split<;>lia
 ·split<;>lia
 rintro m c ⟨x,y,rfl,d,l,e,rfl⟩;walk_at"wd";refine mU (λg=>?_) (λg=>?_)
 ·have g:0<y:=by lia
  walk_at"wd";have n:=Li x (show y≠0 by lia);have r:=Lj x g;exact⟨_,_,rfl,_,by lia,_,_,rfl,l,n,by rw[rN d g];exact e,rfl⟩
 subst g;refine⟨_,rfl,?_⟩;rw[<-gcd_zero_left d,e];exact h
theorem Ie :
  cq P w K mg base "point" ["a","b","n"] 3 (cj K 3 HK):=by
 refine dJ Y.hj t3 rfl (λ_ _ _ _ _ _ _ d=>⟨_,(a8 (dF (d9 (f:=λi j=>decide (i=j)) lC (am 2) a7 (dd _)) (bw vP) dE) (a8 (cu 3 t3.nd (bF (oa B Y) d (aR (bF (oa B Y) d (aR (am 2) (aR (am 0) bv))) (aR (am 1) bv)))) (a8 (dF (d9 (f:=λi j=>decide (i<j)) kC (am 2) a7 (dd _)) (bw (cu 3 t3.nd (jh (am 3)))) dE) (bw (cJ (ff (bB (gY (am 0) (am 3)) (bB (gY (am 1) (am 3)) (bB (gY (am 2) (am 3)) du))))))))),?_⟩);rintro p k q ⟨a,b,n,rfl,c,m,o⟩;refine dG rfl ?_;walk_at"wd";refine eY (λg=>absurd g c) (λ_=>?_);walk_at"w";refine⟨_,_,rfl,?_⟩;walk_at"w";refine⟨_,_,rfl,?_⟩;dsimp only[h6];have r:=wB (a:=a) (b:=b) c;have e:=wC (a:=a) (b:=b) c m;rw[EI a b n];refine hq (λh=>h=[.val (.int a),.val (.int b),.val (.int n),.val (.int (hv a b n))]) ?_ (λN l=>?_)
 ·rintro h rfl;have s:hv a b n≠0:=by unfold hv;split<;>lia
  have t:KM (hv a b n)<=9000:=by
   unfold hv;split
   ·exact Nv e
   exact e
  walk_at"w";exact o
 walk_at"wd";refine eY (λg=>?_) (λg=>?_)
 ·walk_at"w";refine l _ ?_;unfold hv;rw[M2 g];rfl
 refine l _ ?_;unfold hv;rw[No g];rfl
theorem qo :
  cq P w K mg base "crossed" ["one","other"] 2 (cj K 2 HL):=by
 refine dJ Y.gE k9 rfl (λ_ _ _ _ _ _ _ g=>⟨_,(a8 (jk (am 0) (ho (n:=3) rfl (c4 (cK 2 k9.nd) (c4 (cK 3 k9.nd) (c4 (cK 4 k9.nd) hn))))) (a8 (jk (am 1) (ho (n:=3) rfl (c4 (cK 5 k9.nd) (c4 (cK 6 k9.nd) (c4 (cK 7 k9.nd) hn))))) (bw (cJ (ff (bB (gw (cx (am 3) (am 7)) (cx (am 4) (am 6))) (bB (gw (cx (am 4) (am 5)) (cx (am 2) (am 7))) (bB (gw (cx (am 2) (am 6)) (cx (am 3) (am 5))) du)))))))),?_⟩);rintro h k i ⟨p,q,rfl,d,e,f⟩;refine dG rfl ?_;have j:=d.a;have l:=d.b;have m:=d.c;have o:=e.a;have r:=e.b;have s:=e.c;walk_at"w";refine⟨_,_,rfl,_,_,rfl,_,_,rfl,rfl,?_⟩;walk_at"w";refine⟨_,_,rfl,_,_,rfl,_,_,rfl,rfl,?_⟩;walk_at"w";exact f
theorem Ig :
  cq P w K mg base "hand_of" ["line","p"] 2 (cj K 2 HM):=by
 refine dJ Y.gD ze rfl (λ_ _ _ _ _ _ _ m=>⟨_,(a8 (cu 2 ze.nd (eJ (eJ (cx (ei 0) (ei 1)) (cx (ei 0) (ei 1))) (cx (ei 0) (ei 1)))) (a8 (dF (d9 (f:=λi j=>decide (j<i)) kD (am 2) a7 (dd _)) (bw (cJ a7)) dE) (a8 (dF (d9 (f:=λi j=>decide (i<j)) kC (am 2) a7 (dd _)) (bw (cJ (jh a7))) dE) (bw (cJ a7))))),?_⟩);rintro n k o ⟨c,r,rfl,e,h,d⟩;refine dG rfl ?_;have p:=e.a;have q:=e.b;have s:=e.c;have t:=h.a;have u:=h.b;have v:=h.c;walk_at"wd";unfold bt at d;refine eY (λg=>?_) (λg=>?_)
 ·rwa[M2 g]at d
 rw[No g]at d;walk_at"wd";refine eY (λl=>?_) (λl=>?_)
 ·rw[M2 l]at d;walk_at"w";exact d
 rwa[No l]at d
theorem Ih :
  cq P w K mg base "meet" ["p","q","r","s"] 4 (cj K 4 HN):=by
 refine dJ Y.h7 qk rfl (λ_ _ _ _ _ _ _ a=>⟨_,(a8 (jk (bF (qo B Y) a (aR (bF (qo B Y) a (aR (am 0) (aR (am 1) bv))) (aR (bF (qo B Y) a (aR (am 2) (aR (am 3) bv))) bv))) (ho (n:=3) rfl (c4 (cK 4 qk.nd) (c4 (cK 5 qk.nd) (c4 (cK 6 qk.nd) hn))))) (a8 (dF (d9 (f:=λi j=>decide (i=j)) lC (am 6) a7 (dd _)) (bw vP) dE) (bw (cJ (bF (Ie B Y) a (aR (am 4) (aR (am 5) (aR (am 6) bv)))))))),?_⟩);rintro C k E ⟨p,q,r,s,rfl,d,e,h,l,b,u⟩;refine dG rfl ?_;have o:=d.crs e;have t:=h.crs l;have v:=o.crs t;refine⟨_,rfl,_,rfl,rfl,p,q,rfl,d.mono (by decide),e.mono (by decide),_,rfl,_,rfl,rfl,r,s,rfl,h.mono (by decide),l.mono (by decide),rfl,_,_,rfl,o.mono (by decide),t.mono (by decide),?_⟩;generalize a_ (a_ p q) (a_ r s)=m at *;obtain⟨x,y,z⟩:=m;have b:z≠0:=b;have A:KM z<=9000:=ko v.c;refine⟨_,rfl,rfl,_,_,rfl,_,_,rfl,_,_,rfl,rfl,?_⟩;walk_at"wd";refine eY (λg=>absurd g b) (λ_=>?_);exact⟨_,rfl,_,rfl,_,rfl,rfl,x,y,z,rfl,b,A,u⟩
theorem Ij :
  cq P w K mg base "cut_ring" ["ring","p","q"] 5 (cj K 3 HO):=by
 refine dJ Y.f_ jD rfl (λ_ _ _ _ _ _ _ t=>⟨_,(a8 (m8 (i:=3) jD.nd rfl (K' rfl) (bF (qo B Y) t (aR (am 1) (aR (am 2) bv)))) (a8 (pr 5 (nv (i:=5) jD.nd rfl rfl (ts:=["corner"]) (fr:=["line"]) (js:=[3]) (g1 (am 0)) (λ_ _ _ _=>(fQ (i:=0) (show Ky (["corner","line"]:OR) by decide +kernel) rfl (Kf rfl))) (λ_ _ _ _=>iO) (λ_ _ _ _=>(bF (Ig B Y) t (aR (am 1) (aR (am 0) bv)))) ⟨rfl,by decide +kernel,rfl,by decide +kernel,hr (KS.mpr ⟨rfl,(KI _)⟩),hS rfl,by walk_at"ffr",rfl⟩)) (a8 (o2 (i:=6) jD.nd rfl (Kf rfl) (hN du)) (a8 (o2 (i:=7) jD.nd rfl (Kf rfl) (hN du)) (a8 (FV PassesOwn.never rfl (am 0) (by rfl) B.gb (ho (n:=2) rfl (c4 (cK 8 jD.nd) (c4 (cK 4 jD.nd) hn))) (a8 (dF (d9 (f:=λi j=>decide (j<=i)) uK (ea (am 5) (am 8) (λ_ _=>rfl)) a7 (dd _)) (bw (lO 6 (am 4))) dE) (a8 (dF (d9 (f:=λi j=>decide (i<=j)) A2 (ea (am 5) (am 8) (λ_ _=>rfl)) a7 (dd _)) (bw (lO 7 (am 4))) dE) (a8 (cu 9 jD.nd (m0 (eJ (am 8) a7) (gy (am 0) (by rfl) B.ef))) (bw (dF (d9 (f:=λi j=>decide (i<j)) kC (cx (ea (am 5) (am 8) (λ_ _=>rfl)) (ea (am 5) (am 9) (λ_ _=>rfl))) a7 (dd _)) (a8 (cu 10 jD.nd (bF (Ih B Y) t (aR (am 1) (aR (am 2) (aR (am 4) (aR (ea (am 0) (am 9) (λ_ _=>rfl)) bv)))))) (a8 (lO 6 (am 10)) (bw (lO 7 (am 10))))) dE)))))) (m7 7 (m7 6 (bw (cJ (ff (bB (vD (sk (t.units) a7 (am 5) (by rfl)) (am 6) (e1 (hN du))) (bB (vD (sk (t.units) (jh a7) (am 5) (by rfl)) (am 7) (e1 (hN du))) du)))))))))))),?_⟩);rintro ah k y ⟨ps,p,q,rfl,A,C,v,y,m⟩;refine dG rfl ?_;have W:=(A.crs C).mono (show 300+300+1<=700 by decide);refine⟨_,rfl,_,rfl,rfl,p,q,rfl,A.mono (by decide),C.mono (by decide),_,rfl,_,rfl,by rw[J5];exact ko y,?_⟩;refine j9 (f:=aE) (h:=λc=>D.int (bt (ln (a_ p q) c))) (fs:=[.val (aE (a_ p q))]) (λr t ai X=>⟨_,rfl,_,rfl,rfl,a_ p q,r,rfl,W.mono (by decide),(v r t).1.mono (by decide),X⟩) ?_;refine⟨_,rfl,?_⟩;walk_at"wd";have Q:ps.headD (ps.headD (0,0,1))=ps.headD (0,0,1):=by cases ps<;>rfl
 refine xy (f:=aE) (done:=[]) (λpre o=>∃E F u b rest,ps=pre++rest/\o=[.val (.lst (ps.map aE)),.val (aE p),.val (aE q),.val (aE (a_ p q)),E,.val (.lst (ps.map λc=>D.int (bt (ln (a_ p q) c)))),.own ((b4 (ln (a_ p q)) (aY (a_ p q)) pre (rest.headD (ps.headD (0,0,1)))).map aE),.own ((b4 (λc => -ln (a_ p q) c) (aY (a_ p q)) pre (rest.headD (ps.headD (0,0,1)))).map aE),F,u,b]) ⟨_,_,_,_,ps,rfl,rfl⟩ ?_ ?_
 ·rintro pre c rest o l ⟨E,F,u,b,Z,G,rfl⟩ N s;have l:ps=pre++c::rest:=by simpa using l
  have H:Z=c::rest:=by rw[G]at l;exact Nk l
  subst H;have J:c∈ps:=by rw[l];simp
  have L:dv (ps.map λc=>D.int (bt (ln (a_ p q) c))) (pre.length:Int)=some (D.int (bt (ln (a_ p q) c))):=by
   have:=FZ (h:=λc=>D.int (bt (ln (a_ p q) c))) (pre:=pre) (rest:=rest) (c:=c);rwa[<-l]at this
  have ab:=xB (h:=λc=>D.int (bt (ln (a_ p q) c))) l Q;have ae:=xB (h:=aE) l Q;show lM _ _ _ [.val (.lst (ps.map aE)),.val (aE p),.val (aE q),.val (aE (a_ p q)),.val (aE c),.val (.lst (ps.map λc=>D.int (bt (ln (a_ p q) c)))),.own ((b4 (ln (a_ p q)) (aY (a_ p q)) pre c).map aE),.own ((b4 (λc => -ln (a_ p q) c) (aY (a_ p q)) pre c).map aE),.val (.int pre.length),u,b]
  have aj:pre.length<=1000:=by rw[l,Kh]at y;lia
  have ao:=ti (f:=ln (a_ p q)) (mt:=aY (a_ p q)) (ps:=pre) (w:=c);have au:=ti (f:=λc => -ln (a_ p q) c) (mt:=aY (a_ p q)) (ps:=pre) (w:=c);have av:5000<=Np:=by decide
  refine hq (λo=>o=[.val (.lst (ps.map aE)),.val (aE p),.val (aE q),.val (aE (a_ p q)),.val (aE c),.val (.lst (ps.map λc=>D.int (bt (ln (a_ p q) c)))),.own ((b4 (ln (a_ p q)) (aY (a_ p q)) pre c++kp (ln (a_ p q)) c).map aE),.own ((b4 (λc => -ln (a_ p q) c) (aY (a_ p q)) pre c).map aE),.val (.int pre.length),u,b]) ?_ (λN s=>?_);rotate_left
  ·refine⟨_,rfl,_,rfl,_,_,_,.inr rfl,rfl,L,_,_,rfl,rfl,_,rfl,eY (λg=>?_) (λg=>?_)⟩
   ·refine⟨_,rfl,_,rfl,by rw[J5];lia,s _ ?_⟩;rw[xD (th.mp g),KH];rfl
   refine s _ ?_;rw[xE (λz=>g (th.mpr z)),Kb]
  rintro o rfl;refine hq (λo=>o=[.val (.lst (ps.map aE)),.val (aE p),.val (aE q),.val (aE (a_ p q)),.val (aE c),.val (.lst (ps.map λc=>D.int (bt (ln (a_ p q) c)))),.own ((b4 (ln (a_ p q)) (aY (a_ p q)) pre c++kp (ln (a_ p q)) c).map aE),.own ((b4 (λc => -ln (a_ p q) c) (aY (a_ p q)) pre c++kp (λc => -ln (a_ p q) c) c).map aE),.val (.int pre.length),u,b]) ?_ (λN s=>?_);rotate_left
  ·refine⟨_,rfl,_,rfl,_,_,_,.inr rfl,rfl,L,_,_,rfl,rfl,_,rfl,eY (λg=>?_) (λg=>?_)⟩
   ·refine⟨_,rfl,_,rfl,by rw[J5];lia,s _ ?_⟩;rw[xD (f:=λc => -ln (a_ p q) c) (c:=c) (by have:=xA.mp g;show 0 <= -ln (a_ p q) c;lia),KH (l₂:=[c])];rfl
   refine s _ ?_;rw[xE (f:=λc => -ln (a_ p q) c) (c:=c) (λz=>g (xA.mpr (by have z:0 <= -ln (a_ p q) c:=z;lia))),Kb]
  rintro o rfl;have posQz:(0:Int)<((ps.map aE).length:Int):=by rw[J5,l,Kh,Kk];lia
  refine⟨_,rfl,_,_,rfl,rfl,_,rfl,_,rfl,_,_,rfl,rfl,posQz,?_⟩;rw[J5];have aw:(kp (ln (a_ p q)) c).length<=1:=by unfold kp;split<;>simp
  have ay:(kp (λc => -ln (a_ p q) c) c).length<=1:=by unfold kp;split<;>simp
  refine⟨_,rfl,_,rfl,_,_,_,.inr rfl,rfl,L,_,rfl,_,rfl,_,_,_,.inr rfl,rfl,ab,_,_,rfl,rfl,⟨xC _,xC _⟩,_,_,rfl,rfl,_,rfl,eY (λg=>?_) (λg=>?_)⟩
  ·have lt:=xz.mp g
   have R:rest.headD (ps.headD (0,0,1))∈ps:=by
    cases rest with
    |nil=>
     cases ps with
     |nil=>cases J
     |cons a r=>exact J1
    |cons d rest=>rw[l];simp
   have S:=(v c J).2;have T:=(v _ R).2;refine⟨_,rfl,_,rfl,_,rfl,_,rfl,_,rfl,_,_,_,.inr rfl,rfl,ae,rfl,p,q,c,rest.headD (ps.headD (0,0,1)),rfl,A.mono (by decide),C.mono (by decide),(v c J).1.mono (by decide),(v _ R).1.mono (by decide),l2 S T lt,?_⟩;rw[l1 S T];refine⟨_,rfl,_,rfl,by rw[J5,Kh];lia,_,rfl,_,rfl,by rw[J5,Kh];lia,s _ ⟨.val (aE c),.val (.int pre.length),.val (.int (((pre.length:Int)+1)%(ps.length:Int))),.val (aE (aY (a_ p q) c (rest.headD (ps.headD (0,0,1))))),rest,by rw[l];simp,?_⟩⟩;rw[pT,pT,ih lt,ih (f:=λc => -ln (a_ p q) c) (by rw[K3];exact lt),KH (l₂:=[aY (a_ p q) c (rest.headD (ps.headD (0,0,1)))]),KH (l₂:=[aY (a_ p q) c (rest.headD (ps.headD (0,0,1)))])];rfl
  refine s _ ⟨.val (aE c),.val (.int pre.length),.val (.int (((pre.length:Int)+1)%(ps.length:Int))),b,rest,by rw[l];simp,?_⟩;have nl:¬ln (a_ p q) c*ln (a_ p q) (rest.headD (ps.headD (0,0,1)))<0:=λz=>g (xz.mpr z);rw[pT,pT,hW nl,hW (by rw[K3];exact nl),Kb,Kb];rfl
 rintro o ⟨E,F,u,b,rest,G,rfl⟩
 have H:rest=[]:=by
  have:ps++[]=ps++rest:=by rw[Kb];exact G
  exact(Nk this).symm
 subst H
 have M:∀e∈ps.map (λc=>D.int (bt (ln (a_ p q) c))),has .I e=true:=λe vs=>by
  obtain⟨_,_,rfl⟩:=J'.mp vs;rfl
 refine⟨_,rfl,_,rfl,_,rfl,.I,_,.inl rfl,rfl,M,by decide,λag U=>⟨_,rfl,?_⟩⟩;cases ag with
 |true=>
  rw[tD (xF.mp (U.mp rfl))]at m;refine jq rfl ⟨_,rfl,?_⟩;refine⟨_,rfl,_,rfl,.I,_,.inl rfl,rfl,M,by decide,λO x=>⟨_,rfl,?_⟩⟩;cases O with
  |true=>
   rw[tD (p5.mpr (pU.mp (x.mp rfl)))]at m;exact jq rfl ⟨_,rfl,kn,m⟩
  |false=>
   rw[tE (λz=>Ke (x.mpr (pU.mpr (p5.mp z))))]at m;exact g4 rfl ⟨oe,kn,m⟩
 |false=>
  rw[tE (λz=>Ke (U.mpr (xF.mpr z)))]at m;refine g4 rfl ⟨oe,?_⟩;refine⟨_,rfl,_,rfl,.I,_,.inl rfl,rfl,M,by decide,λO x=>⟨_,rfl,?_⟩⟩;cases O with
  |true=>
   rw[tD (p5.mpr (pU.mp (x.mp rfl)))]at m;exact jq rfl ⟨_,rfl,kn,m⟩
  |false=>
   rw[tE (λz=>Ke (x.mpr (pU.mpr (p5.mp z))))]at m;exact g4 rfl ⟨oe,kn,m⟩
theorem Im :
  cq P w K mg base "cut_sheet" ["sheet","p","q"] 6 (cj K 3 HP):=by
 refine dJ Y.fI kl rfl (λ_ _ _ _ _ _ _ r=>⟨_,(a8 (o2 (i:=3) kl.nd rfl (Kf rfl) (hN du)) (a8 (o2 (i:=4) kl.nd rfl (Kf rfl) (hN du)) (a8 (hQ PassesOwn.never rfl (g1 (am 0)) (ho (n:=3) rfl (c4 (cK 5 kl.nd) (c4 (cK 6 kl.nd) (c4 (cK 7 kl.nd) hn)))) (a8 (jk (bF (Ij B Y) r (aR (am 5) (aR (am 1) (aR (am 2) bv)))) (ho (n:=2) rfl (c4 (cK 8 kl.nd) (c4 (cK 9 kl.nd) hn)))) (a8 (dF (xG (am 8)) (bw (lO 3 (ff (bB (am 8) (bB (am 6) (bB (am 7) du)))))) dE) (bw (dF (xG (am 9)) (bw (lO 4 (ff (bB (am 9) (bB (am 6) (bB (am 7) du)))))) dE))))) (m7 4 (m7 3 (bw (cJ (ff (bB (am 3) (bB (am 4) du)))))))))),?_⟩);rintro A k s ⟨sh,p,q,rfl,t,u,v,y,s,z⟩;refine dG rfl ?_;have C:5000<=Np:=by decide
 walk_at"wd";refine wZ (done:=[]) (λpre a=>∃g h j l m,a=[.val (.lst (sh.map cl)),.val (aE p),.val (aE q),.own ((bL (ln (a_ p q)) (aY (a_ p q)) pre).map cl),.own ((bL (λc => -ln (a_ p q) c) (aY (a_ p q)) pre).map cl),g,h,j,l,m]) ⟨_,_,_,_,_,rfl⟩ ?_ ?_
 ·rintro pre x b a e ⟨g,h,j,l,m,rfl⟩ N d;have e:sh=pre++x::b:=by simpa using e
  have o:x∈sh:=by rw[e];simp
  have E:pre.length<1000:=by have:=Nq LL e;simp at this;lia
  have F:=l8 (f:=ln (a_ p q)) (mt:=aY (a_ p q)) pre;have G:=l8 (f:=λc => -ln (a_ p q) c) (mt:=aY (a_ p q)) pre;refine⟨_,rfl,_,rfl,_,rfl,rfl,x.1,p,q,rfl,t,u,v x o,y x o,_,rfl,rfl,_,_,rfl,_,_,rfl,rfl,?_⟩;show lM (r2 (tj (fO 8)) (r8 3 (oW (h4 (fO 8) (h4 (fO 6) (h4 (fO 7) m3))))) r1) (r2 (tj (fO 9)) (r8 4 (oW (h4 (fO 9) (h4 (fO 6) (h4 (fO 7) m3))))) r1) _ [.val (.lst (sh.map cl)),.val (aE p),.val (aE q),.own ((bL (ln (a_ p q)) (aY (a_ p q)) pre).map cl),.own ((bL (λc => -ln (a_ p q) c) (aY (a_ p q)) pre).map cl),.val (.lst (x.1.map aE)),.val (.bl x.2.1),.val (aE x.2.2),.val (.lst ((dc (ln (a_ p q)) (aY (a_ p q)) x.1).map aE)),.val (.lst ((dc (λc => -ln (a_ p q) c) (aY (a_ p q)) x.1).map aE))]
  refine hq (λa=>a=[.val (.lst (sh.map cl)),.val (aE p),.val (aE q),.own ((bL (ln (a_ p q)) (aY (a_ p q)) (pre++[x])).map cl),.own ((bL (λc => -ln (a_ p q) c) (aY (a_ p q)) pre).map cl),.val (.lst (x.1.map aE)),.val (.bl x.2.1),.val (aE x.2.2),.val (.lst ((dc (ln (a_ p q)) (aY (a_ p q)) x.1).map aE)),.val (.lst ((dc (λc => -ln (a_ p q) c) (aY (a_ p q)) x.1).map aE))]) ?_ (λN d=>?_);rotate_left
  ·refine⟨_,rfl,_,rfl,?_⟩;cases c:(dc (ln (a_ p q)) (aY (a_ p q)) x.1).isEmpty with
   |false=>
    refine jq (by rw[Md,c];rfl) ?_;refine⟨_,rfl,_,rfl,_,rfl,_,rfl,hf,by rw[J5];lia,d _ ?_⟩;rw[l7,p3 c,KH];rfl
   |true=>
    refine g4 (by rw[Md,c];rfl) (d _ ?_);rw[l7,p4 c,Kb]
  rintro a rfl;refine⟨_,rfl,_,rfl,?_⟩;cases c:(dc (λc => -ln (a_ p q) c) (aY (a_ p q)) x.1).isEmpty with
  |false=>
   refine jq (by rw[Md,c];rfl) ?_;refine⟨_,rfl,_,rfl,_,rfl,_,rfl,hf,by rw[J5];lia,d _ ⟨.val (.lst (x.1.map aE)),.val (.bl x.2.1),.val (aE x.2.2),.val (.lst ((dc (ln (a_ p q)) (aY (a_ p q)) x.1).map aE)),.val (.lst ((dc (λc => -ln (a_ p q) c) (aY (a_ p q)) x.1).map aE)),?_⟩⟩;rw[l7 (f:=λc => -ln (a_ p q) c),p3 c,KH (l₂:=[(dc (λc => -ln (a_ p q) c) (aY (a_ p q)) x.1,x.2)])];rfl
  |true=>
   refine g4 (by rw[Md,c];rfl) (d _ ⟨.val (.lst (x.1.map aE)),.val (.bl x.2.1),.val (aE x.2.2),.val (.lst ((dc (ln (a_ p q)) (aY (a_ p q)) x.1).map aE)),.val (.lst ((dc (λc => -ln (a_ p q) c) (aY (a_ p q)) x.1).map aE)),?_⟩);rw[l7 (f:=λc => -ln (a_ p q) c),p4 c,Kb]
 rintro a ⟨g,h,j,l,m,rfl⟩;exact⟨_,rfl,_,rfl,_,rfl,_,rfl,kn,z⟩
theorem Ip :
  cq P w K mg base "fresh" ["ring"] 2 (cj K 1 HR):=by
 refine dJ Y.ht HQ rfl (λ_ _ _ _ _ _ _ b=>⟨_,(bw (cJ (ff (bB (e1 (Db (am 0) (by rfl) B.hD)) (bB hm (bB (ff (bB a7 (bB a7 (bB a7 du)))) du)))))),?_⟩);rintro c k d ⟨e,rfl,a⟩;refine dG rfl ?_;exact⟨_,rfl,_,.inl rfl,hf,hf,a⟩
theorem qp :
  cq P w K mg base "turned" ["p"] 2 (cj K 1 HS):=by
 refine dJ Y.gQ ql rfl (λ_ _ _ _ _ _ _ b=>⟨_,(a8 (jk (am 0) (ho (n:=3) rfl (c4 (cK 1 ql.nd) (c4 (cK 2 ql.nd) (c4 (cK 3 ql.nd) hn))))) (bw (cJ (ff (bB (jh (am 1)) (bB (jh (am 2)) (bB (am 3) du))))))),?_⟩);rintro c k d ⟨p,rfl,a⟩;refine dG rfl ?_;walk_at"w";refine⟨_,_,rfl,_,_,rfl,_,_,rfl,rfl,?_⟩;walk_at"w";exact a
theorem ug :
  cq P w K mg base "slid" ["p","step"] 3 (cj K 2 HU):=by
 refine dJ Y.h3 ip rfl (λ_ _ _ _ _ _ _ i=>⟨_,(a8 (jk (am 0) (ho (n:=3) rfl (c4 (cK 2 ip.nd) (c4 (cK 3 ip.nd) (c4 (cK 4 ip.nd) hn))))) (a8 (jk (am 1) (ho (n:=3) rfl (c4 (cK 5 ip.nd) (c4 (cK 6 ip.nd) (c4 (cK 7 ip.nd) hn))))) (a8 (cu 8 ip.nd (bF (oa B Y) i (aR (am 4) (aR (am 7) bv)))) (a8 (cu 9 ip.nd (eJ (cx (am 2) (gY (am 7) (am 8))) (cx (am 5) (gY (am 4) (am 8))))) (a8 (cu 10 ip.nd (eJ (cx (am 3) (gY (am 7) (am 8))) (cx (am 6) (gY (am 4) (am 8))))) (a8 (cu 11 ip.nd (bF (oa B Y) i (aR (bF (oa B Y) i (aR (am 8) (aR (am 9) bv))) (aR (am 10) bv)))) (bw (cJ (ff (bB (gY (am 9) (am 11)) (bB (gY (am 10) (am 11)) (bB (cx (gY (am 4) (am 8)) (gY (am 7) (am 11))) du)))))))))))),?_⟩);rintro L k M ⟨p,g,rfl,q,j,u,l,h⟩;refine dG rfl ?_;obtain⟨a,b,n⟩:=p;obtain⟨r,w,m⟩:=g;have C:KM a<=3000:=j.a;have E:KM b<=3000:=j.b;have F:KM n<=3000:=j.c;have G:KM r<=1000:=l.a;have H:KM w<=1000:=l.b;have o:KM m<=1000:=l.c;have N:n≠0:=J8 q.1;have v:m≠0:=J8 u.1;have x:=B4 (t:=n) (b:=m) v;have I:=sI (a:=n) (b:=m) v o;have f:=λX Y d=>Fb (a:=a) (b:=b) (n:=n) (r:=r) (w:=w) (m:=m) q u (s:=((J2 n m:Nat):Int)) (X:=X) (Y:=Y) (d:=d) rfl;have h:k (.val (aE (cE (a*m+r*n) (b*m+w*n) (n*m)))):=h;refine⟨_,rfl,_,rfl,rfl,_,_,rfl,_,_,rfl,_,_,rfl,rfl,?_⟩;refine⟨_,rfl,_,rfl,rfl,_,_,rfl,_,_,rfl,_,_,rfl,rfl,?_⟩;walk_at"w";refine⟨_,_,rfl,?_⟩;dsimp only[h6];generalize((J2 n m:Nat):Int)=s at *;have y:KM (m.fdiv s)<=1000:=jW (Oc _ _) o;have z:KM (n.fdiv s)<=3000:=jW (Oc _ _) F;have O:KM (a*m.fdiv s+r*n.fdiv s)<=4001:=NC (wp C y) (wp G z);have Q:KM (b*m.fdiv s+w*n.fdiv s)<=4001:=NC (wp E y) (wp H z);have f:=λd=>f _ _ d rfl rfl;walk_at"w";refine⟨_,_,rfl,?_⟩;dsimp only[h6];walk_at"w";refine⟨_,_,rfl,?_⟩;dsimp only[h6];generalize a*m.fdiv s+r*n.fdiv s=X at *;generalize b*m.fdiv s+w*n.fdiv s=Y at *;have f:=f _ rfl;have A:=pD (a:=s) (b:=X) (.inl (J8 x))
 have J:KM ((J2 s X:Nat):Int)<=1000:=by
  rw[LP];exact sI (J8 x) I
 generalize((J2 s X:Nat):Int)=e at *;have R:=pD (a:=e) (b:=Y) (.inl (J8 A))
 have S:KM ((J2 e Y:Nat):Int)<=1000:=by
  rw[LP];exact sI (J8 A) J
 generalize((J2 e Y:Nat):Int)=d at *;have T:KM (m.fdiv d)<=1000:=jW (Oc _ _) o;rw[<-f]at h;walk_at"w";exact h
theorem Iq :
  cq P w K mg base "first_ring" ["piece"] 4 (cj K 1 HV):=by
 refine dJ Y.fi mh rfl (λ_ _ _ _ _ _ _ a=>⟨_,(a8 (jk (am 0) (ho (n:=3) rfl (c4 (cK 1 mh.nd) (c4 (cK 2 mh.nd) (c4 (cK 3 mh.nd) hn))))) (a8 (m8 (i:=4) mh.nd rfl (K' rfl) (bF (qp B Y) a (aR (am 3) bv))) (a8 (nv (i:=5) mh.nd rfl rfl (ts:=["corner"]) (fr:=["back"]) (js:=[4]) (g1 (am 1)) (λ_ _ _ _=>(fQ (i:=0) (show Ky (["corner","back"]:OR) by decide +kernel) rfl (Kf rfl))) (λ_ _ _ _=>iO) (λ_ _ _ _=>(bF (ug B Y) a (aR (am 0) (aR (am 1) bv)))) ⟨rfl,by decide +kernel,rfl,by decide +kernel,hr (KS.mpr ⟨rfl,(KI _)⟩),hS rfl,by walk_at"ffr",rfl⟩) (a8 (dF (iH (am 2)) (m7 5 (bw (r3 (kT (ts:=["corner"]) (fr:=[]) (js:=[]) (g1 (am 5)) (λ_ _ _ _=>(fQ (i:=0) (show Ky (["corner"]:OR) by decide +kernel) rfl (Kf rfl))) (λ_ _ _ _=>iO) (λ_ _ _ _=>(bF (qp B Y) a (aR (am 0) bv))) ⟨rfl,by decide +kernel,rfl,by decide +kernel,hr (KI _),hS rfl,by walk_at"ffr",rfl⟩)))) dE) (bw (CR 5)))))),?_⟩);rintro l k g ⟨s,rfl,g,d,st,b⟩;refine dG rfl ?_;have m:1000<=Np:=by decide
 refine⟨_,rfl,_,rfl,rfl,_,_,rfl,_,_,rfl,_,_,rfl,rfl,_,rfl,rfl,s.2.2,rfl,_,rfl,_,rfl,by rw[J5];lia,?_⟩;refine j9 (f:=aE) (h:=λp=>aE (nP (c_ (dO s.2.2) p))) (fs:=[.val (aE (dO s.2.2))]) (λr a j c=>⟨_,rfl,_,rfl,rfl,r,dO s.2.2,rfl,(d r a).pt,(d r a).bp.mono (by decide),st.pt.trn,st.bp.trn,c⟩) ?_;rw[pG (λp=>nP (c_ (dO s.2.2) p))];dsimp only;unfold dg at b;refine⟨_,rfl,_,rfl,?_⟩;cases e:s.2.1 with
 |true=>
  rw[e,M2 rfl]at b;rw[M2 rfl];refine⟨_,rfl,_,rfl,_,rfl,by rw[J5,J5];lia,?_⟩;refine j9 (f:=aE) (h:=λp=>aE (dO p)) (fs:=[]) (λr a j c=>⟨_,rfl,rfl,r,rfl,c⟩) ?_;rw[pG dO];exact b
 |false=>
  rw[e,No Ke]at b;rw[No Ke];exact⟨_,rfl,b⟩
theorem Ir :
  cq P w K mg base "moved" ["sheet","step"] 4 (cj K 2 HX):=by
 refine dJ Y.hs HW rfl (λ_ _ _ _ _ _ _ a=>⟨_,(bw (cJ (e1 (kT (ts:=["ring","is_turned","elder_step"]) (fr:=["step"]) (js:=[1]) (g1 (am 0)) (λ_ _ _ _=>(ho (n:=3) rfl (c4 (fQ (i:=0) (show Ky (["ring","is_turned","elder_step","step"]:OR) by decide +kernel) rfl (Kf rfl)) (c4 (fQ (i:=1) (show Ky (["ring","is_turned","elder_step","step"]:OR) by decide +kernel) rfl (Kf rfl)) (c4 (fQ (i:=2) (show Ky (["ring","is_turned","elder_step","step"]:OR) by decide +kernel) rfl (Kf rfl)) hn))))) (λ_ _ _ _=>iO) (λ_ _ _ _=>(ff (bB (e1 (kT (ts:=["corner"]) (fr:=["step"]) (js:=[3]) (g1 (am 0)) (λ_ _ _ _=>(fQ (i:=0) (show Ky (["corner","step"]:OR) by decide +kernel) rfl (Kf rfl))) (λ_ _ _ _=>iO) (λ_ _ _ _=>(bF (ug B Y) a (aR (am 0) (aR (am 1) bv)))) ⟨rfl,by decide +kernel,rfl,by decide +kernel,hr (KS.mpr ⟨rfl,(KI _)⟩),hS rfl,by walk_at"ffr",rfl⟩)) (bB (am 1) (bB (bF (ug B Y) a (aR (am 2) (aR (am 3) bv))) du))))) ⟨rfl,by decide +kernel,rfl,by decide +kernel,hr (KS.mpr ⟨rfl,(KI _)⟩),hS rfl,by walk_at"ffr",rfl⟩)))),?_⟩);rintro q k c ⟨sh,g,rfl,c,d,b,e⟩;refine dG rfl ?_;have t:1000<=Np:=by decide
 refine⟨_,rfl,_,rfl,by rw[J5];lia,?_⟩;refine s3 (h:=λs=>cl (iQ g s)) (fs:=[.val (aE g)]) (λs j u m=>?_) (by rwa[KY]at e);have l:=d s j;have ln:=l.ln;refine⟨_,rfl,_,rfl,by rw[J5];lia,?_⟩;refine j9 (f:=aE) (h:=λp=>aE (nP (c_ g p))) (fs:=[.val (aE g)]) (λr a v o=>⟨_,rfl,_,rfl,rfl,r,g,rfl,(l.ps r a).pt,((l.ps r a).bp.mono (by decide)),b.pt,(b.bp.mono (by decide)),o⟩) ?_;refine⟨_,rfl,_,rfl,_,rfl,rfl,s.2.2,g,rfl,l.st.pt,(l.st.bp.mono (by decide)),b.pt,(b.bp.mono (by decide)),hf,?_⟩;rw[pG (λp=>nP (c_ g p))];exact m
theorem Is :
  cq P w K mg base "half_turned" ["sheet"] 3 (cj K 1 HZ):=by
 refine dJ Y.e' HY rfl (λ_ _ _ _ _ _ _ a=>⟨_,(bw (cJ (e1 (kT (ts:=["ring","is_turned","step"]) (fr:=[]) (js:=[]) (g1 (am 0)) (λ_ _ _ _=>(ho (n:=3) rfl (c4 (fQ (i:=0) (show Ky (["ring","is_turned","step"]:OR) by decide +kernel) rfl (Kf rfl)) (c4 (fQ (i:=1) (show Ky (["ring","is_turned","step"]:OR) by decide +kernel) rfl (Kf rfl)) (c4 (fQ (i:=2) (show Ky (["ring","is_turned","step"]:OR) by decide +kernel) rfl (Kf rfl)) hn))))) (λ_ _ _ _=>iO) (λ_ _ _ _=>(ff (bB (e1 (kT (ts:=["corner"]) (fr:=[]) (js:=[]) (g1 (am 0)) (λ_ _ _ _=>(fQ (i:=0) (show Ky (["corner"]:OR) by decide +kernel) rfl (Kf rfl))) (λ_ _ _ _=>iO) (λ_ _ _ _=>(bF (qp B Y) a (aR (am 0) bv))) ⟨rfl,by decide +kernel,rfl,by decide +kernel,hr (KI _),hS rfl,by walk_at"ffr",rfl⟩)) (bB (Cs (am 1)) (bB (bF (qp B Y) a (aR (am 2) bv)) du))))) ⟨rfl,by decide +kernel,rfl,by decide +kernel,hr (KI _),hS rfl,by walk_at"ffr",rfl⟩)))),?_⟩);rintro m k b ⟨sh,rfl,b,c,d⟩;refine dG rfl ?_;have o:1000<=Np:=by decide
 refine⟨_,rfl,_,rfl,by rw[J5];lia,?_⟩;refine s3 (h:=λs=>cl (hx s)) (fs:=[]) (λs e q g=>?_) (by rwa[KY]at d);have l:=c s e;refine⟨_,rfl,_,rfl,by rw[J5];lia,?_⟩;refine j9 (f:=aE) (h:=λp=>aE (dO p)) (fs:=[]) (λr a t j=>⟨_,rfl,rfl,r,rfl,j⟩) ?_;refine⟨_,rfl,_,rfl,_,rfl,rfl,s.2.2,rfl,hf,?_⟩;rw[pG dO];exact g
theorem It :
  cq P w K mg base "_law_deed" ["_law_sheet","_law_bag_here"] 7 (cj K 2 H0):=by
 refine dJ Y.f6 km rfl (λ_ _ _ _ _ _ _ g=>⟨_,(a8 (cu 2 km.nd (ea (ea (am 0) (bF (hB B Y) g (fg 1 (aR (gy (am 0) (by rfl) B.ef) bv))) (λ_ _=>rfl)) a7 (λ_ _=>rfl))) (a8 (cu 3 km.nd (ea (am 2) (bF (hB B Y) g (fg 1 (aR (gy (am 2) (by rfl) B.ef) bv))) (λ_ _=>rfl))) (a8 (cu 4 km.nd (bF (t6 B Y) g (aR (am 3) (aR (bF (zm B Y) g (fg 1 (aR a7 bv))) bv)))) (a8 (dF (Dx (g.units) (am 3) (am 4) (dd _)) (bw (cu 4 km.nd (bF (t6 B Y) g (aR (am 3) (aR (ff (bB a7 (bB a7 (bB a7 du)))) bv))))) dE) (a8 (jk (bF (Im B Y) g (aR (am 0) (aR (am 3) (aR (am 4) bv)))) (ho (n:=2) rfl (c4 (cK 5 km.nd) (c4 (cK 6 km.nd) hn)))) (a8 (dF (d9 (f:=λi j=>decide (i=j)) lC (bF (hB B Y) g (fg 1 (aR a7 bv))) a7 (dd _)) (bw (cu 5 km.nd (bF (Is B Y) g (aR (am 5) bv)))) dE) (bw (cJ (e1 (r6 (bF (Ir B Y) g (aR (am 5) (aR (bF (zm B Y) g (fg 1 (aR a7 bv))) bv))) (am 6))))))))))),?_⟩);rintro aQ k aT ⟨R,i,sh,rfl,W,X,h,Z,aw⟩;refine dG rfl ?_;have aV:5000<=Np:=by decide
 have ay:sh≠[]:=λe=>by
  have:=h.ar;rw[e]at this;have z:d5 []=0:=rfl;rw[z]at this;rw[<-this]at X;exact absurd X (by decide)
 have aZ:0<sh.length:=MG.mpr ay;have a0:sh.length<=32:=J4 h.nn (Nl (by decide) Z);have len:(sh.map cl).length=sh.length:=J5 ..;have U:∀r:OJ,(r.map aE).length=r.length:=λr=>J5 ..;have ab:∀x:Int,0<=x->x<=800->KM x<=400:=λx a3 a5=>J4 (Ob (m:=10).mpr (by show x.natAbs<1024;lia)) (by decide);have Q:=h.gp (by lia);refine⟨_,rfl,rfl,_,rfl,_,rfl,rfl,_,rfl,by rw[len];lia,ab _ (by lia) (by rw[len];lia),λd aB ae=>?_⟩;rw[len]at ae;obtain⟨E,rfl⟩:∃E:Nat,d=E:=⟨d.toNat,by lia⟩;have dl:E<sh.length:=by lia
 have vs:dv (sh.map cl) (E:Int)=some (cl sh[E]):=kc (by rw[Kj,Km dl];rfl);have H:=L5 dl;generalize sh[E]=s at vs H;refine⟨_,_,_,.inr rfl,rfl,vs,_,_,_,.inl rfl,rfl,rfl,?_⟩;obtain⟨aC,a6,g3⟩:=Q s H;have a':=(h.ok s H).cv.1;refine⟨_,rfl,rfl,_,rfl,_,rfl,rfl,_,rfl,by rw[U];lia,ab _ (by lia) (by rw[U];lia),λe bb aG=>?_⟩;rw[U]at aG;obtain⟨F,rfl⟩:∃F:Nat,e=F:=⟨e.toNat,by lia⟩;have af:F<s.1.length:=by lia
 have aH:dv (s.1.map aE) (F:Int)=some (aE s.1[F]):=kc (by rw[Kj,Km af];rfl);refine⟨_,_,_,.inr rfl,rfl,aH,?_⟩;have o:=L5 af;have G:=aC _ o;generalize s.1[F]=p at o G;refine⟨_,rfl,rfl,rfl,6,rfl,.inl rfl,λv A=>?_⟩;refine⟨rfl,p,v,rfl,G.mono (by decide),A.mono (by decide),?_⟩;have ag:cr 6 (2,1,1):=⟨⟨by decide,by decide⟩,by decide,by decide,by decide⟩;dsimp only;refine mb (λJ=>∃v:aa,J=[.val (.lst (sh.map cl)),.bag,.val (.lst (s.1.map aE)),.val (aE p),.val (aE (nP (c_ v p))),.no,.no]/\cr 6 v/\(v.1≠0\/v.2.1≠0)) (λN M=>?_) ?_
 ·refine⟨_,rfl,_,rfl,.T [.I,.I,.I],rfl,rfl,by decide,_,rfl,?_⟩;cases O:eqD (aE p) (aE (nP (c_ v p)))with
  |true=>exact jq (by rw[No Ke]) ⟨_,rfl,hf,rfl,p,(2,1,1),rfl,G.mono (by decide),ag.mono (by decide),M _ ⟨(2,1,1),rfl,ag,.inl (show(2:Int)≠0 by decide)⟩⟩
  |false=>
   refine g4 (by rw[No Ke]) (M _ ⟨v,rfl,A,?_⟩);apply KL;intro n;have aj:v.1=0:=KL λy=>n (.inl y);have aq:v.2.1=0:=KL λy=>n (.inr y)
   have am:v.2.2=1:=by
    have a:=A.pt.1;have b:=A.pt.2;rw[aj,aq]at b;have:(J2 0 v.2.2:Int)=v.2.2.natAbs:=by rw[Int.gcd_zero_left]
    have c:J2 (J2 0 0:Nat) v.2.2=J2 0 v.2.2:=rfl;lia
   have e:nP (c_ v p)=p:=by
    have:c_ v p=p:=by
     unfold c_;rw[aj,aq,am];refine e4 ?_ ?_ ?_<;>dsimp only<;>lia
    rw[this,pu G.pt]
   rw[e,m']at O;cases O
 rintro J ⟨v,rfl,A,au⟩;refine⟨_,rfl,_,rfl,_,rfl,rfl,sh,p,nP (c_ v p),rfl,G.bp.mono (by decide),(A.sl G).bp.mono (by decide),λt l c O=>⟨((Q t l).1 c O).bp.mono (by decide),((Q t l).1 c O).pt⟩,λt l=>J4 (Q t l).2.1 (by decide),by lia,_,rfl,rfl,_,_,rfl,_,_,rfl,rfl,?_⟩;have bf:=l8 (f:=ln (a_ p (nP (c_ v p)))) (mt:=aY (a_ p (nP (c_ v p)))) sh;have bg:=l8 (f:=λc => -ln (a_ p (nP (c_ v p))) c) (mt:=aY (a_ p (nP (c_ v p)))) sh;have av:=λ(w:aa)(S:cr 6 w)(C:Bool)=>h.i4 W H o A au S C;unfold tV at av;have any:=He W h Z H o A au;generalize bL (ln (a_ p (nP (c_ v p)))) (aY (a_ p (nP (c_ v p)))) sh=L at *;generalize bL (λc => -ln (a_ p (nP (c_ v p))) c) (aY (a_ p (nP (c_ v p)))) sh=T at *;dsimp only;refine mb (λJ=>∃C:Bool,J=[.val (.lst (sh.map cl)),.bag,.val (.lst (s.1.map aE)),.val (aE p),.val (aE (nP (c_ v p))),.val (.lst ((if C=true then L.map hx else L).map cl)),.val (.lst (T.map cl))]) (λN M=>?_) ?_
 ·refine⟨rfl,rfl,3,rfl,by decide,by decide +kernel,λd aB ae=>?_⟩;refine⟨_,_,rfl,rfl,_,rfl,eY (λz=>?_) (λz=>?_)⟩
  ·exact⟨_,rfl,rfl,L,rfl,by lia,λt l=>J4 (any t l).2.1 (by decide),M _ ⟨true,rfl⟩⟩
  exact M _ ⟨false,rfl⟩
 rintro J ⟨C,rfl⟩;refine⟨_,rfl,rfl,rfl,9,rfl,.inr rfl,λw S=>?_⟩;have aK:=av w S C
 have aL:∀t∈(if C=true then L.map hx else L),yq t:=λt l=>by
  split at l
  ·obtain⟨u,aN,rfl⟩:=J'.mp l;obtain⟨a,b,c⟩:=any u aN;refine⟨λp o=>?_,?_,c.trn.mono (by decide)⟩
   ·obtain⟨q,aO,rfl⟩:=J'.mp o;exact(a q aO).trn.mono (by decide)
   show(u.1.map dO).length<=75
   rw[J5];lia
  obtain⟨a,b,c⟩:=any t l;exact⟨λp o=>(a p o).mono (by decide),by lia,c.mono (by decide)⟩
 have bj:(if C=true then L.map hx else L).length=L.length:=by split<;>simp
 generalize(if C=true then L.map hx else L)=aP at *;refine⟨rfl,aP,w,rfl,by lia,aL,S.mono (by decide),_,rfl,_,_,rfl,rfl,by rw[J5,J5,J5];lia,?_⟩;rw[<-KH];exact aw _ aK
theorem Iy{f:KT}{aG:NP}(F:iA K "law" "law" qZ f aG):
  gT P w K mg base h2 8 f aG ["_law_script"] (ph K):=by
 refine gT.imp (sp:=cj K 1 v4) ?_ (λbN H Q E h=>DA h);refine Dz (lv:=7) F ha rfl (λ_ _ _ _ _ _ a=>⟨_,(a8 (m8 (i:=1) ha.nd rfl (K' rfl) (Gn (H' B Y) a (by rfl) (r9 (t4 B Y) a (by rfl) (aR (bF (zf B Y) a (aR (am 0) (aR a7 bv))) bv)))) (a8 (cu 2 ha.nd (e1 (hN (bB (bF (Ip B Y) a (aR (am 1) bv)) du)))) (a8 (hQ PassesOwn.never rfl (g1 (e1 (r5 (am 0) (o6 a7) (o6 a7)))) (cK 3 ha.nd) (bw (cu 2 ha.nd (Hg (It B Y) a (by rfl) (am 2) (r9 (t4 B Y) a (by rfl) (aR (am 3) bv)))))) (a8 (pr 5 (nv (i:=5) ha.nd rfl rfl (ts:=["_law_piece"]) (fr:=[]) (js:=[]) (g1 (am 2)) (λ_ _ _ _=>(fQ (i:=0) (show Ky (["_law_piece"]:OR) by decide +kernel) rfl (Kf rfl))) (λ_ _ _ _=>iO) (λ_ _ _ _=>(bF (Iq B Y) a (aR (am 0) bv))) ⟨rfl,by decide +kernel,rfl,by decide +kernel,hr (KI _),hS rfl,by walk_at"ffr",rfl⟩)) (a8 (cu 6 ha.nd (ff (bB a7 (bB a7 (bB a7 du))))) (a8 (hQ PassesOwn.never rfl (jl (gy (am 2) (by rfl) B.ef) (by rfl) B.d8) (cK 7 ha.nd) (a8 (dF (lL (gG (lK (iH (bF (t8 B Y) a (aR (ea (am 5) (am 7) (λ_ _=>rfl)) bv)))) (m2 (lK (iH (bF (t8 B Y) a (aR (ea (ea (am 2) (am 7) (λ_ _=>rfl)) a7 (λ_ _=>rfl)) bv))))))) (bw (cJ hm)) dE) (a8 (cu 6 ha.nd (bF (H7 B Y) a (aR (am 6) (aR (bF (zk B Y) a (aR (ea (ea (am 2) (am 7) (λ_ _=>rfl)) a7 (λ_ _=>rfl)) bv)) bv)))) (bw (dF (d9 (f:=λi j=>decide (j<i)) kD (gy (e1 (kT (ts:=["_law_p"]) (fr:=["_law_ring"]) (js:=[1]) (g1 (ea (am 5) (am 7) (λ_ _=>rfl))) (λ_ _ _ _=>(fQ (i:=0) (show Ky (["_law_p","_law_ring"]:OR) by decide +kernel) rfl (Kf rfl))) (λ_ _ _ _=>(ww (d9 (f:=λi j=>decide (i=j)) lC (bF (qn B Y) a (aR (am 1) (aR (am 0) bv))) a7 (dd _)))) (λ_ _ _ _=>(am 0)) ⟨rfl,by decide +kernel,rfl,by decide +kernel,hr (KS.mpr ⟨rfl,(KI _)⟩),hS rfl,by walk_at"ffr",rfl⟩)) (by rfl) B.ef) a7 (dd _)) (bw (cJ hm)) dE))))) (a8 (dF (Dy (a.units) (am 6) (bF (zk B Y) a (aR (am 1) bv)) (dd _)) (bw (cJ hm)) dE) (a8 (Dj (i:=8) ha.nd rfl (Kf rfl) (r9 (t4 B Y) a (by rfl) (aR (bF (zf B Y) a (aR (am 0) (aR a7 bv))) bv))) (a8 (hQ PassesOwn.never rfl (jl a7 (by rfl) B.d8) (cK 7 ha.nd) (a8 (m8 (i:=9) ha.nd rfl (K' rfl) (bF (Ib B Y) a (fg 8 (aR a7 bv)))) (a8 (pr 10 (nv (i:=10) ha.nd rfl rfl (ts:=["_law_one"]) (fr:=["_law_spot_here"]) (js:=[9]) (g1 (am 5)) (λ_ _ _ _=>(fQ (i:=0) (show Ky (["_law_one","_law_spot_here"]:OR) by decide +kernel) rfl (Kf rfl))) (λ_ _ _ _=>iO) (λ_ _ _ _=>(bF (qn B Y) a (aR (am 0) (aR (am 1) bv)))) ⟨rfl,by decide +kernel,rfl,by decide +kernel,hr (KS.mpr ⟨rfl,(KI _)⟩),hS rfl,by walk_at"ffr",rfl⟩)) (a8 (dF (lL (gG (d9 (f:=λi j => !decide (i=j)) jV (bF (qn B Y) a (aR (am 1) (aR (am 9) bv))) a7 (dd _)) (m2 (sk (a.units) (jh a7) (am 10) (by rfl))))) (bw CQ) dE) (a8 (dF (d9 (f:=λi j => !decide (i=j)) jV (Dd (am 10) rfl (by rfl) B.jm) a7 (dd _)) (bw (cJ hm)) dE) (a8 (cu 4 ha.nd (ea (am 2) (Hn 10 1) (λ_ _=>rfl))) (bw (dF (d9 (f:=λi j => !decide (i=j)) jV (bF (qn B Y) a (aR (ei 4) (aR (bF (Ic B Y) a (aR (am 4) (aR (am 9) bv))) bv))) a7 (dd _)) (bw (cJ hm)) dE)))))))) (bw (cJ hm))))))))))),?_⟩);rintro bP k bV ⟨ns,rfl,bU,aV⟩;refine dG rfl ?_;have bX:5000<=Np:=by decide
 have len:∀sh:ON,(sh.map cl).length=sh.length:=λsh=>J5 ..;refine⟨_,rfl,rfl,ns,0,rfl,by decide,λz=>?_⟩;refine⟨rfl,z,rfl,rfl,rfl,λps aH aj U=>?_⟩;have hc:∀p∈ps,aU p:=λp h=>(U p h).1.pt;have aZ:=yk aj hc;have G:cU ps<=1024:=GP (λp g=>(U p g).2) aH;have au:∀x∈ps,cr 149 x:=λx a0=>(U x a0).1.mono (by decide);refine⟨_,rfl,rfl,ps,rfl,show 1<=Np by decide,?_⟩;dsimp only;refine mb (λc=>∃(i:Nat)(sh:ON)(am:aM),c=[.val (.scr ns),.val (.lst (ps.map aE)),.val (.lst (sh.map cl)),am,.no,.no,.no,.no,.no,.no,.no]/\i<=6/\eQ ps i sh) (λN l=>?_) ?_
 ·refine⟨_,rfl,1,rfl,7,rfl,_,rfl,?_⟩
  have aI:(f9 ns (some 1) (some 7)).length<=6:=by
   unfold f9;rw[Lm]
   have:HT.sIx ns.length ns.length (some 7)-HT.sIx ns.length 0 (some 1)<=6:=by
    unfold HT.sIx;dsimp only;split<;>split<;>lia
   lia
  rw[C5];refine⟨_,rfl,?_⟩;generalize f9 ns (some 1) (some 7)=cs at aI⊢;refine sH (f:=D.int) (done:=[]) (λpre c=>∃(sh:ON)(am:aM),c=[.val (.scr ns),.val (.lst (ps.map aE)),.val (.lst (sh.map cl)),am,.no,.no,.no,.no,.no,.no,.no]/\eQ ps pre.length sh) ⟨_,_,rfl,eQ.start aj U aH⟩ ?_ ?_
  ·rintro pre r aK c a3 ⟨sh,am,rfl,h⟩ aL y
   have a5:pre.length<=5:=by
    have:=Nq LL a3;rw[Kh,Kh,Kk,LW]at this;lia
   refine⟨_,rfl,_,rfl,rfl,r,rfl,rfl,rfl,ps,pre.length,sh,rfl,hc,aZ,h,a5,λa6 a'=>?_⟩;exact y _ ⟨a6,_,rfl,by rw[Kh];exact a'⟩
  rintro c ⟨sh,am,rfl,h⟩;exact l _ ⟨_,sh,am,rfl,aI,h⟩
 rintro c ⟨i,sh,am,rfl,W,h⟩;have X:=h.gp W;have ok:=h.ok;have bY:sh.length<=64:=J4 h.nn (Nl (by decide) W);refine⟨_,rfl,_,rfl,by rw[len];lia,?_⟩;refine j9 (f:=cl) (h:=λs=>kg (dg s)) (λs d y bb=>?_) ?_
 ·obtain⟨A,Z,g3⟩:=X s d;refine⟨_,rfl,rfl,s,rfl,by lia,λp g=>(A p g).mono (by decide),g3.mono (by decide),?_⟩;exact bb
 refine⟨_,rfl,hf,?_⟩;dsimp only;refine mb (λc=>∃u:aM,c=[.val (.scr ns),.val (.lst (ps.map aE)),.val (.lst (sh.map cl)),am,.no,.val (.lst (sh.map λs=>kg (dg s))),.val (aE (g6 ps)),u,.no,.no,.no]) (λN l=>?_) ?_
 ·refine⟨_,rfl,_,rfl,_,rfl,by rw[len];lia,by rw[len];lia,?_⟩;rw[len,MB];refine j8 (n:=sh.length) (λj c=>∃(P:aa)(u:aM),c=[.val (.scr ns),.val (.lst (ps.map aE)),.val (.lst (sh.map cl)),am,.no,.val (.lst (sh.map λs=>kg (dg s))),.val (aE P),u,.no,.no,.no]/\t0 (sh.take j) P) ⟨(0,0,1),_,rfl,⟨⟨by decide,by decide⟩,rfl,?_⟩⟩ ?_ ?_
  ·show((0:Int):Rat)/((1:Int):Rat)=0
   rw[show(((0:Int)):Rat)=0 from rfl];grind
  ·rintro j c M ⟨P,u,rfl,C⟩ aL y;have ab:dv (sh.map cl) (j:Int)=some (cl sh[j]):=kc (by rw[Kj,Km M];rfl);have aN:dv (sh.map λs=>kg (dg s)) (j:Int)=some (kg (dg sh[j])):=kc (by rw[Kj,Km M];rfl);have d:=L5 M;have bf:sh.take (j+1)=sh.take j++[sh[j]]:=by rw[List.take_succ,Km M];rfl
   have cut:sh=sh.take j++sh.drop j:=(List.take_append_drop ..).symm;rw[bf]at y;generalize sh[j]=s at *;obtain⟨A,Z,g3⟩:=X s d;have o:=ok s d;have bg:=h.sum W G cut C;obtain⟨J,ag,av,bj⟩:=h.j6 W G d;have bZ:=yc s;have O:∀p∈dg s,cr 292 p:=y4 A g3;refine kO (λN l=>?_) ?_
   ·refine⟨_,rfl,_,rfl,_,_,_,.inr rfl,rfl,aN,rfl,dg s,rfl,by lia,λp g=>(O p g).mono (by decide),λb G=>?_⟩;cases G.mpr o.first;refine⟨_,rfl,g4 rfl ⟨_,rfl,_,rfl,_,_,_,.inr rfl,rfl,ab,_,_,_,.inl rfl,rfl,rfl,rfl,s.1,rfl,by lia,λp g=>(A p g).mono (by decide),λb G=>?_⟩⟩;cases G.mpr o.cv;exact⟨_,rfl,g4 rfl l⟩
   refine⟨_,rfl,_,rfl,_,rfl,_,_,_,.inr rfl,rfl,ab,_,_,_,.inl rfl,rfl,rfl,rfl,s.1,rfl,by lia,by have:=o.cv.1;lia,A,rfl,P,g6 s.1,rfl,C.pt.1,J.1,bg,bj,?_⟩;obtain⟨bo,br,bu⟩:=Gz C.pt J;have bA:t0 (sh.take j++[s]) (nX P (g6 s.1)):=⟨bo,br,by rw[bu,C.v,av,l9,il];rw[show d5 []=0 from rfl,Rat.add_zero]⟩;have bD:=(h.hu s d).wi;refine⟨_,rfl,_,rfl,_,_,_,.inr rfl,rfl,aN,_,rfl,by rw[J5];lia,?_⟩;refine s1 (λp g c1 aw=>?_) ?_
   ·refine⟨_,rfl,_,rfl,rfl,ps,p,rfl,by lia,λq R=>(au q R).mono (by decide),(O p g).bp.mono (by decide),_,_,rfl,rfl,_,rfl,?_⟩;rw[ND (bD p g)];exact aw
   exact⟨_,rfl,_,_,rfl,rfl,_,rfl,g4 rfl (y _ ⟨_,_,rfl,bA⟩)⟩
  rintro c ⟨P,u,rfl,C⟩;rw[M']at C;obtain⟨J,ag,av⟩:=xZ (ps:=ps) λp g=>(hc p g).1;have e:P=g6 ps:=GA C.pt J C.y0 ag (by rw[av,<-h.ar];exact C.v);exact l _ ⟨u,by rw[e]⟩
 rintro c ⟨u,rfl⟩;refine kO (λN l=>?_) ?_
 ·exact⟨_,rfl,_,rfl,rfl,ps,rfl,by lia,by have:=aj.1;lia,au,.T [.I,.I,.I],rfl,rfl,by decide,_,rfl,DE (λh=>absurd rfl h) (λ_=>l)⟩
 refine⟨_,rfl,rfl,ns,9,rfl,by decide,λz=>?_⟩;refine⟨rfl,z,rfl,rfl,?_⟩;dsimp only;refine mb (λ_=>True) (λN l=>?_) (λc _=>aV);refine⟨_,rfl,by decide,by decide,?_⟩;refine j8 (n:=12) (λ_ c=>∃aB u aP S:aM,c=[.val (.scr ns),.val (.lst (ps.map aE)),.val (.lst (sh.map cl)),am,aB,.val (.lst (sh.map λs=>kg (dg s))),.val (aE (g6 ps)),u,.bag,aP,S]) ⟨_,_,_,_,rfl⟩ ?_ (λc _=>l _ trivial);rintro j c _ ⟨aB,u,aP,S,rfl⟩ aL y;refine⟨rfl,rfl,rfl,λz L=>?_⟩;refine⟨_,rfl,_,rfl,by rw[J5];lia,?_⟩
 have O:∀s∈sh,(dg s).length<=11/\∀p∈dg s,cr 292 p:=λs d=>by
  obtain⟨A,Z,g3⟩:=X s d;exact⟨by rw[yc];exact Z,y4 A g3⟩
 refine j9 (f:=λs=>kg (dg s)) (h:=λs=>.int (cA z s)) (λs d c1 aw=>?_) ?_
 ·exact⟨_,rfl,_,rfl,rfl,dg s,z,rfl,J4 (O s d).1 (by decide),λp g=>((O s d).2 p g).mono (by decide),L.bp.mono (by decide),aw⟩
 refine⟨_,rfl,?_⟩;have em:(sh.map λs=>D.int (cA z s))=(sh.map (cA z)).map D.int:=by rw[KY];rfl
 dsimp only;rw[em];refine mb (λc=>c=[.val (.scr ns),.val (.lst (ps.map aE)),.val (.lst (sh.map cl)),am,aB,.val (.lst (sh.map λs=>kg (dg s))),.val (aE (g6 ps)),.val (.int j),.bag,.val (aE z),.val (.lst ((sh.map (cA z)).map D.int))]/\wi ps z=1/\(-1:Int)∉sh.map (cA z)) (λN l=>?_) ?_
 ·refine⟨_,rfl,_,rfl,rfl,ps,z,rfl,by lia,λq R=>(au q R).mono (by decide),L.bp.mono (by decide),_,_,rfl,rfl,_,rfl,?_⟩;refine mU (λ_=>jq rfl (y _ ⟨_,_,_,_,rfl⟩)) (λaC=>?_);refine⟨1,rfl,_,rfl,.I,_,.inl rfl,rfl,λe tb=>?_,by decide,λb G=>?_⟩
  ·obtain⟨n,_,rfl⟩:=J'.mp tb;rfl
  refine⟨_,rfl,?_⟩;cases b with
  |true=>exact jq rfl (y _ ⟨_,_,_,_,rfl⟩)
  |false=>exact g4 rfl (l _ ⟨rfl,aC,λm=>Ke (G.mpr (J'.mpr ⟨_,m,rfl⟩))⟩)
 rintro c ⟨rfl,aC,bC⟩;have M:=(h.js z L.pt aC).resolve_left λ⟨s,d,e⟩=>bC (J'.mpr ⟨s,d,e⟩);obtain⟨bH,aQ⟩:=M
 have one:=y6 (ns:=sh.map (cA z)) (λn bI=>by
  obtain⟨s,d,rfl⟩:=J'.mp bI;have:=bH s d;rcases x2 (dg s) z with e|e|e
  ·exact .inr e
  ·exact absurd e this
  exact .inl e) aQ
 obtain⟨t,J,ag⟩:=y5 one;refine kO (λN l=>?_) ?_
 ·refine⟨_,rfl,sh.map (cA z),rfl,_,_,rfl,rfl,_,rfl,?_⟩;rw[aQ];exact g4 rfl l
 rw[Kj]at J;obtain⟨s,aF,aT⟩:=Na.mp J;have d:s∈sh:=KQ aF;have ab:dv (sh.map cl) (t:Int)=some (cl s):=kc (by rw[Kj,aF];rfl);refine⟨_,rfl,sh.map (cA z),rfl,t,by rw[Kj,aF];exact Nq some aT,ag,_,_,_,.inr rfl,rfl,ab,?_⟩;obtain⟨A,Z,g3⟩:=X s d
 have bJ:cr 207 (k3 s.2.1 s.2.2 z):=by
  unfold k3;split
  ·exact g3.sl L.trn
  exact g3.sl L
 have bM:wi s.1 (k3 s.2.1 s.2.2 z)=1:=(tR (ok s d) L.pt).symm.trans aT;refine⟨_,rfl,_,_,_,.inl rfl,rfl,rfl,_,rfl,_,rfl,rfl,s,z,rfl,g3,L.mono (by decide),rfl,s.1,k3 s.2.1 s.2.2 z,rfl,by lia,λq R=>(A q R).mono (by decide),bJ.bp.mono (by decide),_,_,rfl,rfl,_,rfl,?_⟩;rw[bM];exact g4 rfl (y _ ⟨_,_,_,_,rfl⟩)
end H2
theorem jQ{l:PySem.W.OpenLaw}{w:NE}{K:JS}{h:NH}{d:Str->Option KB}{f:KT}(Y:jR fK K)(X:K.In h)(G:h.Ns Nr d)(j:d "law"=some (.ref f))
  : ∃g:NP,(∀(s:KF)(v:KB),OH s g ⟨[v],[]⟩ [("_law_script",v)])/\∀a:NH,K.In a->a.Ns Nr d->gT l.prog w K d a h2 8 f g ["_law_script"] (ph K):=by
 obtain⟨⟨k,b,m,n,o,p,q,c,r,t,u,x,y,z,A,C,E,F,H,I,J,L,M,N,O,P,Q,R,S,T,U,Z,ab,_⟩,⟨ae,vs,af,ag,ah,ai,aj,hc,ao,aq,au,av,aw,ax,ay,aA,aB,aC,aD,_⟩,⟨_⟩,⟨_⟩⟩:=Y;obtain⟨aH,aF,aG,i⟩:=ab;have e:=j.symm.trans (PySem.W.mg_of X G aG);cases e;have B:y8 d:=⟨Kt X G ae,Kt X G vs,Kt X G af,Kt X G ag,Kt X G ah,Kt X G ai,Kt X G aj,Kt X G hc,Kt X G ao,Kt X G aq,Kt X G au,Kt X G av,Kt X G aw,Kt X G ax,Kt X G ay,Kt X G aA,Kt X G aB,Kt X G aC,Kt X G aD⟩;refine⟨aF,λs v=>?_,λa _ _=>?_⟩
 ·obtain⟨_,_,_,_,_,_,_,_,_,rfl,_⟩:=i.ex;exact .of_eq rfl
 exact Iy B ⟨k.en X G (by walk_at"b2"),b.en X G (by walk_at"b3"),m.en X G (by walk_at"b2"),n.en X G (by walk_at"b1"),o.en X G (by walk_at"b2"),p.en X G (by walk_at"b2"),q.en X G (by walk_at"b4"),c.en X G (by walk_at"b1"),r.en X G (by walk_at"b1"),t.en X G (by walk_at"b3"),u.en X G (by walk_at"b3"),x.en X G (by walk_at"b2"),y.en X G (by walk_at"b1"),z.en X G (by walk_at"b2"),A.en X G (by walk_at"b1"),C.en X G (by walk_at"b2"),E.en X G (by walk_at"b3"),F.en X G (by walk_at"b2"),H.en X G (by walk_at"b1"),I.en X G (by walk_at"b3"),J.en X G (by walk_at"b1"),L.en X G (by walk_at"b1"),M.en X G (by walk_at"b2"),N.en X G (by walk_at"b1"),O.en X G (by walk_at"b2"),P.en X G (by walk_at"b2"),Q.en X G (by walk_at"b2"),R.en X G (by walk_at"b2"),S.en X G (by walk_at"b2"),T.en X G (by walk_at"b2"),U.en X G (by walk_at"b2"),Z.en X G (by walk_at"b2")⟩ i
end
end L3
open PySem PySem.W PyProof.Rows
set_option maxRecDepth 100000 in
set_option maxHeartbeats 0 in
theorem PySem.Challenge.cw_slidecut_k27_whole_rows_of_cuts_and_slid_holds : PySem.Challenge.rw_slidecut_k27_whole_rows_of_cuts_and_slid.Holds := by
 refine holds_law L3.iI fun iI => holds_open (XP := XL Zpw []) (YP := L3.gn L3.fK) L3.left (L3.kh L3.fK) (L3.jK L3.fK) (fun s e => xl_of s (Nm.mp e).1) XL.keeps (by rfl) (by rfl) (by rfl) (fun s e => recFacts_of (Nm.mp e).2) (by rfl) iI (by decide +kernel) ⟨rfl, rfl, rfl, rfl, rfl, by decide +kernel⟩ ?hw ?hc
 case hw => w_witness2
 case hc => exact L3.jS (k := 8) rfl rfl ⟨rfl, by decide, by decide⟩ fun w K mg fc h Y X G mR => L3.jQ Y X G mR
#print axioms PySem.Challenge.cw_slidecut_k27_whole_rows_of_cuts_and_slid_holds