import PyProof.Rows.All
import Wide.All
import OpenK.AllK
import Wide.FinOn
import Lean
import PyProof.EqAt
import PyProof.EqKinds
import PyProof.TupleCall
import PyProof.NeKinds
import PyProof.Rows.StrStrike
import PyProof.SumWalkG
import PyProof.StrCalls2
import PyProof.Rows.StrItems
import PyProof.Rows.StrJoin2
import PyProof.Truth
import PyProof.SumWalkG
import PyProof.EqAt
import PyProof.EqKinds
import PyProof.Rows.StrStrike
import OpenK.ZHead
import PyProof.DictItems
import KE.KPairComp
import PyProof.StrCalls2
import PyProof.Rows.StrItems
import PyProof.Rows.StrJoin2
import PyProof.DictRoadsH
import PyProof.DictKeyH
import KE.KDictList
import KE.KMinKey
import KE.KLam
import KE.KNestM
import PyProof.MinMaxWalk
import PyProof.WalkInts
import KE.KRevIter
import PySem.Challenge.RW_gapweave_k92_whole_first
set_option Elab.async false
set_option linter.all false
set_option maxRecDepth 100000
inductive dP{A1 A2:Type}(p:A1->A2->Prop):Prop
 |mk (a1:A1) (a2:A2):p a1 a2->dP p
inductive nN{A1 A2 A3:Type}(p:A1->A2->A3->Prop):Prop
 |mk (a1:A1) (a2:A2) (a3:A3):p a1 a2 a3->nN p
inductive wY{A1 A2 A3 A4:Type}(p:A1->A2->A3->A4->Prop):Prop
 |mk (a1:A1) (a2:A2) (a3:A3) (a4:A4):p a1 a2 a3 a4->wY p
inductive BG{A1 A2 A3 A4 A5:Type}(p:A1->A2->A3->A4->A5->Prop):Prop
 |mk (a1:A1) (a2:A2) (a3:A3) (a4:A4) (a5:A5):p a1 a2 a3 a4 a5->BG p
inductive V7{A1 A2 A3 A4 A5 A6:Type}(p:A1->A2->A3->A4->A5->A6->Prop):Prop
 |mk (a1:A1) (a2:A2) (a3:A3) (a4:A4) (a5:A5) (a6:A6):p a1 a2 a3 a4 a5 a6->V7 p
inductive R7{A1 A2 A3 A4 A5 A6 A7:Type}(p:A1->A2->A3->A4->A5->A6->A7->Prop):Prop
 |mk (a1:A1) (a2:A2) (a3:A3) (a4:A4) (a5:A5) (a6:A6) (a7:A7):p a1 a2 a3 a4 a5 a6 a7->R7 p
inductive Xe8{A1 A2 A3 A4 A5 A6 A7 A8:Type}(p:A1->A2->A3->A4->A5->A6->A7->A8->Prop):Prop
 |mk (a1:A1) (a2:A2) (a3:A3) (a4:A4) (a5:A5) (a6:A6) (a7:A7) (a8:A8):p a1 a2 a3 a4 a5 a6 a7 a8->Xe8 p
inductive Wz{A1 A2 A3 A4 A5 A6 A7 A8 A9:Type}(p:A1->A2->A3->A4->A5->A6->A7->A8->A9->Prop):Prop
 |mk (a1:A1) (a2:A2) (a3:A3) (a4:A4) (a5:A5) (a6:A6) (a7:A7) (a8:A8) (a9:A9):p a1 a2 a3 a4 a5 a6 a7 a8 a9->Wz p
inductive HA{A1 A2 A3 A4 A5 A6 A7 A8 A9 Tq:Type}(p:A1->A2->A3->A4->A5->A6->A7->A8->A9->Tq->Prop):Prop
 |mk (a1:A1) (a2:A2) (a3:A3) (a4:A4) (a5:A5) (a6:A6) (a7:A7) (a8:A8) (a9:A9) (Zn:Tq):p a1 a2 a3 a4 a5 a6 a7 a8 a9 Zn->HA p
inductive Zp{A1 A2 A3 A4 A5 A6 A7 A8 A9 Tq ZO ZN:Type}(p:A1->A2->A3->A4->A5->A6->A7->A8->A9->Tq->ZO->ZN->Prop):Prop
 |mk (a1:A1) (a2:A2) (a3:A3) (a4:A4) (a5:A5) (a6:A6) (a7:A7) (a8:A8) (a9:A9) (Zn:Tq) (a11:ZO) (a12:ZN):p a1 a2 a3 a4 a5 a6 a7 a8 a9 Zn a11 a12->Zp p
inductive Zo{A1 A2 A3 A4 A5 A6 A7 A8 A9 Tq ZO ZN A13 A14 A15:Type}(p:A1->A2->A3->A4->A5->A6->A7->A8->A9->Tq->ZO->ZN->A13->A14->A15->Prop):Prop
 |mk (a1:A1) (a2:A2) (a3:A3) (a4:A4) (a5:A5) (a6:A6) (a7:A7) (a8:A8) (a9:A9) (Zn:Tq) (a11:ZO) (a12:ZN) (a13:A13) (a14:A14) (a15:A15):p a1 a2 a3 a4 a5 a6 a7 a8 a9 Zn a11 a12 a13 a14 a15->Zo p
namespace QA
open PySem
theorem a_:0<=sizeLine:=by decide
theorem b_:1<=sizeLine:=by decide
theorem c_:2<=sizeLine:=by decide
theorem d_:3<=sizeLine:=by decide
theorem e_:4<=sizeLine:=by decide
end QA
open QA
theorem Y{α:Sort u}{a:α}:a=a:=rfl
open PySem renaming wpAny_bind->f_,Addr->U,Value->k_,Shared->n_,wpAny_pure->q_,Program->r_,Str->v_,wpAny->C_,sizeLine->D_,FuncData->F_,World->I_,mainGlobals->J_,Heap->W_,Around->qab,starEach->qaf,Stmt->qam,wpAny_seqItems->qat,wpAny_truthy_bool->qaD,wpAny_mono->qaK,wpAny_holding->qaN,wpAny_callSpecial?_slot->qaS,wpAny_call_entry->qaU,wpAny_pyIter_list->qaY,wpAny_tryCatch->qa2,codeAny_builtin->qa3,wpAny_field->qa8,Obj->qa9,plainId_quiet->qbd,wpAny_letGo->qbh,wpAny_newObj_type->qbk,Scope->qbn,wpAny_pyIter_tuple->qbr,wpAny_Call_Name_kw->qbs,wpAny_setField_rec->qbu,wpAny_passesOwn->qbz,NameKind->qbC,wpAny_isInstance->qbJ,wpAny_getItem_str_slice->qbK,Pos->qbO,wpAny_typeNameOfWhole_keyiter->qbP,wpAny_updateSeq->qb0,Arguments->qcb,wpAny_forIn_list->qce,wpAny_typeNameOf_keyiter->qcl,wpAny_specialOf->qco,wpAny_Constant_int->qcq,wpAny_getItem_heap->qcs,codeAny_mono->qcA,wpAny_pyIter_strU->qcB,wpAny_execs_cons->qcF,wpAny_rule->qcG,Tok->qcN,DictEntry->qcP,IsPair->qcQ
open List renaming getElem?_eq_getElem->g_,length_map->l_,getElem?_eq_some_iff->o_,mem_cons_of_mem->s_,getD_eq_getElem?_getD->u_,mem_singleton->x_,mem_cons_self->z_,mem_of_getElem?->A_,mem_cons->B_,length_append->G_,size_toArray->K_,map_append->M_,getElem?_map->O_,range->S_,mem_append_right->T_,mem_map->U_,mem_append->V_,take_of_length_le->X_,map_cons->Y_,mem_filter->Z_,length_cons->qaa,find?_cons->qad,replicate->qae,drop_eq_getElem_cons->qak,not_mem_nil->qaq,filterMap_cons->qas,mem_append_left->qav,length_range->qax,filter_cons_of_pos->qaz,filter_cons_of_neg->qaA,append_nil->qaB,length_take->qaC,lookup->qaE,getElem?_append_right->qaG,getElem_mem->qaH,map_map->qaL,getElem?_append_left->qaX,length_replicate->qaZ,take_append_drop->qa0,lookup_cons->qa5,append_assoc->qa6,getElem_of_mem->qa7,getElem?_eq_none->qa_,length_drop->qba,take_length->qbb,mem_range->qbe,nodup_nil->qbg,filterMap->qbi,foldl_cons->qbA,map_congr_left->qbF,getElem?_replicate->qbH,all_eq_true->qbI,mem_flatMap->qbM,eq_nil_of_length_eq_zero->qbQ,mem_filterMap->qbR,ne_nil_of_mem->qbU,drop_of_length_le->qbW,nodup_cons->qbX,length_set->qbY,range_succ->qbZ,foldl_append->qb6,flatten_cons->qb7,nodup_append->qb8,cons_append->qcc,length_pos_iff->qci,any_cons->qcj,filter_append->qcv,filterMap_nil->qcw,getElem?_set->qcD
open PySem.Str renaming ofString->h_,join->qcE,cps->qcO
open Nat renaming le_refl->j_,le_trans->p_,lt_of_le_of_lt->w_,lt_of_lt_of_le->H_,zero_le->Q_,ne_of_lt->R_,lt_irrefl->qap,succ_le_succ->qar,le_succ->qay,le_add_right->qaF,le_of_lt->qaJ,lt_succ_self->qaO,ne_of_gt->qbc,le_succ_of_le->qbj,mul_le_mul->qbx,lt_of_succ_lt->qb9,mul_le_mul_right->qca,lt_trans->qcd,sub_self->qcf,min_eq_left->qcp,add_right_comm->qcx,le_of_eq->qcz,add_comm->qcC,le_of_not_lt->qcH
open PySem.Heap renaming get?_push_of_some->m_,get?_push_size->t_,lt_size->E_,size_push->qaT,SameBut->qbB,ExtBut->qcM
open Bool renaming false_ne_true->y_,false_eq_true->qaM,and_eq_true->qaP,false_and->qbf,not_true->qb4,true_and->qb5,eq_iff_iff->qcn
open Option.some renaming inj->L_
open Array renaming length_toList->N_,getElem?_toList->qal,eq_empty_of_size_eq_zero->qbL,toList_append->qch
open PySem.PassesOwn renaming never->P_
open Option renaming map_eq_some_iff->qac,toList_none->qby,isSome_iff_exists->qbD,map_none->qb1,bind_eq_some_iff->qcy
open Int renaming gcd->qag,emod_lt_of_pos->qan,emod_nonneg->qao,toNat_of_nonneg->qau,toNat_natCast->qaw,le_of_lt->qaV,zero_add->qaW,natCast_nonneg->qa4,gcd_dvd_right->qbl,ofNat_le->qbq,ediv_pos_of_pos_of_dvd->qbw,eq_ofNat_of_zero_le->qbN,ofNat_lt->qbV,gcd_dvd_left->qcJ,not_lt->qcK
open PySem.NameKind renaming free->qah,cell->qb2
open PySem.Heap.SameBut renaming update->qai
open PySem.Builtin.SmallTypes renaming nextOf->qaj,ownedTupleIsFree->qa1
open PySem.Around renaming under_plainId->qaI
open PyProof.Rows renaming callWith_type1->qaQ,subscriptTail_builtinR->qbp,step_dedup->qcI
open PySem.Builtin.Builtins renaming bindParams->qaR
open False renaming elim->qbm
open PyProof.Rows.F renaming plain_set_update_loop->qbo
open PySem.F renaming slot_tuple_iterator_next->qbt
open PySem.AutoSeq1 renaming wpAny_loadPart'->qbE
open PySem.Builtin.Range renaming rangeSize->qbG
open PySem.Calls renaming spliced_cons->qbS,callWith_builtin->qbT,Constant_str->qcr
open List.cons renaming inj->qb3
open PySem.Obj renaming mapSeq->qb_,data_mapFields->qcu
open PySem.Builtin.Tuple renaming tupleHashOf->qcg
open PySem.Builtin.List renaming listTooLong->qck
open Int.ofNat renaming inj->qcm
open PySem.Walks renaming list->qct
open Prod.mk renaming injEq->qcL
namespace TK
open PySem
theorem vn{M:Model}{Γ:Ctx}{p:qbO}{t:Sem PySem.Fin}{fs:List Frame}{s s':n_}{e:End}(h:Runs M Γ p t fs s e s'):s.toks<=s'.toks:=by
 induction h with
 |fresh _ ih=>exact p_ (qay _) ih
 |call _ _ a b=>exact p_ a b
 |segRet _ _ a b=>exact p_ a b
 |segGen _ _ a b=>exact p_ a b
 |resumeFresh _ _ _ _ a b=>exact p_ a b
 |resumeSuspended _ _ _ _ a b=>exact p_ a b
 |segSuspGen _ _ _ _ a b=>exact p_ a b
 |_=>first|exact j_ _|assumption
theorem Il{M:Model}{Γ:Ctx}{p:qbO}{g:Nat}{r:Resume}{s s':n_}{res:GenResult}(h:Wakes M Γ p g r s res s'):s.toks<=s'.toks:=by
 unfold Wakes at h;split at h
 ·exact h.elim
 ·split at h
  ·obtain⟨e,s1,a,_,_,rfl⟩:=h;have z:=vn a;exact z
  ·obtain⟨_,rfl⟩:=h;exact j_ _
  ·obtain⟨_,rfl⟩:=h;exact j_ _
 ·obtain⟨e,s1,a,_,_,rfl⟩:=h;have z:=vn a;exact z
 ·obtain⟨_,rfl⟩:=h;exact j_ _
 ·obtain⟨_,rfl⟩:=h;exact j_ _
theorem WJ{α:Type}{M:Model}{Γ:Ctx}{n:Nat}(t:Sem α):∀{Q:α->qbO->n_->Prop} {E:k_->qbO->n_->Prop} {p:qbO} {s:n_},n<=s.toks →
  Sem.wp M Γ t (λa p s'=>n<=s'.toks->Q a p s') (λe p s'=>n<=s'.toks->E e p s') p s->Sem.wp M Γ t Q E p s:=by
 induction t with
 |pure a=>intro Q E p s hn h;exact h hn
 |raise e=>intro Q E p s hn h;exact h hn
 |unsupported w=>intro Q E p s hn h;exact h
 |finish e=>intro Q E p s hn h;exact h
 |rule t k ih=>intro Q E p s hn h;exact ih () hn h
 | «at» p' k ih=>intro Q E p s hn h;exact ih () hn h
 |load a q k ih=>intro Q E p s hn h;obtain⟨o,e,h⟩:=h;exact⟨o,e,ih o hn h⟩
 |update a q f k ih=>intro Q E p s hn h;exact⟨h.1,ih () hn h.2⟩
 |alloc o k ih=>intro Q E p s hn h;exact ih _ hn h
 |loadIfAlive a k ih=>intro Q E p s hn h;exact ih _ hn h
 |point l k ih=>intro Q E p s hn h;exact ih () hn h
 |register a k ih=>intro Q E p s hn h;exact h
 |fresh k ih=>intro Q E p s hn h;exact ih _ (qbj hn) h
 |ask k ih=>intro Q E p s hn h;exact ih _ hn h
 |choose src m k ih=>intro Q E p s hn h;exact⟨h.1,ih _ hn h.2⟩
 |os q l k ih=>intro Q E p s hn h;exact ih _ hn h
 |call c hd g l k ih=>intro Q E p s hn h;obtain⟨r,s1,a,h⟩:=h;exact⟨r,s1,a,ih r (p_ hn (vn a)) h⟩
 |handled own k ih=>intro Q E p s hn h;exact ih _ hn h
 |newGen c k ih=>intro Q E p s hn h;exact ih _ hn h
 |genState g k ih=>intro Q E p s hn h;obtain⟨st,e,h⟩:=h;exact⟨st,e,ih _ hn h⟩
 |resume g r l k ih=>intro Q E p s hn h;obtain⟨res,s1,a,h⟩:=h;exact⟨res,s1,a,ih _ (p_ hn (Il a)) h⟩
 |yield v g l k ih=>intro Q E p s hn h;exact h
 |stack k ih=>intro Q E p s hn h;exact ih _ hn h
 |fork c k ih=>intro Q E p s hn h;exact h
 |thread k ih=>intro Q E p s hn h;exact ih _ hn h
 |await a tk tm l k ih=>intro Q E p s hn h;exact h
theorem bX{α:Type}{M:Model}{A:qab}{t:Sem α}{Q:α->n_->Prop}{E:k_->n_->Prop}{s:n_}{n:Nat}(hn:n<=s.toks)(h:C_ M A t (λa s'=>n<=s'.toks->Q a s') (λe s'=>n<=s'.toks->E e s') s):C_ M A t Q E s :=
 λΓ p hΓ=>WJ t hn (h Γ p hΓ)
theorem JO{M:Model}{A:qab}{c:Code}{R:Result->n_->Prop}{s:n_}{n:Nat}(hn:n<=s.toks)(h:codeAny M A c (λr s'=>n<=s'.toks->R r s') s):codeAny M A c R s:=λΓ p hc hb=>by
 obtain⟨r,s1,a,h⟩:=h Γ p hc hb;exact⟨r,s1,a,h (p_ hn (vn a))⟩
end TK
set_option Elab.async false
set_option linter.all false
set_option maxRecDepth 100000
namespace L2
open PySem PySem.Spec PyProof.Rows
section
noncomputable abbrev Key:=Sum Int v_
noncomputable def Bl:Key->k_->Bool
 | .inl k,v=>Value.isInt k v
 | .inr x,v=>Value.isStrOf x v
noncomputable def acU(w:I_):Key->Int
 | .inl k=>hashInt k
 | .inr x=>hashStr w x
theorem fJ:∀{k:Key} {v:k_},Bl k v=true->(dP λi t=>k=Sum.inl i/\v=Value.int i t)\/(dP λx t=>k=Sum.inr x/\v=Value.str x t)
 | .inl i,v,h=>by
  obtain⟨t,e⟩:=Value.isInt_shape (k:=i) (v:=v) h;exact .inl ⟨i,t,Y,e⟩
 | .inr x,v,h=>by
  obtain⟨t,e⟩:=Value.isStrOf_shape (x:=x) (v:=v) h;exact .inr ⟨x,t,Y,e⟩
theorem MA(i:Int)(t:qcN):Bl (.inl i) (.int i t)=true:=by simp[Bl,Value.isInt]
theorem Mz(x:v_)(t:qcN):Bl (.inr x) (.str x t)=true:=by simp[Bl,Value.isStrOf]
theorem Vl(a b:Int):decide ((Sum.inl a:Key)=Sum.inl b)=(a==b):=by
 by_cases e:a=b
 ·subst e;simp
 ·have h:¬(Sum.inl a:Key)=Sum.inl b:=λq=>e (Sum.inl.inj q);rw[decide_eq_false h];exact(beq_eq_false_iff_ne.mpr e).symm
theorem Vi(a b:v_):decide ((Sum.inr a:Key)=Sum.inr b)=decide (a=b):=by
 by_cases e:a=b
 ·subst e;simp
 ·have h:¬(Sum.inr a:Key)=Sum.inr b:=λq=>e (Sum.inr.inj q);rw[decide_eq_false h,decide_eq_false e]
theorem Vk(a:Int)(b:v_):decide ((Sum.inl a:Key)=Sum.inr b)=false:=decide_eq_false (λq=>nomatch q)
theorem Vj(a:v_)(b:Int):decide ((Sum.inr a:Key)=Sum.inl b)=false:=decide_eq_false (λq=>nomatch q)
noncomputable def bR(prog:r_)(w:I_):PySem.KeyKind prog w Key where
 is:=Bl
 hash:=acU w
 inj:=λv a b ha hb=>by
  rcases fJ ha with⟨i,t,rfl,rfl⟩|⟨x,t,rfl,rfl⟩
  ·rcases fJ hb with⟨j,u,rfl,e⟩|⟨y,u,rfl,e⟩
   ·injection e with e1 _;rw[e1]
   ·exact nomatch e
  ·rcases fJ hb with⟨j,u,rfl,e⟩|⟨y,u,rfl,e⟩
   ·exact nomatch e
   ·injection e with e1 _;rw[e1]
 byValue:=λk v h=>by
  rcases fJ h with⟨i,t,rfl,rfl⟩|⟨x,t,rfl,rfl⟩<;>rfl
 pyHash:=λhv h=>by
  rcases fJ hv with⟨i,t,rfl,rfl⟩|⟨x,t,rfl,rfl⟩
  ·exact wpAny_pyHash_int h
  ·exact wpAny_pyHash_str h
 eqBool:=λhu hv h=>by
  rcases fJ hu with⟨i,t,rfl,rfl⟩|⟨x,t,rfl,rfl⟩
  ·rcases fJ hv with⟨j,u,rfl,rfl⟩|⟨y,u,rfl,rfl⟩
   ·rw[Vl]at h;exact wpAny_eqBool_int h
   ·rw[Vk]at h;exact SeqAt.EqAt.int_str i t y u _ _ _ _ h
  ·rcases fJ hv with⟨j,u,rfl,rfl⟩|⟨y,u,rfl,rfl⟩
   ·rw[Vj]at h;exact SeqAt.EqAt.str_int x t j u _ _ _ _ h
   ·rw[Vi]at h;exact wpAny_eqBool_str h
 «strs» :=λk x t v h=>by
  rcases fJ h with⟨i,u,rfl,e⟩|⟨y,u,rfl,e⟩
  ·exact nomatch e
  ·injection e with e1 _;subst e1;cases v<;>rfl
theorem GL(prog:r_)(w:I_)(i:Int)(t:qcN):(bR prog w).is (.inl i) (.int i t)=true:=MA i t
theorem pI(prog:r_)(w:I_)(x:v_)(t:qcN):(bR prog w).is (.inr x) (.str x t)=true:=Mz x t
end
section
inductive V where
 |jG|bl (b:Bool)|int (i:Int)|str (x:v_)|LA (b:Array UInt8)|VR (b:UInt64)|ref (a:U)|ty (n:String)
 deriving DecidableEq
noncomputable def RelV:V->k_->Prop
 | .jG,u=>u=Value.none
 | .bl b,u=>u=Value.bool b
 | .int i,u=>∃t,u=Value.int i t
 | .str x,u=>∃t,u=Value.str x t
 | .LA b,u=>∃t,u=Value.bytes b t
 | .VR b,u=>∃t,u=Value.float b t
 | .ref a,u=>u=Value.ref a
 | .ty n,u=>u=Value.type n
noncomputable abbrev Vals:List V->List k_->Prop:=Paired RelV
theorem Vals.length{xs:List V}{us:List k_}(r:Vals xs us):xs.length=us.length:=Paired.length r
theorem Vals.get:∀{xs:List V} {us:List k_} {i:Nat} {x:V},Vals xs us->xs[i]? =some x->∃u,us[i]? =some u/\RelV x u
 |_,_,_,_,.nil,e=>by simp at e
 |_,_,0,_,.cons r _,e=>by simp at e;subst e;exact⟨_,Y,r⟩
 |_,_,i+1,x,.cons _ t,e=>by
  obtain⟨u,h1,h2⟩:=Vals.get (i:=i) (x:=x) t (by simpa using e);exact⟨u,by simpa using h1,h2⟩
theorem Vals.set{x:V}{u:k_}(r:RelV x u):∀{xs:List V} {us:List k_} (i:Nat),Vals xs us->Vals (xs.set i x) (us.set i u)
 |_,_,_,.nil=>.nil
 |_,_,0,.cons _ t=>.cons r t
 |_,_,i+1,.cons q t=>.cons q (Vals.set r i t)
theorem Vals.append:∀{xs ys:List V} {us ws:List k_},Vals xs us->Vals ys ws->Vals (xs++ys) (us++ws)
 |_,_,_,_,.nil,s=>s
 |_,_,_,_,.cons r t,s=>.cons r (Vals.append t s)
theorem Vals.take:∀{xs:List V} {us:List k_} (n:Nat),Vals xs us->Vals (xs.take n) (us.take n)
 |_,_,0,_=>.nil
 |_,_,_+1,.nil=>.nil
 |_,_,n+1,.cons r t=>.cons r (Vals.take n t)
theorem Vals.drop:∀{xs:List V} {us:List k_} (n:Nat),Vals xs us->Vals (xs.drop n) (us.drop n)
 |_,_,0,r=>r
 |_,_,_+1,.nil=>.nil
 |_,_,n+1,.cons _ t=>Vals.drop n t
theorem Vals.none_of:∀{xs:List V} {us:List k_} {i:Nat},Vals xs us->xs[i]? =none->us[i]? =none:=λ{xs us i} r e=>by
 have h1:=r.length;have h2:xs.length<=i:=List.getElem?_eq_none_iff.mp e;exact List.getElem?_eq_none_iff.mpr (by omega)
noncomputable def uq:Option V->Option k_->Prop
 |some v,some u=>RelV v u
 |none,none=>True
 |_,_=>False
noncomputable def KV{κ:Type}:List (κ×V)->List (κ×k_)->Prop:=Paired λ(p:κ×V) (q:κ×k_)=>p.1=q.1/\RelV p.2 q.2
noncomputable def kV:Key->V
 | .inl i=>.int i
 | .inr x=>.str x
inductive HO where
 |lst (xs:List V)
 |tup (xs:List V)
 |dK (kvs:List (Key×V))|dT (kvs:List (List Key×V))
 |set (S:Int->Bool) (n:Nat)
 |ins (C dx:U) (fs:List (v_×V))
 |own (x:U)
 |xd (fs:List (v_×V))
 |met (f x:U)
 |rng (lo hi:Int)
 |yg (o:qa9) (u:HO)
 |Uu (ps:Array k_)
 |ext (φ:W_->Prop)
noncomputable abbrev Hp:=U->Option HO
noncomputable def upd(H:Hp)(a:U)(o:HO):Hp:=λb=>if b=a then some o else H b
theorem ai{H:Hp}{a:U}{o:HO}:upd H a o a=some o:=by unfold upd;rw[if_pos rfl]
theorem av{H:Hp}{a b:U}{o:HO}(h:b≠a):upd H a o b=H b:=by unfold upd;rw[if_neg h]
theorem uc{H:Hp}{a b:U}{o u:HO}(h:H a=some o)(h':H b=some u)(d:o≠u):a≠b:=by
 intro e;subst e;rw[h]at h';exact d (L_ h')
theorem aX{H:Hp}{a b:U}{o:HO}(h:H a=some o)(h':H b=none):a≠b:=by
 intro e;subst e;rw[h]at h';cases h'
section
variable(P:r_)(w:I_)
noncomputable def dF(H:Hp)(h:W_)(a:U):HO->Prop
 | .lst xs=>xs.length<=D_/\dP λ(its:List k_) (n:Nat)=>Vals xs its/\h.get? a=some { cls:=.type "list",data:=.seq its.toArray n }
 | .tup xs=>xs.length<=D_/\∃its:List k_,Vals xs its/\IsTup h a its.toArray
 | .dK kvs=>kvs.length<=D_/\(a==sysModules)=false/\∃vs,KV kvs vs/\h.DictOf (bR P w) a vs
 | .dT kvs=>kvs.length<=D_/\(a==sysModules)=false/\∃xs:List (List Key×U×k_),
   Paired (λ(p:List Key×V) (q:List Key×U×k_)=>p.1=q.1/\H q.2.1=some (.tup (p.1.map kV))/\RelV p.2 q.2.2) kvs xs ∧
   nN λo es ep=>h.get? a=some o/\o.ExactDict/\o.data= .dict es ep/\es.toList=xs.map (entryOfKey (tupleKind (bR P w)))/\(xs.map (·.1)).Nodup
 | .set S n=>h.SetOf (intKind P w) a S n
 | .ins C dx fs=>H dx=some (.own a)/\fs.length<=1000/\dx≠a/\h.get? a=some (PySem.W.instObj C dx) ∧
   ∃mA,h.Ns1 dx mA/\(∀f,uq (fs.lookup f) (mA f))/\PySem.Within mA (fs.map (·.1))
 | .own _=>∃o,h.get? a=some o
 | .xd fs=>∃mA,h.Ns1 a mA/\∀f,uq (fs.lookup f) (mA f)
 | .rng lo hi=>nN λt u v=>h.get? a=some { cls:=.type "range",data:=.fields #[.int lo t,.int hi u,.int 1 v] }
 | .yg o u=>h.get? a=some o/\dF H h a u
 | .Uu ps=>h.get? a=some { cls:=.none,data:=.fields ps }
 | .met f x=>h.get? a=some (PySem.W.methodObj (.ref f) (.ref x))
 | .ext φ=>φ h/\(∃o,h.get? a=some o)/\∀h1 h2:W_,φ h1->(∀o,h1.get? a=some o->h2.get? a=some o)->φ h2
def um(H:Hp)(h:W_):Prop:=∀a o,H a=some o->dF P w H h a o
end
section
variable{P:r_}{w:I_}{H H':Hp}{h h':W_}{a:U}{o:HO}
theorem dF.lt(x:dF P w H h a o):a<h.objs.size:=by
 cases o with
 |lst xs=>obtain⟨_,_,_,_,e⟩:=x;exact E_ e
 |tup xs=>obtain⟨_,_,_,p⟩:=x;exact p.lt
 |dK kvs=>obtain⟨_,_,_,_,o,_,_,e,_⟩:=x;exact E_ e
 |dT kvs=>obtain⟨_,_,_,_,o,_,_,e,_⟩:=x;exact E_ e
 |set S n=>obtain⟨o,_,_,_,e,_⟩:=x;exact E_ e
 |ins C dx fs=>obtain⟨_,_,_,e,_⟩:=x;exact E_ e
 |own y=>obtain⟨_,e⟩:=x;exact E_ e
 |xd fs=>obtain⟨_,⟨_,_,_,e,_⟩,_⟩:=x;exact E_ e
 |rng lo hi=>obtain⟨_,_,_,e⟩:=x;exact E_ e
 |yg ob u=>obtain⟨e,_⟩:=x;exact E_ e
 |Uu ps=>exact E_ (show h.get? a=some _ from x)
 |met f y=>exact E_ (show h.get? a=some _ from x)
 |ext φ=>obtain⟨_,⟨_,e⟩,_⟩:=x;exact E_ e
theorem Paired.ji{α β:Type}{F G:α->β->Prop}:∀{l₁:List α} {l₂:List β},Paired F l₁ l₂->(∀a b,F a b->G a b)->Paired G l₁ l₂
 |_,_,.nil,_=>.nil
 |_,_,.cons r t,f=>.cons (f _ _ r) (Paired.ji t f)
theorem dF.stay(x:dF P w H h a o)(k:∀b u,(b=a\/H b=some (.own a))->h.get? b=some u->h'.get? b=some u)
  (ho:∀b,H b=some (.own a)->H' b=some (.own a)) (ht:∀b xs,H b=some (.tup xs)->H' b=some (.tup xs)):dF P w H' h' a o:=by
 induction o with
 |lst xs=>obtain⟨z,its,n,r,e⟩:=x;exact⟨z,its,n,r,k _ _ (.inl Y) e⟩
 |tup xs=>obtain⟨z,its,r,ob,e,c⟩:=x;exact⟨z,its,r,ob,k _ _ (.inl Y) e,c⟩
 |dK kvs=>obtain⟨z,y,vs,r,ob,es,ep,e,c⟩:=x;exact⟨z,y,vs,r,ob,es,ep,k _ _ (.inl Y) e,c⟩
 |dT kvs =>
  obtain⟨z,y,xs,r,ob,es,ep,e,c⟩:=x;exact⟨z,y,xs,Paired.ji r λp q z=>⟨z.1,ht _ _ z.2.1,z.2.2⟩,ob,es,ep,k _ _ (.inl Y) e,c⟩
 |set S n=>obtain⟨ob,es,ep,t,e,c⟩:=x;exact⟨ob,es,ep,t,k _ _ (.inl Y) e,c⟩
 |ins C dx fs =>
  obtain⟨d,z,ne,e,mA,⟨od,es,ep,e2,c⟩,r⟩:=x;exact⟨ho _ d,z,ne,k _ _ (.inl Y) e,mA,⟨od,es,ep,k _ _ (.inr d) e2,c⟩,r⟩
 |own y=>obtain⟨ob,e⟩:=x;exact⟨ob,k _ _ (.inl Y) e⟩
 |xd fs=>obtain⟨mA,⟨od,es,ep,e,c⟩,r⟩:=x;exact⟨mA,⟨od,es,ep,k _ _ (.inl Y) e,c⟩,r⟩
 |rng lo hi=>obtain⟨t,u,v,e⟩:=x;exact⟨t,u,v,k _ _ (.inl Y) e⟩
 |yg ob u ih=>obtain⟨e,q⟩:=x;exact⟨k _ _ (.inl Y) e,ih q⟩
 |Uu ps =>
  have e:h.get? a=some { cls:=.none,data:=.fields ps }:=x;show h'.get? a=some { cls:=.none,data:=.fields ps };exact k a _ (.inl Y) e
 |met f y =>
  have e:h.get? a=some (PySem.W.methodObj (.ref f) (.ref y)):=x;show h'.get? a=some (PySem.W.methodObj (.ref f) (.ref y));exact k a _ (.inl Y) e
 |ext φ=>obtain⟨p,⟨o,e⟩,st⟩:=x;exact⟨st _ _ p λo q=>k _ _ (.inl Y) q,⟨o,k _ _ (.inl Y) e⟩,st⟩
theorem um.lt(x:um P w H h)(e:H a=some o):a<h.objs.size:=(x a o e).lt
theorem um.fresh(x:um P w H h)(e:h.objs.size<=a):H a=none:=by
 cases q:H a with
 |none=>rfl
 |some u=>exact absurd (H_ (x.lt q) e) (qap _)
theorem um.kept(x:um P w H h)(k:∀b u,h.get? b=some u->h'.get? b=some u):um P w H h':=λa o e =>
 (x a o e).stay (λb u _ q=>k b u q) (λ_ q=>q) λ_ _ q=>q
theorem um.laid(x:um P w H h)(k:∀b u,h.get? b=some u->h'.get? b=some u)(hp:h.objs.size<=a)(new:dF P w (upd H a o) h' a o):um P w (upd H a o) h':=λb u e=>by
 have hn:=x.fresh hp;by_cases hb:b=a
 ·subst hb;rw[ai]at e;cases e;exact new
 ·rw[av hb]at e;exact(x b u e).stay (λc v _ q=>k c v q) (λc q=>by rw[av (aX q hn)];exact q) λc xs q=>by rw[av (aX q hn)];exact q
end
def Rd(H:Hp)(a:U)(u:HO):Prop:=H a=some u\/∃o,H a=some (.yg o u)
theorem Rd.ok{P:r_}{w:I_}{H:Hp}{h:W_}{a:U}{u:HO}(r:Rd H a u)(x:um P w H h):dF P w H h a u:=by
 rcases r with r|⟨o,r⟩
 ·exact x a u r
 ·obtain⟨_,q⟩:=x a _ r;exact q
noncomputable def Zv:Option HO->Prop
 |some (.lst _)=>True
 |some (.dK _)=>True
 |some (.dT _)=>True
 |some (.set _ _)=>True
 |some (.ins _ _ _)=>True
 |some (.ext _)=>True
 |_=>False
section
variable{P:r_}{w:I_}{H:Hp}{h h':W_}{x e:U}{o':HO}
theorem um.write(ok:um P w H h)(mu:Zv (H x))(he:e=x\/H e=some (.own x))(k:∀b u,b≠e->h.get? b=some u->h'.get? b=some u)(Wn:∃u,h'.get? e=some u)
  (new:dF P w (upd H x o') h' x o'):um P w (upd H x o') h':=λb u q=>by
 have Xs:∀c y,H c=some (.own y)->c≠x:=λc y r z=>by subst z;rw[r]at mu;exact mu
 have acD:∀c xs,H c=some (.tup xs)->c≠x:=λc xs r z=>by subst z;rw[r]at mu;exact mu
 by_cases hb:b=x
 ·subst hb;rw[ai]at q;cases q;exact new
 ·rw[av hb]at q;by_cases VJ:b=e
  ·have q':H b=some (.own x):=by
    rcases he with z|z
    ·exact absurd (VJ.trans z) hb
    ·rw[VJ];exact z
   rw[q]at q';cases q';obtain⟨v,hv⟩:=Wn;exact⟨v,by rw[VJ];exact hv⟩
  ·refine(ok b u q).stay (λc v hc r=>k c v ?_ r) (λc r=>by rw[av (Xs c b r)];exact r) λc xs r=>by rw[av (acD c xs r)];exact r
   rcases hc with rfl|hc
   ·exact VJ
   ·rintro rfl;rcases he with z|z
    ·exact Xs c b hc z
    ·rw[hc]at z;cases z;exact hb Y
end
structure Un(fs ex:List U)(H H':Hp)(h h':W_):Prop where
 keep:∀b o,h.get? b=some o->H b=none->b∉fs->b∉ex->h'.get? b=some o
 slot:∀b o,h.get? b=some o->H b=none->b∈fs->b∉ex->∃sl,h'.get? b=some { o with slots:=sl }
 free:∀b o,h.get? b=some o->H b=none->b∉ex->H' b=none
 there:∀b o,h.get? b=some o->b∉ex->∃o',h'.get? b=some o'
 tups:∀b xs,H b=some (.tup xs)->H' b=some (.tup xs)
 Cz:∀b o u,H b=some (.yg o u)->H' b=some (.yg o u)
 DT:∀b ps,H b=some (.Uu ps)->∃more,H' b=some (.Uu (ps++more))
section
variable{fs fs' ex ex':List U}{H H1 H2:Hp}{h h1 h2 h':W_}{a x e:U}{o:HO}
theorem Un.any(u:Un fs ex H H1 h h1){b:U}{ob:qa9}(q:h.get? b=some ob)(n:H b=none)(hx:b∉ex):∃sl,h1.get? b=some { ob with slots:=sl }:=by
 by_cases hb:b∈fs
 ·exact u.slot b ob q n hb hx
 ·exact⟨ob.slots,u.keep b ob q n hb hx⟩
theorem Un.kept(k:∀b u,h.get? b=some u->h'.get? b=some u):Un fs ex H H h h' :=
 ⟨λb ob q _ _ _=>k b ob q,λb ob q _ _ _=>⟨ob.slots,k b ob q⟩,λ_ _ _ n _=>n,λb ob q _=>⟨ob,k b ob q⟩,λ_ _ q=>q,λ_ _ _ q=>q,λ_ ps q=>⟨#[],by rw[q];simp⟩⟩
theorem Un.refl:Un fs ex H H h h:=Un.kept λ_ _ q=>q
theorem Un.laid(k:∀b u,h.get? b=some u->h'.get? b=some u)(hp:h.objs.size<=a)(hn:H a=none):Un fs ex H (upd H a o) h h' where
 keep:=λb u q _ _ _=>k b u q
 slot:=λb u q _ _ _=>⟨u.slots,k b u q⟩
 free:=λb u q n _=>by rw[av (R_ (H_ (E_ q) hp))];exact n
 there:=λb u q _=>⟨u,k b u q⟩
 tups:=λb xs q=>by rw[av (aX q hn)];exact q
 Cz:=λb u xs q=>by rw[av (aX q hn)];exact q
 DT:=λb ps q=>⟨#[],by rw[av (aX q hn),q];simp⟩
theorem Un.write(mu:Zv (H x))(he:e=x\/H e=some (.own x))(k:∀b u,b≠e->h.get? b=some u->h'.get? b=some u)(Wn:∃u,h'.get? e=some u):Un fs ex H (upd H x o) h h':=by
 have hx:∀b,H b=none->b≠x:=λb n z=>by subst z;rw[n]at mu;exact mu
 have hb:∀b,H b=none->b≠e:=λb n z=>by
  subst z;rcases he with r|r
  ·exact hx b n r
  ·rw[n]at r;cases r
 have hm:∀b u,H b=some u->¬Zv (some u)->b≠x:=λb u q nm z=>by subst z;rw[q]at mu;exact nm mu
 refine⟨λb u q n _ _=>k b u (hb b n) q,λb u q n _ _=>⟨u.slots,k b u (hb b n) q⟩,λb u q n _=>by rw[av (hx b n)];exact n,λb u q _=>?_,
  λb xs q=>by rw[av (hm b _ q λz=>z)];exact q,λb u xs q=>by rw[av (hm b _ q λz=>z)];exact q,λb ps q=>⟨#[],by rw[av (hm b _ q λz=>z),q];simp⟩⟩
 by_cases VJ:b=e
 ·subst VJ;exact Wn
 ·exact⟨u,k b u VJ q⟩
end
noncomputable def ZV(h:W_)(H:Hp):List U:=(S_ h.objs.size).filter λa=>(H a).isSome
noncomputable def Cy(h:W_)(H:Hp):W_:=PySem.W.hideAll h (ZV h H)
theorem MG(h:W_)(H:Hp):(Cy h H).objs.size=h.objs.size:=PySem.W.hideAll_size _ _
theorem Pj{h:W_}{H:Hp}{b:U}{o:qa9}(e:h.get? b=some o)(n:H b=none):(Cy h H).get? b=some o :=
 PySem.W.hideAll_get _ e λhm=>by
  have q:(H b).isSome=true:=(Z_.mp hm).2;rw[n]at q;simp at q
theorem Rj{h:W_}{H:Hp}{b:U}{o:qa9}(e:(Cy h H).get? b=some o):h.get? b=some o/\H b=none:=by
 have e':h.get? b=some o:=PySem.W.of_hideAll (ZV h H) e;refine⟨e',?_⟩
 cases q:H b with
 |none=>rfl
 |some x =>
  have hm:b∈ZV h H:=Z_.mpr ⟨qbe.mpr (E_ e'),by simp[q]⟩;have z:(Cy h H).get? b=none:=PySem.W.hideAll_none (ZV h H) hm;rw[z]at e;cases e
end
section
structure Mod(K:PySem.W.Frag)(mg:v_->Option k_)(base:W_):Prop where
 Z7:K.In base
 glob:base.Ns J_ mg
 blt:∃mb,base.Ns builtinsNs mb/\∀x:v_,x≠ "__name__" ->mb x=bootBuiltins x
 nolimit:base.NoLimit
structure Cx where
 prog:r_
 w:I_
 K:PySem.W.Frag
 mg:v_->Option k_
 base:W_
 A:qab
 N:List v_
 s₀:n_
 H₀:Hp
 env:Env
 outer:List Env
 stack:List Env
 ex:List U
 fn:v_->Bool
 calm:Bool
 pn:List (U×qa9)
 xe:k_->n_->Prop
noncomputable def frs(l:List Env):List U:=l.filterMap (·.frame)
noncomputable abbrev Cx.fs(X:Cx):List U:=frs X.outer
def Vis(sc:qbn)(x:v_):Prop:=sc.names.lookup x=some .local\/sc.names.lookup x=some .cell\/sc.names.lookup x=some .free
def Loc(sc:qbn)(x:v_):Prop:=sc.names.lookup x=some .local\/sc.names.lookup x=some .cell
def Look(env:Env)(h:W_)(m:v_->Option k_)(x:v_)(u:k_):Prop :=
 (env.kindOf x=some .local/\m x=some u)\/((env.kindOf x=some .cell\/env.kindOf x=some .free)/\∃c,env.cells.lookup x=some c/\h.IsCell c (some u))
def JX(_mg:v_->Option k_)(n:Nat):Prop:=0<n
theorem JX.mono{mg:v_->Option k_}{n m:Nat}(h:JX mg n)(l:n<=m):JX mg m:=H_ h l
structure Cx.Ok(X:Cx):Prop where
 mod:Mod X.K X.mg X.base
 kind:X.env.scope.kind= .function
 glob:X.env.globals=J_
 blt:X.env.builtins=builtinsNs
 above:X.s₀.heap.objs.size<=X.env.locals
 inj:∀x y c,X.env.cells.lookup x=some c->X.env.cells.lookup y=some c->x=y
 has:∀x,(X.env.kindOf x=some .cell\/X.env.kindOf x=some .free)->∃c,X.env.cells.lookup x=some c
 V1:∀x c,X.fn x=true->X.env.cells.lookup x=some c->X.s₀.heap.objs.size<=c
 hd:X.calm=true->X.A.handled=none
 frames:X.A.frames=some X.stack
 stk:X.stack=X.outer\/(X.stack=X.env::X.outer/\X.env.frame=some X.env.locals)
 exf:∀b∈X.ex,b≠X.env.locals/\∀x c,X.env.cells.lookup x=some c->c≠b
 bs:∀b o,X.base.get? b=some o->X.s₀.heap.get? b=some o/\X.H₀ b=none
 R0:X.base.objs.size<=X.s₀.heap.objs.size
 OB:∀b o,X.base.get? b=some o->b∉X.ex
 RU:∀b∈X.ex,b∉X.fs
 zL:X.s₀.heap.FunFrames X.base X.outer
 VQ:∀b∈X.fs,X.H₀ b=none
 tk:JX X.mg X.s₀.toks
structure Inv(X:Cx)(pins:List (U×qa9))(σ:List (Option V))(H:Hp)(s:n_):Prop where
 ok:X.Ok
 os:s.os=X.s₀.os
 bare:AllBare s.gens
 base:Un X.fs X.ex X.H₀ H X.s₀.heap s.heap
 loc:∃m,s.heap.Ns X.env.locals m/\∀(i:Nat) (x:v_) (v:V),X.N[i]? =some x->σ[i]? =some (some v)->Vis X.env.scope x->∃u,RelV v u/\Look X.env s.heap m x u
 cell:∀x c,X.env.cells.lookup x=some c->∃v,s.heap.IsCell c v
 free:H X.env.locals=none
 ug:∀x c,X.env.cells.lookup x=some c->H c=none
 pin:∀p∈X.pn++pins,s.heap.get? p.1=some p.2/\H p.1=none/\p.1≠X.env.locals/\p.1∉X.fs/\∀v,p.2.data≠ .cell v
 hok:um X.prog X.w H s.heap
 len:σ.length=X.N.length
 up:X.s₀.toks<=s.toks
section
variable{X:Cx}{pins:List (U×qa9)}{σ:List (Option V)}{H H':Hp}{s:n_}{h':W_}
theorem Cx.Ok.acF(ok:X.Ok){b:U}{o:qa9}(e:X.base.get? b=some o):b∉X.fs:=λhb=>by
 have:=(ok.zL.mem hb).1;rw[e]at this;cases this
theorem Inv.tk(I:Inv X pins σ H s):JX X.mg s.toks:=I.ok.tk.mono I.up
theorem Inv.bs(I:Inv X pins σ H s):∀b o,X.base.get? b=some o->s.heap.get? b=some o/\H b=none:=λb o e =>
 ⟨I.base.keep b o (I.ok.bs b o e).1 (I.ok.bs b o e).2 (I.ok.acF e) (I.ok.OB b o e),I.base.free b o (I.ok.bs b o e).1 (I.ok.bs b o e).2 (I.ok.OB b o e)⟩
theorem Inv.bk(I:Inv X pins σ H s):∀b o,X.base.get? b=some o->s.heap.get? b=some o:=λb o e=>(I.bs b o e).1
theorem Inv.mod(I:Inv X pins σ H s):Mod X.K X.mg X.base:=I.ok.mod
theorem Inv.yI(I:Inv X pins σ H s):X.K.In s.heap:=I.ok.mod.Z7.keeps I.bk
theorem Inv.nolimit(I:Inv X pins σ H s):s.heap.NoLimit:=I.ok.mod.nolimit.keeps I.bk
theorem Inv.lt(I:Inv X pins σ H s):X.env.locals<s.heap.objs.size:=let ⟨_,hn,_⟩:=I.loc;hn.lt
theorem Inv.sz(I:Inv X pins σ H s):X.s₀.heap.objs.size<=s.heap.objs.size:=p_ I.ok.above (qaJ I.lt)
theorem Inv.acE(I:Inv X pins σ H s){a:U}(h:s.heap.objs.size<=a):a∉X.fs:=λhb=>by
 obtain⟨_,o,ho,_⟩:=I.ok.zL.mem hb;exact absurd (H_ (E_ ho) (p_ I.sz h)) (qap _)
theorem Inv.VX(I:Inv X pins σ H s):∀x c,X.env.cells.lookup x=some c->c≠X.env.locals:=λx c e z=>by
 obtain⟨v,o,ho,hd⟩:=I.cell x c e;obtain⟨m,⟨o',es,ep,ho',hd',_⟩,_⟩:=I.loc;rw[z,ho']at ho;cases ho;rw[hd']at hd;cases hd
theorem Inv.zL(I:Inv X pins σ H s):s.heap.FunFrames X.base X.outer:=by
 have all:∀(l:List Env),(∀b∈frs l,b∈X.fs)->X.s₀.heap.FunFrames X.base l->s.heap.FunFrames X.base l:=by
  intro l
  induction l with
  |nil=>intro _ _;trivial
  |cons env r ih =>
   intro hs hl;obtain⟨hk,⟨L,o,hf,hn,ho,hd⟩,hr⟩:=hl;have hL:L∈X.fs:=hs L (by unfold frs;rw[qas,hf];exact z_);obtain⟨sl,e⟩:=I.base.slot L o ho (I.ok.VQ L hL) hL λz=>I.ok.RU L z hL;exact⟨hk,⟨L,_,hf,hn,e,hd⟩,ih (λb hb=>hs b (by unfold frs;rw[qas,hf];exact s_ _ hb)) hr⟩
 exact all X.outer (λ_ hb=>hb) I.ok.zL
theorem Inv.stack(I:Inv X pins σ H s):s.heap.FunFrames X.base X.stack:=by
 rcases I.ok.stk with e|⟨e,hf⟩
 ·rw[e];exact I.zL
 ·rw[e];obtain⟨m,hn,_⟩:=I.loc;refine .cons (by rw[I.ok.kind];decide) hf hn ?_ I.zL;exact Heap.get?_none_of_le (p_ I.ok.R0 I.ok.above)
theorem Inv.DV(I:Inv X pins σ H s):∀b∈frs X.stack,b∈X.env.locals::X.fs:=λb hb=>by
 rcases I.ok.stk with e|⟨e,hf⟩
 ·rw[e]at hb;exact s_ _ hb
 ·rw[e]at hb;unfold frs at hb;rw[qas,hf]at hb;exact hb
theorem Inv.Kw(I:Inv X pins σ H s):∀b∈frs X.stack,H b=none:=λb hb=>by
 rcases B_.mp (I.DV b hb)with e|hb
 ·rw[e];exact I.free
 ·obtain⟨_,o,ho,_⟩:=I.ok.zL.mem hb;exact I.base.free b o ho (I.ok.VQ b hb) λz=>I.ok.RU b z hb
theorem Inv.step{g':Array GenState}{t':Nat}{d':Drawn}{ch:List U}(I:Inv X pins σ H s)
  (hch:∀b∈ch,(b∈X.ex\/X.s₀.heap.objs.size<=b)/\b≠X.env.locals/\(∀x c,X.env.cells.lookup x=some c->c≠b)/\∀p∈X.pn++pins,p.1≠b)
  (keep:∀b o,b≠X.env.locals->b∉X.fs->b∉ch->s.heap.get? b=some o->H b=none->h'.get? b=some o)
  (slot:∀b o,b≠X.env.locals->b∈X.fs->b∉ch->s.heap.get? b=some o->H b=none->∃sl,h'.get? b=some { o with slots:=sl }) (free:∀b o,b∉ch->s.heap.get? b=some o->H b=none->H' b=none)
  (there:∀b o,b∉ch->s.heap.get? b=some o->∃o',h'.get? b=some o')
  (tups:∀b xs,H b=some (.tup xs)->H' b=some (.tup xs)) (Cz:∀b o u,H b=some (.yg o u)->H' b=some (.yg o u)) (DT:∀b ps,H b=some (.Uu ps)->∃more,H' b=some (.Uu (ps++more)))
  (ns:∀m,s.heap.Ns X.env.locals m->h'.Ns X.env.locals m) (hok:um X.prog X.w H' h') (hg:AllBare g') (ht:X.s₀.toks<=t') :
  Inv X pins σ H' { s with heap:=h',gens:=g',drawn:=d',toks:=t' }:=by
 have neL:∀b o,X.s₀.heap.get? b=some o->b≠X.env.locals:=λb o e=>R_ (H_ (E_ e) I.ok.above);have Z6:∀b o,X.s₀.heap.get? b=some o->b∉X.ex->b∉ch:=λb o e hx hb=>by
  rcases(hch b hb).1 with z|z
  ·exact hx z
  ·exact absurd (H_ (E_ e) z) (qap _)
 have cellK:∀x c,X.env.cells.lookup x=some c->∀v,s.heap.IsCell c v->h'.IsCell c v:=λx c e v ⟨o,ho,hd⟩=>by
  have SG:c∉ch:=λz=>(hch c z).2.2.1 x c e rfl;by_cases hc:c∈X.fs
  ·obtain⟨sl,q⟩:=slot c o (I.VX x c e) hc SG ho (I.ug x c e);exact⟨_,q,hd⟩
  ·exact⟨o,keep c o (I.VX x c e) hc SG ho (I.ug x c e),hd⟩
 refine⟨I.ok,I.os,hg,⟨λb o e n hb hx=>?_,λb o e n hb hx=>?_,λb o e n hx=>?_,λb o e hx=>?_,λb xs e=>tups b xs (I.base.tups b xs e),λb o xs e=>Cz b o xs (I.base.Cz b o xs e),λb ps e=>?_⟩,?_,λx c e=>?_,?_,λx c e=>?_,λp hp=>?_,hok,I.len,ht⟩
 ·exact keep b o (neL b o e) hb (Z6 b o e hx) (I.base.keep b o e n hb hx) (I.base.free b o e n hx)
 ·obtain⟨sl,e1⟩:=I.base.slot b o e n hb hx;obtain⟨sl',e2⟩:=slot b _ (neL b o e) hb (Z6 b o e hx) e1 (I.base.free b o e n hx);exact⟨sl',e2⟩
 ·obtain⟨o',e1⟩:=I.base.there b o e hx;exact free b o' (Z6 b o e hx) e1 (I.base.free b o e n hx)
 ·obtain⟨o',e1⟩:=I.base.there b o e hx;exact there b o' (Z6 b o e hx) e1
 ·obtain⟨m1,e1⟩:=I.base.DT b ps e;obtain⟨m2,e2⟩:=DT b _ e1;exact⟨m1++m2,by rw[e2,Array.append_assoc]⟩
 ·obtain⟨m,hn,hl⟩:=I.loc;refine⟨m,ns m hn,λi x v e1 e2 e3=>?_⟩;obtain⟨u,r,l⟩:=hl i x v e1 e2 e3;refine⟨u,r,?_⟩;rcases l with l|⟨k,c,e,z⟩
  ·exact .inl l
  ·exact .inr ⟨k,c,e,cellK x c e _ z⟩
 ·obtain⟨v,z⟩:=I.cell x c e;exact⟨v,cellK x c e v z⟩
 ·obtain⟨m,⟨o,_,_,ho,_⟩,_⟩:=I.loc;exact free _ o (λz=>(hch _ z).2.1 Y) ho I.free
 ·obtain⟨v,o,ho,hd⟩:=I.cell x c e;exact free c o (λz=>(hch c z).2.2.1 x c e Y) ho (I.ug x c e)
 ·obtain⟨e,n,ne,nf,d⟩:=I.pin p hp;have SG:p.1∉ch:=λz=>(hch p.1 z).2.2.2 p hp rfl;exact⟨keep p.1 p.2 ne nf SG e n,free p.1 p.2 SG e n,ne,nf,d⟩
theorem Inv.un{t':Nat}(I:Inv X pins σ H s)(u:Un X.fs [] H H' s.heap h')(hok:um X.prog X.w H' h')(ht:s.toks<=t':=by first|exact j_ _|exact qay _|assumption|omega):Inv X pins σ H' { s with heap:=h',toks:=t' }:=by
 obtain⟨m,⟨o,es,ep,ho,r⟩,_⟩:=id I.loc;obtain⟨sl,hL⟩:=u.any ho I.free (by simp)
 exact I.step (g':=s.gens) (d':=s.drawn) (ch:=[]) (λ_ z=>nomatch z) (λb o _ hb _ e n=>u.keep b o e n hb (by simp)) (λb o _ hb _ e n=>u.slot b o e n hb (by simp)) (λb o _ e n=>u.free b o e n (by simp)) (λb o _ e=>u.there b o e (by simp)) u.tups u.Cz u.DT (λm' hm=>by
  obtain⟨o',es',ep',ho',r'⟩:=hm;rw[ho]at ho';cases ho';exact⟨_,es',ep',hL,r'⟩) hok I.bare (p_ I.up ht)
theorem Inv.call{g':Array GenState}{t':Nat}{d':Drawn}{ch:List U}(I:Inv X pins σ H s)(u:Un (frs X.stack) ch H H' s.heap h')(hok:um X.prog X.w H' h')(hg:AllBare g')
  (hch:∀b∈ch,(b∈X.ex\/X.s₀.heap.objs.size<=b)/\b≠X.env.locals/\(∀x c,X.env.cells.lookup x=some c->c≠b)/\∀p∈X.pn++pins,p.1≠b) (ht:X.s₀.toks<=t') :
  Inv X pins σ H' { s with heap:=h',gens:=g',drawn:=d',toks:=t' }:=by
 obtain⟨m,⟨o,es,ep,ho,r⟩,_⟩:=id I.loc;obtain⟨sl,hL⟩:=u.any ho I.free λz=>(hch _ z).2.1 rfl;exact I.step (ch:=ch) hch (λb o hL hb hc e n=>u.keep b o e n (λz=>(B_.mp (I.DV b z)).elim hL hb) hc) (λb o _ _ hc e n=>u.any e n hc) (λb o hc e n=>u.free b o e n hc) (λb o hc e=>u.there b o e hc) u.tups u.Cz u.DT (λm' hm=>by
  obtain⟨o',es',ep',ho',r'⟩:=hm;rw[ho]at ho';cases ho';exact⟨_,es',ep',hL,r'⟩) hok hg ht
theorem Inv.turned{t':Nat}{it:U}(I:Inv X pins σ H s)(k:∀b o,b≠it->s.heap.get? b=some o->h'.get? b=some o)(hn:H it=none)(hL:it≠X.env.locals)
  (h1:it∈X.ex\/X.s₀.heap.objs.size<=it) (h2:∀x c,X.env.cells.lookup x=some c->c≠it) (h3:∀p∈X.pn++pins,p.1≠it) (ht:s.toks<=t':=by first|exact j_ _|exact qay _|assumption|omega):Inv X pins σ H { s with heap:=h',toks:=t' }:=by
 have nit:∀b u,H b=some u->b≠it:=λb u e z=>by rw[z,hn]at e;cases e
 refine I.step (g':=s.gens) (d':=s.drawn) (ch:=[it]) (λb hb=>?_) (λb o _ _ hc e _=>k b o (λz=>hc (by simp[z])) e) (λb o _ _ hc e _=>⟨o.slots,k b o (λz=>hc (by simp[z])) e⟩) (λ_ _ _ _ n=>n)
  (λb o hc e=>⟨o,k b o (λz=>hc (by simp[z])) e⟩) (λ_ _ e=>e) (λ_ _ _ e=>e) (λb ps e=>⟨#[],by rw[e];simp⟩) (λm hm=>?_) (λb u e=>?_) I.bare (p_ I.up ht)
 ·have e:b=it:=by simpa using hb
  subst e;exact⟨h1,hL,h2,h3⟩
 ·obtain⟨o,es,ep,ho,r⟩:=hm;exact⟨o,es,ep,k _ o (Ne.symm hL) ho,r⟩
 ·refine(I.hok b u e).stay (λc v hc q=>k c v ?_ q) (λ_ q=>q) λ_ _ q=>q;rcases hc with z|z
  ·rw[z];exact nit b u e
  ·exact nit c _ z
theorem Inv.tok(I:Inv X pins σ H s)(t':Nat)(ht:s.toks<=t':=by first|exact j_ _|exact qay _|assumption|omega):Inv X pins σ H { s with toks:=t' }:=I.un (h':=s.heap) (t':=t') Un.refl I.hok ht
theorem Inv.kept{t':Nat}(I:Inv X pins σ H s)(k:∀b u,s.heap.get? b=some u->h'.get? b=some u)(ht:s.toks<=t':=by first|exact j_ _|exact qay _|assumption|omega):Inv X pins σ H { s with heap:=h',toks:=t' }:=I.un (Un.kept k) (I.hok.kept k) ht
theorem Inv.laid{a:U}{o:HO}{t':Nat}(I:Inv X pins σ H s)(k:∀b u,s.heap.get? b=some u->h'.get? b=some u)(hp:s.heap.objs.size<=a)(new:dF X.prog X.w (upd H a o) h' a o)(ht:s.toks<=t':=by first|exact j_ _|exact qay _|assumption|omega):
  Inv X pins σ (upd H a o) { s with heap:=h',toks:=t' }:=I.un (Un.laid k hp (I.hok.fresh hp)) (I.hok.laid k hp new) ht
theorem Inv.write{x e:U}{o:HO}{t':Nat}(I:Inv X pins σ H s)(mu:Zv (H x))(he:e=x\/H e=some (.own x))(k:∀b u,b≠e->s.heap.get? b=some u->h'.get? b=some u)(Wn:∃u,h'.get? e=some u)
  (new:dF X.prog X.w (upd H x o) h' x o) (ht:s.toks<=t':=by first|exact j_ _|exact qay _|assumption|omega):Inv X pins σ (upd H x o) { s with heap:=h',toks:=t' }:=I.un (Un.write mu he k Wn) (I.hok.write mu he k Wn new) ht
theorem Inv.weak{σ':List (Option V)}(I:Inv X pins σ H s)(hl:σ'.length=σ.length)(w:∀(i:Nat) v,σ'[i]? =some (some v)->σ[i]? =some (some v)):Inv X pins σ' H s :=
 ⟨I.ok,I.os,I.bare,I.base,let ⟨m,hn,hl'⟩:=I.loc;⟨m,hn,λi x v e1 e2 e3=>hl' i x v e1 (w i v e2) e3⟩,I.cell,I.free,I.ug,I.pin,I.hok,hl.trans I.len,I.up⟩
theorem Inv.Ea{Sy:List (U×qa9)}(I:Inv X pins σ H s)(h:∀p∈Sy,s.heap.get? p.1=some p.2/\H p.1=none/\p.1≠X.env.locals/\p.1∉X.fs/\∀v,p.2.data≠ .cell v):Inv X Sy σ H s :=
 ⟨I.ok,I.os,I.bare,I.base,I.loc,I.cell,I.free,I.ug,λp hp=>(V_.mp hp).elim (λz=>I.pin p (qav _ z)) (h p),I.hok,I.len,I.up⟩
theorem GK{N:List v_}(hN:N.Nodup){i j:Nat}{x:v_}(a:N[i]? =some x)(b:N[j]? =some x):i=j:=by
 obtain⟨h1,e1⟩:=o_.mp a;obtain⟨h2,e2⟩:=o_.mp b;exact(List.getElem_inj hN).mp (e1.trans e2.symm)
theorem Dc{M:Model}{A:qab}{E:k_->n_->Prop}{i:Nat}{x:v_}{v:V}{u:k_}{Q:Unit->n_->Prop}(I:Inv X pins σ H s)(hN:X.N.Nodup)(hi:X.N[i]? =some x)(hx:Loc X.env.scope x)(r:RelV v u)
  (h:∀s',Inv X pins (σ.set i (some v)) H s'->(∃a,qbB a s.heap s'.heap/\(a=X.env.locals\/X.env.cells.lookup x=some a))->Q () s') (hf:X.fn x=true\/X.env.scope.names.lookup x=some .local:=by first|exact .inl rfl|exact .inr rfl|assumption):C_ M A (storeName X.env x u) Q E s:=by
 obtain⟨m,hn,hl⟩:=id I.loc;have hcls:(X.env.scope.kind== .class||(X.env.scope.kind== .module&&X.env.locals != X.env.globals))=false:=by rw[I.ok.kind];rfl
 have YT:i<σ.length:=by rw[I.len];exact(o_.mp hi).1
 have VX:=I.VX;have tracked:∀{a:U} {h':W_},(∃o,s.heap.get? a=some o/\H a=none)->qbB a s.heap h'->um X.prog X.w H h':=λ{a h'} ha hs b ob e=>by
  obtain⟨_,_,hfree⟩:=ha;refine(I.hok b ob e).stay (λc w' hc q=>(hs.2 c ?_).trans q) (λ_ q=>q) λ_ _ q=>q;rintro rfl;rcases hc with rfl|hc
  ·rw[hfree]at e;cases e
  ·rw[hfree]at hc;cases hc
 rcases hx with hk|hk
 ·refine wpAny_storeName_local hk hn (λh' hn' hs=>?_) hcls;obtain⟨oL,_,_,hoL,_⟩:=id hn
  refine h _ ⟨I.ok,I.os,I.bare,⟨λb o e n hb hx=>?_,λb o e n hb hx=>?_,I.base.free,λb o e hx=>?_,I.base.tups,I.base.Cz,I.base.DT⟩,⟨_,hn',λj y v' e1 e2 e3=>?_⟩,λy c e=>?_,I.free,I.ug,λp hp=>?_,tracked ⟨oL,hoL,I.free⟩ hs,by simpa using I.len,p_ I.up (by first|exact j_ _|exact qay _|exact qaF _ _)⟩ ⟨_,hs,.inl Y⟩
  ·exact(hs.2 b (R_ (H_ (E_ e) I.ok.above))).trans (I.base.keep b o e n hb hx)
  ·obtain⟨sl,e1⟩:=I.base.slot b o e n hb hx;exact⟨sl,(hs.2 b (R_ (H_ (E_ e) I.ok.above))).trans e1⟩
  ·obtain⟨o',e1⟩:=I.base.there b o e hx;exact⟨o',(hs.2 b (R_ (H_ (E_ e) I.ok.above))).trans e1⟩
  ·by_cases hj:j=i
   ·subst hj;rw[hi]at e1;cases e1;rw[List.getElem?_set_self YT]at e2;cases e2;exact⟨u,r,.inl ⟨hk,by simp⟩⟩
   ·rw[List.getElem?_set_ne (Ne.symm hj)]at e2;obtain⟨u',r',q⟩:=hl j y v' e1 e2 e3;refine⟨u',r',?_⟩;rcases q with⟨k,e⟩|⟨k,c,e,z⟩
    ·refine .inl ⟨k,?_⟩;have:y≠x:=λe=>hj (GK hN e1 (e▸hi));simp[this,e]
    ·exact .inr ⟨k,c,e,z.sameBut hs (VX y c e)⟩
  ·obtain⟨w',z⟩:=I.cell y c e;exact⟨w',z.sameBut hs (VX y c e)⟩
  ·obtain⟨e,n,ne,nf,d⟩:=I.pin p hp;exact⟨(hs.2 p.1 ne).trans e,n,ne,nf,d⟩
 ·have hfn:X.fn x=true:=by
   rcases hf with z|z
   ·exact z
   ·rw[z]at hk;cases hk
  obtain⟨c,hc⟩:=I.ok.has x (.inl hk);obtain⟨w',z⟩:=I.cell x c hc;refine wpAny_storeName_cell I.ok.kind hk hc z (λh' hc' hs=>?_);obtain⟨oc,hoc,adk⟩:=id z;refine h { s with heap:=h' } ⟨I.ok,I.os,I.bare,⟨λb o e n hb hx=>?_,λb o e n hb hx=>?_,I.base.free,λb o e hx=>?_,I.base.tups,I.base.Cz,I.base.DT⟩,⟨m,hn.sameBut hs (Ne.symm (VX x c hc)),λj y v' e1 e2 e3=>?_⟩,λy c' e=>?_,I.free,I.ug,λp hp=>?_,tracked ⟨oc,hoc,I.ug x c hc⟩ hs,by simpa using I.len,I.up⟩ ⟨c,hs,.inr hc⟩
  ·exact(hs.2 b (R_ (H_ (E_ e) (I.ok.V1 x c hfn hc)))).trans (I.base.keep b o e n hb hx)
  ·obtain⟨sl,e1⟩:=I.base.slot b o e n hb hx;exact⟨sl,(hs.2 b (R_ (H_ (E_ e) (I.ok.V1 x c hfn hc)))).trans e1⟩
  ·obtain⟨o',e1⟩:=I.base.there b o e hx;exact⟨o',(hs.2 b (R_ (H_ (E_ e) (I.ok.V1 x c hfn hc)))).trans e1⟩
  ·by_cases hj:j=i
   ·subst hj;rw[hi]at e1;cases e1;rw[List.getElem?_set_self YT]at e2;cases e2;exact⟨u,r,.inr ⟨.inl hk,c,hc,hc'⟩⟩
   ·rw[List.getElem?_set_ne (Ne.symm hj)]at e2;obtain⟨u',r',q⟩:=hl j y v' e1 e2 e3;refine⟨u',r',?_⟩;rcases q with q|⟨k,c',e,z'⟩
    ·exact .inl q
    ·refine .inr ⟨k,c',e,z'.sameBut hs ?_⟩;rintro rfl;exact hj (GK hN e1 (I.ok.inj _ _ _ e hc▸hi))
  ·by_cases hcc:c'=c
   ·subst hcc;exact⟨_,hc'⟩
   ·obtain⟨w2,z2⟩:=I.cell y c' e;exact⟨w2,z2.sameBut hs hcc⟩
  ·obtain⟨e,n,ne,nf,d⟩:=I.pin p hp;refine⟨(hs.2 p.1 ?_).trans e,n,ne,nf,d⟩;intro q;rw[q,hoc]at e;have q':oc=p.2:=L_ e;exact d w' (by rw[←q'];exact adk)
theorem xj{M:Model}{A:qab}{E:k_->n_->Prop}{i:Nat}{x:v_}{v:V}{u:k_}{Q:Unit->n_->Prop}(I:Inv X pins σ H s)(hN:X.N.Nodup)(hi:X.N[i]? =some x)(hx:Loc X.env.scope x)(r:RelV v u)
  (h:∀s',Inv X pins (σ.set i (some v)) H s'->Q () s') (hf:X.fn x=true\/X.env.scope.names.lookup x=some .local:=by first|exact .inl rfl|exact .inr rfl|assumption):C_ M A (storeName X.env x u) Q E s :=
 Dc I hN hi hx r (λs' I' _=>h s' I') hf
theorem Inv.Zl{s':n_}{ch:List U}(I:Inv X pins σ H s)(ho:s'.os=s.os)(u:Un (frs X.stack) ch H H' s.heap s'.heap)(hok:um X.prog X.w H' s'.heap)(hg:AllBare s'.gens)
  (hch:∀b∈ch,(b∈X.ex\/X.s₀.heap.objs.size<=b)/\b≠X.env.locals/\(∀x c,X.env.cells.lookup x=some c->c≠b)/\∀p∈X.pn++pins,p.1≠b) (ht:X.s₀.toks<=s'.toks):Inv X pins σ H' s':=by
 obtain⟨h',g',d',t',o'⟩:=s';have e:o'=s.os:=ho;subst e;exact I.call (g':=g') (t':=t') (d':=d') u hok hg hch ht
end
noncomputable abbrev XK:=k_->Option U->Hp->Prop
noncomputable abbrev St:=List (Option V)
noncomputable abbrev VK:=V->Hp->Prop
noncomputable abbrev TE:=St->Hp->VK->Prop
noncomputable abbrev TT:=St->Hp->(Bool->Hp->Prop)->Prop
noncomputable abbrev TA:=St->Hp->(List V->Hp->Prop)->Prop
structure Ends where
 nx:St->Hp->Prop
 rt:VK
 bk:St->Hp->Prop:=λ_ _=>False
 ct:St->Hp->Prop:=λ_ _=>False
noncomputable abbrev TS:=Ends->St->Hp->Prop
def EP(X:Cx)(pins:List (U×qa9))(σ:St)(Q:VK)(u:k_)(s':n_):Prop:=dP λv H'=>Inv X pins σ H' s'/\RelV v u/\Q v H'
def TP(X:Cx)(pins:List (U×qa9))(σ:St)(Q:Bool->Hp->Prop)(b:Bool)(s':n_):Prop:=∃H',Inv X pins σ H' s'/\Q b H'
def AP(X:Cx)(pins:List (U×qa9))(σ:St)(Q:List V->Hp->Prop)(us:List k_)(s':n_):Prop:=dP λvs H'=>Inv X pins σ H' s'/\Vals vs us/\Q vs H'
def SP(X:Cx)(pins:List (U×qa9))(D:Ends)(f:Flow)(s':n_):Prop :=
 match f with
 | .next=>dP λσ' H'=>Inv X pins σ' H' s'/\D.nx σ' H'
 | .brk=>dP λσ' H'=>Inv X pins σ' H' s'/\D.bk σ' H'
 | .cont=>dP λσ' H'=>Inv X pins σ' H' s'/\D.ct σ' H'
 | .ret u=>nN λv σ' H'=>Inv X pins σ' H' s'/\RelV v u/\D.rt v H'
def PE(X:Cx)(e:Expr)(t:TE):Prop :=
 ∀(pins:List (U×qa9)) (s:n_) (σ:St) (H:Hp) (Q:VK),Inv X pins σ H s->t σ H Q->C_ (model X.prog X.w) X.A (eval e X.env) (EP X pins σ Q) X.xe s
def PT(X:Cx)(e:Expr)(t:TT):Prop :=
 ∀(pins:List (U×qa9)) (s:n_) (σ:St) (H:Hp) (Q:Bool->Hp->Prop),Inv X pins σ H s->t σ H Q->C_ (model X.prog X.w) X.A (isTrue e X.env (eval e X.env)) (TP X pins σ Q) X.xe s
def PW(X:Cx)(e:Expr)(t:TT):Prop :=
 ∀(whole:Sem k_) (pins:List (U×qa9)) (s:n_) (σ:St) (H:Hp) (Q:Bool->Hp->Prop),Inv X pins σ H s->t σ H Q->C_ (model X.prog X.w) X.A (isTrue e X.env whole) (TP X pins σ Q) X.xe s
theorem PW.pt{X:Cx}{e:Expr}{t:TT}(h:PW X e t):PT X e t:=h _
def PA(X:Cx)(es:List Expr)(t:TA):Prop :=
 ∀(pos:qbO) (pins:List (U×qa9)) (s:n_) (σ:St) (H:Hp) (Q:List V->Hp->Prop),Inv X pins σ H s->t σ H Q->C_ (model X.prog X.w) X.A (spliced (backTo pos (qaf es X.env))) (AP X pins σ Q) X.xe s
def PS(X:Cx)(st:qam)(t:TS):Prop :=
 ∀(pins:List (U×qa9)) (s:n_) (σ:St) (H:Hp) (D:Ends),Inv X pins σ H s->t D σ H->C_ (model X.prog X.w) X.A (exec st X.env) (SP X pins D) X.xe s
def Fv(X:Cx)(st:List qam)(t:TS):Prop :=
 ∀(pins:List (U×qa9)) (s:n_) (σ:St) (H:Hp) (D:Ends),Inv X pins σ H s->t D σ H->C_ (model X.prog X.w) X.A (execs st X.env) (SP X pins D) X.xe s
theorem fR{α:Type}{t:Sem α}{Q Q':α->n_->Prop}{M:Model}{A:qab}{E:k_->n_->Prop}{s:n_}(h:C_ M A t Q E s)(hQ:∀a s,Q a s->Q' a s):C_ M A t Q' E s:=qaK h hQ λ_ _ x=>x
end
section
section
variable{X:Cx}
def WM(i:Nat):TE:=λσ H Q=>∃v,σ[i]? =some (some v)/\Q v H
def tC(v:V):TE:=λ_ H Q=>Q v H
theorem UR {i:Nat}{x:v_}{pos:qbO}(hN:X.N[i]? =some x)(hv:Vis X.env.scope x)(hd:(x==("__debug__" :v_))=false:=by decide)(hcd:(x==("__classdict__" :v_))=false:=by decide):PE X (.Name x pos) (WM i):=by
 intro pins s σ H Q I h;obtain⟨v,e,h⟩:=h;obtain⟨m,hn,hl⟩:=I.loc;obtain⟨u,r,l⟩:=hl i x v hN e hv;have fin:EP X pins σ Q u s:=⟨v,H,I,r,h⟩;rcases l with⟨hk,hm⟩|⟨hk,c,hc,hcell⟩
 ·exact wpAny_Name (wpAny_loadName_local I.ok.kind hk hn hm fin) hd
 ·rcases hk with hk|hk
  ·exact wpAny_Name (wpAny_loadName_cell I.ok.kind hk hc hcell fin) hd
  ·exact wpAny_Name (wpAny_loadName_free I.ok.kind hk hc hcell fin hcd) hd
theorem ah{i j pos}:PE X (.Constant (.int i) j pos) (tC (.int i)):=λ_ _ _ H _ I h=>qcq ⟨.int i,H,I.tok _,⟨_,rfl⟩,h⟩
theorem Gv{b j pos}:PE X (.Constant (.bool b) j pos) (tC (.bl b)):=λ_ _ _ H _ I h=>Constant_bool ⟨.bl b,H,I,rfl,h⟩
theorem qI{j pos}:PE X (.Constant .none j pos) (tC .jG):=λ_ _ _ H _ I h=>Constant_none ⟨.jG,H,I,rfl,h⟩
theorem aS{x j pos}:PE X (.Constant (.str x) j pos) (tC (.str x)):=λ_ _ _ H _ I h=>qcr ⟨.str x,H,I.tok _,⟨_,rfl⟩,h⟩
def Gl(X:Cx)(x:v_):Prop:=X.env.kindOf x=some .globalImplicit
theorem Ac{E:k_->n_->Prop}{pins:List (U×qa9)}{s:n_}{σ:St}{H:Hp}{x:v_}{u:k_}{pos:qbO}{Q:k_->n_->Prop}(I:Inv X pins σ H s)(hg:Gl X x)(hm:X.mg x=some u)(h:Q u s)
  (hd:(x==("__debug__" :v_))=false:=by decide):C_ (model X.prog X.w) X.A (eval (.Name x pos) X.env) Q E s :=
 Calls.Name_function_global I.ok.kind hg (Calls.loadGlobal_global (by rw[I.ok.glob];exact I.mod.glob.keeps I.bk) hm h) hd
theorem rQ{E:k_->n_->Prop}{pins:List (U×qa9)}{s:n_}{σ:St}{H:Hp}{x:v_}{u:k_}{pos:qbO}{Q:k_->n_->Prop}(I:Inv X pins σ H s)(hg:Gl X x)(hm:X.mg x=none)(hv:bootBuiltins x=some u)(h:Q u s)
  (hn:x≠ "__name__" :=by decide) (hd:(x==("__debug__" :v_))=false:=by decide):C_ (model X.prog X.w) X.A (eval (.Name x pos) X.env) Q E s:=by
 obtain⟨mb,h1,h2⟩:=I.mod.blt;exact Calls.Name_function_global I.ok.kind hg (Calls.loadGlobal_builtin (by rw[I.ok.glob];exact I.mod.glob.keeps I.bk) hm (by rw[I.ok.blt];exact h1.keeps I.bk) ((h2 x hn).trans hv) h) hd
theorem qk {x:v_}{v:V}{u:k_}{pos:qbO}(hg:Gl X x)(hm:X.mg x=some u)(r:RelV v u)(hd:(x==("__debug__" :v_))=false:=by decide):PE X (.Name x pos) (tC v) :=
 λ_ _ _ H _ I h=>Ac I hg hm ⟨v,H,I,r,h⟩ hd
theorem ic {x:v_}{v:V}{u:k_}{pos:qbO}(hg:Gl X x)(hm:X.mg x=none)(hv:bootBuiltins x=some u)(r:RelV v u)(hn:x≠ "__name__" :=by decide)(hd:(x==("__debug__" :v_))=false:=by decide):PE X (.Name x pos) (tC v) :=
 λ_ _ _ H _ I h=>rQ I hg hm hv ⟨v,H,I,r,h⟩ hn hd
variable{a b:Expr}{ta tb:TE}{pos:qbO}
def tB(t:TE):TT:=λσ H Q=>t σ H λx H1=>∃c,x= .bl c/\Q c H1
theorem kY{e:Expr}{t:TE}(h:PE X e t)(he:∀whole,isTrue e X.env whole=(do let v ←whole;standAt e.pos;holding [v] (truthy v)):=by intro _;rfl):PT X e (tB t):=by
 intro pins s σ H Q I hw;refine isTrue_plain (fR (h pins s σ H _ I hw) λv s1 ⟨x,H1,I1,r1,q1⟩=>?_) (he _);obtain⟨d,rfl,q⟩:=q1;cases r1;exact qaD ⟨H1,I1,q⟩
variable{tA ZX:TT}{rest:List Expr}
def ab5(t u:TT):TT:=λσ H Q=>t σ H λc H1=>if c=true then u σ H1 Q else Q false H1
def tOr(t u:TT):TT:=λσ H Q=>t σ H λc H1=>if c=true then Q true H1 else u σ H1 Q
def abX(t:TT):TT:=λσ H Q=>t σ H λc H1=>Q (!c) H1
theorem qi(ha:PT X a tA):PW X (.BoolOp .And [a] pos) tA:=by
 intro wh pins s σ H Q I h;refine isTrue_and (fR (ha pins s σ H Q I h) λc s1 e=>?_)
 cases c with
 |true=>exact isTrue_and_nil e
 |false=>exact e
theorem uE(ha:PT X a tA):PW X (.BoolOp .Or [a] pos) tA:=by
 intro wh pins s σ H Q I h;refine isTrue_or (fR (ha pins s σ H Q I h) λc s1 e=>?_)
 cases c with
 |false=>exact isTrue_or_nil e
 |true=>exact e
theorem rK(ha:PT X a tA)(hb:PW X (.BoolOp .And (b::rest) pos) ZX):PW X (.BoolOp .And (a::b::rest) pos) (ab5 tA ZX):=by
 intro wh pins s σ H Q I h;refine isTrue_and (fR (ha pins s σ H _ I h) λc s1 ⟨H1,I1,q1⟩=>?_)
 cases c with
 |true=>exact hb wh pins s1 σ H1 Q I1 q1
 |false=>exact⟨H1,I1,q1⟩
theorem vK(ha:PT X a tA)(hb:PW X (.BoolOp .Or (b::rest) pos) ZX):PW X (.BoolOp .Or (a::b::rest) pos) (tOr tA ZX):=by
 intro wh pins s σ H Q I h;refine isTrue_or (fR (ha pins s σ H _ I h) λc s1 ⟨H1,I1,q1⟩=>?_)
 cases c with
 |true=>exact⟨H1,I1,q1⟩
 |false=>exact hb wh pins s1 σ H1 Q I1 q1
theorem wD(ha:PT X a tA):PT X (.UnaryOp .Not a pos) (abX tA):=by
 intro pins s σ H Q I h;exact isTrue_not (ha pins s σ H (λc H1=>Q (!c) H1) I h)
def W8(ta tb:TE):TE:=λσ H Q=>ta σ H λx H1=>∃c,x= .bl c/\if c=true then tb σ H1 Q else Q (.bl false) H1
def abW(ta tb:TE):TE:=λσ H Q=>ta σ H λx H1=>∃c,x= .bl c/\if c=true then Q (.bl true) H1 else tb σ H1 Q
def WR(ta:TE):TE:=λσ H Q=>ta σ H λx H1=>∃c,x= .bl c/\Q (.bl (!c)) H1
theorem nX{op}{t:TE}(h:PE X a t):PE X (.BoolOp op [a] pos) t:=λpins s σ H Q I hw=>BoolOp_one (h pins s σ H Q I hw)
theorem nY(ha:PE X a ta)(hb:PE X (.BoolOp .And (b::rest) pos) tb):PE X (.BoolOp .And (a::b::rest) pos) (W8 ta tb):=by
 intro pins s σ H Q I h;refine BoolOp_and (fR (ha pins s σ H _ I h) λv s1 ⟨x,H1,I1,r1,q1⟩=>?_);obtain⟨c,rfl,q1⟩:=q1;cases r1;refine qaD ?_
 cases c with
 |true=>exact hb pins s1 σ H1 Q I1 q1
 |false=>exact⟨.bl false,H1,I1,Y,q1⟩
theorem Sz(ha:PE X a ta)(hb:PE X (.BoolOp .Or (b::rest) pos) tb):PE X (.BoolOp .Or (a::b::rest) pos) (abW ta tb):=by
 intro pins s σ H Q I h;refine BoolOp_or (fR (ha pins s σ H _ I h) λv s1 ⟨x,H1,I1,r1,q1⟩=>?_);obtain⟨c,rfl,q1⟩:=q1;cases r1;refine qaD ?_
 cases c with
 |false=>exact hb pins s1 σ H1 Q I1 q1
 |true=>exact⟨.bl true,H1,I1,Y,q1⟩
theorem Ot(ha:PE X a ta):PE X (.UnaryOp .Not a pos) (WR ta):=by
 intro pins s σ H Q I h;refine UnaryOp_ (fR (ha pins s σ H _ I h) λv s1 ⟨x,H1,I1,r1,q1⟩=>?_);obtain⟨c,rfl,q1⟩:=q1;cases r1;exact not_of (qaD ⟨.bl (!c),H1,I1,Y,q1⟩)
def tIf(t:TT)(ta tb:TE):TE:=λσ H Q=>t σ H λc H1=>if c=true then ta σ H1 Q else tb σ H1 Q
theorem pG{c:Expr}(hc:PT X c tA)(ha:PE X a ta)(hb:PE X b tb):PE X (.IfExp c a b pos) (tIf tA ta tb):=by
 intro pins s σ H Q I h;refine wpAny_IfExp (fR (hc pins s σ H _ I h) λd s1 ⟨H1,I1,q1⟩=>?_)
 cases d with
 |true=>exact ha pins s1 σ H1 Q I1 q1
 |false=>exact hb pins s1 σ H1 Q I1 q1
end
end
section
def bW(K:PySem.W.Frag)(H:Hp)(a:U)(xs:List V):Prop :=
 Rd H a (.lst xs) ∨
  nN λ(o:qa9) (its:Array k_) (n:Nat)=>K.lookup a=some o/\o.cls= .type "list" /\o.dict=none/\o.data= .seq its n/\its.size<=D_/\Vals xs its.toList
def bZ(K:PySem.W.Frag)(H:Hp)(a:U)(xs:List V):Prop :=
 Rd H a (.tup xs) ∨
  nN λ(o:qa9) (its:Array k_) (n:Nat)=>K.lookup a=some o/\o.cls= .type "tuple" /\o.data= .seq its n/\its.size<=D_/\Vals xs its.toList
noncomputable def aeb:k_->Option V
 | .none=>some .jG
 | .bool b=>some (.bl b)
 | .int i _=>some (.int i)
 | .str x _=>some (.str x)
 | .bytes b _=>some (.LA b)
 | .float b _=>some (.VR b)
 | .ref a=>some (.ref a)
 | .type n=>some (.ty n)
 |_=>none
theorem RelV.abs{x:V}{u:k_}(r:RelV x u):aeb u=some x:=by
 cases x with
 |jG=>cases r;rfl
 |bl _=>cases r;rfl
 |int _=>obtain⟨t,rfl⟩:=r;rfl
 |str _=>obtain⟨t,rfl⟩:=r;rfl
 |LA _=>obtain⟨t,rfl⟩:=r;rfl
 |VR _=>obtain⟨t,rfl⟩:=r;rfl
 |ref _=>cases r;rfl
 |ty _=>cases r;rfl
theorem RelV.inj{x y:V}{u:k_}(r:RelV x u)(q:RelV y u):x=y:=L_ (r.abs.symm.trans q.abs)
theorem Vals.inj:∀{xs ys:List V} {us:List k_},Vals xs us->Vals ys us->xs=ys
 |_,_,_,.nil,.nil=>rfl
 |_,_,_,.cons r t,.cons r' t'=>by rw[r.inj r',Vals.inj t t']
section
variable{X:Cx}{pins:List (U×qa9)}{σ:St}{H:Hp}{s:n_}{a:U}{xs ys:List V}
theorem bW.of{K:PySem.W.Frag}(h:H a=some (.lst xs)):bW K H a xs:=.inl (.inl h)
theorem bZ.of{K:PySem.W.Frag}(h:H a=some (.tup xs)):bZ K H a xs:=.inl (.inl h)
theorem Inv.list(I:Inv X pins σ H s)(h:bW X.K H a xs):∃its:List k_,Vals xs its/\PlainL s.heap a its.toArray/\xs.length<=D_:=by
 rcases h with h|⟨o,its,n,hk,hc,hd,hs,hz,r⟩
 ·obtain⟨z,its,n,r,e⟩:=h.ok I.hok;exact⟨its,r,⟨_,n,e,Y,Y,Y⟩,z⟩
 ·refine⟨its.toList,r,⟨o,n,I.yI a o hk,hc,hd,by simpa using hs⟩,?_⟩;have e:=r.length;simp only[N_]at e;omega
theorem Inv.tuple(I:Inv X pins σ H s)(h:bZ X.K H a xs):∃its:List k_,Vals xs its/\IsTup s.heap a its.toArray/\xs.length<=D_:=by
 rcases h with h|⟨o,its,n,hk,hc,hs,hz,r⟩
 ·obtain⟨z,its,r,p⟩:=h.ok I.hok;exact⟨its,r,p,z⟩
 ·refine⟨its.toList,r,⟨o,I.yI a o hk,hc,n,by simpa using hs⟩,?_⟩;have e:=r.length;simp only[N_]at e;omega
theorem Inv.Bj(I:Inv X pins σ H s)(h:bW X.K H a xs)(h':bW X.K H a ys):xs=ys:=by
 obtain⟨its,r,⟨o,n,e,_,_,d⟩,_⟩:=I.list h;obtain⟨its',r',⟨o',n',e',_,_,d'⟩,_⟩:=I.list h';rw[e]at e';cases e';rw[d]at d';injection d' with d1 _;have:its=its':=by simpa using congrArg Array.toList d1
 subst this;exact r.inj r'
theorem Inv.C9(I:Inv X pins σ H s)(h:bZ X.K H a xs)(h':bZ X.K H a ys):xs=ys:=by
 obtain⟨its,r,⟨o,e,_,n,d⟩,_⟩:=I.tuple h;obtain⟨its',r',⟨o',e',_,n',d'⟩,_⟩:=I.tuple h';rw[e]at e';cases e';rw[d]at d';injection d' with d1 _;have:its=its':=by simpa using congrArg Array.toList d1
 subst this;exact r.inj r'
end
noncomputable abbrev Cx.B4(X:Cx)(E:k_->n_->Prop):Cx:={ X with xe:=E }
noncomputable abbrev Cx.UW(X:Cx):Cx:=X.B4 λ_ _=>False
theorem Cx.Ok.B4{X:Cx}(ok:X.Ok)(E:k_->n_->Prop):(X.B4 E).Ok :=
 ⟨ok.mod,ok.kind,ok.glob,ok.blt,ok.above,ok.inj,ok.has,ok.V1,ok.hd,ok.frames,ok.stk,ok.exf,ok.bs,ok.R0,ok.OB,ok.RU,ok.zL,ok.VQ,ok.tk⟩
theorem Cx.Ok.ux{X:Cx}{E:k_->n_->Prop}(ok:(X.B4 E).Ok):X.Ok :=
 ⟨ok.mod,ok.kind,ok.glob,ok.blt,ok.above,ok.inj,ok.has,ok.V1,ok.hd,ok.frames,ok.stk,ok.exf,ok.bs,ok.R0,ok.OB,ok.RU,ok.zL,ok.VQ,ok.tk⟩
section
variable{X:Cx}{pins:List (U×qa9)}{σ:St}{H:Hp}{s:n_}{E:k_->n_->Prop}
theorem Inv.B4(I:Inv X pins σ H s)(E:k_->n_->Prop):Inv (X.B4 E) pins σ H s:=⟨I.ok.B4 E,I.os,I.bare,I.base,I.loc,I.cell,I.free,I.ug,I.pin,I.hok,I.len,I.up⟩
theorem Inv.ux(I:Inv (X.B4 E) pins σ H s):Inv X pins σ H s:=⟨I.ok.ux,I.os,I.bare,I.base,I.loc,I.cell,I.free,I.ug,I.pin,I.hok,I.len,I.up⟩
theorem SP.ux{D:Ends}{f:Flow}{s':n_}(h:SP (X.B4 E) pins D f s'):SP X pins D f s':=by
 cases f with
 |next=>obtain⟨σ',H',I,q⟩:=h;exact⟨σ',H',I.ux,q⟩
 |brk=>obtain⟨σ',H',I,q⟩:=h;exact⟨σ',H',I.ux,q⟩
 |cont=>obtain⟨σ',H',I,q⟩:=h;exact⟨σ',H',I.ux,q⟩
 |ret u=>obtain⟨v,σ',H',I,r,q⟩:=h;exact⟨v,σ',H',I.ux,r,q⟩
theorem Fv.UW{st:List qam}{t:TS}(h:Fv X.UW st t):Fv X st t:=λpins s σ H D I hw =>
 qaK (h pins s σ H D (I.B4 _) hw) (λ_ _ q=>q.ux) λ_ _ z=>qbm z
end
section
variable{X:Cx}{st:qam}{rest:List qam}{t u:TS}{e:Expr}{te:TE}{pos:qbO}
def WS:TS:=λD σ H=>D.nx σ H
def WO(t u:TS):TS:=λD σ H=>t { D with nx:=u D } σ H
theorem aP:Fv X [] WS:=λ_ _ σ H _ I h=>wpAny_execs_nil ⟨σ,H,I,h⟩
theorem aj(h1:PS X st t)(h2:Fv X rest u):Fv X (st::rest) (WO t u):=by
 intro pins s σ H D I h;refine qcF (fR (h1 pins s σ H { D with nx:=u D } I h) λf s1 q=>?_)
 cases f with
 |next =>
  obtain⟨σ',H',I',q⟩:=q;exact h2 pins s1 σ' H' D I' q
 |ret v=>exact q
 |brk=>exact q
 |cont=>exact q
theorem ao(h1:PS X st t):Fv X [st] t:=by
 intro pins s σ H D I h;refine qcF (fR (h1 pins s σ H D I h) λf s1 q=>?_)
 cases f with
 |next=>exact wpAny_execs_nil q
 |ret v=>exact q
 |brk=>exact q
 |cont=>exact q
theorem Inv.quiet{pins:List (U×qa9)}{σ:St}{H:Hp}{s:n_}(I:Inv X pins σ H s):interactive X.env=false:=by simp[interactive,I.ok.kind]
def WZ(te:TE):TS:=λD σ H=>te σ H λ_ H1=>D.nx σ H1
theorem cD(he:PE X e te)(hs:swapsWith e none pos.line X.env=pure false:=by rfl):PS X (.Expr e pos) (WZ te):=by
 intro pins s σ H D I h;exact wpAny_Expr_any (fR (he pins s σ H _ I h) λv s1 ⟨x,H1,I1,r1,q1⟩=>⟨σ,H1,I1,q1⟩) I.quiet hs
def abU(te:TE):TS:=λD σ H=>te σ H D.rt
theorem aI(he:PE X e te):PS X (.Return (some e) pos) (abU te):=by
 intro pins s σ H D I h;exact wpAny_Return_some (fR (he pins s σ H _ I h) λv s1 ⟨x,H1,I1,r1,q1⟩=>⟨x,σ,H1,I1,r1,q1⟩)
def ab1(c:TT)(t u:TS):TS:=λD σ H=>c σ H λb H1=>if b=true then t D σ H1 else u D σ H1
theorem bH{c:Expr}{a b:List qam}{tc:TT}(hc:PT X c tc)(ha:Fv X a t)(hb:Fv X b u):PS X (.If c a b pos) (ab1 tc t u):=by
 intro pins s σ H D I h;refine wpAny_If (fR (hc pins s σ H _ I h) λd s1 ⟨H1,I1,q1⟩=>?_)
 cases d with
 |true=>exact ha pins s1 σ H1 D I1 q1
 |false=>exact hb pins s1 σ H1 D I1 q1
def Uy:TS:=λ_ _ _=>False
theorem cX{sts:List qam}:Fv X sts Uy:=λ_ _ _ _ _ _ h=>h.elim
end
noncomputable abbrev TG:=V->St->Hp->(St->Hp->Prop)->Prop
noncomputable abbrev Th:=List V->St->Hp->(St->Hp->Prop)->Prop
def PG(X:Cx)(target:Expr)(t:TG):Prop :=
 ∀(pins:List (U×qa9)) (s:n_) (σ:St) (H:Hp) (v:V) (u:k_) (Q:St->Hp->Prop),Inv X pins σ H s->RelV v u->t v σ H Q →
  C_ (model X.prog X.w) X.A (assign target X.env u) (λ_ s'=>dP λσ' H'=>Inv X pins σ' H' s'/\Q σ' H') X.xe s
def Zs(X:Cx)(ts:List Expr)(t:Th):Prop :=
 ∀(pins:List (U×qa9)) (s:n_) (σ:St) (H:Hp) (vs:List V) (us:List k_) (Q:St->Hp->Prop),Inv X pins σ H s->Vals vs us->t vs σ H Q →
  C_ (model X.prog X.w) X.A (assignInOrder ((assignEach ts X.env).map (·.2)) us) (λ_ s'=>dP λσ' H'=>Inv X pins σ' H' s'/\Q σ' H') X.xe s
noncomputable abbrev V8:=V->V->V->Hp->(Hp->Prop)->Prop
def Zr(X:Cx)(t:V8):Prop :=
 ∀(pins:List (U×qa9)) (s:n_) (σ:St) (H:Hp) (o i v:V) (ov iv u:k_) (Q:Hp->Prop),Inv X pins σ H s->RelV o ov->RelV i iv->RelV v u->t o i v H Q →
  C_ (model X.prog X.w) X.A (setItem ov iv u) (λ_ s'=>∃H',Inv X pins σ H' s'/\Q H') X.xe s
section
variable{X:Cx}{pos:qbO}
def Px(i:Nat):TG:=λv σ H Q=>Q (σ.set i (some v)) H
theorem aL{i:Nat}{x:v_}(hN:X.N.Nodup)(hi:X.N[i]? =some x)(hx:Loc X.env.scope x)(hf:X.fn x=true\/X.env.scope.names.lookup x=some .local:=by first|exact .inl rfl|exact .inr rfl|assumption):PG X (.Name x pos) (Px i):=by
 intro pins s σ H v u Q I r h;exact wpAny_assign_Name (xj I hN hi hx r (λs' I'=>⟨_,H,I',h⟩) hf)
def adN:Th:=λvs σ H Q=>vs=[]/\Q σ H
def Y4(t:TG)(u:Th):Th:=λvs σ H Q=>dP λv r=>vs=v::r/\t v σ H λσ' H'=>u r σ' H' Q
theorem i7:Zs X [] adN:=by
 intro pins s σ H vs us Q I r h;obtain⟨e,h⟩:=h;subst e;cases r;exact assignInOrder_nil ⟨σ,H,I,h⟩
theorem bC{e:Expr}{es:List Expr}{t:TG}{u:Th}(h1:PG X e t)(h2:Zs X es u)
  (hs:(assignEach (e::es) X.env).map (·.2)=assign e X.env::(assignEach es X.env).map (·.2):=by rfl):Zs X (e::es) (Y4 t u):=by
 intro pins s σ H vs us Q I r h;obtain⟨v,vr,e1,h⟩:=h;subst e1
 cases r with
 |cons r rr =>
  rw[hs];refine assignInOrder_cons (fR (h1 pins s σ H _ _ _ I r h) λ_ s1 ⟨σ1,H1,I1,q1⟩=>?_);exact h2 pins s1 σ1 H1 _ _ Q I1 rr q1
def Y3(K:PySem.W.Frag)(n:Nat)(t:Th):TG:=λv σ H Q=>dP λa xs=>v= .ref a/\bZ K H a xs/\xs.length=n/\t xs σ H Q
theorem nA{es:List Expr}{k:Nat}{t:Th}{n:Nat}(hc:X.calm=true)(h:Zs X es t)
  (hn:(assignEach es X.env).length=n:=by rfl) (hst:(assignEach es X.env).findIdx? (·.1)=none:=by rfl):PG X (.Tuple es k pos) (Y3 X.K n t):=by
 intro pins s σ H v u Q I r hw;obtain⟨a,xs,e1,hq,hl,hw⟩:=hw;subst e1;cases r;obtain⟨its,rv,ht,hz⟩:=I.tuple hq;refine assign_Tuple_tuple (I.ok.hd hc) ht (by simp[hn,←hl,rv.length]) hst λh' hx=>?_;have I1:Inv X pins σ H { s with heap:=h' }:=I.kept (t':=s.toks) λb o e=>hx b o (R_ (E_ e)) e;exact h pins _ σ H xs _ Q I1 (by simpa using rv) hw
def adM(to ti:TE)(t:V8):TG:=λv σ H Q=>to σ H λo H1=>ti σ H1 λi H2=>t o i v H2 λH3=>Q σ H3
theorem Ed{o i:Expr}{to ti:TE}{t:V8}(ho:PE X o to)(hi:PE X i ti)(hs:Zr X t)
  (ha:∀v,assign (.Subscript o i pos) X.env v=(do
   let ov ←holding [v] (eval o X.env)
   let iv ←holding [v,ov] (eval i X.env)
   standAt pos
   holding [v,ov,iv] (setItem ov iv v)
   release [v,ov,iv] []):=by intro _;rfl):PG X (.Subscript o i pos) (adM to ti t):=by
 intro pins s σ H v u Q I r h;rw[ha];refine f_ (qaN (fR (ho pins s σ H _ I h) λov s1 ⟨x,H1,I1,r1,q1⟩=>?_));refine f_ (qaN (fR (hi pins s1 σ H1 _ I1 q1) λiv s2 ⟨y,H2,I2,r2,q2⟩=>?_));refine f_ (wpAny_standAt (f_ (qaN (fR (hs pins s2 σ H2 x y v ov iv u _ I2 r1 r2 r q2) λ_ s3 ⟨H3,I3,q3⟩=>?_))));exact wpAny_release ⟨σ,H3,I3,q3⟩
def UB(te:TE)(g:TG):TS:=λD σ H=>te σ H λx H1=>g x σ H1 D.nx
theorem wG{tg e:Expr}{te:TE}{g:TG}(he:PE X e te)(hg:PG X tg g)(hs:swapsWithSole [tg] e pos.line X.env=pure false:=by rfl)(hw:swappedStores [tg] e X.env=pure none:=by rfl)
  (h1:(assignEach [tg] X.env).map (·.2)=[assign tg X.env]:=by rfl):PS X (.Assign [tg] e pos) (UB te g):=by
 intro pins s σ H D I h;refine wpAny_Assign_stores (fR (he pins s σ H _ I h) λv s1 ⟨x,H1,I1,r1,q1⟩=>?_) hs hw;rw[h1];exact fR (hg pins s1 σ H1 x v _ I1 r1 q1) λ_ s2 q=>q
theorem aB{i:Nat}{x:v_}{e:Expr}{te:TE}{pos':qbO}(hN:X.N.Nodup)(hi:X.N[i]? =some x)(hx:Loc X.env.scope x)(he:PE X e te)(hs:swapsWith e (some (.Name x pos')) pos.line X.env=pure false:=by rfl)(hf:X.fn x=true\/X.env.scope.names.lookup x=some .local:=by first|exact .inl rfl|exact .inr rfl|assumption):
  PS X (.Assign [.Name x pos'] e pos) (UB te (Px i)):=by
 intro pins s σ H D I h;refine wpAny_Assign_Name (fR (he pins s σ H _ I h) λv s1 ⟨y,H1,I1,r1,q1⟩=>?_) hs;exact xj I1 hN hi hx r1 (λs2 I2=>⟨_,H1,I2,q1⟩) hf
def abV(i j:Nat)(ta:TA):TS:=λD σ H=>ta σ H λvs H1=>dP λv w=>vs=[v,w]/\D.nx ((σ.set i (some v)).set j (some w)) H1
theorem Ol{i j:Nat}{x y:v_}{a b:Expr}{ta:TA}{px py pt:qbO}{kt k2 pt2}(hc:X.calm=true)(hN:X.N.Nodup)(hi:X.N[i]? =some x)(hj:X.N[j]? =some y)(hij:i≠j)
  (hx:X.env.scope.names.lookup x=some .local) (hy:X.env.scope.names.lookup y=some .local) (ha:PA X [a,b] ta)
  (hw:swappedStores [.Tuple [.Name x px,.Name y py] kt pt] (.Tuple [a,b] k2 pt2) X.env=pure (some [x,y]))
  (hs:swapsWithSole [.Tuple [.Name x px,.Name y py] kt pt] (.Tuple [a,b] k2 pt2) pos.line X.env=pure false:=by rfl) :
  PS X (.Assign [.Tuple [.Name x px,.Name y py] kt pt] (.Tuple [a,b] k2 pt2) pos) (abV i j ta):=by
 intro pins s σ H D I h;rw[exec_Assign_arm];refine f_ (wpAny_standAt ?_);rw[hs];refine f_ (q_ ?_);rw[if_neg (by decide)];refine f_ (Tuple_ (fR (ha _ pins s σ H _ I h) λus s1 ⟨vs,H1,I1,r1,q1⟩=>?_));obtain⟨v,w,e1,q1⟩:=q1;subst e1;obtain⟨u1,u2,rfl,rv,rw'⟩:dP λu1 u2=>us=[u1,u2]/\RelV v u1/\RelV w u2:=by
  cases r1 with
  |cons p q =>
   cases q with
   |cons p' q' =>
    cases q';exact⟨_,_,Y,p,p'⟩
 refine qbk ?_ c_;have I2:Inv X pins σ H1 { s1 with heap:=s1.heap.push { cls:=.type "tuple",data:=.seq [u1,u2].toArray } }:=I1.kept (t':=s1.toks) λb o e=>m_ _ e;rw[hw];refine f_ (q_ ?_)
 show C_ (model X.prog X.w) X.A (do rule "assign.swapped-stores";let items ←unpackItems (.ref s1.heap.objs.size) 2 none;assignInOrder [λv=>bindName X.env y v,λv=>bindName X.env x v] items.reverse;pure Flow.next) _ _ _
 refine f_ (qcG (f_ (unpackItems_tuple (items:= #[u1,u2]) (I.ok.hd hc) (IsTup.new s1.heap _) λh' hx'=>?_)));have I3:=I2.kept (h':=h') (t':=s1.toks) λb o e=>hx' b o (R_ (E_ e)) e;show C_ _ _ (assignInOrder [λv=>bindName X.env y v,λv=>bindName X.env x v] [u2,u1] >>= λ_=>pure Flow.next) _ _ _;refine f_ (assignInOrder_cons (wpAny_bindName (xj I3 hN hj (.inl hy) rw' (λs2 I4=>?_) (.inr hy))));refine assignInOrder_cons (wpAny_bindName (xj I4 hN hi (.inl hx) rv (λs3 I5=>assignInOrder_nil (q_ ?_)) (.inr hx)));rw[List.set_comm _ _ (Ne.symm hij)]at I5;exact⟨_,H1,I5,q1⟩
end
section
variable{X:Cx}{pos:qbO}
def Uw(c:TT)(tb:TS):TS:=λD σ H=>∃W:Nat->St->Hp->Prop,(∃m,W m σ H)/\∀m σ H,W m σ H →
 c σ H λb H1=>if b=true then ∃N:St->Hp->Prop,(∀ σ' H',N σ' H'->∃m',m'<m/\W m' σ' H')/\tb { D with nx:=N,ct:=N,bk:=D.nx } σ H1 else D.nx σ H1
theorem AJ{c:Expr}{body:List qam}{tc:TT}{tb:TS}(hp:PassesOwn (model X.prog X.w) X.A X.env X.xe)(hc:PT X c tc)(hb:Fv X body tb):PS X (.While c body [] pos) (Uw tc tb):=by
 intro pins s σ H D I h;obtain⟨W,⟨m0,w0⟩,turn⟩:=h;refine wpAny_While (codeAny_whileLoop (λn s'=>dP λσ' H'=>Inv X pins σ' H' s'/\W n σ' H') ?_ m0 ⟨σ,H,I,w0⟩);rintro n s1 ⟨σ1,H1,I1,w1⟩;refine qbz hp (fR (hc pins s1 σ1 H1 _ I1 (turn n σ1 H1 w1)) λb s2 ⟨H2,I2,q2⟩=>?_)
 cases b with
 |true =>
  obtain⟨N,hN,q2⟩:=q2;rw[if_pos rfl];refine qbz hp (fR (hb pins s2 σ1 H2 _ I2 q2) λf s3 q3=>?_)
  cases f with
  |next =>
   obtain⟨σ3,H3,I3,n3⟩:=q3;obtain⟨m',hm,w3⟩:=hN σ3 H3 n3;exact⟨m',hm,σ3,H3,I3,w3⟩
  |cont =>
   obtain⟨σ3,H3,I3,n3⟩:=q3;obtain⟨m',hm,w3⟩:=hN σ3 H3 n3;exact⟨m',hm,σ3,H3,I3,w3⟩
  |brk=>exact q3
  |ret v=>exact q3
 |false =>
  rw[if_neg y_];exact wpAny_execs_nil ⟨σ1,H2,I2,q2⟩
end
structure It where
 go:Nat->Hp->Prop
 CZ:Nat->Hp->V->Hp->Prop
 stop:Nat->Hp->Prop
def uu(X:Cx)(pins:List (U×qa9))(H:Hp)(b:U):Prop :=
 H b=none/\b≠X.env.locals/\b∉X.fs/\(b∈X.ex\/X.s₀.heap.objs.size<=b)/\(∀x c,X.env.cells.lookup x=some c->c≠b)/\∀p∈X.pn++pins,p.1≠b
theorem Inv.xV{X:Cx}{pins:List (U×qa9)}{σ:St}{H H':Hp}{s:n_}{b:U}(I:Inv X pins σ H s)(hb:s.heap.objs.size<=b)(hn:H' b=none):uu X pins H' b:=by
 refine⟨hn,qbc (H_ I.lt hb),I.acE hb,.inr (p_ I.sz hb),λx c e z=>?_,λp hp z=>?_⟩
 ·obtain⟨v,q⟩:=I.cell x c e;exact absurd (H_ q.lt (by rw[z];exact hb)) (qap _)
 ·exact absurd (H_ (E_ (I.pin p hp).1) (by rw[z];exact hb)) (qap _)
structure Turn(P:r_)(w:I_)(K:PySem.W.Frag)(tg:Expr)(J:It)(fp:List U)(it:U)(tn:Nat->W_->Prop):Prop where
 mem:it∈fp
 obj:∀i h,tn i h->∀b∈fp,∃o,h.get? b=some o/\∀v,o.data≠ .cell v
 keep:∀i h h',tn i h->(∀b∈fp,∀o,h.get? b=some o->h'.get? b=some o)->tn i h'
 item:∀(X:Cx),X.prog=P->X.w=w->X.K=K->X.calm=true->∀(i:Nat) (pins:List (U×qa9)) (s:n_) (σ:St) (H:Hp) (E:k_->n_->Prop),Inv X pins σ H s->(∀b∈fp,uu X pins H b)->tn i s.heap->J.go i H →
  C_ (model P w) X.A (pyNext (.ref it)) (λr s1=>∃u,r=some u ∧
   C_ (model P w) X.A (letOwnedTupleGo tg (.ref it) u) (λ_ s2=>dP λx H'=>Inv X pins σ H' s2/\RelV x u/\J.CZ i H x H'/\tn (i+1) s2.heap/\∀b∈fp,H' b=none) E s1) E s
 done:∀(X:Cx),X.prog=P->X.w=w->X.K=K->X.calm=true->∀(i:Nat) (pins:List (U×qa9)) (s:n_) (σ:St) (H:Hp) (E:k_->n_->Prop),Inv X pins σ H s->(∀b∈fp,uu X pins H b)->tn i s.heap->J.stop i H →
  C_ (model P w) X.A (pyNext (.ref it)) (λr s1=>r=none/\Inv X pins σ H s1) E s
 self:∀(A:qab) (i:Nat) (s:n_) (Q:k_->n_->Prop) (E:k_->n_->Prop),tn i s.heap->Q (.ref it) s->C_ (model P w) A (pyIter (.ref it)) Q E s
noncomputable abbrev TI:=St->Hp->(It->Hp->Prop)->Prop
def PIE(X:Cx)(pins:List (U×qa9))(σ:St)(tg:Expr)(R:It->Hp->Prop)(itv:k_)(s2:n_):Prop :=
 BG λ(it:U) (fp:List U) (tn:Nat->W_->Prop) (J:It) (H':Hp)=>itv= .ref it/\Inv X pins σ H' s2/\Turn X.prog X.w X.K tg J fp it tn/\tn 0 s2.heap/\(∀b∈fp,uu X pins H' b)/\R J H'
def PI(X:Cx)(tg iter:Expr)(wi:TI):Prop :=
 ∀(pins:List (U×qa9)) (s:n_) (σ:St) (H:Hp) (R:It->Hp->Prop),Inv X pins σ H s->wi σ H R →
  C_ (model X.prog X.w) X.A (eval iter X.env) (λv s1=>C_ (model X.prog X.w) X.A (pyIter v) (PIE X pins σ tg R) X.xe s1) X.xe s
theorem Dv{M:Model}{A:qab}{E:k_->n_->Prop}{s:n_}{tg:Expr}{it:U}{u:k_}{o:qa9}{n:String}{vs:Array k_}{Q:Unit->n_->Prop}(ho:s.heap.get? it=some o)(hc:o.cls= .type n)(hd:o.data= .fields vs)
  (hn:["enumerate","zip","dict_itemiterator","dict_reverseitemiterator","odict_iterator","itertools.zip_longest","itertools.pairwise"].contains n=false) (hQ:Q () s):C_ M A (letOwnedTupleGo tg (.ref it) u) Q E s:=by
 unfold letOwnedTupleGo
 cases tg<;>first
  |exact q_ hQ
  |(cases u<;>first
    |exact q_ hQ
    |(refine f_ (wpAny_load ho ?_)
      rw[hc,hd]
      show C_ M A (if(["enumerate","zip","dict_itemiterator","dict_reverseitemiterator","odict_iterator","itertools.zip_longest","itertools.pairwise"].contains n&&vs[0]? ==some (rawInt _))=true then _ else _) Q E s
      rw[if_neg (by intro h;rw[hn,qbf]at h;cases h)];exact q_ hQ))
noncomputable def ZE(K:PySem.W.Frag)(a:U):It :=
 ⟨λi H=>dP λxs x=>bW K H a xs/\xs[i]? =some x,λi H x H'=>H'=H/\∀xs,bW K H a xs->xs[i]? =some x,λi H=>∃xs,bW K H a xs/\xs.length<=i⟩
noncomputable def ZC(K:PySem.W.Frag)(a:U):It :=
 ⟨λi H=>dP λxs x=>bZ K H a xs/\xs[i]? =some x,λi H x H'=>H'=H/\∀xs,bZ K H a xs->xs[i]? =some x,λi H=>∃xs,bZ K H a xs/\xs.length<=i⟩
noncomputable def WB(lo:Int)(n:Nat):It:=⟨λi _=>i<n,λi H x H'=>H'=H/\x= .int (lo+i),λi _=>n<=i⟩
theorem C8{P:r_}{w:I_}{K:PySem.W.Frag}{tg:Expr}(a it:U):Turn P w K tg (ZE K a) [it] it (λi h=>h.IsListIter it a i) where
 mem:=by simp
 obj:=λi h st b hb=>by
  have e:b=it:=by simpa using hb
  subst e;obtain⟨o,e,c,d⟩:=st;exact⟨o,e,λv z=>by rw[d]at z;cases z⟩
 keep:=λi h h' st k=>st.at λo e=>k it (by simp) o e
 item:=by
  intro X hP hw hK hc i pins s σ H E I hf st hg;subst hP hw hK;obtain⟨xs,x,hq,hx⟩:=hg;obtain⟨its,rv,p,hz⟩:=I.list hq;obtain⟨u,hu,ru⟩:=rv.get hx;obtain⟨f0,f1,f2,f3,f4,f5⟩:=hf it (by simp);refine wpAny_pyNext_list_item st p.isList (x:=u) (by simpa using hu) λh' st' sb=>?_;have I1:Inv X pins σ H { s with heap:=h' }:=I.turned (t':=s.toks) (λb o hb e=>(sb.2 b hb).trans e) f0 f1 f3 f4 f5;obtain⟨o,e,c,d⟩:=id st';exact⟨u,Y,Dv (s:={ s with heap:=h' }) e c d (by decide) ⟨x,H,I1,ru,⟨Y,λys hy=>by rw[I.Bj hy hq];exact hx⟩,st',λb hb=>(hf b hb).1⟩⟩
 done:=by
  intro X hP hw hK hc i pins s σ H E I hf st hg;subst hP hw hK;obtain⟨xs,hq,hx⟩:=hg;obtain⟨its,rv,p,hz⟩:=I.list hq;obtain⟨f0,f1,f2,f3,f4,f5⟩:=hf it (by simp);have hl:=rv.length;exact wpAny_pyNext_list_end (I.ok.hd hc) st p.isList (by simp;omega) λh' eb=>⟨Y,I.turned (t':=s.toks) (λb o hb e=>eb b o hb e) f0 f1 f3 f4 f5⟩
 self:=λ_ _ _ _ _ st h=>wpAny_pyIter_listiter st h
theorem As{P:r_}{w:I_}{K:PySem.W.Frag}{tg:Expr}(a it:U):Turn P w K tg (ZC K a) [it] it (λi h=>h.IsTupleIter it a i) where
 mem:=by simp
 obj:=λi h st b hb=>by
  have e:b=it:=by simpa using hb
  subst e;obtain⟨o,e,c,d⟩:=st;exact⟨o,e,λv z=>by rw[d]at z;cases z⟩
 keep:=λi h h' st k=>st.at λo e=>k it (by simp) o e
 item:=by
  intro X hP hw hK hc i pins s σ H E I hf st hg;subst hP hw hK;obtain⟨xs,x,hq,hx⟩:=hg;obtain⟨its,rv,p,hz⟩:=I.tuple hq;obtain⟨u,hu,ru⟩:=rv.get hx;obtain⟨f0,f1,f2,f3,f4,f5⟩:=hf it (by simp);refine wpAny_pyNext_tuple_item st (show s.heap.IsTuple a its.toArray from p) (x:=u) (by simpa using hu) λh' st' sb=>?_;have I1:Inv X pins σ H { s with heap:=h' }:=I.turned (t':=s.toks) (λb o hb e=>(sb.2 b hb).trans e) f0 f1 f3 f4 f5;obtain⟨o,e,c,d⟩:=id st';exact⟨u,Y,Dv (s:={ s with heap:=h' }) e c d (by decide) ⟨x,H,I1,ru,⟨Y,λys hy=>by rw[I.C9 hy hq];exact hx⟩,st',λb hb=>(hf b hb).1⟩⟩
 done:=by
  intro X hP hw hK hc i pins s σ H E I hf st hg;subst hP hw hK;obtain⟨xs,hq,hx⟩:=hg;obtain⟨its,rv,p,hz⟩:=I.tuple hq;obtain⟨f0,f1,f2,f3,f4,f5⟩:=hf it (by simp);have hl:=rv.length;exact wpAny_pyNext_tuple_end (I.ok.hd hc) st (show s.heap.IsTuple a its.toArray from p) (by simp;omega) λh' eb=>⟨Y,I.turned (t':=s.toks) (λb o hb e=>eb b o hb e) f0 f1 f3 f4 f5⟩
 self:=λ_ _ _ _ _ st h=>wpAny_pyIter_tupleiter st h
theorem Iw{P:r_}{w:I_}{K:PySem.W.Frag}{tg:Expr}(it:U)(lo:Int)(n:Nat):Turn P w K tg (WB lo n) [it] it (λi h=>IsRangeIter h it (lo+(i:Nat)*1) ((n:Int)-(i:Nat)) 1) where
 mem:=by simp
 obj:=λi h st b hb=>by
  have e:b=it:=by simpa using hb
  subst e;exact⟨_,st,λv z=>by
   have z':Data.fields _=Data.cell v:=z;cases z'⟩
 keep:=λi h h' st k=>k it (by simp) _ st
 item:=by
  intro X hP hw hK hc i pins s σ H E I hf st hg;subst hP hw hK;obtain⟨f0,f1,f2,f3,f4,f5⟩:=hf it (by simp);have W:=Walks.range (prog:=X.prog) (w:=X.w) (I.ok.hd hc) it lo 1 n;refine TK.bX (j_ s.toks) (W.item i s _ _ hg st λv h' tk hv st' kk hup=>?_);obtain⟨t,rfl⟩:=hv;have I1:Inv X pins σ H { s with heap:=h',toks:=tk }:=I.turned (λb o hb e=>kk b o (by simpa using hb) e) f0 f1 f3 f4 f5;refine⟨_,Y,Dv (s:={ s with heap:=h',toks:=tk }) (n:= "range_iterator") st' Y Y (by decide) ⟨.int (lo+i),H,I1,⟨t,?_⟩,⟨Y,Y⟩,st',λb hb=>(hf b hb).1⟩⟩;rw[Int.mul_one]
 done:=by
  intro X hP hw hK hc i pins s σ H E I hf st hg;subst hP hw hK;obtain⟨f0,f1,f2,f3,f4,f5⟩:=hf it (by simp);exact wpAny_pyNext_range_end (I.ok.hd hc) st (by have:n<=i:=hg;omega) λh' eb=>⟨Y,I.turned (t':=s.toks) (λb o hb e=>eb b o hb e) f0 f1 f3 f4 f5⟩
 self:=λ_ _ _ _ _ st h=>wpAny_pyIter_rangeiter st h
end
section
section
variable{X:Cx}{tg:Expr}
def Yu(K:PySem.W.Frag)(tl:TE):TI:=λσ H R=>tl σ H λx H1=>∃a,x= .ref a/\(∃xs,bW K H1 a xs)/\R (ZE K a) H1
def ac0(K:PySem.W.Frag)(tl:TE):TI:=λσ H R=>tl σ H λx H1=>∃a,x= .ref a/\(∃xs,bZ K H1 a xs)/\R (ZC K a) H1
theorem qj{l:Expr}{tl:TE}(hl:PE X l tl):PI X tg l (Yu X.K tl):=by
 intro pins s σ H R I h;refine fR (hl pins s σ H _ I h) λv s1 ⟨x,H1,I1,r1,q1⟩=>?_;obtain⟨a,e,⟨xs,hq⟩,q⟩:=q1;subst e;cases r1;obtain⟨its,rv,p,hz⟩:=I1.list hq;refine qaY p.isList ?_;refine⟨s1.heap.objs.size,[s1.heap.objs.size],_,_,H1,Y,I1.kept (t':=s1.toks) λb o e=>m_ _ e,C8 a _,⟨_,t_ _ Y,Y,Y⟩,λb hb=>?_,q⟩;have e:b=s1.heap.objs.size:=by simpa using hb
 subst e;exact I1.xV (j_ _) (I1.hok.fresh (j_ _))
theorem Om{l:Expr}{tl:TE}(hl:PE X l tl):PI X tg l (ac0 X.K tl):=by
 intro pins s σ H R I h;refine fR (hl pins s σ H _ I h) λv s1 ⟨x,H1,I1,r1,q1⟩=>?_;obtain⟨a,e,⟨xs,hq⟩,q⟩:=q1;subst e;cases r1;obtain⟨its,rv,p,hz⟩:=I1.tuple hq;refine qbr (show s1.heap.IsTuple a its.toArray from p) ?_;refine⟨s1.heap.objs.size,[s1.heap.objs.size],_,_,H1,Y,I1.kept (t':=s1.toks) λb o e=>m_ _ e,As a _,⟨_,t_ _ Y,Y,Y⟩,λb hb=>?_,q⟩;have e:b=s1.heap.objs.size:=by simpa using hb
 subst e;exact I1.xV (j_ _) (I1.hok.fresh (j_ _))
theorem Oc{pins:List (U×qa9)}{σ:St}{H:Hp}{s:n_}{R:It->Hp->Prop}{E:k_->n_->Prop}{lo hi:Int}{t u v:qcN}{tk:Nat}(I:Inv X pins σ H s)(h1: -(2 ^ 62)<=lo)(h2:lo<2 ^ 62)(h3: -(2 ^ 62)<=hi)(h4:hi<2 ^ 62)
  (q:R (WB lo (hi-lo).toNat) H) (htk:s.toks<=tk:=by first|exact j_ _|exact qay _|assumption|omega):C_ (model X.prog X.w) X.A (pyIter (.ref s.heap.objs.size)) (PIE X pins σ tg R) E { s with heap:=s.heap.push { cls:=.type "range",data:=.fields #[.int lo t,.int hi u,.int 1 v] },toks:=tk }:=by
 refine wpAny_pyIter_range (IsRange.new ..) (small_one h1 h2 h3 h4) ?_;have I1:Inv X pins σ H { s with heap:=s.heap.push { cls:=.type "range",data:=.fields #[.int lo t,.int hi u,.int 1 v] },toks:=tk }:=I.kept λb o e=>m_ _ e;refine⟨(s.heap.push { cls:=.type "range",data:=.fields #[.int lo t,.int hi u,.int 1 v] }).objs.size,[(s.heap.push { cls:=.type "range",data:=.fields #[.int lo t,.int hi u,.int 1 v] }).objs.size],_,_,H,Y,
  I1.kept (t':=tk) λb o e=>m_ _ e,Iw _ lo (hi-lo).toNat,?_,λb hb=>?_,q⟩
 ·have e1:lo+((0:Nat):Int)*1=lo:=by simp
  have e2:(((hi-lo).toNat:Nat):Int)-((0:Nat):Int)=qbG lo hi 1:=by rw[rangeSize_one];split<;>omega
  show IsRangeIter _ _ (lo+((0:Nat):Int)*1) ((((hi-lo).toNat:Nat):Int)-((0:Nat):Int)) 1;rw[e1,e2];exact t_ _ Y
 ·have e:b=(s.heap.push { cls:=.type "range",data:=.fields #[.int lo t,.int hi u,.int 1 v] }).objs.size:=by simpa using hb
  subst e;exact I1.xV (j_ _) (I1.hok.fresh (j_ _))
def Yt(ta:TA):TI:=λσ H R=>ta σ H λvs H1=>∃j:Int,vs=[.int j]/\ -(2 ^ 62)<=j/\j<2 ^ 62/\R (WB 0 j.toNat) H1
theorem j9 {a:Expr}{ta:TA}{p pos:qbO}(hg:Gl X "range")(hm:X.mg "range" =none)(ha:PA X [a] ta)(hs:qaf [a] X.env=[(false,eval a X.env)]:=by rfl):PI X tg (.Call (.Name "range" p) [a] [] pos) (Yt ta):=by
 intro pins s σ H R I h;refine Call_ (rQ I hg hm boot_range (qaQ (fR (ha pos pins s σ H _ I h) λus s1 ⟨vs,H1,I1,r1,q1⟩=>?_) hs Y));obtain⟨j,e,q1,q2,q⟩:=q1;subst e
 cases r1 with
 |cons r rr =>
  cases rr;obtain⟨t,rfl⟩:=r;exact call_range_1 (Oc I1 (by omega) (by omega) q1 q2 (by simpa using q))
def ab2(wi:TI)(g:TG)(tb:TS):TS:=λD σ H=>wi σ H λJ H1=>∃W:Nat->Nat->St->Hp->Prop,(∃m,W 0 m σ H1)/\∀i m σ H,W i m σ H →
 (J.stop i H/\D.nx σ H)\/(J.go i H/\∃N:St->Hp->Prop,(∀ σ' H',N σ' H'->∃m',m'<m/\W (i+1) m' σ' H')/\∀x H',J.CZ i H x H'->g x σ H' λσ2 H2=>tb { D with nx:=N,ct:=N,bk:=D.nx } σ2 H2)
noncomputable def Eb(fp:List U)(h:W_):List (U×qa9):=fp.filterMap λb=>(h.get? b).map λo=>(b,o)
theorem oj{fp:List U}{h:W_}{b:U}{o:qa9}(hb:b∈fp)(e:h.get? b=some o):(b,o)∈Eb fp h:=qbR.mpr ⟨b,hb,by rw[e];rfl⟩
theorem L7{fp:List U}{h:W_}{p:U×qa9}(hp:p∈Eb fp h):p.1∈fp/\h.get? p.1=some p.2:=by
 obtain⟨b,hb,e⟩:=qbR.mp hp
 cases q:h.get? b with
 |none=>rw[q]at e;cases e
 |some o =>
  rw[q]at e;have e':(b,o)=p:=L_ e;subst e';exact⟨hb,q⟩
theorem Inv.pinned{pins:List (U×qa9)}{σ:St}{H:Hp}{s:n_}{fp:List U}(I:Inv X pins σ H s)(hf:∀b∈fp,uu X pins H b)(ho:∀b∈fp,∃o,s.heap.get? b=some o/\∀v,o.data≠ .cell v):Inv X (pins++Eb fp s.heap) σ H s :=
 I.Ea λp hp=>(V_.mp hp).elim (λz=>I.pin p (T_ _ z)) λz=>by
  obtain⟨hb,e⟩:=L7 z;obtain⟨f0,f1,f2,_⟩:=hf p.1 hb;obtain⟨o,e',d⟩:=ho p.1 hb;rw[e]at e';cases e';exact⟨e,f0,f1,f2,d⟩
theorem Inv.Aq{pins pl:List (U×qa9)}{σ:St}{H:Hp}{s:n_}(I:Inv X (pins++pl) σ H s):Inv X pins σ H s:=I.Ea λp hp=>I.pin p (T_ _ (qav _ hp))
theorem cV{iter:Expr}{body:List qam}{wi:TI}{g:TG}{tb:TS}{pos:qbO}(hp:PassesOwn (model X.prog X.w) X.A X.env X.xe)(hc:X.calm=true)(hi:PI X tg iter wi)(hg:PG X tg g)(hb:Fv X body tb)
  (hs:∀x,foldedSetIterable iter X.env x=pure x:=by intro _;rfl):PS X (.For tg iter body [] pos) (ab2 wi g tb):=by
 intro pins s σ H D I h;refine wpAny_For (fR (hi pins s σ H _ I h) λv s1 h1=>fR h1 λitv s2 h2=>?_) hs;obtain⟨it,fp,tn,J,H2,e,I2,T,st2,f2,W,⟨m0,w0⟩,turn⟩:=h2;subst e;have stat:∀{H':Hp},(∀b∈fp,H' b=none)->∀b∈fp,uu X pins H' b:=λhn b hb=>⟨hn b hb,(f2 b hb).2⟩;refine codeAny_forLoop_any (λn s'=>nN λi σ' H'=>Inv X pins σ' H' s'/\tn i s'.heap/\(∀b∈fp,H' b=none)/\W i n σ' H') ?_ m0 ⟨0,σ,H2,I2,st2,λb hb=>(f2 b hb).1,w0⟩;rintro n s3 ⟨i,σ3,H3,I3,st3,fr3,w3⟩;rcases turn i n σ3 H3 w3 with⟨stop,qn⟩|⟨go,N,hN,step⟩
 ·refine qbz hp (fR (T.done X Y Y Y hc i pins s3 σ3 H3 X.xe I3 (stat fr3) st3 stop) λr s4 ⟨hr,I4⟩=>?_);subst hr;exact wpAny_execs_nil ⟨σ3,H3,I4,qn⟩
 ·refine qbz hp (fR (T.item X Y Y Y hc i pins s3 σ3 H3 X.xe I3 (stat fr3) st3 go) λr s4 ⟨u,hr,h4⟩=>?_);subst hr;refine qbz hp (fR h4 λ_ s5 ⟨x,H5,I5,r5,y5,st5,fr5⟩=>?_);have I5':=I5.pinned (stat fr5) (T.obj _ _ st5);refine qbz hp (fR (hg _ s5 σ3 H5 x u _ I5' r5 (step x H5 y5)) λ_ s6 ⟨σ6,H6,I6,q6⟩=>?_);refine qbz hp (fR (hb _ s6 σ6 H6 _ I6 q6) λf s7 q7=>?_);have again:∀{Ih:St} {H7:Hp},Inv X (pins++Eb fp s5.heap) Ih H7 s7->N Ih H7->∃m,m<n/\nN λi σ' H'=>Inv X pins σ' H' s7/\tn i s7.heap/\(∀b∈fp,H' b=none)/\W i m σ' H':=λ{Ih H7} I7 n7=>by
   obtain⟨m',hm,w7⟩:=hN Ih H7 n7;refine⟨m',hm,i+1,Ih,H7,I7.Aq,T.keep _ _ _ st5 λb hb o e=>(I7.pin (b,o) (T_ _ (T_ _ (oj hb e)))).1,λb hb=>?_,w7⟩;obtain⟨o,e,d⟩:=T.obj _ _ st5 b hb;exact(I7.pin (b,o) (T_ _ (T_ _ (oj hb e)))).2.1
  cases f with
  |next=>obtain⟨Ih,H7,I7,n7⟩:=q7;exact again I7 n7
  |cont=>obtain⟨Ih,H7,I7,n7⟩:=q7;exact again I7 n7
  |brk=>obtain⟨Ih,H7,I7,q7⟩:=q7;exact⟨Ih,H7,I7.Aq,q7⟩
  |ret v=>obtain⟨x7,Ih,H7,I7,r7,q7⟩:=q7;exact⟨x7,Ih,H7,I7.Aq,r7,q7⟩
end
theorem sG{K:PySem.W.Frag}{a:U}{xs:List V}{g:TG}{tb:TS}{D:Ends}{σ:St}{H:Hp}(Pv:Nat->St->Hp->Prop)(h0:Pv 0 σ H)(hl:∀i σ H,i<=xs.length->Pv i σ H->bW K H a xs)
  (hs:∀i x σ H,xs[i]? =some x->Pv i σ H->g x σ H λσ2 H2=>tb { D with nx:=Pv (i+1),ct:=Pv (i+1),bk:=D.nx } σ2 H2) (hd:∀ σ H,Pv xs.length σ H->D.nx σ H) :
  ∃W:Nat->Nat->St->Hp->Prop,(∃m,W 0 m σ H)/\∀i m σ H,W i m σ H →
   ((ZE K a).stop i H/\D.nx σ H)\/((ZE K a).go i H/\∃N:St->Hp->Prop,(∀ σ' H',N σ' H'->∃m',m'<m/\W (i+1) m' σ' H')/\∀x H',(ZE K a).CZ i H x H'->g x σ H' λσ2 H2=>tb { D with nx:=N,ct:=N,bk:=D.nx } σ2 H2):=by
 refine⟨λi m σ H=>m=xs.length-i/\i<=xs.length/\Pv i σ H,⟨xs.length,by simp,Q_ _,h0⟩,?_⟩;rintro i m σ H ⟨rfl,hi,p⟩;have q:=hl i σ H hi p;by_cases hlt:i<xs.length
 ·refine .inr ⟨⟨xs,xs[i],q,by simp[hlt]⟩,Pv (i+1),λσ' H' p'=>⟨xs.length-(i+1),by omega,Y,hlt,p'⟩,λx H' y=>?_⟩;obtain⟨e,y⟩:=y;subst e;exact hs i x σ _ (y xs q) p
 ·have e:i=xs.length:=by omega
  subst e;exact .inl ⟨⟨xs,q,j_ _⟩,hd σ H p⟩
theorem Ll{K:PySem.W.Frag}{a:U}{xs:List V}{g:TG}{tb:TS}{D:Ends}{σ:St}{H:Hp}(Pv:Nat->St->Hp->Prop)(h0:Pv 0 σ H)(hl:∀i σ H,i<=xs.length->Pv i σ H->bZ K H a xs)
  (hs:∀i x σ H,xs[i]? =some x->Pv i σ H->g x σ H λσ2 H2=>tb { D with nx:=Pv (i+1),ct:=Pv (i+1),bk:=D.nx } σ2 H2) (hd:∀ σ H,Pv xs.length σ H->D.nx σ H) :
  ∃W:Nat->Nat->St->Hp->Prop,(∃m,W 0 m σ H)/\∀i m σ H,W i m σ H →
   ((ZC K a).stop i H/\D.nx σ H)\/((ZC K a).go i H/\∃N:St->Hp->Prop,(∀ σ' H',N σ' H'->∃m',m'<m/\W (i+1) m' σ' H')/\∀x H',(ZC K a).CZ i H x H'->g x σ H' λσ2 H2=>tb { D with nx:=N,ct:=N,bk:=D.nx } σ2 H2):=by
 refine⟨λi m σ H=>m=xs.length-i/\i<=xs.length/\Pv i σ H,⟨xs.length,by simp,Q_ _,h0⟩,?_⟩;rintro i m σ H ⟨rfl,hi,p⟩;have q:=hl i σ H hi p;by_cases hlt:i<xs.length
 ·refine .inr ⟨⟨xs,xs[i],q,by simp[hlt]⟩,Pv (i+1),λσ' H' p'=>⟨xs.length-(i+1),by omega,Y,hlt,p'⟩,λx H' y=>?_⟩;obtain⟨e,y⟩:=y;subst e;exact hs i x σ _ (y xs q) p
 ·have e:i=xs.length:=by omega
  subst e;exact .inl ⟨⟨xs,q,j_ _⟩,hd σ H p⟩
theorem sF{lo:Int}{n:Nat}{g:TG}{tb:TS}{D:Ends}{σ:St}{H:Hp}(Pv:Nat->St->Hp->Prop)(h0:Pv 0 σ H)
  (hs:∀i σ H,i<n->Pv i σ H->g (.int (lo+i)) σ H λσ2 H2=>tb { D with nx:=Pv (i+1),ct:=Pv (i+1),bk:=D.nx } σ2 H2) (hd:∀ σ H,Pv n σ H->D.nx σ H) :
  ∃W:Nat->Nat->St->Hp->Prop,(∃m,W 0 m σ H)/\∀i m σ H,W i m σ H →
   ((WB lo n).stop i H/\D.nx σ H)\/((WB lo n).go i H/\∃N:St->Hp->Prop,(∀ σ' H',N σ' H'->∃m',m'<m/\W (i+1) m' σ' H')/\∀x H',(WB lo n).CZ i H x H'->g x σ H' λσ2 H2=>tb { D with nx:=N,ct:=N,bk:=D.nx } σ2 H2):=by
 refine⟨λi m σ H=>m=n-i/\i<=n/\Pv i σ H,⟨n,by simp,Q_ _,h0⟩,?_⟩;rintro i m σ H ⟨rfl,hi,p⟩;by_cases hlt:i<n
 ·refine .inr ⟨hlt,Pv (i+1),λσ' H' p'=>⟨n-(i+1),by omega,Y,hlt,p'⟩,λx H' y=>?_⟩;obtain⟨e,y⟩:=y;subst e y;exact hs i σ _ hlt p
 ·have e:i=n:=by omega
  subst e;exact .inl ⟨j_ _,hd σ H p⟩
end
section
noncomputable abbrev R2:=V->V->Hp->VK->Prop
def wc(X:Cx)(f:k_->k_->Sem k_)(r:R2):Prop :=
 ∀(pins:List (U×qa9)) (s:n_) (σ:St) (H:Hp) (x y:V) (v u:k_) (Q:VK),Inv X pins σ H s->RelV x v->RelV y u->r x y H Q →
  C_ (model X.prog X.w) X.A (f v u) (EP X pins σ Q) X.xe s
def UnR(X:Cx)(f:k_->Sem k_)(r:V->Hp->VK->Prop):Prop :=
 ∀(pins:List (U×qa9)) (s:n_) (σ:St) (H:Hp) (x:V) (v:k_) (Q:VK),Inv X pins σ H s->RelV x v->r x H Q →
  C_ (model X.prog X.w) X.A (f v) (EP X pins σ Q) X.xe s
def pM(X:Cx)(f:k_)(r:List V->Hp->VK->Prop):Prop :=
 ∀(pins:List (U×qa9)) (s:n_) (σ:St) (H:Hp) (xs:List V) (us:List k_) (Q:VK),Inv X pins σ H s->Vals xs us->r xs H Q →
  C_ (model X.prog X.w) X.A (call f us) (EP X pins σ Q) X.xe s
def ZW(r:R2)(ta tb:TE):TE:=λσ H Q=>ta σ H λx H1=>tb σ H1 λy H2=>r x y H2 Q
def tUn(r:V->Hp->VK->Prop)(ta:TE):TE:=λσ H Q=>ta σ H λx H1=>r x H1 Q
def rI(C:Int->Int->Prop)(g:Int->Int->V):R2:=λx y H Q=>dP λi j=>x= .int i/\y= .int j/\C i j/\Q (g i j) H
def Sx(g:Int->Int->V):R2:=λx y H Q=>dP λi j=>x= .int i/\y= .int j/\Q (g i j) H
def rU(g:Int->V):V->Hp->VK->Prop:=λx H Q=>∃i,x= .int i/\Q (g i) H
section
variable{X:Cx}{a b c:Expr}{ta tb tc:TE}{pos:qbO}
theorem V6(ha:PE X a ta)(hb:PE X b tb){pins:List (U×qa9)}{s:n_}{σ:St}{H:Hp}{R:V->V->Hp->Prop}(I:Inv X pins σ H s)
  (h:ta σ H λx H1=>tb σ H1 λy H2=>R x y H2) {Q:k_->n_->Prop} {f:k_->k_->Sem k_}
  (hf:∀v u s2 x y H2,Inv X pins σ H2 s2->RelV x v->RelV y u->R x y H2->C_ (model X.prog X.w) X.A (f v u) Q X.xe s2) :
  C_ (model X.prog X.w) X.A (eval a X.env) (λv s₁=>C_ (model X.prog X.w) X.A (eval b X.env) (λu s₂=>C_ (model X.prog X.w) X.A (f v u) Q X.xe s₂) X.xe s₁) X.xe s:=by
 refine fR (ha pins s σ H _ I h) λv s1 ⟨x,H1,I1,r1,q1⟩=>?_;refine fR (hb pins s1 σ H1 _ I1 q1) λu s2 ⟨y,H2,I2,r2,q2⟩=>?_;exact hf v u s2 x y H2 I2 r1 r2 q2
theorem aA{op:Operator}{r:R2}(ho:wc X (binaryOp op) r)(ha:PE X a ta)(hb:PE X b tb):PE X (.BinOp a op b pos) (ZW r ta tb):=by
 intro pins s σ H Q I h;exact wpAny_BinOp (V6 ha hb I h λv u s2 x y H2 I2 rx ry q=>ho pins s2 σ H2 x y v u Q I2 rx ry q)
theorem AL{op:UnaryOp}{r:V->Hp->VK->Prop}(ho:UnR X (unaryOp op) r)(ha:PE X a ta):PE X (.UnaryOp op a pos) (tUn r ta):=by
 intro pins s σ H Q I h;exact UnaryOp_ (fR (ha pins s σ H _ I h) λv s1 ⟨x,H1,I1,r1,q1⟩=>ho pins s1 σ H1 x v Q I1 r1 q1)
theorem Xp{f:k_->k_->Sem k_}{C:Int->Int->Prop}{g:Int->Int->Int}
  (rule:∀(i j:Int) (t u:qcN) (s:n_) (Q:k_->n_->Prop) (E:k_->n_->Prop),C i j->Q (.int (g i j) s.toks) { s with toks:=s.toks+1 }->C_ (model X.prog X.w) X.A (f (.int i t) (.int j u)) Q E s) :
  wc X f (rI C λi j=>.int (g i j)):=by
 intro pins s σ H x y v u Q I rx ry h;obtain⟨i,j,rfl,rfl,hc,q⟩:=h;obtain⟨t,rfl⟩:=rx;obtain⟨t',rfl⟩:=ry;exact rule i j t t' s _ _ hc ⟨.int (g i j),H,I.tok _,⟨_,Y⟩,q⟩
theorem Xo{f:k_->k_->Sem k_}{g:Int->Int->Int}
  (rule:∀(i j:Int) (t u:qcN) (s:n_) (Q:k_->n_->Prop) (E:k_->n_->Prop),Q (.int (g i j) s.toks) { s with toks:=s.toks+1 }->C_ (model X.prog X.w) X.A (f (.int i t) (.int j u)) Q E s) :
  wc X f (Sx λi j=>.int (g i j)):=by
 intro pins s σ H x y v u Q I rx ry h;obtain⟨i,j,rfl,rfl,q⟩:=h;obtain⟨t,rfl⟩:=rx;obtain⟨t',rfl⟩:=ry;exact rule i j t t' s _ _ ⟨.int (g i j),H,I.tok _,⟨_,Y⟩,q⟩
theorem Rh{f:k_->k_->Sem k_}{g:Int->Int->Bool}
  (rule:∀(i j:Int) (t u:qcN) (s:n_) (Q:k_->n_->Prop) (E:k_->n_->Prop),Q (.bool (g i j)) s->C_ (model X.prog X.w) X.A (f (.int i t) (.int j u)) Q E s) :
  wc X f (Sx λi j=>.bl (g i j)):=by
 intro pins s σ H x y v u Q I rx ry h;obtain⟨i,j,rfl,rfl,q⟩:=h;obtain⟨t,rfl⟩:=rx;obtain⟨t',rfl⟩:=ry;exact rule i j t t' s _ _ ⟨.bl (g i j),H,I,Y,q⟩
def ael(i j:Int):Prop:=0<j/\j<1073741824
def aek(i j:Int):Prop:=0<=j/\j<=1000000/\i.natAbs<2 ^ 64
def Wd(i j:Int):Prop:=(-(2 ^ 64)<i/\i<2 ^ 64)\/(-(2 ^ 64)<j/\j<2 ^ 64)
theorem Wd.ok{i j:Int}(h:Wd i j):IntMulOk i j:=by
 rcases h with⟨h1,h2⟩|⟨h1,h2⟩
 ·exact .of_left (intBits_le_64 h1 h2)
 ·exact .of_right (intBits_le_64 h1 h2)
theorem bE:wc X (binaryOp .Add) (Sx λi j=>.int (i+j)):=Xo λ_ _ _ _ _ _ _ q=>add_int q
theorem nZ:wc X (binaryOp .Sub) (Sx λi j=>.int (i-j)):=Xo λ_ _ _ _ _ _ _ q=>sub_int q
theorem nB:wc X (binaryOp .Mult) (rI Wd λi j=>.int (i*j)):=Xp λ_ _ _ _ _ _ _ hc q=>mul_int q hc.ok
theorem c6:wc X (binaryOp .FloorDiv) (rI ael λi j=>.int (i / j)):=Xp λi j _ _ _ _ _ hc q=>by
 have h1:(0:Int)<j:=hc.1;have h2:j<1073741824:=hc.2;exact floordiv_int (by omega) (by rw[Int.fdiv_eq_ediv_of_nonneg i (by omega)];exact q) (.inl (PyProof.noPylong_small (by omega)))
theorem bV:wc X (binaryOp .Mod) (rI (λ_ j=>0<j) λi j=>.int (i % j)):=Xp λi j _ _ _ _ _ hc q=>by
 have h1:(0:Int)<j:=hc;exact mod_int' (by omega) (by rw[Int.fmod_eq_emod_of_nonneg i (by omega)];exact q)
theorem Ei:wc X (binaryOp .Pow) (rI aek λi j=>.int (i ^ j.toNat)):=Xp λ_ _ _ _ _ _ _ hc q=>pow_int_small hc.1 hc.2.1 hc.2.2 q
theorem unI{f:k_->Sem k_}{g:Int->Int}
  (rule:∀(i:Int) (t:qcN) (s:n_) (Q:k_->n_->Prop) (E:k_->n_->Prop),Q (.int (g i) s.toks) { s with toks:=s.toks+1 }->C_ (model X.prog X.w) X.A (f (.int i t)) Q E s) :
  UnR X f (rU λi=>.int (g i)):=by
 intro pins s σ H x v Q I rx h;obtain⟨i,rfl,q⟩:=h;obtain⟨t,rfl⟩:=rx;exact rule i t s _ _ ⟨.int (g i),H,I.tok _,⟨_,Y⟩,q⟩
theorem wj:UnR X (unaryOp .USub) (rU λi=>.int (-i)):=unI λ_ _ _ _ _ q=>neg_int q
end
noncomputable def Xh:V->V->Bool
 | .jG,.jG=>true| .jG,.int _=>true| .int _,.jG=>true| .jG,.bl _=>true| .bl _,.jG=>true| .jG,.str _=>true| .str _,.jG=>true
 | .int _,.int _=>true| .bl _,.bl _=>true| .str _,.str _=>true| .LA _,.LA _=>true
 | .int _,.str _=>true| .str _,.int _=>true| .bl _,.str _=>true| .str _,.bl _=>true
 |_,_=>false
def rEq:R2:=λx y H Q=>Xh x y=true/\Q (.bl (decide (x=y))) H
def rNe:R2:=λx y H Q=>Xh x y=true/\Q (.bl (!decide (x=y))) H
theorem nJ{i j:Int}:decide (V.int i=V.int j)=(i==j):=by
 rw[qcn];simp
theorem PN{i j:Bool}:decide (V.bl i=V.bl j)=(i==j):=by
 rw[qcn];simp
theorem Lu{i j:v_}:decide (V.str i=V.str j)=(i==j):=by
 rw[qcn];simp
theorem Lv{i j:Array UInt8}:decide (V.LA i=V.LA j)=(i.toList==j.toList):=by
 rw[qcn];cases i;cases j;simp
section
variable{X:Cx}{a b c:Expr}{ta tb tc:TE}{pos:qbO}
theorem cP{pins:List (U×qa9)}{σ:St}{H:Hp}{s:n_}{Q:VK}{k k':Bool}(I:Inv X pins σ H s)(q:Q (.bl k) H)(e:k=k'):EP X pins σ Q (.bool k') s:=by
 subst e;exact⟨.bl k,H,I,Y,q⟩
theorem bM:wc X (compareOp .Eq) rEq:=by
 intro pins s σ H x y v u Q I rx ry h;obtain⟨hs,q⟩:=h
 cases x with
 |jG =>
  cases rx
  cases y with
  |jG=>cases ry;exact PySem.EqNone.eq_none_none (cP I q (by simp))
  |bl j=>cases ry;exact PySem.EqNone.eq_none_bool (cP I q (by simp))
  |int j=>obtain⟨t',rfl⟩:=ry;exact PySem.EqNone.eq_none_int (cP I q (by simp))
  |str j=>obtain⟨t',rfl⟩:=ry;exact PySem.EqNone.eq_none_str (cP I q (by simp))
  |_=>exact absurd (show false=true from hs) y_
 |bl i =>
  cases rx
  cases y with
  |jG=>cases ry;exact PySem.EqNone.eq_bool_none (cP I q (by simp))
  |bl j=>cases ry;exact eq_bool (cP I q PN)
  |str j=>obtain⟨t',rfl⟩:=ry;exact PySem.EqMixed.eq_bool_str (cP I q (by simp))
  |_=>exact absurd (show false=true from hs) y_
 |int i =>
  obtain⟨t,rfl⟩:=rx
  cases y with
  |jG=>cases ry;exact PySem.EqNone.eq_int_none (cP I q (by simp))
  |int j=>obtain⟨t',rfl⟩:=ry;exact eq_int (cP I q nJ)
  |str j=>obtain⟨t',rfl⟩:=ry;exact PySem.EqMixed.eq_int_str (cP I q (by simp))
  |_=>exact absurd (show false=true from hs) y_
 |str i =>
  obtain⟨t,rfl⟩:=rx
  cases y with
  |jG=>cases ry;exact PySem.EqNone.eq_str_none (cP I q (by simp))
  |bl j=>cases ry;exact PySem.EqMixed.eq_str_bool (cP I q (by simp))
  |int j=>obtain⟨t',rfl⟩:=ry;exact PySem.EqMixed.eq_str_int (cP I q (by simp))
  |str j=>obtain⟨t',rfl⟩:=ry;exact eq_str (cP I q Lu)
  |_=>exact absurd (show false=true from hs) y_
 |LA i =>
  obtain⟨t,rfl⟩:=rx
  cases y with
  |LA j=>obtain⟨t',rfl⟩:=ry;exact PySem.W.eq_bytes (cP I q Lv)
  |_=>exact absurd (show false=true from hs) y_
 |_=>cases y<;>exact absurd (show false=true from hs) y_
theorem vM:wc X (compareOp .NotEq) rNe:=by
 intro pins s σ H x y v u Q I rx ry h;obtain⟨hs,q⟩:=h
 cases x with
 |jG =>
  cases rx
  cases y with
  |jG=>cases ry;exact PySem.EqNone.ne_none_none (cP I q (by simp))
  |bl j=>cases ry;exact PySem.EqNone.ne_none_bool (cP I q (by simp))
  |int j=>obtain⟨t',rfl⟩:=ry;exact PySem.EqNone.ne_none_int (cP I q (by simp))
  |str j=>obtain⟨t',rfl⟩:=ry;exact PySem.EqNone.ne_none_str (cP I q (by simp))
  |_=>exact absurd (show false=true from hs) y_
 |bl i =>
  cases rx
  cases y with
  |jG=>cases ry;exact PySem.EqNone.ne_bool_none (cP I q (by simp))
  |bl j=>cases ry;exact ne_bool (cP I q (congrArg not PN))
  |str j=>obtain⟨t',rfl⟩:=ry;exact PySem.EqMixed.ne_bool_str (cP I q (by simp))
  |_=>exact absurd (show false=true from hs) y_
 |int i =>
  obtain⟨t,rfl⟩:=rx
  cases y with
  |jG=>cases ry;exact PySem.EqNone.ne_int_none (cP I q (by simp))
  |int j=>obtain⟨t',rfl⟩:=ry;exact ne_int (cP I q (congrArg not nJ))
  |str j=>obtain⟨t',rfl⟩:=ry;exact PySem.EqMixed.ne_int_str (cP I q (by simp))
  |_=>exact absurd (show false=true from hs) y_
 |str i =>
  obtain⟨t,rfl⟩:=rx
  cases y with
  |jG=>cases ry;exact PySem.EqNone.ne_str_none (cP I q (by simp))
  |bl j=>cases ry;exact PySem.EqMixed.ne_str_bool (cP I q (by simp))
  |int j=>obtain⟨t',rfl⟩:=ry;exact PySem.EqMixed.ne_str_int (cP I q (by simp))
  |str j=>obtain⟨t',rfl⟩:=ry;exact ne_str (cP I q (congrArg not Lu))
  |_=>exact absurd (show false=true from hs) y_
 |LA i =>
  obtain⟨t,rfl⟩:=rx
  cases y with
  |LA j=>obtain⟨t',rfl⟩:=ry;exact PySem.W.ne_bytes (cP I q (congrArg not Lv))
  |_=>exact absurd (show false=true from hs) y_
 |_=>cases y<;>exact absurd (show false=true from hs) y_
theorem sy:wc X (compareOp .Lt) (Sx λi j=>.bl (decide (i<j))):=Rh λ_ _ _ _ _ _ _ q=>lt_int q
theorem Dl:wc X (compareOp .LtE) (Sx λi j=>.bl (decide (i<=j))):=Rh λ_ _ _ _ _ _ _ q=>le_int q
theorem vN:wc X (compareOp .Gt) (Sx λi j=>.bl (decide (j<i))):=Rh λ_ _ _ _ _ _ _ q=>gt_int q
theorem Xn:wc X (compareOp .GtE) (Sx λi j=>.bl (decide (j<=i))):=Rh λ_ _ _ _ _ _ _ q=>ge_int q
theorem Ek:wc X (compareOp .Is) (λx y H Q=>y= .jG/\Q (.bl (decide (x= .jG))) H):=by
 intro pins s σ H x y v u Q I rx ry h;obtain⟨rfl,q⟩:=h;cases ry;refine is_none_gen (cP I q ?_)
 cases x<;>first
  |(cases rx;rfl)
  |(obtain⟨t,rfl⟩:=rx;rfl)
theorem K3:wc X (compareOp .IsNot) (λx y H Q=>y= .jG/\Q (.bl (!decide (x= .jG))) H):=by
 intro pins s σ H x y v u Q I rx ry h;obtain⟨rfl,q⟩:=h;cases ry;refine isnot_none_gen (cP I q ?_)
 cases x<;>first
  |(cases rx;rfl)
  |(obtain⟨t,rfl⟩:=rx;rfl)
theorem aG(b:Expr){op:CmpOp}(h:op≠ .In:=by decide)(h2:op≠ .NotIn:=by decide):behindInMarks op b=false:=by
 have e1:(op==CmpOp.In)=false:=by cases op<;>first|rfl|exact absurd Y h
 have e2:(op==CmpOp.NotIn)=false:=by cases op<;>first|rfl|exact absurd Y h2
 cases b<;>simp[behindInMarks,e1,e2]
theorem b8{op:CmpOp}{r:R2}(ho:wc X (compareOp op) r)(ha:PE X a ta)(hb:PE X b tb)(hm:behindInMarks op b=false):PE X (.Compare a [op] [b] pos) (ZW r ta tb):=by
 intro pins s σ H Q I h;exact wpAny_Compare1 (V6 ha hb I h λv u s2 x y H2 I2 rx ry q=>ho pins s2 σ H2 x y v u Q I2 rx ry q) hm
def Sj(t:TE):TT:=λσ H Q=>t σ H λx H'=>∃k,x= .bl k/\Q k H'
theorem aF{op:CmpOp}{r:R2}(ho:wc X (compareOp op) r)(ha:PE X a ta)(hb:PE X b tb)(hm:behindInMarks op b=false):PT X (.Compare a [op] [b] pos) (Sj (ZW r ta tb)):=by
 intro pins s σ H Q I h;refine wpAny_isTrue_Compare1 (fR (ha pins s σ H _ I h) λv s1 ⟨x,H1,I1,r1,q1⟩=>fR (hb pins s1 σ H1 _ I1 q1) λu s2 ⟨y,H2,I2,r2,q2⟩ =>
  fR (ho pins s2 σ H2 x y v u _ I2 r1 r2 q2) λc s3 ⟨z,H3,I3,r3,k,e,q3⟩=>?_) hm
 subst e;cases r3;exact qaD ⟨H3,I3,q3⟩
def NC(r r':R2)(ta tb tc:TE):TE:=λσ H Q=>ta σ H λx H1=>tb σ H1 λy H2=>r x y H2 λz H3=>∃k,z= .bl k ∧
 (if k=true then tc σ H3 λw' H4=>r' y w' H4 Q else Q (.bl false) H3)
theorem Ou{op op':CmpOp}{r r':R2}(ho:wc X (compareOp op) r)(ho':wc X (compareOp op') r')(ha:PE X a ta)(hb:PE X b tb)(hc:PE X c tc)
  (hm:lastMarks [op,op'] [b,c]=false:=by with_unfolding_all rfl):PE X (.Compare a [op,op'] [b,c] pos) (NC r r' ta tb tc):=by
 intro pins s σ H Q I h;refine Compare_chain (fR (ha pins s σ H _ I h) λv s1 ⟨x,H1,I1,r1,q1⟩=>chain_link (fR (hb pins s1 σ H1 _ I1 q1) λu s2 ⟨y,H2,I2,r2,q2⟩ =>
  fR (ho pins s2 σ H2 x y v u _ I2 r1 r2 q2) λd s3 ⟨z,H3,I3,r3,k,e,q3⟩=>?_)) hm
 subst e;cases r3;refine qaD ?_
 cases k with
 |false=>exact ite_ff ⟨.bl false,H3,I3,Y,q3⟩
 |true=>exact ite_tt (chain_last (fR (hc pins s3 σ H3 _ I3 q3) λw' s4 ⟨z',H4,I4,r4,q4⟩=>ho' pins s4 σ H4 y z' u w' Q I4 r2 r4 q4))
theorem Gp{op op':CmpOp}{r r':R2}(ho:wc X (compareOp op) r)(ho':wc X (compareOp op') r')(ha:PE X a ta)(hb:PE X b tb)(hc:PE X c tc)
  (hm:lastMarks [op,op'] [b,c]=false:=by with_unfolding_all rfl):PT X (.Compare a [op,op'] [b,c] pos) (Sj (NC r r' ta tb tc)):=by
 intro pins s σ H Q I h;refine isTrue_chain (fR (ha pins s σ H _ I h) λv s1 ⟨x,H1,I1,r1,q1⟩=>test_link (fR (hb pins s1 σ H1 _ I1 q1) λu s2 ⟨y,H2,I2,r2,q2⟩ =>
  fR (ho pins s2 σ H2 x y v u _ I2 r1 r2 q2) λd s3 ⟨z,H3,I3,r3,k,e,q3⟩=>?_)) hm
 subst e;cases r3;refine qaD ?_
 cases k with
 |false =>
  obtain⟨k',e',q'⟩:=q3;cases e';exact ite_ff ⟨H3,I3,q'⟩
 |true =>
  refine ite_tt (test_last (fR (hc pins s3 σ H3 _ I3 q3) λw' s4 ⟨z',H4,I4,r4,q4⟩=>fR (ho' pins s4 σ H4 y z' u w' _ I4 r2 r4 q4) λd' s5 ⟨z2,H5,I5,r5,k2,e2,q5⟩=>?_));subst e2;cases r5;exact qaD ⟨H5,I5,q5⟩
theorem yF:(D_:Nat)<2 ^ 63:=by rw[sizeLine_eq];decide
theorem fh:wc X (binaryOp .Add) (λx y H Q=>dP λi j=>x= .str i/\y= .str j/\i.length+j.length<=D_/\Q (.str (i++j)) H):=by
 intro pins s σ H x y v u Q I rx ry h;obtain⟨i,j,rfl,rfl,hz,q⟩:=h;obtain⟨t,rfl⟩:=rx;obtain⟨t',rfl⟩:=ry;exact TK.bX (j_ _) (add_str (λt' tk hup=>⟨.str (i++j),H,I.tok _,⟨_,Y⟩,q⟩) hz)
theorem vals1{x:V}{us:List k_}(r:Vals [x] us):∃u,us=[u]/\RelV x u:=by
 cases r with
 |cons r1 r2=>cases r2;exact⟨_,Y,r1⟩
theorem vals2{x y:V}{us:List k_}(r:Vals [x,y] us):dP λu w'=>us=[u,w']/\RelV x u/\RelV y w':=by
 cases r with
 |cons r1 r2 =>
  cases r2 with
  |cons r3 r4=>cases r4;exact⟨_,_,Y,r1,r3⟩
theorem P8:pM X (.builtin "abs") (λxs H Q=>∃i,xs=[.int i]/\Q (.int (if i<0 then -i else i)) H):=by
 intro pins s σ H xs us Q I r h;obtain⟨i,rfl,q⟩:=h;obtain⟨u,rfl,t,rfl⟩:=vals1 r
 exact TK.bX (j_ _) (call_abs_int λu tk hup=>⟨.int (if i<0 then -i else i),H,I.tok _,⟨_,Y⟩,q⟩)
theorem vB:pM X (.type "int") (λxs H Q=>(∃i,xs=[.int i]/\Q (.int i) H)\/∃k,xs=[.bl k]/\Q (.int (if k then 1 else 0)) H):=by
 intro pins s σ H xs us Q I r h;rcases h with⟨i,rfl,q⟩|⟨k,rfl,q⟩
 ·obtain⟨u,rfl,t,rfl⟩:=vals1 r;exact call_int_int ⟨.int i,H,I,⟨_,Y⟩,q⟩
 ·obtain⟨u,rfl,r1⟩:=vals1 r;cases r1
  exact call_int_bool ⟨.int (if k then 1 else 0),H,I.tok _,⟨_,Y⟩,q⟩
theorem P1:pM X (.builtin "ord") (λxs H Q=>∃x,xs=[.str x]/\x.length=1/\Q (.int (x.cps.getD 0 0:Nat)) H):=by
 intro pins s σ H xs us Q I r h;obtain⟨x,rfl,hz,q⟩:=h;obtain⟨u,rfl,t,rfl⟩:=vals1 r;exact ord_of_one hz ⟨.int _,H,I.tok _,⟨_,Y⟩,q⟩
def Wb(K:PySem.W.Frag)(x:V)(H:Hp)(n:Nat):Prop :=
 match x with
 | .str y=>y.length<=D_/\n=y.length
 | .LA y=>y.size<=D_/\n=y.size
 | .ref p=>(∃xs,bW K H p xs/\n=xs.length)\/∃xs,bZ K H p xs/\n=xs.length
 |_=>False
theorem aQ:pM X (.builtin "len") (λxs H Q=>dP λx n=>xs=[x]/\Wb X.K x H n/\Q (.int n) H):=by
 intro pins s σ H xs us Q I r h;obtain⟨x,n,rfl,e,q⟩:=h;obtain⟨u,rfl,rx⟩:=vals1 r;have hl:=yF;have hs:D_=16777216:=sizeLine_eq
 cases x with
 |str y =>
  obtain⟨t,rfl⟩:=rx;obtain⟨hy,e'⟩:y.length<=D_/\n=y.length:=e;subst e';exact len_str (by omega) ⟨.int _,H,I.tok _,⟨_,Y⟩,q⟩
 |LA y =>
  obtain⟨t,rfl⟩:=rx;obtain⟨hy,e'⟩:y.size<=D_/\n=y.size:=e;subst e';exact PySem.W.len_bytes (by omega) ⟨.int _,H,I.tok _,⟨_,Y⟩,q⟩
 |ref p =>
  cases rx;have e':(∃xs,bW X.K H p xs/\n=xs.length)\/∃xs,bZ X.K H p xs/\n=xs.length:=e;rcases e' with⟨xs,hx,e'⟩|⟨xs,hx,e'⟩
  ·subst e';obtain⟨its,r',pl,hz⟩:=I.list hx;have hlen:=r'.length;exact Calls.call_len_list pl.isList (by simp only[K_];omega) ⟨.int xs.length,H,I.tok _,⟨_,by simp only[K_];rw[hlen]⟩,q⟩
  ·subst e';obtain⟨its,r',pl,hz⟩:=I.tuple hx;have hlen:=r'.length;exact len_tuple pl (by simp only[K_];omega) ⟨.int xs.length,H,I.tok _,⟨_,by simp only[K_];rw[hlen]⟩,q⟩
 |_=>exact(show False from e).elim
end
end
section
structure M8(h:W_)(x dx C:U)(mA:v_->Option k_):Prop where
 obj:h.get? x=some (PySem.W.instObj C dx)
 ns:h.Ns1 dx mA
 ne:dx≠x
theorem Ms{h:W_}{dx:U}{mA:v_->Option k_}(n:h.Ns1 dx mA):∃od,h.get? dx=some od/\∀name,PySem.W.lookIn name od=some (mA name):=by
 obtain⟨o,es,ep,ho,hd,hk,_,hm⟩:=n;refine⟨o,ho,λname=>?_⟩;have e:=hm name;unfold nsFind findBy at e;rw[←Array.find?_toList]at e;unfold PySem.W.lookIn;rw[hd];dsimp only;split
 ·rename_i y q
  rw[q]at e;exact congrArg some e
 ·rename_i q
  rw[q]at e;have a:es.toList.any (·.refKey)=false:=by
   rw[List.any_eq_false];intro y hy;obtain⟨z,t,hkey⟩:=hk y (Array.mem_toList_iff.mp hy);simp[DictEntry.refKey,hkey]
  have a':¬es.toList.any (·.refKey)=true:=by rw[a];exact y_
  rw[if_neg a'];exact congrArg some e
theorem M8.look{h:W_}{x dx C:U}{mA:v_->Option k_}(I:M8 h x dx C mA):∃od,PySem.W.InstAt h x (PySem.W.instObj C dx) C (some od)/\∀name,PySem.W.lookIn name od=some (mA name) :=
 let ⟨od,ho,hl⟩:=Ms I.ns
 ⟨od,⟨I.obj,rfl,rfl,ho⟩,hl⟩
section
variable{prog:r_}{w:I_}{A:qab}{E:k_->n_->Prop}{s:n_}{K:PySem.W.Frag}{x dx C f:U}{mA:v_->Option k_}{name:v_}{v:k_}
theorem get_map{expr:Bool}{Q:k_->n_->Prop}(X:K.In s.heap)(I:M8 s.heap x dx C mA)(hg:PySem.W.plainGet K C name=true)(hh:PySem.W.hasDictIn K C=true)
  (ha:PySem.W.findIn K (.ref C) name=some none) (hv:mA name=some v) (hv':PySem.W.handedIn v=true) (h:Q v { s with toks:=s.toks+1 }) :
  C_ (model prog w) A (getAttr (.ref x) name expr) Q E s:=by
 obtain⟨od,J,hl⟩:=I.look;exact PySem.W.get_value X J (PySem.W.plainGet_of hg).1 (PySem.W.findObj_own hh ha Y (by rw[hl,hv])) hv' h
theorem QZ{ns:List v_}{Q:Unit->n_->Prop}(X:K.In s.heap)(I:M8 s.heap x dx C mA)
  (hs:PySem.W.findIn K (.ref C) "__setattr__" =some (some (.builtin "object.__setattr__"))) (hp:PySem.W.plainOver K C=true) (ht:PySem.W.takerIn K C name=some none) (hh:PySem.W.hasDictIn K C=true)
  (hw:PySem.Within mA ns) (hsz:ns.length<=D_)
  (h:∀h',M8 h' x dx C (λy=>if y=name then some v else mA y)->qbB dx s.heap h'->Q () { s with heap:=h',toks:=s.toks+2 }) :
  C_ (model prog w) A (setAttr (.ref x) name v) Q E s:=by
 obtain⟨od,J,hl⟩:=I.look;refine PySem.W.set_plain X J hs (PySem.W.osa_open (s:={ s with toks:=s.toks+1 }) (r:=none) X J hp ht λb=>?_);obtain⟨cd,hc,hd'⟩:=PySem.W.any_some hh;have hx:s.heap.get? x=some ⟨.ref C,some dx,.plain,#[]⟩:=I.obj;refine f_ (q_ (f_ (f_ (wpAny_loadPart hx (f_ (PySem.W.Looks.here (s:={ s with toks:=s.toks+1 }) (PySem.W.looks_clsIn X hc) ?_))))));rw[hd'];refine q_ (a:=some dx) (f_ (q_ (f_ ?_)));refine wpAny_nsSet1 (s:={ s with toks:=s.toks+1 }) I.ns λh' hn2 hs2=>?_;obtain⟨oD,esD,epD,hoD,hdD,hcD⟩:=hn2.count (PySem.Within.cons name v hw);refine f_ (wpAny_lookBehind hoD (by rw[hdD];exact pastItsLine_dict (p_ hcD (by rw[qaa];omega))) ?_);exact q_ (h _ ⟨(hs2.2 _ (Ne.symm I.ne)).trans I.obj,hn2,I.ne⟩ hs2)
theorem OQ{R:Result->n_->Prop}{vs:List k_}{kw:List (v_×k_)}(X:K.In s.heap)(hm:PySem.W.makesIn K C=true)
  (hi:PySem.W.findIn K (.ref C) "__init__" =some (some (.ref f))) (hf:PySem.W.typeIn K (.ref f)=some (.type "function"))
  (h:codeAny (model prog w) (A.under (.builtin "type.__call__" ⟨.ref C::vs,kw⟩)) (.call (.ref f) ⟨.ref (s.heap.objs.size+1)::vs,kw⟩) (PySem.W.InitBack (s.heap.objs.size+1) R)
   { s with heap:=(s.heap.push PySem.W.emptyDict).push (PySem.W.instObj C s.heap.objs.size) }) :
  codeAny (model prog w) A (.call (.ref C) ⟨vs,kw⟩) R s:=by
 obtain⟨hh,g,d,t,os⟩:=s;exact PySem.W.make_core (PySem.W.makes_of X hm) (PySem.W.looks_findIn X hi) (λself=>PySem.W.bind_fn X self hf) (.inl Y) h
end
noncomputable def aM(f:v_)(v:V):List (v_×V)->List (v_×V)
 |[]=>[(f,v)]
 |(g,x)::r=>if g=f then(g,v)::r else(g,x)::aM f v r
theorem az(f g:v_)(v:V):∀fs:List (v_×V),(aM f v fs).lookup g=if g=f then some v else fs.lookup g
 |[]=>by
  show qaE g [(f,v)]=_;by_cases h:g=f
  ·have hb:(g==f)=true:=beq_iff_eq.mpr h;simp only[qaE,hb,if_pos h]
  ·have hb:(g==f)=false:=beq_eq_false_iff_ne.mpr h;simp only[qaE,hb,if_neg h]
 |(k,x)::r=>by
  have ih:=az f g v r
  rw[show aM f v ((k,x)::r)=(if k=f then(k,v)::r else(k,x)::aM f v r) from rfl]
  by_cases hk:k=f
  ·rw[if_pos hk];by_cases h:g=k
   ·have hb:(g==k)=true:=beq_iff_eq.mpr h;simp only[qaE,hb,if_pos (h.trans hk)]
   ·have hb:(g==k)=false:=beq_eq_false_iff_ne.mpr h;simp only[qaE,hb,if_neg (λe:g=f=>h (e.trans hk.symm))]
  ·rw[if_neg hk];by_cases h:g=k
   ·have hb:(g==k)=true:=beq_iff_eq.mpr h;simp only[qaE,hb,if_neg (λe:g=f=>hk (h.symm.trans e))]
   ·have hb:(g==k)=false:=beq_eq_false_iff_ne.mpr h;simp only[qaE,hb];exact ih
theorem yG(f:v_)(v:V):∀fs:List (v_×V),f∈(aM f v fs).map (·.1)/\∀g,g∈fs.map (·.1)->g∈(aM f v fs).map (·.1)
 |[]=>⟨by simp[aM],λg h=>by simp at h⟩
 |(k,x)::r=>by
  obtain⟨i1,i2⟩:=yG f v r
  rw[show aM f v ((k,x)::r)=(if k=f then(k,v)::r else(k,x)::aM f v r) from rfl]
  by_cases hk:k=f
  ·rw[if_pos hk];subst hk;exact⟨by simp,λg h=>by simpa using h⟩
  ·rw[if_neg hk];refine⟨?_,λg h=>?_⟩
   ·rw[Y_];exact s_ _ i1
   ·rw[Y_]at h ⊢;rcases B_.mp h with e|e
    ·exact B_.mpr (.inl e)
    ·exact s_ _ (i2 g e)
theorem uL(f:v_)(v:V):∀fs:List (v_×V),(aM f v fs).length<=fs.length+1
 |[]=>by simp[aM]
 |(k,x)::r=>by
  have ih:=uL f v r
  rw[show aM f v ((k,x)::r)=(if k=f then(k,v)::r else(k,x)::aM f v r) from rfl]
  by_cases hk:k=f
  ·rw[if_pos hk,qaa,qaa];omega
  ·rw[if_neg hk,qaa,qaa];omega
theorem uq.some_of{v:V}{o:Option k_}(r:uq (some v) o):∃u,o=some u/\RelV v u:=by
 cases o with
 |none=>exact(show False from r).elim
 |some u=>exact⟨u,Y,r⟩
theorem MI{v:V}{u:k_}(r:RelV v u):PySem.W.handedIn u=true:=by
 cases v with
 |jG=>cases (show u=Value.none from r);rfl
 |bl b=>cases (show u=Value.bool b from r);rfl
 |int i=>obtain⟨t,e⟩:=(show ∃t,u=Value.int i t from r);cases e;rfl
 |str x=>obtain⟨t,e⟩:=(show ∃t,u=Value.str x t from r);cases e;rfl
 |LA b=>obtain⟨t,e⟩:=(show ∃t,u=Value.bytes b t from r);cases e;rfl
 |VR b=>obtain⟨t,e⟩:=(show ∃t,u=Value.float b t from r);cases e;rfl
 |ref a=>cases (show u=Value.ref a from r);rfl
 |ty n=>cases (show u=Value.type n from r);rfl
section
variable{P:r_}{w:I_}{H H':Hp}{h h':W_}{a C dx:U}{fs fs':List (v_×V)}
theorem ED(hok:um P w H h)(e:H a=some (.ins C dx fs)):∃mA,M8 h a dx C mA/\(∀f,uq (fs.lookup f) (mA f))/\PySem.Within mA (fs.map (·.1))/\fs.length<=1000/\H dx=some (.own a):=by
 obtain⟨d,z,ne,ob,mA,n,r,q⟩:=(show dF P w H h a (.ins C dx fs) from hok a _ e);exact⟨mA,⟨ob,n,ne⟩,r,q,z,d⟩
end
structure Sf(K:PySem.W.Frag)(C:U):Prop where
 pg:PySem.W.plainGet K C Str.empty=true
 hd:PySem.W.hasDictIn K C=true
 po:PySem.W.plainOver K C=true
 sa:PySem.W.findIn K (.ref C) "__setattr__" =some (some (.builtin "object.__setattr__"))
theorem Sf.get{K:PySem.W.Frag}{C:U}(c:Sf K C)(f:v_):PySem.W.plainGet K C f=true:=c.pg
def c7(K:PySem.W.Frag)(C:U)(f:v_):Prop:=PySem.W.findIn K (.ref C) f=some none
theorem c7.WL{K:PySem.W.Frag}{C:U}{f:v_}(n:c7 K C f):PySem.W.takerIn K C f=some none:=by
 unfold PySem.W.takerIn;rw[show PySem.W.findIn K (.ref C) f=some none from n];rfl
section
variable{X:Cx}{pins:List (U×qa9)}{σ:St}{H:Hp}{s:n_}{a C dx:U}{fs:List (v_×V)}{f:v_}{v:V}{A:qab}{E:k_->n_->Prop}
theorem JD{b:Bool}{Q:k_->n_->Prop}(I:Inv X pins σ H s)(e:H a=some (.ins C dx fs))(c:Sf X.K C)(n:c7 X.K C f)(l:fs.lookup f=some v)
  (h:∀u s',Inv X pins σ H s'->RelV v u->Q u s'):C_ (model X.prog X.w) A (getAttr (.ref a) f b) Q E s:=by
 obtain⟨mA,O,r,_,_,_⟩:=ED I.hok e;obtain⟨u,hu,ru⟩:=uq.some_of (v:=v) (o:=mA f) (by rw[←l];exact r f);exact get_map I.yI O (c.get f) c.hd n hu (MI ru) (h u _ (I.tok _) ru)
theorem IM{y:V}{u:k_}{Q:Unit->n_->Prop}(I:Inv X pins σ H s)(e:H a=some (.ins C dx fs))(c:Sf X.K C)(n:c7 X.K C f)(hl:fs.length<1000)(ry:RelV y u)
  (h:∀s',Inv X pins σ (upd H a (.ins C dx (aM f y fs))) s'->Q () s'):C_ (model X.prog X.w) A (setAttr (.ref a) f u) Q E s:=by
 obtain⟨mA,O,r,wi,_,ho⟩:=ED I.hok e;have hz:(fs.map (·.1)).length<=D_:=by rw[l_,sizeLine_eq];omega
 refine QZ I.yI O c.sa c.po n.WL c.hd wi hz λh' O' sb=>h _ ?_
 have hd:∃o,h'.get? dx=some o:=let ⟨o,_,_,e',_⟩:=O'.ns;⟨o,e'⟩
 refine I.write (x:=a) (e:=dx) (by rw[e];exact True.intro) (.inr ho) (λb q hb z=>(sb.2 b hb).trans z) hd ?_;refine⟨by rw[av O.ne];exact ho,?_,O.ne,O'.obj,_,O'.ns,λg=>?_,λg hg=>?_⟩
 ·have:=uL f y fs;omega
 ·show uq ((aM f y fs).lookup g) (if g=f then some u else mA g)
  rw[az];by_cases q:g=f
  ·rw[if_pos q,if_pos q];exact ry
  ·rw[if_neg q,if_neg q];exact r g
 ·by_cases q:g=f
  ·rw[q];exact(yG f y fs).1
  ·refine(yG f y fs).2 g (wi g λz=>hg ?_)
   show(if g=f then some u else mA g)=none
   rw[if_neg q];exact z
theorem Inv.made(I:Inv X pins σ H s):Inv X pins σ (upd (upd H s.heap.objs.size (.own (s.heap.objs.size+1))) (s.heap.objs.size+1) (.ins C s.heap.objs.size []))
  { s with heap:=(s.heap.push PySem.W.emptyDict).push (PySem.W.instObj C s.heap.objs.size) }:=by
 have e1:(s.heap.push PySem.W.emptyDict).get? s.heap.objs.size=some PySem.W.emptyDict:=t_ s.heap rfl;have e2:((s.heap.push PySem.W.emptyDict).push (PySem.W.instObj C s.heap.objs.size)).get? (s.heap.objs.size+1)=some (PySem.W.instObj C s.heap.objs.size):=by
  have:=t_ (s.heap.push PySem.W.emptyDict) (o:=PySem.W.instObj C s.heap.objs.size) rfl
  rwa [qaT]at this
 have e3:(s.heap.push PySem.W.emptyDict).Ns s.heap.objs.size (λ_=>none):=⟨PySem.W.emptyDict,#[],_,e1,rfl,(λe he=>absurd he (by simp)),λ_=>rfl⟩;have I1:=I.laid (a:=s.heap.objs.size) (o:=.own (s.heap.objs.size+1)) (h':=s.heap.push PySem.W.emptyDict) (t':=s.toks) (λb u q=>m_ _ q) (j_ _) ⟨_,e1⟩;refine I1.laid (a:=s.heap.objs.size+1) (o:=.ins C s.heap.objs.size []) (t':=s.toks) (λb u q=>m_ _ q) (qcz (qaT _ _)) ?_;have ne:s.heap.objs.size≠s.heap.objs.size+1:=R_ (qaO _);refine⟨by rw[av ne,ai],Q_ _,ne,e2,λ_=>none,(Heap.Ns1.of_empty e3).at λo q=>m_ _ q,λ_=>True.intro,λy hy=>absurd Y hy⟩
theorem R6{prog:r_}{w:I_}{env:Env}{e:Expr}{f:v_}{pos:qbO}{s:n_}{Q:k_->n_->Prop}(hb:attributeBase e f env (eval e env)=eval e env)
  (h:C_ (model prog w) A (eval e env) (λo s₁=>C_ (model prog w) A (getAttr o f true) Q E s₁) E s):C_ (model prog w) A (eval (.Attribute e f pos) env) Q E s :=
 Attribute_any_ h (by rw[arm_eval_Attribute,hb])
end
def ab3(K:PySem.W.Frag)(ta:TE)(f:v_):TE:=λσ H Q=>ta σ H λx H1=>BG λa C dx fs v=>x= .ref a/\H1 a=some (.ins C dx fs)/\Sf K C/\c7 K C f/\fs.lookup f=some v/\Q v H1
def acf(K:PySem.W.Frag)(ta tv:TE)(f:v_):TS:=λD σ H=>tv σ H λy H1=>ta σ H1 λx H2=>wY λa C dx fs=>x= .ref a/\H2 a=some (.ins C dx fs)/\Sf K C/\c7 K C f/\fs.length<1000 ∧
 D.nx σ (upd H2 a (.ins C dx (aM f y fs)))
section
variable{X:Cx}{o e value:Expr}{f:v_}{pos pos' tpos:qbO}{ta tv:TE}
theorem eK(he:PE X e ta)(hb:attributeBase e f X.env (eval e X.env)=eval e X.env):PE X (.Attribute e f pos) (ab3 X.K ta f):=by
 intro pins s σ H Q I h;refine R6 hb (fR (he pins s σ H _ I h) λu s1 ⟨x,H1,I1,rx,a,C,dx,fs,v,ex,ea,c,n,l,q⟩=>?_);subst ex;obtain rfl:u=Value.ref a:=rx;exact JD I1 ea c n l λu' s2 I2 ru=>⟨v,H1,I2,ru,q⟩
theorem pQ(ha:PE X o ta)(hv:PE X value tv)(hs:swapsWith value (some (.Attribute o f pos')) pos.line X.env=pure false):PS X (.Assign [.Attribute o f pos'] value pos) (acf X.K ta tv f):=by
 intro pins s σ H D I h;refine plainObj_wpAny_Assign_Attribute (fR (hv pins s σ H _ I h) λu s1 ⟨y,H1,I1,ry,q⟩=>fR (ha pins s1 σ H1 _ I1 q) λov s2 ⟨x,H2,I2,rx,a,C,dx,fs,ex,ea,c,n,l,q2⟩=>?_) hs;subst ex;obtain rfl:ov=Value.ref a:=rx;exact IM I2 ea c n l ry λs3 I3=>⟨σ,_,I3,q2⟩
end
section
variable{X:Cx}{pins:List (U×qa9)}{σ:St}{H:Hp}{s:n_}{A:qab}{E:k_->n_->Prop}{Q:k_->n_->Prop}{c:k_}{b:Bool}
inductive x8(K:PySem.W.Frag)(H:Hp):V->k_->Prop where
 |jG:x8 K H .jG (.type "NoneType")
 |bl (x:Bool):x8 K H (.bl x) (.type "bool")
 |int (i:Int):x8 K H (.int i) (.type "int")
 |str (x:v_):x8 K H (.str x) (.type "str")
 |VR (x:UInt64):x8 K H (.VR x) (.type "float")
 |lst {a:U} {xs:List V} (e:H a=some (.lst xs)):x8 K H (.ref a) (.type "list")
 |yg {a:U} {o:qa9} {xs:List V} (e:H a=some (.yg o (.lst xs))):x8 K H (.ref a) (.type "list")
 |tup {a:U} {xs:List V} (e:H a=some (.tup xs)):x8 K H (.ref a) (.type "tuple")
 |dK {a:U} {kvs:List (Key×V)} (e:H a=some (.dK kvs)):x8 K H (.ref a) (.type "dict")
 |dT {a:U} {kvs:List (List Key×V)} (e:H a=some (.dT kvs)):x8 K H (.ref a) (.type "dict")
 |ins {a C dx:U} {fs:List (v_×V)} (e:H a=some (.ins C dx fs)) (cl:Sf K C) (ha:PySem.W.findIn K (.ref C) "__class__" =some (some (.builtin "object.__class__")))
   (hn:PySem.W.specialIn K (.builtin "object.__class__") "__get__" =some (some (.builtin "getset_descriptor.__get__"))) (htk:PySem.W.takesIn K (.builtin "object.__class__")=some true)
   (hm:PySem.W.mroIn K C (.type "object")=some true):x8 K H (.ref a) (.ref C)
theorem MC{x:V}{u t:k_}(I:Inv X pins σ H s)(rx:RelV x u)(ty:x8 X.K H x t)(e:PySem.W.kitOne X.K t c=some b)(h:∀tk,Q (.bool b) { s with toks:=tk }):
  C_ (model X.prog X.w) A (call (.builtin "isinstance") [u,c]) Q E s:=by
 cases ty with
 |jG=>cases (show u=Value.none from rx);exact PySem.W.kia_one PySem.W.kitx_none I.yI True.intro e (λz=>nomatch z) h
 |bl y=>cases (show u=Value.bool y from rx);exact PySem.W.kia_one PySem.W.kitx_bool I.yI True.intro e (λz=>nomatch z) h
 |int i=>obtain⟨t,q⟩:=(show ∃t,u=Value.int i t from rx);cases q;exact PySem.W.kia_one PySem.W.kitx_int I.yI True.intro e (λz=>nomatch z) h
 |str y=>obtain⟨t,q⟩:=(show ∃t,u=Value.str y t from rx);cases q;exact PySem.W.kia_one PySem.W.kitx_str I.yI True.intro e (λz=>nomatch z) h
 |VR y=>obtain⟨t,q⟩:=(show ∃t,u=Value.float y t from rx);cases q;exact PySem.W.kia_one PySem.W.kitx_float I.yI True.intro e (λz=>nomatch z) h
 | @lst a xs ea =>
  cases (show u=Value.ref a from rx);obtain⟨_,_,n,_,h1⟩:=(show dF X.prog X.w H s.heap a (.lst xs) from I.hok a _ ea)
  exact PySem.W.kia_one PySem.W.kitx_list I.yI ⟨_,h1,Y⟩ e (λz=>nomatch z) h
 | @yg a ob xs ea =>
  cases (show u=Value.ref a from rx);obtain⟨_,_,_,n,_,h1⟩:=(show dF X.prog X.w H s.heap a (.yg ob (.lst xs)) from I.hok a _ ea)
  exact PySem.W.kia_one PySem.W.kitx_list I.yI ⟨_,h1,Y⟩ e (λz=>nomatch z) h
 | @tup a xs ea =>
  cases (show u=Value.ref a from rx);obtain⟨_,_,_,p⟩:=(show dF X.prog X.w H s.heap a (.tup xs) from I.hok a _ ea);obtain⟨o,h1,h2,_⟩:=p
  exact PySem.W.kia_one PySem.W.kitx_tuple I.yI ⟨o,h1,h2⟩ e (λz=>nomatch z) h
 | @dK a kvs ea =>
  cases (show u=Value.ref a from rx);obtain⟨_,_,vs,_,p⟩:=(show dF X.prog X.w H s.heap a (.dK kvs) from I.hok a _ ea);obtain⟨o,es,ep,h1,h2,_⟩:=p
  exact PySem.W.kia_one PySem.W.kitx_dict I.yI ⟨o,h1,h2.1⟩ e (λz=>nomatch z) h
 | @dT a kvs ea =>
  cases (show u=Value.ref a from rx);obtain⟨_,_,xs,_,o,es,ep,h1,h2,_⟩:=(show dF X.prog X.w H s.heap a (.dT kvs) from I.hok a _ ea)
  exact PySem.W.kia_one PySem.W.kitx_dict I.yI ⟨o,h1,h2.1⟩ e (λz=>nomatch z) h
 | @ins a C dx fs ea cl ha hn htk hm =>
  cases (show u=Value.ref a from rx);obtain⟨mA,O,_⟩:=ED I.hok ea;obtain⟨od,J,_⟩:=O.look
  exact PySem.W.kia_one (PySem.W.kitx_own (cl.get _) cl.hd ha hn htk hm) I.yI J e (λz=>nomatch z) h
end
end
section
structure nP(k:Nat)(A:qab):Prop where
 hd:A.handled=none
 dp:A.depth+3*k+5<recursionLimit
 un:A.units+16*k+200<cLine
theorem nP.mono{j k:Nat}{A:qab}(r:nP k A)(h:j<=k):nP j A:=⟨r.hd,by have:=r.dp;omega,by have:=r.un;omega⟩
theorem nP.deeper{k:Nat}{A:qab}(r:nP (k+1) A)(env:Env):nP k (A.deeper env) :=
 ⟨r.hd,by have:=r.dp;show A.depth+1+3*k+5<_;omega,by have:=r.un;show A.units+3+16*k+200<_;omega⟩
theorem Ju{A:qab}{C:U}{us:List k_}{kw:List (v_×k_)}:(A.under (.builtin "type.__call__" ⟨.ref C::us,kw⟩)).depth=A.depth+1:=by
 first|rfl|simp[Around.under,Code.weight,Code.isCreation,Code.isGuard,Code.isCaller,Code.frames,Code.isFrame,guardIds]
theorem Jt{A:qab}{C:U}{us:List k_}{kw:List (v_×k_)}:(A.under (.builtin "type.__call__" ⟨.ref C::us,kw⟩)).units=A.units+1:=by
 first|rfl|simp[Around.under,Code.cUnits,Code.frames,Code.isFrame]
theorem nP.make{k:Nat}{A:qab}(r:nP (k+1) A)(C:U)(us:List k_)(kw:List (v_×k_)):nP k (A.under (.builtin "type.__call__" ⟨.ref C::us,kw⟩)) :=
 ⟨r.hd,by have:=r.dp;rw[Ju];omega,by have:=r.un;rw[Jt];omega⟩
theorem nP.depth{k:Nat}{A:qab}(r:nP k A):A.depth<recursionLimit:=by have:=r.dp;omega
theorem nP.units{k:Nat}{A:qab}(r:nP k A):A.units+64<cLine:=by have:=r.un;omega
def abY:TA:=λ_ H Q=>Q [] H
def W6(ta:TE)(tr:TA):TA:=λσ H Q=>ta σ H λx H1=>tr σ H1 λxs H2=>Q (x::xs) H2
section
variable{X:Cx}{e:Expr}{es:List Expr}{te:TE}{t:TA}{pos:qbO}
theorem af:PA X [] abY:=λ_ _ _ _ H Q I h=>Calls.spliced_nil ⟨[],H,I,.nil,h⟩
theorem aa(ha:PE X e te)(hr:PA X es t)(hs:qaf (e::es) X.env=(false,eval e X.env)::qaf es X.env:=by rfl):PA X (e::es) (W6 te t):=by
 intro pos pins s σ H Q I h;rw[hs];show C_ _ _ (spliced ((false,eval e X.env)::backTo pos (qaf es X.env))) _ _ s;refine qbS (fR (ha pins s σ H _ I h) λu s1 ⟨x,H1,I1,r1,q1⟩=>?_);exact fR (hr pos pins s1 σ H1 _ I1 q1) λus s2 ⟨xs,H2,I2,r2,q2⟩=>⟨x::xs,H2,I2,.cons r1 r2,q2⟩
def abT(t:TA):TE:=λσ H Q=>t σ H λxs H1=>xs.length<=D_/\∀p,H1 p=none->Q (.ref p) (upd H1 p (.tup xs))
def ab0(t:TA):TE:=λσ H Q=>t σ H λxs H1=>xs.length<=D_/\∀p,H1 p=none->Q (.ref p) (upd H1 p (.lst xs))
theorem aW{x1}(h:PA X es t):PE X (.Tuple es x1 pos) (abT t):=by
 intro pins s σ H Q I hq;refine wpAny_Tuple_spliced (fR (h pos pins s σ H _ I hq) λus s1 ⟨xs,H1,I1,r,z,q⟩=>⟨by rw[←r.length];exact z,?_⟩);have hf:H1 s1.heap.objs.size=none:=I1.hok.fresh (j_ _);refine⟨.ref s1.heap.objs.size,upd H1 s1.heap.objs.size (.tup xs),I1.laid (t':=s1.toks) (λb u e=>m_ _ e) (j_ _) ?_,Y,q _ hf⟩;exact⟨z,us,r,⟨_,t_ _ Y,Y,_,Y⟩⟩
theorem ie(h:PA X es t):PE X (.List es pos) (ab0 t):=by
 intro pins s σ H Q I hq;refine wpAny_List_spliced (fR (h pos pins s σ H _ I hq) λus s1 ⟨xs,H1,I1,r,z,q⟩=>⟨by rw[←r.length];exact z,?_⟩);have hf:H1 s1.heap.objs.size=none:=I1.hok.fresh (j_ _);refine⟨.ref s1.heap.objs.size,upd H1 s1.heap.objs.size (.lst xs),I1.laid (t':=s1.toks) (λb u e=>m_ _ e) (j_ _) ?_,Y,q _ hf⟩;exact⟨z,us,0,r,t_ _ Y⟩
end
noncomputable abbrev Sp:=List V->Hp->VK->XK->Prop
noncomputable abbrev Qv:=List Env->Hp->n_->XK->k_->n_->Prop
structure Km(P:r_)(w:I_)(K:PySem.W.Frag)(mg:v_->Option k_)(base:W_)(A:qab)(outer:List Env)(s:n_)(H:Hp):Prop where
 frames:A.frames=some outer
 mod:Mod K mg base
 bs:∀b o,base.get? b=some o->s.heap.get? b=some o/\H b=none
 R0:base.objs.size<=s.heap.objs.size
 zL:s.heap.FunFrames base outer
 VQ:∀b∈frs outer,H b=none
 hok:um P w H s.heap
 bare:AllBare s.gens
 tk:JX mg s.toks
def CE(outer:List Env)(P:r_)(w:I_)(H:Hp)(s:n_)(Q:VK)(u:k_)(s':n_):Prop :=
 dP λv H'=>s'.os=s.os/\AllBare s'.gens/\Un (frs outer) [] H H' s.heap s'.heap/\um P w H' s'.heap/\RelV v u/\s.toks<=s'.toks/\Q v H'
def CR(CX:Qv)(outer:List Env)(P:r_)(w:I_)(H:Hp)(s:n_)(Q:VK)(E:XK)(r:Result)(s':n_):Prop :=
 match r with
 | .ok (.ret u)=>CE outer P w H s Q u s'
 | .ok _=>False
 | .error e=>CX outer H s E e s'
structure aH(P:r_)(w:I_)(K:PySem.W.Frag)(mg:v_->Option k_)(base:W_)(CX:Qv)(k:Nat)(f:U)(fd:F_)(ps:List v_)(sp:Sp):Prop where
 len:∀vs H Q E,sp vs H Q E->vs.length=ps.length
 run:∀(A:qab) (outer:List Env) (s:n_) (H:Hp) (args:Args) (us:List k_) (vs:List V) (Q:VK) (E:XK),nP k A->Km P w K mg base A outer s H->BindsTo s fd args (ps.zip us)->Vals vs us->sp vs H Q E →
  codeAny (model P w) A (.call (.ref f) args) (CR CX outer P w H s Q E) s
theorem Km.make{P:r_}{w:I_}{K:PySem.W.Frag}{mg:v_->Option k_}{base:W_}{A:qab}{outer:List Env}{s:n_}{H:Hp}(e:Km P w K mg base A outer s H)(C:U)(us:List k_)(kw:List (v_×k_)):
  Km P w K mg base (A.under (.builtin "type.__call__" ⟨.ref C::us,kw⟩)) outer s H:=⟨by first|exact e.frames|(simpa[Around.under,Code.envs,Code.isFrame,pushEnvs]using e.frames),e.mod,e.bs,e.R0,e.zL,e.VQ,e.hok,e.bare,e.tk⟩
section
variable{X:Cx}{pins:List (U×qa9)}{σ:St}{H:Hp}{s s':n_}
theorem Inv.Y9(I:Inv X pins σ H s):Km X.prog X.w X.K X.mg X.base X.A X.stack s H :=
 ⟨I.ok.frames,I.ok.mod,I.bs,p_ I.ok.R0 I.sz,I.stack,I.Kw,I.hok,I.bare,I.tk⟩
theorem Inv.after{Q:VK}{u:k_}(I:Inv X pins σ H s)(h:CE X.stack X.prog X.w H s Q u s'):EP X pins σ Q u s':=by
 obtain⟨v,H',os,bare,un,hok,r,tt,q⟩:=h;obtain⟨hh,g,d,t,os'⟩:=s';obtain rfl:os'=s.os:=os;exact⟨v,H',I.call (h':=hh) (g':=g) (d':=d) (t':=t) (ch:=[]) un hok bare (λb z=>absurd z (by simp)) (p_ I.up tt),r,q⟩
end
def W7(sp:Sp)(Ig:List V)(E:XK)(t:TA):TE:=λσ H Q=>t σ H λvs H1=>sp (vs++Ig) H1 Q E
def WX(C:U)(sp:Sp)(Ig:List V)(E:XK)(t:TA):TE:=λσ H Q=>t σ H λvs H1=>∀x dx,H1 x=none->H1 dx=none->dx≠x →
 sp (.ref x::(vs++Ig)) (upd (upd H1 dx (.own x)) x (.ins C dx [])) (λv H2=>v= .jG/\Q (.ref x) H2) E
def Binds(K:PySem.W.Frag)(fd:F_)(ps:List v_)(ds:List k_):Prop :=
 ∀(s:n_) (us:List k_),K.In s.heap->(us++ds).length=ps.length->BindsTo s fd ⟨us,[]⟩ (ps.zip (us++ds))
theorem Binds.all{K:PySem.W.Frag}{fd:F_}{ps:List v_}(h:∀us:List k_,us.length=ps.length->bindArgs fd ⟨us,[]⟩=pure (ps.zip us)):Binds K fd ps []:=λs us _ hl=>by
 rw[qaB]at hl ⊢;exact .of_eq (h us hl)
def Passes(CX:Qv)(X:Cx)(E:XK):Prop:=∀(pins:List (U×qa9)) (σ:St) (H:Hp) (s:n_) (e:k_) (s':n_),Inv X pins σ H s->CX X.stack H s E e s'->X.xe e s'
section
variable{X:Cx}{CX:Qv}{k:Nat}{f C:U}{fd:F_}{ps:List v_}{sp:Sp}{Ig:List V}{ds:List k_}{E:XK}{x m:v_}{p pos apos:qbO}{e o:Expr}{es:List Expr}{ta:TE}{t:TA}
theorem UO{pins:List (U×qa9)}{σ:St}{H:Hp}{s:n_}{Q:VK}{us:List k_}{vs:List V}(F:aH X.prog X.w X.K X.mg X.base CX k f fd ps sp)(hr:nP k X.A)(hb:Binds X.K fd ps ds)(hd:Vals Ig ds)(hx:Passes CX X E)
  (I:Inv X pins σ H s) (r:Vals vs us) (h:sp (vs++Ig) H Q E):C_ (model X.prog X.w) X.A (call (.ref f) us) (EP X pins σ Q) X.xe s:=by
 have r2:Vals (vs++Ig) (us++ds):=r.append hd;have hl:(us++ds).length=ps.length:=by rw[←r2.length];exact F.len _ _ _ _ h
 refine wpAny_call (qcA (F.run X.A X.stack s H ⟨us,[]⟩ (us++ds) (vs++Ig) Q E hr I.Y9 (hb s us I.yI hl) r2 h) λr s' hq=>?_)
 cases r with
 |error e=>exact hx pins σ H s e s' I hq
 |ok fl =>
  cases fl with
  |ret u=>exact I.after hq
  |next=>exact qbm hq
  |brk=>exact qbm hq
  |cont=>exact qbm hq
theorem ay(F:aH X.prog X.w X.K X.mg X.base CX k f fd ps sp)(hr:nP k X.A)(hg:Gl X x)(hm:X.mg x=some (.ref f))(hk:PySem.W.keepIn X.K (.ref f)=true)(hb:Binds X.K fd ps ds)(hd:Vals Ig ds)(hx:Passes CX X E)
  (ha:PA X (e::es) t) (hdb:(x==("__debug__" :v_))=false:=by decide) (he:qaf (e::es) X.env=(false,eval e X.env)::qaf es X.env:=by rfl) (hpl:(backTo pos (qaf es X.env)).any (·.1)=false:=by rfl) :
  PE X (.Call (.Name x p) (e::es) [] pos) (W7 sp Ig E t):=by
 intro pins s σ H Q I h;refine qbs (Ac I hg hm ?_ hdb);refine PySem.W.callWith_K (h₀:=X.base) I.ok.mod.Z7 hk (fR (ha pos pins s σ H _ I h) λus s1 ⟨vs,H1,I1,r,q⟩=>⟨I1.yI,?_⟩) he hpl;exact UO F hr hb hd hx I1 r q
structure Mk(K:PySem.W.Frag)(C f:U):Prop where
 makes:PySem.W.makesIn K C=true
 init:PySem.W.findIn K (.ref C) "__init__" =some (some (.ref f))
 fn:PySem.W.isFn K (.ref f)=true
 kp:PySem.W.keepIn K (.ref C)=true
theorem N7{pins:List (U×qa9)}{σ:St}{H:Hp}{s:n_}{Q:VK}{us:List k_}{vs:List V}(M:Mk X.K C f)(F:aH X.prog X.w X.K X.mg X.base CX k f fd ps sp)(hr:nP (k+1) X.A)(hb:Binds X.K fd ps ds)(hd:Vals Ig ds)
  (hx:Passes CX X E) (I:Inv X pins σ H s) (r:Vals vs us)
  (h:∀x dx,H x=none->H dx=none->dx≠x->sp (.ref x::(vs++Ig)) (upd (upd H dx (.own x)) x (.ins C dx [])) (λv H2=>v= .jG/\Q (.ref x) H2) E) :
  C_ (model X.prog X.w) X.A (call (.ref C) us) (EP X pins σ Q) X.xe s:=by
 have hq:=h (s.heap.objs.size+1) s.heap.objs.size (I.hok.fresh (qay _)) (I.hok.fresh (j_ _)) (R_ (qaO _));have I2:=Inv.made (C:=C) I;have r2:Vals (V.ref (s.heap.objs.size+1)::(vs++Ig)) (Value.ref (s.heap.objs.size+1)::(us++ds)):=.cons rfl (r.append hd);have hl:(Value.ref (s.heap.objs.size+1)::us++ds).length=ps.length:=by
  have e:=r2.length;rw[F.len _ _ _ _ hq]at e;exact e.symm
 refine wpAny_call (OQ (f:=f) I.yI M.makes M.init (beq_iff_eq.mp M.fn) (qcA (F.run _ X.stack _ _ ⟨Value.ref (s.heap.objs.size+1)::us,[]⟩ (Value.ref (s.heap.objs.size+1)::(us++ds)) _ _ E (hr.make C us [])
  (I2.Y9.make C us []) (hb _ (Value.ref (s.heap.objs.size+1)::us) I2.yI hl) r2 hq) λr s' hq'=>?_))
 cases r with
 |error e=>exact hx pins σ _ _ e s' I2 hq'
 |ok fl =>
  cases fl with
  |ret u =>
   obtain⟨v,H',I3,rv,ev,q3⟩:=I2.after hq';subst ev;exact⟨rv,⟨V.ref (s.heap.objs.size+1),H',I3,Y,q3⟩⟩
  |next=>exact qbm hq'
  |brk=>exact qbm hq'
  |cont=>exact qbm hq'
theorem Eg(M:Mk X.K C f)(F:aH X.prog X.w X.K X.mg X.base CX k f fd ps sp)(hr:nP (k+1) X.A)(hg:Gl X x)(hm:X.mg x=some (.ref C))(hb:Binds X.K fd ps ds)(hd:Vals Ig ds)(hx:Passes CX X E)
  (ha:PA X (e::es) t) (hdb:(x==("__debug__" :v_))=false:=by decide) (he:qaf (e::es) X.env=(false,eval e X.env)::qaf es X.env:=by rfl) (hpl:(backTo pos (qaf es X.env)).any (·.1)=false:=by rfl) :
  PE X (.Call (.Name x p) (e::es) [] pos) (WX C sp Ig E t):=by
 intro pins s σ H Q I h;refine qbs (Ac I hg hm ?_ hdb);refine PySem.W.callWith_K (h₀:=X.base) I.ok.mod.Z7 M.kp (fR (ha pos pins s σ H _ I h) λus s1 ⟨vs,H1,I1,r,q⟩=>⟨I1.yI,?_⟩) he hpl;exact N7 M F hr hb hd hx I1 r q
end
section
variable{X:Cx}{CX:Qv}{k:Nat}{f C:U}{fd:F_}{ps ks:List v_}{sp:Sp}{E:XK}{x m:v_}{p pos apos kpos:qbO}{e o:Expr}{es:List Expr}{kws:List Keyword}{te ta:TE}{t tk:TA}{nm:Option v_}
variable{g:List k_->List k_->List k_}{gV:List V->List V->List V}
end
structure aE(N P:List v_)(sc:qbn):Prop where
 kind:sc.kind= .function
 co:sc.isCoroutine=false
 gen:sc.isGenerator=false
 nd:N.Nodup
 pre:N.take P.length=P
 par:∀x∈P,sc.names.lookup x=some .local\/sc.names.lookup x=some .cell
 UX:∀y∈sc.names,y.2≠ .free
theorem DF{kindOf:v_->Option qbC}{x:v_}:∀{binds:List (v_×k_)} {m:v_->Option k_},(∀v,(x,v)∉binds)->bindL kindOf binds m x=m x
 |[],_,_=>rfl
 |(n,v)::r,m,h=>by
  unfold bindL;rw[DF λw hw=>h w (s_ _ hw)];split
  ·have:x≠n:=by rintro rfl;exact h v z_
   simp[this]
  ·rfl
theorem DH{kindOf:v_->Option qbC}{x:v_}:∀{binds:List (v_×k_)} {m:v_->Option k_},(∀v,(x,v)∉binds)->bindC kindOf binds m x=m x
 |[],_,_=>rfl
 |(n,v)::r,m,h=>by
  unfold bindC;rw[DH λw hw=>h w (s_ _ hw)];split
  ·rfl
  ·have:x≠n:=by rintro rfl;exact h v z_
   simp[this]
theorem DG{kindOf:v_->Option qbC}{x:v_}{v:k_}:∀{P:List v_} {vs:List k_} {i:Nat} {m:v_->Option k_},P.Nodup->P[i]? =some x->vs[i]? =some v->kindOf x=some .local →
  bindL kindOf (P.zip vs) m x=some v
 |[],_,_,_,_,h,_,_=>by simp at h
 |_::_,[],_,_,_,_,h,_=>by simp at h
 |p::P,w::vs,0,m,nd,h1,h2,hk=>by
  simp at h1 h2;subst h1;subst h2;show bindL kindOf ((p,w)::P.zip vs) m p=_;unfold bindL;rw[DF λv hv=>(qbX.mp nd).1 (List.of_mem_zip hv).1,if_pos hk];simp
 |p::P,w::vs,i+1,m,nd,h1,h2,hk=>by
  show bindL kindOf ((p,w)::P.zip vs) m x=_;unfold bindL;exact DG (i:=i) (qbX.mp nd).2 (by simpa using h1) (by simpa using h2) hk
theorem DI{kindOf:v_->Option qbC}{x:v_}{v:k_}:∀{P:List v_} {vs:List k_} {i:Nat} {m:v_->Option k_},P.Nodup->P[i]? =some x->vs[i]? =some v->kindOf x≠some .local →
  bindC kindOf (P.zip vs) m x=some v
 |[],_,_,_,_,h,_,_=>by simp at h
 |_::_,[],_,_,_,_,h,_=>by simp at h
 |p::P,w::vs,0,m,nd,h1,h2,hk=>by
  simp at h1 h2;subst h1;subst h2;show bindC kindOf ((p,w)::P.zip vs) m p=_;unfold bindC;rw[DH λv hv=>(qbX.mp nd).1 (List.of_mem_zip hv).1,if_neg hk];simp
 |p::P,w::vs,i+1,m,nd,h1,h2,hk=>by
  show bindC kindOf ((p,w)::P.zip vs) m x=_;unfold bindC;exact DI (i:=i) (qbX.mp nd).2 (by simpa using h1) (by simpa using h2) hk
noncomputable def start(N:List v_)(vs:List V):St:=vs.map some++qae (N.length-vs.length) none
noncomputable def Hl(CX:Qv)(P:r_)(w:I_)(K:PySem.W.Frag)(mg:v_->Option k_)(base:W_)(N:List v_)(qual:v_)(scope:qbn)(f:U)(cd:k_)(A:qab)(outer:List Env)(s:n_)(H:Hp)(E:XK):Cx where
 prog:=P
 w:=w
 K:=K
 mg:=mg
 base:=base
 A:=A.deeper (envOfC qual scope s.heap.objs.size f cd)
 N:=N
 s₀:=s
 H₀:=H
 env:=envOfC qual scope s.heap.objs.size f cd
 outer:=outer
 stack:=envOfC qual scope s.heap.objs.size f cd::outer
 ex:=[]
 calm:=true
 fn:=λ_=>true
 pn:=[]
 xe:=λe s'=>C_ (model P w) (A.deeper (envOfC qual scope s.heap.objs.size f cd)) (leaving (envOfC qual scope s.heap.objs.size f cd) e) (λ_ s''=>CX outer H s E e s'') (λe' s''=>CX outer H s E e' s'') s'
theorem Hu{sc:qbn}{n:Nat}{x:v_}(h:sc.names.lookup x=some .cell):∃c,(cellsFrom n sc.names []).lookup x=some c:=by
 have q:=PySem.W.cellsFrom_some sc.names n [] (.inl h);exact qbD.mp q
theorem ME{CX:Qv}{P:r_}{w:I_}{K:PySem.W.Frag}{mg:v_->Option k_}{base:W_}{N ps:List v_}{qual:v_}{scope:qbn}{f:U}{cd:k_}{A:qab}{outer:List Env}{s s1:n_}{H:Hp}{E:XK}{us:List k_}{vs:List V}
  (S:aE N ps scope) (hd:A.handled=none) (e0:Km P w K mg base A outer s H) (hl:vs.length=ps.length) (r:Vals vs us)
  (x:InCallC s s.heap.objs.size (bindL (envOfC qual scope s.heap.objs.size f cd).kindOf (ps.zip us) λ_=>none) (cellsFrom (s.heap.objs.size+1) scope.names []) (bindC (envOfC qual scope s.heap.objs.size f cd).kindOf (ps.zip us) λ_=>none) s1) (hup:s.toks<=s1.toks) :
  Inv (Hl CX P w K mg base N qual scope f cd A outer s H E) [] (start N vs) H s1:=by
 have hpl:ps.length<=N.length:=by have:=congrArg List.length S.pre;rw[qaC]at this;omega
 obtain⟨h1,tk,rfl,hk⟩:=x.done;have htk:s.toks<=tk:=hup;have noA:∀b:U,b∉(Hl CX P w K mg base N qual scope f cd A outer s H E).ex:=λb z=>absurd (show b∈([]:List U) from z) (by simp);refine⟨⟨e0.mod,S.kind,Y,Y,j_ _,λy z c h1 h2=>?_,λy hy=>?_,λy c _ h=>?_,λ_=>hd,Around.frames_deeper e0.frames,.inr ⟨Y,Y⟩,λb z=>absurd z (noA b),e0.bs,e0.R0,λb _ _=>noA b,λb z=>absurd z (noA b),e0.zL,e0.VQ,e0.tk⟩,
  rfl,e0.bare,Un.kept hk,⟨_,x.toInCall.ns,λi y v h1 h2 h3=>?_⟩,λy c h=>⟨_,x.cell y c h⟩,e0.hok.fresh (j_ _),λy c h=>?_,λp hp=>absurd (show p∈([]:List (U×qa9)) from hp) (by simp),e0.hok.kept hk,?_,htk⟩
 ·exact name_of_addr x.apart (PySem.mem_of_lookup h1) (PySem.mem_of_lookup h2)
 ·have hy:scope.names.lookup y=some .cell\/scope.names.lookup y=some .free:=hy;rcases hy with hy|hy
  ·exact Hu hy
  ·exact absurd Y (S.UX _ (PySem.mem_of_lookup hy))
 ·exact qaJ (x.above y c (PySem.mem_of_lookup h))
 ·have hi:i<vs.length:=by
   unfold start at h2;by_cases hi:i<vs.length
   ·exact hi
   ·rw[qaG (by simpa using hi)]at h2;rw[qbH]at h2;split at h2<;>cases h2
  have ha:vs[i]? =some v:=by
   unfold start at h2;rw[qaX (by simpa using hi),O_]at h2
   cases e:vs[i]? with
   |none=>rw[e]at h2;cases h2
   |some a=>rw[e]at h2;cases h2;rfl
  obtain⟨u,hu,rv⟩:=r.get ha;have hp:ps[i]? =some y:=by
   rw[←S.pre,List.getElem?_take_of_lt (by omega)];exact h1
  have ndP:ps.Nodup:=by rw[←S.pre];exact S.nd.sublist (List.take_sublist _ _)
  refine⟨u,rv,?_⟩;rcases S.par y (A_ hp)with k|k
  ·exact .inl ⟨k,DG ndP hp hu k⟩
  ·obtain⟨c,e⟩:=Hu (n:=s.heap.objs.size+1) k;refine .inr ⟨.inl k,c,e,?_⟩;have q:=x.cell y c e;rw[DI ndP hp hu (by show scope.names.lookup y≠_;rw[k];decide)]at q;exact q
 ·exact e0.hok.fresh (qaJ (x.above y c (PySem.mem_of_lookup h)))
 ·unfold start;show _=N.length;rw[G_,l_,qaZ];omega
theorem Td{CX:Qv}{P:r_}{w:I_}{K:PySem.W.Frag}{mg:v_->Option k_}{base:W_}{k:Nat}{f:U}{name qual:v_}{params:qcb}{body:List qam}{scope:qbn}{dV kV doc pm cdv ct oc:k_}{an od:Option U}
  {osl:Array (Option k_)} {N ps:List v_} {sp:Sp} (lk:K.lookup f=some ⟨oc,od,.func (PySem.W.fnOf name qual params body scope dV kV doc pm an cdv ct),osl⟩) (hcd:PySem.W.codeIn K cdv qual=true) (S:aE N ps scope)
  (len:∀vs H Q E,sp vs H Q E->vs.length=ps.length)
  (hbody:∀(A:qab) (outer:List Env) (s:n_) (H:Hp) (vs:List V) (Q:VK) (E:XK),nP k (A.deeper (envOfC qual scope s.heap.objs.size f cdv))->sp vs H Q E →
   ∃t,Fv (Hl CX P w K mg base N qual scope f cdv A outer s H E) body t/\t { nx:=λ_ H'=>Q .jG H',rt:=Q } (start N vs) H) :
  aH P w K mg base CX (k+1) f (PySem.W.fnOf name qual params body scope dV kV doc pm an cdv ct) ps sp:=by
 refine⟨len,λA outer s H args us vs Q E hr e0 hb r Nk=>?_⟩;have hl:=len _ _ _ _ Nk;have KX:K.In s.heap:=e0.mod.Z7.keeps λb o e=>(e0.bs b o e).1;have lim:s.heap.NoLimit:=e0.mod.nolimit.keeps λb o e=>(e0.bs b o e).1;have hkind:∀y∈ps.zip us,scope.names.lookup y.1=some .local\/(scope.names.lookup y.1=some .cell/\((cellsFrom (s.heap.objs.size+1) scope.names []).lookup y.1).isSome=true):=λ⟨n,v⟩ hy=>by
  rcases S.par n (List.of_mem_zip hy).1 with q|q
  ·exact .inl q
  ·exact .inr ⟨q,PySem.W.cellsFrom_some _ _ _ (.inl q)⟩
 refine TK.JO (j_ _) ?_;refine codeAny_call_function hr.depth (KX _ _ lk) Y S.co S.gen Y (PySem.W.codeRec_of KX hcd) (hb _ _ _ _ ?_);refine TK.bX (j_ _) (wpAny_newFunctionEnv_cells S.kind hkind λenv he s1 x hup=>?_);subst he;refine⟨lim.keeps x.toInCall.keep,codeAny_func ?_⟩;obtain⟨t,ht,hq⟩:=hbody A outer s H vs Q E (hr.deeper _) Nk;have I:Inv (Hl CX P w K mg base N qual scope f cdv A outer s H E) [] (start N vs) H s1:=ME S hr.hd e0 hl r x hup;refine qaK (ht [] s1 (start N vs) H _ I hq) (λfl s' hs ac8=>?_) λe s' hs=>qaK hs (λ_ _ z _=>z) λ_ _ z _=>z;have fin:∀{σ':St} {H':Hp} {v:V} {u:k_},Inv (Hl CX P w K mg base N qual scope f cdv A outer s H E) [] σ' H' s'->RelV v u->Q v H'->CE outer P w H s Q u s' :=
  λ{σ' H' v u} J rv q=>⟨v,H',J.os,J.bare,J.base,J.hok,rv,ac8,q⟩
 cases fl with
 |ret u =>
  obtain⟨v,σ',H',J,rv,q⟩:=hs;exact fin J rv q
 |next =>
  obtain⟨σ',H',J,q⟩:=hs;exact fin (v:=V.jG) (u:=Value.none) J Y q
 |brk =>
  obtain⟨_,_,_,q⟩:=hs;exact qbm q
 |cont =>
  obtain⟨_,_,_,q⟩:=hs;exact qbm q
end
section
section
variable{X:Cx}{x:v_}{p pos:qbO}{e:Expr}{es:List Expr}{t:TA}{id T:String}{r:List V->Hp->VK->Prop}
def tCB(r:List V->Hp->VK->Prop)(t:TA):TE:=λσ H Q=>t σ H λvs H1=>r vs H1 Q
theorem aC (hc:pM X (.builtin id) r)(hg:Gl X x)(hm:X.mg x=none)(hv:bootBuiltins x=some (.builtin id))(ha:PA X (e::es) t)(hn:x≠ "__name__" :=by decide)(hdb:(x==("__debug__" :v_))=false:=by decide)
  (he:qaf (e::es) X.env=(false,eval e X.env)::qaf es X.env:=by rfl) (hpl:(backTo pos (qaf es X.env)).any (·.1)=false:=by rfl):PE X (.Call (.Name x p) (e::es) [] pos) (tCB r t):=by
 intro pins s σ H Q I h;refine qbs (rQ I hg hm hv ?_ hn hdb);exact PyProof.Rows.callWith_builtin1 (fR (ha pos pins s σ H _ I h) λus s1 ⟨vs,H1,I1,r1,q1⟩=>hc pins s1 σ H1 vs us Q I1 r1 q1) he hpl
theorem jj (hc:pM X (.type T) r)(hg:Gl X x)(hm:X.mg x=none)(hv:bootBuiltins x=some (.type T))(ha:PA X (e::es) t)(hn:x≠ "__name__" :=by decide)(hdb:(x==("__debug__" :v_))=false:=by decide)
  (he:qaf (e::es) X.env=(false,eval e X.env)::qaf es X.env:=by rfl) (hpl:(backTo pos (qaf es X.env)).any (·.1)=false:=by rfl):PE X (.Call (.Name x p) (e::es) [] pos) (tCB r t):=by
 intro pins s σ H Q I h;refine qbs (rQ I hg hm hv ?_ hn hdb);exact qaQ (fR (ha pos pins s σ H _ I h) λus s1 ⟨vs,H1,I1,r1,q1⟩=>hc pins s1 σ H1 vs us Q I1 r1 q1) he hpl
end
end
end L2
namespace HT
open PySem PyProof.Rows
theorem Oa(A:qab)(s:n_)(a:Int)(t:qcN)(c:Int)(u:qcN)(prog:r_)(w:I_)(E:k_->n_->Prop)(Q:k_->n_->Prop)(h:Q (.bool (decide (a<c))) s):
  C_ (model prog w) A (richCompare .Lt (.int a t) (.int c u)) Q E s :=
 (PyProof.Rows.lt_int h:C_ (model prog w) A (compareOp .Lt (.int a t) (.int c u)) Q E s)
section
open PySem.SeqAt
open PySem.AutoSeq1 (wpAny_loadPart')
open PySem.MeetsSeq PySem.MeetsSeq2 PySem.MeetsSeq3
end
section
variable{prog:r_}{w:I_}{A:qab}{E:k_->n_->Prop}{s:n_}
noncomputable def Ib(n d:Nat):Option Int->Nat
 |none=>d
 |some v=>if v<0 then(v+(n:Int)).toNat else min v.toNat n
theorem Q0(n d k:Nat):Ib n d (some (k:Int))=min k n:=by
 show(if(k:Int)<0 then((k:Int)+(n:Int)).toNat else min (k:Int).toNat n)=min k n
 rw[if_neg (by omega),qaw]
end
end HT
namespace L2
open PySem PySem.Spec PyProof.Rows
section
noncomputable abbrev TO:=St->Hp->(Option Int->Hp->Prop)->Prop
def PO(X:Cx)(e:Option Expr)(t:TO):Prop :=
 ∀(pins:List (U×qa9)) (s:n_) (σ:St) (H:Hp) (Q:Option Int->Hp->Prop),Inv X pins σ H s->t σ H Q →
  C_ (model X.prog X.w) X.A (evalPart e X.env) (λu s'=>dP λo H'=>Inv X pins σ H' s'/\IsPart u o/\Q o H') X.xe s
def QW:TO:=λ_ H Q=>Q none H
def WQ(t:TE):TO:=λσ H Q=>t σ H λx H1=>∃i,x= .int i/\Q (some i) H1
section
variable{X:Cx}{e:Expr}{te:TE}{lo hi:Option Expr}{tl th:TO}{pos p2:qbO}
theorem o7:PO X none QW:=by
 intro pins s σ H Q I h;rw[evalPart_none];exact q_ ⟨none,H,I,.none,h⟩
theorem gj(h:PE X e te):PO X (some e) (WQ te):=by
 intro pins s σ H Q I hw;rw[evalPart_some];refine fR (h pins s σ H _ I hw) λu s1 ⟨x,H1,I1,r1,q1⟩=>?_;obtain⟨i,rfl,q⟩:=q1;obtain⟨t,rfl⟩:=r1;exact⟨some i,H1,I1,.int i t,q⟩
def SlR(X:Cx)(r:V->Option Int->Option Int->Hp->VK->Prop):Prop :=
 ∀(pins:List (U×qa9)) (s:n_) (σ:St) (H:Hp) (x:V) (v vl vu:k_) (lo hi:Option Int) (sl:U) (Q:VK),Inv X pins σ H s->RelV x v->s.heap.IsSliceOf sl vl vu .none->IsPart vl lo->IsPart vu hi->r x lo hi H Q →
  dP λT id=>typeLookup (.type T) "__getitem__" =pure (some (.builtin id))/\s.TypeIs v T/\C_ (model X.prog X.w) X.A (getItem v (.ref sl)) (EP X pins σ Q) X.xe s
def tSl(r:V->Option Int->Option Int->Hp->VK->Prop)(te:TE)(tl th:TO):TE:=λσ H Q=>te σ H λx H1=>tl σ H1 λl H2=>th σ H2 λu H3=>r x l u H3 Q
theorem gD{r:V->Option Int->Option Int->Hp->VK->Prop}(hr:SlR X r)(he:PE X e te)(hl:PO X lo tl)(hu:PO X hi th):PE X (.Subscript e (.Slice lo hi none p2) pos) (tSl r te tl th):=by
 intro pins s σ H Q I h;refine Subscript_ (fR (he pins s σ H _ I h) λv s1 ⟨x,H1,I1,r1,q1⟩=>?_);refine wpAny_Slice (fR (hl pins s1 σ H1 _ I1 q1) λvl s2 ⟨l,H2,I2,pl,q2⟩=>fR (hu pins s2 σ H2 _ I2 q2) λvu s3 ⟨u,H3,I3,pu,q3⟩=>?_);rw[evalPart_none];refine q_ ?_;have I4:Inv X pins σ H3 { s3 with heap:=s3.heap.push { cls:=.type "slice",data:=.fields #[vl,vu,.none] } }:=I3.kept (t':=s3.toks) λb ob q=>m_ _ q;obtain⟨T,id,hT,ht,hg⟩:=hr pins { s3 with heap:=s3.heap.push { cls:=.type "slice",data:=.fields #[vl,vu,.none] } } σ H3 x v vl vu l u s3.heap.objs.size Q I4 r1 (Heap.IsSliceOf.new ..) pl pu q3;show C_ (model X.prog X.w) X.A (subscriptTail e (.Slice lo hi none p2) v (.ref s3.heap.objs.size)) (EP X pins σ Q) X.xe { s3 with heap:=s3.heap.push { cls:=.type "slice",data:=.fields #[vl,vu,.none] } }
 exact tail_any (ops:=[.ref s3.heap.objs.size,v]) ht hT hg (by with_unfolding_all rfl)
noncomputable def zP(xs:List V)(lo hi:Option Int):List V:=(xs.drop (HT.Ib xs.length 0 lo)).take (HT.Ib xs.length xs.length hi-HT.Ib xs.length 0 lo)
theorem Hq(xs:List V)(lo hi:Option Int):(zP xs lo hi).length<=xs.length:=by
 unfold zP;rw[qaC,qba];omega
end
end
section
noncomputable def Ni(n:Nat)(i:Int):Option Nat:=if 0<=i then(if i<n then some i.toNat else none)else if -(n:Int)<=i then some (i+n).toNat else none
noncomputable def DJ{α:Type}(xs:List α)(i:Int):Option α:=(Ni xs.length i).bind λj=>xs[j]?
theorem La{n:Nat}{i:Int}{j:Nat}(h:Ni n i=some j):seqIndex? i n=some j/\j<n/\ -(n:Int)<=i/\i<n:=by
 unfold Ni at h;by_cases h0:0<=i
 ·rw[if_pos h0]at h;by_cases h1:i<n
  ·rw[if_pos h1]at h;have e:i.toNat=j:=L_ h;exact⟨by rw[seqIndex_of h0 h1,e],by omega,by omega,h1⟩
  ·rw[if_neg h1]at h;cases h
 ·rw[if_neg h0]at h;by_cases h1: -(n:Int)<=i
  ·rw[if_pos h1]at h;have e:(i+n).toNat=j:=L_ h;exact⟨by rw[seqIndex_neg (by omega) h1,e],by omega,h1,by omega⟩
  ·rw[if_neg h1]at h;cases h
theorem ER{α:Type}{xs:List α}{i:Int}{v:α}(h:DJ xs i=some v):∃j,seqIndex? i xs.length=some j/\xs[j]? =some v/\j<xs.length/\ -(xs.length:Int)<=i/\i<xs.length:=by
 unfold DJ at h
 cases e:Ni xs.length i with
 |none=>rw[e]at h;cases h
 |some j =>
  rw[e]at h;obtain⟨h1,h2,h3,h4⟩:=La e;exact⟨j,h1,h,h2,h3,h4⟩
theorem dY{α:Type}{xs:List α}{j:Nat}{v:α}(h:xs[j]? =some v):DJ xs (j:Int)=some v:=by
 have hj:j<xs.length:=(o_.mp h).1;have e:Ni xs.length (j:Int)=some j:=by
  unfold Ni;rw[if_pos (by omega),if_pos (by omega)];simp
 unfold DJ;rw[e];exact h
theorem Qa{α:Type}(xs:List α)(v:α):DJ (xs++[v]) (-1)=some v:=by
 have hl:(xs++[v]).length=xs.length+1:=by simp
 have e:Ni (xs++[v]).length (-1)=some xs.length:=by
  unfold Ni;rw[hl,if_neg (by decide),if_pos (by omega)];congr 1;omega
 unfold DJ;rw[e];show(xs++[v])[xs.length]? =some v;simp
def Sb(b:Expr):Prop:=∀o i,subscripted b false o i=operate [o,i] (getItem o i)
def Zz(X:Cx)(r:R2):Prop :=
 ∀(value slice:Expr) (pins:List (U×qa9)) (s:n_) (σ:St) (H:Hp) (x y:V) (v u:k_) (Q:VK),Inv X pins σ H s->RelV x v->RelV y u->r x y H Q →
  subscripted slice false v u=operate [v,u] (getItem v u)->C_ (model X.prog X.w) X.A (subscriptTail value slice v u) (EP X pins σ Q) X.xe s
def Zw(X:Cx)(id:String)(r:V->List V->Hp->VK->Prop):Prop :=
 ∀(pins:List (U×qa9)) (s:n_) (σ:St) (H:Hp) (x:V) (xs:List V) (v:k_) (us:List k_) (Q:VK),Inv X pins σ H s->RelV x v->Vals xs us->r x xs H Q →
  C_ (model X.prog X.w) X.A (call (.builtin id) (v::us)) (EP X pins σ Q) X.xe s
section
variable{X:Cx}{a b:Expr}{ta tb:TE}{pos:qbO}
theorem aD{r:R2}(hr:Zz X r)(ha:PE X a ta)(hb:PE X b tb)(hs:Sb b):PE X (.Subscript a b pos) (ZW r ta tb):=by
 intro pins s σ H Q I h;exact Subscript_ (V6 ha hb I h λv u s2 x y H2 I2 rx ry q=>hr a b pins s2 σ H2 x y v u Q I2 rx ry q (hs _ _))
def aco(K:PySem.W.Frag):R2:=λx y H Q=>wY λp xs i v=>x= .ref p/\y= .int i/\bW K H p xs/\DJ xs i=some v/\Q v H
def Xl(K:PySem.W.Frag):R2:=λx y H Q=>wY λp xs i v=>x= .ref p/\y= .int i/\bZ K H p xs/\DJ xs i=some v/\Q v H
def acn:R2:=λx y H Q=>nN λz i c=>x= .str z/\y= .int i/\z.length<=D_/\DJ z.cps.toList i=some c/\Q (.str ⟨#[c]⟩) H
theorem bK:Zz X (aco X.K):=by
 intro value slice pins s σ H x y v u Q I rx ry h hs;obtain⟨p,xs,i,z,rfl,rfl,hq,he,q⟩:=h;cases rx;obtain⟨t,rfl⟩:=ry;obtain⟨its,r,pl,hz⟩:=I.list hq;obtain⟨j,h1,h2,h3,h4,h5⟩:=ER he;obtain⟨w,ew,rw'⟩:=r.get h2;have hl:=r.length;have hn:=yF;have fin:EP X pins σ Q w s:=⟨z,H,I,rw',q⟩;by_cases h0:0<=i
 ·have hj:i.toNat=j:=by
   rw[seqIndex_of h0 h5]at h1;exact L_ h1
  exact item_listR pl.isList h0 (by omega) (by rw[hj];simpa using ew) fin hs
 ·have hj:(i+(its.toArray.size:Int)).toNat=j:=by
   rw[seqIndex_neg (by omega) h4]at h1;rw[K_,←hl];exact L_ h1
  exact qbp (x:=w) pl.isList.typeIs slot_list_getitem.lookup
   (wpAny_getItem_list_neg (Q:=λr s'=>r=w/\EP X pins σ Q r s') pl.isList (by omega) (by rw[K_]<;>omega) (by omega) (by rw[hj];simpa using ew) ⟨rfl,fin⟩) hs
theorem aJ:Zz X (Xl X.K):=by
 intro value slice pins s σ H x y v u Q I rx ry h hs;obtain⟨p,xs,i,z,rfl,rfl,hq,he,q⟩:=h;cases rx;obtain⟨t,rfl⟩:=ry;obtain⟨its,r,pl,hz⟩:=I.tuple hq;obtain⟨j,h1,h2,h3,h4,h5⟩:=ER he;obtain⟨w,ew,rw'⟩:=r.get h2;have hl:=r.length;have hn:=yF;have fin:EP X pins σ Q w s:=⟨z,H,I,rw',q⟩;exact qbp (x:=w) pl.typeIs slot_tuple_getitem.lookup
  (getItem_tuple (j:=j) (Q:=λr s'=>r=w/\EP X pins σ Q r s') pl (by omega) (by omega) (by rw[K_,←hl];exact h1) (by simpa using ew) ⟨rfl,fin⟩) hs
theorem kZ:Zz X acn:=by
 intro value slice pins s σ H x y v u Q I rx ry h hs;obtain⟨z,i,c,rfl,rfl,hz,he,q⟩:=h;obtain⟨t,rfl⟩:=rx;obtain⟨t',rfl⟩:=ry;obtain⟨j,h1,h2,h3,h4,h5⟩:=ER he;have hl:z.cps.toList.length=z.length:=by simp[Str.length]
 rw[hl]at h1 h4 h5;have hn:=yF;exact tail_any (typeIs_str s z t) slot_str_getitem.lookup (getItem_str (c:=c) (by
  have e1:decide (i< -(2 ^ 63:Int))=false:=decide_eq_false (by omega);have e2:decide (i>=2 ^ 63)=false:=decide_eq_false (by omega);rw[e1,e2,Bool.or_false]) (by rw[h1];simpa using h2) ⟨.str ⟨#[c]⟩,H,I.tok _,⟨_,rfl⟩,q⟩) hs
theorem Js(its:List k_)(n j:Nat)(u:k_):qb_ (·.setIfInBounds j u) { cls:=.type "list",data:=.seq its.toArray n }={ cls:=.type "list",data:=.seq (its.set j u).toArray n }:=by
 simp[qb_]
theorem Inv.lst{pins:List (U×qa9)}{σ:St}{H:Hp}{s:n_}{p:U}{xs:List V}(I:Inv X pins σ H s)(h:H p=some (.lst xs)):
  dP λ(its:List k_) (n:Nat)=>Vals xs its/\s.heap.get? p=some { cls:=.type "list",data:=.seq its.toArray n }/\xs.length<=D_:=by
 obtain⟨z,its,n,r,e⟩:=I.hok p _ h;exact⟨its,n,r,e,z⟩
theorem Inv.U8{pins:List (U×qa9)}{σ:St}{H:Hp}{s:n_}{p:U}{xs ys:List V}{its its':List k_}{n n':Nat}{f:qa9->qa9}(I:Inv X pins σ H s)(h:H p=some (.lst xs))
  (ho:s.heap.get? p=some { cls:=.type "list",data:=.seq its.toArray n }) (hf:f { cls:=.type "list",data:=.seq its.toArray n }={ cls:=.type "list",data:=.seq its'.toArray n' }) (r:Vals ys its') (hz:ys.length<=D_) (t:Nat) (ht:s.toks<=t:=by first|exact j_ _|exact qay _|assumption|omega) :
  Inv X pins σ (upd H p (.lst ys)) { s with heap:=s.heap.update p f,toks:=t }:=by
 have e:(s.heap.update p f).get? p=some { cls:=.type "list",data:=.seq its'.toArray n' }:=by
  rw[Heap.get?_update_self f ho (by rw[hf]<;>rfl),hf]
 refine I.write (x:=p) (e:=p) (by rw[h];trivial) (.inl Y) (λb u hb q=>(Heap.get?_update_other _ _ (Ne.symm hb)).trans q) ⟨_,e⟩ ?_;exact⟨hz,its',n',r,e⟩
def Xk:V->V->V->Hp->(Hp->Prop)->Prop:=λo i v H Q=>wY λp xs k j=>o= .ref p/\i= .int k/\H p=some (.lst xs)/\Ni xs.length k=some j/\Q (upd H p (.lst (xs.set j v)))
theorem set_list:Zr X Xk:=by
 intro pins s σ H o i v ov iv u Q I ro ri rv h;obtain⟨p,xs,k,j,rfl,rfl,hp,hj,q⟩:=h;cases ro;obtain⟨t,rfl⟩:=ri;obtain⟨its,n,r,ho,hz⟩:=I.lst hp;obtain⟨h1,h2,h3,h4⟩:=La hj;have hl:=r.length;have hn:=yF;have I':Inv X pins σ (upd H p (.lst (xs.set j v))) { s with heap:=s.heap.update p (qb_ (·.setIfInBounds j u)) } :=
  I.U8 hp ho (Js its n j u) (r.set rv j) (by rw[qbY];exact hz) s.toks
 by_cases h0:0<=k
 ·have hk:k.toNat=j:=by
   rw[seqIndex_of h0 h4]at h1;exact L_ h1
  exact PySem.W.ki_setAt ho h0 (by omega) (by rw[K_,←hl];exact h4) (by rw[hk];exact⟨_,I',q⟩)
 ·have hk:(k+(its.toArray.size:Int)).toNat=j:=by
   rw[seqIndex_neg (by omega) h3]at h1;rw[K_,←hl];exact L_ h1
  exact PySem.W.ki_setBack ho (by omega) (by rw[K_,←hl];exact h3) (by omega) (by rw[hk];exact⟨_,I',q⟩)
theorem D0(lo hi:Option Int)(n:Nat):(sliceBounds lo hi none n).1=((HT.Ib n 0 lo:Nat):Int)/\(sliceBounds lo hi none n).2.1=((HT.Ib n n hi:Nat):Int)/\(sliceBounds lo hi none n).2.2=1:=by
 refine⟨?_,?_,Y⟩
 ·cases lo with
  |none=>simp[sliceBounds,HT.Ib]
  |some i =>
   simp only[sliceBounds,HT.Ib,Option.getD_none,show(1:Int)>0 by decide,if_true];by_cases h:i<0
   ·simp only[h,if_true]<;>omega
   ·simp only[h,if_false]<;>omega
 ·cases hi with
  |none=>simp[sliceBounds,HT.Ib]
  |some i =>
   simp only[sliceBounds,HT.Ib,Option.getD_none,show(1:Int)>0 by decide,if_true];by_cases h:i<0
   ·simp only[h,if_true]<;>omega
   ·simp only[h,if_false]<;>omega
theorem B5(its:List k_)(lo hi:Option Int):slicePick its.toArray lo hi none=((its.drop (HT.Ib its.length 0 lo)).take (HT.Ib its.length its.length hi-HT.Ib its.length 0 lo)).toArray:=by
 obtain⟨h1,h2,h3⟩:=D0 lo hi its.toArray.size;unfold slicePick;rw[h1,h2,h3];simp only[sliceRange_one,pick_run,K_]<;>rfl
def ack(K:PySem.W.Frag):V->Option Int->Option Int->Hp->VK->Prop:=λx lo hi H Q=>dP λa xs=>x= .ref a/\bW K H a xs/\∀p,H p=none->Q (.ref p) (upd H p (.lst (zP xs lo hi)))
theorem KS:SlR X (ack X.K):=by
 intro pins s σ H x v vl vu lo hi sl Q I rx hs pl pu h;obtain⟨a,xs,rfl,hx,q⟩:=h;cases rx;obtain⟨its,r,ht,hz⟩:=I.list hx;have hlen:=r.length;refine⟨"list",_,slot_list_getitem.lookup,ht.isList.typeIs,?_⟩;refine wpAny_getItem_list_slice ht.isList hs pl pu .none (by simp) ?_ (by rw[K_]<;>omega);rw[B5,←hlen];refine⟨.ref s.heap.objs.size,_,I.laid (t':=s.toks) (o:=.lst (zP xs lo hi)) (λb ob q=>m_ _ q) (j_ _) ?_,Y,q _ (I.hok.fresh (j_ _))⟩;exact⟨p_ (Hq xs lo hi) hz,_,0,(r.drop (HT.Ib xs.length 0 lo)).take (HT.Ib xs.length xs.length hi-HT.Ib xs.length 0 lo),t_ _ Y⟩
noncomputable def zj:V->Bool
 | .jG=>true
 | .bl _=>true
 | .int _=>true
 | .str _=>true
 |_=>false
noncomputable def RV:V->V->Bool
 | .jG,.jG=>true
 | .bl a,.bl b=>a==b
 | .bl a,.int b=>(if a then 1 else 0)==b
 | .int a,.bl b=>a==(if b then 1 else 0)
 | .int a,.int b=>a==b
 | .str a,.str b=>a==b
 |_,_=>false
theorem VS{A:qab}{s:n_}{y x:V}{u v:k_}(ry:RelV y u)(rx:RelV x v)(fy:zj y=true)(fx:zj x=true):SeqAt.EqAt A s u v (RV y x):=by
 cases y with
 |jG =>
  cases ry
  cases x with
  |jG=>cases rx;exact SeqAt.EqAt.same _
  |bl b=>cases rx;exact SeqAt.EqAt.none_bool b
  |int b=>obtain⟨t,rfl⟩:=rx;exact SeqAt.EqAt.none_int b t
  |str b=>obtain⟨t,rfl⟩:=rx;exact SeqAt.EqAt.none_str b t
  |_=>exact absurd (show false=true from fx) y_
 |bl a =>
  cases ry
  cases x with
  |jG=>cases rx;exact SeqAt.EqAt.bool_none a
  |bl b=>cases rx;exact SeqAt.EqAt.bool_bool a b
  |int b=>obtain⟨t,rfl⟩:=rx;exact SeqAt.EqAt.bool_int a b t
  |str b=>obtain⟨t,rfl⟩:=rx;exact SeqAt.EqAt.bool_str a b t
  |_=>exact absurd (show false=true from fx) y_
 |int a =>
  obtain⟨t',rfl⟩:=ry
  cases x with
  |jG=>cases rx;exact SeqAt.EqAt.int_none a t'
  |bl b=>cases rx;exact SeqAt.EqAt.int_bool a t' b
  |int b=>obtain⟨t,rfl⟩:=rx;exact SeqAt.EqAt.int_int a t' b t
  |str b=>obtain⟨t,rfl⟩:=rx;exact SeqAt.EqAt.int_str a t' b t
  |_=>exact absurd (show false=true from fx) y_
 |str a =>
  obtain⟨t',rfl⟩:=ry
  cases x with
  |jG=>cases rx;exact SeqAt.EqAt.str_none a t'
  |bl b=>cases rx;exact SeqAt.EqAt.str_bool a t' b
  |int b=>obtain⟨t,rfl⟩:=rx;exact SeqAt.EqAt.str_int a t' b t
  |str b=>obtain⟨t,rfl⟩:=rx;exact SeqAt.EqAt.str_str a t' b t
  |_=>exact absurd (show false=true from fx) y_
 |_=>exact absurd (show false=true from fy) y_
noncomputable def RW(x:V)(u:k_):Bool:=match u with
 | .none=>RV .jG x
 | .bool b=>RV (.bl b) x
 | .int i _=>RV (.int i) x
 | .str z _=>RV (.str z) x
 |_=>false
theorem PF{x y:V}{u:k_}(r:RelV y u)(f:zj y=true):RW x u=RV y x:=by
 cases y with
 |jG=>cases r;rfl
 |bl b=>cases r;rfl
 |int i=>obtain⟨t,rfl⟩:=r;rfl
 |str z=>obtain⟨t,rfl⟩:=r;rfl
 |_=>exact absurd (show false=true from f) y_
theorem ES{x:V}:∀{xs:List V} {us:List k_},Vals xs us->xs.all zj=true->us.any (RW x)=xs.any λy=>RV y x
 |_,_,.nil,_=>rfl
 |y::xs,u::us,.cons r t,f=>by
  rw[List.all_cons,qaP]at f;rw[qcj,qcj,PF r f.1,ES t f.2]
theorem Ba{A:qab}{s:n_}{x:V}{v:k_}(rx:RelV x v)(fx:zj x=true):∀{xs:List V} {us:List k_},Vals xs us->xs.all zj=true->∀u∈us,SeqAt.EqAt A s u v (RW x u)
 |_,_,.nil,_=>λu hu=>by cases hu
 |y::xs,u::us,.cons r t,f=>λu' hu=>by
  rw[List.all_cons,qaP]at f;rcases B_.mp hu with rfl|hu
  ·rw[PF r f.1];exact VS r rx f.1 fx
  ·exact Ba rx fx t f.2 u' hu
noncomputable def SN(x:V)(xs:List V):Bool:=xs.any λy=>RV y x
def rIn(K:PySem.W.Frag)(neg:Bool):R2:=λx y H Q=>dP λp xs=>y= .ref p/\(bW K H p xs\/bZ K H p xs)/\zj x=true/\xs.all zj=true/\Q (.bl (if neg then !SN x xs else SN x xs)) H
theorem xG:wc X (compareOp .NotIn) (rIn X.K true):=by
 intro pins s σ H x y v u Q I rx ry h;obtain⟨p,xs,rfl,hq,fx,fs,q⟩:=h;cases ry;rcases hq with hq|hq
 ·obtain⟨its,r,pl,hz⟩:=I.list hq;refine SeqAt.notIn_listAt (RW x) pl.isList (λw hw=>Ba rx fx r fs w (by simpa using hw)) ⟨.bl _,H,I,Y,?_⟩;rw[show its.toArray.any (RW x)=its.any (RW x) by simp,ES r fs];exact q
 ·obtain⟨its,r,pl,hz⟩:=I.tuple hq;refine SeqAt.notIn_tupleAt (RW x) pl (λw hw=>Ba rx fx r fs w (by simpa using hw)) ⟨.bl _,H,I,Y,?_⟩;rw[show its.toArray.any (RW x)=its.any (RW x) by simp,ES r fs];exact q
theorem Ej:wc X (compareOp .NotIn) (λx y H Q=>dP λi j=>x= .str i/\y= .str j/\Q (.bl (!(!(Builtin.Str.occurrences j i 0 j.length 1).isEmpty))) H):=by
 intro pins s σ H x y v u Q I rx ry h;obtain⟨i,j,rfl,rfl,q⟩:=h;obtain⟨t,rfl⟩:=rx;obtain⟨t',rfl⟩:=ry;exact notIn_str ⟨.bl _,H,I,Y,q⟩
theorem EM:pM X (.builtin "len") (λxs H Q=>∃z,xs=[.str z]/\z.length<=D_/\Q (.int z.length) H):=by
 intro pins s σ H xs us Q I r h;obtain⟨z,rfl,hz,q⟩:=h;obtain⟨u,rfl,t,rfl⟩:=vals1 r;have hn:=yF;exact len_str (by omega) ⟨.int z.length,H,I.tok _,⟨_,Y⟩,q⟩
theorem vW:pM X (.type "tuple") (λxs H Q=>dP λp ys=>xs=[.ref p]/\((bW X.K H p ys/\∀l,H l=none->Q (.ref l) (upd H l (.tup ys)))\/(bZ X.K H p ys/\Q (.ref p) H))):=by
 intro pins s σ H xs us Q I r h;obtain⟨p,ys,rfl,h⟩:=h;obtain⟨u,rfl,rx⟩:=vals1 r;cases rx;rcases h with⟨hq,q⟩|⟨hq,q⟩
 ·obtain⟨its,r',pl,hz⟩:=I.list hq;have hlen:=r'.length;refine call_tuple_list pl.isList (λh' kp=>?_) (by simp only[K_]<;>omega);have I1:Inv X pins σ H { s with heap:=h' }:=I.kept (t':=s.toks) kp;have I2:Inv X pins σ (upd H h'.objs.size (.tup ys)) { s with heap:=h'.push { cls:=.type "tuple",data:=.seq its.toArray } } :=
   I1.laid (t':=s.toks) (λb o e=>m_ _ e) (j_ _) (show dF X.prog X.w _ _ _ (.tup ys) from⟨hz,its,r',IsTup.new _ _⟩)
  exact⟨.ref h'.objs.size,_,I2,Y,q _ (I1.hok.fresh (j_ _))⟩
 ·obtain⟨its,r',pl,hz⟩:=I.tuple hq;exact call_tuple_same pl ⟨.ref p,H,I,Y,q⟩
def tyV(K:PySem.W.Frag)(T:String)(x:V)(H:Hp):Prop:=match x with
 | .str _=>T= "str"
 | .int _=>T= "int"
 | .ref p=>(T= "list" /\∃xs,bW K H p xs)\/(T= "tuple" /\∃o,K.lookup p=some o/\o.cls= .type "tuple" /\o.dict=none) ∨
   (T= "dict" /\((∃kvs,H p=some (.dK kvs))\/∃kvs,H p=some (.dT kvs)))\/(T= "set" /\dP λS n=>H p=some (.set S n))
 |_=>False
theorem Iv{pins:List (U×qa9)}{σ:St}{H:Hp}{s:n_}{T:String}{x:V}{v:k_}(I:Inv X pins σ H s)(r:RelV x v)(ty:tyV X.K T x H):
  s.TypeIs v T/\∀a,v= .ref a->∃ob,s.heap.get? a=some ob/\ob.dict=none:=by
 cases x with
 |str z =>
  obtain⟨t,rfl⟩:=r;cases (show T= "str" from ty)
  exact⟨typeIs_str s z t,λ_ e=>nomatch e⟩
 |int i =>
  obtain⟨t,rfl⟩:=r;cases (show T= "int" from ty)
  exact⟨typeIs_int s i t,λ_ e=>nomatch e⟩
 |ref p =>
  cases r;rcases ty with⟨rfl,xs,hq⟩|⟨rfl,o,hk,hc,hd⟩|⟨rfl,hk⟩|⟨rfl,S,n,hk⟩
  ·obtain⟨its,_,pl,_⟩:=I.list hq;refine⟨pl.isList.typeIs,λa e=>?_⟩;cases e;obtain⟨o,n,e,c,hd,_⟩:=pl;exact⟨o,e,hd⟩
  ·refine⟨⟨o,I.yI p o hk,hc⟩,λa e=>?_⟩;cases e;exact⟨o,I.yI _ o hk,hd⟩
  ·have z:∃o,s.heap.get? p=some o/\o.ExactDict:=by
    rcases hk with⟨kvs,hk⟩|⟨kvs,hk⟩
    ·obtain⟨_,_,_,_,o,_,_,e,ex,_⟩:=I.hok p _ hk;exact⟨o,e,ex⟩
    ·obtain⟨_,_,_,_,o,_,_,e,ex,_⟩:=I.hok p _ hk;exact⟨o,e,ex⟩
   obtain⟨o,e,ex⟩:=z;refine⟨⟨o,e,ex.1⟩,λa e2=>?_⟩;cases e2;exact⟨o,e,ex.2.1⟩
  ·obtain⟨o,_,_,_,e,ex,_⟩:=I.hok p _ hk;refine⟨⟨o,e,ex.1⟩,λa e2=>?_⟩;cases e2;exact⟨o,e,ex.2.1⟩
 |_=>exact qbm ty
def ab4(K:PySem.W.Frag)(T:String)(r:V->List V->Hp->VK->Prop)(to:TE):TE:=λσ H Q=>to σ H λx H1=>tyV K T x H1/\r x [] H1 Q
def tBM(K:PySem.W.Frag)(T:String)(r:V->List V->Hp->VK->Prop)(to:TE)(t:TA):TE:=λσ H Q=>to σ H λx H1=>tyV K T x H1/\t σ H1 λxs H2=>r x xs H2 Q
variable{o e:Expr}{es:List Expr}{to:TE}{t:TA}{name:v_}{apos cpos:qbO}{T id:String}{r:V->List V->Hp->VK->Prop}
theorem I0 (pa:PlainAttrs T)(slot:Slot T name id)(hty:typeOf (.builtin id)=pure (.type "method_descriptor"))(hm:Zw X id r)(ho:PE X o to)
  (hbase:attributeBase o name X.env (eval o X.env)=eval o X.env:=by rfl) (hline:(apos.endLine==cpos.line)=true:=by rfl):PE X (.Call (.Attribute o name apos) [] [] cpos) (ab4 X.K T r to):=by
 intro pins s σ H Q I h;refine wpAny_Call_method0_late hbase hline (fR (ho pins s σ H _ I h) λv s1 ⟨x,H1,I1,r1,ty,q1⟩=>?_);obtain⟨h1,h2⟩:=Iv I1 r1 ty;exact⟨T,id,pa,slot,hty,h1,h2,qbT Y (PySem.evalArgs_none (hm pins s1 σ H1 x [] v [] Q I1 r1 .nil q1))⟩
theorem lF (pa:PlainAttrs T)(slot:Slot T name id)(hty:typeOf (.builtin id)=pure (.type "method_descriptor"))(hm:Zw X id r)(ho:PE X o to)(ha:PA X (e::es) t)
  (hbase:attributeBase o name X.env (eval o X.env)=eval o X.env:=by rfl)
  (hfew:((backTo cpos (qaf (e::es) X.env)).all (λx=>!x.1)&&(backToKw cpos (keywordEach [] X.env)).all (λx=>x.1.isSome)
   && decide ((e::es).length+([]:List Keyword).length+(if([]:List Keyword).isEmpty then 0 else 1)<30))=true:=by rfl)
  (hline:(apos.endLine==cpos.line)=true:=by rfl) (hs:qaf (e::es) X.env=(false,eval e X.env)::qaf es X.env:=by rfl) (hplain:(backTo cpos (qaf es X.env)).any (·.1)=false:=by rfl) :
  PE X (.Call (.Attribute o name apos) (e::es) [] cpos) (tBM X.K T r to t):=by
 intro pins s σ H Q I h;refine wpAny_Call_method_late hbase hfew hline Y (fR (ho pins s σ H _ I h) λv s1 ⟨x,H1,I1,r1,ty,q1⟩=>?_);obtain⟨h1,h2⟩:=Iv I1 r1 ty;refine⟨T,id,pa,slot,hty,h1,h2,?_⟩;have hA:=ha cpos pins s1 σ H1 _ I1 q1;rw[hs]at hA ⊢;refine qbT (by show(false||(backTo cpos (qaf es X.env)).any (·.1))=false;rw[hplain]<;>rfl) (Calls.evalArgs_plain ?_);exact fR hA λus s2 ⟨vs,H2,I2,r2,q2⟩=>hm pins s2 σ H2 x vs v us Q I2 r1 r2 q2
end
end
section
def MtM(X:Cx)(id:String)(r:V->List V->Hp->VK->Prop):Prop :=
 ∀(pins:List (U×qa9)) (s:n_) (σ:St) (H:Hp) (x:V) (xs:List V) (v:k_) (us:List k_) (Q:VK),Inv X pins σ H s->RelV x v->Vals xs us->r x xs H Q →
  C_ (model X.prog X.w) X.A (call (.builtin id) (v::us)) (EP X pins σ Q) X.xe s
theorem Vals.one:∀{x:V} {us:List k_},Vals [x] us->∃u,us=[u]/\RelV x u
 |_,_,.cons r .nil=>⟨_,rfl,r⟩
theorem Vals.zero:∀{us:List k_},Vals [] us->us=[]
 |_,.nil=>rfl
theorem Vals.dropLast{xs:List V}{us:List k_}(h:Vals xs us):Vals xs.dropLast us.dropLast:=by
 induction h with
 |nil=>exact .nil
 |cons r t ih =>
  cases t with
  |nil=>exact .nil
  |cons q t'=>exact .cons r ih
theorem Vals.reverse{xs:List V}{us:List k_}(h:Vals xs us):Vals xs.reverse us.reverse:=by
 induction h with
 |nil=>exact .nil
 |cons r t ih=>rw[List.reverse_cons,List.reverse_cons];exact Vals.append ih (.cons r .nil)
theorem JL{α:Type}(l:List α):l.eraseIdx (l.length-1)=l.dropLast:=by
 induction l with
 |nil=>rfl
 |cons a r ih =>
  cases r with
  |nil=>rfl
  |cons b r =>
   have e:(a::b::r).length-1=((b::r).length-1)+1:=by
    have h1:(a::b::r).length=r.length+2:=rfl;have h2:(b::r).length=r.length+1:=rfl;omega
   rw[e,List.eraseIdx_cons_succ,ih]
   all_goals rfl
section
variable{X:Cx}{pins:List (U×qa9)}{σ:St}{H:Hp}{s:n_}{l b:U}{xs ys zs:List V}
theorem Inv.Rq{its its':List k_}{n:Nat}{f:Array k_->Array k_}{t':Nat}(I:Inv X pins σ H s)(hH:H l=some (.lst xs))
  (e:s.heap.get? l=some { cls:=.type "list",data:=.seq its.toArray n }) (hf:f its.toArray=its'.toArray) (hv:Vals ys its') (hz:ys.length<=D_) (ht:s.toks<=t':=by first|exact j_ _|exact qay _|assumption|omega) :
  Inv X pins σ (upd H l (.lst ys)) { s with heap:=s.heap.update l (qb_ f),toks:=t' }:=by
 have q:=PySem.IsL.update e f;rw[hf]at q;refine I.write (x:=l) (e:=l) (by rw[hH];exact trivial) (.inl Y) (λb' u hb hu=>(Heap.get?_update_other s.heap (qb_ f) (Ne.symm hb)).trans hu) ⟨_,q⟩ ?_;exact⟨hz,its',_,hv,q⟩
theorem Inv.acQ{its:List k_}{t':Nat}(I:Inv X pins σ H s)(hv:Vals ys its)(hz:ys.length<=D_)(ht:s.toks<=t':=by first|exact j_ _|exact qay _|assumption|omega):
  Inv X pins σ (upd H s.heap.objs.size (.lst ys)) { s with heap:=s.heap.push { cls:=.type "list",data:=.seq its.toArray },toks:=t' } :=
 I.laid (λ_ _ q=>m_ _ q) (j_ _) ⟨hz,its,0,hv,t_ _ rfl⟩
theorem Inv.fresh(I:Inv X pins σ H s):H s.heap.objs.size=none:=I.hok.fresh (j_ _)
theorem Inv.OS(I:Inv X pins σ H s)(hH:H l=some (.lst xs)):xs.length<=D_/\dP λ(its:List k_) (n:Nat)=>Vals xs its/\xs.length=its.length/\s.heap.get? l=some { cls:=.type "list",data:=.seq its.toArray n }:=by
 obtain⟨z,its,n,r,e⟩:=I.hok l _ hH;exact⟨z,its,n,r,r.length,e⟩
theorem OA{n:Nat}(h:n<=D_):qck n=false:=by
 unfold qck;exact decide_eq_false (by omega)
end
section
variable{X:Cx}
def Q8:V->List V->Hp->VK->Prop:=λx vs H Q=>nN λl xs y=>x= .ref l/\vs=[y]/\H l=some (.lst xs)/\xs.length<D_/\Q .jG (upd H l (.lst (xs++[y])))
theorem cO:MtM X "list.append" Q8:=by
 intro pins s σ H x vs v us Q I rx rv h;obtain⟨l,xs,y,rfl,rfl,hH,hz,q⟩:=h;cases rx;obtain⟨u,rfl,ru⟩:=rv.one;obtain⟨z,its,n,r,hl,e⟩:=I.OS hH;refine call_meets F.slot_list_append ⟨_,e,Y⟩ F.entry_list_append (F.args_list_append_2 _ _) (PySem.list_append l its.toArray n u (by rw[K_];omega)) ⟨e,?_⟩;refine⟨.jG,_,I.Rq (its':=its++[u]) hH e (by simp) (r.append (.cons ru .nil)) ?_,Y,q⟩;rw[G_,List.length_singleton];omega
def Q7:V->List V->Hp->VK->Prop:=λx vs H Q=>wY λl b xs zs=>x= .ref l/\vs=[.ref b]/\H l=some (.lst xs)/\H b=some (.lst zs)/\xs.length+zs.length<=D_/\Q .jG (upd H l (.lst (xs++zs)))
theorem Mi:MtM X "list.extend" Q7:=by
 intro pins s σ H x vs v us Q I rx rv h;obtain⟨l,b,xs,zs,rfl,rfl,hH,hB,hz,q⟩:=h;cases rx;obtain⟨u,rfl,ru⟩:=rv.one;cases ru;obtain⟨z,its,n,r,hl,e⟩:=I.OS hH;obtain⟨z2,its2,n2,r2,hl2,e2⟩:=I.OS hB;have hsz:its.toArray.size+its2.toArray.size<=D_:=by rw[K_,K_];omega
 have YM:¬(!its.toArray.isEmpty&&qck (its.toArray.size+its2.toArray.size))=true:=by
  rw[OA hsz,Bool.and_false];exact y_
 refine call_meets F.slot_list_extend ⟨_,e,Y⟩ F.entry_list_extend (F.args_list_extend_2 _ _)
  (AutoSeq1.list_extend_list_list_0 l its.toArray n b its2.toArray n2 YM (by rw[K_];omega) (by omega)) ⟨e,e2,?_⟩
 refine⟨.jG,_,I.Rq (its':=its++its2) hH e (by simp) (r.append r2) ?_,Y,q⟩;rw[G_];omega
def acm:V->List V->Hp->VK->Prop:=λx vs H Q=>nN λl xs y=>x= .ref l/\vs=[]/\H l=some (.lst xs)/\xs[xs.length-1]? =some y/\Q y (upd H l (.lst xs.dropLast))
theorem U5:MtM X "list.pop" acm:=by
 intro pins s σ H x vs v us Q I rx rv h;obtain⟨l,xs,y,rfl,rfl,hH,hy,q⟩:=h;cases rx;have hus:=rv.zero;subst hus;obtain⟨z,its,n,r,hl,e⟩:=I.OS hH;obtain⟨u,hu,ru⟩:=r.get hy;have hy':its.toArray[its.toArray.size-1]? =some u:=by
  show its.toArray[its.length-1]? =some u;rw[←qal,←hl];exact hu
 refine call_meets F.slot_list_pop ⟨_,e,Y⟩ F.entry_list_pop (F.args_list_pop_1 _) (MeetsSeq.list_pop_last l its.toArray n u hy' (by rw[K_];omega)) ⟨e,?_⟩;refine⟨y,_,I.Rq (its':=its.dropLast) hH e ?_ r.dropLast ?_,ru,q⟩
 ·show its.toArray.eraseIdxIfInBounds (its.toArray.size-1)=its.dropLast.toArray;rw[K_,List.eraseIdxIfInBounds_toArray,JL]
 ·rw[List.length_dropLast];omega
def Od:V->List V->Hp->VK->Prop:=λx vs H Q=>dP λl xs=>x= .ref l/\vs=[]/\H l=some (.lst xs)/\Q .jG (upd H l (.lst xs.reverse))
theorem AY:MtM X "list.reverse" Od:=by
 intro pins s σ H x vs v us Q I rx rv h;obtain⟨l,xs,rfl,rfl,hH,q⟩:=h;cases rx;have hus:=rv.zero;subst hus;obtain⟨z,its,n,r,hl,e⟩:=I.OS hH;refine call_meets F.slot_list_reverse ⟨_,e,Y⟩ F.entry_list_reverse (F.args_list_reverse_1 _) (AutoSeq1.list_reverse_list_0 l its.toArray n (by rw[K_];omega)) ⟨e,?_⟩;refine⟨.jG,_,I.Rq (its':=its.reverse) hH e (by simp) r.reverse ?_,Y,q⟩;rw[List.length_reverse];omega
end
section
variable{prog:r_}{w:I_}{A:qab}{E:k_->n_->Prop}{s:n_}
end
section
variable{X:Cx}
end
end
section
section
variable{κ:Type}[DecidableEq κ]
noncomputable def jK(kvs:List (κ×V))(k:κ):Option V:=(kvs.find? λkv=>decide (kv.1=k)).map (·.2)
noncomputable def putK(kvs:List (κ×V))(k:κ)(v:V):List (κ×V) :=
 if(kvs.any λkv=>decide (kv.1=k))=true then kvs.map (λkv=>if kv.1=k then(kv.1,v)else kv)else kvs++[(k,v)]
theorem fZ{p:κ×V}{r:List (κ×V)}{k:κ}(e:p.1=k):jK (p::r) k=some p.2:=by simp[jK,qad,e]
theorem f6{p:κ×V}{r:List (κ×V)}{k:κ}(e:¬p.1=k):jK (p::r) k=jK r k:=by simp[jK,qad,e]
theorem uw(k:κ):∀kvs:List (κ×V),(kvs.any λkv=>decide (kv.1=k))=(jK kvs k).isSome
 |[]=>rfl
 |p::r=>by
  rw[qcj];by_cases e:p.1=k
  ·simp only[fZ e,decide_eq_true e,Bool.true_or,Option.isSome_some]
  ·rw[f6 e,decide_eq_false e,Bool.false_or];exact uw k r
theorem Fy(k j:κ)(y:V):∀kvs:List (κ×V),jK (kvs.map λkv=>if kv.1=k then(kv.1,y)else kv) j=(jK kvs j).map λx=>if j=k then y else x
 |[]=>rfl
 |p::r=>by
  have ih:=Fy k j y r;rw[Y_];by_cases h:p.1=k
  ·rw[if_pos h];by_cases e:p.1=j
   ·rw[fZ (p:=(p.1,y)) e,fZ e,Option.map_some,if_pos (e.symm.trans h)]
   ·rw[f6 (p:=(p.1,y)) e,f6 e,ih]
  ·rw[if_neg h];by_cases e:p.1=j
   ·rw[fZ (p:=p) e,fZ e,Option.map_some,if_neg (λz=>h (e.trans z))]
   ·rw[f6 (p:=p) e,f6 e,ih]
theorem C7(k j:κ)(y:V):∀kvs:List (κ×V),jK kvs k=none->jK (kvs++[(k,y)]) j=if j=k then some y else jK kvs j
 |[],_=>by
  by_cases e:k=j
  ·rw[if_pos e.symm];exact fZ (p:=(k,y)) e
  ·rw[if_neg (λz=>e z.symm)];exact f6 (p:=(k,y)) e
 |p::r,hn=>by
  rw[qcc];have hk:¬p.1=k:=λz=>by rw[fZ z]at hn;cases hn
  rw[f6 hk]at hn;have ih:=C7 k j y r hn;by_cases e:p.1=j
  ·rw[fZ e,fZ e,if_neg (λz=>hk (e.trans z))]
  ·rw[f6 e,f6 e,ih]
theorem rZ(kvs:List (κ×V))(k j:κ)(y:V):jK (putK kvs k y) j=if j=k then some y else jK kvs j:=by
 unfold putK;by_cases a:(kvs.any λkv=>decide (kv.1=k))=true
 ·rw[if_pos a,Fy];rw[uw]at a;by_cases e:j=k
  ·obtain⟨x,hx⟩:=qbD.mp a;rw[if_pos e,e,hx,Option.map_some,if_pos rfl]
  ·rw[if_neg e]
   cases jK kvs j with
   |none=>rfl
   |some x=>rw[Option.map_some,if_neg e]
 ·rw[if_neg a];refine C7 k j y kvs ?_;rw[uw]at a
  cases q:jK kvs k with
  |none=>rfl
  |some x=>rw[q]at a;exact(a Y).elim
theorem gE(kvs:List (κ×V))(k:κ)(v:V):(putK kvs k v).length<=kvs.length+1:=by
 unfold putK;split
 ·rw[l_];omega
 ·rw[G_,qaa,List.length_nil];omega
theorem Oi{kvs:List (κ×V)}{k:κ}(v:V)(h:jK kvs k=none):putK kvs k v=kvs++[(k,v)]:=by
 unfold putK;rw[uw,h];exact if_neg (by decide)
theorem uq.sD{o:Option V}{u:Option k_}(r:uq o u):o.isSome=u.isSome:=by
 cases o with
 |none=>cases u with
  |none=>rfl
  |some _=>exact(show False from r).elim
 |some _=>cases u with
  |none=>exact(show False from r).elim
  |some _=>rfl
theorem KV.val{kvs:List (κ×V)}{vs:List (κ×k_)}(r:KV kvs vs)(k:κ):uq (jK kvs k) (valueAt vs k):=by
 unfold KV at r
 induction r with
 |nil=>exact True.intro
 | @cons p q ps qs h t ih =>
  obtain⟨h1,h2⟩:=h;by_cases e:p.1=k
  ·have e':q.1=k:=h1.symm.trans e;have b:valueAt (q::qs) k=some q.2:=by simp[valueAt,qad,e']
   rw[fZ e,b];exact h2
  ·have e':¬q.1=k:=λz=>e (h1.trans z);have b:valueAt (q::qs) k=valueAt qs k:=by simp[valueAt,qad,e']
   rw[f6 e,b];exact ih
theorem KV.any{kvs:List (κ×V)}{vs:List (κ×k_)}(r:KV kvs vs)(k:κ):(kvs.any λkv=>decide (kv.1=k))=vs.any λkv=>decide (kv.1=k):=by
 unfold KV at r
 induction r with
 |nil=>rfl
 |cons h t ih=>rw[qcj,qcj,ih,h.1]
theorem KV.repl{kvs:List (κ×V)}{vs:List (κ×k_)}(r:KV kvs vs)(k:κ){y:V}{u:k_}(ry:RelV y u):
  KV (kvs.map λkv=>if kv.1=k then(kv.1,y)else kv) (vs.map λkv=>if kv.1=k then(kv.1,u)else kv):=by
 unfold KV at r ⊢
 induction r with
 |nil=>exact .nil
 | @cons p q ps qs h t ih =>
  rw[Y_,Y_];refine .cons ?_ ih;obtain⟨h1,h2⟩:=h;by_cases e:p.1=k
  ·rw[if_pos e,if_pos (h1.symm.trans e)];exact⟨h1,ry⟩
  ·rw[if_neg e,if_neg (λz=>e (h1.trans z))];exact⟨h1,h2⟩
theorem KV.put{kvs:List (κ×V)}{vs:List (κ×k_)}(r:KV kvs vs)(k:κ){y:V}{u:k_}(ry:RelV y u):KV (putK kvs k y) (stored vs k u):=by
 unfold putK stored;rw[r.any k];by_cases e:(vs.any λkv=>decide (kv.1=k))=true
 ·rw[if_pos e,if_pos e];exact r.repl k ry
 ·rw[if_neg e,if_neg e];exact Paired.snoc r ⟨Y,ry⟩
theorem KV.length{kvs:List (κ×V)}{vs:List (κ×k_)}(r:KV kvs vs):kvs.length=vs.length:=Paired.length r
end
theorem Bm{P:r_}{w:I_}{k:Key}{u:k_}(r:RelV (kV k) u):(bR P w).is k u=true:=by
 cases k with
 |inl i=>obtain⟨t,e⟩:=(show ∃t,u=Value.int i t from r);subst e;exact GL P w i t
 |inr x=>obtain⟨t,e⟩:=(show ∃t,u=Value.str x t from r);subst e;exact pI P w x t
theorem Du{P:r_}{w:I_}:∀{ks:List Key} {us:List k_},Vals (ks.map kV) us->ItemsAre (bR P w) ks us
 |[],_,r=>by rw[List.map_nil]at r;cases r;exact .nil
 |k::ks,_,r=>by
  rw[Y_]at r
  cases r with
  |cons h t=>exact .cons (Bm h) (Du t)
noncomputable abbrev KT(H:Hp):List (List Key×V)->List (List Key×U×k_)->Prop:=Paired λp q=>p.1=q.1/\H q.2.1=some (.tup (p.1.map kV))/\RelV p.2 q.2.2
theorem KT.val{H:Hp}{kvs:List (List Key×V)}{xs:List (List Key×U×k_)}(r:KT H kvs xs)(k:List Key):uq (jK kvs k) ((atKey xs k).map (·.2)):=by
 induction r with
 |nil=>exact True.intro
 | @cons p q ps qs h t ih =>
  obtain⟨h1,_,h2⟩:=h;by_cases e:p.1=k
  ·have e':q.1=k:=h1.symm.trans e;have b:atKey (q::qs) k=some q.2:=by simp[atKey,qad,e']
   rw[fZ e,b];exact h2
  ·have e':¬q.1=k:=λz=>e (h1.trans z);have b:atKey (q::qs) k=atKey qs k:=by simp[atKey,qad,e']
   rw[f6 e,b];exact ih
theorem KT.repl{H:Hp}{kvs:List (List Key×V)}{xs:List (List Key×U×k_)}(r:KT H kvs xs)(k:List Key){y:V}{u:k_}(ry:RelV y u):
  KT H (kvs.map λkv=>if kv.1=k then(kv.1,y)else kv) (xs.map (putAt k u)):=by
 induction r with
 |nil=>exact .nil
 | @cons p q ps qs h t ih =>
  rw[Y_,Y_];refine .cons ?_ ih;obtain⟨h1,h2,h3⟩:=h;unfold putAt;by_cases e:p.1=k
  ·rw[if_pos e,if_pos (h1.symm.trans e)];exact⟨h1,h2,ry⟩
  ·rw[if_neg e,if_neg (λz=>e (h1.trans z))];exact⟨h1,h2,h3⟩
theorem KT.put{H:Hp}{kvs:List (List Key×V)}{xs:List (List Key×U×k_)}(r:KT H kvs xs)(k:List Key){b:U}{y:V}{u:k_}(hb:H b=some (.tup (k.map kV)))(ry:RelV y u):
  KT H (putK kvs k y) (storedH xs k b u):=by
 have e:(kvs.any λkv=>decide (kv.1=k))=(atKey xs k).isSome:=by
  rw[uw,(r.val k).sD,Option.isSome_map]
 unfold putK storedH;rw[e];by_cases q:(atKey xs k).isSome=true
 ·rw[if_pos q,if_pos q];exact r.repl k ry
 ·rw[if_neg q,if_neg q];exact Paired.snoc r ⟨Y,hb,ry⟩
theorem KT.keeps{H H':Hp}{kvs:List (List Key×V)}{xs:List (List Key×U×k_)}(r:KT H kvs xs)(ht:∀b ys,H b=some (.tup ys)->H' b=some (.tup ys)):KT H' kvs xs :=
 Paired.ji r λ_ _ z=>⟨z.1,ht _ _ z.2.1,z.2.2⟩
section
variable{P:r_}{w:I_}{H:Hp}{h:W_}{a:U}
theorem Sw{u:HO}(ok:um P w H h)(e:Rd H a u):dF P w H h a u:=e.ok ok
theorem Ls{kvs:List (Key×V)}(ok:um P w H h)(e:Rd H a (.dK kvs)):kvs.length<=D_/\(a==sysModules)=false/\∃vs,KV kvs vs/\h.DictOf (bR P w) a vs :=
 show dF P w H h a (.dK kvs) from Sw ok e
theorem Te{kvs:List (Key×V)}(ok:um P w H h)(e:H a=some (.dK kvs)):kvs.length<=D_/\(a==sysModules)=false/\∃vs,KV kvs vs/\h.DictOf (bR P w) a vs:=Ls ok (.inl e)
theorem yH{ks:List Key}(ok:um P w H h)(e:H a=some (.tup (ks.map kV))):(tupleKind (bR P w)).is h ks a:=by
 obtain⟨_,its,r,o,h1,h2,n,h3⟩:=(show dF P w H h a (.tup (ks.map kV)) from ok a _ e);exact⟨o,its.toArray,n,h1,h2,h3,by simpa using Du r⟩
theorem Lr{kvs:List (List Key×V)}(ok:um P w H h)(e:Rd H a (.dT kvs)):kvs.length<=D_/\(a==sysModules)=false ∧
  ∃xs,KT H kvs xs/\h.DictOfH (tupleKind (bR P w)) a xs:=by
 obtain⟨z,y,xs,r,o,es,ep,h1,h2,h3,h4,h5⟩:=(show dF P w H h a (.dT kvs) from Sw ok e);refine⟨z,y,xs,r,o,es,ep,h1,h2,h3,h4,λx hx=>?_,h5⟩;have all:∀{l:List (List Key×V)} {m:List (List Key×U×k_)},KT H l m->∀x∈m,(tupleKind (bR P w)).is h x.1 x.2.1:=by
  intro l m q
  induction q with
  |nil=>intro x hx;exact nomatch hx
  | @cons p q ps qs hq t ih =>
   intro x hx;rcases B_.mp hx with e|hx
   ·subst e;exact yH ok (by rw[←hq.1];exact hq.2.1)
   ·exact ih x hx
 exact all r x hx
theorem Zb{kvs:List (List Key×V)}(ok:um P w H h)(e:H a=some (.dT kvs)):kvs.length<=D_/\(a==sysModules)=false ∧
  ∃xs,KT H kvs xs/\h.DictOfH (tupleKind (bR P w)) a xs:=Lr ok (.inl e)
end
def rW(H:Hp)(a:U)(y:V)(r:Option V):Prop :=
 (dP λkvs k=>Rd H a (.dK kvs)/\y=kV k/\r=jK kvs k)\/nN λkvs k b=>Rd H a (.dT kvs)/\y= .ref b/\H b=some (.tup (k.map kV))/\r=jK kvs k
def zZ(H:Hp)(a:U)(y v:V)(H':Hp):Prop :=
 (dP λkvs k=>H a=some (.dK kvs)/\y=kV k/\kvs.length<D_/\H'=upd H a (.dK (putK kvs k v))) ∨
 nN λkvs k b=>H a=some (.dT kvs)/\y= .ref b/\H b=some (.tup (k.map kV))/\kvs.length<D_/\H'=upd H a (.dT (putK kvs k v))
theorem rW.k{H:Hp}{a:U}{kvs:List (Key×V)}{k:Key}(e:H a=some (.dK kvs)):rW H a (kV k) (jK kvs k):=.inl ⟨kvs,k,.inl e,rfl,rfl⟩
theorem rW.t{H:Hp}{a b:U}{kvs:List (List Key×V)}{k:List Key}(e:H a=some (.dT kvs))(eb:H b=some (.tup (k.map kV))):rW H a (.ref b) (jK kvs k):=.inr ⟨kvs,k,b,.inl e,rfl,eb,rfl⟩
theorem zZ.k{H:Hp}{a:U}{kvs:List (Key×V)}{k:Key}{v:V}(e:H a=some (.dK kvs))(hl:kvs.length<D_):zZ H a (kV k) v (upd H a (.dK (putK kvs k v))):=.inl ⟨kvs,k,e,rfl,hl,rfl⟩
theorem zZ.t{H:Hp}{a b:U}{kvs:List (List Key×V)}{k:List Key}{v:V}(e:H a=some (.dT kvs))(eb:H b=some (.tup (k.map kV)))(hl:kvs.length<D_):
  zZ H a (.ref b) v (upd H a (.dT (putK kvs k v))):=.inr ⟨kvs,k,b,e,rfl,eb,hl,rfl⟩
section
variable{X:Cx}{pins:List (U×qa9)}{σ:St}{H:Hp}{s:n_}{a:U}{y v:V}{u r:k_}{o:Option V}{A:qab}{E:k_->n_->Prop}
theorem Inv.big(I:Inv X pins σ H s):sysModules<s.heap.objs.size:=by
 have h:J_<s.heap.objs.size:=(I.mod.glob.keeps I.bk).lt;exact qcd (by decide) h
theorem MO{Q:k_->n_->Prop}(hu:A.units+1<cLine)(I:Inv X pins σ H s)(g:rW H a y (some v))(ry:RelV y u)(h:∀w' s',Inv X pins σ H s'->RelV v w'->Q w' s'):
  C_ (model X.prog X.w) A (getItem (.ref a) u) Q E s:=by
 rcases g with⟨kvs,k,e,ey,l⟩|⟨kvs,k,b,e,ey,eb,l⟩
 ·subst ey;obtain⟨z,hd,vs,rel,dd⟩:=Ls I.hok e;obtain⟨w',hw,rw'⟩:=uq.some_of (v:=v) (o:=valueAt vs k) (by rw[l];exact rel.val k);exact wpAny_getItem_of (Bm ry) dd.mapOf hw (h w' _ (I.tok _) rw')
 ·subst ey;cases (show u=Value.ref b from ry);obtain⟨z,hd,xs,rel,dd⟩:=Lr I.hok e;obtain⟨w',hw,rw'⟩:=uq.some_of (v:=v) (o:=(atKey xs k).map (·.2)) (by rw[l];exact rel.val k);obtain⟨p,hp,hp2⟩:=qac.mp hw;refine qcs (tupleKind_room_in1 hu) (yH I.hok eb) dd hp ?_;rw[hp2];exact h w' _ (I.tok _) rw'
theorem ad1{Q:k_->n_->Prop}(hu:A.units+1<cLine)(I:Inv X pins σ H s)(g:rW H a y o)(ry:RelV y u)(h:∀s',Inv X pins σ H s'->Q (.bool o.isSome) s'):
  C_ (model X.prog X.w) A (compareOp .In u (.ref a)) Q E s:=by
 rcases g with⟨kvs,k,e,ey,l⟩|⟨kvs,k,b,e,ey,eb,l⟩
 ·subst ey;obtain⟨z,hd,vs,rel,dd⟩:=Ls I.hok e;refine wpAny_in_of (Bm ry) hd dd.mapOf ?_;rw[←(rel.val k).sD,←l];exact h _ (I.tok _)
 ·subst ey;cases (show u=Value.ref b from ry);obtain⟨z,hd,xs,rel,dd⟩:=Lr I.hok e;refine wpAny_in_heap (tupleKind_room_in1 hu) (yH I.hok eb) hd dd ?_;have q:=(rel.val k).sD;rw[Option.isSome_map]at q;rw[←q,←l];exact h _ (I.tok _)
theorem xW{h':W_}{t':Nat}{ob:HO}(I:Inv X pins σ H s)(mu:Zv (H a))(hs:qbB a s.heap h')(he:∃q,h'.get? a=some q)(new:dF X.prog X.w (upd H a ob) h' a ob)(ht:s.toks<=t':=by first|exact j_ _|exact qay _|assumption|omega):
  Inv X pins σ (upd H a ob) { s with heap:=h',toks:=t' } :=
 I.write (x:=a) (e:=a) mu (.inl rfl) (λb q hb z=>(hs.2 b hb).trans z) he new
theorem PL{P:r_}{w:I_}{H':Hp}{h':W_}{kvs:List (Key×V)}{vs:List (Key×k_)}(z:kvs.length<=D_)(hd:(a==sysModules)=false)(rel:KV kvs vs)(dd:h'.DictOf (bR P w) a vs):
  dF P w H' h' a (.dK kvs):=⟨z,hd,vs,rel,dd⟩
theorem MN{H':Hp}{Q:Unit->n_->Prop}(hu:A.units+1<cLine)(I:Inv X pins σ H s)(g:zZ H a y v H')(ry:RelV y u)(rv:RelV v r)(h:∀s',Inv X pins σ H' s'->Q () s'):
  C_ (model X.prog X.w) A (setItem (.ref a) u r) Q E s:=by
 rcases g with⟨kvs,k,e,ey,l,eH⟩|⟨kvs,k,b,e,ey,eb,l,eH⟩
 ·subst ey eH;obtain⟨z,hd,vs,rel,dd⟩:=Te I.hok e;have hz:vs.length<=D_:=by rw[←rel.length];exact z
  have hl:(putK kvs k v).length<=D_:=by have:=gE kvs k v;omega
  refine wpAny_setItem_pairs (hsz:=hz) (Bm ry) dd λh' RX hs=>h _ ?_
  have he:∃q,h'.get? a=some q:=let ⟨q,_,_,hq,_⟩:=RX;⟨q,hq⟩
  exact xW I (by rw[e];exact True.intro) hs he (PL hl hd (rel.put k rv) RX)
 ·subst ey eH;cases (show u=Value.ref b from ry);obtain⟨z,hd,xs,rel,dd⟩:=Zb I.hok e;have hz:xs.length<=D_:=by rw[←Paired.length rel];exact z
  have hl:(putK kvs k v).length<=D_:=by have:=gE kvs k v;omega
  refine wpAny_setItem_heap (hsz:=hz) (tupleKind_room_in1 hu) (yH I.hok eb) dd λh' RX hs=>h _ ?_;obtain⟨q,es,ep,hq,h2,h3,h4,_,h5⟩:=RX;refine xW I (by rw[e];exact True.intro) hs ⟨q,hq⟩ ⟨hl,hd,_,(rel.put k eb rv).keeps λc ys ec=>?_,q,es,ep,hq,h2,h3,h4,h5⟩
  rw[av (uc ec e (λz=>nomatch z))]
  exact ec
end
section
variable{X:Cx}{pins:List (U×qa9)}{σ:St}{H:Hp}{s:n_}{a:U}{kvs:List (Key×V)}{k:Key}{u:k_}{A:qab}{E:k_->n_->Prop}
end
def Sd(i:Expr):Prop:=∀ov iv,subscripted i false ov iv=operate [ov,iv] (getItem ov iv)
theorem xg{prog:r_}{w:I_}{A:qab}{E:k_->n_->Prop}{s:n_}{env:Env}{value slice:Expr}{pos:qbO}{T id:String}{Q:k_->n_->Prop}
  (hl:typeLookup (.type T) "__getitem__" =pure (some (.builtin id))) (hs:Sd slice)
  (h:C_ (model prog w) A (eval value env) (λo s₁=>C_ (model prog w) A (eval slice env) (λi s₂=>s₂.TypeIs o T/\C_ (model prog w) A (getItem o i) Q E s₂) E s₁) E s) :
  C_ (model prog w) A (eval (.Subscript value slice pos) env) Q E s:=by
 refine Subscript_ (qaK h (λo s₁ h₁=>qaK h₁ (λi s₂ h₂=>?_) λ_ _ x=>x) λ_ _ x=>x);obtain⟨hT,h₂⟩:=h₂;unfold subscriptTail;refine f_ ?_;rw[getitemInPython_of_ne hT.not_modules];refine f_ (qco hT hl ?_);have fin:C_ (model prog w) A (subscripted slice false o i) (λr s₃=>C_ (model prog w) A (letTemporaryGo value o r >>= λ_=>pure r) Q E s₃) E s₂:=by
  rw[hs o i];exact wpAny_operating (qaK h₂ (λr s₃ h₃=>f_ (wpAny_letTemporaryGo (q_ h₃))) λ_ _ x=>x)
 first
  |exact q_ (f_ fin)
  |exact f_ (q_ (f_ fin))
  |exact f_ fin
theorem Hh{X:Cx}{pins:List (U×qa9)}{σ:St}{H:Hp}{s:n_}{a:U}{y:V}{o:Option V}(I:Inv X pins σ H s)(g:rW H a y o):s.TypeIs (.ref a) "dict" :=by
 rcases g with⟨kvs,k,e,_,_⟩|⟨kvs,k,b,e,_,_,_⟩
 ·obtain⟨_,_,vs,_,dd⟩:=Ls I.hok e;exact dd.typeIs
 ·obtain⟨_,_,xs,_,dd⟩:=Lr I.hok e;exact dd.typeIs
def W5(td ty:TE):TE:=λσ H Q=>td σ H λx H1=>ty σ H1 λy H2=>dP λa v=>x= .ref a/\rW H2 a y (some v)/\Q v H2
def Xj(td ty tv:TE):TS:=λD σ H=>tv σ H λv H1=>td σ H1 λx H2=>ty σ H2 λy H3=>dP λa H4=>x= .ref a/\zZ H3 a y v H4/\D.nx σ H4
section
variable{X:Cx}{o i e value:Expr}{pos pos' tpos:qbO}{td ty tv:TE}
theorem i8(hu:X.A.units+1<cLine)(ho:PE X o td)(hi:PE X i ty)(hs:Sd i):PE X (.Subscript o i pos) (W5 td ty):=by
 intro pins s σ H Q I h;refine xg PySem.F.slot_dict_getitem.lookup hs (fR (ho pins s σ H _ I h) λu s1 ⟨x,H1,I1,rx,q1⟩=>fR (hi pins s1 σ H1 _ I1 q1) λiv s2 ⟨y,H2,I2,ry,a,v,ex,g,q2⟩=>?_);subst ex;obtain rfl:u=Value.ref a:=rx;exact⟨Hh I2 g,MO hu I2 g ry λw' s3 I3 rw'=>⟨v,H2,I3,rw',q2⟩⟩
theorem vq(hu:X.A.units+1<cLine)(ho:PE X o td)(hi:PE X i ty)(hv:PE X value tv)(hs:swapsWith value (some (.Subscript o i pos')) pos.line X.env=pure false):
  PS X (.Assign [.Subscript o i pos'] value pos) (Xj td ty tv):=by
 intro pins s σ H D I h;refine wpAny_Assign_Subscript (fR (hv pins s σ H _ I h) λr s1 ⟨v,H1,I1,rv,q1⟩=>fR (ho pins s1 σ H1 _ I1 q1) λu s2 ⟨x,H2,I2,rx,q2⟩=>fR (hi pins s2 σ H2 _ I2 q2) λiv s3 ⟨y,H3,I3,ry,a,H4,ex,g,q3⟩=>?_) hs;subst ex;obtain rfl:u=Value.ref a:=rx;exact MN hu I3 g ry rv λs4 I4=>⟨σ,H4,I4,q3⟩
end
theorem Hg{P:r_}{w:I_}{H:Hp}(h:W_)(hb:sysModules<h.objs.size):dF P w H (h.push { cls:=.type "dict",data:=.dict #[] }) h.objs.size (.dK []) :=
 ⟨Q_ _,beq_eq_false_iff_ne.mpr (Ne.symm (R_ hb)),[],.nil,Heap.DictOf.new h⟩
theorem PK{P:r_}{w:I_}{H:Hp}(h:W_)(hb:sysModules<h.objs.size):dF P w H (h.push { cls:=.type "dict",data:=.dict #[] }) h.objs.size (.dT []) :=
 ⟨Q_ _,beq_eq_false_iff_ne.mpr (Ne.symm (R_ hb)),[],.nil,_,#[],0,t_ _ rfl,⟨rfl,rfl,rfl⟩,rfl,rfl,qbg⟩
def UA:TE:=λ_ H Q=>∀p,H p=none->Q (.ref p) (upd H p (.dK []))
def Uz:TE:=λ_ H Q=>∀p,H p=none->Q (.ref p) (upd H p (.dT []))
section
variable{X:Cx}{pos:qbO}
theorem qJ:PE X (.Dict [] [] pos) UA:=λpins s σ H Q I h =>
 wpAny_Dict_empty ⟨.ref s.heap.objs.size,_,I.laid (a:=s.heap.objs.size) (o:=.dK []) (t':=s.toks) (λ_ _ q=>m_ _ q) (j_ _) (Hg s.heap I.big),rfl,h _ (I.hok.fresh (j_ _))⟩
theorem Gs:PE X (.Dict [] [] pos) Uz:=λpins s σ H Q I h =>
 wpAny_Dict_empty ⟨.ref s.heap.objs.size,_,I.laid (a:=s.heap.objs.size) (o:=.dT []) (t':=s.toks) (λ_ _ q=>m_ _ q) (j_ _) (PK s.heap I.big),rfl,h _ (I.hok.fresh (j_ _))⟩
end
noncomputable def IF:List (TE×TE)->St->Hp->(List (V×V)->Hp->Prop)->Prop
 |[],_,H,Q=>Q [] H
 |(tk,tv)::r,σ,H,Q=>tk σ H λx H1=>tv σ H1 λy H2=>IF r σ H2 λps H3=>Q ((x,y)::ps) H3
noncomputable abbrev VV:List (V×V)->List (k_×k_)->Prop:=Paired λp q=>RelV p.1 q.1/\RelV p.2 q.2
def PPs(X:Cx)(pos:qbO)(keys:List (Option Expr))(values:List Expr)(QN:List (TE×TE)):Prop :=
 ∀(pins:List (U×qa9)) (s:n_) (σ:St) (H:Hp) (Q:List (V×V)->Hp->Prop),Inv X pins σ H s->IF QN σ H Q →
  C_ (model X.prog X.w) X.A (evalPairs (pairTrees keys values X.env pos)) (λvs s'=>dP λps H'=>Inv X pins σ H' s'/\VV ps vs/\Q ps H') X.xe s
theorem Q9{X:Cx}{pos:qbO}:PPs X pos [] [] []:=λpins s σ H Q I h=>pairTrees_nil_walk ⟨[],H,I,.nil,h⟩
theorem Gq{X:Cx}{pos:qbO}{k v:Expr}{ks:List (Option Expr)}{vs:List Expr}{tk tv:TE}{QN:List (TE×TE)}(hk:PE X k tk)(hv:PE X v tv)(hr:PPs X pos ks vs QN):
  PPs X pos (some k::ks) (v::vs) ((tk,tv)::QN):=λpins s σ H Q I h =>
 pairTrees_cons_walk (fR (hk pins s σ H _ I h) λu s1 ⟨x,H1,I1,rx,q1⟩=>fR (hv pins s1 σ H1 _ I1 q1) λw2 s2 ⟨y,H2,I2,ry,q2⟩ =>
  fR (hr pins s2 σ H2 _ I2 q2) λws s3 ⟨ps,H3,I3,rel,q3⟩=>⟨(x,y)::ps,H3,I3,.cons ⟨rx,ry⟩ rel,q3⟩)
noncomputable def oi(kvs more:List (Key×V)):List (Key×V):=more.foldl (λacc kv=>putK acc kv.1 kv.2) kvs
theorem KV.merge:∀{more:List (Key×V)} {rs:List (Key×k_)} {kvs:List (Key×V)} {vs:List (Key×k_)},KV more rs->KV kvs vs->KV (oi kvs more) (merged vs rs):=by
 intro more rs kvs vs r;unfold KV at r
 induction r generalizing kvs vs with
 |nil=>intro q;exact q
 | @cons p q ps qs h t ih =>
  intro r0;have e:KV (putK kvs p.1 p.2) (stored vs q.1 q.2):=by
   have:=r0.put p.1 h.2;rw[←h.1];exact this
  exact ih e
theorem rP:∀(more kvs:List (Key×V)),(oi kvs more).length<=kvs.length+more.length
 |[],kvs=>by show kvs.length<=kvs.length+0;omega
 |p::r,kvs=>by
  have h1:=rP r (putK kvs p.1 p.2);have h2:=gE kvs p.1 p.2;show(oi (putK kvs p.1 p.2) r).length<=_;rw[qaa];omega
theorem BC{P:r_}{w:I_}:∀{kvs:List (Key×V)} {ws:List (k_×k_)},VV (kvs.map λkv=>(kV kv.1,kv.2)) ws->∃rs,Carries (bR P w) ws rs/\KV kvs rs
 |[],_,r=>by rw[List.map_nil]at r;cases r;exact⟨[],True.intro,.nil⟩
 |p::kvs,_,r=>by
  rw[Y_]at r
  cases r with
  | @cons a b as bs h t =>
   obtain⟨rs,c,q⟩:=BC (P:=P) (w:=w) t;obtain⟨b1,b2⟩:=b;exact⟨(p.1,b2)::rs,⟨Bm h.1,Y,c⟩,.cons ⟨Y,h.2⟩ q⟩
def W4(QN:List (TE×TE)):TE:=λσ H Q=>∀p,H p=none->IF QN σ (upd H p (.dK [])) λps H2=>H2 p=some (.dK [])/\∃kvs:List (Key×V),ps=kvs.map (λkv=>(kV kv.1,kv.2))/\kvs.length<=15/\Q (.ref p) (upd H2 p (.dK (oi [] kvs)))
theorem Rf{X:Cx}{pos:qbO}{keys:List (Option Expr)}{values:List Expr}{QN:List (TE×TE)}(h:PPs X pos keys values QN)(hall:keys.all (·.isSome)=true)(hl:keys.length=values.length)(h0:keys≠[])
  (h15:keys.length<=15):PE X (.Dict keys values pos) (W4 QN):=by
 intro pins s σ H Q I q;have hn:=I.hok.fresh (j_ s.heap.objs.size);have I1:=I.laid (a:=s.heap.objs.size) (o:=.dK []) (h':=s.heap.push { cls:=.type "dict",data:=.dict #[] }) (t':=s.toks) (λ_ _ q=>m_ _ q) (j_ _) (Hg s.heap I.big);refine wpAny_Dict_walk (knd:=bR X.prog X.w) hall hl h0 h15 (fR (h pins _ σ _ _ I1 (q _ hn)) λws s2 ⟨ps,H2,I2,rel,e,kvs,ep,lk,q2⟩=>?_);subst ep;obtain⟨rs,c,rk⟩:=BC (P:=X.prog) (w:=X.w) rel;obtain⟨z,hd,vs0,r0,dd⟩:=Te I2.hok e;cases r0;refine⟨rs,c,dd,λh' RX hs=>⟨.ref s.heap.objs.size,_,?_,Y,q2⟩⟩;have hz:(oi [] kvs).length<=D_:=by
  have h1:=rP kvs [];rw[List.length_nil]at h1;rw[sizeLine_eq];omega
 have he:∃q,h'.get? s.heap.objs.size=some q:=let ⟨q,_,_,hq,_⟩:=RX;⟨q,hq⟩
 exact xW I2 (by rw[e];exact True.intro) hs he (PL hz hd (rk.merge .nil) RX)
section
variable{X:Cx}{pins:List (U×qa9)}{σ:St}{H:Hp}{s:n_}{a:U}{y d:V}{u r:k_}{o:Option V}{A:qab}{E:k_->n_->Prop}
end
section
variable{X:Cx}{o e f:Expr}{apos cpos:qbO}{td ty tx:TE}
end
section
variable{X:Cx}{pins:List (U×qa9)}{σ:St}{H:Hp}{s:n_}{a:U}{kvs:List (Key×V)}{A:qab}{E:k_->n_->Prop}
end
section
variable{X:Cx}{pins:List (U×qa9)}{σ:St}{H:Hp}{s:n_}{a:U}{y:V}{u:k_}{A:qab}{E:k_->n_->Prop}
end
end
end L2
namespace Att
open PySem PySem.W PySem.Calls PyProof.Rows
theorem zK{P:Params}{h:W_}:∀(ns:List Int) (vs:List k_),WellAll P h vs (ns.map WData.int)->IntsAre vs ns:=by
 intro ns
 induction ns with
 |nil =>
  intro vs w;rw[List.map_nil]at w;cases w;exact .nil
 |cons n ns ih =>
  intro vs w;rw[Y_]at w
  cases w with
  |cons a b =>
   cases a;exact .cons _ _ (ih _ b)
theorem LX{l:OpenLaw}{n:Nat}(hn:l.most=some n){P:Params}{h:W_}{args:List WData}{vals:List k_}
  (hpre:l.row.toRowW.claim.pre args=true) (hwl:WellAll P h vals args) :
  nN λa vs ns=>vals=[Value.ref a]/\args=[WData.list (ns.map WData.int)]/\h.get? a=some { cls:=.type "list",data:=.seq vs.toArray }/\IntsAre vs ns/\ns.length<=n:=by
 have hsh:WShape.hasAll [] args [.list .int]=true:=(pre_splitW hpre).1;have hc:l.pre.holds [] { args:=args }=true:=(pre_splitW hpre).2;obtain⟨d,r,rfl,h1,h2⟩:=hasAllW_cons hsh;obtain rfl:=hasAllW_nil h2;obtain⟨xs,rfl,h3⟩:=hasW_list h1;obtain⟨ns,rfl⟩:=items_int h3;have hlen:ns.length<=n:=by
  unfold OpenLaw.pre at hc;have h4:(WTm.not (.lt (.lit (.int (n:Int))) (.len (.arg 0)))).holds [] { args:=[.list (ns.map .int)] }=true:=by
   have h4:=(holds_andW hc).1;rw[hn]at h4;exact h4
  have h5:=condW_of h4 (w_not (w_lt w_lit (w_len_list (w_arg rfl))));rw[l_]at h5;refine qcH λq=>?_;have q':(n:Int)<((ns.length:Nat):Int):=by omega
  first
   |(rw[decide_eq_true q']at h5;exact absurd h5 (by decide))
   |(simp at h5;omega)
 cases hwl with
 |cons w1 w2 =>
  cases w2
  cases w1 with
  |list ho hall=>exact⟨_,_,ns,Y,Y,ho,zK ns _ hall,hlen⟩
theorem L3(l:OpenLaw)(args:List WData):l.row.toRowW.claim.post args (.bool true) args=true :=
 postW_of (r:=l.row.toRowW) (X:=(true==true))
  (show WShape.has [] (.bool true) .bool=true by first|rfl|decide|simp[WShape.has,WShape.arms,WShape.armsAll])
  (show(WTm.eq .res (.lit (.bool true))).value [] { args:=args,res:=some (.bool true),after:=args }=some (.bool (true==true)) from w_eq_bool (w_res rfl) w_lit) rfl
section
variable{prog:r_}{w:I_}{A:qab}{E:k_->n_->Prop}{s:n_}{K:Frag}
end
end Att
namespace L2
open PySem PySem.Spec PyProof.Rows
section
theorem C0:∀{vs:List k_} {ns:List Int},IntsAre vs ns->Vals (ns.map V.int) vs
 |_,_,.nil=>.nil
 |_,_,.cons n t h=>.cons ⟨t,rfl⟩ (C0 h)
end
section
end
section
noncomputable def inClass(s:qam)(j:Nat):qam:=match s with
 | .ClassDef _ _ _ body _ _ _ _ _ _ _=>body.getD j (.Pass ⟨0,0,0,0⟩)
 |_=>.Pass ⟨0,0,0,0⟩
noncomputable def je(s:qam):qcb:=match s with
 | .FunctionDef _ a _ _ _ _ _ _ _ _=>a
 |_=>{ posonlyargs:=[],args:=[],vararg:=none,kwonlyargs:=[],kw_defaults:=[],kwarg:=none,defaults:=[] }
noncomputable def fH(s:qam):List qam:=match s with
 | .FunctionDef _ _ b _ _ _ _ _ _ _=>b
 |_=>[]
noncomputable def au(s:qam):qbn:=match s with
 | .FunctionDef _ _ _ _ _ _ sc _ _ _=>sc
 |_=>{ kind:=.function,names:=[],isGenerator:=false,isCoroutine:=false }
noncomputable abbrev bL:Qv:=λ_ _ _ _ _ _=>False
noncomputable abbrev E0:XK:=λ_ _ _=>False
theorem aK{X:Cx}:Passes bL X E0:=λ_ _ _ _ _ _ _ h=>h.elim
structure Nm(K:PySem.W.Frag)(x qual:v_)(st:qam)(f:U)(fd:F_):Prop where
 ex:HA λ(oc:k_) (od:Option U) (dV kV doc pm:k_) (an:Option U) (cdv ct:k_) (osl:Array (Option k_)) =>
  fd=PySem.W.fnOf x qual (je st) (fH st) (au st) dV kV doc pm an cdv ct/\K.lookup f=some ⟨oc,od,.func fd,osl⟩/\PySem.W.codeIn K cdv qual=true
 kp:PySem.W.keepIn K (.ref f)=true
section
variable{P:r_}{w:I_}{K:PySem.W.Frag}{mg:v_->Option k_}{base:W_}
theorem Nm.ok{x qual:v_}{st:qam}{f:U}{fd:F_}{N ps:List v_}{k:Nat}{sp:Sp}(F:Nm K x qual st f fd)(S:aE N ps (au st))(len:∀vs H Q E,sp vs H Q E->vs.length=ps.length)
  (hbody:∀(cdv:k_) (A:qab) (outer:List Env) (s:n_) (H:Hp) (vs:List V) (Q:VK) (E:XK),nP k (A.deeper (envOfC qual (au st) s.heap.objs.size f cdv))->sp vs H Q E →
   ∃t,Fv (Hl bL P w K mg base N qual (au st) f cdv A outer s H E).UW (fH st) t/\t { nx:=λ_ H'=>Q .jG H',rt:=Q } (start N vs) H):aH P w K mg base bL (k+1) f fd ps sp:=by
 obtain⟨oc,od,dV,kV,doc,pm,an,cdv,ct,osl,rfl,lk,hcd⟩:=F.ex;refine Td lk hcd S len λA outer s H vs Q E hr Nk=>?_;obtain⟨t,h,q⟩:=hbody cdv A outer s H vs Q E hr Nk;exact⟨t,h.UW,q⟩
theorem Br{x qual:v_}{st:qam}{f:U}{oc:k_}{od an:Option U}{osl:Array (Option k_)}{dV kV doc pm cdv ct:k_}(l:K.lookup f=some ⟨oc,od,.func (PySem.W.fnOf x qual (je st) (fH st) (au st) dV kV doc pm an cdv ct),osl⟩)
  (c:PySem.W.codeIn K cdv qual=true) (k:PySem.W.keepIn K (.ref f)=true):Nm K x qual st f (PySem.W.fnOf x qual (je st) (fH st) (au st) dV kV doc pm an cdv ct):=⟨⟨oc,od,dV,kV,doc,pm,an,cdv,ct,osl,rfl,l,c⟩,k⟩
end
theorem jH{A:qab}{k:Nat}(hr:nP k A):A.units+1<cLine:=w_ (Nat.add_le_add_left (by decide:1<=64) _) hr.units
section
variable{X:Cx}
theorem pv (i:Nat){x:v_}{pos:qbO}(hN:X.N[i]? =some x:=by rfl)(hv:Vis X.env.scope x:=by first|exact Or.inl rfl|exact Or.inr (Or.inl Y)|exact Or.inr (Or.inr Y))(hd:(x==("__debug__" :v_))=false:=by decide)
  (hcd:(x==("__classdict__" :v_))=false:=by decide):PE X (.Name x pos) (WM i):=UR hN hv hd hcd
end
theorem gF{A B:Prop}(h:B):if false=true then A else B:=by
 rw[if_neg y_];exact h
theorem om{A B:Prop}(h:A):if true=true then A else B:=by
 rw[if_pos rfl];exact h
def ak(H H':Hp):Prop:=∀b o,H b=some o->H' b=some o
theorem ak.refl(H:Hp):ak H H:=λ_ _ h=>h
theorem ak.trans{H H1 H2:Hp}(a:ak H H1)(b:ak H1 H2):ak H H2:=λc o h=>b c o (a c o h)
theorem ak.free{H H':Hp}(e:ak H H'){l:U}(h:H' l=Option.none):H l=Option.none:=by
 cases q:H l with
 |none=>rfl
 |some o =>
  rw[e l o q]at h;cases h
theorem ak.seq{K:PySem.W.Frag}{H H':Hp}{a:U}{xs:List V}(e:ak H H')(h:bW K H a xs):bW K H' a xs:=by
 rcases h with(h|⟨o,h⟩)|h
 ·exact .inl (.inl (e _ _ h))
 ·exact .inl (.inr ⟨o,e _ _ h⟩)
 ·exact .inr h
section
variable{κ:Type}[DecidableEq κ]
end
end
end L2
namespace GP
theorem Rw{α:Type}:∀{l:List α},l.length=1->∃a,l=[a]
 |[a],_=>⟨a,rfl⟩
theorem GQ{α:Type}{n:Nat}:∀{l:List α},l.length=n+1->∃a r,l=a::r/\r.length=n
 |a::r,h=>⟨a,r,rfl,Nat.succ.inj h⟩
theorem Vb{α:Type}{l:List α}(h:l.length=2):∃a b,l=[a,b]:=by
 obtain⟨a,r,rfl,k⟩:=GQ h;obtain⟨b,rfl⟩:=Rw k;exact⟨a,b,Y⟩
theorem Rv{α:Type}{l:List α}(h:l.length=3):∃a b c,l=[a,b,c]:=by
 obtain⟨a,r,rfl,k⟩:=GQ h;obtain⟨b,c,rfl⟩:=Vb k;exact⟨a,b,c,Y⟩
theorem Ru{α:Type}{l:List α}(h:l.length=4):∃a b c d,l=[a,b,c,d]:=by
 obtain⟨a,r,rfl,k⟩:=GQ h;obtain⟨b,c,d,rfl⟩:=Rv k;exact⟨a,b,c,d,Y⟩
theorem O0{α:Type}{l:List α}(h:l.length=5):∃a b c d e,l=[a,b,c,d,e]:=by
 obtain⟨a,r,rfl,k⟩:=GQ h;obtain⟨b,c,d,e,rfl⟩:=Ru k;exact⟨a,b,c,d,e,Y⟩
theorem XE{α:Type}{l:List α}(h:l.length=6):∃a b c d e f,l=[a,b,c,d,e,f]:=by
 obtain⟨a,r,rfl,k⟩:=GQ h;obtain⟨b,c,d,e,f,rfl⟩:=O0 k;exact⟨a,b,c,d,e,f,Y⟩
end GP
namespace L2
open PySem PySem.Spec PyProof.Rows
section
section
variable{X:Cx}
theorem DE:∀{bs:List Bool} {us:List k_},Vals (bs.map V.bl) us->∀(i:Nat) (v:k_),us[i]? =some v->∃b,bs[i]? =some b/\v= .bool b
 |[],_,r,i,v,e=>by
  cases r;simp at e
 |b::bs,_,r,i,v,e=>by
  cases r with
  |cons r1 r2 =>
   cases i with
   |zero =>
    simp at e;subst e;exact⟨b,Y,r1⟩
   |succ i =>
    obtain⟨c,h1,h2⟩:=DE r2 i v (by simpa using e);exact⟨c,by simpa using h1,h2⟩
theorem IW(bs:List Bool):((S_ bs.length).all λi=>(bs[i]?).getD true)=bs.all id:=by
 rw[qcn,qbI,qbI];constructor
 ·intro h b hb;obtain⟨i,hi,rfl⟩:=qa7 hb;have:=h i (qbe.mpr hi);simpa only[g_ hi,Option.getD_some,id]using this
 ·intro h i hi;have hi':=qbe.mp hi;simpa only[g_ hi',Option.getD_some,id]using h _ (qaH hi')
theorem zl(hc:X.calm=true):pM X (.builtin "all") (λxs H Q=>dP λ(l:U) (bs:List Bool)=>xs=[.ref l]/\bW X.K H l (bs.map V.bl)/\Q (.bl (bs.all id)) H):=by
 intro pins s σ H xs us Q I r h;obtain⟨l,bs,rfl,hl,q⟩:=h;obtain⟨u,rfl,ru⟩:=vals1 r;cases ru;obtain⟨its,rv,p,hz⟩:=I.list hl;have pl:s.heap.IsList l its.toArray:=p.isList;have hlt:l<s.heap.objs.size:=by obtain⟨_,e,_⟩:=pl;exact E_ e
 have hlen:bs.length=its.length:=by rw[←rv.length,l_]
 refine TK.bX (j_ s.toks) ?_;refine call_all_walk (qaY pl ?_);refine⟨s.heap.objs.size,[s.heap.objs.size,l],[s.heap.objs.size],its.toArray.size,_,_,λi=>(bs[i]?).getD true,Y,qct (A:=X.A.in1) (I.ok.hd hc) _ l (R_ hlt) its.toArray,
  ⟨⟨_,t_ _ rfl,rfl,rfl⟩,pl.push _⟩,λi v s' Q' E' hP hQ=>?_,λh' tk hk hup=>?_⟩
 ·obtain⟨b,e,rfl⟩:=DE rv i v (by simpa using hP);simp only[e,Option.getD_some]at hQ;exact qaD hQ
 ·have e:((S_ its.toArray.size).all λi=>(bs[i]?).getD true)=bs.all id:=by
   rw[K_,←hlen];exact IW bs
  rw[e];refine⟨.bl (bs.all id),H,I.kept (t':=tk) (λb x e=>hk b x (λhm=>?_) (m_ _ e)),Y,q⟩;rw[x_.mp hm]at e;exact qap _ (E_ e)
end
theorem K0{X:Cx}{K':PySem.W.Frag}{es:List Expr}{k:Nat}{t:Th}{n:Nat}{pos:qbO}(hK:X.K=K')(hc:X.calm=true)(h:Zs X es t)
  (hn:(assignEach es X.env).length=n:=by rfl) (hst:(assignEach es X.env).findIdx? (·.1)=none:=by rfl):PG X (.Tuple es k pos) (Y3 K' n t):=by
 subst hK;exact nA hc h hn hst
def abZ(t u:TS):TS:=λD σ H=>∃Mid:St->Hp->Prop,t { D with nx:=Mid } σ H/\∀ σ' H',Mid σ' H'->u D σ' H'
theorem br{X:Cx}{st:qam}{rest:List qam}{t u:TS}(h1:PS X st t)(h2:Fv X rest u):Fv X (st::rest) (abZ t u):=by
 intro pins s σ H D I h;obtain⟨Mid,h,hm⟩:=h;refine qcF (fR (h1 pins s σ H { D with nx:=Mid } I h) λf s1 q=>?_)
 cases f with
 |next =>
  obtain⟨σ',H',I',q⟩:=q;exact h2 pins s1 σ' H' D I' (hm σ' H' q)
 |ret v=>exact q
 |brk=>exact q
 |cont=>exact q
noncomputable def jT(X:Cx)(scope:qbn)(cl:List (v_×U))(C:U)(N:List v_)(s:n_)(H:Hp)(ex:List U)(pn:List (U×qa9))(E:k_->n_->Prop):Cx :=
 { X with N:=N,s₀:=s,H₀:=H,env:=compEnvC scope cl C X.env,outer:=X.stack,ex:=ex,fn:=λx=>scope.names.lookup x==some .cell,pn:=pn,xe:=E }
structure ee(X:Cx)(scope:qbn)(cl:List (v_×U))(N:List v_)(sQ:St->St):Prop where
 clos:closureFor scope X.env=pure cl
 kind:scope.kind= .function
 cell:∀y∈scope.names,y.2= .cell->cl.lookup y.1=none
 names:∀y∈scope.names,y.2= .local->scope.names.lookup y.1=some .local
 sub:∀x c,cl.lookup x=some c->X.env.cells.lookup x=some c
 has:∀x,((relabel scope X.env).names.lookup x=some .cell\/(relabel scope X.env).names.lookup x=some .free)->scope.names.lookup x=some .cell\/∃c,cl.lookup x=some c
 len:∀ σ,(sQ σ).length=N.length
 fv:∀(σ:St) (i:Nat) (x:v_) (v:V),N[i]? =some x->(sQ σ)[i]? =some (some v)->Vis (relabel scope X.env) x →
  dP λ(j:Nat) (c:U)=>X.N[j]? =some x/\σ[j]? =some (some v)/\X.env.kindOf x=some .cell/\((relabel scope X.env).names.lookup x=some .cell\/(relabel scope X.env).names.lookup x=some .free)/\cl.lookup x=some c
structure Qu(cl JQ:List (v_×U))(scope:qbn)(n:Nat)(h₁:W_):Prop where
 look:∀x c,JQ.lookup x=some c->(n<c/\h₁.IsCell c none)\/cl.lookup x=some c
 inj:∀x y c,n<c->JQ.lookup x=some c->JQ.lookup y=some c->(∀x,cl.lookup x≠some c)->x=y
 keep:∀x c,cl.lookup x=some c->JQ.lookup x=some c
 own:∀x,scope.names.lookup x=some .cell->∃c,JQ.lookup x=some c
theorem jD:∀(names:List (v_×qbC)) (n:Nat) (acc:List (v_×U)),cellsFrom n names acc=cellsFrom n names []++acc
 |[],_,_=>rfl
 |(y,k)::r,n,acc=>by
  unfold cellsFrom;split
  ·rw[jD r _ ((y,n)::acc),jD r _ [(y,n)],qa6];rfl
  ·exact jD r n acc
theorem rR:∀(names:List (v_×qbC)) (n:Nat) (acc:List (v_×U)) (x:v_) (c:U),(x,c)∈cellsFrom n names acc->(x,qb2)∈names\/(x,c)∈acc
 |[],_,_,_,_,h=>.inr h
 |(y,k)::r,n,acc,x,c,h=>by
  unfold cellsFrom at h;split at h
  next hk =>
   rcases rR r _ _ x c h with z|z
   ·exact .inl (s_ _ z)
   ·rcases B_.mp z with e|e
    ·cases e;have hk':k= .cell:=by simpa using hk
     rw[hk'];exact .inl z_
    ·exact .inr e
  next=>exact(rR r _ _ x c h).imp (s_ _) id
theorem PX{X:Cx}{scope:qbn}{cl:List (v_×U)}{N:List v_}{sQ:St->St}(S:ee X scope cl N sQ){M:Model}{A:qab}{E:k_->n_->Prop}{s:n_}{Q:Env->n_->Prop}
  (h:∀JQ h₁,Qu cl JQ scope s.heap.objs.size h₁->h₁.Ns s.heap.objs.size (λ_=>none)->(∀b o,s.heap.get? b=some o->h₁.get? b=some o)->Q { compEnvC scope JQ s.heap.objs.size X.env with scope:=scope } { s with heap:=h₁ }) :
  C_ M A (newFunctionEnv scope X.env.globals cl [] X.env.qual none .none (some X.env)) Q E s:=by
 simp only[newFunctionEnv,Option.isSome_some,if_true];refine f_ (wpAny_alloc ?_);refine f_ (wpAny_layCells _ (λname kind cells=>by cases hkc:kind==qb2<;>simp[hkc]) _ _ _ _ ?_);have hz:(s.heap.push { cls:=.type "dict",data:=.dict #[] }).objs.size=s.heap.objs.size+1:=qaT ..
 have ok:=cellsFrom_ok scope.names (s.heap.push { cls:=.type "dict",data:=.dict #[] }) (s.heap.objs.size+1) [] ⟨λ_ _ hm=>(nomatch hm),List.Pairwise.nil⟩ (by rw[hz];exact j_ _)
 simp only[List.forIn_nil];refine f_ (q_ (q_ (h (cellsFrom (s.heap.push { cls:=.type "dict",data:=.dict #[] }).objs.size scope.names cl) _ ⟨λx c e=>?_,λx y c _ ex ey hn=>?_,λx c e=>?_,λx e=>?_⟩ ((Heap.Ns.new s.heap (.type "dict")).keeps λb o e=>pushCells_keeps _ _ _ _ e) λb o e=>pushCells_keeps _ _ _ _ (m_ _ e))))
 ·rw[jD,List.lookup_append]at e
  cases q:(cellsFrom (s.heap.push { cls:=.type "dict",data:=.dict #[] }).objs.size scope.names []).lookup x with
  |none=>rw[q]at e;exact .inr e
  |some d =>
   rw[q]at e;cases e;exact .inl ((ok.empty x c (mem_of_lookup q)).symm)
 ·rw[jD,List.lookup_append]at ex ey
  cases qx:(cellsFrom (s.heap.push { cls:=.type "dict",data:=.dict #[] }).objs.size scope.names []).lookup x with
  |none=>rw[qx]at ex;exact absurd ex (hn x)
  |some d =>
   rw[qx]at ex;cases ex
   cases qy:(cellsFrom (s.heap.push { cls:=.type "dict",data:=.dict #[] }).objs.size scope.names []).lookup y with
   |none=>rw[qy]at ey;exact absurd ey (hn y)
   |some d =>
    rw[qy]at ey;cases ey;exact name_of_addr ok.apart (mem_of_lookup qx) (mem_of_lookup qy)
 ·rw[jD,List.lookup_append]
  cases q:(cellsFrom (s.heap.push { cls:=.type "dict",data:=.dict #[] }).objs.size scope.names []).lookup x with
  |none=>exact e
  |some d =>
   rcases rR _ _ _ _ _ (mem_of_lookup q)with z|z
   ·rw[S.cell _ z rfl]at e;cases e
   ·cases z
 ·exact qbD.mp (PySem.W.cellsFrom_some _ _ _ (.inl e))
theorem ee.plain{X:Cx}{scope:qbn}{N:List v_}(hfree:∀x∈scope.names,x.2≠ .free)(kind:scope.kind= .function)(_:∀y∈scope.names,y.2= .cell->(y.1,qah)∉scope.names)
  (names:∀y∈scope.names,y.2= .local->scope.names.lookup y.1=some .local):ee X scope [] N (λ_=>qae N.length none):=by
 have hr:(relabel scope X.env).names=scope.names:=by
  unfold relabel;exact map_eq_self λx hx=>by
   obtain⟨n,k⟩:=x;have:(k==qah)=false:=by simpa using hfree _ hx
   simp[this]
 refine⟨closureFor_none hfree,kind,λ_ _ _=>rfl,names,λx c e=>by simp at e,λx hx=>?_,λσ=>qaZ,λσ i x v _ e _=>?_⟩
 ·rw[hr]at hx;rcases hx with hx|hx
  ·exact .inl hx
  ·exact absurd Y (hfree _ (PySem.mem_of_lookup hx))
 ·rw[qbH]at e;split at e
  ·cases e
  ·cases e
noncomputable def sM(look:v_->Option U):List (v_×qbC)->List (v_×U)->List (v_×U)
 |[],acc=>acc
 |(n,k)::r,acc=>if(k==qah)=true then(match look n with|some a=>sM look r ((n,a)::acc)|none=>sM look r acc)else sM look r acc
theorem tO{env:Env}:∀(names:List (v_×qbC)) (acc:List (v_×U)),(∀x∈names,x.2= .free->∃a,env.cells.lookup x.1=some a) →
  (forIn names acc (λ(x:v_×qbC) (r:List (v_×U))=>match x with|(name,kind)=>if(kind==qah)=true then do let c ←cellOf env name;pure (ForInStep.yield ((name,c)::r))else pure (ForInStep.yield r)):Sem (List (v_×U)))=pure (sM (env.cells.lookup ·) names acc)
 |[],acc,_=>rfl
 |(n,k)::r,acc,h=>by
  rw[List.forIn_cons];dsimp only;unfold sM;by_cases hk:(k==qah)=true
  ·obtain⟨a,ha⟩:=h (n,k) z_ (by simpa using hk);have ha':env.cells.lookup n=some a:=ha;rw[if_pos hk,if_pos hk,ha'];have hc:cellOf env n=pure a:=by unfold cellOf;rw[ha']
   rw[hc];exact tO r _ λx hx=>h x (s_ _ hx)
  ·rw[if_neg hk,if_neg hk];exact tO r _ λx hx=>h x (s_ _ hx)
theorem xY{look:v_->Option U}:∀(names:List (v_×qbC)) (acc:List (v_×U)),(∀x c,acc.lookup x=some c->look x=some c)->∀x c,(sM look names acc).lookup x=some c->look x=some c
 |[],acc,h=>h
 |(n,k)::r,acc,h=>by
  unfold sM;by_cases hk:(k==qah)=true
  ·rw[if_pos hk]
   cases e:look n with
   |none=>exact xY r acc h
   |some a =>
    refine xY r _ λx c q=>?_;rw[qa5]at q;by_cases hx:(x==n)=true
    ·rw[hx]at q;have:x=n:=by simpa using hx
     rw[this,e];exact q
    ·have hx':(x==n)=false:=by simpa using hx
     rw[hx']at q;exact h x c q
  ·rw[if_neg hk];exact xY r acc h
theorem tP{look:v_->Option U}:∀(names:List (v_×qbC)) (acc:List (v_×U)) (x:v_),(∃c,acc.lookup x=some c)->∃c,(sM look names acc).lookup x=some c
 |[],_,_,h=>h
 |(n,k)::r,acc,x,h=>by
  unfold sM;by_cases hk:(k==qah)=true
  ·rw[if_pos hk]
   cases e:look n with
   |none=>exact tP r acc x h
   |some a =>
    refine tP r _ x ?_;rw[qa5]
    cases hx:x==n with
    |true=>exact⟨a,Y⟩
    |false=>exact h
  ·rw[if_neg hk];exact tP r acc x h
theorem uU{look:v_->Option U}:∀(names:List (v_×qbC)) (acc:List (v_×U)) (x:v_),(x,qah)∈names->(∃a,look x=some a)->∃c,(sM look names acc).lookup x=some c
 |[],_,_,h,_=>by cases h
 |(n,k)::r,acc,x,h,ha=>by
  unfold sM;rcases B_.mp h with e|e
  ·obtain⟨a,ha⟩:=ha;have e1:x=n:=congrArg Prod.fst e;have e2:k=qah:=(congrArg Prod.snd e).symm;subst e1 e2;rw[if_pos (by decide),ha];refine tP r _ x ⟨a,?_⟩;rw[qa5];simp
  ·by_cases hk:(k==qah)=true
   ·rw[if_pos hk]
    cases e2:look n with
    |none=>exact uU r acc x e ha
    |some a=>exact uU r _ x e ha
   ·rw[if_neg hk];exact uU r acc x e ha
theorem xZ{look:v_->Option U}:∀(names:List (v_×qbC)) (acc:List (v_×U)) (x:v_) (c:U),(sM look names acc).lookup x=some c->(x,qah)∈names\/acc.lookup x=some c
 |[],_,_,_,h=>.inr h
 |(n,k)::r,acc,x,c,h=>by
  unfold sM at h;by_cases hk:(k==qah)=true
  ·rw[if_pos hk]at h
   cases e:look n with
   |none=>rw[e]at h;exact(xZ r acc x c h).imp (s_ _) id
   |some a =>
    rw[e]at h;rcases xZ r _ x c h with z|z
    ·exact .inl (s_ _ z)
    ·rw[qa5]at z
     cases hx:x==n with
     |true =>
      have e1:x=n:=by simpa using hx
      have e2:k= .free:=by simpa using hk
      rw[e1,e2];exact .inl z_
     |false=>rw[hx]at z;exact .inr z
  ·rw[if_neg hk]at h;exact(xZ r acc x c h).imp (s_ _) id
theorem tF{env:Env}:∀{names:List (v_×qbC)} {x:v_} {k:qbC},
  (names.map λ(n,k)=>if(k==qah&&env.scope.kind== .function&&env.kindOf n==some .cell)then(n,qb2)else(n,k)).lookup x=some k →
  (k= .cell\/k= .free)->names.lookup x=some .cell\/(x,qah)∈names
 |[],_,_,h,_=>by simp at h
 |(n,j)::r,x,k,h,hk=>by
  rw[Y_,qa5]at h;rw[qa5];by_cases hj:(j==qah&&env.scope.kind== .function&&env.kindOf n==some .cell)=true
  ·simp only[hj,if_true]at h;by_cases hx:(x==n)=true
   ·have e:x=n:=by simpa using hx
    have ej:j= .free:=by
     rw[qaP,qaP]at hj;simpa using hj.1.1
    rw[e,←ej];exact .inr z_
   ·have hx':(x==n)=false:=by simpa using hx
    rw[hx']at h ⊢;exact(tF h hk).imp id (s_ _)
  ·simp only[hj]at h;by_cases hx:(x==n)=true
   ·have e:x=n:=by simpa using hx
    rw[e]at h;simp at h;subst h;rw[hx];rcases hk with q|q
    ·rw[q];exact .inl Y
    ·rw[e,←q];exact .inr z_
   ·have hx':(x==n)=false:=by simpa using hx
    simp[hx']at h;rw[hx'];exact(tF (by simpa using h) hk).imp id (s_ _)
noncomputable def ZY(nt:Nat)(ix:List Nat)(σ:St):St:=qae nt none++ix.map λj=>(σ[j]?).join
theorem ee.free{X:Cx}{scope:qbn}{N:List v_}{nt:Nat}{ix:List Nat}(kind:scope.kind= .function)(cell:∀y∈scope.names,y.2= .cell->(y.1,qah)∉scope.names)
  (names:∀y∈scope.names,y.2= .local->scope.names.lookup y.1=some .local) (hf:∀y∈scope.names,y.2= .free->X.env.kindOf y.1=some .cell)
  (hl:N.length=nt+ix.length) (hx:∀(k j:Nat),ix[k]? =some j->∃x,N[nt+k]? =some x/\X.N[j]? =some x/\(x,qah)∈scope.names/\(relabel scope X.env).names.lookup x=some .cell) (ok:X.Ok) :
  ∃cl,ee X scope cl N (ZY nt ix):=by
 have hcl:∀y∈scope.names,y.2= .free->∃a,X.env.cells.lookup y.1=some a:=λy hy hk=>ok.has y.1 (.inl (hf y hy hk));refine⟨sM (X.env.cells.lookup ·) scope.names [],?_,kind,λy hy hk=>?_,names,xY scope.names [] (λx c e=>by simp at e),λx h=>?_,λσ=>?_,λσ i x v e1 e2 e3=>?_⟩
 ·have z:=tO scope.names [] hcl;unfold closureFor;dsimp only;rw[z];rfl
 ·cases q:(sM (X.env.cells.lookup ·) scope.names []).lookup y.1 with
  |none=>rfl
  |some c =>
   rcases xZ _ _ _ _ q with z|z
   ·exact absurd z (cell y hy hk)
   ·cases z
 ·have hm:scope.names.lookup x=some .cell\/(x,qah)∈scope.names:=by
   rcases h with h|h
   ·exact tF h (.inl Y)
   ·exact tF h (.inr Y)
  exact hm.imp id λhm=>uU scope.names [] x hm (hcl _ hm Y)
 ·unfold ZY;rw[G_,qaZ,l_,hl]
 ·unfold ZY at e2;by_cases hi:i<nt
  ·rw[qaX (by rw[qaZ];exact hi),qbH]at e2;split at e2
   ·cases e2
   ·cases e2
  ·rw[qaG (by rw[qaZ];omega),qaZ,O_]at e2
   cases ej:ix[i-nt]? with
   |none=>rw[ej]at e2;cases e2
   |some j =>
    rw[ej]at e2;have Za:(σ[j]?).join=some v:=L_ e2;obtain⟨x',n1,n2,n3,n4⟩:=hx (i-nt) j ej;rw[show nt+(i-nt)=i by omega,e1]at n1;cases n1;obtain⟨c,hc⟩:=uU (look:=(X.env.cells.lookup ·)) scope.names [] x n3 (hcl _ n3 rfl);refine⟨j,c,n2,?_,hf _ n3 Y,.inl n4,hc⟩
    cases es:σ[j]? with
    |none=>rw[es]at Za;cases Za
    |some o=>rw[es]at Za;rw[show o=some v from Za]
def Kp(a b:St):Prop:=∀(i:Nat) (v:V),a[i]? =some (some v)->b[i]? =some (some v)
theorem Kp.rep(n:Nat)(b:St):Kp (qae n none) b:=λi v e=>by
 rw[qbH]at e;split at e
 ·cases e
 ·cases e
def FQ(wi:TI)(g:TG)(te:TE)(sQ:St->St):TE:=λσ H Q=>wi σ H λJ H1=>∀l,H1 l=none->∃W:Nat->Nat->List V->Hp->Prop,(∃m,W 0 m [] (upd H1 l (.lst []))) ∧
 ∀i m ys H2,W i m ys H2->(J.stop i H2/\Q (.ref l) H2) ∨
  (J.go i H2/\∀x H3,J.CZ i H2 x H3->g x (sQ σ) H3 λCW H4=>Kp (sQ σ) CW/\te CW H4 λy H5=>H5 l=some (.lst ys)/\ys.length<D_/\∃m',m'<m/\W (i+1) m' (ys++[y]) (upd H5 l (.lst (ys++[y]))))
theorem Inv.Si{X:Cx}{pins:List (U×qa9)}{σ:St}{H:Hp}{s:n_}(I:Inv X pins σ H s):Inv X [] σ H s:=I.Ea λ_ hp=>nomatch hp
section
variable{X:Cx}{pins:List (U×qa9)}{σ:St}{H:Hp}{s:n_}{scope:qbn}{cl:List (v_×U)}{N:List v_}{sQ:St->St}{fp:List U}{h₁:W_}{m:v_->Option k_}{E:k_->n_->Prop}
theorem O6{JQ:List (v_×U)}(S:ee X scope cl N sQ)(G:Qu cl JQ scope s.heap.objs.size h₁)(I:Inv X pins σ H s)(hf:∀b∈fp,uu X pins H b/\b<s.heap.objs.size)(kp:∀b o,s.heap.get? b=some o->h₁.get? b=some o)(hns:h₁.Ns s.heap.objs.size m)(t':Nat)(ht:s.toks<=t':=by first|exact j_ _|exact qay _|assumption|omega):
  Inv (jT X scope JQ s.heap.objs.size N s H fp (X.pn++pins) E) [] (sQ σ) H { s with heap:=h₁,toks:=t' }:=by
 have Xr:∀b,b≠X.env.locals->b∉X.fs->b∉frs X.stack:=λb h1 h2 z=>by
  rcases B_.mp (I.DV b z)with q|q
  ·exact h1 q
  ·exact h2 q
 have V1:∀x c,cl.lookup x=some c->c<s.heap.objs.size:=λx c e=>by
  obtain⟨v,o,ho,_⟩:=I.cell x c (S.sub x c e);exact E_ ho
 refine⟨⟨I.mod,S.kind,I.ok.glob,I.ok.blt,j_ _,λx y c a b=>?_,λx h=>(S.has x h).elim (G.own x) λ⟨c,e⟩=>⟨c,G.keep x c e⟩,λx c z e=>?_,I.ok.hd,I.ok.frames,.inl Y,λb hb=>?_,I.bs,p_ I.ok.R0 I.sz,λb o e hb=>?_,λb hb=>?_,I.stack,I.Kw,I.tk⟩,
  rfl,I.bare,Un.kept kp,⟨m,hns,λi x v e1 e2 e3=>?_⟩,λx c e=>?_,I.hok.fresh (j_ _),λx c e=>(G.look x c e).elim (λz=>I.hok.fresh (qaJ z.1)) λz=>I.ug x c (S.sub x c z),λp hp=>?_,I.hok.kept kp,S.len σ,ht⟩
 ·by_cases hc:s.heap.objs.size<c
  ·exact G.inj x y c hc a b λz e=>Nat.lt_asymm hc (V1 z c e)
  ·exact I.ok.inj x y c (S.sub x c ((G.look x c a).elim (λz=>absurd z.1 hc) id)) (S.sub y c ((G.look y c b).elim (λz=>absurd z.1 hc) id))
 ·rcases G.look x c e with q|q
  ·exact qaJ q.1
  ·have z2:(scope.names.lookup x==some qb2)=true:=z;have z':scope.names.lookup x=some .cell:=by simpa using z2
   rw[S.cell _ (mem_of_lookup z') rfl]at q;cases q
 ·obtain⟨⟨_,_,_,_,f4,_⟩,lt⟩:=hf b hb;exact⟨R_ lt,λx c e=>(G.look x c e).elim (λz=>qbc (qcd lt z.1)) λz=>f4 x c (S.sub x c z)⟩
 ·obtain⟨⟨f0,_,_,f3,_⟩,_⟩:=hf b hb;rcases f3 with z|z
  ·exact I.ok.OB b o e z
  ·exact absurd (H_ (E_ e) (p_ I.ok.R0 z)) (qap _)
 ·obtain⟨⟨_,f1,f2,_⟩,_⟩:=hf b hb;exact Xr b f1 f2
 ·obtain⟨j,c,n1,n2,n3,n4,n5⟩:=S.fv σ i x v e1 e2 e3;obtain⟨mX,_,hl⟩:=I.loc;obtain⟨u,r,l⟩:=hl j x v n1 n2 (.inr (.inl n3));refine⟨u,r,.inr ⟨n4,c,G.keep x c n5,?_⟩⟩;rcases l with⟨k,_⟩|⟨_,c',ec,o,ho,hd⟩
  ·have k':X.env.scope.names.lookup x=some .local:=k;have n3':X.env.scope.names.lookup x=some .cell:=n3;rw[k']at n3';cases n3'
  ·have q:=S.sub x c n5;rw[q]at ec;cases ec;exact⟨o,kp _ _ ho,hd⟩
 ·rcases G.look x c e with z|z
  ·exact⟨none,z.2⟩
  ·obtain⟨v,o,ho,hd⟩:=I.cell x c (S.sub x c z);exact⟨v,o,kp _ _ ho,hd⟩
 ·have hp':p∈X.pn++pins:=by
   rcases V_.mp hp with z|z
   ·exact z
   ·cases z
  obtain⟨a,b,c,d,e⟩:=I.pin p hp';exact⟨kp _ _ a,b,R_ (E_ a),Xr _ c d,e⟩
end
end
section
inductive Cp where
 |lst (a:U)|tup (a:U)|txt (x:v_)
noncomputable def fC(x:v_):List V:=x.cps.toList.map λc=>V.str ⟨#[c]⟩
noncomputable def Cp.val:Cp->V
 | .lst a=>.ref a
 | .tup a=>.ref a
 | .txt x=>.str x
noncomputable def Cp.at(K:PySem.W.Frag)(H:Hp):Cp->List V->Prop
 | .lst a=>bW K H a
 | .tup a=>bZ K H a
 | .txt x=>λxs=>xs=fC x
noncomputable def Cp.Ie(h:W_)(it:U)(i:Nat):Cp->Prop
 | .lst a=>h.IsListIter it a i
 | .tup a=>h.IsTupleIter it a i
 | .txt x=>∃t,h.IsStrIter it (strIterType x) x t i
noncomputable def Cp.src(h:W_):Cp->List V->Prop
 | .lst a=>λxs=>∃its,Vals xs its/\h.IsList a its.toArray
 | .tup a=>λxs=>∃its,Vals xs its/\h.IsTuple a its.toArray
 | .txt x=>λxs=>xs=fC x
noncomputable def Cp.off(b:U):Cp->Prop
 | .lst a=>a≠b
 | .tup a=>a≠b
 | .txt _=>True
section
variable{X:Cx}{pins:List (U×qa9)}{σ:St}{H:Hp}{s:n_}{c d:Cp}{xs ys:List V}
theorem Cp.sR(I:Inv X pins σ H s)(h:c.at X.K H xs):c.src s.heap xs:=by
 cases c with
 |lst a=>obtain⟨its,r,p,_⟩:=I.list h;exact⟨its,r,p.isList⟩
 |tup a=>obtain⟨its,r,p,_⟩:=I.tuple h;exact⟨its,r,p⟩
 |txt x=>exact h
theorem Cp.JV(I:Inv X pins σ H s)(h:c.at X.K H xs)(h':c.at X.K H ys):xs=ys:=by
 cases c with
 |lst a=>exact I.Bj h h'
 |tup a=>exact I.C9 h h'
 |txt x=>exact(show xs=fC x from h).trans (show ys=fC x from h').symm
theorem Cp.rL {h:W_}{b:U}{o:qa9}{T:String}(hs:c.src h xs)(hb:h.get? b=some o)(hc:o.cls= .type T)(n1:T≠ "list")(n2:T≠ "tuple"):c.off b:=by
 cases c with
 |lst a =>
  obtain⟨its,_,o',ho,hc',_⟩:=hs;intro e;rw[e,hb]at ho;cases ho;rw[hc]at hc';injection hc' with q;exact n1 q
 |tup a =>
  obtain⟨its,_,o',ho,hc',_⟩:=hs;intro e;rw[e,hb]at ho;cases ho;rw[hc]at hc';injection hc' with q;exact n2 q
 |txt x=>trivial
theorem Cp.K4{h:W_}{b:U}(hs:c.src h xs)(hb:h.objs.size<=b):c.off b:=by
 cases c with
 |lst a =>
  obtain⟨its,_,o',ho,_⟩:=hs;exact R_ (H_ (E_ ho) hb)
 |tup a =>
  obtain⟨its,_,o',ho,_⟩:=hs;exact R_ (H_ (E_ ho) hb)
 |txt x=>trivial
theorem Cp.oR{h h':W_}{b:U}(hs:c.src h xs)(hx:qcM b h h')(ho:c.off b):c.src h' xs:=by
 cases c with
 |lst a=>obtain⟨its,r,p⟩:=hs;exact⟨its,r,p.extBut hx ho⟩
 |tup a=>obtain⟨its,r,p⟩:=hs;exact⟨its,r,p.extBut hx ho⟩
 |txt x=>exact hs
theorem Cp.NN{h h':W_}(hs:c.src h xs)(hx:∀b o,h.get? b=some o->h'.get? b=some o):c.src h' xs:=by
 cases c with
 |lst a=>obtain⟨its,r,o,ho,q⟩:=hs;exact⟨its,r,o,hx _ _ ho,q⟩
 |tup a=>obtain⟨its,r,o,ho,q⟩:=hs;exact⟨its,r,o,hx _ _ ho,q⟩
 |txt x=>exact hs
theorem Cp.nH{h:W_}{it:U}{i:Nat}(q:c.Ie h it i):nN λo T vs=>h.get? it=some o/\o.cls= .type T/\o.data= .fields vs/\T≠ "list" /\T≠ "tuple" :=by
 cases c with
 |lst a=>obtain⟨o,ho,hc,hd⟩:=q;exact⟨o,_,_,ho,hc,hd,by decide,by decide⟩
 |tup a=>obtain⟨o,ho,hc,hd⟩:=q;exact⟨o,_,_,ho,hc,hd,by decide,by decide⟩
 |txt x =>
  obtain⟨t,o,ho,hc,hd⟩:=q;refine⟨o,_,_,ho,hc,hd,?_,?_⟩
  ·unfold strIterType;split<;>decide
  ·unfold strIterType;split<;>decide
theorem Cp.k6{h h':W_}{it:U}{i:Nat}(q:c.Ie h it i)(e:∀o,h.get? it=some o->h'.get? it=some o):c.Ie h' it i:=by
 cases c with
 |lst a=>obtain⟨o,ho,r⟩:=q;exact⟨o,e _ ho,r⟩
 |tup a=>obtain⟨o,ho,r⟩:=q;exact⟨o,e _ ho,r⟩
 |txt x=>obtain⟨t,o,ho,r⟩:=q;exact⟨t,o,e _ ho,r⟩
end
section
variable{prog:r_}{w:I_}{A:qab}{E:k_->n_->Prop}{s:n_}{c d:Cp}{xs ys:List V}
theorem xM{it t:U}{i:Nat}{items}{x:k_}{Q:k_->n_->Prop}(hit:s.heap.IsTupleIter it t i)
  (ht:s.heap.IsTuple t items) (hx:items[i]? =some x)
  (hQ:∀h',h'.IsTupleIter it t (i+1)->qbB it s.heap h'->Q x { s with heap:=h' }) :
  C_ (model prog w) A (qaj (.ref it)) Q E s:=by
 obtain⟨o,ho,hc,hd⟩:=id hit;obtain⟨ol,Fq,_,nl,hdl⟩:=ht;unfold qaj;refine f_ (qaS (name:=h_ "__next__") hit.typeIs qbt
  (qaU qbt hit.typeIs F.entry_tuple_iterator_next ?_ (F.args_tuple_iterator_next_1 _)))
 show C_ _ _ (field (.ref it) 0 >>= _) _ _ s;refine f_ (qa8 ho hd (x:=.ref t) Y ?_)
 show C_ _ _ (if(Value.ref t==Value.none)=true then _ else _) _ _ s
 rw[if_neg (show ¬((Value.ref t==Value.none)=true) from y_)];show C_ _ _ (field (.ref it) 1 >>= _) _ _ s;refine f_ (qa8 ho hd (x:=.int i 0) Y ?_);show C_ _ _ (seqItems? (.ref t) >>= _) _ _ s;refine f_ (qat Fq hdl ?_);simp only[qaw,hx];refine f_ (wpAny_setField ho hd (by simp) (q_ ⟨x,Y,q_ (hQ _ ?_ (qai ..))⟩));exact⟨_,Heap.get?_update_self _ ho (Obj.isFreed_of_fields (qcu hd _)),(Obj.cls_mapFields ..).trans hc,by
  rw[qcu hd];simp[rawInt]⟩
theorem yD{it t:U}{i:Nat}{items}{Q:k_->n_->Prop}(hh:A.handled=none)
  (hit:s.heap.IsTupleIter it t i) (ht:s.heap.IsTuple t items) (hx:items[i]? =none)
  (hE:∀h' e,qcM it s.heap h'->(∃o,h'.get? e=some o/\o.cls= .type "StopIteration")->E (.ref e) { s with heap:=h' }) :
  C_ (model prog w) A (qaj (.ref it)) Q E s:=by
 obtain⟨o,ho,hc,hd⟩:=id hit;obtain⟨ol,Fq,_,nl,hdl⟩:=ht;unfold qaj;refine f_ (qaS (name:=h_ "__next__") hit.typeIs qbt
  (qaU qbt hit.typeIs F.entry_tuple_iterator_next ?_ (F.args_tuple_iterator_next_1 _)))
 show C_ _ _ (field (.ref it) 0 >>= _) _ _ s;refine f_ (qa8 ho hd (x:=.ref t) Y ?_)
 show C_ _ _ (if(Value.ref t==Value.none)=true then _ else _) _ _ s
 rw[if_neg (show ¬((Value.ref t==Value.none)=true) from y_)];show C_ _ _ (field (.ref it) 1 >>= _) _ _ s;refine f_ (qa8 ho hd (x:=.int i 0) Y ?_);show C_ _ _ (seqItems? (.ref t) >>= _) _ _ s;refine f_ (qat Fq hdl ?_);simp only[qaw,hx];refine f_ (qcG (f_ (wpAny_setField ho hd (by simp) ?_)));show C_ _ _ (newExc (.type "StopIteration") [] >>= _) _ _ _;refine f_ ?_;simp only[newExc,newTuple];refine f_ (qbk ?_ (by size_fits))
 refine f_ (m:=firstArgMember _ _) (wpAny_of_eq (a:=Value.none) (by first|rfl|(simp only[firstArgMember];rfl)) ?_)
 refine qbk ?_ (by size_fits);simp only[raiseNew];refine f_ (wpAny_handled ?_)
 first|rw[show A.in1.handled=none from hh]|rw[hh]
 refine f_ (q_ (wpAny_throw ?_));exact hE _ _ (((qai ..).extBut.push _).push _) ⟨_,t_ _ Y,Y⟩
theorem signs_get{x:v_}{i:Nat}{v:V}(h:(fC x)[i]? =some v):∃k,x.cps[i]? =some k/\v= .str ⟨#[k]⟩:=by
 unfold fC at h;rw[O_]at h
 cases e:x.cps.toList[i]? with
 |none=>rw[e]at h;cases h
 |some k =>
  rw[e]at h;exact⟨k,by simpa using e,(L_ h).symm⟩
theorem LV{x:v_}{i:Nat}(h:(fC x)[i]? =none):x.cps[i]? =none:=by
 unfold fC at h;rw[O_]at h
 cases e:x.cps.toList[i]? with
 |none=>simpa using e
 |some k=>rw[e]at h;cases h
theorem Cp.item{it:U}{i:Nat}{x:V}{Q:k_->n_->Prop}(hit:c.Ie s.heap it i)(hs:c.src s.heap xs)(hx:xs[i]? =some x)
  (hQ:∀u h' tk,RelV x u->c.Ie h' it (i+1)->qbB it s.heap h'->Q u { s with heap:=h',toks:=tk }) :
  C_ (model prog w) A (qaj (.ref it)) Q E s:=by
 cases c with
 |lst a =>
  obtain⟨its,r,p⟩:=hs;obtain⟨u,hu,ru⟩:=r.get hx;exact wpAny_nextOf_list_item hit p (x:=u) (by simpa using hu) λh' q sb=>hQ u h' s.toks ru q sb
 |tup a =>
  obtain⟨its,r,p⟩:=hs;obtain⟨u,hu,ru⟩:=r.get hx;exact xM hit p (x:=u) (by simpa using hu) λh' q sb=>hQ u h' s.toks ru q sb
 |txt x' =>
  obtain⟨t,q⟩:=hit;rw[show xs=fC x' from hs]at hx;obtain⟨k,hk,rfl⟩:=signs_get hx;unfold strIterType at q;by_cases ha:(x'.cps.all (·<128))=true
  ·rw[if_pos ha]at q;exact wpAny_nextOf_ascii_item q hk λh' q' sb=>hQ _ h' _ ⟨_,Y⟩ ⟨t,by unfold strIterType;rw[if_pos ha];exact q'⟩ sb
  ·rw[if_neg ha]at q;exact wpAny_nextOf_wide_item q hk λh' q' sb=>hQ _ h' _ ⟨_,Y⟩ ⟨t,by unfold strIterType;rw[if_neg ha];exact q'⟩ sb
theorem Cp.fin{it:U}{i:Nat}{Q:k_->n_->Prop}(hh:A.handled=none)(hit:c.Ie s.heap it i)(hs:c.src s.heap xs)(hx:xs[i]? =none)
  (hE:∀h' e,qcM it s.heap h'->(∃o,h'.get? e=some o/\o.cls= .type "StopIteration")->E (.ref e) { s with heap:=h' }) :
  C_ (model prog w) A (qaj (.ref it)) Q E s:=by
 cases c with
 |lst a =>
  obtain⟨its,r,p⟩:=hs;exact wpAny_nextOf_list_end hh hit p (by simpa using r.none_of hx) hE
 |tup a =>
  obtain⟨its,r,p⟩:=hs;exact yD hh hit p (by simpa using r.none_of hx) hE
 |txt x' =>
  obtain⟨t,q⟩:=hit;rw[show xs=fC x' from hs]at hx;have hk:=LV hx;unfold strIterType at q;by_cases ha:(x'.cps.all (·<128))=true
  ·rw[if_pos ha]at q;exact wpAny_nextOf_ascii_end hh q hk hE
  ·rw[if_neg ha]at q;exact wpAny_nextOf_wide_end hh q hk hE
structure BF(z TI TO i1 i2:U):Prop where
 TIz:TI≠z
 TOz:TO≠z
 i1z:i1≠z
 i2z:i2≠z
 TITO:TI≠TO
 TIi1:TI≠i1
 TIi2:TI≠i2
 TOi1:TO≠i1
 TOi2:TO≠i2
 i12:i1≠i2
structure LF(h:W_)(z TI TO i1 i2:U)(c d:Cp)(f0:k_)(i:Nat):Prop where
 zz:IsZip h z TI TO f0
 ti:qcQ h TI (.ref i1) (.ref i2)
 to:dP λa b=>qcQ h TO a b
 h1:c.Ie h i1 i
 h2:d.Ie h i2 i
 c1:c.off TO
 c2:d.off TO
theorem Nn{z TI TO i1 i2:U}{i:Nat}{x y:V}{Q:Option k_->n_->Prop}(D:BF z TI TO i1 i2)(Z:LF s.heap z TI TO i1 i2 c d .none i)
  (sc:c.src s.heap xs) (sd:d.src s.heap ys) (hx:xs[i]? =some x) (hy:ys[i]? =some y)
  (hQ:∀u v h' tk,RelV x u->RelV y v->LF h' z TI TO i1 i2 c d (rawInt s.heap.objs.size) (i+1)->qcQ h' s.heap.objs.size u v →
   (∀b o,b≠z->b≠TO->b≠i1->b≠i2->s.heap.get? b=some o->h'.get? b=some o)->Q (some (.ref s.heap.objs.size)) { s with heap:=h',toks:=tk }) :
  C_ (model prog w) A (pyNext (.ref z)) Q E s:=by
 obtain⟨hz,hTI,⟨a,b,hTO⟩,h1,h2,c1,c2⟩:=id Z;have hT:s.TypeIs (.ref z) "zip" :=⟨_,hz,rfl⟩;obtain⟨oi1,T1,_,hi1,Zi,_,Xw,Xv⟩:=Cp.nH h1;obtain⟨oi2,T2,_,hi2,ci2,_,n21,n22⟩:=Cp.nH h2;have cz:c.off z:=Cp.rL sc hz rfl (by decide) (by decide);have dz:d.off z:=Cp.rL sd hz rfl (by decide) (by decide);have ci:c.off i1:=Cp.rL sc hi1 Zi Xw Xv;have di:d.off i1:=Cp.rL sd hi1 Zi Xw Xv;unfold pyNext;refine f_ (wpAny_attempt (qaS (name:=h_ "__next__") hT F.slot_zip_next
  (qaU F.slot_zip_next hT F.entry_zip_next ?_ (F.args_zip_next_1 _))))
 show C_ _ _ (field (.ref z) 2 >>= _) _ _ _;refine f_ (qa8 hz Y (x:=.bool false) Y ?_);show C_ _ _ (field (.ref z) 3 >>= _) _ _ _;refine f_ (qa8 hz Y (x:=.ref TI) Y ?_);refine f_ (qat hTI Y ?_);show C_ _ _ (qa1 (.ref z) >>= _) _ _ _;refine f_ ?_;unfold qa1;refine f_ (qa8 hz Y (x:=.none) Y (q_ ?_));simp only[if_true];refine f_ (qcG ?_);refine f_ (qa8 hz Y (x:=.ref TO) Y ?_);refine f_ (qbu hz (by simp) λh₁ yZ hs₁=>?_);replace yZ:IsZip h₁ z TI TO .ellipsis:=yZ;refine f_ ?_;simp only[List.zipIdx_cons,List.zipIdx_nil,List.forIn_cons,List.forIn_nil];refine f_ (f_ (wpAny_onRaise ?_));show C_ _ _ (qaj (.ref i1) >>= _) _ _ _;refine f_ (Cp.item (c:=c) (Cp.k6 h1 λo e=>hs₁.extBut _ _ D.i1z e) (Cp.oR sc hs₁.extBut cz) hx λu h₂ tk₂ ru Tc hs₂=>q_ ?_);have Bp:qcQ h₂ TO a b:=hs₂.extBut _ _ D.TOi1 (hs₁.extBut _ _ D.TOz hTO);refine f_ (qat Bp Y ?_);refine f_ (wpAny_updateSeq_pair Bp λh₃ EG rC=>?_);replace EG:qcQ h₃ TO u b:=EG;refine f_ (qbh (q_ ?_));refine f_ (f_ (wpAny_onRaise ?_));show C_ _ _ (qaj (.ref i2) >>= _) _ _ _;refine f_ (Cp.item (c:=d) (Cp.k6 h2 λo e=>rC.extBut _ _ D.TOi2.symm (hs₂.extBut _ _ D.i12.symm (hs₁.extBut _ _ D.i2z e))) (Cp.oR (Cp.oR (Cp.oR sd hs₁.extBut dz) hs₂.extBut di) rC.extBut c2) hy λv h₄ tk₄ rv YZ zd=>q_ ?_);have Po:qcQ h₄ TO u b:=zd.extBut _ _ D.TOi2 EG;refine f_ (qat Po Y ?_);refine f_ (wpAny_updateSeq_pair Po λh₅ EF y9=>?_);replace EF:qcQ h₅ TO u v:=EF;refine f_ (qbh (q_ (q_ ?_)));refine f_ (qat EF Y ?_);refine f_ (wpAny_newTuple ?_);have hsz:h₅.objs.size=s.heap.objs.size:=by rw[y9.1,zd.1,rC.1,hs₂.1,hs₁.1]
 have SO:IsZip h₅ z TI TO .ellipsis:=y9.extBut _ _ D.TOz.symm (zd.extBut _ _ D.i2z.symm (rC.extBut _ _ D.TOz.symm (hs₂.extBut _ _ D.i1z.symm yZ)));have S5:∀e o,e≠z->e≠TO->e≠i1->e≠i2->s.heap.get? e=some o->h₅.get? e=some o:=λe o e1 e2 e3 e4 q =>
  y9.extBut _ _ e2 (zd.extBut _ _ e4 (rC.extBut _ _ e2 (hs₂.extBut _ _ e3 (hs₁.extBut _ _ e1 q))))
 have Y0:c.Ie h₅ i1 (i+1):=Cp.k6 Tc λo e=>y9.extBut _ _ D.TOi1.symm (zd.extBut _ _ D.i12 (rC.extBut _ _ D.TOi1.symm e));have YY:d.Ie h₅ i2 (i+1):=Cp.k6 YZ λo e=>y9.extBut _ _ D.TOi2.symm e;have Yx:z<h₅.objs.size:=E_ SO;show C_ _ _ (Builtin.SmallTypes.ownedTupleHandOut (.ref z) (.ref h₅.objs.size) >>= _) _ _ _;refine f_ ?_;unfold Builtin.SmallTypes.ownedTupleHandOut;have Yw:IsZip (h₅.push { cls:=.type "tuple",data:=.seq #[u,v] }) z TI TO .ellipsis:=m_ _ SO;refine f_ (qbu Yw (by simp) λac2 O8 S0=>?_);replace O8:IsZip ac2 z TI TO (rawInt h₅.objs.size):=O8;refine qbu O8 (by simp) λRI Le SY=>?_;replace Le:IsZip RI z TI TO (rawInt h₅.objs.size):=Le;have up:∀e o,e≠z->h₅.get? e=some o->RI.get? e=some o:=λe o e1 q=>SY.extBut _ _ e1 (S0.extBut _ _ e1 (m_ _ q));have S8:qcQ RI h₅.objs.size u v:=SY.extBut _ _ (qbc Yx) (S0.extBut _ _ (qbc Yx) (t_ _ rfl));rw[hsz]at Le S8;refine q_ ⟨_,Y,q_ ?_⟩;show Q (some (.ref h₅.objs.size)) _;rw[hsz];exact hQ u v RI _ ru rv ⟨Le,up _ _ D.TIz (S5 _ _ D.TIz D.TITO D.TIi1 D.TIi2 hTI),⟨_,_,up _ _ D.TOz EF⟩,Cp.k6 Y0 λo e=>up _ o D.i1z e,Cp.k6 YY λo e=>up _ o D.i2z e,c1,c2⟩ S8
  λe o e1 e2 e3 e4 q=>up e o e1 (S5 e o e1 e2 e3 e4 q)
theorem QI{z TI TO i1 i2:U}{i:Nat}{Q:Option k_->n_->Prop}(hh:A.handled=none)(D:BF z TI TO i1 i2)(Z:LF s.heap z TI TO i1 i2 c d .none i)
  (sc:c.src s.heap xs) (sd:d.src s.heap ys) (hend:xs[i]? =none\/ys[i]? =none)
  (hQ:∀h' tk,(∀b o,b≠z->b≠TO->b≠i1->b≠i2->s.heap.get? b=some o->h'.get? b=some o)->Q none { s with heap:=h',toks:=tk }) :
  C_ (model prog w) A (pyNext (.ref z)) Q E s:=by
 obtain⟨hz,hTI,⟨a,b,hTO⟩,h1,h2,c1,c2⟩:=id Z;have hT:s.TypeIs (.ref z) "zip" :=⟨_,hz,rfl⟩;obtain⟨oi1,T1,_,hi1,Zi,_,Xw,Xv⟩:=Cp.nH h1;have cz:c.off z:=Cp.rL sc hz rfl (by decide) (by decide);have dz:d.off z:=Cp.rL sd hz rfl (by decide) (by decide);have ci:c.off i1:=Cp.rL sc hi1 Zi Xw Xv;have di:d.off i1:=Cp.rL sd hi1 Zi Xw Xv;have stop:∀(h':W_) (e:U) (tk:Nat),(∃o,h'.get? e=some o/\o.cls= .type "StopIteration")->(∀b o,b≠z->b≠TO->b≠i1->b≠i2->s.heap.get? b=some o->h'.get? b=some o) →
   C_ (model prog w) A (isInstance (.ref e) (.type "StopIteration") >>= λb=>if b=true then pure (none:Option k_)else throw (.ref e)) Q E { s with heap:=h',toks:=tk }:=by
  intro h' e tk he hk;obtain⟨o,ho,hc⟩:=he;refine f_ (qbJ (T:= "StopIteration") (b:=true) ⟨o,ho,hc⟩ isSubtype_stop ?_);exact q_ (hQ _ _ hk)
 unfold pyNext;refine f_ (wpAny_attempt (qaS (name:=h_ "__next__") hT F.slot_zip_next
  (qaU F.slot_zip_next hT F.entry_zip_next ?_ (F.args_zip_next_1 _))))
 show C_ _ _ (field (.ref z) 2 >>= _) _ _ _;refine f_ (qa8 hz Y (x:=.bool false) Y ?_);show C_ _ _ (field (.ref z) 3 >>= _) _ _ _;refine f_ (qa8 hz Y (x:=.ref TI) Y ?_);refine f_ (qat hTI Y ?_);show C_ _ _ (qa1 (.ref z) >>= _) _ _ _;refine f_ ?_;unfold qa1;refine f_ (qa8 hz Y (x:=.none) Y (q_ ?_));simp only[if_true];refine f_ (qcG ?_);refine f_ (qa8 hz Y (x:=.ref TO) Y ?_);refine f_ (qbu hz (by simp) λh₁ yZ hs₁=>?_);replace yZ:IsZip h₁ z TI TO .ellipsis:=yZ;refine f_ ?_;simp only[List.zipIdx_cons,List.zipIdx_nil,List.forIn_cons,List.forIn_nil];refine f_ (f_ (wpAny_onRaise ?_));show C_ _ _ (qaj (.ref i1) >>= _) _ _ _
 cases hx:xs[i]? with
 |none =>
  refine f_ (Cp.fin (c:=c) hh (Cp.k6 h1 λo e=>hs₁.extBut _ _ D.i1z e) (Cp.oR sc hs₁.extBut cz) hx λh₂ e hs₂ he=>?_);obtain⟨oe,Vx,hce⟩:=he;have SR:IsZip h₂ z TI TO .ellipsis:=hs₂ _ _ D.i1z.symm yZ;have hez:e≠z:=λx=>by subst x;rw[SR]at Vx;cases Vx;simp at hce
  refine qbu SR (by simp) λh₃ _ rC=>?_;exact stop h₃ e _ ⟨oe,rC.extBut _ _ hez Vx,hce⟩ λk o c1 _ c3 _ x=>rC.extBut _ _ c1 (hs₂ _ _ c3 (hs₁.extBut _ _ c1 x))
 |some x =>
  have hy:ys[i]? =none:=by rcases hend with h|h;rw[hx]at h;cases h;exact h
  refine f_ (Cp.item (c:=c) (Cp.k6 h1 λo e=>hs₁.extBut _ _ D.i1z e) (Cp.oR sc hs₁.extBut cz) hx λu h₂ tk₂ ru Tc hs₂=>q_ ?_);have Bp:qcQ h₂ TO a b:=hs₂.extBut _ _ D.TOi1 (hs₁.extBut _ _ D.TOz hTO);refine f_ (qat Bp Y ?_);refine f_ (wpAny_updateSeq_pair Bp λh₃ EG rC=>?_);refine f_ (qbh (q_ ?_));refine f_ (f_ (wpAny_onRaise ?_));show C_ _ _ (qaj (.ref i2) >>= _) _ _ _;refine f_ (Cp.fin (c:=d) hh (Cp.k6 h2 λo e=>rC.extBut _ _ D.TOi2.symm (hs₂.extBut _ _ D.i12.symm (hs₁.extBut _ _ D.i2z e))) (Cp.oR (Cp.oR (Cp.oR sd hs₁.extBut dz) hs₂.extBut di) rC.extBut c2) hy λh₄ e zd he=>?_);obtain⟨oe,Vx,hce⟩:=he;have SQ:IsZip h₄ z TI TO .ellipsis:=zd _ _ D.i2z.symm (rC.extBut _ _ D.TOz.symm (hs₂.extBut _ _ D.i1z.symm yZ));have hez:e≠z:=λx=>by subst x;rw[SQ]at Vx;cases Vx;simp at hce
  refine qbu SQ (by simp) λh₅ _ y9=>?_;exact stop h₅ e _ ⟨oe,y9.extBut _ _ hez Vx,hce⟩ λk o c1 c2 c3 c4 x=>y9.extBut _ _ c1 (zd _ _ c4 (rC.extBut _ _ c2 (hs₂.extBut _ _ c3 (hs₁.extBut _ _ c1 x))))
noncomputable def Cp.fB(t:qcN):Cp->qa9
 | .lst a=>{ cls:=.type "list_iterator",data:=.fields #[.ref a,.int 0 0] }
 | .tup a=>{ cls:=.type "tuple_iterator",data:=.fields #[.ref a,.int 0 0] }
 | .txt x=>{ cls:=.type (strIterType x),data:=.fields #[.str x t,.int 0 0] }
noncomputable def Cp.value(t:qcN):Cp->k_
 | .lst a=>.ref a
 | .tup a=>.ref a
 | .txt x=>.str x t
theorem Cp.value_of{u:k_}(r:RelV c.val u):∃t,u=c.value t:=by
 cases c with
 |lst a=>exact⟨0,r⟩
 |tup a=>exact⟨0,r⟩
 |txt x=>exact r
theorem Cp.iter{t:qcN}{Q:k_->n_->Prop}(hs:c.src s.heap xs)(hQ:Q (.ref s.heap.objs.size) { s with heap:=s.heap.push (c.fB t) }):C_ (model prog w) A (pyIter (c.value t)) Q E s:=by
 cases c with
 |lst a=>obtain⟨its,_,p⟩:=hs;exact qaY p hQ
 |tup a=>obtain⟨its,_,p⟩:=hs;exact qbr p hQ
 |txt x=>exact qcB hQ
theorem Cp.Lb{t:qcN}{h:W_}{it:U}(e:h.get? it=some (c.fB t)):c.Ie h it 0:=by
 cases c with
 |lst a=>exact⟨_,e,Y,Y⟩
 |tup a=>exact⟨_,e,Y,Y⟩
 |txt x=>exact⟨t,_,e,Y,Y⟩
noncomputable abbrev ZS(h:W_)(o1:qa9):W_:=h.push o1
noncomputable abbrev ZR(h:W_)(o1 o2:qa9):W_:=(ZS h o1).push o2
noncomputable abbrev ZQ(h:W_)(o1 o2:qa9):W_:=(ZR h o1 o2).push { cls:=.type "tuple",data:=.seq #[.ref h.objs.size,.ref (ZS h o1).objs.size] }
noncomputable abbrev ZP(h:W_)(o1 o2:qa9):W_:=(ZQ h o1 o2).push { cls:=.type "tuple",data:=.seq #[.none,.none] }
noncomputable abbrev We(h:W_)(o1 o2:qa9):W_:=(ZP h o1 o2).push { cls:=.type "zip",data:=.fields #[.none,.bool false,.bool false,.ref (ZR h o1 o2).objs.size,.ref (ZQ h o1 o2).objs.size] }
theorem Mp(c d:Cp)(t1 t2:qcN)(xs ys:List V):
  Meets (Builtin.«zip.__new__» ⟨[.type "zip",c.value t1,d.value t2],[]⟩) (λ_ R s=>c.src s.heap xs/\d.src s.heap ys ∧
   R (.ok (.ret (.ref (ZP s.heap (c.fB t1) (d.fB t2)).objs.size))) { s with heap:=We s.heap (c.fB t1) (d.fB t2) }) :=
 .of_wp λprog w A R s h=>by
  obtain⟨hp,g,dd,tk,os⟩:=s;obtain⟨hl1,hl2,h⟩:=h;have hsub:=sub_zip;have Wt:c.src (Shared.heap ⟨hp,g,dd,tk,os⟩) xs:=hl1;have Ws:d.src (Shared.heap ⟨hp.push (c.fB t1),g,dd,tk,os⟩) ys:=Cp.NN hl2 λb o e=>m_ _ e
  wp_walk using Cp.iter (t:=t1) Wt,Cp.iter (t:=t2) Ws
  exact⟨_,Y,h⟩
theorem MR{t1 t2:qcN}{Q:k_->n_->Prop}(sc:c.src s.heap xs)(sd:d.src s.heap ys)
  (h:∀h',IsZip h' (s.heap.objs.size+4) (s.heap.objs.size+2) (s.heap.objs.size+3) .none->qcQ h' (s.heap.objs.size+2) (.ref s.heap.objs.size) (.ref (s.heap.objs.size+1)) →
   qcQ h' (s.heap.objs.size+3) .none .none->c.Ie h' s.heap.objs.size 0->d.Ie h' (s.heap.objs.size+1) 0->(∀b o,s.heap.get? b=some o->h'.get? b=some o)->Q (.ref (s.heap.objs.size+4)) { s with heap:=h' }) :
  C_ (model prog w) A (call (.type "zip") [c.value t1,d.value t2]) Q E s:=by
 refine callType_new F.called_zip (by decide) (F.typeCall_zip_2 _ _) (F.newCall_zip_2 _ _) (λobj=>F.args_object_init_3 obj _ _) F.entry_zip_new
  (Mp c d t1 t2 xs ys) ⟨sc,sd,?_⟩
 have z1:(ZS s.heap (c.fB t1)).objs.size=s.heap.objs.size+1:=qaT ..;have z2:(ZR s.heap (c.fB t1) (d.fB t2)).objs.size=s.heap.objs.size+2:=by rw[qaT,z1]
 have z3:(ZQ s.heap (c.fB t1) (d.fB t2)).objs.size=s.heap.objs.size+3:=by rw[qaT,z2]
 have z4:(ZP s.heap (c.fB t1) (d.fB t2)).objs.size=s.heap.objs.size+4:=by rw[qaT,z3]
 have it1:(c.fB t1).isFreed=false:=by cases c<;>rfl
 have it2:(d.fB t2).isFreed=false:=by cases d<;>rfl
 have g5:(We s.heap (c.fB t1) (d.fB t2)).get? (ZP s.heap (c.fB t1) (d.fB t2)).objs.size=some _:=t_ _ rfl;have g4:(We s.heap (c.fB t1) (d.fB t2)).get? (ZQ s.heap (c.fB t1) (d.fB t2)).objs.size=some _:=m_ _ (t_ _ rfl);have g3:(We s.heap (c.fB t1) (d.fB t2)).get? (ZR s.heap (c.fB t1) (d.fB t2)).objs.size=some _:=m_ _ (m_ _ (t_ _ rfl));have g2:(We s.heap (c.fB t1) (d.fB t2)).get? (ZS s.heap (c.fB t1)).objs.size=some _:=m_ _ (m_ _ (m_ _ (t_ _ it2)));have g1:(We s.heap (c.fB t1) (d.fB t2)).get? s.heap.objs.size=some _:=m_ _ (m_ _ (m_ _ (m_ _ (t_ _ it1))));show _/\_;rw[z2,z3,z4]at g5;rw[z1,z2]at g3;rw[z3]at g4;rw[z1]at g2;rw[z4];exact⟨⟨_,g5,Y⟩,h _ g5 g3 g4 (Cp.Lb g1) (Cp.Lb g2) λb o x =>
  m_ _ (m_ _ (m_ _ (m_ _ (m_ _ x))))⟩
end
section
variable{X:Cx}{pins:List (U×qa9)}{σ:St}{H:Hp}{s:n_}
theorem Inv.moved{h':W_}{t':Nat}{ch:List U}(I:Inv X pins σ H s)(k:∀b o,b∉ch->s.heap.get? b=some o->h'.get? b=some o)(hf:∀b∈ch,uu X pins H b)(ht:s.toks<=t':=by first|exact j_ _|exact qay _|assumption|omega):Inv X pins σ H { s with heap:=h',toks:=t' }:=by
 have SG:∀b u,H b=some u->b∉ch:=λb u e z=>by rw[(hf b z).1]at e;cases e
 refine I.step (g':=s.gens) (d':=s.drawn) (ch:=ch) (λb hb=>?_) (λb o _ _ hc e _=>k b o hc e) (λb o _ _ hc e _=>⟨o.slots,k b o hc e⟩) (λ_ _ _ _ n=>n)
  (λb o hc e=>⟨o,k b o hc e⟩) (λ_ _ e=>e) (λ_ _ _ e=>e) (λb ps e=>⟨#[],by rw[e];simp⟩) (λm hm=>?_) (λb u e=>?_) I.bare (p_ I.up ht)
 ·obtain⟨_,h1,_,h3,h4,h5⟩:=hf b hb;exact⟨h3,h1,h4,h5⟩
 ·obtain⟨o,es,ep,ho,r⟩:=hm;exact⟨o,es,ep,k _ o (λz=>(hf _ z).2.1 Y) ho,r⟩
 ·refine(I.hok b u e).stay (λc v hc q=>k c v ?_ q) (λ_ q=>q) λ_ _ q=>q;rcases hc with z|z
  ·rw[z];exact SG b u e
  ·exact SG c _ z
theorem Inv.NB{a:U}{o:HO}(I:Inv X pins σ H s)(hf:uu X pins H a)(new:dF X.prog X.w (upd H a o) s.heap a o):Inv X pins σ (upd H a o) s:=by
 have hn:=hf.1;have e:s={ s with heap:=s.heap,gens:=s.gens,drawn:=s.drawn,toks:=s.toks }:=rfl;rw[e];refine I.step (ch:=[a]) (λb hb=>?_) (λ_ _ _ _ _ e _=>e) (λ_ o _ _ _ e _=>⟨o.slots,e⟩) (λb _ hc _ n=>?_)
  (λ_ o _ e=>⟨o,e⟩) (λb _ e=>?_) (λb _ _ e=>?_) (λb ps e=>⟨#[],?_⟩) (λ_ hm=>hm) (λb u q=>?_) I.bare I.up
 ·have eb:b=a:=by simpa using hb
  subst eb;obtain⟨_,h1,_,h3,h4,h5⟩:=hf;exact⟨h3,h1,h4,h5⟩
 ·rw[av (λz=>hc (by simp[z]))];exact n
 ·rw[av (aX e hn)];exact e
 ·rw[av (aX e hn)];exact e
 ·rw[av (aX e hn),e];simp
 ·by_cases hb:b=a
  ·subst hb;rw[ai]at q;cases q;exact new
  ·rw[av hb]at q;exact(I.hok b u q).stay (λc v _ r=>r) (λc r=>by rw[av (aX r hn)];exact r) λc xs r=>by rw[av (aX r hn)];exact r
noncomputable def ZA(K:PySem.W.Frag)(c d:Cp):It :=
 ⟨λi H=>wY λxs ys x y=>c.at K H xs/\d.at K H ys/\xs[i]? =some x/\ys[i]? =some y,
  λi H v H'=>nN λp x y=>v= .ref p/\H p=none/\H'=upd H p (.tup [x,y])/\∀xs ys,c.at K H xs->d.at K H ys->xs[i]? =some x/\ys[i]? =some y,
  λi H=>dP λxs ys=>c.at K H xs/\d.at K H ys/\(xs.length<=i\/ys.length<=i)⟩
theorem Ny{P:r_}{w:I_}{K:PySem.W.Frag}{elts:List Expr}{k:Nat}{pos:qbO}{c d:Cp}{z TI TO i1 i2:U}(D:BF z TI TO i1 i2):
  Turn P w K (.Tuple elts k pos) (ZA K c d) [z,TI,TO,i1,i2] z (λi h=>LF h z TI TO i1 i2 c d .none i) where
 mem:=by simp
 obj:=λi h Z b hb=>by
  obtain⟨hz,hTI,⟨a,b',hTO⟩,h1,h2,_,_⟩:=Z;obtain⟨oi1,T1,v1,hi1,_,d1,_⟩:=Cp.nH h1;obtain⟨oi2,T2,v2,hi2,_,d2,_⟩:=Cp.nH h2;simp only[B_,qaq,or_false]at hb;rcases hb with rfl|rfl|rfl|rfl|rfl
  ·exact⟨_,hz,λv q=>by cases q⟩
  ·exact⟨_,hTI,λv q=>by cases q⟩
  ·exact⟨_,hTO,λv q=>by cases q⟩
  ·exact⟨_,hi1,λv q=>by rw[d1]at q;cases q⟩
  ·exact⟨_,hi2,λv q=>by rw[d2]at q;cases q⟩
 keep:=λi h h' Z kp=>by
  obtain⟨hz,hTI,⟨a,b',hTO⟩,h1,h2,o1,o2⟩:=Z;exact⟨kp z (by simp) _ hz,kp TI (by simp) _ hTI,⟨a,b',kp TO (by simp) _ hTO⟩,Cp.k6 h1 λo e=>kp i1 (by simp) o e,Cp.k6 h2 λo e=>kp i2 (by simp) o e,o1,o2⟩
 item:=by
  intro X hP hw hK hc i pins s σ H E I hf Z hg;subst hP hw hK;obtain⟨xs,ys,x,y,hx,hy,ex,ey⟩:=hg;have sc:=Cp.sR I hx;have sd:=Cp.sR I hy;refine TK.bX (j_ s.toks) (Nn D Z sc sd ex ey λu v h' tk ru rv Z' hp kk hup=>⟨_,Y,?_⟩);refine wpAny_letOwnedTupleGo_zip Z'.zz λh'' ac4 sb=>?_;have hnz:s.heap.objs.size≠z:=qbc (E_ Z.zz);have k2:∀b o,b∉[z,TI,TO,i1,i2]->s.heap.get? b=some o->h''.get? b=some o:=λb o hb e=>by
   simp only[B_,qaq,or_false,not_or]at hb;exact sb.extBut _ _ hb.1 (kk b o hb.1 hb.2.2.1 hb.2.2.2.1 hb.2.2.2.2 e)
  have I1:Inv X pins σ H { s with heap:=h'',toks:=tk }:=I.moved k2 hf;have hn:H s.heap.objs.size=none:=I.fresh;have Y6:uu X pins H s.heap.objs.size:=I.xV (j_ _) hn;have hp2:qcQ h'' s.heap.objs.size u v:=sb.extBut _ _ hnz hp;have I2:Inv X pins σ (upd H s.heap.objs.size (.tup [x,y])) { s with heap:=h'',toks:=tk } :=
   I1.NB Y6 ⟨c_,[u,v],.cons ru (.cons rv .nil),⟨_,hp2,rfl,_,rfl⟩⟩
  refine⟨.ref s.heap.objs.size,_,I2,Y,⟨_,x,y,Y,hn,Y,λxs' ys' hx' hy'=>?_⟩,?_,λb hb=>?_⟩
  ·rw[Cp.JV I hx' hx,Cp.JV I hy' hy];exact⟨ex,ey⟩
  ·obtain⟨_,hTI,⟨a,b',hTO⟩,h1,h2,o1,o2⟩:=Z';exact⟨ac4,sb.extBut _ _ D.TIz hTI,⟨a,b',sb.extBut _ _ D.TOz hTO⟩,Cp.k6 h1 λo e=>sb.extBut _ _ D.i1z e,Cp.k6 h2 λo e=>sb.extBut _ _ D.i2z e,o1,o2⟩
  ·have lt:b<s.heap.objs.size:=by
    obtain⟨hz,hTI,⟨a,b',hTO⟩,h1,h2,_,_⟩:=Z;obtain⟨oi1,T1,v1,hi1,_,d1,_⟩:=Cp.nH h1;obtain⟨oi2,T2,v2,hi2,_,d2,_⟩:=Cp.nH h2;simp only[B_,qaq,or_false]at hb;rcases hb with rfl|rfl|rfl|rfl|rfl
    ·exact E_ hz
    ·exact E_ hTI
    ·exact E_ hTO
    ·exact E_ hi1
    ·exact E_ hi2
   rw[av (R_ lt)];exact(hf b hb).1
 done:=by
  intro X hP hw hK hc i pins s σ H E I hf Z hg;subst hP hw hK;obtain⟨xs,ys,hx,hy,he⟩:=hg;refine TK.bX (j_ s.toks) (QI (I.ok.hd hc) D Z (Cp.sR I hx) (Cp.sR I hy) (he.imp (λq=>qa_ q) λq=>qa_ q) λh' tk kk hup=>⟨Y,?_⟩);exact I.moved (λb o hb e=>by
   simp only[B_,qaq,or_false,not_or]at hb;exact kk b o hb.1 hb.2.2.1 hb.2.2.2.1 hb.2.2.2.2 e) hf
 self:=λ_ _ _ _ _ Z h=>wpAny_pyIter_zip Z.zz h
theorem Ii(n:Nat):BF (n+4) (n+2) (n+3) n (n+1):=by
 have ne:∀{a b:Nat},a<b->a≠b:=λh=>R_ h;exact⟨ne (by omega),ne (by omega),ne (by omega),ne (by omega),ne (by omega),(ne (by omega)).symm,(ne (by omega)).symm,(ne (by omega)).symm,(ne (by omega)).symm,ne (by omega)⟩
def acY(K:PySem.W.Frag)(ta:TA):TI:=λσ H R=>ta σ H λvs H1=>wY λc d xs ys=>vs=[c.val,d.val]/\c.at K H1 xs/\d.at K H1 ys/\R (ZA K c d) H1
theorem Ec {a b:Expr}{ta:TA}{p pos:qbO}{elts:List Expr}{k:Nat}{tpos:qbO}(hc:X.calm=true)(hg:Gl X "zip")(hm:X.mg "zip" =none)(ha:PA X [a,b] ta)
  (hs:qaf [a,b] X.env=[(false,eval a X.env),(false,eval b X.env)]:=by rfl) (hs2:qaf [b] X.env=[(false,eval b X.env)]:=by rfl) :
  PI X (.Tuple elts k tpos) (.Call (.Name "zip" p) [a,b] [] pos) (acY X.K ta):=by
 intro pins s σ H R I h;refine Call_ (rQ I hg hm boot_zip (qaQ (fR (ha pos pins s σ H _ I h) λus s1 ⟨vs,H1,I1,r1,q1⟩=>?_) (by rw[hs,hs2]) (by rw[hs2];rfl)));obtain⟨c,d,xs,ys,e,hx,hy,q⟩:=q1;subst e;obtain⟨u,v,rfl,ru,rv⟩:=vals2 r1;obtain⟨t1,rfl⟩:=Cp.value_of ru;obtain⟨t2,rfl⟩:=Cp.value_of rv;have sc:=Cp.sR I1 hx;have sd:=Cp.sR I1 hy;refine MR sc sd λh' hz hTI hTO h1 h2 kk=>wpAny_pyIter_zip hz ?_;have D:BF (s1.heap.objs.size+4) (s1.heap.objs.size+2) (s1.heap.objs.size+3) s1.heap.objs.size (s1.heap.objs.size+1) :=
  Ii _
 refine⟨_,[s1.heap.objs.size+4,s1.heap.objs.size+2,s1.heap.objs.size+3,s1.heap.objs.size,s1.heap.objs.size+1],_,_,H1,Y,I1.kept (t':=s1.toks) kk,Ny D,
  ⟨hz,hTI,⟨_,_,hTO⟩,h1,h2,Cp.K4 sc (qaF _ 3),Cp.K4 sd (qaF _ 3)⟩,λb hb=>?_,q⟩
 have le:s1.heap.objs.size<=b:=by
  simp only[B_,qaq,or_false]at hb;rcases hb with rfl|rfl|rfl|rfl|rfl
  ·exact qaF _ _
  ·exact qaF _ _
  ·exact qaF _ _
  ·exact j_ _
  ·exact qaF _ _
 exact I1.xV le (I1.hok.fresh le)
end
end
section
noncomputable def ZD(x:v_):It:=⟨λi _=>i<x.cps.size,λi H v H'=>H'=H/\∃k,x.cps[i]? =some k/\v= .str ⟨#[k]⟩,λi _=>x.cps.size<=i⟩
section
variable{prog:r_}{w:I_}{A:qab}{E:k_->n_->Prop}{s:n_}
theorem t7{it:U}{x:v_}{t:qcN}{i k:Nat}{Q:Option k_->n_->Prop}(hit:s.heap.IsStrIter it (strIterType x) x t i)(hx:x.cps[i]? =some k)
  (hQ:∀h',h'.IsStrIter it (strIterType x) x t (i+1)->qbB it s.heap h'->Q (some (.str ⟨#[k]⟩ s.toks)) { s with heap:=h',toks:=s.toks+1 }):C_ (model prog w) A (pyNext (.ref it)) Q E s:=by
 unfold strIterType at hit hQ;by_cases ha:(x.cps.all (·<128))=true
 ·rw[if_pos ha]at hit hQ;exact wpAny_pyNext_ascii_item hit hx hQ
 ·rw[if_neg ha]at hit hQ;exact wpAny_pyNext_wide_item hit hx hQ
theorem uC{it:U}{x:v_}{t:qcN}{i:Nat}{Q:Option k_->n_->Prop}(hh:A.handled=none)(hit:s.heap.IsStrIter it (strIterType x) x t i)(hx:x.cps[i]? =none)
  (hQ:∀h',qcM it s.heap h'->Q none { s with heap:=h' }):C_ (model prog w) A (pyNext (.ref it)) Q E s:=by
 unfold strIterType at hit;by_cases ha:(x.cps.all (·<128))=true
 ·rw[if_pos ha]at hit;exact wpAny_pyNext_ascii_end hh hit hx hQ
 ·rw[if_neg ha]at hit;exact wpAny_pyNext_wide_end hh hit hx hQ
theorem uD{it:U}{x:v_}{t:qcN}{i:Nat}{Q:k_->n_->Prop}(hit:s.heap.IsStrIter it (strIterType x) x t i)(h:Q (.ref it) s):C_ (model prog w) A (pyIter (.ref it)) Q E s:=by
 unfold strIterType at hit;by_cases ha:(x.cps.all (·<128))=true
 ·rw[if_pos ha]at hit;exact wpAny_pyIter_striter_ascii hit h
 ·rw[if_neg ha]at hit;exact wpAny_pyIter_striter_wide hit h
end
theorem yi(x:v_):["enumerate","zip","dict_itemiterator","dict_reverseitemiterator","odict_iterator","itertools.zip_longest","itertools.pairwise"].contains (strIterType x)=false:=by
 unfold strIterType;split<;>decide
theorem FA{P:r_}{w:I_}{K:PySem.W.Frag}{tg:Expr}(x:v_)(t:qcN)(it:U):Turn P w K tg (ZD x) [it] it (λi h=>h.IsStrIter it (strIterType x) x t i) where
 mem:=by simp
 obj:=λi h st b hb=>by
  have e:b=it:=by simpa using hb
  subst e;obtain⟨o,e,c,d⟩:=st;exact⟨o,e,λv z=>by rw[d]at z;cases z⟩
 keep:=λi h h' st k=>by
  obtain⟨o,e,r⟩:=st;exact⟨o,k it (by simp) o e,r⟩
 item:=by
  intro X hP hw hK hc i pins s σ H E I hf st hg;subst hP hw hK;have hi:i<x.cps.size:=hg;obtain⟨f0,f1,f2,f3,f4,f5⟩:=hf it (by simp);refine t7 st (k:=x.cps[i]) (by simp[hi]) λh' st' sb=>?_;have I1:Inv X pins σ H { s with heap:=h',toks:=s.toks+1 }:=I.turned (λb o hb e=>(sb.2 b hb).trans e) f0 f1 f3 f4 f5;obtain⟨o,e,c,d⟩:=id st';exact⟨_,Y,Dv (s:={ s with heap:=h',toks:=s.toks+1 }) e c d (yi x) ⟨.str ⟨#[x.cps[i]]⟩,H,I1,⟨_,Y⟩,⟨Y,_,by simp[hi],Y⟩,st',λb hb=>(hf b hb).1⟩⟩
 done:=by
  intro X hP hw hK hc i pins s σ H E I hf st hg;subst hP hw hK;have hi:x.cps.size<=i:=hg;obtain⟨f0,f1,f2,f3,f4,f5⟩:=hf it (by simp);exact uC (I.ok.hd hc) st (by simp[hi]) λh' eb=>⟨Y,I.turned (t':=s.toks) (λb o hb e=>eb b o hb e) f0 f1 f3 f4 f5⟩
 self:=λ_ _ _ _ _ st h=>uD st h
section
variable{X:Cx}{tg:Expr}
def acZ(tl:TE):TI:=λσ H R=>tl σ H λv H1=>∃x,v= .str x/\R (ZD x) H1
theorem IZ{l:Expr}{tl:TE}(hl:PE X l tl):PI X tg l (acZ tl):=by
 intro pins s σ H R I h;refine fR (hl pins s σ H _ I h) λv s1 ⟨y,H1,I1,r1,q1⟩=>?_;obtain⟨x,e,q⟩:=q1;subst e;obtain⟨t,rfl⟩:=r1;refine qcB ?_;refine⟨s1.heap.objs.size,[s1.heap.objs.size],_,_,H1,Y,I1.kept (t':=s1.toks) λb o e=>m_ _ e,FA x t _,⟨_,t_ _ Y,Y,Y⟩,λb hb=>?_,q⟩;have e:b=s1.heap.objs.size:=by simpa using hb
 subst e;exact I1.xV (j_ _) (I1.hok.fresh (j_ _))
theorem Lk{x:v_}{g:TG}{tb:TS}{D:Ends}{σ:St}{H:Hp}(Pv:Nat->St->Hp->Prop)(h0:Pv 0 σ H)
  (hs:∀i k σ H,x.cps[i]? =some k->Pv i σ H->g (.str ⟨#[k]⟩) σ H λσ2 H2=>tb { D with nx:=Pv (i+1),ct:=Pv (i+1),bk:=D.nx } σ2 H2) (hd:∀ σ H,Pv x.cps.size σ H->D.nx σ H) :
  ∃W:Nat->Nat->St->Hp->Prop,(∃m,W 0 m σ H)/\∀i m σ H,W i m σ H →
   ((ZD x).stop i H/\D.nx σ H)\/((ZD x).go i H/\∃N:St->Hp->Prop,(∀ σ' H',N σ' H'->∃m',m'<m/\W (i+1) m' σ' H')/\∀y H',(ZD x).CZ i H y H'->g y σ H' λσ2 H2=>tb { D with nx:=N,ct:=N,bk:=D.nx } σ2 H2):=by
 refine⟨λi m σ H=>m=x.cps.size-i/\i<=x.cps.size/\Pv i σ H,⟨x.cps.size,by simp,Q_ _,h0⟩,?_⟩;rintro i m σ H ⟨rfl,hi,p⟩;by_cases hlt:i<x.cps.size
 ·refine .inr ⟨hlt,Pv (i+1),λσ' H' p'=>⟨x.cps.size-(i+1),by omega,Y,hlt,p'⟩,λy H' q=>?_⟩;obtain⟨e,k,ek,rfl⟩:=q;subst e;exact hs i k σ _ ek p
 ·have e:i=x.cps.size:=by omega
  subst e;exact .inl ⟨j_ _,hd σ H p⟩
theorem EI{K:PySem.W.Frag}{c d:Cp}{xs ys:List V}{g:TG}{tb:TS}{D:Ends}{σ:St}{H:Hp}(Pv:Nat->St->Hp->Prop)(h0:Pv 0 σ H)(hl:∀i σ H,i<=min xs.length ys.length->Pv i σ H->c.at K H xs/\d.at K H ys)
  (hs:∀i x y p σ H,xs[i]? =some x->ys[i]? =some y->H p=none->Pv i σ H->g (.ref p) σ (upd H p (.tup [x,y])) λσ2 H2=>tb { D with nx:=Pv (i+1),ct:=Pv (i+1),bk:=D.nx } σ2 H2)
  (hd:∀ σ H,Pv (min xs.length ys.length) σ H->D.nx σ H) :
  ∃W:Nat->Nat->St->Hp->Prop,(∃m,W 0 m σ H)/\∀i m σ H,W i m σ H →
   ((ZA K c d).stop i H/\D.nx σ H)\/((ZA K c d).go i H/\∃N:St->Hp->Prop,(∀ σ' H',N σ' H'->∃m',m'<m/\W (i+1) m' σ' H')/\∀y H',(ZA K c d).CZ i H y H'->g y σ H' λσ2 H2=>tb { D with nx:=N,ct:=N,bk:=D.nx } σ2 H2):=by
 refine⟨λi m σ H=>m=min xs.length ys.length-i/\i<=min xs.length ys.length/\Pv i σ H,⟨min xs.length ys.length,by simp,Q_ _,h0⟩,?_⟩;rintro i m σ H ⟨rfl,hi,p⟩;obtain⟨zx,zy⟩:=hl i σ H hi p;by_cases hlt:i<min xs.length ys.length
 ·have h1:i<xs.length:=by omega
  have h2:i<ys.length:=by omega
  refine .inr ⟨⟨xs,ys,xs[i],ys[i],zx,zy,by simp[h1],by simp[h2]⟩,Pv (i+1),λσ' H' p'=>⟨min xs.length ys.length-(i+1),by omega,Y,hlt,p'⟩,λv H' q=>?_⟩;obtain⟨a,x,y,rfl,ha,rfl,e⟩:=q;obtain⟨e1,e2⟩:=e xs ys zx zy;exact hs i x y a σ H e1 e2 ha p
 ·have e:i=min xs.length ys.length:=by omega
  subst e;refine .inl ⟨⟨xs,ys,zx,zy,?_⟩,hd σ H p⟩;rcases Nat.le_total xs.length ys.length with q|q
  ·exact .inl (by rw[qcp q];exact j_ _)
  ·exact .inr (by rw[Nat.min_eq_right q];exact j_ _)
end
end
section
noncomputable def Cp.adr:Cp->List U
 | .lst a=>[a]
 | .tup a=>[a]
 | .txt _=>[]
theorem Cp.Ri{c:Cp}{b:U}(h:c.off b):b∉c.adr:=by
 cases c with
 |lst a =>
  intro z;have q:b=a:=by simpa[Cp.adr]using z
  exact h q.symm
 |tup a =>
  intro z;have q:b=a:=by simpa[Cp.adr]using z
  exact h q.symm
 |txt x=>intro z;cases z
theorem Cp.QX{c:Cp}{xs:List V}{h h':W_}(hs:c.src h xs)(k:∀b∈c.adr,∀o,h.get? b=some o->h'.get? b=some o):c.src h' xs:=by
 cases c with
 |lst a=>obtain⟨its,r,o,ho,q⟩:=hs;exact⟨its,r,o,k a (by simp[Cp.adr]) _ ho,q⟩
 |tup a=>obtain⟨its,r,o,ho,q⟩:=hs;exact⟨its,r,o,k a (by simp[Cp.adr]) _ ho,q⟩
 |txt x=>exact hs
theorem Cp.draws{prog:r_}{w:I_}{A:qab}{c:Cp}{xs:List V}(hh:A.handled=none)(it:U):
  Draws prog w A it (it::c.adr) xs.length (λi v=>∃x,xs[i]? =some x/\RelV x v) (λi h=>c.Ie h it i/\c.src h xs) where
 live:=λi h st=>by
  obtain⟨o,_,_,ho,_⟩:=Cp.nH st.1;exact⟨o,ho⟩
 frame:=λi h h' st k=>⟨Cp.k6 st.1 λo e=>k it (by simp) o e,Cp.QX st.2 λb hb o e=>k b (s_ _ hb) o e⟩
 item:=λi s Q E hi st hQ=>by
  obtain⟨o,T,_,ho,hc,_,n1,n2⟩:=Cp.nH st.1;have off:c.off it:=Cp.rL st.2 ho hc n1 n2;refine Cp.item st.1 st.2 (x:=xs[i]) (by simp[hi]) λu h' tk ru q sb=>?_;exact hQ u h' tk ⟨_,by simp[hi],ru⟩ ⟨q,Cp.oR st.2 sb.extBut off⟩ sb
 done:=λs Q E st hE=>Cp.fin hh st.1 st.2 (by simp) hE
noncomputable def ZF(K:PySem.W.Frag)(c:Cp):It :=
 ⟨λi H=>dP λxs x=>c.at K H xs/\xs[i]? =some x,
  λi H v H'=>dP λp x=>v= .ref p/\H p=none/\H'=upd H p (.tup [.int (i:Int),x])/\∀xs,c.at K H xs->xs[i]? =some x,
  λi H=>∃xs,c.at K H xs/\xs.length<=i⟩
theorem LO{P:r_}{w:I_}{K:PySem.W.Frag}{elts:List Expr}{k:Nat}{pos:qbO}{c:Cp}{e it:U}(hei:e≠it):
  Turn P w K (.Tuple elts k pos) (ZF K c) [e,it] e (λi h=>(∃old,IsEnum h e it i old)/\c.Ie h it i) where
 mem:=by simp
 obj:=λi h Z b hb=>by
  obtain⟨⟨old,he⟩,hi⟩:=Z;obtain⟨o,_,vs,ho,_,d,_⟩:=Cp.nH hi;simp only[B_,qaq,or_false]at hb;rcases hb with rfl|rfl
  ·exact⟨_,he,λv q=>by cases q⟩
  ·exact⟨_,ho,λv q=>by rw[d]at q;cases q⟩
 keep:=λi h h' Z kp=>by
  obtain⟨⟨old,he⟩,hi⟩:=Z;exact⟨⟨old,kp e (by simp) _ he⟩,Cp.k6 hi λo q=>kp it (by simp) o q⟩
 item:=by
  intro X hP hw hK hc i pins s σ H E I hf Z hg;subst hP hw hK;obtain⟨xs,x,hx,ex⟩:=hg;obtain⟨⟨old,he⟩,hi⟩:=id Z;have sc:=Cp.sR I hx;have acv:c.off e:=Cp.rL sc he rfl (by decide) (by decide);have hlt:i<xs.length:=(o_.mp ex).1;have hh:X.A.in1.handled=none:=I.ok.hd hc;refine TK.bX (j_ s.toks) (wpAny_pyNext_enum_itemD (Cp.draws (c:=c) (xs:=xs) hh it) he ⟨hi,sc⟩ hlt hei (λz=>?_) λu h' tk hP ho st' hT hsz kk hup=>⟨_,Y,?_⟩)
  ·rcases B_.mp z with q|q
   ·exact hei q
   ·exact Cp.Ri acv q
  ·obtain⟨x',ex',ru⟩:=hP;rw[ex]at ex';cases ex';refine wpAny_letOwnedTupleGo_enum ho λh'' VG sb=>?_;have hne:s.heap.objs.size≠e:=qbc (E_ he);have k2:∀b o,b∉[e,it]->s.heap.get? b=some o->h''.get? b=some o:=λb o hb q=>by
    simp only[B_,qaq,or_false,not_or]at hb;exact sb.extBut _ _ hb.1 (kk b o hb.1 hb.2 q)
   have I1:Inv X pins σ H { s with heap:=h'',toks:=tk+1 }:=I.moved k2 hf (by have z:s.toks<=tk+1:=hup;exact z);have hn:H s.heap.objs.size=none:=I.fresh;have Y6:uu X pins H s.heap.objs.size:=I.xV (j_ _) hn;have hp2:h''.get? s.heap.objs.size=some { cls:=.type "tuple",data:=.seq #[.int i tk,u] }:=sb.extBut _ _ hne hT;have I2:Inv X pins σ (upd H s.heap.objs.size (.tup [.int (i:Int),x])) { s with heap:=h'',toks:=tk+1 } :=
    I1.NB Y6 ⟨c_,[.int i tk,u],.cons ⟨_,rfl⟩ (.cons ru .nil),⟨_,hp2,rfl,_,rfl⟩⟩
   refine⟨.ref s.heap.objs.size,_,I2,Y,⟨_,x,Y,hn,Y,λxs' hx'=>?_⟩,⟨⟨_,VG⟩,Cp.k6 st'.1 λo q=>sb.extBut _ _ (Ne.symm hei) q⟩,λb hb=>?_⟩
   ·rw[Cp.JV I hx' hx];exact ex
   ·obtain⟨o,_,vs,hoi,_⟩:=Cp.nH hi;have lt:b<s.heap.objs.size:=by
     have hb':=hb;simp only[B_,qaq,or_false]at hb';rcases hb' with rfl|rfl
     ·exact E_ he
     ·exact E_ hoi
    rw[av (R_ lt)];exact(hf b hb).1
 done:=by
  intro X hP hw hK hc i pins s σ H E I hf Z hg;subst hP hw hK;obtain⟨xs,hx,hle⟩:=hg;obtain⟨⟨old,he⟩,hi⟩:=Z;have hh:X.A.in1.handled=none:=I.ok.hd hc;have hT:s.TypeIs (.ref e) "enumerate" :=⟨_,he,rfl⟩;unfold pyNext;refine f_ (wpAny_attempt (qaS (name:=h_ "__next__") hT F.slot_enumerate_next
   (qaU F.slot_enumerate_next hT F.entry_enumerate_next ?_ (F.args_enumerate_next_1 _))))
  show C_ _ _ (field (.ref e) 2 >>= _) _ _ _;refine f_ (qa8 he Y (x:=.ref it) Y ?_);refine f_ (Cp.fin hh hi (Cp.sR I hx) (qa_ hle) λh' y eb hy=>?_);obtain⟨o,ho,hcl⟩:=hy;refine f_ (qbJ (T:= "StopIteration") (b:=true) ⟨o,ho,hcl⟩ isSubtype_stop ?_);refine q_ ⟨Y,I.moved (t':=s.toks) (ch:=[e,it]) (λb o hb q=>eb b o ?_ q) hf⟩;simp only[B_,qaq,or_false,not_or]at hb;exact hb.2
 self:=λ_ _ _ _ _ Z h=>by
  obtain⟨⟨old,he⟩,_⟩:=Z;exact wpAny_pyIter_enum he h
section
variable{prog:r_}{w:I_}{A:qab}{E:k_->n_->Prop}{s:n_}
set_option maxHeartbeats 1000000 in
theorem Bb(l:U)(items:Array k_)(n:Nat)(dct:Option U)(sl:Array (Option k_)):
  Meets (Builtin.«enumerate.__new__» ⟨[.type "enumerate",.ref l],[]⟩) (λ_ R s=>s.heap.get? l=some { cls:=.type "tuple",dict:=dct,data:=.seq items n,slots:=sl } ∧
   R (.ok (.ret (.ref (s.heap.push { cls:=.type "tuple_iterator",data:=.fields #[.ref l,.int 0 0] }).objs.size)))
    { s with heap:=(s.heap.push { cls:=.type "tuple_iterator",data:=.fields #[.ref l,.int 0 0] }).push { cls:=.type "enumerate",data:=.fields #[.none,.bool false,.ref s.heap.objs.size,rawInt 0,.none,.none] } }) :=
 .of_wp λprog w A R s h=>by
  obtain⟨hp,g,d,tk,os⟩:=s;obtain⟨hl,h⟩:=h;have hsub:=sub_enumerate;have hL:Heap.IsTuple (Shared.heap ⟨hp,g,d,tk,os⟩) l items:=⟨_,hl,rfl,n,rfl⟩
  wp_walk using qbE hl
  refine wpAny_stack_any λst=>q_ ?_;split
  ·rename_i c _ _ _ _ _
   cases (c==Value.type "enumerate")
   ·wp_walk using qbE hl,qbr hL
    exact⟨_,Y,h⟩
   ·wp_walk using qbE hl,qbr hL
    exact⟨_,Y,h⟩
  ·wp_walk using qbE hl,qbr hL
   exact⟨_,Y,h⟩
theorem CD{l:U}{items:Array k_}{Q:k_->n_->Prop}(hL:s.heap.IsTuple l items)
  (h:∀h',IsEnum h' (s.heap.objs.size+1) s.heap.objs.size 0 .none->h'.IsTupleIter s.heap.objs.size l 0 →
   (∀b o,s.heap.get? b=some o->h'.get? b=some o)->Q (.ref (s.heap.objs.size+1)) { s with heap:=h' }) :
  C_ (model prog w) A (call (.type "enumerate") [.ref l]) Q E s:=by
 obtain⟨⟨c,dct,dt,sl⟩,hl,hc,n,hd⟩:=hL;replace hc:c= .type "tuple" :=hc;replace hd:dt= .seq items n:=hd;subst hc hd;refine callType_new F.called_enumerate (by decide) (F.typeCall_enumerate_1 _) (F.newCall_enumerate_1 _) (λobj=>F.args_object_init_2 obj _) F.entry_enumerate_new
  (Bb l items n dct sl) ⟨hl,?_⟩
 have hz:(s.heap.push { cls:=.type "tuple_iterator",data:=.fields #[.ref l,.int 0 0] }).objs.size=s.heap.objs.size+1:=qaT ..;show _/\_;rw[hz];have he:IsEnum ((s.heap.push { cls:=.type "tuple_iterator",data:=.fields #[.ref l,.int 0 0] }).push
   { cls:=.type "enumerate",data:=.fields #[.none,.bool false,.ref s.heap.objs.size,rawInt 0,.none,.none] }) (s.heap.objs.size+1) s.heap.objs.size 0 .none:=by
  have:=t_ (s.heap.push { cls:=.type "tuple_iterator",data:=.fields #[.ref l,.int 0 0] })
   (o:={ cls:=.type "enumerate",data:=.fields #[.none,.bool false,.ref s.heap.objs.size,rawInt 0,.none,.none] }) rfl
  rw[hz]at this;exact this
 exact⟨⟨_,he,Y⟩,h _ he ⟨_,m_ _ (t_ _ Y),Y,Y⟩ λb o x=>m_ _ (m_ _ x)⟩
theorem JR{c:Cp}{xs:List V}{t:qcN}{Q:k_->n_->Prop}(sc:c.src s.heap xs)
  (h:∀h',IsEnum h' (s.heap.objs.size+1) s.heap.objs.size 0 .none->c.Ie h' s.heap.objs.size 0->(∀b o,s.heap.get? b=some o->h'.get? b=some o)->Q (.ref (s.heap.objs.size+1)) { s with heap:=h' }) :
  C_ (model prog w) A (call (.type "enumerate") [c.value t]) Q E s:=by
 cases c with
 |lst a=>obtain⟨its,_,p⟩:=sc;exact call_enumerate_list p λh' a b _ k=>h h' a b k
 |tup a=>obtain⟨its,_,p⟩:=sc;exact CD p λh' a b k=>h h' a b k
 |txt x=>exact call_enumerate_str λh' a b _ k=>h h' a ⟨t,b⟩ k
end
section
variable{X:Cx}
def Yv(K:PySem.W.Frag)(ta:TA):TI:=λσ H R=>ta σ H λvs H1=>dP λc xs=>vs=[c.val]/\c.at K H1 xs/\R (ZF K c) H1
theorem xF {a:Expr}{ta:TA}{p pos:qbO}{elts:List Expr}{k:Nat}{tpos:qbO}(hg:Gl X "enumerate")(hm:X.mg "enumerate" =none)(ha:PA X [a] ta)
  (hs:qaf [a] X.env=[(false,eval a X.env)]:=by rfl):PI X (.Tuple elts k tpos) (.Call (.Name "enumerate" p) [a] [] pos) (Yv X.K ta):=by
 intro pins s σ H R I h;refine Call_ (rQ I hg hm boot_enumerate (qaQ (fR (ha pos pins s σ H _ I h) λus s1 ⟨vs,H1,I1,r1,q1⟩=>?_) hs Y));obtain⟨c,xs,e,hx,q⟩:=q1;subst e;obtain⟨u,rfl,ru⟩:=vals1 r1;obtain⟨t,rfl⟩:=Cp.value_of ru;have sc:=Cp.sR I1 hx;refine JR sc λh' he hi kk=>wpAny_pyIter_enum he ?_;have hei:s1.heap.objs.size+1≠s1.heap.objs.size:=qbc (qaO _);refine⟨_,[s1.heap.objs.size+1,s1.heap.objs.size],_,_,H1,Y,I1.kept (t':=s1.toks) kk,LO hei,⟨⟨_,he⟩,hi⟩,λb hb=>?_,q⟩;have le:s1.heap.objs.size<=b:=by
  simp only[B_,qaq,or_false]at hb;rcases hb with rfl|rfl
  ·exact qaF _ _
  ·exact j_ _
 exact I1.xV le (I1.hok.fresh le)
theorem uN{K:PySem.W.Frag}{c:Cp}{xs:List V}{g:TG}{tb:TS}{D:Ends}{σ:St}{H:Hp}(Pv:Nat->St->Hp->Prop)(h0:Pv 0 σ H)(hl:∀i σ H,i<=xs.length->Pv i σ H->c.at K H xs)
  (hs:∀(i:Nat) x p σ H,xs[i]? =some x->H p=none->Pv i σ H->g (.ref p) σ (upd H p (.tup [.int (i:Int),x])) λσ2 H2=>tb { D with nx:=Pv (i+1),ct:=Pv (i+1),bk:=D.nx } σ2 H2)
  (hd:∀ σ H,Pv xs.length σ H->D.nx σ H) :
  ∃W:Nat->Nat->St->Hp->Prop,(∃m,W 0 m σ H)/\∀i m σ H,W i m σ H →
   ((ZF K c).stop i H/\D.nx σ H)\/((ZF K c).go i H/\∃N:St->Hp->Prop,(∀ σ' H',N σ' H'->∃m',m'<m/\W (i+1) m' σ' H')/\∀y H',(ZF K c).CZ i H y H'->g y σ H' λσ2 H2=>tb { D with nx:=N,ct:=N,bk:=D.nx } σ2 H2):=by
 refine⟨λi m σ H=>m=xs.length-i/\i<=xs.length/\Pv i σ H,⟨xs.length,by simp,Q_ _,h0⟩,?_⟩;rintro i m σ H ⟨rfl,hi,p⟩;have zx:=hl i σ H hi p;by_cases hlt:i<xs.length
 ·refine .inr ⟨⟨xs,xs[i],zx,by simp[hlt]⟩,Pv (i+1),λσ' H' p'=>⟨xs.length-(i+1),by omega,Y,hlt,p'⟩,λv H' q=>?_⟩;obtain⟨a,x,rfl,ha,rfl,e⟩:=q;exact hs i x a σ H (e xs zx) ha p
 ·have e:i=xs.length:=by omega
  subst e;exact .inl ⟨⟨xs,zx,j_ _⟩,hd σ H p⟩
end
end
section
set_option maxRecDepth 100000
noncomputable def met(val:Nat->v_)(i:Nat):List v_:=((S_ i).map val).foldl qcI []
theorem A0(val:Nat->v_):met val 0=[]:=rfl
theorem uJ(val:Nat->v_)(i:Nat):met val (i+1)=qcI (met val i) (val i):=by
 unfold met;rw[qbZ,M_,qb6];rfl
theorem vP(val:Nat->v_):∀i,(met val i).length<=i
 | 0=>by rw[A0];exact j_ _
 |i+1=>by
  rw[uJ];have ih:=vP val i;unfold qcI;split
  ·omega
  ·rw[G_,List.length_singleton];omega
theorem xN(σ:List v_)(v k:v_):(qcI σ v).any (·==k)=(σ.any (·==k)||decide (k=v)):=by
 unfold qcI;by_cases h:σ.any (·==v)=true
 ·rw[if_pos h];by_cases e:k=v
  ·subst e;rw[h];simp
  ·simp[e]
 ·rw[if_neg h,List.any_append];by_cases e:k=v
  ·subst e;simp
  ·have hb:(v==k)=false:=by simpa[beq_iff_eq]using(λh':v=k=>e h'.symm)
   simp[hb,e]
theorem ud(σ:List v_)(v:v_):(qcI σ v).length=if σ.any (·==v)then σ.length else σ.length+1:=by
 unfold qcI;split<;>simp
section
variable{prog:r_}{w:I_}{A:qab}{R:Result->n_->Prop}{I:U}{fp wr:List U}{G:Array GenState->Array GenState->Prop}{n:Nat}{P:Nat->k_->Prop}{St:Nat->n_->Prop}
theorem D3(W:WalksS prog w A.in1 I fp wr G n P St)(S:U)(hSf:S∉fp)(val:Nat->v_)(hval:∀i v,P i v->∃t,v= .str (val i) t)(hb:n+1<scanBound):
  ∀(k i:Nat) (s:n_),n-i=k->i<=n->St i s->s.heap.SetOf (strKind prog w) S (λk'=>(met val i).any (·==k')) (met val i).length →
   (∀s',Moved (S::wr) G s s'->s'.heap.SetOf (strKind prog w) S (λk'=>(met val n).any (·==k')) (met val n).length->R (.ok (.ret .none)) s') →
   codeAny (model prog w) A (.builtin "set.update.loop" ⟨[.ref S,.ref I],[]⟩) R s:=by
 have hSw:S∉wr:=λh=>hSf (W.sub _ h);have hsub:∀b∈wr,b∈S::wr:=λb hb=>s_ _ hb;intro k
 induction k with
 |zero =>
  intro i s hk hi hst hS hR;have hin:i=n:=by omega
  subst hin;refine qa3 PyProof.Rows.F.entry_set_update_loop ?_;rw[qaI qbo _];show C_ _ A.in1 (pyNext (.ref I) >>= _) _ _ s;refine f_ (W.done s _ _ hst λs' hm=>?_);show C_ _ A.in1 (ret Value.none) _ _ s';exact q_ (hR s' (hm.mono hsub) (by
   obtain⟨o,es,ep,t,ho,rest⟩:=hS;exact⟨o,es,ep,t,hm.heap S _ hSw ho,rest⟩))
 |succ k ih =>
  intro i s hk hi hst hS hR;have hlt:i<n:=by omega
  refine qa3 PyProof.Rows.F.entry_set_update_loop ?_;rw[qaI qbo _];show C_ _ A.in1 (pyNext (.ref I) >>= _) _ _ s;refine f_ (W.item i s _ _ hlt hst λv s' hP ade hm=>?_);obtain⟨t,rfl⟩:=hval i v hP;have hS':s'.heap.SetOf (strKind prog w) S (λk'=>(met val i).any (·==k')) (met val i).length:=by
   obtain⟨o,es,ep,tb,ho,rest⟩:=hS;exact⟨o,es,ep,tb,hm.heap S _ hSw ho,rest⟩
  show C_ _ A.in1 (holding [Value.str (val i) t] (setAdd S (.str (val i) t)) >>= _) _ _ s';refine f_ (qaN ?_);unfold setAdd;refine qaN ?_;refine f_ ((strKind prog w).pyHash (k:=val i) (strKind_is _ _ _ _) ?_);have hroom:(met val i).length+1<scanBound:=by have:=vP val i;omega
  refine wpAny_setAddHashed_of (knd:=strKind prog w) (s:={ s' with toks:=s'.toks+1 }) (strKind_is _ _ _ _) Y hS' hroom λh' S1 hS2=>?_;have hSi:h'.SetOf (strKind prog w) S (λk'=>(met val (i+1)).any (·==k')) (met val (i+1)).length :=
   SetOf_congr hS2 (λk'=>by rw[uJ,xN]) (by rw[uJ,ud])
  refine q_ ⟨qbd qbo _,ih (i+1) _ (by omega) hlt (W.frame _ s' _ _ ade (qay _) λb hb o e=>?_) hSi λs'' adl adF=>?_⟩
  ·rw[S1.2 b (λh:b=S=>hSf (by rw[←h];exact hb))];exact e
  ·refine hR s'' (Moved.trans W.gtrans ((hm.mono hsub).then_heap (qay _) λb o hb e=>?_) adl) adF;rw[S1.2 b (λh:b=S=>hb (by rw[h];exact z_))];exact e
end
noncomputable def pU(x:v_)(i:Nat):v_:=⟨#[x.cps.getD i 0]⟩
theorem LI{prog:r_}{w:I_}{A:qab}(hh:A.handled=none)(I:U)(x:v_)(t:qcN):
  Walks prog w A I [I] [I] x.cps.size (λi v=>∃u,v= .str (pU x i) u) (λi h=>h.IsStrIter I (strIterType x) x t i) where
 sub:=λ_ hb=>hb
 frame:=λ_ _ _ st hk=>let ⟨o,ho,r⟩:=st;⟨o,hk I (by simp) o ho,r⟩
 item:=λi s Q E hi st hQ=>by
  refine t7 st (k:=x.cps.getD i 0) (by simp[hi]) λh' MF hs'=>?_;exact hQ _ h' (s.toks+1) ⟨_,Y⟩ MF λb o hb e=>hs'.extBut b o (λh=>hb (by simp[h])) e
 done:=λs Q E st hQ=>uC hh st (by simp) λh' he'=>hQ h' s.toks λb o hb e=>he' b o (λh=>hb (by simp[h])) e
 self:=λ_ _ _ _ st hQ=>uD st hQ
theorem DU:isSubtype (.type "str") (.type "set")=pure false:=by rw[isSubtype_type];kernel_rfl
theorem wk:isSubtype (.type "str") (.type "frozenset")=pure false:=by rw[isSubtype_type];kernel_rfl
section
variable{prog:r_}{w:I_}{A:qab}{E:k_->n_->Prop}{s:n_}
set_option maxHeartbeats 3200000 in
theorem EL{x:v_}{t:qcN}{Q:k_->n_->Prop}(hh:A.handled=none)(hb:x.cps.size+1<scanBound)
  (h:∀(h':W_) (tk:Nat),h'.SetOf (strKind prog w) s.heap.objs.size (λk'=>(met (pU x) x.cps.size).any (·==k')) (met (pU x) x.cps.size).length →
   (∀b o,b<s.heap.objs.size->s.heap.get? b=some o->h'.get? b=some o)->Q (.ref s.heap.objs.size) { s with heap:=h',toks:=tk }) :
  C_ (model prog w) A (call (.type "set") [.str x t]) Q E s:=by
 obtain⟨c,tl,agZ⟩:=F.called_set.mro;have hmade:=F.called_set.made;have hsub:=F.called_set.sub;refine wpAny_call (codeAny_of_tree ?_);show C_ _ _ (callAny (.type "set") _) _ _ _;refine q_ ⟨Code.quiet_builtin _ (by decide +kernel),qa3 F.entry_type_call ?_⟩;rw[Around.under_plain (weight_type_call_type "set" [.str x t] []) rfl];have h1:=F.called_set.notType;have h2:=F.called_set.canCreate;have hct:=F.typeCall_set_1 (.str x t)
 repeat (any_goals (first|assumption|wp_step))
 refine qcA (code_set_new_1 (.str x t) (E:=E) (Q₁:=λobj s₁=>∃led:Bool,obj= .ref s.heap.objs.size/\s₁={ s with heap:=s.heap.push { cls:=.type "set",dict:=none,data:=.set #[] 0 (.fresh 0 0 led) } }) λled=>⟨led,Y,Y⟩) λr s₁ hr=>?_
 cases r with
 |error e=>exact hr
 |ok fl =>
  cases fl with
  |ret obj =>
   obtain⟨led,rfl,rfl⟩:=hr;have hS:(s.heap.push { cls:=.type "set",dict:=none,data:=.set #[] 0 (.fresh 0 0 led) }).get? s.heap.objs.size=some { cls:=.type "set",dict:=none,data:=.set #[] 0 (.fresh 0 0 led) }:=t_ _ rfl;have hT:Shared.TypeIs { s with heap:=s.heap.push { cls:=.type "set",dict:=none,data:=.set #[] 0 (.fresh 0 0 led) } } (.ref s.heap.objs.size) "set" :=⟨_,hS,rfl⟩;have hli:=F.called_set.init.lookup;have hbi:=F.called_set.init.bind (.ref s.heap.objs.size)
   repeat (any_goals (first|assumption|wp_step))
   refine qcA (codeAny_call_builtin (R:=wants (λr s₂=>r= .none/\dP λh' tk=>s₂={ s with heap:=h',toks:=tk } ∧
     h'.SetOf (strKind prog w) s.heap.objs.size (λk'=>(met (pU x) x.cps.size).any (·==k')) (met (pU x) x.cps.size).length ∧
     (∀b o,b<s.heap.objs.size->s.heap.get? b=some o->h'.get? b=some o)) E) F.called_set.init.plain F.entry_set_init (check_set_init_1 hT ?_)) λr₂ s₂ Pc=>?_
   ·have agN:=DU;have agO:=wk;have hne:(Value.type "str" ==Value.type "dict")=false:=by decide
    unfold Builtin.«set.__init__» noKeywords Builtin.Frozenset.updateFrom;generalize hPI:pyIter=PI
    wp_walk
    subst hPI;refine qcB ?_;refine f_ (wpAny_runValue ?_);have hh3:A.in1.in1.in1.handled=none:=by simp[hh]
    have hSf:s.heap.objs.size∉[(s.heap.push { cls:=.type "set",dict:=none,data:=.set #[] 0 (.fresh 0 0 led) }).objs.size]:=by
     rw[qaT];simp only[x_];exact R_ (qaO _)
    refine D3 ((LI hh3 _ x t).toS) s.heap.objs.size hSf (pU x) (λi v hv=>hv) hb (x.cps.size-0) 0 _ (by omega) (Q_ _)
     ⟨_,t_ _ rfl,rfl,rfl⟩ ?hS0 ?hR
    case hS0 =>
     have hget:((s.heap.push { cls:=.type "set",dict:=none,data:=.set #[] 0 (.fresh 0 0 led) }).push { cls:=.type (strIterType x),data:=.fields #[.str x t,.int 0 0] }).get? s.heap.objs.size
       = some { cls:=.type "set",dict:=none,data:=.set #[] 0 (.fresh 0 0 led) }:=m_ _ hS
     exact SetOf_congr ((setObjOf_fresh (knd:=strKind prog w) led).setOf hget (by unfold scanBound;omega)) (λ_=>rfl) Y
    case hR =>
     intro s' hm hS';obtain⟨h',g',d',tk',os'⟩:=s';have eg:g'=s.gens:=hm.gens;have ed:d'=s.drawn:=hm.drawn;have eo:os'=s.os:=hm.os;subst eg;subst ed;subst eo;show C_ _ _ _ _ _ _;refine q_ ?_;show C_ _ _ (ret Value.none) _ _ _;refine q_ ⟨Y,h',tk',Y,hS',λb o hb e=>?_⟩;have hb1:b≠s.heap.objs.size:=R_ hb;have hb2:b≠(s.heap.push { cls:=.type "set",dict:=none,data:=.set #[] 0 (.fresh 0 0 led) }).objs.size:=by
      rw[qaT];exact R_ (Nat.lt_succ_of_lt hb)
     exact hm.heap b o (by simp only[B_,x_,qaq,or_false,not_or];exact⟨hb1,hb2⟩) (m_ _ (m_ _ e))
   ·cases r₂ with
    |error e=>exact Pc
    |ok Y7 =>
     cases Y7 with
     |ret r =>
      obtain⟨rfl,h',tk,rfl,hS',hk'⟩:=Pc
      repeat (any_goals (first|assumption|wp_step))
      exact h _ _ hS' hk'
     |_=>exact Pc.elim
  |_=>exact hr.elim
end
end
section
noncomputable def Xf(P:r_)(w:I_)(a:U)(n:Nat):HO:=.ext λh=>∃S,h.SetOf (strKind P w) a S n
section
variable{X:Cx}
theorem MT(hc:X.calm=true):pM X (.type "set") (λxs H Q=>∃x,xs=[.str x]/\x.cps.size+1<scanBound/\∀p,H p=none->Q (.ref p) (upd H p (Xf X.prog X.w p (met (pU x) x.cps.size).length))):=by
 intro pins s σ H xs us Q I r h;obtain⟨x,rfl,hb,q⟩:=h;obtain⟨u,rfl,t,rfl⟩:=vals1 r;refine TK.bX (j_ s.toks) (EL (I.ok.hd hc) hb λh' tk hS kk hup=>?_);have hn:H s.heap.objs.size=none:=I.fresh;have k:∀b o,s.heap.get? b=some o->h'.get? b=some o:=λb o e=>kk b o (E_ e) e;refine⟨.ref s.heap.objs.size,_,I.laid (t':=tk) k (j_ _) ?_,Y,q _ hn⟩;refine⟨⟨_,hS⟩,?_,λh1 h2 p e=>?_⟩
 ·obtain⟨o,_,_,_,ho,_⟩:=hS;exact⟨o,ho⟩
 ·obtain⟨S,o,es,ep,t,ho,rest⟩:=p;exact⟨S,o,es,ep,t,e o ho,rest⟩
theorem CC:pM X (.builtin "len") (λxs H Q=>dP λp n=>xs=[.ref p]/\H p=some (Xf X.prog X.w p n)/\Q (.int (n:Nat)) H):=by
 intro pins s σ H xs us Q I r h;obtain⟨p,n,rfl,hp,q⟩:=h;obtain⟨u,rfl,ru⟩:=vals1 r;cases ru;obtain⟨⟨S,o,es,ep,t,ho,hex,hd,_,_,hz,hf,hn⟩,_⟩:=I.hok p _ hp;subst hn;have:es.size<4096:=hz;exact call_len_set ho hex hd hf (by omega) ⟨.int es.size,H,I.tok _,⟨_,Y⟩,q⟩
def Bg(i:Int):Prop:=i.natAbs<2 ^ 9000
theorem Bg.log{i:Int}(h:Bg i):i.natAbs.log2<9000:=by
 rcases Nat.eq_zero_or_pos i.natAbs with h0|hp
 ·rw[h0];decide
 ·exact(Nat.log2_lt (by omega)).mpr h
theorem Bg.bits{i:Int}(h:Bg i):Builtin.Int.intBits i<=2 ^ 20:=by
 have:=h.log;unfold Builtin.Int.intBits;split
 ·exact Q_ _
 ·exact p_ (show i.natAbs.log2+1<=9000 by omega) (by decide)
theorem Rg:wc X (binaryOp .Mult) (rI (λi j=>Bg i/\Bg j) λi j=>.int (i*j)):=Xp λ_ _ _ _ _ _ _ hc q=>mul_int q (IntMulOk.of_bits hc.1.bits hc.2.bits)
end
end
section
noncomputable def Itc(K:PySem.W.Frag)(c:Cp):It :=
 ⟨λi H=>dP λxs x=>c.at K H xs/\xs[i]? =some x,λi H x H'=>H'=H/\∀xs,c.at K H xs->xs[i]? =some x,λi H=>∃xs,c.at K H xs/\xs.length<=i⟩
theorem Turn.conv{P:r_}{w:I_}{K:PySem.W.Frag}{tg:Expr}{J J':It}{fp:List U}{it:U}{tn:Nat->W_->Prop}(T:Turn P w K tg J fp it tn)
  (hg:∀i H,J'.go i H->J.go i H) (hy:∀i H x H',J.CZ i H x H'->J'.CZ i H x H') (hs:∀i H,J'.stop i H->J.stop i H):Turn P w K tg J' fp it tn where
 mem:=T.mem
 obj:=T.obj
 keep:=T.keep
 item:=λX hP hw hK hc i pins s σ H E I hf st g=>qaK (T.item X hP hw hK hc i pins s σ H E I hf st (hg i H g)) (λr s1 ⟨u,hr,h⟩=>⟨u,hr,qaK h (λ_ s2 ⟨x,H',I',r',y,t',n'⟩=>⟨x,H',I',r',hy i H x H' y,t',n'⟩) λ_ _ z=>z⟩) λ_ _ z=>z
 done:=λX hP hw hK hc i pins s σ H E I hf st g=>T.done X hP hw hK hc i pins s σ H E I hf st (hs i H g)
 self:=T.self
theorem signs_length(x:v_):(fC x).length=x.cps.size:=by simp[fC]
theorem signs_at{x:v_}{i k:Nat}(h:x.cps[i]? =some k):(fC x)[i]? =some (.str ⟨#[k]⟩):=by
 unfold fC;rw[O_];have e:x.cps.toList[i]? =some k:=by simpa using h
 rw[e];rfl
section
variable{X:Cx}{tg:Expr}
def iCp(K:PySem.W.Frag)(tl:TE):TI:=λσ H R=>tl σ H λv H1=>dP λc xs=>v=Cp.val c/\c.at K H1 xs/\R (Itc K c) H1
theorem Dj{l:Expr}{tl:TE}(hl:PE X l tl):PI X tg l (iCp X.K tl):=by
 intro pins s σ H R I h;refine fR (hl pins s σ H _ I h) λv s1 ⟨y,H1,I1,r1,q1⟩=>?_;obtain⟨c,xs,e,hq,q⟩:=q1;subst e;have fp1:∀b∈[s1.heap.objs.size],uu X pins H1 b:=λb hb=>by
  have e:b=s1.heap.objs.size:=by simpa using hb
  subst e;exact I1.xV (j_ _) (I1.hok.fresh (j_ _))
 cases c with
 |lst a =>
  cases (show v=Value.ref a from r1);obtain⟨its,rv,p,hz⟩:=I1.list hq;refine qaY p.isList ?_;exact⟨s1.heap.objs.size,[s1.heap.objs.size],_,_,H1,Y,I1.kept (t':=s1.toks) λb o e=>m_ _ e,C8 a _,⟨_,t_ _ Y,Y,Y⟩,fp1,q⟩
 |tup a =>
  cases (show v=Value.ref a from r1);obtain⟨its,rv,p,hz⟩:=I1.tuple hq;refine qbr (show s1.heap.IsTuple a its.toArray from p) ?_;exact⟨s1.heap.objs.size,[s1.heap.objs.size],_,_,H1,Y,I1.kept (t':=s1.toks) λb o e=>m_ _ e,As a _,⟨_,t_ _ Y,Y,Y⟩,fp1,q⟩
 |txt x =>
  obtain⟨t,rfl⟩:=(show ∃t,v=Value.str x t from r1);refine qcB ?_;refine⟨s1.heap.objs.size,[s1.heap.objs.size],_,_,H1,Y,I1.kept (t':=s1.toks) λb o e=>m_ _ e,(FA x t _).conv ?_ ?_ ?_,⟨_,t_ _ Y,Y,Y⟩,fp1,q⟩
  ·rintro i H ⟨xs,y,hx,e⟩;rw[show xs=fC x from hx]at e;have:=(o_.mp e).1;rw[signs_length]at this;exact this
  ·rintro i H y H' ⟨rfl,k,e,rfl⟩;refine⟨Y,λxs hx=>?_⟩;rw[show xs=fC x from hx];exact signs_at e
  ·rintro i H ⟨xs,hx,e⟩;rw[show xs=fC x from hx,signs_length]at e;exact e
theorem JI{K:PySem.W.Frag}{c:Cp}{xs:List V}{g:TG}{tb:TS}{D:Ends}{σ:St}{H:Hp}(Pv:Nat->St->Hp->Prop)(h0:Pv 0 σ H)(hl:∀i σ H,i<=xs.length->Pv i σ H->c.at K H xs)
  (hs:∀i x σ H,xs[i]? =some x->Pv i σ H->g x σ H λσ2 H2=>tb { D with nx:=Pv (i+1),ct:=Pv (i+1),bk:=D.nx } σ2 H2) (hd:∀ σ H,Pv xs.length σ H->D.nx σ H) :
  ∃W:Nat->Nat->St->Hp->Prop,(∃m,W 0 m σ H)/\∀i m σ H,W i m σ H →
   ((Itc K c).stop i H/\D.nx σ H)\/((Itc K c).go i H/\∃N:St->Hp->Prop,(∀ σ' H',N σ' H'->∃m',m'<m/\W (i+1) m' σ' H')/\∀x H',(Itc K c).CZ i H x H'->g x σ H' λσ2 H2=>tb { D with nx:=N,ct:=N,bk:=D.nx } σ2 H2):=by
 refine⟨λi m σ H=>m=xs.length-i/\i<=xs.length/\Pv i σ H,⟨xs.length,by simp,Q_ _,h0⟩,?_⟩;rintro i m σ H ⟨rfl,hi,p⟩;have q:=hl i σ H hi p;by_cases hlt:i<xs.length
 ·refine .inr ⟨⟨xs,xs[i],q,by simp[hlt]⟩,Pv (i+1),λσ' H' p'=>⟨xs.length-(i+1),by omega,Y,hlt,p'⟩,λx H' y=>?_⟩;obtain⟨e,y⟩:=y;subst e;exact hs i x σ _ (y xs q) p
 ·have e:i=xs.length:=by omega
  subst e;exact .inl ⟨⟨xs,q,j_ _⟩,hd σ H p⟩
end
end
end L2
namespace rF
noncomputable def lo(a b:Int):Int×Int:=(a / (qag a b:Int),b / (qag a b:Int))
theorem tL(a:Int){b:Int}(hb:0<b):0<(qag a b:Int):=by
 have:0<qag a b:=Int.gcd_pos_of_ne_zero_right a (by omega);omega
theorem JE(a:Int){b:Int}(hb:0<b):(qag a b:Int)<=b:=Int.le_of_dvd hb (qbl ..)
theorem OV(a:Int){b:Int}(hb:0<b):0<(lo a b).2 :=
 qbw hb (qaV (tL a hb)) (qbl ..)
theorem lo_le(a:Int){b:Int}(hb:0<b):(lo a b).2<=b:=by
 have h:=tL a hb;exact Int.ediv_le_self _ (qaV hb)
theorem OW(a:Int){b:Int}(hb:0<b):qag (lo a b).1 (lo a b).2=1 :=
 Int.gcd_ediv_gcd_ediv_gcd (Int.gcd_pos_of_ne_zero_right a (by omega))
theorem Jv(a b:Int):(lo a b).1*(qag a b:Int)=a:=Int.ediv_mul_cancel (qcJ ..)
theorem OU(a b:Int):(lo a b).2*(qag a b:Int)=b:=Int.ediv_mul_cancel (qbl ..)
theorem OX(a b:Int):(lo a b).1*b=a*(lo a b).2:=by
 have h1:=Jv a b;have h2:=OU a b;generalize (lo a b).1=x at *;generalize (lo a b).2=y at *;generalize (qag a b:Int)=g at *;rw[←h1,←h2,Int.mul_assoc,Int.mul_comm y g]
theorem Pu(a b:Int):qag b (a % b)=qag a b:=by
 have e:a=a % b+b*(a / b):=(Int.emod_add_mul_ediv a b).symm;have h:qag (a % b+b*(a / b)) b=qag (a % b) b:=Int.gcd_add_mul_left_left ..;rw[←e]at h;rw[h,Int.gcd_comm]
theorem RQ(a:Int):(if a<0 then -a else a)=(qag a 0:Int):=by
 rw[Int.gcd_zero_right];split<;>omega
end rF
namespace GP
open PySem L2 rF
section
noncomputable abbrev cJ:=Int×Int
noncomputable def nF(f:cJ):cJ:=lo f.1 f.2
theorem ak.upd{H:Hp}{q:U}{o:HO}(h:H q=none):ak H (L2.upd H q o):=λb u e=>by rw[av (aX e h)];exact e
theorem ak.at{H H2:Hp}{t:U}{o:HO}(e:ak H H2)(h:H t=none):ak H (L2.upd H2 t o):=λb u q=>by rw[av (aX q h)];exact e b u q
theorem ak.tup{K:PySem.W.Frag}{H H':Hp}{a:U}{xs:List V}(e:ak H H')(h:bZ K H a xs):bZ K H' a xs:=by
 rcases h with(h|⟨o,h⟩)|h
 ·exact .inl (.inl (e _ _ h))
 ·exact .inl (.inr ⟨o,e _ _ h⟩)
 ·exact .inr h
theorem ak.cp{K:PySem.W.Frag}{H H':Hp}{c:Cp}{xs:List V}(e:ak H H')(h:c.at K H xs):c.at K H' xs:=by
 cases c with
 |lst a=>exact ak.seq e h
 |tup a=>exact ak.tup e h
 |txt x=>exact h
def k8(K:PySem.W.Frag)(H:Hp)(p:U)(f:cJ):Prop:=bZ K H p [.int f.1,.int f.2]
theorem k8.same{K:PySem.W.Frag}{H H':Hp}{p:U}{f:cJ}(e:ak H H')(h:k8 K H p f):k8 K H' p f:=ak.tup e h
def nO(K:PySem.W.Frag)(H:Hp)(c:Cp)(fs:List cJ):Prop:=∃ps:List U,c.at K H (ps.map V.ref)/\Paired (k8 K H) ps fs
theorem nO.same{K:PySem.W.Frag}{H H':Hp}{c:Cp}{fs:List cJ}(e:ak H H')(h:nO K H c fs):nO K H' c fs:=by
 obtain⟨ps,a,b⟩:=h;exact⟨ps,ak.cp e a,Paired.ji b λ_ _ z=>z.same e⟩
def Tn(K:PySem.W.Frag)(H:Hp)(c:Cp)(rows:List (List cJ)):Prop:=∃cs:List Cp,c.at K H (cs.map Cp.val)/\Paired (nO K H) cs rows
theorem Paired.at{α β:Type}{F:α->β->Prop}:∀{l₁:List α} {l₂:List β} {i:Nat} {x:α},Paired F l₁ l₂->l₁[i]? =some x->∃y,l₂[i]? =some y/\F x y
 |_,_,i,_,.nil,e=>by simp at e
 |_,_,0,_,.cons r _,e=>by simp at e;subst e;exact⟨_,Y,r⟩
 |_,_,i+1,x,.cons _ t,e=>by
  obtain⟨y,h1,h2⟩:=Paired.at (i:=i) (x:=x) t (by simpa using e);exact⟨y,by simpa using h1,h2⟩
theorem Paired.len{α β:Type}{F:α->β->Prop}{l₁:List α}{l₂:List β}(h:Paired F l₁ l₂):l₁.length=l₂.length:=Paired.length h
theorem Paired.snoc{α β:Type}{F:α->β->Prop}{x:α}{y:β}:∀{l₁:List α} {l₂:List β},Paired F l₁ l₂->F x y->Paired F (l₁++[x]) (l₂++[y])
 |_,_,.nil,h=>.cons h .nil
 |_,_,.cons r t,h=>.cons r (Paired.snoc t h)
theorem take_snoc{α:Type}{l:List α}{i:Nat}{x:α}(h:l[i]? =some x):l.take (i+1)=l.take i++[x]:=by
 rw[List.take_add_one,h];rfl
theorem vQ{α β:Type}{l:List α}{f:α->β}{i:Nat}{x:α}(h:l[i]? =some x):(l.map f).take (i+1)=(l.map f).take i++[f x]:=take_snoc (by rw[O_,h];rfl)
theorem EC{i j:Int}{A B:Prop}(h1:i≠j->A)(h2:i=j->B):if(!decide (V.int i=V.int j))=true then A else B:=by
 by_cases h:i=j
 ·rw[nJ,if_neg (by simp[h])];exact h2 h
 ·rw[nJ,if_pos (by simp[h])];exact h1 h
theorem jQ{i j:Int}{A B:Prop}(h1:i=j->A)(h2:i≠j->B):if(decide (V.int i=V.int j))=true then A else B:=by
 by_cases h:i=j
 ·rw[nJ,if_pos (by simp[h])];exact h1 h
 ·rw[nJ,if_neg (by simp[h])];exact h2 h
theorem b9{p:Prop}[Decidable p]{A B:Prop}(h1:p->A)(h2:¬p->B):if(decide p)=true then A else B:=by
 by_cases h:p
 ·rw[if_pos (decide_eq_true h)];exact h1 h
 ·rw[if_neg (by rw[decide_eq_false h];exact y_)];exact h2 h
theorem Lc{A B:Prop}(h:A):if(!false)=true then A else B:=by
 rw[if_pos (show(!false)=true from rfl)];exact h
theorem uM{A B:Prop}(h:B):if(!true)=true then A else B:=by
 rw[if_neg (by decide)];exact h
structure Dn(K:PySem.W.Frag)(mg:v_->Option k_)(x:v_)(st:qam)(ps:List v_)(f:U)(fd:F_):Prop where
 fn:Nm K x x st f fd
 b:Binds K fd ps []
 m:mg x=some (.ref f)
theorem gc{X:Cx}{k n:Nat}{f:U}{fd:F_}{ps:List v_}{sp:Sp}{x:v_}{st:qam}{e:Expr}{es:List Expr}{t:TA}{p pos:qbO}(F:aH X.prog X.w X.K X.mg X.base bL k f fd ps sp)(hr:nP n X.A)(D:Dn X.K X.mg x st ps f fd)(ha:PA X (e::es) t)(hg:Gl X x:=by exact Y)(hn:k<=n:=by decide)(hdb:(x==("__debug__" :v_))=false:=by decide)(he:qaf (e::es) X.env=(false,eval e X.env)::qaf es X.env:=by rfl)(hpl:(backTo pos (qaf es X.env)).any (·.1)=false:=by rfl):PE X (.Call (.Name x p) (e::es) [] pos) (W7 sp [] E0 t):=ay F (hr.mono hn) hg D.m D.fn.kp D.b .nil aK ha hdb he hpl
theorem Z9X{X:Cx}{x:v_}{e:Expr}{te:TE}{pos pos':qbO}(i:Nat)(hN:X.N.Nodup)(he:PE X e te)(hi:X.N[i]? =some x:=by rfl)(hx:Loc X.env.scope x:=by exact Or.inl Y)(hs:swapsWith e (some (.Name x pos')) pos.line X.env=pure false:=by rfl)(hf:X.fn x=true\/X.env.scope.names.lookup x=some .local:=by first|exact .inl rfl|exact .inr rfl|assumption):PS X (.Assign [.Name x pos'] e pos) (UB te (Px i)):=aB hN hi hx he hs hf
theorem Z9Y{X:Cx}{x:v_}{pos:qbO}(i:Nat)(hN:X.N.Nodup)(hi:X.N[i]? =some x:=by rfl)(hx:Loc X.env.scope x:=by exact Or.inl Y)(hf:X.fn x=true\/X.env.scope.names.lookup x=some .local:=by first|exact .inl rfl|exact .inr rfl|assumption):PG X (.Name x pos) (Px i):=aL hN hi hx hf
def KJ:Sp:=λvs H Q _=>dP λa b:Int=>vs=[.int a,.int b]/\0<=b/\Q (.int (qag a b)) H
noncomputable def lm(a b:Int):Int:=a / (qag a b:Int)*b
def Sn(K:PySem.W.Frag):Sp:=λvs H Q _=>dP λ(p:U) (f:cJ)=>vs=[.ref p]/\k8 K H p f/\0<f.2/\f.2<1073741824 ∧
 ∀q,H q=none->Q (.ref q) (L2.upd H q (.tup [.int (nF f).1,.int (nF f).2]))
def HN(f:cJ):Prop:=1<=f.2/\f.2<1073741824
def wz(K:PySem.W.Frag):Sp:=λvs H Q _=>dP λ(p:U) (f:cJ)=>vs=[.ref p]/\k8 K H p f/\HN f ∧
 ∀q,H q=none->Q (.ref q) (L2.upd H q (.tup [.int (nF f).1,.int (nF f).2]))
def yQ(K:PySem.W.Frag):Sp:=λvs H Q _=>dP λ(c:Cp) (fs:List cJ)=>vs=[c.val]/\nO K H c fs/\(∀f∈fs,HN f)/\fs.length<=1000 ∧
 ∀q H',ak H H'->H q=none->nO K H' (.tup q) (fs.map nF)->Q (.ref q) H'
noncomputable def bq(o m:Int)(rows:List (List cJ)):Int:=(rows.flatten.map (·.2)).foldl lm (lm o m)
noncomputable def pB(fo fm:cJ)(rows:List (List cJ)):List Int:=fo.2::fm.2::rows.flatten.map (·.2)
def F1(K:PySem.W.Frag):Sp:=λvs H Q _=>V7 λ(P o m:U) (rows:List (List cJ)) (fo fm:cJ)=>vs=[.ref P,.ref o,.ref m]/\Tn K H (.tup P) rows/\k8 K H o fo/\k8 K H m fm ∧
 rows.length<=12/\(∀r∈rows,r.length<=12)/\∀l H',ak H H'->H l=none->H' l=some (.lst ((pB fo fm rows).map V.int))->Q (.ref l) H'
noncomputable def vA(p:List Int×Int)(b:Int):List Int×Int:=if b / (qag p.2 b:Int)>1 then(p.1++[b / (qag p.2 b:Int)],p.2*(b / (qag p.2 b:Int)))else p
noncomputable def sH(ns:List Int):List Int×Int:=ns.foldl vA ([],1)
def rS(n:Int):Prop:=0<n/\n<1073741824
def De(K:PySem.W.Frag):Sp:=λvs H Q _=>dP λ(l:U) (ns:List Int)=>vs=[.ref l]/\bW K H l (ns.map V.int)/\ns.length<=1000/\(∀n∈ns,rS n) ∧
 ∀q H',ak H H'->H q=none->H' q=some (.lst ((sH ns).1.map V.int))->Q (.ref q) H'
noncomputable def vL(fs:List Int):Int:=fs.foldl (·*·) 1
def NQ(K:PySem.W.Frag):Sp:=λvs H Q _=>dP λ(l:U) (fs:List Int)=>vs=[.ref l]/\bW K H l (fs.map V.int)/\(∀n∈fs,rS n)/\Q (.int (vL fs)) H
def Ay(K:PySem.W.Frag):Sp:=λvs H Q _=>nN λ(p:U) (f:cJ) (u:Int)=>vs=[.ref p,.int u]/\k8 K H p f/\HN f/\Bg f.1/\Bg (u / f.2)/\Q (.int (f.1*(u / f.2))) H
theorem U9{b:Int}:lm 1 b=b:=by
 unfold lm;rw[Int.gcd_one_left];simp
theorem Va{a b:Int}:lm a b=a*(b / (qag a b:Int)):=by
 unfold lm;rw[←Int.mul_ediv_assoc' b (qcJ a b),Int.mul_ediv_assoc a (qbl a b)]
structure Ia(p:List Int×Int)(ns:List Int):Prop where
 small:∀f∈p.1,rS f
 prod:vL p.1=p.2
 unit:p.2=ns.foldl lm 1
 pos:0<p.2
 len:p.1.length<=ns.length
theorem wH(fs:List Int)(f:Int):vL (fs++[f])=vL fs*f:=by
 unfold vL;rw[qb6];rfl
theorem Lq{u b:Int}(hb:rS b):0<b / (qag u b:Int)/\b / (qag u b:Int)<=b:=by
 have g1:=tL u hb.1;exact⟨qbw hb.1 (qaV g1) (qbl u b),Int.ediv_le_self _ (qaV hb.1)⟩
theorem Ia.step{p:List Int×Int}{ns:List Int}{b:Int}(h:Ia p ns)(hb:rS b):Ia (vA p b) (ns++[b]):=by
 obtain⟨d1,d2⟩:=Lq (u:=p.2) hb;have e:(ns++[b]).foldl lm 1=p.2*(b / (qag p.2 b:Int)):=by
  rw[qb6,←h.unit];exact Va
 unfold vA;split
 ·next h1 =>
  refine⟨λf hf=>?_,?_,e.symm,Int.mul_pos h.pos d1,?_⟩
  ·rcases V_.mp hf with hf|hf
   ·exact h.small f hf
   ·rw[x_.mp hf];exact⟨d1,Int.lt_of_le_of_lt d2 hb.2⟩
  ·rw[wH,h.prod]
  ·rw[G_,G_];exact Nat.add_le_add_right h.len 1
 ·next h1 =>
  have e1:b / (qag p.2 b:Int)=1:=by omega
  refine⟨h.small,h.prod,?_,h.pos,?_⟩
  ·rw[e,e1,Int.mul_one]
  ·rw[G_];exact p_ h.len (qaF _ _)
theorem By(ns:List Int)(b:Int):sH (ns++[b])=vA (sH ns) b:=by
 unfold sH;rw[qb6];rfl
theorem yJ{ns:List Int}(h:∀n∈ns,rS n):∀i,i<=ns.length->Ia (sH (ns.take i)) (ns.take i)
 | 0,_=>by
  rw[List.take_zero];exact⟨λf hf=>(by cases hf),Y,Y,(by decide),j_ _⟩
 |i+1,hi=>by
  have e:=g_ (l:=ns) (i:=i) hi;rw[take_snoc e,By];exact(yJ h i (qaJ hi)).step (h _ (qaH hi))
theorem RT{ns:List Int}(h:∀n∈ns,rS n):Ia (sH ns) ns:=by
 have z:=yJ h ns.length (j_ _);rw[qbb]at z;exact z
theorem Fz(fo fm:cJ)(rows:List (List cJ)):(pB fo fm rows).foldl lm 1=bq fo.2 fm.2 rows:=by
 unfold pB bq;rw[qbA,qbA,U9]
end
section
structure Dm(K:PySem.W.Frag)(x qual:v_)(st:qam)(ps:List v_)(f:U)(fd:F_):Prop where
 fn:Nm K x qual st f fd
 b:Binds K fd ps []
def Dat(H H':Hp):Prop:=∀b u,(∀C dx fs,u≠HO.ins C dx fs)->H b=some u->H' b=some u
theorem Dat.of{H H':Hp}(e:ak H H'):Dat H H':=λb u _ h=>e b u h
theorem Dat.trans{H H' Qm:Hp}(e:Dat H H')(f:Dat H' Qm):Dat H Qm:=λb u n h=>f b u n (e b u n h)
theorem Dat.set{H:Hp}{x C dx:U}{fs fs':List (v_×V)}(h:H x=some (.ins C dx fs)):Dat H (L2.upd H x (.ins C dx fs')):=λb u n e=>by
 rw[av (λz=>by subst z;rw[h]at e;cases e;exact n _ _ _ Y)];exact e
theorem Dat.tup{K:PySem.W.Frag}{H H':Hp}{a:U}{xs:List V}(e:Dat H H')(h:bZ K H a xs):bZ K H' a xs:=by
 rcases h with(h|⟨o,h⟩)|h
 ·exact .inl (.inl (e _ _ (λ_ _ _ z=>by cases z) h))
 ·exact .inl (.inr ⟨o,e _ _ (λ_ _ _ z=>by cases z) h⟩)
 ·exact .inr h
theorem Dat.lst{K:PySem.W.Frag}{H H':Hp}{a:U}{xs:List V}(e:Dat H H')(h:bW K H a xs):bW K H' a xs:=by
 rcases h with(h|⟨o,h⟩)|h
 ·exact .inl (.inl (e _ _ (λ_ _ _ z=>by cases z) h))
 ·exact .inl (.inr ⟨o,e _ _ (λ_ _ _ z=>by cases z) h⟩)
 ·exact .inr h
theorem Dat.cp{K:PySem.W.Frag}{H H':Hp}{c:Cp}{xs:List V}(e:Dat H H')(h:c.at K H xs):c.at K H' xs:=by
 cases c with
 |lst a=>exact Dat.lst e h
 |tup a=>exact Dat.tup e h
 |txt x=>exact h
theorem k8.dat{K:PySem.W.Frag}{H H':Hp}{p:U}{f:cJ}(e:Dat H H')(h:k8 K H p f):k8 K H' p f:=Dat.tup e h
theorem nO.dat{K:PySem.W.Frag}{H H':Hp}{c:Cp}{fs:List cJ}(e:Dat H H')(h:nO K H c fs):nO K H' c fs:=by
 obtain⟨ps,a,b⟩:=h;exact⟨ps,Dat.cp e a,Paired.ji b λ_ _ z=>z.dat e⟩
def EU(K:PySem.W.Frag)(H:Hp)(P:U)(rows:List (List cJ)):Prop:=∃qs:List U,bZ K H P (qs.map V.ref)/\Paired (λq r=>nO K H (.tup q) r) qs rows
theorem EU.dat{K:PySem.W.Frag}{H H':Hp}{P:U}{rows:List (List cJ)}(e:Dat H H')(h:EU K H P rows):EU K H' P rows:=by
 obtain⟨cs,a,b⟩:=h;exact⟨cs,Dat.tup e a,Paired.ji b λ_ _ z=>z.dat e⟩
theorem wI{α β γ:Type}{F:γ->β->Prop}{g:α->γ}:∀{l₁:List α} {l₂:List β},Paired (λa b=>F (g a) b) l₁ l₂->Paired F (l₁.map g) l₂
 |_,_,.nil=>.nil
 |_,_,.cons r t=>.cons r (wI t)
theorem EU.mat{K:PySem.W.Frag}{H:Hp}{P:U}{rows:List (List cJ)}(h:EU K H P rows):Tn K H (.tup P) rows:=by
 obtain⟨qs,a,b⟩:=h;refine⟨qs.map Cp.tup,?_,wI b⟩;rw[qaL];exact a
theorem PU{K:PySem.W.Frag}{H:Hp}{c:Cp}{xs:List V}(h:c.at K H xs)(hx:∀x,c≠ .txt x):Wb K c.val H xs.length:=by
 cases c with
 |lst a=>exact .inl ⟨_,h,Y⟩
 |tup a=>exact .inr ⟨_,h,Y⟩
 |txt x=>exact absurd Y (hx x)
theorem nO.len{K:PySem.W.Frag}{H:Hp}{c:Cp}{fs:List cJ}(h:nO K H c fs)(hx:∀x,c≠ .txt x):Wb K c.val H fs.length:=by
 obtain⟨ps,a,b⟩:=h;have z:=PU a hx;rw[l_,Paired.len b]at z;exact z
noncomputable def tH(n:Nat):Bool:=(decide ((32:Int)<=(n:Int))&&decide ((n:Int)<=126))&& !SN (.int n) [.int 34,.int 37,.int 45]
def DK(x:v_):Prop:=0<x.cps.size/\x.cps.size<=100/\(∀c∈x.cps.toList,tH c=true)/\x.cps.toList.Nodup
theorem uz{x:v_}(h:x.cps.toList.Nodup){i j a b:Nat}(hi:x.cps[i]? =some a)(hj:x.cps[j]? =some b)(hij:i≠j):a≠b:=by
 intro z;subst z;rw[←qal]at hi hj;exact hij ((List.getElem?_inj (o_.mp hi).1 h).mp (hi.trans hj.symm))
theorem K6(val:Nat->v_)(k:v_):∀i,(met val i).any (·==k)=true->∃j,j<i/\val j=k
 | 0,h=>by rw[A0]at h;cases h
 |i+1,h=>by
  rw[uJ,xN,Bool.or_eq_true]at h;rcases h with h|h
  ·obtain⟨j,h1,h2⟩:=K6 val k i h;exact⟨j,by omega,h2⟩
  ·exact⟨i,by omega,(of_decide_eq_true h).symm⟩
theorem GO{val:Nat->v_}{n:Nat}(h:∀i j,i<n->j<n->i≠j->val i≠val j):∀i,i<=n->(met val i).length=i
 | 0,_=>by rw[A0];rfl
 |i+1,hi=>by
  rw[uJ,ud];have e:¬((met val i).any (·==val i)=true):=λz=>by
   obtain⟨j,h1,h2⟩:=K6 val _ i z;exact h j i (by omega) (by omega) (by omega) h2
  rw[if_neg e,GO h i (by omega)]
theorem Mn{x:v_}(h:x.cps.toList.Nodup):(met (pU x) x.cps.size).length=x.cps.size:=by
 refine GO (n:=x.cps.size) (λi j hi hj hij z=>?_) _ (j_ _);unfold pU at z;have e1:x.cps[i]? =some (x.cps.getD i 0):=by simp[hi]
 have e2:x.cps[j]? =some (x.cps.getD j 0):=by simp[hj]
 refine uz h e1 e2 hij ?_;have z2: #[x.cps.getD i 0]= #[x.cps.getD j 0]:=congrArg qcO z;simpa using z2
def F8:Sp:=λvs H Q _=>∃c:Nat,vs=[.str ⟨#[c]⟩]/\Q (.bl (tH c)) H
def Az:Sp:=λvs H Q _=>∃x:v_,vs=[.str x]/\x.cps.size<=1000/\∀H',ak H H'->Q (.bl (x.cps.toList.all tH)) H'
def xq:Sp:=λvs H Q _=>∃x:v_,vs=[.str x]/\DK x/\∀H',ak H H'->Q .jG H'
def Tj(c:Cp):Prop:=∀x,c≠ .txt x
def Na(K:PySem.W.Frag)(H:Hp)(c:Cp)(rows:List (List cJ)):Prop:=Tj c/\∃cs:List Cp,(∀d∈cs,Tj d)/\c.at K H (cs.map Cp.val)/\Paired (nO K H) cs rows
theorem Na.dat{K:PySem.W.Frag}{H H':Hp}{c:Cp}{rows:List (List cJ)}(e:Dat H H')(h:Na K H c rows):Na K H' c rows:=by
 obtain⟨n,cs,m,a,b⟩:=h;exact⟨n,cs,m,Dat.cp e a,Paired.ji b λ_ _ z=>z.dat e⟩
def Qh(n:Nat)(rows:List (List cJ)):Prop:=rows.length=n/\∀r∈rows,r.length=n
def uy(K:PySem.W.Frag):Sp:=λvs H Q _=>nN λ(x:v_) (c:Cp) (rows:List (List cJ))=>vs=[.str x,c.val]/\Na K H c rows/\x.cps.size<=100/\Qh x.cps.size rows/\Q .jG H
def QH(rows:List (List cJ))(i j:Nat)(f:cJ):Prop:=∃r,rows[i]? =some r/\r[j]? =some f
noncomputable def keyOf(a b:Nat):List Key:=[.inr ⟨#[a]⟩,.inr ⟨#[b]⟩]
def Kn(kvs:List (List Key×V))(x:v_)(rows:List (List cJ))(u:Int):Prop :=
 ∀i j a b f,x.cps[i]? =some a->x.cps[j]? =some b->QH rows i j f->jK kvs (keyOf a b)=some (.int (f.1*(u / f.2)))
def Sm(i:Int):Prop:=i.natAbs<2 ^ 200
def Bu(i:Int):Prop:=i.natAbs<=2 ^ 4380
theorem Sm.bg{i:Int}(h:Sm i):Bg i:=H_ h (Nat.pow_le_pow_right (by decide) (by decide))
theorem Bu.bg{i:Int}(h:Bu i):Bg i:=w_ h (Nat.pow_lt_pow_right (by decide) (by decide))
def Zu(u:Int)(f:cJ):Prop:=HN f/\Sm f.1/\Bu (u / f.2)
def KP(K:PySem.W.Frag):Sp:=λvs H Q _=>wY λ(x:v_) (P:U) (u:Int) (rows:List (List cJ))=>vs=[.str x,.ref P,.int u]/\EU K H P rows/\x.cps.size<=100/\x.cps.toList.Nodup/\Qh x.cps.size rows/\(∀r∈rows,∀f∈r,Zu u f) ∧
 ∀d H' kvs,ak H H'->H d=none->H' d=some (.dT kvs)->Kn kvs x rows u->Q (.ref d) H'
noncomputable def lJ(x:v_)(P o m:U)(u:Int)(d:U×U):List (v_×V) :=
 aM "costs" (.ref d.1) (aM "unit" (.int u) (aM "factors" (.ref d.2) (aM "more" (.ref m) (aM "opening" (.ref o) (aM "pairs" (.ref P) (aM "signs" (.str x) []))))))
theorem G8{x:v_}{P o m:U}{u:Int}{d:U×U}:(lJ x P o m u d).lookup ("signs" :v_)=some (.str x):=by
 unfold lJ;rw[az,if_neg (by decide +kernel),az,if_neg (by decide +kernel),az,if_neg (by decide +kernel),az,if_neg (by decide +kernel),az,if_neg (by decide +kernel),az,if_neg (by decide +kernel),az,if_pos rfl]
theorem CA{x:v_}{P o m:U}{u:Int}{d:U×U}:(lJ x P o m u d).lookup ("opening" :v_)=some (.ref o):=by
 unfold lJ;rw[az,if_neg (by decide +kernel),az,if_neg (by decide +kernel),az,if_neg (by decide +kernel),az,if_neg (by decide +kernel),az,if_pos rfl]
theorem JK{x:v_}{P o m:U}{u:Int}{d:U×U}:(lJ x P o m u d).lookup ("more" :v_)=some (.ref m):=by
 unfold lJ;rw[az,if_neg (by decide +kernel),az,if_neg (by decide +kernel),az,if_neg (by decide +kernel),az,if_pos rfl]
theorem CB{x:v_}{P o m:U}{u:Int}{d:U×U}:(lJ x P o m u d).lookup ("factors" :v_)=some (.ref d.2):=by
 unfold lJ;rw[az,if_neg (by decide +kernel),az,if_neg (by decide +kernel),az,if_pos rfl]
theorem Bw{x:v_}{P o m:U}{u:Int}{d:U×U}:(lJ x P o m u d).lookup ("unit" :v_)=some (.int u):=by
 unfold lJ;rw[az,if_neg (by decide +kernel),az,if_pos rfl]
theorem G9{x:v_}{P o m:U}{u:Int}{d:U×U}:(lJ x P o m u d).lookup ("costs" :v_)=some (.ref d.1):=by
 unfold lJ;rw[az,if_pos rfl]
noncomputable def zO(x:v_)(P o m:U)(u:Int)(d:U×U)(ou mu:Int):List (v_×V) :=
 aM "more_units" (.int mu) (aM "opening_units" (.int ou) (lJ x P o m u d))
theorem Bv {x:v_}{P o m:U}{u:Int}{d:U×U}{ou mu:Int}{f:v_}(h1:¬f= "more_units")(h2:¬f= "opening_units"):(zO x P o m u d ou mu).lookup f=(lJ x P o m u d).lookup f:=by
 unfold zO;rw[az,if_neg h1,az,if_neg h2]
theorem Bt{x:v_}{P o m:U}{u:Int}{d:U×U}{ou mu:Int}:(zO x P o m u d ou mu).lookup ("signs" :v_)=some (.str x):=(Bv (by decide +kernel) (by decide +kernel)).trans G8
theorem tN{x:v_}{P o m:U}{u:Int}{d:U×U}{ou mu:Int}:(zO x P o m u d ou mu).lookup ("factors" :v_)=some (.ref d.2):=(Bv (by decide +kernel) (by decide +kernel)).trans CB
theorem JJ{x:v_}{P o m:U}{u:Int}{d:U×U}{ou mu:Int}:(zO x P o m u d ou mu).lookup ("costs" :v_)=some (.ref d.1):=(Bv (by decide +kernel) (by decide +kernel)).trans G9
theorem vU {x:v_}{P o m:U}{u:Int}{d:U×U}{v:V}{f:v_}(h2:¬f= "opening_units"):(aM "opening_units" v (lJ x P o m u d)).lookup f=(lJ x P o m u d).lookup f:=by
 rw[az,if_neg h2]
theorem wO{x:v_}{P o m:U}{u:Int}{d:U×U}{ou mu:Int}:(zO x P o m u d ou mu).lookup ("opening_units" :v_)=some (.int ou):=by
 unfold zO;rw[az,if_neg (by decide +kernel),az,if_pos rfl]
theorem zN{x:v_}{P o m:U}{u:Int}{d:U×U}{ou mu:Int}:(zO x P o m u d ou mu).lookup ("more_units" :v_)=some (.int mu):=by
 unfold zO;rw[az,if_pos rfl]
theorem ON{x:v_}{P o m:U}:(aM "more" (.ref m) (aM "opening" (.ref o) (aM "pairs" (.ref P) (aM "signs" (.str x) []))):List (v_×V)).lookup ("pairs" :v_)=some (.ref P):=by
 rw[az,if_neg (by decide +kernel),az,if_neg (by decide +kernel),az,if_pos rfl]
theorem Jq{x:v_}{P o m:U}:(aM "more" (.ref m) (aM "opening" (.ref o) (aM "pairs" (.ref P) (aM "signs" (.str x) []))):List (v_×V)).lookup ("opening" :v_)=some (.ref o):=by
 rw[az,if_neg (by decide +kernel),az,if_pos rfl]
theorem Rm{x:v_}{P o m:U}:(aM "more" (.ref m) (aM "opening" (.ref o) (aM "pairs" (.ref P) (aM "signs" (.str x) []))):List (v_×V)).lookup ("more" :v_)=some (.ref m):=by
 rw[az,if_pos rfl]
theorem Jr{x:v_}{P o m fl:U}:(aM "factors" (.ref fl) (aM "more" (.ref m) (aM "opening" (.ref o) (aM "pairs" (.ref P) (aM "signs" (.str x) [])))):List (v_×V)).lookup ("factors" :v_)=some (.ref fl):=by
 rw[az,if_pos rfl]
theorem OM{x:v_}{P o m fl:U}{u:Int}:(aM "unit" (.int u) (aM "factors" (.ref fl) (aM "more" (.ref m) (aM "opening" (.ref o) (aM "pairs" (.ref P) (aM "signs" (.str x) []))))):List (v_×V)).lookup ("signs" :v_)=some (.str x):=by
 rw[az,if_neg (by decide +kernel),az,if_neg (by decide +kernel),az,if_neg (by decide +kernel),az,if_neg (by decide +kernel),az,if_neg (by decide +kernel),az,if_pos rfl]
theorem Mj{x:v_}{P o m fl:U}{u:Int}:(aM "unit" (.int u) (aM "factors" (.ref fl) (aM "more" (.ref m) (aM "opening" (.ref o) (aM "pairs" (.ref P) (aM "signs" (.str x) []))))):List (v_×V)).lookup ("pairs" :v_)=some (.ref P):=by
 rw[az,if_neg (by decide +kernel),az,if_neg (by decide +kernel),az,if_neg (by decide +kernel),az,if_neg (by decide +kernel),az,if_pos rfl]
theorem Rl{x:v_}{P o m fl:U}{u:Int}:(aM "unit" (.int u) (aM "factors" (.ref fl) (aM "more" (.ref m) (aM "opening" (.ref o) (aM "pairs" (.ref P) (aM "signs" (.str x) []))))):List (v_×V)).lookup ("unit" :v_)=some (.int u):=by
 rw[az,if_pos rfl]
theorem aZ{f:v_}{v:V}{fs:List (v_×V)}{n:Nat}(h:fs.length<=n):(aM f v fs).length<=n+1:=by
 have:=uL f v fs;omega
structure ql(K:PySem.W.Frag)(C:U)(H:Hp)(x:U)(sg:v_)(rows:List (List cJ))(fo fm:cJ):Prop where
 sig:DK sg
 ZZ:Qh sg.cps.size rows
 ok:∀r∈rows,∀f∈r,Zu (bq fo.2 fm.2 rows) f
 Ov:Zu (bq fo.2 fm.2 rows) fo
 Ow:Zu (bq fo.2 fm.2 rows) fm
 pos:0<bq fo.2 fm.2 rows
 big:Bu (bq fo.2 fm.2 rows)
 ob:wY λdx P o m=>∃d:U×U,∃kvs,H x=some (.ins C dx (zO sg P o m (bq fo.2 fm.2 rows) d (fo.1*(bq fo.2 fm.2 rows / fo.2)) (fm.1*(bq fo.2 fm.2 rows / fm.2))))/\EU K H P rows/\k8 K H o fo/\k8 K H m fm/\H d.1=some (.dT kvs)/\Kn kvs sg rows (bq fo.2 fm.2 rows) ∧
  ∃fs:List Int,(∀f∈fs,rS f)/\vL fs=bq fo.2 fm.2 rows/\H d.2=some (.lst (fs.map V.int))
theorem ql.same{K:PySem.W.Frag}{C:U}{H H':Hp}{x:U}{sg:v_}{rows:List (List cJ)}{fo fm:cJ}(e:ak H H')(h:ql K C H x sg rows fo fm):ql K C H' x sg rows fo fm:=by
 obtain⟨a,b,c,d,f,g,i,dx,P,o,m,dd,kvs,h1,h2,h3,h4,h5,h6,fs,h7,h8,h9⟩:=h;exact⟨a,b,c,d,f,g,i,dx,P,o,m,dd,kvs,e _ _ h1,h2.dat (Dat.of e),h3.same e,h4.same e,e _ _ h5,h6,fs,h7,h8,e _ _ h9⟩
def Qk(H:Hp)(x c:U):Prop:=∀C dx fs,H x=some (.ins C dx fs)->fs.lookup ("factors" :v_)≠some (.ref c)
def Zt(f:cJ):Prop:=HN f/\Sm f.1
noncomputable def Cv(rows:List (List cJ)):List (List cJ):=rows.map λr=>r.map nF
def NW(K:PySem.W.Frag)(C:U):Sp:=λvs H Q _=>Wz λ(x dx o m:U) (sg:v_) (c:Cp) (rows:List (List cJ)) (fo fm:cJ)=>vs=[.ref x,.str sg,c.val,.ref o,.ref m]/\H x=some (.ins C dx [])/\DK sg/\sg.cps.size<=12 ∧
 Na K H c rows/\Qh sg.cps.size rows/\(∀r∈rows,∀f∈r,Zt f)/\k8 K H o fo/\Zt fo/\k8 K H m fm/\Zt fm ∧
 ∀H',ql K C H' x sg (Cv rows) (nF fo) (nF fm)->(∀b u,H b=some u->b≠x->H' b=some u)->(∀c,H c≠none->Qk H' x c)->Q .jG H'
def qE(K:PySem.W.Frag)(C:U):Sp:=λvs H Q _=>HA λ(x:U) (sg:v_) (rows:List (List cJ)) (fo fm:cJ) (i j a b:Nat) (f:cJ)=>vs=[.ref x,.str ⟨#[a]⟩,.str ⟨#[b]⟩]/\ql K C H x sg rows fo fm ∧
 sg.cps[i]? =some a/\sg.cps[j]? =some b/\QH rows i j f/\∀H',ak H H'->Q (.int (f.1*(bq fo.2 fm.2 rows / f.2))) H'
def yl(K:PySem.W.Frag)(C:U):Sp:=λvs H Q _=>BG λ(x:U) (sg:v_) (rows:List (List cJ)) (fo fm:cJ)=>vs=[.ref x]/\ql K C H x sg rows fo fm/\Q (.int (fo.1*(bq fo.2 fm.2 rows / fo.2))) H
def IK(K:PySem.W.Frag)(C:U):Sp:=λvs H Q _=>BG λ(x:U) (sg:v_) (rows:List (List cJ)) (fo fm:cJ)=>vs=[.ref x]/\ql K C H x sg rows fo fm/\Q (.int (fm.1*(bq fo.2 fm.2 rows / fm.2))) H
def vc(K:PySem.W.Frag)(C:U):Sp:=λvs H Q _=>V7 λ(x:U) (n:Int) (sg:v_) (rows:List (List cJ)) (fo fm:cJ)=>vs=[.ref x,.int n]/\ql K C H x sg rows fo fm ∧
 ∀q H',ak H H'->H q=none->H' q=some (.tup [.int (nF (n,bq fo.2 fm.2 rows)).1,.int (nF (n,bq fo.2 fm.2 rows)).2])->Q (.ref q) H'
end
section
theorem i9{α β:Type}{l:List α}{g:α->β}{i:Nat}{y:β}(h:(l.map g)[i]? =some y):∃x,l[i]? =some x/\y=g x:=by
 rw[O_]at h
 cases e:l[i]? with
 |none=>rw[e]at h;cases h
 |some x=>rw[e]at h;exact⟨x,Y,(L_ h).symm⟩
def oQ(kvs:List (List Key×V))(x:v_)(rows:List (List cJ))(u:Int)(n m:Nat):Prop :=
 ∀i j a b f,(i<n\/(i=n/\j<m))->x.cps[i]? =some a->x.cps[j]? =some b->QH rows i j f->jK kvs (keyOf a b)=some (.int (f.1*(u / f.2)))
theorem oQ.nil(x:v_)(rows:List (List cJ))(u:Int):oQ [] x rows u 0 0:=λi j a b f h=>by omega
theorem My{a b c d:Nat}(h:keyOf a b=keyOf c d):a=c/\b=d:=by
 unfold keyOf at h;have h1:=(qb3 h).1;have h2:=(qb3 (qb3 h).2).1;have e1:(⟨#[a]⟩:v_)=⟨#[c]⟩:=Sum.inr.inj h1;have e2:(⟨#[b]⟩:v_)=⟨#[d]⟩:=Sum.inr.inj h2;have z1: #[a]= #[c]:=congrArg qcO e1;have z2: #[b]= #[d]:=congrArg qcO e2;exact⟨by simpa using z1,by simpa using z2⟩
theorem oQ.put{kvs:List (List Key×V)}{x:v_}{rows:List (List cJ)}{u:Int}{n m a b:Nat}{f:cJ}(nd:x.cps.toList.Nodup)(h:oQ kvs x rows u n m)(ha:x.cps[n]? =some a)(hb:x.cps[m]? =some b)(hf:QH rows n m f):
  oQ (putK kvs (keyOf a b) (.int (f.1*(u / f.2)))) x rows u n (m+1):=by
 intro i j c d g hij hc hd hg;rw[rZ];by_cases e:i=n/\j=m
 ·obtain⟨rfl,rfl⟩:=e;rw[ha]at hc;rw[hb]at hd;cases hc;cases hd;obtain⟨r,r1,r2⟩:=hf;obtain⟨r',r3,r4⟩:=hg;rw[r1]at r3;cases r3;rw[r2]at r4;cases r4;rw[if_pos rfl]
 ·have hne:¬keyOf c d=keyOf a b:=λz=>by
   obtain⟨z1,z2⟩:=My z;subst z1 z2;refine e ⟨?_,?_⟩
   ·exact Decidable.byContradiction λq=>uz nd hc ha q Y
   ·exact Decidable.byContradiction λq=>uz nd hd hb q Y
  rw[if_neg hne];exact h i j c d g (by omega) hc hd hg
theorem oQ.row{kvs:List (List Key×V)}{x:v_}{rows:List (List cJ)}{u:Int}{n m:Nat}(hm:x.cps.size<=m)(h:oQ kvs x rows u n m):oQ kvs x rows u (n+1) 0:=by
 intro i j a b f hij ha hb hf;refine h i j a b f ?_ ha hb hf;have:j<x.cps.size:=by
  rw[←qal]at hb;have:=(o_.mp hb).1;simpa using this
 omega
theorem oQ.all{kvs:List (List Key×V)}{x:v_}{rows:List (List cJ)}{u:Int}{n:Nat}(hn:x.cps.size<=n)(h:oQ kvs x rows u n 0):Kn kvs x rows u:=by
 intro i j a b f ha hb hf;refine h i j a b f (.inl ?_) ha hb hf;have:i<x.cps.size:=by
  rw[←qal]at ha;have:=(o_.mp ha).1;simpa using this
 omega
theorem OY{a b:Int}(ha:0<a)(hb:0<b):0<lm a b:=by
 have h:=tL a hb;have:=qbw ha (qaV h) (qcJ a b);exact Int.mul_pos this hb
theorem wQ(a g:Int):(a / g).natAbs<=a.natAbs:=Int.natAbs_ediv_le_natAbs a g
theorem OZ(a b:Int):(lm a b).natAbs<=a.natAbs*b.natAbs:=by
 unfold lm;rw[Int.natAbs_mul];exact qca _ (wQ a _)
theorem G5:∀(l:List Int) {u:Int},0<u->(∀b∈l,0<b)->0<l.foldl lm u
 |[],_,h,_=>h
 |b::l,_,h,hb=>G5 l (OY h (hb b z_)) λc hc=>hb c (s_ _ hc)
theorem G6{B:Nat}:∀(l:List Int) {u:Int},(∀b∈l,b.natAbs<=B)->(l.foldl lm u).natAbs<=u.natAbs*B ^ l.length
 |[],_,_=>by simp
 |b::l,u,h=>by
  have h1:=G6 (B:=B) l (u:=lm u b) λc hc=>h c (s_ _ hc);have h2:=OZ u b;have h3:=h b z_;show(l.foldl lm (lm u b)).natAbs<=_;refine p_ h1 ?_;rw[qaa,Nat.pow_succ,Nat.mul_comm (B ^ l.length) B,←Nat.mul_assoc];exact qca _ (p_ h2 (Nat.mul_le_mul_left _ h3))
theorem Bx{n:Nat}:∀{rows:List (List cJ)},(∀r∈rows,r.length=n)->rows.flatten.length=rows.length*n
 |[],_=>by simp
 |r::rows,h=>by
  rw[qb7,G_,h r z_,Bx λr' hr=>h r' (s_ _ hr),qaa,Nat.succ_mul,qcC]
theorem HN.abs{f:cJ}(h:HN f):f.2.natAbs<=2 ^ 30:=by
 obtain⟨h1,h2⟩:=h;have:(2:Nat) ^ 30=1073741824:=by decide
 omega
theorem Nv{rows:List (List cJ)}{fo fm:cJ}(ho:HN fo)(hm:HN fm)(h:∀r∈rows,∀f∈r,HN f):0<bq fo.2 fm.2 rows:=by
 refine G5 _ (OY (by have:=ho.1;omega) (by have:=hm.1;omega)) λb hb=>?_;obtain⟨f,hf,rfl⟩:=U_.mp hb;obtain⟨r,hr,hfr⟩:=List.mem_flatten.mp hf;have:=(h r hr f hfr).1;omega
theorem Nx{n:Nat}{rows:List (List cJ)}{fo fm:cJ}(hn:n<=12)(hs:Qh n rows)(ho:HN fo)(hm:HN fm)(h:∀r∈rows,∀f∈r,HN f):Bu (bq fo.2 fm.2 rows):=by
 have h1:(bq fo.2 fm.2 rows).natAbs<=(lm fo.2 fm.2).natAbs*(2 ^ 30) ^ (rows.flatten.map (·.2)).length:=by
  refine G6 _ λb hb=>?_;obtain⟨f,hf,rfl⟩:=U_.mp hb;obtain⟨r,hr,hfr⟩:=List.mem_flatten.mp hf;exact(h r hr f hfr).abs
 have h2:(lm fo.2 fm.2).natAbs<=2 ^ 30*2 ^ 30:=p_ (OZ _ _) (qbx ho.abs hm.abs);have h3:(rows.flatten.map (·.2)).length<=144:=by
  rw[l_,Bx hs.2,hs.1];exact p_ (qbx hn hn) (by decide)
 have h4:(2 ^ 30:Nat) ^ (rows.flatten.map (·.2)).length<=(2 ^ 30) ^ 144:=Nat.pow_le_pow_right (by decide) h3;have h5:(2 ^ 30:Nat)*2 ^ 30*(2 ^ 30) ^ 144<=2 ^ 4380:=by
  rw[←Nat.pow_mul,←Nat.pow_add,←Nat.pow_add];exact Nat.pow_le_pow_right (by decide) (by decide)
 exact p_ h1 (p_ (qbx h2 h4) h5)
theorem uK{f:cJ}(h:HN f):HN (nF f):=by
 obtain⟨h1,h2⟩:=h;have h0:0<f.2:=by omega
 have p:=OV f.1 h0;have l:=lo_le f.1 h0;exact⟨by show 1<=(lo f.1 f.2).2;omega,by show(lo f.1 f.2).2<_;omega⟩
theorem Rt{f:cJ}(h:Sm f.1):Sm (nF f).1:=w_ (wQ _ _) h
theorem Bu.div{u:Int}(h:Bu u)(g:Int):Bu (u / g):=p_ (wQ _ _) h
theorem Rr{n:Nat}{rows:List (List cJ)}(h:Qh n rows):Qh n (Cv rows):=by
 refine⟨by unfold Cv;rw[l_];exact h.1,λr hr=>?_⟩;obtain⟨r',h',rfl⟩:=U_.mp hr;rw[l_];exact h.2 r' h'
theorem EB{p:cJ->Prop}{rows:List (List cJ)}(h:∀r∈rows,∀f∈r,p (nF f)):∀r∈Cv rows,∀f∈r,p f:=by
 intro r hr f hf;obtain⟨r',h',rfl⟩:=U_.mp hr;obtain⟨f',hf',rfl⟩:=U_.mp hf;exact h r' h' f' hf'
theorem QH.mem{rows:List (List cJ)}{i j:Nat}{f:cJ}(h:QH rows i j f):∃r∈rows,f∈r:=by
 obtain⟨r,h1,h2⟩:=h;exact⟨r,A_ h1,A_ h2⟩
end
section
theorem bZ.off{K:PySem.W.Frag}{H:Hp}{l a:U}{ys xs:List V}{o:HO}(hl:H l=some (.lst ys))(h:bZ K H a xs):bZ K (L2.upd H l o) a xs:=by
 rcases h with(h|⟨u,h⟩)|h
 ·exact .inl (.inl (by rw[av (uc h hl (by intro z;cases z))];exact h))
 ·exact .inl (.inr ⟨u,by rw[av (uc h hl (by intro z;cases z))];exact h⟩)
 ·exact .inr h
theorem nO.off{K:PySem.W.Frag}{H:Hp}{l q:U}{ys:List V}{fs:List cJ}{o:HO}(hl:H l=some (.lst ys))(h:nO K H (.tup q) fs):nO K (L2.upd H l o) (.tup q) fs:=by
 obtain⟨ps,a,b⟩:=h;exact⟨ps,bZ.off hl a,Paired.ji b λ_ _ z=>bZ.off hl z⟩
def Off(x:U)(H H':Hp):Prop:=∀b u,H b=some u->b≠x->H' b=some u
theorem Off.of{x:U}{H H':Hp}(e:ak H H'):Off x H H':=λb u h _=>e b u h
theorem Off.trans{x:U}{H H' Qm:Hp}(e:Off x H H')(f:Off x H' Qm):Off x H Qm:=λb u h n=>f b u (e b u h n) n
theorem Off.set{x:U}{H:Hp}{o:HO}:Off x H (L2.upd H x o):=λb u h n=>by rw[av n];exact h
theorem Off.dat{x C dx:U}{fs:List (v_×V)}{H H':Hp}(hx:H x=some (.ins C dx fs))(e:Off x H H'):Dat H H':=λb u n h=>e b u h λz=>by
 subst z;rw[hx]at h;cases h;exact n _ _ _ Y
theorem pl1{a:v_}{x:V}:(aM a x []).length<1000:=w_ (aZ (j_ 0)) (by decide)
theorem pl2{a b:v_}{x y:V}:(aM a x (aM b y [])).length<1000:=w_ (aZ (aZ (j_ 0))) (by decide)
theorem pl3{a b c:v_}{x y z:V}:(aM a x (aM b y (aM c z []))).length<1000:=w_ (aZ (aZ (aZ (j_ 0)))) (by decide)
theorem pl4{a b c d:v_}{x y z w:V}:(aM a x (aM b y (aM c z (aM d w [])))).length<1000:=w_ (aZ (aZ (aZ (aZ (j_ 0))))) (by decide)
theorem pl5{a b c d e:v_}{x y z w v:V}:(aM a x (aM b y (aM c z (aM d w (aM e v []))))).length<1000:=w_ (aZ (aZ (aZ (aZ (aZ (j_ 0)))))) (by decide)
theorem pl6{a b c d e g:v_}{x y z w v t:V}:(aM a x (aM b y (aM c z (aM d w (aM e v (aM g t [])))))).length<1000:=w_ (aZ (aZ (aZ (aZ (aZ (aZ (j_ 0))))))) (by decide)
theorem pl7{x:v_}{P o m:U}{u:Int}{d:U×U}:(lJ x P o m u d).length<1000:=w_ (aZ (aZ (aZ (aZ (aZ (aZ (aZ (j_ 0)))))))) (by decide)
theorem pl8{x:v_}{P o m:U}{u:Int}{d:U×U}{a:v_}{v:V}:(aM a v (lJ x P o m u d)).length<1000:=w_ (aZ (aZ (aZ (aZ (aZ (aZ (aZ (aZ (j_ 0))))))))) (by decide)
end
section
theorem Lx{a b c:Int}(h:qag a b=1)(d:a∣b*c):a∣c:=by
 have d':a.natAbs∣b.natAbs*c.natAbs:=by rw[←Int.natAbs_mul];exact Int.natAbs_dvd_natAbs.mpr d
 have h':Nat.Coprime a.natAbs b.natAbs:=h;exact Int.natAbs_dvd_natAbs.mp (h'.dvd_of_dvd_mul_left d')
theorem OT{x y x' y':Int}(hy:0<y)(hy':0<y')(h:qag x y=1)(h':qag x' y'=1)(e:x*y'=x'*y):x=x'/\y=y':=by
 have d1:y∣y':=Lx (b:=x) (by rw[Int.gcd_comm];exact h) (by rw[e];exact Int.dvd_mul_left _ _);have d2:y'∣y:=Lx (b:=x') (by rw[Int.gcd_comm];exact h') (by rw[←e];exact Int.dvd_mul_left _ _);have ey:=Int.dvd_antisymm (qaV hy) (qaV hy') d1 d2;subst ey;exact⟨Int.eq_of_mul_eq_mul_right (Int.ne_of_gt hy) e,Y⟩
theorem PV{ov un b:Int}(hb:0<b)(hg:qag ov un=1):qag (ov / (qag ov b:Int)) (un*(b / (qag ov b:Int)))=1:=by
 have h1:qag (ov / (qag ov b:Int)) (b / (qag ov b:Int))=1:=OW ov hb;have h2:qag (ov / (qag ov b:Int)) un=1:=by
  refine Nat.dvd_one.mp ?_;rw[←hg];refine Int.dvd_gcd (Int.dvd_trans (qcJ ..) ?_) (qbl ..);exact⟨_,(Jv ov b).symm⟩
 have z:Nat.Coprime (ov / (qag ov b:Int)).natAbs (un.natAbs*(b / (qag ov b:Int)).natAbs):=Nat.Coprime.mul_right h2 h1;rw[←Int.natAbs_mul]at z;exact z
theorem JM{ov un b n p:Int}(he:ov*p=n*un):ov / (qag ov b:Int)*(p*b)=n*(un*(b / (qag ov b:Int))):=by
 have h1:=Jv ov b;have h2:=OU ov b;unfold lo at h1 h2;dsimp only at h1 h2;generalize ov / (qag ov b:Int)=x at *;generalize b / (qag ov b:Int)=y at *;generalize (qag ov b:Int)=g at *;rw[←Int.mul_assoc n,←he,←h1,←h2]
 ac_rfl
theorem Xz{n i_ ov un:Int}(hU:0<i_)(hun:0<un)(hg:qag ov un=1)(he:ov*i_=n*un):nF (n,i_)=(ov,un):=by
 have c:=OX n i_;have e:(lo n i_).1*un=ov*(lo n i_).2:=by
  refine Int.eq_of_mul_eq_mul_right (Int.ne_of_gt hU) ?_
  calc (lo n i_).1*un*i_=(lo n i_).1*i_*un:=by ac_rfl
   _=n*un*(lo n i_).2:=by rw[c];ac_rfl
   _=ov*(lo n i_).2*i_:=by rw[←he];ac_rfl
 obtain⟨z1,z2⟩:=OT (OV n hU) hun (OW n hU) hg e;show lo n i_=(ov,un);rw[←z1,←z2]
end
end GP
namespace L2
open PySem PySem.Spec PyProof.Rows
noncomputable def xU(scope:qbn)(X:Cx):Bool:=scope.names.all λy=>(y.2 != qah)||(X.env.scope.names.lookup y.1==some qb2)
noncomputable def ixB(scope:qbn)(X:Cx)(N:List v_)(nt:Nat)(ix:List Nat):Bool:=(S_ ix.length).all λk=>match N[nt+k]?,ix[k]? with
 |some x,some j=>(X.N[j]? ==some x)&&(scope.names.contains (x,qah))&&((relabel scope X.env).names.lookup x==some qb2)
 |_,_=>false
theorem ee.xU{X:Cx}{scope:qbn}{N:List v_}{nt:Nat}{ix:List Nat}(kind:scope.kind= .function)(cell:∀y∈scope.names,y.2= .cell->(y.1,qah)∉scope.names)
  (names:∀y∈scope.names,y.2= .local->scope.names.lookup y.1=some .local) (hf:L2.xU scope X=true) (hl:N.length=nt+ix.length) (hx:ixB scope X N nt ix=true) (ok:X.Ok) :
  ∃cl,ee X scope cl N (ZY nt ix):=by
 refine ee.free kind cell names (λy hy hk=>?_) hl (λk j hj=>?_) ok
 ·have z:=qbI.mp hf y hy;rw[hk]at z;have z2:X.env.scope.names.lookup y.1=some qb2:=by simpa using z
  exact z2
 ·have hk:k<ix.length:=(o_.mp hj).1;have z:=qbI.mp hx k (qbe.mpr hk);have hn:nt+k<N.length:=by omega
  rw[g_ hn,hj]at z;simp only[qaP]at z;obtain⟨⟨z1,z2⟩,z3⟩:=z;exact⟨_,g_ hn,by simpa using z1,by simpa using z2,by simpa using z3⟩
theorem Kp.LW{r:St}{v:Option V}:Kp (none::r) ((none::r).set 0 v):=λi x e=>by
 cases i with
 |zero=>cases e
 |succ i=>exact e
theorem bS{X:Cx}:pM X (.builtin "isinstance") (λxs H Q=>wY λx n t b=>xs=[x,.ty n]/\(x8 X.K H x t\/dP λa ys=>x= .ref a/\bZ X.K H a ys/\t= .type "tuple")/\PySem.W.kitOne X.K t (.type n)=some b/\Q (.bl b) H):=by
 intro pins s σ H xs us Q I r h;obtain⟨x,n,t,b,rfl,ty,e,q⟩:=h;obtain⟨u,w',rfl,rx,rn⟩:=vals2 r;cases rn;rcases ty with ty|⟨a,ys,rfl,hs,rfl⟩
 ·exact TK.bX (j_ s.toks) (MC I rx ty e λtk hup=>⟨.bl b,H,I.tok _,Y,q⟩)
 ·cases (show u=Value.ref a from rx);obtain⟨its,_,⟨o,h1,h2,_⟩,_⟩:=I.tuple hs
  exact TK.bX (j_ s.toks) (PySem.W.kia_one PySem.W.kitx_tuple I.yI ⟨o,h1,h2⟩ e (λz=>nomatch z) λtk hup=>⟨.bl b,H,I.tok _,Y,q⟩)
end L2
namespace GP
open PySem L2 rF
theorem nG{K:PySem.W.Frag}{t:k_}:PySem.W.kitOne K t t=some true:=by unfold PySem.W.kitOne;rw[if_pos (by simp)]
theorem xR{K:PySem.W.Frag}:PySem.W.kitOne K (.type "int") (.type "bool")=some false:=by kernel_rfl
theorem xQ{K:PySem.W.Frag}:PySem.W.kitOne K (.type "int") (.type "list")=some false:=by kernel_rfl
theorem vS{K:PySem.W.Frag}:PySem.W.kitOne K (.type "int") (.type "tuple")=some false:=by kernel_rfl
theorem yY{K:PySem.W.Frag}:PySem.W.kitOne K (.type "int") (.type "str")=some false:=by kernel_rfl
theorem qO{K:PySem.W.Frag}:PySem.W.kitOne K (.type "tuple") (.type "list")=some false:=by kernel_rfl
noncomputable def Wo(t:U)(H:Hp):Hp:=λb=>if b=t then none else H b
theorem Wo.sub{t:U}{H:Hp}:ak (Wo t H) H:=λb u h=>by
 unfold Wo at h;by_cases e:b=t
 ·rw[if_pos e]at h;cases h
 ·rw[if_neg e]at h;exact h
theorem Wo.ne{t:U}{H:Hp}{b:U}{u:HO}(h:Wo t H b=some u):b≠t:=λe=>by
 unfold Wo at h;rw[if_pos e]at h;cases h
theorem Wo.in{t:U}{H:Hp}{b:U}{u:HO}(n:b≠t)(h:H b=some u):Wo t H b=some u:=by
 unfold Wo;rw[if_neg n];exact h
theorem Wo.free{t:U}{H:Hp}{b:U}(h:H b=none):Wo t H b=none:=by
 unfold Wo;split
 ·rfl
 ·exact h
theorem Wo.set{t:U}{H:Hp}{o:HO}:Wo t (L2.upd H t o)=Wo t H:=by
 funext b;unfold Wo;by_cases e:b=t
 ·rw[if_pos e,if_pos e]
 ·rw[if_neg e,if_neg e,av e]
theorem Wo.same{t:U}{H H':Hp}(e:ak H H'):ak (Wo t H) (Wo t H'):=λb u h=>Wo.in (Wo.ne h) (e b u (Wo.sub b u h))
theorem Wo.upd{t:U}{H:Hp}{o:HO}:ak (Wo t H) (L2.upd H t o):=λb u h=>by rw[av (Wo.ne h)];exact Wo.sub b u h
theorem Ao{H:Hp}{t r:U}{o:HO}(h:L2.upd H t o r=none):H r=none:=by
 by_cases e:r=t
 ·rw[e,ai]at h;cases h
 ·rw[av e]at h;exact h
structure B3(K:PySem.W.Frag)(H:Hp)(s t:U)(ns:List Int)(k:Int):Prop where
 sq:bW K (Wo t H) s (ns.map V.int)
 len:ns.length<=63
 at_:H t=some (.lst [.int k])
 k0:0<=k
theorem B3.scr{K:PySem.W.Frag}{H:Hp}{s t:U}{ns:List Int}{k:Int}(c:B3 K H s t ns k):bW K H s (ns.map V.int):=ak.seq Wo.sub c.sq
theorem B3.Xg{K:PySem.W.Frag}{H:Hp}{s t:U}{ns:List Int}{k:Int}(c:B3 K H s t ns k)(o:HO):bW K (L2.upd H t o) s (ns.map V.int):=ak.seq Wo.upd c.sq
theorem B3.same{K:PySem.W.Frag}{H H':Hp}{s t:U}{ns:List Int}{k:Int}(c:B3 K H s t ns k)(e:ak H H'):B3 K H' s t ns k:=⟨ak.seq (Wo.same e) c.sq,c.len,e _ _ c.at_,c.k0⟩
theorem B3.step{K:PySem.W.Frag}{H:Hp}{s t:U}{ns:List Int}{k k':Int}(c:B3 K H s t ns k)(h:0<=k'):B3 K (L2.upd H t (.lst [.int k'])) s t ns k':=⟨by rw[Wo.set];exact c.sq,c.len,ai,h⟩
theorem B3.off{K:PySem.W.Frag}{H H':Hp}{s t:U}{ns:List Int}{k k':Int}(c:B3 K H s t ns k)(e:ak (Wo t H) (Wo t H'))(h:H' t=some (.lst [.int k']))(h0:0<=k'):B3 K H' s t ns k':=⟨ak.seq e c.sq,c.len,h,h0⟩
theorem BE{c:Int}(h1: -(10 ^ 40)<=c)(h2:c<=10 ^ 40):Sm c:=by
 have h:c.natAbs<=10 ^ 40:=by omega
 have h3:(10:Nat) ^ 40<2 ^ 200:=by decide
 exact w_ h h3
def QG(f:cJ):Prop:=1<=f.2/\f.2<=999/\Sm f.1
theorem QG.h{f:cJ}(h:QG f):Zt f:=⟨⟨h.1,by have:=h.2.1;omega⟩,h.2.2⟩
def wu(K:PySem.W.Frag):Sp:=λvs H Q _=>wY λ(s t:U) (ns:List Int) (k:Int)=>vs=[.ref s,.ref t]/\B3 K H s t ns k/\k<=100000 ∧
 ∀m:Int,0<=m->m<1999999973->Q (.int m) (L2.upd H t (.lst [.int (k+1)]))
structure yb(K:PySem.W.Frag)(H:Hp)(l:U)(rs:List U)(rows:List (List cJ)):Prop where
 len:rs.length=rows.length
 at_:H l=some (.lst (rs.map V.ref))
 nd:rs.Nodup
 nl:l∉rs
 row:∀(i:Nat) r row,rs[i]? =some r->rows[i]? =some row->∃ps:List U,H r=some (.lst (ps.map V.ref))/\Paired (k8 K H) ps row
theorem yb.same{K:PySem.W.Frag}{H H':Hp}{l:U}{rs:List U}{rows:List (List cJ)}(e:ak H H')(h:yb K H l rs rows):yb K H' l rs rows :=
 ⟨h.len,e _ _ h.at_,h.nd,h.nl,λi r row h1 h2=>by
  obtain⟨ps,a,b⟩:=h.row i r row h1 h2;exact⟨ps,e _ _ a,Paired.ji b λ_ _ z=>z.same e⟩⟩
theorem yu{α β:Type}{F:α->β->Prop}:∀{l₁:List α} {l₂:List β},l₁.length=l₂.length->(∀(i:Nat) x y,l₁[i]? =some x->l₂[i]? =some y->F x y)->Paired F l₁ l₂
 |[],[],_,_=>.nil
 |x::l₁,y::l₂,hl,h=>.cons (h 0 x y rfl rfl) (yu (by simpa using hl) λi a b h1 h2=>h (i+1) a b h1 h2)
theorem yb.acJ{K:PySem.W.Frag}{H:Hp}{l:U}{rs:List U}{rows:List (List cJ)}(h:yb K H l rs rows):Na K H (.lst l) rows:=by
 refine⟨λx z=>(by cases z),rs.map Cp.lst,λd hd x z=>?_,?_,?_⟩
 ·obtain⟨q,_,e⟩:=U_.mp hd;rw[←e]at z;cases z
 ·rw[qaL];exact bW.of h.at_
 ·refine wI (yu h.len λi r row h1 h2=>?_);obtain⟨ps,a,b⟩:=h.row i r row h1 h2;exact⟨ps,bW.of a,b⟩
end GP
namespace L2
open PySem PySem.Spec PyProof.Rows
section
def Au(wi:TI)(g:TG)(tt:TT)(te:TE)(sQ:St->St):TE:=λσ H Q=>wi σ H λJ H1=>∀l,H1 l=none->∃W:Nat->Nat->List V->Hp->Prop,(∃m,W 0 m [] (upd H1 l (.lst []))) ∧
 ∀i m ys H2,W i m ys H2->(J.stop i H2/\Q (.ref l) H2) ∨
  (J.go i H2/\∀x H3,J.CZ i H2 x H3->g x (sQ σ) H3 λCW H4=>Kp (sQ σ) CW/\tt CW H4 λb H5 =>
   if b=true then te CW H5 (λy H6=>H6 l=some (.lst ys)/\ys.length<D_/\∃m',m'<m/\W (i+1) m' (ys++[y]) (upd H6 l (.lst (ys++[y]))))else ∃m',m'<m/\W (i+1) m' ys H5)
theorem Yq{A B:Prop}(h:if false=true then A else B):B:=by rw[if_neg y_]at h;exact h
theorem Yp{A B:Prop}(h:if true=true then A else B):A:=by rw[if_pos rfl]at h;exact h
def PTs(X:Cx)(ifs:List Expr)(t:TT):Prop :=
 ∀(pins:List (U×qa9)) (s:n_) (σ:St) (H:Hp) (Q:Bool->Hp->Prop),Inv X pins σ H s->t σ H Q->C_ (model X.prog X.w) X.A (forIn ifs true λc r=>if r=true then do let ok ←isTrue c X.env (eval c X.env);pure (ForInStep.yield ok)else pure (ForInStep.yield r)) (TP X pins σ Q) X.xe s
set_option maxHeartbeats 2000000 in
theorem BA{X:Cx}{elt tg iter:Expr}{ifs:List Expr}{tt:TT}{scope:qbn}{pos pos':qbO}{wi:TI}{g:TG}{te:TE}{N:List v_}{sQ:St->St}(hc:X.calm=true)(hS:X.Ok->∃cl,ee X scope cl N sQ)(hi:PI X tg iter wi)
  (hg:∀cl C s H ex pn E,PG (jT X scope cl C N s H ex pn E) tg g) (he:∀cl C s H ex pn E,PE (jT X scope cl C N s H ex pn E) elt te) (ht:∀cl C s H ex pn E,PTs (jT X scope cl C N s H ex pn E) ifs tt) (hs:∀x,foldedSetIterable iter X.env x=pure x)
  {pins:List (U×qa9)} {s:n_} {σ:St} {H:Hp} {Q:VK} {use:Option (k_->Sem Unit)} {QQ:k_->n_->Prop} (I:Inv X pins σ H s) (h:Au wi g tt te sQ σ H Q)
  (Pk:∀(l C:U) (mC:v_->Option k_) (H':Hp) (s':n_),Inv X pins σ H' s'->uu X pins H' C->s'.heap.Ns C mC->Q (.ref l) H'->compPost (model X.prog X.w) X.A X.xe use QQ (.ref l) C (.ok .next) s') :
  C_ (model X.prog X.w) X.A (comprehension (.ListComp elt [⟨tg,iter,ifs,0⟩] scope pos) scope X.env pos' (newList []) false (eval iter X.env) use) QQ X.xe s:=by
 obtain⟨cl,S⟩:=hS I.ok;refine wpAny_comprehension_free (use:=use) Y hs S.clos S.kind S.names (fR (hi pins s σ H _ I h) λv s1 h1=>fR h1 λitv s2 h2=>?_);obtain⟨it,fp,tn,J,H2,e,I2,T,st2,f2,hq⟩:=h2;subst e;obtain⟨W,⟨m0,w0⟩,turn⟩:=hq _ I2.fresh;refine qbk (PX S λJQ h₁ G Vy kp=>?_);have I3:Inv X pins σ (upd H2 s2.heap.objs.size (.lst [])) { s2 with heap:=s2.heap.push { cls:=.type "list",data:=.seq ([]:List k_).toArray } }:=I2.acQ (t':=s2.toks) .nil (Q_ _);have SA:∀b o,s2.heap.get? b=some o->(s2.heap.push { cls:=.type "list",data:=.seq ([]:List k_).toArray }).get? b=some o:=λb o e=>m_ _ e;have f3:∀b∈fp,uu X pins (upd H2 s2.heap.objs.size (.lst [])) b/\b<(s2.heap.push { cls:=.type "list",data:=.seq ([]:List k_).toArray }).objs.size:=λb hb=>by
  obtain⟨o,ho,_⟩:=T.obj _ _ st2 b hb;have hlt:=E_ ho;obtain⟨f0,f1⟩:=f2 b hb;exact⟨⟨by rw[av (R_ hlt)];exact f0,f1⟩,E_ (SA b o ho)⟩
 have st3:tn 0 h₁:=T.keep _ _ _ st2 λb _ o e=>kp b o (SA b o e);generalize hR:(λr s'=>compPost (model X.prog X.w) X.A X.xe use QQ (.ref s2.heap.objs.size) (s2.heap.push { cls:=.type "list",data:=.seq ([]:List k_).toArray }).objs.size r s')=R;generalize GZ:jT X scope JQ (s2.heap.push { cls:=.type "list",data:=.seq ([]:List k_).toArray }).objs.size N { s2 with heap:=s2.heap.push { cls:=.type "list",data:=.seq ([]:List k_).toArray } }
  (upd H2 s2.heap.objs.size (.lst [])) fp (X.pn++pins) (notedBy (model X.prog X.w) X.A (compEnvC scope JQ (s2.heap.push { cls:=.type "list",data:=.seq ([]:List k_).toArray }).objs.size X.env) λe s'=>R (.error e) s')=X'
 have I4:Inv X' [] (sQ σ) (upd H2 s2.heap.objs.size (.lst [])) { s2 with heap:=h₁ }:=by
  subst GZ;exact O6 (s:={ s2 with heap:=s2.heap.push { cls:=.type "list",data:=.seq ([]:List k_).toArray } }) S G I3 f3 kp Vy s2.toks
 have PG':PG X' tg g:=by subst GZ;exact hg _ _ _ _ _ _ _
 have PE':PE X' elt te:=by subst GZ;exact he _ _ _ _ _ _ _
 have PT':PTs X' ifs tt:=by subst GZ;exact ht _ _ _ _ _ _ _
 have stat:∀{H':Hp},(∀b∈fp,H' b=none)->∀b∈fp,uu X' [] H' b:=λhn b hb=>by
  subst GZ;obtain⟨⟨_,f1,fn,_,f4,f5⟩,lt⟩:=f3 b hb;refine⟨hn b hb,R_ lt,λz=>?_,.inl hb,λx c e=>(G.look x c e).elim (λz=>qbc (qcd lt z.1)) λz=>f4 x c (S.sub x c z),λp hp=>f5 p ?_⟩
  ·rcases B_.mp (I3.DV b z)with q|q
   ·exact f1 q
   ·exact fn q
  ·rcases V_.mp hp with z|z
   ·exact z
   ·cases z
 have hp1:X'.prog=X.prog:=by subst GZ;rfl
 have hp2:X'.w=X.w:=by subst GZ;rfl
 have hp3:X'.K=X.K:=by subst GZ;rfl
 have S3:X'.calm=true:=by subst GZ;exact hc
 have Wl:X'.A=X.A:=by subst GZ;rfl
 have Wk:X'.env=compEnvC scope JQ (s2.heap.push { cls:=.type "list",data:=.seq ([]:List k_).toArray }).objs.size X.env:=by subst GZ;rfl
 have Vw:X'.xe=notedBy (model X.prog X.w) X.A X'.env λe s'=>R (.error e) s':=by subst GZ;rfl
 have fin:∀{H':Hp} {s':n_},Inv X' [] (sQ σ) H' s'->Q (.ref s2.heap.objs.size) H'->R (.ok .next) s':=by
  intro H' s' I5 q;subst hR;obtain⟨mC,hnC,_⟩:=I5.loc;rw[Wk]at hnC;have hok:um X.prog X.w H' s'.heap:=by
   have z:=I5.hok;rw[hp1,hp2]at z;exact z
  have u:Un (frs X.stack) fp (upd H2 s2.heap.objs.size (.lst [])) H' (s2.heap.push { cls:=.type "list",data:=.seq ([]:List k_).toArray }) s'.heap:=by
   have z:=I5.base;subst GZ;exact z
  have hC:H' (s2.heap.push { cls:=.type "list",data:=.seq ([]:List k_).toArray }).objs.size=none:=by
   have zf:=I5.free;rw[Wk]at zf;exact zf
  refine Pk _ _ mC H' s' (I3.Zl (ch:=fp) (s':=s') (by have z:=I5.os;subst GZ;exact z) u hok I5.bare (λb hb=>?_) (by have z:=I5.up;subst GZ;exact p_ I3.up z)) (I3.xV (j_ _) hC) hnC q;obtain⟨⟨_,f1,_,f3',f4,f5⟩,_⟩:=f3 b hb;exact⟨f3',f1,f4,f5⟩
 have loop:∀s3:n_,Inv X' [] (sQ σ) (upd H2 s2.heap.objs.size (.lst [])) s3->tn 0 s3.heap →
   codeAny (model X.prog X.w) X.A (.compLoop (.ListComp elt [⟨tg,iter,ifs,0⟩] scope pos) 0 (.ref it) (.ref s2.heap.objs.size) X'.env) R s3:=by
  intro s3 J3 t3;refine codeAny_loop Y (λn s'=>nN λi ys H'=>Inv X' [] (sQ σ) H' s'/\tn i s'.heap/\(∀b∈fp,H' b=none)/\W i n ys H') ?_ m0 ⟨0,[],_,J3,t3,λb hb=>(f3 b hb).1.1,w0⟩;rintro n s4 ⟨i,ys,H4,J4,t4,n4,w4⟩;show C_ _ _ ((compTurn (.ListComp elt [⟨tg,iter,ifs,0⟩] scope pos) 0 (.ref it) (.ref s2.heap.objs.size) X'.env).onRaise (λx=>do noteFrame x X'.env;theTreesLotGoes x)) _ _ s4;refine wpAny_noted ?_;rw[compTurn_list];refine f_ (wpAny_standAt (f_ ?_));rcases turn i n ys H4 w4 with⟨stop,q⟩|⟨go,step⟩
  ·have z:=T.done X' hp1 hp2 hp3 S3 i [] s4 (sQ σ) H4 (notedBy (model X.prog X.w) X.A X'.env λe s'=>R (.error e) s') J4 (stat n4) t4 stop;rw[Wl]at z;refine qaK z (λr s5 ⟨hr,J5⟩=>?_) λ_ _ x=>x;subst hr;exact q_ (fin J5 q)
  ·have z:=T.item X' hp1 hp2 hp3 S3 i [] s4 (sQ σ) H4 (notedBy (model X.prog X.w) X.A X'.env λe s'=>R (.error e) s') J4 (stat n4) t4 go;rw[Wl]at z;refine qaK z (λr s5 ⟨u,hr,h5⟩=>?_) λ_ _ x=>x;subst hr;refine f_ (qaK h5 (λ_ s6 ⟨x,H6,J6,r6,y6,t6,n6⟩=>?_) λ_ _ x=>x);have J6':=J6.pinned (stat n6) (T.obj _ _ t6);have zg:=PG' _ s6 (sQ σ) H6 x u _ J6' r6 (step x H6 y6);rw[hp1,hp2,Wl,Vw]at zg;refine f_ (qaK zg (λ_ s7 ⟨Ih,H7,J7,k7,q7⟩=>?_) λ_ _ x=>x);have zt:=PT' _ s7 Ih H7 _ J7 q7;rw[hp1,hp2,Wl,Vw]at zt;refine f_ (qaK zt (λok s7b h7b=>?_) λ_ _ x=>x);obtain⟨H7b,Zy,q7b⟩:=h7b
   cases ok with
   |false =>
    obtain⟨m',hm,w8⟩:=Yq q7b;refine q_ ⟨Y,m',hm,i+1,ys,_,?_,?_,?_,w8⟩
    ·refine Zy.Si.weak ?_ ?_
     ·rw[S.len,Zy.len];subst GZ;rfl
     ·exact k7
    ·exact T.keep _ _ _ t6 λb hb o e=>(Zy.pin (b,o) (T_ _ (T_ _ (oj hb e)))).1
    ·intro b hb;obtain⟨o,e,d⟩:=T.obj _ _ t6 b hb;exact(Zy.pin (b,o) (T_ _ (T_ _ (oj hb e)))).2.1
   |true =>
    have ze:=PE' _ s7b Ih H7b _ Zy (Yp q7b);rw[hp1,hp2,Wl,Vw]at ze;refine f_ (f_ (qaK ze (λyv s8 h8=>?_) λ_ _ x=>x));obtain⟨y,H8,J8,r8,e8,z8,m',hm,w8⟩:=h8;have za:=cO (X:=X') _ s8 Ih H8 (.ref s2.heap.objs.size) [y] (.ref s2.heap.objs.size) [yv] (λ_ H9=>H9=upd H8 s2.heap.objs.size (.lst (ys++[y]))) J8 rfl (.cons r8 .nil) ⟨_,ys,y,rfl,rfl,e8,z8,rfl⟩;rw[hp1,hp2,Wl,Vw]at za;refine f_ (qaK za (λ_ s9 h9=>?_) λ_ _ x=>x);obtain⟨_,H9,J9,_,e9⟩:=h9;subst e9;refine q_ (q_ ⟨Y,m',hm,i+1,ys++[y],_,?_,?_,?_,w8⟩)
    ·refine J9.Si.weak ?_ ?_
     ·rw[S.len,J9.len];subst GZ;rfl
     ·exact k7
    ·exact T.keep _ _ _ t6 λb hb o e=>(J9.pin (b,o) (T_ _ (T_ _ (oj hb e)))).1
    ·intro b hb;obtain⟨o,e,d⟩:=T.obj _ _ t6 b hb;exact(J9.pin (b,o) (T_ _ (T_ _ (oj hb e)))).2.1
 have l0:=loop _ I4 st3;have l1:=codeAny_compStart_list l0 (T.self X.A 0 _ _ _ st3 l0);rw[Wk]at l1;subst hR;exact l1
theorem DB{X:Cx}{elt tg iter:Expr}{scope:qbn}{pos pos':qbO}{wi:TI}{g:TG}{te:TE}{N:List v_}{sQ:St->St}(hc:X.calm=true)(hS:X.Ok->∃cl,ee X scope cl N sQ)(hi:PI X tg iter wi)
  (hg:∀cl C s H ex pn E,PG (jT X scope cl C N s H ex pn E) tg g) (he:∀cl C s H ex pn E,PE (jT X scope cl C N s H ex pn E) elt te) (hs:∀x,foldedSetIterable iter X.env x=pure x)
  {pins:List (U×qa9)} {s:n_} {σ:St} {H:Hp} {Q:VK} {use:Option (k_->Sem Unit)} {QQ:k_->n_->Prop} (I:Inv X pins σ H s) (h:FQ wi g te sQ σ H Q)
  (Pk:∀(l C:U) (mC:v_->Option k_) (H':Hp) (s':n_),Inv X pins σ H' s'->uu X pins H' C->s'.heap.Ns C mC->Q (.ref l) H'->compPost (model X.prog X.w) X.A X.xe use QQ (.ref l) C (.ok .next) s') :
  C_ (model X.prog X.w) X.A (comprehension (.ListComp elt [⟨tg,iter,[],0⟩] scope pos) scope X.env pos' (newList []) false (eval iter X.env) use) QQ X.xe s:=by
 have e:FQ wi g te sQ=Au wi g (λ_ H Q=>Q true H) te sQ:=by unfold FQ Au;simp only[if_true]
 rw[e]at h;exact BA hc hS hi hg he (λ_ _ _ _ _ _ _ pins s σ H Q I q=>q_ ⟨H,I,q⟩) hs I h Pk
theorem tG{X:Cx}{elt tg iter:Expr}{scope:qbn}{pos:qbO}{wi:TI}{g:TG}{te:TE}{N:List v_}{sQ:St->St}(hc:X.calm=true)(hS:X.Ok->∃cl,ee X scope cl N sQ)(hi:PI X tg iter wi)
  (hg:∀cl C s H ex pn E,PG (jT X scope cl C N s H ex pn E) tg g) (he:∀cl C s H ex pn E,PE (jT X scope cl C N s H ex pn E) elt te)
  (hs:∀x,foldedSetIterable iter X.env x=pure x:=by intro _;rfl):PE X (.ListComp elt [⟨tg,iter,[],0⟩] scope pos) (FQ wi g te sQ):=by
 intro pins s σ H Q I h;rw[eval_ListComp];refine DB (use:=none) (QQ:=EP X pins σ Q) hc hS hi hg he hs I h ?_;intro l C mC H' s' I' fp hn q;exact⟨mC,hn,λh' sb=>⟨.ref l,H',I'.moved (ch:=[C]) (t':=s'.toks) (λb o hb e=>(sb.2 b (by simpa using hb)).trans e) (λb hb=>by rw[x_.mp hb];exact fp),Y,q⟩⟩
theorem wF{X:Cx}{i:Nat}{y:v_}{py spos:qbO}{elt tg iter:Expr}{scope:qbn}{pos:qbO}{wi:TI}{g:TG}{te:TE}{N:List v_}{sQ:St->St}(hN:X.N.Nodup)(hi:X.N[i]? =some y)(hx:Loc X.env.scope y)
  (hc:X.calm=true) (hS:X.Ok->∃cl,ee X scope cl N sQ) (hit:PI X tg iter wi)
  (hg:∀cl C s H ex pn E,PG (jT X scope cl C N s H ex pn E) tg g) (he:∀cl C s H ex pn E,PE (jT X scope cl C N s H ex pn E) elt te)
  (hsw:swapsWith (.ListComp elt [⟨tg,iter,[],0⟩] scope pos) (some (.Name y py)) spos.line X.env=pure true:=by rfl)
  (hf:X.fn y=true\/X.env.scope.names.lookup y=some .local:=by first|exact .inl rfl|exact .inr rfl|assumption)
  (hs:∀x,foldedSetIterable iter X.env x=pure x:=by intro _;rfl):PS X (.Assign [.Name y py] (.ListComp elt [⟨tg,iter,[],0⟩] scope pos) spos) (UB (FQ wi g te sQ) (Px i)):=by
 intro pins s σ H D I h;rw[exec_Assign_Name_used _ _ _ _ hsw];refine f_ (wpAny_standAt (f_ ?_))
 show C_ _ X.A (do let _ ←comprehension (.ListComp elt [⟨tg,iter,[],0⟩] scope pos) scope X.env _ (newList []) false (eval iter X.env) (some (assign (.Name y py) X.env))) _ _ s
 refine f_ (qaK (DB (use:=some (assign (.Name y py) X.env)) (QQ:=λ_ s'=>SP X pins D .next s') hc hS hit hg he hs I h ?_) (λ_ s' hq=>q_ (q_ hq)) λ_ _ e=>e);intro l C mC H' s' I' fp hn q;show C_ _ X.A (assign (.Name y py) X.env (.ref l)) _ _ _;refine wpAny_assign_Name (Dc I' hN hi hx (v:=.ref l) Y (λs2 I2 sb=>?_) hf);obtain⟨a,sb,ha⟩:=sb;have nC:C≠a:=by
  obtain⟨_,f1,_,_,f4,_⟩:=fp;rcases ha with z|z
  ·rw[z];exact f1
  ·exact λe=>f4 y a z e.symm
 refine⟨mC,hn.sameBut sb nC,λh' sb2=>?_⟩;refine⟨_,H',I2.moved (ch:=[C]) (t':=s2.toks) (λb o hb e=>(sb2.2 b (by simpa using hb)).trans e) (λb hb=>?_),q⟩;rw[x_.mp hb];exact fp
end
section
theorem RH{X:Cx}{K':PySem.W.Frag}(hK:X.K=K'):Zz X (Xl K'):=by subst hK;exact aJ
end
end L2
namespace GP
open PySem L2 rF
section
theorem Wo.av{t q:U}{H:Hp}{o:HO}(n:q≠t):Wo t (L2.upd H q o)=L2.upd (Wo t H) q o:=by
 funext b;by_cases e:b=q
 ·subst e;rw[L2.ai];unfold Wo;rw[if_neg n,L2.ai]
 ·rw[L2.av e];unfold Wo;split
  ·rfl
  ·rw[L2.av e]
theorem Wo.step{t:U}{H H':Hp}{o:HO}(e:ak (L2.upd H t o) H'):ak (Wo t H) (Wo t H'):=by
 have z:=Wo.same (t:=t) e;rw[Wo.set]at z;exact z
theorem Wo.back{t r:U}{H H':Hp}{o:HO}(e:ak (Wo t H) (Wo t H'))(ht:H' t=some o)(h:H' r=none):H r=none:=by
 cases q:H r with
 |none=>rfl
 |some u =>
  have n:r≠t:=λz=>by rw[z,ht]at h;cases h
  have z:=Wo.sub _ _ (e r u (Wo.in n q));rw[h]at z;cases z
theorem Paired.Xe{α β:Type}{F:α->β->Prop}{x:α}{y:β}:∀{l₁:List α} {l₂:List β} (j:Nat),Paired F l₁ l₂->F x y->Paired F (l₁.set j x) (l₂.set j y)
 |_,_,_,.nil,_=>.nil
 |_,_,0,.cons r t,h=>.cons h t
 |_,_,j+1,.cons r t,h=>.cons r (Paired.Xe j t h)
theorem yb.put{K:PySem.W.Frag}{H:Hp}{l r p:U}{rs ps:List U}{rows:List (List cJ)}{row:List cJ}{i j:Nat}{f:cJ}(h:yb K H l rs rows)(hr:rs[i]? =some r)(Vs:rows[i]? =some row)
  (hps:H r=some (.lst (ps.map V.ref))) (hp:Paired (k8 K H) ps row) (hf:k8 K H p f):yb K (L2.upd H r (.lst ((ps.map V.ref).set j (.ref p)))) l rs (rows.set i (row.set j f)):=by
 have Z4:l≠r:=λz=>h.nl (z▸A_ hr);refine⟨by rw[qbY];exact h.len,by rw[L2.av Z4];exact h.at_,h.nd,h.nl,λi' r' UP h1 h2=>?_⟩;have hi:i<rows.length:=(o_.mp Vs).1;by_cases e:i=i'
 ·subst e;rw[hr]at h1;cases h1;rw[qcD,if_pos rfl,if_pos hi]at h2;cases h2;refine⟨ps.set j p,by rw[L2.ai,List.map_set],?_⟩;exact Paired.ji (Paired.Xe j hp hf) λ_ _ z=>bZ.off hps z
 ·rw[qcD,if_neg e]at h2;obtain⟨ps',a,b⟩:=h.row i' r' UP h1 h2;have n:r'≠r:=λz=>by
   subst z;exact e ((List.getElem?_inj (o_.mp hr).1 h.nd).mp (hr.trans h1.symm))
  exact⟨ps',by rw[L2.av n];exact a,Paired.ji b λ_ _ z=>bZ.off hps z⟩
theorem yb.snoc{K:PySem.W.Frag}{H H':Hp}{l r:U}{rs ps:List U}{rows:List (List cJ)}{row:List cJ}(h:yb K H l rs rows)(e:ak H H')(hr:H r=none)(hps:H' r=some (.lst (ps.map V.ref)))(hp:Paired (k8 K H') ps row):
  yb K (L2.upd H' l (.lst (rs.map V.ref++[.ref r]))) l (rs++[r]) (rows++[row]):=by
 have hl':=e _ _ h.at_;have Z4:r≠l:=λz=>by rw[z,h.at_]at hr;cases hr
 have nin:r∉rs:=λz=>by
  obtain⟨i,hi,ei⟩:=qa7 z;have hi2:i<rows.length:=by rw[←h.len];exact hi
  obtain⟨ps',a,_⟩:=h.row i r rows[i] (by rw[g_ hi,ei]) (g_ hi2);rw[hr]at a;cases a
 refine⟨by rw[G_,G_,h.len];rfl,by rw[L2.ai,M_];rfl,?_,?_,λi r' UP h1 h2=>?_⟩
 ·refine qb8.mpr ⟨h.nd,(by simp),λx hx y hy z=>?_⟩;rw[x_.mp hy]at z;exact nin (z▸hx)
 ·intro z;rcases V_.mp z with z|z
  ·exact h.nl z
  ·exact Z4 (x_.mp z).symm
 ·by_cases q:i<rs.length
  ·rw[qaX q]at h1;rw[qaX (by rw[←h.len];exact q)]at h2;obtain⟨ps',a,b⟩:=h.row i r' UP h1 h2;have n:r'≠l:=λz=>h.nl (z▸A_ h1);exact⟨ps',by rw[L2.av n];exact e _ _ a,Paired.ji b λ_ _ z=>bZ.off hl' (z.same e)⟩
  ·have q':rs.length<=i:=qcH q;rw[qaG q']at h1;rw[qaG (by rw[←h.len];exact q')]at h2;have z:i-rs.length=0:=by
    have:=(o_.mp h1).1;simp at this;omega
   rw[z]at h1;rw[←h.len,z]at h2;cases h1;cases h2;exact⟨ps,by rw[L2.av Z4];exact hps,Paired.ji hp λ_ _ z=>bZ.off hl' z⟩
end
section
section
variable{K:PySem.W.Frag}{C:U}{H0 H H':Hp}{t l x o m:U}{rs:List U}{sg:v_}{rows:List (List cJ)}{fo fm:cJ}{k:Int}
end
end
end GP
namespace L2
open PySem PySem.Spec PyProof.Rows
def KDict(P:r_)(w:I_)(K:PySem.W.Frag)(a:U)(kvs:List (Key×V)):Prop:=(a==sysModules)=false/\∃vs,KV kvs vs/\∀h:W_,K.In h->h.DictOf (bR P w) a vs
noncomputable def adU(w:I_)(x:v_×qcN×k_):qcP:=⟨hashStr w x.1,.str x.1 x.2.1,x.2.2⟩
theorem KDict.mk {P:r_}{w:I_}{K:PySem.W.Frag}{a:U}{ep:Nat}{es:Array qcP}(ys:List (v_×qcN×k_)){vs:List V}(hk:K.lookup a=some { cls:=.type "dict",data:=.dict es ep })
  (he:es.toList=ys.map (adU w)) (hn:(ys.map (·.1)).Nodup) (hv:Vals vs (ys.map (·.2.2))) (hs:(a==sysModules)=false):KDict P w K a ((ys.map (·.1)).zipWith (λx v=>(Sum.inr x,v)) vs):=by
 refine⟨hs,ys.map λy=>(Sum.inr y.1,y.2.2),?_,λh X=>⟨_,es,ep,X a _ hk,⟨Y,Y,Y⟩,Y,?_,?_,?_⟩⟩
 ·clear hk he hn
  induction ys generalizing vs with
  |nil=>cases hv;exact .nil
  |cons y ys ih =>
   cases hv with
   |cons r t=>exact .cons ⟨Y,r⟩ (ih t)
 ·intro e hm;rw[←Array.mem_toList_iff,he]at hm;obtain⟨y,_,rfl⟩:=U_.mp hm;exact⟨Sum.inr y.1,pI P w _ _,Y⟩
 ·rw[he];clear hk he hn hv
  induction ys with
  |nil=>exact .nil
  |cons y ys ih=>exact .cons (pI P w _ _) Y ih
 ·rw[qaL];have e:((λx:Key×k_=>x.1) ∘ λy:v_×qcN×k_=>((Sum.inr y.1:Key),y.2.2))=(λx:v_=>(Sum.inr x:Key)) ∘ (·.1):=rfl;rw[e,←qaL];exact List.Pairwise.map _ (λa b h z=>h (Sum.inr.inj z)) hn
section
variable{X:Cx}
theorem Gw:wc X (compareOp .NotIn) (λx y H Q=>nN λa kvs k=>y= .ref a/\x=kV k/\KDict X.prog X.w X.K a kvs/\Q (.bl (!(jK kvs k).isSome)) H):=by
 intro pins s σ H x y v u Q I rx ry h;obtain⟨a,kvs,k,rfl,rfl,⟨hs,vs,rel,dd⟩,q⟩:=h;cases ry;refine wpAny_notIn_of (Bm rx) hs (dd _ I.yI).mapOf ?_;rw[←(rel.val k).sD];exact⟨.bl _,H,I.tok _,Y,q⟩
def WY(P:r_)(w:I_)(K:PySem.W.Frag)(td ty:TE):TE:=λσ H Q=>td σ H λx H1=>ty σ H1 λy H2=>wY λa kvs k v=>x= .ref a/\y=kV k/\KDict P w K a kvs/\jK kvs k=some v/\Q v H2
theorem Rc{o i:Expr}{pos:qbO}{td ty:TE}(ho:PE X o td)(hi:PE X i ty)(hs:Sd i):PE X (.Subscript o i pos) (WY X.prog X.w X.K td ty):=by
 intro pins s σ H Q I h;refine xg PySem.F.slot_dict_getitem.lookup hs (fR (ho pins s σ H _ I h) λu s1 ⟨x,H1,I1,rx,q1⟩=>fR (hi pins s1 σ H1 _ I1 q1) λiv s2 ⟨y,H2,I2,ry,a,kvs,k,v,ex,ey,⟨hd,vs,rel,dd⟩,l,q2⟩=>?_);subst ex ey;obtain rfl:u=Value.ref a:=rx;obtain⟨w',hw,rw'⟩:=uq.some_of (v:=v) (o:=valueAt vs k) (by rw[←l];exact rel.val k);have d2:=dd _ I2.yI;exact⟨d2.typeIs,wpAny_getItem_of (Bm ry) d2.mapOf hw ⟨v,H2,I2.tok _,rw',q2⟩⟩
end
end L2
namespace GP
open PySem L2 rF
section
def TupAt(H:Hp)(q:U)(f:cJ):Prop:=H q=some (.tup [.int f.1,.int f.2])
theorem TupAt.same{H H':Hp}{q:U}{f:cJ}(e:ak H H')(h:TupAt H q f):TupAt H' q f:=e _ _ h
theorem TupAt.fr{K:PySem.W.Frag}{H:Hp}{q:U}{f:cJ}(h:TupAt H q f):k8 K H q f:=bZ.of h
theorem TupAt.off{H:Hp}{q l:U}{f:cJ}{ys:List V}{o:HO}(hl:H l=some (.lst ys))(h:TupAt H q f):TupAt (L2.upd H l o) q f:=by
 have n:q≠l:=uc h hl (by intro z;cases z);show L2.upd H l o q=_;rw[L2.av n];exact h
def Xx(c:Nat):Prop:=c=112\/c=97\/c=98
noncomputable def stp(q:cJ)(c:Nat):cJ:=(q.1+(if c=98 then 0 else 1),q.2+(if c=97 then 0 else 1))
noncomputable def Cd(q:cJ)(cs:List Nat)(k:Nat):cJ:=(cs.take k).foldl stp q
theorem AK{q:cJ}{cs:List Nat}{k c:Nat}(h:cs[k]? =some c):Cd q cs (k+1)=stp (Cd q cs k) c:=by
 unfold Cd;rw[take_snoc h,qb6];rfl
def InR(f s:v_)(q:cJ):Prop:=0<=q.1/\q.1<=(f.cps.size:Int)/\0<=q.2/\q.2<=(s.cps.size:Int)
structure Way(f s:v_)(b:cJ)(mv:v_):Prop where
 fs:f.cps.size<=1000
 ss:s.cps.size<=1000
 ms:mv.cps.size<=2000
 ok:∀c∈mv.cps.toList,Xx c
 Z8:∀k,k<=mv.cps.size->InR f s (Cd b mv.cps.toList k)
def Of(sg x:v_):Prop:=∀c∈x.cps.toList,c∈sg.cps.toList
theorem PR{x:v_}{i c:Nat}(h:x.cps[i]? =some c):i<x.cps.size:=by
 rw[←qal]at h;have:=(o_.mp h).1;simpa using this
theorem pe{x:v_}{i c:Nat}(h:x.cps[i]? =some c):c∈x.cps.toList:=by
 rw[←qal]at h;exact A_ h
theorem dw{x:v_}{i c:Nat}(h:x.cps[i]? =some c):x.cps.toList[i]? =some c:=by
 rw[qal];exact h
theorem uR{x:v_}{i:Nat}(h:i<x.cps.size):∃c,x.cps[i]? =some c:=⟨x.cps[i],by simp[h]⟩
noncomputable def L4(sg:v_)(rows:List (List cJ))(u:Int)(a b:Nat):Int :=
 match (rows[sg.cps.toList.idxOf a]?).bind (·[sg.cps.toList.idxOf b]?)with
 |some f=>f.1*(u / f.2)
 |none=>0
theorem Eh{sg:v_}{rows:List (List cJ)}{u:Int}{a b:Nat}(sq:Qh sg.cps.size rows)(ha:a∈sg.cps.toList)(hb:b∈sg.cps.toList):
  nN λi j f=>sg.cps[i]? =some a/\sg.cps[j]? =some b/\QH rows i j f/\L4 sg rows u a b=f.1*(u / f.2):=by
 have hi:=List.idxOf_lt_length_iff.mpr ha;have hj:=List.idxOf_lt_length_iff.mpr hb;have ei:sg.cps.toList[sg.cps.toList.idxOf a]? =some a:=by rw[g_ hi,List.getElem_idxOf hi]
 have ej:sg.cps.toList[sg.cps.toList.idxOf b]? =some b:=by rw[g_ hj,List.getElem_idxOf hj]
 have hi':sg.cps.toList.idxOf a<rows.length:=by rw[sq.1];simpa using hi
 have hj':sg.cps.toList.idxOf b<(rows[sg.cps.toList.idxOf a]).length:=by rw[sq.2 _ (qaH hi')];simpa using hj
 refine⟨_,_,(rows[sg.cps.toList.idxOf a])[sg.cps.toList.idxOf b],by rw[←qal];exact ei,by rw[←qal];exact ej,⟨_,g_ hi',g_ hj'⟩,?_⟩;unfold L4;rw[g_ hi']
 show(match (rows[sg.cps.toList.idxOf a])[sg.cps.toList.idxOf b]? with|some f=>f.1*(u / f.2)|none=>0)=_
 rw[g_ hj']
noncomputable def SM(pc:Nat->Nat->Int)(op mo:Int)(f s:v_)(b:cJ)(cs:List Nat)(i:Nat):Int :=
 match cs[i]? with
 |some c=>if c=112 then pc (f.cps.toList.getD (Cd b cs i).1.toNat 0) (s.cps.toList.getD (Cd b cs i).2.toNat 0)else if i≠0/\cs[i-1]? =some c then mo else op+mo
 |none=>0
noncomputable def cst(pc:Nat->Nat->Int)(op mo:Int)(f s:v_)(b:cJ)(cs:List Nat):Nat->Int
 | 0=>0
 |k+1=>cst pc op mo f s b cs k+SM pc op mo f s b cs k
noncomputable def cL(u:Int)(f:cJ):Int:=f.1*(u / f.2)
noncomputable def MP(sg:v_)(rows:List (List cJ))(fo fm:cJ)(f s:v_)(b:cJ)(mv:v_)(k:Nat):Int :=
 cst (L4 sg rows (bq fo.2 fm.2 rows)) (cL (bq fo.2 fm.2 rows) fo) (cL (bq fo.2 fm.2 rows) fm) f s b mv.cps.toList k
def xu:Sp:=λvs H Q _=>wY λ(sg:v_) (l:U) (a b:v_)=>vs=[.str sg,.ref l]/\H l=some (.lst [.str a,.str b])/\Of sg a/\Of sg b/\∀H',ak H H'->Q .jG H'
def qU(K:PySem.W.Frag)(C:U):Sp:=λvs H Q _=>Xe8 λ(x l:U) (sg:v_) (rows:List (List cJ)) (fo fm:cJ) (a b:v_)=>vs=[.ref x,.ref l]/\ql K C H x sg rows fo fm/\H l=some (.lst [.str a,.str b])/\Of sg a/\Of sg b/\∀H',ak H H'->Q .jG H'
def xr(K:PySem.W.Frag):Sp:=λvs H Q _=>wY λ(f s:v_) (q:U) (ij:cJ)=>vs=[.str f,.str s,.ref q]/\k8 K H q ij/\InR f s ij/\f.cps.size<=1000/\s.cps.size<=1000/\Q .jG H
def Ge(K:PySem.W.Frag):Sp:=λvs H Q _=>nN λ(q:U) (c:Nat) (ij:cJ)=>vs=[.ref q,.str ⟨#[c]⟩]/\k8 K H q ij/\Xx c/\∀r,H r=none->Q (.ref r) (L2.upd H r (.tup [.int (stp ij c).1,.int (stp ij c).2]))
def F6(K:PySem.W.Frag):Sp:=λvs H Q _=>BG λ(f s:v_) (b:U) (ij:cJ) (mv:v_)=>vs=[.str f,.str s,.ref b,.str mv]/\k8 K H b ij/\Way f s ij mv ∧
 ∀l H' (qs:List U),ak H H'->H' l=some (.lst (qs.map V.ref))->qs.length=mv.cps.size+1->(∀(k:Nat) q,qs[k]? =some q->TupAt H' q (Cd ij mv.cps.toList k))->Q (.ref l) H'
def z9(K:PySem.W.Frag)(C:U):Sp:=λvs H Q _=>R7 λ(x:U) (sg:v_) (rows:List (List cJ)) (fo fm:cJ) (a b:v_)=>vs=[.ref x,.str a,.str b]/\ql K C H x sg rows fo fm ∧
 Q (.int (if a=b then cL (bq fo.2 fm.2 rows) fm else cL (bq fo.2 fm.2 rows) fo+cL (bq fo.2 fm.2 rows) fm)) H
def Ga(K:PySem.W.Frag)(C:U):Sp:=λvs H Q _=>HA λ(x:U) (sg:v_) (rows:List (List cJ)) (fo fm:cJ) (f s:v_) (b:U) (ij:cJ) (mv:v_)=>vs=[.ref x,.str f,.str s,.ref b,.str mv]/\ql K C H x sg rows fo fm/\Of sg f/\Of sg s/\k8 K H b ij/\Way f s ij mv ∧
 ∀q H',ak H H'->TupAt H' q (nF (MP sg rows fo fm f s ij mv mv.cps.size,bq fo.2 fm.2 rows))->Q (.ref q) H'
theorem RZ(mv:v_)(i c:Nat)(hi:i<mv.cps.size){a b:Int}:(if i≠0/\mv.cps.toList[i-1]? =some c then a else b)=(if(⟨#[c]⟩:v_)=(if i=0 then h_ "" else⟨#[mv.cps.toList.getD (i-1) 0]⟩)then a else b):=by
 by_cases h0:i=0
 ·rw[if_neg (λz=>z.1 h0),if_pos h0,if_neg];intro z;have z2: #[c]= #[]:=congrArg qcO z;simp at z2
 ·rw[if_neg h0];have hl:i-1<mv.cps.toList.length:=by rw[N_];omega
  by_cases e:mv.cps.toList[i-1]? =some c
  ·rw[if_pos ⟨h0,e⟩,u_,e];exact(if_pos Y).symm
  ·rw[if_neg (λz=>e z.2),if_neg];intro z;have z2: #[c]= #[mv.cps.toList.getD (i-1) 0]:=congrArg qcO z;have z3:c=mv.cps.toList.getD (i-1) 0:=by simpa using z2
   rw[u_,g_ hl]at z3;exact e (by rw[g_ hl,z3];rfl)
end
section
theorem bZ.wo{K:PySem.W.Frag}{H:Hp}{t a:U}{ys xs:List V}(ht:H t=some (.lst ys))(h:bZ K H a xs):bZ K (Wo t H) a xs:=by
 rcases h with(h|⟨u,h⟩)|h
 ·exact .inl (.inl (Wo.in (uc h ht (by intro z;cases z)) h))
 ·exact .inl (.inr ⟨u,Wo.in (uc h ht (by intro z;cases z)) h⟩)
 ·exact .inr h
theorem ql.wo{K:PySem.W.Frag}{C:U}{H:Hp}{t x:U}{ys:List V}{sg:v_}{rows:List (List cJ)}{fo fm:cJ}(ht:H t=some (.lst ys))(nf:Qk H x t)(h:ql K C H x sg rows fo fm):ql K C (Wo t H) x sg rows fo fm:=by
 obtain⟨a,b,c,d,f,g,i,dx,P,o,m,dd,kvs,h1,⟨qs,h2,h2'⟩,h3,h4,h5,h6,fs,h7,h8,h9⟩:=h;have n:dd.2≠t:=λz=>nf _ _ _ h1 (by rw[tN,z]);refine⟨a,b,c,d,f,g,i,dx,P,o,m,dd,kvs,Wo.in (uc h1 ht (by intro z;cases z)) h1,⟨qs,bZ.wo ht h2,Paired.ji h2' λq r z=>?_⟩,bZ.wo ht h3,bZ.wo ht h4,Wo.in (uc h5 ht (by intro z;cases z)) h5,h6,fs,h7,h8,Wo.in n h9⟩;obtain⟨ps,z1,z2⟩:=z;exact⟨ps,bZ.wo ht z1,Paired.ji z2 λ_ _ y=>bZ.wo ht y⟩
end
end GP
namespace L2
open PySem PySem.Spec PyProof.Rows
section
section
variable{M:Model}{A:qab}{E:k_->n_->Prop}{s:n_}{base:W_}{env e0:Env}{r:List Env}{L ea:U}{φ:U->Prop}{cls:k_}{od:Option U}
end
end
section
section
variable{X:Cx}{pins:List (U×qa9)}{σ:St}{H H':Hp}{s:n_}
end
section
variable{P:r_}{w:I_}{K:PySem.W.Frag}{mg:v_->Option k_}{base:W_}
end
end
section
section
variable{X:Cx}{pins ps:List (U×qa9)}{σ:St}{H:Hp}{s:n_}{xe:k_->n_->Prop}
end
section
variable{X:Cx}{pins:List (U×qa9)}{σ:St}{H:Hp}{s:n_}{ea:U}
end
section
variable{X:Cx}{k:Nat}{f C:U}{fd:F_}{ps:List v_}{sp:Sp}{Ig:List V}{ds:List k_}{E:St->XK}{x:v_}{p pos:qbO}{e:Expr}{es:List Expr}{t:TA}
end
end
section
end
section
section
variable{X:Cx}
end
end
section
end
end L2
namespace GP
open PySem L2 rF
end GP
namespace L2
open PySem PySem.Spec PyProof.Rows
theorem pP{X:Cx}:SlR X (λx lo hi H Q=>∃y,x= .str y/\y.length<=D_/\Q (.str (Txt.slice y lo hi)) H):=by
 intro pins s σ H x v vl vu lo hi sl Q I rx hs pl pu h;obtain⟨y,rfl,hz,q⟩:=h;obtain⟨t,rfl⟩:=rx;refine⟨"str",_,PySem.F.slot_str_getitem.lookup,typeIs_str _ _ _,?_⟩;have fin:(Txt.slice y lo hi).length<=D_/\∀t' k,s.toks<=k->EP X pins σ Q (.str (Txt.slice y lo hi) t') { s with toks:=k }:=⟨p_ (Txt.slice_le y _ _) hz,λt' k hk=>⟨.str (Txt.slice y lo hi),H,I.tok k hk,⟨_,rfl⟩,q⟩⟩;refine TK.bX (j_ s.toks) ?_
 cases pl with
 |none =>
  cases pu with
  |none=>exact qbK (l:=none) (u:=none) (st:=none) hs Y (post_val_or_str fin)
  |int j u=>exact qbK (l:=none) (u:=some (j,u)) (st:=none) hs Y (post_val_or_str fin)
 |int i u =>
  cases pu with
  |none=>exact qbK (l:=some (i,u)) (u:=none) (st:=none) hs Y (post_val_or_str fin)
  |int j u'=>exact qbK (l:=some (i,u)) (u:=some (j,u')) (st:=none) hs Y (post_val_or_str fin)
theorem Df{x:v_}{lo hi:Option Int}{c:Nat}(h:c∈(Txt.slice x lo hi).cps.toList):c∈x.cps.toList:=by
 unfold Txt.slice at h;split at h
 ·exact h
 ·have h':c∈(PySem.Builtin.Str.strSliceIndices lo hi 1 x.length).filterMap (x.cps[·]?):=by simpa using h
  obtain⟨i,_,e⟩:=qbR.mp h';rw[←qal]at e;exact A_ e
end L2
namespace GP
open PySem L2 rF
end GP
namespace L2
open PySem PySem.Spec PyProof.Rows
section
section
variable{prog:r_}{w:I_}{A:qab}{E:k_->n_->Prop}{h:W_}{gs:Array GenState}{dr:Drawn}{tk:Nat}{os:OsState}
variable{nm qn:v_}{C N:U}{bs tl bmB bmN:List k_}{hdct:Bool}{sn:List v_}{sub:List k_}{ab:Bool}{col:Option Bool}{dd:Option U}{k0 k1 k2 k3 k5:Option k_}{B Bn newId nid initId inN:String}
end
end
section
section
variable{P:r_}{w:I_}{H:Hp}{h:W_}
end
section
variable{X:Cx}{pins:List (U×qa9)}{σ:St}{H:Hp}{s:n_}
end
section
variable{M:Model}{A:qab}{E:k_->n_->Prop}{env:Env}
variable{nm q:v_}{C N:U}{bs bm:List k_}{hdct:Bool}{sn:List v_}{sub:List k_}{ab:Bool}{col:Option Bool}{dd:Option U}{k0 k1 k2 k3 k5:Option k_}{newId:String}
end
end
section
end
section
section
variable{prog:r_}{w:I_}{A:qab}{E:k_->n_->Prop}{s:n_}{K:PySem.W.Frag}{x dx C:U}{name:v_}{v:k_}{R:Result->n_->Prop}
end
end
section
end
section
section
variable{X:Cx}{a b c:Expr}{ta tb tc:TE}{pos:qbO}{rest:List Expr}
end
end
section
theorem JN{X:Cx}{elt tg iter test:Expr}{tt:TT}{scope:qbn}{pos pos':qbO}{wi:TI}{g:TG}{te:TE}{N:List v_}{sQ:St->St}(hc:X.calm=true)(hS:X.Ok->∃cl,ee X scope cl N sQ)(hi:PI X tg iter wi)
  (hg:∀cl C s H ex pn E,PG (jT X scope cl C N s H ex pn E) tg g) (he:∀cl C s H ex pn E,PE (jT X scope cl C N s H ex pn E) elt te) (ht:∀cl C s H ex pn E,PT (jT X scope cl C N s H ex pn E) test tt) (hs:∀x,foldedSetIterable iter X.env x=pure x)
  {pins:List (U×qa9)} {s:n_} {σ:St} {H:Hp} {Q:VK} {use:Option (k_->Sem Unit)} {QQ:k_->n_->Prop} (I:Inv X pins σ H s) (h:Au wi g tt te sQ σ H Q)
  (Pk:∀(l C:U) (mC:v_->Option k_) (H':Hp) (s':n_),Inv X pins σ H' s'->uu X pins H' C->s'.heap.Ns C mC->Q (.ref l) H'->compPost (model X.prog X.w) X.A X.xe use QQ (.ref l) C (.ok .next) s') :
  C_ (model X.prog X.w) X.A (comprehension (.ListComp elt [⟨tg,iter,[test],0⟩] scope pos) scope X.env pos' (newList []) false (eval iter X.env) use) QQ X.xe s :=
 BA hc hS hi hg he (λcl C s H ex pn E pins s' σ H' Q I q=>wpAny_tests_one (ht cl C s H ex pn E pins s' σ H' Q I q)) hs I h Pk
theorem Gu{X:Cx}{elt tg iter test:Expr}{tt:TT}{scope:qbn}{pos:qbO}{wi:TI}{g:TG}{te:TE}{N:List v_}{sQ:St->St}(hc:X.calm=true)(hS:X.Ok->∃cl,ee X scope cl N sQ)(hi:PI X tg iter wi)
  (hg:∀cl C s H ex pn E,PG (jT X scope cl C N s H ex pn E) tg g) (he:∀cl C s H ex pn E,PE (jT X scope cl C N s H ex pn E) elt te) (ht:∀cl C s H ex pn E,PT (jT X scope cl C N s H ex pn E) test tt)
  (hs:∀x,foldedSetIterable iter X.env x=pure x:=by intro _;rfl):PE X (.ListComp elt [⟨tg,iter,[test],0⟩] scope pos) (Au wi g tt te sQ):=by
 intro pins s σ H Q I h;rw[eval_ListComp];refine JN (use:=none) (QQ:=EP X pins σ Q) hc hS hi hg he ht hs I h ?_;intro l C mC H' s' I' fp hn q;exact⟨mC,hn,λh' sb=>⟨.ref l,H',I'.moved (ch:=[C]) (t':=s'.toks) (λb o hb e=>(sb.2 b (by simpa using hb)).trans e) (λb hb=>by rw[x_.mp hb];exact fp),Y,q⟩⟩
end
end L2
namespace GP
open PySem L2 rF
theorem uQ{i j:Int}:decide (V.int i=V.int j)=decide (i=j):=by
 by_cases h:i=j
 ·subst h;simp
 ·rw[decide_eq_false h,decide_eq_false (λz=>h (V.int.inj z))]
theorem ite_str{i j:v_}{A B:Prop}(h1:i=j->A)(h2:¬i=j->B):if(decide (V.str i=V.str j))=true then A else B:=by
 by_cases h:i=j
 ·rw[if_pos (by rw[h];simp)];exact h1 h
 ·rw[if_neg (by rw[decide_eq_false (λz=>h (V.str.inj z))];exact y_)];exact h2 h
noncomputable def K7:List V:=[.str (h_ "whole"),.str (h_ "within"),.str (h_ "over"),.str (h_ "stretch")]
noncomputable def rB(m:v_):Bool:=SN (.str m) K7
def vI:Sp:=λvs H Q _=>∃m:v_,vs=[.str m]/\rB m=true/\Q .jG H
noncomputable def yE(m:v_)(q:cJ):Bool :=
 if m=h_ "whole" then decide (q.1=0)&&decide (q.2=0)else if m=h_ "within" then decide (q.1=0)else if m=h_ "over" then decide (q.2=0)else true
noncomputable def Bc(m f s:v_)(q:cJ):Bool :=
 if m=h_ "whole" then decide (q.1=(f.cps.size:Int))&&decide (q.2=(s.cps.size:Int))else if m=h_ "stretch" then true else decide (q.1=(f.cps.size:Int))
def NT(K:PySem.W.Frag):Sp:=λvs H Q _=>nN λ(m:v_) (a:U) (q:cJ)=>vs=[.str m,.ref a]/\k8 K H a q/\Q (.bl (yE m q)) H
def NS(K:PySem.W.Frag):Sp:=λvs H Q _=>BG λ(m f s:v_) (a:U) (q:cJ)=>vs=[.str m,.str f,.str s,.ref a]/\k8 K H a q/\f.cps.size<=1000/\s.cps.size<=1000/\Q (.bl (Bc m f s q)) H
theorem Cw {m:v_}(h:rB m=true)(h1:¬m=h_ "whole")(h2:¬m=h_ "within")(h3:¬m=h_ "over"):m=h_ "stretch" :=by
 unfold rB K7 SN at h;simp only[qcj,List.any_nil,Bool.or_false,Bool.or_eq_true,RV]at h;rcases h with h|h|h|h
 ·exact absurd (show h_ "whole" =m by simpa using h).symm h1
 ·exact absurd (show h_ "within" =m by simpa using h).symm h2
 ·exact absurd (show h_ "over" =m by simpa using h).symm h3
 ·exact(show h_ "stretch" =m by simpa using h).symm
end GP
namespace L2
open PySem PySem.Spec PyProof.Rows
theorem IG{x y:v_}(h:x.cps=y.cps):x=y:=by
 cases x;cases y;exact congrArg Str.mk h
noncomputable def rJ(x:v_)(n:Int):v_:=⟨(qae n.toNat x.cps).foldl (·++·) #[]⟩
theorem wC(a:Array Nat):∀(n:Nat) (b:Array Nat),((qae n a).foldl (·++·) b).toList=b.toList++(qae n a.toList).flatten
 | 0,b=>by simp
 |n+1,b=>by
  rw[List.replicate_succ,qbA,wC a n,List.replicate_succ,qb7,qch,qa6]
theorem LY(x:v_)(n:Int):(rJ x n).cps.toList=(qae n.toNat x.cps.toList).flatten:=by
 unfold rJ;rw[wC];rfl
theorem Gk(x:v_)(n:Int):(rJ x n).cps.size=n.toNat*x.cps.size:=by
 rw[←N_,LY,List.length_flatten,List.map_replicate,List.sum_replicate_nat];rfl
theorem K2{X:Cx}:wc X (binaryOp .Mult) (λx y H Q=>dP λz n=>x= .str z/\y= .int n/\ -1000000<=n/\n<=1000000/\z.cps.size<=1000000/\n.toNat*z.cps.size<=D_/\Q (.str (rJ z n)) H):=by
 intro pins s σ H x y v u Q I rx ry h;obtain⟨z,n,rfl,rfl,h1,h2,h3,h4,q⟩:=h;obtain⟨t,rfl⟩:=rx;obtain⟨t',rfl⟩:=ry;have hl:z.length=z.cps.size:=rfl;refine TK.bX (j_ s.toks) (PySem.P.mul_str ?_ (λk1 _=>?_) (λ_ _=>?_) ?_)
 ·rw[decide_eq_false (by omega),decide_eq_false (by omega)];rfl
 ·have k2:1<=n:=by omega
  have:(2 ^ 63-1:Int) / n>=1000000:=by
   rw[ge_iff_le,Int.le_ediv_iff_mul_le (by omega)]
   calc 1000000*n<=1000000*1000000:=by omega
    _<=_:=by decide
  omega
 ·show decide (z.length*n.toNat>D_)=false;rw[hl,Nat.mul_comm];exact decide_eq_false (Nat.not_lt.mpr h4)
 ·have fin:∀y:v_,y=rJ z n->∀t k,s.toks<=k->EP X pins σ Q (.str y t) { s with toks:=k }:=λy e t k hk=>⟨.str (rJ z n),H,I.tok k hk,⟨t,by rw[e]⟩,q⟩;by_cases k1:n<1
  ·rw[if_pos k1];refine⟨Q_ _,fin _ ?_ _ _⟩;unfold rJ;rw[show n.toNat=0 by omega];rfl
  ·rw[if_neg k1];by_cases k2:(n==1||z.length==0)=true
   ·rw[if_pos k2];refine fin _ ?_ _ s.toks;rcases Bool.or_eq_true_iff.mp k2 with k|k
    ·have e:n=1:=by simpa using k
     subst e;show z=⟨#[]++z.cps⟩;simp
    ·have e:z.cps.size=0:=(show z.length=0 from eq_of_beq k);have e1:=Gk z n;rw[e,Nat.mul_zero]at e1;have a1:z.cps= #[]:=qbL e;have a2:(rJ z n).cps= #[]:=qbL e1;have:z.cps=(rJ z n).cps:=a1.trans a2.symm;exact IG this
   ·rw[if_neg k2];refine⟨?_,fin _ Y _ _⟩;show(rJ z n).cps.size<=D_;rw[Gk];exact h4
end L2
namespace GP
open PySem L2 rF
section
theorem AA{x:v_}{lo hi:Option Int}{a b:Nat}(e:PySem.Builtin.Str.strSliceIndices lo hi 1 x.length=PySem.Builtin.Str.strSliceIndices (some (a:Int)) (some (b:Int)) 1 x.length)(hab:a<=b)(hb:b<=x.cps.size):(Txt.slice x lo hi).cps.toList=(x.cps.toList.drop a).take (b-a):=by
 have hb':b<=x.length:=hb;have f:=StrLaws.sliced_plain x hab hb';unfold Txt.slice;rw[e];split
 ·next h =>
  have hl:(PySem.Builtin.Str.strSliceIndices (some (a:Int)) (some (b:Int)) 1 x.length).length=x.length:=by simpa using h
  rw[StrLaws.strSliceIndices_plain hab hb',l_,qax]at hl;have hl':b-a=x.cps.size:=hl;have ha:a=0:=by omega
  subst ha;rw[List.drop_zero,X_ (by rw[N_];omega)]
 ·exact f
theorem N3{x:v_}{k:Int}(h0:0<=k)(h1:k<=(x.cps.size:Int)):(Txt.slice x none (some k)).cps.toList=x.cps.toList.take k.toNat:=by
 obtain⟨n,rfl⟩:∃n:Nat,k=(n:Int):=⟨k.toNat,(qau h0).symm⟩;have e:=AA (x:=x) (lo:=none) (hi:=some (n:Int)) (a:=0) (b:=n) (by
  simp only[PySem.Builtin.Str.strSliceIndices];simp;rw[show max (0:Int) (min 0 (x.length:Int))=0 by omega]) (Q_ _) (by omega)
 rw[e,List.drop_zero];rfl
theorem N4{x:v_}{k:Int}(h0:0<=k)(h1:k<=(x.cps.size:Int)):(Txt.slice x (some k) none).cps.toList=x.cps.toList.drop k.toNat:=by
 obtain⟨n,rfl⟩:∃n:Nat,k=(n:Int):=⟨k.toNat,(qau h0).symm⟩;have e:=AA (x:=x) (lo:=some (n:Int)) (hi:=none) (a:=n) (b:=x.cps.size) (by
  have hl:x.length=x.cps.size:=rfl;simp only[PySem.Builtin.Str.strSliceIndices,hl];simp;rw[if_neg (show ¬(x.cps.size:Int)<0 by omega),show max (0:Int) (min (x.cps.size:Int) (x.cps.size:Int))=(x.cps.size:Int) by omega]) (by omega) (j_ _)
 rw[e,X_ (by rw[qba,N_];omega)];rfl
theorem xP{K:PySem.W.Frag}:PySem.W.kitOne K (.type "str") (.type "list")=some false:=by kernel_rfl
theorem vR{K:PySem.W.Frag}:PySem.W.kitOne K (.type "str") (.type "tuple")=some false:=by kernel_rfl
end
section
end
end GP
namespace L2
open PySem PySem.Spec PyProof.Rows
section
section
variable{X:Cx}{o:Expr}{to:TE}{g:v_}{c j:Nat}{u:qcN}{apos cpos p1 p2:qbO}
end
end
section
noncomputable abbrev sg(c:Nat):V:=.str ⟨#[c]⟩
theorem An:∀{cs:List Nat} {us:List k_},Vals (cs.map sg) us->∃l:List (v_×qcN),us=strValues l/\l.map (·.1)=cs.map λc=>(⟨#[c]⟩:v_)
 |[],_,.nil=>⟨[],rfl,rfl⟩
 |c::cs,_,.cons r rs=>by
  obtain⟨t,e⟩:=r;obtain⟨l,e1,e2⟩:=An rs;exact⟨(⟨#[c]⟩,t)::l,by rw[e,e1];rfl,by rw[Y_,e2];rfl⟩
theorem Dw:∀(l:List Nat) (n:Nat),(l.map λc=>(⟨#[c]⟩:v_)).foldl (λa (x:v_)=>a+x.length+(⟨#[]⟩:v_).length) n=n+l.length
 |[],_=>rfl
 |c::l,n=>by
  rw[Y_,qbA,Dw l];show n+1+0+l.length=n+(l.length+1);omega
theorem OL{X:Cx}{K':PySem.W.Frag}(hK:X.K=K'):Zw X "str.join" (λx xs H Q=>dP λ(l:U) (cs:List Nat)=>x= .str ⟨#[]⟩/\xs=[.ref l]/\bW K' H l (cs.map sg)/\cs.length<=100000/\Q (.str ⟨cs.toArray⟩) H):=by
 subst hK;intro pins s σ H x xs v us Q I rx rs h;obtain⟨l,cs,rfl,rfl,hl,hn,q⟩:=h;obtain⟨t,rfl⟩:=rx
 cases rs with
 |cons r rr =>
  cases rr;cases r;obtain⟨its,r1,t1,_⟩:=I.list hl;obtain⟨ls,e1,e2⟩:=An r1;refine TK.bX (j_ s.toks) (SC.join (l:=ls) (by rw[←e1];exact t1.isList) e2 ?_ λt' k hk=>⟨.str ⟨cs.toArray⟩,H,I.tok k hk,⟨t',?_⟩,q⟩)
  ·unfold JoinOk;rw[List.foldl_toArray,Dw];unfold Builtin.Str.tooLong;rw[Bool.not_eq_true',decide_eq_false_iff_not,Nat.zero_add];exact Nat.not_lt.mpr (p_ hn (by decide))
  ·have e:Txt.join ⟨#[]⟩ (cs.map λc=>(⟨#[c]⟩:v_))=⟨cs.toArray⟩:=by
    show Builtin.Str.glued _ _=_;rw[StrLaws.glued_eq_join,join_ones]
   rw[e]
theorem K5{X:Cx}:Zw X "str.join" (λx xs H Q=>dP λ(l:U) (cs:List Nat)=>x= .str ⟨#[]⟩/\xs=[.ref l]/\bW X.K H l (cs.map sg)/\cs.length<=100000/\Q (.str ⟨cs.toArray⟩) H):=OL rfl
end
section
theorem EJ{J:It}{g:TG}{te:TE}{σ':St}{H1:Hp}{D:Hp->Prop}{l:U}(n:Nat)(f:Nat->V)(hl:H1 l=none)(hn:n<D_)
  (go:∀i H,ak H1 H->i<n->J.go i H) (st:∀H,ak H1 H->J.stop n H)
  (el:∀i x H H3 (R:VK),ak H1 H->i<n->J.CZ i H x H3->(∀H5,ak H H5->R (f i) H5)->g x σ' H3 λCW H4=>Kp σ' CW/\te CW H4 R)
  (fin:∀H',ak H1 H'->H' l=some (.lst ((S_ n).map f))->D H') :
  ∃W:Nat->Nat->List V->Hp->Prop,(∃m,W 0 m [] (upd H1 l (.lst [])))/\∀i m ys H2,W i m ys H2->(J.stop i H2/\D H2) ∨
   (J.go i H2/\∀x H3,J.CZ i H2 x H3->g x σ' H3 λCW H4=>Kp σ' CW/\te CW H4 λy H5=>H5 l=some (.lst ys)/\ys.length<D_/\∃m',m'<m/\W (i+1) m' (ys++[y]) (upd H5 l (.lst (ys++[y])))):=by
 refine⟨λi m ys H2=>m=n-i/\i<=n/\ys=(S_ i).map f/\ak H1 H2/\H2 l=some (.lst ys),⟨n,Y,Q_ _,Y,GP.ak.upd hl,ai⟩,?_⟩;rintro i m ys H2 ⟨rfl,hi,rfl,s2,h2⟩;by_cases hlt:i<n
 ·refine .inr ⟨go i H2 s2 hlt,λx H3 y=>el i x H2 H3 _ s2 hlt y λH5 s5=>?_⟩;refine⟨s5 _ _ h2,by rw[l_,qax];omega,n-(i+1),by omega,Y,hlt,?_,GP.ak.at (s2.trans s5) hl,ai⟩;rw[qbZ,M_];rfl
 ·have e:i=n:=by omega
  subst e;exact .inl ⟨st H2 s2,fin H2 s2 h2⟩
theorem Ly{J:It}{g:TG}{tt:TT}{te:TE}{σ':St}{H1:Hp}{D:Hp->Prop}{l:U}(n:Nat)(b:Nat->Bool)(f:Nat->V)(hl:H1 l=none)(hn:n<D_)
  (go:∀i H,ak H1 H->i<n->J.go i H) (st:∀H,ak H1 H->J.stop n H)
  (el:∀i x H H3 (R:VK) (S:Hp->Prop),ak H1 H->i<n->J.CZ i H x H3->(b i=true->∀H5,ak H H5->R (f i) H5)->(b i=false->∀H5,ak H H5->S H5) →
   g x σ' H3 λCW H4=>Kp σ' CW/\tt CW H4 λb' H5=>if b'=true then te CW H5 R else S H5)
  (fin:∀H',ak H1 H'->H' l=some (.lst (((S_ n).filter b).map f))->D H') :
  ∃W:Nat->Nat->List V->Hp->Prop,(∃m,W 0 m [] (upd H1 l (.lst [])))/\∀i m ys H2,W i m ys H2->(J.stop i H2/\D H2) ∨
   (J.go i H2/\∀x H3,J.CZ i H2 x H3->g x σ' H3 λCW H4=>Kp σ' CW/\tt CW H4 λb H5 =>
    if b=true then te CW H5 (λy H6=>H6 l=some (.lst ys)/\ys.length<D_/\∃m',m'<m/\W (i+1) m' (ys++[y]) (upd H6 l (.lst (ys++[y]))))else ∃m',m'<m/\W (i+1) m' ys H5):=by
 refine⟨λi m ys H2=>m=n-i/\i<=n/\ys=((S_ i).filter b).map f/\ak H1 H2/\H2 l=some (.lst ys),⟨n,Y,Q_ _,Y,GP.ak.upd hl,ai⟩,?_⟩;rintro i m ys H2 ⟨rfl,hi,rfl,s2,h2⟩;by_cases hlt:i<n
 ·refine .inr ⟨go i H2 s2 hlt,λx H3 y=>el i x H2 H3 _ _ s2 hlt y (λhb H5 s5=>?_) λhb H5 s5=>?_⟩
  ·refine⟨s5 _ _ h2,?_,n-(i+1),by omega,Y,hlt,?_,GP.ak.at (s2.trans s5) hl,ai⟩
   ·rw[l_];exact w_ (p_ (List.length_filter_le _ _) (by rw[qax];omega)) hn
   ·rw[qbZ,qcv,M_,qaz hb];rfl
  ·refine⟨n-(i+1),by omega,Y,hlt,?_,s2.trans s5,s5 _ _ h2⟩;rw[qbZ,qcv,qaA (by rw[hb];exact y_),List.filter_nil,qaB]
 ·have e:i=n:=by omega
  subst e;exact .inl ⟨st H2 s2,fin H2 s2 h2⟩
end
section
noncomputable def ZG(K:PySem.W.Frag)(a:U)(n:Nat):It :=
 ⟨λi H=>dP λxs x=>bW K H a xs/\i<n/\xs[n-1-i]? =some x,λi H x H'=>H'=H/\∀xs,bW K H a xs->xs[n-1-i]? =some x,λi _=>n<=i⟩
theorem Nz{P:r_}{w:I_}{K:PySem.W.Frag}{tg:Expr}(a it:U)(n:Nat):Turn P w K tg (ZG K a n) [it] it (λi h=>i<=n/\h.IsRevIter it a ((n:Int)-1-(i:Int))) where
 mem:=by simp
 obj:=λi h st b hb=>by
  have e:b=it:=by simpa using hb
  subst e;obtain⟨o,e,c,d⟩:=st.2;exact⟨o,e,λv z=>by rw[d]at z;cases z⟩
 keep:=λi h h' st k=>⟨st.1,st.2.at λo e=>k it (by simp) o e⟩
 item:=by
  intro X hP hw hK hc i pins s σ H E I hf st hg;subst hP hw hK;obtain⟨xs,x,hq,hi,hx⟩:=hg;obtain⟨its,rv,p,hz⟩:=I.list hq;obtain⟨u,hu,ru⟩:=rv.get hx;obtain⟨f0,f1,f2,f3,f4,f5⟩:=hf it (by simp);have st':s.heap.IsRevIter it a ((n-1-i:Nat):Int):=by
   rw[show((n-1-i:Nat):Int)=(n:Int)-1-(i:Int) by omega];exact st.2
  refine wpAny_pyNext_rev_item st' p.isList (x:=u) (by simpa using hu) λh' st' sb=>?_;have I1:Inv X pins σ H { s with heap:=h' }:=I.turned (t':=s.toks) (λb o hb e=>(sb.2 b hb).trans e) f0 f1 f3 f4 f5;obtain⟨o,e,c,d⟩:=id st';refine⟨u,Y,Dv (s:={ s with heap:=h' }) e c d (by decide) ⟨x,H,I1,ru,⟨Y,λys hy=>by rw[I.Bj hy hq];exact hx⟩,⟨by omega,?_⟩,λb hb=>(hf b hb).1⟩⟩;rw[show(n:Int)-1-((i+1:Nat):Int)=((n-1-i:Nat):Int)-1 by omega];exact st'
 done:=by
  intro X hP hw hK hc i pins s σ H E I hf st hg;subst hP hw hK;obtain⟨f0,f1,f2,f3,f4,f5⟩:=hf it (by simp);have hg':n<=i:=hg;have st':s.heap.IsRevIter it a (-1):=by
   rw[show(-1:Int)=(n:Int)-1-(i:Int) by have:=st.1;omega];exact st.2
  exact wpAny_pyNext_rev_end (I.ok.hd hc) st' λh' eb=>⟨Y,I.turned (t':=s.toks) (λb o hb e=>eb b o hb e) f0 f1 f3 f4 f5⟩
 self:=λ_ _ _ _ _ st h=>wpAny_pyIter_revIter st.2 h
def ac1(K:PySem.W.Frag)(ta:TA):TI:=λσ H R=>ta σ H λvs H1=>dP λa xs=>vs=[.ref a]/\bW K H1 a xs/\R (ZG K a xs.length) H1
theorem boot_reversed:bootBuiltins "reversed" =some (.type "reversed"):=by decide +kernel
theorem Oo {X:Cx}{tg a:Expr}{ta:TA}{p pos:qbO}(hg:Gl X "reversed")(hm:X.mg "reversed" =none)(ha:PA X [a] ta)(hs:qaf [a] X.env=[(false,eval a X.env)]:=by rfl):PI X tg (.Call (.Name "reversed" p) [a] [] pos) (ac1 X.K ta):=by
 intro pins s σ H R I h;refine Call_ (rQ I hg hm boot_reversed (qaQ (fR (ha pos pins s σ H _ I h) λus s1 ⟨vs,H1,I1,r1,q1⟩=>?_) hs Y));obtain⟨l,xs,rfl,hq,q⟩:=q1;obtain⟨u,rfl,ru⟩:=vals1 r1;cases ru;obtain⟨its,rv,pl,hz⟩:=I1.list hq;have hl:s1.heap.IsList l its.toArray:=pl.isList;have hlen:=rv.length;refine call_reversed_list hl ?_;have e0:({ s1 with heap:=s1.heap.push (revObj l ((its.toArray.size:Int)-1)) }:n_).heap.IsRevIter s1.heap.objs.size l ((xs.length:Int)-1-((0:Nat):Int)) :=
  ⟨_,t_ _ rfl,rfl,by rw[show(xs.length:Int)-1-((0:Nat):Int)=(its.toArray.size:Int)-1 by rw[K_];omega];rfl⟩
 refine wpAny_pyIter_revIter e0 ?_;refine⟨s1.heap.objs.size,[s1.heap.objs.size],_,_,H1,Y,I1.kept (t':=s1.toks) λb o e=>m_ _ e,Nz l _ xs.length,⟨Q_ _,e0⟩,λb hb=>?_,q⟩;have e:b=s1.heap.objs.size:=by simpa using hb
 subst e;exact I1.xV (j_ _) (I1.hok.fresh (j_ _))
end
section
theorem Ln{K:PySem.W.Frag}{a:U}{xs:List V}{g:TG}{tb:TS}{D:Ends}{σ:St}{H:Hp}(Pv:Nat->St->Hp->Prop)(h0:Pv 0 σ H)(hl:∀i σ H,i<xs.length->Pv i σ H->bW K H a xs)
  (hs:∀i x σ H,i<xs.length->xs[xs.length-1-i]? =some x->Pv i σ H->g x σ H λσ2 H2=>tb { D with nx:=Pv (i+1),ct:=Pv (i+1),bk:=D.nx } σ2 H2) (hd:∀ σ H,Pv xs.length σ H->D.nx σ H) :
  ∃W:Nat->Nat->St->Hp->Prop,(∃m,W 0 m σ H)/\∀i m σ H,W i m σ H →
   ((ZG K a xs.length).stop i H/\D.nx σ H)\/((ZG K a xs.length).go i H/\∃N:St->Hp->Prop,(∀ σ' H',N σ' H'->∃m',m'<m/\W (i+1) m' σ' H')/\∀x H',(ZG K a xs.length).CZ i H x H'->g x σ H' λσ2 H2=>tb { D with nx:=N,ct:=N,bk:=D.nx } σ2 H2):=by
 refine⟨λi m σ H=>m=xs.length-i/\i<=xs.length/\Pv i σ H,⟨xs.length,by simp,Q_ _,h0⟩,?_⟩;rintro i m σ H ⟨rfl,hi,p⟩;by_cases hlt:i<xs.length
 ·have hx:xs[xs.length-1-i]? =some xs[xs.length-1-i]:=g_ (by omega);refine .inr ⟨⟨xs,_,hl i σ H hlt p,hlt,hx⟩,Pv (i+1),λσ' H' p'=>⟨xs.length-(i+1),by omega,Y,hlt,p'⟩,λx H' y=>?_⟩;obtain⟨e,y⟩:=y;subst e;exact hs i x σ _ hlt (y xs (hl i σ _ hlt p)) p
 ·have e:i=xs.length:=by omega
  subst e;exact .inl ⟨j_ _,hd σ H p⟩
end
section
noncomputable abbrev NK:=Int×Int×v_
section
variable{P:r_}{w:I_}{A:qab}{E:k_->n_->Prop}{s:n_}
def ur(P:r_)(w:I_)(h:W_)(k:NK)(a:U):Prop:=wY λo n p t=>h.get? a=some o/\o.cls= .type "tuple" /\o.data= .seq #[.ref p,.str k.2.2 t] n/\IsTupleKey (bR P w) h [.inl k.1,.inl k.2.1] p
theorem ur.typeIs{k:NK}{a:U}(x:ur P w s.heap k a):s.TypeIs (.ref a) "tuple" :=let ⟨o,_,_,_,ho,hc,_⟩:=x;⟨o,ho,hc⟩
theorem ur.inj{h:W_}{a:U}{x y:NK}(hx:ur P w h x a)(hy:ur P w h y a):x=y:=by
 obtain⟨o,n,p,t,ho,_,hd,hi⟩:=hx;obtain⟨o',n',p',t',ho',_,hd',hi'⟩:=hy;obtain rfl:o=o':=L_ (ho.symm.trans ho');rw[hd]at hd';injection hd' with h1 _;have xS:=congrArg Array.toList h1;simp only[List.cons.injEq,Value.ref.injEq,Value.str.injEq,and_true]at xS;obtain⟨rfl,e,_⟩:=xS;have:=hi.inj hi';simp only[List.cons.injEq,Sum.inl.injEq,and_true]at this;obtain⟨x1,x2,x3⟩:=x;obtain⟨y1,y2,y3⟩:=y;simp only at e this;obtain⟨rfl,rfl⟩:=this;subst e;rfl
theorem ur.keeps{h h':W_}{k:NK}{a d:U}{o:qa9}{es ep}(x:ur P w h k a)(ho:h.get? d=some o)(hd:o.data= .dict es ep)(hs:qbB d h h'):ur P w h' k a:=by
 obtain⟨o',n,p,t,ho',hc,hd',hi⟩:=x;have hne:a≠d:=by
  rintro rfl;obtain rfl:o'=o:=L_ (ho'.symm.trans ho)
  rw[hd]at hd';exact nomatch hd'
 exact⟨o',n,p,t,(hs.2 a hne).trans ho',hc,hd',hi.keeps ho hd hs⟩
noncomputable def Jo(P:r_)(w:I_)(k:NK):Int:=reduceHash (qcg [tupleKeyHash (bR P w) [.inl k.1,.inl k.2.1],(bR P w).hash (.inr k.2.2)])
theorem Mc{k:NK}{a:U}{Q:Int->n_->Prop}(hu:A.units+1<cLine)(hk:ur P w s.heap k a)(h:Q (Jo P w k) { s with toks:=s.toks+5 }):
  C_ (model P w) A (pyHash (.ref a)) Q E s:=by
 have hT:=hk.typeIs;obtain⟨o,n,p,t,ho,_,hd,hi⟩:=hk;unfold pyHash
 first|unfold pyHashByItsType|skip
 first|refine f_ (wpAny_cRoomFor_or (.inr (qb9 hu)) ?_)|skip
 refine f_ (qco hT PySem.F.slot_tuple_hash.lookup ?_)
 show C_ _ _ (if(some (Value.builtin "tuple.__hash__")==some Value.none)=true then _ else _) Q E s
 rw[if_neg (by rw[beq_builtin_none];exact y_)];refine f_ (qco hT PySem.F.slot_tuple_hash.lookup ?_);show C_ _ _ (callSpecialIfBoundUnlessNone? (.ref a) "__hash__" _ >>= _) Q E s;refine f_ (wpAny_callSpecialIfBoundUnlessNone?_slot hT PySem.F.slot_tuple_hash (qaU PySem.F.slot_tuple_hash hT PySem.F.entry_tuple_hash ?_ (PySem.F.args_tuple_hash_1 _)));show C_ _ _ (Builtin.Tuple.tupleItemsOf (.ref a) >>= _) _ _ s;refine f_ (wpAny_tupleItemsOf ho hd ?_);refine f_ ?_;rw[←Array.forIn_toList];refine qce _
  (λrest (b:Array Int) s'=>(rest=[.ref p,.str k.2.2 t]/\b= #[]/\s'=s)\/(rest=[.str k.2.2 t]/\b.toList=[tupleKeyHash (bR P w) [.inl k.1,.inl k.2.1]]/\s'={ s with toks:=s.toks+3 }) ∨
   (rest=[]/\b.toList=[tupleKeyHash (bR P w) [.inl k.1,.inl k.2.1],(bR P w).hash (.inr k.2.2)]/\s'={ s with toks:=s.toks+4 })) _ ?_ ?_ _ _ (.inl ⟨rfl,rfl,rfl⟩)
 ·rintro x rest b s' (⟨e,rfl,rfl⟩|⟨e,hb,rfl⟩|⟨e,_⟩)
  ·cases e;refine f_ (wpAny_pyHash_tuple (knd:=bR P w) (ks:=[.inl k.1,.inl k.2.1]) hu hi ?_)
   first
    |exact q_ (.inr (.inl ⟨Y,Y,Y⟩))
    |exact f_ (q_ (q_ (.inr (.inl ⟨Y,Y,Y⟩))))
  ·cases e;refine f_ ((bR P w).pyHash (k:=.inr k.2.2) (v:=.str k.2.2 t) (by show decide _=true;simp) ?_)
   first
    |exact q_ (.inr (.inr ⟨Y,by simp[hb],Y⟩))
    |exact f_ (q_ (q_ (.inr (.inr ⟨Y,by simp[hb],Y⟩))))
  ·cases e
 ·rintro b s' (⟨e,_⟩|⟨e,_⟩|⟨_,hb,rfl⟩)
  ·cases e
  ·cases e
  show C_ _ _ (retInt (qcg b.toList)) _ _ _;rw[hb];refine wpAny_ret_mkInt ?_;unfold Jo at h;generalize qcg [tupleKeyHash (bR P w) [.inl k.1,.inl k.2.1],(bR P w).hash (.inr k.2.2)]=T at *
  show C_ _ _ (if(decide (-(2:Int) ^ 63<=T)&&decide (T<2 ^ 63))=true then _ else _) Q E _
  unfold reduceHash at h;by_cases hr:(decide (-(2:Int) ^ 63<=T)&&decide (T<2 ^ 63))=true
  ·rw[if_pos hr];rw[if_pos hr]at h;exact q_ h
  ·rw[if_neg hr];rw[if_neg hr]at h;exact f_ (qcG (q_ h))
theorem Jm{x y:NK}{a b:U}{Pq:PySem.Fin->n_->Prop}(hu:A.units<cLine)(hx:ur P w s.heap x a)(hy:ur P w s.heap y b)(h:Pq (.done (.ret (.bool (decide (x=y))))) s):
  C_ (model P w) A (Builtin.«tuple.__eq__» ⟨[.ref a,.ref b],[]⟩) Pq E s:=by
 have hTb:=hy.typeIs;obtain⟨oa,na,p,t,hoa,_,hda,hia⟩:=hx;obtain⟨ob,nb,q,u,hob,_,hdb,hib⟩:=hy;obtain⟨x1,x2,x3⟩:=x;obtain⟨y1,y2,y3⟩:=y;simp only at hda hia hdb hib;show C_ _ _ (isInstance (.ref b) (.type "tuple") >>= _) _ _ s;refine f_ (qbJ hTb isSubtype_tuple_tuple ?_);simp only[qb4,qaM,if_false];refine f_ (wpAny_tupleItemsOf hoa hda ?_);refine f_ (wpAny_tupleItemsOf hob hdb ?_);refine f_ ?_;refine qce _
  (λrest r s'=>r.1=none/\s'=s/\(rest=[(.ref p,.ref q),(.str x3 t,.str y3 u)]\/(rest=[(.str x3 t,.str y3 u)]/\x1=y1/\x2=y2)\/(rest=[]/\x1=y1/\x2=y2/\x3=y3))) _ ?_ ?_ _ _ ⟨rfl,rfl,.inl rfl⟩
 ·rintro⟨c,d⟩ rest r s' ⟨hr,rfl,e|⟨e,rfl,rfl⟩|⟨e,_⟩⟩
  ·cases e;refine f_ (wpAny_eqBool_tuple (knd:=bR P w) (x:=[.inl x1,.inl x2]) (y:=[.inl y1,.inl y2]) hu hia hib ?_);by_cases hk:x1=y1/\x2=y2
   ·obtain⟨rfl,rfl⟩:=hk;rw[decide_eq_true rfl];simp only[qb4,qaM,if_false];exact q_ ⟨Y,Y,.inr (.inl (by simp))⟩
   ·have e1:¬([Sum.inl x1,Sum.inl x2]:List Key)=[.inl y1,.inl y2]:=λz=>hk (by simpa using z);rw[decide_eq_false e1];simp only[Bool.not_false,if_true];have hf:decide ((x1,x2,x3)=(y1,y2,y3))=false:=decide_eq_false λz=>hk (by simp only[qcL]at z;exact⟨z.1,z.2.1⟩);rw[hf]at h;exact f_ (q_ (q_ (q_ h)))
  ·cases e;refine f_ ((bR P w).eqBool (a:=.inr x3) (b:=.inr y3) (u:=.str x3 t) (v:=.str y3 u) (pI P w x3 t) (pI P w y3 u) ?_);by_cases hk:x3=y3
   ·subst hk;rw[decide_eq_true rfl];simp only[qb4,qaM,if_false];exact q_ ⟨Y,Y,.inr (.inr (by simp))⟩
   ·have e1:¬(Sum.inr x3:Key)= .inr y3:=λz=>hk (by simpa using z);rw[decide_eq_false e1];simp only[Bool.not_false,if_true];have hf:decide ((x1,x2,x3)=(x1,x2,y3))=false:=decide_eq_false λz=>hk (by simp only[qcL]at z;exact z.2.2);rw[hf]at h;exact f_ (q_ (q_ (q_ h)))
  ·cases e
 ·rintro⟨r1,r2⟩ s' ⟨hr,rfl,e|⟨e,_⟩|⟨_,rfl,rfl,rfl⟩⟩
  ·cases e
  ·cases e
  simp only at hr;subst hr;refine q_ ?_;rw[decide_eq_true rfl]at h;exact h
theorem Me{x y:NK}{a b:U}{Q:Bool->n_->Prop}(hu:A.units+1<cLine)(hx:ur P w s.heap x a)(hy:ur P w s.heap y b)(h:Q (decide (x=y)) s):
  C_ (model P w) A (eqBool (.ref a) (.ref b)) Q E s:=by
 unfold eqBool
 try with_reducible refine qaN ?_
 show C_ _ _ (if(Value.ref a==Value.ref b)=true then _ else _) Q E s
 by_cases hab:(Value.ref a==Value.ref b)=true
 ·rw[if_pos hab];have e:a=b:=by have:=eq_of_beq hab;injection this
  subst e;obtain rfl:=hx.inj hy;exact f_ (qcG (q_ (by simpa using h)))
 ·rw[if_neg hab];exact f_ (wpAny_richCompare_same_room (op:=.Eq) hx.typeIs hy.typeIs PySem.F.slot_tuple_eq
   (qaU PySem.F.slot_tuple_eq hx.typeIs PySem.F.entry_tuple_eq (Jm hu hx hy ⟨_,rfl,(λe=>nomatch e),qaD h⟩) (PySem.F.args_tuple_eq_2 _ _)) (qb9 hu))
theorem Gn(n:Nat){ks:List Key}{a:U}{Q:Bool->n_->Prop}(hk:IsTupleKey (bR P w) s.heap ks a)(h:Q true s):C_ (model P w) A (eqIsQuiet (n+1) (.ref a)) Q E s:=by
 have hT:=hk.typeIs;obtain⟨o,items,m,ho,_,hd,hi⟩:=hk;unfold eqIsQuiet;refine f_ (qco hT PySem.F.slot_tuple_eq.lookup ?_);show C_ _ _ (isInstance (.ref a) (.type "tuple") >>= _) _ _ s;refine f_ (qbJ hT isSubtype_tuple_tuple ?_);simp only[qb4,qaM,if_false];refine f_ (qat ho hd ?_);refine f_ ?_;show C_ _ _ (forIn items _ _) _ _ s;rw[←Array.forIn_toList];refine qce _ (λrest r s'=>r.1=none/\s'=s/\∀v∈rest,carriedByValue v=true) _ ?_ ?_ _ _ ⟨Y,Y,hi.byValue⟩
 ·rintro v rest r s' ⟨hr,rfl,hall⟩;rw[eqIsQuiet_byValue _ (hall v z_)];refine f_ (q_ ?_);simp only[qb4,qaM,if_false];exact q_ ⟨Y,Y,λu hu'=>hall u (s_ _ hu')⟩
 ·rintro⟨r1,r2⟩ s' ⟨hr,rfl,_⟩;simp only at hr;subst hr;exact q_ h
theorem OC{k:NK}{a:U}{Q:Bool->n_->Prop}(hk:ur P w s.heap k a)(h:Q true s):C_ (model P w) A (eqIsQuiet 8 (.ref a)) Q E s:=by
 have hT:=hk.typeIs;obtain⟨o,m,p,t,ho,_,hd,hi⟩:=hk;unfold eqIsQuiet;refine f_ (qco hT PySem.F.slot_tuple_eq.lookup ?_);show C_ _ _ (isInstance (.ref a) (.type "tuple") >>= _) _ _ s;refine f_ (qbJ hT isSubtype_tuple_tuple ?_);simp only[qb4,qaM,if_false];refine f_ (qat ho hd ?_);refine f_ ?_;show C_ _ _ (forIn #[Value.ref p,Value.str k.2.2 t] _ _) _ _ s;rw[←Array.forIn_toList];refine qce _ (λrest r s'=>r.1=none/\s'=s/\∀v∈rest,v= .ref p\/carriedByValue v=true) _ ?_ ?_ _ _ ⟨Y,Y,λv hv=>?_⟩
 ·rintro v rest r s' ⟨hr,rfl,hall⟩;have step:C_ (model P w) A (eqIsQuiet 7 v) (λb s2=>b=true/\s2=s') E s':=by
   rcases hall v z_ with rfl|hv
   ·exact Gn 6 hi ⟨Y,Y⟩
   ·rw[eqIsQuiet_byValue _ hv];exact q_ ⟨Y,Y⟩
  refine f_ (qaK step (λb s2 z=>?_) λ_ _ z=>z);obtain⟨rfl,rfl⟩:=z;simp only[qb4,qaM,if_false];exact q_ ⟨Y,Y,λu hu'=>hall u (s_ _ hu')⟩
 ·rintro⟨r1,r2⟩ s' ⟨hr,rfl,_⟩;simp only at hr;subst hr;exact q_ h
 ·simp only[B_,qaq,or_false]at hv;rcases hv with rfl|rfl
  ·exact .inl Y
  ·exact .inr Y
end
noncomputable def pH(P:r_)(w:I_):HeapKind P w NK where
 is:=ur P w
 hash:=Jo P w
 draws:=λ_=>5
 room:=λA=>A.units+1<cLine
 inj:=λhx hy=>hx.inj hy
 keeps:=λx ho hd hs=>x.keeps ho hd hs
 pyHash:=λhu hk h=>Mc hu hk h
 eqBool:=λhu hx hy h=>Me hu hx hy h
 quiet:=λhk h=>OC hk h
end
section
open PySem.W
def CH(d:U)(es:Array qcP)(ep:Nat)(h:W_):Prop:=∃o,h.get? d=some o/\o.ExactDict/\o.data= .dict es ep
section
variable{P:r_}{w:I_}{A:qab}{E:k_->n_->Prop}{s:n_}{d:U}{es:Array qcP}{ep:Nat}
theorem CH.ty(m:CH d es ep s.heap):s.TypeIs (.ref d) "dict" :=let ⟨o,ho,hc,_⟩:=m;⟨o,ho,hc.1⟩
theorem CH.mv{h h':W_}(m:CH d es ep h)(e:∀o,h.get? d=some o->h'.get? d=some o):CH d es ep h':=let ⟨o,ho,r⟩:=m;⟨o,e _ ho,r⟩
theorem Ob{Q:k_->n_->Prop}(hd:(d==sysModules)=false)(m:CH d es ep s.heap)
  (hQ:Q (.ref s.heap.objs.size) { s with heap:=s.heap.push { cls:=.type "dict_keyiterator",data:=.fields #[.ref d,.int 0 0,.int es.size 0,.int ep 0] } }):C_ (model P w) A (pyIter (.ref d)) Q E s:=by
 have hT:=m.ty;obtain⟨o,ho,hc,hdat⟩:=m;refine wpAny_pyIter_slot hT PySem.F.slot_dict_iter (qaU PySem.F.slot_dict_iter hT PySem.F.entry_dict_iter ?_ (PySem.F.args_dict_iter_1 _));unfold Builtin.«dict.__iter__»;refine f_ ?_;unfold Builtin.Dict.dictSlotNone;refine f_ (wpAny_notOrdered_dict hT ?_);show C_ _ _ (pure (Value.ref d)) _ _ s;refine q_ ?_;show C_ _ _ (Builtin.Dict.showsAll d >>= _) _ _ s;unfold Builtin.Dict.showsAll;rw[if_neg (by rw[hd];exact y_)];refine f_ (q_ (f_ (wpAny_dictEntries ho hdat (f_ (wpAny_dictEpoch ho hdat ?_)))));refine f_ (qbk (q_ ⟨_,Y,"dict_keyiterator",_,⟨_,t_ _ Y,Y⟩,PySem.F.slot_dict_keyiterator_next.lookup,?_⟩));simpa[rawInt]using hQ
theorem Gm{it:U}{i:Nat}{Q:Option k_->n_->Prop}(hit:s.heap.IsKeyIter it d i es.size ep)(m:CH d es ep s.heap)
  (item:∀(hi:i<es.size) h',h'.IsKeyIter it d (i+1) es.size ep->qbB it s.heap h'->Q (some es[i].key) { s with heap:=h' })
  (stop:es.size<=i->A.handled=none/\∀h',qcM it s.heap h'->Q none { s with heap:=h' }):C_ (model P w) A (pyNext (.ref it)) Q E s:=by
 obtain⟨o,ho,hc,hd⟩:=id hit;obtain⟨od,hod,hcd,hdd⟩:=m;unfold pyNext;refine f_ (wpAny_attempt (qaS (name:=h_ "__next__") hit.typeIs PySem.F.slot_dict_keyiterator_next
  (qaU PySem.F.slot_dict_keyiterator_next hit.typeIs PySem.F.entry_dict_keyiterator_next ?_ (PySem.F.args_dict_keyiterator_next_1 _))))
 refine f_ (q_ (f_ (f_ ?_)))
 first|refine f_ (qbP hit.typeIs (q_ ?_))|refine f_ (qcl hit.typeIs (q_ ?_))
 refine f_ (wpAny_fieldsOf ho hd ?_);have hown:Builtin.Dict_items.ownsTuple "dict_keyiterator" =false:=by decide
 simp only[hown,qaM,if_false]
 show C_ _ _ (if(Value.ref d==Value.none)=true then _ else _) _ _ s
 rw[if_neg (show ¬((Value.ref d==Value.none)=true) from y_)];refine f_ (q_ (f_ (wpAny_dictEntries hod hdd ?_)));rw[if_neg (by simp)];refine f_ (q_ (f_ (wpAny_dictEpoch hod hdd ?_)));rw[if_neg (by simp)];refine q_ ?_;by_cases hlt:i<es.size
 ·simp only[show ¬((i:Int)<0) from by omega,if_false,qaw,Array.getElem?_eq_getElem hlt];refine f_ ?_
  first|refine f_ (qbP hit.typeIs (q_ ?_))|refine f_ (qcl hit.typeIs (q_ ?_))
  refine f_ (wpAny_isOneOf_keyiter hit.typeIs ?_);show C_ _ _ (setField (.ref it) 1 (rawInt ((i:Int)+1)) >>= _) _ _ s;refine f_ (wpAny_setField ho hd (by simp) ?_);have MF:(s.heap.update it (Obj.mapFields (·.setIfInBounds 1 (rawInt ((i:Int)+1))))).IsKeyIter it d (i+1) es.size ep :=
   ⟨_,Heap.get?_update_self _ ho (Obj.isFreed_of_fields (qcu hd _)),(Obj.cls_mapFields ..).trans hc,by rw[qcu hd];simp[rawInt]⟩
  refine f_ (qaN (f_ (wpAny_isOneOf_keyiter (s:={ s with heap:=s.heap.update it (Obj.mapFields (·.setIfInBounds 1 (rawInt ((i:Int)+1)))) }) MF.typeIs ?_)));show C_ _ _ (pure es[i].key) _ _ _;exact q_ (q_ ⟨_,Y,q_ (item hlt _ MF (qai ..))⟩)
 ·obtain⟨hh,hQ⟩:=stop (by omega);simp only[show ¬((i:Int)<0) from by omega,if_false,qaw,Array.getElem?_eq_none (show es.size<=i by omega)];refine f_ ?_
  first|refine f_ (qbP hit.typeIs (q_ ?_))|refine f_ (qcl hit.typeIs (q_ ?_))
  show C_ _ _ (setField (.ref it) 0 .none >>= _) _ _ s;refine f_ (wpAny_setField ho hd (by simp) ?_);show C_ _ _ (newExc (.type "StopIteration") [] >>= _) _ _ _;refine f_ ?_;simp only[newExc,newTuple];refine f_ (qbk ?_ (by size_fits))
  refine f_ (m:=firstArgMember _ _) (wpAny_of_eq (a:=Value.none) (by first|rfl|(simp only[firstArgMember];rfl)) ?_)
  refine qbk ?_ (by size_fits);simp only[raiseNew];refine f_ (wpAny_handled ?_);rw[show A.in1.handled=none from hh];refine f_ (q_ (wpAny_throw ?_));refine f_ (qbJ (T:= "StopIteration") (b:=true) ⟨_,t_ _ Y,Y⟩ isSubtype_stop ?_);exact q_ (hQ _ (((qai ..).extBut.push _).push _))
theorem LZ(hh:A.handled=none)(I:U)(ne:d≠I):
  Walks P w A I [I,d] [I] es.size (λi v=>∃h:i<es.size,v=es[i].key) (λi h=>h.IsKeyIter I d i es.size ep/\CH d es ep h) where
 sub:=λb hb=>by simp at hb;simp[hb]
 frame:=λ_ _ _ st hk=>⟨st.1.at λo e=>hk I (by simp) o e,st.2.mv λo e=>hk d (by simp) o e⟩
 item:=λi s Q E hi st hQ=>Gm st.1 st.2 (λhi h' MF hs'=>hQ _ h' s.toks ⟨hi,rfl⟩ ⟨MF,st.2.mv λo e=>hs'.extBut d o ne e⟩ λb o hb e=>hs'.extBut b o (λh=>hb (by simp[h])) e) λz=>absurd hi (by omega)
 done:=λs Q E st hQ=>Gm st.1 st.2 (λhi=>absurd hi (qap _)) λ_=>⟨hh,λh' he'=>hQ h' s.toks λb o hb e=>he' b o (λh=>hb (by simp[h])) e⟩
 self:=λ_ _ _ _ st hQ=>wpAny_pyIter_keyiter st.1 hQ
theorem Q5(lo:(d==sysModules)=false):KdlSrc P w "dict" d d es.size (λi v=>∃h:i<es.size,v=es[i].key) (CH d es ep) where
 type:=λ_ m=>m.ty
 there:=λ_ ⟨_,ho,_⟩=>⟨E_ ho,E_ ho⟩
 keep:=λ_ _ m hk=>m.mv λo e=>hk d (.inl rfl) o e
 notList:=by decide
 notTuple:=by decide
 hint:=λ_ _ _ _ m hq=>kdl_hint_dict m.ty hq
 iter:=λ_ s hh m=>⟨_,_,(λ_ _ hq=>Ob lo m hq),LZ hh _ (let ⟨_,ho,_⟩:=m;R_ (E_ ho)),⟨⟨_,t_ _ rfl,rfl,rfl⟩,m.mv λo e=>m_ _ e⟩⟩
end
end
section
open PySem.W
noncomputable abbrev NE:=NK×U×V
noncomputable abbrev KN:List NE->List (NK×U×k_)->Prop:=Paired λp q=>p.1=q.1/\p.2.1=q.2.1/\RelV p.2.2 q.2.2
noncomputable def kc(kvs:List NE)(k:NK):Option V:=(kvs.find? λx=>decide (x.1=k)).map (·.2.2)
noncomputable def qK(kvs:List NE)(k:NK)(q:U)(v:V):List NE:=if(kc kvs k).isSome then kvs.map (λx=>if x.1=k then(x.1,x.2.1,v)else x)else kvs++[(k,q,v)]
theorem lG{p:NE}{ps:List NE}{k:NK}(e:p.1=k):kc (p::ps) k=some p.2.2:=by simp[kc,qad,e]
theorem jh{p:NE}{ps:List NE}{k:NK}(e:¬p.1=k):kc (p::ps) k=kc ps k:=by simp[kc,qad,e]
theorem KN.val{kvs:List NE}{xs:List (NK×U×k_)}(r:KN kvs xs)(k:NK):uq (kc kvs k) ((atKey xs k).map (·.2)):=by
 induction r with
 |nil=>exact True.intro
 | @cons p q ps qs h t ih =>
  obtain⟨h1,_,h2⟩:=h;by_cases e:p.1=k
  ·have e':q.1=k:=h1.symm.trans e;have b:atKey (q::qs) k=some q.2:=by simp[atKey,qad,e']
   rw[lG e,b];exact h2
  ·have e':¬q.1=k:=λz=>e (h1.trans z);have b:atKey (q::qs) k=atKey qs k:=by simp[atKey,qad,e']
   rw[jh e,b];exact ih
theorem KN.put{kvs:List NE}{xs:List (NK×U×k_)}(r:KN kvs xs)(k:NK){b:U}{y:V}{u:k_}(ry:RelV y u):KN (qK kvs k b y) (storedH xs k b u):=by
 have e:(kc kvs k).isSome=(atKey xs k).isSome:=by rw[(r.val k).sD,Option.isSome_map]
 unfold qK storedH;rw[e];by_cases q:(atKey xs k).isSome=true
 ·rw[if_pos q,if_pos q];clear e q
  induction r with
  |nil=>exact .nil
  | @cons p q ps qs h t ih =>
   rw[Y_,Y_];refine .cons ?_ ih;obtain⟨h1,h2,h3⟩:=h;unfold putAt;by_cases e:p.1=k
   ·rw[if_pos e,if_pos (h1.symm.trans e)];exact⟨h1,h2,ry⟩
   ·rw[if_neg e,if_neg (λz=>e (h1.trans z))];exact⟨h1,h2,h3⟩
 ·rw[if_neg q,if_neg q];exact Paired.snoc r ⟨Y,Y,ry⟩
theorem xJ(kvs:List NE)(k:NK)(q:U)(v:V):(qK kvs k q v).length<=kvs.length+1:=by
 unfold qK;split
 ·rw[l_];omega
 ·rw[G_];exact j_ _
theorem Ox{kvs:List NE}{k:NK}(h:kc kvs k=none)(q:U)(v:V):qK kvs k q v=kvs++[(k,q,v)]:=by unfold qK;rw[h];rfl
def Wa(P:r_)(w:I_)(a:U)(kvs:List NE)(h:W_):Prop:=kvs.length<=D_/\(a==sysModules)=false/\∃xs,KN kvs xs ∧
 nN λo es ep=>h.get? a=some o/\o.ExactDict/\o.data= .dict es ep/\es.toList=xs.map (entryOfKey (pH P w))/\(xs.map (·.1)).Nodup
noncomputable def wX(P:r_)(w:I_)(a:U)(kvs:List NE):HO:=.ext (Wa P w a kvs)
theorem SE{P:r_}{w:I_}{H:Hp}{h:W_}{a:U}{kvs:List NE}(e:Wa P w a kvs h):dF P w H h a (wX P w a kvs):=by
 obtain⟨z,lo,xs,r,o,es,ep,ho,c⟩:=e;exact⟨⟨z,lo,xs,r,o,es,ep,ho,c⟩,⟨o,ho⟩,λh1 h2 ⟨z,lo,xs,r,o,es,ep,ho,c⟩ k=>⟨z,lo,xs,r,o,es,ep,k _ ho,c⟩⟩
def fY(H:Hp)(q:U)(k:NK):Prop:=∃p,H q=some (.tup [.ref p,.str k.2.2])/\H p=some (.tup [.int k.1,.int k.2.1])
structure ND(P:r_)(w:I_)(H:Hp)(a:U)(kvs:List NE):Prop where
 at_:H a=some (wX P w a kvs)
 keys:∀x∈kvs,fY H x.2.1 x.1
theorem k_of{P:r_}{w:I_}{H:Hp}{h:W_}{q:U}{k:NK}(ok:um P w H h)(e:fY H q k):(pH P w).is h k q:=by
 obtain⟨p,h1,h2⟩:=e;obtain⟨_,its,r,o,g1,g2,n,g3⟩:=(show dF P w H h q (.tup [.ref p,.str k.2.2]) from ok q _ h1)
 cases r with
 |cons r1 r =>
  cases r with
  |cons r2 r =>
   cases r;cases r1;obtain⟨t,rfl⟩:=(show ∃t,_=Value.str k.2.2 t from r2);exact⟨o,n,p,t,g1,g2,g3,yH (ks:=[.inl k.1,.inl k.2.1]) ok h2⟩
theorem ND.raw{P:r_}{w:I_}{H:Hp}{h:W_}{a:U}{kvs:List NE}(d:ND P w H a kvs)(ok:um P w H h):kvs.length<=D_/\(a==sysModules)=false/\∃xs,KN kvs xs/\h.DictOfH (pH P w) a xs:=by
 obtain⟨z,lo,xs,r,o,es,ep,ho,h2,h3,h4,h5⟩:=(ok a _ d.at_).1;refine⟨z,lo,xs,r,o,es,ep,ho,h2,h3,h4,λx hx=>?_,h5⟩;have all:∀{l:List NE} {m:List (NK×U×k_)},KN l m->(∀x∈l,fY H x.2.1 x.1)->∀x∈m,(pH P w).is h x.1 x.2.1:=by
  intro l m q
  induction q with
  |nil=>intro _ x hx;exact nomatch hx
  | @cons p q ps qs hq t ih =>
   intro hk x hx;rcases B_.mp hx with e|hx
   ·subst e;rw[←hq.1,←hq.2.1];exact k_of ok (hk p z_)
   ·exact ih (λy hy=>hk y (s_ _ hy)) x hx
 exact all r d.keys x hx
section
variable{X:Cx}{pins:List (U×qa9)}{σ:St}{H:Hp}{s:n_}{a q:U}{k:NK}{kvs:List NE}{v:V}{r:k_}{A:qab}{E:k_->n_->Prop}
theorem Mg{Q:k_->n_->Prop}(hu:A.units+2<cLine)(I:Inv X pins σ H s)(d:ND X.prog X.w H a kvs)(hk:fY H q k)(l:kc kvs k=some v)(h:∀w' s',Inv X pins σ H s'->RelV v w'->Q w' s'):
  C_ (model X.prog X.w) A (getItem (.ref a) (.ref q)) Q E s:=by
 obtain⟨z,hd,xs,rel,dd⟩:=d.raw I.hok;obtain⟨w',hw,rw'⟩:=uq.some_of (v:=v) (o:=(atKey xs k).map (·.2)) (by rw[←l];exact rel.val k);obtain⟨p,hp,hp2⟩:=qac.mp hw;refine qcs (show A.in1.units+1<cLine from hu) (k_of I.hok hk) dd hp ?_;rw[hp2];exact h w' _ (I.tok _) rw'
theorem Mf{Q:Unit->n_->Prop}(hu:A.units+2<cLine)(I:Inv X pins σ H s)(d:ND X.prog X.w H a kvs)(hk:fY H q k)(hl:kvs.length<D_)(rv:RelV v r)(h:∀s',Inv X pins σ (upd H a (wX X.prog X.w a (qK kvs k q v))) s'->Q () s'):
  C_ (model X.prog X.w) A (setItem (.ref a) (.ref q) r) Q E s:=by
 obtain⟨z,hd,xs,rel,dd⟩:=d.raw I.hok;have hz:xs.length<=D_:=by rw[←Paired.length rel];exact z
 have hl':(qK kvs k q v).length<=D_:=by have:=xJ kvs k q v;omega
 refine wpAny_setItem_heap (hsz:=hz) (show A.in1.units+1<cLine from hu) (k_of I.hok hk) dd λh' RX hs=>h _ ?_;obtain⟨o,es,ep,ho,h2,h3,h4,_,h5⟩:=RX;exact xW I (by rw[d.at_];exact True.intro) hs ⟨o,ho⟩ (SE ⟨hl',hd,_,rel.put k rv,o,es,ep,ho,h2,h3,h4,h5⟩)
theorem OE(I:Inv X pins σ H s)(d:ND X.prog X.w H a kvs):s.TypeIs (.ref a) "dict" :=by
 obtain⟨_,_,_,_,dd⟩:=d.raw I.hok;exact dd.typeIs
end
def WU(P:r_)(w:I_)(td ty:TE):TE:=λσ H Q=>td σ H λx H1=>ty σ H1 λy H2=>BG λa kvs k q v=>x= .ref a/\y= .ref q/\ND P w H2 a kvs/\fY H2 q k/\kc kvs k=some v/\Q v H2
def Xi(P:r_)(w:I_)(td ty tv:TE):TS:=λD σ H=>tv σ H λv H1=>td σ H1 λx H2=>ty σ H2 λy H3=>wY λa kvs k q=>x= .ref a/\y= .ref q/\ND P w H3 a kvs/\fY H3 q k/\kvs.length<D_/\D.nx σ (upd H3 a (wX P w a (qK kvs k q v)))
def WT(P:r_)(w:I_):TE:=λ_ H Q=>∀p,H p=none->Q (.ref p) (upd H p (wX P w p []))
section
variable{X:Cx}{o i e value:Expr}{pos pos' tpos:qbO}{td ty tv:TE}{Pr:r_}{wo:I_}
theorem lU(hu:X.A.units+2<cLine)(ho:PE X o td)(hi:PE X i ty)(hs:Sd i)(hP:X.prog=Pr)(hw:X.w=wo):PE X (.Subscript o i pos) (WU Pr wo td ty):=by
 subst hP hw;intro pins s σ H Q I h;refine xg PySem.F.slot_dict_getitem.lookup hs (fR (ho pins s σ H _ I h) λu s1 ⟨x,H1,I1,rx,q1⟩=>fR (hi pins s1 σ H1 _ I1 q1) λiv s2 ⟨y,H2,I2,ry,a,kvs,k,q,v,ex,ey,d,hk,l,q2⟩=>?_);subst ex ey;obtain rfl:u=Value.ref a:=rx;obtain rfl:iv=Value.ref q:=ry;exact⟨OE I2 d,Mg hu I2 d hk l λw' s3 I3 rw'=>⟨v,H2,I3,rw',q2⟩⟩
theorem xE(hu:X.A.units+2<cLine)(ho:PE X o td)(hi:PE X i ty)(hv:PE X value tv)(hs:swapsWith value (some (.Subscript o i pos')) pos.line X.env=pure false)(hP:X.prog=Pr)(hw:X.w=wo):
  PS X (.Assign [.Subscript o i pos'] value pos) (Xi Pr wo td ty tv):=by
 subst hP hw;intro pins s σ H D I h;refine wpAny_Assign_Subscript (fR (hv pins s σ H _ I h) λr s1 ⟨v,H1,I1,rv,q1⟩=>fR (ho pins s1 σ H1 _ I1 q1) λu s2 ⟨x,H2,I2,rx,q2⟩=>fR (hi pins s2 σ H2 _ I2 q2) λiv s3 ⟨y,H3,I3,ry,a,kvs,k,q,ex,ey,d,hk,hl,q3⟩=>?_) hs;subst ex ey;obtain rfl:u=Value.ref a:=rx;obtain rfl:iv=Value.ref q:=ry;exact Mf hu I3 d hk hl rv λs4 I4=>⟨σ,_,I4,q3⟩
theorem UZ{P:r_}{w:I_}(h:W_)(hb:sysModules<h.objs.size):Wa P w h.objs.size [] (h.push { cls:=.type "dict",data:=.dict #[] }) :=
 ⟨Q_ _,beq_eq_false_iff_ne.mpr (Ne.symm (R_ hb)),[],.nil,_,#[],0,t_ _ rfl,⟨rfl,rfl,rfl⟩,rfl,rfl,qbg⟩
theorem Aa(hP:X.prog=Pr)(hw:X.w=wo):PE X (.Dict [] [] pos) (WT Pr wo):=by
 subst hP hw;exact λpins s σ H Q I h=>wpAny_Dict_empty ⟨.ref s.heap.objs.size,_,I.laid (a:=s.heap.objs.size) (o:=wX X.prog X.w s.heap.objs.size []) (t':=s.toks) (λ_ _ q=>m_ _ q) (j_ _) (SE (UZ s.heap I.big)),Y,h _ (I.hok.fresh (j_ _))⟩
theorem tR(GY:X.calm=true)(hP:X.prog=Pr)(hw:X.w=wo):pM X (.type "list") (λxs H Q=>dP λa kvs=>xs=[.ref a]/\ND Pr wo H a kvs/\∀l,H l=none->Q (.ref l) (upd H l (.lst (kvs.map λx=>.ref x.2.1)))):=by
 subst hP hw;intro pins s σ H xs us Q I r h;obtain⟨a,kvs,rfl,d,q⟩:=h;obtain⟨u,rfl,rx⟩:=vals1 r;cases rx;obtain⟨z,lo,xs,rel,o,es,ep,h1,h2,h3,h4,_⟩:=d.raw I.hok;have hes:es.size=xs.length:=size_of_entries h4;have hlk:=Paired.length rel;refine TK.bX (j_ _) (kdl_call (Q5 (es:=es) (ep:=ep) lo) (I.ok.hd GY) ⟨o,h1,h2,h3⟩ (by omega) λh' tk acc c kp hS hacc hup=>?_);refine⟨.ref s.heap.objs.size,_,I.laid (t':=tk) kp (j_ _) (show dF X.prog X.w _ h' _ (.lst (kvs.map λx=>.ref x.2.1)) from⟨by rw[l_];exact z,acc.toList,c,?_,by rw[Array.toArray_toList];exact hS⟩) hup,Y,q _ (I.hok.fresh (j_ _))⟩;have hz:acc.size=kvs.length:=by rw[hacc.1];omega
 refine GP.yu (by rw[l_];simp[hz]) λi x y hx hy=>?_;rw[O_]at hx;obtain⟨e,he,rfl⟩:=qac.mp hx;rw[qal]at hy;obtain⟨hi,rfl⟩:=hacc.2 i y hy;obtain⟨x',hx',h5⟩:=GP.Paired.at rel he;have:=entry_at h4 i;rw[hx',Array.getElem?_eq_getElem hi]at this;injection this with this;rw[this];show Value.ref x'.2.1=Value.ref e.2.1;rw[h5.2.1]
end
end
section
open PySem.W
section
variable{prog:r_}{w:I_}{A:qab}{E:k_->n_->Prop}{s:n_}{q:U}
def HP(kf:Nat->Int)(n i:Nat):Prop:=∀j,j<n->kf i<=kf j/\(j<i->kf i<kf j)
theorem qN{h h':W_}{l:U}{its:Array k_}(k:∀b o,h.get? b=some o->h'.get? b=some o)(x:h.IsList l its):h'.IsList l its:=by
 obtain⟨o,e,r⟩:=x;exact⟨o,k _ _ e,r⟩
variable{g:W_}{l I S:U}{vs:List k_}{R:Result->n_->Prop}
theorem OO{kw:List (v_×k_)}(kf:Nat->Int)(hh:A.handled=none)(hl:g.IsList l vs.toArray)(hI:g.get? I=none)(hS:g.get? S=none)(hSI:S≠I)
  (turn:∀i v h tk (Q:k_->n_->Prop),vs[i]? =some v->(∀b o,g.get? b=some o->h.get? b=some o)->(∀h' tk' t,(∀b o,h.get? b=some o->h'.get? b=some o)->Q (.int (kf i) t) { s with heap:=h',toks:=tk' }) →
   C_ (model prog w) A.in1 (call (.ref q) [v]) Q (λ_ _=>False) { s with heap:=h,toks:=tk })
  (hR:∀i v h' tk',vs[i]? =some v->HP kf vs.length i->(∀b o,g.get? b=some o->h'.get? b=some o)->R (.ok (.ret v)) { s with heap:=h',toks:=tk' }) :
  ∀(r j i:Nat) (h:W_) (tk:Nat) (vb:k_) (tb:qcN) (c:Nat),vs.length-(j+1)=r->j+1<=vs.length->(∀b o,g.get? b=some o->h.get? b=some o)->h.get? S=some (seqObj "list" #[vb,.int (kf i) tb] c) →
   h.IsListIter I l (j+1)->vs[i]? =some vb->i<=j->HP kf (j+1) i →
   codeAny (model prog w) A (.builtin "min.loop" ⟨[.ref I,.ref q,.ref S],kw⟩) R { s with heap:=h,toks:=tk }:=by
 have nm:(toString "min" ++toString ".loop" :String)= "min.loop" :=by decide
 obtain⟨ol,Fq,rl⟩:=id hl;have lI:l≠I:=λz=>by rw[z,hI]at Fq;cases Fq
 have W:=qct (prog:=prog) (w:=w) (A:=A.in1) hh I l lI vs.toArray;have sz:vs.toArray.size=vs.length:=by simp
 have nI:∀b o,g.get? b=some o->b∉[I]:=λb o e z=>by rw[x_.mp z,hI]at e;cases e
 have nS:∀b o,g.get? b=some o->b≠S:=λb o e z=>by rw[z,hS]at e;cases e
 intro r
 induction r with
 |zero =>
  intro j i h tk vb tb c hr hj kp gS hit SW hij hb;have en:j+1=vs.length:=by omega
  refine qa3 PySem.F.entry_min_loop ?_;rw[qaI PySem.F.plain_min_loop _];show C_ _ A.in1 (seqItems? (.ref S) >>= _) _ _ _;refine f_ (qat gS Y ?_);show C_ _ A.in1 (tryCatch (pyNext (.ref I)) _ >>= _) _ _ _;refine f_ (qa2 (W.done _ _ _ ⟨by rw[sz,←en];exact hit,qN kp hl⟩ λh1 LP hk1=>?_));have Li:=hk1 S _ (by simpa using hSI) gS;show C_ _ A.in1 (updateSeq S (λ_=> #[]) >>= _) _ _ _;refine f_ ?_;refine qb0 Li Y (f_ (qbh (q_ ?_)));refine hR i vb _ _ SW (by rw[←en];exact hb) λb o e=>?_;rw[(qai h1 S _).2 b (nS b o e)];exact hk1 b o (nI b o e) (kp b o e)
 |succ r ih =>
  intro j i h tk vb tb c hr hj kp gS hit SW hij hb;have lt:j+1<vs.length:=by omega
  refine qa3 PySem.F.entry_min_loop ?_;rw[qaI PySem.F.plain_min_loop _];show C_ _ A.in1 (seqItems? (.ref S) >>= _) _ _ _;refine f_ (qat gS Y ?_);show C_ _ A.in1 (tryCatch (pyNext (.ref I)) _ >>= _) _ _ _;refine f_ (qa2 (W.item (j+1) _ _ _ (by rw[sz];exact lt) ⟨hit,qN kp hl⟩ λv h1 LP hP hst hk1=>?_));have hv:vs[j+1]? =some v:=by simpa using hP
  have GU:∀b o,g.get? b=some o->h1.get? b=some o:=λb o e=>hk1 b o (nI b o e) (kp b o e);have Li:=hk1 S _ (by simpa using hSI) gS;obtain⟨oI,S4,rI⟩:=id hst.1;show C_ _ A.in1 (tryCatch (holding [v] (call (.ref q) [v])) _ >>= _) _ _ _;refine f_ (qa2 (qaN (qaK (turn (j+1) v h1 LP (λu s'=>nN λh2 QS t2=>u= .int (kf (j+1)) t2/\s'={ s with heap:=h2,toks:=QS }/\∀b o,h1.get? b=some o->h2.get? b=some o) hv GU λh2 QS t2 k2=>⟨h2,QS,t2,Y,Y,k2⟩) (λu s' hu=>?_) λ_ _ z=>z.elim)));obtain⟨h2,QS,t2,rfl,rfl,k2⟩:=hu;have kp2:∀b o,g.get? b=some o->h2.get? b=some o:=λb o e=>k2 b o (GU b o e);have Wv:=k2 _ _ Li;have adu:h2.IsListIter I l (j+1+1):=⟨oI,k2 _ _ S4,rI⟩;show C_ _ A.in1 (tryCatch (holding [v,.int (kf (j+1)) t2] (richCompare .Lt (.int (kf (j+1)) t2) (.int (kf i) tb) >>= _)) _ >>= _) _ _ _;refine f_ (qa2 (qaN (f_ (CmpOf.ints_lt (prog:=prog) (w:=w) (A:=A.in1) (P:=λi v=>∃t,v= .int (kf i) t) kf (λi v h=>h) (j+1) i _ _ _ _ _ ⟨t2,Y⟩ ⟨tb,Y⟩ ?_))));refine f_ (qaN (qaD ?_));refine f_ (qbh (q_ ?_));by_cases gt:kf (j+1)<kf i
  ·obtain⟨c2,hc2⟩:∃c2,(h2.update S (qb_ λ_=> #[v,.int (kf (j+1)) t2])).get? S=some (seqObj "list" #[v,.int (kf (j+1)) t2] c2):=⟨_,get?_update_seq Wv λ_=> #[v,.int (kf (j+1)) t2]⟩;have gt':kf (j+1)<kf i:=gt;simp only[gt',decide_true,if_true];refine f_ ?_;refine qb0 Wv Y (f_ (qbh ?_));rw[nm];refine q_ ⟨qbd PySem.F.plain_min_loop _,ih (j+1) (j+1) _ _ v t2 c2 (by omega) lt (λb o e=>?_) hc2 ?_ hv (j_ _) λj' hj'=>?_⟩
   ·rw[(qai h2 S _).2 b (nS b o e)];exact kp2 b o e
   ·exact⟨oI,((qai h2 S _).2 I hSI.symm).trans (k2 _ _ S4),rI⟩
   ·by_cases e:j'=j+1
    ·subst e;exact⟨by omega,λ_=>by omega⟩
    ·have b1:=hb j' (by omega);exact⟨by omega,λ_=>by omega⟩
  ·have gt':¬kf (j+1)<kf i:=gt;simp only[gt',decide_false,qaM,if_false];refine f_ (qbh ?_);rw[nm];refine q_ ⟨qbd PySem.F.plain_min_loop _,ih (j+1) i _ _ vb tb c (by omega) lt kp2 Wv adu SW (by omega) λj' hj'=>?_⟩;by_cases e:j'=j+1
   ·subst e;exact⟨by omega,λ_=>by omega⟩
   ·exact hb j' (by omega)
theorem AZ {l:U}{G:U->U->W_->Prop}(F:∀I S h,s.heap.get? I=none->s.heap.get? S=none->S≠I->(∀b o,s.heap.get? b=some o->h.get? b=some o)->h.IsListIter I l 0->h.get? S=some (seqObj "list" #[] 0)->G I S h) :
  G s.heap.objs.size (s.heap.push { cls:=.type "list_iterator",data:=.fields #[.ref l,.int 0 0] }).objs.size ((s.heap.push { cls:=.type "list_iterator",data:=.fields #[.ref l,.int 0 0] }).push (seqObj "list" #[] 0)):=by
 have sI:(s.heap.push { cls:=.type "list_iterator",data:=.fields #[.ref l,.int 0 0] }).objs.size=s.heap.objs.size+1:=size_push' ..;exact F _ _ _ (Heap.get?_none_of_le (j_ _)) (by rw[sI];exact Heap.get?_none_of_le (qay _)) (by rw[sI];exact qbc (qaO _)) (λb o e=>m_ _ (m_ _ e)) ⟨_,m_ _ (t_ _ Y),Y,Y⟩ (t_ _ Y)
theorem Dq{kw:List (v_×k_)}(kf:Nat->Int)(hh:A.handled=none)(hl:s.heap.IsList l vs.toArray)(hI:s.heap.get? I=none)(hS:s.heap.get? S=none)(hSI:S≠I)
  (turn:∀i v h tk (Q:k_->n_->Prop),vs[i]? =some v->(∀b o,s.heap.get? b=some o->h.get? b=some o)->(∀h' tk' t,(∀b o,h.get? b=some o->h'.get? b=some o)->Q (.int (kf i) t) { s with heap:=h',toks:=tk' }) →
   C_ (model prog w) A.in1 (call (.ref q) [v]) Q (λ_ _=>False) { s with heap:=h,toks:=tk })
  (hR:∀i v h' tk',vs[i]? =some v->HP kf vs.length i->(∀b o,s.heap.get? b=some o->h'.get? b=some o)->R (.ok (.ret v)) { s with heap:=h',toks:=tk' })
  (ne:0<vs.length) {h:W_} (Yk:∀b o,s.heap.get? b=some o->h.get? b=some o) (gI:h.IsListIter I l 0) (gS:h.get? S=some (seqObj "list" #[] 0)) :
  codeAny (model prog w) A (.builtin "min.loop" ⟨[.ref I,.ref q,.ref S],kw⟩) R { s with heap:=h }:=by
 have nm:(toString "min" ++toString ".loop" :String)= "min.loop" :=by decide
 obtain⟨ol,Fq,rl⟩:=id hl;have lI:l≠I:=λz=>by rw[z,hI]at Fq;cases Fq
 have W:=qct (prog:=prog) (w:=w) (A:=A.in1) hh I l lI vs.toArray;have sz:vs.toArray.size=vs.length:=by simp
 have nI:∀b o,s.heap.get? b=some o->b∉[I]:=λb o e z=>by rw[x_.mp z,hI]at e;cases e
 have nS:∀b o,s.heap.get? b=some o->b≠S:=λb o e z=>by rw[z,hS]at e;cases e
 refine qa3 PySem.F.entry_min_loop ?_;rw[qaI PySem.F.plain_min_loop _];show C_ _ A.in1 (seqItems? (.ref _) >>= _) _ _ _;refine f_ (qat gS Y ?_);show C_ _ A.in1 (tryCatch (pyNext (.ref I)) _ >>= _) _ _ _;refine f_ (qa2 (W.item 0 _ _ _ (by rw[sz];exact ne) ⟨gI,qN Yk hl⟩ λv xS LP hP hst hk1=>?_));have hv:vs[0]? =some v:=by simpa using hP
 have GU:∀b o,s.heap.get? b=some o->xS.get? b=some o:=λb o e=>hk1 b o (nI b o e) (Yk b o e);have Li:=hk1 S _ (by simpa using hSI) gS;obtain⟨oI,S4,rI⟩:=id hst.1;show C_ _ A.in1 (tryCatch (holding [v] (call (.ref q) [v])) _ >>= _) _ _ _;refine f_ (qa2 (qaN (qaK (turn 0 v xS LP (λu s'=>nN λh2 QS t2=>u= .int (kf 0) t2/\s'={ s with heap:=h2,toks:=QS }/\∀b o,xS.get? b=some o->h2.get? b=some o) hv GU λh2 QS t2 k2=>⟨h2,QS,t2,Y,Y,k2⟩) (λu s' hu=>?_) λ_ _ z=>z.elim)));obtain⟨h2,QS,t2,rfl,rfl,k2⟩:=hu;have Wv:=k2 _ _ Li;obtain⟨c2,hc2⟩:∃c2,(h2.update S (qb_ λ_=> #[v,.int (kf 0) t2])).get? S=some (seqObj "list" #[v,.int (kf 0) t2] c2):=⟨_,get?_update_seq Wv λ_=> #[v,.int (kf 0) t2]⟩;show C_ _ A.in1 (updateSeq S (λ_=> #[v,.int (kf 0) t2]) >>= _) _ _ _;refine f_ ?_;refine qb0 Wv Y ?_;rw[nm];refine q_ ⟨qbd PySem.F.plain_min_loop _,OO kf hh hl hI hS hSI turn hR _ 0 0 _ _ v t2 c2 Y ne (λb o e=>?_) hc2 ?_ hv (j_ _) λj' hj'=>?_⟩
 ·rw[(qai h2 S _).2 b (nS b o e)];exact k2 b o (GU b o e)
 ·exact⟨oI,((qai h2 S _).2 I hSI.symm).trans (k2 _ _ S4),rI⟩
 ·have e:j'=0:=by omega
  subst e;exact⟨by omega,λz=>absurd z (qap _)⟩
theorem MY{Q:k_->n_->Prop}(kf:Nat->Int)(hh:A.handled=none)(hl:s.heap.IsList l vs.toArray)
  (turn:∀i v h tk (Q:k_->n_->Prop),vs[i]? =some v->(∀b o,s.heap.get? b=some o->h.get? b=some o)->(∀h' tk' t,(∀b o,h.get? b=some o->h'.get? b=some o)->Q (.int (kf i) t) { s with heap:=h',toks:=tk' }) →
   C_ (model prog w) A.in1 (call (.ref q) [v]) Q (λ_ _=>False) { s with heap:=h,toks:=tk })
  (hne:0<vs.length)
  (h1:∀i v h' tk',vs[i]? =some v->HP kf vs.length i->(∀b o,s.heap.get? b=some o->h'.get? b=some o)->Q v { s with heap:=h',toks:=tk' }) :
  C_ (model prog w) A (call (.builtin "min") [.ref l] [(h_ "key",.ref q)]) Q E s:=by
 have nm:(toString "min" ++toString ".loop" :String)= "min.loop" :=by decide
 refine kmk_tree PySem.F.kind_min PySem.F.plain_min PySem.F.entry_min (kmk_min_key _ _) ?_;show C_ _ A.in1 (qaR "min" ["key","default"] 0 ⟨[],[(h_ "key",.ref q)]⟩ >>= _) _ _ s;refine f_ (wpAny_of_eq (show qaR "min" ["key","default"] 0 ⟨[],[(h_ "key",.ref q)]⟩=pure [some (.ref q),none] from Y) ?_);refine f_ (q_ ?_);refine f_ (qaY hl ?_);refine f_ (wpAny_newList ?_ (Q_ _));rw[nm];refine q_ ⟨qbd PySem.F.plain_min_loop _,?_⟩;exact AZ (G:=λI S h=>codeAny (model prog w) A (.builtin "min.loop" ⟨[.ref I,.ref q,.ref S],[]⟩) _ { s with heap:=h }) λI S h hI hS hSI kp gI gS=>Dq kf hh hl hI hS hSI turn (λi v h' tk' a b c=>h1 i v h' tk' a b c) hne kp gI gS
end
def BS(h:W_)(q:U)(qual:v_)(ps:qcb)(body:Expr)(sc:qbn)(cl:List (v_×U)):Prop :=
 nN λpm c' ctv=>h.get? q=some (kla_obj "<lambda>" qual ps body sc cl pm c' ctv)/\h.CodeRec (.ref c') qual
theorem vp{h h':W_}{c:U}{q:v_}(k:∀b o,h.get? b=some o->h'.get? b=some o)(x:h.CodeRec (.ref c) q):h'.CodeRec (.ref c) q:=by
 obtain⟨c₂,o,vs,t,e,e1,e2⟩:=x;exact⟨c₂,o,vs,t,e,k _ _ e1,e2⟩
theorem BS.keep{h h':W_}{q:U}{qual:v_}{ps:qcb}{body:Expr}{sc:qbn}{cl:List (v_×U)}(k:∀b o,h.get? b=some o->h'.get? b=some o)(x:BS h q qual ps body sc cl):BS h' q qual ps body sc cl:=by
 obtain⟨pm,c',ctv,e,r⟩:=x;exact⟨pm,c',ctv,k _ _ e,vp k r⟩
structure LG(ps:qcb)(body:Expr)(sc:qbn)(x r:v_):Prop where
 bind:∀(qual:v_) (cl:List (v_×U)) (pm cdv ct v:k_),bindArgs (kla_fn "<lambda>" qual ps body sc cl pm cdv ct) ⟨[v],[]⟩=pure [(x,v)]
 loc:sc.names.lookup x=some .local
 free:sc.names.lookup r=some .free
 cell:∀x∈sc.names,x.2≠ .cell
 kind:sc.kind= .function
 co:sc.isCoroutine=false
 gen:sc.isGenerator=false
 dx:(x==("__debug__" :v_))=false
 dr:(r==("__debug__" :v_))=false
 dc:(r==("__classdict__" :v_))=false
structure To(P:r_)(w:I_)(h:W_)(A:qab)(env:Env)(x r:v_)(v rv:k_):Prop where
 x:∀(p:qbO) (s:n_) (Q:k_->n_->Prop) (E:k_->n_->Prop),(∀b o,h.get? b=some o->s.heap.get? b=some o)->Q v s->C_ (model P w) A (eval (.Name x p) env) Q E s
 r:∀(p:qbO) (s:n_) (Q:k_->n_->Prop) (E:k_->n_->Prop),(∀b o,h.get? b=some o->s.heap.get? b=some o)->Q rv s->C_ (model P w) A (eval (.Name r p) env) Q E s
section
variable{prog:r_}{w:I_}{A:qab}{E:k_->n_->Prop}{s:n_}{q c:U}{qual x r:v_}{ps:qcb}{body:Expr}{sc:qbn}
theorem Mw{v rv:k_}{Q:k_->n_->Prop}(hl:BS s.heap q qual ps body sc [(r,c)])(T:LG ps body sc x r)(hc:s.heap.IsCell c (some rv))(hlim:s.heap.NoLimit)(hroom:A.depth<recursionLimit)
  (h:∀(env:Env) (A':qab) h1 LP (E':k_->n_->Prop),A'.units=A.units+3->(∀b o,s.heap.get? b=some o->h1.get? b=some o)->To prog w h1 A' env x r v rv->C_ (model prog w) A' (eval body env) Q E' { s with heap:=h1,toks:=LP }) :
  C_ (model prog w) A (call (.ref q) [v]) Q E s:=by
 obtain⟨pm,c',ctv,ho,hr⟩:=hl;refine wpAny_call (kla_callFunE hroom ho Y T.co T.gen Y hr ?_);rw[T.bind];refine q_ (wpAny_newFunctionEnv T.cell (λy hy=>by rw[x_.mp hy];exact T.loc) (λh₁ hns S1=>⟨hlim.fresh _ S1,?_⟩) T.kind);have kp:∀b o,s.heap.get? b=some o->h₁.get? b=some o:=λb o e=>S1.extBut b o (R_ (E_ e)) (m_ _ e);refine kla_codeExpr (h _ _ h₁ _ _ Y kp ⟨λp s1 Q1 E1 k1 hQ=>?_,λp s1 Q1 E1 k1 hQ=>?_⟩)
 ·refine wpAny_Name (wpAny_loadName_local T.kind T.loc (hns.keeps k1) (v:=v) ?_ hQ) T.dx;show qaE x [(x,v)]=some v;simp[qaE]
 ·obtain⟨o,g1,g2⟩:=hc;refine wpAny_Name (wpAny_loadName_free T.kind T.free (c:=c) (v:=rv) ?_ ⟨o,k1 _ _ (kp _ _ g1),g2⟩ hQ T.dc) T.dr;show qaE r [(r,c)]=some c;simp[qaE]
end
end
section
open PySem.W
theorem ur.ext{P:r_}{w:I_}{h h':W_}{k:NK}{a:U}(e:∀b o,h.get? b=some o->h'.get? b=some o)(x:ur P w h k a):ur P w h' k a:=by
 obtain⟨o,n,p,t,ho,hc,hd,o2,its,n2,ho2,r⟩:=x;exact⟨o,n,p,t,e _ _ ho,hc,hd,o2,its,n2,e _ _ ho2,r⟩
theorem Hi{P:r_}{w:I_}{h h':W_}{d:U}{xs:List (NK×U×k_)}(e:∀b o,h.get? b=some o->h'.get? b=some o)(x:h.DictOfH (pH P w) d xs):h'.DictOfH (pH P w) d xs:=by
 obtain⟨o,es,ep,ho,h2,h3,h4,h5,h6⟩:=x;exact⟨o,es,ep,e _ _ ho,h2,h3,h4,λy hy=>(h5 y hy).ext e,h6⟩
def KV1(P:r_)(w:I_)(H:Hp)(v rv:V)(k:Int):Prop:=BG λp d kvs i j=>v= .ref p/\H p=some (.tup [.int i,.int j])/\rv= .ref d/\ND P w H d kvs/\kc kvs (i,j,h_ "p")=some (.int k)
def KV2(P:r_)(w:I_)(H:Hp)(v rv:V)(k:Int):Prop:=R7 λp d q kvs ky c r=>v= .ref p/\H p=some (.tup [.ref q,.int c])/\fY H q ky/\rv= .ref d/\ND P w H d kvs/\kc kvs ky=some (.int r)/\k=c+r
def Kc(ps:qcb)(body:Expr)(sc:qbn)(x r:v_)(KV:r_->I_->Hp->V->V->Int->Prop):Prop :=
 LG ps body sc x r/\∀(P:r_) (w:I_) (H:Hp) (v rv:V) (k:Int) (u ru:k_) (s:n_) (h:W_) (tk:Nat) (A:qab) (env:Env) (Q:k_->n_->Prop) (E:k_->n_->Prop),
  KV P w H v rv k->RelV v u->RelV rv ru->um P w H h->A.units+2<cLine->To P w h A env x r u ru →
  (∀h' tk' t,(∀b o,h.get? b=some o->h'.get? b=some o)->Q (.int k t) { s with heap:=h',toks:=tk' })->C_ (model P w) A (eval body env) Q E { s with heap:=h,toks:=tk }
theorem Ry {ps:qcb}{sc:qbn}{x r:v_}{p1 p2 p3 p4 p5:qbO}{j k:Nat}(T:LG ps (.Subscript (.Name r p1) (.Tuple [.Name x p2,.Constant (.str "p") j p3] k p4) p5) sc x r) :
  Kc ps (.Subscript (.Name r p1) (.Tuple [.Name x p2,.Constant (.str "p") j p3] k p4) p5) sc x r KV1:=by
 refine⟨T,λP w H v rv ky u ru s h tk A env Q E kv rx rr ok hu L hQ=>?_⟩;obtain⟨p,d,kvs,a,b,rfl,hp,rfl,nd,hv⟩:=kv;cases rx;cases rr;obtain⟨_,_,xs,rel,dd⟩:=nd.raw ok;obtain⟨w',hw,t',rfl⟩:=uq.some_of (v:=.int ky) (o:=(atKey xs (a,b,h_ "p")).map (·.2)) (by rw[←hv];exact rel.val _);obtain⟨y,hy,Yy⟩:=qac.mp hw;refine xg PySem.F.slot_dict_getitem.lookup (λ_ _=>rfl) (L.r _ _ _ _ (λ_ _ e=>e) (wpAny_Tuple_spliced ?_));show C_ _ _ (spliced ((false,eval (.Name x p2) env)::backTo p4 (qaf [.Constant (.str "p") j p3] env))) _ _ _;refine qbS (L.x _ _ _ _ (λ_ _ e=>e) ?_);show C_ _ _ (spliced ((false,eval (.Constant (.str "p") j p3) env)::backTo p4 (qaf [] env))) _ _ _;refine qbS (qcr (Calls.spliced_nil ⟨c_,?_⟩));have ext:∀b o,h.get? b=some o->(h.push { cls:=.type "tuple",data:=.seq [Value.ref p,Value.str "p" tk].toArray }).get? b=some o:=λb o e=>m_ _ e;refine⟨(Hi ext dd).typeIs (s:={ s with heap:=_,toks:=_ }),?_⟩;refine qcs (knd:=pH P w) (k:=(a,b,h_ "p")) (show A.in1.units+1<cLine from hu) ?_ (Hi ext dd) hy ?_
 ·exact⟨_,_,p,_,t_ _ Y,Y,Y,(yH (ks:=[.inl a,.inl b]) (ok.kept ext) hp)⟩
 ·rw[Yy];exact hQ _ _ t' ext
theorem Rx{ps:qcb}{sc:qbn}{x r:v_}{p1 p2 p3 p4 p5 p6 p7 p8 p9:qbO}{j1 j2:Nat}(T:LG ps (.BinOp (.Subscript (.Name x p1) (.Constant (.int 1) j1 p2) p3) .Add (.Subscript (.Name r p4) (.Subscript (.Name x p5) (.Constant (.int 0) j2 p6) p7) p8) p9) sc x r):
  Kc ps (.BinOp (.Subscript (.Name x p1) (.Constant (.int 1) j1 p2) p3) .Add (.Subscript (.Name r p4) (.Subscript (.Name x p5) (.Constant (.int 0) j2 p6) p7) p8) p9) sc x r KV2:=by
 refine⟨T,λP w H v rv ky u ru s h tk A env Q E kv rx rr ok hu L hQ=>?_⟩;obtain⟨p,d,q,kvs,key,c,n,rfl,hp,hk,rfl,nd,hv,rfl⟩:=kv;cases rx;cases rr;obtain⟨_,_,xs,rel,dd⟩:=nd.raw ok;obtain⟨w',hw,t',rfl⟩:=uq.some_of (v:=.int n) (o:=(atKey xs key).map (·.2)) (by rw[←hv];exact rel.val _);obtain⟨y,hy,Yy⟩:=qac.mp hw;obtain⟨_,its,rv,o,g1,g2,m,g3⟩:=(show dF P w H h p (.tup [.ref q,.int c]) from ok p _ hp)
 cases rv with
 |cons r1 rv =>
 cases rv with
 |cons r2 rv =>
 cases rv;cases r1;obtain⟨tc,rfl⟩:=(show ∃t,_=Value.int c t from r2);have hT:∀t,({ s with heap:=h,toks:=t }:n_).TypeIs (.ref p) "tuple" :=λt=>⟨o,g1,g2⟩;refine wpAny_BinOp (Subscript_ (L.x _ _ _ _ (λ_ _ e=>e) (qcq ?_)))
 refine qbp (T:= "tuple") (x:=.int c tc) (hT _) slot_tuple_getitem.lookup (getItem_tuple (j:=1) (items:= #[.ref q,.int c tc]) ⟨o,g1,g2,m,g3⟩ (by omega) (by omega) (by rfl) (by rfl) ⟨Y,?_⟩) (by with_unfolding_all rfl)
 refine xg PySem.F.slot_dict_getitem.lookup (λ_ _=>rfl) (L.r _ _ _ _ (λ_ _ e=>e) (Subscript_ (L.x _ _ _ _ (λ_ _ e=>e) (qcq ?_))))
 refine qbp (T:= "tuple") (x:=.ref q) (hT _) slot_tuple_getitem.lookup (getItem_tuple (j:=0) (items:= #[.ref q,.int c tc]) ⟨o,g1,g2,m,g3⟩ (by omega) (by omega) (by rfl) (by rfl) ⟨Y,?_⟩) (by with_unfolding_all rfl)
 refine⟨dd.typeIs (s:={ s with heap:=h,toks:=_ }),qcs (knd:=pH P w) (k:=key) (show A.in1.units+1<cLine from hu) (k_of ok hk) dd hy ?_⟩;rw[Yy];exact add_int (hQ _ _ _ λ_ _ e=>e)
end
section
noncomputable def rG(P:U)(ps:Array k_):HO:=.ext λh=>h.get? P=some (PySem.W.tabObj ps)
noncomputable def Tf(c:U)(q:v_):HO:=.ext λh=>h.CodeRec (.ref c) q
def TabOk(H:Hp)(P:U)(ln:qbO)(q:v_):Prop:=H P=some (rG P #[])\/∃c',H P=some (rG P #[rawInt ln.line,rawInt ln.col,.ref c'])/\H c'=some (Tf c' q)
def Tp(base:W_)(mg:v_->Option k_):Prop:=∃bm ob,mg "__builtins__" =some (.ref bm)/\bm≠builtinsNs/\base.get? bm=some ob/\ob.cls= .type "module" /\ob.dict=some builtinsNs/\ob.data= .plain
theorem Kv{Pr:r_}{w:I_}{H:Hp}{h:W_}{P:U}{ps:Array k_}(e:h.get? P=some (PySem.W.tabObj ps)):dF Pr w H h P (rG P ps):=⟨e,⟨_,e⟩,λ_ _ a k=>k _ a⟩
theorem VY{Pr:r_}{w:I_}{H:Hp}{h:W_}{c:U}{q:v_}(e:h.CodeRec (.ref c) q):dF Pr w H h c (Tf c q):=by
 refine⟨e,?_,λh1 h2 a k=>?_⟩
 ·obtain⟨c₂,o,vs,t,e0,e1,_⟩:=e;cases e0;exact⟨o,e1⟩
 ·obtain⟨c₂,o,vs,t,e0,e1,e2⟩:=a;cases e0;exact⟨c,o,vs,t,Y,k _ e1,e2⟩
section
variable{X:Cx}{pins:List (U×qa9)}{σ:St}{H:Hp}{s:n_}
theorem Inv.tab(I:Inv X pins σ H s){P:U}{ps:Array k_}(e:H P=some (rG P ps)):s.heap.get? P=some (PySem.W.tabObj ps):=(I.hok P _ e).1
theorem Inv.cd(I:Inv X pins σ H s){c:U}{q:v_}(e:H c=some (Tf c q)):s.heap.CodeRec (.ref c) q:=(I.hok c _ e).1
theorem Inv.Uv(I:Inv X pins σ H s){P c:U}{ps ps':Array k_}{q:v_}{h' h2:W_}{t':Nat}(e:H P=some (rG P ps))(hx:qcM P s.heap h')(hc:s.heap.objs.size<=c)(hr:h'.CodeRec (.ref c) q)(ht:h'.get? P=some (PySem.W.tabObj ps'))
  (k2:∀b o,h'.get? b=some o->h2.get? b=some o) (hup:s.toks<=t'):Inv X pins σ (upd (upd H P (rG P ps')) c (Tf c q)) { s with heap:=h2,toks:=t' }:=by
 have hn:H c=none:=I.hok.fresh hc;have ncP:c≠P:=λz=>by rw[z,e]at hn;cases hn
 have lt:∀b o,s.heap.get? b=some o->b≠c:=λb o q=>R_ (H_ (E_ q) hc);have neP:∀b,H b=none->b≠P:=λb q z=>by rw[z,e]at q;cases q
 have other:∀b u,(∀ φ,u≠HO.ext φ)->H b=some u->upd (upd H P (rG P ps')) c (Tf c q) b=some u:=λb u hu q=>by
  rw[av (λz=>by rw[z,hn]at q;cases q),av (λz=>by rw[z,e]at q;cases q;exact hu _ Y)];exact q
 have kp:∀b o,b≠P->s.heap.get? b=some o->h2.get? b=some o:=λb o hb q=>k2 b o (hx b o hb q);refine I.un ⟨λb o q n _ _=>kp b o (neP b n) q,λb o q n _ _=>⟨o.slots,kp b o (neP b n) q⟩,λb o q n _=>?_,λb o q _=>?_,λb xs q=>other b _ (λ_ z=>by cases z) q,λb o u q=>other b _ (λ_ z=>by cases z) q,λb ps q=>⟨#[],by rw[other b _ (λ_ z=>by cases z) q];simp⟩⟩ (λb u q=>?_) hup
 ·rw[av (lt b o q),av (neP b n)];exact n
 ·by_cases z:b=P
  ·subst z;exact⟨_,k2 _ _ ht⟩
  ·exact⟨o,kp b o z q⟩
 ·by_cases z:b=c
  ·subst z;rw[ai]at q;cases q;exact VY (vp k2 hr)
  ·rw[av z]at q;by_cases z2:b=P
   ·subst z2;rw[ai]at q;cases q;exact Kv (k2 _ _ ht)
   ·rw[av z2]at q;refine(I.hok b u q).stay (λd v hd qd=>kp d v ?_ qd) (λd qd=>other d _ (λ_ z=>by cases z) qd) λd xs qd=>other d _ (λ_ z=>by cases z) qd;rcases hd with hd|hd
    ·rw[hd];exact z2
    ·intro z3;rw[z3,e]at hd;cases hd
end
theorem UJ{K:PySem.W.Frag}{H1 H2:Hp}{l:U}{vs:List V}(k:∀b u,(∀ φ,u≠HO.ext φ)->H1 b=some u->H2 b=some u)(h:bW K H1 l vs):bW K H2 l vs:=by
 rcases h with(h|⟨o,h⟩)|h
 ·exact .inl (.inl (k _ _ (λ_ z=>by cases z) h))
 ·exact .inl (.inr ⟨o,k _ _ (λ_ z=>by cases z) h⟩)
 ·exact .inr h
theorem Ht{sc:qbn}{env:Env}{x r:v_}{c:U}(hn:sc.names=[(x,.local),(r,.free)])(hc:env.cells.lookup r=some c):closureFor sc env=pure [(r,c)]:=by
 have z:=tO (env:=env) sc.names [] (λy hy hk=>by
  rw[hn]at hy;simp only[B_,qaq,or_false]at hy;rcases hy with rfl|rfl
  ·cases hk
  ·exact⟨c,hc⟩)
 unfold closureFor;dsimp only;rw[z,hn];have e:sM (λx=>env.cells.lookup x) [(x,NameKind.local),(r,qah)] []=[(r,c)]:=by
  unfold sM;rw[if_neg (by decide)];unfold sM;rw[if_pos (by decide)]
  show(match env.cells.lookup r with|some a=>sM _ [] ((r,a)::[])|none=>sM _ [] [])=_
  rw[hc];rfl
 rw[e];rfl
theorem OD{P:r_}{w:I_}{H H':Hp}{h:W_}{d Pt:U}{kvs:List NE}{ps:Array k_}{φ:W_->Prop}(nd:ND P w H d kvs)(ok:um P w H h)(ht:h.get? Pt=some (PySem.W.tabObj ps))(hP:H Pt=some (.ext φ))(off:∀b u,b≠Pt->H b=some u->H' b=some u):ND P w H' d kvs:=by
 have neT:∀{b:U} {xs:List V},H b=some (.tup xs)->b≠Pt:=λ{b xs} e z=>by rw[z,hP]at e;cases e
 refine⟨off _ _ (λz=>?_) nd.at_,λx hx=>?_⟩
 ·obtain⟨_,_,xs,_,o,es,ep,ho,hc,_⟩:=(ok d _ nd.at_).1;rw[z,ht]at ho;cases ho;exact absurd hc.1 (by intro q;cases q)
 ·obtain⟨p,h1,h2⟩:=nd.keys x hx;exact⟨p,off _ _ (neT h1) h1,off _ _ (neT h2) h2⟩
def Ql(KV:r_->I_->Hp->V->V->Int->Prop):Prop:=∀(P:r_) (w:I_) (H H':Hp) (h:W_) (v rv:V) (k:Int) (Pt:U) (ps:Array k_) (φ:W_->Prop),
 KV P w H v rv k->um P w H h->h.get? Pt=some (PySem.W.tabObj ps)->H Pt=some (.ext φ)->(∀b u,b≠Pt->H b=some u->H' b=some u)->KV P w H' v rv k
theorem RE:Ql KV1:=λP w H H' h v rv k Pt ps φ kv ok ht hP off=>by
 obtain⟨p,d,kvs,i,j,rfl,hp,rfl,nd,hv⟩:=kv;exact⟨p,d,kvs,i,j,Y,off _ _ (λz=>by rw[z,hP]at hp;cases hp) hp,Y,OD nd ok ht hP off,hv⟩
theorem RD:Ql KV2:=λP w H H' h v rv k Pt ps φ kv ok ht hP off=>by
 obtain⟨p,d,q,kvs,ky,c,r,rfl,hp,⟨q2,k1,k2⟩,rfl,nd,hv,rfl⟩:=kv;have neT:∀{b:U} {xs:List V},H b=some (.tup xs)->b≠Pt:=λ{b xs} e z=>by rw[z,hP]at e;cases e
 exact⟨p,d,q,kvs,ky,c,r,Y,off _ _ (neT hp) hp,⟨q2,off _ _ (neT k1) k1,off _ _ (neT k2) k2⟩,Y,OD nd ok ht hP off,hv,Y⟩
def Apart(Pr:r_)(wo:I_)(H:Hp)(P:U):Prop:=(∀b q,H b=some (Tf b q)->b≠P)/\∀d kvs,H d=some (wX Pr wo d kvs)->d≠P
theorem Hz{P:r_}{w:I_}{H:Hp}{h:W_}{Pt:U}{ps:Array k_}(ok:um P w H h)(ht:h.get? Pt=some (PySem.W.tabObj ps))(hp:∀q t,ps[1]? ≠some (.str q t)):Apart P w H Pt:=by
 refine⟨λb q e z=>?_,λd kvs e z=>?_⟩
 ·obtain⟨c₂,o,vs,t,e0,e1,e2,e3⟩:=(ok b _ e).1;cases e0;rw[z,ht]at e1;cases e1;cases e2;exact hp _ _ e3
 ·obtain⟨_,_,xs,_,o,es,ep,ho,hc,_⟩:=(ok d _ e).1;rw[z,ht]at ho;cases ho;exact absurd hc.1 (by intro q;cases q)
def WV(Pr:r_)(wo:I_)(K:PySem.W.Frag)(KV:r_->I_->Hp->V->V->Int->Prop)(P:U)(ln:qbO)(lq:v_)(ir:Nat)(ta:TA):TE:=λσ H Q=>ta σ H λzs H1=>wY λ(l:U) (vs:List V) (rv:V) (kf:Nat->Int)=>zs=[.ref l]/\σ[ir]? =some (some rv)/\bW K H1 l vs/\0<vs.length ∧
 (∀i v,vs[i]? =some v->KV Pr wo H1 v rv (kf i))/\TabOk H1 P ln lq/\∀H2,Apart Pr wo H1 P->(∀b u,b≠P->H1 b=some u->H2 b=some u)->TabOk H2 P ln lq->∀i v,vs[i]? =some v->HP kf vs.length i->Q v H2
theorem K1{X:Cx}{c P:U}{e:Expr}{ta:TA}{p pos vF GU:qbO}{ps:qcb}{body:Expr}{sc:qbn}{x r:v_}{ir:Nat}{KV:r_->I_->Hp->V->V->Int->Prop}{Pr:r_}{wo:I_}{K':PySem.W.Frag}(LK:Kc ps body sc x r KV)(KO:Ql KV)(hn:sc.names=[(x,.local),(r,.free)])
  (hcode:X.env.code= .ref c) (hC:PySem.W.codeHdIn X.K c P=true) (hbm:Tp X.base X.mg) (GY:X.calm=true) (hroom:X.A.depth<recursionLimit) (hu:X.A.units+16<cLine)
  (hg:Gl X "min") (hm:X.mg "min" =none) (hv:bootBuiltins "min" =some (.builtin "min")) (hN:X.N[ir]? =some r) (hcell:X.env.kindOf r=some .cell) (ha:PA X [e] ta) (hP:X.prog=Pr) (hw:X.w=wo) (hK:X.K=K') (hd0:defaultsOf ps X.env=([],[]):=by rfl)
  (he:backTo pos (qaf [e] X.env)=(false,eval e X.env)::backTo pos (qaf [] X.env):=by rfl) (hpl:(backTo pos (qaf [e] X.env)).any (·.1)=false:=by rfl) :
  PE X (.Call (.Name "min" p) [e] [⟨some (h_ "key"),.Lambda ps body sc vF,GU⟩] pos) (WV Pr wo K' KV P vF (X.env.qual++ "<lambda>") ir ta):=by
 subst hP hw hK;intro pins s σ H Q I h;refine qbs (rQ I hg hm hv ?_);refine callWith_kw (fR (ha pos pins s σ H _ I h) λus s1 ⟨zs,H1,I1,r1,q1⟩=>?_) he hpl Y Y;obtain⟨l,vs,rv,kf,rfl,hir,hq,hne,hkv,hT,k⟩:=q1;obtain⟨u,rfl,rx⟩:=vals1 r1;cases rx;obtain⟨m,hns,hl⟩:=I1.loc;obtain⟨ru,rru,lk⟩:=hl ir r rv hN hir (.inr (.inl hcell));obtain⟨cc,hcc,hic⟩:∃cc,X.env.cells.lookup r=some cc/\s1.heap.IsCell cc (some ru):=by
  rcases lk with⟨z,_⟩|⟨_,z⟩
  ·rw[hcell]at z;cases z
  ·exact z
 have hcl:=Ht hn hcc;refine kws_cons (PySem.W.kla_eval hd0 ?_);have hgs:s1.heap.Ns J_ X.mg:=I1.mod.glob.keeps I1.bk;obtain⟨bm,ob,b1,b2,b3,b4,b5,b6⟩:=hbm;have Wy:=I1.bk _ _ b3;have hCh:=PySem.W.codeHd_of_K I1.yI hC;have ext:∃ φ,H1 P=some (.ext φ):=by
  rcases hT with hT|⟨_,hT,_⟩
  ·exact⟨_,hT⟩
  ·exact⟨_,hT⟩
 obtain⟨φ,hφ⟩:=ext;have hAp:Apart X.prog X.w H1 P:=by
  rcases hT with hT|⟨_,hT,_⟩
  ·exact Hz I1.hok (I1.tab hT) (λq t z=>by cases z)
  ·exact Hz I1.hok (I1.tab hT) (λq t z=>by cases z)
 have after:∀(q:U) (H2:Hp) (s2:n_),Inv X pins σ H2 s2->(∀b u,b≠P->H1 b=some u->H2 b=some u)->TabOk H2 P vF (X.env.qual++ "<lambda>")->bW X.K H2 l vs->BS s2.heap q (X.env.qual++ "<lambda>") ps body sc [(r,cc)]->s2.heap.IsCell cc (some ru)->(∀i v,vs[i]? =some v->KV X.prog X.w H2 v rv (kf i)) →
   C_ (model X.prog X.w) X.A (evalAll ((backToKw pos (keywordEach [] X.env)).map (·.2)))
    (λkvs s₂=>C_ (model X.prog X.w) X.A (call (.builtin "min") [.ref l] (((backToKw pos (keywordEach [⟨some (h_ "key"),.Lambda ps body sc vF,GU⟩] X.env)).filterMap (·.1)).zip (.ref q::kvs))) (EP X pins σ Q) X.xe s₂) X.xe s2:=by
  intro q H2 s2 I2 hH2 hT2 hq2 adG hc2 adq;refine kws_nil ?_;show C_ _ X.A (call (.builtin "min") [.ref l] [(h_ "key",.ref q)]) _ _ s2;have k1:=k H2 hAp hH2 hT2;obtain⟨its,r',pl,hz⟩:=I2.list hq2;have hlen:=r'.length;refine TK.bX (j_ _) (MY (kf:=kf) (I2.ok.hd GY) pl.isList (λi v h tk Q' hv' kp hQ=>?_) (by omega) λi v h' tk' hv' hb kp hup=>?_)
  ·have hi:i<its.length:=(o_.mp hv').1;have hi1:i<vs.length:=by omega
   obtain⟨u',eu,Su⟩:=r'.get (g_ hi1);rw[hv']at eu;cases eu;obtain⟨oc,gc1,gc2⟩:=hc2;refine Mw (s:={ s2 with heap:=h,toks:=tk }) (A:=X.A.in1) (rv:=ru) (adG.keep kp) LK.1 ⟨oc,kp _ _ gc1,gc2⟩ (I2.nolimit.keeps kp) hroom λenv A' h1 LP E' hA GU L=>?_;refine LK.2 X.prog X.w H2 vs[i] rv (kf i) v ru s2 h1 LP A' env _ _ (adq i _ (g_ hi1)) Su rru (I2.hok.kept λb o z=>GU b o (kp b o z)) (by rw[hA];show X.A.units+1+3+2<cLine;omega) L λh' tk' t k'=>?_;exact hQ h' tk' t λb o z=>k' b o (GU b o z)
  ·have hi:i<its.length:=(o_.mp hv').1;have hi1:i<vs.length:=by omega
   obtain⟨u',eu,Su⟩:=r'.get (g_ hi1);rw[hv']at eu;cases eu;refine⟨vs[i],H2,I2.kept kp hup,Su,k1 i _ (g_ hi1) ?_⟩;rw[show vs.length=its.length by omega];exact hb
 have off:∀b,H1 b=none->b≠P:=λb q z=>by rw[z,hφ]at q;cases q
 have Xu:∀{ps':Array k_},H1 P=some (rG P ps')->s1.heap.get? P=some (PySem.W.tabObj ps')->J_≠P/\bm≠P/\cc≠P:=λ{ps'} e e'=>by
  refine⟨λz=>?_,λz=>?_,λz=>?_⟩
  ·obtain⟨o,es,ep,eo,hd,_⟩:=hgs;rw[z,e']at eo;cases eo;cases hd
  ·rw[z,e']at Wy;cases Wy;cases b4
  ·obtain⟨o,g1,g2⟩:=hic;rw[z,e']at g1;cases g1;cases g2
 have bmG:bm≠J_:=λz=>by
  obtain⟨o,es,ep,eo,hd,_⟩:=hgs;rw[z,eo]at Wy;cases Wy;rw[hd]at b6;cases b6
 rcases id hT with e0|⟨c',e0,ec⟩
 ·have tb:=I1.tab e0;obtain⟨n1,n2,n3⟩:=Xu e0 tb;refine TK.bX (j_ _) (PySem.W.kla_makeFunction (mg:=X.mg) (ps:= #[]) hcl I1.ok.glob hgs hcode hCh tb trivial Y n1 ⟨bm,ob,b1,b2,bmG,n2,Wy,b4,b5,b6⟩ λc' ctv h' tk hx hge hlt hrec htb hup=>?_);have hcn:H1 c'=none:=I1.hok.fresh hge;have ncP:P≠c':=λz=>off c' hcn z.symm;have htb':h'.get? P=some (PySem.W.tabObj #[rawInt vF.line,rawInt vF.col,.ref c']):=by
   have:=htb
   rwa [show(#[]:Array k_)++ #[rawInt vF.line,rawInt vF.col,Value.ref c']= #[rawInt vF.line,rawInt vF.col,Value.ref c'] from rfl]at this
  have hoff:∀b u,b≠P->H1 b=some u->upd (upd H1 P (rG P #[rawInt vF.line,rawInt vF.col,.ref c'])) c' (Tf c' (X.env.qual++ "<lambda>")) b=some u:=λb u hb q=>by
   rw[av (λz=>by rw[z,hcn]at q;cases q),av hb];exact q
  refine after _ (upd (upd H1 P (rG P #[rawInt vF.line,rawInt vF.col,.ref c'])) c' (Tf c' (X.env.qual++ "<lambda>"))) _ (I1.Uv e0 hx hge hrec htb' (λb o q=>m_ _ q) hup) hoff (.inr ⟨c',by rw[av ncP,ai],ai⟩) ?_ ⟨_,c',ctv,t_ _ Y,vp (λb o q=>m_ _ q) hrec⟩ ?_ λi v hi=>KO _ _ _ _ _ _ _ _ _ _ _ (hkv i v hi) I1.hok tb e0 hoff
  ·refine UJ (λb u hu q=>?_) hq;rw[av (λz=>by rw[z,hcn]at q;cases q),av (λz=>by rw[z,e0]at q;cases q;exact hu _ Y)];exact q
  ·obtain⟨o,g1,g2⟩:=hic;exact⟨o,m_ _ (hx _ _ n3 g1),g2⟩
 ·have tb:=I1.tab e0;obtain⟨n1,n2,n3⟩:=Xu e0 tb;refine TK.bX (j_ _) (PySem.W.kla_makeFunctionHit (mg:=X.mg) (ps:= #[rawInt vF.line,rawInt vF.col,.ref c']) (cv:=.ref c') hcl I1.ok.glob hgs hcode hCh tb ?_ ?_ ⟨bm,ob,b1,b2,bmG,n2,Wy,b4,b5,b6⟩ λctv h' tk kp hsz hup=>?_)
  ·show TriplesOk [rawInt _,rawInt _,_];exact trivial
  ·exact codeAmong_snoc [] trivial Y
  ·obtain⟨o,g1,g2⟩:=hic;exact after _ H1 _ (I1.kept (λb o q=>m_ _ (kp b o q)) hup) (λb u _ q=>q) hT hq ⟨_,c',ctv,t_ _ Y,vp (λb o q=>m_ _ (kp b o q)) (I1.cd ec)⟩ ⟨o,m_ _ (kp _ _ g1),g2⟩ hkv
end
section
noncomputable def fq(K:PySem.W.Frag)(n:v_):U:=match PySem.W.nsIn K J_ n with
 |some (some (.ref f))=>(match K.lookup f with
  |some ⟨_,_,.func fd,_⟩=>(match fd.code with
   | .ref c=>(match K.lookup c with
    |some ⟨_,_,.fields vs,_⟩=>(match (vs[11]? :Option k_)with|some (.ref P)=>P|_=>0)
    |_=>0)
   |_=>0)
  |_=>0)
 |_=>0
noncomputable def ue(K:PySem.W.Frag)(n:v_):Bool:=match PySem.W.nsIn K J_ n with
 |some (some (.ref f))=>(match K.lookup f with
  |some ⟨_,_,.func fd,_⟩=>(match fd.code with
   | .ref c=>PySem.W.codeHdIn K c (fq K n)&&(K.lookup (fq K n)).isNone
   |_=>false)
  |_=>false)
 |_=>false
theorem O1{K:PySem.W.Frag}{n:v_}{f:U}{oc:k_}{od:Option U}{fd:F_}{osl:Array (Option k_)}(h:ue K n=true)(a:PySem.W.nsIn K J_ n=some (some (.ref f)))(l:K.lookup f=some ⟨oc,od,.func fd,osl⟩):
  ∃c,fd.code= .ref c/\PySem.W.codeHdIn K c (fq K n)=true:=by
 unfold ue at h;rw[a]at h;simp only[l]at h;split at h
 ·rename_i c hc
  exact⟨c,hc,(Bool.and_eq_true_iff.mp h).1⟩
 ·cases h
theorem GS{K:PySem.W.Frag}{n:v_}(h:ue K n=true):(∃c,PySem.W.codeHdIn K c (fq K n)=true)/\K.lookup (fq K n)=none:=by
 unfold ue at h;split at h
 ·split at h
  ·split at h
   ·obtain⟨h1,h2⟩:=Bool.and_eq_true_iff.mp h;exact⟨⟨_,h1⟩,Option.isNone_iff_eq_none.mp h2⟩
   ·cases h
  ·cases h
 ·cases h
section
variable{P:r_}{w:I_}{K:PySem.W.Frag}{mg:v_->Option k_}{base:W_}
theorem Nm.okL{x qual:v_}{st:qam}{f:U}{fd:F_}{N ps:List v_}{k:Nat}{sp:Sp}(F:Nm K x qual st f fd)(ado:ue K x=true)(hns:PySem.W.nsIn K J_ x=some (some (.ref f)))(S:aE N ps (au st))(len:∀vs H Q E,sp vs H Q E->vs.length=ps.length)
  (hbody:∀(c:U) (A:qab) (outer:List Env) (s:n_) (H:Hp) (vs:List V) (Q:VK) (E:XK),PySem.W.codeHdIn K c (fq K x)=true->nP k (A.deeper (envOfC qual (au st) s.heap.objs.size f (.ref c)))->sp vs H Q E →
   ∃t,Fv (Hl bL P w K mg base N qual (au st) f (.ref c) A outer s H E).UW (fH st) t/\t { nx:=λ_ H'=>Q .jG H',rt:=Q } (start N vs) H):aH P w K mg base bL (k+1) f fd ps sp:=by
 obtain⟨oc,od,dV,kV,doc,pm,an,cdv,ct,osl,rfl,lk,hcd⟩:=F.ex;obtain⟨c,e1,e2⟩:=O1 ado hns lk;have e1':cdv= .ref c:=e1;subst e1';refine Td lk hcd S len λA outer s H vs Q E hr Nk=>?_;obtain⟨t,h,q⟩:=hbody c A outer s H vs Q E e2 hr Nk;exact⟨t,h.UW,q⟩
end
set_option maxHeartbeats 1000000 in
theorem Mv{P:r_}{w:I_}{K:PySem.W.Frag}{mg mb:v_->Option k_}{CX:Qv}{k:Nat}{fa a:U}{ts:List U}{fd:F_}{x:v_}{sp:Sp}{s₁:n_}{vs:List k_}{ns:List Int}
  (KX:K.In s₁.heap) (hns:s₁.heap.Ns J_ mg) (hb:s₁.heap.Ns builtinsNs mb) (hbb:∀x:v_,x≠ "__name__" ->mb x=bootBuiltins x) (hlim:s₁.heap.NoLimit) (hg:s₁.gens= #[]) (htk:JX mg s₁.toks) (hbm:Tp s₁.heap mg)
  (hT:∀P∈ts,s₁.heap.get? P=some (PySem.W.tabObj #[])) (hTk:∀P∈ts,K.lookup P=none) (hTc:∀P∈ts,∃c,PySem.W.codeHdIn K c P=true)
  (ha:s₁.heap.get? a=some { cls:=.type "list",data:=.seq vs.toArray }) (hi:IntsAre vs ns) (hl:ns.length<=D_) (hr:nP k callerA)
  (F:∀base:W_,K.In base->base.Ns J_ mg->Tp base mg->aH P w K mg base CX k fa fd [x] sp) (hbind:∀(s:n_) (u:k_),BindsTo s fd ⟨[u],[]⟩ [(x,u)])
  (Nk:∀H:Hp,(∀P∈ts,H P=some (rG P #[]))->bW K H a (ns.map V.int)->sp [.ref a] H (λv H'=>v= .bl true/\∀P∈ts,∃ps,H' P=some (rG P ps)) λ_ _ _=>False)
  (hCX:∀H e s',CX [] H s₁ (λ_ _ _=>False) e s'->False) :
  codeAny (model P w) callerA (.call (.ref fa) ⟨[.ref a],[]⟩) (λr s'=>r= .ok (.ret (.bool true))/\OldK s₁.heap s'.heap/\s'.os=s₁.os/\AllBare s'.gens) s₁:=by
 have rv:=C0 hi;have acR:=hi.length;have nPa:a∉ts:=λz=>by have:=hT a z;rw[ha]at this;cases this
 have core:∀H:Hp,(∀b,H b=none\/b∈ts\/dP λo xs=>H b=some (.yg o (.lst xs)))->(∀P∈ts,H P=some (rG P #[]))->bW K H a (ns.map V.int)->um P w H s₁.heap->(∀b,H b≠none->b=a\/b∈ts)->(H a≠none->K.lookup a=none) →
   codeAny (model P w) callerA (.call (.ref fa) ⟨[.ref a],[]⟩) (λr s'=>r= .ok (.ret (.bool true))/\OldK s₁.heap s'.heap/\s'.os=s₁.os/\AllBare s'.gens) s₁:=by
  intro H hO hPt hS hok hA hK;have baseOf:∀{b:U} {o:qa9},s₁.heap.get? b=some o->H b=none->(Cy s₁.heap H).get? b=some o:=λe n=>Pj e n;have free:∀{b:U} {o:qa9},s₁.heap.get? b=some o->o≠{ cls:=.type "list",data:=.seq vs.toArray }->o≠PySem.W.tabObj #[]->H b=none:=λ{b o} e d1 d2=>by
   cases q:H b with
   |none=>rfl
   |some u =>
    rcases hA b (by rw[q];simp)with e'|e'
    ·subst e';rw[ha]at e;cases e;exact absurd Y d1
    ·rw[hT b e']at e;cases e;exact absurd Y d2
  have Z2:∀{b:U} {m:v_->Option k_},s₁.heap.Ns b m->(Cy s₁.heap H).Ns b m:=λ{b m} ⟨o,es,ep,e,d,r⟩=>⟨o,es,ep,baseOf e (free e (λz=>by rw[z]at d;cases d) (λz=>by rw[z]at d;cases d)),d,r⟩;have hKb:K.In (Cy s₁.heap H):=λb o e=>baseOf (KX b o e) (by
   cases q:H b with
   |none=>rfl
   |some u =>
    rcases hA b (by rw[q];simp)with e'|e'
    ·subst e';rw[hK (by rw[q];simp)]at e;cases e
    ·rw[hTk b e']at e;cases e)
  have hBb:Tp (Cy s₁.heap H) mg:=by
   obtain⟨bm,ob,b1,b2,b3,b4,b5,b6⟩:=hbm;exact⟨bm,ob,b1,b2,baseOf b3 (free b3 (λz=>by rw[z]at b6;cases b6) (λz=>by rw[z]at b6;cases b6)),b4,b5,b6⟩
  have hM:Mod K mg (Cy s₁.heap H):=⟨hKb,Z2 hns,⟨mb,Z2 hb,hbb⟩,let ⟨mc,h1,h2⟩:=hlim;⟨mc,Z2 h1,h2⟩⟩
  have e0:Km P w K mg (Cy s₁.heap H) callerA [] s₁ H:=⟨rfl,hM,λb o e=>Rj e,qcz (MG _ _),trivial,λb hb=>absurd (show b∈([]:List U) from hb) (by simp),hok,.of_eq hg,htk⟩;refine qcA ((F _ hKb (Z2 hns) hBb).run callerA [] s₁ H ⟨[.ref a],[]⟩ [.ref a] [.ref a] _ _ hr e0 (hbind s₁ (.ref a)) (.cons Y .nil) (Nk H hPt hS)) λr s' h=>?_
  cases r with
  |error e=>exact(hCX H e s' h).elim
  |ok fl =>
   cases fl with
   |next=>exact qbm h
   |brk=>exact qbm h
   |cont=>exact qbm h
   |ret u =>
    obtain⟨v,H',os,bare,un,YI,r',_,q,qT⟩:=h;have q':v= .bl true:=q;subst q';obtain rfl:u=Value.bool true:=r';have tb:∀P∈ts,∃ps',s'.heap.get? P=some (PySem.W.tabObj ps'):=λP hP=>by obtain⟨ps',z⟩:=qT P hP;exact⟨ps',(YI P _ z).1⟩
    have kp:∀b o,b∉ts->s₁.heap.get? b=some o->s'.heap.get? b=some o:=λb o QF e=>by
     cases q:H b with
     |none=>exact un.keep b o e q (by intro z;exact absurd (show b∈([]:List U) from z) (by simp)) (by simp)
     |some u =>
      rcases hO b with z|z|⟨ob,xs,z⟩
      ·rw[q]at z;cases z
      ·exact absurd z QF
      ·have z2:=un.Cz b ob _ z;obtain⟨e1,_⟩:=hok b _ z;obtain⟨e2,_⟩:=YI b _ z2;rw[e]at e1;cases e1;exact e2
    refine⟨Y,⟨λb o e=>?_,λb o e=>?_⟩,os,bare⟩
    ·by_cases QF:b∈ts
     ·rw[hT b QF]at e;cases e;obtain⟨c,hc⟩:=hTc b QF;obtain⟨ps',e1⟩:=tb b QF;have hcd:=PySem.W.codeHd_of_K KX hc;exact .inr (.inl ⟨(hcd.tab (hT b QF)).isCodeTable,Y,#[],ps',Y,by rw[e1];simp[PySem.W.tabObj]⟩)
     ·exact .inl (kp b o QF e)
    ·by_cases QF:b∈ts
     ·obtain⟨ps',e1⟩:=tb b QF;exact⟨_,e1⟩
     ·exact⟨o,kp b o QF e⟩
 have okT:∀(H:Hp) (b:U),b∈ts->dF P w H s₁.heap b (rG b #[]):=λH b hb=>Kv (hT b hb)
 cases hk:K.lookup a with
 |some o =>
  have e:=KX a o hk;rw[ha]at e;cases e
  refine core (λb=>if b∈ts then some (rG b #[])else none) (λb=>?_) (λb hb=>if_pos hb) (.inr ⟨_,vs.toArray,_,hk,Y,Y,Y,by rw[K_,acR];exact hl,by simpa using rv⟩) (λb u z=>?_) (λb z=>?_) λz=>absurd (if_neg nPa) z
  ·by_cases hb:b∈ts
   ·exact .inr (.inl hb)
   ·exact .inl (if_neg hb)
  ·by_cases hb:b∈ts
   ·have z':=(if_pos hb).symm.trans z;cases z';exact okT _ b hb
   ·have z':=(if_neg hb).symm.trans z;cases z'
  ·by_cases hb:b∈ts
   ·exact .inr hb
   ·exact absurd (if_neg hb) z
 |none =>
  refine core (λb=>if b=a then some (.yg { cls:=.type "list",data:=.seq vs.toArray } (.lst (ns.map V.int)))else if b∈ts then some (rG b #[])else none) (λb=>?_) (λb hb=>?_) (.inl (.inr ⟨{ cls:=.type "list",data:=.seq vs.toArray },if_pos Y⟩)) (λb u z=>?_) (λb z=>?_) λ_=>hk
  ·by_cases hb:b=a
   ·exact .inr (.inr ⟨_,_,if_pos hb⟩)
   ·by_cases hb2:b∈ts
    ·exact .inr (.inl hb2)
    ·exact .inl ((if_neg hb).trans (if_neg hb2))
  ·exact(if_neg (λz:b=a=>nPa (z▸hb))).trans (if_pos hb)
  ·by_cases hb:b=a
   ·have z':=(if_pos hb).symm.trans z;cases z';subst hb;exact⟨ha,by rw[l_];exact hl,vs,_,rv,ha⟩
   ·by_cases hb2:b∈ts
    ·have z':=((if_neg hb).trans (if_pos hb2)).symm.trans z;cases z';exact okT _ b hb2
    ·have z':=((if_neg hb).trans (if_neg hb2)).symm.trans z;cases z'
  ·by_cases hb:b=a
   ·exact .inl hb
   ·by_cases hb2:b∈ts
    ·exact .inr hb2
    ·exact absurd ((if_neg hb).trans (if_neg hb2)) z
theorem LL{l:PySem.W.OpenLaw}{n k N t:Nat}{q:r_}{loose:List v_}{XP:(v_->Option k_)->W_->Prop}{as:List U}{d:DefRec}{K K':Params->PySem.W.Frag}{CX:I_->Qv}{sp:I_->Sp}{x:v_}{nms:List v_}
  (hn:l.most=some n) (hn2:n<=D_) (hdf:d.params.defaults=[]) (hr:nP k callerA)
  (hk:∀P,as=(K P).map (·.1)) (ht:0<t)
  (hY:∀(P:Params) (h:W_),(K P).In h->(K' P).In h) (hYT:∀(P:Params) (h:W_),(K P).In h->∀nm∈nms,h.get? (fq (K' P) nm)=some (PySem.W.tabObj #[])) (hL:∀w:I_,∀nm∈nms,ue (K' w.params) nm=true)
  (F:∀(w:I_) (mg:v_->Option k_) (fa:U) (h:W_),(K' w.params).In h->h.Ns J_ mg->mg d.name=some (.ref fa) →
   ∃fd:F_,(∀(s:n_) (u:k_),BindsTo s fd ⟨[u],[]⟩ [(x,u)]) ∧
    ∀base:W_,(K' w.params).In base->base.Ns J_ mg->Tp base mg->aH l.prog w (K' w.params) mg base (CX w) k fa fd [x] (sp w))
  (Nk:∀(w:I_) (H:Hp) (a:U) (ns:List Int),ns.length<=n->(∀nm∈nms,H (fq (K' w.params) nm)=some (rG (fq (K' w.params) nm) #[]))->bW (K' w.params) H a (ns.map V.int)->sp w [.ref a] H (λv H'=>v= .bl true/\∀nm∈nms,∃ps,H' (fq (K' w.params) nm)=some (rG (fq (K' w.params) nm) ps)) λ_ _ _=>False)
  (hCX:∀(w:I_) (H:Hp) (s:n_) (e:k_) (s':n_),CX w [] H s (λ_ _ _=>False) e s'->False) :
  PySem.W.WalkX q loose XP (PySem.W.X.obsZ as) (PySem.W.X.valZ K N t) l.row.toRowW d [] (λf vs=>PySem.call f vs):=by
 intro w s₀ s₁ mg mb G y fa o pm cd doc dV kV ho hd hcd hD hmg hg args vals as' L hpre hlay hrd hwl hlo;have Z:=PySem.W.X.z_facts hk y;have tk:t<=s₁.toks:=by
  obtain⟨ord,_,e⟩:=L.laid;have g:=(PySem.W.layAllW_grows _ _ _ e).toks;rw[Z.2.2.2]at g;exact g
 have KX0:(K w.params).In s₁.heap:=PySem.W.InK.keeps w s₀.heap s₁.heap Z.2.1 L.keeps;have KX:=hY _ _ KX0;obtain rfl:dV= .none:=PySem.W.Dflts.none hD hdf;obtain rfl:kV= .none:=PySem.W.Dflts.noKw hD;obtain⟨a,vs,ns,rfl,rfl,hobj,hints,hlen⟩:=Att.LX hn hpre hwl;obtain⟨fd,hb,hF⟩:=F w mg fa _ KX G.T.g hmg;refine PySem.W.enter_call (qcA (Mv (ts:=nms.map (fq (K' w.params))) KX G.T.g G.T.b G.T.builtins G.T.nolimit hg (show 0<s₁.toks from H_ ht tk) G.T.bmain
  (λP hP=>by obtain⟨nm,hm,rfl⟩:=U_.mp hP;exact hYT _ _ KX0 nm hm) (λP hP=>by obtain⟨nm,hm,rfl⟩:=U_.mp hP;exact(GS (hL w nm hm)).2) (λP hP=>by obtain⟨nm,hm,rfl⟩:=U_.mp hP;exact(GS (hL w nm hm)).1)
  hobj hints (p_ hlen hn2) hr hF hb (λH hO hS=>by
   have z:=Nk w H a ns hlen (λnm hm=>hO _ (U_.mpr ⟨nm,hm,rfl⟩)) hS;have e:(λ(v:V) (H':Hp)=>v= .bl true/\∀P∈nms.map (fq (K' w.params)),∃ps,H' P=some (rG P ps))=λv H'=>v= .bl true/\∀nm∈nms,∃ps,H' (fq (K' w.params) nm)=some (rG (fq (K' w.params) nm) ps):=by
    funext v H';simp
   rw[e];exact z) λH e s'=>hCX w H s₁ e s') λr s' hq=>?_)
 obtain⟨rfl,h2,h3,h4⟩:=hq
 exact⟨.inl ⟨.bool true,.bool true,[],Y,λ_=>rfl,.bool true,Att.L3 l _,λ_=>⟨List.Pairwise.nil,λ_ hm=>(nomatch hm)⟩⟩,h2,h3,h4⟩
end
end L2
namespace GP
open PySem L2 rF
noncomputable def zH:List Int->Int
 |[]=>0
 |x::xs=>xs.foldl min x
theorem wM:∀(l:List Int) (x:Int),l.foldl min x<=x/\∀y∈l,l.foldl min x<=y
 |[],x=>⟨Int.le_refl _,λy hy=>(nomatch hy)⟩
 |a::l,x=>by
  obtain⟨h1,h2⟩:=wM l (min x a);rw[qbA];refine⟨by omega,λy hy=>?_⟩;rcases B_.mp hy with rfl|hy
  ·omega
  ·exact h2 y hy
theorem zh:∀(l:List Int) (x:Int),l.foldl min x=x\/l.foldl min x∈l
 |[],x=>.inl rfl
 |a::l,x=>by
  rw[qbA];rcases zh l (min x a)with h|h
  ·rw[h];by_cases e:x<=a
   ·exact .inl (by omega)
   ·rw[show min x a=a by omega];exact .inr z_
  ·exact .inr (s_ _ h)
theorem Ab{l:List Int}{x:Int}(h:x∈l):zH l<=x:=by
 cases l with
 |nil=>exact nomatch h
 |cons a l =>
  rcases B_.mp h with rfl|h
  ·exact(wM l _).1
  ·exact(wM l a).2 x h
theorem GN{l:List Int}(h:l≠[]):zH l∈l:=by
 cases l with
 |nil=>exact absurd Y h
 |cons a l =>
  rcases zh l a with h|h
  ·exact B_.mpr (.inl h)
  ·exact s_ _ h
theorem Rn{l:List Int}{x:Int}(h:x∈l)(h2:∀y∈l,x<=y):zH l=x:=Int.le_antisymm (Ab h) (h2 _ (GN (qbU h)))
noncomputable def fmin{α:Type}(f:α->Int):List α->Option α
 |[]=>none
 |x::xs=>match fmin f xs with
  |none=>some x
  |some y=>if f y<f x then some y else some x
theorem lH{α:Type}{f:α->Int}:∀{l:List α} {x:α},fmin f l=some x->x∈l
 |[],x,h=>by cases h
 |a::l,x,h=>by
  unfold fmin at h;split at h
  ·cases h;exact z_
  ·next y e =>
   split at h
   ·cases h;exact s_ _ (lH e)
   ·cases h;exact z_
theorem Ag{α:Type}{f:α->Int}:∀{l:List α} {k:Nat} {x:α},l[k]? =some x->(∀j y,l[j]? =some y->f x<=f y/\(j<k->f x<f y))->fmin f l=some x
 |[],k,x,h,_=>by simp at h
 |a::l,0,x,h,hx=>by
  obtain rfl:a=x:=by simpa using h
  unfold fmin;split
  ·rfl
  ·next y e =>
   obtain⟨j,hj,ey⟩:=qa7 (lH e);have:=(hx (j+1) y (by simpa using(o_.mpr ⟨hj,ey⟩))).1;rw[if_neg (by omega)]
 |a::l,k+1,x,h,hx=>by
  have e:fmin f l=some x:=Ag (k:=k) (by simpa using h) λj y hy=>by
   have:=hx (j+1) y (by simpa using hy);exact⟨this.1,λz=>this.2 (by omega)⟩
  unfold fmin;rw[e];have:=(hx 0 a rfl).2 (by omega);simp[this]
theorem vz{α:Type}{f:α->Int}{l:List α}(h:l≠[]):∃x,fmin f l=some x:=by
 cases l with
 |nil=>exact absurd Y h
 |cons a l =>
  unfold fmin;split
  ·exact⟨_,Y⟩
  ·split<;>exact⟨_,Y⟩
theorem tM{α:Type}{f:α->Int}:∀{l:List α} {x y:α},fmin f l=some x->y∈l->f x<=f y
 |[],x,y,h,_=>by cases h
 |a::l,x,y,h,hy=>by
  unfold fmin at h;split at h
  ·next e =>
   cases h;rcases B_.mp hy with rfl|hy
   ·exact Int.le_refl _
   ·obtain⟨z,ez⟩:=vz (f:=f) (qbU hy);rw[e]at ez;cases ez
  ·next z e =>
   have k:=λhy=>tM (y:=y) e hy;split at h
   ·cases h;rcases B_.mp hy with rfl|hy
    ·omega
    ·exact k hy
   ·cases h;rcases B_.mp hy with rfl|hy
    ·exact Int.le_refl _
    ·have:=k hy;omega
noncomputable abbrev aY:=Nat×Nat×Nat
structure Gd where
 n:Nat
 m:Nat
 pc:Nat->Nat->Int
 op:Int
 mo:Int
 en:Nat->Nat->Bool
noncomputable def Gd.ac(g:Gd)(v c:Nat):Int:=if v=c then g.mo else g.op+g.mo
noncomputable def Gd.steps(g:Gd)(s:aY):List (aY×Int) :=
 (if s.1<g.n/\s.2.1<g.m then [((s.1+1,s.2.1+1,112),g.pc s.1 s.2.1)]else [])++((if s.1<g.n then [((s.1+1,s.2.1,97),g.ac 97 s.2.2)]else [])++(if s.2.1<g.m then [((s.1,s.2.1+1,98),g.ac 98 s.2.2)]else []))
noncomputable def Gd.costs(g:Gd)(R:aY->Int)(s:aY):List Int:=(g.steps s).map (λt=>t.2+R t.1)++if g.en s.1 s.2.1 then [0]else []
noncomputable def Gd.Sv(g:Gd):Nat->aY->Int
 | 0,_=>0
 |d+1,s=>zH (g.costs (g.Sv d) s)
noncomputable def Gd.ht(g:Gd)(s:aY):Nat:=g.n-s.1+(g.m-s.2.1)
noncomputable def Gd.rest(g:Gd)(s:aY):Int:=g.Sv (g.ht s+1) s
def Gd.In(g:Gd)(s:aY):Prop:=s.1<=g.n/\s.2.1<=g.m/\(s.2.2=112\/s.2.2=97\/s.2.2=98)
theorem Gd.dI{g:Gd}{s:aY}{t:aY×Int}:t∈g.steps s↔(s.1<g.n/\s.2.1<g.m/\t=((s.1+1,s.2.1+1,112),g.pc s.1 s.2.1))\/(s.1<g.n/\t=((s.1+1,s.2.1,97),g.ac 97 s.2.2))\/(s.2.1<g.m/\t=((s.1,s.2.1+1,98),g.ac 98 s.2.2)):=by
 unfold Gd.steps;simp only[V_];by_cases h1:s.1<g.n<;>by_cases h2:s.2.1<g.m<;>simp[h1,h2]
theorem Gd.lO{g:Gd}{s:aY}{t:aY×Int}(h:t∈g.steps s)(hs:g.In s):g.In t.1:=by
 obtain⟨h1,h2,_⟩:=hs;rcases Gd.dI.mp h with⟨a,b,rfl⟩|⟨a,rfl⟩|⟨a,rfl⟩
 ·exact⟨a,b,.inl Y⟩
 ·exact⟨a,h2,.inr (.inl Y)⟩
 ·exact⟨h1,a,.inr (.inr Y)⟩
theorem Gd.eY{g:Gd}{s:aY}{t:aY×Int}(h:t∈g.steps s):g.ht t.1<g.ht s:=by
 unfold Gd.ht;rcases Gd.dI.mp h with⟨a,b,rfl⟩|⟨a,rfl⟩|⟨a,rfl⟩<;>simp only<;>omega
theorem Gd.uS{g:Gd}{R R':aY->Int}{s:aY}(h:∀t∈g.steps s,R t.1=R' t.1):g.costs R s=g.costs R' s:=by
 unfold Gd.costs;rw[qbF λt ht=>by rw[h t ht]]
theorem Gd.AH{g:Gd}:∀(d:Nat) (s:aY),g.ht s<d->g.Sv d s=g.rest s
 | 0,_,h=>by omega
 |d+1,s,h=>by
  have e1:∀t∈g.steps s,g.Sv d t.1=g.rest t.1:=λt ht=>Gd.AH d t.1 (by have:=Gd.eY ht;omega);by_cases hd:d=g.ht s
  ·subst hd;rfl
  ·have e2:∀t∈g.steps s,g.Sv (g.ht s) t.1=g.rest t.1:=λt ht=>by
    have:=Gd.eY ht;have hlt:g.ht s<d:=by omega
    exact Gd.AH (g.ht s) t.1 this
   show zH (g.costs (g.Sv d) s)=zH (g.costs (g.Sv (g.ht s)) s);rw[Gd.uS e1,Gd.uS e2]
 termination_by d=>d
theorem Gd.rest_eq(g:Gd)(s:aY):g.rest s=zH (g.costs g.rest s):=by
 show zH (g.costs (g.Sv (g.ht s)) s)=_;rw[Gd.uS λt ht=>Gd.AH _ t.1 (Gd.eY ht)]
def Gd.Ok(g:Gd):Prop:=g.en g.n g.m=true
theorem Gd.Hs{g:Gd}(ok:g.Ok){R:aY->Int}{s:aY}(hs:g.In s):g.costs R s≠[]:=by
 unfold Gd.costs Gd.steps;obtain⟨h1,h2,_⟩:=hs;by_cases a:s.1<g.n
 ·simp[a]
 ·by_cases b:s.2.1<g.m
  ·simp[b]
  ·have e1:s.1=g.n:=by omega
   have e2:s.2.1=g.m:=by omega
   have ok':g.en g.n g.m=true:=ok;rw[e1,e2,ok'];simp
noncomputable def Gd.stop(g:Gd)(s:aY):Bool:=g.en s.1 s.2.1&&decide (g.rest s=0)
noncomputable def Gd.key(g:Gd)(t:aY×Int):Int:=t.2+g.rest t.1
noncomputable def Gd.Ng(g:Gd)(s:aY):aY:=((fmin g.key (g.steps s)).map (·.1)).getD s
theorem Gd.go{g:Gd}(ok:g.Ok){s:aY}(hs:g.In s)(h:g.stop s=false):∃t,fmin g.key (g.steps s)=some t/\t∈g.steps s/\g.Ng s=t.1/\g.key t=g.rest s/\∀u∈g.steps s,g.key t<=g.key u:=by
 have hm:=GN (Gd.Hs ok (R:=g.rest) hs);rw[←g.rest_eq]at hm;have hx:g.rest s∈(g.steps s).map g.key:=by
  rcases V_.mp hm with hm|hm
  ·exact hm
  ·exfalso;unfold Gd.stop at h;by_cases e:g.en s.1 s.2.1=true
   ·rw[if_pos e]at hm;have:g.rest s=0:=by simpa using hm
    rw[e,this]at h;simp at h
   ·rw[if_neg e]at hm
    exact nomatch hm
 obtain⟨u,hu,eu⟩:=U_.mp hx;obtain⟨t,ht⟩:=vz (f:=g.key) (qbU hu);refine⟨t,ht,lH ht,by unfold Gd.Ng;rw[ht];rfl,?_,λv hv=>tM ht hv⟩;have h1:=tM ht hu;have h2:g.rest s<=g.key t:=by
  rw[g.rest_eq];exact Ab (qav _ (U_.mpr ⟨t,lH ht,Y⟩))
 omega
noncomputable def Gd.way(g:Gd):Nat->aY->List Nat
 | 0,_=>[]
 |d+1,s=>if g.stop s then []else(g.Ng s).2.2::g.way d (g.Ng s)
noncomputable def Gd.moves(g:Gd)(s:aY):List Nat:=g.way (g.ht s) s
theorem Gd.Am{g:Gd}(ok:g.Ok):∀(d:Nat) (s:aY),g.In s->g.ht s<=d->g.way d s=g.moves s
 | 0,s,_,h=>by unfold Gd.moves;rw[Nat.le_zero.mp h]
 |d+1,s,hs,h=>by
  by_cases e:g.stop s=true
  ·unfold Gd.moves
   cases k:g.ht s with
   |zero=>simp[Gd.way,e]
   |succ k=>simp[Gd.way,e]
  ·have e':g.stop s=false:=by simpa using e
   obtain⟨t,_,ht,en,_⟩:=g.go ok hs e';have h1:=Gd.eY ht;have h2:=Gd.lO ht hs;obtain⟨k,ek⟩:∃k,g.ht s=k+1:=⟨g.ht s-1,by omega⟩;unfold Gd.moves;rw[ek]
   show(if g.stop s then []else(g.Ng s).2.2::g.way d (g.Ng s))=(if g.stop s then []else(g.Ng s).2.2::g.way k (g.Ng s))
   rw[en,Gd.Am ok d t.1 h2 (by omega),Gd.Am ok k t.1 h2 (by omega)]
 termination_by d=>d
theorem Gd.oh{g:Gd}{s:aY}(h:g.stop s=true):g.moves s=[]:=by
 unfold Gd.moves
 cases g.ht s with
 |zero=>rfl
 |succ k=>simp[Gd.way,h]
theorem Gd.uI{g:Gd}(ok:g.Ok){s:aY}(hs:g.In s)(h:g.stop s=false):g.moves s=(g.Ng s).2.2::g.moves (g.Ng s):=by
 obtain⟨t,_,ht,en,_⟩:=g.go ok hs h;have h1:=Gd.eY ht;have h2:=Gd.lO ht hs;have e:g.moves s=g.way (g.ht s-1+1) s:=by unfold Gd.moves;rw[show g.ht s-1+1=g.ht s by omega]
 rw[e]
 show(if g.stop s then []else(g.Ng s).2.2::g.way (g.ht s-1) (g.Ng s))=_
 rw[h,en,Gd.Am ok _ t.1 h2 (by omega)];rfl
theorem Gd.vv{g:Gd}(s:aY):(g.moves s).length<=g.ht s:=by
 have:∀(d:Nat) (s:aY),(g.way d s).length<=d:=λd=>by
  induction d with
  |zero=>intro s;exact j_ _
  |succ d ih =>
   intro s;unfold Gd.way;split
   ·exact Q_ _
   ·rw[qaa];exact qar (ih _)
 exact this _ s
noncomputable def Gd.walk(g:Gd):aY->List Nat->Option (Int×aY)
 |s,[]=>some (0,s)
 |s,v::vs=>match (g.steps s).find? (λt=>t.1.2.2==v)with
  |none=>none
  |some t=>(g.walk t.1 vs).map λr=>(t.2+r.1,r.2)
theorem Gd.yk{g:Gd}{s:aY}{t:aY×Int}(h:t∈g.steps s):(g.steps s).find? (λu=>u.1.2.2==t.1.2.2)=some t:=by
 unfold Gd.steps at h ⊢;by_cases h1:s.1<g.n<;>by_cases h2:s.2.1<g.m<;>simp[h1,h2]at h ⊢
 ·rcases h with rfl|rfl|rfl<;>simp[qad]
 ·subst h;simp
 ·subst h;simp
theorem Gd.qC{g:Gd}(ok:g.Ok):∀(d:Nat) (s:aY),g.In s->g.ht s<=d->∃e,g.walk s (g.moves s)=some (g.rest s,e)/\g.In e/\g.en e.1 e.2.1=true
 |d,s,hs,hd=>by
  by_cases e:g.stop s=true
  ·rw[Gd.oh e];unfold Gd.stop at e;rw[qaP]at e;refine⟨s,?_,hs,e.1⟩;rw[of_decide_eq_true e.2];rfl
  ·have e':g.stop s=false:=by simpa using e
   obtain⟨t,_,ht,en,ek,_⟩:=g.go ok hs e';have h1:=Gd.eY ht;have h2:=Gd.lO ht hs
   cases d with
   |zero=>omega
   |succ d =>
    obtain⟨f,hf,hfi,hfe⟩:=Gd.qC ok d t.1 h2 (by omega);refine⟨f,?_,hfi,hfe⟩;rw[Gd.uI ok hs e',en];unfold Gd.walk;rw[Gd.yk ht];show(g.walk t.1 (g.moves t.1)).map _=_;rw[hf];show some (t.2+g.rest t.1,f)=_;rw[show t.2+g.rest t.1=g.rest s from ek]
 termination_by d=>d
noncomputable def placesOf(n m:Nat):List (Nat×Nat):=(S_ (n+1)).flatMap λi=>(S_ (m+1)).map λj=>(i,j)
noncomputable def three(p:Nat×Nat):List aY:=[(p.1,p.2,112),(p.1,p.2,97),(p.1,p.2,98)]
noncomputable def eG(ps:List (Nat×Nat)):List aY:=ps.flatMap three
theorem fk{n m:Nat}{p:Nat×Nat}:p∈placesOf n m↔p.1<=n/\p.2<=m:=by
 unfold placesOf;simp only[qbM,qbe,U_];constructor
 ·rintro⟨i,hi,j,hj,rfl⟩;exact⟨by show i<=n;omega,by show j<=m;omega⟩
 ·rintro⟨h1,h2⟩;exact⟨p.1,by omega,p.2,by omega,Y⟩
theorem qo{p:Nat×Nat}{s:aY}:s∈three p↔s.1=p.1/\s.2.1=p.2/\(s.2.2=112\/s.2.2=97\/s.2.2=98):=by
 obtain⟨a,b,c⟩:=s;simp only[three,B_,qaq,or_false,qcL];constructor
 ·rintro(⟨h1,h2,h3⟩|⟨h1,h2,h3⟩|⟨h1,h2,h3⟩)
  ·exact⟨h1,h2,.inl h3⟩
  ·exact⟨h1,h2,.inr (.inl h3)⟩
  ·exact⟨h1,h2,.inr (.inr h3)⟩
 ·rintro⟨h1,h2,h3|h3|h3⟩
  ·exact .inl ⟨h1,h2,h3⟩
  ·exact .inr (.inl ⟨h1,h2,h3⟩)
  ·exact .inr (.inr ⟨h1,h2,h3⟩)
theorem fj{ps:List (Nat×Nat)}{s:aY}:s∈eG ps↔(s.1,s.2.1)∈ps/\(s.2.2=112\/s.2.2=97\/s.2.2=98):=by
 unfold eG;rw[qbM];constructor
 ·rintro⟨p,hp,h⟩;obtain⟨h1,h2,h3⟩:=qo.mp h;rw[h1,h2];exact⟨hp,h3⟩
 ·rintro⟨hp,h⟩;exact⟨_,hp,qo.mpr ⟨Y,Y,h⟩⟩
noncomputable def Gd.states(g:Gd):List aY:=eG (placesOf g.n g.m)
theorem Gd.fj{g:Gd}{s:aY}:s∈g.states↔g.In s:=by
 unfold Gd.states Gd.In;rw[GP.fj,fk];exact⟨λ⟨⟨a,b⟩,c⟩=>⟨a,b,c⟩,λ⟨a,b,c⟩=>⟨⟨a,b⟩,c⟩⟩
theorem places_len(n m:Nat):(placesOf n m).length=(n+1)*(m+1):=by
 unfold placesOf;have:∀l:List Nat,(l.flatMap λi=>(S_ (m+1)).map λj=>(i,j)).length=l.length*(m+1):=λl=>by
  induction l with
  |nil=>simp
  |cons a l ih=>rw[List.flatMap_cons,G_,ih,l_,qax,qaa,Nat.succ_mul,qcC]
 rw[this,qax]
theorem wm(ps:List (Nat×Nat)):(eG ps).length=3*ps.length:=by
 induction ps with
 |nil=>rfl
 |cons a l ih =>
  show(three a++eG l).length=_;rw[G_,ih,qaa];show 3+_=_;omega
def Ra(a b:Nat×Nat):Prop:=a.1<b.1\/(a.1=b.1/\a.2<b.2)
theorem yt(n m:Nat):(placesOf n m).Pairwise Ra:=by
 unfold placesOf;refine List.pairwise_flatMap.mpr ⟨λi _=>?_,?_⟩
 ·rw[List.pairwise_map];exact(List.pairwise_lt_range).imp λh=>.inr ⟨Y,h⟩
 ·refine(List.pairwise_lt_range).imp λ{a b} h=>?_;intro x hx y hy;obtain⟨_,_,rfl⟩:=U_.mp hx;obtain⟨_,_,rfl⟩:=U_.mp hy;exact .inl h
theorem IY{a:Nat×Nat}:¬Ra a a:=λh=>by rcases h with h|h<;>omega
theorem LQ{ps:List (Nat×Nat)}(h:ps.Pairwise Ra):(eG ps).Pairwise λa b=>¬Ra (b.1,b.2.1) (a.1,a.2.1):=by
 unfold eG;refine List.pairwise_flatMap.mpr ⟨λp _=>?_,h.imp λ{a b} hab=>?_⟩
 ·refine List.pairwise_of_forall_mem_list λa ha b hb z=>?_;obtain⟨a1,a2,_⟩:=qo.mp ha;obtain⟨b1,b2,_⟩:=qo.mp hb;rw[a1,a2,b1,b2]at z;exact IY z
 ·intro x hx y hy z;obtain⟨a1,a2,_⟩:=qo.mp hx;obtain⟨b1,b2,_⟩:=qo.mp hy;rw[a1,a2,b1,b2]at z;unfold Ra at hab z;simp only at z;omega
theorem Gd.FY{g:Gd}{s:aY}{t:aY×Int}(h:t∈g.steps s):Ra (s.1,s.2.1) (t.1.1,t.1.2.1):=by
 unfold Ra;rcases Gd.dI.mp h with⟨a,b,rfl⟩|⟨a,rfl⟩|⟨a,rfl⟩
 ·exact .inl (qaO _)
 ·exact .inl (qaO _)
 ·exact .inr ⟨Y,qaO _⟩
theorem Gd.yP{g:Gd}{k:Nat}{s:aY}{t:aY×Int}(hk:g.states[k]? =some s)(h:t∈g.steps s):t.1∈g.states.drop (k+1):=by
 have hs:=Gd.fj.mp (A_ hk);have ht:=Gd.fj.mpr (Gd.lO h hs);have JB:=(o_.mp hk).1;have pw:=LQ (yt g.n g.m);have e:eG (placesOf g.n g.m)=g.states.take (k+1)++g.states.drop (k+1):=(qa0 _ _).symm;have ht':t.1∈g.states.take (k+1)++g.states.drop (k+1):=by rw[←e];exact ht
 rcases V_.mp ht' with z|z
 ·exfalso;rw[take_snoc hk]at z;rcases V_.mp z with z|z
  ·have e2:eG (placesOf g.n g.m)=g.states.take k++g.states.drop k:=(qa0 _ _).symm;rw[e2]at pw;have hsd:s∈g.states.drop k:=by
    rw[qak JB];have:=(o_.mp hk).2;rw[this];exact z_
   exact(List.pairwise_append.mp pw).2.2 _ z _ hsd (Gd.FY h)
  ·have z1:=Gd.FY h;rw[x_.mp z]at z1;exact IY z1
 ·exact z
end GP
namespace L2
open PySem PySem.Spec PyProof.Rows PySem.W
theorem zm(f:Nat->Int):∀k,argBest (λi j=>decide (f i<f j)) k<=k/\∀j,j<=k->f (argBest (λi j=>decide (f i<f j)) k)<=f j
 | 0=>⟨j_ _,λj hj=>by rw[Nat.le_zero.mp hj];exact Int.le_refl _⟩
 |k+1=>by
  obtain⟨h1,h2⟩:=zm f k;unfold argBest;by_cases c:f (k+1)<f (argBest (λi j=>decide (f i<f j)) k)
  ·rw[if_pos (decide_eq_true c)];refine⟨j_ _,λj hj=>?_⟩;by_cases e:j=k+1
   ·rw[e];exact Int.le_refl _
   ·have:=h2 j (by omega);omega
  ·rw[if_neg (by rw[decide_eq_false c];exact y_)];refine⟨by omega,λj hj=>?_⟩;by_cases e:j=k+1
   ·rw[e];omega
   ·exact h2 j (by omega)
theorem Ld:∀{ns:List Int} {us:List k_},Vals (ns.map V.int) us->∀(i:Nat) (v:k_),us[i]? =some v->dP λn t=>ns[i]? =some n/\v= .int n t
 |[],_,r=>λi v e=>by cases r;simp at e
 |n::ns,_,r=>by
  cases r with
  |cons r1 r2 =>
   intro i v e
   cases i with
   |zero =>
    simp at e;subst e;obtain⟨t,z⟩:=r1;exact⟨n,t,Y,z⟩
   |succ i=>exact Ld r2 i v e
theorem MX{X:Cx}(hc:X.calm=true):pM X (.builtin "min") (λxs H Q=>dP λ(l:U) (ns:List Int)=>xs=[.ref l]/\bW X.K H l (ns.map V.int)/\ns≠[]/\Q (.int (GP.zH ns)) H):=by
 intro pins s σ H xs us Q I r h;obtain⟨l,ns,rfl,hl,hne,q⟩:=h;obtain⟨u,rfl,ru⟩:=vals1 r;cases ru;obtain⟨its,rv,p,hz⟩:=I.list hl;have pl:s.heap.IsList l its.toArray:=p.isList;have hlt:l<s.heap.objs.size:=by obtain⟨_,e,_⟩:=pl;exact E_ e
 have hlen:ns.length=its.length:=by rw[←rv.length,l_]
 have hpos:0<ns.length:=qci.mpr hne;refine TK.bX (j_ s.toks) ?_;refine call_min_walk (qaY pl ?_);have hval:∀(i:Nat) (v:k_),its.toArray[i]? =some v->∃t,v= .int ((ns[i]?).getD 0) t:=λi v hP=>by
  obtain⟨n,t,e,rfl⟩:=Ld rv i v (by simpa using hP);exact⟨t,by rw[e];rfl⟩
 refine⟨s.heap.objs.size,[s.heap.objs.size,l],[s.heap.objs.size],its.toArray.size,_,_,_,Y,qct (A:=X.A.in1) (I.ok.hd hc) _ l (R_ hlt) its.toArray,
  ⟨⟨_,t_ _ rfl,rfl,rfl⟩,pl.push _⟩,λb hb=>?_,by rw[K_];omega,CmpOf.ints_lt (λi=>(ns[i]?).getD 0) hval,λv h' tk hP hk hup=>?_⟩
 ·show b<(s.heap.push _).objs.size;rw[qaT];rcases B_.mp hb with rfl|z
  ·exact qaO _
  ·rw[x_.mp z];exact Nat.lt_succ_of_lt hlt
 ·obtain⟨t,rfl⟩:=hval _ v hP;obtain⟨b1,b2⟩:=zm (λi=>(ns[i]?).getD 0) (its.toArray.size-1);have hsz:its.toArray.size=ns.length:=by rw[K_,hlen]
  rw[hsz]at b1 b2 ⊢;have hb:argBest (λi j=>decide ((ns[i]?).getD 0<(ns[j]?).getD 0)) (ns.length-1)<ns.length:=by omega
  have e:GP.zH ns=(ns[argBest (λi j=>decide ((ns[i]?).getD 0<(ns[j]?).getD 0)) (ns.length-1)]?).getD 0:=by
   refine GP.Rn ?_ λy hy=>?_
   ·rw[g_ hb];exact qaH hb
   ·obtain⟨j,hj,ej⟩:=qa7 hy;have z:=b2 j (by omega);rw[g_ hj,ej]at z;exact z
  refine⟨.int (GP.zH ns),H,I.kept (t':=tk) (λb x e=>hk b x (λhm=>?_) (m_ _ e)),⟨t,by rw[e]⟩,q⟩;rw[x_.mp hm]at e;exact qap _ (E_ e)
theorem jR{A:qab}{k:Nat}(hr:nP k A):A.units+2<cLine:=w_ (Nat.add_le_add_left (by decide:2<=64) _) hr.units
theorem Lf{A:qab}{k:Nat}(hr:nP k A):A.units+16<cLine:=w_ (Nat.add_le_add_left (by decide:16<=64) _) hr.units
theorem D9{k:Nat}{A:qab}(h:nP k A):A.depth<recursionLimit:=by have:=h.dp;omega
theorem GI(kvs:List NE)(k j:NK)(q:U)(v:V):kc (qK kvs k q v) j=if j=k then some v else kc kvs j:=by
 have ap:∀l:List NE,kc (l++[(k,q,v)]) j=(kc l j).or (if k=j then some v else none):=λl=>by
  induction l with
  |nil =>
   by_cases e:k=j
   ·rw[if_pos e];exact lG (p:=(k,q,v)) (ps:=[]) e
   ·rw[if_neg e];exact jh (p:=(k,q,v)) (ps:=[]) e
  |cons x l ih =>
   by_cases e:x.1=j
   ·rw[qcc,lG e,lG e];rfl
   ·rw[qcc,jh e,jh e,ih]
 have mp:∀l:List NE,kc (l.map λx=>if x.1=k then(x.1,x.2.1,v)else x) j=if j=k then(kc l k).map λ_=>v else kc l j:=λl=>by
  induction l with
  |nil=>by_cases e:j=k<;>simp[e,kc]
  |cons x l ih =>
   rw[Y_];by_cases e:x.1=k
   ·rw[if_pos e];by_cases ej:x.1=j
    ·rw[lG (p:=(x.1,x.2.1,v)) ej,if_pos (ej.symm.trans e),lG e];rfl
    ·rw[jh (p:=(x.1,x.2.1,v)) ej,ih,if_neg (λz=>ej (e.trans z.symm)),if_neg (λz=>ej (e.trans z.symm)),jh ej]
   ·rw[if_neg e];by_cases ej:x.1=j
    ·have nj:¬j=k:=λz=>e (ej.trans z);rw[lG ej,if_neg nj,lG ej]
    ·rw[jh ej,ih,jh ej,jh e]
 unfold qK;by_cases h:(kc kvs k).isSome=true
 ·rw[if_pos h,mp];by_cases e:j=k
  ·rw[if_pos e,if_pos e];obtain⟨u,hu⟩:=qbD.mp h;rw[hu];rfl
  ·rw[if_neg e,if_neg e]
 ·rw[if_neg h,ap];have hn:kc kvs k=none:=by simpa using h
  by_cases e:j=k
  ·rw[if_pos e.symm,if_pos e,e,hn];rfl
  ·rw[if_neg (Ne.symm e),if_neg e];cases kc kvs j<;>rfl
theorem vt{H:Hp}{kvs:List NE}{k:NK}{q:U}{v:V}(h:∀x∈kvs,fY H x.2.1 x.1)(hk:fY H q k):∀x∈qK kvs k q v,fY H x.2.1 x.1:=by
 unfold qK;intro x hx;split at hx
 ·obtain⟨y,hy,e⟩:=U_.mp hx;have z:=h y hy;split at e
  ·rw[←e];exact z
  ·rw[←e];exact z
 ·rcases V_.mp hx with hx|hx
  ·exact h x hx
  ·rw[x_.mp hx];exact hk
end L2
namespace GP
open PySem L2 rF
section
structure Da(K:PySem.W.Frag)(mg:v_->Option k_)(x y:v_)(st:qam)(ps:List v_)(f:U)(fd:F_):Prop where
 fn:Nm K y y st f fd
 b:Binds K fd ps []
 m:mg x=some (.ref f)
noncomputable def Nt(H:Hp):Hp:=λb=>match H b with|some (.ext _)=>none|r=>r
theorem Nt.sub{H:Hp}:ak (Nt H) H:=λb u h=>by
 unfold Nt at h;split at h
 ·cases h
 ·exact h
theorem Nt.no{H:Hp}{b:U}{u:HO}(h:Nt H b=some u)(φ:W_->Prop):u≠ .ext φ:=λz=>by
 unfold Nt at h;split at h
 ·cases h
 ·next n=>rw[z]at h;exact n φ h
theorem Nt.in{H:Hp}{b:U}{u:HO}(n:∀ φ,u≠ .ext φ)(h:H b=some u):Nt H b=some u:=by
 unfold Nt;rw[h];split
 ·next φ e=>exact absurd (L_ e) (n φ)
 ·rfl
theorem Nt.tup{H:Hp}{b:U}{xs:List V}(h:H b=some (.tup xs)):Nt H b=some (.tup xs):=Nt.in (λ_ z=>by cases z) h
theorem Nt.lst{H:Hp}{b:U}{xs:List V}(h:H b=some (.lst xs)):Nt H b=some (.lst xs):=Nt.in (λ_ z=>by cases z) h
theorem Nt.seq{K:PySem.W.Frag}{H:Hp}{a:U}{xs:List V}(h:bW K H a xs):bW K (Nt H) a xs:=by
 rcases h with(h|⟨o,h⟩)|h
 ·exact .inl (.inl (Nt.lst h))
 ·exact .inl (.inr ⟨o,Nt.in (λ_ z=>by cases z) h⟩)
 ·exact .inr h
theorem Nt.Xb{K:PySem.W.Frag}{H:Hp}{a:U}{xs:List V}(h:bZ K H a xs):bZ K (Nt H) a xs:=by
 rcases h with(h|⟨o,h⟩)|h
 ·exact .inl (.inl (Nt.tup h))
 ·exact .inl (.inr ⟨o,Nt.in (λ_ z=>by cases z) h⟩)
 ·exact .inr h
theorem Nt.row{K:PySem.W.Frag}{H:Hp}{q:U}{r:List cJ}(h:nO K H (.tup q) r):nO K (Nt H) (.tup q) r:=by
 obtain⟨ps,a,b⟩:=h;exact⟨ps,Nt.Xb a,Paired.ji b λ_ _ z=>Nt.Xb z⟩
theorem ql.nt{K:PySem.W.Frag}{C:U}{H:Hp}{x:U}{sg:v_}{rows:List (List cJ)}{fo fm:cJ}(h:ql K C H x sg rows fo fm):ql K C (Nt H) x sg rows fo fm:=by
 obtain⟨a,b,c,d,f,g,i,dx,P,o,m,dd,kvs,h1,⟨qs,q1,q2⟩,h3,h4,h5,h6,fs,h7,h8,h9⟩:=h;exact⟨a,b,c,d,f,g,i,dx,P,o,m,dd,kvs,Nt.in (λ_ z=>by cases z) h1,⟨qs,Nt.Xb q1,Paired.ji q2 λ_ _ z=>Nt.row z⟩,Nt.Xb h3,Nt.Xb h4,Nt.in (λ_ z=>by cases z) h5,h6,fs,h7,h8,Nt.lst h9⟩
noncomputable def wZ(H:Hp):Hp:=λb=>match H b with|some (.tup xs)=>some (.tup xs)|some (.lst xs)=>some (.lst xs)|_=>none
theorem wZ.tup{H:Hp}{b:U}{xs:List V}(h:H b=some (.tup xs)):wZ H b=some (.tup xs):=by unfold wZ;rw[h]
theorem wZ.lst{H:Hp}{b:U}{xs:List V}(h:H b=some (.lst xs)):wZ H b=some (.lst xs):=by unfold wZ;rw[h]
theorem wZ.of{H H':Hp}(h:∀b u,(∀ φ,u≠ .ext φ)->(∀C dx fs,u≠ .ins C dx fs)->H b=some u->H' b=some u):ak (wZ H) H':=λb u q=>by
 unfold wZ at q;split at q
 ·next e=>cases q;exact h b _ (λ_ z=>by cases z) (λ_ _ _ z=>by cases z) e
 ·next e=>cases q;exact h b _ (λ_ z=>by cases z) (λ_ _ _ z=>by cases z) e
 ·cases q
theorem wZ.dat{H H':Hp}(e:Dat H H'):ak (wZ H) H':=wZ.of λb u _ n q=>e b u n q
theorem fY.da{H:Hp}{q:U}{k:NK}(h:fY H q k):fY (wZ H) q k:=by
 obtain⟨p,h1,h2⟩:=h;exact⟨p,wZ.tup h1,wZ.tup h2⟩
theorem fY.same{H H':Hp}{q:U}{k:NK}(h:fY H q k)(e:ak H H'):fY H' q k:=by
 obtain⟨p,h1,h2⟩:=h;exact⟨p,e _ _ h1,e _ _ h2⟩
theorem ND.same{P:r_}{w:I_}{H H':Hp}{d:U}{kvs:List NE}(h:ND P w H d kvs)(e:ak H H'):ND P w H' d kvs:=⟨e _ _ h.at_,λx hx=>fY.same (h.keys x hx) e⟩
structure Lm where
 P:U
 l:qbO
 q:v_
 P2:U
 l2:qbO
 q2:v_
structure LT(L:Lm)(H:Hp):Prop where
 a:TabOk H L.P L.l L.q
 b:TabOk H L.P2 L.l2 L.q2
 ne:L.P≠L.P2
theorem FG{H H':Hp}{P:U}{ln:qbO}{lq:v_}(h:TabOk H P ln lq)(e:ak H H'):TabOk H' P ln lq:=by
 rcases h with h|⟨c,h,h2⟩
 ·exact .inl (e _ _ h)
 ·exact .inr ⟨c,e _ _ h,e _ _ h2⟩
theorem LT.same{L:Lm}{H H':Hp}(h:LT L H)(e:ak H H'):LT L H':=⟨FG h.a e,FG h.b e,h.ne⟩
theorem z5{H:Hp}{P:U}{ln:qbO}{lq:v_}(h:TabOk H P ln lq):∃ φ,H P=some (.ext φ):=by
 rcases h with h|⟨_,h,_⟩<;>exact⟨_,h⟩
theorem FF{H:Hp}{P:U}{ln:qbO}{lq:v_}(h:TabOk H P ln lq):∃ps,H P=some (rG P ps):=by
 rcases h with h|⟨_,h,_⟩<;>exact⟨_,h⟩
theorem DS{α:Type}{a b:α}{F:α->Prop}(h1:F a)(h2:F b):∀x∈[a,b],F x:=λx hx=>by
 rcases B_.mp hx with rfl|hx
 ·exact h1
 ·rw[x_.mp hx];exact h2
structure Lo(P:r_)(w:I_)(L:Lm)(H H':Hp):Prop where
 nx:ak (Nt H) H'
 nd:∀d kvs,H d=some (wX P w d kvs)->H' d=some (wX P w d kvs)
 lt:LT L H'
 dom:∀b,H' b=none->H b=none
section
variable{P:r_}{w:I_}{L:Lm}{H H1 H2:Hp}
theorem Lo.of(h:LT L H)(e:ak H H1):Lo P w L H H1:=⟨λb u q=>e b u (Nt.sub b u q),λd kvs q=>e _ _ q,h.same e,λb q=>ak.free e q⟩
theorem Lo.trans(a:Lo P w L H H1)(b:Lo P w L H1 H2):Lo P w L H H2:=⟨λc u q=>b.nx c u (Nt.in (Nt.no q) (a.nx c u q)),λd kvs q=>b.nd d kvs (a.nd d kvs q),b.lt,λc q=>a.dom c (b.dom c q)⟩
theorem Lo.then(a:Lo P w L H H1)(e:ak H1 H2):Lo P w L H H2:=a.trans (.of a.lt e)
theorem ak.lo(e:ak H H1)(h:LT L H)(b:Lo P w L H1 H2):Lo P w L H H2:=(Lo.of h e).trans b
theorem Lo.one{H':Hp}(h:LT L H)(ap:Apart P w H L.P)(e:∀b u,b≠L.P->H b=some u->H' b=some u)(t:TabOk H' L.P L.l L.q):Lo P w L H H':=by
 obtain⟨φ,hφ⟩:=z5 h.a;have hne:=h.ne;refine⟨λb u q=>e b u (λz=>?_) (Nt.sub b u q),λd kvs q=>e _ _ (ap.2 d kvs q) q,⟨t,?_,h.ne⟩,λb q=>?_⟩
 ·have q':=Nt.sub b u q;rw[z,hφ]at q';exact Nt.no q φ (L_ q').symm
 ·rcases h.b with h|⟨c,h,h2⟩
  ·exact .inl (e _ _ (Ne.symm hne) h)
  ·exact .inr ⟨c,e _ _ (Ne.symm hne) h,e _ _ (ap.1 c _ h2) h2⟩
 ·cases z:H b with
  |none=>rfl
  |some u =>
   by_cases zb:b=L.P
   ·obtain⟨ψ,hψ⟩:=z5 t;rw[zb,hψ]at q;cases q
   ·rw[e b u zb z]at q;cases q
theorem Lo.two{H':Hp}(h:LT L H)(ap:Apart P w H L.P2)(e:∀b u,b≠L.P2->H b=some u->H' b=some u)(t:TabOk H' L.P2 L.l2 L.q2):Lo P w L H H':=by
 obtain⟨φ,hφ⟩:=z5 h.b;have hne:=h.ne;refine⟨λb u q=>e b u (λz=>?_) (Nt.sub b u q),λd kvs q=>e _ _ (ap.2 d kvs q) q,⟨?_,t,h.ne⟩,λb q=>?_⟩
 ·have q':=Nt.sub b u q;rw[z,hφ]at q';exact Nt.no q φ (L_ q').symm
 ·rcases h.a with h|⟨c,h,h2⟩
  ·exact .inl (e _ _ hne h)
  ·exact .inr ⟨c,e _ _ hne h,e _ _ (ap.1 c _ h2) h2⟩
 ·cases z:H b with
  |none=>rfl
  |some u =>
   by_cases zb:b=L.P2
   ·obtain⟨ψ,hψ⟩:=z5 t;rw[zb,hψ]at q;cases q
   ·rw[e b u zb z]at q;cases q
theorem Lo.da(a:Lo P w L H H1):ak (wZ H) H1:=wZ.of λb u n _ q=>a.nx b u (Nt.in n q)
theorem Lo.tup(a:Lo P w L H H1){b:U}{xs:List V}(h:H b=some (.tup xs)):H1 b=some (.tup xs):=a.nx _ _ (Nt.tup h)
theorem Lo.kat(a:Lo P w L H H1){q:U}{k:NK}(h:fY H q k):fY H1 q k:=fY.same (fY.da h) a.da
theorem Lo.nk(a:Lo P w L H H1){d:U}{kvs:List NE}(h:ND P w H d kvs):ND P w H1 d kvs:=⟨a.nd _ _ h.at_,λx hx=>a.kat (h.keys x hx)⟩
theorem Lo.seq{K:PySem.W.Frag}{x:U}{xs:List V}(a:Lo P w L H H1)(h:bW K H x xs):bW K H1 x xs:=ak.seq a.nx (Nt.seq h)
end
noncomputable abbrev PT:=v_×List (List cJ)×cJ×cJ
noncomputable def uT(T:PT):Int:=bq T.2.2.1.2 T.2.2.2.2 T.2.1
def Aj(K:PySem.W.Frag)(C:U)(H:Hp)(x:U)(T:PT):Prop:=ql K C H x T.1 T.2.1 T.2.2.1 T.2.2.2
theorem Aj.same{K:PySem.W.Frag}{C:U}{H H':Hp}{x:U}{T:PT}(h:Aj K C H x T)(e:ak H H'):Aj K C H' x T:=ql.same e h
theorem Lo.pr{P:r_}{w:I_}{L:Lm}{H H1:Hp}{K:PySem.W.Frag}{C x:U}{T:PT}(a:Lo P w L H H1)(h:Aj K C H x T):Aj K C H1 x T:=ql.same a.nx (ql.nt h)
noncomputable def b7(T:PT)(m f s:v_):Gd:=⟨f.cps.size,s.cps.size,λi j=>L4 T.1 T.2.1 (uT T) (f.cps.toList.getD i 0) (s.cps.toList.getD j 0),cL (uT T) T.2.2.1,cL (uT T) T.2.2.2,λi j=>Bc m f s (i,j)⟩
def Ft(H:Hp)(p:U)(q:Nat×Nat):Prop:=H p=some (.tup [.int q.1,.int q.2])
def Nl(H:Hp)(l:U)(qs:List (Nat×Nat)):Prop:=∃ps:List U,H l=some (.lst (ps.map V.ref))/\Paired (Ft H) ps qs
noncomputable def g7(s:aY):NK:=(s.1,s.2.1,⟨#[s.2.2]⟩)
theorem xD{s t:aY}(h:g7 s=g7 t):s=t:=by
 obtain⟨a,b,c⟩:=s;obtain⟨d,e,f⟩:=t;unfold g7 at h;simp only[qcL,Str.mk.injEq]at h;obtain⟨h1,h2,h3⟩:=h;have h4:c=f:=by simpa using h3
 rw[show a=d by omega,show b=e by omega,h4]
def Sa(H:Hp)(p:U)(t:aY×Int):Prop:=∃q,H p=some (.tup [.ref q,.int t.2])/\fY H q (g7 t.1)
def R9(H:Hp)(l:U)(ts:List (aY×Int)):Prop:=∃ps:List U,H l=some (.lst (ps.map V.ref))/\Paired (Sa H) ps ts
def M0(H:Hp)(g:Gd)(kvs:List NE)(ss:List aY):Prop:=Paired (λe s=>e.1=g7 s/\∃l,e.2.2= .ref l/\R9 H l (g.steps s)) kvs ss
theorem Nl.same{H H':Hp}{l:U}{qs:List (Nat×Nat)}(h:Nl H l qs)(e:ak H H'):Nl H' l qs:=by
 obtain⟨ps,a,b⟩:=h;exact⟨ps,e _ _ a,Paired.ji b λ_ _ z=>e _ _ z⟩
theorem Sa.same{H H':Hp}{p:U}{t:aY×Int}(h:Sa H p t)(e:ak H H'):Sa H' p t:=by
 obtain⟨q,a,b⟩:=h;exact⟨q,e _ _ a,fY.same b e⟩
theorem R9.same{H H':Hp}{l:U}{ts:List (aY×Int)}(h:R9 H l ts)(e:ak H H'):R9 H' l ts:=by
 obtain⟨ps,a,b⟩:=h;exact⟨ps,e _ _ a,Paired.ji b λ_ _ z=>z.same e⟩
theorem M0.same{H H':Hp}{g:Gd}{kvs:List NE}{ss:List aY}(h:M0 H g kvs ss)(e:ak H H'):M0 H' g kvs ss:=Paired.ji h λ_ _ ⟨a,l,b,c⟩=>⟨a,l,b,c.same e⟩
theorem R9.da{H:Hp}{l:U}{ts:List (aY×Int)}(h:R9 H l ts):R9 (wZ H) l ts:=by
 obtain⟨ps,a,b⟩:=h;exact⟨ps,wZ.lst a,Paired.ji b λ_ _ ⟨q,a,b⟩=>⟨q,wZ.tup a,fY.da b⟩⟩
theorem M0.da{H:Hp}{g:Gd}{kvs:List NE}{ss:List aY}(h:M0 H g kvs ss):M0 (wZ H) g kvs ss:=Paired.ji h λ_ _ ⟨a,l,b,c⟩=>⟨a,l,b,c.da⟩
theorem Nl.da{H:Hp}{l:U}{qs:List (Nat×Nat)}(h:Nl H l qs):Nl (wZ H) l qs:=by
 obtain⟨ps,a,b⟩:=h;exact⟨ps,wZ.lst a,Paired.ji b λ_ _ z=>wZ.tup z⟩
theorem ND.dat{P:r_}{w:I_}{H H':Hp}{d:U}{kvs:List NE}(h:ND P w H d kvs)(e:Dat H H'):ND P w H' d kvs:=⟨e _ _ (λ_ _ _ z=>by cases z) h.at_,λx hx=>fY.same (fY.da (h.keys x hx)) (wZ.dat e)⟩
theorem z6{H:Hp}{g:Gd}{s:aY}:∀{kvs:List NE} {ss:List aY},M0 H g kvs ss->s∈ss->∃l,kc kvs (g7 s)=some (.ref l)/\R9 H l (g.steps s)
 |_,_,.nil,h=>nomatch h
 |_,_,.cons (a:=e) (b:=t) ⟨h1,l,h2,h3⟩ r,h=>by
  by_cases z:e.1=g7 s
  ·have z2:=xD (h1.symm.trans z);subst z2;exact⟨l,by rw[lG z,h2],h3⟩
  ·rw[jh z];rcases B_.mp h with q|q
   ·exact absurd (by rw[q];exact h1) z
   ·exact z6 r q
noncomputable def VO(dS lB dE:U):List (v_×V):=aM "ends" (.ref dE) (aM "begins" (.ref lB) (aM "steps" (.ref dS) []))
theorem sE{dS lB dE:U}:(VO dS lB dE).lookup ("steps" :v_)=some (.ref dS):=by
 unfold VO;rw[az,if_neg (by decide +kernel),az,if_neg (by decide +kernel),az,if_pos rfl]
theorem Bq{dS lB dE:U}:(VO dS lB dE).lookup ("begins" :v_)=some (.ref lB):=by
 unfold VO;rw[az,if_neg (by decide +kernel),az,if_pos rfl]
theorem G0{dS lB dE:U}:(VO dS lB dE).lookup ("ends" :v_)=some (.ref dE):=by
 unfold VO;rw[az,if_pos rfl]
def ZL(kE:List (List Key×V))(g:Gd):Prop:=∀i j,i<=g.n->j<=g.m->jK kE [.inl (i:Int),.inl (j:Int)]=some (.bl (g.en i j))
def Ti(kvs:List NE)(g:Gd):Prop:=∀s,g.In s->kc kvs (g7 s)=some (.int (g.rest s))
def HQ(P:r_)(w:I_)(C:U)(H:Hp)(x:U)(g:Gd)(bs:List (Nat×Nat)):Prop:=V7 λdx dS lB dE kS kE=>H x=some (.ins C dx (VO dS lB dE))/\ND P w H dS kS/\M0 H g kS g.states/\Nl H lB bs/\H dE=some (.dT kE)/\ZL kE g
theorem HQ.same{P:r_}{w:I_}{C:U}{H H':Hp}{x:U}{g:Gd}{bs:List (Nat×Nat)}(h:HQ P w C H x g bs)(e:ak H H'):HQ P w C H' x g bs:=by
 obtain⟨dx,dS,lB,dE,kS,kE,h1,h2,h3,h4,h5,h6⟩:=h;exact⟨dx,dS,lB,dE,kS,kE,e _ _ h1,ND.same h2 e,h3.same e,h4.same e,e _ _ h5,h6⟩
theorem Lo.gr{P:r_}{w:I_}{L:Lm}{C:U}{H H':Hp}{x:U}{g:Gd}{bs:List (Nat×Nat)}(e:Lo P w L H H')(h:HQ P w C H x g bs):HQ P w C H' x g bs:=by
 obtain⟨dx,dS,lB,dE,kS,kE,h1,h2,h3,h4,h5,h6⟩:=h;exact⟨dx,dS,lB,dE,kS,kE,e.nx _ _ (Nt.in (λ_ z=>by cases z) h1),e.nk h2,h3.da.same e.da,h4.da.same e.da,e.nx _ _ (Nt.in (λ_ z=>by cases z) h5),h6⟩
noncomputable def iQ(m:v_)(n k:Nat):List (Nat×Nat):=(placesOf n k).filter λq=>yE m (q.1,q.2)
noncomputable def Gd.iP(g:Gd)(b:Nat×Nat):Int:=g.rest (b.1,b.2,112)
def Sl:Sp:=λvs H Q _=>dP λf s:v_=>vs=[.str f,.str s]/\f.cps.size<=12/\s.cps.size<=12/\∀l H',ak H H'->H l=none->Nl H' l (placesOf f.cps.size s.cps.size)->Q (.ref l) H'
def KC(K:PySem.W.Frag)(C:U):Sp:=λvs H Q _=>Xe8 λ(x p:U) (T:PT) (f s:v_) (i j c:Nat)=>vs=[.ref x,.str f,.str s,.ref p,.str ⟨#[c]⟩]/\Aj K C H x T/\Of T.1 f/\Of T.1 s/\f.cps.size<=12/\s.cps.size<=12/\Ft H p (i,j) ∧
 ∀l H',ak H H'->H l=none->(∀m,R9 H' l ((b7 T m f s).steps (i,j,c)))->Q (.ref l) H'
def N2(P:r_)(w:I_)(K:PySem.W.Frag)(C:U):Sp:=λvs H Q _=>BG λ(x lp:U) (T:PT) (f s:v_)=>vs=[.ref x,.str f,.str s,.ref lp]/\Aj K C H x T/\Of T.1 f/\Of T.1 s/\f.cps.size<=12/\s.cps.size<=12/\Nl H lp (placesOf f.cps.size s.cps.size) ∧
 ∀d kvs H',ak H H'->H d=none->ND P w H' d kvs->(∀m,M0 H' (b7 T m f s) kvs (eG (placesOf f.cps.size s.cps.size)))->Q (.ref d) H'
def KL:Sp:=λvs H Q _=>wY λ(lp:U) (f s m:v_)=>vs=[.str f,.str s,.ref lp,.str m]/\f.cps.size<=12/\s.cps.size<=12/\Nl H lp (placesOf f.cps.size s.cps.size) ∧
 ∀d kvs H',ak H H'->H d=none->H' d=some (.dT kvs)->(∀T,ZL kvs (b7 T m f s))->Q (.ref d) H'
def IJ(P:r_)(w:I_)(CG:U):Sp:=λvs H Q _=>nN λ(x:U) (g:Gd) (bs:List (Nat×Nat))=>vs=[.ref x]/\HQ P w CG H x g bs/\g.Ok/\g.n<=12/\g.m<=12/\∀d kvs H',ak H H'->H d=none->ND P w H' d kvs->Ti kvs g->Q (.ref d) H'
def GR(P:r_)(w:I_)(CG:U)(H:Hp)(x d:U)(g:Gd)(bs:List (Nat×Nat))(kvs:List NE):Prop:=HQ P w CG H x g bs/\ND P w H d kvs/\Ti kvs g
theorem Lo.gR{P:r_}{w:I_}{L:Lm}{C:U}{H H':Hp}{x d:U}{g:Gd}{bs:List (Nat×Nat)}{kvs:List NE}(e:Lo P w L H H')(h:GR P w C H x d g bs kvs):GR P w C H' x d g bs kvs:=⟨e.gr h.1,e.nk h.2.1,h.2.2⟩
theorem GR.same{P:r_}{w:I_}{C:U}{H H':Hp}{x d:U}{g:Gd}{bs:List (Nat×Nat)}{kvs:List NE}(h:GR P w C H x d g bs kvs)(e:ak H H'):GR P w C H' x d g bs kvs:=⟨h.1.same e,ND.same h.2.1 e,h.2.2⟩
def DW(P:r_)(w:I_)(CG:U):Sp:=λvs H Q _=>R7 λ(x d q:U) (g:Gd) (bs:List (Nat×Nat)) (kvs:List NE) (s:aY)=>vs=[.ref x,.ref d,.ref q]/\GR P w CG H x d g bs kvs/\fY H q (g7 s)/\g.In s/\Q (.bl (g.stop s)) H
def Aw(P:r_)(w:I_)(CG:U)(L:Lm):Sp:=λvs H Q _=>BG λ(x d:U) (g:Gd) (bs:List (Nat×Nat)) (kvs:List NE)=>vs=[.ref x,.ref d]/\GR P w CG H x d g bs kvs/\LT L H/\bs≠[]/\(∀b∈bs,b.1<=g.n/\b.2<=g.m) ∧
 ∀p b H',Lo P w L H H'->fmin g.iP bs=some b->Ft H' p b->Q (.ref p) H'
def N1(P:r_)(w:I_)(CG:U)(L:Lm):Sp:=λvs H Q _=>R7 λ(x d q:U) (g:Gd) (bs:List (Nat×Nat)) (kvs:List NE) (s:aY)=>vs=[.ref x,.ref d,.ref q]/\GR P w CG H x d g bs kvs/\fY H q (g7 s)/\g.In s/\g.steps s≠[]/\LT L H ∧
 ∀q' t H',Lo P w L H H'->fmin g.key (g.steps s)=some t->fY H' q' (g7 t.1)->Q (.ref q') H'
def NR(P:r_)(w:I_)(CG:U)(L:Lm):Sp:=λvs H Q _=>R7 λ(x d p:U) (g:Gd) (bs:List (Nat×Nat)) (kvs:List NE) (b:Nat×Nat)=>vs=[.ref x,.ref d,.ref p]/\GR P w CG H x d g bs kvs/\Ft H p b/\g.In (b.1,b.2,112)/\g.Ok/\g.n<=12/\g.m<=12/\LT L H ∧
 ∀H',Lo P w L H H'->Q (.str ⟨(g.moves (b.1,b.2,112)).toArray⟩) H'
def CV(H:Hp)(r:U)(T:PT)(m f s:v_):Prop:=nN λb c p=>fmin (b7 T m f s).iP (iQ m f.cps.size s.cps.size)=some b/\H r=some (.tup [.ref c,.ref p,.str ⟨((b7 T m f s).moves (b.1,b.2,112)).toArray⟩])/\TupAt H c (nF ((b7 T m f s).iP b,uT T))/\Ft H p b
end
section
theorem Tr{H:Hp}{l p:U}{o y:HO}(hp:H p=none):ak (Wo l H) (Wo l (L2.upd (L2.upd H p o) l y)):=λb u h=>by
 have n:=Wo.ne h;have h':=Wo.sub b u h;refine Wo.in n ?_;rw[av n,av (aX h' hp)];exact h'
theorem xA{H H2:Hp}{l p:U}{o y:HO}(e:ak H H2)(hl:H l=none)(hp:H2 p=none):ak H (L2.upd (L2.upd H2 p o) l y):=ak.at (e.trans (ak.upd hp)) hl
theorem Nq{H:Hp}{l p:U}{o y:HO}(n:p≠l):Wo l (L2.upd (L2.upd H p o) l y) p=some o:=Wo.in n (by rw[av n,ai])
theorem Ft.same{H H':Hp}{p:U}{q:Nat×Nat}(h:Ft H p q)(e:ak H H'):Ft H' p q:=e _ _ h
theorem UQ{H:Hp}{l:U}{ps:List U}{qs:List (Nat×Nat)}(h1:H l=some (.lst (ps.map V.ref)))(h2:Paired (Ft (Wo l H)) ps qs):Nl H l qs:=⟨ps,h1,Paired.ji h2 λ_ _ z=>z.same Wo.sub⟩
noncomputable def rws(m i:Nat):List (Nat×Nat):=(S_ i).flatMap λi=>(S_ (m+1)).map λj=>(i,j)
theorem Gh(m i:Nat):rws m (i+1)=rws m i++(S_ (m+1)).map λj=>(i,j):=by
 unfold rws;rw[qbZ (n:=i),List.flatMap_append];simp
theorem Q4(m i:Nat):(rws m i).length=i*(m+1):=by
 induction i with
 |zero=>simp[rws]
 |succ i ih=>rw[Gh,G_,ih,Nat.succ_mul,l_,qax]
theorem Mu{a b n:Nat}(ha:a<=12)(hb:b<=12)(h:n<=3*((a+1)*(b+1))):n<D_:=by
 have:(a+1)*(b+1)<=13*13:=qbx (by omega) (by omega);exact w_ (show n<=507 by omega) (by decide)
theorem sP:h_ "p" =⟨#[112]⟩:=by kernel_rfl
theorem sA:h_ "a" =⟨#[97]⟩:=by kernel_rfl
theorem sB:h_ "b" =⟨#[98]⟩:=by kernel_rfl
theorem Qc{T:PT}{m f s a:v_}{v c:Nat}(h:a=⟨#[v]⟩):V.int (if a=⟨#[c]⟩then cL (bq T.2.2.1.2 T.2.2.2.2 T.2.1) T.2.2.2 else cL (bq T.2.2.1.2 T.2.2.2.2 T.2.1) T.2.2.1+cL (bq T.2.2.1.2 T.2.2.2.2 T.2.1) T.2.2.2)=V.int ((b7 T m f s).ac v c):=by
 subst h;unfold Gd.ac;by_cases e:v=c
 ·subst e;rw[if_pos rfl,if_pos rfl];rfl
 ·rw[if_neg (λz=>e (by simpa using congrArg qcO z)),if_neg e];rfl
theorem II{H3 H5:Hp}{l p q r:U}{xs:List V}{t:aY×Int}{a b d:V}{c:v_}{y:HO}(hl:H3 l=some (.lst xs))(hp:H3 p=none)(hq:L2.upd H3 p (.tup [a,b]) q=none)(e:ak (L2.upd (L2.upd H3 p (.tup [a,b])) q (.tup [.ref p,.str c])) H5)(hr:H5 r=none)
  (ea:a= .int (t.1.1:Int)) (eb:b= .int (t.1.2.1:Int)) (ec:c=⟨#[t.1.2.2]⟩) (ed:d= .int t.2) :
  H5 l=some (.lst xs)/\r≠l/\ak (Wo l H3) (Wo l (L2.upd (L2.upd H5 r (.tup [.ref q,d])) l y))/\Sa (Wo l (L2.upd (L2.upd H5 r (.tup [.ref q,d])) l y)) r t:=by
 subst ea eb ec ed;have s1:=ak.upd (o:=.tup [.int (t.1.1:Int),.int (t.1.2.1:Int)]) hp;have s2:=s1.trans (ak.upd (o:=.tup [.ref p,.str ⟨#[t.1.2.2]⟩]) hq);have h5:=e _ _ (s2 _ _ hl);have nr:r≠l:=λz=>by rw[z,h5]at hr;cases hr
 have np:p≠l:=λz=>by rw[z,hl]at hp;cases hp
 have nq:q≠l:=λz=>by rw[z,s1 _ _ hl]at hq;cases hq
 have nqp:p≠q:=λz=>by rw[←z,ai]at hq;cases hq
 have keep:∀{b o},b≠l->H5 b=some o->Wo l (L2.upd (L2.upd H5 r (.tup [.ref q,.int t.2])) l y) b=some o:=λ{b o} n h=>Wo.in n (by rw[av n,av (aX h hr)];exact h);exact⟨h5,nr,λb u h=>keep (Wo.ne h) (e _ _ (s2 _ _ (Wo.sub b u h))),q,Nq nr,p,keep nq (e _ _ ai),keep np (e _ _ (by rw[av nqp,ai];rfl))⟩
theorem Jj{α:Type}{R:α->α->Prop}{l:List α}{k:Nat}{x:α}(h:l.Pairwise R)(ir:∀a,¬R a a)(hk:l[k]? =some x):x∉l.take k:=λhm=>by
 have e:l=l.take k++l.drop k:=(qa0 k l).symm;rw[e]at h;have JB:=(o_.mp hk).1;have hd:x∈l.drop k:=by
  rw[qak JB,(o_.mp hk).2];exact z_
 exact ir x ((List.pairwise_append.mp h).2.2 x hm x hd)
noncomputable def yK:List Nat:=[112,97,98]
noncomputable def st3(q:Nat×Nat)(b:Nat):List aY:=(yK.take b).map λc=>(q.1,q.2,c)
theorem V0 {b:Nat}{x:V}(h:[V.str (h_ "p"),V.str (h_ "a"),V.str (h_ "b")][b]? =some x):∃c,yK[b]? =some c/\x= .str ⟨#[c]⟩:=by
 rw[sP,sA,sB]at h
 match b,h with
 | 0,h=>exact⟨112,Y,(L_ h).symm⟩
 | 1,h=>exact⟨97,Y,(L_ h).symm⟩
 | 2,h=>exact⟨98,Y,(L_ h).symm⟩
 |b+3,h=>simp at h
theorem UH{ps:List (Nat×Nat)}(pw:ps.Pairwise Ra){a b c:Nat}{q:Nat×Nat}(ha:ps[a]? =some q)(hb:yK[b]? =some c):(q.1,q.2,c)∉eG (ps.take a)++st3 q b:=λz=>by
 rcases V_.mp z with z|z
 ·exact Jj pw (λ_=>IY) ha (fj.mp z).1
 ·obtain⟨c',hc',e⟩:=U_.mp z;have e':c'=c:=(Prod.mk.inj (Prod.mk.inj e).2).2;subst e'
  match b,hb with
  | 0,hb=>exact nomatch hc'
  | 1,hb=>exact absurd hc' (by rw[←L_ hb];decide)
  | 2,hb=>exact absurd hc' (by rw[←L_ hb];decide)
  |b+3,hb=>simp[yK]at hb
theorem Sk{H:Hp}{g:Gd}{s:aY}:∀{kvs:List NE} {ss:List aY},M0 H g kvs ss->s∉ss->kc kvs (g7 s)=none
 |_,_,.nil,_=>rfl
 |_,_,.cons ⟨h1,_⟩ r,h=>by
  rw[jh (λz=>h (by rw[xD (h1.symm.trans z)];exact z_))];exact Sk r λz=>h (s_ _ z)
theorem NL{q:Nat×Nat}{b c:Nat}(h:yK[b]? =some c):st3 q (b+1)=st3 q b++[(q.1,q.2,c)]:=by
 unfold st3;rw[take_snoc h,M_];rfl
theorem UI{ps:List (Nat×Nat)}{q:Nat×Nat}{a b:Nat}(ha:a<ps.length):(eG (ps.take a)++st3 q b).length<=3*ps.length:=by
 rw[G_,wm,qaC];have:(st3 q b).length<=3:=by unfold st3;rw[l_,qaC];exact Nat.min_le_right _ _
 omega
theorem F0{ps:List (Nat×Nat)}{q:Nat×Nat}{a:Nat}(h:ps[a]? =some q):eG (ps.take (a+1))=eG (ps.take a)++st3 q 3:=by
 unfold eG;rw[take_snoc h,List.flatMap_append];simp[three,st3,yK]
theorem Lp{α:Type}(l:List α)(d:α)(c:α->Bool):((S_ l.length).filter λi=>c (l.getD i d)).map (λi=>l.getD i d)=l.filter c:=by
 have e:(S_ l.length).map (λi=>l.getD i d)=l:=by
  refine List.ext_getElem (by simp) λi h1 h2=>?_;simp[u_,h2]
 rw[show l.filter c=((S_ l.length).map λi=>l.getD i d).filter c by rw[e],List.filter_map];rfl
theorem yV{α β γ:Type}{F:β->γ->Prop}{f:α->β}{g:α->γ}:∀{l:List α},(∀i∈l,F (f i) (g i))->Paired F (l.map f) (l.map g)
 |[],_=>.nil
 |_::_,h=>.cons (h _ z_) (yV λi hi=>h i (s_ _ hi))
theorem Kp2{r:L2.St}{a b:Option V}:Kp (none::none::r) (a::b::r):=λi v e=>by
 match i with
 | 0=>cases e
 | 1=>cases e
 |i+2=>exact e
theorem Ku{H:Hp}{P l:U}{ln:qbO}{lq:v_}{xs:List V}{o:HO}(h:TabOk H P ln lq)(hl:H l=some (.lst xs)):TabOk (L2.upd H l o) P ln lq:=by
 have n:∀{b φ},H b=some (.ext φ)->b≠l:=λ{b φ} e z=>by rw[z,hl]at e;cases e
 rcases h with h|⟨c,h,h2⟩
 ·exact .inl (by rw[av (n h)];exact h)
 ·exact .inr ⟨c,by rw[av (n h)];exact h,by rw[av (n h2)];exact h2⟩
theorem LT.put{L:Lm}{H:Hp}{l:U}{xs:List V}{o:HO}(h:LT L H)(hl:H l=some (.lst xs)):LT L (L2.upd H l o):=⟨Ku h.a hl,Ku h.b hl,h.ne⟩
theorem Lo.put{P:r_}{w:I_}{L:Lm}{H H1:Hp}{l:U}{xs:List V}{o:HO}(a:Lo P w L H H1)(hn:H l=none)(hl:H1 l=some (.lst xs)):Lo P w L H (L2.upd H1 l o):=by
 refine⟨λb u q=>?_,λd kvs q=>?_,a.lt.put hl,λb q=>?_⟩
 ·rw[av (aX (Nt.sub b u q) hn)];exact a.nx b u q
 ·rw[av (aX q hn)];exact a.nd d kvs q
 ·by_cases z:b=l
  ·rw[z];exact hn
  ·rw[av z]at q;exact a.dom b q
theorem RG{H:Hp}{l q:U}{k:NK}{xs:List V}{o:HO}(h:fY H q k)(hl:H l=some (.lst xs)):fY (L2.upd H l o) q k:=by
 have n:∀{b ys},H b=some (.tup ys)->b≠l:=λ{b ys} e z=>by rw[z,hl]at e;cases e
 obtain⟨p,h1,h2⟩:=h;exact⟨p,by rw[av (n h1)];exact h1,by rw[av (n h2)];exact h2⟩
theorem qP(T:PT)(m f s:v_):(b7 T m f s).Ok:=by
 show Bc m f s ((f.cps.size:Int),(s.cps.size:Int))=true;unfold Bc;split
 ·simp
 ·split<;>simp
theorem EO(m:v_)(n k:Nat):iQ m n k≠[]:=by
 have h:((0:Nat),(0:Nat))∈iQ m n k:=by
  refine Z_.mpr ⟨fk.mpr ⟨Q_ _,Q_ _⟩,?_⟩;show yE m (((0:Nat):Int),((0:Nat):Int))=true;unfold yE;split
  ·simp
  ·split
   ·simp
   ·split<;>simp
 exact qbU h
end
section
theorem Xd{c:Int}(h1: -(10 ^ 39)-4<=c)(h2:c<=10 ^ 39):Sm c:=BE (by omega) (by omega)
def KI(K:PySem.W.Frag):Sp:=λvs H Q _=>wY λ(s t:U) (ns:List Int) (k:Int)=>vs=[.ref s,.ref t]/\B3 K H s t ns k/\k<=100000/\∀c:Int,-(10 ^ 39)<=c->c<=10 ^ 39->Q (.int c) (L2.upd H t (.lst [.int (k+1)]))
def F3(K:PySem.W.Frag):Sp:=λvs H Q _=>BG λ(s t:U) (ns:List Int) (k:Int) (n:Nat)=>vs=[.ref s,.ref t,.int n]/\B3 K H s t ns k/\k<=100000/\1<=n/\n<=6 ∧
 ∀x H',DK x->x.cps.size=n->ak (L2.upd H t (.lst [.int (k+1)])) H'->Q (.str x) H'
def V9(f:cJ):Prop:=1<=f.2/\f.2<=999/\ -(10 ^ 39)<=f.1/\f.1<=10 ^ 39
theorem V9.l{f:cJ}(h:V9 f):QG f:=⟨h.1,h.2.1,Xd (by have:=h.2.2.1;omega) h.2.2.2⟩
def F5(K:PySem.W.Frag):Sp:=λvs H Q _=>BG λ(s t:U) (ns:List Int) (k c:Int)=>vs=[.ref s,.ref t,.int c]/\B3 K H s t ns k/\k<=90000 ∧
 ∀(f:cJ) (q:U) (H':Hp) (k':Int),V9 f->ak (Wo t H) (Wo t H')->H' t=some (.lst [.int k'])->k<=k'->k'<=k+2->H q=none->H' q=some (.tup [.int f.1,.int f.2])->Q (.ref q) H'
def Kz(K:PySem.W.Frag):Sp:=λvs H Q _=>BG λ(s t:U) (ns:List Int) (k:Int) (n:Nat)=>vs=[.ref s,.ref t,.int n]/\B3 K H s t ns k/\k<=80000/\1<=n/\n<=6 ∧
 ∀(r l o m:U) (rs:List U) (rows:List (List cJ)) (fo fm:cJ) (sg:v_) (H':Hp) (k':Int),DK sg->sg.cps.size=n->H' r=some (.tup [.str sg,.ref l,.ref o,.ref m])->yb K (Wo t H') l rs rows->Qh n rows->(∀r∈rows,∀f∈r,QG f)->TupAt (Wo t H') o fo->QG fo->TupAt (Wo t H') m fm->QG fm →
  ak (Wo t H) (Wo t H')->H' t=some (.lst [.int k'])->k<=k'->k'<=k+200->Q (.ref r) H'
def Dd(K:PySem.W.Frag)(C:U):Sp:=λvs H Q _=>wY λ(s t:U) (ns:List Int) (k:Int)=>vs=[.ref s,.ref t]/\B3 K H s t ns k/\k<=70000 ∧
 ∀x H' k' T,Aj K C (Wo t H') x T->T.1.cps.size<=4->H x=none->ak (Wo t H) (Wo t H')->H' t=some (.lst [.int k'])->k<=k'->k'<=k+300->Q (.ref x) H'
def F7:Sp:=λvs H Q _=>∃m:Int,vs=[.int m]/\0<=m/\∀x H',rB x=true->ak H H'->Q (.str x) H'
def Qp(v u:V):Prop:=(∃s,v= .str s/\u= .str s)\/∃n,v= .int n/\u= .int n
noncomputable def DQ(K:PySem.W.Frag)(H:Hp):Nat->V->V->Prop
 | 0,v,u=>Qp v u
 |d+1,v,u=>Qp v u\/wY λp q xs ys=>v= .ref p/\u= .ref q/\bZ K H p xs/\bZ K H q ys/\xs.length=ys.length/\xs.length<=100/\∀(i:Nat) x y,xs[i]? =some x->ys[i]? =some y->DQ K H d x y
theorem DQ.same{K:PySem.W.Frag}{H H':Hp}(e:ak H H'):∀{d:Nat} {v u:V},DQ K H d v u->DQ K H' d v u
 | 0,_,_,h=>h
 |d+1,_,_,h=>h.imp id λ⟨p,q,xs,ys,h1,h2,h3,h4,h5,h6,h7⟩=>⟨p,q,xs,ys,h1,h2,ak.tup e h3,ak.tup e h4,h5,h6,λi x y hx hy=>DQ.same e (h7 i x y hx hy)⟩
theorem DQ.flat{K:PySem.W.Frag}{H:Hp}{d:Nat}{v u:V}(h:Qp v u):DQ K H d v u:=by
 cases d with
 |zero=>exact h
 |succ d=>exact .inl h
theorem DQ.int{K:PySem.W.Frag}{H:Hp}{d:Nat}{n:Int}:DQ K H d (.int n) (.int n):=.flat (.inr ⟨_,rfl,rfl⟩)
theorem DQ.str{K:PySem.W.Frag}{H:Hp}{d:Nat}{n:v_}:DQ K H d (.str n) (.str n):=.flat (.inl ⟨_,rfl,rfl⟩)
theorem DQ.of{K:PySem.W.Frag}{H:Hp}{p q:U}{xs ys:List V}{d:Nat}(hp:bZ K H p xs)(hq:bZ K H q ys)(hl:xs.length<=100)(h:Paired (DQ K H d) xs ys):DQ K H (d+1) (.ref p) (.ref q) :=
 .inr ⟨p,q,xs,ys,rfl,rfl,hp,hq,Paired.len h,hl,λi x y hx hy=>by
  obtain⟨y',hy',z⟩:=GP.Paired.at h hx;rw[hy]at hy';cases hy';exact z⟩
def z7(K:PySem.W.Frag)(d:Nat):Sp:=λvs H Q _=>dP λv u:V=>vs=[v,u]/\DQ K H d v u/\∀H',ak H H'->Q (.bl true) H'
theorem o9{α:Type}{l:List α}{i:Nat}{d x:α}(h:l[i]? =some x):l.getD i d=x:=by
 rw[u_,h];rfl
theorem QM{a tv:Int}{i j:Nat}(ht:tv=1\/tv=3\/tv=5\/tv=7\/tv=9\/tv=11)(hij:i<j)(hj:j<6):((a+(i:Int)*tv) % 92).toNat≠((a+(j:Int)*tv) % 92).toNat:=by
 intro z;have n1:=qao (a+(i:Int)*tv) (show(92:Int)≠0 by decide);have n2:=qao (a+(j:Int)*tv) (show(92:Int)≠0 by decide);have z':(a+(j:Int)*tv) % 92=(a+(i:Int)*tv) % 92:=by rw[←qau n1,←qau n2,z]
 have d:=Int.emod_eq_emod_iff_emod_sub_eq_zero.mp z';have tb:0<tv/\tv<=11:=by rcases ht with q|q|q|q|q|q<;>rw[q]<;>decide
 have p0:(0:Int)<((j-i:Nat):Int):=qbV.mpr (Nat.sub_pos_of_lt hij);have p5:((j-i:Nat):Int)<=5:=qbq.mpr (p_ (Nat.sub_le j i) (Nat.le_of_lt_succ hj));rw[Int.add_sub_add_left,←Int.sub_mul,←Int.natCast_sub (qaJ hij)]at d;have m0:=Int.mul_pos p0 tb.1;have m1:=Int.mul_le_mul p5 tb.2 (qaV tb.1) (show(0:Int)<=5 by decide);rw[Int.emod_eq_of_lt (qaV m0) (Int.lt_of_le_of_lt m1 (by decide))]at d;rw[d]at m0;exact absurd m0 (by decide)
theorem Hy(cs:List Int)(m:Int)(h:0<cs.length):∃c∈cs,DJ (cs.map V.int) (m % (cs.length:Int))=some (.int c):=by
 have hn:(0:Int)<(cs.length:Int):=qbV.mpr h;obtain⟨n,e⟩:=qbN (qao m (Int.ne_of_gt hn));have hl:=qan m hn;rw[e]at hl ⊢;have hl':n<cs.length:=qbV.mp hl;exact⟨cs[n],qaH hl',dY (by rw[O_,g_ hl'];rfl)⟩
theorem Jk{L:List Nat}{p:Nat->Nat}(hL:L.Nodup)(n:Nat)(hp:∀i,i<n->p i<L.length)(hne:∀i j,i<j->j<n->p i≠p j):((S_ n).map λi=>L.getD (p i) 0).Nodup:=by
 rw[List.Nodup,List.pairwise_map];refine List.Pairwise.imp_of_mem ?_ (List.pairwise_lt_range (n:=n));intro i j hi hj hij z;have h1:=hp i (qbe.mp hi);have h2:=hp j (qbe.mp hj);rw[o9 (g_ h1),o9 (g_ h2)]at z;exact hne i j hij (qbe.mp hj) ((List.getElem_inj hL).mp z)
noncomputable def O7:List Nat->Bool
 |a::b::r=>decide (a<b)&&O7 (b::r)
 |_=>true
theorem EE:∀{a:Nat} {l:List Nat},O7 (a::l)=true->(∀c∈l,a<c)/\O7 l=true
 |a,[],_=>⟨λc hc=>(nomatch hc),rfl⟩
 |a,b::r,h=>by
  have h':(decide (a<b)&&O7 (b::r))=true:=h;rw[qaP]at h';have h1:=of_decide_eq_true h'.1;refine⟨λc hc=>?_,h'.2⟩;rcases B_.mp hc with rfl|hc
  ·exact h1
  ·exact qcd h1 ((EE h'.2).1 c hc)
theorem Bo:∀{l:List Nat},O7 l=true->l.Nodup
 |[],_=>qbg
 |a::l,h=>qbX.mpr ⟨λz=>qap _ ((EE h).1 a z),Bo (EE h).2⟩
def Qq(rows:List (List cJ))(k:Nat):Prop:=∀a b f,QH rows a b f->QG f/\(a=b->k<=a->V9 f)
theorem LD{rows:List (List cJ)}{a c i j:Nat}{row:List cJ}{f g:cJ}(hr:rows[a]? =some row)(h:QH (rows.set a (row.set c f)) i j g):(i=a/\j=c/\g=f)\/QH rows i j g:=by
 obtain⟨r,h1,h2⟩:=h;rw[qcD]at h1;by_cases e:a=i
 ·subst e;rw[if_pos rfl,if_pos (o_.mp hr).1]at h1;cases h1;rw[qcD]at h2;by_cases e2:c=j
  ·subst e2;rw[if_pos rfl]at h2;split at h2
   ·exact .inl ⟨Y,Y,(L_ h2).symm⟩
   ·cases h2
  ·rw[if_neg e2]at h2;exact .inr ⟨row,hr,h2⟩
 ·rw[if_neg e]at h1;exact .inr ⟨r,h1,h2⟩
def BQ(K:PySem.W.Frag)(H:Hp)(t l:U)(n j:Nat)(k:Int)(H2:Hp):Prop:=dP λrs rows=>yb K (Wo t H2) l rs rows/\Qh n rows/\Qq rows j/\(∀r∈rs,H r=none)/\ak (Wo t H) (Wo t H2)/\H2 t=some (.lst [.int k])
theorem PM{rows:List (List cJ)}{k:Nat}(h:Qq rows k):∀r∈rows,∀f∈r,QG f:=λr hr f hf=>by
 obtain⟨i,hi,e⟩:=qa7 hr;obtain⟨j,hj,e'⟩:=qa7 hf;exact(h i j f ⟨r,o_.mpr ⟨hi,e⟩,o_.mpr ⟨hj,e'⟩⟩).1
theorem O5{xs:List V}{j:Nat}(h:j<xs.length):Ni xs.length (j:Int)=some j:=by
 unfold Ni;rw[if_pos (by omega),if_pos (by omega)];simp
def Ss(K:PySem.W.Frag)(C:U):Sp:=λvs H Q _=>nN λ(x:U) (T:PT) (b:Bool)=>vs=[.ref x,.bl b]/\Aj K C H x T/\Q (.int (if b=true then cL (uT T) T.2.2.2 else cL (uT T) T.2.2.1+cL (uT T) T.2.2.2)) H
def KG:Sp:=λvs H Q _=>nN λ(m:v_) (i j:Int)=>vs=[.str m,.int i,.int j]/\rB m=true/\Q (.bl (yE m (i,j))) H
def KD:Sp:=λvs H Q _=>BG λ(m f s:v_) (i j:Int)=>vs=[.str m,.str f,.str s,.int i,.int j]/\rB m=true/\f.cps.size<=20/\s.cps.size<=20/\Q (.bl (Bc m f s (i,j))) H
def NP(K:PySem.W.Frag)(C:U):Sp:=λvs H Q _=>Xe8 λ(x b:U) (T:PT) (m f s mv:v_) (q:Nat×Nat)=>vs=[.ref x,.str f,.str s,.ref b,.str mv]/\Aj K C H x T/\Of T.1 f/\Of T.1 s/\f.cps.size<=20/\s.cps.size<=20/\mv.cps.size<=1000/\Ft H b q ∧
 ((b7 T m f s).walk (q.1,q.2,112) mv.cps.toList=none->∀H',ak H H'->Q .jG H') ∧
 ∀c e,(b7 T m f s).walk (q.1,q.2,112) mv.cps.toList=some (c,e)->∀r p H',ak H H'->H r=none->H' r=some (.tup [.int c,.ref p])->Ft H' p (e.1,e.2.1)->Q (.ref r) H'
theorem Gd.qm(g:Gd)(s:aY)(v:Nat)(vs:List Nat):g.walk s (v::vs)=((g.steps s).find? λt=>t.1.2.2==v).bind λt=>(g.walk t.1 vs).map λr=>(t.2+r.1,r.2):=by
 rw[Gd.walk];cases (g.steps s).find? λt=>t.1.2.2==v<;>rfl
theorem Gd.uv{g:Gd}:∀(a b:List Nat) (s:aY),g.walk s (a++b)=(g.walk s a).bind λr=>(g.walk r.2 b).map λq=>(r.1+q.1,q.2)
 |[],b,s=>by
  show g.walk s b=(g.walk s b).map _
  cases g.walk s b with
  |none=>rfl
  |some r=>simp
 |v::a,b,s=>by
  rw[qcc,Gd.qm,Gd.qm]
  cases (g.steps s).find? (λt=>t.1.2.2==v)with
  |none=>rfl
  |some t =>
   show(g.walk t.1 (a++b)).map _=((g.walk t.1 a).map _).bind _;rw[Gd.uv a b t.1]
   cases g.walk t.1 a with
   |none=>rfl
   |some r =>
    show((g.walk r.2 b).map _).map _=(g.walk r.2 b).map _
    cases g.walk r.2 b with
    |none=>rfl
    |some q=>simp[Int.add_assoc]
theorem Gd.Nu{g:Gd}{s:aY}{t:aY×Int}(h:t∈g.steps s):g.walk s [t.1.2.2]=some (t.2,t.1):=by
 rw[Gd.qm,Gd.yk h];show some (t.2+0,t.1)=_;rw[Int.add_zero]
theorem Gd.LJ{g:Gd}{s e:aY}{a:List Nat}{c:Int}{t:aY×Int}(h:g.walk s a=some (c,e))(ht:t∈g.steps e):g.walk s (a++[t.1.2.2])=some (c+t.2,t.1):=by
 rw[Gd.uv,h];show(g.walk e [t.1.2.2]).map _=_;rw[Gd.Nu ht];rfl
theorem Gd.Ik{g:Gd}{s e:aY}{a b:List Nat}{c:Int}{v:Nat}(h:g.walk s a=some (c,e))(hn:∀t∈g.steps e,t.1.2.2≠v):g.walk s (a++v::b)=none:=by
 rw[Gd.uv,h];show(g.walk e (v::b)).map _=_;rw[Gd.qm,List.find?_eq_none.mpr λt ht=>by simpa using hn t ht];rfl
theorem Vn{m:v_}(h:rB m=true):m=h_ "whole" \/m=h_ "within" \/m=h_ "over" \/m=h_ "stretch" :=by
 by_cases h1:m=h_ "whole"
 ·exact .inl h1
 ·by_cases h2:m=h_ "within"
  ·exact .inr (.inl h2)
  ·by_cases h3:m=h_ "over"
   ·exact .inr (.inr (.inl h3))
   ·exact .inr (.inr (.inr (Cw h h1 h2 h3)))
theorem uf{a b:v_}{A B:Prop}(h1:a=b->A)(h2:¬a=b->B):if(decide (V.str a=V.str b))=true then A else B:=by
 by_cases h:a=b
 ·rw[if_pos (decide_eq_true (by rw[h]))];exact h1 h
 ·rw[if_neg (by rw[decide_eq_false (λz=>h (V.str.inj z))];exact y_)];exact h2 h
theorem Hj{i j:Int}:decide (V.int i=V.int j)=decide (i=j):=by
 by_cases h:i=j
 ·rw[h,decide_eq_true rfl,decide_eq_true rfl]
 ·rw[decide_eq_false h,decide_eq_false (λz=>h (V.int.inj z))]
theorem its{a b:v_}{A B:Prop}(h:a=b)(x:A):if(decide (V.str a=V.str b))=true then A else B:=uf (λ_=>x) λz=>absurd h z
theorem GW{a b:v_}{A B:Prop}(h:¬a=b)(x:B):if(decide (V.str a=V.str b))=true then A else B:=uf (λz=>absurd z h) λ_=>x
theorem Yr{p:Prop}[Decidable p]{A B:Prop}(h:p)(x:A):if(decide p)=true then A else B:=b9 (λ_=>x) λz=>absurd h z
theorem Jw{p:Prop}[Decidable p]{A B:Prop}(h:¬p)(x:B):if(decide p)=true then A else B:=b9 (λz=>absurd z h) λ_=>x
theorem I8{a b:Nat}(h:a≠b):¬(⟨#[a]⟩:v_)=⟨#[b]⟩:=λz=>h (by simpa using congrArg qcO z)
theorem Gd.xK{g:Gd}{e:aY}{v:Nat}(h1:¬(v=112/\e.1<g.n/\e.2.1<g.m))(h2:¬(v=97/\e.1<g.n))(h3:¬(v=98/\e.2.1<g.m)):∀t∈g.steps e,t.1.2.2≠v:=λt ht z=>by
 rcases Gd.dI.mp ht with⟨a,b,rfl⟩|⟨a,rfl⟩|⟨a,rfl⟩
 ·exact h1 ⟨z.symm,a,b⟩
 ·exact h2 ⟨z.symm,a⟩
 ·exact h3 ⟨z.symm,a⟩
theorem Pw{T:PT}{m f s L a:v_}{g:Gd}{v c:Nat}(hg:b7 T m f s=g)(h:L=a↔c=v):g.ac v c=if decide (V.str L=V.str a)=true then cL (uT T) T.2.2.2 else cL (uT T) T.2.2.1+cL (uT T) T.2.2.2:=by
 subst hg;unfold Gd.ac;by_cases e:L=a
 ·rw[if_pos (h.mp e).symm,if_pos (decide_eq_true (by rw[e]))];rfl
 ·rw[if_neg (λz=>e (h.mpr z.symm)),if_neg (by rw[decide_eq_false (λz=>e (V.str.inj z))];exact y_)];rfl
end
end GP
namespace L2
open PySem PySem.Spec PyProof.Rows
end L2
namespace GP
open PySem L2 rF
def DY(K:PySem.W.Frag)(L:Lm):Sp:=λvs H Q _=>dP λ(a:U) (ns:List Int)=>vs=[.ref a]/\bW K H a (ns.map V.int)/\ns.length<=63/\LT L H/\∀H',LT L H'->Q (.bl true) H'
theorem LT.wo{L:Lm}{H:Hp}{t:U}{xs:List V}(h:LT L H)(ht:H t=some (.lst xs)):LT L (Wo t H):=by
 have n:∀{b φ},H b=some (.ext φ)->b≠t:=λ{b φ} e z=>by rw[z,ht]at e;cases e
 have tb:∀{Q ln lq},TabOk H Q ln lq->TabOk (Wo t H) Q ln lq:=λ{Q ln lq} h=>by
  rcases h with h|⟨c,h,h2⟩
  ·exact .inl (Wo.in (n h) h)
  ·exact .inr ⟨c,Wo.in (n h) h,Wo.in (n h2) h2⟩
 exact⟨tb h.a,tb h.b,h.ne⟩
theorem LT.step{L:Lm}{H H':Hp}{t:U}{xs:List V}(h:LT L H)(ht:H t=some (.lst xs))(e:ak (Wo t H) (Wo t H')):LT L H':=((h.wo ht).same e).same Wo.sub
theorem CV.same{H H':Hp}{r:U}{T:PT}{m f s:v_}(h:CV H r T m f s)(e:ak H H'):CV H' r T m f s:=by
 obtain⟨b,c,p,h1,h2,h3,h4⟩:=h;exact⟨b,c,p,h1,e _ _ h2,e _ _ h3,e _ _ h4⟩
theorem CV.eq{K:PySem.W.Frag}{H:Hp}{r r':U}{T:PT}{m f s:v_}(h:CV H r T m f s)(h':CV H r' T m f s):DQ K H 2 (.ref r) (.ref r'):=by
 obtain⟨b,c,p,h1,h2,h3,h4⟩:=h;obtain⟨b',c',p',k1,k2,k3,k4⟩:=h';obtain rfl:=L_ (h1.symm.trans k1);exact DQ.of (bZ.of h2) (bZ.of k2) (by show 3<=100;decide) (.cons (DQ.of (bZ.of h3) (bZ.of k3) (by show 2<=100;decide) (.cons .int (.cons .int .nil))) (.cons (DQ.of (bZ.of h4) (bZ.of k4) (by show 2<=100;decide) (.cons .int (.cons .int .nil))) (.cons .str .nil)))
end GP
namespace L2
open PySem PySem.Spec PyProof.Rows PySem.W
section
section
variable{X:Cx}{pins:List (U×qa9)}{σ:St}{H:Hp}{s:n_}{a q:U}{k:NK}{kvs:List NE}{v:V}{r:k_}{A:qab}{E:k_->n_->Prop}
end
section
variable{X:Cx}{o e f i:Expr}{apos cpos pos:qbO}{td ty tx:TE}{Pr:r_}{wo:I_}
end
end
section
theorem Inv.abS{X:Cx}{pins:List (U×qa9)}{σ:St}{H:Hp}{s:n_}{a:U}{o:qa9}{u:HO}(I:Inv X pins σ H s)(h:H a=some (.yg o u))(h0:∀o u,X.H₀ a≠some (.yg o u)):Inv X pins σ (upd H a u) s:=by
 have nn:∀{b},H b=none->upd H a u b=none:=λ{b} e=>by rw[av (Ne.symm (aX h e))];exact e
 have keep:∀{b v},(∀o u,v≠ .yg o u)->H b=some v->upd H a u b=some v:=λ{b v} n e=>by rw[av (λz=>by rw[z,h]at e;exact n o u (L_ e).symm)];exact e
 refine⟨I.ok,I.os,I.bare,⟨I.base.keep,I.base.slot,λb o e n hx=>nn (I.base.free b o e n hx),I.base.there,λb xs e=>keep (λ_ _ z=>by cases z) (I.base.tups b xs e),λb o' u' e=>?_,λb ps e=>?_⟩,I.loc,I.cell,nn I.free,λx c e=>nn (I.ug x c e),λp hp=>?_,λb v e=>?_,I.len,I.up⟩
 ·by_cases z:b=a
  ·rw[z]at e;exact absurd e (h0 _ _)
  ·rw[av z];exact I.base.Cz b o' u' e
 ·obtain⟨m,e2⟩:=I.base.DT b ps e;exact⟨m,keep (λ_ _ z=>by cases z) e2⟩
 ·obtain⟨p1,p2,p3⟩:=I.pin p hp;exact⟨p1,nn p2,p3⟩
 ·have st:∀{c v},dF X.prog X.w H s.heap c v->dF X.prog X.w (upd H a u) s.heap c v:=λ{c v} q=>q.stay (λ_ _ _ r=>r) (λb r=>keep (λ_ _ z=>by cases z) r) λb xs r=>keep (λ_ _ z=>by cases z) r;by_cases z:b=a
  ·subst z;rw[ai]at e;cases e;exact st (I.hok b _ h).2
  ·rw[av z]at e;exact st (I.hok b v e)
end
end L2
namespace GP
open PySem L2 rF
section
theorem Gd.N9{g:Gd}{s:aY}(h:g.en s.1 s.2.1=true):g.rest s<=0:=by
 rw[g.rest_eq];refine Ab (T_ _ ?_);rw[if_pos h];exact z_
theorem Gd.vo{g:Gd}{s:aY}{t:aY×Int}(h:t∈g.steps s):g.rest s<=t.2+g.rest t.1:=by
 rw[g.rest_eq];exact Ab (qav _ (U_.mpr ⟨t,h,Y⟩))
theorem Gd.pA{g:Gd}{s e:aY}{v:Nat}{vs:List Nat}{c:Int}(h:g.walk s (v::vs)=some (c,e)):dP λt c'=>t∈g.steps s/\t.1.2.2=v/\g.walk t.1 vs=some (c',e)/\c=t.2+c':=by
 rw[Gd.qm]at h;obtain⟨t,ht,h⟩:=qcy.mp h;obtain⟨⟨c',e'⟩,hr,h⟩:=qac.mp h;cases h;exact⟨t,c',List.mem_of_find?_eq_some ht,by simpa using List.find?_some ht,hr,Y⟩
theorem Gd.rY{g:Gd}:∀{vs:List Nat} {s e:aY} {c:Int},g.walk s vs=some (c,e)->g.en e.1 e.2.1=true->g.rest s<=c
 |[],s,e,c,h,he=>by cases h;exact Gd.N9 he
 |v::vs,s,e,c,h,he=>by
  obtain⟨t,c',ht,_,hw,rfl⟩:=Gd.pA h;have h1:=Gd.vo ht;have h2:=Gd.rY hw he;omega
end
section
end
section
end
section
end
section
end
section
end
section
noncomputable abbrev Wy3:=List Nat×Int×aY
noncomputable abbrev Wy4:=(Nat×Nat)×Wy3
noncomputable def Gd.WK(g:Gd):Nat->aY->List Wy3
 | 0,_=>[]
 |d+1,s=>([],0,s)::(g.steps s).flatMap λt=>(g.WK d t.1).map λw=>(t.1.2.2::w.1,t.2+w.2.1,w.2.2)
noncomputable def Gd.Qw(g:Gd)(s:aY):List Wy3:=g.WK (g.ht s+1) s
theorem vV{α β:Type}{l:List α}{f h:α->List β}(e:∀a∈l,f a=h a):l.flatMap f=l.flatMap h:=by
 rw[List.flatMap_def,List.flatMap_def,qbF e]
theorem Gd.Al{g:Gd}:∀(d:Nat) (s:aY),g.ht s<d->g.WK d s=g.Qw s
 | 0,_,h=>by omega
 |d+1,s,h=>by
  have e1:∀t∈g.steps s,g.WK d t.1=g.Qw t.1:=λt ht=>Gd.Al d t.1 (by have:=Gd.eY ht;omega);by_cases hd:d=g.ht s
  ·subst hd;rfl
  ·have e2:∀t∈g.steps s,g.WK (g.ht s) t.1=g.Qw t.1:=λt ht=>by
    have:=Gd.eY ht;have hlt:g.ht s<d:=by omega
    exact Gd.Al (g.ht s) t.1 this
   show([],0,s)::_=([],0,s)::_;exact congrArg _ (vV λt ht=>by rw[e1 t ht,e2 t ht])
 termination_by d=>d
theorem Gd.Ij(g:Gd)(s:aY):g.Qw s=([],0,s)::(g.steps s).flatMap λt=>(g.Qw t.1).map λw=>(t.1.2.2::w.1,t.2+w.2.1,w.2.2):=by
 show([],0,s)::_=([],0,s)::_;rw[vV λt ht=>by rw[Gd.Al _ t.1 (Gd.eY ht)]]
theorem Gd.xO{g:Gd}:∀{mv:List Nat} {s e:aY} {c:Int},(mv,c,e)∈g.Qw s↔g.walk s mv=some (c,e)
 |[],s,e,c=>by
  rw[Gd.Ij,B_];constructor
  ·rintro(h|h)
   ·cases h;rfl
   ·obtain⟨t,_,h⟩:=qbM.mp h;obtain⟨w,_,h⟩:=U_.mp h;cases h
  ·intro h;cases h;exact .inl Y
 |v::vs,s,e,c=>by
  rw[Gd.Ij,B_];constructor
  ·rintro(h|h)
   ·cases h
   ·obtain⟨t,ht,h⟩:=qbM.mp h;obtain⟨⟨w1,w2,w3⟩,hw,h⟩:=U_.mp h;cases h;rw[Gd.qm,Gd.yk ht];show(g.walk t.1 w1).map _=_;rw[Gd.xO.mp hw];rfl
  ·intro h;obtain⟨t,c',ht,rfl,hw,rfl⟩:=Gd.pA h;exact .inr (qbM.mpr ⟨t,ht,U_.mpr ⟨(vs,c',e),Gd.xO.mpr hw,Y⟩⟩)
noncomputable def Gd.cnt(g:Gd)(s:aY):Nat:=(g.Qw s).countP λw=>g.en w.2.2.1 w.2.2.2.1&&decide (w.2.1=g.rest s)
theorem Gd.PY{g:Gd}{s:aY}{c x:Int}(h:x<=c+g.rest s):((g.Qw s).countP λw=>g.en w.2.2.1 w.2.2.2.1&&decide (c+w.2.1=x))=if c+g.rest s=x then g.cnt s else 0:=by
 by_cases e:c+g.rest s=x
 ·rw[if_pos e];refine List.countP_congr λw _=>?_;simp only[qaP,decide_eq_true_eq];constructor<;>rintro⟨a,b⟩<;>exact⟨a,by omega⟩
 ·rw[if_neg e];refine List.countP_eq_zero.mpr λw hw=>?_;simp only[qaP,decide_eq_true_eq];rintro⟨a,b⟩;have:g.rest s<=w.2.1:=Gd.rY (Gd.xO.mp hw) a;omega
theorem Gd.VW(g:Gd)(s:aY):g.cnt s=(if g.stop s then 1 else 0)+((g.steps s).map λt=>if t.2+g.rest t.1=g.rest s then g.cnt t.1 else 0).sum:=by
 show(g.Qw s).countP _=_;rw[Gd.Ij,List.countP_cons,List.countP_flatMap,qcC];congr 1
 ·unfold Gd.stop;rw[show decide ((0:Int)=g.rest s)=decide (g.rest s=0) from decide_eq_decide.mpr ⟨Eq.symm,Eq.symm⟩]
 ·refine congrArg List.sum (qbF λt ht=>?_);rw[Function.comp_apply,List.countP_map];exact Gd.PY (Gd.vo ht)
noncomputable def Gd.pre(g:Gd)(bs:List (Nat×Nat)):List Wy4:=bs.flatMap λb=>(g.Qw (b.1,b.2,112)).map λw=>(b,w)
theorem Gd.rA{g:Gd}{bs:List (Nat×Nat)}{b:Nat×Nat}{mv:List Nat}{c:Int}{e:aY}:(b,mv,c,e)∈g.pre bs↔b∈bs/\g.walk (b.1,b.2,112) mv=some (c,e):=by
 unfold Gd.pre;rw[qbM];constructor
 ·rintro⟨b',hb,h⟩;obtain⟨w,hw,h⟩:=U_.mp h;cases h;exact⟨hb,Gd.xO.mp hw⟩
 ·rintro⟨hb,h⟩;exact⟨b,hb,U_.mpr ⟨_,Gd.xO.mpr h,Y⟩⟩
noncomputable def Gd.tot(g:Gd)(bs:List (Nat×Nat))(x:Int):Nat:=(g.pre bs).countP λw=>g.en w.2.2.2.1 w.2.2.2.2.1&&decide (w.2.2.1=x)
theorem sum_filter{α:Type}(p:α->Bool)(f:α->Nat):∀l:List α,(l.map λa=>if p a=true then f a else 0).sum=((l.filter p).map f).sum
 |[]=>rfl
 |a::l=>by
  rw[Y_,List.sum_cons,sum_filter p f l]
  cases h:p a with
  |true=>rw[qaz h];simp
  |false=>rw[qaA (by rw[h];exact y_)];simp
theorem Gd.Ut{g:Gd}{bs:List (Nat×Nat)}{x:Int}(h:∀b∈bs,x<=g.iP b):g.tot bs x=((bs.filter λb=>decide (g.iP b=x)).map λb=>g.cnt (b.1,b.2,112)).sum:=by
 unfold Gd.tot Gd.pre;rw[List.countP_flatMap,←sum_filter];refine congrArg List.sum (qbF λb hb=>?_);rw[Function.comp_apply,List.countP_map];have z:=Gd.PY (g:=g) (s:=(b.1,b.2,112)) (c:=0) (x:=x) (by have:=h b hb;show x<=0+g.iP b;omega);simp only[qaW,decide_eq_true_eq]at z ⊢;exact z
theorem Gd.LN{g:Gd}{vs:List Nat}{v:Nat}{s e:aY}{c:Int}(h:g.walk s (vs++[v])=some (c,e)):nN λr c' t=>g.walk s vs=some (c',r)/\t∈g.steps r/\t.1=e/\t.1.2.2=v/\c=c'+t.2:=by
 rw[Gd.uv]at h;obtain⟨⟨c',r⟩,h1,h⟩:=qcy.mp h;obtain⟨⟨c2,r2⟩,h2,h⟩:=qac.mp h;cases h;obtain⟨t,c3,ht,hv,hw,rfl⟩:=Gd.pA h2;cases hw;exact⟨r,c',t,h1,ht,Y,hv,by show c'+(t.2+0)=c'+t.2;omega⟩
end
end GP
namespace L2
open PySem PySem.Spec PyProof.Rows
theorem yU(ns:List Int):∀n:Nat,preSum (λi=>(ns[i]?).getD 0) n=(ns.take n).sum
 | 0=>rfl
 |n+1=>by
  show preSum _ n+(ns[n]?).getD 0=_;rw[yU ns n];by_cases hn:n<ns.length
  ·rw[List.take_add_one,g_ hn,List.sum_append];simp
  ·rw[qa_ (by omega),X_ (by omega),X_ (by omega)];simp
theorem ints_get:∀{ns:List Int} {us:List k_},Vals (ns.map V.int) us->∀(i:Nat) (v:k_),us[i]? =some v->dP λn t=>ns[i]? =some n/\v= .int n t
 |[],_,r,i,v,e=>by
  cases r;simp at e
 |n::ns,_,r,i,v,e=>by
  cases r with
  |cons r1 r2 =>
   cases i with
   |zero =>
    simp at e;subst e;obtain⟨t,z⟩:=r1;exact⟨n,t,Y,z⟩
   |succ i=>exact ints_get r2 i v e
theorem MS{X:Cx}{K':PySem.W.Frag}(hK:X.K=K')(hc:X.calm=true):pM X (.builtin "sum") (λxs H Q=>dP λ(l:U) (ns:List Int)=>xs=[.ref l]/\bW K' H l (ns.map V.int)/\Q (.int ns.sum) H):=by
 subst hK;intro pins s σ H xs us Q I r h;obtain⟨l,ns,rfl,hl,q⟩:=h;obtain⟨u,rfl,ru⟩:=vals1 r;cases ru;obtain⟨its,rv,p,hz⟩:=I.list hl;have pl:s.heap.IsList l its.toArray:=p.isList;have hlt:l<s.heap.objs.size:=by obtain⟨_,e,_⟩:=pl;exact E_ e
 have hlen:ns.length=its.length:=by rw[←rv.length,l_]
 refine TK.bX (j_ s.toks) ?_;refine call_sum_walkG (qaY pl ?_);refine⟨s.heap.objs.size,[s.heap.objs.size,l],[s.heap.objs.size],its.toArray.size,_,_,λi=>(ns[i]?).getD 0,Y,qct (A:=X.A.in1) (I.ok.hd hc) _ l (R_ hlt) its.toArray,
  ⟨⟨_,t_ _ rfl,rfl,rfl⟩,pl.push _⟩,λb hb=>?_,λi v hP=>?_,λh' tk t' hk hup=>?_⟩
 ·show b<(s.heap.push _).objs.size;rw[qaT];rcases B_.mp hb with rfl|z
  ·exact qaO _
  ·rw[x_.mp z];exact Nat.lt_succ_of_lt hlt
 ·obtain⟨n,t,e,rfl⟩:=ints_get rv i v (by simpa using hP);exact⟨t,by show _=Value.int ((ns[i]?).getD 0) t;rw[e];rfl⟩
 ·rw[yU,K_,←hlen,qbb];refine⟨.int ns.sum,H,I.kept (t':=tk) (λb x e=>hk b x (λhm=>?_) (m_ _ e)),⟨_,Y⟩,q⟩;rw[x_.mp hm]at e;exact qap _ (E_ e)
end L2
namespace GP
open PySem L2 rF
section
def aej(kvs:List NE)(g:Gd):Prop:=∀s,g.In s->kc kvs (g7 s)=some (.int (g.cnt s:Int))
def NY(P:r_)(w:I_)(CG:U):Sp:=λvs H Q _=>BG λ(x d:U) (g:Gd) (bs:List (Nat×Nat)) (kvs:List NE)=>vs=[.ref x,.ref d]/\GR P w CG H x d g bs kvs/\g.n<=12/\g.m<=12/\∀d' kvs' H',ak H H'->H d'=none->ND P w H' d' kvs'->aej kvs' g->Q (.ref d') H'
noncomputable def Gd.xX(g:Gd)(s:aY)(k:Nat):Nat:=(if g.stop s then 1 else 0)+(((g.steps s).take k).map λt=>if t.2+g.rest t.1=g.rest s then g.cnt t.1 else 0).sum
theorem Gd.MQ(g:Gd)(s:aY):g.xX s (g.steps s).length=g.cnt s:=by
 unfold Gd.xX;rw[qbb,←Gd.VW]
theorem Gd.JP{g:Gd}{s:aY}{k:Nat}{t:aY×Int}(h:(g.steps s)[k]? =some t):g.xX s (k+1)=g.xX s k+if t.2+g.rest t.1=g.rest s then g.cnt t.1 else 0:=by
 unfold Gd.xX;rw[take_snoc h,M_,List.sum_append];simp[Nat.add_assoc]
theorem Pz{α β:Type}(l:List α)(d:α)(c:α->Bool)(F:α->β):((S_ l.length).filter λi=>c (l.getD i d)).map (λi=>F (l.getD i d))=(l.filter c).map F:=by
 rw[←Lp l d c,qaL];rfl
theorem FU{α:Type}(f:α->Nat):∀l:List α,(l.map λa=>(f a:Int)).sum=((l.map f).sum:Nat)
 |[]=>rfl
 |a::l=>by
  rw[Y_,List.sum_cons,FU f l,Y_,List.sum_cons,Int.natCast_add]
end
section
end
end GP
namespace PySem.SeqAt
open AutoSeq1 (wpAny_loadPart')
open MeetsSeq MeetsSeq2 MeetsSeq3 SeqRoads2
def wV(A:qab)(s:n_)(y x:k_)(b:Bool):Prop :=
 ∀(prog:r_) (w:I_) (E:k_->n_->Prop) (Q:k_->n_->Prop),Q (.bool b) s->C_ (model prog w) A (richCompare .Lt y x) Q E s
noncomputable def Bk(e g:Nat->Bool)(z:Bool):List Nat->Bool
 |[]=>z
 |j::r=>if e j then Bk e g z r else g j
theorem IA(l b:U)(items items2:Array k_)(n n2:Nat)(dd dd2:Option U)(sl sl2:Array (Option k_))(e g:Nat->Bool):
  Meets (Builtin.«tuple.__lt__» ⟨[.ref l,.ref b],[]⟩)
   (λA R s=>s.heap.get? l=some { cls:=.type "tuple",dict:=dd,data:=.seq items n,slots:=sl }/\s.heap.get? b=some { cls:=.type "tuple",dict:=dd2,data:=.seq items2 n2,slots:=sl2 } ∧
    (∀j (h1:j<items.size) (h2:j<items2.size),EqAt A.in1 s items[j] items2[j] (e j)) ∧
    (∀j (h1:j<items.size) (h2:j<items2.size),e j=false->wV A.in1 s items[j] items2[j] (g j)) ∧
    R (.ok (.ret (.bool (Bk e g (decide (items.size<items2.size)) (S_ (min items.size items2.size)))))) s) :=
 .of_wp λprog w A R s h=>by
  obtain⟨hp,gn,d,tk,os⟩:=s;obtain⟨hl,hb,he,hg,h⟩:=h;have f2:=AutoSeq1.sub_tuple_tuple;have hZ:(items.toList.zip items2.toList).length=min items.size items2.size:=by simp
  wp_walk using wpAny_loadPart' hl,wpAny_loadPart' hb,qce _ (λrest b s'=>b.1=none/\s'=⟨hp,gn,d,tk,os⟩/\∃i,rest=(items.toList.zip items2.toList).drop i ∧
   R (.ok (.ret (.bool (Bk e g (decide (items.size<items2.size)) ((S_ (min items.size items2.size)).drop i))))) ⟨hp,gn,d,tk,os⟩) _
  case turn =>
   rintro⟨y,x⟩ rest b s' ⟨hb',rfl,i,hz,hR⟩;have hlt:i<(items.toList.zip items2.toList).length:=by
    rcases Nat.lt_or_ge i (items.toList.zip items2.toList).length with h'|h'
    ·exact h'
    ·rw[qbW h']at hz;cases hz
   have hm:i<min items.size items2.size:=hZ▸hlt;have h1:i<items.size:=H_ hm (Nat.min_le_left _ _);have h2:i<items2.size:=H_ hm (Nat.min_le_right _ _);rw[qak hlt]at hz;injection hz with hyx hrest;have hy:y=items[i]:=by have:=congrArg Prod.fst hyx;simpa using this
   have hx:x=items2[i]:=by have:=congrArg Prod.snd hyx;simpa using this
   subst hy hx;have hd:(S_ (min items.size items2.size)).drop i=i::(S_ (min items.size items2.size)).drop (i+1):=by simp[qak,hm]
   rw[hd]at hR;refine f_ (he i h1 h2 prog w _ _ ?_)
   cases hy:e i with
   |true =>
    have Wq:Bk e g (decide (items.size<items2.size)) (i::(S_ (min items.size items2.size)).drop (i+1))=Bk e g (decide (items.size<items2.size)) ((S_ (min items.size items2.size)).drop (i+1)):=by
     show(if e i then _ else _)=_
     rw[hy];rfl
    rw[Wq]at hR
    wp_walk
    exact⟨Y,Y,i+1,hrest,hR⟩
   |false =>
    have Wq:Bk e g (decide (items.size<items2.size)) (i::(S_ (min items.size items2.size)).drop (i+1))=g i:=by
     show(if e i then _ else _)=_
     rw[hy];rfl
    rw[Wq]at hR;have hri:=hg i h1 h2 hy prog w
    wp_walk using hri
    exact⟨_,Y,hR⟩
  case fin =>
   rintro⟨b1,b2⟩ s' ⟨hb',rfl,i,hz,hR⟩;simp only at hb';subst hb';have hge:min items.size items2.size<=i:=by
    rcases Nat.lt_or_ge i (items.toList.zip items2.toList).length with h'|h'
    ·rw[qak h']at hz;cases hz
    ·exact hZ▸h'
   rw[qbW (by simpa using hge)]at hR
   wp_walk
   exact⟨_,Y,by simpa[Builtin.Tuple.tupleCompareSizes,Bk]using hR⟩
  case h =>
   exact⟨Y,Y,0,Y,by simpa using h⟩
theorem wV.tuples{A:qab}{s:n_}{l b:U}{items items2:Array k_}{e g:Nat->Bool}(hl:s.heap.IsTuple l items)(hb:s.heap.IsTuple b items2)(hu:A.units<cLine)
  (he:∀j (h1:j<items.size) (h2:j<items2.size),EqAt A.in1 s items[j] items2[j] (e j)) (hg:∀j (h1:j<items.size) (h2:j<items2.size),e j=false->wV A.in1 s items[j] items2[j] (g j)) :
  wV A s (.ref l) (.ref b) (Bk e g (decide (items.size<items2.size)) (S_ (min items.size items2.size))):=λprog w E Q h=>by
 obtain⟨⟨cls,dd,data,sl⟩,ho,hc,n,hd⟩:=id hl;obtain⟨⟨ahR,dd2,data2,sl2⟩,ho2,hc2,n2,hd2⟩:=id hb;simp only at hc hd hc2 hd2;subst hc hd hc2 hd2;exact richCompare_meets_room (op:=.Lt) ⟨_,ho,Y⟩ ⟨_,ho2,Y⟩ F.slot_tuple_lt F.entry_tuple_lt (F.args_tuple_lt_2 _ _) (IA l b items items2 n n2 dd dd2 sl sl2 e g)
  ⟨ho,ho2,he,hg,show Value.bool (Bk e g (decide (items.size<items2.size)) (S_ (min items.size items2.size)))≠Value.notImplemented/\Q (.bool (Bk e g (decide (items.size<items2.size)) (S_ (min items.size items2.size)))) s from⟨(λx=>nomatch x),h⟩⟩ hu
theorem wV.str_str{A:qab}{s:n_}(a:v_)(t:qcN)(b:v_)(u:qcN):wV A s (.str a t) (.str b u) (decide (a.cps.toList<b.cps.toList)):=λprog w E Q h=>P.lt_str h
theorem wV.int_int{A:qab}{s:n_}(a:Int)(t:qcN)(b:Int)(u:qcN):wV A s (.int a t) (.int b u) (decide (a<b)):=λprog w E Q h=>HT.Oa A s a t b u prog w E Q h
end PySem.SeqAt
namespace L2
open PySem PySem.Spec PyProof.Rows
section
open PySem.SeqAt
noncomputable def K8(i j k l:Int):Bool:=if i=k then decide (j<l)else decide (i<k)
noncomputable def K9(i j:Int)(m:v_)(k l:Int)(n:v_):Bool:=if i=k/\j=l then decide (m.cps.toList<n.cps.toList)else K8 i j k l
section
variable{A:qab}{s:n_}{p q:U}{i j k l:Int}{t1 t2 t3 t4:qcN}
theorem PD(w:Nat)(h1:w< #[Value.int i t1,.int j t2].size)(h2:w< #[Value.int k t3,.int l t4].size):EqAt A s #[Value.int i t1,.int j t2][w] #[Value.int k t3,.int l t4][w] (if w=0 then i==k else j==l):=by
 match w,h1,h2 with
 | 0,_,_=>exact EqAt.int_int i t1 k t3
 | 1,_,_=>exact EqAt.int_int j t2 l t4
theorem PC(hp:s.heap.IsTuple p #[.int i t1,.int j t2])(hq:s.heap.IsTuple q #[.int k t3,.int l t4])(hu:A.units<cLine):EqAt A s (.ref p) (.ref q) (decide (i=k/\j=l)):=by
 by_cases e:p=q
 ·subst e;obtain⟨o,ho,_,n,hd⟩:=hp;obtain⟨o',ho',_,n',hd'⟩:=hq;rw[ho]at ho';cases ho';rw[hd]at hd';injection hd' with hd1 _;injection hd1 with hd1;injection hd1 with a1 a2;injection a2 with a2 _;injection a1 with a1 _;injection a2 with a2 _;rw[decide_eq_true ⟨a1,a2⟩];exact EqAt.same _
 ·have z:=EqAt.of_refs e (RcAt.tuples hp hq hu λw h1 h2=>PD w h1 h2)
  have ez:((S_ (min #[Value.int i t1,.int j t2].size #[Value.int k t3,.int l t4].size)).all (λw=>if w=0 then i==k else j==l)&& #[Value.int i t1,.int j t2].size== #[Value.int k t3,.int l t4].size)=decide (i=k/\j=l):=by
   show((i==k)&&((j==l)&&true)&&true)=_;rw[Bool.and_true,Bool.and_true,Bool.decide_and];rfl
  rw[ez]at z;exact z
theorem U6(hp:s.heap.IsTuple p #[.int i t1,.int j t2])(hq:s.heap.IsTuple q #[.int k t3,.int l t4])(hu:A.units<cLine):wV A s (.ref p) (.ref q) (K8 i j k l):=by
 have z:=wV.tuples (g:=λw=>if w=0 then decide (i<k)else decide (j<l)) hp hq hu (λw h1 h2=>PD w h1 h2) λw h1 h2 _=>by
  match w,h1,h2 with
  | 0,_,_=>exact wV.int_int i t1 k t3
  | 1,_,_=>exact wV.int_int j t2 l t4
 have ez:Bk (λw=>if w=0 then i==k else j==l) (λw=>if w=0 then decide (i<k)else decide (j<l)) (decide (#[Value.int i t1,.int j t2].size< #[Value.int k t3,.int l t4].size)) (S_ (min #[Value.int i t1,.int j t2].size #[Value.int k t3,.int l t4].size))=K8 i j k l:=by
  show(if(i==k)=true then(if(j==l)=true then decide (2<2)else decide (j<l))else decide (i<k))=_
  unfold K8;by_cases a:i=k
  ·rw[if_pos (beq_iff_eq.mpr a),if_pos a];by_cases b:j=l
   ·rw[if_pos (beq_iff_eq.mpr b),b];simp
   ·rw[if_neg (λz=>b (beq_iff_eq.mp z))]
  ·rw[if_neg (λz=>a (beq_iff_eq.mp z)),if_neg a]
 rw[ez]at z;exact z
end
theorem Ks{x y:V}{us:List k_}(h:Vals [x,y] us):dP λu v=>us=[u,v]/\RelV x u/\RelV y v:=by
 cases h with
 |cons r1 h =>
  cases h with
  |cons r2 h =>
   cases h;exact⟨_,_,Y,r1,r2⟩
end
section
noncomputable def NF(c d x:Nat):Nat:=if x=c then d else x
theorem Bd(c d:Nat):∀l:List Nat,c∉l->l.map (NF c d)=l
 |[],_=>rfl
 |k::r,h=>by
  rw[Y_,Bd c d r λm=>h (s_ _ m)];congr 1;exact if_neg λ(e:k=c)=>h (by rw[←e];exact z_)
theorem FT(c d:Nat):∀parts:List v_,(∀p∈parts,c∉p.cps.toList)->(qcE ⟨#[c]⟩ parts).cps.toList.map (NF c d)=(qcE ⟨#[d]⟩ parts).cps.toList
 |[],_=>rfl
 |[p],h=>Bd c d _ (h p (x_.mpr rfl))
 |p::q::r,h=>by
  have ih:=FT c d (q::r) λa ha=>h a (s_ _ ha);show(p++⟨#[c]⟩++qcE ⟨#[c]⟩ (q::r)).cps.toList.map (NF c d)=(p++⟨#[d]⟩++qcE ⟨#[d]⟩ (q::r)).cps.toList;simp only[Str.cps_append,qch,M_];rw[ih,Bd c d _ (h p z_)];congr 2;show [NF c d c]=[d];unfold NF;rw[if_pos rfl]
noncomputable def r9(c d:Nat)(z:v_):v_:=⟨(z.cps.toList.map (NF c d)).toArray⟩
theorem Cc(x:v_)(c d:Nat):Txt.replace x ⟨#[c]⟩ ⟨#[d]⟩=r9 c d x:=by
 have h:(Txt.replace x ⟨#[c]⟩ ⟨#[d]⟩).cps.toList=x.cps.toList.map (NF c d):=by
  rw[StrLaws.replace_one,←FT c d _ (StrLaws.split_free x c),StrLaws.join_split]
 unfold r9;rw[←h]
def WN(c d:Nat)(to:TE):TE:=λσ H Q=>to σ H λx H1=>∃z:v_,x= .str z/\z.cps.size<=1000000/\Q (.str (r9 c d z)) H1
end
section
section
variable{X:Cx}{o:Expr}{to:TE}{c d j1 j2:Nat}{y z:v_}{apos cpos p1 p2:qbO}
theorem Ef(ho:PE X o to)(hy:y=⟨#[c]⟩)(hz:z=⟨#[d]⟩)(hne:c≠d)
  (hbase:attributeBase o "replace" X.env (eval o X.env)=eval o X.env:=by rfl)
  (hfew:((backTo cpos (qaf [.Constant (.str y) j1 p1,.Constant (.str z) j2 p2] X.env)).all (λx=>!x.1)&&(backToKw cpos (keywordEach [] X.env)).all (λx=>x.1.isSome)
   && decide (([.Constant (.str y) j1 p1,.Constant (.str z) j2 p2]:List Expr).length+([]:List Keyword).length+(if([]:List Keyword).isEmpty then 0 else 1)<30))=true:=by rfl)
  (hline:(apos.endLine==cpos.line)=true:=by rfl) (hs:qaf [.Constant (.str y) j1 p1,.Constant (.str z) j2 p2] X.env=[(false,eval (.Constant (.str y) j1 p1) X.env),(false,eval (.Constant (.str z) j2 p2) X.env)]:=by rfl) :
  PE X (.Call (.Attribute o "replace" apos) [.Constant (.str y) j1 p1,.Constant (.str z) j2 p2] [] cpos) (WN c d to):=by
 intro pins s σ H Q I h;refine wpAny_Call_method_late hbase hfew hline Y (fR (ho pins s σ H _ I h) λv s1 ⟨x,H1,I1,r1,q1⟩=>?_);obtain⟨a,rfl,ha,q⟩:=q1;obtain⟨h1,h2⟩:=Iv (T:= "str") I1 r1 rfl;obtain⟨t,rfl⟩:=r1;refine⟨"str",_,F.plainAttrs_str,F.slot_str_replace,F.type_str_replace,h1,h2,?_⟩;rw[hs];refine qbT Y (Calls.evalArgs_plain ?_);refine qbS (qcr (pos:=p1) (k:=j1) ?_);show C_ _ _ (spliced [(false,eval (.Constant (.str z) j2 p2) X.env)]) _ _ _;refine qbS (qcr (pos:=p2) (k:=j2) (Calls.spliced_nil ?_));have k0:0<s1.toks:=I1.tk;have I2:Inv X pins σ H1 { s1 with toks:=s1.toks+1 }:=I1.tok _;have I3:Inv X pins σ H1 { s1 with toks:=s1.toks+1+1 }:=I2.tok _;subst hy hz;refine TK.bX (j_ (s1.toks+1+1)) (SC.replace (s:={ s1 with toks:=s1.toks+1+1 }) (qbc k0) (Nat.succ_ne_zero _) (R_ (qaO _)) ?_ ?_ λt' k hk=>?_)
 ·exact beq_eq_false_iff_ne.mpr λe=>hne (by injection e with e;injection e with e;injection e)
 ·show a.cps.size+(a.cps.size+1)*1<=16777216;omega
 ·refine⟨.str (r9 c d a),H1,I3.tok k hk,⟨t',?_⟩,q⟩;rw[←Cc]
end
end
end L2
namespace GP
open PySem L2 rF
section
noncomputable def kd(c:Nat):Nat:=NF 98 50 (NF 97 49 (NF 112 48 c))
theorem wN{α:Type}{f:α->Int}{R:α->α->Prop}:∀{l:List α} {x y:α},l.Pairwise R->fmin f l=some x->y∈l->f y=f x->x=y\/R x y
 |[],_,_,_,_,h,_=>nomatch h
 |a::l,x,y,hp,hx,hy,e=>by
  rw[List.pairwise_cons]at hp;unfold fmin at hx;split at hx
  ·next e0 =>
   cases hx;rcases B_.mp hy with z|z
   ·exact .inl z.symm
   ·exact .inr (hp.1 y z)
  ·next b eb =>
   split at hx
   ·next hlt =>
    cases hx;rcases B_.mp hy with z|z
    ·rw[z]at e;omega
    ·exact wN hp.2 eb z e
   ·next hnl =>
    cases hx;rcases B_.mp hy with z|z
    ·exact .inl z.symm
    ·exact .inr (hp.1 y z)
theorem Gd.NJ{g:Gd}(s:aY):(g.steps s).Pairwise λt u=>kd t.1.2.2<kd u.1.2.2:=by
 unfold Gd.steps;by_cases h1:s.1<g.n<;>by_cases h2:s.2.1<g.m<;>simp[h1,h2]<;>decide
theorem Gd.yX{g:Gd}(ok:g.Ok):∀{mv:List Nat} {s e:aY},g.In s->g.walk s mv=some (g.rest s,e)->g.en e.1 e.2.1=true->¬mv.map kd<(g.moves s).map kd
 |[],s,e,hs,h,he=>by
  have h':some ((0:Int),s)=some (g.rest s,e):=h;injection h' with h';injection h' with h1 h2;have st:g.stop s=true:=by
   unfold Gd.stop;rw[←h1,h2,he];rfl
  rw[Gd.oh st];exact List.not_lt_nil _
 |v::vs,s,e,hs,h,he=>by
  by_cases st:g.stop s=true
  ·rw[Gd.oh st];exact List.not_lt_nil _
  ·have st':g.stop s=false:=by simpa using st
   obtain⟨t,ht0,ht,en,ek,_⟩:=g.go ok hs st';rw[Gd.uI ok hs st',en];obtain⟨u,c',hu,hv,hw,ec⟩:=Gd.pA h;have g1:=Gd.rY hw he;have g2:g.rest s<=g.key u:=Gd.vo hu;have g3:g.key u=u.2+g.rest u.1:=rfl;have c1:c'=g.rest u.1:=by omega
   have c2:g.key u=g.key t:=by omega
   rw[c1]at hw;rw[Y_,Y_,List.cons_lt_cons_iff];rcases wN (Gd.NJ s) ht0 hu c2 with z|z
   ·rw[←z]at hw hv;have ih:=Gd.yX ok (Gd.lO ht hs) hw he;rintro(q|⟨_,q⟩)
    ·rw[hv]at q;omega
    ·exact ih q
   ·rw[hv]at z;rintro(q|⟨q,_⟩)<;>omega
end
section
noncomputable def sC(mv:List Nat):v_:=r9 98 50 (r9 97 49 (r9 112 48 ⟨mv.toArray⟩))
theorem Dt(mv:List Nat):(sC mv).cps.toList=mv.map kd:=by
 unfold sC r9;simp only[qaL];rfl
theorem JS{g:Gd}(ok:g.Ok){m:v_}{n k:Nat}(hn:g.n=n)(hk:g.m=k){b b':Nat×Nat}{mv:List Nat}{e:aY}(hb:fmin g.iP (iQ m n k)=some b)(hw:(b',mv,g.iP b,e)∈g.pre (iQ m n k))(he:g.en e.1 e.2.1=true):
  K9 (b'.1:Int) (b'.2:Int) (sC mv) (b.1:Int) (b.2:Int) (sC (g.moves (b.1,b.2,112)))=false:=by
 obtain⟨hb',hw⟩:=Gd.rA.mp hw;have h1:=Gd.rY hw he;have h2:=tM hb hb';have h3:g.iP b'=g.iP b:=Int.le_antisymm h1 h2;have pw:(iQ m n k).Pairwise Ra:=List.Pairwise.filter _ (yt n k);have hin:=fk.mp (Z_.mp hb').1;unfold K9;rcases wN pw hb hb' h3 with z|z
 ·subst z;rw[if_pos ⟨rfl,rfl⟩,Dt,Dt];exact decide_eq_false (Gd.yX ok ⟨by rw[hn];exact hin.1,by rw[hk];exact hin.2,.inl Y⟩ hw he)
 ·have z':b.1<b'.1\/(b.1=b'.1/\b.2<b'.2):=z;rw[if_neg (by omega)];unfold K8;rcases z' with z|⟨z1,z2⟩
  ·rw[if_neg (by omega)];exact decide_eq_false (by omega)
  ·rw[if_pos (by omega)];exact decide_eq_false (by omega)
end
section
theorem OR{i j k l:Int}{m n:v_}(h1:K9 i j m k l n=false)(h2:K9 k l n i j m=false):i=k/\j=l/\m.cps.toList=n.cps.toList:=by
 unfold K9 at h1 h2;by_cases c:i=k/\j=l
 ·rw[if_pos c]at h1;rw[if_pos ⟨c.1.symm,c.2.symm⟩]at h2;exact⟨c.1,c.2,List.le_antisymm (of_decide_eq_false h2) (of_decide_eq_false h1)⟩
 ·exfalso;rw[if_neg c]at h1;rw[if_neg λz=>c ⟨z.1.symm,z.2.symm⟩]at h2;unfold K8 at h1 h2;by_cases a:i=k
  ·rw[if_pos a]at h1;rw[if_pos a.symm]at h2;have:=of_decide_eq_false h1;have:=of_decide_eq_false h2;exact c ⟨a,by omega⟩
  ·rw[if_neg a]at h1;rw[if_neg λz=>a z.symm]at h2;have:=of_decide_eq_false h1;have:=of_decide_eq_false h2;omega
end
section
def So:Sp:=λvs H Q _=>dP λ(p:U) (mv:v_)=>vs=[.ref p,.str mv]/\mv.cps.size<=1000/\∀r H',ak H H'->H' r=some (.tup [.ref p,.str (sC mv.cps.toList)])->Q (.ref r) H'
noncomputable def Gd.enW(g:Gd)(w:Wy4):Bool:=g.en w.2.2.2.1 w.2.2.2.2.1
end
end GP
namespace L2
open PySem PySem.Spec PyProof.Rows
theorem YC{k:Nat}{A:qab}(r:nP k A):A.units+10<cLine:=by have:=r.un;omega
end L2
namespace GP
open PySem L2 rF
theorem Mq{i j k l p q:Int}(h1:K8 i j k l=true)(h2:K8 k l p q=true):K8 i j p q=true:=by
 unfold K8 at *
 split at h1<;>split at h2<;>split<;>first
  |exact decide_eq_true (by have:=of_decide_eq_true h1;have:=of_decide_eq_true h2;omega)
theorem Ro{i j:Int}:K8 i j i j=false:=by
 unfold K8;rw[if_pos rfl];exact decide_eq_false (by omega)
theorem Mr{i j k l p q:Int}{m n o:v_}(h1:K9 i j m k l n=true)(h2:K9 k l n p q o=true):K9 i j m p q o=true:=by
 unfold K9 at *;by_cases a:i=k/\j=l
 ·obtain⟨rfl,rfl⟩:=a;rw[if_pos ⟨rfl,rfl⟩]at h1;by_cases b:i=p/\j=q
  ·rw[if_pos b]at h2 ⊢;exact decide_eq_true (List.lt_trans (of_decide_eq_true h1) (of_decide_eq_true h2))
  ·rw[if_neg b]at h2 ⊢;exact h2
 ·rw[if_neg a]at h1;by_cases b:k=p/\l=q
  ·obtain⟨rfl,rfl⟩:=b;rw[if_neg a];exact h1
  ·rw[if_neg b]at h2;have h3:=Mq h1 h2;by_cases c:i=p/\j=q
   ·exfalso;obtain⟨rfl,rfl⟩:=c;rw[Ro]at h3;cases h3
   ·rw[if_neg c];exact h3
section
variable{g:Gd}{m:v_}{n k:Nat}{b:Nat×Nat}
theorem R5(ok:g.Ok)(hn:g.n=n)(hk:g.m=k)(hb:fmin g.iP (iQ m n k)=some b):∃e,(b,g.moves (b.1,b.2,112),g.iP b,e)∈(g.pre (iQ m n k)).filter g.enW:=by
 have hm:=lH hb;have hin:=fk.mp (Z_.mp hm).1;obtain⟨e,hw,_,he⟩:=Gd.qC ok _ (b.1,b.2,112) ⟨by rw[hn];exact hin.1,by rw[hk];exact hin.2,.inl Y⟩ (j_ _);exact⟨e,Z_.mpr ⟨Gd.rA.mpr ⟨hm,hw⟩,he⟩⟩
theorem JT{x:Int}(bs:List (Nat×Nat)):(((g.pre bs).filter g.enW).filter λw=>decide (w.2.2.1=x)).length=g.tot bs x:=by
 unfold Gd.tot;rw[List.filter_filter,List.countP_eq_length_filter];congr 1;refine List.filter_congr λw _=>?_;rw[Bool.and_comm];rfl
end
end GP
namespace L2
open PySem PySem.Spec PyProof.Rows
section
noncomputable def jU(K:PySem.W.Frag)(nms:List v_):PySem.W.Frag:=K.filter λp=>!((nms.map (fq K)).contains p.1)
theorem rO{f:U->Bool}{a:U}{o:qa9}:∀{K:PySem.W.Frag},qaE a (K.filter λp=>f p.1)=some o->qaE a K=some o
 |[],h=>h
 |p::K,h=>by
  by_cases c:f p.1=true
  ·rw[qaz (p:=λp:U×qa9=>f p.1) c]at h;rw[qa5]at h ⊢;split at h
   ·exact h
   ·exact rO h
  ·rw[qaA (p:=λp:U×qa9=>f p.1) c]at h;have h2:=rO h;rw[qa5];split
   ·next e =>
    exfalso;have e':a=p.1:=eq_of_beq e;have:∀{L:PySem.W.Frag},qaE a (L.filter λp=>f p.1)=some o->f a=true:=λ{L}=>by
     induction L with
     |nil=>intro z;cases z
     |cons q L ih =>
      intro z;by_cases d:f q.1=true
      ·rw[qaz (p:=λp:U×qa9=>f p.1) d,qa5]at z;split at z
       ·next e=>rw[eq_of_beq e];exact d
       ·exact ih z
      ·rw[qaA (p:=λp:U×qa9=>f p.1) d]at z;exact ih z
    exact c (e'▸this h)
   ·exact h2
theorem RY{K:PySem.W.Frag}{nms:List v_}{h:W_}(X:K.In h):(jU K nms).In h:=λa o e=>X a o (rO (f:=λa=>!((nms.map (fq K)).contains a)) e)
theorem nK{K:PySem.W.Frag}{nms:List v_}{a n y}(h:PySem.W.nsIn (jU K nms) a n=PySem.W.nsIn K a n)(e:PySem.W.nsIn K a n=y):PySem.W.nsIn (jU K nms) a n=y:=h.trans e
theorem eL{K:PySem.W.Frag}{nms:List v_}{a n y}(h:PySem.W.plainGet (jU K nms) a n=PySem.W.plainGet K a n)(e:PySem.W.plainGet K a n=y):PySem.W.plainGet (jU K nms) a n=y:=h.trans e
theorem dD{K:PySem.W.Frag}{nms:List v_}{a y}(h:PySem.W.hasDictIn (jU K nms) a=PySem.W.hasDictIn K a)(e:PySem.W.hasDictIn K a=y):PySem.W.hasDictIn (jU K nms) a=y:=h.trans e
theorem dB{K:PySem.W.Frag}{nms:List v_}{a y}(h:PySem.W.plainOver (jU K nms) a=PySem.W.plainOver K a)(e:PySem.W.plainOver K a=y):PySem.W.plainOver (jU K nms) a=y:=h.trans e
theorem iL{K:PySem.W.Frag}{nms:List v_}{a n y}(h:PySem.W.findIn (jU K nms) a n=PySem.W.findIn K a n)(e:PySem.W.findIn K a n=y):PySem.W.findIn (jU K nms) a n=y:=h.trans e
theorem gf{K:PySem.W.Frag}{nms:List v_}{a y}(h:PySem.W.makesIn (jU K nms) a=PySem.W.makesIn K a)(e:PySem.W.makesIn K a=y):PySem.W.makesIn (jU K nms) a=y:=h.trans e
theorem iK{K:PySem.W.Frag}{nms:List v_}{a y}(h:PySem.W.keepIn (jU K nms) a=PySem.W.keepIn K a)(e:PySem.W.keepIn K a=y):PySem.W.keepIn (jU K nms) a=y:=h.trans e
theorem iM{K:PySem.W.Frag}{nms:List v_}{a n y}(h:PySem.W.codeIn (jU K nms) a n=PySem.W.codeIn K a n)(e:PySem.W.codeIn K a n=y):PySem.W.codeIn (jU K nms) a n=y:=h.trans e
theorem nL{K:PySem.W.Frag}{nms:List v_}{a y}(h:PySem.W.isFn (jU K nms) a=PySem.W.isFn K a)(e:PySem.W.isFn K a=y):PySem.W.isFn (jU K nms) a=y:=h.trans e
theorem iJ{K:PySem.W.Frag}{nms:List v_}{a y}(h:qaE a (jU K nms)=qaE a K)(e:qaE a K=y):qaE a (jU K nms)=y:=h.trans e
end
section
open PySem.W
theorem OP(a v d:k_):argsOk "min" ⟨[a],[(h_ "key",v),(h_ "default",d)]⟩:=by unfold argsOk;kernel_rfl
section
variable{prog:r_}{w:I_}{A:qab}{E:k_->n_->Prop}{s:n_}{q:U}
variable{g:W_}{l I S:U}{vs:List k_}{R:Result->n_->Prop}
theorem MZ{d:k_}{Q:k_->n_->Prop}(kf:Nat->Int)(hh:A.handled=none)(hl:s.heap.IsList l vs.toArray)
  (turn:∀i v h tk (Q:k_->n_->Prop),vs[i]? =some v->(∀b o,s.heap.get? b=some o->h.get? b=some o)->(∀h' tk' t,(∀b o,h.get? b=some o->h'.get? b=some o)->Q (.int (kf i) t) { s with heap:=h',toks:=tk' }) →
   C_ (model prog w) A.in1 (call (.ref q) [v]) Q (λ_ _=>False) { s with heap:=h,toks:=tk })
  (h0:vs=[]->∀h' tk',(∀b o,s.heap.get? b=some o->h'.get? b=some o)->Q d { s with heap:=h',toks:=tk' })
  (h1:∀i v h' tk',vs[i]? =some v->HP kf vs.length i->(∀b o,s.heap.get? b=some o->h'.get? b=some o)->Q v { s with heap:=h',toks:=tk' }) :
  C_ (model prog w) A (call (.builtin "min") [.ref l] [(h_ "key",.ref q),(h_ "default",d)]) Q E s:=by
 have nm:(toString "min" ++toString ".loop" :String)= "min.loop" :=by decide
 obtain⟨ol,Fq,rl⟩:=id hl;refine kmk_tree PySem.F.kind_min PySem.F.plain_min PySem.F.entry_min (OP _ _ _) ?_;show C_ _ A.in1 (qaR "min" ["key","default"] 0 ⟨[],[(h_ "key",.ref q),(h_ "default",d)]⟩ >>= _) _ _ s;refine f_ (wpAny_of_eq (show qaR "min" ["key","default"] 0 ⟨[],[(h_ "key",.ref q),(h_ "default",d)]⟩=pure [some (.ref q),some d] from Y) ?_);refine f_ (q_ ?_);refine f_ (qaY hl ?_);refine f_ (wpAny_newList ?_ (Q_ _));rw[nm];refine q_ ⟨qbd PySem.F.plain_min_loop _,?_⟩;refine AZ (G:=λI S h=>codeAny (model prog w) A (.builtin "min.loop" ⟨[.ref I,.ref q,.ref S],[(h_ "default",d)]⟩) _ { s with heap:=h }) λI S h hI hS hSI kp gI gS=>?_;by_cases hv0:vs=[]
 ·subst hv0;have lI:l≠I:=λz=>by rw[z,hI]at Fq;cases Fq
  have W:=qct (prog:=prog) (w:=w) (A:=A.in1) hh I l lI #[];refine qa3 PySem.F.entry_min_loop ?_;rw[qaI PySem.F.plain_min_loop _];show C_ _ A.in1 (seqItems? (.ref _) >>= _) _ _ _;refine f_ (qat gS Y ?_);show C_ _ A.in1 (tryCatch (pyNext (.ref I)) _ >>= _) _ _ _;refine f_ (qa2 (W.done _ _ _ ⟨gI,qN kp hl⟩ λxS LP hk1=>?_));exact f_ (qcG (q_ (h0 Y _ _ λb o e=>hk1 b o (λz=>by rw[x_.mp z,hI]at e;cases e) (kp b o e))))
 ·exact Dq kf hh hl hI hS hSI turn (λi v h' tk' a b c=>h1 i v h' tk' a b c) (qci.mpr hv0) kp gI gS
end
structure Qs(st:qam)(x:v_):Prop where
 body:BG λp1 p2 p3 pos j=>fH st=[.Return (some (.Subscript (.Name x p1) (.Constant (.int 0) j p2) p3)) pos]
 loc:(au st).names.lookup x=some .local
 cell:∀y∈(au st).names,y.2≠ .cell
 kind:(au st).kind= .function
 co:(au st).isCoroutine=false
 gen:(au st).isGenerator=false
 dx:(x==("__debug__" :v_))=false
theorem MM{K:PySem.W.Frag}{P:r_}{w:I_}{A:qab}{E:k_->n_->Prop}{Q:k_->n_->Prop}{s:n_}{n x qual:v_}{st:qam}{f a:U}{fd:F_}{v:k_}{its:List k_}(F:Nm K n qual st f fd)(T:Qs st x)(hb:Binds K fd [x] [])(KX:K.In s.heap)(lim:s.heap.NoLimit)(hroom:A.depth<recursionLimit)
  (hT:s.heap.IsTuple a (v::its).toArray) (hQ:∀h' tk',(∀b o,s.heap.get? b=some o->h'.get? b=some o)->Q v { s with heap:=h',toks:=tk' }):C_ (model P w) A (call (.ref f) [.ref a]) Q E s:=by
 obtain⟨oc,od,dV,kV,doc,pm,an,cdv,ct,osl,rfl,lk,hcd⟩:=F.ex;obtain⟨p1,p2,p3,pos,j,eb⟩:=T.body;refine wpAny_call (codeAny_call_function hroom (KX _ _ lk) Y T.co T.gen Y (PySem.W.codeRec_of KX hcd) (hb s [.ref a] KX Y _ _ _ _ ?_));refine wpAny_newFunctionEnv T.cell (λy hy=>by rw[x_.mp hy];exact T.loc) (λh₁ hns S1=>⟨lim.fresh _ S1,codeAny_func ?_⟩) T.kind;have kp:∀b o,s.heap.get? b=some o->h₁.get? b=some o:=λb o e=>S1.extBut b o (R_ (E_ e)) (m_ _ e);obtain⟨o,g1,g2,m,g3⟩:=hT;rw[eb];refine qcF (wpAny_Return_some (Subscript_ (wpAny_Name (wpAny_loadName_local T.kind T.loc hns (v:=.ref a) (by show qaE x [(x,Value.ref a)]=some (Value.ref a);simp[qaE]) (qcq ?_)) T.dx)))
 refine qbp (T:= "tuple") (x:=v) ⟨o,kp _ _ g1,g2⟩ slot_tuple_getitem.lookup (getItem_tuple (j:=0) (items:=(v::its).toArray) ⟨o,kp _ _ g1,g2,m,g3⟩ (by omega) (by omega) (by simp[seqIndex?]) (by rfl) ⟨Y,?_⟩) (by with_unfolding_all rfl)
 exact hQ _ _ kp
def WW(K:PySem.W.Frag)(ta:TA):TE:=λσ H Q=>ta σ H λzs H1=>nN λ(l:U) (vs:List V) (kf:Nat->Int)=>zs=[.ref l]/\bW K H1 l vs/\(∀i v,vs[i]? =some v->dP λp xs=>v= .ref p/\bZ K H1 p (.int (kf i)::xs))/\(vs=[]->Q .jG H1)/\∀i v,vs[i]? =some v->HP kf vs.length i->Q v H1
theorem Rb{X:Cx}{e:Expr}{ta:TA}{p pos p1 p2 k1 k2:qbO}{j:Nat}{fn n qual x:v_}{st:qam}{f:U}{fd:F_}{K':PySem.W.Frag}(F:Nm X.K n qual st f fd)(T:Qs st x)(hb:Binds X.K fd [x] [])(hfg:Gl X fn)(hfm:X.mg fn=some (.ref f))(GY:X.calm=true)(hroom:X.A.depth<recursionLimit)
  (hg:Gl X "min") (hm:X.mg "min" =none) (hv:bootBuiltins "min" =some (.builtin "min")) (ha:PA X [e] ta) (hK:X.K=K') (hdb:(fn==("__debug__" :v_))=false:=by decide)
  (he:backTo pos (qaf [e] X.env)=(false,eval e X.env)::backTo pos (qaf [] X.env):=by rfl) (hpl:(backTo pos (qaf [e] X.env)).any (·.1)=false:=by rfl) :
  PE X (.Call (.Name "min" p) [e] [⟨some (h_ "key"),.Name fn p1,k1⟩,⟨some (h_ "default"),.Constant .none j p2,k2⟩] pos) (WW K' ta):=by
 subst hK;intro pins s σ H Q I h;refine qbs (rQ I hg hm hv ?_);refine callWith_kw (fR (ha pos pins s σ H _ I h) λus s1 ⟨zs,H1,I1,r1,q1⟩=>?_) he hpl Y Y;obtain⟨l,vs,kf,rfl,hq,hk,hz,k⟩:=q1;obtain⟨u,rfl,rx⟩:=vals1 r1;cases rx;refine kws_cons (Ac I1 hfg hfm (kws_cons (wpAny_Constant_none (kws_nil ?_))) hdb);show C_ _ X.A (call (.builtin "min") [.ref l] [(h_ "key",.ref f),(h_ "default",.none)]) _ _ s1;obtain⟨its,r',pl,hlz⟩:=I1.list hq;have hlen:=r'.length;refine TK.bX (j_ _) (MZ (kf:=kf) (I1.ok.hd GY) pl.isList (λi v h tk Q' hv' kp hQ=>?_) (λhn h' tk' kp hup=>?_) λi v h' tk' hv' hb kp hup=>?_)
 ·have hi:i<its.length:=(o_.mp hv').1;have hi1:i<vs.length:=by omega
  obtain⟨u',eu,Su⟩:=r'.get (g_ hi1);rw[hv']at eu;cases eu;obtain⟨pp,xs,ev,hpx⟩:=hk i _ (g_ hi1);rw[ev]at Su;cases Su;obtain⟨ys,ry,ty,_⟩:=I1.tuple hpx
  cases ry with
  |cons ra rb =>
  obtain⟨t,rfl⟩:=(show ∃t,_=Value.int (kf i) t from ra);obtain⟨o,g1,g2⟩:=ty;exact MM (s:={ s1 with heap:=h,toks:=tk }) F T hb (I1.yI.keeps kp) (I1.nolimit.keeps kp) hroom ⟨o,kp _ _ g1,g2⟩ λh' tk' k'=>hQ h' tk' t k'
 ·have:vs=[]:=qbQ (by rw[hlen,hn];rfl);exact⟨.jG,H1,I1.kept kp hup,Y,hz this⟩
 ·have hi:i<its.length:=(o_.mp hv').1;have hi1:i<vs.length:=by omega
  obtain⟨u',eu,Su⟩:=r'.get (g_ hi1);rw[hv']at eu;cases eu;refine⟨vs[i],H1,I1.kept kp hup,Su,k i _ (g_ hi1) ?_⟩;rw[show vs.length=its.length by omega];exact hb
end
section
open PySem.W
theorem Yl{k:Key}{u:k_}(h:Bl k u=true):RelV (kV k) u:=by
 rcases fJ h with⟨i,t,rfl,rfl⟩|⟨x,t,rfl,rfl⟩
 ·exact⟨t,Y⟩
 ·exact⟨t,Y⟩
noncomputable def ZH(a:U)(o:qa9)(kvs:List (Key×V)):It :=
 ⟨λi H=>H a=some (.yg o (.dK kvs))/\i<kvs.length,λi H v H'=>nN λp k x=>v= .ref p/\H p=none/\H'=upd H p (.tup [kV k,x])/\kvs[i]? =some (k,x),λi H=>H a=some (.yg o (.dK kvs))/\kvs.length<=i⟩
theorem G3{P:r_}{w:I_}{H:Hp}{h:W_}{a:U}{o:qa9}{es:Array qcP}{ep:Nat}{kvs:List (Key×V)}(ok:um P w H h)(e:H a=some (.yg o (.dK kvs)))(hd:o.data= .dict es ep):∃vs,KV kvs vs/\h.DictAt (bR P w) a vs ep:=by
 obtain⟨h1,h2⟩:=(show dF P w H h a (.yg o (.dK kvs)) from ok a _ e);obtain⟨z,hs,vs,r,o',es',ep',ho,hc,hd',h4⟩:=h2;rw[h1]at ho;cases ho;rw[hd]at hd';cases hd';exact⟨vs,r,o,es,h1,hc,hd,h4⟩
theorem Iz{P:r_}{w:I_}{K:PySem.W.Frag}{elts:List Expr}{k:Nat}{pos:qbO}{kvs:List (Key×V)}{o:qa9}{es:Array qcP}{ep:Nat}(a it:U)(hd:o.data= .dict es ep):
  Turn P w K (.Tuple elts k pos) (ZH a o kvs) [it] it (λi h=>dP λok ov=>IsItemIter h it a i kvs.length ep ok ov) where
 mem:=by simp
 obj:=λi h Z b hb=>by
  obtain⟨ok,ov,he⟩:=Z;have e:b=it:=by simpa using hb
  subst e;exact⟨_,he,λv q=>by cases q⟩
 keep:=λi h h' Z kp=>by
  obtain⟨ok,ov,he⟩:=Z;exact⟨ok,ov,kp it (by simp) _ he⟩
 item:=by
  intro X hP hw hK hc i pins s σ H E I hf Z hg;subst hP hw hK;obtain⟨hH,hi⟩:=hg;obtain⟨ok,ov,he⟩:=id Z;obtain⟨vs,kv,da⟩:=G3 I.hok hH hd;have hlen:=Paired.length kv;have hiv:i<vs.length:=by omega
  obtain⟨q,hq,h1,h2⟩:=GP.Paired.at kv (g_ hi);have he':IsItemIter s.heap it a i vs.length ep ok ov:=by rw[←hlen];exact he
  refine wpAny_pyNext_items_item he' da hq λkey h' hk ho hT hsz kk=>⟨_,Y,?_⟩;refine wpAny_letOwnedTupleGo_items ho λh'' VG sb=>?_;have hne:s.heap.objs.size≠it:=qbc (E_ he);have k2:∀b o,b∉[it]->s.heap.get? b=some o->h''.get? b=some o:=λb o hb q=>by
   simp only[B_,qaq,or_false]at hb;exact sb.extBut _ _ hb (kk b o hb q)
  have I1:Inv X pins σ H { s with heap:=h'' }:=I.moved (t':=s.toks) k2 hf;have hn:H s.heap.objs.size=none:=I.fresh;have Y6:uu X pins H s.heap.objs.size:=I.xV (j_ _) hn;have hp2:h''.get? s.heap.objs.size=some { cls:=.type "tuple",data:=.seq #[key,q.2] }:=sb.extBut _ _ hne hT;have I2:Inv X pins σ (upd H s.heap.objs.size (.tup [kV kvs[i].1,kvs[i].2])) { s with heap:=h'' } :=
   I1.NB Y6 ⟨c_,[key,q.2],.cons (by rw[h1];exact Yl hk) (.cons h2 .nil),⟨_,hp2,rfl,_,rfl⟩⟩
  refine⟨.ref s.heap.objs.size,_,I2,Y,⟨_,kvs[i].1,kvs[i].2,Y,hn,Y,g_ hi⟩,⟨_,_,by rw[hlen];exact VG⟩,λb hb=>?_⟩;have e:b=it:=by simpa using hb
  subst e;rw[av (R_ (E_ he))];exact(hf b hb).1
 done:=by
  intro X hP hw hK hc i pins s σ H E I hf Z hg;subst hP hw hK;obtain⟨hH,hi⟩:=hg;obtain⟨ok,ov,he⟩:=id Z;obtain⟨vs,kv,da⟩:=G3 I.hok hH hd;have hlen:=Paired.length kv;have he':IsItemIter s.heap it a i vs.length ep ok ov:=by rw[←hlen];exact he
  refine wpAny_pyNext_items_end (I.ok.hd hc) he' da (qa_ (by omega)) λh' eb=>⟨Y,I.moved (t':=s.toks) (ch:=[it]) (λb o hb q=>eb b o ?_ q) hf⟩;simpa using hb
 self:=λ_ _ _ _ _ Z h=>by
  obtain⟨ok,ov,he⟩:=Z;exact PySem.W.kcp_self he h
def Vo(to:TE):TI:=λσ H R=>to σ H λx H1=>dP λa kvs=>x= .ref a/\H1 a=some (.dK kvs)/\∀o,R (ZH a o kvs) (upd H1 a (.yg o (.dK kvs)))
theorem Oq{X:Cx}{o:Expr}{to:TE}{apos cpos tpos:qbO}{elts:List Expr}{k:Nat}(ho:PE X o to)
  (hbase:attributeBase o "items" X.env (eval o X.env)=eval o X.env:=by rfl) (hline:(apos.endLine==cpos.line)=true:=by rfl):PI X (.Tuple elts k tpos) (.Call (.Attribute o "items" apos) [] [] cpos) (Vo to):=by
 intro pins s σ H R I h;refine wpAny_Call_method0_late hbase hline (fR (ho pins s σ H _ I h) λv s1 ⟨x,H1,I1,r1,a,kvs,ex,hd,q⟩=>?_);subst ex;obtain rfl:v=Value.ref a:=r1;obtain⟨z,hs,vs,kv,o',es,ep,ho',hc,hdat,h4⟩:=(show dF X.prog X.w H1 s1.heap a (.dK kvs) from I1.hok a _ hd);have dd:s1.heap.DictOf (bR X.prog X.w) a vs:=⟨o',es,ep,ho',hc,hdat,h4⟩;refine⟨"dict","dict.items",PySem.F.plainAttrs_dict,PySem.F.slot_dict_items,PySem.F.type_dict_items,dd.typeIs,(λb e=>by cases e;exact⟨o',ho',hc.2.1⟩),?_⟩;refine qbT Y (PySem.evalArgs_none (call_meetsIn PySem.F.slot_dict_items dd.typeIs PySem.F.entry_dict_items (PySem.F.args_dict_items_1 _) (meets_dict_items (bR X.prog X.w) a hs) ⟨⟨vs,dd⟩,?_⟩));have I2:Inv X pins σ (upd H1 a (.yg o' (.dK kvs))) s1:=xW (h':=s1.heap) (t':=s1.toks) I1 (by rw[hd];exact True.intro) ⟨rfl,λ_ _=>rfl⟩ ⟨o',ho'⟩ ⟨ho',z,hs,vs,kv,o',es,ep,ho',hc,hdat,h4⟩;have I3:Inv X pins σ (upd H1 a (.yg o' (.dK kvs))) { s1 with heap:=s1.heap.push { cls:=.type "dict_items",data:=.fields #[.ref a] } }:=I2.kept (t':=s1.toks) λb o e=>m_ _ e;refine wpAny_pyIter_items (knd:=bR X.prog X.w) (d:=a) (kvs:=vs) (ep:=ep) ⟨_,t_ _ Y,Y,Y⟩ ⟨o',es,m_ _ ho',hc,hdat,h4⟩ ?_;refine⟨_,[(s1.heap.push { cls:=.type "dict_items",data:=.fields #[.ref a] }).objs.size],_,_,_,Y,I3.kept (t':=s1.toks) λb o e=>m_ _ e,Iz a _ hdat,⟨_,_,by rw[Paired.length kv];exact t_ _ Y⟩,λb hb=>?_,q o'⟩;have e:b=(s1.heap.push { cls:=.type "dict_items",data:=.fields #[.ref a] }).objs.size:=by simpa using hb
 subst e;exact I3.xV (j_ _) (I3.hok.fresh (j_ _))
theorem MK{a:U}{o:qa9}{kvs:List (Key×V)}{g:TG}{tb:TS}{D:Ends}{σ:St}{H:Hp}(Pv:Nat->St->Hp->Prop)(h0:Pv 0 σ H)(hl:∀i σ H,i<=kvs.length->Pv i σ H->H a=some (.yg o (.dK kvs)))
  (hs:∀i k x p σ H,kvs[i]? =some (k,x)->H p=none->Pv i σ H->g (.ref p) σ (upd H p (.tup [kV k,x])) λσ2 H2=>tb { D with nx:=Pv (i+1),ct:=Pv (i+1),bk:=D.nx } σ2 H2) (hd:∀ σ H,Pv kvs.length σ H->D.nx σ H) :
  ∃W:Nat->Nat->St->Hp->Prop,(∃m,W 0 m σ H)/\∀i m σ H,W i m σ H →
   ((ZH a o kvs).stop i H/\D.nx σ H)\/((ZH a o kvs).go i H/\∃N:St->Hp->Prop,(∀ σ' H',N σ' H'->∃m',m'<m/\W (i+1) m' σ' H')/\∀x H',(ZH a o kvs).CZ i H x H'->g x σ H' λσ2 H2=>tb { D with nx:=N,ct:=N,bk:=D.nx } σ2 H2):=by
 refine⟨λi m σ H=>m=kvs.length-i/\i<=kvs.length/\Pv i σ H,⟨kvs.length,by simp,Q_ _,h0⟩,?_⟩;rintro i m σ H ⟨rfl,hi,p⟩;by_cases hlt:i<kvs.length
 ·refine .inr ⟨⟨hl i σ H hi p,hlt⟩,Pv (i+1),λσ' H' p'=>⟨kvs.length-(i+1),by omega,Y,hlt,p'⟩,λx H' y=>?_⟩;obtain⟨q,k,x,rfl,hq,rfl,e⟩:=y;exact hs i k x q σ _ e hq p
 ·have e:i=kvs.length:=by omega
  subst e;exact .inl ⟨⟨hl _ σ H hi p,j_ _⟩,hd σ H p⟩
def Ux(H0:Hp)(t:TS):TS:=λD σ H=>t { D with nx:=λσ' H'=>nN λa o u=>H' a=some (.yg o u)/\(∀o u,H0 a≠some (.yg o u))/\D.nx σ' (upd H' a u) } σ H
theorem Oj{X:Cx}{st:qam}{t:TS}{H0:Hp}(h:PS X st t)(h0:X.H₀=H0):PS X st (Ux H0 t):=by
 subst h0;intro pins s σ H D I q;refine fR (h pins s σ H _ I q) λf s' z=>?_
 cases f with
 |next =>
  obtain⟨σ',H',I',a,o,u,e,n,d⟩:=z;exact⟨σ',_,I'.abS e n,d⟩
 |brk=>exact z
 |cont=>exact z
 |ret u=>exact z
noncomputable def WC(lo:Int)(n:Nat):It:=⟨λi _=>i<n,λi H x H'=>H'=H/\x= .int (lo-i),λi _=>n<=i⟩
theorem FD{P:r_}{w:I_}{K:PySem.W.Frag}{tg:Expr}(it:U)(lo:Int)(n:Nat):Turn P w K tg (WC lo n) [it] it (λi h=>IsRangeIter h it (lo+(i:Nat)*(-1)) ((n:Int)-(i:Nat)) (-1)) where
 mem:=by simp
 obj:=λi h st b hb=>by
  have e:b=it:=by simpa using hb
  subst e;exact⟨_,st,λv z=>by
   have z':Data.fields _=Data.cell v:=z;cases z'⟩
 keep:=λi h h' st k=>k it (by simp) _ st
 item:=by
  intro X hP hw hK hc i pins s σ H E I hf st hg;subst hP hw hK;obtain⟨f0,f1,f2,f3,f4,f5⟩:=hf it (by simp);have W:=Walks.range (prog:=X.prog) (w:=X.w) (I.ok.hd hc) it lo (-1) n;refine TK.bX (j_ s.toks) (W.item i s _ _ hg st λv h' tk hv st' kk hup=>?_);obtain⟨t,rfl⟩:=hv;have I1:Inv X pins σ H { s with heap:=h',toks:=tk }:=I.turned (λb o hb e=>kk b o (by simpa using hb) e) f0 f1 f3 f4 f5;refine⟨_,Y,Dv (s:={ s with heap:=h',toks:=tk }) (n:= "range_iterator") st' Y Y (by decide) ⟨.int (lo-i),H,I1,⟨t,?_⟩,⟨Y,Y⟩,st',λb hb=>(hf b hb).1⟩⟩;rw[Int.mul_neg,Int.mul_one,Int.sub_eq_add_neg]
 done:=by
  intro X hP hw hK hc i pins s σ H E I hf st hg;subst hP hw hK;obtain⟨f0,f1,f2,f3,f4,f5⟩:=hf it (by simp);exact wpAny_pyNext_range_end (I.ok.hd hc) st (by have:n<=i:=hg;omega) λh' eb=>⟨Y,I.turned (t':=s.toks) (λb o hb e=>eb b o hb e) f0 f1 f3 f4 f5⟩
 self:=λ_ _ _ _ _ st h=>wpAny_pyIter_rangeiter st h
theorem Dg(lo hi:Int):qbG lo hi (-1)=(((lo-hi).toNat:Nat):Int):=by
 unfold qbG;rw[if_neg (by decide)];split
 ·rw[show(-(-1:Int))=1 from rfl,Int.ediv_one];omega
 ·omega
theorem small_down{a b:Int}(ha: -(2 ^ 62)<=a)(ha':a<2 ^ 62)(hb: -(2 ^ 62)<=b)(hb':b<2 ^ 62):Builtin.Range.small a b (-1)=true:=by
 unfold Builtin.Range.small;rw[Dg];simp only[Builtin.Range.rangeFitsLong,qaP,Bool.or_eq_true,decide_eq_true_eq,beq_iff_eq,show ¬(-1:Int)>0 by decide,if_false];omega
section
variable{X:Cx}{tg:Expr}
theorem L0{pins:List (U×qa9)}{σ:St}{H:Hp}{s:n_}{R:It->Hp->Prop}{E:k_->n_->Prop}{lo hi:Int}{t u v:qcN}{tk:Nat}(I:Inv X pins σ H s)(h1: -(2 ^ 62)<=lo)(h2:lo<2 ^ 62)(h3: -(2 ^ 62)<=hi)(h4:hi<2 ^ 62)
  (q:R (WC lo (lo-hi).toNat) H) (htk:s.toks<=tk:=by first|exact j_ _|exact qay _|assumption|omega):C_ (model X.prog X.w) X.A (pyIter (.ref s.heap.objs.size)) (PIE X pins σ tg R) E { s with heap:=s.heap.push { cls:=.type "range",data:=.fields #[.int lo t,.int hi u,.int (-1) v] },toks:=tk }:=by
 refine wpAny_pyIter_range (IsRange.new ..) (small_down h1 h2 h3 h4) ?_;have I1:Inv X pins σ H { s with heap:=s.heap.push { cls:=.type "range",data:=.fields #[.int lo t,.int hi u,.int (-1) v] },toks:=tk }:=I.kept λb o e=>m_ _ e;refine⟨(s.heap.push { cls:=.type "range",data:=.fields #[.int lo t,.int hi u,.int (-1) v] }).objs.size,[(s.heap.push { cls:=.type "range",data:=.fields #[.int lo t,.int hi u,.int (-1) v] }).objs.size],_,_,H,Y,
  I1.kept (t':=tk) λb o e=>m_ _ e,FD _ lo (lo-hi).toNat,?_,λb hb=>?_,q⟩
 ·have e1:lo+((0:Nat):Int)*(-1)=lo:=by simp
  have e2:(((lo-hi).toNat:Nat):Int)-((0:Nat):Int)=qbG lo hi (-1):=by rw[Dg];omega
  show IsRangeIter _ _ (lo+((0:Nat):Int)*(-1)) ((((lo-hi).toNat:Nat):Int)-((0:Nat):Int)) (-1);rw[e1,e2];exact t_ _ Y
 ·have e:b=(s.heap.push { cls:=.type "range",data:=.fields #[.int lo t,.int hi u,.int (-1) v] }).objs.size:=by simpa using hb
  subst e;exact I1.xV (j_ _) (I1.hok.fresh (j_ _))
def Ys(ta:TA):TI:=λσ H R=>ta σ H λvs H1=>dP λi j:Int=>vs=[.int i,.int j,.int (-1)]/\(-(2 ^ 62)<=i/\i<2 ^ 62/\ -(2 ^ 62)<=j/\j<2 ^ 62)/\R (WC i (i-j).toNat) H1
theorem Di {a b c:Expr}{ta:TA}{p pos:qbO}(hg:Gl X "range")(hm:X.mg "range" =none)(ha:PA X [a,b,c] ta)(hs:qaf [a,b,c] X.env=[(false,eval a X.env),(false,eval b X.env),(false,eval c X.env)]:=by rfl)(hs2:qaf [b,c] X.env=[(false,eval b X.env),(false,eval c X.env)]:=by rfl) :
  PI X tg (.Call (.Name "range" p) [a,b,c] [] pos) (Ys ta):=by
 intro pins s σ H R I h;refine Call_ (rQ I hg hm boot_range (qaQ (fR (ha pos pins s σ H _ I h) λus s1 ⟨vs,H1,I1,r1,q1⟩=>?_) (by rw[hs,hs2]) (by rw[hs2];rfl)));obtain⟨i,j,e,⟨q1,q2,q3,q4⟩,q⟩:=q1;subst e
 cases r1 with
 |cons r rr =>
  cases rr with
  |cons r' rr =>
   cases rr with
   |cons r'' rr =>
    cases rr;obtain⟨t,rfl⟩:=r;obtain⟨t',rfl⟩:=r';obtain⟨t'',rfl⟩:=r'';exact call_range_3 (by decide) (L0 I1 q1 q2 q3 q4 q) (.inl (PyProof.noPylong_small (by decide)))
end
theorem G4{lo:Int}{n:Nat}{g:TG}{tb:TS}{D:Ends}{σ:St}{H:Hp}(Pv:Nat->St->Hp->Prop)(h0:Pv 0 σ H)
  (hs:∀i σ H,i<n->Pv i σ H->g (.int (lo-i)) σ H λσ2 H2=>tb { D with nx:=Pv (i+1),ct:=Pv (i+1),bk:=D.nx } σ2 H2) (hd:∀ σ H,Pv n σ H->D.nx σ H) :
  ∃W:Nat->Nat->St->Hp->Prop,(∃m,W 0 m σ H)/\∀i m σ H,W i m σ H →
   ((WC lo n).stop i H/\D.nx σ H)\/((WC lo n).go i H/\∃N:St->Hp->Prop,(∀ σ' H',N σ' H'->∃m',m'<m/\W (i+1) m' σ' H')/\∀x H',(WC lo n).CZ i H x H'->g x σ H' λσ2 H2=>tb { D with nx:=N,ct:=N,bk:=D.nx } σ2 H2):=by
 refine⟨λi m σ H=>m=n-i/\i<=n/\Pv i σ H,⟨n,by simp,Q_ _,h0⟩,?_⟩;rintro i m σ H ⟨rfl,hi,p⟩;by_cases hlt:i<n
 ·refine .inr ⟨hlt,Pv (i+1),λσ' H' p'=>⟨n-(i+1),by omega,Y,hlt,p'⟩,λx H' y=>?_⟩;obtain⟨e,y⟩:=y;subst e y;exact hs i σ _ hlt p
 ·have e:i=n:=by omega
  subst e;exact .inl ⟨j_ _,hd σ H p⟩
end
end L2
namespace GP
open PySem L2 rF
section
noncomputable abbrev BH:=Option (Nat×Nat)
noncomputable def Gd.bw(g:Gd)(E:aY->Bool):Nat->aY->Option (Int×List aY)
 | 0,s=>if E s then some (0,[])else none
 |d+1,s=>if E s then some (0,[])else fmin (·.1) ((g.steps s).filterMap λt=>(g.bw E d t.1).map λw=>(t.2+w.1,t.1::w.2))
noncomputable def Gd.uh(g:Gd)(E:aY->Bool)(s:aY):Option (Int×List aY):=g.bw E (g.ht s) s
theorem iw{α β:Type}{l:List α}{f h:α->Option β}(e:∀a∈l,f a=h a):l.filterMap f=l.filterMap h:=by
 induction l with
 |nil=>rfl
 |cons a l ih=>rw[qas,qas,e a z_,ih λb hb=>e b (s_ _ hb)]
theorem Gd.yj{g:Gd}{s:aY}(h:g.ht s=0):g.steps s=[]:=by
 rw[List.eq_nil_iff_forall_not_mem];intro t ht;have:=Gd.eY ht;omega
theorem Gd.Ah{g:Gd}{E:aY->Bool}:∀(d:Nat) (s:aY),g.ht s<=d->g.bw E d s=g.uh E s
 | 0,s,h=>by unfold Gd.uh;rw[Nat.le_zero.mp h]
 |d+1,s,h=>by
  have e1:∀t∈g.steps s,g.bw E d t.1=g.uh E t.1:=λt ht=>Gd.Ah d t.1 (by have:=Gd.eY ht;omega);unfold Gd.uh
  cases hk:g.ht s with
  |zero =>
   show(if E s then _ else fmin _ (qbi _ (g.steps s)))=(if E s then _ else none)
   rw[Gd.yj hk];rfl
  |succ k =>
   have e2:∀t∈g.steps s,g.bw E k t.1=g.uh E t.1:=λt ht=>Gd.Ah k t.1 (by have:=Gd.eY ht;omega)
   show(if E s then _ else fmin _ (qbi _ (g.steps s)))=(if E s then _ else fmin _ (qbi _ (g.steps s)))
   rw[iw λt ht=>by rw[e1 t ht,←e2 t ht]]
 termination_by d=>d
theorem Gd.tT{g:Gd}{E:aY->Bool}{s:aY}(h:E s=true):g.uh E s=some (0,[]):=by
 unfold Gd.uh
 cases g.ht s with
 |zero=>show(if E s then _ else _)=_;rw[if_pos h]
 |succ k=>show(if E s then _ else _)=_;rw[if_pos h]
theorem Gd.tS{g:Gd}{E:aY->Bool}{s:aY}(h:E s=false):g.uh E s=fmin (·.1) ((g.steps s).filterMap λt=>(g.uh E t.1).map λw=>(t.2+w.1,t.1::w.2)):=by
 rw[←Gd.Ah (g.ht s+1) s (qay _)]
 show(if E s then _ else _)=_
 rw[if_neg (by rw[h];exact y_)];rw[iw λt ht=>by rw[Gd.Ah (g.ht s) t.1 (qaJ (Gd.eY ht))]]
theorem uO{α β:Type}{f:β->Int}{h:α->β}:∀l:List α,fmin f (l.map h)=(fmin (λa=>f (h a)) l).map h
 |[]=>rfl
 |a::l=>by
  rw[Y_];unfold fmin;rw[uO l]
  cases fmin (λa=>f (h a)) l with
  |none=>rfl
  |some b =>
   show(if f (h b)<f (h a)then some (h b)else some (h a))=Option.map h (if f (h b)<f (h a)then some b else some a)
   split<;>rfl
theorem qM{α β γ:Type}(f:α->Option β)(h:β->γ)(l:List α):(l.filterMap f).map h=l.filterMap λa=>(f a).map h:=by
 rw[List.map_filterMap]
noncomputable def qD(u:Nat)(s:aY)(path:List aY):BH:=if u<s.1 then none else((s::path).find? λt=>t.1==u).map λt=>(t.2.1,t.2.2)
noncomputable def Gd.sv(g:Gd)(E:aY->Bool)(u:Nat)(s:aY):Option (Int×BH):=(g.uh E s).map λw=>(w.1,qD u s w.2)
noncomputable def Gd.cands(g:Gd)(x:aY->Option (Int×BH))(s:aY):List (Int×BH):=(g.steps s).filterMap λt=>(x t.1).map λw=>(t.2+w.1,w.2)
theorem Gd.FW{g:Gd}{s:aY}{t:aY×Int}(h:t∈g.steps s):s.1<=t.1.1/\t.1.1<=s.1+1:=by
 rcases Gd.dI.mp h with⟨_,_,rfl⟩|⟨_,rfl⟩|⟨_,rfl⟩<;>simp
theorem NI{u:Nat}{s t:aY}{path:List aY}(h1:s.1<=t.1)(h2:t.1<=s.1+1)(n:s.1≠u):qD u s (t::path)=qD u t path:=by
 unfold qD;by_cases h:u<s.1
 ·rw[if_pos h,if_pos (by omega)]
 ·rw[if_neg h,if_neg (by omega),qad,beq_false_of_ne n]
theorem Gd.BB{g:Gd}{E:aY->Bool}{u:Nat}{s:aY}{x:aY->Option (Int×BH)}(hE:E s=false)(h1:∀t∈g.steps s,(x t.1).map (·.1)=(g.uh E t.1).map (·.1))(h2:s.1≠u->∀t∈g.steps s,x t.1=g.sv E u t.1):
  (fmin (·.1) (g.cands x s)).map (·.1)=(g.uh E s).map (·.1)/\(s.1≠u->fmin (·.1) (g.cands x s)=g.sv E u s):=by
 have low:∀{α:Type} (l:List (Int×α)),(fmin (·.1) l).map (·.1)=fmin id (l.map (·.1)):=λl=>(uO (f:=id) (h:=λ(w:Int×_)=>w.1) l).symm;constructor
 ·rw[Gd.tS hE,low,low];unfold Gd.cands;rw[qM,qM];congr 1;refine iw λt ht=>?_;have e:=h1 t ht
  cases hx:x t.1 with
  |none =>
   rw[hx]at e;have e':g.uh E t.1=none:=by
    cases hb:g.uh E t.1 with
    |none=>rfl
    |some b=>rw[hb]at e;cases e
   rw[e'];rfl
  |some w =>
   rw[hx]at e
   cases hb:g.uh E t.1 with
   |none=>rw[hb]at e;cases e
   |some b =>
    rw[hb]at e;have e':w.1=b.1:=L_ e;show some (t.2+w.1)=some (t.2+b.1);rw[e']
 ·intro n;unfold Gd.sv;rw[Gd.tS hE];unfold Gd.cands;have e:=uO (f:=λ(w:Int×BH)=>w.1) (h:=λ(w:Int×List aY)=>(w.1,qD u s w.2)) ((g.steps s).filterMap λt=>(g.uh E t.1).map λw=>(t.2+w.1,t.1::w.2));rw[←e,qM];congr 1;refine iw λt ht=>?_;rw[h2 n t ht];unfold Gd.sv
  cases g.uh E t.1 with
  |none=>rfl
  |some w =>
   obtain⟨r1,r2⟩:=Gd.FW ht;show some (t.2+w.1,qD u t.1 w.2)=some (t.2+w.1,qD u s (t.1::w.2));rw[NI r1 r2 n]
theorem Gd.Xa{g:Gd}{E:aY->Bool}{u:Nat}{s:aY}(h:s.1=u):g.sv E u s=((g.uh E s).map (·.1)).map λr=>(r,some (s.2.1,s.2.2)):=by
 unfold Gd.sv
 cases g.uh E s with
 |none=>rfl
 |some w =>
  show some (w.1,qD u s w.2)=some (w.1,some (s.2.1,s.2.2));unfold qD;rw[if_neg (by omega),qad,h,beq_self_eq_true];rfl
theorem Gd.UD{g:Gd}{E:aY->Bool}{u:Nat}{s:aY}(h:E s=true)(n:s.1≠u):g.sv E u s=some (0,none):=by
 unfold Gd.sv;rw[Gd.tT h];show some ((0:Int),qD u s [])=_;unfold qD;split
 ·rfl
 ·rw[qad,beq_false_of_ne n];rfl
noncomputable def gk(s:aY)(v:Nat):aY:=(if v=98 then s.1 else s.1+1,if v=97 then s.2.1 else s.2.1+1,v)
noncomputable def jI:aY->List Nat->List aY
 |_,[]=>[]
 |s,v::vs=>gk s v::jI (gk s v) vs
theorem Gd.xo{g:Gd}{s:aY}{t:aY×Int}(h:t∈g.steps s):t.1=gk s t.1.2.2:=by
 rcases Gd.dI.mp h with⟨_,_,rfl⟩|⟨_,rfl⟩|⟨_,rfl⟩<;>rfl
structure Gd.Qf(g:Gd):Prop where
 en:∀i j,g.en i j=decide (i=g.n/\j=g.m)
noncomputable def Gd.last(g:Gd)(s:aY):Bool:=decide (s.1=g.n/\s.2.1=g.m)
theorem Gd.DC{g:Gd}{E:aY->Bool}(W:g.Qf)(hE:∀s,g.In s->E s=g.last s):∀(d:Nat) (s:aY),g.In s->g.ht s<=d->g.uh E s=some (g.rest s,jI s (g.moves s))
 |d,s,hs,hd=>by
  have ok:g.Ok:=by show g.en g.n g.m=true;rw[W.en];simp
  by_cases e:s.1=g.n/\s.2.1=g.m
  ·have hl:E s=true:=by rw[hE s hs];exact decide_eq_true e
   have st:g.steps s=[]:=Gd.yj (by unfold Gd.ht;omega);have r0:g.rest s=0:=by
    rw[g.rest_eq];unfold Gd.costs;rw[st,W.en,e.1,e.2];simp[zH]
   have hst:g.stop s=true:=by
    unfold Gd.stop;rw[W.en,r0,decide_eq_true e];rfl
   rw[Gd.tT hl,r0,Gd.oh hst];rfl
  ·have hl:E s=false:=by rw[hE s hs];exact decide_eq_false e
   have hst:g.stop s=false:=by
    unfold Gd.stop;rw[W.en,decide_eq_false e];rfl
   obtain⟨t,ht,SX,en,ek,_⟩:=g.go ok hs hst;have h1:=Gd.eY SX;have key:∀u∈g.steps s,g.uh E u.1=some (g.rest u.1,jI u.1 (g.moves u.1)):=λu hu=>by
    have h2:=Gd.eY hu
    cases d with
    |zero=>omega
    |succ d=>exact Gd.DC W hE d u.1 (Gd.lO hu hs) (by omega)
   rw[Gd.tS hl,iw λu hu=>by rw[key u hu]];show fmin (·.1) ((g.steps s).filterMap λu=>some (u.2+g.rest u.1,u.1::jI u.1 (g.moves u.1)))=_;rw[show((g.steps s).filterMap λu=>some (u.2+g.rest u.1,u.1::jI u.1 (g.moves u.1)))=(g.steps s).map (λu=>(u.2+g.rest u.1,u.1::jI u.1 (g.moves u.1))) from List.filterMap_eq_map (f:=λ(u:aY×Int)=>(u.2+g.rest u.1,u.1::jI u.1 (g.moves u.1)))▸rfl,uO];rw[show fmin (λ(a:aY×Int)=>a.2+g.rest a.1) (g.steps s)=some t from ht];show some (t.2+g.rest t.1,t.1::jI t.1 (g.moves t.1))=_;rw[show t.2+g.rest t.1=g.rest s from ek,Gd.uI ok hs hst,en];show _=some (g.rest s,gk s t.1.2.2::jI (gk s t.1.2.2) (g.moves t.1));rw[←Gd.xo SX]
 termination_by d=>d
noncomputable def downs(s:aY)(mv:List Nat):List aY:=(jI s mv).filter λt=>t.2.2 != 98
theorem qp:∀(mv:List Nat) (s:aY) (k:Nat),(s::jI s mv).find? (λt=>t.1==s.1+k)=(s::downs s mv)[k]?
 |mv,s,0=>by
  rw[qad,Nat.add_zero,beq_self_eq_true];rfl
 |[],s,k+1=>by
  rw[qad,beq_false_of_ne (by omega)];rfl
 |v::vs,s,k+1=>by
  rw[qad,beq_false_of_ne (by omega)];show(gk s v::jI (gk s v) vs).find? (λt=>t.1==s.1+(k+1))=(downs s (v::vs))[k]?;by_cases e:v=98
  ·have r:(gk s v).1=s.1:=by unfold gk;rw[if_pos e]
   rw[←r,qp vs (gk s v) (k+1)];show(downs (gk s v) vs)[k]? =_;unfold downs;rw[show jI s (v::vs)=gk s v::jI (gk s v) vs from rfl,qaA (by show ¬(v != 98)=true;rw[e];decide)]
  ·have r:(gk s v).1=s.1+1:=by unfold gk;rw[if_neg e]
   rw[show s.1+(k+1)=(gk s v).1+k by omega,qp vs (gk s v) k];unfold downs;rw[show jI s (v::vs)=gk s v::jI (gk s v) vs from rfl,qaz (by show(v != 98)=true;rw[bne_iff_ne];exact e)]
theorem Gd.DA{g:Gd}:∀{mv:List Nat} {s e:aY} {c:Int},g.walk s mv=some (c,e)->e.1=s.1+(downs s mv).length
 |[],s,e,c,h=>by cases h;rfl
 |v::vs,s,e,c,h=>by
  obtain⟨t,c',ht,rfl,hw,_⟩:=Gd.pA h;have ih:=Gd.DA hw;have em:=Gd.xo ht;rw[em]at ih;unfold downs at ih ⊢;rw[show jI s (t.1.2.2::vs)=gk s t.1.2.2::jI (gk s t.1.2.2) vs from rfl];by_cases q:t.1.2.2=98
  ·rw[qaA (by show ¬(t.1.2.2 != 98)=true;rw[q];decide),ih];unfold gk;rw[if_pos q]
  ·rw[qaz (by show(t.1.2.2 != 98)=true;rw[bne_iff_ne];exact q),ih,qaa];unfold gk;rw[if_neg q];simp only;omega
theorem Gd.NG{g:Gd}{E:aY->Bool}(W:g.Qf)(hE:∀s,g.In s->E s=g.last s){s:aY}(hs:g.In s)(k:Nat):g.sv E (s.1+k) s=some (g.rest s,((s::downs s (g.moves s))[k]?).map λt=>(t.2.1,t.2.2)):=by
 unfold Gd.sv;rw[Gd.DC W hE _ s hs (j_ _)];show some (g.rest s,qD (s.1+k) s (jI s (g.moves s)))=_;unfold qD;rw[if_neg (by omega),qp]
end
section
noncomputable def Qe(T:PT)(v c:Nat):Int:=if v=c then cL (uT T) T.2.2.2 else cL (uT T) T.2.2.1+cL (uT T) T.2.2.2
noncomputable abbrev CF:=Nat->Option (Int×BH)
noncomputable def jV:CF:=λ_=>none
noncomputable def rX(T:PT)(c:Nat)(pr:Int)(fa fu fb:CF):List (Int×BH):=((fa 112).map λw=>(pr+w.1,w.2)).toList++(((fu 97).map λw=>(Qe T 97 c+w.1,w.2)).toList++((fb 98).map λw=>(Qe T 98 c+w.1,w.2)).toList)
noncomputable def nU(T:PT)(pr:Int)(fa fu fb:CF):CF:=λc=>if c∈yK then fmin (·.1) (rX T c pr fa fu fb)else none
noncomputable def kW(T:PT)(L:List Nat):Nat->CF
 | 0=>λc=>if c∈L then some (0,none)else none
 |k+1=>nU T 0 jV jV (kW T L k)
noncomputable def eN(T:PT)(pc:Nat->Int)(i_:Nat->CF)(m:Nat):Nat->CF
 | 0=>nU T 0 jV (i_ m) jV
 |k+1=>nU T (pc (m-(k+1))) (i_ (m-(k+1)+1)) (i_ (m-(k+1))) (eN T pc i_ m k)
noncomputable def xm(R:Nat->CF):Nat->CF:=λj c=>(R j c).map λw=>(w.1,some (j,c))
def uP(n m:Nat)(L:List Nat):aY->Bool:=λs=>decide (s.1=n/\s.2.1=m/\s.2.2∈L)
def zQ(g:Gd)(E:aY->Bool)(u i:Nat)(R:Nat->CF)(j:Nat):Prop:=∀c∈yK,(R j c).map (·.1)=(g.uh E (i,j,c)).map (·.1)/\(i≠u->R j c=g.sv E u (i,j,c))
def HC(g:Gd)(E:aY->Bool)(u i:Nat)(S:Nat->CF):Prop:=∀j,j<=g.m->∀c∈yK,S j c=g.sv E u (i,j,c)
theorem HC.val{g:Gd}{E:aY->Bool}{u i j c:Nat}{S:Nat->CF}(h:HC g E u i S)(hj:j<=g.m)(hc:c∈yK):(S j c).map (·.1)=(g.uh E (i,j,c)).map (·.1):=by
 rw[h j hj c hc];unfold Gd.sv;cases g.uh E (i,j,c)<;>rfl
theorem zQ.s{g:Gd}{E:aY->Bool}{u i:Nat}{R:Nat->CF}(h:∀j,j<=g.m->zQ g E u i R j)(n:i≠u):HC g E u i R:=λj hj c hc=>(h j hj c hc).2 n
theorem zQ.stops{g:Gd}{E:aY->Bool}{u:Nat}{R:Nat->CF}(h:∀j,j<=g.m->zQ g E u u R j):HC g E u u (xm R):=λj hj c hc=>by
 rw[Gd.Xa (s:=(u,j,c)) rfl,←(h j hj c hc).1];unfold xm;cases R j c<;>rfl
theorem PZ:112∈yK:=by decide
theorem Lz:97∈yK:=by decide
theorem Tg:98∈yK:=by decide
section
variable{T:PT}{mn f s:v_}{L:List Nat}{u:Nat}
theorem Ds(hL:∀c∈L,c∈yK):∀k,k<=s.cps.size->zQ (b7 T mn f s) (uP f.cps.size s.cps.size L) u f.cps.size (λj=>kW T L (s.cps.size-j)) (s.cps.size-k)
 | 0,_=>λc hc=>by
  rw[Nat.sub_zero];show((kW T L (s.cps.size-s.cps.size) c).map (·.1)=_)/\(_->kW T L (s.cps.size-s.cps.size) c=_);rw[qcf]
  show((if c∈L then some ((0:Int),(none:BH))else none).map (·.1)=_)/\(_->(if c∈L then some ((0:Int),(none:BH))else none)=_)
  by_cases e:c∈L
  ·have hE:uP f.cps.size s.cps.size L (f.cps.size,s.cps.size,c)=true:=decide_eq_true ⟨rfl,rfl,e⟩;rw[if_pos e,Gd.tT hE];exact⟨Y,λn=>(Gd.UD hE n).symm⟩
  ·have hE:uP f.cps.size s.cps.size L (f.cps.size,s.cps.size,c)=false:=decide_eq_false λz=>e z.2.2;have st:(b7 T mn f s).steps (f.cps.size,s.cps.size,c)=[]:=Gd.yj (by show f.cps.size-f.cps.size+(s.cps.size-s.cps.size)=0;omega);rw[if_neg e];unfold Gd.sv;rw[Gd.tS hE,st];exact⟨Y,λ_=>rfl⟩
 |k+1,hk=>λc hc=>by
  have ih:=Ds hL k (by omega);have hE:uP f.cps.size s.cps.size L (f.cps.size,s.cps.size-(k+1),c)=false:=decide_eq_false λz=>by have:=z.2.1;simp only at this;omega
  have hc1:=Gd.BB (g:=b7 T mn f s) (u:=u) (s:=(f.cps.size,s.cps.size-(k+1),c)) (x:=λt=>kW T L (s.cps.size-t.2.1) t.2.2) hE (λt ht=>?_) λn t ht=>?_
  ·have e2:(b7 T mn f s).cands (λt=>kW T L (s.cps.size-t.2.1) t.2.2) (f.cps.size,s.cps.size-(k+1),c)=rX T c 0 jV jV (kW T L k):=by
    unfold Gd.cands Gd.steps rX jV
    show qbi _ ((if f.cps.size<f.cps.size/\s.cps.size-(k+1)<s.cps.size then _ else _)++((if f.cps.size<f.cps.size then _ else _)++(if s.cps.size-(k+1)<s.cps.size then _ else _)))=_
    rw[if_neg (c:=f.cps.size<f.cps.size/\s.cps.size-(k+1)<s.cps.size) (λz=>absurd z.1 (qap _)),if_neg (c:=f.cps.size<f.cps.size) (qap _),if_pos (c:=s.cps.size-(k+1)<s.cps.size) (by omega)];show qbi _ [((f.cps.size,s.cps.size-(k+1)+1,98),(b7 T mn f s).ac 98 c)]=_;rw[qas,qcw];simp only[show s.cps.size-(s.cps.size-(k+1)+1)=k by omega,qb1,qby,List.nil_append];show _=((kW T L k 98).map λw=>((b7 T mn f s).ac 98 c+w.1,w.2)).toList;cases kW T L k 98<;>rfl
   rw[e2]at hc1;show((kW T L (s.cps.size-(s.cps.size-(k+1))) c).map (·.1)=_)/\(_->kW T L (s.cps.size-(s.cps.size-(k+1))) c=_);rw[show s.cps.size-(s.cps.size-(k+1))=k+1 by omega];show((nU T 0 jV jV (kW T L k) c).map (·.1)=_)/\(_->nU T 0 jV jV (kW T L k) c=_);unfold nU;rw[if_pos hc];exact hc1
  all_goals
   rcases Gd.dI.mp ht with⟨z,_⟩|⟨z,_⟩|⟨_,rfl⟩
   ·exact absurd z (qap _)
   ·exact absurd z (qap _)
   ·have:=ih 98 Tg;rw[show s.cps.size-k=s.cps.size-(k+1)+1 by omega]at this
    first|exact this.1|exact this.2 n
theorem JW{i:Nat}{i_:Nat->CF}(hi:i<f.cps.size)(hU:HC (b7 T mn f s) (uP f.cps.size s.cps.size L) u (i+1) i_):∀k,k<=s.cps.size->zQ (b7 T mn f s) (uP f.cps.size s.cps.size L) u i (λj=>eN T ((b7 T mn f s).pc i) i_ s.cps.size (s.cps.size-j)) (s.cps.size-k):=by
 have hE:∀j c,uP f.cps.size s.cps.size L (i,j,c)=false:=λj c=>decide_eq_false λz=>by have:=z.1;simp only at this;omega
 have xp:∀(j c:Nat),(λt:aY=>if t.1=i then eN T ((b7 T mn f s).pc i) i_ s.cps.size (s.cps.size-t.2.1) t.2.2 else i_ t.2.1 t.2.2) (i+1,j,c)=i_ j c:=λj c=>if_neg (by simp)
 have xb:∀(j c:Nat),(λt:aY=>if t.1=i then eN T ((b7 T mn f s).pc i) i_ s.cps.size (s.cps.size-t.2.1) t.2.2 else i_ t.2.1 t.2.2) (i,j,c)=eN T ((b7 T mn f s).pc i) i_ s.cps.size (s.cps.size-j) c:=λj c=>if_pos rfl
 intro k
 induction k with
 |zero =>
  intro _ c hc
  have hc1:=Gd.BB (g:=b7 T mn f s) (u:=u) (s:=(i,s.cps.size,c)) (x:=λt=>if t.1=i then eN T ((b7 T mn f s).pc i) i_ s.cps.size (s.cps.size-t.2.1) t.2.2 else i_ t.2.1 t.2.2) (hE _ _) (λt ht=>?_) λn t ht=>?_
  ·have e2:(b7 T mn f s).cands (λt=>if t.1=i then eN T ((b7 T mn f s).pc i) i_ s.cps.size (s.cps.size-t.2.1) t.2.2 else i_ t.2.1 t.2.2) (i,s.cps.size,c)=rX T c 0 jV (i_ s.cps.size) jV:=by
    unfold Gd.cands Gd.steps rX
    show qbi _ ((if i<f.cps.size/\s.cps.size<s.cps.size then _ else _)++((if i<f.cps.size then _ else _)++(if s.cps.size<s.cps.size then _ else _)))=_
    rw[if_neg (c:=i<f.cps.size/\s.cps.size<s.cps.size) (λz=>absurd z.2 (qap _)),if_pos (c:=i<f.cps.size) hi,if_neg (c:=s.cps.size<s.cps.size) (qap _)];show qbi _ [((i+1,s.cps.size,97),(b7 T mn f s).ac 97 c)]=_;rw[qas,qcw];simp only[xp];simp only[jV,qb1,qby,List.nil_append,qaB];show _=((i_ s.cps.size 97).map λw=>((b7 T mn f s).ac 97 c+w.1,w.2)).toList;cases i_ s.cps.size 97<;>rfl
   rw[e2]at hc1;show((eN T ((b7 T mn f s).pc i) i_ s.cps.size (s.cps.size-(s.cps.size-0)) c).map (·.1)=_)/\(_->eN T ((b7 T mn f s).pc i) i_ s.cps.size (s.cps.size-(s.cps.size-0)) c=_);rw[show s.cps.size-(s.cps.size-0)=0 by omega,Nat.sub_zero];show((nU T 0 jV (i_ s.cps.size) jV c).map (·.1)=_)/\(_->nU T 0 jV (i_ s.cps.size) jV c=_);unfold nU;rw[if_pos hc];exact hc1
  all_goals
   rcases Gd.dI.mp ht with⟨_,z,_⟩|⟨_,rfl⟩|⟨z,_⟩
   ·exact absurd z (qap _)
   ·have z1:=hU.val (j:=s.cps.size) (j_ _) Lz;have z2:=hU s.cps.size (j_ _) 97 Lz;simp only[xp]
    first|exact z1|exact z2
   ·exact absurd z (qap _)
 |succ k ihk =>
  intro hk c hc;have ih:=ihk (by omega);have hj:s.cps.size-(k+1)+1=s.cps.size-k:=by omega
  have hc1:=Gd.BB (g:=b7 T mn f s) (u:=u) (s:=(i,s.cps.size-(k+1),c)) (x:=λt=>if t.1=i then eN T ((b7 T mn f s).pc i) i_ s.cps.size (s.cps.size-t.2.1) t.2.2 else i_ t.2.1 t.2.2) (hE _ _) (λt ht=>?_) λn t ht=>?_
  ·have e2:(b7 T mn f s).cands (λt=>if t.1=i then eN T ((b7 T mn f s).pc i) i_ s.cps.size (s.cps.size-t.2.1) t.2.2 else i_ t.2.1 t.2.2) (i,s.cps.size-(k+1),c)=rX T c ((b7 T mn f s).pc i (s.cps.size-(k+1))) (i_ (s.cps.size-(k+1)+1)) (i_ (s.cps.size-(k+1))) (eN T ((b7 T mn f s).pc i) i_ s.cps.size k):=by
    unfold Gd.cands Gd.steps rX
    show qbi _ ((if i<f.cps.size/\s.cps.size-(k+1)<s.cps.size then _ else _)++((if i<f.cps.size then _ else _)++(if s.cps.size-(k+1)<s.cps.size then _ else _)))=_
    rw[if_pos (c:=i<f.cps.size/\s.cps.size-(k+1)<s.cps.size) ⟨hi,by omega⟩,if_pos (c:=i<f.cps.size) hi,if_pos (c:=s.cps.size-(k+1)<s.cps.size) (by omega)];show qbi _ [((i+1,s.cps.size-(k+1)+1,112),(b7 T mn f s).pc i (s.cps.size-(k+1))),((i+1,s.cps.size-(k+1),97),(b7 T mn f s).ac 97 c),((i,s.cps.size-(k+1)+1,98),(b7 T mn f s).ac 98 c)]=_;simp only[qas,qcw,xp,xb];rw[show s.cps.size-(s.cps.size-(k+1)+1)=k by omega];show _=((i_ (s.cps.size-(k+1)+1) 112).map _).toList++(((i_ (s.cps.size-(k+1)) 97).map λw=>((b7 T mn f s).ac 97 c+w.1,w.2)).toList++((eN T ((b7 T mn f s).pc i) i_ s.cps.size k 98).map λw=>((b7 T mn f s).ac 98 c+w.1,w.2)).toList);cases i_ (s.cps.size-(k+1)+1) 112<;>cases i_ (s.cps.size-(k+1)) 97<;>cases eN T ((b7 T mn f s).pc i) i_ s.cps.size k 98<;>rfl
   rw[e2]at hc1;show((eN T ((b7 T mn f s).pc i) i_ s.cps.size (s.cps.size-(s.cps.size-(k+1))) c).map (·.1)=_)/\(_->eN T ((b7 T mn f s).pc i) i_ s.cps.size (s.cps.size-(s.cps.size-(k+1))) c=_);rw[show s.cps.size-(s.cps.size-(k+1))=k+1 by omega];show((nU T ((b7 T mn f s).pc i (s.cps.size-(k+1))) (i_ (s.cps.size-(k+1)+1)) (i_ (s.cps.size-(k+1))) (eN T ((b7 T mn f s).pc i) i_ s.cps.size k) c).map (·.1)=_)/\(_->nU T ((b7 T mn f s).pc i (s.cps.size-(k+1))) (i_ (s.cps.size-(k+1)+1)) (i_ (s.cps.size-(k+1))) (eN T ((b7 T mn f s).pc i) i_ s.cps.size k) c=_);unfold nU;rw[if_pos hc];exact hc1
  all_goals
   rcases Gd.dI.mp ht with⟨_,_,rfl⟩|⟨_,rfl⟩|⟨_,rfl⟩
   ·have z1:=hU.val (j:=s.cps.size-(k+1)+1) (by show _<=s.cps.size;omega) PZ;have z2:=hU (s.cps.size-(k+1)+1) (by show _<=s.cps.size;omega) 112 PZ;simp only[xp]
    first|exact z1|exact z2
   ·have z1:=hU.val (j:=s.cps.size-(k+1)) (by show _<=s.cps.size;omega) Lz;have z2:=hU (s.cps.size-(k+1)) (by show _<=s.cps.size;omega) 97 Lz;simp only[xp]
    first|exact z1|exact z2
   ·have z:=ih 98 Tg;simp only at z;simp only[xb];rw[hj]
    first|exact z.1|exact z.2 n
end
end
end GP
namespace L2
open PySem PySem.Spec PyProof.Rows PySem.W
theorem El{X:Cx}(hu:X.A.units+1<cLine):wc X (compareOp .In) (λx y H Q=>dP λa o=>y= .ref a/\rW H a x o/\Q (.bl o.isSome) H):=by
 intro pins s σ H x y u v Q I rx ry h;obtain⟨a,o,rfl,g,q⟩:=h;cases (show v=Value.ref a from ry);exact ad1 hu I g rx λs' I'=>⟨.bl o.isSome,H,I',Y,q⟩
end L2
namespace GP
open PySem L2 rF
section
noncomputable def kS(c:Nat):Key:=.inr ⟨#[c]⟩
theorem Vm{a b:Nat}(h:kS a=kS b):a=b:=by
 unfold kS at h;simpa using h
noncomputable def WA(H:Hp):BH->V->Prop
 |none,v=>v= .jG
 |some q,v=>∃p,v= .ref p/\H p=some (.tup [.int (q.1:Int),.str ⟨#[q.2]⟩])
def wR(H:Hp)(w:Int×BH)(v:V):Prop:=dP λp x=>v= .ref p/\H p=some (.tup [.int w.1,x])/\WA H w.2 x
noncomputable def WyO(H:Hp):Option (Int×BH)->V->Prop
 |none,v=>v= .jG
 |some w,v=>wR H w v
def Qg(H H':Hp):Prop:=∀p xs,H p=some (.tup xs)->H' p=some (.tup xs)
theorem pO{H H':Hp}(e:ak H H'):Qg H H':=λp xs q=>e _ _ q
theorem WA.tps{H H':Hp}{s:BH}{v:V}(h:WA H s v)(e:Qg H H'):WA H' s v:=by
 cases s with
 |none=>exact h
 |some q=>obtain⟨p,a,b⟩:=h;exact⟨p,a,e _ _ b⟩
theorem wR.tps{H H':Hp}{w:Int×BH}{v:V}(h:wR H w v)(e:Qg H H'):wR H' w v:=by
 obtain⟨p,x,a,b,c⟩:=h;exact⟨p,x,a,e _ _ b,c.tps e⟩
theorem mV{H:Hp}{d:U}{o u:HO}(h:H d=some u)(n:∀xs,u≠ .tup xs):Qg H (L2.upd H d o):=λp xs e=>by
 rw[av (λz=>by rw[z,h]at e;exact n xs (L_ e))];exact e
theorem QO{H:Hp}{d:U}{o:HO}(h:H d=none):Qg H (L2.upd H d o):=pO (ak.upd h)
theorem Qg.trans{H H' Qm:Hp}(a:Qg H H')(b:Qg H' Qm):Qg H Qm:=λp xs e=>b p xs (a p xs e)
def Nf(H:Hp)(f:CF)(kvs:List (Key×V))(cs:List Nat):Prop:=cs.Nodup/\Paired (λe c=>e.1=kS c/\∃w,f c=some w/\wR H w e.2) kvs cs
theorem Nf.tps{H H':Hp}{f:CF}{kvs:List (Key×V)}{cs:List Nat}(h:Nf H f kvs cs)(e:Qg H H'):Nf H' f kvs cs:=⟨h.1,Paired.ji h.2 λ_ _ ⟨a,w,b,c⟩=>⟨a,w,b,c.tps e⟩⟩
def lY(H:Hp)(d:U)(f:CF):Prop:=dP λkvs cs=>H d=some (.dK kvs)/\Nf H f kvs cs/\(∀c,(f c).isSome=true->c∈cs)/\cs.length<=3
theorem lY.same{H H':Hp}{d:U}{f:CF}(h:lY H d f)(e:ak H H'):lY H' d f:=by
 obtain⟨kvs,cs,a,b,c⟩:=h;exact⟨kvs,cs,e _ _ a,b.tps (pO e),c⟩
theorem EK{H:Hp}{f:CF}(c:Nat):∀{kvs:List (Key×V)} {cs:List Nat},Paired (λ(e:Key×V) c=>e.1=kS c/\∃w,f c=some w/\wR H w e.2) kvs cs->(c∈cs->dP λv w=>jK kvs (kS c)=some v/\f c=some w/\wR H w v)/\(c∉cs->jK kvs (kS c)=none)
 |_,_,.nil=>⟨λh=>(nomatch h),λ_=>rfl⟩
 |_,_,.cons (a:=e) (b:=b) ⟨h1,w,h2,h3⟩ r=>by
  obtain⟨i1,i2⟩:=EK c r;by_cases z:b=c
  ·subst z;exact⟨λ_=>⟨e.2,w,fZ h1,h2,h3⟩,λn=>absurd z_ n⟩
  ·have n:¬e.1=kS c:=λq=>z (Vm (h1.symm.trans q));rw[f6 n];refine⟨λh=>i1 ?_,λh=>i2 λq=>h (s_ _ q)⟩;rcases B_.mp h with h|h
   ·exact absurd h.symm z
   ·exact h
theorem lY.val{H:Hp}{d:U}{f:CF}(h:lY H d f)(c:Nat):(f c=none/\rW H d (.str ⟨#[c]⟩) none)\/dP λw v=>f c=some w/\rW H d (.str ⟨#[c]⟩) (some v)/\wR H w v:=by
 obtain⟨kvs,cs,h1,h2,h3,_⟩:=h;obtain⟨i1,i2⟩:=EK c h2.2;have g:=rW.k (k:=kS c) h1;by_cases z:c∈cs
 ·obtain⟨v,w,a,b,e⟩:=i1 z;rw[a]at g;exact .inr ⟨w,v,b,g,e⟩
 ·rw[i2 z]at g;refine .inl ⟨?_,g⟩
  cases hf:f c with
  |none=>rfl
  |some w=>exact absurd (h3 c (by rw[hf];rfl)) z
theorem Nf.put{H:Hp}{f:CF}{kvs:List (Key×V)}{cs:List Nat}{c:Nat}{w:Int×BH}{v:V}(h:Nf H f kvs cs)(n:c∉cs)(hf:f c=some w)(hw:wR H w v):Nf H f (putK kvs (kS c) v) (cs++[c]):=by
 rw[Oi _ ((EK c h.2).2 n)];refine⟨qb8.mpr ⟨h.1,by simp,λa ha b hb z=>?_⟩,Paired.snoc h.2 ⟨Y,w,hf,hw⟩⟩;rw[x_.mp hb]at z;exact n (by rw[←z];exact ha)
def mT(H:Hp)(l:U)(F:Nat->CF)(m:Nat):Prop:=∃ds:List U,H l=some (.lst (ds.map V.ref))/\ds.length=m+1/\∀j d,ds[j]? =some d->lY H d (F j)
theorem mT.same{H H':Hp}{l:U}{F:Nat->CF}{m:Nat}(h:mT H l F m)(e:ak H H'):mT H' l F m:=by
 obtain⟨ds,a,b,c⟩:=h;exact⟨ds,e _ _ a,b,λj d hd=>(c j d hd).same e⟩
theorem mT.get{H:Hp}{l:U}{F:Nat->CF}{m j:Nat}(h:mT H l F m)(hj:j<=m):dP λ(ds:List U) (d:U)=>H l=some (.lst (ds.map V.ref))/\DJ (ds.map V.ref) (j:Int)=some (.ref d)/\ds.length=m+1/\lY H d (F j):=by
 obtain⟨ds,a,b,c⟩:=h;have hl:j<ds.length:=by omega
 exact⟨ds,ds[j],a,dY (by rw[O_,g_ hl];rfl),b,c j _ (g_ hl)⟩
def ET(H:Hp)(l:U)(ws:List (Int×BH)):Prop:=∃ps:List U,H l=some (.lst (ps.map V.ref))/\Paired (λp w=>wR H w (.ref p)) ps ws
theorem ET.put{H H5:Hp}{l q:U}{ws:List (Int×BH)}{w:Int×BH}{x:V}{ps:List U}(h1:H l=some (.lst (ps.map V.ref)))(h2:Paired (λp w=>wR H w (.ref p)) ps ws)(e:ak H H5)(hq:H5 q=none)(hx:WA H5 w.2 x):ET (L2.upd (L2.upd H5 q (.tup [.int w.1,x])) l (.lst (ps.map V.ref++[.ref q]))) l (ws++[w]):=by
 have hl:=(ak.upd (o:=.tup [.int w.1,x]) hq) _ _ (e _ _ h1);have t1:=QO (o:=.tup [.int w.1,x]) hq;have t2:=mV (o:=.lst (ps.map V.ref++[.ref q])) hl (λ_ z=>by cases z);refine⟨ps++[q],by rw[ai,M_];rfl,Paired.snoc (Paired.ji h2 λ_ _ z=>z.tps ((pO e).trans (t1.trans t2))) ⟨q,x,Y,t2 _ _ ai,hx.tps (t1.trans t2)⟩⟩
theorem Qd{T:PT}{a:v_}{v c:Nat}(h:a=⟨#[v]⟩):(if a=⟨#[c]⟩then cL (bq T.2.2.1.2 T.2.2.2.2 T.2.1) T.2.2.2 else cL (bq T.2.2.1.2 T.2.2.2.2 T.2.1) T.2.2.1+cL (bq T.2.2.1.2 T.2.2.2.2 T.2.1) T.2.2.2)=Qe T v c:=V.int.inj (Qc (m:=a) (f:=a) (s:=a) h)
theorem QJ{H:Hp}{ws:List (Int×BH)}{ps:List U}{i:Nat}{v:V}(pp:Paired (λp w=>wR H w (.ref p)) ps ws)(hv:(ps.map V.ref)[i]? =some v)(hL:HP (λi=>(ws.getD i (0,none)).1) (ps.map V.ref).length i):WyO H (fmin (·.1) ws) v:=by
 obtain⟨p,hp,rfl⟩:=i9 hv;obtain⟨w,hw,hwy⟩:=GP.Paired.at pp hp;have e:fmin (·.1) ws=some w:=Ag hw λj y hj=>by
  have lt:j<(ps.map V.ref).length:=by rw[l_,Paired.len pp];exact(o_.mp hj).1
  have z:=hL j lt;simp only[show ws.getD i (0,none)=w from o9 hw,show ws.getD j (0,none)=y from o9 hj]at z;exact z
 rw[e];exact hwy
def Xc:Sp:=λvs H Q _=>nN λ(p:U) (n:Int) (xs:List V)=>vs=[.ref p]/\H p=some (.tup (.int n::xs))/\Q (.int n) H
def NZ(K:PySem.W.Frag)(C:U):Sp:=λvs H Q _=>HA λ(pr A i_ B:U) (T:PT) (c:Nat) (pair:Int) (fa fu fb:CF)=>vs=[.ref pr,.str ⟨#[c]⟩,.int pair,.ref A,.ref i_,.ref B]/\Aj K C H pr T/\lY H A fa/\lY H i_ fu/\lY H B fb/\∀v H',ak H H'->WyO H' (fmin (·.1) (rX T c pair fa fu fb)) v->Q v H'
def DZ(K:PySem.W.Frag)(C:U):Sp:=λvs H Q _=>Wz λ(pr A i_ B:U) (T:PT) (pair:Int) (fa fu fb:CF)=>vs=[.ref pr,.int pair,.ref A,.ref i_,.ref B]/\Aj K C H pr T/\lY H A fa/\lY H i_ fu/\lY H B fb/\∀d H',ak H H'->H d=none->lY H' d (nU T pair fa fu fb)->Q (.ref d) H'
def Zx(K:PySem.W.Frag)(H:Hp)(v:V)(L:List Nat):Prop:=∃c:Cp,v=c.val/\c.at K H (L.map λa=>V.str ⟨#[a]⟩)/\L.Nodup/\L.length<=3
def NV(K:PySem.W.Frag)(C:U):Sp:=λvs H Q _=>BG λ(pr:U) (v:V) (T:PT) (s:v_) (L:List Nat)=>vs=[.ref pr,.str s,v]/\Aj K C H pr T/\s.cps.size<=12/\Zx K H v L/\∀l H',ak H H'->H l=none->mT H' l (λj=>kW T L (s.cps.size-j)) s.cps.size->Q (.ref l) H'
def KR(K:PySem.W.Frag)(C:U):Sp:=λvs H Q _=>Wz λ(pr lu:U) (T:PT) (mn f s:v_) (i a:Nat) (i_:Nat->CF)=>vs=[.ref pr,.str ⟨#[a]⟩,.str s,.ref lu]/\Aj K C H pr T/\f.cps[i]? =some a/\Of T.1 f/\Of T.1 s/\s.cps.size<=12/\mT H lu i_ s.cps.size/\∀l H',ak H H'->H l=none->mT H' l (λj=>eN T ((b7 T mn f s).pc i) i_ s.cps.size (s.cps.size-j)) s.cps.size->Q (.ref l) H'
def NO:Sp:=λvs H Q _=>nN λ(l:U) (F:Nat->CF) (m:Nat)=>vs=[.ref l]/\mT H l F m/\m<=12/\∀l' H',ak H H'->H l'=none->mT H' l' (xm F) m->Q (.ref l') H'
def Av(K:PySem.W.Frag)(C:U):Sp:=λvs H Q _=>HA λ(pr:U) (v:V) (T:PT) (mn f s:v_) (c u:Nat) (L:List Nat) (w:Int×BH)=>vs=[.ref pr,.str f,.str s,.str ⟨#[c]⟩,v,.int (u:Int)]/\Aj K C H pr T/\Of T.1 f/\Of T.1 s/\f.cps.size<=12/\s.cps.size<=12/\u<=f.cps.size/\c∈yK/\(∀a∈L,a∈yK)/\Zx K H v L/\(b7 T mn f s).sv (uP f.cps.size s.cps.size L) u (0,0,c)=some w/\∀x H',ak H H'->WA H' w.2 x->Q x H'
theorem Lw{K:PySem.W.Frag}{H H':Hp}{c:Cp}{xs:List V}(h:c.at K H xs)(e:ak H H'):c.at K H' xs:=by
 cases c with
 |lst a=>exact ak.seq e h
 |tup a=>exact ak.tup e h
 |txt x=>exact h
theorem lY.off{H:Hp}{d l:U}{f:CF}{xs:List V}{o:HO}(h:lY H d f)(hl:H l=some (.lst xs)):lY (L2.upd H l o) d f:=by
 obtain⟨kvs,cs,a,b,c⟩:=h;exact⟨kvs,cs,by rw[av (λz=>by rw[z,hl]at a;cases a)];exact a,b.tps (mV hl (λ_ z=>by cases z)),c⟩
theorem lY.empty{H:Hp}{d:U}(h:H d=some (.dK [])):lY H d jV:=⟨[],[],h,⟨qbg,.nil⟩,(λc z=>by cases z),by decide⟩
theorem mT.grow{H H5:Hp}{l d:U}{F:Nat->CF}{k:Nat}{ds:List U}(h1:H l=some (.lst (ds.map V.ref)))(h2:ds.length=k)(h3:∀j d,ds[j]? =some d->lY H d (F j))(e:ak H H5)(hd:lY H5 d (F k)):mT (L2.upd H5 l (.lst (ds.map V.ref++[.ref d]))) l F k:=by
 refine⟨ds++[d],by rw[ai,M_];rfl,by rw[G_,h2];rfl,λj q hq=>?_⟩;by_cases hj:j<ds.length
 ·rw[qaX hj]at hq;exact((h3 j q hq).same e).off (e _ _ h1)
 ·rw[qaG (by omega)]at hq;have:j-ds.length<1:=(o_.mp hq).1;have ej:j=k:=by omega
  subst ej;rw[h2,qcf]at hq;cases hq;exact hd.off (e _ _ h1)
theorem mT.rev{H:Hp}{l:U}{F:Nat->CF}{m:Nat}{ds:List U}(h1:H l=some (.lst (ds.map V.ref)))(h2:ds.length=m+1)(h3:∀j d,ds[j]? =some d->lY H d (F j)):mT (L2.upd H l (.lst (ds.map V.ref).reverse)) l (λj=>F (m-j)) m:=by
 refine⟨ds.reverse,by rw[ai,List.map_reverse],by rw[List.length_reverse,h2],λj q hq=>?_⟩;have hj:j<ds.length:=by
  have:=(o_.mp hq).1;rw[List.length_reverse]at this;exact this
 rw[List.getElem?_reverse hj,h2]at hq;exact(h3 (m-j) q (by rw[←hq];congr 1)).off h1
theorem mT.last{H:Hp}{l:U}{F:Nat->CF}{m:Nat}(h:mT H l F m):dP λ(ds:List U) (d:U)=>H l=some (.lst (ds.map V.ref))/\DJ (ds.map V.ref) (-1)=some (.ref d)/\lY H d (F m):=by
 obtain⟨ds,h1,h2,h3⟩:=h;have hl:m<ds.length:=by omega
 have e:ds=ds.take m++[ds[m]]:=by
  have z:=take_snoc (g_ hl);rw[←z,X_ (by omega)]
 refine⟨ds,ds[m],h1,?_,h3 m _ (g_ hl)⟩;have e2:ds.map V.ref=(ds.take m).map V.ref++[V.ref ds[m]]:=by
  rw[←List.map_singleton (f:=V.ref),←M_,←e]
 rw[e2];exact Qa _ _
noncomputable abbrev sW:v_:=h_ "whole"
noncomputable abbrev kX:aY:=(0,0,112)
theorem DR(T:PT)(f s:v_):(b7 T sW f s).Qf:=⟨λi j=>by
 show Bc sW f s ((i:Int),(j:Int))=decide (i=f.cps.size/\j=s.cps.size);unfold Bc;rw[if_pos rfl];by_cases h1:i=f.cps.size<;>by_cases h2:j=s.cps.size<;>simp[h1,h2]<;>omega⟩
theorem ML{g:Gd}{s:aY}(h:g.In s):uP g.n g.m yK s=g.last s:=by
 unfold uP Gd.last;refine decide_eq_decide.mpr ⟨λz=>⟨z.1,z.2.1⟩,λz=>⟨z.1,z.2,?_⟩⟩;unfold yK;rcases h.2.2 with q|q|q<;>rw[q]<;>simp
noncomputable def iu(T:PT)(f s:v_):List aY:=kX::downs kX ((b7 T sW f s).moves kX)
theorem GX(T:PT)(m f s:v_):(b7 T m f s).In kX:=⟨Q_ _,Q_ _,.inl rfl⟩
theorem Af(T:PT)(f s:v_):(iu T f s).length=f.cps.size+1:=by
 obtain⟨e,hw,he,hen⟩:=Gd.qC (qP T sW f s) _ kX (GX T sW f s) (j_ _);have h1:=Gd.DA hw;rw[(DR T f s).en]at hen;have h2:=of_decide_eq_true hen;have h3:e.1=f.cps.size:=h2.1;have h4:(kX:aY).1=0:=rfl;unfold iu;rw[qaa];omega
theorem UC(T:PT)(f s:v_)(u:Nat):(b7 T sW f s).sv (uP f.cps.size s.cps.size yK) u kX=some ((b7 T sW f s).rest kX,((iu T f s)[u]?).map λt=>(t.2.1,t.2.2)):=by
 have z:=Gd.NG (E:=uP f.cps.size s.cps.size yK) (DR T f s) (λs hs=>ML (g:=b7 T sW f _) hs) (GX T sW f s) u;rw[show(kX:aY).1+u=u from Nat.zero_add u]at z;exact z
def Ky(K:PySem.W.Frag)(C:U):Sp:=λvs H Q _=>V7 λ(pr:U) (T:PT) (f s:v_) (u:Nat) (t:aY)=>vs=[.ref pr,.str f,.str s,.int (u:Int)]/\Aj K C H pr T/\Of T.1 f/\Of T.1 s/\f.cps.size<=12/\s.cps.size<=12/\u<=f.cps.size/\(iu T f s)[u]? =some t/\∀q H',ak H H'->H' q=some (.tup [.int (t.2.1:Int),.str ⟨#[t.2.2]⟩])->Q (.ref q) H'
theorem VT{c v:Nat}{a:v_}(h:a=⟨#[v]⟩):decide (V.str ⟨#[c]⟩=V.str a)=decide (c=v):=decide_eq_decide.mpr ⟨λz=>by rw[h]at z;simpa using z,λz=>by rw[h,z]⟩
theorem Lj{T:PT}{f s:v_}{i:Nat}{st:aY}(h:(iu T f s)[i]? =some st):st.1=i:=by
 have z:=qp ((b7 T sW f s).moves kX) kX i;rw[show(kX::downs kX ((b7 T sW f s).moves kX))[i]? =some st from h]at z;have q:=List.find?_some z;have q':st.1=0+i:=by simpa using q
 omega
end
section
structure Sub(g g':Gd)(a b:Nat):Prop where
 n:g'.n+a<=g.n
 m:g'.m+b<=g.m
 pc:∀i j,i<g'.n->j<g'.m->g'.pc i j=g.pc (i+a) (j+b)
 op:g'.op=g.op
 mo:g'.mo=g.mo
noncomputable def xw(a b:Nat)(t:aY):aY:=(t.1+a,t.2.1+b,t.2.2)
noncomputable def MD(e:aY):aY->Bool:=λs=>decide (s=e)
def Hf(n m c:Nat):aY->Bool:=λs=>decide (s.1=n/\s.2.1=m/\s.2.2∈[c])
theorem Gd.FZ{g:Gd}{s:aY}{t:aY×Int}(h:t∈g.steps s):s.2.1<=t.1.2.1:=by
 rcases Gd.dI.mp h with⟨_,_,rfl⟩|⟨_,rfl⟩|⟨_,rfl⟩<;>simp
theorem LB{g:Gd}{e:aY}:∀(d:Nat) (s:aY),g.ht s<=d->(e.1<s.1\/e.2.1<s.2.1)->g.uh (MD e) s=none
 |d,s,hd,h=>by
  have hE:MD e s=false:=decide_eq_false λz=>by rw[z]at h;omega
  rw[Gd.tS hE,iw (h:=λ_=>none) λt ht=>?_]
  ·rw[List.filterMap_eq_nil_iff.mpr λ_ _=>rfl];rfl
  ·have h1:=Gd.FW ht;have h2:=Gd.FZ ht;have h3:=Gd.eY ht
   cases d with
   |zero=>omega
   |succ d=>rw[LB d t.1 (by omega) (by omega)];rfl
 termination_by d=>d
theorem G7{β:Type}(g:Gd)(F:aY×Int->Option β)(s:aY):(g.steps s).filterMap F=(if s.1<g.n/\s.2.1<g.m then(F ((s.1+1,s.2.1+1,112),g.pc s.1 s.2.1)).toList else [])++((if s.1<g.n then(F ((s.1+1,s.2.1,97),g.ac 97 s.2.2)).toList else [])++(if s.2.1<g.m then(F ((s.1,s.2.1+1,98),g.ac 98 s.2.2)).toList else [])):=by
 have one:∀x,[x].filterMap F=(F x).toList:=λx=>by rw[qas,qcw];cases F x<;>rfl
 unfold Gd.steps;rw[List.filterMap_append,List.filterMap_append];congr 1
 ·split
  ·exact one _
  ·rfl
 ·congr 1
  ·split
   ·exact one _
   ·rfl
  ·split
   ·exact one _
   ·rfl
theorem Sub.uh{g g':Gd}{a b:Nat}(S:Sub g g' a b)(c:Nat):∀(d:Nat) (s:aY),g'.ht s<=d->s.1<=g'.n->s.2.1<=g'.m->g.uh (MD (g'.n+a,g'.m+b,c)) (xw a b s)=(g'.uh (Hf g'.n g'.m c) s).map λw=>(w.1,w.2.map (xw a b))
 |d,s,hd,h1,h2=>by
  by_cases e:s.1=g'.n/\s.2.1=g'.m/\s.2.2=c
  ·have hE':Hf g'.n g'.m c s=true:=decide_eq_true ⟨e.1,e.2.1,by rw[e.2.2];exact x_.mpr Y⟩;have hE:MD (g'.n+a,g'.m+b,c) (xw a b s)=true:=decide_eq_true (by unfold xw;rw[e.1,e.2.1,e.2.2]);rw[Gd.tT hE,Gd.tT hE'];rfl
  ·have hE':Hf g'.n g'.m c s=false:=decide_eq_false λz=>e ⟨z.1,z.2.1,x_.mp z.2.2⟩;have hE:MD (g'.n+a,g'.m+b,c) (xw a b s)=false:=decide_eq_false λz=>e (by
    unfold xw at z;simp only[qcL]at z;exact⟨by omega,by omega,z.2.2⟩)
   have fm:=uO (f:=λ(w:Int×List aY)=>w.1) (h:=λ(w:Int×List aY)=>(w.1,w.2.map (xw a b))) ((g'.steps s).filterMap λt=>(g'.uh (Hf g'.n g'.m c) t.1).map λw=>(t.2+w.1,t.1::w.2));rw[Gd.tS hE,Gd.tS hE',←fm,G7,G7,M_,M_];have ac:∀v k,g.ac v k=g'.ac v k:=λv k=>by unfold Gd.ac;rw[S.op,S.mo]
   have part:∀(P P':Prop) [Decidable P] [Decidable P'] (t':aY) (k:Int) (k':Int),(P'->P/\k=k'/\g'.ht t'<g'.ht s/\t'.1<=g'.n/\t'.2.1<=g'.m)->(¬P'->P->g'.n+a<(xw a b t').1\/g'.m+b<(xw a b t').2.1) →
     (if P then((g.uh (MD (g'.n+a,g'.m+b,c)) (xw a b t')).map λw=>(k+w.1,xw a b t'::w.2)).toList else [])=(if P' then((g'.uh (Hf g'.n g'.m c) t').map λw=>(k'+w.1,t'::w.2)).toList else []).map (λ(w:Int×List aY)=>(w.1,w.2.map (xw a b))):=λP P' _ _ t' k k' hp hn=>by
    by_cases S9:P'
    ·obtain⟨hP,hk,hh,hi,hj⟩:=hp S9;have ih:g.uh (MD (g'.n+a,g'.m+b,c)) (xw a b t')=(g'.uh (Hf g'.n g'.m c) t').map λw=>(w.1,w.2.map (xw a b)):=by
      cases d with
      |zero=>omega
      |succ d=>exact Sub.uh S c d t' (by omega) hi hj
     rw[if_pos hP,if_pos S9,ih,hk];cases g'.uh (Hf g'.n g'.m c) t'<;>rfl
    ·rw[if_neg S9];by_cases hP:P
     ·rw[if_pos hP,LB _ _ (j_ _) (hn S9 hP)];rfl
     ·rw[if_neg hP];rfl
   have sn:=S.n;have sm:=S.m;have e1:xw a b (s.1+1,s.2.1+1,112)=((xw a b s).1+1,(xw a b s).2.1+1,112):=by
    show((s.1+1+a,s.2.1+1+b,112):aY)=(s.1+a+1,s.2.1+b+1,112);rw[qcx s.1 1 a,qcx s.2.1 1 b]
   have e2:xw a b (s.1+1,s.2.1,97)=((xw a b s).1+1,(xw a b s).2.1,97):=by
    show((s.1+1+a,s.2.1+b,97):aY)=(s.1+a+1,s.2.1+b,97);rw[qcx s.1 1 a]
   have e3:xw a b (s.1,s.2.1+1,98)=((xw a b s).1,(xw a b s).2.1+1,98):=by
    show((s.1+a,s.2.1+1+b,98):aY)=(s.1+a,s.2.1+b+1,98);rw[qcx s.2.1 1 b]
   have p1:=part (s.1+a<g.n/\s.2.1+b<g.m) (s.1<g'.n/\s.2.1<g'.m) (s.1+1,s.2.1+1,112) (g.pc (s.1+a) (s.2.1+b)) (g'.pc s.1 s.2.1) (λz=>⟨by omega,(S.pc s.1 s.2.1 z.1 z.2).symm,by show g'.n-(s.1+1)+(g'.m-(s.2.1+1))<g'.n-s.1+(g'.m-s.2.1);omega,z.1,z.2⟩) (λz q=>by show g'.n+a<s.1+1+a\/g'.m+b<s.2.1+1+b;omega);have p2:=part (s.1+a<g.n) (s.1<g'.n) (s.1+1,s.2.1,97) (g.ac 97 s.2.2) (g'.ac 97 s.2.2) (λz=>⟨by omega,ac 97 s.2.2,by show g'.n-(s.1+1)+(g'.m-s.2.1)<g'.n-s.1+(g'.m-s.2.1);omega,z,h2⟩) (λz q=>by show g'.n+a<s.1+1+a\/g'.m+b<s.2.1+b;omega);have p3:=part (s.2.1+b<g.m) (s.2.1<g'.m) (s.1,s.2.1+1,98) (g.ac 98 s.2.2) (g'.ac 98 s.2.2) (λz=>⟨by omega,ac 98 s.2.2,by show g'.n-s.1+(g'.m-(s.2.1+1))<g'.n-s.1+(g'.m-s.2.1);omega,h1,z⟩) (λz q=>by show g'.n+a<s.1+a\/g'.m+b<s.2.1+1+b;omega);rw[e1]at p1;rw[e2]at p2;rw[e3]at p3;rw[←p1,←p2,←p3];rfl
 termination_by d=>d
theorem Bs{α β:Type}{f:α->Int}{F:α->Option β}{h:β->Int}{R:Int}:∀{l:List α} {t:α} {w:β},fmin f l=some t->F t=some w->h w+R=f t->(∀u∈l,∀v,F u=some v->f u<=h v+R)->fmin h (l.filterMap F)=some w
 |[],_,_,ht,_,_,_=>by cases ht
 |x::xs,t,w,ht,hw,heq,hle=>by
  unfold fmin at ht;have hle':=λu hu=>hle u (s_ _ hu)
  cases hx:fmin f xs with
  |none =>
   rw[hx]at ht;cases ht;have e:xs=[]:=by
    cases xs with
    |nil=>rfl
    |cons y ys=>obtain⟨z,hz⟩:=vz (f:=f) (l:=y::ys) (by simp);rw[hz]at hx;cases hx
   subst e;rw[qas,hw];rfl
  |some y =>
   rw[hx]at ht;simp only at ht;split at ht
   ·next lt =>
    cases ht;have ih:=Bs hx hw heq hle';rw[qas]
    cases hF:F x with
    |none=>exact ih
    |some v =>
     have z:=hle x z_ v hF;simp only;unfold fmin;rw[ih];simp only;rw[if_pos (by omega)]
   ·next UY =>
    cases ht;rw[qas,hw];simp only;unfold fmin
    cases hq:fmin h (xs.filterMap F)with
    |none=>rfl
    |some v =>
     obtain⟨u,hu,hv⟩:=qbR.mp (lH hq);have z1:=hle u (s_ _ hu) v hv;have z2:=tM hx hu;simp only;rw[if_neg (by omega)]
theorem Hw{g:Gd}{e:aY}:∀(d:Nat) (s:aY) (w:Int×List aY),g.ht s<=d->g.uh (MD e) s=some w->g.rest s<=w.1+g.rest e
 |d,s,w,hd,h=>by
  by_cases z:s=e
  ·have hE:MD e s=true:=decide_eq_true z;rw[Gd.tT hE]at h;cases h;rw[z];simp
  ·have hE:MD e s=false:=decide_eq_false z;rw[Gd.tS hE]at h;obtain⟨t,ht,hv⟩:=qbR.mp (lH h);obtain⟨w',SV,rfl⟩:=qac.mp hv;have h1:=Gd.vo ht;have h2:=Gd.eY ht
   cases d with
   |zero=>omega
   |succ d =>
    have h3:=Hw d t.1 w' (by omega) SV;show g.rest s<=t.2+w'.1+g.rest e;omega
 termination_by d=>d
theorem Gd.N8{g:Gd}(ok:g.Ok){s:aY}(hs:g.In s)(h:g.stop s=false):∃t,fmin g.key (g.steps s)=some t/\t∈g.steps s/\g.key t=g.rest s/\g.moves s=t.1.2.2::g.moves t.1/\jI s (g.moves s)=t.1::jI t.1 (g.moves t.1):=by
 obtain⟨t,ht,SX,en,ek,_⟩:=g.go ok hs h;have em:g.moves s=t.1.2.2::g.moves t.1:=by rw[Gd.uI ok hs h,en]
 refine⟨t,ht,SX,ek,em,?_⟩;rw[em];show gk s t.1.2.2::jI (gk s t.1.2.2) (g.moves t.1)=_;rw[←Gd.xo SX]
theorem Gd.Gi{g:Gd}{s:aY}(h:g.stop s=true):jI s (g.moves s)=[]:=by rw[Gd.oh h];rfl
theorem KY{g:Gd}(ok:g.Ok){e:aY}:∀(d:Nat) (s:aY),g.In s->g.ht s<=d->e∈s::jI s (g.moves s)->nN λr pre Qx=>g.uh (MD e) s=some (r,pre)/\g.rest s=r+g.rest e/\jI s (g.moves s)=pre++Qx/\(s::pre).getLast?=some e
 |d,s,hs,hd,he=>by
  by_cases z:s=e
  ·have hE:MD e s=true:=decide_eq_true z;exact⟨0,[],jI s (g.moves s),Gd.tT hE,by rw[z];simp,Y,by rw[z];rfl⟩
  ·have hE:MD e s=false:=decide_eq_false z;have he':e∈jI s (g.moves s):=by
    rcases B_.mp he with q|q
    ·exact absurd q.symm z
    ·exact q
   have hst:g.stop s=false:=by
    cases q:g.stop s with
    |false=>rfl
    |true=>rw[Gd.Gi q]at he';exact nomatch he'
   obtain⟨t,ht,SX,ek,em,er⟩:=Gd.N8 ok hs hst;rw[er]at he';have h1:=Gd.eY SX
   cases d with
   |zero=>omega
   |succ d =>
    obtain⟨r,pre,Qx,hb,hr,hp,hl⟩:=KY ok d t.1 (Gd.lO SX hs) (by omega) he';have ek':t.2+g.rest t.1=g.rest s:=ek;refine⟨t.2+r,t.1::pre,Qx,?_,by omega,by rw[er,hp];rfl,?_⟩
    ·rw[Gd.tS hE];refine Bs (f:=g.key) (R:=g.rest e) ht (by rw[hb];rfl) (by show t.2+r+g.rest e=t.2+g.rest t.1;omega) λu hu v hv=>?_;obtain⟨w',SV,rfl⟩:=qac.mp hv;have z1:=Hw _ u.1 w' (j_ _) SV;show u.2+g.rest u.1<=u.2+w'.1+g.rest e;omega
    ·rw[List.getLast?_cons_cons];exact hl
 termination_by d=>d
theorem AX(s:aY)(v:Nat):s.1<=(gk s v).1/\(gk s v).1<=s.1+1/\s.2.1<=(gk s v).2.1:=by
 unfold gk;simp only;split<;>split<;>omega
theorem D8:∀{mv:List Nat} {s t:aY},t∈jI s mv->s.1<=t.1/\s.2.1<=t.2.1
 |[],s,t,h=>nomatch h
 |v::vs,s,t,h=>by
  have z:=AX s v;rcases B_.mp h with rfl|h
  ·omega
  ·have:=D8 h;omega
theorem KU{u:Nat}{e:aY}:∀{mv:List Nat} {s:aY} {pre Qx:List aY},jI s mv=pre++Qx->(s::pre).getLast?=some e->s.1<=u->u<=e.1->∃t,(s::pre).find? (λt=>t.1==u)=some t
 |mv,s,[],Qx,h,hl,h1,h2=>by
  have es:s=e:=by simpa using hl
  have eu:s.1=u:=by rw[es]at h1;rw[es];omega
  exact⟨s,by rw[qad,eu,beq_self_eq_true]⟩
 |[],s,x::pre,Qx,h,_,_,_=>by simp[jI]at h
 |v::vs,s,x::pre,Qx,h,hl,h1,h2=>by
  have h':gk s v::jI (gk s v) vs=x::(pre++Qx):=h;obtain⟨e0,h3⟩:=qb3 h';subst e0;by_cases eu:s.1=u
  ·exact⟨s,by rw[qad,eu,beq_self_eq_true]⟩
  ·have z:=AX s v;obtain⟨t,ht⟩:=KU h3 (by rw[List.getLast?_cons_cons]at hl;exact hl) (by omega) h2;exact⟨t,by rw[qad,beq_false_of_ne eu];exact ht⟩
noncomputable def Gd.zM(g:Gd)(s:aY):List aY:=s::downs s (g.moves s)
theorem Gd.xT{g:Gd}(ok:g.Ok):∀(d:Nat) (s:aY) (k:Nat) (t:aY),g.In s->g.ht s<=d->(g.zM s)[k]? =some t->g.In t/\∀j,(g.zM t)[j]? =(g.zM s)[k+j]?
 |d,s,0,t,hs,hd,h=>by
  cases h;exact⟨hs,λj=>by rw[Nat.zero_add]⟩
 |d,s,k+1,t,hs,hd,h=>by
  have h':(downs s (g.moves s))[k]? =some t:=h;have hst:g.stop s=false:=by
   cases q:g.stop s with
   |false=>rfl
   |true=>unfold downs at h';rw[Gd.Gi q]at h';simp at h'
  obtain⟨u,_,hum,_,em,er⟩:=Gd.N8 ok hs hst;have h1:=Gd.eY hum;have hu:=Gd.lO hum hs
  have ed:downs s (g.moves s)=if u.1.2.2=98 then downs u.1 (g.moves u.1)else g.zM u.1:=by
   unfold downs Gd.zM;rw[er];by_cases q:u.1.2.2=98
   ·rw[if_pos q,qaA (by rw[q];decide)]
   ·rw[if_neg q,qaz (by rw[bne_iff_ne];exact q)];rfl
  cases d with
  |zero=>omega
  |succ d =>
   rw[ed]at h';by_cases q:u.1.2.2=98
   ·rw[if_pos q]at h' ed;obtain⟨i1,i2⟩:=Gd.xT ok d u.1 (k+1) t hu (by omega) h';refine⟨i1,λj=>?_⟩;rw[i2 j,show k+1+j=k+j+1 by omega];show(downs u.1 (g.moves u.1))[k+j]? =(downs s (g.moves s))[k+j]?;rw[ed]
   ·rw[if_neg q]at h' ed;obtain⟨i1,i2⟩:=Gd.xT ok d u.1 k t hu (by omega) h';refine⟨i1,λj=>?_⟩;rw[i2 j,show k+1+j=k+j+1 by omega];show(g.zM u.1)[k+j]? =(downs s (g.moves s))[k+j]?;rw[ed]
 termination_by d=>d
theorem NH{g g':Gd}(ok:g.Ok){s e t:aY}{k q:Nat}(hs:g.In s)(he:(g.zM s)[q]? =some e)(ht:(g.zM s)[k]? =some t)(hk:k<=q)(S:Sub g g' s.1 s.2.1)(hn:g'.n+s.1=e.1)(hm:g'.m+s.2.1=e.2.1):
  ∃r,g'.sv (Hf g'.n g'.m e.2.2) k (0,0,s.2.2)=some (r,some (t.2.1-s.2.1,t.2.2))/\s.2.1<=t.2.1:=by
 have inr:∀{x:aY} {i:Nat},(g.zM s)[i]? =some x->x∈s::jI s (g.moves s)/\x.1=s.1+i:=λ{x i} hx=>by
  have z:=qp (g.moves s) s i;rw[show(s::downs s (g.moves s))[i]? =some x from hx]at z;exact⟨List.mem_of_find?_eq_some z,by simpa using List.find?_some z⟩
 obtain⟨r,pre,Qx,hb,_,hp,hl⟩:=KY ok _ s hs (j_ _) (inr he).1;have hc:s.2.1<=t.2.1:=by
  rcases B_.mp (inr ht).1 with z|z
  ·rw[z];exact j_ _
  ·exact(D8 z).2
 obtain⟨x,hx⟩:=KU (u:=s.1+k) hp hl (by omega) (by rw[(inr he).2];omega);have YB:x=t:=by
  have z:=qp (g.moves s) s k;rw[show(s::downs s (g.moves s))[k]? =some t from ht,hp,←qcc,List.find?_append,hx]at z;exact L_ z
 subst YB;have hbs:=S.uh e.2.2 _ (0,0,s.2.2) (j_ _) (Q_ _) (Q_ _);have e0:xw s.1 s.2.1 (0,0,s.2.2)=s:=by unfold xw;simp
 rw[e0,show((g'.n+s.1,g'.m+s.2.1,e.2.2):aY)=e by rw[hn,hm],hb]at hbs;obtain⟨w',SV,hw⟩:=qac.mp hbs.symm;have hw1:w'.2.map (xw s.1 s.2.1)=pre:=(Prod.mk.inj hw).2;refine⟨w'.1,?_,hc⟩;unfold Gd.sv;rw[SV];show some (w'.1,qD k (0,0,s.2.2) w'.2)=_;unfold qD;rw[if_neg (Nat.not_lt_zero _)];have fm:((0,0,s.2.2)::w'.2:List aY).map (xw s.1 s.2.1)=s::pre:=by rw[Y_,hw1,e0]
 rw[←fm,List.find?_map]at hx;obtain⟨y,hy,hxy⟩:=qac.mp hx;have hp2:((λ(t:aY)=>t.1==s.1+k) ∘ xw s.1 s.2.1)=λt=>t.1==k:=by
  funext t;show(t.1+s.1==s.1+k)=(t.1==k);by_cases z:t.1=k
  ·rw[z,beq_self_eq_true,qcC,beq_self_eq_true]
  ·rw[beq_false_of_ne z,beq_false_of_ne (by omega)]
 rw[hp2]at hy;rw[hy];show some (w'.1,some (y.2.1,y.2.2))=_;rw[←hxy];unfold xw;simp
end
section
theorem UG{x y:v_}(h:x.cps.toList=y.cps.toList):x=y:=IG (Array.toList_inj.mp h)
theorem yo(x:v_){a b:Nat}(hab:a<=b):(Txt.slice x (some (a:Int)) (some (b:Int))).cps.toList=(x.cps.toList.drop a).take (b-a):=by
 have hl:x.cps.toList.length=x.cps.size:=N_;have e:=AA (x:=x) (lo:=some (a:Int)) (hi:=some (b:Int)) (a:=min a x.cps.size) (b:=min b x.cps.size) (by
  have hl:x.length=x.cps.size:=rfl;simp only[PySem.Builtin.Str.strSliceIndices,hl];simp;rw[if_neg (by omega),if_neg (by omega),if_neg (by omega),if_neg (by omega)];congr 2<;>omega) (by omega) (by omega)
 rw[e];by_cases h1:b<=x.cps.size
 ·rw[qcp h1,qcp (by omega)]
 ·rw[Nat.min_eq_right (by omega)];by_cases h2:a<=x.cps.size
  ·rw[qcp h2,X_ (by rw[qba,hl];omega),X_ (by rw[qba,hl];omega)]
  ·rw[Nat.min_eq_right (by omega),qbW (by omega),qbW (by omega)];simp
noncomputable def OI(j0:Nat):List aY->Nat->List Nat
 |[],mE=>qae (mE-j0) 98
 |t::ds,mE=>(qae (t.2.1-j0-if t.2.2=112 then 1 else 0) 98++[t.2.2])++OI t.2.1 ds mE
theorem Gj:∀{mv:List Nat} {s t:aY},t∈jI s mv->(s.2.1+if t.2.2=112 then 1 else 0)<=t.2.1
 |[],s,t,h=>nomatch h
 |v::vs,s,t,h=>by
  rcases B_.mp h with rfl|h
  ·show(s.2.1+if v=112 then 1 else 0)<=if v=97 then s.2.1 else s.2.1+1
   split
   ·next z=>rw[if_neg (by omega)];exact j_ _
   ·split<;>omega
  ·have z:=Gj h;have z2:=(AX s v).2.2;omega
theorem Gd.Fx{g:Gd}:∀{mv:List Nat} {s e:aY} {c:Int},g.walk s mv=some (c,e)->s.2.1<=e.2.1
 |[],s,e,c,h=>by cases h;exact j_ _
 |v::vs,s,e,c,h=>by
  obtain⟨t,c',ht,_,hw,_⟩:=Gd.pA h;have z1:=Gd.FZ ht;have z2:=Gd.Fx hw;omega
theorem Gd.SH{g:Gd}:∀{mv:List Nat} {s e:aY} {c:Int},g.walk s mv=some (c,e)->mv=OI s.2.1 (downs s mv) e.2.1
 |[],s,e,c,h=>by
  cases h;show []=qae (s.2.1-s.2.1) 98;rw[qcf];rfl
 |v::vs,s,e,c,h=>by
  obtain⟨t,c',ht,hv,hw,_⟩:=Gd.pA h;have ih:=Gd.SH hw;have em:=Gd.xo ht;rw[hv]at em;rw[em]at ih hw;have adB:=Gd.Fx hw
  have ed:downs s (v::vs)=if v=98 then downs (gk s v) vs else gk s v::downs (gk s v) vs:=by
   unfold downs;rw[show jI s (v::vs)=gk s v::jI (gk s v) vs from rfl];by_cases q:v=98
   ·rw[if_pos q,qaA (by show ¬(v != 98)=true;rw[q];decide)]
   ·rw[if_neg q,qaz (by show(v != 98)=true;rw[bne_iff_ne];exact q)]
  rw[ed];by_cases q:v=98
  ·rw[if_pos q];have ej:(gk s v).2.1=s.2.1+1:=by rw[q];rfl
   rw[ej]at ih adB
   cases hd:downs (gk s v) vs with
   |nil =>
    rw[hd]at ih;rw[ih,q];show 98::qae (e.2.1-(s.2.1+1)) 98=qae (e.2.1-s.2.1) 98;rw[show e.2.1-s.2.1=e.2.1-(s.2.1+1)+1 by omega];rfl
   |cons x ds =>
    have hx:x∈jI (gk s v) vs:=(Z_.mp (show x∈downs (gk s v) vs by rw[hd];exact z_)).1;have z:=Gj hx;rw[ej]at z;rw[hd]at ih;rw[ih,q]
    show 98::((qae (x.2.1-(s.2.1+1)-if x.2.2=112 then 1 else 0) 98++[x.2.2])++_)=(qae (x.2.1-s.2.1-if x.2.2=112 then 1 else 0) 98++[x.2.2])++_
    rw[show x.2.1-s.2.1-(if x.2.2=112 then 1 else 0)=x.2.1-(s.2.1+1)-(if x.2.2=112 then 1 else 0)+1 by omega]
    rfl
  ·rw[if_neg q]
   show v::vs=(qae ((gk s v).2.1-s.2.1-if v=112 then 1 else 0) 98++[v])++OI (gk s v).2.1 (downs (gk s v) vs) e.2.1
   rw[←ih];have hc:v=112\/v=97:=by
    rcases Gd.dI.mp ht with⟨_,_,z⟩|⟨_,z⟩|⟨_,z⟩
    ·left;rw[←hv,z]
    ·right;rw[←hv,z]
    ·exact absurd (by rw[←hv,z]) q
   have e0:(gk s v).2.1-s.2.1-(if v=112 then 1 else 0)=0:=by
    rcases hc with z|z
    ·rw[z];show s.2.1+1-s.2.1-1=0;omega
    ·rw[z];show s.2.1-s.2.1-0=0;omega
   rw[e0];rfl
noncomputable def yp(a b:aY):List Nat:=qae (b.2.1-a.2.1-if b.2.2=112 then 1 else 0) 98++[b.2.2]
theorem Dp:∀(ds:List aY) (s:aY) (mE:Nat),OI s.2.1 ds mE=((S_ ds.length).map λu=>yp ((s::ds).getD u kX) ((s::ds).getD (u+1) kX)).flatten++qae (mE-((s::ds).getD ds.length kX).2.1) 98
 |[],s,mE=>rfl
 |t::ds,s,mE=>by
  show yp s t++OI t.2.1 ds mE=_;rw[Dp ds t mE,qaa,List.range_succ_eq_map,Y_,qb7,qaL,qa6];rfl
theorem Hr{T:PT}{m f s:v_}{mv:List Nat}{c:Int}{e:aY}(h:(b7 T m f s).walk kX mv=some (c,e)):∀k,k<=mv.length->dP λck ek=>(b7 T m f s).walk kX (mv.take k)=some (ck,ek)/\(b7 T m f s).In ek/\Cd (0,0) mv k=((ek.1:Int),(ek.2.1:Int))/\cst (L4 T.1 T.2.1 (uT T)) (cL (uT T) T.2.2.1) (cL (uT T) T.2.2.2) f s (0,0) mv k=ck/\(∀v,v=97\/v=98->(v=ek.2.2↔k≠0/\mv[k-1]? =some v))
 | 0,_=>⟨0,kX,rfl,GX T m f s,rfl,rfl,λv hv=>⟨λz=>by rcases hv with q|q<;>rw[q]at z<;>exact absurd z (by decide),λz=>absurd Y z.1⟩⟩
 |k+1,hk=>by
  obtain⟨ck,ek,h1,h2,h3,h4,h5⟩:=Hr h k (by omega);have hlt:k<mv.length:=by omega
  obtain⟨v,hv⟩:∃v,mv[k]? =some v:=⟨_,g_ hlt⟩;have et:=take_snoc hv;have hp:dP λc' e'=>(b7 T m f s).walk kX (mv.take (k+1))=some (c',e'):=by
   have z:=h;rw[←qa0 (k+1) mv,Gd.uv]at z;obtain⟨⟨c',e'⟩,z1,_⟩:=qcy.mp z;exact⟨c',e',z1⟩
  obtain⟨c',e',hw⟩:=hp;have SV:=hw;rw[et]at SV;obtain⟨r,c2,t,w1,w2,w3,w4,w5⟩:=Gd.LN SV;rw[h1]at w1;cases w1;subst w3;refine⟨c',t.1,hw,Gd.lO w2 h2,?_,?_,λx hx=>?_⟩
  ·rw[AK hv,h3];have em:=Gd.xo w2;rw[w4]at em;rw[em];unfold stp gk;simp only;congr 1<;>split<;>simp
  ·show cst _ _ _ f s (0,0) mv k+SM _ _ _ f s (0,0) mv k=c';rw[h4,w5];congr 1;unfold SM;rw[hv,h3];simp only[qaw];rcases Gd.dI.mp w2 with⟨_,_,z⟩|⟨_,z⟩|⟨_,z⟩
   ·have ev:v=112:=by rw[←w4,z]
    rw[if_pos ev,z];rfl
   ·have ev:v=97:=by rw[←w4,z]
    rw[if_neg (by omega),z];show _=(b7 T m f s).ac 97 ek.2.2;unfold Gd.ac;have q:=h5 97 (.inl rfl);rw[ev];by_cases y:97=ek.2.2
    ·rw[if_pos y,if_pos (q.mp y)];rfl
    ·rw[if_neg y,if_neg (λw=>y (q.mpr w))];rfl
   ·have ev:v=98:=by rw[←w4,z]
    rw[if_neg (by omega),z];show _=(b7 T m f s).ac 98 ek.2.2;unfold Gd.ac;have q:=h5 98 (.inr rfl);rw[ev];by_cases y:98=ek.2.2
    ·rw[if_pos y,if_pos (q.mp y)];rfl
    ·rw[if_neg y,if_neg (λw=>y (q.mpr w))];rfl
  ·rw[w4,show k+1-1=k by omega,hv];exact⟨λz=>⟨Nat.succ_ne_zero _,by rw[z]⟩,λz=>(L_ z.2).symm⟩
end
end GP
namespace L2
open PySem PySem.Spec PyProof.Rows
theorem yh:∀{ys:List v_} {us:List k_},Vals (ys.map V.str) us->StrsAre us ys
 |[],_,.nil=>.nil
 |y::ys,_,.cons r rs=>by
  obtain⟨t,e⟩:=r;rw[e];exact .cons y t (yh rs)
theorem OJ{X:Cx}{K':PySem.W.Frag}(hK:X.K=K'):Zw X "str.join" (λx xs H Q=>nN λ(y:v_) (a:U) (ys:List v_)=>x= .str y/\xs=[.ref a]/\(bW K' H a (ys.map V.str)\/bZ K' H a (ys.map V.str))/\y.length<=1/\(∀z∈ys,z.length<=2000)/\ys.length<=2000/\Q (.str (qcE y ys)) H):=by
 subst hK;intro pins s σ H x xs v us Q I rx rs h;obtain⟨y,a,ys,rfl,rfl,hl,hy,hz,hn,q⟩:=h;obtain⟨t,rfl⟩:=rx;have hj:Txt.join y ys=qcE y ys:=StrLaws.glued_eq_join y ys;have hok:(ys.map (·.length)).sum+ys.length*y.length<=16777216:=by
  have h1:=StrLaws.sumLen_le ys hz;have h2:ys.length*2000<=2000*2000:=qca _ hn;have h3:ys.length*y.length<=2000*1:=qbx hn hy;omega
 cases rs with
 |cons r rr =>
  cases rr;cases r;rcases hl with hl|hl
  ·obtain⟨its,r1,t1,_⟩:=I.list hl;exact TK.bX (j_ s.toks) (join_list (items:=its.toArray) t1.isList (yh r1) hok λt' k hk=>⟨.str (qcE y ys),H,I.tok k hk,⟨t',by rw[hj]⟩,q⟩)
  ·obtain⟨its,r1,t1,_⟩:=I.tuple hl;exact TK.bX (j_ s.toks) (join_tuple (items:=its.toArray) t1 (yh r1) hok λt' k hk=>⟨.str (qcE y ys),H,I.tok k hk,⟨t',by rw[hj]⟩,q⟩)
end L2
namespace GP
open PySem L2 rF
theorem Dy:∀(rest:List v_) (acc:Array Nat),(rest.foldl (λacc (p:v_)=>acc++(⟨#[]⟩:v_).cps++p.cps) acc).toList=acc.toList++(rest.map λy=>y.cps.toList).flatten
 |[],acc=>by simp
 |y::rest,acc=>by
  rw[qbA,Dy rest];simp
theorem MB(ys:List v_):(qcE ⟨#[]⟩ ys).cps.toList=(ys.map λy=>y.cps.toList).flatten:=by
 cases ys with
 |nil=>rfl
 |cons y ys =>
  rw[←StrLaws.glued_cons,Y_,qb7];exact Dy ys y.cps
theorem G1{l:List Nat}{a n i:Nat}(h:i<n):((l.drop a).take n).getD i 0=l.getD (i+a) 0:=by
 rw[u_,u_,List.getElem?_take,if_pos h,List.getElem?_drop,qcC]
theorem UE{T:PT}{m m' f s f' s':v_}{a b c d:Nat}(hf:f'.cps.toList=(f.cps.toList.drop a).take (b-a))(hs:s'.cps.toList=(s.cps.toList.drop c).take (d-c))(hb:b<=f.cps.size)(hd:d<=s.cps.size)(hab:a<=b)(hcd:c<=d):Sub (b7 T m f s) (b7 T m' f' s') a c/\f'.cps.size=b-a/\s'.cps.size=d-c:=by
 have nf:f'.cps.size=b-a:=by rw[←N_,hf,qaC,qba,N_];omega
 have ns:s'.cps.size=d-c:=by rw[←N_,hs,qaC,qba,N_];omega
 refine⟨⟨by show f'.cps.size+a<=f.cps.size;omega,by show s'.cps.size+c<=s.cps.size;omega,λi j hi hj=>?_,Y,Y⟩,nf,ns⟩;have hi':i<b-a:=by rw[←nf];exact hi
 have hj':j<d-c:=by rw[←ns];exact hj
 show L4 T.1 T.2.1 (uT T) (f'.cps.toList.getD i 0) (s'.cps.toList.getD j 0)=L4 T.1 T.2.1 (uT T) (f.cps.toList.getD (i+a) 0) (s.cps.toList.getD (j+c) 0);rw[hf,hs,G1 hi',G1 hj']
theorem Py{g:Gd}{s t:aY}{k:Nat}(h:(g.zM s)[k]? =some t):s.2.1<=t.2.1:=by
 rcases B_.mp (A_ h)with z|z
 ·rw[z];exact j_ _
 ·exact(D8 (Z_.mp z).1).2
noncomputable def Us(t:aY):HO:=.tup [.int (t.2.1:Int),.str ⟨#[t.2.2]⟩]
noncomputable def R8(H:Hp):Option aY->Option V->Prop
 |none,v=>v=none
 |some t,v=>∃p,v=some (.ref p)/\H p=some (Us t)
theorem R8.tps{H H':Hp}{o:Option aY}{v:Option V}(h:R8 H o v)(e:Qg H H'):R8 H' o v:=by
 cases o with
 |none=>exact h
 |some t=>obtain⟨p,a,b⟩:=h;exact⟨p,a,e _ _ b⟩
def HB(H:Hp)(d:U)(S:Nat->Option aY):Prop:=∃kvs:List (Key×V),H d=some (.dK kvs)/\kvs.length<=1000/\∀u:Nat,R8 H (S u) (jK kvs (.inl (u:Int)))
theorem HB.same{H H':Hp}{d:U}{S:Nat->Option aY}(h:HB H d S)(e:ak H H'):HB H' d S:=by
 obtain⟨kvs,a,b,c⟩:=h;exact⟨kvs,e _ _ a,b,λu=>(c u).tps (pO e)⟩
theorem HB.get{H:Hp}{d:U}{S:Nat->Option aY}{u:Nat}{t:aY}(h:HB H d S)(hu:S u=some t):∃p,rW H d (.int (u:Int)) (some (.ref p))/\H p=some (Us t):=by
 obtain⟨kvs,a,_,c⟩:=h;have z:=c u;rw[hu]at z;obtain⟨p,e,hp⟩:=z;have g:=rW.k (k:=.inl (u:Int)) a;rw[e]at g;exact⟨p,g,hp⟩
def KA(K:PySem.W.Frag)(C:U):Sp:=λvs H Q _=>Zp λ(pr d:U) (T:PT) (f s:v_) (lo hi u:Nat) (S:Nat->Option aY) (tl th tu:aY)=>vs=[.ref pr,.str f,.str s,.ref d,.int (lo:Int),.int (hi:Int),.int (u:Int)]/\Aj K C H pr T/\Of T.1 f/\Of T.1 s/\f.cps.size<=12/\s.cps.size<=12/\HB H d S/\lo<=u/\u<=hi/\hi<=f.cps.size/\(iu T f s)[lo]? =some tl/\(iu T f s)[hi]? =some th/\(iu T f s)[u]? =some tu/\S lo=some tl/\S hi=some th/\∀r H',ak H H'->H' r=some (Us tu)->Q (.ref r) H'
def KQ(K:PySem.W.Frag)(C:U):Sp:=λvs H Q _=>wY λ(pr:U) (T:PT) (f s:v_)=>vs=[.ref pr,.str f,.str s]/\Aj K C H pr T/\Of T.1 f/\Of T.1 s/\f.cps.size<=12/\s.cps.size<=12/\∀d H',ak H H'->H d=none->HB H' d (λu=>(iu T f s)[u]?)->Q (.ref d) H'
def NU:Sp:=λvs H Q _=>wY λ(p1 p2:U) (t1 t2:aY)=>vs=[.ref p1,.ref p2]/\H p1=some (Us t1)/\H p2=some (Us t2)/\t1.2.1<=1000/\t2.2.1<=1000/\Q (.str ⟨(yp t1 t2).toArray⟩) H
theorem IV(n:Int):(rJ (h_ "b") n).cps.toList=qae n.toNat 98:=by
 unfold rJ;rw[sB];show((qae n.toNat #[98]).foldl (·++·) #[]).toList=_;rw[wC];simp[List.flatten_replicate_singleton]
theorem P0{c:Nat}(h:c=112\/c=97\/c=98):c∈yK:=by
 unfold yK;rcases h with q|q|q<;>rw[q]<;>simp
noncomputable def Gr(sp:List (Nat×Nat)):Nat:=(sp.map λq=>2*(q.2-q.1)-1+if q.1=q.2 then 1 else 0).sum
theorem uF(sp:List (Nat×Nat))(q:Nat×Nat):Gr (sp++[q])=Gr sp+(2*(q.2-q.1)-1+if q.1=q.2 then 1 else 0):=by
 unfold Gr;rw[M_,List.sum_append];simp
theorem KZ:∀sp:List (Nat×Nat),(∀q∈sp,q.1<=q.2)->sp.length<=Gr sp
 |[],_=>j_ _
 |q::sp,h=>by
  have ih:=KZ sp λx hx=>h x (s_ _ hx);have hq:=h q z_
  show sp.length+1<=(2*(q.2-q.1)-1+if q.1=q.2 then 1 else 0)+Gr sp
  split<;>omega
theorem yW{α β:Type}{F:α->β->Prop}:∀{l:List α} {x:α} {l':List β},Paired F (l++[x]) l'->dP λm y=>l'=m++[y]/\Paired F l m/\F x y
 |[],x,_,.cons h .nil=>⟨[],_,rfl,.nil,h⟩
 |a::l,x,_,.cons h r=>by
  obtain⟨m,y,e,h1,h2⟩:=yW r;exact⟨_::m,y,by rw[e];rfl,.cons h h1,h2⟩
end GP
namespace L2
open PySem PySem.Spec PyProof.Rows
section
variable{P:r_}{w:I_}{K:PySem.W.Frag}{mg:v_->Option k_}{base:W_}{x qual:v_}{st:qam}{f:U}{fd:F_}{N ps:List v_}{k:Nat}{sp:Sp}
theorem Nm.jg(F:Nm K x qual st f fd)(S:aE N ps (au st))(len:∀vs H Q E,sp vs H Q E->vs.length=ps.length)
  (hbody:∀(cdv:k_) (A:qab) (outer:List Env) (s:n_) (H:Hp) (vs:List V) (Q:VK) (E:XK),nP k (A.deeper (envOfC qual (au st) s.heap.objs.size f cdv))->sp vs H Q E →
   let X:=(Hl bL P w K mg base N qual (au st) f cdv A outer s H E).UW;∃t,Fv X (fH st) t/\t { nx:=λ_ H'=>Q .jG H',rt:=Q } (start N vs) H):aH P w K mg base bL (k+1) f fd ps sp:=F.ok S len hbody
end
end L2
namespace GP
open PySem L2 rF
theorem Kr{T:PT}{m f s:v_}:∀{mv:List Nat} {x e:aY} {c:Int},(b7 T m f s).walk x mv=some (c,e)->∀v∈mv,v=112\/v=97\/v=98
 |[],x,e,c,h,v,hv=>nomatch hv
 |y::vs,x,e,c,h,v,hv=>by
  obtain⟨t,c',ht,ey,hw,_⟩:=Gd.pA h;rcases B_.mp hv with z|z
  ·rw[z,←ey];rcases Gd.dI.mp ht with⟨_,_,q⟩|⟨_,q⟩|⟨_,q⟩
   ·exact .inl (by rw[q])
   ·exact .inr (.inl (by rw[q]))
   ·exact .inr (.inr (by rw[q]))
  ·exact Kr hw v z
theorem LH{T:PT}{f s:v_}(hf:f.cps.size<=12)(hs:s.cps.size<=12):Way f s (0,0) ⟨((b7 T sW f s).moves kX).toArray⟩/\MP T.1 T.2.1 T.2.2.1 T.2.2.2 f s (0,0) ⟨((b7 T sW f s).moves kX).toArray⟩ ((b7 T sW f s).moves kX).length=(b7 T sW f s).iP (0,0):=by
 obtain⟨e,hw,he,hen⟩:=Gd.qC (qP T sW f s) _ kX (GX T sW f s) (j_ _);have hc:=Hr hw;have hl:=Gd.vv (g:=b7 T sW f s) kX;have hh:(b7 T sW f s).ht kX<=1000:=by
  show f.cps.size-0+(s.cps.size-0)<=1000;omega
 refine⟨⟨by omega,by omega,by show((b7 T sW f s).moves kX).toArray.size<=2000;rw[K_];omega,λc h=>Kr hw c h,λk hk=>?_⟩,?_⟩
 ·obtain⟨ck,ek,h1,h2,h3,_⟩:=hc k (by rw[←K_];exact hk);show InR f s (Cd (0,0) ((b7 T sW f s).moves kX) k);rw[h3];have i1:ek.1<=f.cps.size:=h2.1;have i2:ek.2.1<=s.cps.size:=h2.2.1;exact⟨qa4 _,qbq.mpr i1,qa4 _,qbq.mpr i2⟩
 ·obtain⟨ck,ek,h1,h2,_,h4,_⟩:=hc _ (j_ _);rw[qbb,hw]at h1;cases h1;exact h4
theorem JU{g:Gd}(n k:Nat):fmin g.iP (iQ sW n k)=some (0,0):=by
 obtain⟨x,hx⟩:=vz (f:=g.iP) (EO sW n k);have hm:=(Z_.mp (lH hx)).2;unfold yE at hm;rw[if_pos rfl,qaP]at hm;have h1:=of_decide_eq_true hm.1;have h2:=of_decide_eq_true hm.2;rw[hx,show x=(0,0) from Prod.ext (by omega) (by omega)]
theorem Nr{T:PT}{f s:v_}:(b7 T sW f s).moves kX=((S_ f.cps.size).map λu=>yp ((iu T f s).getD u kX) ((iu T f s).getD (u+1) kX)).flatten++qae (s.cps.size-((iu T f s).getD f.cps.size kX).2.1) 98:=by
 obtain⟨e,hw,he,hen⟩:=Gd.qC (qP T sW f s) _ kX (GX T sW f s) (j_ _);rw[(DR T f s).en]at hen;have h2:=of_decide_eq_true hen;have h4:e.2.1=s.cps.size:=h2.2;have hl:=Af T f s;have hd:(downs kX ((b7 T sW f s).moves kX)).length=f.cps.size:=by
  unfold iu at hl;rw[qaa]at hl;omega
 have z:=Gd.SH hw;rw[Dp,hd,h4]at z;exact z
theorem wL{T:PT}{f s:v_}{u:Nat}(h:u<=f.cps.size):∃t,(iu T f s)[u]? =some t:=⟨_,g_ (by rw[Af];exact Nat.lt_succ_of_le h)⟩
theorem half_lt{a b hh:Nat}(e:(a+b) / 2=hh)(z:a<hh):hh<b:=by omega
theorem Jx{a b:Nat}(h:¬a=b):¬(Sum.inl (a:Int):Key)=Sum.inl (b:Int):=λz=>h (qcm (Sum.inl.inj z))
theorem JH{T:PT}{f s:v_}{u:Nat}{t:aY}(h:(iu T f s)[u]? =some t):t.2.1<=s.cps.size:=(Gd.xT (qP T sW f s) _ kX u t (GX T sW f s) (j_ _) h).1.2.1
theorem len_pos(y:v_):(0:Int)<(y.length:Int)+1:=Int.lt_add_one_of_le (qa4 _)
end GP
namespace L2
open PySem PySem.Spec PyProof.Rows
section
open PySem.W
section
variable{P:r_}{w:I_}{A:qab}{E:k_->n_->Prop}{s:n_}{d:U}{es:Array qcP}{ep:Nat}
theorem Q6{Q:k_->n_->Prop}(lo:(d==sysModules)=false)(m:CH d es ep s.heap)(hz:(es.size:Int)<2 ^ 63)(h:Q (.int es.size (s.toks+1)) { s with toks:=s.toks+1+1 }):C_ (model P w) A (call (.builtin "len") [.ref d]) Q E s:=by
 refine Calls.call_function_entry kind_len plain_len entry_len (args_len1 _) ?_;unfold Builtin.«len»;refine f_ (m:=oneArg "len" _) (q_ ?_);refine f_ (m:=callSpecial? (.ref d) (h_ "__len__")) (qaS (name:=h_ "__len__") m.ty PySem.F.slot_dict_len (qaU PySem.F.slot_dict_len m.ty PySem.F.entry_dict_len ?_ (PySem.F.args_dict_len_1 _)));obtain⟨o,ho,hc,hdat⟩:=m;show C_ _ _ (dictSize d >>= _) _ _ s;unfold dictSize;refine f_ (f_ (wpAny_dictEntries ho hdat (q_ ?_)));show C_ _ _ (Builtin.Dict.pendingCount d >>= _) _ _ s;refine f_ (wpAny_pendingCount_other lo ?_);refine wpAny_ret_mkInt ?_;show C_ _ _ _ _ _ { s with toks:=s.toks+1 };refine f_ (qaN (q_ ?_));refine f_ (qbh ?_)
 show C_ _ _ (if((es.size+0:Nat):Int)<0 then _ else _) _ _ _
 rw[Nat.add_zero,if_neg (by omega)]
 show C_ _ _ (if((es.size:Nat):Int)>=2 ^ 63 then _ else _) _ _ _
 rw[if_neg (by omega)];exact f_ (wpAny_mkInt (q_ ⟨_,Y,h⟩))
end
theorem Hv{X:Cx}{Pr:r_}{wo:I_}(hP:X.prog=Pr)(hw:X.w=wo):pM X (.builtin "len") (λxs H Q=>dP λa kvs=>xs=[.ref a]/\ND Pr wo H a kvs/\Q (.int (kvs.length:Nat)) H):=by
 subst hP hw;intro pins s σ H xs us Q I r h;obtain⟨a,kvs,rfl,d,q⟩:=h;obtain⟨u,rfl,rx⟩:=vals1 r;cases rx;obtain⟨z,lo,xs,rel,o,es,ep,h1,h2,h3,h4,_⟩:=d.raw I.hok;have hes:es.size=kvs.length:=by rw[Paired.length rel];exact size_of_entries h4
 have hs:D_=16777216:=sizeLine_eq;refine Q6 lo ⟨o,h1,h2,h3⟩ (by omega) ⟨.int _,H,I.tok _,⟨_,by rw[hes]⟩,q⟩
section
variable{prog:r_}{w:I_}{A:qab}{E:k_->n_->Prop}{s:n_}{g:W_}{l I S:U}{vs:List k_}{R:Result->n_->Prop}{bt:Nat->Nat->Bool}
theorem Ml(hh:A.handled=none)(hl:g.IsList l vs.toArray)(hI:g.get? I=none)(hS:g.get? S=none)(hSI:S≠I)
  (turn:∀i j v u h tk (Q:k_->n_->Prop) (E:k_->n_->Prop),vs[i]? =some v->vs[j]? =some u->(∀b o,g.get? b=some o->h.get? b=some o)->Q (.bool (bt i j)) { s with heap:=h,toks:=tk }->C_ (model prog w) A.in1 (richCompare .Lt v u) Q E { s with heap:=h,toks:=tk })
  (hR:∀v h' tk',vs[argBest bt (vs.length-1)]? =some v->(∀b o,g.get? b=some o->h'.get? b=some o)->R (.ok (.ret v)) { s with heap:=h',toks:=tk' }) :
  ∀(r j:Nat) (h:W_) (tk:Nat) (vb:k_) (c:Nat),vs.length-(j+1)=r->j+1<=vs.length->(∀b o,g.get? b=some o->h.get? b=some o)->h.get? S=some (seqObj "list" #[vb,vb] c)->h.IsListIter I l (j+1)->vs[argBest bt j]? =some vb →
   codeAny (model prog w) A (.builtin "min.loop" ⟨[.ref I,.none,.ref S],[]⟩) R { s with heap:=h,toks:=tk }:=by
 have nm:(toString "min" ++toString ".loop" :String)= "min.loop" :=by decide
 obtain⟨ol,Fq,rl⟩:=id hl;have lI:l≠I:=λz=>by rw[z,hI]at Fq;cases Fq
 have W:=qct (prog:=prog) (w:=w) (A:=A.in1) hh I l lI vs.toArray;have sz:vs.toArray.size=vs.length:=by simp
 have nI:∀b o,g.get? b=some o->b∉[I]:=λb o e z=>by rw[x_.mp z,hI]at e;cases e
 have nS:∀b o,g.get? b=some o->b≠S:=λb o e z=>by rw[z,hS]at e;cases e
 intro r
 induction r with
 |zero =>
  intro j h tk vb c hr hj kp gS hit SW;have en:j+1=vs.length:=by omega
  refine qa3 PySem.F.entry_min_loop ?_;rw[qaI PySem.F.plain_min_loop _];show C_ _ A.in1 (seqItems? (.ref S) >>= _) _ _ _;refine f_ (qat gS Y ?_);show C_ _ A.in1 (tryCatch (pyNext (.ref I)) _ >>= _) _ _ _;refine f_ (qa2 (W.done _ _ _ ⟨by rw[sz,←en];exact hit,qN kp hl⟩ λh1 LP hk1=>?_));have Li:=hk1 S _ (by simpa using hSI) gS;show C_ _ A.in1 (updateSeq S (λ_=> #[]) >>= _) _ _ _;refine f_ ?_;refine qb0 Li Y (f_ (qbh (q_ ?_)));refine hR vb _ _ (by rw[←en];exact SW) λb o e=>?_;rw[(qai h1 S _).2 b (nS b o e)];exact hk1 b o (nI b o e) (kp b o e)
 |succ r ih =>
  intro j h tk vb c hr hj kp gS hit SW;have lt:j+1<vs.length:=by omega
  refine qa3 PySem.F.entry_min_loop ?_;rw[qaI PySem.F.plain_min_loop _];show C_ _ A.in1 (seqItems? (.ref S) >>= _) _ _ _;refine f_ (qat gS Y ?_);show C_ _ A.in1 (tryCatch (pyNext (.ref I)) _ >>= _) _ _ _;refine f_ (qa2 (W.item (j+1) _ _ _ (by rw[sz];exact lt) ⟨hit,qN kp hl⟩ λv h1 LP hP hst hk1=>?_));have hv:vs[j+1]? =some v:=by simpa using hP
  have GU:∀b o,g.get? b=some o->h1.get? b=some o:=λb o e=>hk1 b o (nI b o e) (kp b o e);have Li:=hk1 S _ (by simpa using hSI) gS;obtain⟨oI,S4,rI⟩:=id hst.1;show C_ _ A.in1 (tryCatch (holding [v,v] (richCompare .Lt v vb >>= _)) _ >>= _) _ _ _;refine f_ (qa2 (qaN (f_ (turn (j+1) (argBest bt j) v vb h1 LP _ _ hv SW GU ?_))));refine f_ (qaN (qaD ?_));refine f_ (qbh (q_ ?_))
  cases hb:bt (j+1) (argBest bt j)with
  |true =>
   simp only[if_true];obtain⟨c2,hc2⟩:∃c2,(h1.update S (qb_ λ_=> #[v,v])).get? S=some (seqObj "list" #[v,v] c2):=⟨_,get?_update_seq Li λ_=> #[v,v]⟩;refine f_ ?_;refine qb0 Li Y (f_ (qbh ?_));rw[nm];refine q_ ⟨qbd PySem.F.plain_min_loop _,ih (j+1) _ _ v c2 (by omega) lt (λb o e=>?_) hc2 ?_ (by rw[argBest,if_pos hb];exact hv)⟩
   ·rw[(qai h1 S _).2 b (nS b o e)];exact GU b o e
   ·exact⟨oI,((qai h1 S _).2 I hSI.symm).trans S4,rI⟩
  |false =>
   simp only[qaM,if_false];refine f_ (qbh ?_);rw[nm];exact q_ ⟨qbd PySem.F.plain_min_loop _,ih (j+1) _ _ vb c (by omega) lt GU Li hst.1 (by rw[argBest,hb];exact SW)⟩
theorem MU{Q:k_->n_->Prop}(hh:A.handled=none)(hl:s.heap.IsList l vs.toArray)(ne:0<vs.length)
  (turn:∀i j v u h tk (Q:k_->n_->Prop) (E:k_->n_->Prop),vs[i]? =some v->vs[j]? =some u->(∀b o,s.heap.get? b=some o->h.get? b=some o)->Q (.bool (bt i j)) { s with heap:=h,toks:=tk }->C_ (model prog w) A.in1 (richCompare .Lt v u) Q E { s with heap:=h,toks:=tk })
  (h1:∀v h' tk',vs[argBest bt (vs.length-1)]? =some v->(∀b o,s.heap.get? b=some o->h'.get? b=some o)->Q v { s with heap:=h',toks:=tk' }) :
  C_ (model prog w) A (call (.builtin "min") [.ref l]) Q E s:=by
 have nm:(toString "min" ++toString ".loop" :String)= "min.loop" :=by decide
 obtain⟨ol,Fq,rl⟩:=id hl;refine call_function_tree PySem.F.kind_min PySem.F.plain_min PySem.F.entry_min (PySem.F.args_min1 _) ?_;show C_ _ A.in1 (qaR "min" ["key","default"] 0 ⟨[],[]⟩ >>= _) _ _ s;refine f_ (wpAny_of_eq (show qaR "min" ["key","default"] 0 ⟨[],[]⟩=pure [none,none] from Y) ?_);refine f_ (q_ ?_);refine f_ (qaY hl ?_);refine f_ (wpAny_newList ?_ (Q_ _));rw[nm];refine q_ ⟨qbd PySem.F.plain_min_loop _,?_⟩;refine AZ (G:=λI S h=>codeAny (model prog w) A (.builtin "min.loop" ⟨[.ref I,.none,.ref S],[]⟩) _ { s with heap:=h }) λI S h hI hS hSI Yk gI gS=>?_;have lI:l≠I:=λz=>by rw[z,hI]at Fq;cases Fq
 have W:=qct (prog:=prog) (w:=w) (A:=A.in1) hh I l lI vs.toArray;have sz:vs.toArray.size=vs.length:=by simp
 have nI:∀b o,s.heap.get? b=some o->b∉[I]:=λb o e z=>by rw[x_.mp z,hI]at e;cases e
 have nS:∀b o,s.heap.get? b=some o->b≠S:=λb o e z=>by rw[z,hS]at e;cases e
 refine qa3 PySem.F.entry_min_loop ?_;rw[qaI PySem.F.plain_min_loop _];show C_ _ A.in1 (seqItems? (.ref _) >>= _) _ _ _;refine f_ (qat gS Y ?_);show C_ _ A.in1 (tryCatch (pyNext (.ref I)) _ >>= _) _ _ _;refine f_ (qa2 (W.item 0 _ _ _ (by rw[sz];exact ne) ⟨gI,qN Yk hl⟩ λv xS LP hP hst hk1=>?_));have hv:vs[0]? =some v:=by simpa using hP
 have GU:∀b o,s.heap.get? b=some o->xS.get? b=some o:=λb o e=>hk1 b o (nI b o e) (Yk b o e);have Li:=hk1 S _ (by simpa using hSI) gS;obtain⟨oI,S4,rI⟩:=id hst.1;obtain⟨c2,hc2⟩:∃c2,(xS.update S (qb_ λ_=> #[v,v])).get? S=some (seqObj "list" #[v,v] c2):=⟨_,get?_update_seq Li λ_=> #[v,v]⟩;show C_ _ A.in1 (updateSeq S (λ_=> #[v,v]) >>= _) _ _ _;refine f_ ?_;refine qb0 Li Y ?_;rw[nm];refine q_ ⟨qbd PySem.F.plain_min_loop _,Ml hh hl hI hS hSI turn (λv h' tk' a c=>h1 v h' tk' a c) _ 0 _ _ v c2 Y ne (λb o e=>?_) hc2 ?_ hv⟩
 ·rw[(qai xS S _).2 b (nS b o e)];exact GU b o e
 ·exact⟨oI,((qai xS S _).2 I hSI.symm).trans S4,rI⟩
end
end
section
open PySem.SeqAt
noncomputable def ltN(x y:NK):Bool:=K9 x.1 x.2.1 x.2.2 y.1 y.2.1 y.2.2
theorem w9{h h':W_}{l:U}{its:Array k_}(k:∀b o,h.get? b=some o->h'.get? b=some o)(x:h.IsTuple l its):h'.IsTuple l its:=by
 obtain⟨o,e,r⟩:=x;exact⟨o,k _ _ e,r⟩
section
variable{A:qab}{s:n_}{a b p q:U}{m n:v_}{i j k l:Int}{tm tn t1 t2 t3 t4:qcN}
theorem U7(ta:s.heap.IsTuple a #[.ref p,.str m tm])(tb:s.heap.IsTuple b #[.ref q,.str n tn])(tp:s.heap.IsTuple p #[.int i t1,.int j t2])(tq:s.heap.IsTuple q #[.int k t3,.int l t4])(hu:A.units+2<cLine):wV A s (.ref a) (.ref b) (K9 i j m k l n):=by
 have hu1:A.in1.units<cLine:=qb9 hu;have e2:=PC (A:=A.in1) tp tq hu1;have l2:=U6 (A:=A.in1) tp tq hu1
 have z:=wV.tuples (A:=A) (e:=λw=>if w=0 then decide (i=k/\j=l)else m==n) (g:=λw=>if w=0 then K8 i j k l else decide (m.cps.toList<n.cps.toList)) ta tb (qb9 (qb9 hu)) (λw h1 h2=>by
  match w,h1,h2 with
  | 0,_,_=>exact e2
  | 1,_,_=>exact EqAt.str_str m tm n tn) λw h1 h2 _=>by
  match w,h1,h2 with
  | 0,_,_=>exact l2
  | 1,_,_=>exact wV.str_str m tm n tn
 have ez:(if decide (i=k/\j=l)=true then(if(m==n)=true then decide (2<2)else decide (m.cps.toList<n.cps.toList))else K8 i j k l)=K9 i j m k l n:=by
  unfold K9;by_cases c:i=k/\j=l
  ·rw[if_pos (decide_eq_true c),if_pos c];by_cases d:m=n
   ·rw[if_pos (beq_iff_eq.mpr d),d,decide_eq_false (by decide),decide_eq_false (List.lt_irrefl _)]
   ·rw[if_neg (λz=>d (beq_iff_eq.mp z))]
  ·rw[if_neg (λz=>c (of_decide_eq_true z)),if_neg c]
 rw[←ez];exact z
end
theorem Ae{X:Cx}{pins:List (U×qa9)}{σ:St}{H:Hp}{s:n_}{q:U}{k:NK}(I:Inv X pins σ H s)(h:fY H q k):wY λp tm t1 t2=>s.heap.IsTuple q #[.ref p,.str k.2.2 tm]/\s.heap.IsTuple p #[.int k.1 t1,.int k.2.1 t2]:=by
 obtain⟨p,h1,h2⟩:=h;obtain⟨ua,ra,ta,_⟩:=I.tuple (bZ.of h1);obtain⟨up,rp,tp,_⟩:=I.tuple (bZ.of h2);obtain⟨_,_,rfl,r1,tm,rfl⟩:=Ks ra;cases r1;obtain⟨_,_,rfl,⟨t1,rfl⟩,t2,rfl⟩:=Ks rp;exact⟨p,tm,t1,t2,ta,tp⟩
theorem US{X:Cx}(hu:X.A.units+10<cLine):wc X (compareOp .NotEq) (λx y H Q=>nN λa b k=>x= .ref a/\y= .ref b/\fY H a k/\fY H b k/\Q (.bl false) H):=by
 intro pins s σ H x y v u Q I rx ry h;obtain⟨a,b,k,rfl,rfl,ha,hb,hQ⟩:=h;cases rx;cases ry;obtain⟨p,tm,t1,t2,ta,tp⟩:=Ae I ha;obtain⟨q,tn,t3,t4,tb,tq⟩:=Ae I hb;have hu1:X.A.in1.units<cLine:=by show X.A.units+1<cLine;omega
 have e2:=PC (A:=X.A.in1) tp tq hu1;rw[decide_eq_true ⟨rfl,rfl⟩]at e2;have e3:=EqAt.str_str (A:=X.A.in1) (s:=s) k.2.2 tm k.2.2 tn;rw[beq_self_eq_true]at e3;exact SeqAt.RcNeAt.tuples (A:=X.A) (s:=s) (e:=λ_=>true) ta tb (by omega) (λw h1 h2=>by
  match w,h1,h2 with
  | 0,_,_=>exact e2
  | 1,_,_=>exact e3) X.prog X.w X.xe _ ⟨.bl false,H,I,rfl,hQ⟩
theorem vX{bt:Nat->Nat->Bool}(ir:∀i,bt i i=false)(tr:∀i j k,bt i j=true->bt j k=true->bt i k=true):∀k,argBest bt k<=k/\∀j,j<=k->bt j (argBest bt k)=false
 | 0=>⟨j_ _,λj hj=>by rw[Nat.le_zero.mp hj];exact ir 0⟩
 |k+1=>by
  obtain⟨h1,h2⟩:=vX ir tr k;unfold argBest
  cases c:bt (k+1) (argBest bt k)with
  |true =>
   rw[if_pos rfl];refine⟨j_ _,λj hj=>?_⟩;rcases Nat.lt_or_ge k j with e|e
   ·rw[Nat.le_antisymm hj e];exact ir _
   ·cases z:bt j (k+1)with
    |false=>rfl
    |true=>rw[←h2 j e,tr _ _ _ z c]
  |false =>
   rw[if_neg y_];refine⟨qbj h1,λj hj=>?_⟩;rcases Nat.lt_or_ge k j with e|e
   ·rw[Nat.le_antisymm hj e];exact c
   ·exact h2 j e
theorem KW:∀{as:List U} {us:List k_},Vals (as.map V.ref) us->us=as.map Value.ref
 |[],_,r=>by cases r;rfl
 |a::as,_,r=>by
  cases r with
  |cons r1 r2 =>
   cases r1;rw[Y_,KW r2]
theorem Rp(k:NK):ltN k k=false:=by
 unfold ltN K9;rw[if_pos ⟨rfl,rfl⟩];exact decide_eq_false (List.lt_irrefl _)
theorem MW{X:Cx}{K':PySem.W.Frag}(hK:X.K=K')(hc:X.calm=true)(hu:X.A.units+10<cLine):pM X (.builtin "min") (λxs H Q=>nN λ(l:U) (as:List U) (ks:List NK)=>xs=[.ref l]/\bW K' H l (as.map V.ref)/\Paired (fY H) as ks/\0<as.length ∧
  ∀(i:Nat) a k,as[i]? =some a->ks[i]? =some k->(∀k'∈ks,ltN k' k=false)->Q (.ref a) H):=by
 subst hK;intro pins s σ H xs us Q I r h;obtain⟨l,as,ks,rfl,hl,hp,h0,q⟩:=h;obtain⟨u,rfl,ru⟩:=vals1 r;cases ru;obtain⟨its,rv,p,hz⟩:=I.list hl;have pl:s.heap.IsList l its.toArray:=p.isList;obtain rfl:=KW rv;have hlen:=Paired.length hp;have dk:NK:=(0,0,Str.empty);have hat:∀(i:Nat) v,(as.map Value.ref)[i]? =some v->dP λa k=>as[i]? =some a/\ks[i]? =some k/\ks.getD i dk=k/\v= .ref a/\fY H a k:=λi v hv=>by
  rw[O_]at hv;obtain⟨a,ha,rfl⟩:=qac.mp hv;obtain⟨k,hk,hka⟩:=GP.Paired.at hp ha;exact⟨a,k,ha,hk,by rw[u_,hk];rfl,Y,hka⟩
 refine TK.bX (j_ s.toks) ?_;refine MU (bt:=λi j=>ltN (ks.getD i dk) (ks.getD j dk)) (I.ok.hd hc) pl (by rw[l_];exact h0) (λi j v u h tk Q E hi hj kp hQ=>?_) λv h' tk hv kp hup=>?_
 ·obtain⟨a,k,_,_,ek,rfl,ha⟩:=hat i v hi;obtain⟨b,k',_,_,ek',rfl,hb⟩:=hat j u hj;obtain⟨p1,tm,t1,t2,ta,tp⟩:=Ae I ha;obtain⟨p2,tn,t3,t4,tb,tq⟩:=Ae I hb;have hu1:X.A.in1.units+2<cLine:=by show X.A.units+1+2<cLine;omega
  refine U7 (A:=X.A.in1) (s:={ s with heap:=h,toks:=tk }) (w9 kp ta) (w9 kp tb) (w9 kp tp) (w9 kp tq) hu1 X.prog X.w E Q ?_;show Q (.bool (ltN k k')) _;rw[←ek,←ek'];exact hQ
 ·obtain⟨a,k,ha,hk,ek,rfl,hka⟩:=hat _ v hv;refine⟨.ref a,H,I.kept (t':=tk) (λb x e=>kp b x e),Y,q _ a k ha hk λk' hk'=>?_⟩;obtain⟨j,hj,rfl⟩:=qa7 hk';have z:=(vX (bt:=λi j=>ltN (ks.getD i dk) (ks.getD j dk)) (λi=>Rp _) (λi j k h1 h2=>GP.Mr h1 h2) ((as.map Value.ref).length-1)).2 j (by rw[l_];omega);rw[ek,u_,g_ hj]at z;exact z
end
end L2
namespace GP
open PySem L2 rF
theorem GJ{kvs:List NE}{k:NK}{q:U}{v:V}{x:NE}(h:x∈qK kvs k q v):x.1=k\/∃y∈kvs,y.1=x.1:=by
 unfold qK at h;split at h
 ·obtain⟨y,hy,e⟩:=U_.mp h;refine .inr ⟨y,hy,?_⟩;split at e<;>rw[←e]
 ·rcases V_.mp h with h|h
  ·exact .inr ⟨x,h,Y⟩
  ·rw[x_.mp h];exact .inl Y
theorem Oz(kvs:List NE)(k:NK)(q:U)(v:V):(qK kvs k q v).map (·.1)=if(kc kvs k).isSome then kvs.map (·.1)else kvs.map (·.1)++[k]:=by
 unfold qK;split
 ·rw[qaL];refine qbF λy _=>?_
  show(if y.1=k then(y.1,y.2.1,v)else y).1=y.1
  split<;>rfl
 ·rw[M_];rfl
theorem yC{k:NK}:∀{kvs:List NE},(kc kvs k).isSome=true↔k∈kvs.map (·.1)
 |[]=>by simp[kc]
 |x::kvs=>by
  by_cases e:x.1=k
  ·rw[lG e,Y_,e];simp
  ·rw[jh e,yC,Y_,B_];exact⟨.inr,λh=>h.elim (λz=>absurd z.symm e) id⟩
theorem EA{kvs:List NE}{k:NK}{q:U}{v:V}(h:(kvs.map (·.1)).Nodup):((qK kvs k q v).map (·.1)).Nodup/\k∈(qK kvs k q v).map (·.1):=by
 rw[Oz];by_cases c:(kc kvs k).isSome=true
 ·rw[if_pos c];exact⟨h,yC.mp c⟩
 ·rw[if_neg c];refine⟨qb8.mpr ⟨h,by simp,λa ha b hb z=>?_⟩,by simp⟩;rw[x_.mp hb]at z;exact c (yC.mpr (z▸ha))
theorem Dk{H:Hp}:∀{l:List NE},(∀e∈l,fY H e.2.1 e.1)->Paired (fY H) (l.map (·.2.1)) (l.map (·.1))
 |[],_=>.nil
 |a::l,h=>.cons (h a z_) (Dk λe he=>h e (s_ _ he))
theorem sub_len{α:Type}:∀{l m:List α},l.Nodup->(∀x∈l,x∈m)->l.length<=m.length
 |[],_,_,_=>Q_ _
 |a::l,m,nd,h=>by
  obtain⟨m1,m2,rfl⟩:=List.append_of_mem (h a z_);obtain⟨na,nd⟩:=qbX.mp nd;have z:=sub_len (m:=m1++m2) nd λx hx=>by
   rcases V_.mp (h x (s_ _ hx))with q|q
   ·exact qav _ q
   ·rcases B_.mp q with q|q
    ·exact absurd (q▸hx) na
    ·exact T_ _ q
  simp only[G_,qaa]at z ⊢;omega
noncomputable def Z5(w:Wy4):NK:=((w.1.1:Int),(w.1.2:Int),sC w.2.1)
noncomputable def Gd.best(g:Gd)(bs:List (Nat×Nat))(x:Int):List Wy4:=((g.pre bs).filter g.enW).filter λw=>decide (w.2.2.1=x)
section
variable{g:Gd}{m:v_}{n k:Nat}{b:Nat×Nat}
theorem Hx{bs:List (Nat×Nat)}{x:Int}{q:Nat×Nat}{mv:List Nat}{e:aY}(h1:(q,mv,x,e)∈g.pre bs)(h2:g.en e.1 e.2.1=true):(q,mv,x,e)∈g.best bs x:=Z_.mpr ⟨Z_.mpr ⟨h1,h2⟩,decide_eq_true rfl⟩
theorem FE(ok:g.Ok)(hn:g.n=n)(hk:g.m=k)(hb:fmin g.iP (iQ m n k)=some b):∃e,(b,g.moves (b.1,b.2,112),g.iP b,e)∈g.pre (iQ m n k)/\g.en e.1 e.2.1=true:=by
 obtain⟨e,he⟩:=R5 ok hn hk hb;obtain⟨h1,h2⟩:=Z_.mp he;exact⟨e,h1,h2⟩
theorem adY(hb:fmin g.iP (iQ m n k)=some b){q:Nat×Nat}{mv:List Nat}{c:Int}{e:aY}(h1:(q,mv,c,e)∈g.pre (iQ m n k))(h2:g.en e.1 e.2.1=true):g.iP b<=c:=by
 obtain⟨h3,h4⟩:=Gd.rA.mp h1;exact Int.le_trans (tM hb h3) (Gd.rY h4 h2)
theorem Mx(ok:g.Ok)(hn:g.n=n)(hk:g.m=k)(hb:fmin g.iP (iQ m n k)=some b){x:NK}(h:x∈(g.best (iQ m n k) (g.iP b)).map Z5):ltN x ((b.1:Int),(b.2:Int),sC (g.moves (b.1,b.2,112)))=false:=by
 obtain⟨⟨b',mv,c,e⟩,hw,rfl⟩:=U_.mp h;obtain⟨h1,h2⟩:=Z_.mp hw;obtain⟨h3,h4⟩:=Z_.mp h1;obtain rfl:c=g.iP b:=of_decide_eq_true h2;exact JS ok hn hk hb h3 h4
theorem O4{bs:List (Nat×Nat)}{x:Int}{ks:List NK}(nd:ks.Nodup)(h:∀y∈ks,y∈(g.best bs x).map Z5):ks.length<=g.tot bs x:=by
 have z:=sub_len nd h;rw[l_]at z;rw[←JT (g:=g) bs];exact z
end
section
variable{y:v_}{k:Nat}
theorem szA(x y:v_):(x++y).cps.size=x.cps.size+y.cps.size:=by
 show(x.cps++y.cps).size=_;rw[Array.size_append]
theorem ad4(h:k<=y.cps.size):(Txt.slice y none (some (k:Int))).cps.size=k:=by
 rw[←N_,N3 (qa4 _) (qbq.mpr h),qaC,N_,qaw,qcp h]
theorem Zg(h:k<=y.cps.size):(Txt.slice y (some (k:Int)) none).cps.size=y.cps.size-k:=by
 rw[←N_,N4 (qa4 _) (qbq.mpr h),qba,N_,qaw]
theorem Zf(c:Nat):(Txt.slice y (some (k:Int)) (some ((k+c:Nat):Int))).cps.size=min c (y.cps.size-k):=by
 rw[←N_,yo y (qaF k c),qaC,qba,N_,Nat.add_sub_cancel_left]
end
theorem x6{x y:v_}{a b:Nat}(hx:x.cps.size<=a)(hy:y.cps.size<=b):(x++y).cps.size<=a+b:=by rw[szA];exact Nat.add_le_add hx hy
theorem tQ{x y:v_}{a b:Nat}(hx:x.cps.size<=a)(hy:y.cps.size<=b)(h:a+b<=1000):x.length+y.length<=D_:=p_ (p_ (Nat.add_le_add hx hy) h) (by decide)
theorem Ai{α:Type}{l:List α}{i:Int}(h0:0<=i)(h1:i<(l.length:Int)):∃c,DJ l i=some c:=by
 obtain⟨k,rfl⟩:=qbN h0;exact⟨_,dY (g_ (qbV.mp h1))⟩
theorem Ho(ns:List Int)(c:Nat):∃zs:List Int,zP (ns.map V.int) none (some (c:Int))=zs.map V.int/\zs.length<=c:=by
 unfold zP;refine⟨_,by rw[List.map_take,List.map_drop],?_⟩;rw[qaC,HT.Q0];omega
def ym(P:r_)(w:I_)(K:PySem.W.Frag)(C CG:U):Sp:=λvs H Q _=>R7 λ(x dx pr:U) (T:PT) (f s m:v_)=>vs=[.ref x,.ref pr,.str f,.str s,.str m]/\H x=some (.ins CG dx [])/\Aj K C H pr T/\Of T.1 f/\Of T.1 s/\rB m=true/\f.cps.size<=12/\s.cps.size<=12 ∧
 ∀H',(∀b u,b≠x->H b=some u->H' b=some u)->HQ P w CG H' x (b7 T m f s) (iQ m f.cps.size s.cps.size)->Q .jG H'
def Gb(P:r_)(w:I_)(K:PySem.W.Frag)(C:U)(L:Lm):Sp:=λvs H Q _=>BG λ(pr:U) (T:PT) (f s m:v_)=>vs=[.ref pr,.str f,.str s,.str m]/\Aj K C H pr T/\LT L H/\Of T.1 f/\Of T.1 s/\rB m=true/\f.cps.size<=12/\s.cps.size<=12 ∧
 ∀r H',Lo P w L H H'->H r=none->CV H' r T m f s->Q (.ref r) H'
def F9(P:r_)(w:I_)(K:PySem.W.Frag)(C:U)(L:Lm):Sp:=λvs H Q _=>BG λ(pr:U) (T:PT) (f s m:v_)=>vs=[.ref pr,.str f,.str s,.str m]/\Aj K C H pr T/\LT L H/\Of T.1 f/\Of T.1 s/\rB m=true/\f.cps.size<=12/\s.cps.size<=12 ∧
 ∀b H',Lo P w L H H'->fmin (b7 T m f s).iP (iQ m f.cps.size s.cps.size)=some b->Q (.int ((b7 T m f s).tot (iQ m f.cps.size s.cps.size) ((b7 T m f s).iP b):Nat)) H'
def KH(K:PySem.W.Frag)(C:U):Sp:=λvs H Q _=>wY λ(pr:U) (T:PT) (f s:v_)=>vs=[.ref pr,.str f,.str s]/\Aj K C H pr T/\Of T.1 f/\Of T.1 s/\f.cps.size<=12/\s.cps.size<=12/\∀r H',ak H H'->CV H' r T sW f s->Q (.ref r) H'
def DX:Sp:=λvs H Q _=>dP λc k:Int=>vs=[.int c,.int k]/\0<=k/\k<=100/\∀m,0<=m->Q (.int m) H
def F4(K:PySem.W.Frag):Sp:=λvs H Q _=>nN λ(s:U) (ns:List Int) (sg:v_)=>vs=[.ref s,.str sg]/\bW K H s (ns.map V.int)/\0<sg.cps.size/\sg.cps.size<=100 ∧
 ∀l f g H',Of sg f->Of sg g->f.cps.size<=12->g.cps.size<=12->ak H H'->H' l=some (.lst [.str f,.str g])->Q (.ref l) H'
def F2:Sp:=λvs H Q _=>BG λ(m:Int) (b:U) (i j:Int) (mv:v_)=>vs=[.int m,.ref b,.str mv]/\0<=m/\H b=some (.tup [.int i,.int j])/\mv.cps.size<=500 ∧
 ∀r p i' j' mv' H',ak H H'->H' r=some (.tup [.ref p,.str mv'])->H' p=some (.tup [.int i',.int j'])->mv'.cps.size<=mv.cps.size+1->Q (.ref r) H'
def Ax(K:PySem.W.Frag)(C:U):Sp:=λvs H Q _=>Wz λ(x b:U) (T:PT) (f s m mv:v_) (i j:Int)=>vs=[.ref x,.str f,.str s,.str m,.ref b,.str mv]/\Aj K C H x T/\Of T.1 f/\Of T.1 s/\f.cps.size<=12/\s.cps.size<=12/\mv.cps.size<=1000/\rB m=true/\H b=some (.tup [.int i,.int j]) ∧
 ((∀(q:Nat×Nat) c e,i=(q.1:Int)->j=(q.2:Int)->(q,mv.cps.toList,c,e)∈(b7 T m f s).pre (iQ m f.cps.size s.cps.size)->(b7 T m f s).en e.1 e.2.1=true->False)->∀H',ak H H'->Q .jG H') ∧
 ∀(q:Nat×Nat) c e,i=(q.1:Int)->j=(q.2:Int)->(q,mv.cps.toList,c,e)∈(b7 T m f s).pre (iQ m f.cps.size s.cps.size)->(b7 T m f s).en e.1 e.2.1=true->∀H',ak H H'->Q (.int c) H'
def NX(K:PySem.W.Frag)(C:U)(L:Lm):Sp:=λvs H Q _=>HA λ(s pr lr r:U) (ns:List Int) (T:PT) (f g m:v_) (X0:Int)=>vs=[.ref s,.ref pr,.ref lr,.str m,.ref r,.int X0]/\bW K H s (ns.map V.int)/\Aj K C H pr T/\LT L H/\H lr=some (.lst [.str f,.str g])/\Of T.1 f/\Of T.1 g/\f.cps.size<=12/\g.cps.size<=12/\rB m=true/\CV H r T m f g ∧
 (∀b,fmin (b7 T m f g).iP (iQ m f.cps.size g.cps.size)=some b->X0=(b7 T m f g).iP b)/\∀H',LT L H'->Q (.bl true) H'
end GP
set_option Elab.async false
set_option linter.all false
set_option maxRecDepth 100000
set_option maxHeartbeats 4000000
seal PySem.wpAny
namespace ZJ
open PySem L2 rF GP
noncomputable def top(i:Nat):qam:=PySem.Challenge.pw_gapweave_k92_whole_first.main.body.getD i (.Pass ⟨0,0,0,0⟩)
noncomputable abbrev Bf(K:PySem.W.Frag):Lm:=⟨fq K "first_begin",⟨219,34,219,65⟩,(("first_begin" :v_)++ ".<locals>.")++ "<lambda>",fq K "state_behind",⟨221,40,221,77⟩,(("state_behind" :v_)++ ".<locals>.")++ "<lambda>"⟩
theorem jJ{N P:List v_}{sc:qbn}(a:sc.kind=.function:=by rfl)(b:sc.isCoroutine=false:=by rfl)(c:sc.isGenerator=false:=by rfl)(d:N.Nodup:=by decide +kernel)(e:N.take P.length=P:=by rfl)(f:∀x∈P,sc.names.lookup x=some .local\/sc.names.lookup x=some .cell:=by decide +kernel)(g:∀y∈sc.names,y.2≠.free:=by decide +kernel):aE N P sc:=⟨a,b,c,d,e,f,g⟩
noncomputable abbrev dZ:qam:=top 7
theorem g9:aE ["one","other","rest"] ["one","other"] (au dZ):=jJ
noncomputable abbrev xB:qam:=top 8
theorem Dh:aE ["fraction","divisor"] ["fraction"] (au xB):=jJ
noncomputable abbrev vj:qam:=top 13
theorem AD:aE ["sign","number"] ["sign"] (au vj):=jJ
noncomputable abbrev rm:qam:=top 14
theorem D7:aE ["text"] ["text"] (au rm):=jJ
noncomputable abbrev oZ:qam:=top 15
theorem AF:aE ["signs"] ["signs"] (au oZ):=jJ
noncomputable abbrev lT:qam:=top 16
theorem sf:aE ["signs","pairs","row"] ["signs","pairs"] (au lT):=jJ
noncomputable abbrev jP:qam:=top 17
theorem zv:aE ["price"] ["price"] (au jP):=jJ
noncomputable abbrev lR:qam:=top 18
theorem yq:aE ["row"] ["row"] (au lR):=jJ
noncomputable abbrev qf:qam:=top 19
theorem rH:aE ["pairs","opening","more","unders","row"] ["pairs","opening","more"] (au qf):=jJ
noncomputable abbrev m8:qam:=top 20
theorem gp:aE ["unders","factors","unit","under","factor"] ["unders"] (au m8):=jJ
noncomputable abbrev pZ:qam:=top 21
theorem oU:aE ["factors","product","factor"] ["factors"] (au pZ):=jJ
noncomputable abbrev su:qam:=top 22
theorem IU:aE ["price","unit"] ["price","unit"] (au su):=jJ
noncomputable abbrev j6:qam:=top 23
theorem eZ:aE ["signs","pairs","unit","costs","one","row","other","price"] ["signs","pairs","unit"] (au j6):=jJ
noncomputable abbrev cM:qam:=inClass (top 24) 0
theorem wB:aE ["self","signs","pairs","opening","more"] ["self","signs","pairs","opening","more"] (au cM):=jJ
noncomputable abbrev jN:qam:=top 25
theorem D4:aE ["prices","one","other"] ["prices","one","other"] (au jN):=jJ
noncomputable abbrev jO:qam:=top 26
theorem zu:aE ["prices"] ["prices"] (au jO):=jJ
noncomputable abbrev pD:qam:=top 27
theorem D5:aE ["prices"] ["prices"] (au pD):=jJ
noncomputable abbrev nW:qam:=top 28
theorem jL:aE ["prices","number","over","under","factor","divisor"] ["prices","number"] (au nW):=jJ
noncomputable abbrev o5:qam:=top 32
theorem jM:aE ["known","rows","number","row","place","sign"] ["known","rows"] (au o5):=jJ
noncomputable abbrev j7:qam:=top 33
theorem B9:aE ["prices","rows"] ["prices","rows"] (au j7):=jJ
noncomputable abbrev nv:qam:=top 34
theorem zw:aE ["manner"] ["manner"] (au nv):=jJ
noncomputable abbrev o4:qam:=top 35
theorem AG:aE ["first","second","place"] ["first","second","place"] (au o4):=jJ
noncomputable abbrev ni:qam:=top 36
theorem tZ:aE ["place","move","step"] ["place","move"] (au ni):=jJ
noncomputable abbrev qX:qam:=top 37
theorem mW:aE ["first","second","begin","moves","place","places","move"] ["first","second","begin","moves"] (au qX):=jJ
noncomputable abbrev j8:qam:=top 38
theorem Ca:aE ["prices","move","came"] ["prices","move","came"] (au j8):=jJ
noncomputable abbrev vm:qam:=top 39
theorem iZ:aE ["prices","first","second","begin","moves","places","cost","came","place","move"] ["prices","first","second","begin","moves"] (au vm):=jJ
noncomputable abbrev qY:qam:=top 40
theorem D6:aE ["manner","place"] ["manner","place"] (au qY):=jJ
noncomputable abbrev vf:qam:=top 41
theorem IQ:aE ["manner","first","second","place"] ["manner","first","second","place"] (au vf):=jJ
noncomputable abbrev qg:qam:=top 44
theorem oW:aE ["first","second","places","i","j"] ["first","second"] (au qg):=jJ
noncomputable abbrev pY:qam:=top 45
theorem oS:aE ["prices","first","second","place","came","i","j","steps"] ["prices","first","second","place","came"] (au pY):=jJ
noncomputable abbrev rz:qam:=top 46
theorem pV:aE ["prices","first","second","places","steps","place","came"] ["prices","first","second","places"] (au rz):=jJ
noncomputable abbrev tE:qam:=top 47
theorem uB:aE ["first","second","places","manner","ends","place"] ["first","second","places","manner"] (au tE):=jJ
noncomputable abbrev cC:qam:=inClass (top 48) 0
theorem qF:aE ["self","prices","first","second","manner","places"] ["self","prices","first","second","manner"] (au cC):=jJ
noncomputable abbrev lD:qam:=top 49
theorem mY:aE ["ground","rests","state","costs"] ["ground"] (au lD):=jJ
noncomputable abbrev nu:qam:=top 50
theorem B8:aE ["ground","rests","state"] ["ground","rests","state"] (au nu):=jJ
noncomputable abbrev lE:qam:=top 51
theorem AE:aE ["ground","rests"] ["ground","rests"] (au lE):=jJ
noncomputable abbrev nh:qam:=top 52
theorem zq:aE ["ground","rests","state"] ["ground","rests","state"] (au nh):=jJ
noncomputable abbrev oY:qam:=top 53
theorem m5:aE ["ground","rests","begin","state","moves"] ["ground","rests","begin"] (au oY):=jJ
noncomputable abbrev sZ:qam:=top 54
theorem qW:aE ["prices","first","second","manner","ground","rests","begin"] ["prices","first","second","manner"] (au sZ):=jJ
noncomputable abbrev qh:qam:=top 55
theorem g6:aE ["ground","rests","counts","state","many","behind","cost"] ["ground","rests"] (au qh):=jJ
noncomputable abbrev sY:qam:=top 56
theorem pC:aE ["prices","first","second","manner","ground","rests","counts","least"] ["prices","first","second","manner"] (au sY):=jJ
noncomputable abbrev ve:qam:=top 58
theorem IP:aE ["way"] ["way"] (au ve):=jJ
noncomputable abbrev tD:qam:=top 59
theorem yT:aE ["prices","came","pair","across","under","beside","ways"] ["prices","came","pair","across","under","beside"] (au tD):=jJ
noncomputable abbrev sr:qam:=top 60
theorem sU:aE ["prices","pair","across","under","beside","cell","came","way"] ["prices","pair","across","under","beside"] (au sr):=jJ
noncomputable abbrev qe:qam:=top 61
theorem lC:aE ["prices","second","lasts","cell","came","cells","j"] ["prices","second","lasts"] (au qe):=jJ
noncomputable abbrev o6:qam:=top 62
theorem m6:aE ["prices","sign","second","under","cells","j","pair"] ["prices","sign","second","under"] (au o6):=jJ
noncomputable abbrev pW:qam:=top 63
theorem gZ:aE ["cells","stopping","j","cell","stops","came","way"] ["cells"] (au pW):=jJ
noncomputable abbrev sj:qam:=top 64
theorem nV:aE ["prices","first","second","came","lasts","used","cells","i"] ["prices","first","second","came","lasts","used"] (au sj):=jJ
noncomputable abbrev pX:qam:=top 65
theorem B6:aE ["prices","first","second","used"] ["prices","first","second","used"] (au pX):=jJ
noncomputable abbrev ng:qam:=top 66
theorem lP:aE ["prices","first","second","stops","low","high","used","start","goal","stop"] ["prices","first","second","stops","low","high","used"] (au ng):=jJ
noncomputable abbrev rq:qam:=top 67
theorem m7:aE ["prices","first","second","stops","spans","span","half"] ["prices","first","second"] (au rq):=jJ
noncomputable abbrev lQ:qam:=top 68
theorem se:aE ["ahead","stop","paired"] ["ahead","stop"] (au lQ):=jJ
noncomputable abbrev xC:qam:=top 69
theorem vd:aE ["prices","first","second","stops","parts","moves"] ["prices","first","second"] (au xC):=jJ
noncomputable abbrev i6:qam:=top 71
theorem uA:aE ["_law_script","_law_at","_law_cell","_law_m"] ["_law_script","_law_at"] (au i6):=jJ
noncomputable abbrev rj:qam:=top 72
theorem sS:aE ["_law_script","_law_at","_law_m","_law_cell"] ["_law_script","_law_at"] (au rj):=jJ
noncomputable abbrev q8:qam:=top 73
theorem mZ:aE ["_law_script","_law_at","_law_many","_law_every","_law_m","_law_step"] ["_law_script","_law_at","_law_many"] (au q8):=jJ
noncomputable abbrev q9:qam:=top 74
theorem xx:aE ["_law_script","_law_at","_law_sort","_law_m"] ["_law_script","_law_at","_law_sort"] (au q9):=jJ
noncomputable abbrev qZ:qam:=top 75
theorem fD:aE ["_law_script","_law_at","_law_many","_law_m","_law_sort","_law_signs_here","_law_pairs","_law_k","_law_j","_law_opening","_law_more"] ["_law_script","_law_at","_law_many"] (au qZ):=jJ
noncomputable abbrev qb:qam:=top 76
theorem lA:aE ["_law_script","_law_at","_law_signs_here","_law_pairs","_law_opening","_law_more"] ["_law_script","_law_at"] (au qb):=jJ
noncomputable abbrev qc:qam:=top 77
theorem B7:aE ["_law_m"] ["_law_m"] (au qc):=jJ
noncomputable abbrev qG:qam:=top 78
theorem yR:aE ["_law_found","_law_due"] ["_law_found","_law_due"] (au qG):=jJ
noncomputable abbrev vh:qam:=top 79
theorem IT:aE ["_law_prices_here","_law_goes_on"] ["_law_prices_here","_law_goes_on"] (au vh):=jJ
noncomputable abbrev sV:qam:=top 80
theorem cW:aE ["_law_prices_here","_law_first","_law_second","_law_begin","_law_moves","_law_i","_law_j","_law_total","_law_last","_law_move"] ["_law_prices_here","_law_first","_law_second","_law_begin","_law_moves"] (au sV):=jJ
noncomputable abbrev lS:qam:=top 81
theorem yr:aE ["_law_manner_here","_law_i","_law_j"] ["_law_manner_here","_law_i","_law_j"] (au lS):=jJ
noncomputable abbrev oX:qam:=top 82
theorem AB:aE ["_law_manner_here","_law_first","_law_second","_law_i","_law_j"] ["_law_manner_here","_law_first","_law_second","_law_i","_law_j"] (au oX):=jJ
noncomputable abbrev vg:qam:=top 83
theorem IS:aE ["_law_begin","_law_moves"] ["_law_begin","_law_moves"] (au vg):=jJ
noncomputable abbrev pF:qam:=top 84
theorem xy:aE ["_law_cell","_law_k","_law_m"] ["_law_cell","_law_k"] (au pF):=jJ
noncomputable abbrev sX:qam:=top 85
theorem qV:aE ["_law_script","_law_signs_here","_law_rows","_law_k","_law_cell"] ["_law_script","_law_signs_here"] (au sX):=jJ
noncomputable abbrev qa:qam:=top 86
theorem oV:aE ["_law_m","_law_begin","_law_moves","_law_k","_law_two","_law_move"] ["_law_m","_law_begin","_law_moves"] (au qa):=jJ
noncomputable abbrev qH:qam:=top 87
theorem yS:aE ["_law_prices_here","_law_first","_law_second","_law_manner_here","_law_begin","_law_moves","_law_walked"] ["_law_prices_here","_law_first","_law_second","_law_manner_here","_law_begin","_law_moves"] (au qH):=jJ
noncomputable abbrev ia:qam:=top 88
theorem bB:aE ["_law_script","_law_prices_here","_law_rows","_law_manner_here","_law_told","_law_least","_law_begin","_law_moves","_law_alike","_law_k","_law_cell","_law_new","_law_cost_here","_law_first"] ["_law_script","_law_prices_here","_law_rows","_law_manner_here","_law_told","_law_least"] (au ia):=jJ
noncomputable abbrev vJ:qam:=top 89
theorem wA:aE ["_law_script","_law_at","_law_prices_here","_law_manner_here","_law_rows","_law_told","_law_least"] ["_law_script"] (au vJ):=jJ
noncomputable abbrev l6:List v_:=["_law_script","_law_at"]
noncomputable abbrev l7:List v_:=["first_begin","state_behind"]
noncomputable abbrev l8:List v_:=["prices"]
noncomputable abbrev l9:List v_:=["ground","rests","state"]
noncomputable abbrev Nh:List v_:=["ground","rests"]
noncomputable abbrev O3:List v_:=["price"]
noncomputable abbrev O2:List v_:=["prices","one","other"]
noncomputable abbrev QD:List v_:=["prices","first","second","manner"]
noncomputable abbrev QC:List v_:=["prices","first","second"]
noncomputable abbrev QB:List v_:=["_law_script","_law_at","_law_many"]
noncomputable abbrev RC:List v_:=["one","other"]
noncomputable abbrev RB:List v_:=["prices","number"]
noncomputable abbrev RA:List v_:=["prices","rows"]
noncomputable abbrev Rz:List v_:=["prices","move","came"]
noncomputable abbrev SK:List v_:=["self","prices","first","second","manner"]
noncomputable abbrev SJ:List v_:=["_law_found","_law_due"]
noncomputable abbrev Vh:List v_:=["price","unit"]
noncomputable abbrev Vg:List v_:=["ground"]
noncomputable abbrev Vf:List v_:=["prices","pair","across","under","beside"]
noncomputable abbrev Ve:List v_:=["prices","first","second","came","lasts","used"]
noncomputable abbrev Vd:List v_:=["_law_cell","_law_k"]
noncomputable abbrev Vc:List v_:=["_law_prices_here","_law_first","_law_second","_law_manner_here","_law_begin","_law_moves"]
noncomputable abbrev Wj:List v_:=["self","signs","pairs","opening","more"]
noncomputable abbrev Wi:List v_:=["_law_script"]
noncomputable abbrev Yj:List v_:=["fraction"]
noncomputable abbrev Yi:List v_:=["pairs","opening","more"]
noncomputable abbrev Yh:List v_:=["signs","pairs"]
noncomputable abbrev Yg:List v_:=["signs","pairs","unit"]
noncomputable abbrev Ye:List v_:=["known","rows"]
noncomputable abbrev Yd:List v_:=["manner","place"]
noncomputable abbrev Yc:List v_:=["manner","first","second","place"]
noncomputable abbrev Yb:List v_:=["first","second"]
noncomputable abbrev X8:List v_:=["prices","first","second","place","came"]
noncomputable abbrev X7:List v_:=["prices","first","second","places"]
noncomputable abbrev X6:List v_:=["first","second","places","manner"]
noncomputable abbrev X5:List v_:=["ground","rests","begin"]
noncomputable abbrev X4:List v_:=["prices","came","pair","across","under","beside"]
noncomputable abbrev X3:List v_:=["prices","second","lasts"]
noncomputable abbrev XZ:List v_:=["prices","sign","second","under"]
noncomputable abbrev XY:List v_:=["prices","first","second","used"]
noncomputable abbrev XX:List v_:=["first","second","place"]
noncomputable abbrev XW:List v_:=["place","move"]
noncomputable abbrev XU:List v_:=["first","second","begin","moves"]
noncomputable abbrev XT:List v_:=["prices","first","second","begin","moves"]
noncomputable abbrev XS:List v_:=["prices","first","second","stops","low","high","used"]
noncomputable abbrev XR:List v_:=["ahead","stop"]
noncomputable abbrev XQ:List v_:=["_law_script","_law_at","_law_sort"]
noncomputable abbrev XO:List v_:=["_law_prices_here","_law_goes_on"]
noncomputable abbrev XN:List v_:=["_law_manner_here","_law_i","_law_j"]
noncomputable abbrev XM:List v_:=["_law_manner_here","_law_first","_law_second","_law_i","_law_j"]
noncomputable abbrev XJ:List v_:=["_law_prices_here","_law_first","_law_second","_law_begin","_law_moves"]
noncomputable abbrev XI:List v_:=["_law_begin","_law_moves"]
noncomputable abbrev XH:List v_:=["_law_script","_law_signs_here"]
noncomputable abbrev XG:List v_:=["_law_m","_law_begin","_law_moves"]
noncomputable abbrev XF:List v_:=["_law_script","_law_prices_here","_law_rows","_law_manner_here","_law_told","_law_least"]
noncomputable abbrev l61:List v_:=["behind","cost","rests"]
noncomputable abbrev l62:List v_:=["_law_k","_law_every","_law_m","_law_step"]
noncomputable abbrev l63:List v_:=["_law_j","_law_script","_law_at","_law_many","_law_sort"]
noncomputable abbrev l64:List v_:=["_law_k","_law_script","_law_at","_law_sort"]
structure Pm where
 pT:qcN
 qS:qcN
 lV:U
 oN:U
 nM:U
 lz:U
 ly:U
 k9:U
 lW:U
 aq:U
 aR:U
structure Txt(K:PySem.W.Frag)(mg:v_->Option k_)(p:Pm)(w:I_)(base:W_):Prop where
 WI:mg "abs" =none
 cB:mg "len" =none
 z_ord:mg "ord" =none
 WH:mg "set" =none
 uZ:mg "tuple" =none
 Ko:mg "zip" =none
 pq:mg "enumerate" =none
 mU:mg "range" =none
 bQ:mg "isinstance" =none
 CY:mg "int" =none
 Np:mg "bool" =none
 Sg:mg "all" =none
 wg:mg "list" =none
 Kq:mg "str" =none
 Fw:mg "min" =none
 Ak:mg "reversed" =none
 WG:mg "sum" =none
 EH:mg "FIRST_SIGN" =some (.int 32 p.pT)
 G2:mg "LAST_SIGN" =some (.int 126 p.qS)
 JF:mg "NO_SIGNS" =some (.ref p.lV)
 IX:∀H:Hp,bZ K H p.lV [.int 34,.int 37,.int 45]
 MJ:mg "MANNERS" =some (.ref p.oN)
 L1:∀H:Hp,bZ K H p.oN [.str (h_ "whole"),.str (h_ "within"),.str (h_ "over"),.str (h_ "stretch")]
 Lh:mg "STEPS" =some (.ref p.nM)
 GV:∀P:r_,KDict P w K p.nM [(.inr (h_ "p"),.ref p.lz),(.inr (h_ "a"),.ref p.ly),(.inr (h_ "b"),.ref p.k9)]
 Oh:∀H:Hp,bZ K H p.lz [.int 1,.int 1]
 Og:∀H:Hp,bZ K H p.ly [.int 1,.int 0]
 Oe:∀H:Hp,bZ K H p.k9 [.int 0,.int 1]
 JG:mg "CAME" =some (.ref p.lW)
 AI:∀H:Hp,bZ K H p.lW [.str (h_ "p"),.str (h_ "a"),.str (h_ "b")]
 Mm:mg "Prices" =some (.ref p.aq)
 bI:Sf K p.aq
 nD:c7 K p.aq "signs"
 qL:c7 K p.aq "pairs"
 n8:c7 K p.aq "opening"
 rM:c7 K p.aq "more"
 n9:c7 K p.aq "factors"
 o8:c7 K p.aq "unit"
 uH:c7 K p.aq "costs"
 nE:c7 K p.aq "opening_units"
 pS:c7 K p.aq "more_units"
 Dr:mg "Ground" =some (.ref p.aR)
 gC:Sf K p.aR
 ig:c7 K p.aR "steps"
 pR:c7 K p.aR "begins"
 rN:c7 K p.aR "ends"
 bm:Tp base mg
 Bh:ue K "first_begin" =true
 Be:∀f,mg "first_begin" =some (.ref f)->PySem.W.nsIn K J_ "first_begin" =some (some (.ref f))
 zJ:ue K "state_behind" =true
 zI:∀f,mg "state_behind" =some (.ref f)->PySem.W.nsIn K J_ "state_behind" =some (some (.ref f))
theorem V5:bootBuiltins "abs" =some (.builtin "abs"):=by decide +kernel
theorem bA:bootBuiltins "len" =some (.builtin "len"):=by decide +kernel
theorem V4:bootBuiltins "ord" =some (.builtin "ord"):=by decide +kernel
theorem V3:bootBuiltins "set" =some (.type "set"):=by decide +kernel
theorem sN:bootBuiltins "tuple" =some (.type "tuple"):=by decide +kernel
theorem bJ:bootBuiltins "isinstance" =some (.builtin "isinstance"):=by decide +kernel
theorem yL:bootBuiltins "int" =some (.type "int"):=by decide +kernel
theorem LC:bootBuiltins "bool" =some (.type "bool"):=by decide +kernel
theorem P9:bootBuiltins "all" =some (.builtin "all"):=by decide +kernel
theorem tU:bootBuiltins "list" =some (.type "list"):=by decide +kernel
theorem EN:bootBuiltins "str" =some (.type "str"):=by decide +kernel
theorem BD:bootBuiltins "min" =some (.builtin "min"):=by decide +kernel
theorem V2:bootBuiltins "sum" =some (.builtin "sum"):=by decide +kernel
section
variable{P:r_}{w:I_}{K:PySem.W.Frag}{mg:v_->Option k_}{base:W_}
theorem vE {bu:U}{bf:F_}{p:Pm}(T:Txt K mg p w base)(aO:Dn K mg "greatest_divisor" dZ RC bu bf)  :aH P w K mg base bL 1 bu bf RC KJ:=by
 refine aO.fn.jg g9 (λvs H Q E h=>?_) (λ_ _ _ _ H vs Q E hr h=>?_)
 ·obtain⟨a,b,rfl,_⟩:=h;rfl
 ·obtain⟨a,b,rfl,hb,k⟩:=h;intro X;refine⟨_,(aj (AJ P_ (aF vM (pv 1) ah (aG _)) (aj (Z9X 2 g9.nd (aA bV (pv 0) (pv 1)))
   (aj (Z9X 0 g9.nd (pv 1))
   (ao (Z9X 1 g9.nd (pv 2))))))
   (ao (aI (aC (P8) rfl T.WI V5 (aa (pv 0) af))))),?_⟩
  refine⟨λm σ H'=>H'=H/\nN λ(x y:Int) (r:Option V)=>σ=[some (.int x),some (.int y),r]/\0<=y/\qag x y=qag a b/\m=y.toNat,⟨b.toNat,Y,a,b,none,Y,hb,Y,Y⟩,?_⟩;rintro m σ H' ⟨rfl,x,y,r,rfl,hy,hg,rfl⟩;refine⟨_,Y,Y,_,Y,?_⟩;refine EC (λh0=>?_) (λh0=>?_)
  ·have l1:=qao x h0;have l2:=qan x (show 0<y by omega);refine⟨λσ' Qm=>Qm=H'/\∃r,σ'=[some (.int y),some (.int (x % y)),r],?_,?_⟩
   ·rintro σ' Qm ⟨rfl,r,rfl⟩;exact⟨(x % y).toNat,by omega,Y,y,x % y,r,Y,l1,(Pu x y).trans hg,Y⟩
   ·exact⟨_,Y,_,Y,_,_,Y,Y,(by show 0<y;omega),_,Y,_,Y,Y,_,Y⟩
  ·subst h0;refine⟨_,Y,_,Y,?_⟩;rw[RQ,hg];exact k
theorem L5 {sJ bu:U}{qq bf:F_}{p:Pm}(T:Txt K mg p w base)(pK:Dn K mg "lowest" xB Yj sJ qq)(aO:Dn K mg "greatest_divisor" dZ RC bu bf)(gi:aH P w K mg base bL 1 bu bf RC KJ):aH P w K mg base bL 2 sJ qq Yj (Sn K):=by
 refine pK.fn.jg Dh (λvs H Q E h=>?_) (λ_ _ _ _ H vs Q E hr h=>?_)
 ·obtain⟨p,f,rfl,_⟩:=h;rfl
 ·obtain⟨p,⟨a,b⟩,rfl,hS,hb,hb2,k⟩:=h;have hb0:0<b:=hb;have g1:=tL a hb0;have g2:=JE a hb0;have hb':b<1073741824:=hb2;intro X;refine⟨_,(aj (Z9X 1 Dh.nd (gc gi hr aO (aa (aD aJ (pv 0) ah (λ_ _=>rfl)) (aa (aD aJ (pv 0) ah (λ_ _=>rfl)) af))))
   (ao (aI (aW (aa (aA c6 (aD aJ (pv 0) ah (λ_ _=>rfl)) (pv 1)) (aa (aA c6 (aD aJ (pv 0) ah (λ_ _=>rfl)) (pv 1)) af)))))),?_⟩
  refine⟨_,Y,_,_,_,_,Y,Y,hS,Y,_,Y,_,_,_,_,Y,Y,hS,Y,a,b,Y,qaV hb,?_⟩;refine⟨_,Y,_,_,_,_,Y,Y,hS,Y,_,Y,_,_,Y,Y,⟨g1,by omega⟩,_,Y,_,_,_,_,Y,Y,hS,Y,_,Y,_,_,Y,Y,⟨g1,by omega⟩,?_⟩;exact⟨c_,λq hq=>k q hq⟩
theorem zF {dm sJ:U}{cS qq:F_}{p:Pm}(T:Txt K mg p w base)(bz:Dn K mg "lowest_price" jP O3 dm cS)(pK:Dn K mg "lowest" xB Yj sJ qq)(Qn:aH P w K mg base bL 2 sJ qq Yj (Sn K)):aH P w K mg base bL 3 dm cS O3 (wz K):=by
 refine bz.fn.jg zv (λvs H Q E h=>?_) (λ_ _ _ _ H vs Q E hr h=>?_)
 ·obtain⟨p,f,rfl,_⟩:=h;rfl
 ·obtain⟨p,f,rfl,hS,⟨h1,h2⟩,k⟩:=h;intro X;refine⟨_,(aj (bH (aF sy (aD aJ (pv 0) ah (λ_ _=>rfl)) ah (aG _)) cX aP)
   (ao (aI (gc Qn hr pK (aa (pv 0) af))))),?_⟩
  refine⟨_,Y,_,_,_,_,Y,Y,hS,Y,_,_,Y,Y,_,Y,?_⟩;refine b9 (λz=>absurd z (by omega)) λ_=>?_;exact⟨_,Y,p,f,Y,hS,by omega,h2,k⟩
theorem yx {gz dm:U}{fT cS:F_}{p:Pm}(T:Txt K mg p w base)(dR:Dn K mg "lowest_prices" lR ["row"] gz fT)(bz:Dn K mg "lowest_price" jP O3 dm cS)(nQ:aH P w K mg base bL 3 dm cS O3 (wz K)):aH P w K mg base bL 4 gz fT ["row"] (yQ K):=by
 refine dR.fn.jg yq (λvs H Q E h=>?_) (λ_ _ _ _ H vs Q E hr h=>?_)
 ·obtain⟨c,fs,rfl,_⟩:=h;rfl
 ·obtain⟨c,fs,rfl,⟨ps,hc,hp⟩,ho,hz,k⟩:=h;have hl:=Paired.len hp;intro X;refine⟨_,(ao (aI (jj (vW) Y T.uZ sN (aa (tG (N:=O3) Y (λ_=>⟨[],ee.plain (by decide +kernel) Y (by decide +kernel) (by decide +kernel)⟩) (Dj (pv 0)) (λ_ _ _ _ _ _ _=>(aL (i:=0) (show(O3:List v_).Nodup by decide +kernel) Y (Or.inl Y))) (λ_ _ _ _ _ _ _=>(gc nQ hr bz (aa (pv 0) af)))) af)))),?_⟩;refine⟨_,Y,c,_,Y,hc,λl VE=>?_⟩;refine⟨λi m ys H2=>m=fs.length-i/\i<=fs.length/\ak H H2/\H2 l=some (.lst ys)/\∃qs:List U,ys=qs.map V.ref/\qs.length=i/\Paired (λq f=>H2 q=some (.tup [.int f.1,.int f.2])) qs ((fs.map nF).take i),⟨fs.length,Y,Q_ _,ak.upd VE,ai,[],Y,Y,.nil⟩,?_⟩;rintro i m ys H2 ⟨rfl,hi,s2,hl2,qs,rfl,hq,hP⟩;have zc:c.at K H2 (ps.map V.ref):=ak.cp s2 hc;by_cases hlt:i<fs.length
  ·have hpi:i<ps.length:=by omega
   have e1:(ps.map V.ref)[i]? =some (.ref ps[i]):=by rw[O_,g_ hpi];rfl
   refine .inr ⟨⟨_,_,zc,e1⟩,?_⟩;rintro x H3 ⟨rfl,hx⟩;have ex:=hx _ zc;rw[e1]at ex;cases ex;obtain⟨f,ef,hf⟩:=Paired.at hp (g_ hpi);refine⟨Kp.rep _ _,?_⟩;refine⟨_,Y,ps[i],f,Y,hf.same s2,ho f (A_ ef),λq hqn=>?_⟩;have Z3:q≠l:=λz=>by rw[z,hl2]at hqn;cases hqn
   refine⟨by rw[av (Ne.symm Z3)];exact hl2,?_,fs.length-(i+1),by omega,Y,hlt,ak.at (s2.trans (ak.upd hqn)) VE,ai,qs++[q],by rw[M_];rfl,by rw[G_,hq];rfl,?_⟩
   ·rw[l_,hq];exact H_ hlt (p_ hz (by decide))
   ·rw[vQ ef];refine GP.Paired.snoc (Paired.ji hP λa b z=>?_) ?_
    ·have n1:a≠q:=aX z hqn;have n2:a≠l:=uc z hl2 (by intro z;cases z);rw[av n2,av n1];exact z
    ·rw[av Z3];exact ai
  ·have ei:i=fs.length:=by omega
   subst ei;refine .inl ⟨⟨_,zc,by rw[l_];omega⟩,?_⟩;refine⟨l,_,Y,.inl ⟨bW.of hl2,λq hqn=>?_⟩⟩;refine k q _ (s2.trans (ak.upd hqn)) (ak.free s2 hqn) ⟨qs,bZ.of ai,?_⟩;rw[X_ (by rw[l_];exact j_ _)]at hP;exact Paired.ji hP λa b z=>bZ.of (by rw[av (aX z hqn)];exact z)
theorem Cs {kR:U}{ju:F_}{p:Pm}(T:Txt K mg p w base)(gW:Dn K mg "all_unders" qf Yi kR ju)  :aH P w K mg base bL 1 kR ju Yi (F1 K):=by
 refine gW.fn.jg rH (λvs H Q E h=>?_) (λ_ _ _ _ H vs Q E hr h=>?_)
 ·obtain⟨Pp,o,m,rows,fo,fm,rfl,_⟩:=h;rfl
 ·obtain⟨Pp,o,m,rows,fo,fm,rfl,⟨cs,hc,hp⟩,hfo,hfm,ag7,Vv,k⟩:=h;intro X;refine⟨_,(aj (Z9X 3 rH.nd (ie (aa (aD aJ (pv 1) ah (λ_ _=>rfl)) (aa (aD aJ (pv 2) ah (λ_ _=>rfl)) af))))
   (aj (cV P_ rfl (Dj (pv 0)) (Z9Y 4 rH.nd) (ao (cD (lF PySem.F.plainAttrs_list PySem.F.slot_list_extend PySem.F.type_list_extend Mi (pv 3) (aa (tG (N:=O3) rfl (λ_=>⟨[],ee.plain (by decide +kernel) rfl (by decide +kernel) (by decide +kernel)⟩) (Dj (pv 4)) (λ_ _ _ _ _ _ _=>(aL (i:=0) (show(O3:List v_).Nodup by decide +kernel) rfl (Or.inl rfl))) (λ_ _ _ _ _ _ _=>(aD (RH (K':=K) rfl) (pv 0) ah (λ_ _=>rfl)))) af)))))
   (ao (aI (pv 3))))),?_⟩
  refine⟨_,Y,_,_,_,_,Y,Y,hfo,Y,_,Y,_,_,_,_,Y,Y,hfm,Y,c_,λl hl=>?_⟩;have adR:∀i,((rows.take i).flatten.map (·.2)).length<=12*12:=λi=>by
   have:∀(q:List (List cJ)),(∀r∈q,r.length<=12)->q.flatten.length<=12*q.length:=λq=>by
    induction q with
    |nil=>intro _;simp
    |cons r q ih =>
     intro h;have a:=h r z_;have b:=ih λr' hr=>h r' (s_ _ hr);rw[qb7,G_,qaa];omega
   have a:=this (rows.take i) λr hr=>Vv r (List.mem_of_mem_take hr);have b:(rows.take i).length<=12:=by rw[qaC];omega
   rw[l_];omega
  refine⟨_,Y,.tup Pp,_,Y,ak.cp (ak.upd hl) (c:=.tup Pp) hc,JI (K:=K) (c:=.tup Pp) (xs:=cs.map Cp.val) (λi σ H2=>∃v4,σ=[some (.ref Pp),some (.ref o),some (.ref m),some (.ref l),v4]/\ak H H2/\H2 l=some (.lst ((fo.2::fm.2::(rows.take i).flatten.map (·.2)).map V.int)))
   ⟨_,rfl,ak.upd hl,ai⟩ (λi σ H2 _ ⟨_,_,s2,_⟩=>ak.cp s2 hc) ?_ ?_⟩
  ·rintro i x σ H2 hx ⟨v4,rfl,s2,hl2⟩;obtain⟨c,ec,rfl⟩:=i9 hx;obtain⟨row,er,⟨ps,hc2,hp2⟩⟩:=Paired.at hp ec;have YW:=ak.cp s2 hc2;refine⟨_,Y,.inl ⟨Y,_,bW.of hl2⟩,?_⟩;refine⟨_,Y,c,_,Y,YW,λlx hlx=>?_⟩;refine⟨λj m' ys H3=>m'=row.length-j/\j<=row.length/\ak H2 H3/\H3 lx=some (.lst ys)/\ys=((row.take j).map (·.2)).map V.int,⟨row.length,Y,Q_ _,ak.upd hlx,ai,Y⟩,?_⟩;rintro j m' ys H3 ⟨rfl,hj,s3,VA,rfl⟩;have zr:=ak.cp s3 YW;by_cases hjt:j<row.length
   ·have hpj:j<ps.length:=by rw[Paired.len hp2];exact hjt
    have e1:(ps.map V.ref)[j]? =some (.ref ps[j]):=by rw[O_,g_ hpj];rfl
    refine .inr ⟨⟨_,_,zr,e1⟩,?_⟩;rintro y H4 ⟨rfl,Yy⟩;have ey:=Yy _ zr;rw[e1]at ey;cases ey;refine⟨Kp.rep _ _,?_⟩;obtain⟨f,ef,hf⟩:=Paired.at hp2 (g_ hpj);have hf':=hf.same (s2.trans s3);refine⟨_,Y,_,_,_,_,Y,Y,hf',Y,?_⟩;refine⟨VA,?_,row.length-(j+1),by omega,Y,hjt,ak.at s3 hlx,ai,?_⟩
    ·rw[l_,l_,qaC];have:=Vv row (A_ er);exact H_ (show min j row.length<100 by omega) (by decide)
    ·rw[take_snoc ef,M_,M_];rfl
   ·have ej:j=row.length:=by omega
    subst ej;rw[X_ (j_ _)]at VA;refine .inl ⟨⟨_,zr,by rw[l_,Paired.len hp2];exact j_ _⟩,?_⟩;have hl3:=s3 _ _ hl2;refine⟨l,lx,_,_,Y,Y,hl3,VA,?_,?_⟩
    ·have a:=adR i;have a2:=Vv row (A_ er);have a3:((fo.2::fm.2::(rows.take i).flatten.map (·.2)).map V.int).length+((row.map (·.2)).map V.int).length<=200:=by
      rw[l_,qaa,qaa,l_,l_,l_];rw[l_]at a;omega
     exact p_ a3 (by decide)
    refine⟨_,Y,ak.at (s2.trans s3) hl,?_⟩;rw[ai,take_snoc er,List.flatten_append,M_];simp
  ·rintro σ H2 ⟨v4,rfl,s2,hl2⟩;refine⟨_,Y,?_⟩;rw[l_,Paired.len hp,X_ (j_ _)]at hl2;exact k l H2 s2 hl hl2
theorem zA {iE bu:U}{gq bf:F_}{p:Pm}(T:Txt K mg p w base)(eO:Dn K mg "unit_factors" m8 ["unders"] iE gq)(aO:Dn K mg "greatest_divisor" dZ RC bu bf)(gi:aH P w K mg base bL 1 bu bf RC KJ):aH P w K mg base bL 2 iE gq ["unders"] (De K):=by
 refine eO.fn.jg gp (λvs H Q E h=>?_) (λ_ _ _ _ H vs Q E hr h=>?_)
 ·obtain⟨l,ns,rfl,_⟩:=h;rfl
 ·obtain⟨l,ns,rfl,hl,hn,hs,k⟩:=h;intro X;refine⟨_,(aj (Z9X 1 gp.nd (ie af))
   (aj (Z9X 2 gp.nd ah)
   (aj (cV P_ rfl (qj (pv 0)) (Z9Y 3 gp.nd) (aj (Z9X 4 gp.nd (aA c6 (pv 3) (gc gi hr aO (aa (pv 2) (aa (pv 3) af)))))
   (ao (bH (aF vN (pv 4) ah (aG _)) (aj (cD (lF PySem.F.plainAttrs_list PySem.F.slot_list_append PySem.F.type_list_append cO (pv 1) (aa (pv 4) af)))
   (ao (Z9X 2 gp.nd (aA nB (pv 2) (pv 4))))) aP))))
   (ao (aI (pv 1)))))),?_⟩
  refine⟨a_,λq hq=>?_⟩;refine⟨_,Y,l,Y,⟨_,ak.seq (ak.upd hq) hl⟩,sG (K:=K) (a:=l) (xs:=ns.map V.int) (λi σ H2=>dP λv3 v4=>σ=[some (.ref l),some (.ref q),some (.int (sH (ns.take i)).2),v3,v4]/\ak H H2/\H2 q=some (.lst ((sH (ns.take i)).1.map V.int)))
   ⟨_,_,rfl,ak.upd hq,ai⟩ (λi σ H2 _ ⟨_,_,_,s2,_⟩=>ak.seq s2 hl) ?_ ?_⟩
  ·rintro i x σ H2 hx ⟨v3,v4,rfl,s2,hq2⟩;obtain⟨b,eb,rfl⟩:=i9 hx;have hi:i<ns.length:=(o_.mp eb).1;have hb:=hs b (A_ eb);have F:=yJ hs i (qaJ hi);have es:sH (ns.take (i+1))=vA (sH (ns.take i)) b:=by rw[take_snoc eb,By]
   have fl:=F.len;rw[qaC]at fl;rw[es];unfold vA;generalize hp:sH (ns.take i)=pr at *;obtain⟨fs,u⟩:=pr;obtain⟨b1,b2⟩:=hb;have g1:=tL u b1;have g2:=JE u b1;obtain⟨d1,d2⟩:=Lq (u:=u) ⟨b1,b2⟩;refine⟨_,Y,_,Y,_,Y,u,b,Y,qaV b1,_,_,Y,Y,⟨g1,by omega⟩,_,Y,_,_,Y,Y,_,Y,?_⟩;refine b9 (λh1=>?_) (λh1=>?_)
   ·rw[if_pos h1];refine⟨_,Y,.inl ⟨Y,_,bW.of hq2⟩,_,Y,q,_,_,Y,Y,hq2,?_,?_⟩
    ·rw[l_];exact w_ (show fs.length<=1000 by dsimp only at fl;omega) (by decide)
    refine⟨_,Y,_,Y,_,_,Y,Y,.inr ⟨by omega,by omega⟩,?_⟩;exact⟨_,_,Y,ak.at s2 hq,by rw[ai,M_];rfl⟩
   ·rw[if_neg h1];exact⟨_,_,Y,s2,hq2⟩
  ·rintro σ H2 ⟨v3,v4,rfl,s2,hq2⟩;refine⟨_,Y,?_⟩;rw[l_,X_ (j_ _)]at hq2;exact k q H2 s2 hq hq2
theorem Ci {kJ:U}{jn:F_}{p:Pm}(T:Txt K mg p w base)(gO:Dn K mg "product_of" pZ ["factors"] kJ jn)  :aH P w K mg base bL 1 kJ jn ["factors"] (NQ K):=by
 refine gO.fn.jg oU (λvs H Q E h=>?_) (λ_ _ _ _ H vs Q E hr h=>?_)
 ·obtain⟨l,fs,rfl,_⟩:=h;rfl
 ·obtain⟨l,fs,rfl,hl,hs,k⟩:=h;intro X;refine⟨_,(aj (Z9X 1 oU.nd ah)
   (aj (cV P_ rfl (qj (pv 0)) (Z9Y 2 oU.nd) (ao (Z9X 1 oU.nd (aA nB (pv 1) (pv 2)))))
   (ao (aI (pv 1))))),?_⟩
  refine⟨_,Y,l,Y,⟨_,hl⟩,sG (K:=K) (a:=l) (xs:=fs.map V.int) (λi σ H2=>H2=H/\∃v2,σ=[some (.ref l),some (.int (vL (fs.take i))),v2])
   ⟨rfl,_,rfl⟩ (λi σ H2 _ ⟨e,_⟩=>by subst e;exact hl) ?_ ?_⟩
  ·rintro i x σ H2 hx ⟨rfl,v2,rfl⟩;obtain⟨b,eb,rfl⟩:=i9 hx;obtain⟨b1,b2⟩:=hs b (A_ eb);refine⟨_,Y,_,Y,_,_,Y,Y,.inr ⟨by omega,by omega⟩,Y,some (.int b),?_⟩;rw[take_snoc eb,wH];rfl
  ·rintro σ H2 ⟨rfl,v2,rfl⟩;refine⟨_,Y,?_⟩;rw[l_,X_ (j_ _)];exact k
theorem Jh {kQ:U}{jc:F_}{p:Pm}(T:Txt K mg p w base)(dN:Dn K mg "by_unit" su Vh kQ jc)  :aH P w K mg base bL 1 kQ jc Vh (Ay K):=by
 refine dN.fn.jg IU (λvs H Q E h=>?_) (λ_ _ _ _ H vs Q E hr h=>?_)
 ·obtain⟨p,f,u,rfl,_⟩:=h;rfl
 ·obtain⟨p,f,u,rfl,hS,⟨h1,h2⟩,b1,b2,k⟩:=h;intro X;refine⟨_,(ao (aI (aA Rg (aD aJ (pv 0) ah (λ_ _=>rfl)) (aA c6 (pv 1) (aD aJ (pv 0) ah (λ_ _=>rfl)))))),?_⟩;exact⟨_,Y,_,_,_,_,Y,Y,hS,Y,_,Y,_,Y,_,_,_,_,Y,Y,hS,Y,_,_,Y,Y,⟨by omega,h2⟩,_,_,Y,Y,⟨b1,b2⟩,k⟩
end
section
variable{P:r_}{w:I_}{K:PySem.W.Frag}{mg:v_->Option k_}{base:W_}
theorem Je {qA:U}{oB:F_}{p:Pm}(T:Txt K mg p w base)(mR:Dn K mg "is_sign" vj ["sign"] qA oB)  :aH P w K mg base bL 1 qA oB ["sign"] F8:=by
 refine mR.fn.jg AD (λvs H Q E h=>?_) (λ_ _ _ _ H vs Q E hr h=>?_)
 ·obtain⟨c,rfl,_⟩:=h;rfl
 ·obtain⟨c,rfl,k⟩:=h;intro X;refine⟨_,(aj (Z9X 1 AD.nd (aC (P1) Y T.z_ord V4 (aa (pv 0) af)))
   (ao (aI (nY (Ou Dl Dl (qk (v:=.int 32) rfl T.EH ⟨_,rfl⟩) (pv 1) (qk (v:=.int 126) rfl T.G2 ⟨_,rfl⟩)) (nX (b8 xG (pv 1) (qk (v:=.ref p.lV) rfl T.JF rfl) (by with_unfolding_all rfl))))))),?_⟩
  refine⟨_,Y,_,Y,Y,?_⟩;have k':Q (.bl ((decide ((32:Int)<=(c:Int))&&decide ((c:Int)<=126))&& !SN (.int c) [.int 34,.int 37,.int 45])) H:=k;refine⟨_,Y,_,_,Y,Y,_,Y,?_⟩;refine b9 (λh1=>?_) (λh1=>?_)
  ·refine⟨_,_,Y,Y,_,Y,?_⟩;have xS:(32:Int)<=(c:Int):=h1;rw[decide_eq_true xS,qb5]at k';refine b9 (λh2=>?_) (λh2=>?_)
   ·have h2':(c:Int)<=126:=h2;rw[decide_eq_true h2',qb5]at k';exact⟨_,Y,_,_,Y,.inr (T.IX _),Y,Y,k'⟩
   ·have h2':¬(c:Int)<=126:=h2;rw[decide_eq_false h2',qbf]at k';exact k'
  ·have xS:¬(32:Int)<=(c:Int):=h1;rw[decide_eq_false xS,qbf,qbf]at k';exact⟨_,Y,gF k'⟩
theorem Ex {mK qA:U}{kB oB:F_}{p:Pm}(T:Txt K mg p w base)(iW:Dn K mg "are_signs" rm ["text"] mK kB)(mR:Dn K mg "is_sign" vj ["sign"] qA oB)(Nc:aH P w K mg base bL 1 qA oB ["sign"] F8):aH P w K mg base bL 2 mK kB ["text"] Az:=by
 refine iW.fn.jg D7 (λvs H Q E h=>?_) (λ_ _ _ _ H vs Q E hr h=>?_)
 ·obtain⟨x,rfl,_⟩:=h;rfl
 ·obtain⟨x,rfl,hx,k⟩:=h;intro X;refine⟨_,(ao (aI (aC (zl Y) Y T.Sg P9 (aa (tG (N:=["sign"]) Y (λ_=>⟨[],ee.plain (by decide +kernel) Y (by decide +kernel) (by decide +kernel)⟩) (IZ (pv 0)) (λ_ _ _ _ _ _ _=>(aL (i:=0) (show(["sign"]:List v_).Nodup by decide +kernel) Y (Or.inl Y))) (λ_ _ _ _ _ _ _=>(gc Nc hr mR (aa (pv 0) af)))) af)))),?_⟩;refine⟨_,Y,x,Y,λl hl=>?_⟩;refine⟨λi m ys H2=>m=x.cps.size-i/\i<=x.cps.size/\ak H H2/\H2 l=some (.lst ys)/\ys=((x.cps.toList.take i).map tH).map V.bl,⟨x.cps.size,Y,Q_ _,ak.upd hl,ai,Y⟩,?_⟩;rintro i m ys H2 ⟨rfl,hi,s2,hl2,rfl⟩;by_cases hlt:i<x.cps.size
  ·refine .inr ⟨hlt,?_⟩;rintro y H3 ⟨rfl,c,ec,rfl⟩;refine⟨Kp.rep _ _,?_⟩;refine⟨_,Y,c,Y,?_⟩;refine⟨hl2,?_,x.cps.size-(i+1),by omega,Y,hlt,ak.at s2 hl,ai,?_⟩
   ·rw[l_,l_,qaC];exact w_ (show min i x.cps.toList.length<=1000 by omega) (by decide)
   ·rw[take_snoc (x:=c) (by rw[qal];exact ec),M_,M_];rfl
  ·have ei:i=x.cps.size:=by omega
   subst ei;refine .inl ⟨j_ _,?_⟩;rw[X_ (by rw[N_];exact j_ _)]at hl2;refine⟨l,_,Y,bW.of hl2,?_⟩;have e:(x.cps.toList.map tH).all id=x.cps.toList.all tH:=by rw[List.all_map];rfl
   rw[e];exact k H2 s2
theorem AS {jz mK:U}{iA kB:F_}{p:Pm}(T:Txt K mg p w base)(fO:Dn K mg "check_signs" oZ ["signs"] jz iA)(iW:Dn K mg "are_signs" rm ["text"] mK kB)(HX:aH P w K mg base bL 2 mK kB ["text"] Az):aH P w K mg base bL 3 jz iA ["signs"] xq:=by
 refine fO.fn.jg AF (λvs H Q E h=>?_) (λ_ _ _ _ H vs Q E hr h=>?_)
 ·obtain⟨x,rfl,_⟩:=h;rfl
 ·obtain⟨x,rfl,⟨h1,h2,h3,h4⟩,k⟩:=h;intro X;refine⟨_,(aj (bH (aF bM (aC (aQ) Y T.cB bA (aa (pv 0) af)) ah (aG _)) cX aP)
   (aj (bH (wD (kY (gc HX hr iW (aa (pv 0) af)))) cX aP)
   (ao (bH (aF vM (aC (CC) rfl T.cB bA (aa (jj (MT rfl) rfl T.WH V3 (aa (pv 0) af)) af)) (aC (aQ) rfl T.cB bA (aa (pv 0) af)) (aG _)) cX aP)))),?_⟩
  have hz:x.length<=D_:=p_ h2 (by decide);refine⟨_,Y,_,_,Y,⟨hz,Y⟩,Y,_,Y,?_⟩;refine jQ (λz=>absurd z (by show ¬((x.cps.size:Nat):Int)=0;omega)) λ_=>?_;refine⟨_,Y,x,Y,p_ h2 (by decide),λH2 s2=>?_⟩;refine⟨_,Y,?_⟩;rw[qbI.mpr h3];refine uM ?_;refine⟨_,Y,x,Y,w_ (qar h2) (by decide),λp hp=>?_⟩;refine⟨p,_,Y,ai,_,Y,_,_,Y,⟨hz,Y⟩,Y,_,Y,?_⟩;refine EC (λz=>absurd (by rw[Mn h4];rfl) z) λ_=>?_;exact k _ (s2.trans (ak.upd hp))
theorem yz {gB:U}{fV:F_}{p:Pm}(T:Txt K mg p w base)(dX:Dn K mg "check_lengths" lT Yh gB fV)  :aH P w K mg base bL 1 gB fV Yh (uy K):=by
 refine dX.fn.jg sf (λvs H Q E h=>?_) (λ_ _ _ _ H vs Q E hr h=>?_)
 ·obtain⟨x,c,rows,rfl,_⟩:=h;rfl
 ·obtain⟨x,c,rows,rfl,⟨nc,cs,ncs,hc,hp⟩,hx,⟨hq1,hq2⟩,k⟩:=h;intro X;refine⟨_,(aj (bH (aF vM (aC (aQ) Y T.cB bA (aa (pv 1) af)) (aC (aQ) Y T.cB bA (aa (pv 0) af)) (aG _)) cX aP)
   (ao (cV P_ rfl (Dj (pv 1)) (Z9Y 2 sf.nd) (ao (bH (aF vM (aC (aQ) rfl T.cB bA (aa (pv 2) af)) (aC (aQ) rfl T.cB bA (aa (pv 0) af)) (aG _)) cX aP))))),?_⟩
  have hz:x.length<=D_:=p_ hx (by decide);have hl:(cs.map Cp.val).length=x.cps.size:=by rw[l_,Paired.len hp,hq1]
  refine⟨_,Y,_,_,Y,PU hc nc,_,Y,_,_,Y,⟨hz,Y⟩,Y,_,Y,?_⟩;refine EC (λz=>absurd (by rw[hl];rfl) z) λ_=>?_;refine⟨_,Y,c,_,Y,hc,JI (K:=K) (c:=c) (xs:=cs.map Cp.val) (λi σ H2=>H2=H/\∃v,σ=[some (.str x),some c.val,v]) ⟨Y,_,Y⟩ (λi σ H2 _ ⟨e,_⟩=>by subst e;exact hc) ?_ ?_⟩
  ·rintro i y σ H2 hy ⟨rfl,v,rfl⟩;obtain⟨d,ed,rfl⟩:∃d,cs[i]? =some d/\y=d.val:=by
    rw[O_]at hy
    cases e:cs[i]? with
    |none=>rw[e]at hy;cases hy
    |some d=>rw[e]at hy;exact⟨d,Y,(L_ hy).symm⟩
   obtain⟨row,er,hr2⟩:=Paired.at hp ed;refine⟨_,Y,_,_,Y,hr2.len (ncs d (A_ ed)),_,Y,_,_,Y,⟨hz,Y⟩,Y,_,Y,?_⟩;refine EC (λz=>absurd (by rw[hq2 row (A_ er)];rfl) z) λ_=>?_;exact⟨Y,_,Y⟩
  ·rintro σ H2 ⟨rfl,v,rfl⟩;exact k
end
section
variable{P:r_}{w:I_}{K:PySem.W.Frag}{mg:v_->Option k_}{base:W_}
theorem xH {fW kQ:U}{e7 jc:F_}{p:Pm}(T:Txt K mg p w base)(c5:Dn K mg "costs_by_signs" j6 Yg fW e7)(dN:Dn K mg "by_unit" su Vh kQ jc)(vD:aH P w K mg base bL 1 kQ jc Vh (Ay K)):aH P w K mg base bL 2 fW e7 Yg (KP K):=by
 refine c5.fn.jg eZ (λvs H Q E h=>?_) (λ_ _ _ _ H vs Q E hr h=>?_)
 ·obtain⟨x,Pp,u,rows,rfl,_⟩:=h;rfl
 ·obtain⟨x,Pp,u,rows,rfl,hM,hx,nd,⟨hq1,hq2⟩,ho,k⟩:=h;intro X;refine⟨_,(aj (Z9X 3 eZ.nd Gs)
   (aj (cV P_ rfl (Ec rfl rfl T.Ko (aa (pv 0) (aa (pv 1) af))) (nA (n:=2) rfl (bC (Z9Y 4 eZ.nd) (bC (Z9Y 5 eZ.nd) i7))) (ao (cV P_ rfl (Ec rfl rfl T.Ko (aa (pv 0) (aa (pv 5) af))) (nA (n:=2) rfl (bC (Z9Y 6 eZ.nd) (bC (Z9Y 7 eZ.nd) i7))) (ao (vq (jH hr) (pv 3) (aW (aa (pv 4) (aa (pv 6) af))) (gc vD hr dN (aa (pv 7) (aa (pv 2) af))) rfl)))))
   (ao (aI (pv 3))))),?_⟩
  intro d hd;obtain⟨qs,hqs,hp⟩:=hM;have hlen:qs.length=x.cps.size:=by rw[Paired.len hp,hq1]
  have hmin:min (fC x).length (qs.map V.ref).length=x.cps.size:=by rw[signs_length,l_,hlen,Nat.min_self]
  refine⟨_,Y,_,Y,.txt x,.tup Pp,_,_,Y,Y,Dat.tup (Dat.of (ak.upd hd)) hqs,EI (K:=K) (c:=.txt x) (d:=.tup Pp) (xs:=fC x) (ys:=qs.map V.ref) (λi σ H2=>BG λkvs v4 v5 v6 v7=>σ=[some (.str x),some (.ref Pp),some (.int u),some (.ref d),v4,v5,v6,v7]/\ak H H2/\H2 d=some (.dT kvs)/\kvs.length<=i*x.cps.size/\oQ kvs x rows u i 0)
   ⟨[],_,_,_,_,rfl,ak.upd hd,ai,Q_ _,oQ.nil x rows u⟩ (λi σ H2 _ ⟨kvs,v4,v5,v6,v7,_,s2,_⟩=>⟨rfl,Dat.tup (Dat.of s2) hqs⟩) ?_ ?_⟩
  ·rintro i y z p1 σ H2 hy hz hp1 ⟨kvs,v4,v5,v6,v7,rfl,s2,hd2,hk,hc⟩;obtain⟨a,ha,rfl⟩:=signs_get hy;obtain⟨q,hq,rfl⟩:=i9 hz;obtain⟨row,er,Vs⟩:=Paired.at hp hq;have hi:i<x.cps.size:=by rw[←hlen];exact(o_.mp hq).1
   obtain⟨ps,hps,hpp⟩:=Vs;have hpl:ps.length=x.cps.size:=by rw[Paired.len hpp,hq2 row (A_ er)]
   have YK:min (fC x).length (ps.map V.ref).length=x.cps.size:=by rw[signs_length,l_,hpl,Nat.min_self]
   refine⟨p1,_,Y,bZ.of ai,Y,_,_,Y,_,_,Y,Y,?_⟩;have U0:d≠p1:=aX hd2 hp1;refine⟨_,Y,_,Y,.txt x,.tup q,_,_,Y,Y,Dat.tup (Dat.of (s2.trans (ak.upd hp1))) hps,EI (K:=K) (c:=.txt x) (d:=.tup q) (xs:=fC x) (ys:=ps.map V.ref)
    (λj σ H3=>nN λkvs v6 v7=>σ=[some (.str x),some (.ref Pp),some (.int u),some (.ref d),some (.str ⟨#[a]⟩),some (.ref q),v6,v7]/\ak H H3/\H3 d=some (.dT kvs)/\kvs.length<=i*x.cps.size+j/\oQ kvs x rows u i j)
    ⟨kvs,v6,v7,rfl,s2.trans (ak.upd hp1),by rw[av U0];exact hd2,hk,hc⟩ (λj σ H3 _ ⟨kvs,v6,v7,_,s3,_⟩=>⟨rfl,Dat.tup (Dat.of s3) hps⟩) ?_ ?_⟩
   ·rintro j y z p2 σ H3 hy hz hp2 ⟨kvs,v6,v7,rfl,s3,B0,hk,hc⟩;obtain⟨b,hb,rfl⟩:=signs_get hy;obtain⟨pr,hpr,rfl⟩:=i9 hz;obtain⟨f,ef,hf⟩:=Paired.at hpp hpr;have hj:j<x.cps.size:=by rw[←hpl];exact(o_.mp hpr).1
    obtain⟨o1,o2,o3⟩:=ho row (A_ er) f (A_ ef);refine⟨p2,_,Y,bZ.of ai,Y,_,_,Y,_,_,Y,Y,?_⟩;have s4:=s3.trans (ak.upd (o:=.tup [.str ⟨#[b]⟩,.ref pr]) hp2);have MH:upd H3 p2 (.tup [.str ⟨#[b]⟩,.ref pr]) d=some (.dT kvs):=by rw[av (aX B0 hp2)];exact B0
    refine⟨_,Y,_,Y,pr,f,u,Y,hf.same s4,o1,o2.bg,o3.bg,?_⟩;refine⟨_,Y,_,Y,_,Y,c_,λt ht=>?_⟩;have JC:upd (upd H3 p2 (.tup [.str ⟨#[b]⟩,.ref pr])) t (.tup [.str ⟨#[a]⟩,.str ⟨#[b]⟩]) d=some (.dT kvs):=by rw[av (aX MH ht)];exact MH
    have hsz:kvs.length<D_:=by
     have:i*x.cps.size<=100*100:=qbx (by omega) hx;have:kvs.length<20000:=by omega
     exact H_ this (by decide)
    refine⟨d,_,Y,zZ.t (k:=keyOf a b) JC ai hsz,?_⟩;refine⟨putK kvs (keyOf a b) (.int (f.1*(u / f.2))),_,_,Y,ak.at (s4.trans (ak.upd ht)) hd,ai,?_,hc.put nd ha hb ⟨row,er,ef⟩⟩;have:=gE kvs (keyOf a b) (.int (f.1*(u / f.2)));omega
   ·rintro σ H3 ⟨kvs,v6,v7,rfl,s3,B0,hk,hc⟩;rw[YK]at hk hc;refine⟨kvs,_,_,_,_,Y,s3,B0,?_,hc.row (j_ _)⟩;rw[Nat.succ_mul];exact hk
  ·rintro σ H2 ⟨kvs,v4,v5,v6,v7,rfl,s2,hd2,hk,hc⟩;rw[hmin]at hc;exact⟨_,Y,k d H2 kvs s2 hd hd2 (hc.all (j_ _))⟩
theorem En {cG:U}{bY:F_}{p:Pm}(T:Txt K mg p w base)(bh:Dn K mg "pair_cost" jN O2 cG bY)  :aH P w K mg base bL 1 cG bY O2 (qE K p.aq):=by
 refine bh.fn.jg D4 (λvs H Q E h=>?_) (λ_ _ _ _ H vs Q E hr h=>?_)
 ·obtain⟨x,sg,rows,fo,fm,i,j,a,b,f,rfl,_⟩:=h;rfl
 ·obtain⟨x,sg,rows,fo,fm,i,j,a,b,f,rfl,⟨_,_,_,_,_,_,_,dx,Pp,o,m,d,kvs,h1,h2,h3,h4,h5,h6⟩,ha,hb,hf,k⟩:=h;intro X;refine⟨_,(ao (aI (i8 (jH hr) (eK (pv 0) Y) (aW (aa (pv 1) (aa (pv 2) af))) (λ_ _=>rfl)))),?_⟩;refine⟨_,Y,x,_,_,_,_,Y,h1,T.bI,T.uH,JJ,?_⟩;refine⟨_,Y,_,Y,c_,λt ht=>?_⟩;have JC:upd H t (.tup [.str ⟨#[a]⟩,.str ⟨#[b]⟩]) d.1=some (.dT kvs):=by rw[av (aX h5 ht)];exact h5
  have z:=rW.t (k:=keyOf a b) JC ai;rw[h6.1 i j a b f ha hb hf]at z;exact⟨d.1,_,Y,z,k _ (ak.upd ht)⟩
theorem zE {dh:U}{cR:F_}{p:Pm}(T:Txt K mg p w base)(bT:Dn K mg "opening_cost" jO l8 dh cR)  :aH P w K mg base bL 2 dh cR l8 (yl K p.aq):=by
 refine bT.fn.jg zu (λvs H Q E h=>?_) (λ_ _ _ _ H vs Q E hr h=>?_)
 ·obtain⟨x,sg,rows,fo,fm,rfl,_⟩:=h;rfl
 ·obtain⟨x,sg,rows,fo,fm,rfl,⟨_,_,_,_,_,_,_,dx,Pp,o,m,d,kvs,h1,h2,h3,h4,h5,h6⟩,k⟩:=h;intro X;refine⟨_,(ao (aI (eK (pv 0) Y))),?_⟩;exact⟨_,Y,x,_,_,_,_,Y,h1,T.bI,T.nE,wO,k⟩
theorem Eo {gH:U}{fE:F_}{p:Pm}(T:Txt K mg p w base)(bO:Dn K mg "more_cost" pD l8 gH fE)  :aH P w K mg base bL 2 gH fE l8 (IK K p.aq):=by
 refine bO.fn.jg D5 (λvs H Q E h=>?_) (λ_ _ _ _ H vs Q E hr h=>?_)
 ·obtain⟨x,sg,rows,fo,fm,rfl,_⟩:=h;rfl
 ·obtain⟨x,sg,rows,fo,fm,rfl,⟨_,_,_,_,_,_,_,dx,Pp,o,m,d,kvs,h1,h2,h3,h4,h5,h6⟩,k⟩:=h;intro X;refine⟨_,(ao (aI (eK (pv 0) Y))),?_⟩;exact⟨_,Y,x,_,_,_,_,Y,h1,T.bI,T.pS,zN,k⟩
theorem GB {fz bu:U}{dO bf:F_}{p:Pm}(T:Txt K mg p w base)(cA:Dn K mg "in_units" nW RB fz dO)(aO:Dn K mg "greatest_divisor" dZ RC bu bf)(gi:aH P w K mg base bL 1 bu bf RC KJ):aH P w K mg base bL 2 fz dO RB (vc K p.aq):=by
 refine cA.fn.jg jL (λvs H Q E h=>?_) (λ_ _ _ _ H vs Q E hr h=>?_)
 ·obtain⟨x,n,sg,rows,fo,fm,rfl,_⟩:=h;rfl
 ·obtain⟨x,n,sg,rows,fo,fm,rfl,⟨_,_,_,_,_,u1,u2,dx,Pp,o,m,d,kvs,h1,h2,h3,h4,h5,h6,fs,h7,h8,h9⟩,k⟩:=h;intro X;refine⟨_,(aj (Z9X 2 jL.nd (pv 1))
   (aj (Z9X 3 jL.nd ah)
   (aj (cV P_ rfl (qj (eK (pv 0) rfl)) (Z9Y 4 jL.nd) (aj (Z9X 5 jL.nd (gc gi hr aO (aa (pv 2) (aa (pv 4) af))))
   (aj (Z9X 2 jL.nd (aA c6 (pv 2) (pv 5)))
   (ao (Z9X 3 jL.nd (aA nB (pv 3) (aA c6 (pv 4) (pv 5))))))))
   (ao (aI (aW (aa (pv 2) (aa (pv 3) af)))))))),?_⟩
  refine⟨_,Y,_,Y,x,_,_,_,_,Y,h1,T.bI,T.n9,tN,d.2,Y,⟨_,bW.of h9⟩,sG (K:=K) (a:=d.2) (xs:=fs.map V.int) (λi σ H2=>H2=H/\wY λ(ov un:Int) (v4 v5:Option V)=>σ=[some (.ref x),some (.int n),some (.int ov),some (.int un),v4,v5]/\0<un/\qag ov un=1/\ov*vL (fs.take i)=n*un)
   ⟨rfl,n,1,_,_,rfl,by decide,Int.gcd_one_right n,by show n*vL []=n*1;rfl⟩ (λi σ H2 _ ⟨e,_⟩=>by subst e;exact bW.of h9) ?_ ?_⟩
  ·rintro i y σ H2 hy ⟨rfl,ov,un,v4,v5,rfl,hun,hg,he⟩;obtain⟨b,eb,rfl⟩:=i9 hy;obtain⟨b1,b2⟩:=h7 b (A_ eb);have g1:=tL ov b1;have g2:=JE ov b1;have d1:0<b / (qag ov b:Int):=qbw b1 (qaV g1) (qbl ov b);have d2:b / (qag ov b:Int)<=b:=Int.ediv_le_self _ (qaV b1);refine⟨_,Y,_,Y,ov,b,Y,qaV b1,_,Y,_,Y,_,_,Y,Y,⟨g1,by omega⟩,_,Y,_,Y,_,Y,_,_,Y,Y,⟨g1,by omega⟩,_,_,Y,Y,.inr ⟨by omega,by omega⟩,?_⟩;refine⟨Y,_,_,_,_,Y,Int.mul_pos hun d1,PV b1 hg,?_⟩;rw[take_snoc eb,wH];exact JM he
  ·rintro σ H2 ⟨rfl,ov,un,v4,v5,rfl,hun,hg,he⟩;rw[l_,X_ (j_ _),h8]at he;have el:=Xz u1 hun hg he;refine⟨_,Y,_,Y,c_,λq hq=>k q _ (ak.upd hq) hq ?_⟩;rw[ai,el]
end
section
variable{P:r_}{w:I_}{K:PySem.W.Frag}{mg:v_->Option k_}{base:W_}
theorem wJ {bF jz gB gz dm kR iE kJ fW kQ:U}{gb iA fV fT cS ju gq jn e7 jc:F_}{p:Pm}(T:Txt K mg p w base)(ff:Dm K "__init__" "Prices.__init__" cM Wj bF gb)(fO:Dn K mg "check_signs" oZ ["signs"] jz iA)(CS:aH P w K mg base bL 3 jz iA ["signs"] xq)(dX:Dn K mg "check_lengths" lT Yh gB fV)(zY:aH P w K mg base bL 1 gB fV Yh (uy K))(dR:Dn K mg "lowest_prices" lR ["row"] gz fT)(zW:aH P w K mg base bL 4 gz fT ["row"] (yQ K))(bz:Dn K mg "lowest_price" jP O3 dm cS)(nQ:aH P w K mg base bL 3 dm cS O3 (wz K))(gW:Dn K mg "all_unders" qf Yi kR ju)(Fj:aH P w K mg base bL 1 kR ju Yi (F1 K))(eO:Dn K mg "unit_factors" m8 ["unders"] iE gq)(BU:aH P w K mg base bL 2 iE gq ["unders"] (De K))(gO:Dn K mg "product_of" pZ ["factors"] kJ jn)(Fd:aH P w K mg base bL 1 kJ jn ["factors"] (NQ K))(c5:Dn K mg "costs_by_signs" j6 Yg fW e7)(yO:aH P w K mg base bL 2 fW e7 Yg (KP K))(dN:Dn K mg "by_unit" su Vh kQ jc)(vD:aH P w K mg base bL 1 kQ jc Vh (Ay K)):aH P w K mg base bL 5 bF gb Wj (NW K p.aq):=by
 refine ff.fn.jg wB (λvs H Q E h=>?_) (λ_ _ _ _ H vs Q E hr h=>?_)
 ·obtain⟨x,dx,o,m,sg,c,rows,fo,fm,rfl,_⟩:=h;rfl
 ·obtain⟨x,dx,o,m,sg,c,rows,fo,fm,rfl,hx,hS,h12,hM,hsq,hok,hfo,Ov,hfm,Ow,k⟩:=h;have S:=hS;obtain⟨q1,q2,q3,q4⟩:=S;intro X;refine⟨_,(aj (cD (gc CS hr fO (aa (pv 1) af)))
   (aj (cD (gc zY hr dX (aa (pv 1) (aa (pv 2) af))))
   (aj (pQ (pv 0) (pv 1) rfl)
   (aj (pQ (pv 0) (jj (vW) rfl T.uZ sN (aa (tG (N:=["row"]) rfl (λ_=>⟨[],ee.plain (by decide +kernel) rfl (by decide +kernel) (by decide +kernel)⟩) (Dj (pv 2)) (λ_ _ _ _ _ _ _=>(aL (i:=0) (show(["row"]:List v_).Nodup by decide +kernel) rfl (Or.inl rfl))) (λ_ _ _ _ _ _ _=>(gc zW hr dR (aa (pv 0) af)))) af)) rfl)
   (aj (pQ (pv 0) (gc nQ hr bz (aa (pv 3) af)) rfl)
   (aj (pQ (pv 0) (gc nQ hr bz (aa (pv 4) af)) rfl)
   (aj (pQ (pv 0) (gc BU hr eO (aa (gc Fj hr gW (aa (eK (pv 0) rfl) (aa (eK (pv 0) rfl) (aa (eK (pv 0) rfl) af)))) af)) rfl)
   (aj (pQ (pv 0) (gc Fd hr gO (aa (eK (pv 0) rfl) af)) rfl)
   (aj (pQ (pv 0) (gc yO hr c5 (aa (eK (pv 0) rfl) (aa (eK (pv 0) rfl) (aa (eK (pv 0) rfl) af)))) rfl)
   (aj (pQ (pv 0) (gc vD hr dN (aa (eK (pv 0) rfl) (aa (eK (pv 0) rfl) af))) rfl)
   (ao (pQ (pv 0) (gc vD hr dN (aa (eK (pv 0) rfl) (aa (eK (pv 0) rfl) af))) rfl)))))))))))),?_⟩
  refine⟨_,Y,sg,Y,hS,λH1 s1=>?_⟩;refine⟨_,Y,_,Y,sg,c,rows,Y,hM.dat (Dat.of s1),by omega,hsq,?_⟩;have Vq:H1 x=some (.ins p.aq dx []):=s1 _ _ hx;refine⟨_,Y,_,Y,x,_,dx,_,Y,Vq,T.bI,T.nD,by decide,?_⟩;generalize hH2:upd H1 x (.ins p.aq dx (aM "signs" (.str sg) []))=H2;have YB:H2 x=some (.ins p.aq dx (aM "signs" (.str sg) [])):=by rw[←hH2];exact ai
  have f2:Off x H H2:=by rw[←hH2];exact(Off.of s1).trans Off.set
  obtain⟨nc,cs,ncs,hcs,hp⟩:=hM.dat (f2.dat hx);refine⟨_,Y,c,_,Y,hcs,λl VE=>?_⟩;refine⟨λi n ys H3=>n=rows.length-i/\i<=rows.length/\ak H2 H3/\H3 l=some (.lst ys)/\∃qs:List U,ys=qs.map V.ref/\qs.length=i/\Paired (λq r=>nO K H3 (.tup q) r) qs ((Cv rows).take i),⟨rows.length,Y,Q_ _,ak.upd VE,ai,[],Y,Y,.nil⟩,?_⟩;rintro i n ys H3 ⟨rfl,hi,s3,hl3,qs,rfl,hq,hP⟩;have zc:c.at K H3 (cs.map Cp.val):=ak.cp s3 hcs;have hcl:=Paired.len hp;by_cases hlt:i<rows.length
  ·have hci:i<cs.length:=by omega
   have e1:(cs.map Cp.val)[i]? =some cs[i].val:=by rw[O_,g_ hci];rfl
   refine .inr ⟨⟨_,_,zc,e1⟩,?_⟩;rintro y H4 ⟨rfl,hy⟩;have ey:=hy _ zc;rw[e1]at ey;cases ey;obtain⟨r,er,hr2⟩:=Paired.at hp (g_ hci);have hrm:=A_ er;refine⟨Kp.rep _ _,?_⟩;refine⟨_,Y,cs[i],r,Y,hr2.same s3,λf hf=>(hok r hrm f hf).1,by rw[hsq.2 r hrm];omega,λq H5 s5 hqn hR=>?_⟩;have VD:H5 l=some (.lst (qs.map V.ref)):=s5 _ _ hl3;refine⟨VD,?_,rows.length-(i+1),by omega,Y,hlt,ak.at (s3.trans s5) VE,ai,qs++[q],by rw[M_];rfl,by rw[G_,hq];rfl,?_⟩
   ·rw[l_,hq];have:i<100:=by rw[hsq.1]at hlt;omega
    exact H_ this (by decide)
   ·rw[show(Cv rows).take (i+1)=(Cv rows).take i++[r.map nF] from vQ er];refine GP.Paired.snoc (Paired.ji hP λa b z=>?_) ?_
    ·exact(z.same s5).off VD
    ·exact hR.off VD
  ·have ei:i=rows.length:=by omega
   subst ei;refine .inl ⟨⟨_,zc,by rw[l_];omega⟩,?_⟩;refine⟨l,_,Y,.inl ⟨bW.of hl3,λPp hPn=>?_⟩⟩;generalize hH4:upd H3 Pp (.tup (qs.map V.ref))=H4;have s4:ak H2 H4:=by rw[←hH4];exact s3.trans (ak.upd hPn)
   have m4:EU K H4 Pp (Cv rows):=by
    rw[←hH4];refine⟨qs,bZ.of ai,?_⟩;rw[X_ (by unfold Cv;rw[l_];exact j_ _)]at hP;exact Paired.ji hP λa b z=>z.same (ak.upd hPn)
   have YA:=s4 _ _ YB;refine⟨_,Y,x,_,dx,_,Y,YA,T.bI,T.qL,pl1,?_⟩;generalize hH5:upd H4 x (.ins p.aq dx (aM "pairs" (.ref Pp) (aM "signs" (.str sg) [])))=H5;have hx5:H5 x=some (.ins p.aq dx (aM "pairs" (.ref Pp) (aM "signs" (.str sg) []))):=by rw[←hH5];exact ai
   have f5:Off x H H5:=by rw[←hH5];exact(f2.trans (Off.of s4)).trans Off.set
   have d5:Dat H4 H5:=by rw[←hH5];exact Dat.set YA
   refine⟨_,Y,o,fo,Y,hfo.dat (f5.dat hx),Ov.1,λo' ho'=>?_⟩;generalize hH6:upd H5 o' (.tup [.int (nF fo).1,.int (nF fo).2])=H6;have s6:ak H5 H6:=by rw[←hH6];exact ak.upd ho'
   have ho6:k8 K H6 o' (nF fo):=by rw[←hH6];exact bZ.of ai
   have SS:=s6 _ _ hx5;refine⟨_,Y,x,_,dx,_,Y,SS,T.bI,T.n8,pl2,?_⟩;generalize hH7:upd H6 x (.ins p.aq dx (aM "opening" (.ref o') (aM "pairs" (.ref Pp) (aM "signs" (.str sg) []))))=H7;have hx7:H7 x=some (.ins p.aq dx (aM "opening" (.ref o') (aM "pairs" (.ref Pp) (aM "signs" (.str sg) [])))):=by rw[←hH7];exact ai
   have f7:Off x H H7:=by rw[←hH7];exact(f5.trans (Off.of s6)).trans Off.set
   have d7:Dat H6 H7:=by rw[←hH7];exact Dat.set SS
   refine⟨_,Y,m,fm,Y,hfm.dat (f7.dat hx),Ow.1,λm' hm'=>?_⟩;generalize hH8:upd H7 m' (.tup [.int (nF fm).1,.int (nF fm).2])=H8;have s8:ak H7 H8:=by rw[←hH8];exact ak.upd hm'
   have hm8:k8 K H8 m' (nF fm):=by rw[←hH8];exact bZ.of ai
   have hx8:=s8 _ _ hx7;refine⟨_,Y,x,_,dx,_,Y,hx8,T.bI,T.rM,pl3,?_⟩;generalize hH9:upd H8 x (.ins p.aq dx (aM "more" (.ref m') (aM "opening" (.ref o') (aM "pairs" (.ref Pp) (aM "signs" (.str sg) [])))))=H9;have Yz:H9 x=some (.ins p.aq dx (aM "more" (.ref m') (aM "opening" (.ref o') (aM "pairs" (.ref Pp) (aM "signs" (.str sg) []))))):=by rw[←hH9];exact ai
   have f9:Off x H H9:=by rw[←hH9];exact(f7.trans (Off.of s8)).trans Off.set
   have d9:Dat H8 H9:=by rw[←hH9];exact Dat.set hx8
   have e69:Dat H6 H9:=d7.trans ((Dat.of s8).trans d9);have e49:Dat H4 H9:=d5.trans ((Dat.of s6).trans e69);have M9:EU K H9 Pp (Cv rows):=m4.dat e49;have O9:k8 K H9 o' (nF fo):=ho6.dat e69;have m9:k8 K H9 m' (nF fm):=hm8.dat d9;have jg:∀r∈Cv rows,∀f∈r,HN f:=EB λr hr f hf=>uK (hok r hr f hf).1;have UK:=Rr hsq;refine⟨_,Y,x,_,_,_,_,Y,Yz,T.bI,T.qL,ON,_,Y,x,_,_,_,_,Y,Yz,T.bI,T.n8,Jq,_,Y,x,_,_,_,_,Y,Yz,T.bI,T.rM,Rm,?_⟩;refine⟨Pp,o',m',Cv rows,nF fo,nF fm,Y,M9.mat,O9,m9,by rw[UK.1];exact h12,λr hr=>by rw[UK.2 r hr];exact h12,λl1 Ha sa hl1 hla=>?_⟩;have okU:∀n∈pB (nF fo) (nF fm) (Cv rows),rS n:=λn hn=>by
    have z:∀{f:cJ},HN f->rS f.2:=λq=>⟨by have:=q.1;omega,q.2⟩;rcases B_.mp hn with e|hn
    ·rw[e];exact z (uK Ov.1)
    rcases B_.mp hn with e|hn
    ·rw[e];exact z (uK Ow.1)
    obtain⟨f,hf,rfl⟩:=U_.mp hn;obtain⟨r,hr,hfr⟩:=List.mem_flatten.mp hf;exact z (jg r hr f hfr)
   have acS:(pB (nF fo) (nF fm) (Cv rows)).length<=1000:=by
    unfold pB;rw[qaa,qaa,l_,Bx UK.2,UK.1];have:sg.cps.size*sg.cps.size<=12*12:=qbx h12 h12;omega
   refine⟨l1,_,Y,bW.of hla,acS,okU,λfl Hb sb hfl hlb=>?_⟩;have FI:=RT okU;have eU:vL (sH (pB (nF fo) (nF fm) (Cv rows))).1=bq (nF fo).2 (nF fm).2 (Cv rows):=by rw[FI.prod,FI.unit,Fz]
   have hsm:=FI.small;generalize (sH (pB (nF fo) (nF fm) (Cv rows))).1=fcs at hlb eU hsm;clear FI;have hxb:=sb _ _ (sa _ _ Yz);refine⟨_,Y,x,_,dx,_,Y,hxb,T.bI,T.n9,pl4,?_⟩;generalize hHc:upd Hb x (.ins p.aq dx (aM "factors" (.ref fl) (aM "more" (.ref m') (aM "opening" (.ref o') (aM "pairs" (.ref Pp) (aM "signs" (.str sg) []))))))=Hc;have hxc:Hc x=some (.ins p.aq dx (aM "factors" (.ref fl) (aM "more" (.ref m') (aM "opening" (.ref o') (aM "pairs" (.ref Pp) (aM "signs" (.str sg) [])))))):=by rw[←hHc];exact ai
   have fc:Off x H Hc:=by rw[←hHc];exact((f9.trans (Off.of sa)).trans (Off.of sb)).trans Off.set
   have dc:Dat H9 Hc:=by rw[←hHc];exact((Dat.of sa).trans (Dat.of sb)).trans (Dat.set hxb)
   have YU:Hc fl=some (.lst (fcs.map V.int)):=by rw[←hHc];exact Dat.set hxb fl _ (λ_ _ _ z=>by cases z) hlb
   refine⟨_,Y,x,_,_,_,_,Y,hxc,T.bI,T.n9,Jr,fl,fcs,Y,bW.of YU,hsm,?_⟩;have up:=Nv (uK Ov.1) (uK Ow.1) jg;have ub:=Nx h12 UK (uK Ov.1) (uK Ow.1) jg;have Wh:∀{f:cJ},Zt f->Zu (bq (nF fo).2 (nF fm).2 (Cv rows)) (nF f):=λz=>⟨uK z.1,Rt z.2,Bu.div ub _⟩;rw[eU];generalize hu:bq (nF fo).2 (nF fm).2 (Cv rows)=u at *;refine⟨_,Y,x,_,dx,_,Y,hxc,T.bI,T.o8,pl5,?_⟩;generalize VN:upd Hc x (.ins p.aq dx (aM "unit" (.int u) (aM "factors" (.ref fl) (aM "more" (.ref m') (aM "opening" (.ref o') (aM "pairs" (.ref Pp) (aM "signs" (.str sg) [])))))))=Wc;have RK:Wc x=some (.ins p.aq dx (aM "unit" (.int u) (aM "factors" (.ref fl) (aM "more" (.ref m') (aM "opening" (.ref o') (aM "pairs" (.ref Pp) (aM "signs" (.str sg) []))))))):=by rw[←VN];exact ai
   have f10:Off x H Wc:=by rw[←VN];exact fc.trans Off.set
   have Zd:Dat Hc Wc:=by rw[←VN];exact Dat.set hxc
   have Wx:Dat H9 Wc:=dc.trans Zd;have YV:Wc fl=some (.lst (fcs.map V.int)):=Zd fl _ (λ_ _ _ z=>by cases z) YU;refine⟨_,Y,x,_,_,_,_,Y,RK,T.bI,T.nD,OM,_,Y,x,_,_,_,_,Y,RK,T.bI,T.qL,Mj,_,Y,x,_,_,_,_,Y,RK,T.bI,T.o8,Rl,?_⟩;refine⟨sg,Pp,u,Cv rows,Y,M9.dat Wx,q2,q4,UK,EB λr hr f hf=>Wh (hok r hr f hf),λd H11 kvs s11 hdn adA hc=>?_⟩;have Vp:=s11 _ _ RK;refine⟨_,Y,x,_,dx,_,Y,Vp,T.bI,T.uH,pl6,?_⟩;generalize RP:upd H11 x (.ins p.aq dx (aM "costs" (.ref d) (aM "unit" (.int u) (aM "factors" (.ref fl) (aM "more" (.ref m') (aM "opening" (.ref o') (aM "pairs" (.ref Pp) (aM "signs" (.str sg) []))))))))=WD;have RJ:WD x=some (.ins p.aq dx (lJ sg Pp o' m' u (d,fl))):=by rw[←RP];exact ai
   have d12:Dat Wc WD:=by rw[←RP];exact(Dat.of s11).trans (Dat.set Vp)
   have f12:Off x H WD:=by rw[←RP];exact(f10.trans (Off.of s11)).trans Off.set
   have adz:WD d=some (.dT kvs):=by rw[←RP];exact Dat.set Vp d _ (λ_ _ _ z=>by cases z) adA
   obtain⟨w1,w2,w3⟩:=Wh Ov;obtain⟨y1,y2,y3⟩:=Wh Ow;refine⟨_,Y,x,_,_,_,_,Y,RJ,T.bI,T.n8,CA,_,Y,x,_,_,_,_,Y,RJ,T.bI,T.o8,Bw,o',nF fo,u,Y,(O9.dat Wx).dat d12,w1,w2.bg,w3.bg,?_⟩;refine⟨_,Y,x,_,dx,_,Y,RJ,T.bI,T.nE,pl7,?_⟩;generalize VM:upd WD x (.ins p.aq dx (aM "opening_units" (.int ((nF fo).1*(u / (nF fo).2))) (lJ sg Pp o' m' u (d,fl))))=ZI;have Pa:ZI x=some (.ins p.aq dx (aM "opening_units" (.int ((nF fo).1*(u / (nF fo).2))) (lJ sg Pp o' m' u (d,fl)))):=by rw[←VM];exact ai
   have d13:Dat WD ZI:=by rw[←VM];exact Dat.set RJ
   have f13:Off x H ZI:=by rw[←VM];exact f12.trans Off.set
   refine⟨_,Y,x,_,_,_,_,Y,Pa,T.bI,T.rM,(vU (by decide +kernel)).trans JK,_,Y,x,_,_,_,_,Y,Pa,T.bI,T.o8,(vU (by decide +kernel)).trans Bw,m',nF fm,u,Y,((m9.dat Wx).dat d12).dat d13,y1,y2.bg,y3.bg,?_⟩;refine⟨_,Y,x,_,dx,_,Y,Pa,T.bI,T.pS,pl8,?_⟩;have d14:Dat Wc (upd ZI x (.ins p.aq dx (zO sg Pp o' m' u (d,fl) ((nF fo).1*(u / (nF fo).2)) ((nF fm).1*(u / (nF fm).2))))):=d12.trans (d13.trans (Dat.set Pa));have f14:Off x H (upd ZI x (.ins p.aq dx (zO sg Pp o' m' u (d,fl) ((nF fo).1*(u / (nF fo).2)) ((nF fm).1*(u / (nF fm).2))))):=f13.trans Off.set;refine k _ ⟨hS,UK,?_,?_,?_,?_,?_,dx,Pp,o',m',(d,fl),kvs,?_,(M9.dat Wx).dat d14,(O9.dat Wx).dat d14,(m9.dat Wx).dat d14,?_,?_,fcs,hsm,?_,?_⟩ f14 (λc0 hc0 C' dx' fs' hx' hl'=>?_)
   ·rw[hu];exact EB λr hr f hf=>Wh (hok r hr f hf)
   ·rw[hu];exact Wh Ov
   ·rw[hu];exact Wh Ow
   ·rw[hu];exact up
   ·rw[hu];exact ub
   ·rw[hu];exact ai
   ·exact(d13.trans (Dat.set Pa)) d _ (λ_ _ _ z=>by cases z) adz
   ·rw[hu];exact hc
   ·rw[hu];exact eU
   ·exact d14 fl _ (λ_ _ _ z=>by cases z) YV
   ·rw[ai]at hx';cases hx';have e:fl=c0:=V.ref.inj (L_ ((tN (x:=sg) (P:=Pp) (o:=o') (m:=m') (u:=u) (d:=(d,fl))).symm.trans hl'));subst e
    cases q:H fl with
    |none=>exact hc0 q
    |some u0 =>
     by_cases ex:fl=x
     ·rw[ex,sa _ _ Yz]at hfl;cases hfl
     ·rw[(f9.trans (Off.of sa)) fl u0 q ex]at hfl;cases hfl
end
section
variable{P:r_}{w:I_}{K:PySem.W.Frag}{mg:v_->Option k_}{base:W_}
end
section
variable{P:r_}{w:I_}{K:PySem.W.Frag}{mg:v_->Option k_}{base:W_}
end
section
variable{P:r_}{w:I_}{K:PySem.W.Frag}{mg:v_->Option k_}{base:W_}
end
section
variable{P:r_}{w:I_}{K:PySem.W.Frag}{mg:v_->Option k_}{base:W_}
theorem AV {jB:U}{iC:F_}{p:Pm}(T:Txt K mg p w base)(fP:Dn K mg "check_known" o5 Ye jB iC)  :aH P w K mg base bL 1 jB iC Ye xu:=by
 refine fP.fn.jg jM (λvs H Q E h=>?_) (λ_ _ _ _ H vs Q E hr h=>?_)
 ·obtain⟨sg,l,a,b,rfl,_⟩:=h;rfl
 ·obtain⟨sg,l,a,b,rfl,hl,ha,hb,k⟩:=h;intro X
  refine⟨_,(ao (cV P_ Y (xF Y T.pq (aa (pv 1) af)) (nA (n:=2) Y (bC (Z9Y 2 jM.nd) (bC (Z9Y 3 jM.nd) i7))) (ao (cV P_ Y (xF Y T.pq (aa (pv 3) af)) (nA (n:=2) Y (bC (Z9Y 4 jM.nd) (bC (Z9Y 5 jM.nd) i7))) (ao (bH (aF Ej (pv 5) (pv 0) (by with_unfolding_all rfl)) cX aP)))))),?_⟩
  refine⟨_,Y,.lst l,_,Y,bW.of hl,uN (K:=K) (c:=.lst l) (xs:=[.str a,.str b]) (λi σ H2=>wY λv2 v3 v4 v5=>σ=[some (.str sg),some (.ref l),v2,v3,v4,v5]/\ak H H2) ⟨_,_,_,_,Y,ak.refl _⟩ (λi σ H2 _ ⟨_,_,_,_,_,s2⟩=>bW.of (s2 _ _ hl)) ?_ ?_⟩
  ·rintro i y p1 σ H2 hy hp1 ⟨v2,v3,v4,v5,rfl,s2⟩;obtain⟨z,rfl,hz⟩:∃z:v_,y= .str z/\Of sg z:=by
    match i,hy with
    | 0,hy=>exact⟨a,(L_ hy).symm,ha⟩
    | 1,hy=>exact⟨b,(L_ hy).symm,hb⟩
    |i+2,hy=>simp at hy
   refine⟨p1,_,Y,bZ.of ai,Y,_,_,Y,_,_,Y,Y,?_⟩;refine⟨_,Y,.txt z,_,Y,Y,uN (K:=K) (c:=.txt z) (xs:=fC z) (λj σ H3=>dP λv4 v5=>σ=[some (.str sg),some (.ref l),some (.int (i:Int)),some (.str z),v4,v5]/\ak H H3) ⟨_,_,Y,s2.trans (ak.upd hp1)⟩ (λj σ H3 _ _=>rfl) ?_ ?_⟩
   ·rintro j y p2 σ H3 hy hp2 ⟨v4,v5,rfl,s3⟩;obtain⟨c,hc,rfl⟩:=signs_get hy;have s4:=s3.trans (ak.upd (o:=.tup [.int (j:Int),.str ⟨#[c]⟩]) hp2);refine⟨p2,_,Y,bZ.of ai,Y,_,_,Y,_,_,Y,Y,?_⟩;refine⟨_,Y,_,Y,_,_,Y,Y,_,Y,?_⟩;rw[StrLaws.found_one,decide_eq_true (hz c (pe hc))];exact uM ⟨_,_,Y,s4⟩
   ·rintro σ H3 ⟨v4,v5,rfl,s3⟩;exact⟨_,_,_,_,Y,s3⟩
  ·rintro σ H2 ⟨v2,v3,v4,v5,rfl,s2⟩;exact k H2 s2
theorem Cq {cT jB:U}{cH iC:F_}{p:Pm}(T:Txt K mg p w base)(bG:Dn K mg "check_rows" j7 RA cT cH)(fP:Dn K mg "check_known" o5 Ye jB iC)(CT:aH P w K mg base bL 1 jB iC Ye xu):aH P w K mg base bL 2 cT cH RA (qU K p.aq):=by
 refine bG.fn.jg B9 (λvs H Q E h=>?_) (λ_ _ _ _ H vs Q E hr h=>?_)
 ·obtain⟨x,l,sg,rows,fo,fm,a,b,rfl,_⟩:=h;rfl
 ·obtain⟨x,l,sg,rows,fo,fm,a,b,rfl,⟨_,_,_,_,_,_,_,dx,Pp,o,m,d,kvs,h1,h2,h3,h4,h5,h6⟩,hl,ha,hb,k⟩:=h;intro X;refine⟨_,(ao (cD (gc CT hr fP (aa (eK (pv 0) Y) (aa (pv 1) af))))),?_⟩;exact⟨_,Y,x,_,_,_,_,Y,h1,T.bI,T.nD,Bt,_,Y,sg,l,a,b,Y,hl,ha,hb,k⟩
end
section
variable{P:r_}{w:I_}{K:PySem.W.Frag}{mg:v_->Option k_}{base:W_}
theorem Cr {cU gH dh:U}{cI fE cR:F_}{p:Pm}(T:Txt K mg p w base)(aV:Dn K mg "alone_cost" j8 Rz cU cI)(bO:Dn K mg "more_cost" pD l8 gH fE)(pJ:aH P w K mg base bL 2 gH fE l8 (IK K p.aq))(bT:Dn K mg "opening_cost" jO l8 dh cR)(qQ:aH P w K mg base bL 2 dh cR l8 (yl K p.aq)):aH P w K mg base bL 3 cU cI Rz (z9 K p.aq):=by
 refine aV.fn.jg Ca (λvs H Q E h=>?_) (λ_ _ _ _ H vs Q E hr h=>?_)
 ·obtain⟨x,sg,rows,fo,fm,a,b,rfl,_⟩:=h;rfl
 ·obtain⟨x,sg,rows,fo,fm,a,b,rfl,hP,k⟩:=h;intro X;refine⟨_,(aj (bH (aF bM (pv 1) (pv 2) (aG _)) (ao (aI (gc pJ hr bO (aa (pv 0) af)))) aP)
   (ao (aI (aA bE (gc qQ hr bT (aa (pv 0) af)) (gc pJ hr bO (aa (pv 0) af)))))),?_⟩
  refine⟨_,Y,_,Y,Y,_,Y,?_⟩;by_cases e:a=b
  ·rw[if_pos e]at k;rw[decide_eq_true (show V.str a=V.str b by rw[e])];refine om ?_;exact⟨_,Y,x,sg,rows,fo,fm,Y,hP,k⟩
  ·rw[if_neg e]at k;rw[decide_eq_false (show ¬V.str a=V.str b from λz=>e (V.str.inj z))];refine gF ?_;exact⟨_,Y,x,sg,rows,fo,fm,Y,hP,_,Y,x,sg,rows,fo,fm,Y,hP,_,_,Y,Y,k⟩
theorem Ep {mD:U}{kh:F_}{p:Pm}(T:Txt K mg p w base)(iS:Dn K mg "may_begin" qY Yd mD kh)  :aH P w K mg base bL 1 mD kh Yd (NT K):=by
 refine iS.fn.jg D6 (λvs H Q E h=>?_) (λ_ _ _ _ H vs Q E hr h=>?_)
 ·obtain⟨m,a,q,rfl,_⟩:=h;rfl
 ·obtain⟨m,a,q,rfl,hq,k⟩:=h;intro X;refine⟨_,(aj (bH (aF bM (pv 0) aS (aG _)) (ao (aI (nY (b8 bM (aD aJ (pv 1) ah (λ_ _=>rfl)) ah (aG _)) (nX (b8 bM (aD aJ (pv 1) ah (λ_ _=>rfl)) ah (aG _)))))) aP)
   (aj (bH (aF bM (pv 0) aS (aG _)) (ao (aI (b8 bM (aD aJ (pv 1) ah (λ_ _=>rfl)) ah (aG _)))) aP)
   (aj (bH (aF bM (pv 0) aS (aG _)) (ao (aI (b8 bM (aD aJ (pv 1) ah (λ_ _=>rfl)) ah (aG _)))) aP)
   (ao (aI Gv))))),?_⟩
  unfold yE at k;refine⟨_,Y,Y,_,Y,?_⟩;refine ite_str (λh1=>?_) λh1=>?_
  ·rw[if_pos h1]at k;refine⟨_,Y,_,_,_,_,Y,Y,hq,Y,Y,_,Y,?_⟩;refine jQ (λz=>?_) λz=>?_
   ·refine⟨_,Y,_,_,_,_,Y,Y,hq,Y,Y,?_⟩;rw[decide_eq_true z,qb5]at k;rw[uQ];exact k
   ·rw[decide_eq_false z,qbf]at k;exact k
  rw[if_neg h1]at k;refine⟨_,Y,Y,_,Y,?_⟩;refine ite_str (λh2=>?_) λh2=>?_
  ·rw[if_pos h2]at k;refine⟨_,Y,_,_,_,_,Y,Y,hq,Y,Y,?_⟩;rw[uQ];exact k
  rw[if_neg h2]at k;refine⟨_,Y,Y,_,Y,?_⟩;refine ite_str (λh3=>?_) λh3=>?_
  ·rw[if_pos h3]at k;refine⟨_,Y,_,_,_,_,Y,Y,hq,Y,Y,?_⟩;rw[uQ];exact k
  rw[if_neg h3]at k;exact k
theorem Jb {qv:U}{ow:F_}{p:Pm}(T:Txt K mg p w base)(mQ:Dn K mg "may_end" vf Yc qv ow)  :aH P w K mg base bL 1 qv ow Yc (NS K):=by
 refine mQ.fn.jg IQ (λvs H Q E h=>?_) (λ_ _ _ _ H vs Q E hr h=>?_)
 ·obtain⟨m,f,s,a,q,rfl,_⟩:=h;rfl
 ·obtain⟨m,f,s,a,q,rfl,hq,hf,hs,k⟩:=h;have zf:f.length<=D_:=p_ hf (by decide);have zs:s.length<=D_:=p_ hs (by decide);intro X;refine⟨_,(aj (bH (aF bM (pv 0) aS (aG _)) (ao (aI (nY (b8 bM (aD aJ (pv 3) ah (λ_ _=>rfl)) (aC (aQ) Y T.cB bA (aa (pv 1) af)) (aG _)) (nX (b8 bM (aD aJ (pv 3) ah (λ_ _=>rfl)) (aC (aQ) Y T.cB bA (aa (pv 2) af)) (aG _)))))) aP)
   (aj (bH (aF bM (pv 0) aS (aG _)) (ao (aI Gv)) aP)
   (ao (aI (b8 bM (aD aJ (pv 3) ah (λ_ _=>rfl)) (aC (aQ) rfl T.cB bA (aa (pv 1) af)) (aG _)))))),?_⟩
  unfold Bc at k;refine⟨_,Y,Y,_,Y,?_⟩;refine ite_str (λh1=>?_) λh1=>?_
  ·rw[if_pos h1]at k;refine⟨_,Y,_,_,_,_,Y,Y,hq,Y,_,Y,_,_,Y,⟨zf,Y⟩,Y,_,Y,?_⟩;refine jQ (λz=>?_) λz=>?_
   ·refine⟨_,Y,_,_,_,_,Y,Y,hq,Y,_,Y,_,_,Y,⟨zs,Y⟩,Y,?_⟩;rw[decide_eq_true (show q.1=(f.cps.size:Int) from z),qb5]at k;rw[uQ];exact k
   ·rw[decide_eq_false (show ¬q.1=(f.cps.size:Int) from z),qbf]at k;exact k
  rw[if_neg h1]at k;refine⟨_,Y,Y,_,Y,?_⟩;refine ite_str (λh2=>?_) λh2=>?_
  ·rw[if_pos h2]at k;exact k
  rw[if_neg h2]at k;refine⟨_,Y,_,_,_,_,Y,Y,hq,Y,_,Y,_,_,Y,⟨zf,Y⟩,Y,?_⟩;rw[uQ];exact k
end
section
variable{P:r_}{w:I_}{K:PySem.W.Frag}{mg:v_->Option k_}{base:W_}
theorem zG {iI:U}{gx:F_}{p:Pm}(T:Txt K mg p w base)(eW:Dn K mg "check_manner" nv ["manner"] iI gx)  :aH P w K mg base bL 1 iI gx ["manner"] vI:=by
 refine eW.fn.jg zw (λvs H Q E h=>?_) (λ_ _ _ _ H vs Q E hr h=>?_)
 ·obtain⟨m,rfl,_⟩:=h;rfl
 ·obtain⟨m,rfl,hm,k⟩:=h;intro X
  refine⟨_,(ao (bH (aF xG (pv 0) (qk (v:=.ref p.oN) Y T.MJ Y) (by with_unfolding_all rfl)) cX aP)),?_⟩
  refine⟨_,Y,_,_,Y,.inr (T.L1 _),Y,Y,_,Y,?_⟩;have e:SN (.str m) [.str (h_ "whole"),.str (h_ "within"),.str (h_ "over"),.str (h_ "stretch")]=true:=hm
  show if(if true=true then !SN (.str m) [.str (h_ "whole"),.str (h_ "within"),.str (h_ "over"),.str (h_ "stretch")]else _)=true then _ else _
  rw[if_pos rfl,e];exact uM k
end
section
variable{P:r_}{w:I_}{K:PySem.W.Frag}{mg:v_->Option k_}{base:W_}
theorem Ct {kT:U}{jv:F_}{p:Pm}(T:Txt K mg p w base)(gX:Dn K mg "all_places" qg Yb kT jv)  :aH P w K mg base bL 1 kT jv Yb Sl:=by
 refine gX.fn.jg oW (λvs H Q E h=>?_) (λ_ _ _ _ H vs Q E hr h=>?_)
 ·obtain⟨f,s,rfl,_⟩:=h;rfl
 ·obtain⟨f,s,rfl,hf,hs,kk⟩:=h;have lf:f.length<=D_:=p_ hf (by decide);have ls:s.length<=D_:=p_ hs (by decide);have hf':f.length<=12:=hf;have hs':s.length<=12:=hs;intro X;refine⟨_,(aj (Z9X 2 oW.nd (ie af))
   (aj (cV P_ rfl (j9 rfl T.mU (aa (aA bE (aC (aQ) rfl T.cB bA (aa (pv 0) af)) ah) af)) (Z9Y 3 oW.nd) (ao (cV P_ rfl (j9 rfl T.mU (aa (aA bE (aC (aQ) rfl T.cB bA (aa (pv 1) af)) ah) af)) (Z9Y 4 oW.nd) (ao (cD (lF PySem.F.plainAttrs_list PySem.F.slot_list_append PySem.F.type_list_append cO (pv 2) (aa (aW (aa (pv 3) (aa (pv 4) af))) af)))))))
   (ao (aI (pv 2))))),?_⟩
  refine⟨a_,λl hl=>?_⟩;refine⟨_,Y,_,_,Y,⟨lf,Y⟩,_,_,Y,Y,_,Y,by omega,by omega,?_⟩;rw[show((f.length:Int)+1).toNat=f.cps.size+1 from by show((f.cps.size:Int)+1).toNat=_;omega];refine sF (lo:=0) (n:=f.cps.size+1) (λi σ H2=>dP λv3 v4=>∃ps:List U,σ=[some (.str f),some (.str s),some (.ref l),v3,v4]/\ak H H2/\H2 l=some (.lst (ps.map V.ref))/\Paired (Ft (Wo l H2)) ps (rws s.cps.size i))
   ⟨_,_,[],rfl,ak.upd hl,ai,.nil⟩ ?_ ?_
  ·rintro i σ H2 hi ⟨v3,v4,ps,rfl,s2,h2,pp⟩;refine⟨_,Y,_,_,Y,⟨ls,Y⟩,_,_,Y,Y,_,Y,by omega,by omega,?_⟩;rw[show((s.length:Int)+1).toNat=s.cps.size+1 from by show((s.cps.size:Int)+1).toNat=_;omega];refine sF (lo:=0) (n:=s.cps.size+1) (λj σ H3=>∃v4,∃ps:List U,σ=[some (.str f),some (.str s),some (.ref l),some (.int (0+(i:Int))),v4]/\ak H H3/\H3 l=some (.lst (ps.map V.ref))/\Paired (Ft (Wo l H3)) ps ((rws s.cps.size i)++(S_ j).map λj=>(i,j)))
    ⟨_,ps,rfl,s2,h2,by simpa using pp⟩ ?_ ?_
   ·rintro j σ H3 hj ⟨v4,ps,rfl,s3,h3,pp⟩;refine⟨_,Y,.inl ⟨Y,_,bW.of h3⟩,_,Y,_,Y,c_,λp hp=>?_⟩;have np:p≠l:=λz=>by rw[z,h3]at hp;cases hp
    have hlen:=Paired.len pp;rw[G_,Q4,l_,qax]at hlen;refine⟨l,_,_,Y,Y,by rw[av (Ne.symm np)];exact h3,?_,?_⟩
    ·rw[l_,hlen];have:i*(s.cps.size+1)<=f.cps.size*(s.cps.size+1):=qca _ (by omega);have e:(f.cps.size+1)*(s.cps.size+1)=f.cps.size*(s.cps.size+1)+(s.cps.size+1):=Nat.succ_mul _ _;exact Mu hf hs (by omega)
    ·refine⟨_,ps++[p],Y,xA s3 hl hp,by rw[ai,M_];rfl,?_⟩;rw[qbZ,M_,←qa6];refine GP.Paired.snoc (Paired.ji pp λ_ _ z=>z.same (Tr hp)) ?_;show Wo l _ p=some (.tup [.int (i:Int),.int (j:Int)]);rw[Nq np,qaW,qaW]
   ·rintro σ H3 ⟨v4,ps,rfl,s3,h3,pp⟩;exact⟨_,_,ps,Y,s3,h3,by rw[Gh];exact pp⟩
  ·rintro σ H2 ⟨v3,v4,ps,rfl,s2,h2,pp⟩;exact⟨_,Y,kk l H2 s2 hl (UQ h2 pp)⟩
theorem Cg {kI cG cU:U}{jm bY cI:F_}{p:Pm}(T:Txt K mg p w base)(gM:Dn K mg "steps_from" pY X8 kI jm)(bh:Dn K mg "pair_cost" jN O2 cG bY)(jW:aH P w K mg base bL 1 cG bY O2 (qE K p.aq))(aV:Dn K mg "alone_cost" j8 Rz cU cI)(jf:aH P w K mg base bL 3 cU cI Rz (z9 K p.aq)):aH P w K mg base bL 4 kI jm X8 (KC K p.aq):=by
 refine gM.fn.jg oS (λvs H Q E h=>?_) (λ_ _ _ _ H vs Q E hr h=>?_)
 ·obtain⟨x,pl,T1,f,s,i,j,c,rfl,_⟩:=h;rfl
 ·obtain⟨x,pl,T1,f,s,i,j,c,rfl,hP,of,os,hf,hs,hp,kk⟩:=h;have lf:f.length<=D_:=p_ hf (by decide);have ls:s.length<=D_:=p_ hs (by decide);intro X;refine⟨_,(aj (Z9X 5 oS.nd (aD aJ (pv 3) ah (λ_ _=>rfl)))
   (aj (Z9X 6 oS.nd (aD aJ (pv 3) ah (λ_ _=>rfl)))
   (aj (Z9X 7 oS.nd (ie af))
   (br (bH (PW.pt (rK (aF sy (pv 5) (aC (aQ) rfl T.cB bA (aa (pv 1) af)) (aG _)) (qi (aF sy (pv 6) (aC (aQ) rfl T.cB bA (aa (pv 2) af)) (aG _))))) (ao (cD (lF PySem.F.plainAttrs_list PySem.F.slot_list_append PySem.F.type_list_append cO (pv 7) (aa (aW (aa (aW (aa (aW (aa (aA bE (pv 5) ah) (aa (aA bE (pv 6) ah) af))) (aa aS af))) (aa (gc jW hr bh (aa (pv 0) (aa (aD kZ (pv 1) (pv 5) (λ_ _=>rfl)) (aa (aD kZ (pv 2) (pv 6) (λ_ _=>rfl)) af)))) af))) af)))) aP)
   (br (bH (aF sy (pv 5) (aC (aQ) rfl T.cB bA (aa (pv 1) af)) (aG _)) (ao (cD (lF PySem.F.plainAttrs_list PySem.F.slot_list_append PySem.F.type_list_append cO (pv 7) (aa (aW (aa (aW (aa (aW (aa (aA bE (pv 5) ah) (aa (pv 6) af))) (aa aS af))) (aa (gc jf hr aV (aa (pv 0) (aa aS (aa (pv 4) af)))) af))) af)))) aP)
   (br (bH (aF sy (pv 6) (aC (aQ) rfl T.cB bA (aa (pv 2) af)) (aG _)) (ao (cD (lF PySem.F.plainAttrs_list PySem.F.slot_list_append PySem.F.type_list_append cO (pv 7) (aa (aW (aa (aW (aa (aW (aa (pv 5) (aa (aA bE (pv 6) ah) af))) (aa aS af))) (aa (gc jf hr aV (aa (pv 0) (aa aS (aa (pv 4) af)))) af))) af)))) aP)
   (ao (aI (pv 7))))))))),?_⟩
  refine⟨_,Y,pl,_,_,_,Y,Y,bZ.of hp,Y,?_⟩;refine⟨_,Y,pl,_,_,_,Y,Y,bZ.of hp,Y,?_⟩;refine⟨a_,λl hl=>?_⟩;have S9:∀{H2},ak H H2->ql K p.aq H2 x T1.1 T1.2.1 T1.2.2.1 T1.2.2.2:=λe=>ql.same e hP;refine⟨λσ H'=>∃ps:List U,σ=[some (.ref x),some (.str f),some (.str s),some (.ref pl),some (.str ⟨#[c]⟩),some (.int (i:Int)),some (.int (j:Int)),some (.ref l)]/\ak H H'/\H' l=some (.lst (ps.map V.ref))/\ps.length<=1 ∧
   Paired (Sa (Wo l H')) ps (if i<f.cps.size/\j<s.cps.size then [((i+1,j+1,112),(b7 T1 f f s).pc i j)]else []),?_,?_⟩
  ·refine⟨_,Y,_,Y,_,_,Y,⟨lf,Y⟩,_,_,Y,Y,_,Y,?_⟩;refine b9 (λh1=>?_) (λh1=>?_)
   ·refine⟨_,Y,_,Y,_,_,Y,⟨ls,Y⟩,_,_,Y,Y,_,Y,?_⟩;have xS:i<f.cps.size:=by have z:(i:Int)<(f.cps.size:Int):=h1;omega
    refine b9 (λh2=>?_) (λh2=>?_)
    ·have h2':j<s.cps.size:=by have z:(j:Int)<(s.cps.size:Int):=h2;omega
     obtain⟨a,ha⟩:=uR xS;obtain⟨b,hb⟩:=uR h2';obtain⟨i',j',fr,hi',hj',hat,Y8⟩:=Eh (u:=uT T1) hP.ZZ (of a (pe ha)) (os b (pe hb));refine⟨_,Y,.inl ⟨Y,_,bW.of ai⟩,_,Y,_,_,Y,Y,_,Y,_,_,Y,Y,c_,λp1 hp1=>⟨c_,λq1 hq1=>?_⟩⟩;have s0:=(ak.upd (o:=.lst []) hl).trans ((ak.upd hp1).trans (ak.upd (o:=.tup [.ref p1,.str (h_ "p")]) hq1));refine⟨_,Y,_,Y,_,Y,f,_,a,Y,Y,lf,dY (dw ha),_,Y,_,Y,s,_,b,Y,Y,ls,dY (dw hb),x,T1.1,T1.2.1,T1.2.2.1,T1.2.2.2,i',j',a,b,fr,Y,S9 s0,hi',hj',hat,λH5 s5=>⟨c_,λr1 hr1=>?_⟩⟩;obtain⟨h5,nr,sw,st⟩:=II (t:=((i+1,j+1,112),(b7 T1 f f s).pc i j)) (y:=.lst ([]++[.ref r1])) ai hp1 hq1 s5 hr1 rfl rfl sP (by
      show V.int (fr.1*(uT T1 / fr.2))=V.int (L4 T1.1 T1.2.1 (uT T1) (f.cps.toList.getD i 0) (s.cps.toList.getD j 0));rw[u_,u_,dw ha,dw hb];exact congrArg V.int Y8.symm)
     refine⟨l,_,_,Y,Y,by rw[av (Ne.symm nr)];exact h5,by show 0<D_;decide,[r1],Y,xA (s0.trans s5) hl hr1,ai,j_ _,?_⟩;rw[if_pos ⟨xS,h2'⟩];exact .cons st .nil
    ·have h2':¬j<s.cps.size:=λz=>h2 (by show(j:Int)<(s.cps.size:Int);omega);exact⟨[],Y,ak.upd hl,ai,Q_ _,by rw[if_neg (λz=>h2' z.2)];exact .nil⟩
   ·have xS:¬i<f.cps.size:=λz=>h1 (by show(i:Int)<(f.cps.size:Int);omega);refine gF ?_;exact⟨[],Y,ak.upd hl,ai,Q_ _,by rw[if_neg (λz=>xS z.1)];exact .nil⟩
  rintro σ H2 ⟨ps,rfl,s2,h2,l2,pp⟩;refine⟨λσ H'=>∃ps:List U,σ=[some (.ref x),some (.str f),some (.str s),some (.ref pl),some (.str ⟨#[c]⟩),some (.int (i:Int)),some (.int (j:Int)),some (.ref l)]/\ak H H'/\H' l=some (.lst (ps.map V.ref))/\ps.length<=2 ∧
   Paired (Sa (Wo l H')) ps ((if i<f.cps.size/\j<s.cps.size then [((i+1,j+1,112),(b7 T1 f f s).pc i j)]else [])++(if i<f.cps.size then [((i+1,j,97),(b7 T1 f f s).ac 97 c)]else [])),?_,?_⟩
  ·refine⟨_,Y,_,Y,_,_,Y,⟨lf,Y⟩,_,_,Y,Y,_,Y,?_⟩;refine b9 (λh1=>?_) (λh1=>?_)
   ·have xS:i<f.cps.size:=by have z:(i:Int)<(f.cps.size:Int):=h1;omega
    refine⟨_,Y,.inl ⟨Y,_,bW.of h2⟩,_,Y,_,_,Y,Y,_,Y,c_,λp1 hp1=>⟨c_,λq1 hq1=>?_⟩⟩;have s0:=s2.trans ((ak.upd hp1).trans (ak.upd (o:=.tup [.ref p1,.str (h_ "a")]) hq1));refine⟨_,Y,_,Y,x,T1.1,T1.2.1,T1.2.2.1,T1.2.2.2,_,_,Y,S9 s0,c_,λr1 hr1=>?_⟩;obtain⟨h5,nr,sw,st⟩:=II (t:=((i+1,j,97),(b7 T1 f f s).ac 97 c)) (y:=.lst (ps.map V.ref++[.ref r1])) h2 hp1 hq1 (ak.refl _) hr1 rfl rfl sA (Qc sA);refine⟨l,_,_,Y,Y,by rw[av (Ne.symm nr)];exact h5,by rw[l_];exact w_ l2 (by decide),ps++[r1],Y,xA s0 hl hr1,by rw[ai,M_];rfl,by rw[G_];exact qar l2,?_⟩;rw[if_pos xS];exact GP.Paired.snoc (Paired.ji pp λ_ _ z=>z.same sw) st
   ·have xS:¬i<f.cps.size:=λz=>h1 (by show(i:Int)<(f.cps.size:Int);omega);exact⟨ps,Y,s2,h2,by omega,by rw[if_neg xS,qaB];exact pp⟩
  rintro σ H3 ⟨ps,rfl,s3,h3,l3,pp⟩;refine⟨λσ H'=>∃ps:List U,σ=[some (.ref x),some (.str f),some (.str s),some (.ref pl),some (.str ⟨#[c]⟩),some (.int (i:Int)),some (.int (j:Int)),some (.ref l)]/\ak H H'/\H' l=some (.lst (ps.map V.ref)) ∧
   Paired (Sa (Wo l H')) ps (((if i<f.cps.size/\j<s.cps.size then [((i+1,j+1,112),(b7 T1 f f s).pc i j)]else [])++(if i<f.cps.size then [((i+1,j,97),(b7 T1 f f s).ac 97 c)]else []))++(if j<s.cps.size then [((i,j+1,98),(b7 T1 f f s).ac 98 c)]else [])),?_,?_⟩
  ·refine⟨_,Y,_,Y,_,_,Y,⟨ls,Y⟩,_,_,Y,Y,_,Y,?_⟩;refine b9 (λh1=>?_) (λh1=>?_)
   ·have xS:j<s.cps.size:=by have z:(j:Int)<(s.cps.size:Int):=h1;omega
    refine⟨_,Y,.inl ⟨Y,_,bW.of h3⟩,_,Y,_,Y,_,_,Y,Y,c_,λp1 hp1=>⟨c_,λq1 hq1=>?_⟩⟩;have s0:=s3.trans ((ak.upd hp1).trans (ak.upd (o:=.tup [.ref p1,.str (h_ "b")]) hq1));refine⟨_,Y,_,Y,x,T1.1,T1.2.1,T1.2.2.1,T1.2.2.2,_,_,Y,S9 s0,c_,λr1 hr1=>?_⟩;obtain⟨h5,nr,sw,st⟩:=II (t:=((i,j+1,98),(b7 T1 f f s).ac 98 c)) (y:=.lst (ps.map V.ref++[.ref r1])) h3 hp1 hq1 (ak.refl _) hr1 rfl rfl sB (Qc sB);refine⟨l,_,_,Y,Y,by rw[av (Ne.symm nr)];exact h5,by rw[l_];exact w_ l3 (by decide),ps++[r1],Y,xA s0 hl hr1,by rw[ai,M_];rfl,?_⟩;rw[if_pos xS];exact GP.Paired.snoc (Paired.ji pp λ_ _ z=>z.same sw) st
   ·have xS:¬j<s.cps.size:=λz=>h1 (by show(j:Int)<(s.cps.size:Int);omega);exact⟨ps,Y,s3,h3,by rw[if_neg xS,qaB];exact pp⟩
  rintro σ H4 ⟨ps,rfl,s4,h4,pp⟩;refine⟨_,Y,kk l H4 s4 hl λm=>⟨ps,h4,?_⟩⟩;rw[qa6]at pp;exact Paired.ji pp λ_ _ z=>z.same Wo.sub
end
section
variable{P:r_}{w:I_}{K:PySem.W.Frag}{mg:v_->Option k_}{base:W_}
theorem Ez {mO kI:U}{kD jm:F_}{p:Pm}(T:Txt K mg p w base)(iY:Dn K mg "all_steps" rz X7 mO kD)(gM:Dn K mg "steps_from" pY X8 kI jm)(Fc:aH P w K mg base bL 4 kI jm X8 (KC K p.aq)):aH P w K mg base bL 5 mO kD X7 (N2 P w K p.aq):=by
 refine iY.fn.jg pV (λvs H Q E h=>?_) (λ_ _ _ _ H vs Q E hr h=>?_)
 ·obtain⟨x,lp,T1,f,s,rfl,_⟩:=h;rfl
 ·obtain⟨x,lp,T1,f,s,rfl,hP,of,os,hf,hs,⟨ps,QE,pp⟩,kk⟩:=h;have pw:=yt f.cps.size s.cps.size;intro X;refine⟨_,(aj (Z9X 4 pV.nd (Aa (Pr:=P) (wo:=w) Y Y))
   (aj (cV P_ rfl (qj (pv 3)) (Z9Y 5 pV.nd) (ao (cV P_ rfl (Om (qk (v:=.ref p.lW) rfl T.JG rfl)) (Z9Y 6 pV.nd) (ao (xE (Pr:=P) (wo:=w) (jR hr) (pv 4) (aW (aa (pv 5) (aa (pv 6) af))) (gc Fc hr gM (aa (pv 0) (aa (pv 1) (aa (pv 2) (aa (pv 5) (aa (pv 6) af)))))) rfl rfl rfl)))))
   (ao (aI (pv 4))))),?_⟩
  refine λd hd=>?_;have s1:ak H (L2.upd H d (wX P w d [])):=ak.upd hd;refine⟨_,Y,lp,Y,⟨_,bW.of (s1 _ _ QE)⟩,?_⟩;refine sG (K:=K) (a:=lp) (xs:=ps.map V.ref) (λa σ H2=>nN λv5 v6 kvs=>σ=[some (.ref x),some (.str f),some (.str s),some (.ref lp),some (.ref d),v5,v6]/\ak H H2/\H2 d=some (wX P w d kvs)/\(∀e∈kvs,fY (Wo d H2) e.2.1 e.1)/\∀m,M0 (Wo d H2) (b7 T1 m f s) kvs (eG ((placesOf f.cps.size s.cps.size).take a)))
   ⟨_,_,[],rfl,s1,ai,(λe he=>nomatch he),λm=>by rw[List.take_zero];exact .nil⟩ (λa σ H2 _ ⟨_,_,_,_,s2,_⟩=>bW.of (s2 _ _ QE)) ?_ ?_
  ·rintro a y σ H2 hy ⟨v5,v6,kvs,rfl,s2,hd2,hk2,hst⟩;obtain⟨pl,hpl,rfl⟩:=i9 hy;obtain⟨q,hq,hpq⟩:=GP.Paired.at pp hpl;have hqn:=fk.mp (A_ hq);refine⟨p.lW,Y,⟨_,T.AI _⟩,?_⟩;refine Ll (K:=K) (a:=p.lW) (xs:=[V.str (h_ "p"),V.str (h_ "a"),V.str (h_ "b")]) (λb σ H3=>dP λv6 kvs=>σ=[some (.ref x),some (.str f),some (.str s),some (.ref lp),some (.ref d),some (.ref pl),v6]/\ak H H3/\H3 d=some (wX P w d kvs)/\(∀e∈kvs,fY (Wo d H3) e.2.1 e.1)/\∀m,M0 (Wo d H3) (b7 T1 m f s) kvs (eG ((placesOf f.cps.size s.cps.size).take a)++st3 q b))
    ⟨_,kvs,rfl,s2,hd2,hk2,λm=>by show M0 _ _ _ (_++[]);rw[qaB];exact hst m⟩ (λb σ H3 _ _=>T.AI _) ?_ ?_
   ·rintro b y σ H3 hy ⟨v6,kvs,rfl,s3,B0,hk3,hst⟩;obtain⟨c,hc,rfl⟩:=V0 hy;refine⟨_,Y,_,Y,_,Y,_,Y,_,Y,x,pl,T1,f,s,q.1,q.2,c,Y,hP.same s3,of,os,hf,hs,s3 _ _ hpq,λl H4 s4 hl hsl=>?_⟩;refine⟨_,Y,_,Y,_,Y,c_,λq1 hq1=>?_⟩;have MH:=s4 _ _ B0;have nq:q1≠d:=λz=>by rw[z,MH]at hq1;cases hq1
    have nl:l≠d:=λz=>by rw[z,B0]at hl;cases hl
    have kq:fY (L2.upd H4 q1 (.tup [.ref pl,.str ⟨#[c]⟩])) q1 (g7 (q.1,q.2,c)):=⟨pl,ai,by rw[av (aX (s4 _ _ (s3 _ _ hpq)) hq1)];exact s4 _ _ (s3 _ _ hpq)⟩;have sw:ak (Wo d H3) (L2.upd H4 q1 (.tup [.ref pl,.str ⟨#[c]⟩])):=λb u h=>ak.upd hq1 b u (s4 b u (Wo.sub b u h));have hno:=Sk (hst f) (UH pw hq hc);have hal:a<(placesOf f.cps.size s.cps.size).length:=(o_.mp hq).1;have hlen:kvs.length<D_:=by
     have z:=UI (q:=q) (b:=b) hal;rw[←Paired.len (hst f),places_len]at z;exact Mu hf hs z
    refine⟨d,kvs,_,q1,Y,Y,⟨by rw[av (Ne.symm nq)];exact MH,λe he=>fY.same (hk3 e he) sw⟩,kq,hlen,?_⟩;rw[Ox hno];have sw2:ak (Wo d H3) (Wo d (L2.upd (L2.upd H4 q1 (.tup [.ref pl,.str ⟨#[c]⟩])) d (wX P w d (kvs++[(g7 (q.1,q.2,c),q1,.ref l)])))):=λb u h=>Wo.in (Wo.ne h) (by rw[av (Wo.ne h)];exact sw b u h);refine⟨_,_,Y,?_,ai,λe he=>?_,λm=>?_⟩
    ·exact ak.at ((s3.trans s4).trans (ak.upd hq1)) hd
    ·rcases V_.mp he with he|he
     ·exact fY.same (hk3 e he) sw2
     ·rw[x_.mp he];obtain⟨pl',k1,k2⟩:=kq;exact⟨pl',Wo.in nq (by rw[av nq];exact k1),Wo.in (λz=>by rw[z,av (Ne.symm nq),MH]at k2;cases k2) (by rw[av (λz=>by rw[z,av (Ne.symm nq),MH]at k2;cases k2)];exact k2)⟩
    ·rw[NL hc,←qa6];refine GP.Paired.snoc ((hst m).same sw2) ⟨Y,l,Y,(hsl m).da.same λb u h=>?_⟩;have h':H4 b=some u:=by
      unfold wZ at h;split at h
      ·next e=>cases h;exact e
      ·next e=>cases h;exact e
      ·cases h
     have nb:b≠d:=λz=>by
      rw[z,MH]at h';unfold wZ at h;rw[z,MH]at h;cases h
     exact Wo.in nb (by rw[av nb];exact ak.upd hq1 _ _ h')
   ·rintro σ H3 ⟨v6,kvs,rfl,s3,B0,hk3,hst⟩;exact⟨_,_,kvs,Y,s3,B0,hk3,λm=>by rw[F0 hq];exact hst m⟩
  ·rintro σ H2 ⟨v5,v6,kvs,rfl,s2,hd2,hk2,hst⟩;refine⟨_,Y,kk d kvs H2 s2 hd ⟨hd2,λe he=>fY.same (hk2 e he) Wo.sub⟩ λm=>?_⟩;have z:=(hst m).same Wo.sub;rw[l_,Paired.len pp,qbb]at z;exact z
theorem GG {oM qv:U}{mw ow:F_}{p:Pm}(T:Txt K mg p w base)(j5:Dn K mg "all_ends" tE X6 oM mw)(mQ:Dn K mg "may_end" vf Yc qv ow)(Nb:aH P w K mg base bL 1 qv ow Yc (NS K)):aH P w K mg base bL 2 oM mw X6 KL:=by
 refine j5.fn.jg uB (λvs H Q E h=>?_) (λ_ _ _ _ H vs Q E hr h=>?_)
 ·obtain⟨lp,f,s,m,rfl,_⟩:=h;rfl
 ·obtain⟨lp,f,s,m,rfl,hf,hs,⟨ps,QE,pp⟩,kk⟩:=h;intro X;refine⟨_,(aj (Z9X 4 uB.nd Gs)
   (aj (cV P_ rfl (qj (pv 2)) (Z9Y 5 uB.nd) (ao (vq (jH hr) (pv 4) (pv 5) (gc Nb hr mQ (aa (pv 3) (aa (pv 0) (aa (pv 1) (aa (pv 5) af))))) rfl)))
   (ao (aI (pv 4))))),?_⟩
  refine λd hd=>?_;have s1:ak H (L2.upd H d (.dT [])):=ak.upd hd;refine⟨_,Y,lp,Y,⟨_,bW.of (s1 _ _ QE)⟩,?_⟩;refine sG (K:=K) (a:=lp) (xs:=ps.map V.ref) (λa σ H2=>dP λv5 kvs=>σ=[some (.str f),some (.str s),some (.ref lp),some (.str m),some (.ref d),v5]/\ak H H2/\H2 d=some (.dT kvs)/\kvs.length<=a/\∀q∈(placesOf f.cps.size s.cps.size).take a,jK kvs [.inl (q.1:Int),.inl (q.2:Int)]=some (.bl (Bc m f s (q.1,q.2))))
   ⟨_,[],rfl,s1,ai,j_ _,λq hq=>by rw[List.take_zero]at hq;exact nomatch hq⟩ (λa σ H2 _ ⟨_,_,_,s2,_⟩=>bW.of (s2 _ _ QE)) ?_ ?_
  ·rintro a y σ H2 hy ⟨v5,kvs,rfl,s2,hd2,hk2,hst⟩;obtain⟨pl,hpl,rfl⟩:=i9 hy;obtain⟨q,hq,hpq⟩:=GP.Paired.at pp hpl;have hal:=(o_.mp hq).1;rw[places_len]at hal;refine⟨_,Y,_,Y,_,Y,_,Y,m,f,s,pl,((q.1:Int),(q.2:Int)),Y,bZ.of (s2 _ _ hpq),by omega,by omega,?_⟩;refine⟨_,Y,_,Y,d,_,Y,zZ.t (k:=[.inl (q.1:Int),.inl (q.2:Int)]) hd2 (s2 _ _ hpq) (Mu hf hs (by omega)),?_⟩;refine⟨_,_,Y,ak.at s2 hd,ai,p_ (gE _ _ _) (qar hk2),λr hr=>?_⟩;rw[take_snoc hq]at hr;rw[rZ];by_cases e:r=q
   ·rw[if_pos (by rw[e]),e]
   ·rw[if_neg (λz=>e ?_)]
    ·rcases V_.mp hr with hr|hr
     ·exact hst r hr
     ·exact absurd (x_.mp hr) e
    ·have z1:=(qb3 z).1;have z2:=(qb3 (qb3 z).2).1;have e1:(r.1:Int)=q.1:=Sum.inl.inj z1;have e2:(r.2:Int)=q.2:=Sum.inl.inj z2;exact Prod.ext (by omega) (by omega)
  ·rintro σ H2 ⟨v5,kvs,rfl,s2,hd2,hk2,hst⟩;refine⟨_,Y,kk d kvs H2 s2 hd hd2 λT1 i j hi hj=>?_⟩;rw[l_,Paired.len pp,qbb]at hst;exact hst (i,j) (fk.mpr ⟨hi,hj⟩)
theorem wK {aU cT iI kT mO mD oM:U}{cF cH gx jv kD kh mw:F_}{p:Pm}(T:Txt K mg p w base)(cE:Dm K "__init__" "Ground.__init__" cC SK aU cF)(bG:Dn K mg "check_rows" j7 RA cT cH)(nR:aH P w K mg base bL 2 cT cH RA (qU K p.aq))(eW:Dn K mg "check_manner" nv ["manner"] iI gx)(BY:aH P w K mg base bL 1 iI gx ["manner"] vI)(gX:Dn K mg "all_places" qg Yb kT jv)(Fl:aH P w K mg base bL 1 kT jv Yb Sl)(iY:Dn K mg "all_steps" rz X7 mO kD)(HZ:aH P w K mg base bL 5 mO kD X7 (N2 P w K p.aq))(iS:Dn K mg "may_begin" qY Yd mD kh)(HS:aH P w K mg base bL 1 mD kh Yd (NT K))(j5:Dn K mg "all_ends" tE X6 oM mw)(Kl:aH P w K mg base bL 2 oM mw X6 KL):aH P w K mg base bL 6 aU cF SK (ym P w K p.aq p.aR):=by
 refine cE.fn.jg qF (λvs H Q E h=>?_) (λ_ _ _ _ H vs Q E hr h=>?_)
 ·obtain⟨x,dx,pr,T1,f,s,m,rfl,_⟩:=h;rfl
 ·obtain⟨x,dx,pr,T1,f,s,m,rfl,hx,hP,of,os,hm,tK,uo,kk⟩:=h;intro X;refine⟨_,(aj (cD (gc nR hr bG (aa (pv 1) (aa (ie (aa (pv 2) (aa (pv 3) af))) af))))
   (aj (cD (gc BY hr eW (aa (pv 4) af)))
   (aj (Z9X 5 qF.nd (gc Fl hr gX (aa (pv 2) (aa (pv 3) af))))
   (aj (pQ (pv 0) (gc HZ hr iY (aa (pv 1) (aa (pv 2) (aa (pv 3) (aa (pv 5) af))))) rfl)
   (aj (pQ (pv 0) (Gu (N:=["place","manner"]) rfl (ee.xU (nt:=1) (ix:=[4]) rfl (by decide +kernel) (by decide +kernel) (by kernel_rfl) rfl (by kernel_rfl)) (qj (pv 5)) (λ_ _ _ _ _ _ _=>(aL (i:=0) (show(["place","manner"]:List v_).Nodup by decide +kernel) rfl (Or.inl rfl))) (λ_ _ _ _ _ _ _=>(pv 0)) (λ_ _ _ _ _ _ _=>(kY (gc HS hr iS (aa (pv 1) (aa (pv 0) af)))))) rfl)
   (ao (pQ (pv 0) (gc Kl hr j5 (aa (pv 2) (aa (pv 3) (aa (pv 5) (aa (pv 4) af))))) rfl))))))),?_⟩
  refine⟨_,Y,_,Y,_,Y,c_,λl hl=>?_⟩;refine⟨pr,l,T1.1,T1.2.1,T1.2.2.1,T1.2.2.2,f,s,Y,hP.same (ak.upd hl),ai,of,os,λH1 s1=>?_⟩;have N6:=(ak.upd (o:=.lst [.str f,.str s]) hl).trans s1;refine⟨_,Y,m,Y,hm,?_⟩;refine⟨_,Y,_,Y,f,s,Y,tK,uo,λlp H2 s2 QE hpl=>?_⟩;have Cb:=N6.trans s2;refine⟨_,Y,_,Y,_,Y,_,Y,pr,lp,T1,f,s,Y,hP.same Cb,of,os,tK,uo,hpl,λd kvs H3 s3 hd hnd hst=>?_⟩;have Ic:=Cb.trans s3;have hx3:=Ic _ _ hx;refine⟨_,Y,x,_,dx,[],Y,hx3,T.gC,T.ig,by show 0<1000;decide,?_⟩;have d3:=Dat.set (fs':=aM "steps" (.ref d) []) hx3;have YH:=(hpl.same s3).da.same (wZ.dat d3);obtain⟨ps,hps,pp⟩:=id YH;have hlen:=Paired.len pp;rw[places_len]at hlen;refine⟨_,Y,lp,Y,⟨_,bW.of hps⟩,λlB hlB=>?_⟩;have at_:∀i,i<ps.length->ps[i]? =some (ps.getD i 0)/\Ft (L2.upd H3 x (.ins p.aR dx (aM "steps" (.ref d) []))) (ps.getD i 0) ((placesOf f.cps.size s.cps.size).getD i (0,0)):=λi hi=>by
   have e:ps[i]? =some (ps.getD i 0):=by rw[u_,g_ hi];rfl
   obtain⟨q,hq,hpq⟩:=GP.Paired.at pp e;refine⟨e,?_⟩;rw[u_ (l:=placesOf _ _),hq];exact hpq
  refine Ly ps.length (λi=>yE m (((placesOf f.cps.size s.cps.size).getD i (0,0)).1,((placesOf f.cps.size s.cps.size).getD i (0,0)).2)) (λi=>.ref (ps.getD i 0)) hlB (Mu tK uo (by omega)) (λi H4 s4 hi=>?_) (λH4 s4=>?_) (λi y H4 H5 R S s4 hi hy hR hS=>?_) λH4 s4 Pg=>?_
  ·exact⟨_,_,bW.of (s4 _ _ hps),by rw[O_,(at_ i hi).1];rfl⟩
  ·exact⟨_,bW.of (s4 _ _ hps),by rw[l_];exact j_ _⟩
  ·obtain⟨rfl,hy⟩:=hy;have ey:=hy _ (bW.of (s4 _ _ hps));rw[O_,(at_ i hi).1]at ey;cases ey;refine⟨Kp.LW,_,Y,_,Y,m,_,((((placesOf f.cps.size s.cps.size).getD i (0,0)).1:Int),(((placesOf f.cps.size s.cps.size).getD i (0,0)).2:Int)),Y,bZ.of (s4 _ _ (at_ i hi).2),_,Y,?_⟩
   cases z:yE m (((placesOf f.cps.size s.cps.size).getD i (0,0)).1,((placesOf f.cps.size s.cps.size).getD i (0,0)).2)with
   |true=>exact om ⟨_,Y,hR z _ (ak.refl _)⟩
   |false=>exact gF (hS z _ (ak.refl _))
  have YA:=s4 _ _ (ai (H:=H3) (a:=x) (o:=.ins p.aR dx (aM "steps" (.ref d) [])));refine⟨_,Y,x,_,dx,_,Y,YA,T.gC,T.pR,by show 1<1000;decide,?_⟩;have d4:=Dat.set (fs':=aM "begins" (.ref lB) (aM "steps" (.ref d) [])) YA;have adj:Nl H4 lp (placesOf f.cps.size s.cps.size):=YH.same s4;have adi:=adj.da.same (wZ.dat d4);refine⟨_,Y,_,Y,_,Y,_,Y,lp,f,s,m,Y,tK,uo,adi,λdE kE H6 s6 hdE hE6 hE=>?_⟩;have SS:=s6 _ _ (ai (H:=H4) (a:=x) (o:=.ins p.aR dx (aM "begins" (.ref lB) (aM "steps" (.ref d) []))));refine⟨_,Y,x,_,dx,_,Y,SS,T.gC,T.rN,by show 2<1000;decide,?_⟩;have d6:=Dat.set (fs':=aM "ends" (.ref dE) (aM "begins" (.ref lB) (aM "steps" (.ref d) []))) SS;have dd:Dat H3 (L2.upd H6 x (.ins p.aR dx (aM "ends" (.ref dE) (aM "begins" (.ref lB) (aM "steps" (.ref d) []))))):=(((d3.trans (Dat.of s4)).trans d4).trans (Dat.of s6)).trans d6;have de:Dat H4 (L2.upd H6 x (.ins p.aR dx (aM "ends" (.ref dE) (aM "begins" (.ref lB) (aM "steps" (.ref d) []))))):=(d4.trans (Dat.of s6)).trans d6;refine kk _ (λb u nb hb=>?_) ⟨dx,d,lB,dE,kvs,kE,ai,ND.dat hnd dd,(hst m).da.same (wZ.dat dd),?_,d6 _ _ (λ_ _ _ z=>by cases z) hE6,hE T1⟩
  ·rw[av nb];refine s6 _ _ ?_;rw[av nb];refine s4 _ _ ?_;rw[av nb];exact Ic _ _ hb
  ·refine⟨((S_ ps.length).filter λi=>yE m (((placesOf f.cps.size s.cps.size).getD i (0,0)).1,((placesOf f.cps.size s.cps.size).getD i (0,0)).2)).map λi=>ps.getD i 0,?_,?_⟩
   ·rw[qaL];exact de _ _ (λ_ _ _ z=>by cases z) Pg
   ·unfold iQ;rw[←Lp (placesOf f.cps.size s.cps.size) (0,0),places_len,←hlen];refine yV λi hi=>?_;have hi':=qbe.mp (Z_.mp hi).1;exact de _ _ (λ_ _ _ z=>by cases z) (s4 _ _ (at_ i hi').2)
end
section
variable{P:r_}{w:I_}{K:PySem.W.Frag}{mg:v_->Option k_}{base:W_}
theorem AM {eE:U}{c8:F_}{p:Pm}(T:Txt K mg p w base)(cg:Dn K mg "least_rests" lD Vg eE c8)  :aH P w K mg base bL 1 eE c8 Vg (IJ P w p.aR):=by
 refine cg.fn.jg mY (λvs H Q E h=>?_) (λ_ _ _ _ H vs Q E hr h=>?_)
 ·obtain⟨x,g,bs,rfl,_⟩:=h;rfl
 ·obtain⟨x,g,bs,rfl,hG,ok,hn,hm,kk⟩:=h;obtain⟨dx,dS,lB,dE,kS,kE,hx,hS,hst,hB,hE,Wu⟩:=id hG;have hN:kS.length=g.states.length:=Paired.len hst;have hN3:g.states.length=3*((g.n+1)*(g.m+1)):=by unfold Gd.states;rw[wm,places_len]
  intro X;refine⟨_,(aj (aB (i:=1) mY.nd Y (Or.inr Y) (Aa (Pr:=P) (wo:=w) Y Y))
   (aj (cV P_ rfl (Oo rfl T.Ak (aa (jj (tR (Pr:=P) (wo:=w) rfl rfl rfl) rfl T.wg tU (aa (eK (pv 0) rfl) af)) af)) (Z9Y 2 mY.nd) (aj (wF (i:=3) (N:=l61) mY.nd rfl (Or.inl rfl) rfl (ee.xU (nt:=2) (ix:=[1]) rfl (by decide +kernel) (by decide +kernel) (by kernel_rfl) rfl (by kernel_rfl)) (qj (lU (Pr:=P) (wo:=w) (jR hr) (eK (pv 0) rfl) (pv 2) (λ_ _=>rfl) rfl rfl)) (λ_ _ _ _ _ _ _=>(K0 (K':=K) (n:=2) rfl rfl (bC (aL (i:=0) (show(l61:List v_).Nodup by decide +kernel) rfl (Or.inl rfl)) (bC (aL (i:=1) (show(l61:List v_).Nodup by decide +kernel) rfl (Or.inl rfl)) i7)))) (λ_ _ _ _ _ _ _=>(aA bE (pv 1) (lU (Pr:=P) (wo:=w) (jR hr) (pv 2) (pv 0) (λ_ _=>rfl) rfl rfl))))
   (br (bH (kY (i8 (jH hr) (eK (pv 0) rfl) (aD aJ (pv 2) ah (λ_ _=>rfl)) (λ_ _=>rfl))) (ao (cD (lF PySem.F.plainAttrs_list PySem.F.slot_list_append PySem.F.type_list_append cO (pv 3) (aa ah af)))) aP)
   (ao (xE (Pr:=P) (wo:=w) (jR hr) (pv 1) (pv 2) (aC (MX rfl) rfl T.Fw BD (aa (pv 3) af)) rfl rfl rfl)))))
   (ao (aI (pv 1))))),?_⟩
  refine λd hd=>?_;have s1:ak H (L2.upd H d (wX P w d [])):=ak.upd hd;refine⟨_,Y,x,_,dx,_,_,Y,s1 _ _ hx,T.gC,T.ig,sE,dS,kS,Y,ND.same hS s1,λl hl=>?_⟩;have s2:=s1.trans (ak.upd (o:=.lst (kS.map λe=>.ref e.2.1)) hl);have Qz:l≠d:=λz=>by rw[z,ai]at hl;cases hl
  refine⟨l,_,Y,bW.of ai,?_⟩;refine Ln (K:=K) (a:=l) (xs:=kS.map λe=>V.ref e.2.1) (λk σ H2=>nN λv2 v3 kvs=>σ=[some (.ref x),some (.ref d),v2,v3]/\ak H H2/\H2 l=some (.lst (kS.map λe=>V.ref e.2.1))/\H2 d=some (wX P w d kvs)/\kvs.length<=k/\(∀e∈kvs,fY (Wo d H2) e.2.1 e.1)/\∀s∈g.states.drop (g.states.length-k),kc kvs (g7 s)=some (.int (g.rest s)))
   ⟨_,_,[],rfl,s2,ai,by rw[av (Ne.symm Qz),ai],j_ _,(λe he=>nomatch he),λs hs=>by rw[Nat.sub_zero,List.drop_length]at hs;exact nomatch hs⟩ (λk σ H2 _ ⟨_,_,_,_,_,h2,_⟩=>bW.of h2) ?_ ?_
  ·rintro k y σ H2 hk hy ⟨v2,v3,kvs,rfl,s2,hl2,hd2,hlen,hkey,hval⟩;rw[l_,hN]at hk;rw[l_,hN]at hy;obtain⟨e,he,rfl⟩:=i9 hy;obtain⟨s,hs,hek,l',hel,hsl⟩:=GP.Paired.at hst he;have hin:=Gd.fj.mp (A_ hs);have hke:fY H e.2.1 (g7 s):=by rw[←hek];exact hS.keys e (A_ he)
   obtain⟨l'',YJ,Pb⟩:=z6 hst (Gd.fj.mpr hin);obtain⟨ps,hps,pp⟩:=Pb;have hpl:=Paired.len pp;refine⟨_,Y,x,_,dx,_,_,Y,s2 _ _ hx,T.gC,T.ig,sE,_,Y,dS,kS,g7 s,e.2.1,.ref l'',Y,Y,ND.same hS s2,fY.same hke s2,YJ,l'',Y,⟨_,bW.of (s2 _ _ hps)⟩,λlc Lg=>?_⟩;have adb:(g.steps s).length<=3:=by unfold Gd.steps;split<;>split<;>split<;>simp
   refine EJ ps.length (λi=>.int (g.key ((g.steps s).getD i (s,0)))) Lg (w_ (show ps.length<=3 by omega) (by decide)) (λi H3 s3 hi=>?_) (λH3 s3=>?_) (λi y H3 H4 R s3 hi hy hR=>?_) λH3 s3 hl3=>?_
   ·exact⟨_,_,bW.of (s3 _ _ (s2 _ _ hps)),by rw[O_,g_ hi];rfl⟩
   ·exact⟨_,bW.of (s3 _ _ (s2 _ _ hps)),by rw[l_];exact j_ _⟩
   ·obtain⟨rfl,hy⟩:=hy;have ey:=hy _ (bW.of (s3 _ _ (s2 _ _ hps)));rw[O_,g_ hi]at ey;cases ey;obtain⟨t,ht,q,hq1,hq2⟩:=GP.Paired.at pp (g_ hi);have et:(g.steps s).getD i (s,0)=t:=by rw[u_,ht];rfl
    rw[et]at hR;have hb:=Gd.yP hs (A_ ht);rw[show g.states.length-1-k+1=g.states.length-k by omega]at hb;refine⟨_,_,Y,bZ.of (s3 _ _ (s2 _ _ hq1)),Y,_,_,Y,_,_,Y,Y,Kp2,?_⟩;exact⟨_,Y,_,Y,_,Y,d,kvs,g7 t.1,q,_,Y,Y,⟨s3 _ _ hd2,λe he=>fY.same (fY.same (hkey e he) Wo.sub) s3⟩,fY.same (fY.same hq2 s2) s3,hval t.1 hb,_,_,Y,Y,hR _ (ak.refl _)⟩
   have hls:(S_ ps.length).map (λi=>V.int (g.key ((g.steps s).getD i (s,0))))=((g.steps s).map g.key).map V.int:=by
    rw[qaL,hpl];refine List.ext_getElem (by simp) λi h1 h2=>?_;simp only[List.getElem_map,List.getElem_range,Function.comp_apply];rw[u_,g_ (by simpa using h2)];rfl
   rw[hls]at hl3;have Ic:=s2.trans s3;have hcn:H2 lc=none:=Lg;have ncd:lc≠d:=λz=>by rw[z,hd2]at hcn;cases hcn
   have ncl:lc≠l:=λz=>by rw[z,hl2]at hcn;cases hcn
   obtain⟨pk,hk1,hk2⟩:=hke;refine⟨λσ H'=>σ=[some (.ref x),some (.ref d),some (.ref e.2.1),some (.ref lc)]/\ak H2 H'/\H' lc=some (.lst ((g.costs g.rest s).map V.int)),?_,?_⟩
   ·refine⟨_,Y,x,_,dx,_,_,Y,Ic _ _ hx,T.gC,T.rN,G0,_,Y,e.2.1,_,_,_,Y,Y,bZ.of (Ic _ _ hk1),Y,dE,.bl (g.en s.1 s.2.1),Y,?_,_,Y,?_⟩
    ·rw[←Wu s.1 s.2.1 hin.1 hin.2.1];exact rW.t (Ic _ _ hE) (Ic _ _ hk2)
    ·unfold Gd.costs
     cases z:g.en s.1 s.2.1 with
     |true =>
      refine om ⟨_,Y,.inl ⟨Y,_,bW.of hl3⟩,lc,_,_,Y,Y,hl3,by rw[l_,l_];exact w_ adb (by decide),Y,ak.at s3 hcn,?_⟩;rw[ai,if_pos rfl,M_];rfl
     |false=>exact gF ⟨Y,s3,by rw[if_neg y_,qaB];exact hl3⟩
   rintro σ H4 ⟨rfl,s4,Pg⟩;refine⟨_,Y,lc,_,Y,bW.of Pg,Gd.Hs ok hin,_,Y,_,Y,d,kvs,g7 s,e.2.1,Y,Y,⟨s4 _ _ hd2,λe he=>fY.same (fY.same (hkey e he) Wo.sub) s4⟩,⟨pk,s4 _ _ (s2 _ _ hk1),s4 _ _ (s2 _ _ hk2)⟩,Mu hn hm (by omega),?_⟩;rw[←g.rest_eq];have sw:ak (Wo d H2) (Wo d (L2.upd H4 d (wX P w d (qK kvs (g7 s) e.2.1 (.int (g.rest s)))))):=λb u h=>Wo.in (Wo.ne h) (by rw[av (Wo.ne h)];exact s4 _ _ (Wo.sub b u h));have U0:∀{b:U} {xs:List V},H2 b=some (.tup xs)->b≠d:=λ{b xs} h z=>by rw[z,hd2]at h;cases h
   refine⟨_,_,_,Y,ak.at (s2.trans s4) hd,by rw[av Qz];exact s4 _ _ hl2,ai,p_ (xJ _ _ _ _) (qar hlen),vt (λe he=>fY.same (hkey e he) sw) (fY.same ⟨pk,Wo.in (U0 (s2 _ _ hk1)) (s2 _ _ hk1),Wo.in (U0 (s2 _ _ hk2)) (s2 _ _ hk2)⟩ sw),λr hr=>?_⟩;rw[GI];rw[show g.states.length-(k+1)=g.states.length-1-k by omega,qak (by omega)]at hr;rw[(o_.mp hs).2]at hr;by_cases er:g7 r=g7 s
   ·rw[if_pos er,xD er]
   ·rw[if_neg er];rcases B_.mp hr with hr|hr
    ·exact absurd (by rw[hr]) er
    ·exact hval r (by rw[show g.states.length-k=g.states.length-1-k+1 by omega];exact hr)
  ·rintro σ H2 ⟨v2,v3,kvs,rfl,s2,hl2,hd2,hlen,hkey,hval⟩;rw[l_,hN,qcf,List.drop_zero]at hval;exact⟨_,Y,kk d kvs H2 s2 hd ⟨hd2,λe he=>fY.same (hkey e he) Wo.sub⟩ λs hs=>hval s (Gd.fj.mpr hs)⟩
theorem Co {fG:U}{eB:F_}{p:Pm}(T:Txt K mg p w base)(cK:Dn K mg "ends_there" nu l9 fG eB)  :aH P w K mg base bL 1 fG eB l9 (DW P w p.aR):=by
 refine cK.fn.jg B8 (λvs H Q E h=>?_) (λ_ _ _ _ H vs Q E hr h=>?_)
 ·obtain⟨x,d,q,g,bs,kvs,s,rfl,_⟩:=h;rfl
 ·obtain⟨x,d,q,g,bs,kvs,s,rfl,⟨hG,hd,hR⟩,hq,hin,kk⟩:=h;obtain⟨dx,dS,lB,dE,kS,kE,hx,hS,hst,hB,hE,Wu⟩:=id hG;obtain⟨pk,hk1,hk2⟩:=id hq;intro X;refine⟨_,(ao (aI (nY (i8 (jH hr) (eK (pv 0) Y) (aD aJ (pv 2) ah (λ_ _=>rfl)) (λ_ _=>rfl)) (nX (b8 bM (lU (Pr:=P) (wo:=w) (jR hr) (pv 1) (pv 2) (λ_ _=>rfl) Y Y) ah (aG _)))))),?_⟩;refine⟨_,Y,x,_,dx,_,_,Y,hx,T.gC,T.rN,G0,_,Y,q,_,_,_,Y,Y,bZ.of hk1,Y,dE,.bl (g.en s.1 s.2.1),Y,?_,_,Y,?_⟩
  ·rw[←Wu s.1 s.2.1 hin.1 hin.2.1];exact rW.t hE hk2
  ·unfold Gd.stop at kk
   cases z:g.en s.1 s.2.1 with
   |true =>
    rw[z,qb5]at kk;refine om ⟨_,Y,_,Y,d,kvs,g7 s,q,_,Y,Y,hd,hq,hR s hin,Y,?_⟩;rw[nJ];exact kk
   |false =>
    rw[z,qbf]at kk;exact gF kk
theorem AR {eF:U}{c9:F_}{p:Pm}(T:Txt K mg p w base)(bU:Dn K mg "first_begin" lE Nh eF c9)  :aH P w K mg base bL 1 eF c9 Nh (Aw P w p.aR (Bf K)):=by
 refine bU.fn.okL T.Bh (T.Be _ bU.m) AE (λvs H Q E h=>?_) (λcdv A outer s H vs Q E hC hr h=>?_)
 ·obtain⟨x,d,g,bs,kvs,rfl,_⟩:=h;rfl
 ·obtain⟨x,d,g,bs,kvs,rfl,⟨hG,hd,hR⟩,hT,hne,hbs,kk⟩:=h;obtain⟨dx,dS,lB,dE,kS,kE,hx,hS,hst,⟨ps,hps,pp⟩,hE,Wu⟩:=id hG;have hlen:=Paired.len pp;have at_:∀(i:Nat) (v:V),(ps.map V.ref)[i]? =some v->dP λpl b=>v= .ref pl/\bs[i]? =some b/\Ft H pl b:=λi v hv=>by
   obtain⟨pl,hpl,rfl⟩:=i9 hv;obtain⟨b,hb,Fp⟩:=GP.Paired.at pp hpl;exact⟨pl,b,Y,hb,Fp⟩
  refine⟨_,(ao (aI (K1 (Pr:=P) (wo:=w) (P:=fq K "first_begin") (ir:=1) (Ry ⟨λ_ _ _ _ _ _=>rfl,Y,Y,by decide +kernel,Y,Y,Y,by decide,by decide,by decide⟩) RE Y Y hC T.bm Y (D9 hr) (Lf hr) Y T.Fw BD Y Y (aa (eK (pv 0) Y) af) Y Y Y))),?_⟩;refine⟨_,Y,x,_,dx,_,_,Y,hx,T.gC,T.pR,Bq,lB,_,.ref d,λi=>g.iP (bs.getD i (0,0)),Y,Y,bW.of hps,?_,λi v hv=>?_,hT.a,λH2 ap e t i v hv hL=>?_⟩
  ·rw[l_,hlen];exact qci.mpr hne
  ·obtain⟨pl,b,rfl,hb,Fp⟩:=at_ i v hv;have hb':=hbs b (A_ hb);refine⟨pl,d,kvs,b.1,b.2,Y,Fp,Y,hd,?_⟩;have z:=hR (b.1,b.2,112) ⟨hb'.1,hb'.2,.inl rfl⟩;have e:bs.getD i (0,0)=b:=by rw[u_,hb];rfl
   dsimp only;rw[e,sP];exact z
  ·obtain⟨pl,b,rfl,hb,Fp⟩:=at_ i v hv;have lo:=Lo.one (P:=P) (w:=w) (L:=Bf K) hT ap e t;refine kk pl b H2 lo (Ag hb λj y hy=>?_) (lo.tup Fp);have z:=hL j (by rw[l_,hlen];exact(o_.mp hy).1);dsimp only at z;rw[u_,u_,hb,hy]at z;exact z
theorem zC {iG:U}{gv:F_}{p:Pm}(T:Txt K mg p w base)(dH:Dn K mg "state_behind" nh l9 iG gv)  :aH P w K mg base bL 1 iG gv l9 (N1 P w p.aR (Bf K)):=by
 refine dH.fn.okL T.zJ (T.zI _ dH.m) zq (λvs H Q E h=>?_) (λcdv A outer s H vs Q E hC hr h=>?_)
 ·obtain⟨x,d,q,g,bs,kvs,s,rfl,_⟩:=h;rfl
 ·obtain⟨x,d,q,g,bs,kvs,s,rfl,⟨hG,hd,hR⟩,hq,hin,hne,hT,kk⟩:=h;obtain⟨dx,dS,lB,dE,kS,kE,hx,hS,hst,hB,hE,Wu⟩:=id hG;obtain⟨l,YJ,ps,hps,pp⟩:=z6 hst (Gd.fj.mpr hin);have hlen:=Paired.len pp;have at_:∀(i:Nat) (v:V),(ps.map V.ref)[i]? =some v->dP λpl t=>v= .ref pl/\(g.steps s)[i]? =some t/\Sa H pl t:=λi v hv=>by
   obtain⟨pl,hpl,rfl⟩:=i9 hv;obtain⟨b,hb,Fp⟩:=GP.Paired.at pp hpl;exact⟨pl,b,Y,hb,Fp⟩
  refine⟨_,(ao (aI (aD aJ (K1 (Pr:=P) (wo:=w) (P:=fq K "state_behind") (ir:=1) (Rx ⟨λ_ _ _ _ _ _=>rfl,Y,Y,by decide +kernel,Y,Y,Y,by decide,by decide,by decide⟩) RD Y Y hC T.bm Y (D9 hr) (Lf hr) Y T.Fw BD Y Y (aa (lU (Pr:=P) (wo:=w) (jR hr) (eK (pv 0) Y) (pv 2) (λ_ _=>rfl) Y Y) af) Y Y Y) ah (λ_ _=>rfl)))),?_⟩;refine⟨_,Y,x,_,dx,_,_,Y,hx,T.gC,T.ig,sE,_,Y,dS,kS,g7 s,q,.ref l,Y,Y,hS,hq,YJ,l,_,.ref d,λi=>g.key ((g.steps s).getD i (s,0)),Y,Y,bW.of hps,?_,λi v hv=>?_,hT.b,λH2 ap e t i v hv hL=>?_⟩
  ·rw[l_,hlen];exact qci.mpr hne
  ·obtain⟨pl,t,rfl,ht,q',h1,h2⟩:=at_ i v hv;refine⟨pl,d,q',kvs,g7 t.1,t.2,g.rest t.1,Y,h1,h2,Y,hd,hR t.1 (Gd.lO (A_ ht) hin),?_⟩;show g.key _=_;rw[u_,ht];rfl
  ·obtain⟨pl,u,rfl,hu,q',h1,h2⟩:=at_ i v hv;have lo:=Lo.two (P:=P) (w:=w) (L:=Bf K) hT ap e t;refine⟨pl,_,_,_,Y,Y,bZ.of (lo.tup h1),Y,kk q' u H2 lo (Ag hu λj y hy=>?_) (lo.kat h2)⟩;have z:=hL j (by rw[l_,hlen];exact(o_.mp hy).1);dsimp only at z;rw[u_,u_,hu,hy]at z;exact z
theorem AQ {jy fG iG:U}{iz eB gv:F_}{p:Pm}(T:Txt K mg p w base)(fN:Dn K mg "first_moves" oY X5 jy iz)(cK:Dn K mg "ends_there" nu l9 fG eB)(tY:aH P w K mg base bL 1 fG eB l9 (DW P w p.aR))(dH:Dn K mg "state_behind" nh l9 iG gv)(BW:aH P w K mg base bL 1 iG gv l9 (N1 P w p.aR (Bf K))):aH P w K mg base bL 2 jy iz X5 (NR P w p.aR (Bf K)):=by
 refine fN.fn.jg m5 (λvs H Q E h=>?_) (λ_ _ _ _ H vs Q E hr h=>?_)
 ·obtain⟨x,d,pl,g,bs,kvs,b,rfl,_⟩:=h;rfl
 ·obtain⟨x,d,pl,g,bs,kvs,b,rfl,hG,hb,hin,ok,hn,hm,hT,kk⟩:=h;intro X;refine⟨_,(aj (Z9X 3 m5.nd (aW (aa (pv 2) (aa aS af))))
   (aj (Z9X 4 m5.nd (ie af))
   (aj (AJ P_ (wD (kY (gc tY hr cK (aa (pv 0) (aa (pv 1) (aa (pv 3) af)))))) (aj (Z9X 3 m5.nd (gc BW hr dH (aa (pv 0) (aa (pv 1) (aa (pv 3) af)))))
   (ao (cD (lF PySem.F.plainAttrs_list PySem.F.slot_list_append PySem.F.type_list_append cO (pv 4) (aa (aD aJ (pv 3) ah (λ_ _=>rfl)) af))))))
   (ao (aI (lF PySem.F.plainAttrs_str PySem.F.slot_str_join PySem.F.type_str_join K5 aS (aa (pv 4) af))))))),?_⟩
  refine⟨_,Y,c_,λq hq=>⟨a_,λl hl=>?_⟩⟩;have s1:ak H (L2.upd H q (.tup [.ref pl,.str (h_ "p")])):=ak.upd hq;have hln:H l=none:=ak.free s1 hl;have Z3:q≠l:=λz=>by rw[z,ai]at hl;cases hl
  have k0:fY (L2.upd (L2.upd H q (.tup [.ref pl,.str (h_ "p")])) l (.lst [])) q (g7 (b.1,b.2,112)):=by
   refine⟨pl,by rw[av Z3,ai,sP];rfl,?_⟩;exact ak.upd hl _ _ (s1 _ _ hb)
  refine⟨λn σ H'=>nN λ(q:U) (s:aY) (mv:List Nat)=>n=g.ht s/\σ=[some (.ref x),some (.ref d),some (.ref pl),some (.ref q),some (.ref l)]/\Lo P w (Bf K) H H'/\fY H' q (g7 s)/\g.In s/\H' l=some (.lst (mv.map sg))/\g.moves (b.1,b.2,112)=mv++g.moves s/\mv.length+g.ht s<=g.n+g.m,
   ⟨_,q,(b.1,b.2,112),[],rfl,rfl,.of hT (s1.trans (ak.upd hl)),k0,hin,ai,rfl,by show 0+(g.n-b.1+(g.m-b.2))<=_;omega⟩,?_⟩
  rintro n σ H1 ⟨q,s,mv,rfl,rfl,lo,hk,hs,hl1,RM,hle⟩;refine⟨_,Y,_,Y,_,Y,x,d,q,g,bs,kvs,s,Y,lo.gR hG,hk,hs,_,Y,?_⟩
  cases z:g.stop s with
  |true =>
   refine uM ⟨Y,_,Y,l,mv,Y,Y,bW.of hl1,by omega,?_⟩;rw[Gd.oh z,qaB]at RM;rw[←RM];exact kk H1 lo
  |false =>
   obtain⟨t,hf,ht,hnx,_⟩:=g.go ok hs z;refine Lc ⟨λσ' H'=>∃m',m'<g.ht s/\nN λ(q:U) (s:aY) (mv:List Nat)=>m'=g.ht s/\σ'=[some (.ref x),some (.ref d),some (.ref pl),some (.ref q),some (.ref l)]/\Lo P w (Bf K) H H'/\fY H' q (g7 s)/\g.In s/\H' l=some (.lst (mv.map sg))/\g.moves (b.1,b.2,112)=mv++g.moves s/\mv.length+g.ht s<=g.n+g.m,λσ' H' h=>h,?_⟩;refine⟨_,Y,_,Y,_,Y,x,d,q,g,bs,kvs,s,Y,lo.gR hG,hk,hs,qbU ht,lo.lt,λq' t' H2 lo2 hf' hk'=>?_⟩;obtain rfl:t=t':=L_ (hf.symm.trans hf');have hl2:=lo2.nx _ _ (Nt.lst hl1);obtain⟨pk,hk1,hk2⟩:=id hk';have hht:=Gd.eY ht;refine⟨_,Y,.inl ⟨Y,_,bW.of hl2⟩,_,Y,q',_,_,_,Y,Y,bZ.of hk1,Y,l,_,_,Y,Y,hl2,by rw[l_];exact w_ (show mv.length<=24 by omega) (by decide),g.ht t.1,hht,q',t.1,mv++[t.1.2.2],Y,Y,(lo.trans lo2).put hln hl2,RG hk' hl2,Gd.lO ht hs,by rw[ai,M_];rfl,?_,?_⟩
   ·rw[RM,Gd.uI ok hs z,hnx,qa6];rfl
   ·rw[G_];show mv.length+1+_<=_;omega
theorem GD {oJ aU eE eF fz jy:U}{jS cF c8 c9 dO iz:F_}{p:Pm}(T:Txt K mg p w base)(j3:Dn K mg "cheapest" sZ QD oJ jS)(cE:Dm K "__init__" "Ground.__init__" cC SK aU cF)(sO:Mk K p.aR aU)(nT:aH P w K mg base bL 6 aU cF SK (ym P w K p.aq p.aR))(cg:Dn K mg "least_rests" lD Vg eE c8)(rT:aH P w K mg base bL 1 eE c8 Vg (IJ P w p.aR))(bU:Dn K mg "first_begin" lE Nh eF c9)(rV:aH P w K mg base bL 1 eF c9 Nh (Aw P w p.aR (Bf K)))(cA:Dn K mg "in_units" nW RB fz dO)(qR:aH P w K mg base bL 2 fz dO RB (vc K p.aq))(fN:Dn K mg "first_moves" oY X5 jy iz)(CQ:aH P w K mg base bL 2 jy iz X5 (NR P w p.aR (Bf K))):aH P w K mg base bL 8 oJ jS QD (Gb P w K p.aq (Bf K)):=by
 refine j3.fn.jg qW (λvs H Q E h=>?_) (λ_ _ _ _ H vs Q E hr h=>?_)
 ·obtain⟨pr,T1,f,s,m,rfl,_⟩:=h;rfl
 ·obtain⟨pr,T1,f,s,m,rfl,hP,hT,of,os,hm,tK,uo,kk⟩:=h;intro X;refine⟨_,(aj (Z9X 4 qW.nd (Eg sO nT (hr.mono (by decide)) Y T.Dr cE.b .nil aK (aa (pv 0) (aa (pv 1) (aa (pv 2) (aa (pv 3) af))))))
   (aj (Z9X 5 qW.nd (gc rT hr cg (aa (pv 4) af)))
   (aj (Z9X 6 qW.nd (gc rV hr bU (aa (pv 4) (aa (pv 5) af))))
   (ao (aI (aW (aa (gc qR hr cA (aa (pv 0) (aa (lU (Pr:=P) (wo:=w) (jR hr) (pv 5) (aW (aa (pv 6) (aa aS af))) (λ_ _=>rfl) rfl rfl) af))) (aa (pv 6) (aa (gc CQ hr fN (aa (pv 4) (aa (pv 5) (aa (pv 6) af)))) af))))))))),?_⟩
  refine⟨_,Y,_,Y,_,Y,_,Y,λx dx hx hdx ndx=>?_⟩;have s1:ak H (L2.upd (L2.upd H dx (.own x)) x (.ins p.aR dx [])):=ak.at (ak.upd hdx) hx;refine⟨x,dx,pr,T1,f,s,m,Y,ai,hP.same s1,of,os,hm,tK,uo,λH1 e1 hG=>⟨Y,?_⟩⟩;have N6:ak H H1:=λb u q=>e1 b u (aX q hx) (s1 b u q);have ok:=qP T1 m f s;refine⟨_,Y,x,_,_,Y,hG,ok,tK,uo,λd kvs H2 s2 hd hnd hR=>?_⟩;have Cb:=N6.trans s2;refine⟨_,Y,_,Y,x,d,_,_,kvs,Y,⟨hG.same s2,hnd,hR⟩,hT.same Cb,EO _ _ _,λb hb=>fk.mp (Z_.mp hb).1,λpb b H3 lo3 hb Fp=>?_⟩;have XC:=ak.lo Cb hT lo3;have hG3:=lo3.gR ⟨hG.same s2,hnd,hR⟩;have hbi:(b7 T1 m f s).In (b.1,b.2,112):=by
   have:=fk.mp (Z_.mp (lH hb)).1;exact⟨this.1,this.2,.inl Y⟩
  refine⟨_,Y,_,Y,_,Y,c_,λq hq=>?_⟩;have s4:ak H3 (L2.upd H3 q (.tup [.ref pb,.str (h_ "p")])):=ak.upd hq;refine⟨d,kvs,g7 (b.1,b.2,112),q,_,Y,Y,ND.same hG3.2.1 s4,⟨pb,by rw[ai,sP];rfl,s4 _ _ Fp⟩,hR _ hbi,pr,_,T1.1,T1.2.1,T1.2.2.1,T1.2.2.2,Y,(XC.pr hP).same s4,λc H5 s5 hc hc5=>?_⟩;have Q2:=s4.trans s5;refine⟨_,Y,_,Y,_,Y,_,Y,x,d,pb,_,_,kvs,b,Y,hG3.same Q2,Q2 _ _ Fp,hbi,ok,tK,uo,lo3.lt.same Q2,λH6 lo6=>⟨d_,λr hr=>?_⟩⟩;have XA:=(XC.then Q2).trans lo6;have s7:ak H6 (L2.upd H6 r _):=ak.upd (o:=.tup [.ref c,.ref pb,.str ⟨((b7 T1 m f s).moves (b.1,b.2,112)).toArray⟩]) hr;exact kk r _ (XA.then s7) (XA.dom r hr) ⟨b,c,pb,hb,ai,s7 _ _ (lo6.tup hc5),s7 _ _ (lo6.tup (Q2 _ _ Fp))⟩
end
section
variable{P:r_}{w:I_}{K:PySem.W.Frag}{mg:v_->Option k_}{base:W_}
theorem Cu {kU fG:U}{jw eB:F_}{p:Pm}(T:Txt K mg p w base)(gY:Dn K mg "all_counts" qh Nh kU jw)(cK:Dn K mg "ends_there" nu l9 fG eB)(tY:aH P w K mg base bL 1 fG eB l9 (DW P w p.aR)):aH P w K mg base bL 2 kU jw Nh (NY P w p.aR):=by
 refine gY.fn.jg g6 (λvs H Q E h=>?_) (λ_ _ _ _ H vs Q E hr h=>?_)
 ·obtain⟨x,d,g,bs,kvs,rfl,_⟩:=h;rfl
 ·obtain⟨x,dr,g,bs,kr,rfl,hGR,hn,hm,kk⟩:=h;obtain⟨hG,hdr,hR⟩:=id hGR;obtain⟨dx,dS,lB,dE,kS,kE,hx,hS,hst,hB,hE,Wu⟩:=id hG;have hN:kS.length=g.states.length:=Paired.len hst;have hN3:g.states.length=3*((g.n+1)*(g.m+1)):=by unfold Gd.states;rw[wm,places_len]
  intro X;refine⟨_,(aj (Z9X 2 g6.nd (Aa (Pr:=P) (wo:=w) Y Y))
   (aj (cV P_ rfl (Oo rfl T.Ak (aa (jj (tR (Pr:=P) (wo:=w) rfl rfl rfl) rfl T.wg tU (aa (eK (pv 0) rfl) af)) af)) (Z9Y 3 g6.nd) (br (Z9X 4 g6.nd (pG (kY (gc tY hr cK (aa (pv 0) (aa (pv 1) (aa (pv 3) af))))) ah ah))
   (aj (cV P_ rfl (qj (lU (Pr:=P) (wo:=w) (jR hr) (eK (pv 0) rfl) (pv 3) (λ_ _=>rfl) rfl rfl)) (nA (n:=2) rfl (bC (Z9Y 5 g6.nd) (bC (Z9Y 6 g6.nd) i7))) (ao (bH (aF bM (aA bE (pv 6) (lU (Pr:=P) (wo:=w) (jR hr) (pv 1) (pv 5) (λ_ _=>rfl) rfl rfl)) (lU (Pr:=P) (wo:=w) (jR hr) (pv 1) (pv 3) (λ_ _=>rfl) rfl rfl) (aG _)) (ao (Z9X 4 g6.nd (aA bE (pv 4) (lU (Pr:=P) (wo:=w) (jR hr) (pv 2) (pv 5) (λ_ _=>rfl) rfl rfl)))) aP)))
   (ao (xE (Pr:=P) (wo:=w) (jR hr) (pv 2) (pv 3) (pv 4) rfl rfl rfl)))))
   (ao (aI (pv 2))))),?_⟩
  refine λd hd=>?_;have s1:ak H (L2.upd H d (wX P w d [])):=ak.upd hd;refine⟨_,Y,x,_,dx,_,_,Y,s1 _ _ hx,T.gC,T.ig,sE,dS,kS,Y,ND.same hS s1,λl hl=>?_⟩;have s2:=s1.trans (ak.upd (o:=.lst (kS.map λe=>.ref e.2.1)) hl);have Qz:l≠d:=λz=>by rw[z,ai]at hl;cases hl
  refine⟨l,_,Y,bW.of ai,?_⟩;refine Ln (K:=K) (a:=l) (xs:=kS.map λe=>V.ref e.2.1) (λk σ H2=>BG λv3 v4 v5 v6 kvs=>σ=[some (.ref x),some (.ref dr),some (.ref d),v3,v4,v5,v6]/\ak H H2/\H2 l=some (.lst (kS.map λe=>V.ref e.2.1))/\H2 d=some (wX P w d kvs)/\kvs.length<=k/\(∀e∈kvs,fY (Wo d H2) e.2.1 e.1)/\∀s∈g.states.drop (g.states.length-k),kc kvs (g7 s)=some (.int (g.cnt s:Int)))
   ⟨_,_,_,_,[],rfl,s2,ai,by rw[av (Ne.symm Qz),ai],j_ _,(λe he=>nomatch he),λs hs=>by rw[Nat.sub_zero,List.drop_length]at hs;exact nomatch hs⟩ (λk σ H2 _ ⟨_,_,_,_,_,_,_,h2,_⟩=>bW.of h2) ?_ ?_
  ·rintro k y σ H2 hk hy ⟨v3,v4,v5,v6,kvs,rfl,s2,hl2,hd2,hlen,hkey,hval⟩;rw[l_,hN]at hk;rw[l_,hN]at hy;obtain⟨e,he,rfl⟩:=i9 hy;obtain⟨s,hs,hek,l',hel,hsl⟩:=GP.Paired.at hst he;have hin:=Gd.fj.mp (A_ hs);have hke:fY H e.2.1 (g7 s):=by rw[←hek];exact hS.keys e (A_ he)
   obtain⟨l'',YJ,Pb⟩:=z6 hst (Gd.fj.mpr hin);obtain⟨ps,hps,pp⟩:=Pb;have hpl:=Paired.len pp;refine⟨λσ H'=>σ=[some (.ref x),some (.ref dr),some (.ref d),some (.ref e.2.1),some (.int (g.xX s 0:Int)),v5,v6]/\H2=H',?_,?_⟩
   ·refine⟨_,Y,_,Y,_,Y,x,dr,e.2.1,g,bs,kr,s,Y,hGR.same s2,fY.same hke s2,hin,_,Y,?_⟩
    cases z:g.stop s with
    |true=>exact om ⟨by unfold Gd.xX;rw[z];rfl,Y⟩
    |false=>exact gF ⟨by unfold Gd.xX;rw[z];rfl,Y⟩
   rintro σ _ ⟨rfl,rfl⟩;refine⟨_,Y,x,_,dx,_,_,Y,s2 _ _ hx,T.gC,T.ig,sE,_,Y,dS,kS,g7 s,e.2.1,.ref l'',Y,Y,ND.same hS s2,fY.same hke s2,YJ,l'',Y,⟨_,bW.of (s2 _ _ hps)⟩,?_⟩;have hc2:ND P w H2 d kvs:=⟨hd2,λe he=>fY.same (hkey e he) Wo.sub⟩;refine sG (K:=K) (a:=l'') (xs:=ps.map V.ref) (λj σ H4=>dP λv5 v6=>σ=[some (.ref x),some (.ref dr),some (.ref d),some (.ref e.2.1),some (.int (g.xX s j:Int)),v5,v6]/\H2=H4)
    ⟨_,_,rfl,rfl⟩ (λj σ H4 _ ⟨_,_,_,e4⟩=>by rw[←e4];exact bW.of (s2 _ _ hps)) ?_ ?_
   ·rintro j y σ H4 hy ⟨v5,v6,rfl,rfl⟩;obtain⟨pt,hpt,rfl⟩:=i9 hy;obtain⟨t,ht,q,hq1,hq2⟩:=GP.Paired.at pp hpt;have hb:=Gd.yP hs (A_ ht);rw[show g.states.length-1-k+1=g.states.length-k by omega]at hb;have hit:=Gd.lO (A_ ht) hin;refine⟨_,_,Y,bZ.of (s2 _ _ hq1),Y,_,_,Y,_,_,Y,Y,?_⟩;refine⟨_,Y,_,Y,_,Y,dr,kr,g7 t.1,q,_,Y,Y,ND.same hdr s2,fY.same hq2 s2,hR t.1 hit,_,_,Y,Y,?_⟩;refine⟨_,Y,_,Y,dr,kr,g7 s,e.2.1,_,Y,Y,ND.same hdr s2,fY.same hke s2,hR s hin,Y,_,Y,?_⟩;have eC:=Gd.JP ht;rw[nJ];refine b9 (λz=>?_) λz=>?_
    ·refine⟨_,Y,_,Y,_,Y,d,kvs,g7 t.1,q,_,Y,Y,hc2,fY.same hq2 s2,hval t.1 hb,_,_,Y,Y,some (.ref q),some (.int t.2),?_,Y⟩;rw[eC,if_pos z,Int.natCast_add];rfl
    ·refine⟨some (.ref q),some (.int t.2),?_,Y⟩;rw[eC,if_neg z];rfl
   ·rintro σ H4 ⟨v5,v6,rfl,rfl⟩;rw[l_,hpl,Gd.MQ];refine⟨_,Y,_,Y,_,Y,d,kvs,g7 s,e.2.1,Y,Y,hc2,fY.same hke s2,Mu hn hm (by omega),?_⟩;have sw:ak (Wo d H2) (Wo d (L2.upd H2 d (wX P w d (qK kvs (g7 s) e.2.1 (.int (g.cnt s:Int)))))):=λb u h=>Wo.in (Wo.ne h) (by rw[av (Wo.ne h)];exact Wo.sub b u h);have U0:∀{b:U} {xs:List V},H2 b=some (.tup xs)->b≠d:=λ{b xs} h z=>by rw[z,hd2]at h;cases h
    obtain⟨pk,hk1,hk2⟩:=hke;refine⟨_,_,_,_,_,Y,ak.at s2 hd,by rw[av Qz];exact hl2,ai,p_ (xJ _ _ _ _) (qar hlen),vt (λe he=>fY.same (hkey e he) sw) (fY.same ⟨pk,Wo.in (U0 (s2 _ _ hk1)) (s2 _ _ hk1),Wo.in (U0 (s2 _ _ hk2)) (s2 _ _ hk2)⟩ sw),λr hr=>?_⟩;rw[GI];rw[show g.states.length-(k+1)=g.states.length-1-k by omega,qak (by omega)]at hr;rw[(o_.mp hs).2]at hr;by_cases er:g7 r=g7 s
    ·rw[if_pos er,xD er]
    ·rw[if_neg er];rcases B_.mp hr with hr|hr
     ·exact absurd (by rw[hr]) er
     ·exact hval r (by rw[show g.states.length-k=g.states.length-1-k+1 by omega];exact hr)
  ·rintro σ H2 ⟨v3,v4,v5,v6,kvs,rfl,s2,hl2,hd2,hlen,hkey,hval⟩;rw[l_,hN,qcf,List.drop_zero]at hval;exact⟨_,Y,kk d kvs H2 s2 hd ⟨hd2,λe he=>fY.same (hkey e he) Wo.sub⟩ λs hs=>hval s (Gd.fj.mpr hs)⟩
theorem GC {oH aU eE kU eF:U}{mj cF c8 jw c9:F_}{p:Pm}(T:Txt K mg p w base)(jZ:Dn K mg "count_of" sY QD oH mj)(cE:Dm K "__init__" "Ground.__init__" cC SK aU cF)(sO:Mk K p.aR aU)(nT:aH P w K mg base bL 6 aU cF SK (ym P w K p.aq p.aR))(cg:Dn K mg "least_rests" lD Vg eE c8)(rT:aH P w K mg base bL 1 eE c8 Vg (IJ P w p.aR))(gY:Dn K mg "all_counts" qh Nh kU jw)(Fo:aH P w K mg base bL 2 kU jw Nh (NY P w p.aR))(bU:Dn K mg "first_begin" lE Nh eF c9)(rV:aH P w K mg base bL 1 eF c9 Nh (Aw P w p.aR (Bf K))):aH P w K mg base bL 8 oH mj QD (F9 P w K p.aq (Bf K)):=by
 refine jZ.fn.jg pC (λvs H Q E h=>?_) (λ_ _ _ _ H vs Q E hr h=>?_)
 ·obtain⟨pr,T1,f,s,m,rfl,_⟩:=h;rfl
 ·obtain⟨pr,T1,f,s,m,rfl,hP,hT,of,os,hm,tK,uo,kk⟩:=h;intro X;refine⟨_,(aj (Z9X 4 pC.nd (Eg sO nT (hr.mono (by decide)) Y T.Dr cE.b .nil aK (aa (pv 0) (aa (pv 1) (aa (pv 2) (aa (pv 3) af))))))
   (aj (aB (i:=5) pC.nd rfl (Or.inr rfl) (gc rT hr cg (aa (pv 4) af)))
   (aj (aB (i:=6) pC.nd rfl (Or.inr rfl) (gc Fo hr gY (aa (pv 4) (aa (pv 5) af))))
   (aj (aB (i:=7) pC.nd rfl (Or.inr rfl) (lU (Pr:=P) (wo:=w) (jR hr) (pv 5) (aW (aa (gc rV hr bU (aa (pv 4) (aa (pv 5) af))) (aa aS af))) (λ_ _=>rfl) rfl rfl))
   (ao (aI (aC (MS (K':=K) rfl rfl) rfl T.WG V2 (aa (Gu (N:=["begin","rests","counts","least"]) rfl (ee.xU (nt:=1) (ix:=[5,6,7]) rfl (by decide +kernel) (by decide +kernel) (by kernel_rfl) rfl (by kernel_rfl)) (qj (eK (pv 4) rfl)) (λ_ _ _ _ _ _ _=>(aL (i:=0) (show(["begin","rests","counts","least"]:List v_).Nodup by decide +kernel) rfl (Or.inl rfl))) (λ_ _ _ _ _ _ _=>(lU (Pr:=P) (wo:=w) (jR hr) (pv 2) (aW (aa (pv 0) (aa aS af))) (λ_ _=>rfl) rfl rfl)) (λ_ _ _ _ _ _ _=>(aF bM (lU (Pr:=P) (wo:=w) (jR hr) (pv 1) (aW (aa (pv 0) (aa aS af))) (λ_ _=>rfl) rfl rfl) (pv 3) (aG _)))) af)))))))),?_⟩
  refine⟨_,Y,_,Y,_,Y,_,Y,λx dx hx hdx ndx=>?_⟩;have s1:ak H (L2.upd (L2.upd H dx (.own x)) x (.ins p.aR dx [])):=ak.at (ak.upd hdx) hx;refine⟨x,dx,pr,T1,f,s,m,Y,ai,hP.same s1,of,os,hm,tK,uo,λH1 e1 hG=>⟨Y,?_⟩⟩;have N6:ak H H1:=λb u q=>e1 b u (aX q hx) (s1 b u q);have ok:=qP T1 m f s;refine⟨_,Y,x,_,_,Y,hG,ok,tK,uo,λd kvs H2 s2 hd hnd hR=>?_⟩;have Cb:=N6.trans s2;refine⟨_,Y,_,Y,x,d,_,_,kvs,Y,⟨hG.same s2,hnd,hR⟩,tK,uo,λd2 Ad H3 s3 hd2 Vz hC=>?_⟩;have Ic:=Cb.trans s3;refine⟨_,Y,_,Y,_,Y,x,d,_,_,kvs,Y,GR.same ⟨hG.same s2,hnd,hR⟩ s3,hT.same Ic,EO _ _ _,λb hb=>fk.mp (Z_.mp hb).1,λpb b H4 QA hb Fp=>?_⟩;have acO:=ak.lo Ic hT QA;have hG4:=QA.gR (GR.same ⟨hG.same s2,hnd,hR⟩ s3);have hC4:=QA.nk Vz;have hbi:∀b∈iQ m f.cps.size s.cps.size,(b7 T1 m f s).In (b.1,b.2,112):=λb hb=>by
   have:=fk.mp (Z_.mp hb).1;exact⟨this.1,this.2,.inl Y⟩
  refine⟨c_,λq hq=>?_⟩;have s5:ak H4 (L2.upd H4 q (.tup [.ref pb,.str (h_ "p")])):=ak.upd hq;refine⟨d,kvs,g7 (b.1,b.2,112),q,_,Y,Y,ND.same hG4.2.1 s5,⟨pb,by rw[ai,sP];rfl,s5 _ _ Fp⟩,hR _ (hbi b (lH hb)),?_⟩;generalize L2.upd H4 q (.tup [.ref pb,.str (h_ "p")])=H5 at s5;have acN:=acO.then s5;have hG5:=hG4.same s5;have hC5:=ND.same hC4 s5;obtain⟨dx5,dS,lB,dE,kS5,kE,hx5,hS5,agM,⟨ps,hps,pp⟩,hE5,ahv⟩:=id hG5.1;refine⟨_,Y,x,_,dx5,_,_,Y,hx5,T.gC,T.pR,Bq,lB,Y,⟨_,bW.of hps⟩,λlc Lg=>?_⟩;have hlen:=Paired.len pp;have hbl:(iQ m f.cps.size s.cps.size).length<=169:=by
   refine p_ (List.length_filter_le _ _) ?_;rw[places_len];exact qbx (show f.cps.size+1<=13 by omega) (show s.cps.size+1<=13 by omega)
  have at_:∀i,i<ps.length->ps[i]? =some (ps.getD i 0)/\(iQ m f.cps.size s.cps.size)[i]? =some ((iQ m f.cps.size s.cps.size).getD i (0,0))/\Ft H5 (ps.getD i 0) ((iQ m f.cps.size s.cps.size).getD i (0,0)):=λi hi=>by
   have e:ps[i]? =some (ps.getD i 0):=by rw[u_,g_ hi];rfl
   obtain⟨q,hq,hpq⟩:=GP.Paired.at pp e;have eq:=o9 (d:=(0,0)) hq;exact⟨e,by rw[eq];exact hq,by rw[eq];exact hpq⟩
  refine Ly ps.length (λi=>decide ((b7 T1 m f s).iP ((iQ m f.cps.size s.cps.size).getD i (0,0))=(b7 T1 m f s).iP b)) (λi=>.int ((b7 T1 m f s).cnt (((iQ m f.cps.size s.cps.size).getD i (0,0)).1,((iQ m f.cps.size s.cps.size).getD i (0,0)).2,112):Nat)) Lg (w_ (show ps.length<=1000 by omega) (by decide)) (λi H6 s6 hi=>?_) (λH6 s6=>?_) (λi y H6 H7 R S s6 hi hy hY hZ=>?_) λH6 s6 YO=>?_
  ·exact⟨_,_,bW.of (s6 _ _ hps),by rw[O_,(at_ i hi).1];rfl⟩
  ·exact⟨_,bW.of (s6 _ _ hps),by rw[l_];exact j_ _⟩
  ·obtain⟨rfl,hy⟩:=hy;have ey:=hy _ (bW.of (s6 _ _ hps));obtain⟨e1,e2,e3⟩:=at_ i hi;rw[O_,e1]at ey;cases ey;have VI:=hbi _ (A_ e2);generalize (iQ m f.cps.size s.cps.size).getD i (0,0)=b' at hY hZ e3 VI;refine⟨Kp.LW,_,Y,_,Y,c_,λq hq=>?_⟩;have s7:=ak.upd (o:=.tup [.ref (ps.getD i 0),.str (h_ "p")]) hq;have UM:=s6.trans s7;refine⟨d,kvs,g7 (b'.1,b'.2,112),q,_,Y,Y,ND.same hG5.2.1 UM,⟨ps.getD i 0,by rw[ai,sP];rfl,UM _ _ e3⟩,hR _ VI,_,Y,Y,_,Y,?_⟩;rw[nJ];refine b9 (λz=>?_) λz=>hZ (decide_eq_false z) _ s7;refine⟨_,Y,_,Y,c_,λq2 hq2=>?_⟩;have s8:=ak.upd (o:=.tup [.ref (ps.getD i 0),.str (h_ "p")]) hq2;have s58:=UM.trans s8;exact⟨d2,Ad,g7 (b'.1,b'.2,112),q2,_,Y,Y,ND.same hC5 s58,⟨ps.getD i 0,by rw[ai,sP];rfl,s58 _ _ e3⟩,hC _ VI,hY (decide_eq_true z) _ (s7.trans s8)⟩
  ·rw[hlen,Pz (iQ m f.cps.size s.cps.size) (0,0) (λb'=>decide ((b7 T1 m f s).iP b'=(b7 T1 m f s).iP b)) (λb'=>V.int ((b7 T1 m f s).cnt (b'.1,b'.2,112):Nat))]at YO;refine⟨lc,((iQ m f.cps.size s.cps.size).filter λb'=>decide ((b7 T1 m f s).iP b'=(b7 T1 m f s).iP b)).map (λb'=>((b7 T1 m f s).cnt (b'.1,b'.2,112):Int)),Y,bW.of (by rw[YO,qaL];rfl),?_⟩;rw[FU,←Gd.Ut λb' hb'=>tM hb hb'];exact kk b H6 (acN.then s6) hb
end
section
variable{P:r_}{w:I_}{K:PySem.W.Frag}{mg:v_->Option k_}{base:W_}
theorem Ja {qu:U}{oq:F_}{p:Pm}(T:Txt K mg p w base)(mP:Dn K mg "rest_of" ve ["way"] qu oq)  :aH P w K mg base bL 1 qu oq ["way"] Xc:=by
 refine mP.fn.jg IP (λvs H Q E h=>?_) (λ_ _ _ _ H vs Q E hr h=>?_)
 ·obtain⟨a,n,xs,rfl,_⟩:=h;rfl
 ·obtain⟨a,n,xs,rfl,ha,kk⟩:=h;intro X;refine⟨_,(ao (aI (aD aJ (pv 0) ah (λ_ _=>rfl)))),?_⟩;exact⟨_,Y,a,_,_,_,Y,Y,bZ.of ha,(show DJ (V.int n::xs) ((0:Nat):Int)=some (V.int n) from dY Y),kk⟩
theorem GF {oK cU qu:U}{mq cI oq:F_}{p:Pm}(T:Txt K mg p w base)(j4:Dn K mg "best_way" tD X4 oK mq)(aV:Dn K mg "alone_cost" j8 Rz cU cI)(jf:aH P w K mg base bL 3 cU cI Rz (z9 K p.aq))(mP:Dn K mg "rest_of" ve ["way"] qu oq)(WE:aH P w K mg base bL 1 qu oq ["way"] Xc):aH P w K mg base bL 4 oK mq X4 (NZ K p.aq):=by
 refine j4.fn.jg yT (λvs H Q E h=>?_) (λ_ _ _ _ H vs Q E hr h=>?_)
 ·obtain⟨pr,A1,U1,B1,T1,c,pair,fa,fu,fb,rfl,_⟩:=h;rfl
 ·obtain⟨pr,A1,U1,B1,T1,c,pair,fa,fu,fb,rfl,hP,hA,hU,hB,kk⟩:=h;intro X;refine⟨_,(aj (Z9X 6 yT.nd (ie af))
   (br (bH (aF (El (jH hr)) aS (pv 3) (by with_unfolding_all rfl)) (ao (cD (lF PySem.F.plainAttrs_list PySem.F.slot_list_append PySem.F.type_list_append cO (pv 6) (aa (aW (aa (aA bE (pv 2) (aD aJ (i8 (jH hr) (pv 3) aS (λ_ _=>rfl)) ah (λ_ _=>rfl))) (aa (aD aJ (i8 (jH hr) (pv 3) aS (λ_ _=>rfl)) ah (λ_ _=>rfl)) af))) af)))) aP)
   (br (bH (aF (El (jH hr)) aS (pv 4) (by with_unfolding_all rfl)) (ao (cD (lF PySem.F.plainAttrs_list PySem.F.slot_list_append PySem.F.type_list_append cO (pv 6) (aa (aW (aa (aA bE (gc jf hr aV (aa (pv 0) (aa aS (aa (pv 1) af)))) (aD aJ (i8 (jH hr) (pv 4) aS (λ_ _=>rfl)) ah (λ_ _=>rfl))) (aa (aD aJ (i8 (jH hr) (pv 4) aS (λ_ _=>rfl)) ah (λ_ _=>rfl)) af))) af)))) aP)
   (br (bH (aF (El (jH hr)) aS (pv 5) (by with_unfolding_all rfl)) (ao (cD (lF PySem.F.plainAttrs_list PySem.F.slot_list_append PySem.F.type_list_append cO (pv 6) (aa (aW (aa (aA bE (gc jf hr aV (aa (pv 0) (aa aS (aa (pv 1) af)))) (aD aJ (i8 (jH hr) (pv 5) aS (λ_ _=>rfl)) ah (λ_ _=>rfl))) (aa (aD aJ (i8 (jH hr) (pv 5) aS (λ_ _=>rfl)) ah (λ_ _=>rfl)) af))) af)))) aP)
   (ao (aI (Rb mP.fn ⟨⟨_,_,_,_,_,rfl⟩,rfl,by decide +kernel,rfl,rfl,rfl,by decide⟩ mP.b rfl mP.m rfl (D9 hr) rfl T.Fw BD (aa (pv 6) af) rfl))))))),?_⟩
  refine⟨a_,λlw hlw=>?_⟩;have s0:ak H (L2.upd H lw (.lst [])):=ak.upd hlw;have W0:ET (L2.upd H lw (.lst [])) lw []:=⟨[],ai,.nil⟩;have ag4:([]:List (Int×BH)).length<=0:=j_ _;generalize L2.upd H lw (.lst [])=H0 at s0 W0 ⊢;refine⟨λσ H2=>σ=[some (.ref pr),some (.str ⟨#[c]⟩),some (.int pair),some (.ref A1),some (.ref U1),some (.ref B1),some (.ref lw)]/\ak H H2/\ET H2 lw (((fa 112).map λw=>(pair+w.1,w.2)).toList)/\(((fa 112).map λw=>(pair+w.1,w.2)).toList).length<=1,?_,?_⟩
  ·obtain⟨ps,hps,pp⟩:=id W0;have hpl:=Paired.len pp;rcases(hA.same s0).val 112 with⟨e,g⟩|⟨w1,v1,e,g,q1,x1,rfl,hq1,Vq⟩
   ·exact⟨_,Y,A1,none,Y,by rw[sP];exact g,_,Y,gF ⟨Y,s0,by rw[e];exact W0,by rw[e];exact Q_ _⟩⟩
   ·have g':rW H0 A1 (.str (h_ "p")) (some (.ref q1)):=by rw[sP];exact g
    refine⟨_,Y,A1,some _,Y,g',_,Y,om ⟨_,Y,.inl ⟨Y,_,bW.of hps⟩,_,Y,_,Y,A1,_,Y,g',q1,_,_,_,Y,Y,bZ.of hq1,Y,_,_,Y,Y,_,Y,A1,_,Y,g',q1,_,_,_,Y,Y,bZ.of hq1,Y,c_,λq hq=>?_⟩⟩;have sq:=λo=>ak.upd (o:=o) hq;refine⟨lw,_,_,Y,Y,sq _ _ _ hps,by rw[l_,hpl];exact w_ (show _<=100 by omega) (by decide),Y,ak.at (s0.trans (sq _)) hlw,?_,?_⟩
    ·have z:=ET.put (w:=(pair+w1.1,w1.2)) hps pp (ak.refl _) hq Vq;rw[e];exact z
    ·rw[e];exact j_ _
  rintro σ H2 ⟨rfl,s1,W1,adn⟩;refine⟨λσ H3=>σ=[some (.ref pr),some (.str ⟨#[c]⟩),some (.int pair),some (.ref A1),some (.ref U1),some (.ref B1),some (.ref lw)]/\ak H H3/\ET H3 lw (((fa 112).map λw=>(pair+w.1,w.2)).toList++((fu 97).map λw=>(Qe T1 97 c+w.1,w.2)).toList)/\(((fa 112).map λw=>(pair+w.1,w.2)).toList++((fu 97).map λw=>(Qe T1 97 c+w.1,w.2)).toList).length<=2,?_,?_⟩
  ·obtain⟨ps,hps,pp⟩:=id W1;have hpl:=Paired.len pp;rcases(hU.same s1).val 97 with⟨e,g⟩|⟨w1,v1,e,g,q1,x1,rfl,hq1,Vq⟩
   ·exact⟨_,Y,U1,none,Y,by rw[sA];exact g,_,Y,gF ⟨Y,s1,by rw[e];rw[qb1,qby,qaB];exact W1,by rw[e];rw[qb1,qby,qaB];omega⟩⟩
   ·have g':rW H2 U1 (.str (h_ "a")) (some (.ref q1)):=by rw[sA];exact g
    refine⟨_,Y,U1,some _,Y,g',_,Y,om ⟨_,Y,.inl ⟨Y,_,bW.of hps⟩,_,Y,_,Y,pr,T1.1,T1.2.1,T1.2.2.1,T1.2.2.2,_,_,Y,hP.same s1,_,Y,U1,_,Y,g',q1,_,_,_,Y,Y,bZ.of hq1,Y,_,_,Y,Y,_,Y,U1,_,Y,g',q1,_,_,_,Y,Y,bZ.of hq1,Y,c_,λq hq=>?_⟩⟩;have sq:=λo=>ak.upd (o:=o) hq;refine⟨lw,_,_,Y,Y,sq _ _ _ hps,by rw[l_,hpl];exact w_ (show _<=100 by omega) (by decide),Y,ak.at (s1.trans (sq _)) hlw,?_,?_⟩
    ·have z:=ET.put (w:=(Qe T1 97 c+w1.1,w1.2)) hps pp (ak.refl _) hq Vq;rw[e];rw[Qd sA];exact z
    ·rw[e];rw[G_];exact qar adn
  rintro σ H3 ⟨rfl,s2,W2,adm⟩;refine⟨λσ H4=>σ=[some (.ref pr),some (.str ⟨#[c]⟩),some (.int pair),some (.ref A1),some (.ref U1),some (.ref B1),some (.ref lw)]/\ak H H4/\ET H4 lw ((((fa 112).map λw=>(pair+w.1,w.2)).toList++((fu 97).map λw=>(Qe T1 97 c+w.1,w.2)).toList)++((fb 98).map λw=>(Qe T1 98 c+w.1,w.2)).toList)/\((((fa 112).map λw=>(pair+w.1,w.2)).toList++((fu 97).map λw=>(Qe T1 97 c+w.1,w.2)).toList)++((fb 98).map λw=>(Qe T1 98 c+w.1,w.2)).toList).length<=3,?_,?_⟩
  ·obtain⟨ps,hps,pp⟩:=id W2;have hpl:=Paired.len pp;rcases(hB.same s2).val 98 with⟨e,g⟩|⟨w1,v1,e,g,q1,x1,rfl,hq1,Vq⟩
   ·exact⟨_,Y,B1,none,Y,by rw[sB];exact g,_,Y,gF ⟨Y,s2,by rw[e];rw[qb1,qby,qaB];exact W2,by rw[e];rw[qb1,qby,qaB];omega⟩⟩
   ·have g':rW H3 B1 (.str (h_ "b")) (some (.ref q1)):=by rw[sB];exact g
    refine⟨_,Y,B1,some _,Y,g',_,Y,om ⟨_,Y,.inl ⟨Y,_,bW.of hps⟩,_,Y,_,Y,pr,T1.1,T1.2.1,T1.2.2.1,T1.2.2.2,_,_,Y,hP.same s2,_,Y,B1,_,Y,g',q1,_,_,_,Y,Y,bZ.of hq1,Y,_,_,Y,Y,_,Y,B1,_,Y,g',q1,_,_,_,Y,Y,bZ.of hq1,Y,c_,λq hq=>?_⟩⟩;have sq:=λo=>ak.upd (o:=o) hq;refine⟨lw,_,_,Y,Y,sq _ _ _ hps,by rw[l_,hpl];exact w_ (show _<=100 by omega) (by decide),Y,ak.at (s2.trans (sq _)) hlw,?_,?_⟩
    ·have z:=ET.put (w:=(Qe T1 98 c+w1.1,w1.2)) hps pp (ak.refl _) hq Vq;rw[e];rw[Qd sB];exact z
    ·rw[e];rw[G_];exact qar adm
  rintro σ H4 ⟨rfl,s3,W3,ag3⟩;rw[qa6]at W3;obtain⟨ps,hps,pp⟩:=id W3;refine⟨_,Y,lw,ps.map V.ref,λi=>((rX T1 c pair fa fu fb).getD i (0,none)).1,Y,bW.of hps,λi v hv=>?_,λhn=>?_,λi v hv hL=>kk v H4 s3 (QJ pp hv hL)⟩
  ·obtain⟨q,hq,rfl⟩:=i9 hv;obtain⟨w1,hw,q',x,e,hq',_⟩:=GP.Paired.at pp hq;cases e;refine⟨q,[x],Y,bZ.of ?_⟩;simp only[show(rX T1 c pair fa fu fb).getD i (0,none)=w1 from o9 hw];exact hq'
  ·have e:rX T1 c pair fa fu fb=[]:=qbQ ((Paired.len pp).symm.trans (by rw[←l_ (f:=V.ref),hn];rfl));refine kk .jG H4 s3 ?_;rw[e];rfl
theorem Jg {kP oK:U}{jb mq:F_}{p:Pm}(T:Txt K mg p w base)(dM:Dn K mg "cell_of" sr Vf kP jb)(j4:Dn K mg "best_way" tD X4 oK mq)(Kh:aH P w K mg base bL 4 oK mq X4 (NZ K p.aq)):aH P w K mg base bL 5 kP jb Vf (DZ K p.aq):=by
 refine dM.fn.jg sU (λvs H Q E h=>?_) (λ_ _ _ _ H vs Q E hr h=>?_)
 ·obtain⟨pr,A1,U1,B1,T1,pair,fa,fu,fb,rfl,_⟩:=h;rfl
 ·obtain⟨pr,A1,U1,B1,T1,pair,fa,fu,fb,rfl,hP,hA,hU,hB,kk⟩:=h;intro X;refine⟨_,(aj (Z9X 5 sU.nd qJ)
   (aj (cV P_ rfl (Om (qk (v:=.ref p.lW) rfl T.JG rfl)) (Z9Y 6 sU.nd) (aj (Z9X 7 sU.nd (gc Kh hr j4 (aa (pv 0) (aa (pv 6) (aa (pv 1) (aa (pv 2) (aa (pv 3) (aa (pv 4) af))))))))
   (ao (bH (aF K3 (pv 7) qI (by with_unfolding_all rfl)) (ao (vq (jH hr) (pv 5) (pv 6) (pv 7) rfl)) aP))))
   (ao (aI (pv 5))))),?_⟩
  refine λd hd=>?_;have s1:ak H (L2.upd H d (.dK [])):=ak.upd hd;refine⟨p.lW,Y,⟨_,T.AI _⟩,?_⟩;refine Ll (K:=K) (a:=p.lW) (xs:=yK.map λc=>V.str ⟨#[c]⟩) (λi σ H2=>nN λv6 v7 kvs=>σ=[some (.ref pr),some (.int pair),some (.ref A1),some (.ref U1),some (.ref B1),some (.ref d),v6,v7]/\ak H H2/\H2 d=some (.dK kvs)/\Nf H2 (nU T1 pair fa fu fb) kvs ((yK.take i).filter λc=>(nU T1 pair fa fu fb c).isSome)/\kvs.length<=i)
   ⟨_,_,[],rfl,s1,ai,⟨qbg,.nil⟩,j_ _⟩ (λi σ H2 _ _=>T.AI _) ?_ ?_
  ·rintro i y σ H2 hy ⟨v6,v7,kvs,rfl,s2,hd2,hL,hlen⟩;obtain⟨c,hc,rfl⟩:=i9 hy;have hcm:=A_ hc;have ecf:nU T1 pair fa fu fb c=fmin (·.1) (rX T1 c pair fa fu fb):=if_pos hcm;have hi:i<3:=(o_.mp hc).1;have hnc:c∉(yK.take i).filter λc=>(nU T1 pair fa fu fb c).isSome:=λz=>by
    have hn:=(Z_.mp z).1
    match i,hi,hc,hn with
    | 0,_,hc,hn=>exact nomatch hn
    | 1,_,hc,hn=>rw[←L_ hc]at hn;exact absurd hn (by decide)
    | 2,_,hc,hn=>rw[←L_ hc]at hn;exact absurd hn (by decide)
   refine⟨_,Y,_,Y,_,Y,_,Y,_,Y,_,Y,pr,A1,U1,B1,T1,c,pair,fa,fu,fb,Y,hP.same s2,hA.same s2,hU.same s2,hB.same s2,λv H3 s3 hw=>?_⟩
   cases hf:fmin (·.1) (rX T1 c pair fa fu fb)with
   |none =>
    rw[hf]at hw;obtain rfl:v= .jG:=hw;refine⟨_,Y,Y,_,Y,gF ⟨_,_,kvs,Y,s2.trans s3,s3 _ _ hd2,?_,by omega⟩⟩;rw[take_snoc hc,qcv,qaA (by rw[ecf,hf];decide),List.filter_nil,qaB];exact hL.tps (pO s3)
   |some w1 =>
    rw[hf]at hw;obtain⟨q,x,rfl,hq,hx⟩:=hw;refine⟨_,Y,Y,_,Y,om ⟨_,Y,_,Y,_,Y,d,_,Y,zZ.k (k:=kS c) (s3 _ _ hd2) (w_ (show _<=100 by omega) (by decide)),_,_,_,Y,ak.at (s2.trans s3) hd,ai,?_,p_ (gE _ _ _) (qar hlen)⟩⟩;rw[take_snoc hc,qcv,qaz (by rw[ecf,hf];rfl),List.filter_nil];have tp:=mV (o:=.dK (putK kvs (kS c) (.ref q))) (s3 _ _ hd2) (λ_ z=>by cases z);exact Nf.put (hL.tps ((pO s3).trans tp)) hnc (ecf.trans hf) (wR.tps ⟨q,x,Y,hq,hx⟩ tp)
  ·rintro σ H2 ⟨v6,v7,kvs,rfl,s2,hd2,hL,hlen⟩;refine⟨_,Y,kk d H2 s2 hd ⟨kvs,_,hd2,hL,λc hc=>?_,?_⟩⟩
   ·refine Z_.mpr ⟨?_,hc⟩;show c∈yK;unfold nU at hc;split at hc
    ·assumption
    ·cases hc
   ·exact p_ (List.length_filter_le _ _) (by decide)
end
section
variable{P:r_}{w:I_}{K:PySem.W.Frag}{mg:v_->Option k_}{base:W_}
theorem Cn {kO kP:U}{jt jb:F_}{p:Pm}(T:Txt K mg p w base)(gU:Dn K mg "last_cells" qe X3 kO jt)(dM:Dn K mg "cell_of" sr Vf kP jb)(vC:aH P w K mg base bL 5 kP jb Vf (DZ K p.aq)):aH P w K mg base bL 6 kO jt X3 (NV K p.aq):=by
 refine gU.fn.jg lC (λvs H Q E h=>?_) (λ_ _ _ _ H vs Q E hr h=>?_)
 ·obtain⟨pr,v,T1,s,L,rfl,_⟩:=h;rfl
 ·obtain⟨pr,v,T1,s,L,rfl,hP,hs,⟨c,rfl,hc,hLn,hLl⟩,kk⟩:=h;have SI:s.length<=D_:=p_ hs (by decide);intro X;refine⟨_,(aj (Z9X 3 lC.nd qJ)
   (br (cV P_ rfl (Dj (pv 2)) (Z9Y 4 lC.nd) (ao (vq (jH hr) (pv 3) (pv 4) (aW (aa ah (aa qI af))) rfl)))
   (aj (Z9X 5 lC.nd (ie (aa (pv 3) af)))
   (br (cV P_ rfl (j9 rfl T.mU (aa (aC (aQ) rfl T.cB bA (aa (pv 1) af)) af)) (Z9Y 6 lC.nd) (ao (cD (lF PySem.F.plainAttrs_list PySem.F.slot_list_append PySem.F.type_list_append cO (pv 5) (aa (gc vC hr dM (aa (pv 0) (aa ah (aa qJ (aa qJ (aa (aD bK (pv 5) (pv 6) (λ_ _=>rfl)) af)))))) af)))))
   (aj (cD (I0 PySem.F.plainAttrs_list PySem.F.slot_list_reverse PySem.F.type_list_reverse AY (pv 5)))
   (ao (aI (pv 5)))))))),?_⟩
  refine λd hd=>?_;have s1:ak H (L2.upd H d (.dK [])):=ak.upd hd;refine⟨λσ H2=>∃v4,σ=[some (.ref pr),some (.str s),some c.val,some (.ref d),v4,none,none]/\ak H H2/\lY H2 d (kW T1 L 0),?_,?_⟩
  ·refine⟨_,Y,c,_,Y,Lw hc s1,?_⟩;refine JI (K:=K) (c:=c) (xs:=L.map λa=>V.str ⟨#[a]⟩) (λi σ H2=>dP λv4 kvs=>σ=[some (.ref pr),some (.str s),some c.val,some (.ref d),v4,none,none]/\ak H H2/\H2 d=some (.dK kvs)/\Nf H2 (kW T1 L 0) kvs (L.take i)/\kvs.length<=i)
    ⟨_,[],rfl,s1,ai,⟨qbg,.nil⟩,j_ _⟩ (λi σ H2 _ ⟨_,_,_,s2,_⟩=>Lw hc s2) ?_ ?_
   ·rintro i y σ H2 hy ⟨v4,kvs,rfl,s2,hd2,hL,hlen⟩;obtain⟨a,ha,rfl⟩:=i9 hy;have hil:i<L.length:=(o_.mp ha).1;have hna:a∉L.take i:=λz=>by
     have e:L=L.take i++L.drop i:=(qa0 _ _).symm;have nd:=hLn;rw[e]at nd;refine(qb8.mp nd).2.2 a z a ?_ Y;rw[qak hil,(o_.mp ha).2];exact z_
    refine⟨c_,λq hq=>?_⟩;have s3:=ak.upd (o:=.tup [.int 0,.jG]) hq;refine⟨_,Y,_,Y,d,_,Y,zZ.k (k:=kS a) (s3 _ _ hd2) (w_ (show _<=100 by omega) (by decide)),_,_,Y,ak.at (s2.trans s3) hd,ai,?_,p_ (gE _ _ _) (qar hlen)⟩;have tp:=mV (o:=.dK (putK kvs (kS a) (.ref q))) (s3 _ _ hd2) (λ_ z=>by cases z);rw[take_snoc ha];exact Nf.put (hL.tps ((pO s3).trans tp)) hna (w:=(0,none)) (if_pos (A_ ha)) (wR.tps ⟨q,.jG,Y,ai,Y⟩ tp)
   ·rintro σ H2 ⟨v4,kvs,rfl,s2,hd2,hL,hlen⟩;rw[l_,qbb]at hL;refine⟨_,Y,s2,kvs,L,hd2,hL,λa ha=>?_,hLl⟩;show a∈L
    have ha':((if a∈L then some ((0:Int),(none:BH))else none).isSome)=true:=ha
    split at ha'
    ·assumption
    ·cases ha'
  rintro σ H2 ⟨v4,rfl,s2,hc2⟩;refine⟨_,Y,b_,λlc Lg=>?_⟩;have s3:=ak.upd (o:=.lst [.ref d]) Lg;have JA:=ak.free s2 Lg;have C3:mT (L2.upd H2 lc (.lst [.ref d])) lc (kW T1 L) 0:=⟨[d],ai,rfl,λj q hq=>by
   have:j<1:=(o_.mp hq).1;have ej:j=0:=by omega
   subst ej;cases hq;exact hc2.same s3⟩
  have Ic:=s2.trans s3;generalize L2.upd H2 lc (.lst [.ref d])=H3 at C3 Ic ⊢;refine⟨λσ H4=>∃v6,σ=[some (.ref pr),some (.str s),some c.val,some (.ref d),v4,some (.ref lc),v6]/\ak H H4/\mT H4 lc (kW T1 L) s.cps.size,?_,?_⟩
  ·refine⟨_,Y,_,_,Y,⟨SI,Y⟩,_,Y,?_,?_,?_⟩
   ·show _<=(s.cps.size:Int);omega
   ·show(s.cps.size:Int)<_;omega
   have en:(((s.length:Nat):Int)).toNat=s.cps.size:=by show((s.cps.size:Int)).toNat=_;omega
   rw[en];refine sF (lo:=0) (n:=s.cps.size) (λi σ H4=>∃v6,σ=[some (.ref pr),some (.str s),some c.val,some (.ref d),v4,some (.ref lc),v6]/\ak H H4/\mT H4 lc (kW T1 L) i)
    ⟨_,rfl,Ic,C3⟩ ?_ ?_
   ·rintro i σ H4 hi ⟨v6,rfl,s4,C4⟩;obtain⟨ds,hds,hdl,hdc⟩:=id C4;refine⟨_,Y,.inl ⟨Y,_,bW.of hds⟩,_,Y,λd1 hd1 d2 hd2=>?_⟩;have s5:=(ak.upd (o:=.dK []) hd1).trans (ak.upd (o:=.dK []) hd2);have e1:L2.upd (L2.upd H4 d1 (.dK [])) d2 (.dK []) d1=some (.dK []):=ak.upd hd2 _ _ ai;obtain⟨ds',dj,g1,g2,g3,g4⟩:=(C4.same s5).get (j_ i);refine⟨_,Y,_,Y,lc,_,_,_,Y,Y,bW.of g1,by rw[qaW];exact g2,pr,d1,d2,dj,T1,0,jV,jV,kW T1 L i,Y,hP.same (s4.trans s5),lY.empty e1,lY.empty ai,g4,λdn H6 s6 hdn cdn=>?_⟩;have s46:=s5.trans s6;exact⟨lc,_,_,Y,Y,s46 _ _ hds,by rw[l_,hdl];exact w_ (show _<=100 by omega) (by decide),_,Y,ak.at (s4.trans s46) JA,mT.grow (F:=kW T1 L) hds hdl hdc s46 cdn⟩
   ·rintro σ H4 ⟨v6,rfl,s4,C4⟩;exact⟨_,Y,s4,C4⟩
  rintro σ H4 ⟨v6,rfl,s4,ds,hds,hdl,hdc⟩;refine⟨_,Y,.inl ⟨Y,_,bW.of hds⟩,lc,_,Y,Y,hds,_,Y,?_⟩;exact kk lc _ (ak.at s4 JA) JA (mT.rev hds hdl hdc)
theorem AW {jC cG kP:U}{iD bY jb:F_}{p:Pm}(T:Txt K mg p w base)(fQ:Dn K mg "cells_ahead" o6 XZ jC iD)(bh:Dn K mg "pair_cost" jN O2 cG bY)(jW:aH P w K mg base bL 1 cG bY O2 (qE K p.aq))(dM:Dn K mg "cell_of" sr Vf kP jb)(vC:aH P w K mg base bL 5 kP jb Vf (DZ K p.aq)):aH P w K mg base bL 6 jC iD XZ (KR K p.aq):=by
 refine fQ.fn.jg m6 (λvs H Q E h=>?_) (λ_ _ _ _ H vs Q E hr h=>?_)
 ·obtain⟨pr,lu,T1,mn,f,s,i,a,i_,rfl,_⟩:=h;rfl
 ·obtain⟨pr,lu,T1,mn,f,s,i,a,i_,rfl,hP,hfi,of,os,hs,hU,kk⟩:=h;have SI:s.length<=D_:=p_ hs (by decide);intro X;refine⟨_,(aj (Z9X 4 m6.nd (ie (aa (gc vC hr dM (aa (pv 0) (aa ah (aa qJ (aa (aD bK (pv 3) (AL wj ah) (λ_ _=>rfl)) (aa qJ af)))))) af)))
   (br (cV P_ rfl (Di rfl T.mU (aa (aA nZ (aC (aQ) rfl T.cB bA (aa (pv 2) af)) ah) (aa (AL wj ah) (aa (AL wj ah) af)))) (Z9Y 5 m6.nd) (aj (Z9X 6 m6.nd (gc jW hr bh (aa (pv 0) (aa (pv 1) (aa (aD kZ (pv 2) (pv 5) (λ_ _=>rfl)) af)))))
   (ao (cD (lF PySem.F.plainAttrs_list PySem.F.slot_list_append PySem.F.type_list_append cO (pv 4) (aa (gc vC hr dM (aa (pv 0) (aa (pv 6) (aa (aD bK (pv 3) (aA bE (pv 5) ah) (λ_ _=>rfl)) (aa (aD bK (pv 3) (pv 5) (λ_ _=>rfl)) (aa (aD bK (pv 4) (AL wj ah) (λ_ _=>rfl)) af)))))) af))))))
   (aj (cD (I0 PySem.F.plainAttrs_list PySem.F.slot_list_reverse PySem.F.type_list_reverse AY (pv 4)))
   (ao (aI (pv 4)))))),?_⟩
  refine⟨_,Y,λd1 hd1=>?_⟩;have s1:=ak.upd (o:=.dK []) hd1;have e1:L2.upd H d1 (.dK []) d1=some (.dK []):=ai;generalize L2.upd H d1 (.dK [])=H1 at s1 e1 ⊢;obtain⟨dU,du,u1,u2,u3⟩:=(hU.same s1).last;refine⟨_,Y,_,Y,lu,_,_,_,Y,Y,bW.of u1,u2,λd2 hd2=>?_⟩;have s2:=s1.trans (ak.upd (o:=.dK []) hd2);have s12:=ak.upd (o:=.dK []) hd2;refine⟨pr,d1,du,d2,T1,0,jV,i_ s.cps.size,jV,Y,hP.same s2,lY.empty (s12 _ _ e1),u3.same s12,lY.empty ai,λdn H3 s3 hdn cdn=>⟨b_,λlc Lg=>?_⟩⟩;have Ic:=s2.trans s3;have JA:=ak.free Ic Lg;have s4:=ak.upd (o:=.lst [.ref dn]) Lg;have C4:mT (L2.upd H3 lc (.lst [.ref dn])) lc (eN T1 ((b7 T1 mn f s).pc i) i_ s.cps.size) 0:=⟨[dn],ai,rfl,λj q hq=>by
   have:j<1:=(o_.mp hq).1;have ej:j=0:=by omega
   subst ej;cases hq;exact cdn.same s4⟩
  have Q3:=Ic.trans s4;generalize L2.upd H3 lc (.lst [.ref dn])=H4 at C4 Q3 ⊢;refine⟨λσ H5=>dP λv5 v6=>σ=[some (.ref pr),some (.str ⟨#[a]⟩),some (.str s),some (.ref lu),some (.ref lc),v5,v6]/\ak H H5/\mT H5 lc (eN T1 ((b7 T1 mn f s).pc i) i_ s.cps.size) s.cps.size,?_,?_⟩
  ·refine⟨_,Y,_,_,Y,⟨SI,Y⟩,_,_,Y,Y,_,Y,_,Y,_,_,Y,⟨?_,?_,by decide,by decide⟩,?_⟩
   ·show _<=(s.cps.size:Int)-1;omega
   ·show(s.cps.size:Int)-1<_;omega
   have en:(((s.length:Nat):Int)-1- -1).toNat=s.cps.size:=by show((s.cps.size:Int)-1- -1).toNat=_;omega
   rw[show((((s.length:Nat):Int)-1)-(-1:Int)).toNat=s.cps.size from en];refine G4 (lo:=((s.length:Nat):Int)-1) (n:=s.cps.size) (λk σ H5=>dP λv5 v6=>σ=[some (.ref pr),some (.str ⟨#[a]⟩),some (.str s),some (.ref lu),some (.ref lc),v5,v6]/\ak H H5/\mT H5 lc (eN T1 ((b7 T1 mn f s).pc i) i_ s.cps.size) k)
    ⟨_,_,rfl,Q3,C4⟩ ?_ ?_
   ·rintro k σ H5 hk ⟨v5,v6,rfl,s5,C5⟩;obtain⟨ds,hds,hdl,hdc⟩:=id C5;have ej:((s.length:Nat):Int)-1-(k:Int)=((s.cps.size-(k+1):Nat):Int):=by show((s.cps.size:Nat):Int)-1-(k:Int)=_;omega
    have hjl:s.cps.size-(k+1)<s.cps.size:=by omega
    obtain⟨b,hb⟩:=uR hjl;have ha:=hfi;obtain⟨i',j',fr,hi',hj',hat,Y8⟩:=Eh (u:=uT T1) hP.ZZ (of a (pe ha)) (os b (pe hb));have epr:fr.1*(uT T1 / fr.2)=(b7 T1 mn f s).pc i (s.cps.size-(k+1)):=by
     show _=L4 T1.1 T1.2.1 (uT T1) (f.cps.toList.getD i 0) (s.cps.toList.getD (s.cps.size-(k+1)) 0);rw[u_,u_,dw ha,dw hb];exact Y8.symm
    refine⟨_,Y,_,Y,_,Y,_,Y,s,_,b,Y,Y,SI,by rw[ej];exact dY (dw hb),pr,T1.1,T1.2.1,T1.2.2.1,T1.2.2.2,i',j',a,b,fr,Y,ql.same s5 hP,hi',hj',hat,λH6 s6=>?_⟩;have UN:=s5.trans s6;obtain⟨dU1,dp,g1,g2,g3,g4⟩:=(hU.same UN).get (j:=s.cps.size-(k+1)+1) (by omega);obtain⟨dU2,dq,h1,h2,h3,h4⟩:=(hU.same UN).get (j:=s.cps.size-(k+1)) (by omega);obtain⟨dL,db,l1,l2,l3⟩:=(C5.same s6).last;refine⟨_,Y,.inl ⟨Y,_,bW.of (s6 _ _ hds)⟩,_,Y,_,Y,_,Y,_,Y,_,_,Y,Y,lu,_,_,_,Y,Y,bW.of g1,?_,_,Y,_,Y,lu,_,_,_,Y,Y,bW.of h1,by rw[ej];exact h2,_,Y,_,Y,lc,_,_,_,Y,Y,bW.of l1,l2,pr,dp,dq,db,T1,_,i_ (s.cps.size-(k+1)+1),i_ (s.cps.size-(k+1)),eN T1 ((b7 T1 mn f s).pc i) i_ s.cps.size k,Y,hP.same UN,g4,h4,l3,λde H7 s7 hde cde=>?_⟩
    ·rw[show((s.length:Nat):Int)-1-(k:Int)+1=((s.cps.size-(k+1)+1:Nat):Int) by rw[ej];rfl];exact g2
    have UM:=s6.trans s7;have ad8:lY H7 de (eN T1 ((b7 T1 mn f s).pc i) i_ s.cps.size (k+1)):=by
     have z:=cde;rw[show fr.1*(bq T1.2.2.1.2 T1.2.2.2.2 T1.2.1 / fr.2)=(b7 T1 mn f s).pc i (s.cps.size-(k+1)) from epr]at z;exact z
    exact⟨lc,_,_,Y,Y,UM _ _ hds,by rw[l_,hdl];exact w_ (show _<=100 by omega) (by decide),_,_,Y,ak.at (s5.trans UM) JA,mT.grow (F:=eN T1 ((b7 T1 mn f s).pc i) i_ s.cps.size) hds hdl hdc UM ad8⟩
   ·rintro σ H5 ⟨v5,v6,rfl,s5,C5⟩;exact⟨_,_,Y,s5,C5⟩
  rintro σ H5 ⟨v5,v6,rfl,s5,ds,hds,hdl,hdc⟩;refine⟨_,Y,.inl ⟨Y,_,bW.of hds⟩,lc,_,Y,Y,hds,_,Y,?_⟩;exact kk lc _ (ak.at s5 JA) JA (mT.rev hds hdl hdc)
theorem Ce {kF:U}{jk:F_}{p:Pm}(T:Txt K mg p w base)(dG:Dn K mg "with_stops" pW ["cells"] kF jk)  :aH P w K mg base bL 1 kF jk ["cells"] NO:=by
 refine dG.fn.jg gZ (λvs H Q E h=>?_) (λ_ _ _ _ H vs Q E hr h=>?_)
 ·obtain⟨l,F,m,rfl,_⟩:=h;rfl
 ·obtain⟨l,F,m,rfl,⟨ds,hds,hdl,hdc⟩,hm,kk⟩:=h;intro X;refine⟨_,(aj (Z9X 1 gZ.nd (ie af))
   (aj (cV P_ rfl (xF rfl T.pq (aa (pv 0) af)) (nA (n:=2) rfl (bC (Z9Y 2 gZ.nd) (bC (Z9Y 3 gZ.nd) i7))) (aj (Z9X 4 gZ.nd qJ)
   (aj (Oj (H0:=H) (cV P_ rfl (Oq (pv 3)) (nA (n:=2) rfl (bC (Z9Y 5 gZ.nd) (bC (Z9Y 6 gZ.nd) i7))) (ao (vq (jH hr) (pv 4) (pv 5) (aW (aa (aD aJ (pv 6) ah (λ_ _=>rfl)) (aa (aW (aa (pv 2) (aa (pv 5) af))) af))) rfl))) rfl)
   (ao (cD (lF PySem.F.plainAttrs_list PySem.F.slot_list_append PySem.F.type_list_append cO (pv 1) (aa (pv 4) af)))))))
   (ao (aI (pv 1))))),?_⟩
  refine⟨a_,λlp QE=>?_⟩;have s1:=ak.upd (o:=.lst []) QE;have e1:L2.upd H lp (.lst []) lp=some (.lst []):=ai;generalize L2.upd H lp (.lst [])=H1 at s1 e1 ⊢;refine⟨_,Y,.lst l,_,Y,bW.of (s1 _ _ hds),?_⟩;refine uN (K:=K) (c:=.lst l) (xs:=ds.map V.ref) (λi σ H2=>V7 λv2 v3 v4 v5 v6 es=>σ=[some (.ref l),some (.ref lp),v2,v3,v4,v5,v6]/\ak H H2/\H2 lp=some (.lst (es.map V.ref))/\es.length=i/\∀j d,es[j]? =some d->lY H2 d (xm F j))
   ⟨_,_,_,_,_,[],rfl,s1,e1,rfl,λj d hd=>by simp at hd⟩ (λi σ H2 _ ⟨_,_,_,_,_,_,_,s2,_⟩=>bW.of (s2 _ _ hds)) ?_ ?_
  ·rintro i y q σ H2 hy hq ⟨v2,v3,v4,v5,v6,es,rfl,s2,Pf,hel,hec⟩;obtain⟨d,hd,rfl⟩:=i9 hy;have hil:i<m+1:=by rw[←hdl];exact(o_.mp hd).1
   have s3:=ak.upd (o:=.tup [.int (i:Int),.ref d]) hq;obtain⟨kvs,cs,hk,hL,hcs,hc3⟩:=hdc i d hd;refine⟨_,_,Y,bZ.of ai,Y,_,_,Y,_,_,Y,Y,?_⟩;generalize L2.upd H2 q (.tup [.int (i:Int),.ref d])=H3 at s3 ⊢;refine λe he=>?_;have s4:=ak.upd (o:=.dK []) he;have Z0:=s2.trans (s3.trans s4);have e4:L2.upd H3 e (.dK []) e=some (.dK []):=ai;generalize L2.upd H3 e (.dK [])=H4 at s4 Z0 e4 ⊢;refine⟨_,Y,d,kvs,Y,Z0 _ _ hk,λo=>?_⟩;have nde:e≠d:=λz=>by rw[z]at he;rw[s3 _ _ (s2 _ _ hk)]at he;cases he
   have kl:kvs.length<=3:=by rw[Paired.len hL.2];exact hc3
   refine MK (a:=d) (o:=o) (kvs:=kvs) (λk σ H5=>nN λv5 v6 Ad=>σ=[some (.ref l),some (.ref lp),some (.int (i:Int)),some (.ref d),some (.ref e),v5,v6]/\(∀b u,b≠d->b≠e->H4 b=some u->H5 b=some u)/\H5 d=some (.yg o (.dK kvs))/\H5 e=some (.dK Ad)/\Nf H5 (xm F i) Ad (cs.take k)/\Ad.length<=k)
    ⟨_,_,[],rfl,λb u n1 n2 q=>by rw[av n1];exact q,ai,by rw[av nde];exact e4,⟨qbg,.nil⟩,j_ _⟩ (λk σ H5 _ ⟨_,_,_,_,_,q,_⟩=>q) ?_ ?_
   ·rintro k ky x pp σ H5 hkx hpp ⟨v5,v6,Ad,rfl,s5,JC,he5,hL5,VD⟩;obtain⟨c,hc,hky,w1,hw1,qx,x',hx,YG,hx'⟩:=GP.Paired.at hL.2 hkx;have JB:k<cs.length:=(o_.mp hc).1;obtain rfl:ky=kS c:=hky;obtain rfl:x= .ref qx:=hx;have adg:=Z0 _ _ YG;have nqd:qx≠d:=λz=>by rw[z,hk]at YG;cases YG
    have nqe:qx≠e:=λz=>by rw[z]at YG;rw[s3 _ _ (s2 _ _ YG)]at he;cases he
    have s6:=ak.upd (o:=.tup [kV (kS c),.ref qx]) hpp;have YF:=s6 _ _ (s5 _ _ nqd nqe adg);refine⟨_,_,Y,bZ.of ai,Y,_,_,Y,_,_,Y,Y,?_⟩;generalize L2.upd H5 pp (.tup [kV (kS c),.ref qx])=H6 at s6 YF ⊢;refine⟨_,Y,qx,_,_,_,Y,Y,bZ.of YF,Y,_,Y,_,Y,c_,λq1 hq1=>⟨c_,λq2 hq2=>?_⟩⟩;have t1:=ak.upd (o:=.tup [.int (i:Int),.str ⟨#[c]⟩]) hq1;have t2:=ak.upd (o:=.tup [.int w1.1,.ref q1]) hq2;have W9:=s6.trans (t1.trans t2);have hna:c∉cs.take k:=λz=>by
     have e:cs=cs.take k++cs.drop k:=(qa0 _ _).symm;have nd:=hL.1;rw[e]at nd;refine(qb8.mp nd).2.2 c z c ?_ Y;rw[qak JB,(o_.mp hc).2];exact z_
    refine⟨_,Y,_,Y,e,_,Y,zZ.k (k:=kS c) (W9 _ _ he5) (w_ (show _<=100 by omega) (by decide)),_,_,_,Y,λb u n1 n2 q=>by rw[av n2];exact W9 _ _ (s5 b u n1 n2 q),by rw[av (Ne.symm nde)];exact W9 _ _ JC,ai,?_,p_ (gE _ _ _) (qar VD)⟩;have tp:=mV (o:=.dK (putK Ad (kS c) (.ref q2))) (W9 _ _ he5) (λ_ z=>by cases z);rw[take_snoc hc];exact Nf.put (hL5.tps ((pO W9).trans tp)) hna (w:=(w1.1,some (i,c))) (by unfold xm;rw[hw1];rfl) (wR.tps ⟨q2,.ref q1,Y,ai,q1,Y,t2 _ _ ai⟩ tp)
   ·rintro σ H5 ⟨v5,v6,Ad,rfl,s5,JC,he5,hL5,VD⟩;rw[Paired.len hL.2,qbb]at hL5;have MH:=Z0 _ _ hk;refine⟨d,o,.dK kvs,JC,(λo u z=>by rw[hk]at z;cases z),?_⟩;have he7:L2.upd H5 d (.dK kvs) e=some (.dK Ad):=by rw[av nde];exact he5
    have s7:ak H3 (L2.upd H5 d (.dK kvs)):=λb u q=>by
     have ne:b≠e:=λz=>by rw[z,he]at q;cases q
     by_cases z:b=d
     ·have q4:=s4 _ _ q;rw[z,MH]at q4;rw[z,ai];exact q4
     ·rw[av z];exact s5 b u z ne (s4 _ _ q)
    have cd7:lY (L2.upd H5 d (.dK kvs)) e (xm F i):=⟨Ad,cs,he7,hL5.tps (mV JC (λ_ z=>by cases z)),λc hcc=>hcs c (by
     unfold xm at hcc
     cases hF:F i c with
     |none=>rw[hF]at hcc;cases hcc
     |some w1=>rfl),hc3⟩
    generalize L2.upd H5 d (.dK kvs)=H7 at he7 s7 cd7 ⊢;have Z1:=s3.trans s7;refine⟨_,Y,.inl ⟨Y,_,bW.of (Z1 _ _ Pf)⟩,_,Y,lp,_,_,Y,Y,Z1 _ _ Pf,by rw[l_,hel];exact w_ (show i<=100 by omega) (by decide),?_⟩;obtain⟨es',g1,g2,g3⟩:=mT.grow (F:=xm F) (d:=e) Pf hel hec Z1 cd7;exact⟨_,_,_,_,_,es',Y,ak.at (s2.trans Z1) QE,g1,g2,g3⟩
  ·rintro σ H2 ⟨v2,v3,v4,v5,v6,es,rfl,s2,Pf,hel,hec⟩;rw[l_]at hel;exact⟨_,Y,kk lp H2 s2 QE ⟨es,Pf,by rw[hel,hdl],hec⟩⟩
end
section
variable{P:r_}{w:I_}{K:PySem.W.Frag}{mg:v_->Option k_}{base:W_}
theorem I9 {kH kO kF jC:U}{ja jt jk iD:F_}{p:Pm}(T:Txt K mg p w base)(fX:Dn K mg "stop_at" sj Ve kH ja)(gU:Dn K mg "last_cells" qe X3 kO jt)(Fi:aH P w K mg base bL 6 kO jt X3 (NV K p.aq))(dG:Dn K mg "with_stops" pW ["cells"] kF jk)(yc:aH P w K mg base bL 1 kF jk ["cells"] NO)(fQ:Dn K mg "cells_ahead" o6 XZ jC iD)(CU:aH P w K mg base bL 6 jC iD XZ (KR K p.aq)):aH P w K mg base bL 7 kH ja Ve (Av K p.aq):=by
 refine fX.fn.jg nV (λvs H Q E h=>?_) (λ_ _ _ _ H vs Q E hr h=>?_)
 ·obtain⟨pr,v,T1,mn,f,s,c,u,L,w1,rfl,_⟩:=h;rfl
 ·obtain⟨pr,v,T1,mn,f,s,c,u,L,w1,rfl,hP,of,os,hf,hs,hu,hc,hLc,hL,hw,kk⟩:=h;have lf:f.length<=D_:=p_ hf (by decide);intro X;refine⟨_,(aj (Z9X 6 nV.nd (gc Fi hr gU (aa (pv 0) (aa (pv 2) (aa (pv 4) af)))))
   (br (bH (aF bM (pv 5) (aC (aQ) rfl T.cB bA (aa (pv 1) af)) (aG _)) (ao (Z9X 6 nV.nd (gc yc hr dG (aa (pv 6) af)))) aP)
   (br (cV P_ rfl (Di rfl T.mU (aa (aA nZ (aC (aQ) rfl T.cB bA (aa (pv 1) af)) ah) (aa (AL wj ah) (aa (AL wj ah) af)))) (Z9Y 7 nV.nd) (aj (Z9X 6 nV.nd (gc CU hr fQ (aa (pv 0) (aa (aD kZ (pv 1) (pv 7) (λ_ _=>rfl)) (aa (pv 2) (aa (pv 6) af))))))
   (ao (bH (aF bM (pv 5) (pv 7) (aG _)) (ao (Z9X 6 nV.nd (gc yc hr dG (aa (pv 6) af)))) aP))))
   (ao (aI (aD aJ (i8 (jH hr) (aD bK (pv 6) ah (λ_ _=>rfl)) (pv 3) (λ_ _=>rfl)) ah (λ_ _=>rfl))))))),?_⟩
  refine⟨_,Y,_,Y,_,Y,pr,v,T1,s,L,Y,hP,hs,hL,λlc H1 s1 Lg C1=>?_⟩;have R1:∀j,j<=s.cps.size->zQ (b7 T1 mn f s) (uP f.cps.size s.cps.size L) u f.cps.size (λj=>kW T1 L (s.cps.size-j)) j:=λj hj=>by
   have z:=Ds (T:=T1) (mn:=mn) (f:=f) (s:=s) (u:=u) hLc (s.cps.size-j) (by omega);rw[show s.cps.size-(s.cps.size-j)=j by omega]at z;exact z
  refine⟨λσ H2=>dP λ(lc:U) (F:Nat->CF)=>σ=[some (.ref pr),some (.str f),some (.str s),some (.str ⟨#[c]⟩),some v,some (.int (u:Int)),some (.ref lc),none]/\ak H H2/\mT H2 lc F s.cps.size/\HC (b7 T1 mn f s) (uP f.cps.size s.cps.size L) u f.cps.size F,?_,?_⟩
  ·refine⟨_,Y,_,Y,_,_,Y,⟨lf,Y⟩,Y,_,Y,?_⟩;rw[nJ];refine b9 (λz=>?_) λz=>⟨lc,_,Y,s1,C1,zQ.s R1 (λq=>z (by rw[←q];rfl))⟩;have e:u=f.cps.size:=by have z':(u:Int)=(f.cps.size:Int):=z;omega
   refine⟨_,Y,lc,_,s.cps.size,Y,C1,hs,λl' H2 s2 hl' C2=>⟨l',_,Y,s1.trans s2,C2,?_⟩⟩;rw[←e]at R1 ⊢;exact zQ.stops R1
  rintro σ H2 ⟨lc,F,rfl,s2,C2,R2⟩;refine⟨λσ H3=>nN λ(lc:U) (F:Nat->CF) (v7:Option V)=>σ=[some (.ref pr),some (.str f),some (.str s),some (.str ⟨#[c]⟩),some v,some (.int (u:Int)),some (.ref lc),v7]/\ak H H3/\mT H3 lc F s.cps.size/\HC (b7 T1 mn f s) (uP f.cps.size s.cps.size L) u 0 F,?_,?_⟩
  ·refine⟨_,Y,_,_,Y,⟨lf,Y⟩,_,_,Y,Y,_,Y,_,Y,_,_,Y,⟨?_,?_,by decide,by decide⟩,?_⟩
   ·show _<=(f.cps.size:Int)-1;omega
   ·show(f.cps.size:Int)-1<_;omega
   have en:(((f.length:Nat):Int)-1- -1).toNat=f.cps.size:=by show((f.cps.size:Int)-1- -1).toNat=_;omega
   rw[show((((f.length:Nat):Int)-1)-(-1:Int)).toNat=f.cps.size from en];refine G4 (lo:=((f.length:Nat):Int)-1) (n:=f.cps.size) (λk σ H3=>nN λ(lc:U) (F:Nat->CF) (v7:Option V)=>σ=[some (.ref pr),some (.str f),some (.str s),some (.str ⟨#[c]⟩),some v,some (.int (u:Int)),some (.ref lc),v7]/\ak H H3/\mT H3 lc F s.cps.size/\HC (b7 T1 mn f s) (uP f.cps.size s.cps.size L) u (f.cps.size-k) F)
    ⟨lc,F,_,rfl,s2,C2,by rw[Nat.sub_zero];exact R2⟩ ?_ ?_
   ·rintro k σ H3 hk ⟨lc,F,v7,rfl,s3,C3,R3⟩;have ei:((f.length:Nat):Int)-1-(k:Int)=((f.cps.size-(k+1):Nat):Int):=by show((f.cps.size:Nat):Int)-1-(k:Int)=_;omega
    have hil:f.cps.size-(k+1)<f.cps.size:=by omega
    have er:f.cps.size-k=f.cps.size-(k+1)+1:=by omega
    rw[er]at R3;obtain⟨a,ha⟩:=uR hil;refine⟨_,Y,_,Y,_,Y,f,_,a,Y,Y,lf,by rw[ei];exact dY (dw ha),_,Y,_,Y,pr,lc,T1,mn,f,s,f.cps.size-(k+1),a,F,Y,hP.same s3,ha,of,os,hs,C3,λl4 H4 s4 Pg C4=>?_⟩;have R4:∀j,j<=s.cps.size->zQ (b7 T1 mn f s) (uP f.cps.size s.cps.size L) u (f.cps.size-(k+1)) (λj=>eN T1 ((b7 T1 mn f s).pc (f.cps.size-(k+1))) F s.cps.size (s.cps.size-j)) j:=λj hj=>by
     have z:=JW (T:=T1) (mn:=mn) (f:=f) (s:=s) (u:=u) (L:=L) hil R3 (s.cps.size-j) (by omega);rw[show s.cps.size-(s.cps.size-j)=j by omega]at z;exact z
    refine⟨_,Y,_,Y,Y,_,Y,?_⟩;rw[nJ];refine b9 (λz=>?_) λz=>⟨l4,_,_,Y,s3.trans s4,C4,zQ.s R4 (λq=>z (by rw[ei,←q]))⟩;have e:u=f.cps.size-(k+1):=by
     have z':(u:Int)=((f.length:Nat):Int)-1-(k:Int):=z;rw[ei]at z';omega
    refine⟨_,Y,l4,_,s.cps.size,Y,C4,hs,λl5 H5 s5 VD C5=>⟨l5,_,_,Y,(s3.trans s4).trans s5,C5,?_⟩⟩;rw[←e]at R4 ⊢;exact zQ.stops R4
   ·rintro σ H3 ⟨lc,F,v7,rfl,s3,C3,R3⟩;rw[qcf]at R3;exact⟨lc,F,v7,Y,s3,C3,R3⟩
  rintro σ H3 ⟨lc,F,v7,rfl,s3,C3,R3⟩;obtain⟨ds,d,g1,g2,g3,g4⟩:=C3.get (j:=0) (Q_ _);have hv:=R3 0 (Q_ _) c hc;rw[hw]at hv;rcases g4.val c with⟨e,_⟩|⟨w2,v2,e,g,q,x,rfl,hq,hx⟩
  ·rw[hv]at e;cases e
  rw[hv]at e;cases e;exact⟨_,Y,lc,_,_,_,Y,Y,bW.of g1,g2,_,Y,d,_,Y,g,q,_,_,_,Y,Y,bZ.of hq,Y,kk x H3 s3 hx⟩
theorem Cf {kG kH:U}{jl ja:F_}{p:Pm}(T:Txt K mg p w base)(gK:Dn K mg "whole_stop" pX XY kG jl)(fX:Dn K mg "stop_at" sj Ve kH ja)(yN:aH P w K mg base bL 7 kH ja Ve (Av K p.aq)):aH P w K mg base bL 8 kG jl XY (Ky K p.aq):=by
 refine gK.fn.jg B6 (λvs H Q E h=>?_) (λ_ _ _ _ H vs Q E hr h=>?_)
 ·obtain⟨pr,T1,f,s,u,t1,rfl,_⟩:=h;rfl
 ·obtain⟨pr,T1,f,s,u,t1,rfl,hP,of,os,hf,hs,hu,ht,kk⟩:=h;intro X;refine⟨_,(ao (aI (gc yN hr fX (aa (pv 0) (aa (pv 1) (aa (pv 2) (aa aS (aa (qk (v:=.ref p.lW) Y T.JG Y) (aa (pv 3) af))))))))),?_⟩;have hsv:=UC T1 f s u;rw[ht]at hsv;refine⟨_,Y,_,Y,_,Y,_,Y,pr,.ref p.lW,T1,sW,f,s,112,u,yK,_,by rw[sP];rfl,hP,of,os,hf,hs,hu,PZ,λa ha=>ha,⟨.tup p.lW,Y,T.AI _,by decide,by decide⟩,hsv,λx H' s' hx=>?_⟩;obtain⟨q,rfl,hq⟩:=hx;exact kk q H' s' hq
end
section
variable{P:r_}{w:I_}{K:PySem.W.Frag}{mg:v_->Option k_}{base:W_}
theorem AU {jA:U}{iB:F_}{p:Pm}(T:Txt K mg p w base)(cQ:Dn K mg "check_place" o4 XX jA iB)  :aH P w K mg base bL 1 jA iB XX (xr K):=by
 refine cQ.fn.jg AG (λvs H Q E h=>?_) (λ_ _ _ _ H vs Q E hr h=>?_)
 ·obtain⟨f,s,q,ij,rfl,_⟩:=h;rfl
 ·obtain⟨f,s,q,ij,rfl,hq,⟨i1,i2,i3,i4⟩,hf,hs,k⟩:=h;have zf:f.length<=D_:=p_ hf (by decide);have zs:s.length<=D_:=p_ hs (by decide);intro X;refine⟨_,(ao (bH (wD (PW.pt (rK (Gp Dl Dl ah (aD aJ (pv 2) ah (λ_ _=>rfl)) (aC (aQ) Y T.cB bA (aa (pv 0) af))) (qi (Gp Dl Dl ah (aD aJ (pv 2) ah (λ_ _=>rfl)) (aC (aQ) Y T.cB bA (aa (pv 1) af))))))) cX aP)),?_⟩;refine⟨_,Y,_,_,_,_,Y,Y,hq,Y,_,_,Y,Y,_,Y,?_⟩;refine b9 (λ_=>?_) λz=>absurd i1 z;refine⟨_,Y,_,_,Y,⟨zf,Y⟩,_,_,Y,Y,_,Y,?_⟩;refine b9 (λ_=>?_) λz=>absurd i2 z;refine⟨_,Y,_,_,_,_,Y,Y,hq,Y,_,_,Y,Y,_,Y,?_⟩;refine b9 (λ_=>?_) λz=>absurd i3 z;refine⟨_,Y,_,_,Y,⟨zs,Y⟩,_,_,Y,Y,_,Y,?_⟩;rw[decide_eq_true (show ij.2<=((s.length:Nat):Int) from i4)];exact uM k
theorem zD {iH:U}{gw:F_}{p:Pm}(T:Txt K mg p w base)(eV:Dn K mg "place_behind" ni XW iH gw)  :aH P w K mg base bL 1 iH gw XW (Ge K):=by
 refine eV.fn.jg tZ (λvs H Q E h=>?_) (λ_ _ _ _ H vs Q E hr h=>?_)
 ·obtain⟨q,c,ij,rfl,_⟩:=h;rfl
 ·obtain⟨q,c,ij,rfl,hq,hc,k⟩:=h;intro X
  refine⟨_,(aj (bH (aF Gw (pv 1) (qk (v:=.ref p.nM) Y T.Lh Y) (by with_unfolding_all rfl)) cX aP)
   (aj (Z9X 2 tZ.nd (Rc (qk (v:=.ref p.nM) rfl T.Lh rfl) (pv 1) (λ_ _=>rfl)))
   (ao (aI (aW (aa (aA bE (aD aJ (pv 0) ah (λ_ _=>rfl)) (aD aJ (pv 2) ah (λ_ _=>rfl))) (aa (aA bE (aD aJ (pv 0) ah (λ_ _=>rfl)) (aD aJ (pv 2) ah (λ_ _=>rfl))) af))))))),?_⟩
  obtain⟨v,f,hv,hf,e⟩:dP λ(v:U) (f:cJ)=>jK [(Sum.inr (h_ "p"),V.ref p.lz),(Sum.inr (h_ "a"),V.ref p.ly),(Sum.inr (h_ "b"),V.ref p.k9)] (Sum.inr ⟨#[c]⟩:Key)=some (.ref v)/\(∀H:Hp,bZ K H v [.int f.1,.int f.2])/\stp ij c=(ij.1+f.1,ij.2+f.2):=by
   rcases hc with rfl|rfl|rfl
   ·exact⟨p.lz,(1,1),fZ (show(Sum.inr (h_ "p"):Key)=Sum.inr ⟨#[112]⟩ by decide +kernel),T.Oh,Y⟩
   ·exact⟨p.ly,(1,0),(f6 (show ¬(Sum.inr (h_ "p"):Key)=Sum.inr ⟨#[97]⟩ by decide +kernel)).trans (fZ (show(Sum.inr (h_ "a"):Key)=Sum.inr ⟨#[97]⟩ by decide +kernel)),T.Og,Y⟩
   ·exact⟨p.k9,(0,1),(f6 (show ¬(Sum.inr (h_ "p"):Key)=Sum.inr ⟨#[98]⟩ by decide +kernel)).trans ((f6 (show ¬(Sum.inr (h_ "a"):Key)=Sum.inr ⟨#[98]⟩ by decide +kernel)).trans (fZ (show(Sum.inr (h_ "b"):Key)=Sum.inr ⟨#[98]⟩ by decide +kernel))),T.Oe,Y⟩
  refine⟨_,Y,p.nM,_,.inr ⟨#[c]⟩,Y,Y,T.GV P,_,Y,?_⟩;rw[hv];refine uM ?_;refine⟨_,Y,p.nM,_,.inr ⟨#[c]⟩,_,Y,Y,T.GV P,hv,?_⟩;refine⟨_,Y,_,_,_,_,Y,Y,hq,Y,_,Y,_,_,_,_,Y,Y,hf _,Y,_,_,Y,Y,_,Y,_,_,_,_,Y,Y,hq,Y,_,Y,_,_,_,_,Y,Y,hf _,Y,_,_,Y,Y,c_,λr hr=>?_⟩;have z:=k r hr;rw[e]at z;exact z
theorem Em {mz jA iH:U}{kg iB gw:F_}{p:Pm}(T:Txt K mg p w base)(iR:Dn K mg "places_of" qX XU mz kg)(cQ:Dn K mg "check_place" o4 XX jA iB)(we:aH P w K mg base bL 1 jA iB XX (xr K))(eV:Dn K mg "place_behind" ni XW iH gw)(BX:aH P w K mg base bL 1 iH gw XW (Ge K)):aH P w K mg base bL 2 mz kg XU (F6 K):=by
 refine iR.fn.jg mW (λvs H Q E h=>?_) (λ_ _ _ _ H vs Q E hr h=>?_)
 ·obtain⟨f,s,b,ij,mv,rfl,_⟩:=h;rfl
 ·obtain⟨f,s,b,ij,mv,rfl,hb,W,k⟩:=h;intro X;refine⟨_,(aj (Z9X 4 mW.nd (aW (aa (aD aJ (pv 2) ah (λ_ _=>rfl)) (aa (aD aJ (pv 2) ah (λ_ _=>rfl)) af))))
   (aj (cD (gc we hr cQ (aa (pv 0) (aa (pv 1) (aa (pv 4) af)))))
   (aj (Z9X 5 mW.nd (ie (aa (pv 4) af)))
   (aj (cV P_ rfl (IZ (pv 3)) (Z9Y 6 mW.nd) (aj (Z9X 4 mW.nd (gc BX hr eV (aa (pv 4) (aa (pv 6) af))))
   (aj (cD (gc we hr cQ (aa (pv 0) (aa (pv 1) (aa (pv 4) af)))))
   (ao (cD (lF PySem.F.plainAttrs_list PySem.F.slot_list_append PySem.F.type_list_append cO (pv 5) (aa (pv 4) af)))))))
   (ao (aI (pv 5))))))),?_⟩
  refine⟨_,Y,_,_,_,_,Y,Y,hb,Y,_,Y,_,_,_,_,Y,Y,hb,Y,c_,λq0 hq0=>?_⟩;have t0:TupAt (upd H q0 (.tup [.int ij.1,.int ij.2])) q0 ij:=ai;have s1:ak H (upd H q0 (.tup [.int ij.1,.int ij.2])):=ak.upd hq0;generalize upd H q0 (.tup [.int ij.1,.int ij.2])=H1 at t0 s1 ⊢;refine⟨_,Y,_,Y,_,Y,f,s,q0,ij,Y,t0.fr,W.Z8 0 (Q_ _),W.fs,W.ss,?_⟩;refine⟨_,Y,b_,λl hl=>?_⟩;have VE:H l=none:=ak.free s1 hl;refine⟨_,Y,mv,Y,Lk (x:=mv) (λi σ H2=>nN λ(qs:List U) (q:U) (v6:Option V)=>σ=[some (.str f),some (.str s),some (.ref b),some (.str mv),some (.ref q),some (.ref l),v6]/\qs[i]? =some q/\qs.length=i+1/\H2 l=some (.lst (qs.map V.ref))/\(∀(k:Nat) q,qs[k]? =some q->TupAt H2 q (Cd ij mv.cps.toList k))/\ak H H2)
   ⟨[q0],q0,_,rfl,rfl,rfl,ai,?_,s1.trans (ak.upd hl)⟩ ?_ ?_⟩
  ·intro k q hk
   match k,hk with
   | 0,hk=>cases hk;exact t0.same (ak.upd hl)
   |k+1,hk=>simp at hk
  ·rintro i c σ H2 hc ⟨qs,q,v6,rfl,hq,S2,hl2,hts,s2⟩;have hi:=PR hc;have tq:=hts i q hq;refine⟨_,Y,_,Y,q,c,_,Y,tq.fr,W.ok c (pe hc),λr hr=>?_⟩;have e:=AK (q:=ij) (dw hc);rw[←e];have tr:TupAt (upd H2 r (.tup [.int (Cd ij mv.cps.toList (i+1)).1,.int (Cd ij mv.cps.toList (i+1)).2])) r (Cd ij mv.cps.toList (i+1)):=ai;have s3:ak H2 (upd H2 r (.tup [.int (Cd ij mv.cps.toList (i+1)).1,.int (Cd ij mv.cps.toList (i+1)).2])):=ak.upd hr;generalize upd H2 r (.tup [.int (Cd ij mv.cps.toList (i+1)).1,.int (Cd ij mv.cps.toList (i+1)).2])=H3 at tr s3 ⊢;refine⟨_,Y,_,Y,_,Y,f,s,r,_,Y,tr.fr,W.Z8 (i+1) hi,W.fs,W.ss,?_⟩;have hl3:=s3 _ _ hl2;refine⟨_,Y,.inl ⟨Y,_,bW.of hl3⟩,_,Y,l,_,_,Y,Y,hl3,?_,?_⟩
   ·rw[l_,S2];have:=W.ms;exact H_ (show i+1<3000 by omega) (by decide)
   refine⟨qs++[r],r,_,Y,?_,by rw[G_,S2];rfl,by rw[ai,M_];rfl,λk q hk=>?_,ak.at (s2.trans s3) VE⟩
   ·rw[qaG (by rw[S2];exact j_ _),S2,qcf];rfl
   ·by_cases z:k<qs.length
    ·rw[qaX z]at hk;exact((hts k q hk).same s3).off hl3
    ·rw[qaG (qcH z)]at hk;have z0:k-qs.length=0:=by
      have:=(o_.mp hk).1;simp at this;omega
     have zk:k=i+1:=by omega
     rw[z0]at hk;cases hk;subst zk;exact tr.off hl3
  ·rintro σ H2 ⟨qs,q,v6,rfl,hq,S2,hl2,hts,s2⟩;exact⟨_,Y,k l H2 qs s2 hl2 S2 hts⟩
theorem Jf {qB cT mz cG cU fz:U}{oE cH kg bY cI dO:F_}{p:Pm}(T:Txt K mg p w base)(mS:Dn K mg "cost_of" vm XT qB oE)(bG:Dn K mg "check_rows" j7 RA cT cH)(nR:aH P w K mg base bL 2 cT cH RA (qU K p.aq))(iR:Dn K mg "places_of" qX XU mz kg)(HR:aH P w K mg base bL 2 mz kg XU (F6 K))(bh:Dn K mg "pair_cost" jN O2 cG bY)(jW:aH P w K mg base bL 1 cG bY O2 (qE K p.aq))(aV:Dn K mg "alone_cost" j8 Rz cU cI)(jf:aH P w K mg base bL 3 cU cI Rz (z9 K p.aq))(cA:Dn K mg "in_units" nW RB fz dO)(qR:aH P w K mg base bL 2 fz dO RB (vc K p.aq)):aH P w K mg base bL 5 qB oE XT (Ga K p.aq):=by
 refine mS.fn.jg iZ (λvs H Q E h=>?_) (λ_ _ _ _ H vs Q E hr h=>?_)
 ·obtain⟨x,sg,rows,fo,fm,f,s,b,ij,mv,rfl,_⟩:=h;rfl
 ·obtain⟨x,sg,rows,fo,fm,f,s,b,ij,mv,rfl,hP,of,os,hb,W,k⟩:=h;intro X;refine⟨_,(aj (cD (gc nR hr bG (aa (pv 0) (aa (ie (aa (pv 1) (aa (pv 2) af))) af))))
   (aj (Z9X 5 iZ.nd (gc HR hr iR (aa (pv 1) (aa (pv 2) (aa (pv 3) (aa (pv 4) af))))))
   (aj (Z9X 6 iZ.nd ah)
   (aj (Z9X 7 iZ.nd aS)
   (aj (cV P_ rfl (Ec rfl rfl T.Ko (aa (pv 5) (aa (pv 4) af))) (nA (n:=2) rfl (bC (Z9Y 8 iZ.nd) (bC (Z9Y 9 iZ.nd) i7))) (br (bH (aF bM (pv 9) aS (aG _)) (ao (Z9X 6 iZ.nd (aA bE (pv 6) (gc jW hr bh (aa (pv 0) (aa (aD kZ (pv 1) (aD aJ (pv 8) ah (λ_ _=>rfl)) (λ_ _=>rfl)) (aa (aD kZ (pv 2) (aD aJ (pv 8) ah (λ_ _=>rfl)) (λ_ _=>rfl)) af))))))) (ao (Z9X 6 iZ.nd (aA bE (pv 6) (gc jf hr aV (aa (pv 0) (aa (pv 9) (aa (pv 7) af))))))))
   (ao (Z9X 7 iZ.nd (pv 9)))))
   (ao (aI (gc qR hr cA (aa (pv 0) (aa (pv 6) af)))))))))),?_⟩
  refine⟨_,Y,_,Y,_,Y,c_,λl hl=>?_⟩;refine⟨x,l,sg,rows,fo,fm,f,s,Y,hP.same (ak.upd hl),ai,of,os,λH1 s1=>?_⟩;have N6:=(ak.upd (o:=.lst [.str f,.str s]) hl).trans s1;refine⟨_,Y,_,Y,_,Y,_,Y,f,s,b,ij,mv,Y,hb.same N6,W,λl2 H2 qs s2 hl2 S2 hts=>?_⟩;have Cb:=N6.trans s2;have zf:f.length<=D_:=p_ W.fs (by decide);have zs:s.length<=D_:=p_ W.ss (by decide);have hmin:min (qs.map V.ref).length (fC mv).length=mv.cps.size:=by rw[signs_length,l_,S2];omega
  have sq:Qh sg.cps.size rows:=hP.ZZ
  refine⟨_,Y,_,Y,.lst l2,.txt mv,_,_,Y,bW.of hl2,Y,EI (K:=K) (c:=.lst l2) (d:=.txt mv) (xs:=qs.map V.ref) (ys:=fC mv) (λi σ H3=>dP λ(v8 v9:Option V)=>σ=[some (.ref x),some (.str f),some (.str s),some (.ref b),some (.str mv),some (.ref l2),some (.int (MP sg rows fo fm f s ij mv i)),some (.str (if i=0 then h_ "" else⟨#[mv.cps.toList.getD (i-1) 0]⟩)),v8,v9]/\ak H2 H3)
   ⟨_,_,rfl,ak.refl _⟩ (λi σ H3 _ ⟨_,_,_,s3⟩=>⟨bW.of (s3 _ _ hl2),rfl⟩) ?_ ?_⟩
  ·rintro i y z p1 σ H3 hy hz hp1 ⟨v8,v9,rfl,s3⟩;obtain⟨q,hq,rfl⟩:=i9 hy;obtain⟨c,hc,rfl⟩:=signs_get hz;have s4:=s3.trans (ak.upd (o:=.tup [.ref q,.str ⟨#[c]⟩]) hp1);have hi:=PR hc;have tq:=(hts i q hq).same s4;refine⟨p1,_,Y,bZ.of ai,Y,_,_,Y,_,_,Y,Y,?_⟩;generalize upd H3 p1 (.tup [.ref q,.str ⟨#[c]⟩])=H4 at s4 tq ⊢;have VL:=hP.same (Cb.trans s4);have hcl:=dw hc
   refine⟨λσ' H'=>ak H2 H'/\σ'=[some (.ref x),some (.str f),some (.str s),some (.ref b),some (.str mv),some (.ref l2),some (.int (MP sg rows fo fm f s ij mv (i+1))),some (.str (if i=0 then h_ "" else⟨#[mv.cps.toList.getD (i-1) 0]⟩)),some (.ref q),some (.str ⟨#[c]⟩)],?_,?_⟩
   ·refine⟨_,Y,Y,_,Y,?_⟩;have ecs:MP sg rows fo fm f s ij mv (i+1)=MP sg rows fo fm f s ij mv i+SM (L4 sg rows (bq fo.2 fm.2 rows)) (cL (bq fo.2 fm.2 rows) fo) (cL (bq fo.2 fm.2 rows) fm) f s ij mv.cps.toList i:=rfl;by_cases e:c=112
    ·have es:(⟨#[c]⟩:v_)=h_ "p" :=by rw[e];decide +kernel
     rw[decide_eq_true (show V.str ⟨#[c]⟩=V.str (h_ "p") by rw[es])];refine om ?_;have w0:=W.Z8 i (qaJ hi);have w1:=W.Z8 (i+1) hi;rw[AK hcl,e]at w1;obtain⟨a1,a2,a3,a4⟩:=w0;obtain⟨b1,b2,b3,b4⟩:=w1;have b2':(Cd ij mv.cps.toList i).1+1<=(f.cps.size:Int):=b2;have b4':(Cd ij mv.cps.toList i).2+1<=(s.cps.size:Int):=b4;obtain⟨n1,hn1⟩:∃n:Nat,(Cd ij mv.cps.toList i).1=(n:Int):=⟨_,(qau a1).symm⟩;obtain⟨n2,hn2⟩:∃n:Nat,(Cd ij mv.cps.toList i).2=(n:Int):=⟨_,(qau a3).symm⟩;obtain⟨ca,hca⟩:=uR (x:=f) (i:=n1) (by omega);obtain⟨cb,hcb⟩:=uR (x:=s) (i:=n2) (by omega);obtain⟨j1,j2,g,k1,k2,k3,k4⟩:=Eh (u:=bq fo.2 fm.2 rows) sq (of ca (pe hca)) (os cb (pe hcb));refine⟨_,Y,_,Y,_,Y,_,Y,_,_,_,_,Y,Y,tq.fr,Y,f,_,ca,Y,Y,zf,(by rw[hn1];exact dY (dw hca)),?_⟩;refine⟨_,Y,_,Y,_,_,_,_,Y,Y,tq.fr,Y,s,_,cb,Y,Y,zs,(by rw[hn2];exact dY (dw hcb)),?_⟩;refine⟨x,sg,rows,fo,fm,j1,j2,ca,cb,g,Y,VL,k1,k2,k3,λH5 s5=>?_⟩;refine⟨_,_,Y,Y,s4.trans s5,?_⟩;have ei:SM (L4 sg rows (bq fo.2 fm.2 rows)) (cL (bq fo.2 fm.2 rows) fo) (cL (bq fo.2 fm.2 rows) fm) f s ij mv.cps.toList i=g.1*(bq fo.2 fm.2 rows / g.2):=by
      unfold SM;rw[hcl]
      show(if c=112 then _ else _)=_
      rw[if_pos e,hn1,hn2,qaw,qaw,u_,u_,dw hca,dw hcb];exact k4
     rw[ecs,ei];rfl
    ·have es:¬(⟨#[c]⟩:v_)=h_ "p" :=λz=>e (by
      have z2: #[c]= #[112]:=congrArg qcO z;simpa using z2)
     rw[decide_eq_false (show ¬V.str ⟨#[c]⟩=V.str (h_ "p") from λz=>es (V.str.inj z))];refine gF ?_;refine⟨_,Y,_,Y,_,Y,_,Y,x,sg,rows,fo,fm,⟨#[c]⟩,_,Y,VL,_,_,Y,Y,s4,?_⟩
     have ei:SM (L4 sg rows (bq fo.2 fm.2 rows)) (cL (bq fo.2 fm.2 rows) fo) (cL (bq fo.2 fm.2 rows) fm) f s ij mv.cps.toList i=(if(⟨#[c]⟩:v_)=(if i=0 then h_ "" else⟨#[mv.cps.toList.getD (i-1) 0]⟩)then cL (bq fo.2 fm.2 rows) fm else cL (bq fo.2 fm.2 rows) fo+cL (bq fo.2 fm.2 rows) fm):=by
      unfold SM;rw[hcl]
      show(if c=112 then _ else _)=_
      rw[if_neg e];exact RZ mv i c hi
     rw[ecs,ei];rfl
   ·rintro σ' H' ⟨s5,rfl⟩;refine⟨_,Y,some (.ref q),some (.str ⟨#[c]⟩),?_,s5⟩;have eg:mv.cps.toList.getD i 0=c:=by rw[u_,hcl];rfl
    rw[if_neg (Nat.succ_ne_zero i),Nat.add_sub_cancel,eg];rfl
  ·rintro σ H3 ⟨v8,v9,rfl,s3⟩;rw[hmin];refine⟨_,Y,_,Y,x,_,sg,rows,fo,fm,Y,hP.same (Cb.trans s3),λq H4 s4 hqn hq4=>?_⟩;exact k q H4 ((Cb.trans s3).trans s4) hq4
end
section
variable{P:r_}{w:I_}{K:PySem.W.Frag}{mg:v_->Option k_}{base:W_}
theorem zB {iF kH:U}{gu ja:F_}{p:Pm}(T:Txt K mg p w base)(eT:Dn K mg "stop_between" ng XS iF gu)(fX:Dn K mg "stop_at" sj Ve kH ja)(yN:aH P w K mg base bL 7 kH ja Ve (Av K p.aq)):aH P w K mg base bL 8 iF gu XS (KA K p.aq):=by
 refine eT.fn.jg lP (λvs H Q E h=>?_) (λ_ _ _ _ H vs Q E hr h=>?_)
 ·obtain⟨pr,d,T1,f,s,lo,hi,u,S,tl,th,tu,rfl,_⟩:=h;rfl
 ·obtain⟨pr,d,T1,f,s,lo,hi,u,S,tl,th,tu,rfl,hP,of,os,hf,hs,hS,h1,h2,h3,Y5,Ww,VP,sl,sh,kk⟩:=h;have lf:f.length<=D_:=p_ hf (by decide);have SI:s.length<=D_:=p_ hs (by decide);intro X;refine⟨_,(aj (Z9X 7 lP.nd (i8 (jH hr) (pv 3) (pv 4) (λ_ _=>rfl)))
   (aj (Z9X 8 lP.nd (i8 (jH hr) (pv 3) (pv 5) (λ_ _=>rfl)))
   (aj (Z9X 9 lP.nd (gc yN hr fX (aa (pv 0) (aa (gD pP (pv 1) (gj (pv 4)) (gj (pv 5))) (aa (gD pP (pv 2) (gj (aD aJ (pv 7) ah (λ_ _=>rfl))) (gj (aD aJ (pv 8) ah (λ_ _=>rfl)))) (aa (aD aJ (pv 7) ah (λ_ _=>rfl)) (aa (aD aJ (pv 8) ah (λ_ _=>rfl)) (aa (aA nZ (pv 6) (pv 4)) af))))))))
   (ao (aI (aW (aa (aA bE (aD aJ (pv 7) ah (λ_ _=>rfl)) (aD aJ (pv 9) ah (λ_ _=>rfl))) (aa (aD aJ (pv 9) ah (λ_ _=>rfl)) af)))))))),?_⟩
  obtain⟨pl,gl,hpl⟩:=hS.get sl;obtain⟨ph,gh,hph⟩:=hS.get sh;obtain⟨il,onl⟩:=Gd.xT (qP T1 sW f s) _ kX lo tl (GX T1 sW f s) (j_ _) Y5;have rl:=Lj Y5;have rh:=Lj Ww;have eh:((b7 T1 sW f s).zM tl)[hi-lo]? =some th:=by rw[onl,Nat.add_sub_cancel' (p_ h1 h2)];exact Ww
  have eu:((b7 T1 sW f s).zM tl)[u-lo]? =some tu:=by rw[onl,Nat.add_sub_cancel' h1];exact VP
  have cl:=Py eh;have ih:=(Gd.xT (qP T1 sW f s) _ kX hi th (GX T1 sW f s) (j_ _) Ww).1;have hm:th.2.1<=s.cps.size:=ih.2.1;obtain⟨SB,nf,ns⟩:=UE (T:=T1) (m:=sW) (m':=sW) (f:=f) (s:=s) (yo f (p_ h1 h2)) (yo s cl) h3 hm (p_ h1 h2) cl;obtain⟨r1,hsv,cu⟩:=NH (g':=b7 T1 sW (Txt.slice f (some (lo:Int)) (some (hi:Int))) (Txt.slice s (some (tl.2.1:Int)) (some (th.2.1:Int)))) (qP T1 sW f s) il eh eu (by omega) (by rw[rl];exact SB) (by show(Txt.slice f (some (lo:Int)) (some (hi:Int))).cps.size+tl.1=th.1;omega) (by show(Txt.slice s (some (tl.2.1:Int)) (some (th.2.1:Int))).cps.size+tl.2.1=th.2.1;omega);refine⟨_,Y,_,Y,d,_,Y,gl,_,Y,_,Y,d,_,Y,gh,?_⟩;refine⟨_,Y,_,Y,_,Y,_,Y,_,Y,_,Y,f,Y,lf,?_⟩;refine⟨_,Y,_,Y,pl,_,_,_,Y,Y,bZ.of hpl,Y,_,Y,_,Y,ph,_,_,_,Y,Y,bZ.of hph,Y,_,Y,s,Y,SI,?_⟩;refine⟨_,Y,pl,_,_,_,Y,Y,bZ.of hpl,Y,_,Y,ph,_,_,_,Y,Y,bZ.of hph,Y,_,Y,_,Y,_,_,Y,Y,?_⟩;refine⟨pr,.str ⟨#[th.2.2]⟩,T1,sW,_,_,tl.2.2,u-lo,[th.2.2],_,(by show [_,_,_,_,_,V.int ((u:Int)-(lo:Int))]=_;rw[show((u:Int)-(lo:Int))=((u-lo:Nat):Int) by omega]),hP,λc hc=>of c (Df hc),λc hc=>os c (Df hc),by omega,by omega,by omega,P0 il.2.2,λa ha=>by rw[x_.mp ha];exact P0 ih.2.2,⟨.txt ⟨#[th.2.2]⟩,Y,Y,by simp,by simp⟩,hsv,λx H2 s2 hx=>?_⟩;obtain⟨q,rfl,hq⟩:=hx;refine⟨_,Y,pl,_,_,_,Y,Y,bZ.of (s2 _ _ hpl),Y,_,Y,q,_,_,_,Y,Y,bZ.of hq,Y,_,_,Y,Y,_,Y,q,_,_,_,Y,Y,bZ.of hq,Y,c_,λr hr=>?_⟩;refine kk r _ (s2.trans (ak.upd hr)) ?_;rw[ai];show some (HO.tup [.int ((tl.2.1:Int)+((tu.2.1-tl.2.1:Nat):Int)),.str ⟨#[tu.2.2]⟩])=some (Us tu);rw[show(tl.2.1:Int)+((tu.2.1-tl.2.1:Nat):Int)=(tu.2.1:Int) by omega];rfl
theorem Ey {mL kG iF:U}{kC jl gu:F_}{p:Pm}(T:Txt K mg p w base)(iX:Dn K mg "all_stops" rq QC mL kC)(gK:Dn K mg "whole_stop" pX XY kG jl)(Fb:aH P w K mg base bL 8 kG jl XY (Ky K p.aq))(eT:Dn K mg "stop_between" ng XS iF gu)(BV:aH P w K mg base bL 8 iF gu XS (KA K p.aq)):aH P w K mg base bL 9 mL kC QC (KQ K p.aq):=by
 refine iX.fn.jg m7 (λvs H Q E h=>?_) (λ_ _ _ _ H vs Q E hr h=>?_)
 ·obtain⟨pr,T1,f,s,rfl,_⟩:=h;rfl
 ·obtain⟨pr,T1,f,s,rfl,hP,of,os,hf,hs,kk⟩:=h;have lf:f.length<=D_:=p_ hf (by decide);intro X;refine⟨_,(aj (Z9X 3 m7.nd (Rf (Gq ah (aW (aa ah (aa aS af))) (Gq (aC (aQ) Y T.cB bA (aa (pv 1) af)) (gc Fb hr gK (aa (pv 0) (aa (pv 1) (aa (pv 2) (aa (aC (aQ) Y T.cB bA (aa (pv 1) af)) af))))) Q9)) Y Y (λz=>by cases z) (by decide)))
   (aj (Z9X 4 m7.nd (ie (aa (aW (aa ah (aa (aC (aQ) rfl T.cB bA (aa (pv 1) af)) af))) af)))
   (aj (AJ P_ (aF vN (aC (aQ) rfl T.cB bA (aa (pv 4) af)) ah (aG _)) (aj (Z9X 5 m7.nd (I0 PySem.F.plainAttrs_list PySem.F.slot_list_pop PySem.F.type_list_pop U5 (pv 4)))
   (aj (Z9X 6 m7.nd (aA c6 (aA bE (aD aJ (pv 5) ah (λ_ _=>rfl)) (aD aJ (pv 5) ah (λ_ _=>rfl))) ah))
   (ao (bH (aF vN (pv 6) (aD aJ (pv 5) ah (λ_ _=>rfl)) (aG _)) (aj (vq (jH hr) (pv 3) (pv 6) (gc BV hr eT (aa (pv 0) (aa (pv 1) (aa (pv 2) (aa (pv 3) (aa (aD aJ (pv 5) ah (λ_ _=>rfl)) (aa (aD aJ (pv 5) ah (λ_ _=>rfl)) (aa (pv 6) af)))))))) rfl)
   (aj (cD (lF PySem.F.plainAttrs_list PySem.F.slot_list_append PySem.F.type_list_append cO (pv 4) (aa (aW (aa (aD aJ (pv 5) ah (λ_ _=>rfl)) (aa (pv 6) af))) af)))
   (ao (cD (lF PySem.F.plainAttrs_list PySem.F.slot_list_append PySem.F.type_list_append cO (pv 4) (aa (aW (aa (pv 6) (aa (aD aJ (pv 5) ah (λ_ _=>rfl)) af))) af)))))) aP)))))
   (ao (aI (pv 3)))))),?_⟩
  have fl:=Af T1 f s;obtain⟨tn,RS⟩:=wL (T:=T1) (f:=f) (s:=s) (j_ _);refine λd hd=>⟨c_,λq0 hq0=>?_⟩;have e0:L2.upd (L2.upd H d (.dK [])) q0 (.tup [.int 0,.str (h_ "p")]) d=some (.dK []):=ak.upd hq0 _ _ ai;have e1:L2.upd (L2.upd H d (.dK [])) q0 (.tup [.int 0,.str (h_ "p")]) q0=some (Us kX):=by rw[ai,sP];rfl
  have s1:=(ak.upd (o:=.dK []) hd).trans (ak.upd (o:=.tup [.int 0,.str (h_ "p")]) hq0);generalize L2.upd (L2.upd H d (.dK [])) q0 (.tup [.int 0,.str (h_ "p")])=H1 at e0 e1 s1 ⊢;refine⟨_,Y,_,_,Y,⟨lf,Y⟩,_,Y,_,Y,_,Y,_,Y,_,_,Y,⟨lf,Y⟩,pr,T1,f,s,f.cps.size,tn,Y,hP.same s1,of,os,hf,hs,j_ _,RS,λq H2 s2 hq=>⟨s2 _ _ e0,[(.inl 0,.ref q0),(.inl (f.cps.size:Int),.ref q)],Y,by show 2<=15;decide,?_⟩⟩;have Cb:=s1.trans s2;have t3:=mV (o:=.dK (oi [] [(.inl 0,.ref q0),(.inl (f.cps.size:Int),.ref q)])) (s2 _ _ e0) (λ_ z=>by cases z);have s3:ak H (L2.upd H2 d (.dK (oi [] [(.inl 0,.ref q0),(.inl (f.cps.size:Int),.ref q)]))):=ak.at Cb hd;have B0:L2.upd H2 d (.dK (oi [] [(.inl 0,.ref q0),(.inl (f.cps.size:Int),.ref q)])) d=some (.dK (oi [] [(.inl 0,.ref q0),(.inl (f.cps.size:Int),.ref q)])):=ai;have f0:(iu T1 f s)[0]? =some kX:=rfl
  have hv3:∀u:Nat,R8 (L2.upd H2 d (.dK (oi [] [(.inl 0,.ref q0),(.inl (f.cps.size:Int),.ref q)]))) (if u=f.cps.size then some tn else if u=0 then some kX else none) (jK (oi [] [(.inl 0,.ref q0),(.inl (f.cps.size:Int),.ref q)]) (.inl (u:Int))):=λu=>by
   show R8 _ _ (jK (putK (putK ([]:List (Key×V)) (Sum.inl 0) (.ref q0)) (Sum.inl (f.cps.size:Int)) (.ref q)) (Sum.inl (u:Int)));by_cases a:u=f.cps.size
   ·subst a;rw[rZ,if_pos rfl,if_pos rfl];exact⟨q,Y,t3 _ _ hq⟩
   ·have na:=Jx a;rw[rZ,if_neg a,if_neg na,rZ];by_cases b:u=0
    ·subst b;rw[if_pos rfl]
     exact⟨q0,(if_pos rfl:(if(Sum.inl ((0:Nat):Int):Key)=Sum.inl 0 then _ else _)=_),t3 _ _ (s2 _ _ e1)⟩
    ·have nb:¬(Sum.inl (u:Int):Key)=Sum.inl 0:=Jx b;rw[if_neg b,if_neg nb];rfl
  have hl3:(oi [] [((.inl 0:Key),V.ref q0),(.inl (f.cps.size:Int),.ref q)]).length<=2:=rP _ _;generalize oi [] [((.inl 0:Key),V.ref q0),(.inl (f.cps.size:Int),.ref q)]=kv3 at t3 s3 B0 hv3 hl3 ⊢;generalize L2.upd H2 d (.dK kv3)=H3 at t3 s3 B0 hv3 ⊢;refine⟨_,Y,_,_,Y,⟨lf,Y⟩,c_,λp0 hp0=>⟨b_,λls hls=>?_⟩⟩;have s4:=(ak.upd (o:=.tup [.int 0,.int ((f.length:Nat):Int)]) hp0).trans (ak.upd (o:=.lst [.ref p0]) hls);have VC:H ls=none:=ak.free s3 (ak.free (ak.upd (o:=.tup [.int 0,.int ((f.length:Nat):Int)]) hp0) hls);have Pg:L2.upd (L2.upd H3 p0 (.tup [.int 0,.int ((f.length:Nat):Int)])) ls (.lst [.ref p0]) ls=some (.lst [.ref p0]):=ai;have S3:L2.upd (L2.upd H3 p0 (.tup [.int 0,.int ((f.length:Nat):Int)])) ls (.lst [.ref p0]) p0=some (.tup [.int ((0:Nat):Int),.int (f.cps.size:Int)]):=ak.upd hls _ _ ai;generalize L2.upd (L2.upd H3 p0 (.tup [.int 0,.int ((f.length:Nat):Int)])) ls (.lst [.ref p0])=H4 at s4 Pg S3 ⊢;have Q3:=s3.trans s4
  refine⟨λm σ H5=>V7 λv5 v6 ps sp kvs S=>σ=[some (.ref pr),some (.str f),some (.str s),some (.ref d),some (.ref ls),v5,v6]/\ak H H5/\H5 ls=some (.lst (ps.map V.ref))/\Paired (Ft H5) ps sp/\H5 d=some (.dK kvs)/\m=Gr sp/\kvs.length+Gr sp<=100/\(∀u:Nat,R8 H5 (S u) (jK kvs (.inl (u:Int))))/\(∀q∈sp,q.1<=q.2/\q.2<=f.cps.size/\S q.1=(iu T1 f s)[q.1]? /\S q.2=(iu T1 f s)[q.2]?)/\(∀u,u<=f.cps.size->S u=(iu T1 f s)[u]? \/∃q∈sp,q.1<u/\u<q.2)/\(∀u,S u=none\/S u=(iu T1 f s)[u]?),⟨_,_,_,[p0],[(0,f.cps.size)],kv3,λu=>if u=f.cps.size then some tn else if u=0 then some kX else none,Y,Q3,Pg,.cons S3 .nil,s4 _ _ B0,Y,?_,λu=>(hv3 u).tps (pO s4),?_,?_,?_⟩,?_⟩
  ·have z:Gr [(0,f.cps.size)]<=25:=by
    show(2*(f.cps.size-0)-1+if 0=f.cps.size then 1 else 0)+0<=25
    split<;>omega
   omega
  ·intro q hq;rw[x_.mp hq];refine⟨Q_ _,j_ _,?_,?_⟩
   ·show(if 0=f.cps.size then some tn else if 0=0 then some kX else none)=_
    by_cases a:0=f.cps.size
    ·rw[if_pos a,←RS,←a]
    ·rw[if_neg a,if_pos rfl];rfl
   ·show(if f.cps.size=f.cps.size then some tn else _)=_
    rw[if_pos rfl,RS]
  ·intro u hu;by_cases a:u=f.cps.size
   ·left
    show(if u=f.cps.size then some tn else _)=_
    rw[if_pos a,a,RS]
   ·by_cases b:u=0
    ·left
     show(if u=f.cps.size then some tn else if u=0 then some kX else none)=_
     rw[if_neg a,if_pos b,b];rfl
    ·exact .inr ⟨_,x_.mpr Y,Nat.pos_of_ne_zero b,Nat.lt_of_le_of_ne hu a⟩
  ·intro u
   show(if u=f.cps.size then some tn else if u=0 then some kX else none)=none\/(if u=f.cps.size then some tn else if u=0 then some kX else none)=_
   by_cases a:u=f.cps.size
   ·right;rw[if_pos a,a,RS]
   ·by_cases b:u=0
    ·right;rw[if_neg a,if_pos b,b];rfl
    ·left;rw[if_neg a,if_neg b]
  ·rintro m σ H5 ⟨v5,v6,ps,sp,kvs,S,rfl,s5,Pd,pp,JC,rfl,hb,hv,hin,hall,hok⟩;have hpl:=Paired.len pp;refine⟨_,Y,_,_,Y,.inl ⟨_,bW.of Pd,Y⟩,_,_,Y,Y,_,Y,?_⟩;refine b9 (λz=>?_) λz=>?_
   ·have hne:ps≠[]:=λe=>by rw[e]at z;exact absurd z (by decide)
    obtain⟨ps',pt,rfl⟩:dP λps' pt=>ps=ps'++[pt]:=by
     rcases List.eq_nil_or_concat ps with e|⟨l,x,e⟩
     ·exact absurd e hne
     ·exact⟨l,x,by rw[e];simp⟩
    obtain⟨Gf,⟨a,b⟩,rfl,pp',hpt⟩:=yW pp;obtain⟨hab,hbn,hSa,hSb⟩:=hin (a,b) (T_ _ z_)
    have hb':kvs.length+(Gr Gf+(2*(b-a)-1+if a=b then 1 else 0))<=100:=by rw[←uF Gf (a,b)];exact hb
    have edl:((ps'++[pt]).map V.ref).dropLast=ps'.map V.ref:=by rw[M_];exact List.dropLast_concat
    refine⟨_,λσ' H' z=>z,?_⟩;refine⟨_,Y,.inl ⟨Y,_,bW.of Pd⟩,ls,_,.ref pt,Y,Y,Pd,by rw[M_,G_];exact List.getElem?_concat_length ..,?_⟩;rw[edl];have t6:=mV (o:=.lst (ps'.map V.ref)) Pd (λ_ z=>by cases z);have s6:ak H (L2.upd H5 ls (.lst (ps'.map V.ref))):=ak.at s5 VC;have Qz:d≠ls:=λz=>by rw[z,Pd]at JC;cases JC
    have VH:L2.upd H5 ls (.lst (ps'.map V.ref)) d=some (.dK kvs):=by rw[av Qz];exact JC
    have VB:L2.upd H5 ls (.lst (ps'.map V.ref)) ls=some (.lst (ps'.map V.ref)):=ai;generalize L2.upd H5 ls (.lst (ps'.map V.ref))=H6 at t6 s6 VH VB ⊢;have Jy:H6 pt=some (.tup [.int (a:Int),.int (b:Int)]):=t6 _ _ hpt;have pp6:Paired (Ft H6) ps' Gf:=Paired.ji pp' λ_ _ z=>t6 _ _ z;obtain⟨hh,ehh⟩:∃hh:Nat,(a+b) / 2=hh:=⟨_,rfl⟩;have eh:((a:Int)+(b:Int)) / 2=(hh:Int):=by omega
    refine⟨_,Y,pt,_,_,_,Y,Y,bZ.of Jy,Y,_,Y,pt,_,_,_,Y,Y,bZ.of Jy,Y,_,_,Y,Y,_,_,Y,Y,⟨by decide,by decide⟩,?_⟩;rw[show(λi j=>V.int (i / j)) ((a:Int)+(b:Int)) 2=V.int (hh:Int) from congrArg V.int eh];refine⟨_,Y,_,Y,pt,_,_,_,Y,Y,bZ.of Jy,Y,_,_,Y,Y,_,Y,?_⟩;refine b9 (λz=>?_) λz=>?_
    ·have z1:a<hh:=qbV.mp z;have z2:=half_lt ehh z1;have hhn:=p_ (qaJ z2) hbn;have hk0:kvs.length<=100:=p_ (qaF _ _) hb';obtain⟨tu,VP⟩:=wL (T:=T1) (s:=s) hhn;obtain⟨tl,Y5⟩:=wL (T:=T1) (s:=s) (p_ hab hbn);obtain⟨th,Ww⟩:=wL (T:=T1) (s:=s) hbn;have SD:HB H6 d S:=⟨kvs,VH,p_ hk0 (by decide),λu=>(hv u).tps t6⟩;refine⟨_,Y,_,Y,_,Y,_,Y,_,Y,pt,_,_,_,Y,Y,bZ.of Jy,Y,_,Y,pt,_,_,_,Y,Y,bZ.of Jy,Y,_,Y,pr,d,T1,f,s,a,b,hh,S,tl,th,tu,Y,hP.same s6,of,os,hf,hs,SD,qaJ z1,qaJ z2,hbn,Y5,Ww,VP,hSa.trans Y5,hSb.trans Ww,λr H7 s7 hr=>?_⟩;have S7:=s7 _ _ VH;refine⟨_,Y,_,Y,d,_,Y,zZ.k (k:=.inl (hh:Int)) S7 (w_ hk0 (by decide)),?_⟩;have t8:=(pO s7).trans (mV (o:=.dK (putK kvs (.inl (hh:Int)) (.ref r))) S7 (λ_ z=>by cases z));have r8:=mV (o:=.dK (putK kvs (.inl (hh:Int)) (.ref r))) S7 (λ_ z=>by cases z) _ _ hr;have s8:ak H (L2.upd H7 d (.dK (putK kvs (.inl (hh:Int)) (.ref r)))):=ak.at (s6.trans s7) hd;have RO:L2.upd H7 d (.dK (putK kvs (.inl (hh:Int)) (.ref r))) ls=some (.lst (ps'.map V.ref)):=by rw[av (Ne.symm Qz)];exact s7 _ _ VB
     have hd8:L2.upd H7 d (.dK (putK kvs (.inl (hh:Int)) (.ref r))) d=some (.dK (putK kvs (.inl (hh:Int)) (.ref r))):=ai;generalize L2.upd H7 d (.dK (putK kvs (.inl (hh:Int)) (.ref r)))=H8 at t8 r8 s8 RO hd8 ⊢;have pl6:=Paired.len pp6;refine⟨_,Y,.inl ⟨Y,_,bW.of RO⟩,_,Y,pt,_,_,_,Y,Y,bZ.of (t8 _ _ Jy),Y,_,Y,c_,λq1 hq1=>?_⟩;have s9:=ak.upd (o:=.tup [.int (a:Int),.int (hh:Int)]) hq1;have t9:=(pO s9).trans (mV (o:=.lst (ps'.map V.ref++[.ref q1])) (s9 _ _ RO) (λ_ z=>by cases z));have p9:=mV (o:=.lst (ps'.map V.ref++[.ref q1])) (s9 _ _ RO) (λ_ z=>by cases z) q1 _ ai;have lps:ps'.length<=100:=by
      have:=KZ Gf λq hq=>(hin q (qav _ hq)).1;omega
     refine⟨ls,_,_,Y,Y,s9 _ _ RO,by rw[l_];exact w_ lps (by decide),?_⟩;have s9':ak H (L2.upd (L2.upd H8 q1 (.tup [.int (a:Int),.int (hh:Int)])) ls (.lst (ps'.map V.ref++[.ref q1]))):=ak.at (s8.trans s9) VC;have YN:L2.upd (L2.upd H8 q1 (.tup [.int (a:Int),.int (hh:Int)])) ls (.lst (ps'.map V.ref++[.ref q1])) ls=some (.lst (ps'.map V.ref++[.ref q1])):=ai;have hd9:L2.upd (L2.upd H8 q1 (.tup [.int (a:Int),.int (hh:Int)])) ls (.lst (ps'.map V.ref++[.ref q1])) d=some (.dK (putK kvs (.inl (hh:Int)) (.ref r))):=by rw[av Qz];exact s9 _ _ hd8
     generalize L2.upd (L2.upd H8 q1 (.tup [.int (a:Int),.int (hh:Int)])) ls (.lst (ps'.map V.ref++[.ref q1]))=H9 at t9 p9 s9' YN hd9 ⊢;clear s9;refine⟨_,Y,.inl ⟨Y,_,bW.of YN⟩,_,Y,_,Y,pt,_,_,_,Y,Y,bZ.of (t9 _ _ (t8 _ _ Jy)),Y,c_,λq2 hq2=>?_⟩;have Wf:=ak.upd (o:=.tup [.int (hh:Int),.int (b:Int)]) hq2;have t10:=(pO Wf).trans (mV (o:=.lst (ps'.map V.ref++[.ref q1]++[.ref q2])) (Wf _ _ YN) (λ_ z=>by cases z));have p10:=mV (o:=.lst (ps'.map V.ref++[.ref q1]++[.ref q2])) (Wf _ _ YN) (λ_ z=>by cases z) q2 _ ai;have tt:=t8.trans (t9.trans t10)
     have Sh:∀v,(if v=hh then some tu else S v)=none\/(if v=hh then some tu else S v)=(iu T1 f s)[v]? :=λv=>by
      by_cases y:v=hh
      ·right;rw[if_pos y,y,VP]
      ·rw[if_neg y];exact hok v
     have Se:∀v,S v=(iu T1 f s)[v]? ->(if v=hh then some tu else S v)=(iu T1 f s)[v]? :=λv e=>by
      by_cases y:v=hh
      ·rw[if_pos y,y,VP]
      ·rw[if_neg y];exact e
     have Sq:(if hh=hh then some tu else S hh)=(iu T1 f s)[hh]? :=by rw[if_pos rfl,VP]
     have e1:=uF (Gf++[(a,hh)]) (hh,b);have e2:=uF Gf (a,hh);have e3:=uF Gf (a,b);rw[if_neg (R_ z1)]at e2;rw[if_neg (R_ z2)]at e1;rw[if_neg (R_ (qcd z1 z2))]at e3;rw[if_neg (R_ (qcd z1 z2))]at hb';have e1':Gr (Gf++[(a,hh)]++[(hh,b)])=Gr (Gf++[(a,hh)])+(2*(b-hh)-1):=e1;have Za:Gr (Gf++[(a,hh)])=Gr Gf+(2*(hh-a)-1):=e2;have e3':Gr (Gf++[(a,b)])=Gr Gf+(2*(b-a)-1):=e3;have lk:=gE kvs (.inl (hh:Int)) (V.ref r)
     refine⟨ls,_,_,Y,Y,Wf _ _ YN,by rw[G_,l_];exact w_ (qar lps) (by decide),Gr (Gf++[(a,hh)]++[(hh,b)]),by omega,_,_,ps'++[q1]++[q2],Gf++[(a,hh)]++[(hh,b)],putK kvs (.inl (hh:Int)) (.ref r),λv=>if v=hh then some tu else S v,Y,ak.at (s9'.trans Wf) VC,by rw[ai,M_,M_];rfl,(GP.Paired.snoc (GP.Paired.snoc (Paired.ji pp6 λ_ _ z=>tt _ _ z) (t10 _ _ p9)) p10),by rw[av Qz];exact Wf _ _ hd9,Y,by omega,λv=>?_,λq hq=>?_,λv hv'=>?_,Sh⟩
     ·show R8 _ (if v=hh then some tu else S v) _
      rw[rZ];by_cases y:v=hh
      ·subst y;rw[if_pos rfl,if_pos rfl];exact⟨r,Y,t10 _ _ (t9 _ _ r8)⟩
      ·have ny:=Jx y;rw[if_neg y,if_neg ny];exact((hv v).tps t6).tps tt
     ·rcases V_.mp hq with y|y
      ·rcases V_.mp y with y|y
       ·obtain⟨i1,i2,i3,i4⟩:=hin q (qav _ y);exact⟨i1,i2,Se _ i3,Se _ i4⟩
       ·rw[x_.mp y];exact⟨qaJ z1,hhn,Se _ hSa,Sq⟩
      ·rw[x_.mp y];exact⟨qaJ z2,hbn,Sq,Se _ hSb⟩
     ·rcases hall v hv' with q|⟨q,hq,g1,g2⟩
      ·exact .inl (Se _ q)
      ·rcases V_.mp hq with y|y
       ·exact .inr ⟨q,qav _ (qav _ y),g1,g2⟩
       ·rw[x_.mp y]at g1 g2;have g1':a<v:=g1;have g2':v<b:=g2;by_cases k1:v=hh
        ·left
         show(if v=hh then some tu else S v)=_
         rw[if_pos k1,k1,VP]
        ·by_cases k2:v<hh
         ·exact .inr ⟨(a,hh),qav _ (T_ _ z_),g1,k2⟩
         ·exact .inr ⟨(hh,b),T_ _ z_,Nat.lt_of_le_of_ne (qcH k2) (Ne.symm k1),g2⟩
    ·have z1:¬a<hh:=λq=>z (qbV.mpr q)
     refine⟨Gr Gf,by rw[uF];show _<_+(2*(b-a)-1+if a=b then 1 else 0);split<;>omega,_,_,ps',Gf,kvs,S,Y,s6,VB,pp6,VH,Y,by omega,λu=>(hv u).tps t6,λq hq=>hin q (qav _ hq),λu hu=>?_,hok⟩
     rcases hall u hu with q|⟨q,hq,q1,q2⟩
     ·exact .inl q
     ·rcases V_.mp hq with y|y
      ·exact .inr ⟨q,y,q1,q2⟩
      ·rw[x_.mp y]at q1 q2;have q1':a<u:=q1;have q2':u<b:=q2;omega
   ·have hps:ps=[]:=by
     cases ps with
     |nil=>rfl
     |cons x xs=>exact absurd (qbV.mpr (Nat.succ_pos _)) z
    subst hps;have Nk:sp=[]:=qbQ (by rw[←hpl];rfl);subst Nk;refine⟨_,Y,kk d H5 s5 hd ⟨kvs,JC,p_ (p_ (qaF _ _) hb) (by decide),λu=>?_⟩⟩;have eS:S u=(iu T1 f s)[u]? :=by
     by_cases hu:u<=f.cps.size
     ·rcases hall u hu with q|⟨q,hq,_⟩
      ·exact q
      ·exact nomatch hq
     ·rcases hok u with q|q
      ·rw[q,qa_ (by omega)]
      ·exact q
    show R8 H5 ((iu T1 f s)[u]?) _;rw[←eS];exact hv u
theorem yw {gy:U}{fS:F_}{p:Pm}(T:Txt K mg p w base)(dQ:Dn K mg "moves_between" lQ XR gy fS)  :aH P w K mg base bL 1 gy fS XR NU:=by
 refine dQ.fn.jg se (λvs H Q E h=>?_) (λ_ _ _ _ H vs Q E hr h=>?_)
 ·obtain⟨p1,p2,t1,t2,rfl,_⟩:=h;rfl
 ·obtain⟨p1,p2,t1,t2,rfl,hp1,hp2,l1,l2,kk⟩:=h;intro X;refine⟨_,(br (Z9X 2 se.nd (pG (aF bM (aD aJ (pv 1) ah (λ_ _=>rfl)) aS (aG _)) ah ah))
   (ao (aI (aA fh (aA K2 aS (aA nZ (aA nZ (aD aJ (pv 1) ah (λ_ _=>rfl)) (aD aJ (pv 0) ah (λ_ _=>rfl))) (pv 2))) (aD aJ (pv 1) ah (λ_ _=>rfl)))))),?_⟩
  refine⟨λσ H2=>σ=[some (.ref p1),some (.ref p2),some (.int ((if t2.2.2=112 then 1 else 0:Nat):Int))]/\H=H2,?_,?_⟩
  ·refine⟨_,Y,p2,_,_,_,Y,Y,bZ.of hp2,Y,Y,_,Y,?_⟩;rw[VT sP];exact b9 (λz=>⟨by rw[if_pos z];rfl,Y⟩) λz=>⟨by rw[if_neg z];rfl,Y⟩
  rintro σ _ ⟨rfl,rfl⟩
  obtain⟨pd,epd⟩:∃pd:Nat,(if t2.2.2=112 then 1 else 0:Nat)=pd:=⟨_,rfl⟩
  have hpd:pd<=1:=by rw[←epd];split<;>omega
  rw[epd];have b1:(h_ "b").cps.size=1:=by rw[sB];rfl
  refine⟨_,Y,p2,_,_,_,Y,Y,bZ.of hp2,Y,_,Y,p1,_,_,_,Y,Y,bZ.of hp1,Y,_,_,Y,Y,_,Y,_,_,Y,Y,_,_,Y,Y,by omega,by omega,by rw[b1];decide,?_,_,Y,p2,_,_,_,Y,Y,bZ.of hp2,Y,_,_,Y,Y,?_,?_⟩
  ·rw[b1];exact p_ (show _<=10000 by omega) (by decide)
  ·have e:(rJ (h_ "b") ((t2.2.1:Int)-(t1.2.1:Int)-(pd:Int))).length=((t2.2.1:Int)-(t1.2.1:Int)-(pd:Int)).toNat:=by
    show(rJ (h_ "b") _).cps.size=_;rw[←N_,IV,qaZ]
   rw[e];exact p_ (show _+1<=10000 by omega) (by decide)
  ·have e:(rJ (h_ "b") ((t2.2.1:Int)-(t1.2.1:Int)-(pd:Int))++(⟨#[t2.2.2]⟩:v_))=⟨(yp t1 t2).toArray⟩:=by
    refine UG ?_;show((rJ (h_ "b") _).cps++ #[t2.2.2]).toList=yp t1 t2;rw[qch,IV];unfold yp;rw[epd,show((t2.2.1:Int)-(t1.2.1:Int)-(pd:Int)).toNat=t2.2.1-t1.2.1-pd by omega]
   rw[e];exact kk
theorem L6 {sL cT mL gy qB:U}{qt cH kC fS oE:F_}{p:Pm}(T:Txt K mg p w base)(pL:Dn K mg "halved" xC QC sL qt)(bG:Dn K mg "check_rows" j7 RA cT cH)(nR:aH P w K mg base bL 2 cT cH RA (qU K p.aq))(iX:Dn K mg "all_stops" rq QC mL kC)(HY:aH P w K mg base bL 9 mL kC QC (KQ K p.aq))(dQ:Dn K mg "moves_between" lQ XR gy fS)(zV:aH P w K mg base bL 1 gy fS XR NU)(mS:Dn K mg "cost_of" vm XT qB oE)(Nd:aH P w K mg base bL 5 qB oE XT (Ga K p.aq)):aH P w K mg base bL 10 sL qt QC (KH K p.aq):=by
 refine pL.fn.jg vd (λvs H Q E h=>?_) (λ_ _ _ _ H vs Q E hr h=>?_)
 ·obtain⟨pr,T1,f,s,rfl,_⟩:=h;rfl
 ·obtain⟨pr,T1,f,s,rfl,hP,of,os,tK,uo,kk⟩:=h;have lf:f.length<=D_:=p_ tK (by decide);have SI:s.length<=D_:=p_ uo (by decide);intro X;refine⟨_,(aj (cD (gc nR hr bG (aa (pv 0) (aa (ie (aa (pv 1) (aa (pv 2) af))) af))))
   (aj (aB (i:=3) vd.nd rfl (Or.inr rfl) (gc HY hr iX (aa (pv 0) (aa (pv 1) (aa (pv 2) af)))))
   (aj (wF (i:=4) (N:=["used","stops"]) vd.nd rfl (Or.inl rfl) rfl (ee.xU (nt:=1) (ix:=[3]) rfl (by decide +kernel) (by decide +kernel) (by kernel_rfl) rfl (by kernel_rfl)) (j9 rfl T.mU (aa (aC (aQ) rfl T.cB bA (aa (pv 1) af)) af)) (λ_ _ _ _ _ _ _=>(aL (i:=0) (show(["used","stops"]:List v_).Nodup by decide +kernel) rfl (Or.inl rfl))) (λ_ _ _ _ _ _ _=>(gc zV hr dQ (aa (i8 (jH hr) (pv 1) (pv 0) (λ_ _=>rfl)) (aa (i8 (jH hr) (pv 1) (aA bE (pv 0) ah) (λ_ _=>rfl)) af)))))
   (aj (cD (lF PySem.F.plainAttrs_list PySem.F.slot_list_append PySem.F.type_list_append cO (pv 4) (aa (aA K2 aS (aA nZ (aC (aQ) rfl T.cB bA (aa (pv 2) af)) (aD aJ (i8 (jH hr) (pv 3) (aC (aQ) rfl T.cB bA (aa (pv 1) af)) (λ_ _=>rfl)) ah (λ_ _=>rfl)))) af)))
   (aj (Z9X 5 vd.nd (lF PySem.F.plainAttrs_str PySem.F.slot_str_join PySem.F.type_str_join (OJ (K':=K) rfl) aS (aa (pv 4) af)))
   (ao (aI (aW (aa (gc Nd hr mS (aa (pv 0) (aa (pv 1) (aa (pv 2) (aa (aW (aa ah (aa ah af))) (aa (pv 5) af)))))) (aa (aW (aa ah (aa ah af))) (aa (pv 5) af))))))))))),?_⟩
  refine⟨_,Y,_,Y,_,Y,c_,λl hl=>?_⟩;refine⟨pr,l,T1.1,T1.2.1,T1.2.2.1,T1.2.2.2,f,s,Y,hP.same (ak.upd hl),ai,of,os,λH1 s1=>?_⟩;have N6:=(ak.upd (o:=.lst [.str f,.str s]) hl).trans s1;refine⟨_,Y,_,Y,_,Y,pr,T1,f,s,Y,hP.same N6,of,os,tK,uo,λd H2 s2 hd SD=>?_⟩;have fl:=Af T1 f s;have Cb:=N6.trans s2;refine⟨_,Y,_,_,Y,⟨lf,Y⟩,f.cps.size,Y,by omega,by omega,λlc Lg=>?_⟩;refine EJ f.cps.size (λu=>V.str ⟨(yp ((iu T1 f s).getD u kX) ((iu T1 f s).getD (u+1) kX)).toArray⟩) Lg (w_ tK (by decide)) (λi H3 s3 hi=>?_) (λH3 s3=>?_) (λi x H3 H4 R s3 hi y hR=>?_) λH3 s3 hl3=>?_
  ·exact hi
  ·exact j_ f.cps.size
  ·obtain⟨rfl,rfl⟩:=y;refine⟨Kp.LW,?_⟩;obtain⟨t1,ft1⟩:=wL (T:=T1) (s:=s) (qaJ hi);obtain⟨t2,ft2⟩:=wL (T:=T1) (s:=s) hi;have SD3:=SD.same s3;obtain⟨p1,g1,hp1⟩:=SD3.get ft1;obtain⟨p2,g2,hp2⟩:=SD3.get ft2;have e1:(iu T1 f s).getD i kX=t1:=by rw[u_,ft1];rfl
   have e2:(iu T1 f s).getD (i+1) kX=t2:=by rw[u_,ft2];rfl
   have l1:=p_ (JH ft1) uo;have l2:=p_ (JH ft2) uo;have Wq:=hR _ (ak.refl _);rw[e1,e2]at Wq;refine⟨_,Y,_,Y,d,_,Y,by rw[qaW];exact g1,_,Y,_,Y,_,_,Y,Y,d,_,Y,by show rW _ d (V.int ((0:Int)+(i:Int)+1)) _;rw[qaW];exact g2,p1,p2,t1,t2,Y,hp1,hp2,p_ l1 (by decide),p_ l2 (by decide),Wq⟩
  ·obtain⟨tn,RS⟩:=wL (T:=T1) (f:=f) (s:=s) (j_ _);obtain⟨pn,gn,hpn⟩:=(SD.same s3).get RS;have en:(iu T1 f s).getD f.cps.size kX=tn:=by rw[u_,RS];rfl
   have ln:=JH RS;have b1:(h_ "b").cps.size=1:=by rw[sB];rfl
   have lsI:(s.length:Int)=(s.cps.size:Int):=rfl;refine⟨_,Y,.inl ⟨Y,_,bW.of hl3⟩,_,Y,_,_,Y,⟨SI,Y⟩,_,Y,_,Y,_,_,Y,⟨lf,Y⟩,d,_,Y,gn,pn,_,_,_,Y,Y,bZ.of hpn,Y,_,_,Y,Y,_,_,Y,Y,by omega,by omega,by rw[b1];decide,?_,lc,_,_,Y,Y,hl3,?_,?_⟩
   ·rw[b1];exact p_ (show _<=10000 by omega) (by decide)
   ·rw[l_,qax];exact w_ tK (by decide)
   obtain⟨ys,eys⟩:∃ys:List v_,((S_ f.cps.size).map λu=>(⟨(yp ((iu T1 f s).getD u kX) ((iu T1 f s).getD (u+1) kX)).toArray⟩:v_))++[rJ (h_ "b") ((s.length:Int)-(tn.2.1:Int))]=ys:=⟨_,rfl⟩;have efl:(ys.map λy=>y.cps.toList).flatten=(b7 T1 sW f s).moves kX:=by
    rw[Nr,en,←eys,M_,List.flatten_append,qaL,List.map_singleton,List.flatten_singleton,IV];congr 2;omega
   have hml:=Gd.vv (g:=b7 T1 sW f s) kX;have hht:(b7 T1 sW f s).ht kX<=100:=by
    show f.cps.size-0+(s.cps.size-0)<=100;omega
   have ej:qcE (h_ "") ys=⟨((b7 T1 sW f s).moves kX).toArray⟩:=UG ((MB ys).trans efl);have H4e:L2.upd H3 lc (HO.lst (((S_ f.cps.size).map λu=>V.str ⟨(yp ((iu T1 f s).getD u kX) ((iu T1 f s).getD (u+1) kX)).toArray⟩)++[V.str (rJ (h_ "b") ((s.length:Int)-(tn.2.1:Int)))])) lc=some (.lst (ys.map V.str)):=by
    rw[ai,←eys,M_,qaL];rfl
   have s4:=ak.at (o:=HO.lst (((S_ f.cps.size).map λu=>V.str ⟨(yp ((iu T1 f s).getD u kX) ((iu T1 f s).getD (u+1) kX)).toArray⟩)++[V.str (rJ (h_ "b") ((s.length:Int)-(tn.2.1:Int)))])) (Cb.trans s3) (ak.free Cb Lg);show WO _ _ _ _ (L2.upd H3 lc (HO.lst (((S_ f.cps.size).map λu=>V.str ⟨(yp ((iu T1 f s).getD u kX) ((iu T1 f s).getD (u+1) kX)).toArray⟩)++[V.str (rJ (h_ "b") ((s.length:Int)-(tn.2.1:Int)))])));generalize L2.upd H3 lc (HO.lst (((S_ f.cps.size).map λu=>V.str ⟨(yp ((iu T1 f s).getD u kX) ((iu T1 f s).getD (u+1) kX)).toArray⟩)++[V.str (rJ (h_ "b") ((s.length:Int)-(tn.2.1:Int)))]))=H4 at H4e s4 ⊢;refine⟨Y,_,Y,_,lc,ys,Y,Y,.inl (bW.of H4e),by decide,λz hz=>?_,?_,?_⟩
   ·have z1:=(List.sublist_flatten_of_mem (U_.mpr ⟨z,hz,rfl⟩:z.cps.toList∈ys.map λy=>y.cps.toList)).length_le;rw[efl,N_]at z1;show z.cps.size<=2000;omega
   ·rw[←eys,G_,l_,qax];exact p_ (qar tK) (by decide)
   rw[ej];obtain⟨W,ec⟩:=LH (T:=T1) tK uo;refine⟨_,Y,_,Y,_,Y,c_,λb0 hb0=>⟨_,Y,?_⟩⟩;have s5:=ak.upd (o:=.tup [.int 0,.int 0]) hb0;refine⟨pr,T1.1,T1.2.1,T1.2.2.1,T1.2.2.2,f,s,b0,(0,0),_,Y,(hP.same s4).same s5,of,os,bZ.of ai,W,λc H6 s6 hc=>⟨c_,λpl hpl=>⟨_,Y,d_,λr hr=>?_⟩⟩⟩;have s7:=ak.upd (o:=.tup [.int 0,.int 0]) hpl;have s8:=ak.upd (o:=.tup [.ref c,.ref pl,.str ⟨((b7 T1 sW f s).moves kX).toArray⟩]) hr;refine kk r _ (s4.trans (s5.trans (s6.trans (s7.trans s8)))) ⟨(0,0),c,pl,JU _ _,ai,?_,s8 _ _ ai⟩;have hc':=(hc.same s7).same s8;rw[K_,ec]at hc';exact hc'
end
section
variable{P:r_}{w:I_}{K:PySem.W.Frag}{mg:v_->Option k_}{base:W_}
theorem Gy {bP:U}{bD:F_}{p:Pm}(T:Txt K mg p w base)(aT:Dn K mg "_law_next" i6 l6 bP bD)  :aH P w K mg base bL 1 bP bD l6 (wu K):=by
 refine aT.fn.jg uA (λvs H Q E h=>?_) (λ_ _ _ _ H vs Q E hr h=>?_)
 ·obtain⟨s,t,ns,k,rfl,_⟩:=h;rfl
 ·obtain⟨s,t,ns,k,rfl,hC,hk2,kk⟩:=h;have ht:=hC.at_;have hk:=hC.k0;intro X;refine⟨_,(aj (wG (aA bE (aD bK (pv 1) ah (λ_ _=>rfl)) ah) (Ed (pv 1) ah set_list))
   (br (Z9X 2 uA.nd (pG (aF vN (aC (aQ) rfl T.cB bA (aa (pv 0) af)) ah (aG _)) (aD bK (pv 0) (aA bV (aD bK (pv 1) ah (λ_ _=>rfl)) (aC (aQ) rfl T.cB bA (aa (pv 0) af))) (λ_ _=>rfl)) ah))
   (aj (Z9X 3 uA.nd (aA bV (aA nB (aA bE (aA bE (aA bV (pv 2) ah) (aA nB (aA nB (aD bK (pv 1) ah (λ_ _=>rfl)) (aD bK (pv 1) ah (λ_ _=>rfl))) ah)) ah) ah) ah))
   (ao (aI (aA bV (aA nB (pv 3) (pv 3)) ah)))))),?_⟩
  refine⟨_,Y,t,_,_,_,Y,Y,bW.of ht,Y,_,_,Y,Y,_,Y,t,_,_,0,Y,Y,ht,Y,?_⟩;have hq:bW K (upd H t (.lst [.int (k+1)])) s (ns.map V.int):=hC.Xg _;have YX:bW K (upd H t (.lst [.int (k+1)])) t [.int (k+1)]:=bW.of ai;have rest:∀c:Int,∀m1:Int,m1=(c % 2147483647+(k+1)*(k+1)*7919+11)*48271 % 2147483647->Q (.int (m1*m1 % 1999999973)) (upd H t (.lst [.int (k+1)])):=λc m1 _ =>
   kk _ (qao _ (by decide)) (qan _ (by decide))
  refine⟨λσ H2=>H2=upd H t (.lst [.int (k+1)])/\∃c:Int,σ=[some (.ref s),some (.ref t),some (.int c),none],?_,?_⟩
  ·refine⟨_,Y,_,_,Y,.inl ⟨_,hq,Y⟩,_,_,Y,Y,_,Y,?_⟩;refine b9 (λh0=>?_) (λh0=>?_)
   ·have hn:0<ns.length:=by rw[l_]at h0;omega
    have i1:=qao (k+1) (show((ns.length:Nat):Int)≠0 by omega);have i2:=qan (k+1) (show(0:Int)<((ns.length:Nat):Int) by omega);obtain⟨j,hj⟩:∃j:Nat,(k+1) % ((ns.length:Nat):Int)=(j:Int):=⟨_,(qau i1).symm⟩;have hjl:j<ns.length:=by omega
    refine⟨_,Y,_,Y,t,_,_,_,Y,Y,YX,Y,_,Y,_,_,Y,.inl ⟨_,hq,Y⟩,_,_,Y,Y,(by show(0:Int)<(((ns.map V.int).length:Nat):Int);rw[l_];omega),?_⟩;refine⟨s,_,_,.int ns[j],Y,Y,hq,?_,Y,_,Y⟩;rw[l_,hj];exact dY (by rw[O_,g_ hjl];rfl)
   ·exact⟨Y,_,Y⟩
  ·rintro σ H2 ⟨rfl,c,rfl⟩;refine⟨_,Y,_,_,Y,Y,(by show(0:Int)<_;decide),?_⟩;refine⟨_,Y,t,_,_,_,Y,Y,YX,Y,_,Y,t,_,_,_,Y,Y,YX,Y,_,_,Y,Y,.inl ⟨by omega,by omega⟩,_,_,Y,Y,.inr ⟨by decide,by decide⟩,_,_,Y,Y,_,_,Y,Y,_,_,Y,Y,.inr ⟨by decide,by decide⟩,_,_,Y,Y,(by show(0:Int)<_;decide),?_⟩;have m0:=qao ((c % 2147483647+(k+1)*(k+1)*7919+11)*48271) (show(2147483647:Int)≠0 by decide);have m1:=qan ((c % 2147483647+(k+1)*(k+1)*7919+11)*48271) (show(0:Int)<2147483647 by decide);exact⟨_,Y,_,Y,_,_,Y,Y,.inl ⟨by omega,by omega⟩,_,_,Y,Y,(by show(0:Int)<_;decide),rest c _ Y⟩
theorem Ew {mJ bP:U}{ku bD:F_}{p:Pm}(T:Txt K mg p w base)(iV:Dn K mg "_law_great" rj l6 mJ ku)(aT:Dn K mg "_law_next" i6 l6 bP bD)(gg:aH P w K mg base bL 1 bP bD l6 (wu K)):aH P w K mg base bL 2 mJ ku l6 (KI K):=by
 refine iV.fn.jg sS (λvs H Q E h=>?_) (λ_ _ _ _ H vs Q E hr h=>?_)
 ·obtain⟨s,t,ns,k,rfl,_⟩:=h;rfl
 ·obtain⟨s,t,ns,k,rfl,hC,hk2,kk⟩:=h;have hk:=hC.k0;intro X;refine⟨_,(aj (Z9X 2 sS.nd (gc gg hr aT (aa (pv 0) (aa (pv 1) af))))
   (br (Z9X 3 sS.nd (pG (aF vN (aC (aQ) rfl T.cB bA (aa (pv 0) af)) ah (aG _)) (aD bK (pv 0) (aA bV (aD bK (pv 1) ah (λ_ _=>rfl)) (aC (aQ) rfl T.cB bA (aa (pv 0) af))) (λ_ _=>rfl)) ah))
   (ao (aI (aA nZ (aA bV (aA bE (aA bV (pv 3) (aA Ei ah ah)) (aA nB (pv 2) (aA Ei ah ah))) (aA nB ah (aA Ei ah ah))) (aA Ei ah ah)))))),?_⟩
  refine⟨_,Y,_,Y,s,t,ns,k,Y,hC,hk2,λm hm hm2=>?_⟩;have hq:bW K (upd H t (.lst [.int (k+1)])) s (ns.map V.int):=hC.Xg _;have YX:bW K (upd H t (.lst [.int (k+1)])) t [.int (k+1)]:=bW.of ai;refine⟨λσ H2=>H2=upd H t (.lst [.int (k+1)])/\∃c:Int,σ=[some (.ref s),some (.ref t),some (.int m),some (.int c)],?_,?_⟩
  ·refine⟨_,Y,_,_,Y,.inl ⟨_,hq,Y⟩,_,_,Y,Y,_,Y,?_⟩;refine b9 (λh0=>?_) (λh0=>?_)
   ·have hn:0<ns.length:=by rw[l_]at h0;omega
    have i1:=qao (k+1) (show((ns.length:Nat):Int)≠0 by omega);have i2:=qan (k+1) (show(0:Int)<((ns.length:Nat):Int) by omega);obtain⟨j,hj⟩:∃j:Nat,(k+1) % ((ns.length:Nat):Int)=(j:Int):=⟨_,(qau i1).symm⟩;have hjl:j<ns.length:=by omega
    refine⟨_,Y,_,Y,t,_,_,_,Y,Y,YX,Y,_,Y,_,_,Y,.inl ⟨_,hq,Y⟩,_,_,Y,Y,(by show(0:Int)<(((ns.map V.int).length:Nat):Int);rw[l_];omega),?_⟩;refine⟨s,_,_,.int ns[j],Y,Y,hq,?_,Y,_,Y⟩;rw[l_,hj];exact dY (by rw[O_,g_ hjl];rfl)
   ·exact⟨Y,_,Y⟩
  ·rintro σ H2 ⟨rfl,c,rfl⟩;have p39:(0:Int)<(10:Int) ^ (39:Int).toNat:=by decide +kernel
   refine⟨_,Y,_,_,Y,Y,⟨by decide,by decide,by decide⟩,_,_,Y,Y,p39,_,Y,_,_,Y,Y,⟨by decide,by decide,by decide⟩,_,_,Y,Y,.inl ⟨by omega,by omega⟩,_,_,Y,Y,?_⟩;have p2:(0:Int)<2*(10:Int) ^ (39:Int).toNat:=by omega
   refine⟨_,_,Y,Y,⟨by decide,by decide,by decide⟩,_,_,Y,Y,.inl ⟨by decide,by decide⟩,_,_,Y,Y,p2,_,_,Y,Y,⟨by decide,by decide,by decide⟩,_,_,Y,Y,?_⟩;have m0:=qao (c % (10:Int) ^ (39:Int).toNat+m*(10:Int) ^ (28:Int).toNat) (Int.ne_of_gt p2);have m1:=qan (c % (10:Int) ^ (39:Int).toNat+m*(10:Int) ^ (28:Int).toNat) p2;have e39:(10:Int) ^ (39:Int).toNat=10 ^ 39:=rfl;refine kk _ ?_ ?_
   ·rw[←e39];omega
   ·rw[←e39];omega
theorem Es {mG bP:U}{kj bD:F_}{p:Pm}(T:Txt K mg p w base)(iU:Dn K mg "_law_signs" q8 QB mG kj)(aT:Dn K mg "_law_next" i6 l6 bP bD)(gg:aH P w K mg base bL 1 bP bD l6 (wu K)):aH P w K mg base bL 2 mG kj QB (F3 K):=by
 refine iU.fn.jg mZ (λvs H Q E h=>?_) (λ_ _ _ _ H vs Q E hr h=>?_)
 ·obtain⟨s,t,ns,k,n,rfl,_⟩:=h;rfl
 ·obtain⟨s,t,ns,k,n,rfl,hC,hk,hn1,hn,kk⟩:=h;intro X;refine⟨_,(aj (aB (i:=3) mZ.nd Y (Or.inr Y) aS)
   (aj (aB (i:=3) mZ.nd rfl (Or.inr rfl) (aA fh (pv 3) aS))
   (aj (aB (i:=4) mZ.nd rfl (Or.inr rfl) (gc gg hr aT (aa (pv 0) (aa (pv 1) af))))
   (aj (aB (i:=5) mZ.nd rfl (Or.inr rfl) (aD bK (ie (aa ah (aa ah (aa ah (aa ah (aa ah (aa ah af))))))) (aA bV (pv 4) ah) (λ_ _=>rfl)))
   (ao (aI (lF PySem.F.plainAttrs_str PySem.F.slot_str_join PySem.F.type_str_join K5 aS (aa (tG (N:=l62) rfl (ee.xU (nt:=1) (ix:=[3,4,5]) rfl (by decide +kernel) (by decide +kernel) (by kernel_rfl) rfl (by kernel_rfl)) (j9 rfl T.mU (aa (pv 2) af)) (λ_ _ _ _ _ _ _=>(aL (i:=0) (show(l62:List v_).Nodup by decide +kernel) rfl (Or.inl rfl))) (λ_ _ _ _ _ _ _=>(aD kZ (pv 1) (aA bV (aA bE (aA c6 (pv 2) ah) (aA nB (pv 0) (pv 3))) (aC (EM) rfl T.cB bA (aa (pv 1) af))) (λ_ _=>rfl)))) af)))))))),?_⟩
  refine⟨_,Y,_,_,Y,Y,(by decide +kernel),?_⟩;obtain⟨S,hS⟩:∃S:v_,S=h_ " !#$&'()*+,./0123456789:;<=>?@ABCDEFGHIJKLMNOPQRSTUVWXYZ" ++h_ "[\\]^_`abcdefghijklmnopqrstuvwxyz{|}~" :=⟨_,rfl⟩;have hS1:S.cps.size=92:=by rw[hS];kernel_rfl
  have hS2:S.cps.all tH=true:=by rw[hS];kernel_rfl
  have hS3:S.cps.toList.Nodup:=Bo (by rw[hS];kernel_rfl);rw[←hS];refine⟨_,Y,_,Y,s,t,ns,k,Y,hC,hk,λm hm hm2=>?_⟩;refine⟨by show 6<=D_;decide,λq hq=>?_⟩;have s1:ak (upd H t (.lst [.int (k+1)])) (upd (upd H t (.lst [.int (k+1)])) q (.lst [.int 1,.int 3,.int 5,.int 7,.int 9,.int 11])):=ak.upd hq;have hq1:upd (upd H t (.lst [.int (k+1)])) q (.lst [.int 1,.int 3,.int 5,.int 7,.int 9,.int 11]) q=some (.lst [.int 1,.int 3,.int 5,.int 7,.int 9,.int 11]):=ai;generalize upd (upd H t (.lst [.int (k+1)])) q (.lst [.int 1,.int 3,.int 5,.int 7,.int 9,.int 11])=H1 at s1 hq1 ⊢;obtain⟨tv,hmt,hat⟩:=Hy [1,3,5,7,9,11] m (by decide);obtain⟨htv,ht1,YE⟩:=(by decide:∀c∈[(1:Int),3,5,7,9,11],(c=1\/c=3\/c=5\/c=7\/c=9\/c=11)/\0<=c/\c<=11) tv hmt;refine⟨_,Y,_,_,Y,Y,(by show(0:Int)<6;decide),?_⟩;refine⟨q,_,_,.int tv,Y,Y,bW.of hq1,hat,?_⟩;refine⟨Y,_,Y,n,Y,by omega,by omega,λl hl=>?_⟩;refine EJ n (λi=>sg (S.cps.toList.getD ((m / 6+(i:Int)*tv) % 92).toNat 0)) hl (w_ hn (by decide)) (λi H2 s2 hi=>?_) (λH2 s2=>?_) (λi x H2 H3 R s2 hi y hR=>?_) λH2 s2 hl2=>?_
  ·show i<((n:Nat):Int).toNat;omega
  ·show((n:Nat):Int).toNat<=n;omega
  ·obtain⟨rfl,rfl⟩:=y;refine⟨Kp.LW,?_⟩;have i1:=qao (m / 6+(i:Int)*tv) (show(92:Int)≠0 by decide);have i2:=qan (m / 6+(i:Int)*tv) (show(0:Int)<92 by decide);obtain⟨j,hj⟩:∃j:Nat,(m / 6+(i:Int)*tv) % 92=(j:Int):=⟨_,(qau i1).symm⟩;have hjl:j<S.cps.toList.length:=by rw[N_];omega
   refine⟨_,Y,_,Y,_,_,Y,Y,⟨by decide,by decide⟩,_,Y,_,Y,_,_,Y,Y,.inl ⟨by omega,by omega⟩,_,_,Y,Y,_,Y,S,Y,(by show S.cps.size<=_;rw[hS1];decide),_,_,Y,Y,(by show(0:Int)<(S.cps.size:Int);omega),?_⟩;have eS:((S.length:Nat):Int)=92:=by show((S.cps.size:Nat):Int)=92;omega
   refine⟨S,_,S.cps.toList[j],Y,Y,(by show S.cps.size<=_;rw[hS1];decide),(by rw[qaW,eS,hj];exact dY (g_ hjl)),?_⟩;have e:S.cps.toList[j]=S.cps.toList.getD ((m / 6+(i:Int)*tv) % 92).toNat 0:=by
    rw[hj,qaw,o9 (g_ hjl)]
   rw[e];exact hR _ (ak.refl _)
  ·refine⟨l,(S_ n).map (λi:Nat=>S.cps.toList.getD ((m / 6+(i:Int)*tv) % 92).toNat 0),Y,Y,?_,?_,kk _ H2 ⟨?_,?_,λc hc=>?_,Jk hS3 n (λi _=>?_) λi j hij hj=>QM htv hij (by omega)⟩ ?_ (s1.trans s2)⟩
   ·rw[qaL];exact bW.of hl2
   ·rw[l_,qax];omega
   ·show 0<((S_ n).map _).length;rw[l_,qax];omega
   ·show((S_ n).map _).length<=100;rw[l_,qax];omega
   ·obtain⟨i,hi,rfl⟩:=U_.mp (show c∈(S_ n).map _ from hc);have i1:=qao (m / 6+(i:Int)*tv) (show(92:Int)≠0 by decide);have i2:=qan (m / 6+(i:Int)*tv) (show(0:Int)<92 by decide);obtain⟨j,hj⟩:∃j:Nat,(m / 6+(i:Int)*tv) % 92=(j:Int):=⟨_,(qau i1).symm⟩;have hjl:j<S.cps.toList.length:=by rw[N_];omega
    rw[hj,qaw,o9 (g_ hjl)];exact Array.all_eq_true_iff_forall_mem.mp hS2 _ (Array.mem_toList_iff.mp (qaH hjl))
   ·have i1:=qao (m / 6+(i:Int)*tv) (show(92:Int)≠0 by decide);have i2:=qan (m / 6+(i:Int)*tv) (show(0:Int)<92 by decide);rw[N_];omega
   ·show((S_ n).map _).length=n;rw[l_,qax]
theorem Et {mH bP mJ:U}{ko bD ku:F_}{p:Pm}(T:Txt K mg p w base)(cN:Dn K mg "_law_price" q9 XQ mH ko)(aT:Dn K mg "_law_next" i6 l6 bP bD)(gg:aH P w K mg base bL 1 bP bD l6 (wu K))(iV:Dn K mg "_law_great" rj l6 mJ ku)(HW:aH P w K mg base bL 2 mJ ku l6 (KI K)):aH P w K mg base bL 3 mH ko XQ (F5 K):=by
 refine cN.fn.jg xx (λvs H Q E h=>?_) (λ_ _ _ _ H vs Q E hr h=>?_)
 ·obtain⟨s,t,ns,k,c,rfl,_⟩:=h;rfl
 ·obtain⟨s,t,ns,k,c,rfl,hC,hk2,kk⟩:=h;have hk:=hC.k0;intro X;refine⟨_,(aj (Z9X 3 xx.nd (gc gg hr aT (aa (pv 0) (aa (pv 1) af))))
   (aj (bH (aF bM (pv 2) ah (aG _)) (ao (aI (aW (aa (aA nZ (aA bV (pv 3) ah) ah) (aa ah af))))) aP)
   (aj (bH (aF bM (pv 2) ah (aG _)) (ao (aI (aW (aa (aA nZ (aA bV (pv 3) ah) ah) (aa (aA bE ah (aA bV (aA c6 (pv 3) ah) ah)) af))))) aP)
   (aj (bH (aF bM (pv 2) ah (aG _)) (ao (aI (aW (aa (aA nZ (aA bV (pv 3) ah) ah) (aa ah af))))) aP)
   (ao (aI (aW (aa (gc HW hr iV (aa (pv 0) (aa (pv 1) af))) (aa (aA bE ah (aA bV (aA c6 (pv 3) ah) ah)) af))))))))),?_⟩
  refine⟨_,Y,_,Y,s,t,ns,k,Y,hC,by omega,λm hm hm2=>?_⟩;have ht:upd H t (.lst [.int (k+1)]) t=some (.lst [.int (k+1)]):=ai;have last:∀(f:cJ) (r:U),V9 f->upd H t (.lst [.int (k+1)]) r=none->Q (.ref r) (upd (upd H t (.lst [.int (k+1)])) r (.tup [.int f.1,.int f.2])):=λf r hf hr=>by
   have nr:r≠t:=λz=>by rw[z,ht]at hr;cases hr
   exact kk f r _ (k+1) hf (Wo.step (ak.upd hr)) (by rw[av (Ne.symm nr)];exact ht) (by omega) (by omega) (Ao hr) ai
  refine⟨_,Y,Y,_,Y,jQ (λh0=>?_) λh0=>?_⟩
  ·exact⟨_,Y,_,_,Y,Y,(by show(0:Int)<_;decide),_,_,Y,Y,c_,λr hr=>last (m % 7-1,1) r ⟨by show(1:Int)<=1;omega,by show(1:Int)<=999;omega,by show _<=m % 7-1;omega,by show m % 7-1<=_;omega⟩ hr⟩
  refine⟨_,Y,Y,_,Y,jQ (λh1=>?_) λh1=>?_⟩
  ·exact⟨_,Y,_,_,Y,Y,(by show(0:Int)<_;decide),_,_,Y,Y,_,Y,_,_,Y,Y,⟨by decide,by decide⟩,_,_,Y,Y,(by show(0:Int)<_;decide),_,_,Y,Y,c_,λr hr=>last (m % 13-4,1+m / 13 % 4) r ⟨by show 1<=1+m / 13 % 4;omega,by show 1+m / 13 % 4<=999;omega,by show _<=m % 13-4;omega,by show m % 13-4<=_;omega⟩ hr⟩
  refine⟨_,Y,Y,_,Y,jQ (λh2=>?_) λh2=>?_⟩
  ·exact⟨_,Y,_,_,Y,Y,(by show(0:Int)<_;decide),_,_,Y,Y,c_,λr hr=>last (m % 9-6,1) r ⟨by show(1:Int)<=1;omega,by show(1:Int)<=999;omega,by show _<=m % 9-6;omega,by show m % 9-6<=_;omega⟩ hr⟩
  refine⟨_,Y,_,Y,s,t,ns,k+1,Y,hC.step (by omega),by omega,λg g1 g2=>?_⟩;refine⟨_,Y,_,_,Y,Y,⟨by decide,by decide⟩,_,_,Y,Y,(by show(0:Int)<_;decide),_,_,Y,Y,c_,λr hr=>?_⟩;have YE:upd (upd H t (.lst [.int (k+1)])) t (.lst [.int (k+1+1)]) t=some (.lst [.int (k+1+1)]):=ai;have nr:r≠t:=λz=>by rw[z,YE]at hr;cases hr
  refine kk (g,1+m / 13 % 999) r _ (k+1+1) ⟨by show 1<=1+m / 13 % 999;omega,by show 1+m / 13 % 999<=999;omega,g1,g2⟩ ?_ (by rw[av (Ne.symm nr)];exact YE) (by omega) (by omega) (Ao (Ao hr)) ai;have e:=Wo.step (H:=upd H t (.lst [.int (k+1)])) (ak.upd (o:=.tup [.int g,.int (1+m / 13 % 999)]) hr);rw[Wo.set]at e;exact e
end
section
variable{P:r_}{w:I_}{K:PySem.W.Frag}{mg:v_->Option k_}{base:W_}
theorem Er {mF bP mG mH:U}{ki bD kj ko:F_}{p:Pm}(T:Txt K mg p w base)(iT:Dn K mg "_law_table" qZ QB mF ki)(aT:Dn K mg "_law_next" i6 l6 bP bD)(gg:aH P w K mg base bL 1 bP bD l6 (wu K))(iU:Dn K mg "_law_signs" q8 QB mG kj)(HV:aH P w K mg base bL 2 mG kj QB (F3 K))(cN:Dn K mg "_law_price" q9 XQ mH ko)(uX:aH P w K mg base bL 3 mH ko XQ (F5 K)):aH P w K mg base bL 4 mF ki QB (Kz K):=by
 refine iT.fn.jg fD (λvs H Q E h=>?_) (λ_ _ _ _ H vs Q E hr h=>?_)
 ·obtain⟨s,t,ns,k,n,rfl,_⟩:=h;rfl
 ·obtain⟨s,t,ns,k,n,rfl,hC,hk,hn1,hn6,kk⟩:=h;have hk0:=hC.k0;intro X;refine⟨_,(aj (Z9X 3 fD.nd (gc gg hr aT (aa (pv 0) (aa (pv 1) af))))
   (br (aB (i:=4) fD.nd rfl (Or.inr rfl) (aD bK (ie (aa ah (aa ah (aa ah (aa ah (aa ah (aa ah (aa ah (aa ah af))))))))) (aA bV (pv 3) ah) (λ_ _=>rfl)))
   (br (Z9X 5 fD.nd (gc HV hr iU (aa (pv 0) (aa (pv 1) (aa (pv 2) af)))))
   (br (wF (i:=6) (N:=l63) fD.nd rfl (Or.inl rfl) rfl (ee.xU (nt:=1) (ix:=[0,1,2,4]) rfl (by decide +kernel) (by decide +kernel) (by kernel_rfl) rfl (by kernel_rfl)) (j9 rfl T.mU (aa (pv 2) af)) (λ_ _ _ _ _ _ _=>(aL (i:=0) (show(l63:List v_).Nodup by decide +kernel) rfl (Or.inl rfl))) (λ_ _ _ _ _ _ _=>(tG (N:=l64) rfl (ee.xU (nt:=1) (ix:=[1,2,4]) rfl (by decide +kernel) (by decide +kernel) (by kernel_rfl) rfl (by kernel_rfl)) (j9 rfl T.mU (aa (pv 3) af)) (λ_ _ _ _ _ _ _=>(aL (i:=0) (show(l64:List v_).Nodup by decide +kernel) rfl (Or.inl rfl))) (λ_ _ _ _ _ _ _=>(gc uX hr cN (aa (pv 1) (aa (pv 2) (aa (pv 3) af))))))))
   (br (cV P_ rfl (j9 rfl T.mU (aa (pv 2) af)) (Z9Y 7 fD.nd) (br (bH (aF vN (aA bV (aA c6 (pv 3) ah) ah) ah (aG _)) (ao (wG (aW (aa (aA nZ (aD aJ (aD bK (aD bK (pv 6) (pv 7) (λ_ _=>rfl)) (pv 7) (λ_ _=>rfl)) ah (λ_ _=>rfl)) ah) (aa (aD aJ (aD bK (aD bK (pv 6) (pv 7) (λ_ _=>rfl)) (pv 7) (λ_ _=>rfl)) ah (λ_ _=>rfl)) af))) (Ed (aD bK (pv 6) (pv 7) (λ_ _=>rfl)) (pv 7) set_list))) aP)
   (ao (cV P_ rfl (j9 rfl T.mU (aa (pv 7) af)) (Z9Y 8 fD.nd) (ao (bH (aF bM (aA bV (aA c6 (pv 3) ah) ah) ah (aG _)) (ao (wG (aD bK (aD bK (pv 6) (pv 8) (λ_ _=>rfl)) (pv 7) (λ_ _=>rfl)) (Ed (aD bK (pv 6) (pv 7) (λ_ _=>rfl)) (pv 8) set_list))) aP))))))
   (br (Z9X 9 fD.nd (pG (aF vN (aA bV (aA c6 (pv 3) ah) ah) ah (aG _)) (aW (aa (aA bV (aA c6 (pv 3) ah) ah) (aa ah af))) (gc uX hr cN (aa (pv 0) (aa (pv 1) (aa (pv 4) af))))))
   (br (Z9X 10 fD.nd (pG (aF vN (aA bV (aA c6 (pv 3) ah) ah) ah (aG _)) (aW (aa (aA bV (aA c6 (pv 3) ah) ah) (aa ah af))) (gc uX hr cN (aa (pv 0) (aa (pv 1) (aa (pv 4) af))))))
   (ao (aI (aW (aa (pv 5) (aa (pv 6) (aa (pv 9) (aa (pv 10) af)))))))))))))),?_⟩
  refine⟨_,Y,_,Y,s,t,ns,k,Y,hC,by omega,λm hm hm2=>?_⟩;have w1:ak (Wo t H) (Wo t (upd H t (.lst [.int (k+1)]))):=by rw[Wo.set];exact ak.refl _
  have ht1:upd H t (.lst [.int (k+1)]) t=some (.lst [.int (k+1)]):=ai;have C1:=hC.step (k':=k+1) (by omega);generalize upd H t (.lst [.int (k+1)])=H1 at w1 ht1 C1 ⊢;refine⟨λσ H2=>∃c:Int,σ=[some (.ref s),some (.ref t),some (.int n),some (.int m),some (.int c),none,none,none,none,none,none]/\ak H1 H2,?_,?_⟩
  ·refine⟨by show 8<=D_;decide,λq hq=>⟨_,Y,_,_,Y,Y,(by show(0:Int)<8;decide),?_⟩⟩;obtain⟨c,_,hc⟩:=Hy [0,1,2,0,3,2,0,1] m (by decide);exact⟨q,_,_,.int c,Y,Y,bW.of ai,hc,c,Y,ak.upd hq⟩
  rintro σ H2 ⟨c,rfl,s2⟩;refine⟨λσ H3=>∃sg,DK sg/\sg.cps.size=n/\σ=[some (.ref s),some (.ref t),some (.int n),some (.int m),some (.int c),some (.str sg),none,none,none,none,none]/\ak (Wo t H) (Wo t H3)/\H3 t=some (.lst [.int (k+1+1)]),?_,?_⟩
  ·refine⟨_,Y,_,Y,_,Y,s,t,ns,k+1,n,Y,C1.same s2,by omega,hn1,hn6,λsg H3 hsg hz s3=>⟨sg,hsg,hz,Y,w1.trans ((Wo.same s2).trans (Wo.step s3)),s3 _ _ ai⟩⟩
  rintro σ H3 ⟨sg,hsg,hz,rfl,w3,ht3⟩;refine⟨λσ H4=>dP λl k1=>σ=[some (.ref s),some (.ref t),some (.int n),some (.int m),some (.int c),some (.str sg),some (.ref l),none,none,none,none]/\BQ K H t l n 0 k1 H4/\H l=none/\k<=k1/\k1<=k+100,?_,?_⟩
  ·refine⟨_,Y,n,Y,by omega,by omega,λl hl=>?_⟩;have UY:l≠t:=λz=>by rw[z,ht3]at hl;cases hl
   have hlH:H l=none:=Wo.back w3 ht3 hl;refine⟨λi m' ys H4=>m'=n-i/\i<=n/\nN λrs rows k1=>ys=rs.map V.ref/\rs.length=i/\yb K (Wo t H4) l rs rows/\(∀r∈rows,r.length=n)/\(∀r∈rows,∀f∈r,V9 f)/\(∀r∈rs,H r=none)/\ak (Wo t H3) (Wo t H4)/\H4 t=some (.lst [.int k1])/\k+2<=k1/\k1<=k+2+12*(i:Int),
    ⟨n,rfl,Q_ _,[],[],_,rfl,rfl,?_,(λr hr=>by cases hr),(λr hr=>by cases hr),(λr hr=>by cases hr),?_,(by rw[av UY.symm];exact ht3),by omega,by omega⟩,?_⟩
   ·rw[Wo.av UY];exact⟨Y,ai,qbg,(by simp),λi r row h1=>by simp at h1⟩
   ·rw[Wo.av UY];exact ak.upd (Wo.free hl)
   rintro i m' ys H4 ⟨rfl,hi,rs,rows,k1,rfl,hrs,LM,r1,r2,r3,s4,Z9,k11,k12⟩;have w4:=w3.trans s4;by_cases hlt:i<n
   ·refine .inr ⟨(by show i<((n:Nat):Int).toNat;omega),?_⟩;rintro x H5 ⟨rfl,rfl⟩;refine⟨Kp.LW,?_⟩;refine⟨_,Y,n,Y,by omega,by omega,λl2 hl2=>?_⟩;have Jl:l2≠t:=λz=>by rw[z,Z9]at hl2;cases hl2
    have adp:H l2=none:=Wo.back w4 Z9 hl2;refine⟨λj m' ys H6=>m'=n-j/\j<=n/\H6 l2=some (.lst ys)/\nN λps row k2=>ys=ps.map V.ref/\ps.length=j/\Paired (k8 K (Wo t H6)) ps row/\(∀f∈row,V9 f)/\ak (Wo t H5) (Wo t H6)/\H6 t=some (.lst [.int k2])/\k1<=k2/\k2<=k1+2*(j:Int),
     ⟨n,rfl,Q_ _,ai,[],[],k1,rfl,rfl,.nil,(λf hf=>by cases hf),?_,(by rw[av Jl.symm];exact Z9),by omega,by omega⟩,?_⟩
    ·rw[Wo.av Jl];exact ak.upd (Wo.free hl2)
    rintro j m' ys H6 ⟨rfl,hj,YO,ps,row,k2,rfl,hps,hP,ok,s6,RL,k21,k22⟩;by_cases hjt:j<n
    ·refine .inr ⟨(by show j<((n:Nat):Int).toNat;omega),?_⟩;rintro x H7 ⟨rfl,rfl⟩;refine⟨Kp.LW,?_⟩;refine⟨_,Y,_,Y,_,Y,s,t,ns,k2,c,Y,hC.off (w4.trans s6) RL (by omega),by omega,λf q H8 k3 Qy w8 ht8 Yo Yn hqn hq8=>?_⟩;have nq:q≠t:=uc hq8 ht8 (by intro z;cases z);have RO:Wo t H8 l2=some (.lst (ps.map V.ref)):=w8 _ _ (Wo.in Jl YO);refine⟨Wo.sub _ _ RO,?_,n-(j+1),by omega,Y,hjt,ai,ps++[q],row++[f],k3,by rw[M_];rfl,by rw[G_,hps];rfl,?_,?_,?_,by rw[av Jl.symm];exact ht8,by omega,by omega⟩
     ·rw[l_,hps];exact H_ (show j<100 by omega) (by decide)
     ·rw[Wo.av Jl];refine GP.Paired.snoc (Paired.ji hP λa b z=>bZ.off RO (z.same w8)) ?_;exact bZ.off RO (bZ.of (Wo.in nq hq8))
     ·intro g hg;rcases V_.mp hg with hg|hg
      ·exact ok g hg
      ·rw[x_.mp hg];exact Qy
     ·rw[Wo.av Jl];exact ak.at (s6.trans w8) (Wo.free hl2)
    ·have ej:j=n:=by omega
     refine .inl ⟨(by show((n:Nat):Int).toNat<=j;omega),?_⟩;have hlo:Wo t H6 l=some (.lst (rs.map V.ref)):=s6 _ _ LM.at_;refine⟨Wo.sub _ _ hlo,?_,n-(i+1),by omega,Y,hlt,rs++[l2],rows++[row],k2,by rw[M_];rfl,by rw[G_,hrs];rfl,?_,?_,?_,?_,?_,by rw[av UY.symm];exact RL,by omega,by omega⟩
     ·rw[l_,hrs];exact H_ (show i<100 by omega) (by decide)
     ·rw[Wo.av UY];exact LM.snoc s6 (Wo.free hl2) (Wo.in Jl YO) hP
     ·intro r hr;rcases V_.mp hr with hr|hr
      ·exact r1 r hr
      ·rw[x_.mp hr,←Paired.len hP,hps,ej]
     ·intro r hr;rcases V_.mp hr with hr|hr
      ·exact r2 r hr
      ·rw[x_.mp hr];exact ok
     ·intro r hr;rcases V_.mp hr with hr|hr
      ·exact r3 r hr
      ·rw[x_.mp hr];exact adp
     ·rw[Wo.av UY];exact ak.at (s4.trans s6) (Wo.free hl)
   ·have ei:i=n:=by omega
    subst ei;refine .inl ⟨(by show((i:Nat):Int).toNat<=i;omega),?_⟩;refine⟨l,k1,Y,⟨rs,rows,LM,⟨by rw[←LM.len,hrs],r1⟩,λa b f hf=>?_,r3,w4,Z9⟩,hlH,by omega,by omega⟩;obtain⟨r,hr,hfr⟩:=hf.mem;exact⟨(r2 r hr f hfr).l,λ_ _=>r2 r hr f hfr⟩
  rintro σ H4 ⟨l,k1,rfl,P4,hlH,k11,k12⟩;refine⟨λσ H5=>dP λv7 v8=>σ=[some (.ref s),some (.ref t),some (.int n),some (.int m),some (.int c),some (.str sg),some (.ref l),v7,v8,none,none]/\BQ K H t l n n k1 H5,?_,?_⟩
  ·refine⟨_,Y,n,Y,by omega,by omega,?_⟩;rw[show((n:Nat):Int).toNat=n by omega];refine sF (lo:=0) (n:=n) (λa σ H5=>dP λv7 v8=>σ=[some (.ref s),some (.ref t),some (.int n),some (.int m),some (.int c),some (.str sg),some (.ref l),v7,v8,none,none]/\BQ K H t l n a k1 H5) ⟨_,_,Y,P4⟩ ?_ (λσ H5 h=>h);rintro a σ H5 ha ⟨v7,v8,rfl,P5⟩;refine⟨λσ H6=>σ=[some (.ref s),some (.ref t),some (.int n),some (.int m),some (.int c),some (.str sg),some (.ref l),some (.int (0+(a:Int))),v8,none,none]/\BQ K H t l n (a+1) k1 H6,?_,?_⟩
   ·refine⟨_,Y,_,_,Y,Y,⟨by decide,by decide⟩,_,_,Y,Y,(by show(0:Int)<3;decide),_,_,Y,Y,_,Y,?_⟩;obtain⟨rs,rows,LM,sq,dg,nw,s5,Nj⟩:=P5;refine b9 (λ_=>?_) λ_=>⟨Y,rs,rows,LM,sq,λi j f hf=>⟨(dg i j f hf).1,λe h=>(dg i j f hf).2 e (by omega)⟩,nw,s5,Nj⟩;have ha':a<rows.length:=by rw[sq.1];exact ha
    have ha2:a<rs.length:=by rw[LM.len];exact ha'
    obtain⟨ps,Vu,hPa⟩:=LM.row a _ _ (g_ ha2) (g_ ha');have la:=sq.2 rows[a] (qaH ha');have hap:a<ps.length:=by rw[Paired.len hPa,la];exact ha
    obtain⟨f,ef,hf⟩:=Paired.at hPa (g_ hap);have Qy:=(dg a a f ⟨_,g_ ha',ef⟩).2 rfl (j_ _);have Wm:=Wo.sub _ _ LM.at_;have Vt:=Wo.sub _ _ Vu;have hf':bZ K H5 ps[a] [.int f.1,.int f.2]:=k8.same Wo.sub hf;have ea:DJ (rs.map V.ref) (0+(a:Int))=some (.ref rs[a]):=by rw[qaW];exact dY (by rw[O_,g_ ha2];rfl)
    have eb:DJ (ps.map V.ref) (0+(a:Int))=some (.ref ps[a]):=by rw[qaW];exact dY (by rw[O_,g_ hap];rfl)
    refine⟨_,Y,_,Y,l,_,_,_,Y,Y,bW.of Wm,ea,_,Y,rs[a],_,_,_,Y,Y,bW.of Vt,eb,ps[a],_,_,_,Y,Y,hf',Y,_,_,Y,Y,_,Y,_,Y,l,_,_,_,Y,Y,bW.of Wm,ea,_,Y,rs[a],_,_,_,Y,Y,bW.of Vt,eb,ps[a],_,_,_,Y,Y,hf',Y,c_,λq hq=>?_⟩;have nq:q≠t:=λz=>by rw[z,Nj]at hq;cases hq
    have UL:ak H5 (upd H5 q (.tup [.int (f.1-4),.int f.2])):=ak.upd hq;have LM1:=LM.same (Wo.same (t:=t) UL);have adf:=Wo.same (t:=t) UL _ _ Vu;have UU:rs[a]≠t:=Wo.ne Vu;refine⟨_,Y,_,Y,l,_,_,.ref rs[a],Y,Y,bW.of (UL _ _ Wm),ea,_,Y,rs[a],_,_,a,Y,Y,UL _ _ Vt,by rw[qaW];exact O5 (by rw[l_];exact hap),Y,rs,rows.set a (rows[a].set a (f.1-4,f.2)),?_,⟨by rw[qbY];exact sq.1,λr hr=>?_⟩,λi j g hg=>?_,nw,?_,?_⟩
    ·rw[Wo.av UU];exact LM1.put (g_ ha2) (g_ ha') adf (Paired.ji hPa λ_ _ z=>z.same (Wo.same UL)) (bZ.of (Wo.in nq ai))
    ·rcases List.mem_or_eq_of_mem_set hr with hr|hr
     ·exact sq.2 r hr
     ·rw[hr,qbY];exact la
    ·rcases LD (g_ ha') hg with⟨rfl,rfl,rfl⟩|hg
     ·exact⟨⟨Qy.1,Qy.2.1,Xd (by have:=Qy.2.2.1;show _<=f.1-4;omega) (by have:=Qy.2.2.2;show f.1-4<=_;omega)⟩,λ_ z=>by omega⟩
     ·exact⟨(dg i j g hg).1,λe h=>(dg i j g hg).2 e (by omega)⟩
    ·rw[Wo.av UU];exact ak.at (s5.trans (Wo.same UL)) (Wo.free (nw _ (qaH ha2)))
    ·rw[av UU.symm];exact UL _ _ Nj
   rintro σ H6 ⟨rfl,P6⟩;refine⟨_,Y,_,Y,by omega,by omega,?_⟩;rw[show(0+(a:Int)).toNat=a by omega];refine sF (lo:=0) (n:=a) (λb σ H7=>∃v8,σ=[some (.ref s),some (.ref t),some (.int n),some (.int m),some (.int c),some (.str sg),some (.ref l),some (.int (0+(a:Int))),v8,none,none]/\BQ K H t l n (a+1) k1 H7) ⟨_,Y,P6⟩ ?_ (λσ H7 ⟨v8,h1,h2⟩=>⟨_,v8,h1,h2⟩);rintro b σ H7 hb ⟨v8,rfl,P7⟩;obtain⟨rs,rows,LM,sq,dg,nw,s7,Vr⟩:=P7;refine⟨_,Y,_,_,Y,Y,⟨by decide,by decide⟩,_,_,Y,Y,(by show(0:Int)<2;decide),Y,_,Y,?_⟩;refine jQ (λ_=>?_) λ_=>⟨_,Y,rs,rows,LM,sq,dg,nw,s7,Vr⟩;have ha':a<rows.length:=by rw[sq.1];exact ha
   have hb':b<rows.length:=by rw[sq.1];omega
   have ha2:a<rs.length:=by rw[LM.len];exact ha'
   have hb2:b<rs.length:=by rw[LM.len];exact hb'
   obtain⟨psa,Vu,hPa⟩:=LM.row a _ _ (g_ ha2) (g_ ha');obtain⟨psb,hrb,hPb⟩:=LM.row b _ _ (g_ hb2) (g_ hb');have la:=sq.2 rows[a] (qaH ha');have lb:=sq.2 rows[b] (qaH hb');have hab:a<psb.length:=by rw[Paired.len hPb,lb];exact ha
   have hba:b<psa.length:=by rw[Paired.len hPa,la];omega
   obtain⟨f,ef,hf⟩:=Paired.at hPb (g_ hab);have Wm:=Wo.sub _ _ LM.at_;have UU:rs[a]≠t:=Wo.ne Vu;refine⟨_,Y,_,Y,l,_,_,.ref rs[b],Y,Y,bW.of Wm,(by rw[qaW];exact dY (by rw[O_,g_ hb2];rfl)),?_⟩;refine⟨_,Y,rs[b],_,_,.ref psb[a],Y,Y,bW.of (Wo.sub _ _ hrb),(by rw[qaW];exact dY (by rw[O_,g_ hab];rfl)),?_⟩;refine⟨_,Y,_,Y,l,_,_,.ref rs[a],Y,Y,bW.of Wm,(by rw[qaW];exact dY (by rw[O_,g_ ha2];rfl)),?_⟩;refine⟨_,Y,rs[a],_,_,b,Y,Y,Wo.sub _ _ Vu,by rw[qaW];exact O5 (by rw[l_];exact hba),_,Y,rs,rows.set a (rows[a].set b f),?_,⟨by rw[qbY];exact sq.1,λr hr=>?_⟩,λi j g hg=>?_,nw,?_,?_⟩
   ·rw[Wo.av UU];exact LM.put (g_ ha2) (g_ ha') Vu hPa hf
   ·rcases List.mem_or_eq_of_mem_set hr with hr|hr
    ·exact sq.2 r hr
    ·rw[hr,qbY];exact la
   ·rcases LD (g_ ha') hg with⟨rfl,rfl,rfl⟩|hg
    ·exact⟨(dg _ _ _ ⟨_,g_ hb',ef⟩).1,λz=>by omega⟩
    ·exact dg i j g hg
   ·rw[Wo.av UU];exact ak.at s7 (Wo.free (nw _ (qaH ha2)))
   ·rw[av UU.symm];exact Vr
  rintro σ H5 ⟨v7,v8,rfl,rs,rows,LM,sq,dg,nw,w5,Nj⟩;have C5:B3 K H5 s t ns k1:=hC.off w5 Nj (by omega);refine⟨λσ H6=>nN λo fo k2=>σ=[some (.ref s),some (.ref t),some (.int n),some (.int m),some (.int c),some (.str sg),some (.ref l),v7,v8,some (.ref o),none]/\QG fo/\TupAt (Wo t H6) o fo/\ak (Wo t H5) (Wo t H6)/\H6 t=some (.lst [.int k2])/\k1<=k2/\k2<=k1+2,?_,?_⟩
  ·refine⟨_,Y,_,_,Y,Y,⟨by decide,by decide⟩,_,_,Y,Y,(by show(0:Int)<3;decide),_,_,Y,Y,_,Y,?_⟩;refine b9 (λ_=>?_) λ_=>?_
   ·refine⟨_,Y,_,_,Y,Y,⟨by decide,by decide⟩,_,_,Y,Y,(by show(0:Int)<4;decide),c_,λq hq=>?_⟩;have nq:q≠t:=λz=>by rw[z,Nj]at hq;cases hq
    exact⟨q,(m / 48 % 4,1),k1,Y,⟨by show(1:Int)<=1;omega,by show(1:Int)<=999;omega,BE (by show _<=m / 48 % 4;omega) (by show m / 48 % 4<=_;omega)⟩,Wo.in nq ai,Wo.same (ak.upd hq),ak.upd hq _ _ Nj,by omega,by omega⟩
   ·exact⟨_,Y,_,Y,_,Y,s,t,ns,k1,c,Y,C5,by omega,λf q H6 k3 Qy w6 RL Yo Yn hqn hq6=>⟨q,f,k3,Y,Qy.l,Wo.in (uc hq6 RL (by intro z;cases z)) hq6,w6,RL,Yo,Yn⟩⟩
  rintro σ H6 ⟨o,fo,k2,rfl,Ov,ho,w6,RL,k21,k22⟩;have C6:B3 K H6 s t ns k2:=C5.off w6 RL (by omega);refine⟨λσ H7=>nN λmo fm k3=>σ=[some (.ref s),some (.ref t),some (.int n),some (.int m),some (.int c),some (.str sg),some (.ref l),v7,v8,some (.ref o),some (.ref mo)]/\QG fm/\TupAt (Wo t H7) mo fm/\ak (Wo t H6) (Wo t H7)/\H7 t=some (.lst [.int k3])/\k2<=k3/\k3<=k2+2,?_,?_⟩
  ·refine⟨_,Y,_,_,Y,Y,⟨by decide,by decide⟩,_,_,Y,Y,(by show(0:Int)<3;decide),_,_,Y,Y,_,Y,?_⟩;refine b9 (λ_=>?_) λ_=>?_
   ·refine⟨_,Y,_,_,Y,Y,⟨by decide,by decide⟩,_,_,Y,Y,(by show(0:Int)<4;decide),c_,λq hq=>?_⟩;have nq:q≠t:=λz=>by rw[z,RL]at hq;cases hq
    exact⟨q,(m / 768 % 4,1),k2,Y,⟨by show(1:Int)<=1;omega,by show(1:Int)<=999;omega,BE (by show _<=m / 768 % 4;omega) (by show m / 768 % 4<=_;omega)⟩,Wo.in nq ai,Wo.same (ak.upd hq),ak.upd hq _ _ RL,by omega,by omega⟩
   ·exact⟨_,Y,_,Y,_,Y,s,t,ns,k2,c,Y,C6,by omega,λf q H7 k3 Qy w7 Vr Yo Yn hqn hq7=>⟨q,f,k3,Y,Qy.l,Wo.in (uc hq7 Vr (by intro z;cases z)) hq7,w7,Vr,Yo,Yn⟩⟩
  rintro σ H7 ⟨mo,fm,k3,rfl,Ow,hm7,w7,Vr,Yo,Yn⟩;refine⟨_,Y,_,Y,_,Y,_,Y,e_,λr hr=>?_⟩;have s8:ak H7 (upd H7 r (.tup [.str sg,.ref l,.ref o,.ref mo])):=ak.upd hr;have w8:=Wo.same (t:=t) s8;exact kk r l o mo rs rows fo fm sg _ k3 hsg hz ai (LM.same ((w6.trans w7).trans w8)) sq (PM dg) ((ho.same w7).same w8) Ov (hm7.same w8) Ow (((w5.trans w6).trans w7).trans w8) (s8 _ _ Vr) (by omega) (by omega)
end
section
variable{P:r_}{w:I_}{K:PySem.W.Frag}{mg:v_->Option k_}{base:W_}
theorem Ck {kL bP mF bF:U}{jq bD ki gb:F_}{p:Pm}(T:Txt K mg p w base)(gQ:Dn K mg "_law_prices" qb l6 kL jq)(aT:Dn K mg "_law_next" i6 l6 bP bD)(gg:aH P w K mg base bL 1 bP bD l6 (wu K))(iT:Dn K mg "_law_table" qZ QB mF ki)(HU:aH P w K mg base bL 4 mF ki QB (Kz K))(ff:Dm K "__init__" "Prices.__init__" cM Wj bF gb)(BR:Mk K p.aq bF)(yd:aH P w K mg base bL 5 bF gb Wj (NW K p.aq)):aH P w K mg base bL 7 kL jq l6 (Dd K p.aq):=by
 refine gQ.fn.jg lA (λvs H Q E h=>?_) (λ_ _ _ _ H vs Q E hr h=>?_)
 ·obtain⟨s,t,ns,k,rfl,_⟩:=h;rfl
 ·obtain⟨s,t,ns,k,rfl,hC,hk,kk⟩:=h;have hk0:=hC.k0;intro X;refine⟨_,(aj (wG (gc HU hr iT (aa (pv 0) (aa (pv 1) (aa (aA bE ah (aA bV (gc gg hr aT (aa (pv 0) (aa (pv 1) af))) ah)) af)))) (nA (n:=4) Y (bC (Z9Y 2 lA.nd) (bC (Z9Y 3 lA.nd) (bC (Z9Y 4 lA.nd) (bC (Z9Y 5 lA.nd) i7))))))
   (ao (aI (Eg BR yd (hr.mono (by decide)) rfl T.Mm ff.b .nil aK (aa (pv 2) (aa (pv 3) (aa (pv 4) (aa (pv 5) af)))))))),?_⟩
  refine⟨_,Y,_,Y,_,Y,_,Y,s,t,ns,k,Y,hC,by omega,λm hm hm2=>?_⟩;refine⟨_,_,Y,Y,(by show(0:Int)<4;decide),_,_,Y,Y,?_⟩;obtain⟨n,hn⟩:∃n:Nat,1+m % 4=(n:Int):=⟨(1+m % 4).toNat,by omega⟩;refine⟨s,t,ns,k+1,n,(by show [V.ref s,V.ref t,V.int (1+m % 4)]=_;rw[hn]),hC.step (by omega),by omega,by omega,by omega,λr l o mo rs rows fo fm sg H5 k5 hsg hz hr LM sq jg ho Ov hmo Ow w5 Nj k51 k52=>?_⟩;rw[Wo.set]at w5;refine⟨r,_,Y,bZ.of hr,Y,_,_,Y,_,_,Y,_,_,Y,_,_,Y,Y,?_⟩;refine⟨_,Y,_,Y,_,Y,_,Y,λx dx hx hdx ndx=>?_⟩;have s6:ak H5 (upd (upd H5 dx (.own x)) x (.ins p.aq dx [])):=ak.at (ak.upd hdx) hx;have SS:upd (upd H5 dx (.own x)) x (.ins p.aq dx []) x=some (.ins p.aq dx []):=ai;generalize upd (upd H5 dx (.own x)) x (.ins p.aq dx [])=H6 at s6 SS ⊢;refine⟨x,dx,o,mo,sg,.lst l,rows,fo,fm,Y,SS,hsg,by omega,((LM.same Wo.sub).same s6).acJ,(by rw[hz];exact sq),λr hr f hf=>(jg r hr f hf).h,TupAt.fr ((ho.same Wo.sub).same s6),Ov.h,TupAt.fr ((hmo.same Wo.sub).same s6),Ow.h,λH7 P7 f7 nf7=>⟨Y,?_⟩⟩;have s7:ak H5 H7:=λb u e=>f7 b u (s6 b u e) λz=>by rw[z,hx]at e;cases e
  exact kk x H7 k5 (sg,Cv rows,nF fo,nF fm) (P7.wo (s7 _ _ Nj) (nf7 t (by rw[s6 _ _ Nj];exact λz=>nomatch z))) (by show sg.cps.size<=4;omega) (Wo.back w5 Nj hx) (w5.trans (Wo.same s7)) (s7 _ _ Nj) (by omega) (by omega)
theorem Cm {kM:U}{jr:F_}{p:Pm}(T:Txt K mg p w base)(gT:Dn K mg "_law_manner" qc ["_law_m"] kM jr)  :aH P w K mg base bL 1 kM jr ["_law_m"] F7:=by
 refine gT.fn.jg B7 (λvs H Q E h=>?_) (λ_ _ _ _ H vs Q E hr h=>?_)
 ·obtain⟨m,rfl,_⟩:=h;rfl
 ·obtain⟨m,rfl,hm,kk⟩:=h;intro X;refine⟨_,(ao (aI (aD bK (ie (aa aS (aa aS (aa aS (aa aS af))))) (aA bV (pv 0) ah) (λ_ _=>rfl)))),?_⟩;refine⟨e_,λq hq=>⟨_,Y,_,_,Y,Y,(by show(0:Int)<4;decide),?_⟩⟩;obtain⟨x,hx,hi⟩:∃x:v_,DJ [V.str (h_ "whole"),.str (h_ "within"),.str (h_ "over"),.str (h_ "stretch")] (m % 4)=some (.str x)/\rB x=true:=by
   have e:m % 4=0\/m % 4=1\/m % 4=2\/m % 4=3:=by omega
   rcases e with e|e|e|e<;>rw[e]
   ·exact⟨_,Y,by decide +kernel⟩
   ·exact⟨_,Y,by decide +kernel⟩
   ·exact⟨_,Y,by decide +kernel⟩
   ·exact⟨_,Y,by decide +kernel⟩
  exact⟨q,_,_,_,Y,Y,bW.of ai,hx,kk x _ hi (ak.upd hq)⟩
end
section
variable{P:r_}{w:I_}{K:PySem.W.Frag}{mg:v_->Option k_}{base:W_}
theorem AN {g8:U}{fK:F_}{p:Pm}(T:Txt K mg p w base)(cy:Dn K mg "_law_same" qG SJ g8 fK)  :aH P w K mg base bL 1 g8 fK SJ (z7 K 0):=by
 refine cy.fn.jg yR (λvs H Q E h=>?_) (λ_ _ _ _ H vs Q E hr h=>?_)
 ·obtain⟨v,u,rfl,_⟩:=h;rfl
 ·obtain⟨v,u,rfl,hE,k⟩:=h;intro X;refine⟨_,(aj (bH (PW.pt (vK (kY (aC (bS) Y T.bQ bJ (aa (pv 1) (aa (ic (v:=.ty "list") Y T.wg tU Y) af)))) (uE (kY (aC (bS) Y T.bQ bJ (aa (pv 1) (aa (ic (v:=.ty "tuple") Y T.uZ sN Y) af))))))) cX aP)
   (aj (bH (aF Ek (pv 1) qI (by with_unfolding_all rfl)) cX aP)
   (aj (bH (kY (aC (bS) rfl T.bQ bJ (aa (pv 1) (aa (ic (v:=.ty "str") rfl T.Kq EN rfl) af)))) (ao (aI (nY (aC (bS) rfl T.bQ bJ (aa (pv 0) (aa (ic (v:=.ty "str") rfl T.Kq EN rfl) af))) (nX (b8 bM (pv 0) (pv 1) (aG _)))))) aP)
   (ao (aI (nY (aC (bS) rfl T.bQ bJ (aa (pv 0) (aa (ic (v:=.ty "int") rfl T.CY yL rfl) af))) (nY (Ot (aC (bS) rfl T.bQ bJ (aa (pv 0) (aa (ic (v:=.ty "bool") rfl T.Np LC rfl) af)))) (nX (b8 bM (pv 0) (pv 1) (aG _)))))))))),?_⟩
  rcases hE with⟨x,rfl,rfl⟩|⟨n,rfl,rfl⟩
  ·refine⟨_,Y,_,_,_,_,Y,.inl (.str x),xP,_,Y,gF ?_⟩;refine⟨_,Y,_,_,_,_,Y,.inl (.str x),vR,_,Y,gF ?_⟩;refine⟨_,Y,Y,_,Y,gF ?_⟩;refine⟨_,Y,_,_,_,_,Y,.inl (.str x),nG,_,Y,om ?_⟩;refine⟨_,Y,_,_,_,_,Y,.inl (.str x),nG,_,Y,om ?_⟩;refine⟨_,Y,_,Y,Y,?_⟩;rw[decide_eq_true rfl];exact k H (ak.refl H)
  ·refine⟨_,Y,_,_,_,_,Y,.inl (.int n),xQ,_,Y,gF ?_⟩;refine⟨_,Y,_,_,_,_,Y,.inl (.int n),vS,_,Y,gF ?_⟩;refine⟨_,Y,Y,_,Y,gF ?_⟩;refine⟨_,Y,_,_,_,_,Y,.inl (.int n),yY,_,Y,gF ?_⟩;refine⟨_,Y,_,_,_,_,Y,.inl (.int n),nG,_,Y,om ?_⟩;refine⟨_,Y,_,_,_,_,Y,.inl (.int n),xR,_,Y,_,Y,om ?_⟩;refine⟨_,Y,_,Y,Y,?_⟩;rw[decide_eq_true rfl];exact k H (ak.refl H)
theorem vO {d:Nat}{g8:U}{fK:F_}{p:Pm}(T:Txt K mg p w base)(cy:Dn K mg "_law_same" qG SJ g8 fK)(tX:aH P w K mg base bL (d+1) g8 fK SJ (z7 K d)):aH P w K mg base bL (d+2) g8 fK SJ (z7 K (d+1)):=by
 refine cy.fn.jg yR (λvs H Q E h=>?_) (λ_ _ _ _ H vs Q E hr h=>?_)
 ·obtain⟨v,u,rfl,_⟩:=h;rfl
 ·obtain⟨v,u,rfl,hE,k⟩:=h;intro X;refine⟨_,(aj (bH (PW.pt (vK (kY (aC (bS) Y T.bQ bJ (aa (pv 1) (aa (ic (v:=.ty "list") Y T.wg tU Y) af)))) (uE (kY (aC (bS) Y T.bQ bJ (aa (pv 1) (aa (ic (v:=.ty "tuple") Y T.uZ sN Y) af))))))) (aj (bH (PW.pt (vK (aF vM (aC (bS) Y T.bQ bJ (aa (pv 0) (aa (ic (v:=.ty "list") Y T.wg tU Y) af))) (aC (bS) Y T.bQ bJ (aa (pv 1) (aa (ic (v:=.ty "list") Y T.wg tU Y) af))) (aG _)) (uE (aF vM (aC (bS) Y T.bQ bJ (aa (pv 0) (aa (ic (v:=.ty "tuple") Y T.uZ sN Y) af))) (aC (bS) Y T.bQ bJ (aa (pv 1) (aa (ic (v:=.ty "tuple") Y T.uZ sN Y) af))) (aG _))))) (ao (aI Gv)) aP)
   (ao (aI (nY (b8 bM (aC (aQ) rfl T.cB bA (aa (pv 0) af)) (aC (aQ) rfl T.cB bA (aa (pv 1) af)) (aG _)) (nX (aC (zl rfl) rfl T.Sg P9 (aa (tG (N:=["_law_a","_law_b"]) rfl (λ_=>⟨[],ee.plain (by decide +kernel) rfl (by decide +kernel) (by decide +kernel)⟩) (Ec rfl rfl T.Ko (aa (pv 0) (aa (pv 1) af))) (λ_ _ _ _ _ _ _=>(K0 (K':=K) (n:=2) rfl rfl (bC (aL (i:=0) (show(["_law_a","_law_b"]:List v_).Nodup by decide +kernel) rfl (Or.inl rfl)) (bC (aL (i:=1) (show(["_law_a","_law_b"]:List v_).Nodup by decide +kernel) rfl (Or.inl rfl)) i7)))) (λ_ _ _ _ _ _ _=>(ay tX (hr.mono (by omega)) rfl cy.m cy.fn.kp cy.b .nil aK (aa (pv 0) (aa (pv 1) af))))) af))))))) aP)
   (aj (bH (aF Ek (pv 1) qI (by with_unfolding_all rfl)) cX aP)
   (aj (bH (kY (aC (bS) rfl T.bQ bJ (aa (pv 1) (aa (ic (v:=.ty "str") rfl T.Kq EN rfl) af)))) (ao (aI (nY (aC (bS) rfl T.bQ bJ (aa (pv 0) (aa (ic (v:=.ty "str") rfl T.Kq EN rfl) af))) (nX (b8 bM (pv 0) (pv 1) (aG _)))))) aP)
   (ao (aI (nY (aC (bS) rfl T.bQ bJ (aa (pv 0) (aa (ic (v:=.ty "int") rfl T.CY yL rfl) af))) (nY (Ot (aC (bS) rfl T.bQ bJ (aa (pv 0) (aa (ic (v:=.ty "bool") rfl T.Np LC rfl) af)))) (nX (b8 bM (pv 0) (pv 1) (aG _)))))))))),?_⟩
  rcases hE with(⟨x,rfl,rfl⟩|⟨n,rfl,rfl⟩)|⟨p,q,xs,ys,rfl,rfl,hp,hq,hlen,YQ,hall⟩
  ·refine⟨_,Y,_,_,_,_,Y,.inl (.str x),xP,_,Y,gF ?_⟩;refine⟨_,Y,_,_,_,_,Y,.inl (.str x),vR,_,Y,gF ?_⟩;refine⟨_,Y,Y,_,Y,gF ?_⟩;refine⟨_,Y,_,_,_,_,Y,.inl (.str x),nG,_,Y,om ?_⟩;refine⟨_,Y,_,_,_,_,Y,.inl (.str x),nG,_,Y,om ?_⟩;refine⟨_,Y,_,Y,Y,?_⟩;rw[decide_eq_true rfl];exact k H (ak.refl H)
  ·refine⟨_,Y,_,_,_,_,Y,.inl (.int n),xQ,_,Y,gF ?_⟩;refine⟨_,Y,_,_,_,_,Y,.inl (.int n),vS,_,Y,gF ?_⟩;refine⟨_,Y,Y,_,Y,gF ?_⟩;refine⟨_,Y,_,_,_,_,Y,.inl (.int n),yY,_,Y,gF ?_⟩;refine⟨_,Y,_,_,_,_,Y,.inl (.int n),nG,_,Y,om ?_⟩;refine⟨_,Y,_,_,_,_,Y,.inl (.int n),xR,_,Y,_,Y,om ?_⟩;refine⟨_,Y,_,Y,Y,?_⟩;rw[decide_eq_true rfl];exact k H (ak.refl H)
  ·have tp:∀{H':Hp} {a:U} {zs:List V},bZ K H' a zs->(x8 K H' (.ref a) (.type "tuple")\/dP λb ws=>V.ref a= .ref b/\bZ K H' b ws/\Value.type "tuple" = .type "tuple"):=λ{H' a zs} z=>.inr ⟨a,zs,rfl,z,rfl⟩;refine⟨_,Y,_,_,_,_,Y,tp hq,qO,_,Y,gF ?_⟩;refine⟨_,Y,_,_,_,_,Y,tp hq,nG,_,Y,om ?_⟩;refine⟨_,Y,_,_,_,_,Y,tp hp,qO,_,Y,_,_,_,_,Y,tp hq,qO,Y,_,Y,gF ?_⟩;refine⟨_,Y,_,_,_,_,Y,tp hp,nG,_,Y,_,_,_,_,Y,tp hq,nG,Y,_,Y,gF ?_⟩;refine⟨_,Y,_,_,Y,.inr ⟨_,hp,Y⟩,_,Y,_,_,Y,.inr ⟨_,hq,Y⟩,Y,_,Y,?_⟩;refine jQ (λ_=>?_) λz=>absurd (congrArg Nat.cast hlen) z;refine⟨_,Y,_,Y,.tup p,.tup q,_,_,Y,hp,hq,λl hl=>?_⟩;refine EJ xs.length (λ_=>V.bl true) hl (w_ YQ (by decide)) (λi H2 s2 hi=>?_) (λH2 s2=>⟨_,_,ak.tup s2 hp,ak.tup s2 hq,.inl (j_ _)⟩) (λi z H2 H3 R s2 hi hy hR=>?_) λH2 s2 hl2=>?_
   ·exact⟨_,_,_,_,ak.tup s2 hp,ak.tup s2 hq,g_ hi,g_ (by rw[←hlen];exact hi)⟩
   ·obtain⟨p',x',y',rfl,hp',rfl,hxy⟩:=hy;obtain⟨ex,ey⟩:=hxy _ _ (ak.tup s2 hp) (ak.tup s2 hq);refine⟨p',_,Y,bZ.of ai,Y,_,_,Y,_,_,Y,Y,Kp.rep _ _,?_⟩;exact⟨_,Y,_,Y,x',y',Y,(hall i x' y' ex ey).same (s2.trans (ak.upd hp')),λH5 s5=>hR H5 ((ak.upd hp').trans s5)⟩
   ·refine⟨l,(S_ xs.length).map λ_=>true,Y,bW.of (by rw[hl2,qaL];rfl),?_⟩;rw[show((S_ xs.length).map λ_=>true).all id=true from qbI.mpr λb hb=>by
     obtain⟨_,_,rfl⟩:=U_.mp hb;rfl]
    exact k H2 s2
theorem Jd {qz gH dh:U}{oA fE cR:F_}{p:Pm}(T:Txt K mg p w base)(iO:Dn K mg "_law_gap" vh XO qz oA)(bO:Dn K mg "more_cost" pD l8 gH fE)(pJ:aH P w K mg base bL 2 gH fE l8 (IK K p.aq))(bT:Dn K mg "opening_cost" jO l8 dh cR)(qQ:aH P w K mg base bL 2 dh cR l8 (yl K p.aq)):aH P w K mg base bL 3 qz oA XO (Ss K p.aq):=by
 refine iO.fn.jg IT (λvs H Q E h=>?_) (λ_ _ _ _ H vs Q E hr h=>?_)
 ·obtain⟨x,T1,b,rfl,_⟩:=h;rfl
 ·obtain⟨x,T1,b,rfl,hP,kk⟩:=h;intro X;refine⟨_,(ao (aI (pG (kY (pv 1)) (gc pJ hr bO (aa (pv 0) af)) (aA bE (gc qQ hr bT (aa (pv 0) af)) (gc pJ hr bO (aa (pv 0) af)))))),?_⟩;refine⟨_,Y,_,Y,?_⟩
  cases b with
  |true=>exact om ⟨_,Y,x,T1.1,T1.2.1,T1.2.2.1,T1.2.2.2,Y,hP,by rw[if_pos rfl]at kk;exact kk⟩
  |false=>exact gF ⟨_,Y,x,T1.1,T1.2.1,T1.2.2.1,T1.2.2.2,Y,hP,_,Y,x,T1.1,T1.2.1,T1.2.2.1,T1.2.2.2,Y,hP,_,_,Y,Y,by rw[if_neg y_]at kk;exact kk⟩
theorem yy {gA:U}{fU:F_}{p:Pm}(T:Txt K mg p w base)(dW:Dn K mg "_law_may_begin" lS XN gA fU)  :aH P w K mg base bL 1 gA fU XN KG:=by
 refine dW.fn.jg yr (λvs H Q E h=>?_) (λ_ _ _ _ H vs Q E hr h=>?_)
 ·obtain⟨m,i,j,rfl,_⟩:=h;rfl
 ·obtain⟨m,i,j,rfl,hm,kk⟩:=h;intro X;refine⟨_,(aj (bH (aF bM (pv 0) aS (aG _)) (ao (aI (nY (b8 bM (pv 1) ah (aG _)) (nX (b8 bM (pv 2) ah (aG _)))))) aP)
   (aj (bH (aF bM (pv 0) aS (aG _)) (ao (aI (b8 bM (pv 1) ah (aG _)))) aP)
   (ao (aI (Sz (b8 bM (pv 0) aS (aG _)) (nX (b8 bM (pv 2) ah (aG _)))))))),?_⟩
  unfold yE at kk;refine⟨_,Y,Y,_,Y,uf (λh1=>?_) λh1=>?_⟩
  ·rw[if_pos h1]at kk;refine⟨_,Y,Y,_,Y,jQ (λhi=>⟨_,Y,Y,?_⟩) λhi=>?_⟩
   ·rw[Hj]
    rwa [decide_eq_true hi,qb5]at kk
   ·rwa [decide_eq_false hi,qbf]at kk
  rw[if_neg h1]at kk;refine⟨_,Y,Y,_,Y,uf (λh2=>?_) λh2=>?_⟩
  ·rw[if_pos h2]at kk;exact⟨_,Y,Y,by rw[Hj];exact kk⟩
  rw[if_neg h2]at kk;refine⟨_,Y,Y,_,Y,uf (λh3=>?_) λh3=>?_⟩
  ·rw[if_neg (λz=>by rw[h3]at z;exact absurd z (by decide +kernel))]at kk;exact kk
  ·have h4:m=h_ "over" :=by
    rcases Vn hm with z|z|z|z
    ·exact absurd z h1
    ·exact absurd z h2
    ·exact z
    ·exact absurd z h3
   rw[if_pos h4]at kk;exact⟨_,Y,Y,by rw[Hj];exact kk⟩
theorem AO {jx:U}{iy:F_}{p:Pm}(T:Txt K mg p w base)(fM:Dn K mg "_law_may_end" oX XM jx iy)  :aH P w K mg base bL 1 jx iy XM KD:=by
 refine fM.fn.jg AB (λvs H Q E h=>?_) (λ_ _ _ _ H vs Q E hr h=>?_)
 ·obtain⟨m,f,s,i,j,rfl,_⟩:=h;rfl
 ·obtain⟨m,f,s,i,j,rfl,hm,hf,hs,kk⟩:=h;have lf:f.length<=D_:=p_ hf (by decide);have ls:s.length<=D_:=p_ hs (by decide);intro X;refine⟨_,(aj (bH (aF bM (pv 0) aS (aG _)) (ao (aI (nY (b8 bM (pv 3) (aC (aQ) Y T.cB bA (aa (pv 1) af)) (aG _)) (nX (b8 bM (pv 4) (aC (aQ) Y T.cB bA (aa (pv 2) af)) (aG _)))))) aP)
   (ao (aI (Sz (b8 bM (pv 0) aS (aG _)) (nX (b8 bM (pv 3) (aC (aQ) rfl T.cB bA (aa (pv 1) af)) (aG _))))))),?_⟩
  unfold Bc at kk;refine⟨_,Y,Y,_,Y,uf (λh1=>?_) λh1=>?_⟩
  ·rw[if_pos h1]at kk;refine⟨_,Y,_,Y,_,_,Y,⟨lf,Y⟩,Y,_,Y,jQ (λhi=>⟨_,Y,_,Y,_,_,Y,⟨ls,Y⟩,Y,?_⟩) λhi=>?_⟩
   ·rw[Hj]
    rwa [decide_eq_true (show i=(f.cps.size:Int) from hi),qb5]at kk
   ·rwa [decide_eq_false (show ¬i=(f.cps.size:Int) from hi),qbf]at kk
  rw[if_neg h1]at kk;refine⟨_,Y,Y,_,Y,uf (λh3=>?_) λh3=>?_⟩
  ·rw[if_pos h3]at kk;exact kk
  ·rw[if_neg h3]at kk;exact⟨_,Y,_,Y,_,_,Y,⟨lf,Y⟩,Y,by rw[Hj];exact kk⟩
theorem Gx {oF cG qz:U}{lZ bY oA:F_}{p:Pm}(T:Txt K mg p w base)(jX:Dn K mg "_law_walk" sV XJ oF lZ)(bh:Dn K mg "pair_cost" jN O2 cG bY)(jW:aH P w K mg base bL 1 cG bY O2 (qE K p.aq))(iO:Dn K mg "_law_gap" vh XO qz oA)(DP:aH P w K mg base bL 3 qz oA XO (Ss K p.aq)):aH P w K mg base bL 4 oF lZ XJ (NP K p.aq):=by
 refine jX.fn.jg cW (λvs H Q E h=>?_) (λ_ _ _ _ H vs Q E hr h=>?_)
 ·obtain⟨x,b,T1,m,f,s,mv,q,rfl,_⟩:=h;rfl
 ·obtain⟨x,b,T1,m,f,s,mv,q,rfl,hP,of,os,hf,hs,RM,hb,kN,kk⟩:=h;have lf:f.length<=D_:=p_ hf (by decide);have ls:s.length<=D_:=p_ hs (by decide);generalize hg:b7 T1 m f s=g at kN kk;have gn:g.n=f.cps.size:=by rw[←hg];rfl
  have gm:g.m=s.cps.size:=by rw[←hg];rfl
  intro X;refine⟨_,(aj (wG (pv 3) (nA (n:=2) Y (bC (Z9Y 5 cW.nd) (bC (Z9Y 6 cW.nd) i7))))
   (aj (Z9X 7 cW.nd ah)
   (aj (Z9X 8 cW.nd aS)
   (aj (cV P_ rfl (IZ (pv 4)) (Z9Y 9 cW.nd) (br (bH (PW.pt (rK (aF bM (pv 9) aS (aG _)) (rK (aF sy (pv 5) (aC (aQ) rfl T.cB bA (aa (pv 1) af)) (aG _)) (qi (aF sy (pv 6) (aC (aQ) rfl T.cB bA (aa (pv 2) af)) (aG _)))))) (aj (Z9X 7 cW.nd (aA bE (pv 7) (gc jW hr bh (aa (pv 0) (aa (aD kZ (pv 1) (pv 5) (λ_ _=>rfl)) (aa (aD kZ (pv 2) (pv 6) (λ_ _=>rfl)) af))))))
   (ao (Ol (i:=5) (j:=6) rfl cW.nd rfl rfl (by decide) rfl rfl (aa (aA bE (pv 5) ah) (aa (aA bE (pv 6) ah) af)) (by rfl)))) (ao (bH (PW.pt (rK (aF bM (pv 9) aS (aG _)) (qi (aF sy (pv 5) (aC (aQ) rfl T.cB bA (aa (pv 1) af)) (aG _))))) (aj (Z9X 7 cW.nd (aA bE (pv 7) (gc DP hr iO (aa (pv 0) (aa (b8 bM (pv 8) aS (aG _)) af)))))
   (ao (Z9X 5 cW.nd (aA bE (pv 5) ah)))) (ao (bH (PW.pt (rK (aF bM (pv 9) aS (aG _)) (qi (aF sy (pv 6) (aC (aQ) rfl T.cB bA (aa (pv 2) af)) (aG _))))) (aj (Z9X 7 cW.nd (aA bE (pv 7) (gc DP hr iO (aa (pv 0) (aa (b8 bM (pv 8) aS (aG _)) af)))))
   (ao (Z9X 6 cW.nd (aA bE (pv 6) ah)))) (ao (aI qI)))))))
   (ao (Z9X 8 cW.nd (pv 9)))))
   (ao (aI (aW (aa (pv 7) (aa (aW (aa (pv 5) (aa (pv 6) af))) af))))))))),?_⟩
  refine⟨_,Y,b,_,Y,bZ.of hb,Y,_,_,Y,_,_,Y,Y,?_⟩;refine⟨_,Y,mv,Y,Lk (x:=mv) (λi σ H2=>wY λ(tot:Int) (e:aY) (L:v_) (v9:Option V)=>σ=[some (.ref x),some (.str f),some (.str s),some (.ref b),some (.str mv),some (.int (e.1:Int)),some (.int (e.2.1:Int)),some (.int tot),some (.str L),v9]/\ak H H2/\g.walk (q.1,q.2,112) (mv.cps.toList.take i)=some (tot,e)/\(L=⟨#[97]⟩↔e.2.2=97)/\(L=⟨#[98]⟩↔e.2.2=98))
   ⟨0,(q.1,q.2,112),_,_,rfl,ak.refl H,rfl,(by show h_ "" =⟨#[97]⟩↔(112:Nat)=97;decide +kernel),(by show h_ "" =⟨#[98]⟩↔(112:Nat)=98;decide +kernel)⟩ ?_ ?_⟩
  ·rintro i v σ H2 hv ⟨tot,e,L,v9,rfl,s2,hw,Wt,Ws⟩;have hvl:=dw hv;have Wr:=hP.same s2;refine⟨λσ H3=>∃t∈g.steps e,t.1.2.2=v/\σ=[some (.ref x),some (.str f),some (.str s),some (.ref b),some (.str mv),some (.int (t.1.1:Int)),some (.int (t.1.2.1:Int)),some (.int (tot+t.2)),some (.str L),some (.str ⟨#[v]⟩)]/\ak H H3,?_,?_⟩
   ·have fin:(∀t∈g.steps e,t.1.2.2≠v)->Q .jG H2:=λhn=>by
     refine kN ?_ H2 s2;have e1:mv.cps.toList=mv.cps.toList.take i++v::mv.cps.toList.drop (i+1):=by
      have hi:=(o_.mp hvl).1;have e2:=(qa0 i mv.cps.toList).symm;rw[qak hi,(o_.mp hvl).2]at e2;exact e2
     rw[e1];exact Gd.Ik hw hn
    have pN:v≠112->¬(⟨#[v]⟩:v_)=h_ "p" :=λz=>by rw[sP];exact I8 z
    have aN:v≠97->¬(⟨#[v]⟩:v_)=h_ "a" :=λz=>by rw[sA];exact I8 z
    have bN:v≠98->¬(⟨#[v]⟩:v_)=h_ "b" :=λz=>by rw[sB];exact I8 z
    by_cases v1:v=112
    ·subst v1;by_cases hi:e.1<f.cps.size
     ·by_cases hj:e.2.1<s.cps.size
      ·obtain⟨a,ha⟩:=uR hi;obtain⟨c,hc⟩:=uR hj;obtain⟨i',j',fr,hi',hj',hat,Y8⟩:=Eh (u:=uT T1) hP.ZZ (of a (pe ha)) (os c (pe hc));refine⟨_,Y,Y,_,Y,its sP.symm ⟨_,Y,_,Y,_,_,Y,⟨lf,Y⟩,_,_,Y,Y,_,Y,Yr (by show(e.1:Int)<(f.cps.size:Int);omega) ⟨_,Y,_,Y,_,_,Y,⟨ls,Y⟩,_,_,Y,Y,_,Y,Yr (by show(e.2.1:Int)<(s.cps.size:Int);omega) ?_⟩⟩⟩;refine⟨_,Y,_,Y,_,Y,_,Y,f,_,a,Y,Y,lf,dY (dw ha),_,Y,_,Y,s,_,c,Y,Y,ls,dY (dw hc),x,T1.1,T1.2.1,T1.2.2.1,T1.2.2.2,i',j',a,c,fr,Y,Wr,hi',hj',hat,λH5 s5=>⟨_,_,Y,Y,?_⟩⟩;refine⟨_,Y,_,_,Y,Y,_,Y,_,_,Y,Y,_,_,Y,((e.1+1,e.2.1+1,112),g.pc e.1 e.2.1),Gd.dI.mpr (.inl ⟨by omega,by omega,Y⟩),Y,?_,s2.trans s5⟩;have ep:g.pc e.1 e.2.1=fr.1*(uT T1 / fr.2):=by
        rw[←hg];show L4 T1.1 T1.2.1 (uT T1) (f.cps.toList.getD e.1 0) (s.cps.toList.getD e.2.1 0)=_;rw[o9 (dw ha),o9 (dw hc),Y8]
       show _=[_,_,_,_,_,_,_,some (V.int (tot+g.pc e.1 e.2.1)),_,_];rw[ep];rfl
      ·exact⟨_,Y,Y,_,Y,its sP.symm ⟨_,Y,_,Y,_,_,Y,⟨lf,Y⟩,_,_,Y,Y,_,Y,Yr (by show(e.1:Int)<(f.cps.size:Int);omega) ⟨_,Y,_,Y,_,_,Y,⟨ls,Y⟩,_,_,Y,Y,_,Y,Jw (by show ¬(e.2.1:Int)<(s.cps.size:Int);omega) ⟨_,Y,Y,_,Y,GW (aN (by decide)) (gF ⟨_,Y,Y,_,Y,GW (bN (by decide)) (gF (fin (Gd.xK (by omega) (by omega) (by omega))))⟩)⟩⟩⟩⟩
     ·exact⟨_,Y,Y,_,Y,its sP.symm ⟨_,Y,_,Y,_,_,Y,⟨lf,Y⟩,_,_,Y,Y,_,Y,Jw (by show ¬(e.1:Int)<(f.cps.size:Int);omega) (gF ⟨_,Y,Y,_,Y,GW (aN (by decide)) (gF ⟨_,Y,Y,_,Y,GW (bN (by decide)) (gF (fin (Gd.xK (by omega) (by omega) (by omega))))⟩)⟩)⟩⟩
    ·refine⟨_,Y,Y,_,Y,GW (pN v1) (gF ?_)⟩;by_cases v2:v=97
     ·subst v2;refine⟨_,Y,Y,_,Y,its sA.symm ⟨_,Y,_,Y,_,_,Y,⟨lf,Y⟩,_,_,Y,Y,_,Y,?_⟩⟩;by_cases hi:e.1<f.cps.size
      ·refine Yr (by show(e.1:Int)<(f.cps.size:Int);omega) ?_;refine⟨_,Y,_,Y,_,Y,Y,x,T1,_,Y,Wr,_,_,Y,Y,_,Y,_,_,Y,Y,((e.1+1,e.2.1,97),g.ac 97 e.2.2),Gd.dI.mpr (.inr (.inl ⟨by omega,Y⟩)),Y,?_,s2⟩;show _=[_,_,_,_,_,_,_,some (V.int (tot+g.ac 97 e.2.2)),_,_];rw[Pw hg (sA.symm▸Wt)];rfl
      ·exact Jw (by show ¬(e.1:Int)<(f.cps.size:Int);omega) ⟨_,Y,Y,_,Y,GW (bN (by decide)) (gF (fin (Gd.xK (by omega) (by omega) (by omega))))⟩
     ·refine⟨_,Y,Y,_,Y,GW (aN v2) (gF ?_)⟩;by_cases v3:v=98
      ·subst v3;refine⟨_,Y,Y,_,Y,its sB.symm ⟨_,Y,_,Y,_,_,Y,⟨ls,Y⟩,_,_,Y,Y,_,Y,?_⟩⟩;by_cases hj:e.2.1<s.cps.size
       ·refine Yr (by show(e.2.1:Int)<(s.cps.size:Int);omega) ?_;refine⟨_,Y,_,Y,_,Y,Y,x,T1,_,Y,Wr,_,_,Y,Y,_,Y,_,_,Y,Y,((e.1,e.2.1+1,98),g.ac 98 e.2.2),Gd.dI.mpr (.inr (.inr ⟨by omega,Y⟩)),Y,?_,s2⟩;show _=[_,_,_,_,_,_,_,some (V.int (tot+g.ac 98 e.2.2)),_,_];rw[Pw hg (sB.symm▸Ws)];rfl
       ·exact Jw (by show ¬(e.2.1:Int)<(s.cps.size:Int);omega) (fin (Gd.xK (by omega) (by omega) (by omega)))
      ·exact⟨_,Y,Y,_,Y,GW (bN v3) (gF (fin (Gd.xK (by omega) (by omega) (by omega))))⟩
   ·rintro σ H3 ⟨t,ht,hv',rfl,s3⟩;refine⟨_,Y,tot+t.2,t.1,⟨#[v]⟩,_,Y,s3,?_,?_,?_⟩
    ·rw[take_snoc hvl,←hv'];exact Gd.LJ hw ht
    ·rw[hv'];exact⟨λz=>by simpa using congrArg qcO z,λz=>by rw[z]⟩
    ·rw[hv'];exact⟨λz=>by simpa using congrArg qcO z,λz=>by rw[z]⟩
  ·rintro σ H2 ⟨tot,e,L,v9,rfl,s2,hw,Wt,Ws⟩;rw[X_ (by rw[N_];exact j_ _)]at hw;refine⟨_,Y,_,Y,_,Y,c_,λp1 hp1=>⟨c_,λr1 hr1=>?_⟩⟩;have s3:=s2.trans (ak.upd (o:=.tup [.int (e.1:Int),.int (e.2.1:Int)]) hp1);exact kk tot e hw r1 p1 _ (s3.trans (ak.upd hr1)) (ak.free s3 hr1) ai (by show upd _ _ _ _=_;rw[av (aX ai hr1),ai])
end
section
variable{P:r_}{w:I_}{K:PySem.W.Frag}{mg:v_->Option k_}{base:W_}
theorem Jc {qw:U}{oz:F_}{p:Pm}(T:Txt K mg p w base)(iN:Dn K mg "_law_key" vg XI qw oz)  :aH P w K mg base bL 1 qw oz XI So:=by
 refine iN.fn.jg IS (λvs H Q E h=>?_) (λ_ _ _ _ H vs Q E hr h=>?_)
 ·obtain⟨q,mv,rfl,_⟩:=h;rfl
 ·obtain⟨q,mv,rfl,hm,kk⟩:=h;have ez:∀(c d:Nat) (z:v_),(r9 c d z).cps.size=z.cps.size:=λc d z=>by
   unfold r9;show(z.cps.toList.map (NF c d)).toArray.size=_;rw[K_,l_,N_]
  have e:sC mv.cps.toList=r9 98 50 (r9 97 49 (r9 112 48 mv)):=by
   unfold sC;rw[Array.toArray_toList]
  rw[e]at kk;have hm':mv.cps.size<=1000000:=p_ hm (by decide);intro X;refine⟨_,(ao (aI (aW (aa (pv 0) (aa (Ef (c:=98) (d:=50) (Ef (c:=97) (d:=49) (Ef (c:=112) (d:=48) (pv 1) (by kernel_rfl) (by kernel_rfl) (by decide)) (by kernel_rfl) (by kernel_rfl) (by decide)) (by kernel_rfl) (by kernel_rfl) (by decide)) af))))),?_⟩;exact⟨_,Y,_,Y,mv,Y,hm',_,Y,by rw[ez];exact hm',_,Y,by rw[ez,ez];exact hm',c_,λr hr=>kk r _ (ak.upd hr) ai⟩
end
section
variable{P:r_}{w:I_}{K:PySem.W.Frag}{mg:v_->Option k_}{base:W_}
theorem Eu {gJ:U}{fF:F_}{p:Pm}(T:Txt K mg p w base)(cZ:Dn K mg "_law_mixed" pF Vd gJ fF)  :aH P w K mg base bL 1 gJ fF Vd DX:=by
 refine cZ.fn.jg xy (λvs H Q E h=>?_) (λ_ _ _ _ H vs Q E hr h=>?_)
 ·obtain⟨c,k,rfl,_⟩:=h;rfl
 ·obtain⟨c,k,rfl,k0,k1,kk⟩:=h;intro X;refine⟨_,(aj (Z9X 2 xy.nd (aA bV (aA nB (aA bE (aA bE (aA bV (pv 0) ah) (aA nB (aA nB (pv 1) (pv 1)) ah)) ah) ah) ah))
   (ao (aI (aA bV (aA nB (pv 2) (pv 2)) ah)))),?_⟩
  refine⟨_,Y,_,_,Y,Y,(by show(0:Int)<_;decide),_,Y,_,Y,_,_,Y,Y,.inl ⟨Int.lt_of_lt_of_le (by decide) k0,Int.lt_of_le_of_lt k1 (by decide)⟩,_,_,Y,Y,.inr ⟨by decide,by decide⟩,_,_,Y,Y,_,_,Y,Y,_,_,Y,Y,.inr ⟨by decide,by decide⟩,_,_,Y,Y,(by show(0:Int)<_;decide),?_⟩;have m0:=qao ((c % 1000003+k*k*7+3)*48271) (show(2147483647:Int)≠0 by decide);have m1:=qan ((c % 1000003+k*k*7+3)*48271) (show(0:Int)<2147483647 by decide);exact⟨_,Y,_,Y,_,_,Y,Y,.inl ⟨Int.lt_of_lt_of_le (by decide) m0,Int.lt_trans m1 (by decide)⟩,_,_,Y,Y,(by show(0:Int)<_;decide),kk _ (qao _ (by decide))⟩
theorem GA {oG gJ:U}{mh fF:F_}{p:Pm}(T:Txt K mg p w base)(jY:Dn K mg "_law_both" sX XH oG mh)(cZ:Dn K mg "_law_mixed" pF Vd gJ fF)(uY:aH P w K mg base bL 1 gJ fF Vd DX):aH P w K mg base bL 2 oG mh XH (F4 K):=by
 refine jY.fn.jg qV (λvs H Q E h=>?_) (λ_ _ _ _ H vs Q E hr h=>?_)
 ·obtain⟨s,ns,sg,rfl,_⟩:=h;rfl
 ·obtain⟨s,ns,sg,rfl,hS,hs0,hs1,kk⟩:=h;have lsg:sg.length<=D_:=p_ hs1 (by decide);intro X;refine⟨_,(aj (Z9X 2 qV.nd (ie (aa aS (aa aS af))))
   (aj (cV P_ rfl (xF rfl T.pq (aa (gD KS (pv 0) o7 (gj ah)) af)) (nA (n:=2) rfl (bC (Z9Y 3 qV.nd) (bC (Z9Y 4 qV.nd) i7))) (ao (wG (aA fh (aD bK (pv 2) (aA bV (pv 3) ah) (λ_ _=>rfl)) (aD kZ (pv 1) (aA bV (gc uY hr cZ (aa (pv 4) (aa (aA c6 (pv 3) ah) af))) (aC (aQ) rfl T.cB bA (aa (pv 1) af))) (λ_ _=>rfl))) (Ed (pv 2) (aA bV (pv 3) ah) set_list))))
   (ao (aI (pv 2))))),?_⟩
  refine⟨c_,λl hl=>?_⟩;have s1:=ak.upd (o:=.lst [.str (h_ ""),.str (h_ "")]) hl;have e1:L2.upd H l (.lst [.str (h_ ""),.str (h_ "")]) l=some (.lst [.str (h_ ""),.str (h_ "")]):=ai;generalize L2.upd H l (.lst [.str (h_ ""),.str (h_ "")])=H1 at s1 e1 ⊢;obtain⟨zs,ez,hz⟩:=Ho ns 24;refine⟨_,Y,_,Y,s,_,Y,ak.seq s1 hS,λp1 hp1=>?_⟩;have s2:=ak.upd (o:=.lst (zP (ns.map V.int) none (some 24))) hp1;have e2:L2.upd H1 p1 (.lst (zP (ns.map V.int) none (some 24))) p1=some (.lst (zs.map V.int)):=by rw[ai];exact congrArg (λx=>some (HO.lst x)) ez
  have e3:=s2 _ _ e1;have n1:p1≠l:=λz=>by rw[z,e1]at hp1;cases hp1
  generalize L2.upd H1 p1 (.lst (zP (ns.map V.int) none (some 24)))=H2 at s2 e2 e3 ⊢;have Cb:=s1.trans s2;refine⟨.lst p1,_,Y,bW.of e2,?_⟩;refine uN (K:=K) (c:=.lst p1) (xs:=zs.map V.int) (λi σ H3=>wY λv3 v4 f g=>σ=[some (.ref s),some (.str sg),some (.ref l),v3,v4]/\ak H H3/\H3 p1=some (.lst (zs.map V.int))/\H3 l=some (.lst [.str f,.str g])/\Of sg f/\Of sg g/\f.cps.size=(i+1) / 2/\g.cps.size=i / 2)
   ⟨_,_,_,_,rfl,Cb,e2,e3,(λc hc=>nomatch hc),(λc hc=>nomatch hc),rfl,rfl⟩ (λi σ H3 _ ⟨_,_,_,_,_,_,h3,_⟩=>bW.of h3) ?_ ?_
  ·rintro i y q σ H3 hy hq ⟨v3,v4,f,g,rfl,s3,hp3,hl3,of,og,lf,lg⟩;rw[O_]at hy;obtain⟨c,hc,rfl⟩:=qac.mp hy;have hi:i<24:=H_ (o_.mp hc).1 hz;have s4:=ak.upd (o:=.tup [.int (i:Int),.int c]) hq;have S3:=s4 _ _ hp3;have Pg:=s4 _ _ hl3;refine⟨_,_,Y,bZ.of ai,Y,_,_,Y,_,_,Y,Y,?_⟩;have Q3:=s3.trans s4;generalize L2.upd H3 q (.tup [.int (i:Int),.int c])=H4 at S3 Pg Q3 ⊢;have app:∀(x:v_) (z:Nat),Of sg x->z∈sg.cps.toList->Of sg (x++(⟨#[z]⟩:v_)):=λx z hx hz c hc=>by
    have hc':c∈x.cps.toList++[z]:=by rw[←qch];exact hc
    rcases V_.mp hc' with q|q
    ·exact hx c q
    ·rw[x_.mp q];exact hz
   obtain⟨j,x,ej,hj2,hx,lx,fin⟩:dP λ(j:Nat) (x:v_)=>(i:Int) % 2=(j:Int)/\j<2/\([V.str f,V.str g]:List V)[j]? =some (.str x)/\x.cps.size<=12/\∀z∈sg.cps.toList,dP λf' g':v_=>[V.str f,V.str g].set j (.str (x++(⟨#[z]⟩:v_)))=[.str f',.str g']/\Of sg f'/\Of sg g'/\f'.cps.size=(i+1+1) / 2/\g'.cps.size=(i+1) / 2:=by
    rcases Nat.mod_two_eq_zero_or_one i with e|e
    ·exact⟨0,f,by omega,by decide,Y,by omega,λz hz=>⟨_,g,Y,app f z of hz,og,by rw[szA];show f.cps.size+1=_;omega,by omega⟩⟩
    ·exact⟨1,g,by omega,by decide,Y,by omega,λz hz=>⟨f,_,Y,of,app g z og hz,by omega,by rw[szA];show g.cps.size+1=_;omega⟩⟩
   have i0:(0:Int)<=(i:Int) / 6:=by omega
   have i1:(i:Int) / 6<=100:=by omega
   refine⟨_,Y,_,Y,_,_,Y,Y,(by show(0:Int)<2;decide),l,_,_,.str x,Y,Y,bW.of Pg,by rw[ej];exact dY hx,?_⟩;refine⟨_,Y,_,Y,_,Y,_,_,Y,Y,⟨by decide,by decide⟩,c,_,Y,i0,i1,λm hm=>?_⟩;have j1:=qao m (show((sg.cps.size:Nat):Int)≠0 by omega);have j2:=qan m (show(0:Int)<((sg.cps.size:Nat):Int) by omega);obtain⟨u,hu⟩:∃u:Nat,m % ((sg.cps.size:Nat):Int)=(u:Int):=⟨_,(qau j1).symm⟩;have hul:u<sg.cps.toList.length:=by rw[N_];omega
   obtain⟨f',g',e5,of',og',lf',lg'⟩:=fin _ (qaH hul);refine⟨_,Y,_,_,Y,⟨lsg,Y⟩,_,_,Y,Y,(by show(0:Int)<(sg.cps.size:Int);omega),sg,_,sg.cps.toList[u],Y,Y,lsg,?_,_,_,Y,Y,p_ (qar lx) (by decide),?_⟩
   ·show DJ sg.cps.toList (m % ((sg.cps.size:Nat):Int))=_;rw[hu];exact dY (g_ hul)
   refine⟨_,Y,_,Y,_,_,Y,Y,(by show(0:Int)<2;decide),l,_,_,j,Y,Y,Pg,?_,?_⟩
   ·rw[ej];unfold Ni;rw[if_pos (qa4 _),if_pos (show(j:Int)<(([V.str f,V.str g]:List V).length:Int) from qbV.mpr hj2),qaw]
   ·refine⟨_,_,f',g',Y,ak.at Q3 hl,by rw[av n1];exact S3,by rw[ai,e5],of',og',lf',lg'⟩
  ·rintro σ H3 ⟨v3,v4,f,g,rfl,s3,hp3,hl3,of,og,lf,lg⟩;rw[l_]at lf lg;exact⟨_,Y,kk l f g H3 of og (by omega) (by omega) s3 hl3⟩
end
section
variable{P:r_}{w:I_}{K:PySem.W.Frag}{mg:v_->Option k_}{base:W_}
theorem Cj {kK:U}{jo:F_}{p:Pm}(T:Txt K mg p w base)(gP:Dn K mg "_law_turned" qa XG kK jo)  :aH P w K mg base bL 1 kK jo XG F2:=by
 refine gP.fn.jg oV (λvs H Q E h=>?_) (λ_ _ _ _ H vs Q E hr h=>?_)
 ·obtain⟨m,b,i,j,mv,rfl,_⟩:=h;rfl
 ·obtain⟨m,b,i,j,mv,rfl,hm,hb,hl,kk⟩:=h;intro X;refine⟨_,(br (Z9X 3 oV.nd (aA bV (aA c6 (pv 0) ah) (aA bE (aC (aQ) Y T.cB bA (aa (pv 2) af)) ah)))
   (br (Z9X 4 oV.nd (gD pP (pv 2) (gj (pv 3)) (gj (aA bE (pv 3) ah))))
   (br (bH (PW.pt (rK (aF sy (aA bV (pv 0) ah) ah (aG _)) (qi (aF bM (aC (aQ) rfl T.cB bA (aa (pv 4) af)) ah (aG _))))) (aj (bH (PW.pt (rK (aF bM (aA bV (pv 0) ah) ah (aG _)) (qi (PW.pt (vK (aF bM (pv 4) aS (aG _)) (uE (aF bM (pv 4) aS (aG _)))))))) (ao (aI (aW (aa (pv 1) (aa (aA fh (aA fh (gD pP (pv 2) o7 (gj (pv 3))) aS) (gD pP (pv 2) (gj (aA bE (pv 3) ah)) o7)) af))))) aP)
   (ao (aI (aW (aa (pv 1) (aa (aA fh (aA fh (aA fh (gD pP (pv 2) o7 (gj (pv 3))) (aD kZ (pv 4) ah (λ_ _=>rfl))) (aD kZ (pv 4) ah (λ_ _=>rfl))) (gD pP (pv 2) (gj (aA bE (pv 3) ah)) o7)) af)))))) aP)
   (br (bH (PW.pt (rK (aF bM (aA bV (pv 0) ah) ah (aG _)) (qi (aF bM (gD pP (pv 2) (gj (pv 3)) (gj (aA bE (pv 3) ah))) aS (aG _))))) (ao (aI (aW (aa (pv 1) (aa (aA fh (aA fh (gD pP (pv 2) o7 (gj (pv 3))) (aD bK (ie (aa aS (aa aS af))) (aA bV (aA c6 (pv 0) ah) ah) (λ_ _=>rfl))) (gD pP (pv 2) (gj (aA bE (pv 3) ah)) o7)) af))))) aP)
   (br (bH (aF bM (aA bV (aA c6 (pv 0) ah) ah) ah (aG _)) (ao (aI (pG (aF bM (aA bV (aA c6 (pv 0) ah) ah) ah (aG _)) (aW (aa (pv 1) (aa (aA fh (pv 2) (aD kZ aS (aA bV (aA c6 (pv 0) ah) ah) (λ_ _=>rfl))) af))) (aW (aa (pv 1) (aa (gD pP (pv 2) o7 (gj (AL wj ah))) af)))))) aP)
   (br (bH (PW.pt (vK (aF bM (aA bV (aA c6 (pv 0) ah) ah) ah (aG _)) (uE (aF bM (pv 2) aS (aG _))))) (aj (Z9X 5 oV.nd (aD kZ aS (aA bV (aA c6 (pv 0) ah) ah) (λ_ _=>rfl)))
   (ao (aI (aW (aa (aW (aa (aA nZ (aD aJ (pv 1) ah (λ_ _=>rfl)) (jj (vB) rfl T.CY yL (aa (b8 vM (pv 5) aS (aG _)) af))) (aa (aA nZ (aD aJ (pv 1) ah (λ_ _=>rfl)) (jj (vB) rfl T.CY yL (aa (b8 vM (pv 5) aS (aG _)) af))) af))) (aa (aA fh (pv 5) (pv 2)) af)))))) aP)
   (ao (aI (aW (aa (aW (aa (aA bE (aD aJ (pv 1) ah (λ_ _=>rfl)) (jj (vB) rfl T.CY yL (aa (b8 vM (aD kZ (pv 2) ah (λ_ _=>rfl)) aS (aG _)) af))) (aa (aA bE (aD aJ (pv 1) ah (λ_ _=>rfl)) (jj (vB) rfl T.CY yL (aa (b8 vM (aD kZ (pv 2) ah (λ_ _=>rfl)) aS (aG _)) af))) af))) (aa (gD pP (pv 2) (gj ah) o7) af))))))))))),?_⟩
  have Mt:mv.length<=D_:=p_ hl (by decide);have p1:(h_ "p").cps.size<=1:=by rw[sP];exact j_ 1
  have c1:∀c:Nat,(⟨#[c]⟩:v_).cps.size<=1:=λ_=>j_ 1;have m3:∀z:Int,0<=z % 3/\z % 3<3:=λz=>⟨qao _ (by decide),qan _ (by decide)⟩;have pab:∀z:Int,∃c,DJ (h_ "pab").cps.toList (z % 3)=some c:=λz=>Ai (m3 z).1 (Int.lt_of_lt_of_le (m3 z).2 (by show(3:Int)<=((h_ "pab").cps.toList.length:Int);decide +kernel));have Xy:(h_ "pab").length<=D_:=by decide +kernel
  have fin:∀(z:v_) (H':Hp),ak H H'->z.cps.size<=mv.cps.size+1->∀r,H' r=none->Q (.ref r) (L2.upd H' r (.tup [.ref b,.str z])):=λz H' s' hz r hr=>kk r b i j z _ (s'.trans (ak.upd hr)) ai (ak.upd hr _ _ (s' _ _ hb)) hz;obtain⟨k,hk,hkn⟩:∃k:Nat,m / 8 % ((mv.length:Int)+1)=(k:Int)/\k<=mv.cps.size:=by
   have hy:(mv.length:Int)=(mv.cps.size:Int):=rfl;have m0:=qao (m / 8) (show(mv.length:Int)+1≠0 by omega);have m1:=qan (m / 8) (show(0:Int)<(mv.length:Int)+1 by omega);exact⟨_,(qau m0).symm,by omega⟩
  have A1:(Txt.slice mv none (some (k:Int))).cps.size<=k:=qcz (ad4 hkn);obtain⟨tw,etw⟩:∃tw:v_,Txt.slice mv (some (k:Int)) (some ((k:Int)+2))=tw:=⟨_,rfl⟩;have htw:tw.cps.size=min 2 (mv.cps.size-k):=by rw[←etw];exact Zf 2
  have ltw:tw.length<=D_:=p_ (show tw.cps.size<=2 by omega) (by decide);refine⟨λσ H'=>σ=[some (.int m),some (.ref b),some (.str mv),some (.int (k:Int)),none,none]/\H=H',?_,?_⟩
  ·refine⟨_,Y,_,_,Y,Y,⟨by decide,by decide⟩,_,Y,_,_,Y,⟨Mt,Y⟩,_,_,Y,Y,_,_,Y,Y,len_pos mv,?_,Y⟩;rw[←hk];rfl
  rintro σ _ ⟨rfl,rfl⟩;refine⟨λσ H'=>σ=[some (.int m),some (.ref b),some (.str mv),some (.int (k:Int)),some (.str tw),none]/\H=H',?_,?_⟩
  ·refine⟨_,Y,_,Y,_,Y,_,Y,_,_,Y,Y,_,Y,mv,Y,Mt,?_,Y⟩;rw[←etw];rfl
  rintro σ _ ⟨rfl,rfl⟩;refine⟨λσ H'=>σ=[some (.int m),some (.ref b),some (.str mv),some (.int (k:Int)),some (.str tw),none]/\H=H',?_,?_⟩
  ·refine⟨_,Y,_,_,Y,Y,(by show(0:Int)<4;decide),_,_,Y,Y,_,Y,b9 (λ_=>?_) λ_=>gF ⟨Y,Y⟩⟩;refine⟨_,Y,_,_,Y,⟨ltw,Y⟩,Y,_,Y,jQ (λh2=>?_) λ_=>⟨Y,Y⟩⟩;have h2':tw.cps.size=2:=qcm h2;have k2:k+2<=mv.cps.size:=by omega
   have B2:(Txt.slice mv (some ((k:Int)+2)) none).cps.size<=mv.cps.size-(k+2):=qcz (Zg k2);have l2:(tw.cps.toList.length:Int)=2:=by rw[N_,h2'];rfl
   obtain⟨y0,hy0⟩:=Ai (l:=tw.cps.toList) (i:=0) (by decide) (by rw[l2];decide);obtain⟨y1,hy1⟩:=Ai (l:=tw.cps.toList) (i:=1) (by decide) (by rw[l2];decide);refine⟨_,Y,_,_,Y,Y,(by show(0:Int)<4;decide),Y,_,Y,jQ (λ_=>⟨_,Y,Y,_,Y,uf (λ_=>om ?R1) λ_=>⟨_,Y,Y,_,Y,uf (λ_=>?R2) λ_=>?R3⟩⟩) λ_=>gF ?R4⟩
   case R1|R2 =>
    exact⟨_,Y,_,Y,_,Y,_,Y,mv,Y,Mt,_,_,Y,Y,tQ A1 p1 (by omega),_,Y,_,Y,_,_,Y,Y,_,Y,mv,Y,Mt,_,_,Y,Y,tQ (x6 A1 p1) B2 (by omega),c_,λr hr=>fin _ _ (ak.refl _) (p_ (x6 (x6 A1 p1) B2) (by omega)) r hr⟩
   case R3|R4 =>
    exact⟨_,Y,_,Y,_,Y,_,Y,mv,Y,Mt,_,Y,tw,_,y1,Y,Y,ltw,hy1,_,_,Y,Y,tQ A1 (c1 y1) (by omega),_,Y,tw,_,y0,Y,Y,ltw,hy0,_,_,Y,Y,tQ (x6 A1 (c1 y1)) (c1 y0) (by omega),_,Y,_,Y,_,_,Y,Y,_,Y,mv,Y,Mt,_,_,Y,Y,tQ (x6 (x6 A1 (c1 y1)) (c1 y0)) B2 (by omega),c_,λr hr=>fin _ _ (ak.refl _) (p_ (x6 (x6 (x6 A1 (c1 y1)) (c1 y0)) B2) (by omega)) r hr⟩
  rintro σ _ ⟨rfl,rfl⟩;refine⟨λσ H'=>σ=[some (.int m),some (.ref b),some (.str mv),some (.int (k:Int)),some (.str tw),none]/\H=H',?_,?_⟩
  ·refine⟨_,Y,_,_,Y,Y,(by show(0:Int)<4;decide),Y,_,Y,jQ (λ_=>?_) λ_=>gF ⟨Y,Y⟩⟩;refine⟨_,Y,_,Y,_,Y,_,Y,_,_,Y,Y,_,Y,mv,Y,Mt,Y,_,Y,uf (λhp=>?_) λ_=>⟨Y,Y⟩⟩;have k1:k+1<=mv.cps.size:=by
    have z:(Txt.slice mv (some (k:Int)) (some ((k+1:Nat):Int))).cps.size=1:=by rw[show Txt.slice mv (some (k:Int)) (some ((k+1:Nat):Int))=_ from hp,sP];rfl
    rw[Zf]at z;omega
   have B1:(Txt.slice mv (some ((k:Int)+1)) none).cps.size<=mv.cps.size-(k+1):=qcz (Zg k1);refine⟨_,Y,_,Y,_,Y,_,Y,mv,Y,Mt,c_,λq hq=>?_⟩;obtain⟨wd,hw,lw⟩:∃wd:v_,DJ [V.str (h_ "ab"),.str (h_ "ba")] (m / 4 % 2)=some (.str wd)/\wd.cps.size<=2:=by
    have e:m / 4 % 2=0\/m / 4 % 2=1:=by omega
    rcases e with e|e<;>rw[e]<;>exact⟨_,Y,by decide +kernel⟩
   refine⟨_,Y,_,_,Y,Y,⟨by decide,by decide⟩,_,_,Y,Y,(by show(0:Int)<2;decide),q,_,_,_,Y,Y,bW.of ai,hw,_,_,Y,Y,tQ A1 lw (by omega),?_⟩;exact⟨_,Y,_,Y,_,_,Y,Y,_,Y,mv,Y,Mt,_,_,Y,Y,tQ (x6 A1 lw) B1 (by omega),c_,λr hr=>fin _ _ (ak.upd hq) (p_ (x6 (x6 A1 lw) B1) (by omega)) r hr⟩
  rintro σ _ ⟨rfl,rfl⟩;refine⟨λσ H'=>σ=[some (.int m),some (.ref b),some (.str mv),some (.int (k:Int)),some (.str tw),none]/\H=H',?_,?_⟩
  ·refine⟨_,Y,_,_,Y,Y,⟨by decide,by decide⟩,_,_,Y,Y,(by show(0:Int)<2;decide),Y,_,Y,jQ (λ_=>?_) λ_=>⟨Y,Y⟩⟩;refine⟨_,Y,_,_,Y,Y,⟨by decide,by decide⟩,_,_,Y,Y,(by show(0:Int)<2;decide),Y,_,Y,jQ (λ_=>?_) λ_=>?_⟩
   ·obtain⟨c,hc⟩:=pab (m / 1000);exact⟨_,Y,_,Y,_,Y,_,_,Y,Y,⟨by decide,by decide⟩,_,_,Y,Y,(by show(0:Int)<3;decide),_,_,c,Y,Y,Xy,hc,_,_,Y,Y,tQ (j_ _) (c1 c) (by omega),c_,λr hr=>fin _ _ (ak.refl _) (x6 (j_ _) (c1 c)) r hr⟩
   ·exact⟨_,Y,_,Y,_,Y,_,Y,mv,Y,Mt,c_,λr hr=>fin _ _ (ak.refl _) (qbj (Txt.slice_le mv none _)) r hr⟩
  rintro σ _ ⟨rfl,rfl⟩;refine⟨λσ H'=>¬mv=h_ "" /\σ=[some (.int m),some (.ref b),some (.str mv),some (.int (k:Int)),some (.str tw),none]/\H=H',?_,?_⟩
  ·refine⟨_,Y,_,_,Y,Y,⟨by decide,by decide⟩,_,_,Y,Y,(by show(0:Int)<2;decide),Y,_,Y,jQ (λ_=>om ?B1) λ_=>⟨_,Y,Y,_,Y,uf (λ_=>?B2) λh0=>⟨h0,Y,Y⟩⟩⟩
   case B1|B2 =>
    obtain⟨c,hc⟩:=pab (m / 1000);refine⟨_,Y,_,_,Y,Y,⟨by decide,by decide⟩,_,_,Y,Y,(by show(0:Int)<3;decide),_,_,c,Y,Y,Xy,hc,?_⟩;refine⟨_,Y,b,_,_,_,Y,Y,bZ.of hb,Y,_,Y,Y,.inr ⟨_,Y,_,_,Y,Y,?_⟩⟩;refine⟨_,Y,b,_,_,_,Y,Y,bZ.of hb,Y,_,Y,Y,.inr ⟨_,Y,_,_,Y,Y,c_,λq hq=>?_⟩⟩;refine⟨_,Y,_,Y,_,_,Y,Y,tQ (c1 c) (j_ _) (by omega),c_,λr hr=>?_⟩;exact kk r q _ _ _ _ ((ak.upd hq).trans (ak.upd hr)) ai (ak.upd hr _ _ ai) (p_ (x6 (c1 c) (j_ _)) (qcz (qcC _ _)))
  rintro σ _ ⟨h0,rfl,rfl⟩;obtain⟨c,hc⟩:=Ai (l:=mv.cps.toList) (i:=0) (by decide) (by
   have z:mv.cps.size≠0:=λz=>h0 (IG (by rw[qbL z];rfl));rw[N_];omega)
  refine⟨_,Y,b,_,_,_,Y,Y,bZ.of hb,Y,_,Y,mv,_,c,Y,Y,Mt,hc,Y,.inr ⟨_,Y,_,_,Y,Y,?_⟩⟩;refine⟨_,Y,b,_,_,_,Y,Y,bZ.of hb,Y,_,Y,mv,_,c,Y,Y,Mt,hc,Y,.inr ⟨_,Y,_,_,Y,Y,c_,λq hq=>?_⟩⟩;refine⟨_,Y,_,Y,mv,Y,Mt,c_,λr hr=>?_⟩;exact kk r q _ _ _ _ ((ak.upd hq).trans (ak.upd hr)) ai (ak.upd hr _ _ ai) (qbj (Txt.slice_le mv _ none))
end
section
variable{P:r_}{w:I_}{K:PySem.W.Frag}{mg:v_->Option k_}{base:W_}
theorem Gz {jd oF gA jx:U}{gG lZ fU iy:F_}{p:Pm}(T:Txt K mg p w base)(d8:Dn K mg "_law_cost" qH Vc jd gG)(jX:Dn K mg "_law_walk" sV XJ oF lZ)(Kd:aH P w K mg base bL 4 oF lZ XJ (NP K p.aq))(dW:Dn K mg "_law_may_begin" lS XN gA fU)(zX:aH P w K mg base bL 1 gA fU XN KG)(fM:Dn K mg "_law_may_end" oX XM jx iy)(CP:aH P w K mg base bL 1 jx iy XM KD):aH P w K mg base bL 5 jd gG Vc (Ax K p.aq):=by
 refine d8.fn.jg yS (λvs H Q E h=>?_) (λ_ _ _ _ H vs Q E hr h=>?_)
 ·obtain⟨x,b,T1,f,s,m,mv,i,j,rfl,_⟩:=h;rfl
 ·obtain⟨x,b,T1,f,s,m,mv,i,j,rfl,hP,of,os,hf,hs,RM,hm,hb,kN,kk⟩:=h;have lf:f.length<=D_:=p_ hf (by decide);have ls:s.length<=D_:=p_ hs (by decide);have f20:=p_ hf (show 12<=20 by decide);have s20:=p_ hs (show 12<=20 by decide);intro X;refine⟨_,(aj (bH (PW.pt (vK (aF sy (aD aJ (pv 4) ah (λ_ _=>rfl)) ah (aG _)) (vK (aF sy (aD aJ (pv 4) ah (λ_ _=>rfl)) ah (aG _)) (vK (aF vN (aD aJ (pv 4) ah (λ_ _=>rfl)) (aC (aQ) Y T.cB bA (aa (pv 1) af)) (aG _)) (uE (aF vN (aD aJ (pv 4) ah (λ_ _=>rfl)) (aC (aQ) Y T.cB bA (aa (pv 2) af)) (aG _))))))) (ao (aI qI)) aP)
   (aj (Z9X 6 yS.nd (gc Kd hr jX (aa (pv 0) (aa (pv 1) (aa (pv 2) (aa (pv 4) (aa (pv 5) af)))))))
   (aj (bH (PW.pt (vK (aF Ek (pv 6) qI (by with_unfolding_all rfl)) (uE (wD (kY (gc zX hr dW (aa (pv 3) (aa (aD aJ (pv 4) ah (λ_ _=>rfl)) (aa (aD aJ (pv 4) ah (λ_ _=>rfl)) af))))))))) (ao (aI qI)) aP)
   (aj (bH (wD (kY (gc CP hr fM (aa (pv 3) (aa (pv 1) (aa (pv 2) (aa (aD aJ (aD aJ (pv 6) ah (λ_ _=>rfl)) ah (λ_ _=>rfl)) (aa (aD aJ (aD aJ (pv 6) ah (λ_ _=>rfl)) ah (λ_ _=>rfl)) af)))))))) (ao (aI qI)) aP)
   (ao (aI (aD aJ (pv 6) ah (λ_ _=>rfl)))))))),?_⟩
  have out:(¬(0<=i/\0<=j/\i<=(f.cps.size:Int)/\j<=(s.cps.size:Int)))->Q .jG H:=λz=>by
   refine kN (λq c e hi hj hq _=>z ?_) H (ak.refl H);have hp:=fk.mp (Z_.mp (Gd.rA.mp hq).1).1;rw[hi,hj];exact⟨qa4 _,qa4 _,qbq.mpr hp.1,qbq.mpr hp.2⟩
  refine⟨_,Y,b,_,_,_,Y,Y,bZ.of hb,Y,_,_,Y,Y,_,Y,b9 (λz=>om (out λy=>by omega)) λz1=>?_⟩;refine⟨_,Y,b,_,_,_,Y,Y,bZ.of hb,Y,_,_,Y,Y,_,Y,b9 (λz=>om (out λy=>by omega)) λz2=>?_⟩;refine⟨_,Y,b,_,_,_,Y,Y,bZ.of hb,Y,_,Y,_,_,Y,⟨lf,Y⟩,_,_,Y,Y,_,Y,b9 (λz=>om (out λy=>qcK.mpr y.2.2.1 z)) λz3=>?_⟩;refine⟨_,Y,b,_,_,_,Y,Y,bZ.of hb,Y,_,Y,_,_,Y,⟨ls,Y⟩,_,_,Y,Y,_,Y,b9 (λz=>out λy=>qcK.mpr y.2.2.2 z) λz4=>?_⟩;obtain⟨i,rfl⟩:=qbN (qcK.mp z1);obtain⟨j,rfl⟩:=qbN (qcK.mp z2);have hi:i<=f.cps.size:=qbq.mp (qcK.mp z3);have hj:j<=s.cps.size:=qbq.mp (qcK.mp z4);have one:∀{q:Nat×Nat} {c:Int} {e:aY},(i:Int)=(q.1:Int)->(j:Int)=(q.2:Int)->(q,mv.cps.toList,c,e)∈(b7 T1 m f s).pre (iQ m f.cps.size s.cps.size)->yE m ((i:Int),(j:Int))=true/\(b7 T1 m f s).walk (i,j,112) mv.cps.toList=some (c,e):=λ{q c e} h1 h2 h3=>by
   obtain⟨q1,q2⟩:=q;cases qcm h1;cases qcm h2;obtain⟨h4,h5⟩:=Gd.rA.mp h3;exact⟨(Z_.mp h4).2,h5⟩
  refine⟨_,Y,_,Y,_,Y,_,Y,_,Y,x,b,T1,m,f,s,mv,(i,j),Y,hP,of,os,f20,s20,RM,hb,λhw H2 s2=>?_,λc e hw r q H2 s2 _ hr hq=>?_⟩
  ·refine⟨_,Y,Y,_,Y,om (om (kN (λq c e h1 h2 h3 _=>?_) H2 s2))⟩;rw[(one h1 h2 h3).2]at hw;cases hw
  have hb2:=s2 _ _ hb;refine⟨_,Y,Y,_,Y,Jw (λz=>by cases z) ?_⟩;refine⟨_,Y,_,Y,b,_,_,_,Y,Y,bZ.of hb2,Y,_,Y,b,_,_,_,Y,Y,bZ.of hb2,Y,m,_,_,Y,hm,_,Y,?_⟩
  cases hB:yE m ((i:Int),(j:Int))with
  |false =>
   refine Lc (kN (λq c e h1 h2 h3 _=>?_) H2 s2);rw[hB]at one;exact y_ (one h1 h2 h3).1
  |true =>
   refine uM ?_;refine⟨_,Y,_,Y,_,Y,_,Y,r,_,_,_,Y,Y,bZ.of hr,Y,q,_,_,_,Y,Y,bZ.of hq,Y,_,Y,r,_,_,_,Y,Y,bZ.of hr,Y,q,_,_,_,Y,Y,bZ.of hq,Y,m,f,s,_,_,Y,hm,f20,s20,_,Y,?_⟩;have hin:((i,j),mv.cps.toList,c,e)∈(b7 T1 m f s).pre (iQ m f.cps.size s.cps.size):=Gd.rA.mpr ⟨Z_.mpr ⟨fk.mpr ⟨hi,hj⟩,hB⟩,hw⟩
   cases hE:Bc m f s ((e.1:Int),(e.2.1:Int))with
   |false =>
    refine Lc (kN (λq' c' e' h1 h2 h3 h4=>?_) H2 s2);have z:=(one h1 h2 h3).2;rw[hw]at z;cases z;exact y_ (hE.symm.trans h4)
   |true=>exact uM ⟨_,Y,r,_,_,_,Y,Y,bZ.of hr,Y,kk (i,j) c e Y Y hin hE H2 s2⟩
end
section
variable{P:r_}{w:I_}{K:PySem.W.Frag}{mg:v_->Option k_}{base:W_}
theorem uG {dJ gJ kK jd qw oH:U}{cY fF jo gG oz mj:F_}{p:Pm}(T:Txt K mg p w base)(cj:Dn K mg "_law_others_dearer" ia XF dJ cY)(cZ:Dn K mg "_law_mixed" pF Vd gJ fF)(uY:aH P w K mg base bL 1 gJ fF Vd DX)(gP:Dn K mg "_law_turned" qa XG kK jo)(Fe:aH P w K mg base bL 1 kK jo XG F2)(d8:Dn K mg "_law_cost" qH Vc jd gG)(wW:aH P w K mg base bL 5 jd gG Vc (Ax K p.aq))(iN:Dn K mg "_law_key" vg XI qw oz)(DO:aH P w K mg base bL 1 qw oz XI So)(jZ:Dn K mg "count_of" sY QD oH mj)(Kf:aH P w K mg base bL 8 oH mj QD (F9 P w K p.aq (Bf K))):aH P w K mg base bL 9 dJ cY XF (NX K p.aq (Bf K)):=by
 refine cj.fn.jg bB (λvs H Q E h=>?_) (λ_ _ _ _ H vs Q E hr h=>?_)
 ·obtain⟨s,pr,lr,r,ns,T1,f,g,m,X0,rfl,_⟩:=h;rfl
 ·obtain⟨s,pr,lr,r,ns,T1,f,g,m,X0,rfl,hS,hP,hT,hlr,of,og,hf,hg,hm,⟨b,c0,pb,hb,htr,hc0,Fp⟩,hX,kk⟩:=h;intro X;refine⟨_,(aj (Ol (i:=6) (j:=7) Y bB.nd Y Y (by decide) Y Y (aa (aD aJ (pv 4) ah (λ_ _=>rfl)) (aa (aD aJ (pv 4) ah (λ_ _=>rfl)) af)) (by rfl))
   (aj (Z9X 8 bB.nd (Aa (Pr:=P) (wo:=w) rfl rfl))
   (br (cV P_ rfl (xF rfl T.pq (aa (gD KS (pv 0) o7 (gj ah)) af)) (nA (n:=2) rfl (bC (Z9Y 9 bB.nd) (bC (Z9Y 10 bB.nd) i7))) (aj (Z9X 11 bB.nd (gc Fe hr gP (aa (gc uY hr cZ (aa (pv 10) (aa (aA bE (pv 9) ah) af))) (aa (pv 6) (aa (pv 7) af)))))
   (aj (Z9X 12 bB.nd (gc wW hr d8 (aa (pv 1) (aa (aD bK (pv 2) ah (λ_ _=>rfl)) (aa (aD bK (pv 2) ah (λ_ _=>rfl)) (aa (pv 3) (aa (aD aJ (pv 11) ah (λ_ _=>rfl)) (aa (aD aJ (pv 11) ah (λ_ _=>rfl)) af))))))))
   (ao (bH (aF K3 (pv 12) qI (by with_unfolding_all rfl)) (aj (wG (pv 11) (nA (n:=2) rfl (bC (Z9Y 6 bB.nd) (bC (Z9Y 7 bB.nd) i7))))
   (aj (bH (aF sy (pv 12) (pv 5) (aG _)) cX aP)
   (ao (bH (aF bM (pv 12) (pv 5) (aG _)) (ao (xE (Pr:=P) (wo:=w) (jR hr) (pv 8) (gc DO hr iN (aa (pv 6) (aa (pv 7) af))) Gv rfl rfl rfl)) aP)))) aP)))))
   (br (Z9X 13 bB.nd (gc DO hr iN (aa (aD aJ (pv 4) ah (λ_ _=>rfl)) (aa (aD aJ (pv 4) ah (λ_ _=>rfl)) af))))
   (br (xE (Pr:=P) (wo:=w) (jR hr) (pv 8) (pv 13) Gv rfl rfl rfl)
   (br (bH (aF (US (YC hr)) (aC (MW (K':=K) rfl rfl (YC hr)) rfl T.Fw BD (aa (jj (tR (Pr:=P) (wo:=w) rfl rfl rfl) rfl T.wg tU (aa (pv 8) af)) af)) (pv 13) (aG _)) cX aP)
   (ao (aI (b8 Xn (gc Kf hr jZ (aa (pv 1) (aa (aD bK (pv 2) ah (λ_ _=>rfl)) (aa (aD bK (pv 2) ah (λ_ _=>rfl)) (aa (pv 3) af))))) (aC (Hv (Pr:=P) (wo:=w) rfl rfl) rfl T.cB bA (aa (pv 8) af)) (aG _)))))))))),?_⟩
  obtain rfl:=hX b hb;have ok:=qP T1 m f g;obtain⟨e0,Ph,VF⟩:=FE (n:=f.cps.size) (k:=g.cps.size) ok rfl rfl hb;have S6:=λ{q:Nat×Nat} {mv:List Nat} {c:Int} {e:aY}=>adY (n:=f.cps.size) (k:=g.cps.size) hb (q:=q) (mv:=mv) (c:=c) (e:=e);have Jz:=λ{x:NK}=>Mx (n:=f.cps.size) (k:=g.cps.size) ok rfl rfl hb (x:=x);have hfew:=λ{ks:List NK}=>O4 (g:=b7 T1 m f g) (bs:=iQ m f.cps.size g.cps.size) (x:=(b7 T1 m f g).iP b) (ks:=ks);have hk0:((b.1:Int),(b.2:Int),sC ((b7 T1 m f g).moves (b.1,b.2,112)))∈((b7 T1 m f g).best (iQ m f.cps.size g.cps.size) ((b7 T1 m f g).iP b)).map Z5:=U_.mpr ⟨_,Hx Ph VF,rfl⟩;have hml:((b7 T1 m f g).moves (b.1,b.2,112)).length<=24:=p_ (Gd.vv _) (by show f.cps.size-b.1+(g.cps.size-b.2)<=24;omega);obtain⟨MV,eMV⟩:∃MV,(b7 T1 m f g).moves (b.1,b.2,112)=MV:=⟨_,rfl⟩;obtain⟨X0,eX⟩:∃X0,(b7 T1 m f g).iP b=X0:=⟨_,rfl⟩;rw[eMV]at htr hk0 hml;simp only[eMV,eX]at S6 Jz hfew hk0 Ph;obtain⟨BK,eBK⟩:∃BK,((b7 T1 m f g).best (iQ m f.cps.size g.cps.size) X0).map Z5=BK:=⟨_,rfl⟩;rw[eBK]at hk0;simp only[eBK]at Jz hfew;have inB:∀{q:Nat×Nat} {mv:List Nat} {e:aY},(q,mv,X0,e)∈(b7 T1 m f g).pre (iQ m f.cps.size g.cps.size)->(b7 T1 m f g).en e.1 e.2.1=true->((q.1:Int),(q.2:Int),sC mv)∈BK:=λh1 h2=>by rw[←eBK];exact U_.mpr ⟨_,Hx h1 h2,Y⟩
  rw[eX];refine⟨_,Y,r,_,_,_,Y,Y,bZ.of htr,Y,_,Y,r,_,_,_,Y,Y,bZ.of htr,Y,_,_,Y,λd hd=>?_⟩;have s1:ak H (L2.upd H d (wX P w d [])):=ak.upd hd;have e1:L2.upd H d (wX P w d []) d=some (wX P w d []):=ai;generalize L2.upd H d (wX P w d [])=H1 at s1 e1 ⊢;obtain⟨zs,ez,hz⟩:=Ho ns 63;refine⟨λσ H'=>R7 λv6 v7 v9 v10 v11 QK kvs=>σ=[some (.ref s),some (.ref pr),some (.ref lr),some (.str m),some (.ref r),some (.int X0),v6,v7,some (.ref d),v9,v10,v11,QK,none]/\ak H H'/\H' d=some (wX P w d kvs)/\kvs.length<=63/\(∀e∈kvs,fY (Wo d H') e.2.1 e.1)/\(kvs.map (·.1)).Nodup/\∀x∈kvs.map (·.1),x∈BK,?_,?_⟩
  ·refine⟨_,Y,_,Y,s,_,Y,ak.seq s1 hS,λp1 hp1=>?_⟩;have s2:=ak.upd (o:=.lst (zP (ns.map V.int) none (some 63))) hp1;have e2:L2.upd H1 p1 (.lst (zP (ns.map V.int) none (some 63))) p1=some (.lst (zs.map V.int)):=by rw[ai];exact congrArg (λx=>some (HO.lst x)) ez
   have e3:=s2 _ _ e1;have n1:p1≠d:=λz=>by rw[z,e1]at hp1;cases hp1
   generalize L2.upd H1 p1 (.lst (zP (ns.map V.int) none (some 63)))=H2 at s2 e2 e3 ⊢;have Cb:=s1.trans s2;have wt:∀{H':Hp} {kvs:List NE} {a:U} {xs:List V},H' d=some (wX P w d kvs)->H' a=some (.tup xs)->Wo d H' a=some (.tup xs):=λ{H' kvs a xs} h1 h2=>Wo.in (λz=>by rw[z,h1]at h2;cases h2) h2;refine⟨.lst p1,_,Y,bW.of e2,?_⟩;refine uN (K:=K) (c:=.lst p1) (xs:=zs.map V.int) (λi σ H3=>Wz λWg i' j' mv v9 v10 v11 QK kvs=>σ=[some (.ref s),some (.ref pr),some (.ref lr),some (.str m),some (.ref r),some (.int X0),some (.ref Wg),some (.str mv),some (.ref d),v9,v10,v11,QK,none]/\ak H H3/\H3 p1=some (.lst (zs.map V.int))/\H3 Wg=some (.tup [.int i',.int j'])/\mv.cps.size<=24+i/\H3 d=some (wX P w d kvs)/\kvs.length<=i/\(∀e∈kvs,fY (Wo d H3) e.2.1 e.1)/\(kvs.map (·.1)).Nodup/\∀x∈kvs.map (·.1),x∈BK)
    ⟨pb,_,_,_,_,_,_,_,[],rfl,Cb,e2,Cb _ _ Fp,by rw[K_];exact hml,e3,j_ _,(λe he=>nomatch he),qbg,λx hx=>nomatch hx⟩ (λi σ H3 _ ⟨_,_,_,_,_,_,_,_,_,_,_,h3,_⟩=>bW.of h3) ?_ ?_
   ·rintro i y q σ H3 hy hq ⟨Wg,i',j',mv,v9,v10,v11,QK,kvs,rfl,s3,hp3,hb3,RM,B0,JB,hkeys,hnd,hsub⟩;rw[O_]at hy;obtain⟨c,hc,rfl⟩:=qac.mp hy;have hi:i<63:=H_ (o_.mp hc).1 hz;have s4:=ak.upd (o:=.tup [.int (i:Int),.int c]) hq;refine⟨_,_,Y,bZ.of ai,Y,_,_,Y,_,_,Y,Y,?_⟩;generalize L2.upd H3 q (.tup [.int (i:Int),.int c])=H4 at s4 ⊢;refine⟨_,Y,_,Y,_,_,Y,Y,c,_,Y,(by show(0:Int)<=(i:Int)+1;omega),(by show(i:Int)+1<=100;omega),λmm hmm=>?_⟩;refine⟨_,Y,_,Y,mm,Wg,i',j',mv,Y,hmm,s4 _ _ hb3,by omega,λr2 p2 i2 j2 U4 H5 s5 hr2 hp2 hl2=>?_⟩;have Q2:=s4.trans s5;have s05:=s3.trans Q2;have YL:=s05 _ _ hlr;refine⟨_,Y,_,Y,lr,_,_,_,Y,Y,bW.of YL,Y,_,Y,lr,_,_,_,Y,Y,bW.of YL,Y,_,Y,_,Y,r2,_,_,_,Y,Y,bZ.of hr2,Y,_,Y,r2,_,_,_,Y,Y,bZ.of hr2,Y,pr,p2,T1,f,g,m,U4,i2,j2,Y,hP.same s05,of,og,hf,hg,by omega,hm,hp2,λ_ H6 s6=>?_,λq c e hi2 hj2 hin hen H6 s6=>?_⟩
    ·have N5:=Q2.trans s6;refine⟨_,Y,Y,_,Y,uM ?_⟩;exact⟨Wg,i',j',mv,_,_,_,_,kvs,Y,s3.trans N5,N5 _ _ hp3,N5 _ _ hb3,qbj RM,N5 _ _ B0,qbj JB,λe he=>fY.same (hkeys e he) (Wo.same N5),hnd,hsub⟩
    have N5:=Q2.trans s6;have hr6:=s6 _ _ hr2;have Wk:=s6 _ _ hp2;have VH:=N5 _ _ B0;have hle:=S6 hin hen;refine⟨_,Y,Y,_,Y,Lc ?_⟩;refine⟨_,Y,_,_,Y,bZ.of hr6,Y,_,_,Y,_,_,Y,Y,?_⟩;refine⟨_,Y,_,Y,_,_,Y,Y,_,Y,Jw (qcK.mpr hle) ?_⟩;refine⟨_,Y,_,Y,Y,_,Y,jQ (λec=>?_) λ_=>?_⟩
    ·subst ec;refine⟨_,Y,_,Y,_,Y,p2,U4,Y,by omega,λrk H7 s7 hrk=>?_⟩;have s37:=N5.trans s7;have Vw:=s7 _ _ Wk;have S7:=s7 _ _ VH;have hka:fY (Wo d H7) rk ((q.1:Int),(q.2:Int),sC U4.cps.toList):=⟨p2,wt S7 hrk,by rw[←hi2,←hj2];exact wt S7 Vw⟩;have hk7:∀e∈kvs,fY (Wo d H7) e.2.1 e.1:=λe he=>fY.same (hkeys e he) (Wo.same s37);refine⟨d,kvs,((q.1:Int),(q.2:Int),sC U4.cps.toList),rk,Y,Y,⟨S7,λe he=>fY.same (hk7 e he) Wo.sub⟩,fY.same hka Wo.sub,w_ JB (qcd hi (by decide)),?_⟩;have sw:ak (Wo d H7) (Wo d (L2.upd H7 d (wX P w d (qK kvs ((q.1:Int),(q.2:Int),sC U4.cps.toList) rk (.bl true))))):=by rw[Wo.set];exact ak.refl _
     refine⟨p2,i2,j2,U4,_,_,_,_,_,Y,ak.at (s3.trans s37) hd,by rw[av n1];exact s37 _ _ hp3,Wo.sub _ _ (sw _ _ (wt S7 Vw)),by omega,ai,p_ (xJ _ _ _ _) (qar JB),λe he=>fY.same (vt hk7 hka e he) sw,(EA hnd).1,λx hx=>?_⟩;obtain⟨z,hz,rfl⟩:=U_.mp hx;rcases GJ hz with e|⟨y,hy,e⟩
     ·rw[e];exact inB hin hen
     ·rw[←e];exact hsub _ (U_.mpr ⟨y,hy,Y⟩)
    ·exact⟨p2,i2,j2,U4,_,_,_,_,kvs,Y,s3.trans N5,N5 _ _ hp3,Wk,by omega,VH,qbj JB,λe he=>fY.same (hkeys e he) (Wo.same N5),hnd,hsub⟩
   ·rintro σ H3 ⟨Wg,i',j',mv,v9,v10,v11,QK,kvs,rfl,s3,hp3,hb3,RM,B0,JB,hkeys,hnd,hsub⟩;rw[l_]at JB;exact⟨_,_,_,_,_,_,kvs,Y,s3,B0,p_ JB hz,hkeys,hnd,hsub⟩
  rintro σ H3 ⟨v6,v7,v9,v10,v11,QK,kvs,rfl,s3,B0,JB,hkeys,hnd,hsub⟩;have wt:∀{H':Hp} {kvs:List NE} {a:U} {xs:List V},H' d=some (wX P w d kvs)->H' a=some (.tup xs)->Wo d H' a=some (.tup xs):=λ{H' kvs a xs} h1 h2=>Wo.in (λz=>by rw[z,h1]at h2;cases h2) h2;have YD:=s3 _ _ htr;refine⟨λσ H'=>∃rk,σ=[some (.ref s),some (.ref pr),some (.ref lr),some (.str m),some (.ref r),some (.int X0),v6,v7,some (.ref d),v9,v10,v11,QK,some (.ref rk)]/\ak H3 H'/\fY (Wo d H') rk ((b.1:Int),(b.2:Int),sC MV),?_,?_⟩
  ·refine⟨_,Y,r,_,_,_,Y,Y,bZ.of YD,Y,_,Y,r,_,_,_,Y,Y,bZ.of YD,Y,pb,_,Y,by show MV.toArray.size<=1000;rw[K_];omega,λrk H4 s4 hrk=>⟨rk,Y,s4,pb,wt (s4 _ _ B0) hrk,wt (s4 _ _ B0) (s4 _ _ (s3 _ _ Fp))⟩⟩
  rintro σ H4 ⟨rk,rfl,s4,hka⟩;have Q3:=s3.trans s4;have MH:=s4 _ _ B0;have hk4:∀e∈kvs,fY (Wo d H4) e.2.1 e.1:=λe he=>fY.same (hkeys e he) (Wo.same s4);refine⟨λσ H'=>∃Ad,σ=[some (.ref s),some (.ref pr),some (.ref lr),some (.str m),some (.ref r),some (.int X0),v6,v7,some (.ref d),v9,v10,v11,QK,some (.ref rk)]/\ak H H'/\H' d=some (wX P w d Ad)/\(∀e∈Ad,fY (Wo d H') e.2.1 e.1)/\fY (Wo d H') rk ((b.1:Int),(b.2:Int),sC MV)/\(Ad.map (·.1)).Nodup/\((b.1:Int),(b.2:Int),sC MV)∈Ad.map (·.1)/\∀x∈Ad.map (·.1),x∈BK,?_,?_⟩
  ·refine⟨_,Y,_,Y,d,kvs,((b.1:Int),(b.2:Int),sC MV),rk,Y,Y,⟨MH,λe he=>fY.same (hk4 e he) Wo.sub⟩,fY.same hka Wo.sub,w_ JB (by decide),?_⟩;have sw:ak (Wo d H4) (Wo d (L2.upd H4 d (wX P w d (qK kvs ((b.1:Int),(b.2:Int),sC MV) rk (.bl true))))):=by rw[Wo.set];exact ak.refl _
   refine⟨_,Y,ak.at Q3 hd,ai,λe he=>fY.same (vt hk4 hka e he) sw,fY.same hka sw,(EA hnd).1,(EA hnd).2,λx hx=>?_⟩;obtain⟨z,hz,rfl⟩:=U_.mp hx;rcases GJ hz with e|⟨y,hy,e⟩
   ·rw[e];exact hk0
   ·rw[←e];exact hsub _ (U_.mpr ⟨y,hy,Y⟩)
  rintro σ H5 ⟨Ad,rfl,s5,JC,hk5,ads,Vz,YS,hsub2⟩;have nd5:ND P w H5 d Ad:=⟨JC,λe he=>fY.same (hk5 e he) Wo.sub⟩;refine⟨λσ H'=>σ=[some (.ref s),some (.ref pr),some (.ref lr),some (.str m),some (.ref r),some (.int X0),v6,v7,some (.ref d),v9,v10,v11,QK,some (.ref rk)]/\ak H5 H',?_,?_⟩
  ·refine⟨_,Y,d,Ad,Y,nd5,λl hl=>?_⟩;have s6:=ak.upd (o:=.lst (Ad.map λx=>.ref x.2.1)) hl;have pp:=Dk λe he=>fY.same (fY.same (hk5 e he) Wo.sub) s6;refine⟨l,Ad.map (·.2.1),Ad.map (·.1),Y,bW.of (by rw[ai,qaL];rfl),pp,?_,λix a ka ha YR hmin=>?_⟩
   ·rw[l_];have:=List.length_pos_of_mem YS
    rwa [l_]at this
   have eka:ka=((b.1:Int),(b.2:Int),sC MV):=by
    obtain⟨i1,i2,i3⟩:=OR (Jz (hsub2 _ (A_ YR))) (hmin _ YS);exact Prod.ext i1 (Prod.ext i2 (UG i3))
   subst eka;obtain⟨k',hk',adt⟩:=GP.Paired.at pp ha;rw[YR]at hk';cases hk';exact⟨_,Y,a,rk,_,Y,Y,adt,fY.same (fY.same ads Wo.sub) s6,_,Y,gF ⟨Y,s6⟩⟩
  rintro σ H6 ⟨rfl,s6⟩;have UN:=s5.trans s6;have Pe:=UN _ _ hlr;refine⟨_,Y,_,Y,lr,_,_,_,Y,Y,bW.of Pe,Y,_,Y,lr,_,_,_,Y,Y,bW.of Pe,Y,_,Y,pr,T1,f,g,m,Y,hP.same UN,hT.same UN,of,og,hm,hf,hg,λb2 H7 lo7 hb2=>?_⟩;rw[hb]at hb2;cases hb2;refine⟨_,Y,d,Ad,Y,lo7.nk (ND.same nd5 s6),_,_,Y,Y,?_⟩;have Pn:=hfew Vz hsub2;rw[l_]at Pn;rw[eX];show Q (.bl (decide (((Ad.length:Nat):Int)<=(((b7 T1 m f g).tot (iQ m f.cps.size g.cps.size) X0:Nat):Int)))) H7;rw[decide_eq_true (qbq.mpr Pn)];exact kk H7 lo7.lt
end
section
variable{P:r_}{w:I_}{K:PySem.W.Frag}{mg:v_->Option k_}{base:W_}
theorem UT {Dz kL kM bP oG oJ jd fz g8 sL dJ:U}{PB jq jr bD mh jS gG dO fK qt cY:F_}{p:Pm}(T:Txt K mg p w base)(Qt:Dn K mg "law" vJ Wi Dz PB)(gQ:Dn K mg "_law_prices" qb l6 kL jq)(Ff:aH P w K mg base bL 7 kL jq l6 (Dd K p.aq))(gT:Dn K mg "_law_manner" qc ["_law_m"] kM jr)(Fg:aH P w K mg base bL 1 kM jr ["_law_m"] F7)(aT:Dn K mg "_law_next" i6 l6 bP bD)(gg:aH P w K mg base bL 1 bP bD l6 (wu K))(jY:Dn K mg "_law_both" sX XH oG mh)(Ke:aH P w K mg base bL 2 oG mh XH (F4 K))(j3:Dn K mg "cheapest" sZ QD oJ jS){Ar:qcN}(BZ:Binds K jS QD [.str (h_ "whole") Ar])(Kg:aH P w K mg base bL 8 oJ jS QD (Gb P w K p.aq (Bf K)))(d8:Dn K mg "_law_cost" qH Vc jd gG)(wW:aH P w K mg base bL 5 jd gG Vc (Ax K p.aq))(cA:Dn K mg "in_units" nW RB fz dO)(qR:aH P w K mg base bL 2 fz dO RB (vc K p.aq))(cy:Dn K mg "_law_same" qG SJ g8 fK)(tX:aH P w K mg base bL 3 g8 fK SJ (z7 K 2))(pL:Dn K mg "halved" xC QC sL qt)(Qo:aH P w K mg base bL 10 sL qt QC (KH K p.aq))(cj:Dn K mg "_law_others_dearer" ia XF dJ cY)(vH:aH P w K mg base bL 9 dJ cY XF (NX K p.aq (Bf K))):aH P w K mg base bL 12 Dz PB Wi (DY K (Bf K)):=by
 refine Qt.fn.jg wA (λvs H Q E h=>?_) (λ_ _ _ _ H vs Q E hr h=>?_)
 ·obtain⟨s,ns,rfl,_⟩:=h;rfl
 ·obtain⟨s,ns,rfl,ha,hl,hT,kk⟩:=h;intro X;refine⟨_,(aj (Z9X 1 wA.nd (ie (aa ah af)))
   (aj (Z9X 2 wA.nd (gc Ff hr gQ (aa (pv 0) (aa (pv 1) af))))
   (br (Z9X 3 wA.nd (gc Fg hr gT (aa (gc gg hr aT (aa (pv 0) (aa (pv 1) af))) af)))
   (br (Z9X 4 wA.nd (gc Ke hr jY (aa (pv 0) (aa (eK (pv 2) rfl) af))))
   (br (Z9X 5 wA.nd (gc Kg hr j3 (aa (pv 2) (aa (aD bK (pv 4) ah (λ_ _=>rfl)) (aa (aD bK (pv 4) ah (λ_ _=>rfl)) (aa (pv 3) af))))))
   (br (Z9X 6 wA.nd (gc wW hr d8 (aa (pv 2) (aa (aD bK (pv 4) ah (λ_ _=>rfl)) (aa (aD bK (pv 4) ah (λ_ _=>rfl)) (aa (pv 3) (aa (aD aJ (pv 5) ah (λ_ _=>rfl)) (aa (aD aJ (pv 5) ah (λ_ _=>rfl)) af))))))))
   (br (bH (PW.pt (vK (aF Ek (pv 6) qI (by with_unfolding_all rfl)) (uE (wD (kY (gc tX hr cy (aa (aD aJ (pv 5) ah (λ_ _=>rfl)) (aa (gc qR hr cA (aa (pv 2) (aa (pv 6) af))) af)))))))) cX aP)
   (br (bH (PW.pt (rK (aF bM (pv 3) aS (aG _)) (qi (wD (kY (gc tX hr cy (aa (gc Qo hr pL (aa (pv 2) (aa (aD bK (pv 4) ah (λ_ _=>rfl)) (aa (aD bK (pv 4) ah (λ_ _=>rfl)) af)))) (aa (pv 5) af)))))))) cX aP)
   (ao (aI (gc vH hr cj (aa (pv 0) (aa (pv 2) (aa (pv 4) (aa (pv 3) (aa (pv 5) (aa (pv 6) af))))))))))))))))),?_⟩
  refine⟨b_,λt ht=>?_⟩;have hC:B3 K (upd H t (.lst [.int 0])) s t ns 0:=by
   refine⟨?_,hl,ai,by decide⟩;rw[Wo.set];exact ak.seq (λb u e=>Wo.in (aX e ht) e) ha
  have hT0:LT (Bf K) (upd H t (.lst [.int 0])):=hT.same (ak.upd ht);generalize upd H t (.lst [.int 0])=H0 at hC hT0 ⊢;refine⟨_,Y,_,Y,s,t,ns,0,Y,hC,by decide,λx H1 k1 T1 hP1 h4 hx w1 ht1 k11 k12=>?_⟩;have C1:=hC.off w1 ht1 k11;refine⟨λσ H2=>∃m,rB m=true/\σ=[some (.ref s),some (.ref t),some (.ref x),some (.str m),none,none,none]/\ak (Wo t H1) (Wo t H2)/\H2 t=some (.lst [.int (k1+1)]),?_,?_⟩
  ·exact⟨_,Y,_,Y,s,t,ns,k1,Y,C1,by omega,λm0 hm0 _=>⟨m0,Y,hm0,λm H2 hm s2=>⟨m,hm,Y,Wo.step s2,s2 _ _ ai⟩⟩⟩
  rintro σ H2 ⟨m,hm,rfl,w2,YE⟩;have C2:=C1.off w2 YE (by omega);have hT2:=hT0.step hC.at_ (w1.trans w2);have Wr:=(hP1.same w2).same Wo.sub;refine⟨λσ H3=>nN λlr f g=>σ=[some (.ref s),some (.ref t),some (.ref x),some (.str m),some (.ref lr),none,none]/\Of T1.1 f/\Of T1.1 g/\f.cps.size<=12/\g.cps.size<=12/\ak H2 H3/\H3 lr=some (.lst [.str f,.str g]),?_,?_⟩
  ·obtain⟨sig,_,_,_,_,_,_,dx,Pp,o,mo,d,kvs,YB,_⟩:=id Wr;exact⟨_,Y,_,Y,x,_,dx,_,_,Y,YB,T.bI,T.nD,Bt,s,ns,T1.1,Y,C2.scr,sig.1,sig.2.1,λlr f g H3 of og hf hg s3 hlr=>⟨lr,f,g,Y,of,og,hf,hg,s3,hlr⟩⟩
  rintro σ H3 ⟨lr,f,g,rfl,of,og,hf,hg,s3,hlr⟩;have hS3:=ak.seq s3 C2.scr;have hP3:=Wr.same s3;refine⟨λσ H4=>∃r,σ=[some (.ref s),some (.ref t),some (.ref x),some (.str m),some (.ref lr),some (.ref r),none]/\Lo P w (Bf K) H3 H4/\CV H4 r T1 m f g,?_,?_⟩
  ·exact⟨_,Y,_,Y,lr,_,_,_,Y,Y,bW.of hlr,Y,_,Y,lr,_,_,_,Y,Y,bW.of hlr,Y,_,Y,x,T1,f,g,m,Y,hP3,hT2.same s3,of,og,hm,hf,hg,λr H4 QA _ ch=>⟨r,Y,QA,ch⟩⟩
  rintro σ H4 ⟨r,rfl,QA,ch⟩;obtain⟨b,c0,pb,hb,htr,hc0,Fp⟩:=id ch;obtain⟨e0,Ph,VF⟩:=FE (n:=f.cps.size) (k:=g.cps.size) (qP T1 m f g) rfl rfl hb;have RN:=QA.nx _ _ (Nt.lst hlr);have VL:=QA.pr hP3;have hS4:=QA.seq hS3;have hT4:=QA.lt;refine⟨λσ H5=>σ=[some (.ref s),some (.ref t),some (.ref x),some (.str m),some (.ref lr),some (.ref r),some (.int ((b7 T1 m f g).iP b))]/\ak H4 H5,?_,?_⟩
  ·refine⟨_,Y,_,Y,lr,_,_,_,Y,Y,bW.of RN,Y,_,Y,lr,_,_,_,Y,Y,bW.of RN,Y,_,Y,_,Y,r,_,_,_,Y,Y,bZ.of htr,Y,_,Y,r,_,_,_,Y,Y,bZ.of htr,Y,x,pb,T1,f,g,m,_,_,_,Y,VL,of,og,hf,hg,?_,hm,Fp,λhno=>(hno b _ e0 Y Y Ph VF).elim,λq c e h1 h2 h3 _ H5 s5=>?_⟩
   ·show(((b7 T1 m f g).moves (b.1,b.2,112)).toArray).size<=1000;rw[K_];exact p_ (Gd.vv _) (by show f.cps.size-b.1+(g.cps.size-b.2)<=1000;omega)
   ·obtain⟨q1,q2⟩:=q;obtain⟨b1,b2⟩:=b;cases qcm h1;cases qcm h2;have z:some (c,e)=some ((b7 T1 m f g).iP (q1,q2),e0):=(Gd.rA.mp h3).2.symm.trans (Gd.rA.mp Ph).2;cases z;exact⟨Y,s5⟩
  rintro σ H5 ⟨rfl,s5⟩;refine⟨λσ H6=>σ=[some (.ref s),some (.ref t),some (.ref x),some (.str m),some (.ref lr),some (.ref r),some (.int ((b7 T1 m f g).iP b))]/\ak H4 H6,?_,?_⟩
  ·refine⟨_,Y,Y,_,Y,Jw (λz=>by cases z) ?_⟩;refine⟨_,Y,r,_,_,_,Y,Y,bZ.of (s5 _ _ htr),Y,_,Y,_,Y,x,_,T1.1,T1.2.1,T1.2.2.1,T1.2.2.2,Y,VL.same s5,λq H6 s6 _ hq=>?_⟩;exact⟨_,_,Y,DQ.of (bZ.of (s6 _ _ (s5 _ _ hc0))) (bZ.of hq) (by show 2<=100;decide) (.cons .int (.cons .int .nil)),λH7 s7=>⟨_,Y,uM ⟨Y,(s5.trans s6).trans s7⟩⟩⟩
  rintro σ H6 ⟨rfl,s6⟩;refine⟨λσ H7=>σ=[some (.ref s),some (.ref t),some (.ref x),some (.str m),some (.ref lr),some (.ref r),some (.int ((b7 T1 m f g).iP b))]/\ak H4 H7,?_,?_⟩
  ·refine⟨_,Y,Y,_,Y,uf (λhw=>?_) λ_=>gF ⟨Y,s6⟩⟩;subst hw;have Pe:=s6 _ _ RN;refine⟨_,Y,_,Y,lr,_,_,_,Y,Y,bW.of Pe,Y,_,Y,lr,_,_,_,Y,Y,bW.of Pe,Y,x,T1,f,g,Y,VL.same s6,of,og,hf,hg,λr1 H7 s7 ch1=>?_⟩;have s67:=s6.trans s7;exact⟨_,Y,_,_,Y,ch1.eq (ch.same s67),λH8 s8=>⟨_,Y,uM ⟨Y,s67.trans s8⟩⟩⟩
  rintro σ H7 ⟨rfl,s7⟩;exact⟨_,Y,_,Y,_,Y,_,Y,_,Y,_,Y,s,x,lr,r,ns,T1,f,g,m,_,Y,ak.seq s7 hS4,VL.same s7,hT4.same s7,s7 _ _ RN,of,og,hf,hg,hm,ch.same s7,λb' hb'=>by rw[hb]at hb';cases hb';rfl,kk⟩
end
def jF(K:PySem.W.Frag)(x y:v_)(s:qam):Prop:=HA λf oc od sl kV dc pm an cd ct=>PySem.W.nsIn K J_ x=some (some (.ref f))/\K.lookup f=some ⟨oc,od,.func (PySem.W.fnOf y y (je s) (fH s) (au s) .none kV dc pm an cd ct),sl⟩/\PySem.W.codeIn K cd y=true/\PySem.W.keepIn K (.ref f)=true
theorem jF.mk{K:PySem.W.Frag}{x y:v_}{s:qam}{f:U}{oc kV dc pm cd ct:k_}{od an:Option U}{sl:Array (Option k_)}(a:PySem.W.nsIn K J_ x=some (some (.ref f)))(l:K.lookup f=some ⟨oc,od,.func (PySem.W.fnOf y y (je s) (fH s) (au s) .none kV dc pm an cd ct),sl⟩)(c:PySem.W.codeIn K cd y=true)(k:PySem.W.keepIn K (.ref f)=true):jF K x y s:=⟨f,oc,od,sl,kV,dc,pm,an,cd,ct,a,l,c,k⟩
theorem XD{α:Type}{l:List α}(h:l.length=7):R7 λa b c d e f g=>l=[a,b,c,d,e,f,g]:=by
 match l,h with
 |[a,b,c,d,e,f,g],_=>exact⟨a,b,c,d,e,f,g,Y⟩
theorem Ze{K:PySem.W.Frag}{h:W_}{mg:v_->Option k_}{x y:v_}{s:qam}{ps:List v_}(X:K.In h)(G:h.Ns J_ mg)(d:jF K x y s)(b:∀(kV doc pm:k_) (an:Option U) (cdv ct:k_) (us:List k_),us.length=ps.length->bindArgs (PySem.W.fnOf y y (je s) (fH s) (au s) .none kV doc pm an cdv ct) ⟨us,[]⟩=pure (ps.zip us):=by intro _ _ _ _ _ _ us hl;first|(obtain⟨_,rfl⟩:=GP.Rw hl;exact Y)|(obtain⟨_,_,rfl⟩:=GP.Vb hl;exact Y)|(obtain⟨_,_,_,rfl⟩:=GP.Rv hl;exact Y)|(obtain⟨_,_,_,_,rfl⟩:=GP.Ru hl;exact Y)|(obtain⟨_,_,_,_,_,rfl⟩:=GP.O0 hl;exact Y)|(obtain⟨_,_,_,_,_,_,rfl⟩:=GP.XE hl;exact Y)|(obtain⟨_,_,_,_,_,_,_,rfl⟩:=XD hl;exact Y)):dP λf fd=>Da K mg x y s ps f fd:=by
 obtain⟨f,oc,od,sl,kV,dc,pm,an,cd,ct,a,l,c,k⟩:=d;exact⟨f,_,Br l c k,Binds.all (b kV dc pm an cd ct),PySem.W.mg_of X G a⟩
theorem bx{K:PySem.W.Frag}{h:W_}{mg:v_->Option k_}{x:v_}{s:qam}{ps:List v_}(X:K.In h)(G:h.Ns J_ mg)(d:jF K x x s)(b:∀(kV doc pm:k_) (an:Option U) (cdv ct:k_) (us:List k_),us.length=ps.length->bindArgs (PySem.W.fnOf x x (je s) (fH s) (au s) .none kV doc pm an cdv ct) ⟨us,[]⟩=pure (ps.zip us):=by intro _ _ _ _ _ _ us hl;first|(obtain⟨_,rfl⟩:=GP.Rw hl;exact Y)|(obtain⟨_,_,rfl⟩:=GP.Vb hl;exact Y)|(obtain⟨_,_,_,rfl⟩:=GP.Rv hl;exact Y)|(obtain⟨_,_,_,_,rfl⟩:=GP.Ru hl;exact Y)|(obtain⟨_,_,_,_,_,rfl⟩:=GP.O0 hl;exact Y)|(obtain⟨_,_,_,_,_,_,rfl⟩:=GP.XE hl;exact Y)|(obtain⟨_,_,_,_,_,_,_,rfl⟩:=XD hl;exact Y)):dP λf fd=>Dn K mg x s ps f fd:=by
 obtain⟨f,fd,e⟩:=Ze X G d b;exact⟨f,fd,e.fn,e.b,e.m⟩
theorem jF.ns{K:PySem.W.Frag}{h:W_}{mg:v_->Option k_}{x y:v_}{s:qam}(d:jF K x y s)(X:K.In h)(G:h.Ns J_ mg):∀f,mg x=some (.ref f)->PySem.W.nsIn K J_ x=some (some (.ref f)):=λf hf=>by
 obtain⟨f',oc,od,sl,kV,dc,pm,an,cd,ct,a,_⟩:=d;have e:=(PySem.W.mg_of X G a).symm.trans hf;cases e;exact a
def ZM(K:PySem.W.Frag)(x:v_)(s:qam)(v:v_):Prop:=Zo λf oc od sl D u Xq n sl2 kV dc pm an cd ct=>PySem.W.nsIn K J_ x=some (some (.ref f))/\K.lookup f=some ⟨oc,od,.func (PySem.W.fnOf x x (je s) (fH s) (au s) (.ref D) kV dc pm an cd ct),sl⟩/\PySem.W.codeIn K cd x=true/\PySem.W.keepIn K (.ref f)=true/\K.lookup D=some ⟨.type "tuple",Xq,.seq #[.str v u] n,sl2⟩
theorem ZM.mk {K:PySem.W.Frag}{x v:v_}{s:qam}{f D:U}{oc kV dc pm cd ct:k_}{od Xq an:Option U}{sl sl2:Array (Option k_)}{u:qcN}{n:Nat}(a:PySem.W.nsIn K J_ x=some (some (.ref f)))(l:K.lookup f=some ⟨oc,od,.func (PySem.W.fnOf x x (je s) (fH s) (au s) (.ref D) kV dc pm an cd ct),sl⟩)(c:PySem.W.codeIn K cd x=true)(k:PySem.W.keepIn K (.ref f)=true)(e:K.lookup D=some ⟨.type "tuple",Xq,.seq #[.str v u] n,sl2⟩):ZM K x s v:=⟨f,oc,od,sl,D,u,Xq,n,sl2,kV,dc,pm,an,cd,ct,a,l,c,k,e⟩
theorem VU{K:PySem.W.Frag}{h:W_}{mg:v_->Option k_}{x v a1 a2 a3 a4:v_}{s:qam}(X:K.In h)(G:h.Ns J_ mg)(d:ZM K x s v)
  (b:∀(D:U) (kV doc pm:k_) (an:Option U) (cdv ct v1 v2 v3 v4:k_) (sh:n_) (o:qa9) (u:qcN) (n:Nat),sh.heap.get? D=some o->o.data= .seq #[.str v u] n->BindsTo sh (PySem.W.fnOf x x (je s) (fH s) (au s) (.ref D) kV doc pm an cdv ct) ⟨[v1,v2,v3,v4],[]⟩ [(a1,v1),(a2,v2),(a3,v3),(a4,v4)]:=by intro _ _ _ _ _ _ _ _ _ _ _ _ _ _ _ ho hs;exact BindsTo.of_defaults Y ho hs Y Y)
  (b2:∀(D:U) (kV doc pm:k_) (an:Option U) (cdv ct v1 v2 v3:k_) (sh:n_) (o:qa9) (u:qcN) (n:Nat),sh.heap.get? D=some o->o.data= .seq #[.str v u] n->BindsTo sh (PySem.W.fnOf x x (je s) (fH s) (au s) (.ref D) kV doc pm an cdv ct) ⟨[v1,v2,v3],[]⟩ [(a1,v1),(a2,v2),(a3,v3),(a4,.str v u)]:=by intro _ _ _ _ _ _ _ _ _ _ _ _ _ _ ho hs;exact BindsTo.of_defaults Y ho hs Y Y):nN λf fd u=>Dn K mg x s [a1,a2,a3,a4] f fd/\Binds K fd [a1,a2,a3,a4] [.str v u]:=by
 obtain⟨f,oc,od,sl,D,u,Xq,n,sl2,kV,dc,pm,an,cd,ct,a,l,c,k,e⟩:=d;refine⟨f,_,u,⟨Br l c k,λsh us hX hl=>?_,PySem.W.mg_of X G a⟩,λsh us hX hl=>?_⟩
 ·rw[qaB]at hl ⊢;obtain⟨v1,v2,v3,v4,rfl⟩:=GP.Ru hl;exact b D kV dc pm an cd ct v1 v2 v3 v4 sh _ u n (hX _ _ e) Y
 ·obtain⟨v1,v2,v3,rfl⟩:=GP.Rv (show us.length=3 by rw[G_]at hl;exact Nat.succ.inj hl);exact b2 D kV dc pm an cd ct v1 v2 v3 sh _ u n (hX _ _ e) Y
theorem all_mk {l:PySem.W.OpenLaw}{w:I_}{K:PySem.W.Frag}{h:W_}{mg:v_->Option k_}{fa:U}(X:K.In h)(G:h.Ns J_ mg)(hfa:mg "law" =some (.ref fa))
  {pT:qcN}
  {qS:qcN}
  {lV:U} {GH:Option U} {Jp:Nat} {Gg:Array (Option k_)} {FP FO FN:qcN}
  {oN:U} {Ji:Option U} {Mh:Nat} {IL:Array (Option k_)} {IE ID IC IB:qcN}
  {nM:U} {PJ:Nat} {lz ly k9:U} {FL FJ FH:qcN}
  {Mb:Option U} {OH:Nat} {LU:Array (Option k_)} {Iu Ir:qcN}
  {Ma:Option U} {OG:Nat} {LS:Array (Option k_)} {Iq Ip:qcN}
  {L8:Option U} {OF:Nat} {LR:Array (Option k_)} {Io Im:qcN}
  {lW:U} {Rk:Option U} {U3:Nat} {QY:Array (Option k_)} {QV QU QT:qcN}
  {aq:U}
  {aR:U}
  (u0:ue K "first_begin" =true)
  (u1:ue K "state_behind" =true)
  (u2:PySem.W.nsIn K J_ "FIRST_SIGN" =some (some (.int 32 pT)))
  (u3:PySem.W.nsIn K J_ "LAST_SIGN" =some (some (.int 126 qS)))
  (u4:PySem.W.nsIn K J_ "NO_SIGNS" =some (some (.ref lV)))
  (u5:K.lookup lV=some ⟨.type "tuple",GH,.seq #[.int 34 FP,.int 37 FO,.int 45 FN] Jp,Gg⟩)
  (u6:PySem.W.nsIn K J_ "MANNERS" =some (some (.ref oN)))
  (u7:K.lookup oN=some ⟨.type "tuple",Ji,.seq #[.str (h_ "whole") IE,.str (h_ "within") ID,.str (h_ "over") IC,.str (h_ "stretch") IB] Mh,IL⟩)
  (u8:PySem.W.nsIn K J_ "STEPS" =some (some (.ref nM)))
  (u9:K.lookup nM=some { cls:=.type "dict",data:=.dict #[⟨PySem.PyData.keyHash w.params (h_ "p"),.str (h_ "p") FL,.ref lz⟩,⟨PySem.PyData.keyHash w.params (h_ "a"),.str (h_ "a") FJ,.ref ly⟩,⟨PySem.PyData.keyHash w.params (h_ "b"),.str (h_ "b") FH,.ref k9⟩] PJ })
  (u10:(nM==sysModules)=false)
  (u11:K.lookup lz=some ⟨.type "tuple",Mb,.seq #[.int 1 Iu,.int 1 Ir] OH,LU⟩)
  (u12:K.lookup ly=some ⟨.type "tuple",Ma,.seq #[.int 1 Iq,.int 0 Ip] OG,LS⟩)
  (u13:K.lookup k9=some ⟨.type "tuple",L8,.seq #[.int 0 Io,.int 1 Im] OF,LR⟩)
  (u14:PySem.W.nsIn K J_ "CAME" =some (some (.ref lW)))
  (u15:K.lookup lW=some ⟨.type "tuple",Rk,.seq #[.str (h_ "p") QV,.str (h_ "a") QU,.str (h_ "b") QT] U3,QY⟩)
  (u16:PySem.W.nsIn K J_ "Prices" =some (some (.ref aq)))
  (u17:PySem.W.plainGet K aq Str.empty=true) (u18:PySem.W.hasDictIn K aq=true) (u19:PySem.W.plainOver K aq=true) (u20:PySem.W.findIn K (.ref aq) "__setattr__" =some (some (.builtin "object.__setattr__"))) (u21:PySem.W.makesIn K aq=true) (u22:PySem.W.keepIn K (.ref aq)=true)
  (u23:c7 K aq "signs")
  (u24:c7 K aq "pairs")
  (u25:c7 K aq "opening")
  (u26:c7 K aq "more")
  (u27:c7 K aq "factors")
  (u28:c7 K aq "unit")
  (u29:c7 K aq "costs")
  (u30:c7 K aq "opening_units")
  (u31:c7 K aq "more_units")
  (u32:PySem.W.nsIn K J_ "Ground" =some (some (.ref aR)))
  (u33:PySem.W.plainGet K aR Str.empty=true) (u34:PySem.W.hasDictIn K aR=true) (u35:PySem.W.plainOver K aR=true) (u36:PySem.W.findIn K (.ref aR) "__setattr__" =some (some (.builtin "object.__setattr__"))) (u37:PySem.W.makesIn K aR=true) (u38:PySem.W.keepIn K (.ref aR)=true)
  (u39:c7 K aR "steps")
  (u40:c7 K aR "begins")
  (u41:c7 K aR "ends")
  (u42:jF K "greatest_divisor" "greatest_divisor" dZ)
  (u43:jF K "lowest" "lowest" xB)
  (u44:jF K "is_sign" "is_sign" vj)
  (u45:jF K "are_signs" "are_signs" rm)
  (u46:jF K "check_signs" "check_signs" oZ)
  (u47:jF K "check_lengths" "check_lengths" lT)
  (u48:jF K "lowest_price" "lowest_price" jP)
  (u49:jF K "lowest_prices" "lowest_prices" lR)
  (u50:jF K "all_unders" "all_unders" qf)
  (u51:jF K "unit_factors" "unit_factors" m8)
  (u52:jF K "product_of" "product_of" pZ)
  (u53:jF K "by_unit" "by_unit" su)
  (u54:jF K "costs_by_signs" "costs_by_signs" j6)
  {acz aea:Option U} {ace:Array (Option k_)} {acC acW ad0 acs Zk ad6:k_} {bF:U}
  (u55:PySem.W.findIn K (.ref aq) "__init__" =some (some (.ref bF))) (u56:PySem.W.isFn K (.ref bF)=true) (u57:K.lookup bF=some ⟨acC,acz,.func (PySem.W.fnOf "__init__" "Prices.__init__" (je cM) (fH cM) (au cM) .none acW ad0 acs aea Zk ad6),ace⟩) (u58:PySem.W.codeIn K Zk "Prices.__init__" =true) (u59:PySem.W.keepIn K (.ref bF)=true)
  (u60:jF K "pair_cost" "pair_cost" jN)
  (u61:jF K "opening_cost" "opening_cost" jO)
  (u62:jF K "more_cost" "more_cost" pD)
  (u63:jF K "in_units" "in_units" nW)
  (u64:jF K "check_known" "check_known" o5)
  (u65:jF K "check_rows" "check_rows" j7)
  (u66:jF K "check_manner" "check_manner" nv)
  (u67:jF K "check_place" "check_place" o4)
  (u68:jF K "place_behind" "place_behind" ni)
  (u69:jF K "places_of" "places_of" qX)
  (u70:jF K "alone_cost" "alone_cost" j8)
  (u71:jF K "cost_of" "cost_of" vm)
  (u72:jF K "may_begin" "may_begin" qY)
  (u73:jF K "may_end" "may_end" vf)
  (u74:jF K "all_places" "all_places" qg)
  (u75:jF K "steps_from" "steps_from" pY)
  (u76:jF K "all_steps" "all_steps" rz)
  (u77:jF K "all_ends" "all_ends" tE)
  {acy ad9:Option U} {acd:Array (Option k_)} {acB acV adZ acr Zj ad5:k_} {aU:U}
  (u78:PySem.W.findIn K (.ref aR) "__init__" =some (some (.ref aU))) (u79:PySem.W.isFn K (.ref aU)=true) (u80:K.lookup aU=some ⟨acB,acy,.func (PySem.W.fnOf "__init__" "Ground.__init__" (je cC) (fH cC) (au cC) .none acV adZ acr ad9 Zj ad5),acd⟩) (u81:PySem.W.codeIn K Zj "Ground.__init__" =true) (u82:PySem.W.keepIn K (.ref aU)=true)
  (u83:jF K "least_rests" "least_rests" lD)
  (u84:jF K "ends_there" "ends_there" nu)
  (ZU:jF K "first_begin" "first_begin" lE)
  (ZT:jF K "state_behind" "state_behind" nh)
  (u87:jF K "first_moves" "first_moves" oY)
  (u88:ZM K "cheapest" sZ (h_ "whole"))
  (u89:jF K "all_counts" "all_counts" qh)
  (u90:jF K "count_of" "count_of" sY)
  (u91:jF K "rest_of" "rest_of" ve)
  (u92:jF K "best_way" "best_way" tD)
  (u93:jF K "cell_of" "cell_of" sr)
  (u94:jF K "last_cells" "last_cells" qe)
  (u95:jF K "cells_ahead" "cells_ahead" o6)
  (u96:jF K "with_stops" "with_stops" pW)
  (u97:jF K "stop_at" "stop_at" sj)
  (u98:jF K "whole_stop" "whole_stop" pX)
  (u99:jF K "stop_between" "stop_between" ng)
  (Ur:jF K "all_stops" "all_stops" rq)
  (Uq:jF K "moves_between" "moves_between" lQ)
  (Up:jF K "halved" "halved" xC)
  (Uo:jF K "_law_next" "_law_next" i6)
  (Um:jF K "_law_great" "_law_great" rj)
  (Ul:jF K "_law_signs" "_law_signs" q8)
  (Uk:jF K "_law_price" "_law_price" q9)
  (Uj:jF K "_law_table" "_law_table" qZ)
  (Ui:jF K "_law_prices" "_law_prices" qb)
  (Uh:jF K "_law_manner" "_law_manner" qc)
  (Ug:jF K "_law_same" "_law_same" qG)
  (Ue:jF K "_law_gap" "_law_gap" vh)
  (Ud:jF K "_law_walk" "_law_walk" sV)
  (Uc:jF K "_law_may_begin" "_law_may_begin" lS)
  (Ub:jF K "_law_may_end" "_law_may_end" oX)
  (Ua:jF K "_law_key" "_law_key" vg)
  (T9:jF K "_law_mixed" "_law_mixed" pF)
  (T8:jF K "_law_both" "_law_both" sX)
  (T7:jF K "_law_turned" "_law_turned" qa)
  (T6:jF K "_law_cost" "_law_cost" qH)
  (T5:jF K "_law_others_dearer" "_law_others_dearer" ia)
  {acw Zm:Option U} {ab9:Array (Option k_)} {acA Ym Zc Xm VZ Zh:k_} {Dz:U}
  (QL:PySem.W.nsIn K J_ "law" =some (some (.ref Dz))) (T4:K.lookup Dz=some ⟨acA,acw,.func (PySem.W.fnOf "law" "law" (je vJ) (fH vJ) (au vJ) .none Ym Zc Xm Zm VZ Zh),ab9⟩) (T3:PySem.W.codeIn K VZ "law" =true) (TZ:PySem.W.keepIn K (.ref Dz)=true)
  (TY:PySem.W.nsIn K J_ "abs" =some none)
  (TX:PySem.W.nsIn K J_ "len" =some none)
  (TV:PySem.W.nsIn K J_ "ord" =some none)
  (TU:PySem.W.nsIn K J_ "set" =some none)
  (TR:PySem.W.nsIn K J_ "tuple" =some none)
  (TQ:PySem.W.nsIn K J_ "zip" =some none)
  (TN:PySem.W.nsIn K J_ "enumerate" =some none)
  (TM:PySem.W.nsIn K J_ "range" =some none)
  (TL:PySem.W.nsIn K J_ "isinstance" =some none)
  (TJ:PySem.W.nsIn K J_ "int" =some none)
  (TH:PySem.W.nsIn K J_ "bool" =some none)
  (TF:PySem.W.nsIn K J_ "all" =some none)
  (Tz:PySem.W.nsIn K J_ "list" =some none)
  (Tw:PySem.W.nsIn K J_ "str" =some none)
  (Tv:PySem.W.nsIn K J_ "min" =some none)
  (Tu:PySem.W.nsIn K J_ "reversed" =some none)
  (Tt:PySem.W.nsIn K J_ "sum" =some none)
  : ∃fd:F_,(∀(s:n_) (v:k_),BindsTo s fd ⟨[v],[]⟩ [("_law_script",v)])/\∀base:W_,K.In base->base.Ns J_ mg->Tp base mg->aH l.prog w K mg base bL 12 fa fd Wi (DY K (Bf K)):=by
 have e:=hfa.symm.trans (PySem.W.mg_of X G QL);cases e;obtain⟨p,hp⟩:∃p:Pm,p=(⟨pT,qS,lV,oN,nM,lz,ly,k9,lW,aq,aR⟩:Pm):=⟨_,rfl⟩;obtain⟨bu,bf,aO⟩:=bx (ps:=RC) X G u42;obtain⟨sJ,qq,pK⟩:=bx (ps:=Yj) X G u43;obtain⟨qA,oB,mR⟩:=bx (ps:=["sign"]) X G u44;obtain⟨mK,kB,iW⟩:=bx (ps:=["text"]) X G u45;obtain⟨jz,iA,fO⟩:=bx (ps:=["signs"]) X G u46;obtain⟨gB,fV,dX⟩:=bx (ps:=Yh) X G u47;obtain⟨dm,cS,bz⟩:=bx (ps:=O3) X G u48;obtain⟨gz,fT,dR⟩:=bx (ps:=["row"]) X G u49;obtain⟨kR,ju,gW⟩:=bx (ps:=Yi) X G u50;obtain⟨iE,gq,eO⟩:=bx (ps:=["unders"]) X G u51;obtain⟨kJ,jn,gO⟩:=bx (ps:=["factors"]) X G u52;obtain⟨kQ,jc,dN⟩:=bx (ps:=Vh) X G u53;obtain⟨fW,e7,c5⟩:=bx (ps:=Yg) X G u54;have ye:=Br (st:=cM) u57 u58 u59;have ff:Dm K "__init__" "Prices.__init__" cM Wj _ _:=⟨ye,Binds.all (ps:=Wj) λus hl=>by obtain⟨_,_,_,_,_,rfl⟩:=GP.O0 hl;exact Y⟩;obtain⟨cG,bY,bh⟩:=bx (ps:=O2) X G u60;obtain⟨dh,cR,bT⟩:=bx (ps:=l8) X G u61;obtain⟨gH,fE,bO⟩:=bx (ps:=l8) X G u62;obtain⟨fz,dO,cA⟩:=bx (ps:=RB) X G u63;obtain⟨jB,iC,fP⟩:=bx (ps:=Ye) X G u64;obtain⟨cT,cH,bG⟩:=bx (ps:=RA) X G u65;obtain⟨iI,gx,eW⟩:=bx (ps:=["manner"]) X G u66;obtain⟨jA,iB,cQ⟩:=bx (ps:=XX) X G u67;obtain⟨iH,gw,eV⟩:=bx (ps:=XW) X G u68;obtain⟨mz,kg,iR⟩:=bx (ps:=XU) X G u69;obtain⟨cU,cI,aV⟩:=bx (ps:=Rz) X G u70;obtain⟨qB,oE,mS⟩:=bx (ps:=XT) X G u71;obtain⟨mD,kh,iS⟩:=bx (ps:=Yd) X G u72;obtain⟨qv,ow,mQ⟩:=bx (ps:=Yc) X G u73;obtain⟨kT,jv,gX⟩:=bx (ps:=Yb) X G u74;obtain⟨kI,jm,gM⟩:=bx (ps:=X8) X G u75;obtain⟨mO,kD,iY⟩:=bx (ps:=X7) X G u76;obtain⟨oM,mw,j5⟩:=bx (ps:=X6) X G u77;have yf:=Br (st:=cC) u80 u81 u82;have cE:Dm K "__init__" "Ground.__init__" cC SK _ _:=⟨yf,Binds.all (ps:=SK) λus hl=>by obtain⟨_,_,_,_,_,rfl⟩:=GP.O0 hl;exact Y⟩;obtain⟨eE,c8,cg⟩:=bx (ps:=Vg) X G u83;obtain⟨fG,eB,cK⟩:=bx (ps:=l9) X G u84;obtain⟨eF,c9,bU⟩:=bx (ps:=Nh) X G ZU;obtain⟨iG,gv,dH⟩:=bx (ps:=l9) X G ZT;obtain⟨jy,iz,fN⟩:=bx (ps:=X5) X G u87;obtain⟨oJ,jS,Ar,j3,BZ⟩:=VU (a1:= "prices") (a2:= "first") (a3:= "second") (a4:= "manner") X G u88;obtain⟨kU,jw,gY⟩:=bx (ps:=Nh) X G u89;obtain⟨oH,mj,jZ⟩:=bx (ps:=QD) X G u90;obtain⟨qu,oq,mP⟩:=bx (ps:=["way"]) X G u91;obtain⟨oK,mq,j4⟩:=bx (ps:=X4) X G u92;obtain⟨kP,jb,dM⟩:=bx (ps:=Vf) X G u93;obtain⟨kO,jt,gU⟩:=bx (ps:=X3) X G u94;obtain⟨jC,iD,fQ⟩:=bx (ps:=XZ) X G u95;obtain⟨kF,jk,dG⟩:=bx (ps:=["cells"]) X G u96;obtain⟨kH,ja,fX⟩:=bx (ps:=Ve) X G u97;obtain⟨kG,jl,gK⟩:=bx (ps:=XY) X G u98;obtain⟨iF,gu,eT⟩:=bx (ps:=XS) X G u99;obtain⟨mL,kC,iX⟩:=bx (ps:=QC) X G Ur;obtain⟨gy,fS,dQ⟩:=bx (ps:=XR) X G Uq;obtain⟨sL,qt,pL⟩:=bx (ps:=QC) X G Up;obtain⟨bP,bD,aT⟩:=bx (ps:=l6) X G Uo;obtain⟨mJ,ku,iV⟩:=bx (ps:=l6) X G Um;obtain⟨mG,kj,iU⟩:=bx (ps:=QB) X G Ul;obtain⟨mH,ko,cN⟩:=bx (ps:=XQ) X G Uk;obtain⟨mF,ki,iT⟩:=bx (ps:=QB) X G Uj;obtain⟨kL,jq,gQ⟩:=bx (ps:=l6) X G Ui;obtain⟨kM,jr,gT⟩:=bx (ps:=["_law_m"]) X G Uh;obtain⟨g8,fK,cy⟩:=bx (ps:=SJ) X G Ug;obtain⟨qz,oA,iO⟩:=bx (ps:=XO) X G Ue;obtain⟨oF,lZ,jX⟩:=bx (ps:=XJ) X G Ud;obtain⟨gA,fU,dW⟩:=bx (ps:=XN) X G Uc;obtain⟨jx,iy,fM⟩:=bx (ps:=XM) X G Ub;obtain⟨qw,oz,iN⟩:=bx (ps:=XI) X G Ua;obtain⟨gJ,fF,cZ⟩:=bx (ps:=Vd) X G T9;obtain⟨oG,mh,jY⟩:=bx (ps:=XH) X G T8;obtain⟨kK,jo,gP⟩:=bx (ps:=XG) X G T7;obtain⟨jd,gG,d8⟩:=bx (ps:=Vc) X G T6;obtain⟨dJ,cY,cj⟩:=bx (ps:=XF) X G T5;have ZK:=Br (st:=vJ) T4 T3 TZ;have Qt:Dn K mg "law" vJ Wi _ _:=⟨ZK,Binds.all (ps:=Wi) λus hl=>by obtain⟨_,rfl⟩:=GP.Rw hl;exact Y,PySem.W.mg_of X G QL⟩;have BR:Mk K p.aq bF:=by subst hp;exact⟨u21,u55,u56,u22⟩
 have sO:Mk K p.aR aU:=by subst hp;exact⟨u37,u78,u79,u38⟩
 refine⟨PySem.W.fnOf "law" "law" (je vJ) (fH vJ) (au vJ) .none Ym Zc Xm Zm VZ Zh,λs v=>.of_eq Y,λbase _ _ bb=>?_⟩;have T:Txt K mg p w base:=by subst hp;exact⟨PySem.W.mg_none_of X G TY,PySem.W.mg_none_of X G TX,PySem.W.mg_none_of X G TV,PySem.W.mg_none_of X G TU,PySem.W.mg_none_of X G TR,PySem.W.mg_none_of X G TQ,PySem.W.mg_none_of X G TN,PySem.W.mg_none_of X G TM,PySem.W.mg_none_of X G TL,PySem.W.mg_none_of X G TJ,PySem.W.mg_none_of X G TH,PySem.W.mg_none_of X G TF,PySem.W.mg_none_of X G Tz,PySem.W.mg_none_of X G Tw,PySem.W.mg_none_of X G Tv,PySem.W.mg_none_of X G Tu,PySem.W.mg_none_of X G Tt,PySem.W.mg_of X G u2,PySem.W.mg_of X G u3,PySem.W.mg_of X G u4,λH=>.inr ⟨_,_,_,u5,Y,Y,d_,.cons ⟨_,Y⟩ (.cons ⟨_,Y⟩ (.cons ⟨_,Y⟩ (.nil)))⟩,PySem.W.mg_of X G u6,λH=>.inr ⟨_,_,_,u7,Y,Y,e_,.cons ⟨_,Y⟩ (.cons ⟨_,Y⟩ (.cons ⟨_,Y⟩ (.cons ⟨_,Y⟩ (.nil))))⟩,PySem.W.mg_of X G u8,λP=>KDict.mk (P:=P) (w:=w) [((h_ "p"),FL,.ref lz),((h_ "a"),FJ,.ref ly),((h_ "b"),FH,.ref k9)] u9 Y (show([(h_ "p"),(h_ "a"),(h_ "b")]:List v_).Nodup by decide +kernel) (vs:=[.ref lz,.ref ly,.ref k9]) (.cons Y (.cons Y (.cons Y (.nil)))) u10,λH=>.inr ⟨_,_,_,u11,Y,Y,c_,.cons ⟨_,Y⟩ (.cons ⟨_,Y⟩ (.nil))⟩,λH=>.inr ⟨_,_,_,u12,Y,Y,c_,.cons ⟨_,Y⟩ (.cons ⟨_,Y⟩ (.nil))⟩,λH=>.inr ⟨_,_,_,u13,Y,Y,c_,.cons ⟨_,Y⟩ (.cons ⟨_,Y⟩ (.nil))⟩,PySem.W.mg_of X G u14,λH=>.inr ⟨_,_,_,u15,Y,Y,d_,.cons ⟨_,Y⟩ (.cons ⟨_,Y⟩ (.cons ⟨_,Y⟩ (.nil)))⟩,PySem.W.mg_of X G u16,⟨u17,u18,u19,u20⟩,u23,u24,u25,u26,u27,u28,u29,u30,u31,PySem.W.mg_of X G u32,⟨u33,u34,u35,u36⟩,u39,u40,u41,bb,u0,ZU.ns X G,u1,ZT.ns X G⟩
 have lX:=vE (P:=l.prog) (w:=w) (base:=base) T aO;have Qi:=L5 T pK aO lX;have uW:=zF T bz pK Qi;have zS:=yx T dR bz uW;have E7:=Cs (P:=l.prog) (w:=w) (base:=base) T gW;have BI:=zA T eO aO lX;have EY:=Ci (P:=l.prog) (w:=w) (base:=base) T gO;have DN:=Jh (P:=l.prog) (w:=w) (base:=base) T dN;have M6:=Je (P:=l.prog) (w:=w) (base:=base) T mR;have HK:=Ex T iW mR M6;have CL:=AS T fO iW HK;have zU:=yz (P:=l.prog) (w:=w) (base:=base) T dX;have yM:=xH T c5 dN DN;have rD:=En (P:=l.prog) (w:=w) (base:=base) T bh;have uV:=zE (P:=l.prog) (w:=w) (base:=base) T bT;have zo:=Eo (P:=l.prog) (w:=w) (base:=base) T bO;have wU:=GB T cA aO lX;have ya:=wJ T ff fO CL dX zU dR zS bz uW gW E7 eO BI gO EY c5 yM dN DN;have CN:=AV (P:=l.prog) (w:=w) (base:=base) T fP;have tV:=Cq T bG fP CN;have tW:=Cr T aV bO zo bT uV;have HE:=Ep (P:=l.prog) (w:=w) (base:=base) T iS;have M3:=Jb (P:=l.prog) (w:=w) (base:=base) T mQ;have BP:=zG (P:=l.prog) (w:=w) (base:=base) T eW;have E8:=Ct (P:=l.prog) (w:=w) (base:=base) T gX;have EX:=Cg T gM bh rD aV tW;have HM:=Ez T iY gM EX;have Ka:=GG T j5 mQ M3;have rE:=wK T cE bG tV eW BP gX E8 iY HM iS HE j5 Ka;have vY:=AM (P:=l.prog) (w:=w) (base:=base) T cg;have x9:=Co (P:=l.prog) (w:=w) (base:=base) T cK;have vZ:=AR (P:=l.prog) (w:=w) (base:=base) T bU;have BL:=zC (P:=l.prog) (w:=w) (base:=base) T dH;have CK:=AQ T fN cK x9 dH BL;have J1:=GD T j3 cE sO rE cg vY bU vZ cA wU fN CK;have E9:=Cu T gY cK x9;have J0:=GC T jZ cE sO rE cg vY gY E9 bU vZ;have M1:=Ja (P:=l.prog) (w:=w) (base:=base) T mP;have J2:=GF T j4 aV tW mP M1;have DM:=Jg T dM j4 J2;have E6:=Cn T gU dM DM;have CO:=AW T fQ bh rD dM DM;have EV:=Ce (P:=l.prog) (w:=w) (base:=base) T dG;have DL:=I9 T fX gU E6 dG EV fQ CO;have EW:=Cf T gK fX DL;have CM:=AU (P:=l.prog) (w:=w) (base:=base) T cQ;have BN:=zD (P:=l.prog) (w:=w) (base:=base) T eV;have HD:=Em T iR cQ CM eV BN;have M7:=Jf T mS bG tV iR HD bh rD aV tW cA wU;have BJ:=zB T eT fX DL;have HL:=Ey T iX gK EW eT BJ;have zR:=yw (P:=l.prog) (w:=w) (base:=base) T dQ;have Qj:=L6 T pL bG tV iX HL dQ zR mS M7;have oO:=Gy (P:=l.prog) (w:=w) (base:=base) T aT;have HJ:=Ew T iV aT oO;have HG:=Es T iU aT oO;have HH:=Et T cN aT oO iV HJ;have HF:=Er T iT aT oO iU HG cN HH;have E4:=Ck T gQ aT oO iT HF ff BR ya;have E5:=Cm (P:=l.prog) (w:=w) (base:=base) T gT;have CI:=AN (P:=l.prog) (w:=w) (base:=base) T cy;have E3:=vO (d:=0) T cy CI;have E2:=vO (d:=1) T cy E3;have M5:=Jd T iO bO zo bT uV;have zT:=yy (P:=l.prog) (w:=w) (base:=base) T dW;have CJ:=AO (P:=l.prog) (w:=w) (base:=base) T fM;have JY:=Gx T jX bh rD iO M5;have M4:=Jc (P:=l.prog) (w:=w) (base:=base) T iN;have zp:=Eu (P:=l.prog) (w:=w) (base:=base) T cZ;have JZ:=GA T jY cZ zp;have EZ:=Cj (P:=l.prog) (w:=w) (base:=base) T gP;have BO:=Gz T d8 jX JY dW zT fM CJ;have vG:=uG T cj cZ zp gP EZ d8 BO iN M4 jZ J0;have Zq:=UT T Qt gQ E4 gT E5 aT oO jY JZ j3 BZ J1 d8 BO cA wU cy E2 pL Qj cj vG;exact Zq
theorem walk{l:PySem.W.OpenLaw}{N t:Nat}{q:r_}{loose:List v_}{XP:(v_->Option k_)->W_->Prop}{as:List U}{d:DefRec}{K:Params->PySem.W.Frag}(hn:l.most=some 63)(hdf:d.params.defaults=[])(hk:∀P,as=(K P).map (·.1))(ht:0<t)
  (hY1:∀P,(K P).lookup (fq (jU (K P) l7) "first_begin")=some (PySem.W.tabObj #[])) (hY2:∀P,(K P).lookup (fq (jU (K P) l7) "state_behind")=some (PySem.W.tabObj #[]))
  (Wt:∀P,ue (jU (K P) l7) "first_begin" =true) (Ws:∀P,ue (jU (K P) l7) "state_behind" =true)
  (hne:∀P,Nat.beq (fq (jU (K P) l7) "first_begin") (fq (jU (K P) l7) "state_behind")=false)
  (F:∀(w:I_) (mg:v_->Option k_) (fa:U) (h:W_),(jU (K w.params) l7).In h->h.Ns J_ mg->mg d.name=some (.ref fa) →
   ∃fd:F_,(∀(s:n_) (u:k_),BindsTo s fd ⟨[u],[]⟩ [("_law_script",u)])/\∀base:W_,(jU (K w.params) l7).In base->base.Ns J_ mg->Tp base mg->aH l.prog w (jU (K w.params) l7) mg base bL 12 fa fd Wi (DY (jU (K w.params) l7) (Bf (jU (K w.params) l7)))) :
  PySem.W.WalkX q loose XP (PySem.W.X.obsZ as) (PySem.W.X.valZ K N t) l.row.toRowW d [] (λf vs=>PySem.call f vs) :=
 L2.LL (K:=K) (K':=λP=>jU (K P) l7) (n:=63) (k:=12) (x:= "_law_script") (nms:=l7) (CX:=λ_=>bL) (sp:=λw=>DY (jU (K w.params) l7) (Bf (jU (K w.params) l7))) hn (by decide) hdf ⟨rfl,by decide,by decide⟩ hk ht (λ_ _ X=>RY X) (λP h X=>DS (X _ _ (hY1 P)) (X _ _ (hY2 P))) (λw=>DS (Wt w.params) (Ws w.params)) F
  (λw H a ns hl hT hS=>⟨a,ns,rfl,hS,hl,⟨.inl (hT _ z_),.inl (hT _ (s_ _ z_)),Nat.ne_of_beq_eq_false (hne w.params)⟩,λH' hT'=>⟨rfl,DS (FF hT'.a) (FF hT'.b)⟩⟩) λ_ _ _ _ _ z=>z
end ZJ
structure PySem.W.Fast where
(tw4976656552681669993 tw10797146766445212407 tw17262576939980350996 tw11421628261255899437 tw675420520796573880 tw11285592190737686921 tw1207802743109248883 tw2520203707896267720 tw618397075883335809 tw9769949353576813859 tw10523691807170754512 tw2657135247842133666 tw7963609623645683453 tw14076874238246369394 tw18428281659020123400 tw5634069425556932656 tw10148922407441468047 tw10195827947001341809 tw7389206788241477839 tw7413458549745971142 tw8164717237707858971 tw4218717425349339863 tw6266541299744133775 tw3299480284326898453 tw5213630015666792851 tw7846960119888042043 tw14807634345308833838 tw9481658993562978280 tw3094941122759786187 tw15302242372616842364 tw17716272481312660061 tw17744125325326194543 tw12906342369462245845 tw15321063299149140487 tw8456747658668246517 tw5469737619944749756 tw10644644163623564765 tw5584047605646961514 tw17587055472962147135 tw836412357256532603 tw787286418299776246 tw11030241008511807531 tw7471713810900930686 tw6112656201795891640 tw6743322359728672168 tw2805487672016142268 tw9356679740313644453 tw4262557964260652696 tw9390061544381685277 tw5664223388638195843 tw6639200572921016681 tw2911748367956250915 tw5718789119520274281 tw1049370394557301131 tw1036102815260034712 tw2228576394663775827 tw8975451788363470331 tw1603891449270294257 tw2804003859909375374 tw10267184701419704146 tw4889937278271837356 tw11289873197995437967 tw9023553412362547525 tw2134217579658671659 tw15666656577601176539 tw5471782023758479850 tw14205205580333477753 tw2016441708759915072 tw10702398050803279027 tw17831647195023086844 tw6837595742866621131 tw2846175208126458224 tw4581811741430439777 tw6968359141900637764 tw16037440770290762169 tw11058093713572497031 tw5901120763360253402 tw10105877643555159553 tw2428731574377484307 tw3659867552623136350 tw2812477232834617104 tw9401120663806612834 tw14170196163725289571 tw5868076714993522893 tw15869063189051264771 tw2460905029704022510 tw1789352249315162969 tw7313628815660942770 tw3338962630643293732 tw14275523043959552755 tw2620972190370862056 tw646345100621186630 tw10076879362260353636 tw10322542811355177273 tw13939736521062316815 tw15911489810775800138 tw8098691876068391865 tw4800414292156786012 tw3983736653413143490 tw11255092934434146047 tw6125391943197590552 tw12515309763806772629 tw16278089157327944717 tw8716887253539189628 tw10733629581210114589 tw8597503786471003634 tw10469813105011433065 tw17042831783689389037 tw9895253682987917122 tw6662098929673352747 tw18220649546935350938 tw3884488796557349390 tw9118639325572586185 tw10237825401305898242 tw2757381170159689299 tw10417906993462798193 tw12846760598550751360 tw1840041291211713116 tw6452617774624313178 tw319256305928960001 tw6408956951383038590 tw951571300750457377 tw15512561266406267575 tw393288434367427236 tw11143647120408231115 tw5723036890332242166 tw15257014451190933742 tw7851339575243039599 tw7444943252339037806 tw15260067395448808430 tw4466481916359860196 tw2313351677434692840 tw17648380806380847564 tw13419421781270046806 tw1721251874318546190 tw3879910146387658004 tw8688334880489572556 tw5899825762649510148 tw9148331565265824782 tw2492919312533521943 tw17301569860865468258 tw2263486390950332196 tw16320846291403877041 tw12678939933545429179 tw7152828604290785132 tw45311560444396997 tw6484340587424589079 tw6572945404061025174 tw3343244138742379392 tw9500965921115185757 tw12618751526835930907 tw13739151311747980224 tw6873361571351718596 tw2031465212835241720 tw8643148062250805372 tw12800516464834607849 tw6115947599191229820 tw5181797438602324340 tw15671713550894861140 tw18056058313573750204 tw5307276124055413802 tw143411116550288383 tw17281378249588063209 tw939064628092418372 tw12145503118677258770 tw14295656600520915916 tw3211879080971943017 tw1519554252573324308 tw11279171928370713862 tw10879137639244879091 tw795106829604232825 tw16186478391051895417 tw13817410308076258165 tw6609319094048432267 tw17550754993573196888 tw14192242157437351025 tw7241453621947633004 tw7154031526259024613 tw2027977788928992455 tw3701389364447190149 tw9013327430244638232 tw7950081165265784743 tw8023939952730388009 tw8247194035129810033 tw4030839174213313658 tw2951664020523423915 tw13617904157932380870 tw8097732683962982753 tw10213752939170861616 tw820982064938141259 tw2797593849831552802 tw14797386182035588374 tw16096717697311739266 tw18116629977770922646 tw13865521216001803815 tw13120031269821801806 tw6564541068915691553 tw17923835455807941618 tw564281063282707173 tw13770848194801551284 tw1249910470659780336 tw5706722733286720064 tw13067733520186278659 tw22784567628260624 tw12565226861969016471 tw14362082597678763168 tw2549113000067155449 tw10205658964257503155 tw12881751048897389899 tw9673711788775799290 tw5807744532214541830 tw2164212531748993933 tw13108398566115540646 tw383139602566965608 tw11827609255263470565 tw17979119837489964208 tw11928662795974778200 tw18029209744164552011 tw2950866015725951308 tw8431065421670212594 tw14931693375879692677 tw3461541044858770360 tw7204986761799921660 tw7154008406757961207 tw6952166502121055093 tw13460275444599122583 tw2833956340488372131 tw11421470159301449644 tw9477892223334837752 tw9533543061926060579 tw6705441213296757381 tw8017619319099970354 tw12982445499427388891 tw16156730531962351588 tw7170778264673267418 tw14212433436605373305 tw613986978875312401 tw4912115336867508825 tw3572851338719089058 tw15415935336003600790 tw13111752243664478868 tw17353649902714228313 tw3821768115736943622 tw16234646703414863005 tw13494652997104459252 tw15470006130536107246 tw1788414734029392735 tw6155416668345358754 tw3420056934829383380 tw18083534917833287802 tw3518529127035703365 tw15668572435601765139 tw15772987791311823096 tw3574190483294140154 tw3388171102278164672 tw12134837361302840405 tw7726939372997352795 tw18020062196887110030 tw238682106190590758 tw35191134398245196 tw9417457169531234214 tw12652929921352827165 tw3891163645622155804 tw12593056011611287274 tw8267993049254537278 tw9427593092151746942 tw947385999448932907 tw10026372258930513236 tw18036183920376185469 tw2472288778581552568 tw17569517334210855815 tw4221701659229363077 tw11125690451322456495 tw3975209050684475937 tw8966424818299899153 tw13825983376288597521 tw6888404544436445162 tw17361978897896860867 tw14455300133812968792 tw7835878398237111808 tw7010154599525265060 tw9444807877882256104 tw8349180613476564264 tw15887448615512694185 tw12224393420919619778 tw5873203333114749433 tw17234775379966493796 tw6948425325040976164 tw5753847035029381929 tw232609753632381405 tw1894826423035351119 tw10973536426751293287 tw2906674290414709925 tw17584721892992572676 tw8452659107929608652 tw4797764685401539964 tw1964515528474460477 tw11780121589285078838 tw8090812513221975236 tw8404136016542853894 tw16835295234545888569 tw10006095178909581733 tw300200133329108572 tw5599048589155611485 tw11096459751482079439 tw11291253009702534094 tw761061841962759356 tw15385964049187603658 tw9995174158516659390 tw41178662051845148 tw1322591759322410499 tw13326533820727552675 tw16179269578406564115 tw7922664751282179618 tw11105897571217174425 tw14822574363841307424 tw11269212590804726191 tw3992868242141072423 tw7528237516307170855 tw17543473415644335235 tw8070643308294981254 tw1945259763743316048 tw18431877318695662327 tw2016012075077085320 tw14646010557393464694 tw3136646368078068649 tw11361077707947294748 tw7984380715010376763 tw16740609883711638863 tw1978721380956343791 tw8752232415414665616 tw8947407516854144731 tw15902972944553425582 tw224810653474750744 tw8555418533430615578 tw5533128105340849239 tw8210794221939308596 tw11695749782132732593 tw12020606317675968603 tw7928433009676297459 tw11173041070343834758 tw13133376272655206607 tw5138406127309371676 tw15449654337870775334 tw268543853904204799 tw4599977984653284348 tw11929757227885249688 tw3140708552027551958 tw7715464758634783878 tw15901758209755154686 tw406114807507626595 tw14092112466704611666 tw14381869014483020835 tw13557149819327280357 tw12239513227500270574 tw2897838138411864806 tw13008629512047765697 tw11662274807731568992 tw8126293029793407130 tw6006514936648588478 tw13536682234885467194 tw9404972681841534317 tw13551457794818777252 tw6846398789109713113 tw5951821303478760342 tw2140042534753504437 tw6478754121231797636 tw11913760006521470518 tw4100615641327412518 tw2444686481288955475 tw7645663055497320904 tw3001449451045301963 tw630452981331623678 tw1015491943189506983 tw13041071454564392647 tw5398692559700358357 tw14923504735389625767 tw17400744045252289463 tw16277553867284769576 tw7241244387397550899 tw15919242796458472806 tw7363378757374049092 tw1903436815613890292 tw11257392319366548590 tw14704599825077149437 tw14547310985408065493 tw9672660990248521123 tw12831774584129447043 tw7692204743021954835 tw14433089841210752600 tw397864177198706058 tw2565944592133997125 tw16832594318466572304 tw3045759599239299898 tw14336269733120546200 tw17966333197797714715 tw163295268843320550 tw1066709335084291000 tw16179808960032528435 tw10700281135974748054 tw16334100219315676842 tw209594187086303169 tw1818985136221013197 tw1865085089959791192 tw928197574748245565 tw16635597400797070330 tw15559634038633502710 tw568839555015635132 tw12394247879626745446 tw6624406793208424105 tw2272791834579290271 tw14455302737173326186 tw3452549681195925731 tw14906324686278541363 tw10817314289088092962 tw7528121635744890807 tw587952869504942494 tw5427637890757463709 tw17038100673622695300 tw4280136005835692770 tw3415973490109429125 tw17835641519924182273 tw11279863307359738610 tw6492728132136242282 tw4755747581570764462 tw12171496542041489936 tw7787729973575931296 tw14027266731410867619 tw10898441488240950838 tw16201313297877633842 tw11349608495991750658 tw6536302508261165143 tw18083911008287037594 tw8703318251127273137 tw18425781164981196045 tw18100905750001323364 tw15574463090157126100 tw10118892962596777338 tw7796332777425288890 tw15511341690339152402 tw6739931518655351838 tw16684997563771537403 tw13762246775441547565 tw8523087805670543613 tw6295778749131814391 tw5583499851232957748 tw17183127402203457408 tw5115830815236047174 tw81842656937197855 tw18155961622421314441 tw10322855517654337714 tw17409406497037585713 tw12562342305458248880 tw14628159484254902995 tw6893196514643080640 tw17917133405509448532 tw1396336180568850638 tw7421577118043643962 tw2644616692176135295 tw10208847669344351489 tw6957196358443762767 tw8262965189179739025 tw14880517494897887126 tw12335469840440026057 tw17244478283615589364 tw12516781341799152319 tw14090311594829405496 tw17279737237216264233 tw10340822390921360124 tw9604114760464796420 tw472174334651859149 tw15661997792110475395 tw9922428429337979514 tw8361881684128706472 tw15143335178244522251 tw10702167384182830860 tw16619394609077649453 tw1596855593437071830 tw13709236973518910875 tw9377252890519277461 tw7382688898967729895 tw9432175305272634528 tw7424898796129120263 tw4587306715941446501 tw16696456771857429971 tw3402928591820420142 tw10686271769860604230 tw8248090633217319682 tw3027471144275971826 tw6083100986694845868 tw18386626830560353810 tw2166218849602706352 tw12970891677739348567 tw8116359278367670337 tw6832134042103490980 tw1995310275041097567 tw15620167729622793391 tw17498577613797360780 tw14531363394117785437 tw14602523284735508832 tw16133086716720038192 tw16677553789098622311 tw5785707118412441002 tw7408073803335799970 tw3559036681038162494 tw4245535240233986280 tw11239798110644285794 tw16094212611212703082 tw13020712586434159656 tw1728839851419426354 tw12923254343984238545 tw11721198346038245597 tw14754685986939924572 tw11427000532702172601 tw17061352700918238784 tw14549566092588681949 tw14076984435955301086 tw6087335073447260659 tw5303785965076134298 tw12111571627997248504 tw9998753367502222080 tw1841634732742837835 tw16082173713244583496 tw3622085396457157871 tw13517361610244220706 tw2505830881962653584 tw14706122801005847681 tw6682367139328774084 tw2956256233272152554 tw15606494002100425648 tw6492491590085621298 tw17570369781586330337 tw16132196547206205136 tw12921339740693432065 tw7217732454623274506 tw10091853513053510644 tw1117525041306932146 tw8861482109066101906 tw3619875081481886896 tw7552484358893505422 tw17954821180520809198 tw3886296701430497862 tw4479304134179894452 tw4736842965869283504 tw2688335309441267225 tw4377480182616647899 tw1723903199147471725 tw11583690063216808197 tw13189513684112314164 tw11582099592851198161 tw10947134229230402952 tw11519493566182858782 tw8643311300449196188 tw12644253953595451166 tw13810047728368035408 tw1509550562496966448 tw12729764043271689194 tw18080013970754359351 tw14952198729307074154:True)
open PySem PySem.W PyProof.Rows
set_option maxRecDepth 100000 in
set_option maxHeartbeats 0 in
theorem PySem.Challenge.cw_gapweave_k92_whole_first_holds : PySem.Challenge.rw_gapweave_k92_whole_first.Holds := by
 w_on;o_law;z_head;(case hw=>w_witness2)
 refine ZJ.walk (l:=PySem.Challenge.rw_gapweave_k92_whole_first) Y Y (λ_=>by kernel_rfl) (by decide) (λ_=>by kernel_rfl) (λ_=>by kernel_rfl) (λ_=>by kernel_rfl) (λ_=>by kernel_rfl) (λ_=>by kernel_rfl) ?F
 case F =>
  intro w mg fa h KX G hmg
  refine' ZJ.all_mk KX G hmg ?u0 ?u1 ?u2 ?u3 ?u4 ?u5 ?u6 ?u7 ?u8 ?u9 ?u10 ?u11 ?u12 ?u13 ?u14 ?u15 ?u16 ?u17 ?u18 ?u19 ?u20 ?u21 ?u22 ?u23 ?u24 ?u25 ?u26 ?u27 ?u28 ?u29 ?u30 ?u31 ?u32 ?u33 ?u34 ?u35 ?u36 ?u37 ?u38 ?u39 ?u40 ?u41 ?u42 ?u43 ?u44 ?u45 ?u46 ?u47 ?u48 ?u49 ?u50 ?u51 ?u52 ?u53 ?u54 ?u55 ?u56 ?u57 ?u58 ?u59 ?u60 ?u61 ?u62 ?u63 ?u64 ?u65 ?u66 ?u67 ?u68 ?u69 ?u70 ?u71 ?u72 ?u73 ?u74 ?u75 ?u76 ?u77 ?u78 ?u79 ?u80 ?u81 ?u82 ?u83 ?u84 ?ZU ?ZT ?u87 ?u88 ?u89 ?u90 ?u91 ?u92 ?u93 ?u94 ?u95 ?u96 ?u97 ?u98 ?u99 ?Ur ?Uq ?Up ?Uo ?Um ?Ul ?Uk ?Uj ?Ui ?Uh ?Ug ?Ue ?Ud ?Uc ?Ub ?Ua ?T9 ?T8 ?T7 ?T6 ?T5 ?QL ?T4 ?T3 ?TZ ?TY ?TX ?TV ?TU ?TR ?TQ ?TN ?TM ?TL ?TJ ?TH ?TF ?Tz ?Tw ?Tv ?Tu ?Tt
  case u2|u3|u4|u5|u6|u7|u8|u9|u11|u12|u13|u14|u15|u16|u17|u18|u19|u20|u21|u22|u32|u33|u34|u35|u36|u37|u38|u55|u56|u57|u58|u59|u78|u79|u80|u81|u82|QL|T4|T3|TZ|TY|TX|TV|TU|TR|TQ|TN|TM|TL|TJ|TH|TF|Tz|Tw|Tv|Tu|Tt=>((first|with_reducible refine L2.nK ?xh ?xe|with_reducible refine L2.iJ ?xh ?xe|with_reducible refine L2.iM ?xh ?xe|with_reducible refine L2.iK ?xh ?xe|with_reducible refine L2.iL ?xh ?xe|with_reducible refine L2.lN ?xh ?xe|with_reducible refine L2.jE ?xh ?xe|with_reducible refine L2.lM ?xh ?xe|with_reducible refine L2.dD ?xh ?xe|with_reducible refine L2.eL ?xh ?xe|with_reducible refine L2.dB ?xh ?xe|with_reducible refine L2.gf ?xh ?xe|with_reducible refine L2.fL ?xh ?xe|with_reducible refine L2.nL ?xh ?xe|with_reducible refine L2.lK ?xh ?xe);(case xe=>k_is);(case xh=>kernel_rfl))
  case u0|u1=>kernel_rfl
  case u10=>decide
  case u23|u24|u25|u26|u27|u28|u29|u30|u31|u39|u40|u41=>(show PySem.W.findIn _ _ _=_;((first|with_reducible refine L2.nK ?xh ?xe|with_reducible refine L2.iJ ?xh ?xe|with_reducible refine L2.iM ?xh ?xe|with_reducible refine L2.iK ?xh ?xe|with_reducible refine L2.iL ?xh ?xe|with_reducible refine L2.lN ?xh ?xe|with_reducible refine L2.jE ?xh ?xe|with_reducible refine L2.lM ?xh ?xe|with_reducible refine L2.dD ?xh ?xe|with_reducible refine L2.eL ?xh ?xe|with_reducible refine L2.dB ?xh ?xe|with_reducible refine L2.gf ?xh ?xe|with_reducible refine L2.fL ?xh ?xe|with_reducible refine L2.nL ?xh ?xe|with_reducible refine L2.lK ?xh ?xe);(case xe=>k_is);(case xh=>kernel_rfl)))
  case u42|u43|u44|u45|u46|u47|u48|u49|u50|u51|u52|u53|u54|u60|u61|u62|u63|u64|u65|u66|u67|u68|u69|u70|u71|u72|u73|u74|u75|u76|u77|u83|u84|ZU|ZT|u87|u89|u90|u91|u92|u93|u94|u95|u96|u97|u98|u99|Ur|Uq|Up|Uo|Um|Ul|Uk|Uj|Ui|Uh|Ug|Ue|Ud|Uc|Ub|Ua|T9|T8|T7|T6|T5=>(refine' ZJ.jF.mk ?a ?l ?c ?k;(case a=>((first|with_reducible refine L2.nK ?xh ?xe|with_reducible refine L2.iJ ?xh ?xe|with_reducible refine L2.iM ?xh ?xe|with_reducible refine L2.iK ?xh ?xe|with_reducible refine L2.iL ?xh ?xe|with_reducible refine L2.lN ?xh ?xe|with_reducible refine L2.jE ?xh ?xe|with_reducible refine L2.lM ?xh ?xe|with_reducible refine L2.dD ?xh ?xe|with_reducible refine L2.eL ?xh ?xe|with_reducible refine L2.dB ?xh ?xe|with_reducible refine L2.gf ?xh ?xe|with_reducible refine L2.fL ?xh ?xe|with_reducible refine L2.nL ?xh ?xe|with_reducible refine L2.lK ?xh ?xe);(case xe=>k_is);(case xh=>kernel_rfl)));(case l=>((first|with_reducible refine L2.nK ?xh ?xe|with_reducible refine L2.iJ ?xh ?xe|with_reducible refine L2.iM ?xh ?xe|with_reducible refine L2.iK ?xh ?xe|with_reducible refine L2.iL ?xh ?xe|with_reducible refine L2.lN ?xh ?xe|with_reducible refine L2.jE ?xh ?xe|with_reducible refine L2.lM ?xh ?xe|with_reducible refine L2.dD ?xh ?xe|with_reducible refine L2.eL ?xh ?xe|with_reducible refine L2.dB ?xh ?xe|with_reducible refine L2.gf ?xh ?xe|with_reducible refine L2.fL ?xh ?xe|with_reducible refine L2.nL ?xh ?xe|with_reducible refine L2.lK ?xh ?xe);(case xe=>k_is);(case xh=>kernel_rfl)));(case c=>((first|with_reducible refine L2.nK ?xh ?xe|with_reducible refine L2.iJ ?xh ?xe|with_reducible refine L2.iM ?xh ?xe|with_reducible refine L2.iK ?xh ?xe|with_reducible refine L2.iL ?xh ?xe|with_reducible refine L2.lN ?xh ?xe|with_reducible refine L2.jE ?xh ?xe|with_reducible refine L2.lM ?xh ?xe|with_reducible refine L2.dD ?xh ?xe|with_reducible refine L2.eL ?xh ?xe|with_reducible refine L2.dB ?xh ?xe|with_reducible refine L2.gf ?xh ?xe|with_reducible refine L2.fL ?xh ?xe|with_reducible refine L2.nL ?xh ?xe|with_reducible refine L2.lK ?xh ?xe);(case xe=>k_is);(case xh=>kernel_rfl)));(case k=>((first|with_reducible refine L2.nK ?xh ?xe|with_reducible refine L2.iJ ?xh ?xe|with_reducible refine L2.iM ?xh ?xe|with_reducible refine L2.iK ?xh ?xe|with_reducible refine L2.iL ?xh ?xe|with_reducible refine L2.lN ?xh ?xe|with_reducible refine L2.jE ?xh ?xe|with_reducible refine L2.lM ?xh ?xe|with_reducible refine L2.dD ?xh ?xe|with_reducible refine L2.eL ?xh ?xe|with_reducible refine L2.dB ?xh ?xe|with_reducible refine L2.gf ?xh ?xe|with_reducible refine L2.fL ?xh ?xe|with_reducible refine L2.nL ?xh ?xe|with_reducible refine L2.lK ?xh ?xe);(case xe=>k_is);(case xh=>kernel_rfl))))
  case u88=>(refine' ZJ.ZM.mk ?a ?l ?c ?k ?e;(case a=>((first|with_reducible refine L2.nK ?xh ?xe|with_reducible refine L2.iJ ?xh ?xe|with_reducible refine L2.iM ?xh ?xe|with_reducible refine L2.iK ?xh ?xe|with_reducible refine L2.iL ?xh ?xe|with_reducible refine L2.lN ?xh ?xe|with_reducible refine L2.jE ?xh ?xe|with_reducible refine L2.lM ?xh ?xe|with_reducible refine L2.dD ?xh ?xe|with_reducible refine L2.eL ?xh ?xe|with_reducible refine L2.dB ?xh ?xe|with_reducible refine L2.gf ?xh ?xe|with_reducible refine L2.fL ?xh ?xe|with_reducible refine L2.nL ?xh ?xe|with_reducible refine L2.lK ?xh ?xe);(case xe=>k_is);(case xh=>kernel_rfl)));(case l=>((first|with_reducible refine L2.nK ?xh ?xe|with_reducible refine L2.iJ ?xh ?xe|with_reducible refine L2.iM ?xh ?xe|with_reducible refine L2.iK ?xh ?xe|with_reducible refine L2.iL ?xh ?xe|with_reducible refine L2.lN ?xh ?xe|with_reducible refine L2.jE ?xh ?xe|with_reducible refine L2.lM ?xh ?xe|with_reducible refine L2.dD ?xh ?xe|with_reducible refine L2.eL ?xh ?xe|with_reducible refine L2.dB ?xh ?xe|with_reducible refine L2.gf ?xh ?xe|with_reducible refine L2.fL ?xh ?xe|with_reducible refine L2.nL ?xh ?xe|with_reducible refine L2.lK ?xh ?xe);(case xe=>k_is);(case xh=>kernel_rfl)));(case c=>((first|with_reducible refine L2.nK ?xh ?xe|with_reducible refine L2.iJ ?xh ?xe|with_reducible refine L2.iM ?xh ?xe|with_reducible refine L2.iK ?xh ?xe|with_reducible refine L2.iL ?xh ?xe|with_reducible refine L2.lN ?xh ?xe|with_reducible refine L2.jE ?xh ?xe|with_reducible refine L2.lM ?xh ?xe|with_reducible refine L2.dD ?xh ?xe|with_reducible refine L2.eL ?xh ?xe|with_reducible refine L2.dB ?xh ?xe|with_reducible refine L2.gf ?xh ?xe|with_reducible refine L2.fL ?xh ?xe|with_reducible refine L2.nL ?xh ?xe|with_reducible refine L2.lK ?xh ?xe);(case xe=>k_is);(case xh=>kernel_rfl)));(case k=>((first|with_reducible refine L2.nK ?xh ?xe|with_reducible refine L2.iJ ?xh ?xe|with_reducible refine L2.iM ?xh ?xe|with_reducible refine L2.iK ?xh ?xe|with_reducible refine L2.iL ?xh ?xe|with_reducible refine L2.lN ?xh ?xe|with_reducible refine L2.jE ?xh ?xe|with_reducible refine L2.lM ?xh ?xe|with_reducible refine L2.dD ?xh ?xe|with_reducible refine L2.eL ?xh ?xe|with_reducible refine L2.dB ?xh ?xe|with_reducible refine L2.gf ?xh ?xe|with_reducible refine L2.fL ?xh ?xe|with_reducible refine L2.nL ?xh ?xe|with_reducible refine L2.lK ?xh ?xe);(case xe=>k_is);(case xh=>kernel_rfl)));(case e=>((first|with_reducible refine L2.nK ?xh ?xe|with_reducible refine L2.iJ ?xh ?xe|with_reducible refine L2.iM ?xh ?xe|with_reducible refine L2.iK ?xh ?xe|with_reducible refine L2.iL ?xh ?xe|with_reducible refine L2.lN ?xh ?xe|with_reducible refine L2.jE ?xh ?xe|with_reducible refine L2.lM ?xh ?xe|with_reducible refine L2.dD ?xh ?xe|with_reducible refine L2.eL ?xh ?xe|with_reducible refine L2.dB ?xh ?xe|with_reducible refine L2.gf ?xh ?xe|with_reducible refine L2.fL ?xh ?xe|with_reducible refine L2.nL ?xh ?xe|with_reducible refine L2.lK ?xh ?xe);(case xe=>k_is);(case xh=>kernel_rfl))))
