import PyProof.Rows.All
import Wide.All
import OpenK.AllK
import Wide.FinOn
import Lean
import PyProof.EqAt
import PyProof.EqKinds
import PyProof.TupleCall
import PyProof.NeKinds
import PyProof.Rows.StrStrike
import PyProof.SumWalkG
import PyProof.StrCalls2
import PyProof.Rows.StrItems
import PyProof.Rows.StrJoin2
import PyProof.Truth
import PyProof.SumWalkG
import PyProof.Rows.StrStrike
import OpenK.ZHead
import KE.KRevIter
import KE.KListMore
import PyProof.EqAt
import PyProof.ZipIter
import KE.KItemsList
import PyProof.CollectWalk
import KE.KSort
import KE.KSortTup
import PySem.Challenge.RW_gapweave_k44_laid_by
set_option Elab.async false
set_option linter.all false
set_option maxRecDepth 100000
inductive dI{A1 A2:Type}(p:A1->A2->Prop):Prop
 |mk (a1:A1) (a2:A2):p a1 a2->dI p
inductive oS{A1 A2 A3:Type}(p:A1->A2->A3->Prop):Prop
 |mk (a1:A1) (a2:A2) (a3:A3):p a1 a2 a3->oS p
inductive t9{A1 A2 A3 A4:Type}(p:A1->A2->A3->A4->Prop):Prop
 |mk (a1:A1) (a2:A2) (a3:A3) (a4:A4):p a1 a2 a3 a4->t9 p
inductive EW{A1 A2 A3 A4 A5:Type}(p:A1->A2->A3->A4->A5->Prop):Prop
 |mk (a1:A1) (a2:A2) (a3:A3) (a4:A4) (a5:A5):p a1 a2 a3 a4 a5->EW p
inductive LL{A1 A2 A3 A4 A5 A6:Type}(p:A1->A2->A3->A4->A5->A6->Prop):Prop
 |mk (a1:A1) (a2:A2) (a3:A3) (a4:A4) (a5:A5) (a6:A6):p a1 a2 a3 a4 a5 a6->LL p
inductive Vx{A1 A2 A3 A4 A5 A6 A7:Type}(p:A1->A2->A3->A4->A5->A6->A7->Prop):Prop
 |mk (a1:A1) (a2:A2) (a3:A3) (a4:A4) (a5:A5) (a6:A6) (a7:A7):p a1 a2 a3 a4 a5 a6 a7->Vx p
inductive V0{A1 A2 A3 A4 A5 A6 A7 A8:Type}(p:A1->A2->A3->A4->A5->A6->A7->A8->Prop):Prop
 |mk (a1:A1) (a2:A2) (a3:A3) (a4:A4) (a5:A5) (a6:A6) (a7:A7) (a8:A8):p a1 a2 a3 a4 a5 a6 a7 a8->V0 p
inductive VZ{A1 A2 A3 A4 A5 A6 A7 A8 A9:Type}(p:A1->A2->A3->A4->A5->A6->A7->A8->A9->Prop):Prop
 |mk (a1:A1) (a2:A2) (a3:A3) (a4:A4) (a5:A5) (a6:A6) (a7:A7) (a8:A8) (a9:A9):p a1 a2 a3 a4 a5 a6 a7 a8 a9->VZ p
inductive Qn{A1 A2 A3 A4 A5 A6 A7 A8 A9 Rl:Type}(p:A1->A2->A3->A4->A5->A6->A7->A8->A9->Rl->Prop):Prop
 |mk (a1:A1) (a2:A2) (a3:A3) (a4:A4) (a5:A5) (a6:A6) (a7:A7) (a8:A8) (a9:A9) (Yw:Rl):p a1 a2 a3 a4 a5 a6 a7 a8 a9 Yw->Qn p
inductive Yz{A1 A2 A3 A4 A5 A6 A7 A8 A9 Rl YR:Type}(p:A1->A2->A3->A4->A5->A6->A7->A8->A9->Rl->YR->Prop):Prop
 |mk (a1:A1) (a2:A2) (a3:A3) (a4:A4) (a5:A5) (a6:A6) (a7:A7) (a8:A8) (a9:A9) (Yw:Rl) (a11:YR):p a1 a2 a3 a4 a5 a6 a7 a8 a9 Yw a11->Yz p
inductive Yy{A1 A2 A3 A4 A5 A6 A7 A8 A9 Rl YR A12:Type}(p:A1->A2->A3->A4->A5->A6->A7->A8->A9->Rl->YR->A12->Prop):Prop
 |mk (a1:A1) (a2:A2) (a3:A3) (a4:A4) (a5:A5) (a6:A6) (a7:A7) (a8:A8) (a9:A9) (Yw:Rl) (a11:YR) (a12:A12):p a1 a2 a3 a4 a5 a6 a7 a8 a9 Yw a11 a12->Yy p
namespace QA
open PySem
theorem a_:0<=sizeLine:=by decide
theorem b_:1<=sizeLine:=by decide
theorem c_:2<=sizeLine:=by decide
theorem d_:3<=sizeLine:=by decide
end QA
open QA
open List renaming getElem?_eq_getElem->e_,length_map->g_,getElem?_map->n_,length_append->o_,getElem?_eq_some_iff->p_,mem_of_getElem?->u_,size_toArray->v_,mem_singleton->w_,getD_eq_getElem?_getD->C_,mem_cons->G_,mem_cons_of_mem->J_,range->K_,mem_cons_self->L_,length_cons->M_,map_append->N_,mem_map->O_,replicate->P_,getElem_mem->Q_,all_eq_true->R_,mem_append->S_,not_mem_nil->W_,mem_append_right->X_,length_range->qad,getElem?_eq_none->qaj,map_map->qam,take_of_length_le->qan,getElem?_append_right->qar,getElem?_append_left->qau,mem_range->qav,replicate_succ->qax,reverse_cons->qay,length_take->qaC,mem_append_left->qaG,append_assoc->qaH,map_cons->qaK,flatMap_append->qaM,flatten_cons->qaS,getElem_of_mem->qaW,length_replicate->qaY,length_singleton->qa3,ext_getElem->qa7,getElem_map->qa8,getElem?_inj->qbd,pairwise_map->qbf,append_nil->qbh,length_nil->qbi,getElem_range->qbp,length_filter_le->qbq,getElem?_eq_none_iff->qbr,drop_eq_getElem_cons->qbs,mem_or_eq_of_mem_set->qbt,nodup_cons->qbx,forIn_cons->qby,range_succ->qbz,map_congr_left->qbI,length_pos_iff->qbJ,getElem?_replicate->qbN,length_drop->qbO,lookup_cons->qbP,take_length->qbQ,lookup->qbT,getElem?_set_self->qbU,length_set->qb0,find?_cons->qb1,mem_iff_getElem?->qb6,nodup_append->qb9,ext_getElem?->qcb,getElem?_set_ne->qcd,drop_zero->qcl,mem_of_mem_take->qcm,exists_mem_of_ne_nil->qcs,getElem?_range->qct,eq_of_mem_replicate->qcv,mem_filter->qcx,foldl_cons->qcz,filter_append->qcD,filter_cons_of_pos->qcE,filter_cons_of_neg->qcF,forIn_nil->qcK,foldl_append->qcN,any_cons->qcY,length->qc1
theorem Y{α:Sort u}{a:α}:a=a:=rfl
open PySem renaming wpAny_bind->f_,Addr->h_,Value->i_,Shared->l_,wpAny_pure->q_,Str->r_,sizeLine->x_,Program->A_,wpAny->D_,mainGlobals->E_,FuncData->F_,World->U_,Heap->qab,starEach->qac,Around->qah,wpAny_field->qaz,Stmt->qaA,wpAny_holding->qaF,wpAny_mono->qaJ,wpAny_callSpecial?_slot->qaT,wpAny_truthy_bool->qaX,Obj->qa0,wpAny_seqItems->qa2,wpAny_Call_Name_kw->qa4,wpAny_call_entry->qa5,wpAny_setField_rec->qa6,sizeLine_eq->qba,wpAny_attempt->qbl,wpAny_passesOwn->qbu,codeAny_builtin->qbA,codeAny_mono->qbC,NameKind->qbD,codeAny_call_builtin->qbE,Scope->qbK,wpAny_getItem_str_slice->qbS,wpAny_call->qbV,wpAny_pyIter_tuple->qbX,IsPair->qb5,wpAny_pyIter_list->qb7,wpAny_newObj_type->qb8,wpAny_loadPart_at->qca,call_meets->qcf,wpAny_setField->qch,Pos->qcq,wpAny_execs_nil->qcy,tupleKind_room_in1->qcC,wpAny_loadPart->qcH,wpAny_pyIter_strU->qcM,ExcBaseFacts->qcP,wpAny_standAt->qcX,Model->qc3
open PySem.Heap renaming get?_push_of_some->j_,lt_size->y_,get?_push_size->B_,get?_update_other->qal,get?_update_self->qaw,size_push->qaU,SameBut->qa9,get?_none_of_le->qcc
open Nat renaming le_refl->k_,le_trans->m_,lt_of_le_of_lt->t_,lt_of_lt_of_le->H_,zero_le->T_,ne_of_lt->Y_,le_add_right->qaq,lt_irrefl->qaB,le_succ->qaE,ne_of_gt->qaR,le_of_lt->qa1,lt_of_succ_lt->qbg,mul_le_mul->qbo,not_lt_zero->qbB,lt_succ_self->qbM,min_eq_left->qb2,pow_le_pow_right->qcj,le_of_eq->qcn,zero_add->qco,sub_self->qcp,lt_trans->qcI,not_lt->qcU,succ_le_succ->qcW
open Array renaming length_toList->s_,getElem?_toList->V_,getElem?_eq_some_iff->qck,getElem?_eq_getElem->qcr,toList_inj->qcV
open PySem.Str renaming ofString->z_,empty->qc2
open Bool renaming false_ne_true->I_,and_eq_true->qae,false_eq_true->qap,not_eq_true'->qbe,eq_iff_iff->qbw,eq_false_iff->qb_,and_false->qcg,true_and->qcw,false_and->qcG,not_true->qc0
open Int renaming emod_lt_of_pos->Z_,emod_nonneg->qai,toNat_of_nonneg->qas,toNat_natCast->qaD,gcd->qa_,le_of_lt->qbY,zero_add->qbZ,ediv_pos_of_pos_of_dvd->qci,gcd_dvd_right->qcO
open Option.some renaming inj->qaa
open PySem.Builtin.SmallTypes renaming nextOf->qaf,ownedTupleIsFree->qak
open PyProof.Rows renaming Keyed->qag,SortSt->qaI,callWith_type1->qaL,wpS_bind->qaP,wpS_pure->qbc,SortKind->qcQ,wpS_forRange->qcR,step_dedup->qcT
open PySem.PassesOwn renaming never->qao
open PySem.NameKind renaming free->qat,cell->qb3
open False renaming elim->qaN
open PySem.Obj renaming mapSeq->qaO,data_mapFields->qbn,isFreed_of_fields->qb4,mapFields->qcZ
open Option renaming map_eq_some_iff->qaQ,getD_some->qaV,isSome_iff_exists->qbF,bind_some->qbR
open PySem.Builtin.List renaming listTooLong->qaZ
open PySem.Around renaming under_plainId->qbb
open PySem.F renaming slot_zip_next->qbj,slot_tuple_iterator_next->qbm,plain_extend_loop->qcu,args_zip_next_1->qcL,entry_zip_next->qcS
open PyProof.Rows.F renaming plain_set_update_loop->qbk
open PySem.AutoSeq1 renaming wpAny_loadPart'->qbG
open PySem.Heap.SameBut renaming update->qbH
open PySem.Builtin.Range renaming rangeSize->qbL
open PySem.Calls renaming callWith_builtin->qbW,evalArgs_plain->qce,spliced_cons->qcB
open ForInStep renaming yield->qcA
open List.Pairwise renaming nil->qcJ
namespace TK
open PySem
theorem tQ{M:qc3}{Γ:Ctx}{p:qcq}{t:Sem PySem.Fin}{fs:List Frame}{s s':l_}{e:End}(h:Runs M Γ p t fs s e s'):s.toks<=s'.toks:=by
 induction h with
 |fresh _ ih=>exact m_ (qaE _) ih
 |call _ _ a b=>exact m_ a b
 |segRet _ _ a b=>exact m_ a b
 |segGen _ _ a b=>exact m_ a b
 |resumeFresh _ _ _ _ a b=>exact m_ a b
 |resumeSuspended _ _ _ _ a b=>exact m_ a b
 |segSuspGen _ _ _ _ a b=>exact m_ a b
 |_=>first|exact k_ _|assumption
theorem G8{M:qc3}{Γ:Ctx}{p:qcq}{g:Nat}{r:Resume}{s s':l_}{res:GenResult}(h:Wakes M Γ p g r s res s'):s.toks<=s'.toks:=by
 unfold Wakes at h;split at h
 ·exact h.elim
 ·split at h
  ·obtain⟨e,s1,a,_,_,rfl⟩:=h;have z:=tQ a;exact z
  ·obtain⟨_,rfl⟩:=h;exact k_ _
  ·obtain⟨_,rfl⟩:=h;exact k_ _
 ·obtain⟨e,s1,a,_,_,rfl⟩:=h;have z:=tQ a;exact z
 ·obtain⟨_,rfl⟩:=h;exact k_ _
 ·obtain⟨_,rfl⟩:=h;exact k_ _
theorem V9{α:Type}{M:qc3}{Γ:Ctx}{n:Nat}(t:Sem α):∀{Q:α->qcq->l_->Prop} {E:i_->qcq->l_->Prop} {p:qcq} {s:l_},n<=s.toks →
  Sem.wp M Γ t (λa p s'=>n<=s'.toks->Q a p s') (λe p s'=>n<=s'.toks->E e p s') p s->Sem.wp M Γ t Q E p s:=by
 induction t with
 |pure a=>intro Q E p s hn h;exact h hn
 |raise e=>intro Q E p s hn h;exact h hn
 |unsupported w=>intro Q E p s hn h;exact h
 |finish e=>intro Q E p s hn h;exact h
 |rule t k ih=>intro Q E p s hn h;exact ih () hn h
 | «at» p' k ih=>intro Q E p s hn h;exact ih () hn h
 |load a q k ih=>intro Q E p s hn h;obtain⟨o,e,h⟩:=h;exact⟨o,e,ih o hn h⟩
 |update a q f k ih=>intro Q E p s hn h;exact⟨h.1,ih () hn h.2⟩
 |alloc o k ih=>intro Q E p s hn h;exact ih _ hn h
 |loadIfAlive a k ih=>intro Q E p s hn h;exact ih _ hn h
 |point l k ih=>intro Q E p s hn h;exact ih () hn h
 |register a k ih=>intro Q E p s hn h;exact h
 |fresh k ih=>intro Q E p s hn h;exact ih _ (Nat.le_succ_of_le hn) h
 |ask k ih=>intro Q E p s hn h;exact ih _ hn h
 |choose src m k ih=>intro Q E p s hn h;exact⟨h.1,ih _ hn h.2⟩
 |os q l k ih=>intro Q E p s hn h;exact ih _ hn h
 |call c hd g l k ih=>intro Q E p s hn h;obtain⟨r,s1,a,h⟩:=h;exact⟨r,s1,a,ih r (m_ hn (tQ a)) h⟩
 |handled own k ih=>intro Q E p s hn h;exact ih _ hn h
 |newGen c k ih=>intro Q E p s hn h;exact ih _ hn h
 |genState g k ih=>intro Q E p s hn h;obtain⟨st,e,h⟩:=h;exact⟨st,e,ih _ hn h⟩
 |resume g r l k ih=>intro Q E p s hn h;obtain⟨res,s1,a,h⟩:=h;exact⟨res,s1,a,ih _ (m_ hn (G8 a)) h⟩
 |yield v g l k ih=>intro Q E p s hn h;exact h
 |stack k ih=>intro Q E p s hn h;exact ih _ hn h
 |fork c k ih=>intro Q E p s hn h;exact h
 |thread k ih=>intro Q E p s hn h;exact ih _ hn h
 |await a tk tm l k ih=>intro Q E p s hn h;exact h
theorem cj{α:Type}{M:qc3}{A:qah}{t:Sem α}{Q:α->l_->Prop}{E:i_->l_->Prop}{s:l_}{n:Nat}(hn:n<=s.toks)(h:D_ M A t (λa s'=>n<=s'.toks->Q a s') (λe s'=>n<=s'.toks->E e s') s):D_ M A t Q E s :=
 λΓ p hΓ=>V9 t hn (h Γ p hΓ)
theorem IB{M:qc3}{A:qah}{c:Code}{R:Result->l_->Prop}{s:l_}{n:Nat}(hn:n<=s.toks)(h:codeAny M A c (λr s'=>n<=s'.toks->R r s') s):codeAny M A c R s:=λΓ p hc hb=>by
 obtain⟨r,s1,a,h⟩:=h Γ p hc hb;exact⟨r,s1,a,h (m_ hn (tQ a))⟩
end TK
set_option Elab.async false
set_option linter.all false
set_option maxRecDepth 100000
namespace L2
open PySem PySem.Spec PyProof.Rows
section
noncomputable abbrev Key:=Sum Int r_
noncomputable def Cr:Key->i_->Bool
 | .inl k,v=>Value.isInt k v
 | .inr x,v=>Value.isStrOf x v
noncomputable def acg(w:U_):Key->Int
 | .inl k=>hashInt k
 | .inr x=>hashStr w x
theorem gF:∀{k:Key} {v:i_},Cr k v=true->(dI λi t=>k=Sum.inl i/\v=Value.int i t)\/(dI λx t=>k=Sum.inr x/\v=Value.str x t)
 | .inl i,v,h=>by
  obtain⟨t,e⟩:=Value.isInt_shape (k:=i) (v:=v) h;exact .inl ⟨i,t,Y,e⟩
 | .inr x,v,h=>by
  obtain⟨t,e⟩:=Value.isStrOf_shape (x:=x) (v:=v) h;exact .inr ⟨x,t,Y,e⟩
theorem Ld(i:Int)(t:Tok):Cr (.inl i) (.int i t)=true:=by simp[Cr,Value.isInt]
theorem Lc(x:r_)(t:Tok):Cr (.inr x) (.str x t)=true:=by simp[Cr,Value.isStrOf]
theorem UU(a b:Int):decide ((Sum.inl a:Key)=Sum.inl b)=(a==b):=by
 by_cases e:a=b
 ·subst e;simp
 ·have h:¬(Sum.inl a:Key)=Sum.inl b:=λq=>e (Sum.inl.inj q);rw[decide_eq_false h];exact(beq_eq_false_iff_ne.mpr e).symm
theorem UR(a b:r_):decide ((Sum.inr a:Key)=Sum.inr b)=decide (a=b):=by
 by_cases e:a=b
 ·subst e;simp
 ·have h:¬(Sum.inr a:Key)=Sum.inr b:=λq=>e (Sum.inr.inj q);rw[decide_eq_false h,decide_eq_false e]
theorem UT(a:Int)(b:r_):decide ((Sum.inl a:Key)=Sum.inr b)=false:=decide_eq_false (λq=>nomatch q)
theorem US(a:r_)(b:Int):decide ((Sum.inr a:Key)=Sum.inl b)=false:=decide_eq_false (λq=>nomatch q)
noncomputable def jr(prog:A_)(w:U_):PySem.KeyKind prog w Key where
 is:=Cr
 hash:=acg w
 inj:=λv a b ha hb=>by
  rcases gF ha with⟨i,t,rfl,rfl⟩|⟨x,t,rfl,rfl⟩
  ·rcases gF hb with⟨j,u,rfl,e⟩|⟨y,u,rfl,e⟩
   ·injection e with e1 _;rw[e1]
   ·exact nomatch e
  ·rcases gF hb with⟨j,u,rfl,e⟩|⟨y,u,rfl,e⟩
   ·exact nomatch e
   ·injection e with e1 _;rw[e1]
 byValue:=λk v h=>by
  rcases gF h with⟨i,t,rfl,rfl⟩|⟨x,t,rfl,rfl⟩<;>rfl
 pyHash:=λhv h=>by
  rcases gF hv with⟨i,t,rfl,rfl⟩|⟨x,t,rfl,rfl⟩
  ·exact wpAny_pyHash_int h
  ·exact wpAny_pyHash_str h
 eqBool:=λhu hv h=>by
  rcases gF hu with⟨i,t,rfl,rfl⟩|⟨x,t,rfl,rfl⟩
  ·rcases gF hv with⟨j,u,rfl,rfl⟩|⟨y,u,rfl,rfl⟩
   ·rw[UU]at h;exact wpAny_eqBool_int h
   ·rw[UT]at h;exact SeqAt.EqAt.int_str i t y u _ _ _ _ h
  ·rcases gF hv with⟨j,u,rfl,rfl⟩|⟨y,u,rfl,rfl⟩
   ·rw[US]at h;exact SeqAt.EqAt.str_int x t j u _ _ _ _ h
   ·rw[UR]at h;exact wpAny_eqBool_str h
 «strs» :=λk x t v h=>by
  rcases gF h with⟨i,u,rfl,e⟩|⟨y,u,rfl,e⟩
  ·exact nomatch e
  ·injection e with e1 _;subst e1;cases v<;>rfl
theorem F5(prog:A_)(w:U_)(i:Int)(t:Tok):(jr prog w).is (.inl i) (.int i t)=true:=Ld i t
theorem sL(prog:A_)(w:U_)(x:r_)(t:Tok):(jr prog w).is (.inr x) (.str x t)=true:=Lc x t
end
section
inductive V where
 |gE|bl (b:Bool)|int (i:Int)|str (x:r_)|IE (b:Array UInt8)|Q7 (b:UInt64)|ref (a:h_)|ty (n:String)
 deriving DecidableEq
noncomputable def RelV:V->i_->Prop
 | .gE,u=>u=Value.none
 | .bl b,u=>u=Value.bool b
 | .int i,u=>∃t,u=Value.int i t
 | .str x,u=>∃t,u=Value.str x t
 | .IE b,u=>∃t,u=Value.bytes b t
 | .Q7 b,u=>∃t,u=Value.float b t
 | .ref a,u=>u=Value.ref a
 | .ty n,u=>u=Value.type n
noncomputable abbrev Vals:List V->List i_->Prop:=Paired RelV
theorem Vals.length{xs:List V}{us:List i_}(r:Vals xs us):xs.length=us.length:=Paired.length r
theorem Vals.get:∀{xs:List V} {us:List i_} {i:Nat} {x:V},Vals xs us->xs[i]? =some x->∃u,us[i]? =some u/\RelV x u
 |_,_,_,_,.nil,e=>by simp at e
 |_,_,0,_,.cons r _,e=>by simp at e;subst e;exact⟨_,Y,r⟩
 |_,_,i+1,x,.cons _ t,e=>by
  obtain⟨u,h1,h2⟩:=Vals.get (i:=i) (x:=x) t (by simpa using e);exact⟨u,by simpa using h1,h2⟩
theorem Vals.set{x:V}{u:i_}(r:RelV x u):∀{xs:List V} {us:List i_} (i:Nat),Vals xs us->Vals (xs.set i x) (us.set i u)
 |_,_,_,.nil=>.nil
 |_,_,0,.cons _ t=>.cons r t
 |_,_,i+1,.cons q t=>.cons q (Vals.set r i t)
theorem Vals.append:∀{xs ys:List V} {us ws:List i_},Vals xs us->Vals ys ws->Vals (xs++ys) (us++ws)
 |_,_,_,_,.nil,s=>s
 |_,_,_,_,.cons r t,s=>.cons r (Vals.append t s)
theorem Vals.take:∀{xs:List V} {us:List i_} (n:Nat),Vals xs us->Vals (xs.take n) (us.take n)
 |_,_,0,_=>.nil
 |_,_,_+1,.nil=>.nil
 |_,_,n+1,.cons r t=>.cons r (Vals.take n t)
theorem Vals.drop:∀{xs:List V} {us:List i_} (n:Nat),Vals xs us->Vals (xs.drop n) (us.drop n)
 |_,_,0,r=>r
 |_,_,_+1,.nil=>.nil
 |_,_,n+1,.cons _ t=>Vals.drop n t
theorem Vals.none_of:∀{xs:List V} {us:List i_} {i:Nat},Vals xs us->xs[i]? =none->us[i]? =none:=λ{xs us i} r e=>by
 have h1:=r.length;have h2:xs.length<=i:=qbr.mp e;exact qbr.mpr (by omega)
noncomputable def rK:Option V->Option i_->Prop
 |some v,some u=>RelV v u
 |none,none=>True
 |_,_=>False
noncomputable def KV{κ:Type}:List (κ×V)->List (κ×i_)->Prop:=Paired λ(p:κ×V) (q:κ×i_)=>p.1=q.1/\RelV p.2 q.2
noncomputable def kV:Key->V
 | .inl i=>.int i
 | .inr x=>.str x
inductive HO where
 |lst (xs:List V)
 |tup (xs:List V)
 |dK (kvs:List (Key×V))|dT (kvs:List (List Key×V))
 |set (S:Int->Bool) (n:Nat)
 |ins (C dx:h_) (fs:List (r_×V))
 |own (x:h_)
 |xd (fs:List (r_×V))
 |met (f x:h_)
 |Y6 (lo hi:Int)
 |Io (o:qa0) (u:HO)
 |QA (ps:Array i_)
 |ext (φ:qab->Prop)
noncomputable abbrev Hp:=h_->Option HO
noncomputable def upd(H:Hp)(a:h_)(o:HO):Hp:=λb=>if b=a then some o else H b
theorem af{H:Hp}{a:h_}{o:HO}:upd H a o a=some o:=by unfold upd;rw[if_pos rfl]
theorem au{H:Hp}{a b:h_}{o:HO}(h:b≠a):upd H a o b=H b:=by unfold upd;rw[if_neg h]
theorem nR{H:Hp}{a b:h_}{o u:HO}(h:H a=some o)(h':H b=some u)(d:o≠u):a≠b:=by
 intro e;subst e;rw[h]at h';exact d (qaa h')
theorem bq{H:Hp}{a b:h_}{o:HO}(h:H a=some o)(h':H b=none):a≠b:=by
 intro e;subst e;rw[h]at h';cases h'
section
variable(P:A_)(w:U_)
noncomputable def cU(H:Hp)(h:qab)(a:h_):HO->Prop
 | .lst xs=>xs.length<=x_/\dI λ(its:List i_) (n:Nat)=>Vals xs its/\h.get? a=some { cls:=.type "list",data:=.seq its.toArray n }
 | .tup xs=>xs.length<=x_/\∃its:List i_,Vals xs its/\IsTup h a its.toArray
 | .dK kvs=>kvs.length<=x_/\(a==sysModules)=false/\∃vs,KV kvs vs/\h.DictOf (jr P w) a vs
 | .dT kvs=>kvs.length<=x_/\(a==sysModules)=false/\∃xs:List (List Key×h_×i_),
   Paired (λ(p:List Key×V) (q:List Key×h_×i_)=>p.1=q.1/\H q.2.1=some (.tup (p.1.map kV))/\RelV p.2 q.2.2) kvs xs ∧
   oS λo es ep=>h.get? a=some o/\o.ExactDict/\o.data= .dict es ep/\es.toList=xs.map (entryOfKey (tupleKind (jr P w)))/\(xs.map (·.1)).Nodup
 | .set S n=>h.SetOf (intKind P w) a S n
 | .ins C dx fs=>H dx=some (.own a)/\fs.length<=1000/\dx≠a/\h.get? a=some (PySem.W.instObj C dx) ∧
   ∃mA,h.Ns1 dx mA/\(∀f,rK (fs.lookup f) (mA f))/\PySem.Within mA (fs.map (·.1))
 | .own _=>∃o,h.get? a=some o
 | .xd fs=>∃mA,h.Ns1 a mA/\∀f,rK (fs.lookup f) (mA f)
 | .Y6 lo hi=>oS λt u v=>h.get? a=some { cls:=.type "range",data:=.fields #[.int lo t,.int hi u,.int 1 v] }
 | .Io o u=>h.get? a=some o/\cU H h a u
 | .QA ps=>h.get? a=some { cls:=.none,data:=.fields ps }
 | .met f x=>h.get? a=some (PySem.W.methodObj (.ref f) (.ref x))
 | .ext φ=>φ h/\(∃o,h.get? a=some o)/\∀h1 h2:qab,φ h1->(∀o,h1.get? a=some o->h2.get? a=some o)->φ h2
def qY(H:Hp)(h:qab):Prop:=∀a o,H a=some o->cU P w H h a o
end
section
variable{P:A_}{w:U_}{H H':Hp}{h h':qab}{a:h_}{o:HO}
theorem cU.lt(x:cU P w H h a o):a<h.objs.size:=by
 cases o with
 |lst xs=>obtain⟨_,_,_,_,e⟩:=x;exact y_ e
 |tup xs=>obtain⟨_,_,_,p⟩:=x;exact p.lt
 |dK kvs=>obtain⟨_,_,_,_,o,_,_,e,_⟩:=x;exact y_ e
 |dT kvs=>obtain⟨_,_,_,_,o,_,_,e,_⟩:=x;exact y_ e
 |set S n=>obtain⟨o,_,_,_,e,_⟩:=x;exact y_ e
 |ins C dx fs=>obtain⟨_,_,_,e,_⟩:=x;exact y_ e
 |own y=>obtain⟨_,e⟩:=x;exact y_ e
 |xd fs=>obtain⟨_,⟨_,_,_,e,_⟩,_⟩:=x;exact y_ e
 |Y6 lo hi=>obtain⟨_,_,_,e⟩:=x;exact y_ e
 |Io ob u=>obtain⟨e,_⟩:=x;exact y_ e
 |QA ps=>exact y_ (show h.get? a=some _ from x)
 |met f y=>exact y_ (show h.get? a=some _ from x)
 |ext φ=>obtain⟨_,⟨_,e⟩,_⟩:=x;exact y_ e
theorem Paired.oO{α β:Type}{F G:α->β->Prop}:∀{l₁:List α} {l₂:List β},Paired F l₁ l₂->(∀a b,F a b->G a b)->Paired G l₁ l₂
 |_,_,.nil,_=>.nil
 |_,_,.cons r t,f=>.cons (f _ _ r) (Paired.oO t f)
theorem cU.stay(x:cU P w H h a o)(k:∀b u,(b=a\/H b=some (.own a))->h.get? b=some u->h'.get? b=some u)
  (ho:∀b,H b=some (.own a)->H' b=some (.own a)) (ht:∀b xs,H b=some (.tup xs)->H' b=some (.tup xs)):cU P w H' h' a o:=by
 induction o with
 |lst xs=>obtain⟨z,its,n,r,e⟩:=x;exact⟨z,its,n,r,k _ _ (.inl Y) e⟩
 |tup xs=>obtain⟨z,its,r,ob,e,c⟩:=x;exact⟨z,its,r,ob,k _ _ (.inl Y) e,c⟩
 |dK kvs=>obtain⟨z,y,vs,r,ob,es,ep,e,c⟩:=x;exact⟨z,y,vs,r,ob,es,ep,k _ _ (.inl Y) e,c⟩
 |dT kvs =>
  obtain⟨z,y,xs,r,ob,es,ep,e,c⟩:=x;exact⟨z,y,xs,Paired.oO r λp q z=>⟨z.1,ht _ _ z.2.1,z.2.2⟩,ob,es,ep,k _ _ (.inl Y) e,c⟩
 |set S n=>obtain⟨ob,es,ep,t,e,c⟩:=x;exact⟨ob,es,ep,t,k _ _ (.inl Y) e,c⟩
 |ins C dx fs =>
  obtain⟨d,z,ne,e,mA,⟨od,es,ep,e2,c⟩,r⟩:=x;exact⟨ho _ d,z,ne,k _ _ (.inl Y) e,mA,⟨od,es,ep,k _ _ (.inr d) e2,c⟩,r⟩
 |own y=>obtain⟨ob,e⟩:=x;exact⟨ob,k _ _ (.inl Y) e⟩
 |xd fs=>obtain⟨mA,⟨od,es,ep,e,c⟩,r⟩:=x;exact⟨mA,⟨od,es,ep,k _ _ (.inl Y) e,c⟩,r⟩
 |Y6 lo hi=>obtain⟨t,u,v,e⟩:=x;exact⟨t,u,v,k _ _ (.inl Y) e⟩
 |Io ob u ih=>obtain⟨e,q⟩:=x;exact⟨k _ _ (.inl Y) e,ih q⟩
 |QA ps =>
  have e:h.get? a=some { cls:=.none,data:=.fields ps }:=x;show h'.get? a=some { cls:=.none,data:=.fields ps };exact k a _ (.inl Y) e
 |met f y =>
  have e:h.get? a=some (PySem.W.methodObj (.ref f) (.ref y)):=x;show h'.get? a=some (PySem.W.methodObj (.ref f) (.ref y));exact k a _ (.inl Y) e
 |ext φ=>obtain⟨p,⟨o,e⟩,st⟩:=x;exact⟨st _ _ p λo q=>k _ _ (.inl Y) q,⟨o,k _ _ (.inl Y) e⟩,st⟩
theorem qY.lt(x:qY P w H h)(e:H a=some o):a<h.objs.size:=(x a o e).lt
theorem qY.fresh(x:qY P w H h)(e:h.objs.size<=a):H a=none:=by
 cases q:H a with
 |none=>rfl
 |some u=>exact absurd (H_ (x.lt q) e) (qaB _)
theorem qY.kept(x:qY P w H h)(k:∀b u,h.get? b=some u->h'.get? b=some u):qY P w H h':=λa o e =>
 (x a o e).stay (λb u _ q=>k b u q) (λ_ q=>q) λ_ _ q=>q
theorem qY.laid(x:qY P w H h)(k:∀b u,h.get? b=some u->h'.get? b=some u)(hp:h.objs.size<=a)(new:cU P w (upd H a o) h' a o):qY P w (upd H a o) h':=λb u e=>by
 have hn:=x.fresh hp;by_cases hb:b=a
 ·subst hb;rw[af]at e;cases e;exact new
 ·rw[au hb]at e;exact(x b u e).stay (λc v _ q=>k c v q) (λc q=>by rw[au (bq q hn)];exact q) λc xs q=>by rw[au (bq q hn)];exact q
end
def Rd(H:Hp)(a:h_)(u:HO):Prop:=H a=some u\/∃o,H a=some (.Io o u)
theorem Rd.ok{P:A_}{w:U_}{H:Hp}{h:qab}{a:h_}{u:HO}(r:Rd H a u)(x:qY P w H h):cU P w H h a u:=by
 rcases r with r|⟨o,r⟩
 ·exact x a u r
 ·obtain⟨_,q⟩:=x a _ r;exact q
noncomputable def YG:Option HO->Prop
 |some (.lst _)=>True
 |some (.dK _)=>True
 |some (.dT _)=>True
 |some (.set _ _)=>True
 |some (.ins _ _ _)=>True
 |some (.ext _)=>True
 |_=>False
section
variable{P:A_}{w:U_}{H:Hp}{h h':qab}{x e:h_}{o':HO}
theorem qY.write(ok:qY P w H h)(mu:YG (H x))(he:e=x\/H e=some (.own x))(k:∀b u,b≠e->h.get? b=some u->h'.get? b=some u)(VW:∃u,h'.get? e=some u)
  (new:cU P w (upd H x o') h' x o'):qY P w (upd H x o') h':=λb u q=>by
 have WS:∀c y,H c=some (.own y)->c≠x:=λc y r z=>by subst z;rw[r]at mu;exact mu
 have ab2:∀c xs,H c=some (.tup xs)->c≠x:=λc xs r z=>by subst z;rw[r]at mu;exact mu
 by_cases hb:b=x
 ·subst hb;rw[af]at q;cases q;exact new
 ·rw[au hb]at q;by_cases Nt:b=e
  ·have q':H b=some (.own x):=by
    rcases he with z|z
    ·exact absurd (Nt.trans z) hb
    ·rw[Nt];exact z
   rw[q]at q';cases q';obtain⟨v,hv⟩:=VW;exact⟨v,by rw[Nt];exact hv⟩
  ·refine(ok b u q).stay (λc v hc r=>k c v ?_ r) (λc r=>by rw[au (WS c b r)];exact r) λc xs r=>by rw[au (ab2 c xs r)];exact r
   rcases hc with rfl|hc
   ·exact Nt
   ·rintro rfl;rcases he with z|z
    ·exact WS c b hc z
    ·rw[hc]at z;cases z;exact hb Y
end
structure Un(fs ex:List h_)(H H':Hp)(h h':qab):Prop where
 keep:∀b o,h.get? b=some o->H b=none->b∉fs->b∉ex->h'.get? b=some o
 slot:∀b o,h.get? b=some o->H b=none->b∈fs->b∉ex->∃sl,h'.get? b=some { o with slots:=sl }
 free:∀b o,h.get? b=some o->H b=none->b∉ex->H' b=none
 there:∀b o,h.get? b=some o->b∉ex->∃o',h'.get? b=some o'
 tups:∀b xs,H b=some (.tup xs)->H' b=some (.tup xs)
 uT:∀b o u,H b=some (.Io o u)->H' b=some (.Io o u)
 vj:∀b ps,H b=some (.QA ps)->∃more,H' b=some (.QA (ps++more))
section
variable{fs fs' ex ex':List h_}{H H1 H2:Hp}{h h1 h2 h':qab}{a x e:h_}{o:HO}
theorem Un.any(u:Un fs ex H H1 h h1){b:h_}{ob:qa0}(q:h.get? b=some ob)(n:H b=none)(hx:b∉ex):∃sl,h1.get? b=some { ob with slots:=sl }:=by
 by_cases hb:b∈fs
 ·exact u.slot b ob q n hb hx
 ·exact⟨ob.slots,u.keep b ob q n hb hx⟩
theorem Un.kept(k:∀b u,h.get? b=some u->h'.get? b=some u):Un fs ex H H h h' :=
 ⟨λb ob q _ _ _=>k b ob q,λb ob q _ _ _=>⟨ob.slots,k b ob q⟩,λ_ _ _ n _=>n,λb ob q _=>⟨ob,k b ob q⟩,λ_ _ q=>q,λ_ _ _ q=>q,λ_ ps q=>⟨#[],by rw[q];simp⟩⟩
theorem Un.refl:Un fs ex H H h h:=Un.kept λ_ _ q=>q
theorem Un.laid(k:∀b u,h.get? b=some u->h'.get? b=some u)(hp:h.objs.size<=a)(hn:H a=none):Un fs ex H (upd H a o) h h' where
 keep:=λb u q _ _ _=>k b u q
 slot:=λb u q _ _ _=>⟨u.slots,k b u q⟩
 free:=λb u q n _=>by rw[au (Y_ (H_ (y_ q) hp))];exact n
 there:=λb u q _=>⟨u,k b u q⟩
 tups:=λb xs q=>by rw[au (bq q hn)];exact q
 uT:=λb u xs q=>by rw[au (bq q hn)];exact q
 vj:=λb ps q=>⟨#[],by rw[au (bq q hn),q];simp⟩
theorem Un.write(mu:YG (H x))(he:e=x\/H e=some (.own x))(k:∀b u,b≠e->h.get? b=some u->h'.get? b=some u)(VW:∃u,h'.get? e=some u):Un fs ex H (upd H x o) h h':=by
 have hx:∀b,H b=none->b≠x:=λb n z=>by subst z;rw[n]at mu;exact mu
 have hb:∀b,H b=none->b≠e:=λb n z=>by
  subst z;rcases he with r|r
  ·exact hx b n r
  ·rw[n]at r;cases r
 have hm:∀b u,H b=some u->¬YG (some u)->b≠x:=λb u q nm z=>by subst z;rw[q]at mu;exact nm mu
 refine⟨λb u q n _ _=>k b u (hb b n) q,λb u q n _ _=>⟨u.slots,k b u (hb b n) q⟩,λb u q n _=>by rw[au (hx b n)];exact n,λb u q _=>?_,
  λb xs q=>by rw[au (hm b _ q λz=>z)];exact q,λb u xs q=>by rw[au (hm b _ q λz=>z)];exact q,λb ps q=>⟨#[],by rw[au (hm b _ q λz=>z),q];simp⟩⟩
 by_cases Nt:b=e
 ·subst Nt;exact VW
 ·exact⟨u,k b u Nt q⟩
end
noncomputable def YY(h:qab)(H:Hp):List h_:=(K_ h.objs.size).filter λa=>(H a).isSome
noncomputable def D5(h:qab)(H:Hp):qab:=PySem.W.hideAll h (YY h H)
theorem Lh(h:qab)(H:Hp):(D5 h H).objs.size=h.objs.size:=PySem.W.hideAll_size _ _
theorem Nq{h:qab}{H:Hp}{b:h_}{o:qa0}(e:h.get? b=some o)(n:H b=none):(D5 h H).get? b=some o :=
 PySem.W.hideAll_get _ e λhm=>by
  have q:(H b).isSome=true:=(qcx.mp hm).2;rw[n]at q;simp at q
theorem Pb{h:qab}{H:Hp}{b:h_}{o:qa0}(e:(D5 h H).get? b=some o):h.get? b=some o/\H b=none:=by
 have e':h.get? b=some o:=PySem.W.of_hideAll (YY h H) e;refine⟨e',?_⟩
 cases q:H b with
 |none=>rfl
 |some x =>
  have hm:b∈YY h H:=qcx.mpr ⟨qav.mpr (y_ e'),by simp[q]⟩;have z:(D5 h H).get? b=none:=PySem.W.hideAll_none (YY h H) hm;rw[z]at e;cases e
end
section
structure Mod(K:PySem.W.Frag)(mg:r_->Option i_)(base:qab):Prop where
 QN:K.In base
 glob:base.Ns E_ mg
 blt:∃mb,base.Ns builtinsNs mb/\∀x:r_,x≠ "__name__" ->mb x=bootBuiltins x
 nolimit:base.NoLimit
structure Cx where
 prog:A_
 w:U_
 K:PySem.W.Frag
 mg:r_->Option i_
 base:qab
 A:qah
 N:List r_
 s₀:l_
 H₀:Hp
 env:Env
 outer:List Env
 stack:List Env
 ex:List h_
 fn:r_->Bool
 calm:Bool
 pn:List (h_×qa0)
 xe:i_->l_->Prop
noncomputable def frs(l:List Env):List h_:=l.filterMap (·.frame)
noncomputable abbrev Cx.fs(X:Cx):List h_:=frs X.outer
def ZN(sc:qbK)(x:r_):Prop:=sc.names.lookup x=some .local\/sc.names.lookup x=some .cell\/sc.names.lookup x=some .free
def Loc(sc:qbK)(x:r_):Prop:=sc.names.lookup x=some .local\/sc.names.lookup x=some .cell
def Look(env:Env)(h:qab)(m:r_->Option i_)(x:r_)(u:i_):Prop :=
 (env.kindOf x=some .local/\m x=some u)\/((env.kindOf x=some .cell\/env.kindOf x=some .free)/\∃c,env.cells.lookup x=some c/\h.IsCell c (some u))
def GG(mg:r_->Option i_)(n:Nat):Prop:=∀x v u,mg x=some (.str v u)->u<n/\u≠0
theorem GG.mono{mg:r_->Option i_}{n m:Nat}(h:GG mg n)(l:n<=m):GG mg m:=λx v u e=>⟨H_ (h x v u e).1 l,(h x v u e).2⟩
structure Cx.Ok(X:Cx):Prop where
 mod:Mod X.K X.mg X.base
 kind:X.env.scope.kind= .function
 glob:X.env.globals=E_
 blt:X.env.builtins=builtinsNs
 above:X.s₀.heap.objs.size<=X.env.locals
 inj:∀x y c,X.env.cells.lookup x=some c->X.env.cells.lookup y=some c->x=y
 has:∀x,(X.env.kindOf x=some .cell\/X.env.kindOf x=some .free)->∃c,X.env.cells.lookup x=some c
 Qh:∀x c,X.fn x=true->X.env.cells.lookup x=some c->X.s₀.heap.objs.size<=c
 hd:X.calm=true->X.A.handled=none
 frames:X.A.frames=some X.stack
 stk:X.stack=X.outer\/(X.stack=X.env::X.outer/\X.env.frame=some X.env.locals)
 ZJ:∀b∈X.ex,b≠X.env.locals/\∀x c,X.env.cells.lookup x=some c->c≠b
 bs:∀b o,X.base.get? b=some o->X.s₀.heap.get? b=some o/\X.H₀ b=none
 N5:X.base.objs.size<=X.s₀.heap.objs.size
 HU:∀b o,X.base.get? b=some o->b∉X.ex
 Lk:∀b∈X.ex,b∉X.fs
 uR:X.s₀.heap.FunFrames X.base X.outer
 PY:∀b∈X.fs,X.H₀ b=none
 tk:GG X.mg X.s₀.toks
structure Inv(X:Cx)(pins:List (h_×qa0))(σ:List (Option V))(H:Hp)(s:l_):Prop where
 ok:X.Ok
 os:s.os=X.s₀.os
 bare:AllBare s.gens
 base:Un X.fs X.ex X.H₀ H X.s₀.heap s.heap
 loc:∃m,s.heap.Ns X.env.locals m/\∀(i:Nat) (x:r_) (v:V),X.N[i]? =some x->σ[i]? =some (some v)->ZN X.env.scope x->∃u,RelV v u/\Look X.env s.heap m x u
 cell:∀x c,X.env.cells.lookup x=some c->∃v,s.heap.IsCell c v
 free:H X.env.locals=none
 mh:∀x c,X.env.cells.lookup x=some c->H c=none
 pin:∀p∈X.pn++pins,s.heap.get? p.1=some p.2/\H p.1=none/\p.1≠X.env.locals/\p.1∉X.fs/\∀v,p.2.data≠ .cell v
 hok:qY X.prog X.w H s.heap
 len:σ.length=X.N.length
 up:X.s₀.toks<=s.toks
section
variable{X:Cx}{pins:List (h_×qa0)}{σ:List (Option V)}{H H':Hp}{s:l_}{h':qab}
theorem Cx.Ok.ab5(ok:X.Ok){b:h_}{o:qa0}(e:X.base.get? b=some o):b∉X.fs:=λhb=>by
 have:=(ok.uR.mem hb).1;rw[e]at this;cases this
theorem Inv.tk(I:Inv X pins σ H s):GG X.mg s.toks:=I.ok.tk.mono I.up
theorem Inv.bs(I:Inv X pins σ H s):∀b o,X.base.get? b=some o->s.heap.get? b=some o/\H b=none:=λb o e =>
 ⟨I.base.keep b o (I.ok.bs b o e).1 (I.ok.bs b o e).2 (I.ok.ab5 e) (I.ok.HU b o e),I.base.free b o (I.ok.bs b o e).1 (I.ok.bs b o e).2 (I.ok.HU b o e)⟩
theorem Inv.bk(I:Inv X pins σ H s):∀b o,X.base.get? b=some o->s.heap.get? b=some o:=λb o e=>(I.bs b o e).1
theorem Inv.mod(I:Inv X pins σ H s):Mod X.K X.mg X.base:=I.ok.mod
theorem Inv.qz(I:Inv X pins σ H s):X.K.In s.heap:=I.ok.mod.QN.keeps I.bk
theorem Inv.lt(I:Inv X pins σ H s):X.env.locals<s.heap.objs.size:=let ⟨_,hn,_⟩:=I.loc;hn.lt
theorem Inv.sz(I:Inv X pins σ H s):X.s₀.heap.objs.size<=s.heap.objs.size:=m_ I.ok.above (qa1 I.lt)
theorem Inv.ab4(I:Inv X pins σ H s){a:h_}(h:s.heap.objs.size<=a):a∉X.fs:=λhb=>by
 obtain⟨_,o,ho,_⟩:=I.ok.uR.mem hb;exact absurd (H_ (y_ ho) (m_ I.sz h)) (qaB _)
theorem Inv.Ra(I:Inv X pins σ H s):∀x c,X.env.cells.lookup x=some c->c≠X.env.locals:=λx c e z=>by
 obtain⟨v,o,ho,hd⟩:=I.cell x c e;obtain⟨m,⟨o',es,ep,ho',hd',_⟩,_⟩:=I.loc;rw[z,ho']at ho;cases ho;rw[hd']at hd;cases hd
theorem Inv.uR(I:Inv X pins σ H s):s.heap.FunFrames X.base X.outer:=by
 have all:∀(l:List Env),(∀b∈frs l,b∈X.fs)->X.s₀.heap.FunFrames X.base l->s.heap.FunFrames X.base l:=by
  intro l
  induction l with
  |nil=>intro _ _;trivial
  |cons env r ih =>
   intro hs hl;obtain⟨hk,⟨L,o,hf,hn,ho,hd⟩,hr⟩:=hl;have hL:L∈X.fs:=hs L (by unfold frs;rw[List.filterMap_cons,hf];exact L_);obtain⟨sl,e⟩:=I.base.slot L o ho (I.ok.PY L hL) hL λz=>I.ok.Lk L z hL;exact⟨hk,⟨L,_,hf,hn,e,hd⟩,ih (λb hb=>hs b (by unfold frs;rw[List.filterMap_cons,hf];exact J_ _ hb)) hr⟩
 exact all X.outer (λ_ hb=>hb) I.ok.uR
theorem Inv.stack(I:Inv X pins σ H s):s.heap.FunFrames X.base X.stack:=by
 rcases I.ok.stk with e|⟨e,hf⟩
 ·rw[e];exact I.uR
 ·rw[e];obtain⟨m,hn,_⟩:=I.loc;refine .cons (by rw[I.ok.kind];decide) hf hn ?_ I.uR;exact qcc (m_ I.ok.N5 I.ok.above)
theorem Inv.wj(I:Inv X pins σ H s):∀b∈frs X.stack,b∈X.env.locals::X.fs:=λb hb=>by
 rcases I.ok.stk with e|⟨e,hf⟩
 ·rw[e]at hb;exact J_ _ hb
 ·rw[e]at hb;unfold frs at hb;rw[List.filterMap_cons,hf]at hb;exact hb
theorem Inv.Dh(I:Inv X pins σ H s):∀b∈frs X.stack,H b=none:=λb hb=>by
 rcases G_.mp (I.wj b hb)with e|hb
 ·rw[e];exact I.free
 ·obtain⟨_,o,ho,_⟩:=I.ok.uR.mem hb;exact I.base.free b o ho (I.ok.PY b hb) λz=>I.ok.Lk b z hb
theorem Inv.step{g':Array GenState}{t':Nat}{d':Drawn}{ch:List h_}(I:Inv X pins σ H s)
  (hch:∀b∈ch,(b∈X.ex\/X.s₀.heap.objs.size<=b)/\b≠X.env.locals/\(∀x c,X.env.cells.lookup x=some c->c≠b)/\∀p∈X.pn++pins,p.1≠b)
  (keep:∀b o,b≠X.env.locals->b∉X.fs->b∉ch->s.heap.get? b=some o->H b=none->h'.get? b=some o)
  (slot:∀b o,b≠X.env.locals->b∈X.fs->b∉ch->s.heap.get? b=some o->H b=none->∃sl,h'.get? b=some { o with slots:=sl }) (free:∀b o,b∉ch->s.heap.get? b=some o->H b=none->H' b=none)
  (there:∀b o,b∉ch->s.heap.get? b=some o->∃o',h'.get? b=some o')
  (tups:∀b xs,H b=some (.tup xs)->H' b=some (.tup xs)) (uT:∀b o u,H b=some (.Io o u)->H' b=some (.Io o u)) (vj:∀b ps,H b=some (.QA ps)->∃more,H' b=some (.QA (ps++more)))
  (ns:∀m,s.heap.Ns X.env.locals m->h'.Ns X.env.locals m) (hok:qY X.prog X.w H' h') (hg:AllBare g') (ht:X.s₀.toks<=t') :
  Inv X pins σ H' { s with heap:=h',gens:=g',drawn:=d',toks:=t' }:=by
 have neL:∀b o,X.s₀.heap.get? b=some o->b≠X.env.locals:=λb o e=>Y_ (H_ (y_ e) I.ok.above);have Zb:∀b o,X.s₀.heap.get? b=some o->b∉X.ex->b∉ch:=λb o e hx hb=>by
  rcases(hch b hb).1 with z|z
  ·exact hx z
  ·exact absurd (H_ (y_ e) z) (qaB _)
 have cellK:∀x c,X.env.cells.lookup x=some c->∀v,s.heap.IsCell c v->h'.IsCell c v:=λx c e v ⟨o,ho,hd⟩=>by
  have QJ:c∉ch:=λz=>(hch c z).2.2.1 x c e rfl;by_cases hc:c∈X.fs
  ·obtain⟨sl,q⟩:=slot c o (I.Ra x c e) hc QJ ho (I.mh x c e);exact⟨_,q,hd⟩
  ·exact⟨o,keep c o (I.Ra x c e) hc QJ ho (I.mh x c e),hd⟩
 refine⟨I.ok,I.os,hg,⟨λb o e n hb hx=>?_,λb o e n hb hx=>?_,λb o e n hx=>?_,λb o e hx=>?_,λb xs e=>tups b xs (I.base.tups b xs e),λb o xs e=>uT b o xs (I.base.uT b o xs e),λb ps e=>?_⟩,?_,λx c e=>?_,?_,λx c e=>?_,λp hp=>?_,hok,I.len,ht⟩
 ·exact keep b o (neL b o e) hb (Zb b o e hx) (I.base.keep b o e n hb hx) (I.base.free b o e n hx)
 ·obtain⟨sl,e1⟩:=I.base.slot b o e n hb hx;obtain⟨LH,e2⟩:=slot b _ (neL b o e) hb (Zb b o e hx) e1 (I.base.free b o e n hx);exact⟨LH,e2⟩
 ·obtain⟨o',e1⟩:=I.base.there b o e hx;exact free b o' (Zb b o e hx) e1 (I.base.free b o e n hx)
 ·obtain⟨o',e1⟩:=I.base.there b o e hx;exact there b o' (Zb b o e hx) e1
 ·obtain⟨m1,e1⟩:=I.base.vj b ps e;obtain⟨m2,e2⟩:=vj b _ e1;exact⟨m1++m2,by rw[e2,Array.append_assoc]⟩
 ·obtain⟨m,hn,hl⟩:=I.loc;refine⟨m,ns m hn,λi x v e1 e2 e3=>?_⟩;obtain⟨u,r,l⟩:=hl i x v e1 e2 e3;refine⟨u,r,?_⟩;rcases l with l|⟨k,c,e,z⟩
  ·exact .inl l
  ·exact .inr ⟨k,c,e,cellK x c e _ z⟩
 ·obtain⟨v,z⟩:=I.cell x c e;exact⟨v,cellK x c e v z⟩
 ·obtain⟨m,⟨o,_,_,ho,_⟩,_⟩:=I.loc;exact free _ o (λz=>(hch _ z).2.1 Y) ho I.free
 ·obtain⟨v,o,ho,hd⟩:=I.cell x c e;exact free c o (λz=>(hch c z).2.2.1 x c e Y) ho (I.mh x c e)
 ·obtain⟨e,n,ne,nf,d⟩:=I.pin p hp;have QJ:p.1∉ch:=λz=>(hch p.1 z).2.2.2 p hp rfl;exact⟨keep p.1 p.2 ne nf QJ e n,free p.1 p.2 QJ e n,ne,nf,d⟩
theorem Inv.un{t':Nat}(I:Inv X pins σ H s)(u:Un X.fs [] H H' s.heap h')(hok:qY X.prog X.w H' h')(ht:s.toks<=t':=by first|exact k_ _|exact qaE _|assumption|omega):Inv X pins σ H' { s with heap:=h',toks:=t' }:=by
 obtain⟨m,⟨o,es,ep,ho,r⟩,_⟩:=id I.loc;obtain⟨sl,hL⟩:=u.any ho I.free (by simp)
 exact I.step (g':=s.gens) (d':=s.drawn) (ch:=[]) (λ_ z=>nomatch z) (λb o _ hb _ e n=>u.keep b o e n hb (by simp)) (λb o _ hb _ e n=>u.slot b o e n hb (by simp)) (λb o _ e n=>u.free b o e n (by simp)) (λb o _ e=>u.there b o e (by simp)) u.tups u.uT u.vj (λm' hm=>by
  obtain⟨o',es',ZK,ho',r'⟩:=hm;rw[ho]at ho';cases ho';exact⟨_,es',ZK,hL,r'⟩) hok I.bare (m_ I.up ht)
theorem Inv.call{g':Array GenState}{t':Nat}{d':Drawn}{ch:List h_}(I:Inv X pins σ H s)(u:Un (frs X.stack) ch H H' s.heap h')(hok:qY X.prog X.w H' h')(hg:AllBare g')
  (hch:∀b∈ch,(b∈X.ex\/X.s₀.heap.objs.size<=b)/\b≠X.env.locals/\(∀x c,X.env.cells.lookup x=some c->c≠b)/\∀p∈X.pn++pins,p.1≠b) (ht:X.s₀.toks<=t') :
  Inv X pins σ H' { s with heap:=h',gens:=g',drawn:=d',toks:=t' }:=by
 obtain⟨m,⟨o,es,ep,ho,r⟩,_⟩:=id I.loc;obtain⟨sl,hL⟩:=u.any ho I.free λz=>(hch _ z).2.1 rfl;exact I.step (ch:=ch) hch (λb o hL hb hc e n=>u.keep b o e n (λz=>(G_.mp (I.wj b z)).elim hL hb) hc) (λb o _ _ hc e n=>u.any e n hc) (λb o hc e n=>u.free b o e n hc) (λb o hc e=>u.there b o e hc) u.tups u.uT u.vj (λm' hm=>by
  obtain⟨o',es',ZK,ho',r'⟩:=hm;rw[ho]at ho';cases ho';exact⟨_,es',ZK,hL,r'⟩) hok hg ht
theorem Inv.turned{t':Nat}{it:h_}(I:Inv X pins σ H s)(k:∀b o,b≠it->s.heap.get? b=some o->h'.get? b=some o)(hn:H it=none)(hL:it≠X.env.locals)
  (h1:it∈X.ex\/X.s₀.heap.objs.size<=it) (h2:∀x c,X.env.cells.lookup x=some c->c≠it) (h3:∀p∈X.pn++pins,p.1≠it) (ht:s.toks<=t':=by first|exact k_ _|exact qaE _|assumption|omega):Inv X pins σ H { s with heap:=h',toks:=t' }:=by
 have nit:∀b u,H b=some u->b≠it:=λb u e z=>by rw[z,hn]at e;cases e
 refine I.step (g':=s.gens) (d':=s.drawn) (ch:=[it]) (λb hb=>?_) (λb o _ _ hc e _=>k b o (λz=>hc (by simp[z])) e) (λb o _ _ hc e _=>⟨o.slots,k b o (λz=>hc (by simp[z])) e⟩) (λ_ _ _ _ n=>n)
  (λb o hc e=>⟨o,k b o (λz=>hc (by simp[z])) e⟩) (λ_ _ e=>e) (λ_ _ _ e=>e) (λb ps e=>⟨#[],by rw[e];simp⟩) (λm hm=>?_) (λb u e=>?_) I.bare (m_ I.up ht)
 ·have e:b=it:=by simpa using hb
  subst e;exact⟨h1,hL,h2,h3⟩
 ·obtain⟨o,es,ep,ho,r⟩:=hm;exact⟨o,es,ep,k _ o (Ne.symm hL) ho,r⟩
 ·refine(I.hok b u e).stay (λc v hc q=>k c v ?_ q) (λ_ q=>q) λ_ _ q=>q;rcases hc with z|z
  ·rw[z];exact nit b u e
  ·exact nit c _ z
theorem Inv.tok(I:Inv X pins σ H s)(t':Nat)(ht:s.toks<=t':=by first|exact k_ _|exact qaE _|assumption|omega):Inv X pins σ H { s with toks:=t' }:=I.un (h':=s.heap) (t':=t') Un.refl I.hok ht
theorem Inv.kept{t':Nat}(I:Inv X pins σ H s)(k:∀b u,s.heap.get? b=some u->h'.get? b=some u)(ht:s.toks<=t':=by first|exact k_ _|exact qaE _|assumption|omega):Inv X pins σ H { s with heap:=h',toks:=t' }:=I.un (Un.kept k) (I.hok.kept k) ht
theorem Inv.laid{a:h_}{o:HO}{t':Nat}(I:Inv X pins σ H s)(k:∀b u,s.heap.get? b=some u->h'.get? b=some u)(hp:s.heap.objs.size<=a)(new:cU X.prog X.w (upd H a o) h' a o)(ht:s.toks<=t':=by first|exact k_ _|exact qaE _|assumption|omega):
  Inv X pins σ (upd H a o) { s with heap:=h',toks:=t' }:=I.un (Un.laid k hp (I.hok.fresh hp)) (I.hok.laid k hp new) ht
theorem Inv.write{x e:h_}{o:HO}{t':Nat}(I:Inv X pins σ H s)(mu:YG (H x))(he:e=x\/H e=some (.own x))(k:∀b u,b≠e->s.heap.get? b=some u->h'.get? b=some u)(VW:∃u,h'.get? e=some u)
  (new:cU X.prog X.w (upd H x o) h' x o) (ht:s.toks<=t':=by first|exact k_ _|exact qaE _|assumption|omega):Inv X pins σ (upd H x o) { s with heap:=h',toks:=t' }:=I.un (Un.write mu he k VW) (I.hok.write mu he k VW new) ht
theorem Inv.weak{σ':List (Option V)}(I:Inv X pins σ H s)(hl:σ'.length=σ.length)(w:∀(i:Nat) v,σ'[i]? =some (some v)->σ[i]? =some (some v)):Inv X pins σ' H s :=
 ⟨I.ok,I.os,I.bare,I.base,let ⟨m,hn,hl'⟩:=I.loc;⟨m,hn,λi x v e1 e2 e3=>hl' i x v e1 (w i v e2) e3⟩,I.cell,I.free,I.mh,I.pin,I.hok,hl.trans I.len,I.up⟩
theorem Inv.Dv{QG:List (h_×qa0)}(I:Inv X pins σ H s)(h:∀p∈QG,s.heap.get? p.1=some p.2/\H p.1=none/\p.1≠X.env.locals/\p.1∉X.fs/\∀v,p.2.data≠ .cell v):Inv X QG σ H s :=
 ⟨I.ok,I.os,I.bare,I.base,I.loc,I.cell,I.free,I.mh,λp hp=>(S_.mp hp).elim (λz=>I.pin p (qaG _ z)) (h p),I.hok,I.len,I.up⟩
theorem z9{N:List r_}(hN:N.Nodup){i j:Nat}{x:r_}(a:N[i]? =some x)(b:N[j]? =some x):i=j:=by
 obtain⟨h1,e1⟩:=p_.mp a;obtain⟨h2,e2⟩:=p_.mp b;exact(List.getElem_inj hN).mp (e1.trans e2.symm)
theorem B8{M:qc3}{A:qah}{E:i_->l_->Prop}{i:Nat}{x:r_}{v:V}{u:i_}{Q:Unit->l_->Prop}(I:Inv X pins σ H s)(hN:X.N.Nodup)(hi:X.N[i]? =some x)(hx:Loc X.env.scope x)(r:RelV v u)
  (h:∀s',Inv X pins (σ.set i (some v)) H s'->(∃a,qa9 a s.heap s'.heap/\(a=X.env.locals\/X.env.cells.lookup x=some a))->Q () s') (hf:X.fn x=true\/X.env.scope.names.lookup x=some .local:=by first|exact .inl rfl|exact .inr rfl|assumption):D_ M A (storeName X.env x u) Q E s:=by
 obtain⟨m,hn,hl⟩:=id I.loc;have hcls:(X.env.scope.kind== .class||(X.env.scope.kind== .module&&X.env.locals != X.env.globals))=false:=by rw[I.ok.kind];rfl
 have XS:i<σ.length:=by rw[I.len];exact(p_.mp hi).1
 have Ra:=I.Ra;have tracked:∀{a:h_} {h':qab},(∃o,s.heap.get? a=some o/\H a=none)->qa9 a s.heap h'->qY X.prog X.w H h':=λ{a h'} ha hs b ob e=>by
  obtain⟨_,_,hfree⟩:=ha;refine(I.hok b ob e).stay (λc w' hc q=>(hs.2 c ?_).trans q) (λ_ q=>q) λ_ _ q=>q;rintro rfl;rcases hc with rfl|hc
  ·rw[hfree]at e;cases e
  ·rw[hfree]at hc;cases hc
 rcases hx with hk|hk
 ·refine wpAny_storeName_local hk hn (λh' hn' hs=>?_) hcls;obtain⟨oL,_,_,XA,_⟩:=id hn
  refine h _ ⟨I.ok,I.os,I.bare,⟨λb o e n hb hx=>?_,λb o e n hb hx=>?_,I.base.free,λb o e hx=>?_,I.base.tups,I.base.uT,I.base.vj⟩,⟨_,hn',λj y v' e1 e2 e3=>?_⟩,λy c e=>?_,I.free,I.mh,λp hp=>?_,tracked ⟨oL,XA,I.free⟩ hs,by simpa using I.len,m_ I.up (by first|exact k_ _|exact qaE _|exact qaq _ _)⟩ ⟨_,hs,.inl Y⟩
  ·exact(hs.2 b (Y_ (H_ (y_ e) I.ok.above))).trans (I.base.keep b o e n hb hx)
  ·obtain⟨sl,e1⟩:=I.base.slot b o e n hb hx;exact⟨sl,(hs.2 b (Y_ (H_ (y_ e) I.ok.above))).trans e1⟩
  ·obtain⟨o',e1⟩:=I.base.there b o e hx;exact⟨o',(hs.2 b (Y_ (H_ (y_ e) I.ok.above))).trans e1⟩
  ·by_cases hj:j=i
   ·subst hj;rw[hi]at e1;cases e1;rw[qbU XS]at e2;cases e2;exact⟨u,r,.inl ⟨hk,by simp⟩⟩
   ·rw[qcd (Ne.symm hj)]at e2;obtain⟨u',r',q⟩:=hl j y v' e1 e2 e3;refine⟨u',r',?_⟩;rcases q with⟨k,e⟩|⟨k,c,e,z⟩
    ·refine .inl ⟨k,?_⟩;have:y≠x:=λe=>hj (z9 hN e1 (e▸hi));simp[this,e]
    ·exact .inr ⟨k,c,e,z.sameBut hs (Ra y c e)⟩
  ·obtain⟨w',z⟩:=I.cell y c e;exact⟨w',z.sameBut hs (Ra y c e)⟩
  ·obtain⟨e,n,ne,nf,d⟩:=I.pin p hp;exact⟨(hs.2 p.1 ne).trans e,n,ne,nf,d⟩
 ·have hfn:X.fn x=true:=by
   rcases hf with z|z
   ·exact z
   ·rw[z]at hk;cases hk
  obtain⟨c,hc⟩:=I.ok.has x (.inl hk);obtain⟨w',z⟩:=I.cell x c hc;refine wpAny_storeName_cell I.ok.kind hk hc z (λh' hc' hs=>?_);obtain⟨oc,hoc,acI⟩:=id z;refine h { s with heap:=h' } ⟨I.ok,I.os,I.bare,⟨λb o e n hb hx=>?_,λb o e n hb hx=>?_,I.base.free,λb o e hx=>?_,I.base.tups,I.base.uT,I.base.vj⟩,⟨m,hn.sameBut hs (Ne.symm (Ra x c hc)),λj y v' e1 e2 e3=>?_⟩,λy c' e=>?_,I.free,I.mh,λp hp=>?_,tracked ⟨oc,hoc,I.mh x c hc⟩ hs,by simpa using I.len,I.up⟩ ⟨c,hs,.inr hc⟩
  ·exact(hs.2 b (Y_ (H_ (y_ e) (I.ok.Qh x c hfn hc)))).trans (I.base.keep b o e n hb hx)
  ·obtain⟨sl,e1⟩:=I.base.slot b o e n hb hx;exact⟨sl,(hs.2 b (Y_ (H_ (y_ e) (I.ok.Qh x c hfn hc)))).trans e1⟩
  ·obtain⟨o',e1⟩:=I.base.there b o e hx;exact⟨o',(hs.2 b (Y_ (H_ (y_ e) (I.ok.Qh x c hfn hc)))).trans e1⟩
  ·by_cases hj:j=i
   ·subst hj;rw[hi]at e1;cases e1;rw[qbU XS]at e2;cases e2;exact⟨u,r,.inr ⟨.inl hk,c,hc,hc'⟩⟩
   ·rw[qcd (Ne.symm hj)]at e2;obtain⟨u',r',q⟩:=hl j y v' e1 e2 e3;refine⟨u',r',?_⟩;rcases q with q|⟨k,c',e,z'⟩
    ·exact .inl q
    ·refine .inr ⟨k,c',e,z'.sameBut hs ?_⟩;rintro rfl;exact hj (z9 hN e1 (I.ok.inj _ _ _ e hc▸hi))
  ·by_cases hcc:c'=c
   ·subst hcc;exact⟨_,hc'⟩
   ·obtain⟨w2,z2⟩:=I.cell y c' e;exact⟨w2,z2.sameBut hs hcc⟩
  ·obtain⟨e,n,ne,nf,d⟩:=I.pin p hp;refine⟨(hs.2 p.1 ?_).trans e,n,ne,nf,d⟩;intro q;rw[q,hoc]at e;have q':oc=p.2:=qaa e;exact d w' (by rw[←q'];exact acI)
theorem yZ{M:qc3}{A:qah}{E:i_->l_->Prop}{i:Nat}{x:r_}{v:V}{u:i_}{Q:Unit->l_->Prop}(I:Inv X pins σ H s)(hN:X.N.Nodup)(hi:X.N[i]? =some x)(hx:Loc X.env.scope x)(r:RelV v u)
  (h:∀s',Inv X pins (σ.set i (some v)) H s'->Q () s') (hf:X.fn x=true\/X.env.scope.names.lookup x=some .local:=by first|exact .inl rfl|exact .inr rfl|assumption):D_ M A (storeName X.env x u) Q E s :=
 B8 I hN hi hx r (λs' I' _=>h s' I') hf
theorem Inv.Rb{s':l_}{ch:List h_}(I:Inv X pins σ H s)(ho:s'.os=s.os)(u:Un (frs X.stack) ch H H' s.heap s'.heap)(hok:qY X.prog X.w H' s'.heap)(hg:AllBare s'.gens)
  (hch:∀b∈ch,(b∈X.ex\/X.s₀.heap.objs.size<=b)/\b≠X.env.locals/\(∀x c,X.env.cells.lookup x=some c->c≠b)/\∀p∈X.pn++pins,p.1≠b) (ht:X.s₀.toks<=s'.toks):Inv X pins σ H' s':=by
 obtain⟨h',g',d',t',o'⟩:=s';have e:o'=s.os:=ho;subst e;exact I.call (g':=g') (t':=t') (d':=d') u hok hg hch ht
end
noncomputable abbrev XK:=i_->Option h_->Hp->Prop
noncomputable abbrev St:=List (Option V)
noncomputable abbrev VK:=V->Hp->Prop
noncomputable abbrev TE:=St->Hp->VK->Prop
noncomputable abbrev TT:=St->Hp->(Bool->Hp->Prop)->Prop
noncomputable abbrev TA:=St->Hp->(List V->Hp->Prop)->Prop
structure Ends where
 nx:St->Hp->Prop
 rt:VK
 bk:St->Hp->Prop:=λ_ _=>False
 ct:St->Hp->Prop:=λ_ _=>False
noncomputable abbrev TS:=Ends->St->Hp->Prop
def EP(X:Cx)(pins:List (h_×qa0))(σ:St)(Q:VK)(u:i_)(s':l_):Prop:=dI λv H'=>Inv X pins σ H' s'/\RelV v u/\Q v H'
def TP(X:Cx)(pins:List (h_×qa0))(σ:St)(Q:Bool->Hp->Prop)(b:Bool)(s':l_):Prop:=∃H',Inv X pins σ H' s'/\Q b H'
def AP(X:Cx)(pins:List (h_×qa0))(σ:St)(Q:List V->Hp->Prop)(us:List i_)(s':l_):Prop:=dI λvs H'=>Inv X pins σ H' s'/\Vals vs us/\Q vs H'
def SP(X:Cx)(pins:List (h_×qa0))(D:Ends)(f:Flow)(s':l_):Prop :=
 match f with
 | .next=>dI λσ' H'=>Inv X pins σ' H' s'/\D.nx σ' H'
 | .brk=>dI λσ' H'=>Inv X pins σ' H' s'/\D.bk σ' H'
 | .cont=>dI λσ' H'=>Inv X pins σ' H' s'/\D.ct σ' H'
 | .ret u=>oS λv σ' H'=>Inv X pins σ' H' s'/\RelV v u/\D.rt v H'
def PE(X:Cx)(e:Expr)(t:TE):Prop :=
 ∀(pins:List (h_×qa0)) (s:l_) (σ:St) (H:Hp) (Q:VK),Inv X pins σ H s->t σ H Q->D_ (model X.prog X.w) X.A (eval e X.env) (EP X pins σ Q) X.xe s
def PT(X:Cx)(e:Expr)(t:TT):Prop :=
 ∀(pins:List (h_×qa0)) (s:l_) (σ:St) (H:Hp) (Q:Bool->Hp->Prop),Inv X pins σ H s->t σ H Q->D_ (model X.prog X.w) X.A (isTrue e X.env (eval e X.env)) (TP X pins σ Q) X.xe s
def PW(X:Cx)(e:Expr)(t:TT):Prop :=
 ∀(whole:Sem i_) (pins:List (h_×qa0)) (s:l_) (σ:St) (H:Hp) (Q:Bool->Hp->Prop),Inv X pins σ H s->t σ H Q->D_ (model X.prog X.w) X.A (isTrue e X.env whole) (TP X pins σ Q) X.xe s
theorem PW.pt{X:Cx}{e:Expr}{t:TT}(h:PW X e t):PT X e t:=h _
def PA(X:Cx)(es:List Expr)(t:TA):Prop :=
 ∀(pos:qcq) (pins:List (h_×qa0)) (s:l_) (σ:St) (H:Hp) (Q:List V->Hp->Prop),Inv X pins σ H s->t σ H Q->D_ (model X.prog X.w) X.A (spliced (backTo pos (qac es X.env))) (AP X pins σ Q) X.xe s
def PS(X:Cx)(st:qaA)(t:TS):Prop :=
 ∀(pins:List (h_×qa0)) (s:l_) (σ:St) (H:Hp) (D:Ends),Inv X pins σ H s->t D σ H->D_ (model X.prog X.w) X.A (exec st X.env) (SP X pins D) X.xe s
def EG(X:Cx)(st:List qaA)(t:TS):Prop :=
 ∀(pins:List (h_×qa0)) (s:l_) (σ:St) (H:Hp) (D:Ends),Inv X pins σ H s->t D σ H->D_ (model X.prog X.w) X.A (execs st X.env) (SP X pins D) X.xe s
theorem gg{α:Type}{t:Sem α}{Q Q':α->l_->Prop}{M:qc3}{A:qah}{E:i_->l_->Prop}{s:l_}(h:D_ M A t Q E s)(hQ:∀a s,Q a s->Q' a s):D_ M A t Q' E s:=qaJ h hQ λ_ _ x=>x
end
section
section
variable{X:Cx}
def Wc(i:Nat):TE:=λσ H Q=>∃v,σ[i]? =some (some v)/\Q v H
def tC(v:V):TE:=λ_ H Q=>Q v H
theorem Up {i:Nat}{x:r_}{pos:qcq}(hN:X.N[i]? =some x)(hv:ZN X.env.scope x)(hd:(x==("__debug__" :r_))=false:=by decide)(hcd:(x==("__classdict__" :r_))=false:=by decide):PE X (.Name x pos) (Wc i):=by
 intro pins s σ H Q I h;obtain⟨v,e,h⟩:=h;obtain⟨m,hn,hl⟩:=I.loc;obtain⟨u,r,l⟩:=hl i x v hN e hv;have fin:EP X pins σ Q u s:=⟨v,H,I,r,h⟩;rcases l with⟨hk,hm⟩|⟨hk,c,hc,hcell⟩
 ·exact wpAny_Name (wpAny_loadName_local I.ok.kind hk hn hm fin) hd
 ·rcases hk with hk|hk
  ·exact wpAny_Name (wpAny_loadName_cell I.ok.kind hk hc hcell fin) hd
  ·exact wpAny_Name (wpAny_loadName_free I.ok.kind hk hc hcell fin hcd) hd
theorem ao{i j pos}:PE X (.Constant (.int i) j pos) (tC (.int i)):=λ_ _ _ H _ I h=>wpAny_Constant_int ⟨.int i,H,I.tok _,⟨_,rfl⟩,h⟩
theorem vC{b j pos}:PE X (.Constant (.bool b) j pos) (tC (.bl b)):=λ_ _ _ H _ I h=>Constant_bool ⟨.bl b,H,I,rfl,h⟩
theorem Dz{j pos}:PE X (.Constant .none j pos) (tC .gE):=λ_ _ _ H _ I h=>Constant_none ⟨.gE,H,I,rfl,h⟩
theorem c9{x j pos}:PE X (.Constant (.str x) j pos) (tC (.str x)):=λ_ _ _ H _ I h=>Calls.Constant_str ⟨.str x,H,I.tok _,⟨_,rfl⟩,h⟩
def Gl(X:Cx)(x:r_):Prop:=X.env.kindOf x=some .globalImplicit
theorem oQ{E:i_->l_->Prop}{pins:List (h_×qa0)}{s:l_}{σ:St}{H:Hp}{x:r_}{u:i_}{pos:qcq}{Q:i_->l_->Prop}(I:Inv X pins σ H s)(hg:Gl X x)(hm:X.mg x=some u)(h:Q u s)
  (hd:(x==("__debug__" :r_))=false:=by decide):D_ (model X.prog X.w) X.A (eval (.Name x pos) X.env) Q E s :=
 Calls.Name_function_global I.ok.kind hg (Calls.loadGlobal_global (by rw[I.ok.glob];exact I.mod.glob.keeps I.bk) hm h) hd
theorem qm{E:i_->l_->Prop}{pins:List (h_×qa0)}{s:l_}{σ:St}{H:Hp}{x:r_}{u:i_}{pos:qcq}{Q:i_->l_->Prop}(I:Inv X pins σ H s)(hg:Gl X x)(hm:X.mg x=none)(hv:bootBuiltins x=some u)(h:Q u s)
  (hn:x≠ "__name__" :=by decide) (hd:(x==("__debug__" :r_))=false:=by decide):D_ (model X.prog X.w) X.A (eval (.Name x pos) X.env) Q E s:=by
 obtain⟨mb,h1,h2⟩:=I.mod.blt;exact Calls.Name_function_global I.ok.kind hg (Calls.loadGlobal_builtin (by rw[I.ok.glob];exact I.mod.glob.keeps I.bk) hm (by rw[I.ok.blt];exact h1.keeps I.bk) ((h2 x hn).trans hv) h) hd
theorem c8 {x:r_}{v:V}{u:i_}{pos:qcq}(hg:Gl X x)(hm:X.mg x=some u)(r:RelV v u)(hd:(x==("__debug__" :r_))=false:=by decide):PE X (.Name x pos) (tC v) :=
 λ_ _ _ H _ I h=>oQ I hg hm ⟨v,H,I,r,h⟩ hd
theorem oN {x:r_}{v:V}{u:i_}{pos:qcq}(hg:Gl X x)(hm:X.mg x=none)(hv:bootBuiltins x=some u)(r:RelV v u)(hn:x≠ "__name__" :=by decide)(hd:(x==("__debug__" :r_))=false:=by decide):PE X (.Name x pos) (tC v) :=
 λ_ _ _ H _ I h=>qm I hg hm hv ⟨v,H,I,r,h⟩ hn hd
variable{a b:Expr}{ta tb:TE}{pos:qcq}
def tB(t:TE):TT:=λσ H Q=>t σ H λx H1=>∃c,x= .bl c/\Q c H1
theorem gi{e:Expr}{t:TE}(h:PE X e t)(he:∀whole,isTrue e X.env whole=(do let v ←whole;standAt e.pos;holding [v] (truthy v)):=by intro _;rfl):PT X e (tB t):=by
 intro pins s σ H Q I hw;refine isTrue_plain (gg (h pins s σ H _ I hw) λv s1 ⟨x,H1,I1,r1,q1⟩=>?_) (he _);obtain⟨d,rfl,q⟩:=q1;cases r1;exact qaX ⟨H1,I1,q⟩
variable{tA Y0:TT}{rest:List Expr}
def aby(t u:TT):TT:=λσ H Q=>t σ H λc H1=>if c=true then u σ H1 Q else Q false H1
def tOr(t u:TT):TT:=λσ H Q=>t σ H λc H1=>if c=true then Q true H1 else u σ H1 Q
def abp(t:TT):TT:=λσ H Q=>t σ H λc H1=>Q (!c) H1
theorem yH(ha:PT X a tA):PW X (.BoolOp .And [a] pos) tA:=by
 intro wh pins s σ H Q I h;refine isTrue_and (gg (ha pins s σ H Q I h) λc s1 e=>?_)
 cases c with
 |true=>exact isTrue_and_nil e
 |false=>exact e
theorem Du(ha:PT X a tA):PW X (.BoolOp .Or [a] pos) tA:=by
 intro wh pins s σ H Q I h;refine isTrue_or (gg (ha pins s σ H Q I h) λc s1 e=>?_)
 cases c with
 |false=>exact isTrue_or_nil e
 |true=>exact e
theorem zG(ha:PT X a tA)(hb:PW X (.BoolOp .And (b::rest) pos) Y0):PW X (.BoolOp .And (a::b::rest) pos) (aby tA Y0):=by
 intro wh pins s σ H Q I h;refine isTrue_and (gg (ha pins s σ H _ I h) λc s1 ⟨H1,I1,q1⟩=>?_)
 cases c with
 |true=>exact hb wh pins s1 σ H1 Q I1 q1
 |false=>exact⟨H1,I1,q1⟩
theorem Jt(ha:PT X a tA)(hb:PW X (.BoolOp .Or (b::rest) pos) Y0):PW X (.BoolOp .Or (a::b::rest) pos) (tOr tA Y0):=by
 intro wh pins s σ H Q I h;refine isTrue_or (gg (ha pins s σ H _ I h) λc s1 ⟨H1,I1,q1⟩=>?_)
 cases c with
 |true=>exact⟨H1,I1,q1⟩
 |false=>exact hb wh pins s1 σ H1 Q I1 q1
theorem mP(ha:PT X a tA):PT X (.UnaryOp .Not a pos) (abp tA):=by
 intro pins s σ H Q I h;exact isTrue_not (ha pins s σ H (λc H1=>Q (!c) H1) I h)
def Wq(ta tb:TE):TE:=λσ H Q=>ta σ H λx H1=>∃c,x= .bl c/\if c=true then tb σ H1 Q else Q (.bl false) H1
def abo(ta tb:TE):TE:=λσ H Q=>ta σ H λx H1=>∃c,x= .bl c/\if c=true then Q (.bl true) H1 else tb σ H1 Q
def We(ta:TE):TE:=λσ H Q=>ta σ H λx H1=>∃c,x= .bl c/\Q (.bl (!c)) H1
theorem Dy{op}{t:TE}(h:PE X a t):PE X (.BoolOp op [a] pos) t:=λpins s σ H Q I hw=>BoolOp_one (h pins s σ H Q I hw)
theorem HG(ha:PE X a ta)(hb:PE X (.BoolOp .And (b::rest) pos) tb):PE X (.BoolOp .And (a::b::rest) pos) (Wq ta tb):=by
 intro pins s σ H Q I h;refine BoolOp_and (gg (ha pins s σ H _ I h) λv s1 ⟨x,H1,I1,r1,q1⟩=>?_);obtain⟨c,rfl,q1⟩:=q1;cases r1;refine qaX ?_
 cases c with
 |true=>exact hb pins s1 σ H1 Q I1 q1
 |false=>exact⟨.bl false,H1,I1,Y,q1⟩
theorem WJ(ha:PE X a ta)(hb:PE X (.BoolOp .Or (b::rest) pos) tb):PE X (.BoolOp .Or (a::b::rest) pos) (abo ta tb):=by
 intro pins s σ H Q I h;refine BoolOp_or (gg (ha pins s σ H _ I h) λv s1 ⟨x,H1,I1,r1,q1⟩=>?_);obtain⟨c,rfl,q1⟩:=q1;cases r1;refine qaX ?_
 cases c with
 |false=>exact hb pins s1 σ H1 Q I1 q1
 |true=>exact⟨.bl true,H1,I1,Y,q1⟩
theorem Uq(ha:PE X a ta):PE X (.UnaryOp .Not a pos) (We ta):=by
 intro pins s σ H Q I h;refine UnaryOp_ (gg (ha pins s σ H _ I h) λv s1 ⟨x,H1,I1,r1,q1⟩=>?_);obtain⟨c,rfl,q1⟩:=q1;cases r1;exact not_of (qaX ⟨.bl (!c),H1,I1,Y,q1⟩)
def tIf(t:TT)(ta tb:TE):TE:=λσ H Q=>t σ H λc H1=>if c=true then ta σ H1 Q else tb σ H1 Q
theorem zJ{c:Expr}(hc:PT X c tA)(ha:PE X a ta)(hb:PE X b tb):PE X (.IfExp c a b pos) (tIf tA ta tb):=by
 intro pins s σ H Q I h;refine wpAny_IfExp (gg (hc pins s σ H _ I h) λd s1 ⟨H1,I1,q1⟩=>?_)
 cases d with
 |true=>exact ha pins s1 σ H1 Q I1 q1
 |false=>exact hb pins s1 σ H1 Q I1 q1
end
end
section
def bD(K:PySem.W.Frag)(H:Hp)(a:h_)(xs:List V):Prop :=
 Rd H a (.lst xs) ∨
  oS λ(o:qa0) (its:Array i_) (n:Nat)=>K.lookup a=some o/\o.cls= .type "list" /\o.dict=none/\o.data= .seq its n/\its.size<=x_/\Vals xs its.toList
def fq(K:PySem.W.Frag)(H:Hp)(a:h_)(xs:List V):Prop :=
 Rd H a (.tup xs) ∨
  oS λ(o:qa0) (its:Array i_) (n:Nat)=>K.lookup a=some o/\o.cls= .type "tuple" /\o.data= .seq its n/\its.size<=x_/\Vals xs its.toList
noncomputable def adN:i_->Option V
 | .none=>some .gE
 | .bool b=>some (.bl b)
 | .int i _=>some (.int i)
 | .str x _=>some (.str x)
 | .bytes b _=>some (.IE b)
 | .float b _=>some (.Q7 b)
 | .ref a=>some (.ref a)
 | .type n=>some (.ty n)
 |_=>none
theorem RelV.abs{x:V}{u:i_}(r:RelV x u):adN u=some x:=by
 cases x with
 |gE=>cases r;rfl
 |bl _=>cases r;rfl
 |int _=>obtain⟨t,rfl⟩:=r;rfl
 |str _=>obtain⟨t,rfl⟩:=r;rfl
 |IE _=>obtain⟨t,rfl⟩:=r;rfl
 |Q7 _=>obtain⟨t,rfl⟩:=r;rfl
 |ref _=>cases r;rfl
 |ty _=>cases r;rfl
theorem RelV.inj{x y:V}{u:i_}(r:RelV x u)(q:RelV y u):x=y:=qaa (r.abs.symm.trans q.abs)
theorem Vals.inj:∀{xs ys:List V} {us:List i_},Vals xs us->Vals ys us->xs=ys
 |_,_,_,.nil,.nil=>rfl
 |_,_,_,.cons r t,.cons r' t'=>by rw[r.inj r',Vals.inj t t']
section
variable{X:Cx}{pins:List (h_×qa0)}{σ:St}{H:Hp}{s:l_}{a:h_}{xs ys:List V}
theorem bD.of{K:PySem.W.Frag}(h:H a=some (.lst xs)):bD K H a xs:=.inl (.inl h)
theorem fq.of{K:PySem.W.Frag}(h:H a=some (.tup xs)):fq K H a xs:=.inl (.inl h)
theorem Inv.list(I:Inv X pins σ H s)(h:bD X.K H a xs):∃its:List i_,Vals xs its/\PlainL s.heap a its.toArray/\xs.length<=x_:=by
 rcases h with h|⟨o,its,n,hk,hc,hd,hs,hz,r⟩
 ·obtain⟨z,its,n,r,e⟩:=h.ok I.hok;exact⟨its,r,⟨_,n,e,Y,Y,Y⟩,z⟩
 ·refine⟨its.toList,r,⟨o,n,I.qz a o hk,hc,hd,by simpa using hs⟩,?_⟩;have e:=r.length;simp only[s_]at e;omega
theorem Inv.tuple(I:Inv X pins σ H s)(h:fq X.K H a xs):∃its:List i_,Vals xs its/\IsTup s.heap a its.toArray/\xs.length<=x_:=by
 rcases h with h|⟨o,its,n,hk,hc,hs,hz,r⟩
 ·obtain⟨z,its,r,p⟩:=h.ok I.hok;exact⟨its,r,p,z⟩
 ·refine⟨its.toList,r,⟨o,I.qz a o hk,hc,n,by simpa using hs⟩,?_⟩;have e:=r.length;simp only[s_]at e;omega
theorem Inv.Ag(I:Inv X pins σ H s)(h:bD X.K H a xs)(h':bD X.K H a ys):xs=ys:=by
 obtain⟨its,r,⟨o,n,e,_,_,d⟩,_⟩:=I.list h;obtain⟨its',r',⟨o',n',e',_,_,d'⟩,_⟩:=I.list h';rw[e]at e';cases e';rw[d]at d';injection d' with d1 _;have:its=its':=by simpa using congrArg Array.toList d1
 subst this;exact r.inj r'
theorem Inv.B6(I:Inv X pins σ H s)(h:fq X.K H a xs)(h':fq X.K H a ys):xs=ys:=by
 obtain⟨its,r,⟨o,e,_,n,d⟩,_⟩:=I.tuple h;obtain⟨its',r',⟨o',e',_,n',d'⟩,_⟩:=I.tuple h';rw[e]at e';cases e';rw[d]at d';injection d' with d1 _;have:its=its':=by simpa using congrArg Array.toList d1
 subst this;exact r.inj r'
end
noncomputable abbrev Cx.Bd(X:Cx)(E:i_->l_->Prop):Cx:={ X with xe:=E }
noncomputable abbrev Cx.WR(X:Cx):Cx:=X.Bd λ_ _=>False
theorem Cx.Ok.Bd{X:Cx}(ok:X.Ok)(E:i_->l_->Prop):(X.Bd E).Ok :=
 ⟨ok.mod,ok.kind,ok.glob,ok.blt,ok.above,ok.inj,ok.has,ok.Qh,ok.hd,ok.frames,ok.stk,ok.ZJ,ok.bs,ok.N5,ok.HU,ok.Lk,ok.uR,ok.PY,ok.tk⟩
theorem Cx.Ok.sj{X:Cx}{E:i_->l_->Prop}(ok:(X.Bd E).Ok):X.Ok :=
 ⟨ok.mod,ok.kind,ok.glob,ok.blt,ok.above,ok.inj,ok.has,ok.Qh,ok.hd,ok.frames,ok.stk,ok.ZJ,ok.bs,ok.N5,ok.HU,ok.Lk,ok.uR,ok.PY,ok.tk⟩
section
variable{X:Cx}{pins:List (h_×qa0)}{σ:St}{H:Hp}{s:l_}{E:i_->l_->Prop}
theorem Inv.Bd(I:Inv X pins σ H s)(E:i_->l_->Prop):Inv (X.Bd E) pins σ H s:=⟨I.ok.Bd E,I.os,I.bare,I.base,I.loc,I.cell,I.free,I.mh,I.pin,I.hok,I.len,I.up⟩
theorem Inv.sj(I:Inv (X.Bd E) pins σ H s):Inv X pins σ H s:=⟨I.ok.sj,I.os,I.bare,I.base,I.loc,I.cell,I.free,I.mh,I.pin,I.hok,I.len,I.up⟩
theorem SP.sj{D:Ends}{f:Flow}{s':l_}(h:SP (X.Bd E) pins D f s'):SP X pins D f s':=by
 cases f with
 |next=>obtain⟨σ',H',I,q⟩:=h;exact⟨σ',H',I.sj,q⟩
 |brk=>obtain⟨σ',H',I,q⟩:=h;exact⟨σ',H',I.sj,q⟩
 |cont=>obtain⟨σ',H',I,q⟩:=h;exact⟨σ',H',I.sj,q⟩
 |ret u=>obtain⟨v,σ',H',I,r,q⟩:=h;exact⟨v,σ',H',I.sj,r,q⟩
theorem EG.WR{st:List qaA}{t:TS}(h:EG X.WR st t):EG X st t:=λpins s σ H D I hw =>
 qaJ (h pins s σ H D (I.Bd _) hw) (λ_ _ q=>q.sj) λ_ _ z=>qaN z
end
section
variable{X:Cx}{st:qaA}{rest:List qaA}{t u:TS}{e:Expr}{te:TE}{pos:qcq}
def Wf:TS:=λD σ H=>D.nx σ H
def abm(t u:TS):TS:=λD σ H=>t { D with nx:=u D } σ H
theorem aY:EG X [] Wf:=λ_ _ σ H _ I h=>qcy ⟨σ,H,I,h⟩
theorem aj(h1:PS X st t)(h2:EG X rest u):EG X (st::rest) (abm t u):=by
 intro pins s σ H D I h;refine wpAny_execs_cons (gg (h1 pins s σ H { D with nx:=u D } I h) λf s1 q=>?_)
 cases f with
 |next =>
  obtain⟨σ',H',I',q⟩:=q;exact h2 pins s1 σ' H' D I' q
 |ret v=>exact q
 |brk=>exact q
 |cont=>exact q
theorem ak(h1:PS X st t):EG X [st] t:=by
 intro pins s σ H D I h;refine wpAny_execs_cons (gg (h1 pins s σ H D I h) λf s1 q=>?_)
 cases f with
 |next=>exact qcy q
 |ret v=>exact q
 |brk=>exact q
 |cont=>exact q
theorem Inv.quiet{pins:List (h_×qa0)}{σ:St}{H:Hp}{s:l_}(I:Inv X pins σ H s):interactive X.env=false:=by simp[interactive,I.ok.kind]
def Wj(te:TE):TS:=λD σ H=>te σ H λ_ H1=>D.nx σ H1
theorem ck(he:PE X e te)(hs:swapsWith e none pos.line X.env=pure false:=by rfl):PS X (.Expr e pos) (Wj te):=by
 intro pins s σ H D I h;exact wpAny_Expr_any (gg (he pins s σ H _ I h) λv s1 ⟨x,H1,I1,r1,q1⟩=>⟨σ,H1,I1,q1⟩) I.quiet hs
def abn(te:TE):TS:=λD σ H=>te σ H D.rt
theorem aN(he:PE X e te):PS X (.Return (some e) pos) (abn te):=by
 intro pins s σ H D I h;exact wpAny_Return_some (gg (he pins s σ H _ I h) λv s1 ⟨x,H1,I1,r1,q1⟩=>⟨x,σ,H1,I1,r1,q1⟩)
def abu(c:TT)(t u:TS):TS:=λD σ H=>c σ H λb H1=>if b=true then t D σ H1 else u D σ H1
theorem cL{c:Expr}{a b:List qaA}{tc:TT}(hc:PT X c tc)(ha:EG X a t)(hb:EG X b u):PS X (.If c a b pos) (abu tc t u):=by
 intro pins s σ H D I h;refine wpAny_If (gg (hc pins s σ H _ I h) λd s1 ⟨H1,I1,q1⟩=>?_)
 cases d with
 |true=>exact ha pins s1 σ H1 D I1 q1
 |false=>exact hb pins s1 σ H1 D I1 q1
def Mi:TS:=λ_ _ _=>False
theorem zH:PS X st Mi:=λ_ _ _ _ _ _ h=>h.elim
theorem lq{sts:List qaA}:EG X sts Mi:=λ_ _ _ _ _ _ h=>h.elim
end
noncomputable abbrev TG:=V->St->Hp->(St->Hp->Prop)->Prop
noncomputable abbrev Rg:=List V->St->Hp->(St->Hp->Prop)->Prop
def PG(X:Cx)(target:Expr)(t:TG):Prop :=
 ∀(pins:List (h_×qa0)) (s:l_) (σ:St) (H:Hp) (v:V) (u:i_) (Q:St->Hp->Prop),Inv X pins σ H s->RelV v u->t v σ H Q →
  D_ (model X.prog X.w) X.A (assign target X.env u) (λ_ s'=>dI λσ' H'=>Inv X pins σ' H' s'/\Q σ' H') X.xe s
def YD(X:Cx)(ts:List Expr)(t:Rg):Prop :=
 ∀(pins:List (h_×qa0)) (s:l_) (σ:St) (H:Hp) (vs:List V) (us:List i_) (Q:St->Hp->Prop),Inv X pins σ H s->Vals vs us->t vs σ H Q →
  D_ (model X.prog X.w) X.A (assignInOrder ((assignEach ts X.env).map (·.2)) us) (λ_ s'=>dI λσ' H'=>Inv X pins σ' H' s'/\Q σ' H') X.xe s
noncomputable abbrev Vy:=V->V->V->Hp->(Hp->Prop)->Prop
def YC(X:Cx)(t:Vy):Prop :=
 ∀(pins:List (h_×qa0)) (s:l_) (σ:St) (H:Hp) (o i v:V) (ov iv u:i_) (Q:Hp->Prop),Inv X pins σ H s->RelV o ov->RelV i iv->RelV v u->t o i v H Q →
  D_ (model X.prog X.w) X.A (setItem ov iv u) (λ_ s'=>∃H',Inv X pins σ H' s'/\Q H') X.xe s
section
variable{X:Cx}{pos:qcq}
def ND(i:Nat):TG:=λv σ H Q=>Q (σ.set i (some v)) H
theorem aQ{i:Nat}{x:r_}(hN:X.N.Nodup)(hi:X.N[i]? =some x)(hx:Loc X.env.scope x)(hf:X.fn x=true\/X.env.scope.names.lookup x=some .local:=by first|exact .inl rfl|exact .inr rfl|assumption):PG X (.Name x pos) (ND i):=by
 intro pins s σ H v u Q I r h;exact wpAny_assign_Name (yZ I hN hi hx r (λs' I'=>⟨_,H,I',h⟩) hf)
def adp:Rg:=λvs σ H Q=>vs=[]/\Q σ H
def Yc(t:TG)(u:Rg):Rg:=λvs σ H Q=>dI λv r=>vs=v::r/\t v σ H λσ' H'=>u r σ' H' Q
theorem p6:YD X [] adp:=by
 intro pins s σ H vs us Q I r h;obtain⟨e,h⟩:=h;subst e;cases r;exact assignInOrder_nil ⟨σ,H,I,h⟩
theorem fu{e:Expr}{es:List Expr}{t:TG}{u:Rg}(h1:PG X e t)(h2:YD X es u)
  (hs:(assignEach (e::es) X.env).map (·.2)=assign e X.env::(assignEach es X.env).map (·.2):=by rfl):YD X (e::es) (Yc t u):=by
 intro pins s σ H vs us Q I r h;obtain⟨v,vr,e1,h⟩:=h;subst e1
 cases r with
 |cons r rr =>
  rw[hs];refine assignInOrder_cons (gg (h1 pins s σ H _ _ _ I r h) λ_ s1 ⟨σ1,H1,I1,q1⟩=>?_);exact h2 pins s1 σ1 H1 _ _ Q I1 rr q1
def Yb(K:PySem.W.Frag)(n:Nat)(t:Rg):TG:=λv σ H Q=>dI λa xs=>v= .ref a/\fq K H a xs/\xs.length=n/\t xs σ H Q
theorem sH{es:List Expr}{k:Nat}{t:Rg}{n:Nat}(hc:X.calm=true)(h:YD X es t)
  (hn:(assignEach es X.env).length=n:=by rfl) (hst:(assignEach es X.env).findIdx? (·.1)=none:=by rfl):PG X (.Tuple es k pos) (Yb X.K n t):=by
 intro pins s σ H v u Q I r hw;obtain⟨a,xs,e1,hq,hl,hw⟩:=hw;subst e1;cases r;obtain⟨its,rv,ht,hz⟩:=I.tuple hq;refine assign_Tuple_tuple (I.ok.hd hc) ht (by simp[hn,←hl,rv.length]) hst λh' hx=>?_;have I1:Inv X pins σ H { s with heap:=h' }:=I.kept (t':=s.toks) λb o e=>hx b o (Y_ (y_ e)) e;exact h pins _ σ H xs _ Q I1 (by simpa using rv) hw
def ado(to ti:TE)(t:Vy):TG:=λv σ H Q=>to σ H λo H1=>ti σ H1 λi H2=>t o i v H2 λH3=>Q σ H3
theorem HE{o i:Expr}{to ti:TE}{t:Vy}(ho:PE X o to)(hi:PE X i ti)(hs:YC X t)
  (ha:∀v,assign (.Subscript o i pos) X.env v=(do
   let ov ←holding [v] (eval o X.env)
   let iv ←holding [v,ov] (eval i X.env)
   standAt pos
   holding [v,ov,iv] (setItem ov iv v)
   release [v,ov,iv] []):=by intro _;rfl):PG X (.Subscript o i pos) (ado to ti t):=by
 intro pins s σ H v u Q I r h;rw[ha];refine f_ (qaF (gg (ho pins s σ H _ I h) λov s1 ⟨x,H1,I1,r1,q1⟩=>?_));refine f_ (qaF (gg (hi pins s1 σ H1 _ I1 q1) λiv s2 ⟨y,H2,I2,r2,q2⟩=>?_));refine f_ (qcX (f_ (qaF (gg (hs pins s2 σ H2 x y v ov iv u _ I2 r1 r2 r q2) λ_ s3 ⟨H3,I3,q3⟩=>?_))));exact wpAny_release ⟨σ,H3,I3,q3⟩
def T6(te:TE)(g:TG):TS:=λD σ H=>te σ H λx H1=>g x σ H1 D.nx
theorem wF{tg e:Expr}{te:TE}{g:TG}(he:PE X e te)(hg:PG X tg g)(hs:swapsWithSole [tg] e pos.line X.env=pure false:=by rfl)(hw:swappedStores [tg] e X.env=pure none:=by rfl)
  (h1:(assignEach [tg] X.env).map (·.2)=[assign tg X.env]:=by rfl):PS X (.Assign [tg] e pos) (T6 te g):=by
 intro pins s σ H D I h;refine wpAny_Assign_stores (gg (he pins s σ H _ I h) λv s1 ⟨x,H1,I1,r1,q1⟩=>?_) hs hw;rw[h1];exact gg (hg pins s1 σ H1 x v _ I1 r1 q1) λ_ s2 q=>q
theorem aI{i:Nat}{x:r_}{e:Expr}{te:TE}{pos':qcq}(hN:X.N.Nodup)(hi:X.N[i]? =some x)(hx:Loc X.env.scope x)(he:PE X e te)(hs:swapsWith e (some (.Name x pos')) pos.line X.env=pure false:=by rfl)(hf:X.fn x=true\/X.env.scope.names.lookup x=some .local:=by first|exact .inl rfl|exact .inr rfl|assumption):
  PS X (.Assign [.Name x pos'] e pos) (T6 te (ND i)):=by
 intro pins s σ H D I h;refine wpAny_Assign_Name (gg (he pins s σ H _ I h) λv s1 ⟨y,H1,I1,r1,q1⟩=>?_) hs;exact yZ I1 hN hi hx r1 (λs2 I2=>⟨_,H1,I2,q1⟩) hf
end
section
variable{X:Cx}{pos:qcq}
def TX(c:TT)(tb:TS):TS:=λD σ H=>∃W:Nat->St->Hp->Prop,(∃m,W m σ H)/\∀m σ H,W m σ H →
 c σ H λb H1=>if b=true then ∃N:St->Hp->Prop,(∀ σ' H',N σ' H'->∃m',m'<m/\W m' σ' H')/\tb { D with nx:=N,ct:=N,bk:=D.nx } σ H1 else D.nx σ H1
theorem vA{c:Expr}{body:List qaA}{tc:TT}{tb:TS}(hp:PassesOwn (model X.prog X.w) X.A X.env X.xe)(hc:PT X c tc)(hb:EG X body tb):PS X (.While c body [] pos) (TX tc tb):=by
 intro pins s σ H D I h;obtain⟨W,⟨m0,w0⟩,turn⟩:=h;refine wpAny_While (codeAny_whileLoop (λn s'=>dI λσ' H'=>Inv X pins σ' H' s'/\W n σ' H') ?_ m0 ⟨σ,H,I,w0⟩);rintro n s1 ⟨σ1,H1,I1,w1⟩;refine qbu hp (gg (hc pins s1 σ1 H1 _ I1 (turn n σ1 H1 w1)) λb s2 ⟨H2,I2,q2⟩=>?_)
 cases b with
 |true =>
  obtain⟨N,hN,q2⟩:=q2;rw[if_pos rfl];refine qbu hp (gg (hb pins s2 σ1 H2 _ I2 q2) λf s3 q3=>?_)
  cases f with
  |next =>
   obtain⟨σ3,H3,I3,n3⟩:=q3;obtain⟨m',hm,w3⟩:=hN σ3 H3 n3;exact⟨m',hm,σ3,H3,I3,w3⟩
  |cont =>
   obtain⟨σ3,H3,I3,n3⟩:=q3;obtain⟨m',hm,w3⟩:=hN σ3 H3 n3;exact⟨m',hm,σ3,H3,I3,w3⟩
  |brk=>exact q3
  |ret v=>exact q3
 |false =>
  rw[if_neg I_];exact qcy ⟨σ1,H2,I2,q2⟩
end
structure It where
 go:Nat->Hp->Prop
 ET:Nat->Hp->V->Hp->Prop
 stop:Nat->Hp->Prop
def tG(X:Cx)(pins:List (h_×qa0))(H:Hp)(b:h_):Prop :=
 H b=none/\b≠X.env.locals/\b∉X.fs/\(b∈X.ex\/X.s₀.heap.objs.size<=b)/\(∀x c,X.env.cells.lookup x=some c->c≠b)/\∀p∈X.pn++pins,p.1≠b
theorem Inv.xg{X:Cx}{pins:List (h_×qa0)}{σ:St}{H H':Hp}{s:l_}{b:h_}(I:Inv X pins σ H s)(hb:s.heap.objs.size<=b)(hn:H' b=none):tG X pins H' b:=by
 refine⟨hn,qaR (H_ I.lt hb),I.ab4 hb,.inr (m_ I.sz hb),λx c e z=>?_,λp hp z=>?_⟩
 ·obtain⟨v,q⟩:=I.cell x c e;exact absurd (H_ q.lt (by rw[z];exact hb)) (qaB _)
 ·exact absurd (H_ (y_ (I.pin p hp).1) (by rw[z];exact hb)) (qaB _)
structure Turn(P:A_)(w:U_)(K:PySem.W.Frag)(tg:Expr)(J:It)(fp:List h_)(it:h_)(tn:Nat->qab->Prop):Prop where
 mem:it∈fp
 obj:∀i h,tn i h->∀b∈fp,∃o,h.get? b=some o/\∀v,o.data≠ .cell v
 keep:∀i h h',tn i h->(∀b∈fp,∀o,h.get? b=some o->h'.get? b=some o)->tn i h'
 item:∀(X:Cx),X.prog=P->X.w=w->X.K=K->X.calm=true->∀(i:Nat) (pins:List (h_×qa0)) (s:l_) (σ:St) (H:Hp) (E:i_->l_->Prop),Inv X pins σ H s->(∀b∈fp,tG X pins H b)->tn i s.heap->J.go i H →
  D_ (model P w) X.A (pyNext (.ref it)) (λr s1=>∃u,r=some u ∧
   D_ (model P w) X.A (letOwnedTupleGo tg (.ref it) u) (λ_ s2=>dI λx H'=>Inv X pins σ H' s2/\RelV x u/\J.ET i H x H'/\tn (i+1) s2.heap/\∀b∈fp,H' b=none) E s1) E s
 done:∀(X:Cx),X.prog=P->X.w=w->X.K=K->X.calm=true->∀(i:Nat) (pins:List (h_×qa0)) (s:l_) (σ:St) (H:Hp) (E:i_->l_->Prop),Inv X pins σ H s->(∀b∈fp,tG X pins H b)->tn i s.heap->J.stop i H →
  D_ (model P w) X.A (pyNext (.ref it)) (λr s1=>r=none/\Inv X pins σ H s1) E s
 self:∀(A:qah) (i:Nat) (s:l_) (Q:i_->l_->Prop) (E:i_->l_->Prop),tn i s.heap->Q (.ref it) s->D_ (model P w) A (pyIter (.ref it)) Q E s
noncomputable abbrev TI:=St->Hp->(It->Hp->Prop)->Prop
def PIE(X:Cx)(pins:List (h_×qa0))(σ:St)(tg:Expr)(R:It->Hp->Prop)(itv:i_)(s2:l_):Prop :=
 EW λ(it:h_) (fp:List h_) (tn:Nat->qab->Prop) (J:It) (H':Hp)=>itv= .ref it/\Inv X pins σ H' s2/\Turn X.prog X.w X.K tg J fp it tn/\tn 0 s2.heap/\(∀b∈fp,tG X pins H' b)/\R J H'
def PI(X:Cx)(tg iter:Expr)(wi:TI):Prop :=
 ∀(pins:List (h_×qa0)) (s:l_) (σ:St) (H:Hp) (R:It->Hp->Prop),Inv X pins σ H s->wi σ H R →
  D_ (model X.prog X.w) X.A (eval iter X.env) (λv s1=>D_ (model X.prog X.w) X.A (pyIter v) (PIE X pins σ tg R) X.xe s1) X.xe s
theorem Cv{M:qc3}{A:qah}{E:i_->l_->Prop}{s:l_}{tg:Expr}{it:h_}{u:i_}{o:qa0}{n:String}{vs:Array i_}{Q:Unit->l_->Prop}(ho:s.heap.get? it=some o)(hc:o.cls= .type n)(hd:o.data= .fields vs)
  (hn:["enumerate","zip","dict_itemiterator","dict_reverseitemiterator","odict_iterator","itertools.zip_longest","itertools.pairwise"].contains n=false) (hQ:Q () s):D_ M A (letOwnedTupleGo tg (.ref it) u) Q E s:=by
 unfold letOwnedTupleGo
 cases tg<;>first
  |exact q_ hQ
  |(cases u<;>first
    |exact q_ hQ
    |(refine f_ (wpAny_load ho ?_)
      rw[hc,hd]
      show D_ M A (if(["enumerate","zip","dict_itemiterator","dict_reverseitemiterator","odict_iterator","itertools.zip_longest","itertools.pairwise"].contains n&&vs[0]? ==some (rawInt _))=true then _ else _) Q E s
      rw[if_neg (by intro h;rw[hn,qcG]at h;cases h)];exact q_ hQ))
noncomputable def YL(K:PySem.W.Frag)(a:h_):It :=
 ⟨λi H=>dI λxs x=>bD K H a xs/\xs[i]? =some x,λi H x H'=>H'=H/\∀xs,bD K H a xs->xs[i]? =some x,λi H=>∃xs,bD K H a xs/\xs.length<=i⟩
noncomputable def Itt(K:PySem.W.Frag)(a:h_):It :=
 ⟨λi H=>dI λxs x=>fq K H a xs/\xs[i]? =some x,λi H x H'=>H'=H/\∀xs,fq K H a xs->xs[i]? =some x,λi H=>∃xs,fq K H a xs/\xs.length<=i⟩
noncomputable def V2(lo:Int)(n:Nat):It:=⟨λi _=>i<n,λi H x H'=>H'=H/\x= .int (lo+i),λi _=>n<=i⟩
theorem B5{P:A_}{w:U_}{K:PySem.W.Frag}{tg:Expr}(a it:h_):Turn P w K tg (YL K a) [it] it (λi h=>h.IsListIter it a i) where
 mem:=by simp
 obj:=λi h st b hb=>by
  have e:b=it:=by simpa using hb
  subst e;obtain⟨o,e,c,d⟩:=st;exact⟨o,e,λv z=>by rw[d]at z;cases z⟩
 keep:=λi h h' st k=>st.at λo e=>k it (by simp) o e
 item:=by
  intro X hP hw hK hc i pins s σ H E I hf st hg;subst hP hw hK;obtain⟨xs,x,hq,hx⟩:=hg;obtain⟨its,rv,p,hz⟩:=I.list hq;obtain⟨u,hu,ru⟩:=rv.get hx;obtain⟨f0,f1,f2,f3,f4,f5⟩:=hf it (by simp);refine wpAny_pyNext_list_item st p.isList (x:=u) (by simpa using hu) λh' st' sb=>?_;have I1:Inv X pins σ H { s with heap:=h' }:=I.turned (t':=s.toks) (λb o hb e=>(sb.2 b hb).trans e) f0 f1 f3 f4 f5;obtain⟨o,e,c,d⟩:=id st';exact⟨u,Y,Cv (s:={ s with heap:=h' }) e c d (by decide) ⟨x,H,I1,ru,⟨Y,λys hy=>by rw[I.Ag hy hq];exact hx⟩,st',λb hb=>(hf b hb).1⟩⟩
 done:=by
  intro X hP hw hK hc i pins s σ H E I hf st hg;subst hP hw hK;obtain⟨xs,hq,hx⟩:=hg;obtain⟨its,rv,p,hz⟩:=I.list hq;obtain⟨f0,f1,f2,f3,f4,f5⟩:=hf it (by simp);have hl:=rv.length;exact wpAny_pyNext_list_end (I.ok.hd hc) st p.isList (by simp;omega) λh' eb=>⟨Y,I.turned (t':=s.toks) (λb o hb e=>eb b o hb e) f0 f1 f3 f4 f5⟩
 self:=λ_ _ _ _ _ st h=>wpAny_pyIter_listiter st h
theorem Ho{P:A_}{w:U_}{K:PySem.W.Frag}{tg:Expr}(a it:h_):Turn P w K tg (Itt K a) [it] it (λi h=>h.IsTupleIter it a i) where
 mem:=by simp
 obj:=λi h st b hb=>by
  have e:b=it:=by simpa using hb
  subst e;obtain⟨o,e,c,d⟩:=st;exact⟨o,e,λv z=>by rw[d]at z;cases z⟩
 keep:=λi h h' st k=>st.at λo e=>k it (by simp) o e
 item:=by
  intro X hP hw hK hc i pins s σ H E I hf st hg;subst hP hw hK;obtain⟨xs,x,hq,hx⟩:=hg;obtain⟨its,rv,p,hz⟩:=I.tuple hq;obtain⟨u,hu,ru⟩:=rv.get hx;obtain⟨f0,f1,f2,f3,f4,f5⟩:=hf it (by simp);refine wpAny_pyNext_tuple_item st (show s.heap.IsTuple a its.toArray from p) (x:=u) (by simpa using hu) λh' st' sb=>?_;have I1:Inv X pins σ H { s with heap:=h' }:=I.turned (t':=s.toks) (λb o hb e=>(sb.2 b hb).trans e) f0 f1 f3 f4 f5;obtain⟨o,e,c,d⟩:=id st';exact⟨u,Y,Cv (s:={ s with heap:=h' }) e c d (by decide) ⟨x,H,I1,ru,⟨Y,λys hy=>by rw[I.B6 hy hq];exact hx⟩,st',λb hb=>(hf b hb).1⟩⟩
 done:=by
  intro X hP hw hK hc i pins s σ H E I hf st hg;subst hP hw hK;obtain⟨xs,hq,hx⟩:=hg;obtain⟨its,rv,p,hz⟩:=I.tuple hq;obtain⟨f0,f1,f2,f3,f4,f5⟩:=hf it (by simp);have hl:=rv.length;exact wpAny_pyNext_tuple_end (I.ok.hd hc) st (show s.heap.IsTuple a its.toArray from p) (by simp;omega) λh' eb=>⟨Y,I.turned (t':=s.toks) (λb o hb e=>eb b o hb e) f0 f1 f3 f4 f5⟩
 self:=λ_ _ _ _ _ st h=>wpAny_pyIter_tupleiter st h
theorem Hq{P:A_}{w:U_}{K:PySem.W.Frag}{tg:Expr}(it:h_)(lo:Int)(n:Nat):Turn P w K tg (V2 lo n) [it] it (λi h=>IsRangeIter h it (lo+(i:Nat)*1) ((n:Int)-(i:Nat)) 1) where
 mem:=by simp
 obj:=λi h st b hb=>by
  have e:b=it:=by simpa using hb
  subst e;exact⟨_,st,λv z=>by
   have z':Data.fields _=Data.cell v:=z;cases z'⟩
 keep:=λi h h' st k=>k it (by simp) _ st
 item:=by
  intro X hP hw hK hc i pins s σ H E I hf st hg;subst hP hw hK;obtain⟨f0,f1,f2,f3,f4,f5⟩:=hf it (by simp);have W:=Walks.range (prog:=X.prog) (w:=X.w) (I.ok.hd hc) it lo 1 n;refine TK.cj (k_ s.toks) (W.item i s _ _ hg st λv h' tk hv st' kk hup=>?_);obtain⟨t,rfl⟩:=hv;have I1:Inv X pins σ H { s with heap:=h',toks:=tk }:=I.turned (λb o hb e=>kk b o (by simpa using hb) e) f0 f1 f3 f4 f5;refine⟨_,Y,Cv (s:={ s with heap:=h',toks:=tk }) (n:= "range_iterator") st' Y Y (by decide) ⟨.int (lo+i),H,I1,⟨t,?_⟩,⟨Y,Y⟩,st',λb hb=>(hf b hb).1⟩⟩;rw[Int.mul_one]
 done:=by
  intro X hP hw hK hc i pins s σ H E I hf st hg;subst hP hw hK;obtain⟨f0,f1,f2,f3,f4,f5⟩:=hf it (by simp);exact wpAny_pyNext_range_end (I.ok.hd hc) st (by have:n<=i:=hg;omega) λh' eb=>⟨Y,I.turned (t':=s.toks) (λb o hb e=>eb b o hb e) f0 f1 f3 f4 f5⟩
 self:=λ_ _ _ _ _ st h=>wpAny_pyIter_rangeiter st h
end
section
section
variable{X:Cx}{tg:Expr}
def Xr(K:PySem.W.Frag)(tl:TE):TI:=λσ H R=>tl σ H λx H1=>∃a,x= .ref a/\(∃xs,bD K H1 a xs)/\R (YL K a) H1
theorem kQ{l:Expr}{tl:TE}(hl:PE X l tl):PI X tg l (Xr X.K tl):=by
 intro pins s σ H R I h;refine gg (hl pins s σ H _ I h) λv s1 ⟨x,H1,I1,r1,q1⟩=>?_;obtain⟨a,e,⟨xs,hq⟩,q⟩:=q1;subst e;cases r1;obtain⟨its,rv,p,hz⟩:=I1.list hq;refine qb7 p.isList ?_;refine⟨s1.heap.objs.size,[s1.heap.objs.size],_,_,H1,Y,I1.kept (t':=s1.toks) λb o e=>j_ _ e,B5 a _,⟨_,B_ _ Y,Y,Y⟩,λb hb=>?_,q⟩;have e:b=s1.heap.objs.size:=by simpa using hb
 subst e;exact I1.xg (k_ _) (I1.hok.fresh (k_ _))
theorem MH{pins:List (h_×qa0)}{σ:St}{H:Hp}{s:l_}{R:It->Hp->Prop}{E:i_->l_->Prop}{lo hi:Int}{t u v:Tok}{tk:Nat}(I:Inv X pins σ H s)(h1: -(2 ^ 62)<=lo)(h2:lo<2 ^ 62)(h3: -(2 ^ 62)<=hi)(h4:hi<2 ^ 62)
  (q:R (V2 lo (hi-lo).toNat) H) (htk:s.toks<=tk:=by first|exact k_ _|exact qaE _|assumption|omega):D_ (model X.prog X.w) X.A (pyIter (.ref s.heap.objs.size)) (PIE X pins σ tg R) E { s with heap:=s.heap.push { cls:=.type "range",data:=.fields #[.int lo t,.int hi u,.int 1 v] },toks:=tk }:=by
 refine wpAny_pyIter_range (IsRange.new ..) (small_one h1 h2 h3 h4) ?_;have I1:Inv X pins σ H { s with heap:=s.heap.push { cls:=.type "range",data:=.fields #[.int lo t,.int hi u,.int 1 v] },toks:=tk }:=I.kept λb o e=>j_ _ e;refine⟨(s.heap.push { cls:=.type "range",data:=.fields #[.int lo t,.int hi u,.int 1 v] }).objs.size,[(s.heap.push { cls:=.type "range",data:=.fields #[.int lo t,.int hi u,.int 1 v] }).objs.size],_,_,H,Y,
  I1.kept (t':=tk) λb o e=>j_ _ e,Hq _ lo (hi-lo).toNat,?_,λb hb=>?_,q⟩
 ·have e1:lo+((0:Nat):Int)*1=lo:=by simp
  have e2:(((hi-lo).toNat:Nat):Int)-((0:Nat):Int)=qbL lo hi 1:=by rw[rangeSize_one];split<;>omega
  show IsRangeIter _ _ (lo+((0:Nat):Int)*1) ((((hi-lo).toNat:Nat):Int)-((0:Nat):Int)) 1;rw[e1,e2];exact B_ _ Y
 ·have e:b=(s.heap.push { cls:=.type "range",data:=.fields #[.int lo t,.int hi u,.int 1 v] }).objs.size:=by simpa using hb
  subst e;exact I1.xg (k_ _) (I1.hok.fresh (k_ _))
def Xq(ta:TA):TI:=λσ H R=>ta σ H λvs H1=>∃j:Int,vs=[.int j]/\ -(2 ^ 62)<=j/\j<2 ^ 62/\R (V2 0 j.toNat) H1
theorem jM {a:Expr}{ta:TA}{p pos:qcq}(hg:Gl X "range")(hm:X.mg "range" =none)(ha:PA X [a] ta)(hs:qac [a] X.env=[(false,eval a X.env)]:=by rfl):PI X tg (.Call (.Name "range" p) [a] [] pos) (Xq ta):=by
 intro pins s σ H R I h;refine Call_ (qm I hg hm boot_range (qaL (gg (ha pos pins s σ H _ I h) λus s1 ⟨vs,H1,I1,r1,q1⟩=>?_) hs Y));obtain⟨j,e,q1,q2,q⟩:=q1;subst e
 cases r1 with
 |cons r rr =>
  cases rr;obtain⟨t,rfl⟩:=r;exact call_range_1 (MH I1 (by omega) (by omega) q1 q2 (by simpa using q))
def abv(wi:TI)(g:TG)(tb:TS):TS:=λD σ H=>wi σ H λJ H1=>∃W:Nat->Nat->St->Hp->Prop,(∃m,W 0 m σ H1)/\∀i m σ H,W i m σ H →
 (J.stop i H/\D.nx σ H)\/(J.go i H/\∃N:St->Hp->Prop,(∀ σ' H',N σ' H'->∃m',m'<m/\W (i+1) m' σ' H')/\∀x H',J.ET i H x H'->g x σ H' λσ2 H2=>tb { D with nx:=N,ct:=N,bk:=D.nx } σ2 H2)
noncomputable def Dw(fp:List h_)(h:qab):List (h_×qa0):=fp.filterMap λb=>(h.get? b).map λo=>(b,o)
theorem mS{fp:List h_}{h:qab}{b:h_}{o:qa0}(hb:b∈fp)(e:h.get? b=some o):(b,o)∈Dw fp h:=List.mem_filterMap.mpr ⟨b,hb,by rw[e];rfl⟩
theorem KP{fp:List h_}{h:qab}{p:h_×qa0}(hp:p∈Dw fp h):p.1∈fp/\h.get? p.1=some p.2:=by
 obtain⟨b,hb,e⟩:=List.mem_filterMap.mp hp
 cases q:h.get? b with
 |none=>rw[q]at e;cases e
 |some o =>
  rw[q]at e;have e':(b,o)=p:=qaa e;subst e';exact⟨hb,q⟩
theorem Inv.pinned{pins:List (h_×qa0)}{σ:St}{H:Hp}{s:l_}{fp:List h_}(I:Inv X pins σ H s)(hf:∀b∈fp,tG X pins H b)(ho:∀b∈fp,∃o,s.heap.get? b=some o/\∀v,o.data≠ .cell v):Inv X (pins++Dw fp s.heap) σ H s :=
 I.Dv λp hp=>(S_.mp hp).elim (λz=>I.pin p (X_ _ z)) λz=>by
  obtain⟨hb,e⟩:=KP z;obtain⟨f0,f1,f2,_⟩:=hf p.1 hb;obtain⟨o,e',d⟩:=ho p.1 hb;rw[e]at e';cases e';exact⟨e,f0,f1,f2,d⟩
theorem Inv.yU{pins pl:List (h_×qa0)}{σ:St}{H:Hp}{s:l_}(I:Inv X (pins++pl) σ H s):Inv X pins σ H s:=I.Dv λp hp=>I.pin p (X_ _ (qaG _ hp))
theorem fZ{iter:Expr}{body:List qaA}{wi:TI}{g:TG}{tb:TS}{pos:qcq}(hp:PassesOwn (model X.prog X.w) X.A X.env X.xe)(hc:X.calm=true)(hi:PI X tg iter wi)(hg:PG X tg g)(hb:EG X body tb)
  (hs:∀x,foldedSetIterable iter X.env x=pure x:=by intro _;rfl):PS X (.For tg iter body [] pos) (abv wi g tb):=by
 intro pins s σ H D I h;refine wpAny_For (gg (hi pins s σ H _ I h) λv s1 h1=>gg h1 λitv s2 h2=>?_) hs;obtain⟨it,fp,tn,J,H2,e,I2,T,st2,f2,W,⟨m0,w0⟩,turn⟩:=h2;subst e;have stat:∀{H':Hp},(∀b∈fp,H' b=none)->∀b∈fp,tG X pins H' b:=λhn b hb=>⟨hn b hb,(f2 b hb).2⟩;refine codeAny_forLoop_any (λn s'=>oS λi σ' H'=>Inv X pins σ' H' s'/\tn i s'.heap/\(∀b∈fp,H' b=none)/\W i n σ' H') ?_ m0 ⟨0,σ,H2,I2,st2,λb hb=>(f2 b hb).1,w0⟩;rintro n s3 ⟨i,σ3,H3,I3,st3,fr3,w3⟩;rcases turn i n σ3 H3 w3 with⟨stop,qn⟩|⟨go,N,hN,step⟩
 ·refine qbu hp (gg (T.done X Y Y Y hc i pins s3 σ3 H3 X.xe I3 (stat fr3) st3 stop) λr s4 ⟨hr,I4⟩=>?_);subst hr;exact qcy ⟨σ3,H3,I4,qn⟩
 ·refine qbu hp (gg (T.item X Y Y Y hc i pins s3 σ3 H3 X.xe I3 (stat fr3) st3 go) λr s4 ⟨u,hr,h4⟩=>?_);subst hr;refine qbu hp (gg h4 λ_ s5 ⟨x,H5,I5,r5,y5,Wr,fr5⟩=>?_);have I5':=I5.pinned (stat fr5) (T.obj _ _ Wr);refine qbu hp (gg (hg _ s5 σ3 H5 x u _ I5' r5 (step x H5 y5)) λ_ s6 ⟨σ6,H6,I6,q6⟩=>?_);refine qbu hp (gg (hb _ s6 σ6 H6 _ I6 q6) λf s7 q7=>?_);have again:∀{G4:St} {H7:Hp},Inv X (pins++Dw fp s5.heap) G4 H7 s7->N G4 H7->∃m,m<n/\oS λi σ' H'=>Inv X pins σ' H' s7/\tn i s7.heap/\(∀b∈fp,H' b=none)/\W i m σ' H':=λ{G4 H7} I7 n7=>by
   obtain⟨m',hm,w7⟩:=hN G4 H7 n7;refine⟨m',hm,i+1,G4,H7,I7.yU,T.keep _ _ _ Wr λb hb o e=>(I7.pin (b,o) (X_ _ (X_ _ (mS hb e)))).1,λb hb=>?_,w7⟩;obtain⟨o,e,d⟩:=T.obj _ _ Wr b hb;exact(I7.pin (b,o) (X_ _ (X_ _ (mS hb e)))).2.1
  cases f with
  |next=>obtain⟨G4,H7,I7,n7⟩:=q7;exact again I7 n7
  |cont=>obtain⟨G4,H7,I7,n7⟩:=q7;exact again I7 n7
  |brk=>obtain⟨G4,H7,I7,q7⟩:=q7;exact⟨G4,H7,I7.yU,q7⟩
  |ret v=>obtain⟨x7,G4,H7,I7,r7,q7⟩:=q7;exact⟨x7,G4,H7,I7.yU,r7,q7⟩
end
theorem qR{K:PySem.W.Frag}{a:h_}{xs:List V}{g:TG}{tb:TS}{D:Ends}{σ:St}{H:Hp}(Pv:Nat->St->Hp->Prop)(h0:Pv 0 σ H)(hl:∀i σ H,i<=xs.length->Pv i σ H->bD K H a xs)
  (hs:∀i x σ H,xs[i]? =some x->Pv i σ H->g x σ H λσ2 H2=>tb { D with nx:=Pv (i+1),ct:=Pv (i+1),bk:=D.nx } σ2 H2) (hd:∀ σ H,Pv xs.length σ H->D.nx σ H) :
  ∃W:Nat->Nat->St->Hp->Prop,(∃m,W 0 m σ H)/\∀i m σ H,W i m σ H →
   ((YL K a).stop i H/\D.nx σ H)\/((YL K a).go i H/\∃N:St->Hp->Prop,(∀ σ' H',N σ' H'->∃m',m'<m/\W (i+1) m' σ' H')/\∀x H',(YL K a).ET i H x H'->g x σ H' λσ2 H2=>tb { D with nx:=N,ct:=N,bk:=D.nx } σ2 H2):=by
 refine⟨λi m σ H=>m=xs.length-i/\i<=xs.length/\Pv i σ H,⟨xs.length,by simp,T_ _,h0⟩,?_⟩;rintro i m σ H ⟨rfl,hi,p⟩;have q:=hl i σ H hi p;by_cases hlt:i<xs.length
 ·refine .inr ⟨⟨xs,xs[i],q,by simp[hlt]⟩,Pv (i+1),λσ' H' p'=>⟨xs.length-(i+1),by omega,Y,hlt,p'⟩,λx H' y=>?_⟩;obtain⟨e,y⟩:=y;subst e;exact hs i x σ _ (y xs q) p
 ·have e:i=xs.length:=by omega
  subst e;exact .inl ⟨⟨xs,q,k_ _⟩,hd σ H p⟩
theorem oY{lo:Int}{n:Nat}{g:TG}{tb:TS}{D:Ends}{σ:St}{H:Hp}(Pv:Nat->St->Hp->Prop)(h0:Pv 0 σ H)
  (hs:∀i σ H,i<n->Pv i σ H->g (.int (lo+i)) σ H λσ2 H2=>tb { D with nx:=Pv (i+1),ct:=Pv (i+1),bk:=D.nx } σ2 H2) (hd:∀ σ H,Pv n σ H->D.nx σ H) :
  ∃W:Nat->Nat->St->Hp->Prop,(∃m,W 0 m σ H)/\∀i m σ H,W i m σ H →
   ((V2 lo n).stop i H/\D.nx σ H)\/((V2 lo n).go i H/\∃N:St->Hp->Prop,(∀ σ' H',N σ' H'->∃m',m'<m/\W (i+1) m' σ' H')/\∀x H',(V2 lo n).ET i H x H'->g x σ H' λσ2 H2=>tb { D with nx:=N,ct:=N,bk:=D.nx } σ2 H2):=by
 refine⟨λi m σ H=>m=n-i/\i<=n/\Pv i σ H,⟨n,by simp,T_ _,h0⟩,?_⟩;rintro i m σ H ⟨rfl,hi,p⟩;by_cases hlt:i<n
 ·refine .inr ⟨hlt,Pv (i+1),λσ' H' p'=>⟨n-(i+1),by omega,Y,hlt,p'⟩,λx H' y=>?_⟩;obtain⟨e,y⟩:=y;subst e y;exact hs i σ _ hlt p
 ·have e:i=n:=by omega
  subst e;exact .inl ⟨k_ _,hd σ H p⟩
end
section
noncomputable abbrev R2:=V->V->Hp->VK->Prop
def rZ(X:Cx)(f:i_->i_->Sem i_)(r:R2):Prop :=
 ∀(pins:List (h_×qa0)) (s:l_) (σ:St) (H:Hp) (x y:V) (v u:i_) (Q:VK),Inv X pins σ H s->RelV x v->RelV y u->r x y H Q →
  D_ (model X.prog X.w) X.A (f v u) (EP X pins σ Q) X.xe s
def UnR(X:Cx)(f:i_->Sem i_)(r:V->Hp->VK->Prop):Prop :=
 ∀(pins:List (h_×qa0)) (s:l_) (σ:St) (H:Hp) (x:V) (v:i_) (Q:VK),Inv X pins σ H s->RelV x v->r x H Q →
  D_ (model X.prog X.w) X.A (f v) (EP X pins σ Q) X.xe s
def mL(X:Cx)(f:i_)(r:List V->Hp->VK->Prop):Prop :=
 ∀(pins:List (h_×qa0)) (s:l_) (σ:St) (H:Hp) (xs:List V) (us:List i_) (Q:VK),Inv X pins σ H s->Vals xs us->r xs H Q →
  D_ (model X.prog X.w) X.A (call f us) (EP X pins σ Q) X.xe s
def YZ(r:R2)(ta tb:TE):TE:=λσ H Q=>ta σ H λx H1=>tb σ H1 λy H2=>r x y H2 Q
def tUn(r:V->Hp->VK->Prop)(ta:TE):TE:=λσ H Q=>ta σ H λx H1=>r x H1 Q
def rI(C:Int->Int->Prop)(g:Int->Int->V):R2:=λx y H Q=>dI λi j=>x= .int i/\y= .int j/\C i j/\Q (g i j) H
def Uh(g:Int->Int->V):R2:=λx y H Q=>dI λi j=>x= .int i/\y= .int j/\Q (g i j) H
def rU(g:Int->V):V->Hp->VK->Prop:=λx H Q=>∃i,x= .int i/\Q (g i) H
section
variable{X:Cx}{a b c:Expr}{ta tb tc:TE}{pos:qcq}
theorem Vq(ha:PE X a ta)(hb:PE X b tb){pins:List (h_×qa0)}{s:l_}{σ:St}{H:Hp}{R:V->V->Hp->Prop}(I:Inv X pins σ H s)
  (h:ta σ H λx H1=>tb σ H1 λy H2=>R x y H2) {Q:i_->l_->Prop} {f:i_->i_->Sem i_}
  (hf:∀v u s2 x y H2,Inv X pins σ H2 s2->RelV x v->RelV y u->R x y H2->D_ (model X.prog X.w) X.A (f v u) Q X.xe s2) :
  D_ (model X.prog X.w) X.A (eval a X.env) (λv s₁=>D_ (model X.prog X.w) X.A (eval b X.env) (λu s₂=>D_ (model X.prog X.w) X.A (f v u) Q X.xe s₂) X.xe s₁) X.xe s:=by
 refine gg (ha pins s σ H _ I h) λv s1 ⟨x,H1,I1,r1,q1⟩=>?_;refine gg (hb pins s1 σ H1 _ I1 q1) λu s2 ⟨y,H2,I2,r2,q2⟩=>?_;exact hf v u s2 x y H2 I2 r1 r2 q2
theorem aL{op:Operator}{r:R2}(ho:rZ X (binaryOp op) r)(ha:PE X a ta)(hb:PE X b tb):PE X (.BinOp a op b pos) (YZ r ta tb):=by
 intro pins s σ H Q I h;exact wpAny_BinOp (Vq ha hb I h λv u s2 x y H2 I2 rx ry q=>ho pins s2 σ H2 x y v u Q I2 rx ry q)
theorem Cj{op:UnaryOp}{r:V->Hp->VK->Prop}(ho:UnR X (unaryOp op) r)(ha:PE X a ta):PE X (.UnaryOp op a pos) (tUn r ta):=by
 intro pins s σ H Q I h;exact UnaryOp_ (gg (ha pins s σ H _ I h) λv s1 ⟨x,H1,I1,r1,q1⟩=>ho pins s1 σ H1 x v Q I1 r1 q1)
theorem WL{f:i_->i_->Sem i_}{C:Int->Int->Prop}{g:Int->Int->Int}
  (rule:∀(i j:Int) (t u:Tok) (s:l_) (Q:i_->l_->Prop) (E:i_->l_->Prop),C i j->Q (.int (g i j) s.toks) { s with toks:=s.toks+1 }->D_ (model X.prog X.w) X.A (f (.int i t) (.int j u)) Q E s) :
  rZ X f (rI C λi j=>.int (g i j)):=by
 intro pins s σ H x y v u Q I rx ry h;obtain⟨i,j,rfl,rfl,hc,q⟩:=h;obtain⟨t,rfl⟩:=rx;obtain⟨t',rfl⟩:=ry;exact rule i j t t' s _ _ hc ⟨.int (g i j),H,I.tok _,⟨_,Y⟩,q⟩
theorem WK{f:i_->i_->Sem i_}{g:Int->Int->Int}
  (rule:∀(i j:Int) (t u:Tok) (s:l_) (Q:i_->l_->Prop) (E:i_->l_->Prop),Q (.int (g i j) s.toks) { s with toks:=s.toks+1 }->D_ (model X.prog X.w) X.A (f (.int i t) (.int j u)) Q E s) :
  rZ X f (Uh λi j=>.int (g i j)):=by
 intro pins s σ H x y v u Q I rx ry h;obtain⟨i,j,rfl,rfl,q⟩:=h;obtain⟨t,rfl⟩:=rx;obtain⟨t',rfl⟩:=ry;exact rule i j t t' s _ _ ⟨.int (g i j),H,I.tok _,⟨_,Y⟩,q⟩
theorem Uw{f:i_->i_->Sem i_}{g:Int->Int->Bool}
  (rule:∀(i j:Int) (t u:Tok) (s:l_) (Q:i_->l_->Prop) (E:i_->l_->Prop),Q (.bool (g i j)) s->D_ (model X.prog X.w) X.A (f (.int i t) (.int j u)) Q E s) :
  rZ X f (Uh λi j=>.bl (g i j)):=by
 intro pins s σ H x y v u Q I rx ry h;obtain⟨i,j,rfl,rfl,q⟩:=h;obtain⟨t,rfl⟩:=rx;obtain⟨t',rfl⟩:=ry;exact rule i j t t' s _ _ ⟨.bl (g i j),H,I,Y,q⟩
def adX(i j:Int):Prop:=0<j/\j<1073741824
def adW(i j:Int):Prop:=0<=j/\j<=1000000/\i.natAbs<2 ^ 64
def VG(i j:Int):Prop:=(-(2 ^ 64)<i/\i<2 ^ 64)\/(-(2 ^ 64)<j/\j<2 ^ 64)
theorem VG.ok{i j:Int}(h:VG i j):IntMulOk i j:=by
 rcases h with⟨h1,h2⟩|⟨h1,h2⟩
 ·exact .of_left (intBits_le_64 h1 h2)
 ·exact .of_right (intBits_le_64 h1 h2)
theorem gj:rZ X (binaryOp .Add) (Uh λi j=>.int (i+j)):=WK λ_ _ _ _ _ _ _ q=>add_int q
theorem zO:rZ X (binaryOp .Sub) (Uh λi j=>.int (i-j)):=WK λ_ _ _ _ _ _ _ q=>sub_int q
theorem pq:rZ X (binaryOp .Mult) (rI VG λi j=>.int (i*j)):=WL λ_ _ _ _ _ _ _ hc q=>mul_int q hc.ok
theorem gY:rZ X (binaryOp .FloorDiv) (rI adX λi j=>.int (i / j)):=WL λi j _ _ _ _ _ hc q=>by
 have h1:(0:Int)<j:=hc.1;have h2:j<1073741824:=hc.2;exact floordiv_int (by omega) (by rw[Int.fdiv_eq_ediv_of_nonneg i (by omega)];exact q) (.inl (PyProof.noPylong_small (by omega)))
theorem dg:rZ X (binaryOp .Mod) (rI (λ_ j=>0<j) λi j=>.int (i % j)):=WL λi j _ _ _ _ _ hc q=>by
 have h1:(0:Int)<j:=hc;exact mod_int' (by omega) (by rw[Int.fmod_eq_emod_of_nonneg i (by omega)];exact q)
theorem MS:rZ X (binaryOp .Pow) (rI adW λi j=>.int (i ^ j.toNat)):=WL λ_ _ _ _ _ _ _ hc q=>pow_int_small hc.1 hc.2.1 hc.2.2 q
theorem unI{f:i_->Sem i_}{g:Int->Int}
  (rule:∀(i:Int) (t:Tok) (s:l_) (Q:i_->l_->Prop) (E:i_->l_->Prop),Q (.int (g i) s.toks) { s with toks:=s.toks+1 }->D_ (model X.prog X.w) X.A (f (.int i t)) Q E s) :
  UnR X f (rU λi=>.int (g i)):=by
 intro pins s σ H x v Q I rx h;obtain⟨i,rfl,q⟩:=h;obtain⟨t,rfl⟩:=rx;exact rule i t s _ _ ⟨.int (g i),H,I.tok _,⟨_,Y⟩,q⟩
theorem wc:UnR X (unaryOp .USub) (rU λi=>.int (-i)):=unI λ_ _ _ _ _ q=>neg_int q
end
noncomputable def Ww:V->V->Bool
 | .gE,.gE=>true| .gE,.int _=>true| .int _,.gE=>true| .gE,.bl _=>true| .bl _,.gE=>true| .gE,.str _=>true| .str _,.gE=>true
 | .int _,.int _=>true| .bl _,.bl _=>true| .str _,.str _=>true| .IE _,.IE _=>true
 | .int _,.str _=>true| .str _,.int _=>true| .bl _,.str _=>true| .str _,.bl _=>true
 |_,_=>false
def rEq:R2:=λx y H Q=>Ww x y=true/\Q (.bl (decide (x=y))) H
def rNe:R2:=λx y H Q=>Ww x y=true/\Q (.bl (!decide (x=y))) H
theorem rH{i j:Int}:decide (V.int i=V.int j)=(i==j):=by
 rw[qbw];simp
theorem NS{i j:Bool}:decide (V.bl i=V.bl j)=(i==j):=by
 rw[qbw];simp
theorem JO{i j:r_}:decide (V.str i=V.str j)=(i==j):=by
 rw[qbw];simp
theorem JP{i j:Array UInt8}:decide (V.IE i=V.IE j)=(i.toList==j.toList):=by
 rw[qbw];cases i;cases j;simp
section
variable{X:Cx}{a b c:Expr}{ta tb tc:TE}{pos:qcq}
theorem cX{pins:List (h_×qa0)}{σ:St}{H:Hp}{s:l_}{Q:VK}{k k':Bool}(I:Inv X pins σ H s)(q:Q (.bl k) H)(e:k=k'):EP X pins σ Q (.bool k') s:=by
 subst e;exact⟨.bl k,H,I,Y,q⟩
theorem pC:rZ X (compareOp .Eq) rEq:=by
 intro pins s σ H x y v u Q I rx ry h;obtain⟨hs,q⟩:=h
 cases x with
 |gE =>
  cases rx
  cases y with
  |gE=>cases ry;exact PySem.EqNone.eq_none_none (cX I q (by simp))
  |bl j=>cases ry;exact PySem.EqNone.eq_none_bool (cX I q (by simp))
  |int j=>obtain⟨t',rfl⟩:=ry;exact PySem.EqNone.eq_none_int (cX I q (by simp))
  |str j=>obtain⟨t',rfl⟩:=ry;exact PySem.EqNone.eq_none_str (cX I q (by simp))
  |_=>exact absurd (show false=true from hs) I_
 |bl i =>
  cases rx
  cases y with
  |gE=>cases ry;exact PySem.EqNone.eq_bool_none (cX I q (by simp))
  |bl j=>cases ry;exact eq_bool (cX I q NS)
  |str j=>obtain⟨t',rfl⟩:=ry;exact PySem.EqMixed.eq_bool_str (cX I q (by simp))
  |_=>exact absurd (show false=true from hs) I_
 |int i =>
  obtain⟨t,rfl⟩:=rx
  cases y with
  |gE=>cases ry;exact PySem.EqNone.eq_int_none (cX I q (by simp))
  |int j=>obtain⟨t',rfl⟩:=ry;exact eq_int (cX I q rH)
  |str j=>obtain⟨t',rfl⟩:=ry;exact PySem.EqMixed.eq_int_str (cX I q (by simp))
  |_=>exact absurd (show false=true from hs) I_
 |str i =>
  obtain⟨t,rfl⟩:=rx
  cases y with
  |gE=>cases ry;exact PySem.EqNone.eq_str_none (cX I q (by simp))
  |bl j=>cases ry;exact PySem.EqMixed.eq_str_bool (cX I q (by simp))
  |int j=>obtain⟨t',rfl⟩:=ry;exact PySem.EqMixed.eq_str_int (cX I q (by simp))
  |str j=>obtain⟨t',rfl⟩:=ry;exact eq_str (cX I q JO)
  |_=>exact absurd (show false=true from hs) I_
 |IE i =>
  obtain⟨t,rfl⟩:=rx
  cases y with
  |IE j=>obtain⟨t',rfl⟩:=ry;exact PySem.W.eq_bytes (cX I q JP)
  |_=>exact absurd (show false=true from hs) I_
 |_=>cases y<;>exact absurd (show false=true from hs) I_
theorem Cn:rZ X (compareOp .NotEq) rNe:=by
 intro pins s σ H x y v u Q I rx ry h;obtain⟨hs,q⟩:=h
 cases x with
 |gE =>
  cases rx
  cases y with
  |gE=>cases ry;exact PySem.EqNone.ne_none_none (cX I q (by simp))
  |bl j=>cases ry;exact PySem.EqNone.ne_none_bool (cX I q (by simp))
  |int j=>obtain⟨t',rfl⟩:=ry;exact PySem.EqNone.ne_none_int (cX I q (by simp))
  |str j=>obtain⟨t',rfl⟩:=ry;exact PySem.EqNone.ne_none_str (cX I q (by simp))
  |_=>exact absurd (show false=true from hs) I_
 |bl i =>
  cases rx
  cases y with
  |gE=>cases ry;exact PySem.EqNone.ne_bool_none (cX I q (by simp))
  |bl j=>cases ry;exact ne_bool (cX I q (congrArg not NS))
  |str j=>obtain⟨t',rfl⟩:=ry;exact PySem.EqMixed.ne_bool_str (cX I q (by simp))
  |_=>exact absurd (show false=true from hs) I_
 |int i =>
  obtain⟨t,rfl⟩:=rx
  cases y with
  |gE=>cases ry;exact PySem.EqNone.ne_int_none (cX I q (by simp))
  |int j=>obtain⟨t',rfl⟩:=ry;exact ne_int (cX I q (congrArg not rH))
  |str j=>obtain⟨t',rfl⟩:=ry;exact PySem.EqMixed.ne_int_str (cX I q (by simp))
  |_=>exact absurd (show false=true from hs) I_
 |str i =>
  obtain⟨t,rfl⟩:=rx
  cases y with
  |gE=>cases ry;exact PySem.EqNone.ne_str_none (cX I q (by simp))
  |bl j=>cases ry;exact PySem.EqMixed.ne_str_bool (cX I q (by simp))
  |int j=>obtain⟨t',rfl⟩:=ry;exact PySem.EqMixed.ne_str_int (cX I q (by simp))
  |str j=>obtain⟨t',rfl⟩:=ry;exact ne_str (cX I q (congrArg not JO))
  |_=>exact absurd (show false=true from hs) I_
 |IE i =>
  obtain⟨t,rfl⟩:=rx
  cases y with
  |IE j=>obtain⟨t',rfl⟩:=ry;exact PySem.W.ne_bytes (cX I q (congrArg not JP))
  |_=>exact absurd (show false=true from hs) I_
 |_=>cases y<;>exact absurd (show false=true from hs) I_
theorem FU:rZ X (compareOp .Lt) (Uh λi j=>.bl (decide (i<j))):=Uw λ_ _ _ _ _ _ _ q=>lt_int q
theorem JA:rZ X (compareOp .LtE) (Uh λi j=>.bl (decide (i<=j))):=Uw λ_ _ _ _ _ _ _ q=>le_int q
theorem Co:rZ X (compareOp .Gt) (Uh λi j=>.bl (decide (j<i))):=Uw λ_ _ _ _ _ _ _ q=>gt_int q
theorem Uv:rZ X (compareOp .Is) (λx y H Q=>y= .gE/\Q (.bl (decide (x= .gE))) H):=by
 intro pins s σ H x y v u Q I rx ry h;obtain⟨rfl,q⟩:=h;cases ry;refine is_none_gen (cX I q ?_)
 cases x<;>first
  |(cases rx;rfl)
  |(obtain⟨t,rfl⟩:=rx;rfl)
theorem bX(b:Expr){op:CmpOp}(h:op≠ .In:=by decide)(h2:op≠ .NotIn:=by decide):behindInMarks op b=false:=by
 have e1:(op==CmpOp.In)=false:=by cases op<;>first|rfl|exact absurd Y h
 have e2:(op==CmpOp.NotIn)=false:=by cases op<;>first|rfl|exact absurd Y h2
 cases b<;>simp[behindInMarks,e1,e2]
theorem tR{op:CmpOp}{r:R2}(ho:rZ X (compareOp op) r)(ha:PE X a ta)(hb:PE X b tb)(hm:behindInMarks op b=false):PE X (.Compare a [op] [b] pos) (YZ r ta tb):=by
 intro pins s σ H Q I h;exact wpAny_Compare1 (Vq ha hb I h λv u s2 x y H2 I2 rx ry q=>ho pins s2 σ H2 x y v u Q I2 rx ry q) hm
def QB(t:TE):TT:=λσ H Q=>t σ H λx H'=>∃k,x= .bl k/\Q k H'
theorem bx{op:CmpOp}{r:R2}(ho:rZ X (compareOp op) r)(ha:PE X a ta)(hb:PE X b tb)(hm:behindInMarks op b=false):PT X (.Compare a [op] [b] pos) (QB (YZ r ta tb)):=by
 intro pins s σ H Q I h;refine wpAny_isTrue_Compare1 (gg (ha pins s σ H _ I h) λv s1 ⟨x,H1,I1,r1,q1⟩=>gg (hb pins s1 σ H1 _ I1 q1) λu s2 ⟨y,H2,I2,r2,q2⟩ =>
  gg (ho pins s2 σ H2 x y v u _ I2 r1 r2 q2) λc s3 ⟨z,H3,I3,r3,k,e,q3⟩=>?_) hm
 subst e;cases r3;exact qaX ⟨H3,I3,q3⟩
def Mj(r r':R2)(ta tb tc:TE):TE:=λσ H Q=>ta σ H λx H1=>tb σ H1 λy H2=>r x y H2 λz H3=>∃k,z= .bl k ∧
 (if k=true then tc σ H3 λw' H4=>r' y w' H4 Q else Q (.bl false) H3)
theorem MP{op op':CmpOp}{r r':R2}(ho:rZ X (compareOp op) r)(ho':rZ X (compareOp op') r')(ha:PE X a ta)(hb:PE X b tb)(hc:PE X c tc)
  (hm:lastMarks [op,op'] [b,c]=false:=by with_unfolding_all rfl):PE X (.Compare a [op,op'] [b,c] pos) (Mj r r' ta tb tc):=by
 intro pins s σ H Q I h;refine Compare_chain (gg (ha pins s σ H _ I h) λv s1 ⟨x,H1,I1,r1,q1⟩=>chain_link (gg (hb pins s1 σ H1 _ I1 q1) λu s2 ⟨y,H2,I2,r2,q2⟩ =>
  gg (ho pins s2 σ H2 x y v u _ I2 r1 r2 q2) λd s3 ⟨z,H3,I3,r3,k,e,q3⟩=>?_)) hm
 subst e;cases r3;refine qaX ?_
 cases k with
 |false=>exact ite_ff ⟨.bl false,H3,I3,Y,q3⟩
 |true=>exact ite_tt (chain_last (gg (hc pins s3 σ H3 _ I3 q3) λw' s4 ⟨z',H4,I4,r4,q4⟩=>ho' pins s4 σ H4 y z' u w' Q I4 r2 r4 q4))
theorem MK{op op':CmpOp}{r r':R2}(ho:rZ X (compareOp op) r)(ho':rZ X (compareOp op') r')(ha:PE X a ta)(hb:PE X b tb)(hc:PE X c tc)
  (hm:lastMarks [op,op'] [b,c]=false:=by with_unfolding_all rfl):PT X (.Compare a [op,op'] [b,c] pos) (QB (Mj r r' ta tb tc)):=by
 intro pins s σ H Q I h;refine isTrue_chain (gg (ha pins s σ H _ I h) λv s1 ⟨x,H1,I1,r1,q1⟩=>test_link (gg (hb pins s1 σ H1 _ I1 q1) λu s2 ⟨y,H2,I2,r2,q2⟩ =>
  gg (ho pins s2 σ H2 x y v u _ I2 r1 r2 q2) λd s3 ⟨z,H3,I3,r3,k,e,q3⟩=>?_)) hm
 subst e;cases r3;refine qaX ?_
 cases k with
 |false =>
  obtain⟨k',e',q'⟩:=q3;cases e';exact ite_ff ⟨H3,I3,q'⟩
 |true =>
  refine ite_tt (test_last (gg (hc pins s3 σ H3 _ I3 q3) λw' s4 ⟨z',H4,I4,r4,q4⟩=>gg (ho' pins s4 σ H4 y z' u w' _ I4 r2 r4 q4) λd' s5 ⟨z2,H5,I5,r5,k2,e2,q5⟩=>?_));subst e2;cases r5;exact qaX ⟨H5,I5,q5⟩
theorem Ah:(x_:Nat)<2 ^ 63:=by rw[qba];decide
theorem kU:rZ X (binaryOp .Add) (λx y H Q=>dI λi j=>x= .str i/\y= .str j/\i.length+j.length<=x_/\Q (.str (i++j)) H):=by
 intro pins s σ H x y v u Q I rx ry h;obtain⟨i,j,rfl,rfl,hz,q⟩:=h;obtain⟨t,rfl⟩:=rx;obtain⟨t',rfl⟩:=ry;exact TK.cj (k_ _) (add_str (λt' tk hup=>⟨.str (i++j),H,I.tok _,⟨_,Y⟩,q⟩) hz)
theorem vals1{x:V}{us:List i_}(r:Vals [x] us):∃u,us=[u]/\RelV x u:=by
 cases r with
 |cons r1 r2=>cases r2;exact⟨_,Y,r1⟩
theorem vals2{x y:V}{us:List i_}(r:Vals [x,y] us):dI λu w'=>us=[u,w']/\RelV x u/\RelV y w':=by
 cases r with
 |cons r1 r2 =>
  cases r2 with
  |cons r3 r4=>cases r4;exact⟨_,_,Y,r1,r3⟩
theorem N4:mL X (.builtin "abs") (λxs H Q=>∃i,xs=[.int i]/\Q (.int (if i<0 then -i else i)) H):=by
 intro pins s σ H xs us Q I r h;obtain⟨i,rfl,q⟩:=h;obtain⟨u,rfl,t,rfl⟩:=vals1 r
 exact TK.cj (k_ _) (call_abs_int λu tk hup=>⟨.int (if i<0 then -i else i),H,I.tok _,⟨_,Y⟩,q⟩)
theorem CI(hc:X.calm=true):mL X (.builtin "min") (λxs H Q=>dI λi j=>xs=[.int i,.int j]/\Q (.int (if j<i then j else i)) H):=by
 intro pins s σ H xs us Q I r h;obtain⟨i,j,rfl,q⟩:=h;obtain⟨u,w',rfl,⟨t,rfl⟩,⟨t',rfl⟩⟩:=vals2 r;refine TK.cj (k_ _) (min_two_ints (I.ok.hd hc) λh' tk k hup=>⟨_,H,I.kept k,?_,q⟩);by_cases hj:j<i
 ·rw[if_pos hj,if_pos hj];exact⟨_,Y⟩
 ·rw[if_neg hj,if_neg hj];exact⟨_,Y⟩
theorem N3:mL X (.builtin "ord") (λxs H Q=>∃x,xs=[.str x]/\x.length=1/\Q (.int (x.cps.getD 0 0:Nat)) H):=by
 intro pins s σ H xs us Q I r h;obtain⟨x,rfl,hz,q⟩:=h;obtain⟨u,rfl,t,rfl⟩:=vals1 r;exact ord_of_one hz ⟨.int _,H,I.tok _,⟨_,Y⟩,q⟩
def Qu(K:PySem.W.Frag)(x:V)(H:Hp)(n:Nat):Prop :=
 match x with
 | .str y=>y.length<=x_/\n=y.length
 | .IE y=>y.size<=x_/\n=y.size
 | .ref p=>(∃xs,bD K H p xs/\n=xs.length)\/∃xs,fq K H p xs/\n=xs.length
 |_=>False
theorem aU:mL X (.builtin "len") (λxs H Q=>dI λx n=>xs=[x]/\Qu X.K x H n/\Q (.int n) H):=by
 intro pins s σ H xs us Q I r h;obtain⟨x,n,rfl,e,q⟩:=h;obtain⟨u,rfl,rx⟩:=vals1 r;have hl:=Ah;have hs:x_=16777216:=qba
 cases x with
 |str y =>
  obtain⟨t,rfl⟩:=rx;obtain⟨hy,e'⟩:y.length<=x_/\n=y.length:=e;subst e';exact len_str (by omega) ⟨.int _,H,I.tok _,⟨_,Y⟩,q⟩
 |IE y =>
  obtain⟨t,rfl⟩:=rx;obtain⟨hy,e'⟩:y.size<=x_/\n=y.size:=e;subst e';exact PySem.W.len_bytes (by omega) ⟨.int _,H,I.tok _,⟨_,Y⟩,q⟩
 |ref p =>
  cases rx;have e':(∃xs,bD X.K H p xs/\n=xs.length)\/∃xs,fq X.K H p xs/\n=xs.length:=e;rcases e' with⟨xs,hx,e'⟩|⟨xs,hx,e'⟩
  ·subst e';obtain⟨its,r',pl,hz⟩:=I.list hx;have hlen:=r'.length;exact Calls.call_len_list pl.isList (by simp only[v_];omega) ⟨.int xs.length,H,I.tok _,⟨_,by simp only[v_];rw[hlen]⟩,q⟩
  ·subst e';obtain⟨its,r',pl,hz⟩:=I.tuple hx;have hlen:=r'.length;exact len_tuple pl (by simp only[v_];omega) ⟨.int xs.length,H,I.tok _,⟨_,by simp only[v_];rw[hlen]⟩,q⟩
 |_=>exact(show False from e).elim
end
end
section
structure Ly(h:qab)(x dx C:h_)(mA:r_->Option i_):Prop where
 obj:h.get? x=some (PySem.W.instObj C dx)
 ns:h.Ns1 dx mA
 ne:dx≠x
theorem wO{h:qab}{dx:h_}{mA:r_->Option i_}(n:h.Ns1 dx mA):∃od,h.get? dx=some od/\∀name,PySem.W.lookIn name od=some (mA name):=by
 obtain⟨o,es,ep,ho,hd,hk,_,hm⟩:=n;refine⟨o,ho,λname=>?_⟩;have e:=hm name;unfold nsFind findBy at e;rw[←Array.find?_toList]at e;unfold PySem.W.lookIn;rw[hd];dsimp only;split
 ·rename_i y q
  rw[q]at e;exact congrArg some e
 ·rename_i q
  rw[q]at e;have a:es.toList.any (·.refKey)=false:=by
   rw[List.any_eq_false];intro y hy;obtain⟨z,t,hkey⟩:=hk y (Array.mem_toList_iff.mp hy);simp[DictEntry.refKey,hkey]
  have a':¬es.toList.any (·.refKey)=true:=by rw[a];exact I_
  rw[if_neg a'];exact congrArg some e
theorem Ly.look{h:qab}{x dx C:h_}{mA:r_->Option i_}(I:Ly h x dx C mA):∃od,PySem.W.InstAt h x (PySem.W.instObj C dx) C (some od)/\∀name,PySem.W.lookIn name od=some (mA name) :=
 let ⟨od,ho,hl⟩:=wO I.ns
 ⟨od,⟨I.obj,rfl,rfl,ho⟩,hl⟩
section
variable{prog:A_}{w:U_}{A:qah}{E:i_->l_->Prop}{s:l_}{K:PySem.W.Frag}{x dx C f:h_}{mA:r_->Option i_}{name:r_}{v:i_}
theorem get_map{expr:Bool}{Q:i_->l_->Prop}(X:K.In s.heap)(I:Ly s.heap x dx C mA)(hg:PySem.W.plainGet K C name=true)(hh:PySem.W.hasDictIn K C=true)
  (ha:PySem.W.findIn K (.ref C) name=some none) (hv:mA name=some v) (hv':PySem.W.handedIn v=true) (h:Q v { s with toks:=s.toks+1 }) :
  D_ (model prog w) A (getAttr (.ref x) name expr) Q E s:=by
 obtain⟨od,J,hl⟩:=I.look;exact PySem.W.get_value X J (PySem.W.plainGet_of hg).1 (PySem.W.findObj_own hh ha Y (by rw[hl,hv])) hv' h
theorem OR{ns:List r_}{Q:Unit->l_->Prop}(X:K.In s.heap)(I:Ly s.heap x dx C mA)
  (hs:PySem.W.findIn K (.ref C) "__setattr__" =some (some (.builtin "object.__setattr__"))) (hp:PySem.W.plainOver K C=true) (ht:PySem.W.takerIn K C name=some none) (hh:PySem.W.hasDictIn K C=true)
  (hw:PySem.Within mA ns) (hsz:ns.length<=x_)
  (h:∀h',Ly h' x dx C (λy=>if y=name then some v else mA y)->qa9 dx s.heap h'->Q () { s with heap:=h',toks:=s.toks+2 }) :
  D_ (model prog w) A (setAttr (.ref x) name v) Q E s:=by
 obtain⟨od,J,hl⟩:=I.look;refine PySem.W.set_plain X J hs (PySem.W.osa_open (s:={ s with toks:=s.toks+1 }) (r:=none) X J hp ht λb=>?_);obtain⟨cd,hc,hd'⟩:=PySem.W.any_some hh;have hx:s.heap.get? x=some ⟨.ref C,some dx,.plain,#[]⟩:=I.obj;refine f_ (q_ (f_ (f_ (qcH hx (f_ (PySem.W.Looks.here (s:={ s with toks:=s.toks+1 }) (PySem.W.looks_clsIn X hc) ?_))))));rw[hd'];refine q_ (a:=some dx) (f_ (q_ (f_ ?_)));refine wpAny_nsSet1 (s:={ s with toks:=s.toks+1 }) I.ns λh' hn2 hs2=>?_;obtain⟨oD,esD,epD,XC,XX,XY⟩:=hn2.count (PySem.Within.cons name v hw);refine f_ (wpAny_lookBehind XC (by rw[XX];exact pastItsLine_dict (m_ XY (by rw[M_];omega))) ?_);exact q_ (h _ ⟨(hs2.2 _ (Ne.symm I.ne)).trans I.obj,hn2,I.ne⟩ hs2)
theorem M5{R:Result->l_->Prop}{vs:List i_}{kw:List (r_×i_)}(X:K.In s.heap)(hm:PySem.W.makesIn K C=true)
  (hi:PySem.W.findIn K (.ref C) "__init__" =some (some (.ref f))) (hf:PySem.W.typeIn K (.ref f)=some (.type "function"))
  (h:codeAny (model prog w) (A.under (.builtin "type.__call__" ⟨.ref C::vs,kw⟩)) (.call (.ref f) ⟨.ref (s.heap.objs.size+1)::vs,kw⟩) (PySem.W.InitBack (s.heap.objs.size+1) R)
   { s with heap:=(s.heap.push PySem.W.emptyDict).push (PySem.W.instObj C s.heap.objs.size) }) :
  codeAny (model prog w) A (.call (.ref C) ⟨vs,kw⟩) R s:=by
 obtain⟨hh,g,d,t,os⟩:=s;exact PySem.W.make_core (PySem.W.makes_of X hm) (PySem.W.looks_findIn X hi) (λself=>PySem.W.bind_fn X self hf) (.inl Y) h
end
noncomputable def aK(f:r_)(v:V):List (r_×V)->List (r_×V)
 |[]=>[(f,v)]
 |(g,x)::r=>if g=f then(g,v)::r else(g,x)::aK f v r
theorem aA(f g:r_)(v:V):∀fs:List (r_×V),(aK f v fs).lookup g=if g=f then some v else fs.lookup g
 |[]=>by
  show qbT g [(f,v)]=_;by_cases h:g=f
  ·have hb:(g==f)=true:=beq_iff_eq.mpr h;simp only[qbT,hb,if_pos h]
  ·have hb:(g==f)=false:=beq_eq_false_iff_ne.mpr h;simp only[qbT,hb,if_neg h]
 |(k,x)::r=>by
  have ih:=aA f g v r
  rw[show aK f v ((k,x)::r)=(if k=f then(k,v)::r else(k,x)::aK f v r) from rfl]
  by_cases hk:k=f
  ·rw[if_pos hk];by_cases h:g=k
   ·have hb:(g==k)=true:=beq_iff_eq.mpr h;simp only[qbT,hb,if_pos (h.trans hk)]
   ·have hb:(g==k)=false:=beq_eq_false_iff_ne.mpr h;simp only[qbT,hb,if_neg (λe:g=f=>h (e.trans hk.symm))]
  ·rw[if_neg hk];by_cases h:g=k
   ·have hb:(g==k)=true:=beq_iff_eq.mpr h;simp only[qbT,hb,if_neg (λe:g=f=>hk (h.symm.trans e))]
   ·have hb:(g==k)=false:=beq_eq_false_iff_ne.mpr h;simp only[qbT,hb];exact ih
theorem qO(f:r_)(v:V):∀fs:List (r_×V),f∈(aK f v fs).map (·.1)/\∀g,g∈fs.map (·.1)->g∈(aK f v fs).map (·.1)
 |[]=>⟨by simp[aK],λg h=>by simp at h⟩
 |(k,x)::r=>by
  obtain⟨i1,i2⟩:=qO f v r
  rw[show aK f v ((k,x)::r)=(if k=f then(k,v)::r else(k,x)::aK f v r) from rfl]
  by_cases hk:k=f
  ·rw[if_pos hk];subst hk;exact⟨by simp,λg h=>by simpa using h⟩
  ·rw[if_neg hk];refine⟨?_,λg h=>?_⟩
   ·rw[qaK];exact J_ _ i1
   ·rw[qaK]at h ⊢;rcases G_.mp h with e|e
    ·exact G_.mpr (.inl e)
    ·exact J_ _ (i2 g e)
theorem sP(f:r_)(v:V):∀fs:List (r_×V),(aK f v fs).length<=fs.length+1
 |[]=>by simp[aK]
 |(k,x)::r=>by
  have ih:=sP f v r
  rw[show aK f v ((k,x)::r)=(if k=f then(k,v)::r else(k,x)::aK f v r) from rfl]
  by_cases hk:k=f
  ·rw[if_pos hk,M_,M_];omega
  ·rw[if_neg hk,M_,M_];omega
theorem rK.some_of{v:V}{o:Option i_}(r:rK (some v) o):∃u,o=some u/\RelV v u:=by
 cases o with
 |none=>exact(show False from r).elim
 |some u=>exact⟨u,Y,r⟩
theorem Lj{v:V}{u:i_}(r:RelV v u):PySem.W.handedIn u=true:=by
 cases v with
 |gE=>cases (show u=Value.none from r);rfl
 |bl b=>cases (show u=Value.bool b from r);rfl
 |int i=>obtain⟨t,e⟩:=(show ∃t,u=Value.int i t from r);cases e;rfl
 |str x=>obtain⟨t,e⟩:=(show ∃t,u=Value.str x t from r);cases e;rfl
 |IE b=>obtain⟨t,e⟩:=(show ∃t,u=Value.bytes b t from r);cases e;rfl
 |Q7 b=>obtain⟨t,e⟩:=(show ∃t,u=Value.float b t from r);cases e;rfl
 |ref a=>cases (show u=Value.ref a from r);rfl
 |ty n=>cases (show u=Value.type n from r);rfl
section
variable{P:A_}{w:U_}{H H':Hp}{h h':qab}{a C dx:h_}{fs fs':List (r_×V)}
theorem yL(hok:qY P w H h)(e:H a=some (.ins C dx fs)):∃mA,Ly h a dx C mA/\(∀f,rK (fs.lookup f) (mA f))/\PySem.Within mA (fs.map (·.1))/\fs.length<=1000/\H dx=some (.own a):=by
 obtain⟨d,z,ne,ob,mA,n,r,q⟩:=(show cU P w H h a (.ins C dx fs) from hok a _ e);exact⟨mA,⟨ob,n,ne⟩,r,q,z,d⟩
end
structure OB(K:PySem.W.Frag)(C:h_):Prop where
 pg:PySem.W.plainGet K C qc2=true
 hd:PySem.W.hasDictIn K C=true
 po:PySem.W.plainOver K C=true
 sa:PySem.W.findIn K (.ref C) "__setattr__" =some (some (.builtin "object.__setattr__"))
theorem OB.get{K:PySem.W.Frag}{C:h_}(c:OB K C)(f:r_):PySem.W.plainGet K C f=true:=c.pg
def bA(K:PySem.W.Frag)(C:h_)(f:r_):Prop:=PySem.W.findIn K (.ref C) f=some none
theorem bA.Mg{K:PySem.W.Frag}{C:h_}{f:r_}(n:bA K C f):PySem.W.takerIn K C f=some none:=by
 unfold PySem.W.takerIn;rw[show PySem.W.findIn K (.ref C) f=some none from n];rfl
section
variable{X:Cx}{pins:List (h_×qa0)}{σ:St}{H:Hp}{s:l_}{a C dx:h_}{fs:List (r_×V)}{f:r_}{v:V}{A:qah}{E:i_->l_->Prop}
theorem Il{b:Bool}{Q:i_->l_->Prop}(I:Inv X pins σ H s)(e:H a=some (.ins C dx fs))(c:OB X.K C)(n:bA X.K C f)(l:fs.lookup f=some v)
  (h:∀u s',Inv X pins σ H s'->RelV v u->Q u s'):D_ (model X.prog X.w) A (getAttr (.ref a) f b) Q E s:=by
 obtain⟨mA,O,r,_,_,_⟩:=yL I.hok e;obtain⟨u,hu,ru⟩:=rK.some_of (v:=v) (o:=mA f) (by rw[←l];exact r f);exact get_map I.qz O (c.get f) c.hd n hu (Lj ru) (h u _ (I.tok _) ru)
theorem Hv{y:V}{u:i_}{Q:Unit->l_->Prop}(I:Inv X pins σ H s)(e:H a=some (.ins C dx fs))(c:OB X.K C)(n:bA X.K C f)(hl:fs.length<1000)(ry:RelV y u)
  (h:∀s',Inv X pins σ (upd H a (.ins C dx (aK f y fs))) s'->Q () s'):D_ (model X.prog X.w) A (setAttr (.ref a) f u) Q E s:=by
 obtain⟨mA,O,r,wi,_,ho⟩:=yL I.hok e;have hz:(fs.map (·.1)).length<=x_:=by rw[g_,qba];omega
 refine OR I.qz O c.sa c.po n.Mg c.hd wi hz λh' O' sb=>h _ ?_
 have hd:∃o,h'.get? dx=some o:=let ⟨o,_,_,e',_⟩:=O'.ns;⟨o,e'⟩
 refine I.write (x:=a) (e:=dx) (by rw[e];exact True.intro) (.inr ho) (λb q hb z=>(sb.2 b hb).trans z) hd ?_;refine⟨by rw[au O.ne];exact ho,?_,O.ne,O'.obj,_,O'.ns,λg=>?_,λg hg=>?_⟩
 ·have:=sP f y fs;omega
 ·show rK ((aK f y fs).lookup g) (if g=f then some u else mA g)
  rw[aA];by_cases q:g=f
  ·rw[if_pos q,if_pos q];exact ry
  ·rw[if_neg q,if_neg q];exact r g
 ·by_cases q:g=f
  ·rw[q];exact(qO f y fs).1
  ·refine(qO f y fs).2 g (wi g λz=>hg ?_)
   show(if g=f then some u else mA g)=none
   rw[if_neg q];exact z
theorem Inv.made(I:Inv X pins σ H s):Inv X pins σ (upd (upd H s.heap.objs.size (.own (s.heap.objs.size+1))) (s.heap.objs.size+1) (.ins C s.heap.objs.size []))
  { s with heap:=(s.heap.push PySem.W.emptyDict).push (PySem.W.instObj C s.heap.objs.size) }:=by
 have e1:(s.heap.push PySem.W.emptyDict).get? s.heap.objs.size=some PySem.W.emptyDict:=B_ s.heap rfl;have e2:((s.heap.push PySem.W.emptyDict).push (PySem.W.instObj C s.heap.objs.size)).get? (s.heap.objs.size+1)=some (PySem.W.instObj C s.heap.objs.size):=by
  have:=B_ (s.heap.push PySem.W.emptyDict) (o:=PySem.W.instObj C s.heap.objs.size) rfl
  rwa [qaU]at this
 have e3:(s.heap.push PySem.W.emptyDict).Ns s.heap.objs.size (λ_=>none):=⟨PySem.W.emptyDict,#[],_,e1,rfl,(λe he=>absurd he (by simp)),λ_=>rfl⟩;have I1:=I.laid (a:=s.heap.objs.size) (o:=.own (s.heap.objs.size+1)) (h':=s.heap.push PySem.W.emptyDict) (t':=s.toks) (λb u q=>j_ _ q) (k_ _) ⟨_,e1⟩;refine I1.laid (a:=s.heap.objs.size+1) (o:=.ins C s.heap.objs.size []) (t':=s.toks) (λb u q=>j_ _ q) (qcn (qaU _ _)) ?_;have ne:s.heap.objs.size≠s.heap.objs.size+1:=Y_ (qbM _);refine⟨by rw[au ne,af],T_ _,ne,e2,λ_=>none,(Heap.Ns1.of_empty e3).at λo q=>j_ _ q,λ_=>True.intro,λy hy=>absurd Y hy⟩
theorem JU{prog:A_}{w:U_}{env:Env}{e:Expr}{f:r_}{pos:qcq}{s:l_}{Q:i_->l_->Prop}(hb:attributeBase e f env (eval e env)=eval e env)
  (h:D_ (model prog w) A (eval e env) (λo s₁=>D_ (model prog w) A (getAttr o f true) Q E s₁) E s):D_ (model prog w) A (eval (.Attribute e f pos) env) Q E s :=
 Attribute_any_ h (by rw[arm_eval_Attribute,hb])
end
def abw(K:PySem.W.Frag)(ta:TE)(f:r_):TE:=λσ H Q=>ta σ H λx H1=>EW λa C dx fs v=>x= .ref a/\H1 a=some (.ins C dx fs)/\OB K C/\bA K C f/\fs.lookup f=some v/\Q v H1
def abE(K:PySem.W.Frag)(ta tv:TE)(f:r_):TS:=λD σ H=>tv σ H λy H1=>ta σ H1 λx H2=>t9 λa C dx fs=>x= .ref a/\H2 a=some (.ins C dx fs)/\OB K C/\bA K C f/\fs.length<1000 ∧
 D.nx σ (upd H2 a (.ins C dx (aK f y fs)))
section
variable{X:Cx}{o e value:Expr}{f:r_}{pos pos' tpos:qcq}{ta tv:TE}
theorem bz(he:PE X e ta)(hb:attributeBase e f X.env (eval e X.env)=eval e X.env):PE X (.Attribute e f pos) (abw X.K ta f):=by
 intro pins s σ H Q I h;refine JU hb (gg (he pins s σ H _ I h) λu s1 ⟨x,H1,I1,rx,a,C,dx,fs,v,ex,ea,c,n,l,q⟩=>?_);subst ex;obtain rfl:u=Value.ref a:=rx;exact Il I1 ea c n l λu' s2 I2 ru=>⟨v,H1,I2,ru,q⟩
theorem jo(ha:PE X o ta)(hv:PE X value tv)(hs:swapsWith value (some (.Attribute o f pos')) pos.line X.env=pure false):PS X (.Assign [.Attribute o f pos'] value pos) (abE X.K ta tv f):=by
 intro pins s σ H D I h;refine plainObj_wpAny_Assign_Attribute (gg (hv pins s σ H _ I h) λu s1 ⟨y,H1,I1,ry,q⟩=>gg (ha pins s1 σ H1 _ I1 q) λov s2 ⟨x,H2,I2,rx,a,C,dx,fs,ex,ea,c,n,l,q2⟩=>?_) hs;subst ex;obtain rfl:ov=Value.ref a:=rx;exact Hv I2 ea c n l ry λs3 I3=>⟨σ,_,I3,q2⟩
end
section
variable{X:Cx}{pins:List (h_×qa0)}{σ:St}{H:Hp}{s:l_}{A:qah}{E:i_->l_->Prop}{Q:i_->l_->Prop}{c:i_}{b:Bool}
inductive vS(K:PySem.W.Frag)(H:Hp):V->i_->Prop where
 |gE:vS K H .gE (.type "NoneType")
 |bl (x:Bool):vS K H (.bl x) (.type "bool")
 |int (i:Int):vS K H (.int i) (.type "int")
 |str (x:r_):vS K H (.str x) (.type "str")
 |Q7 (x:UInt64):vS K H (.Q7 x) (.type "float")
 |lst {a:h_} {xs:List V} (e:H a=some (.lst xs)):vS K H (.ref a) (.type "list")
 |Io {a:h_} {o:qa0} {xs:List V} (e:H a=some (.Io o (.lst xs))):vS K H (.ref a) (.type "list")
 |tup {a:h_} {xs:List V} (e:H a=some (.tup xs)):vS K H (.ref a) (.type "tuple")
 |dK {a:h_} {kvs:List (Key×V)} (e:H a=some (.dK kvs)):vS K H (.ref a) (.type "dict")
 |dT {a:h_} {kvs:List (List Key×V)} (e:H a=some (.dT kvs)):vS K H (.ref a) (.type "dict")
 |ins {a C dx:h_} {fs:List (r_×V)} (e:H a=some (.ins C dx fs)) (cl:OB K C) (ha:PySem.W.findIn K (.ref C) "__class__" =some (some (.builtin "object.__class__")))
   (hn:PySem.W.specialIn K (.builtin "object.__class__") "__get__" =some (some (.builtin "getset_descriptor.__get__"))) (htk:PySem.W.takesIn K (.builtin "object.__class__")=some true)
   (hm:PySem.W.mroIn K C (.type "object")=some true):vS K H (.ref a) (.ref C)
theorem Cu{x:V}{u t:i_}(I:Inv X pins σ H s)(rx:RelV x u)(ty:vS X.K H x t)(e:PySem.W.kitOne X.K t c=some b)(h:∀tk,Q (.bool b) { s with toks:=tk }):
  D_ (model X.prog X.w) A (call (.builtin "isinstance") [u,c]) Q E s:=by
 cases ty with
 |gE=>cases (show u=Value.none from rx);exact PySem.W.kia_one PySem.W.kitx_none I.qz True.intro e (λz=>nomatch z) h
 |bl y=>cases (show u=Value.bool y from rx);exact PySem.W.kia_one PySem.W.kitx_bool I.qz True.intro e (λz=>nomatch z) h
 |int i=>obtain⟨t,q⟩:=(show ∃t,u=Value.int i t from rx);cases q;exact PySem.W.kia_one PySem.W.kitx_int I.qz True.intro e (λz=>nomatch z) h
 |str y=>obtain⟨t,q⟩:=(show ∃t,u=Value.str y t from rx);cases q;exact PySem.W.kia_one PySem.W.kitx_str I.qz True.intro e (λz=>nomatch z) h
 |Q7 y=>obtain⟨t,q⟩:=(show ∃t,u=Value.float y t from rx);cases q;exact PySem.W.kia_one PySem.W.kitx_float I.qz True.intro e (λz=>nomatch z) h
 | @lst a xs ea =>
  cases (show u=Value.ref a from rx);obtain⟨_,_,n,_,h1⟩:=(show cU X.prog X.w H s.heap a (.lst xs) from I.hok a _ ea)
  exact PySem.W.kia_one PySem.W.kitx_list I.qz ⟨_,h1,Y⟩ e (λz=>nomatch z) h
 | @Io a ob xs ea =>
  cases (show u=Value.ref a from rx);obtain⟨_,_,_,n,_,h1⟩:=(show cU X.prog X.w H s.heap a (.Io ob (.lst xs)) from I.hok a _ ea)
  exact PySem.W.kia_one PySem.W.kitx_list I.qz ⟨_,h1,Y⟩ e (λz=>nomatch z) h
 | @tup a xs ea =>
  cases (show u=Value.ref a from rx);obtain⟨_,_,_,p⟩:=(show cU X.prog X.w H s.heap a (.tup xs) from I.hok a _ ea);obtain⟨o,h1,h2,_⟩:=p
  exact PySem.W.kia_one PySem.W.kitx_tuple I.qz ⟨o,h1,h2⟩ e (λz=>nomatch z) h
 | @dK a kvs ea =>
  cases (show u=Value.ref a from rx);obtain⟨_,_,vs,_,p⟩:=(show cU X.prog X.w H s.heap a (.dK kvs) from I.hok a _ ea);obtain⟨o,es,ep,h1,h2,_⟩:=p
  exact PySem.W.kia_one PySem.W.kitx_dict I.qz ⟨o,h1,h2.1⟩ e (λz=>nomatch z) h
 | @dT a kvs ea =>
  cases (show u=Value.ref a from rx);obtain⟨_,_,xs,_,o,es,ep,h1,h2,_⟩:=(show cU X.prog X.w H s.heap a (.dT kvs) from I.hok a _ ea)
  exact PySem.W.kia_one PySem.W.kitx_dict I.qz ⟨o,h1,h2.1⟩ e (λz=>nomatch z) h
 | @ins a C dx fs ea cl ha hn htk hm =>
  cases (show u=Value.ref a from rx);obtain⟨mA,O,_⟩:=yL I.hok ea;obtain⟨od,J,_⟩:=O.look
  exact PySem.W.kia_one (PySem.W.kitx_own (cl.get _) cl.hd ha hn htk hm) I.qz J e (λz=>nomatch z) h
end
end
section
structure nV(k:Nat)(A:qah):Prop where
 hd:A.handled=none
 dp:A.depth+3*k+5<recursionLimit
 un:A.units+16*k+200<cLine
theorem nV.mono{j k:Nat}{A:qah}(r:nV k A)(h:j<=k):nV j A:=⟨r.hd,by have:=r.dp;omega,by have:=r.un;omega⟩
theorem nV.deeper{k:Nat}{A:qah}(r:nV (k+1) A)(env:Env):nV k (A.deeper env) :=
 ⟨r.hd,by have:=r.dp;show A.depth+1+3*k+5<_;omega,by have:=r.un;show A.units+3+16*k+200<_;omega⟩
theorem Ii{A:qah}{C:h_}{us:List i_}{kw:List (r_×i_)}:(A.under (.builtin "type.__call__" ⟨.ref C::us,kw⟩)).depth=A.depth+1:=by
 first|rfl|simp[Around.under,Code.weight,Code.isCreation,Code.isGuard,Code.isCaller,Code.frames,Code.isFrame,guardIds]
theorem Ih{A:qah}{C:h_}{us:List i_}{kw:List (r_×i_)}:(A.under (.builtin "type.__call__" ⟨.ref C::us,kw⟩)).units=A.units+1:=by
 first|rfl|simp[Around.under,Code.cUnits,Code.frames,Code.isFrame]
theorem nV.make{k:Nat}{A:qah}(r:nV (k+1) A)(C:h_)(us:List i_)(kw:List (r_×i_)):nV k (A.under (.builtin "type.__call__" ⟨.ref C::us,kw⟩)) :=
 ⟨r.hd,by have:=r.dp;rw[Ii];omega,by have:=r.un;rw[Ih];omega⟩
theorem nV.depth{k:Nat}{A:qah}(r:nV k A):A.depth<recursionLimit:=by have:=r.dp;omega
theorem nV.units{k:Nat}{A:qah}(r:nV k A):A.units+64<cLine:=by have:=r.un;omega
def abq:TA:=λ_ H Q=>Q [] H
def Wl(ta:TE)(tr:TA):TA:=λσ H Q=>ta σ H λx H1=>tr σ H1 λxs H2=>Q (x::xs) H2
section
variable{X:Cx}{e:Expr}{es:List Expr}{te:TE}{t:TA}{pos:qcq}
theorem ah:PA X [] abq:=λ_ _ _ _ H Q I h=>Calls.spliced_nil ⟨[],H,I,.nil,h⟩
theorem aa(ha:PE X e te)(hr:PA X es t)(hs:qac (e::es) X.env=(false,eval e X.env)::qac es X.env:=by rfl):PA X (e::es) (Wl te t):=by
 intro pos pins s σ H Q I h;rw[hs];show D_ _ _ (spliced ((false,eval e X.env)::backTo pos (qac es X.env))) _ _ s;refine qcB (gg (ha pins s σ H _ I h) λu s1 ⟨x,H1,I1,r1,q1⟩=>?_);exact gg (hr pos pins s1 σ H1 _ I1 q1) λus s2 ⟨xs,H2,I2,r2,q2⟩=>⟨x::xs,H2,I2,.cons r1 r2,q2⟩
def abk(t:TA):TE:=λσ H Q=>t σ H λxs H1=>xs.length<=x_/\∀p,H1 p=none->Q (.ref p) (upd H1 p (.tup xs))
def abt(t:TA):TE:=λσ H Q=>t σ H λxs H1=>xs.length<=x_/\∀p,H1 p=none->Q (.ref p) (upd H1 p (.lst xs))
theorem dB{x1}(h:PA X es t):PE X (.Tuple es x1 pos) (abk t):=by
 intro pins s σ H Q I hq;refine wpAny_Tuple_spliced (gg (h pos pins s σ H _ I hq) λus s1 ⟨xs,H1,I1,r,z,q⟩=>⟨by rw[←r.length];exact z,?_⟩);have hf:H1 s1.heap.objs.size=none:=I1.hok.fresh (k_ _);refine⟨.ref s1.heap.objs.size,upd H1 s1.heap.objs.size (.tup xs),I1.laid (t':=s1.toks) (λb u e=>j_ _ e) (k_ _) ?_,Y,q _ hf⟩;exact⟨z,us,r,⟨_,B_ _ Y,Y,_,Y⟩⟩
theorem dU(h:PA X es t):PE X (.List es pos) (abt t):=by
 intro pins s σ H Q I hq;refine wpAny_List_spliced (gg (h pos pins s σ H _ I hq) λus s1 ⟨xs,H1,I1,r,z,q⟩=>⟨by rw[←r.length];exact z,?_⟩);have hf:H1 s1.heap.objs.size=none:=I1.hok.fresh (k_ _);refine⟨.ref s1.heap.objs.size,upd H1 s1.heap.objs.size (.lst xs),I1.laid (t':=s1.toks) (λb u e=>j_ _ e) (k_ _) ?_,Y,q _ hf⟩;exact⟨z,us,0,r,B_ _ Y⟩
end
noncomputable abbrev Sp:=List V->Hp->VK->XK->Prop
noncomputable abbrev LG:=List Env->Hp->l_->XK->i_->l_->Prop
structure IT(P:A_)(w:U_)(K:PySem.W.Frag)(mg:r_->Option i_)(base:qab)(A:qah)(outer:List Env)(s:l_)(H:Hp):Prop where
 frames:A.frames=some outer
 mod:Mod K mg base
 bs:∀b o,base.get? b=some o->s.heap.get? b=some o/\H b=none
 N5:base.objs.size<=s.heap.objs.size
 uR:s.heap.FunFrames base outer
 PY:∀b∈frs outer,H b=none
 hok:qY P w H s.heap
 bare:AllBare s.gens
 tk:GG mg s.toks
def CE(outer:List Env)(P:A_)(w:U_)(H:Hp)(s:l_)(Q:VK)(u:i_)(s':l_):Prop :=
 dI λv H'=>s'.os=s.os/\AllBare s'.gens/\Un (frs outer) [] H H' s.heap s'.heap/\qY P w H' s'.heap/\RelV v u/\s.toks<=s'.toks/\Q v H'
def CR(CX:LG)(outer:List Env)(P:A_)(w:U_)(H:Hp)(s:l_)(Q:VK)(E:XK)(r:Result)(s':l_):Prop :=
 match r with
 | .ok (.ret u)=>CE outer P w H s Q u s'
 | .ok _=>False
 | .error e=>CX outer H s E e s'
structure aF(P:A_)(w:U_)(K:PySem.W.Frag)(mg:r_->Option i_)(base:qab)(CX:LG)(k:Nat)(f:h_)(fd:F_)(ps:List r_)(sp:Sp):Prop where
 len:∀vs H Q E,sp vs H Q E->vs.length=ps.length
 run:∀(A:qah) (outer:List Env) (s:l_) (H:Hp) (args:Args) (us:List i_) (vs:List V) (Q:VK) (E:XK),nV k A->IT P w K mg base A outer s H->BindsTo s fd args (ps.zip us)->Vals vs us->sp vs H Q E →
  codeAny (model P w) A (.call (.ref f) args) (CR CX outer P w H s Q E) s
theorem IT.make{P:A_}{w:U_}{K:PySem.W.Frag}{mg:r_->Option i_}{base:qab}{A:qah}{outer:List Env}{s:l_}{H:Hp}(e:IT P w K mg base A outer s H)(C:h_)(us:List i_)(kw:List (r_×i_)):
  IT P w K mg base (A.under (.builtin "type.__call__" ⟨.ref C::us,kw⟩)) outer s H:=⟨by first|exact e.frames|(simpa[Around.under,Code.envs,Code.isFrame,pushEnvs]using e.frames),e.mod,e.bs,e.N5,e.uR,e.PY,e.hok,e.bare,e.tk⟩
section
variable{X:Cx}{pins:List (h_×qa0)}{σ:St}{H:Hp}{s s':l_}
theorem Inv.P8(I:Inv X pins σ H s):IT X.prog X.w X.K X.mg X.base X.A X.stack s H :=
 ⟨I.ok.frames,I.ok.mod,I.bs,m_ I.ok.N5 I.sz,I.stack,I.Dh,I.hok,I.bare,I.tk⟩
theorem Inv.after{Q:VK}{u:i_}(I:Inv X pins σ H s)(h:CE X.stack X.prog X.w H s Q u s'):EP X pins σ Q u s':=by
 obtain⟨v,H',os,bare,un,hok,r,tt,q⟩:=h;obtain⟨hh,g,d,t,os'⟩:=s';obtain rfl:os'=s.os:=os;exact⟨v,H',I.call (h':=hh) (g':=g) (d':=d) (t':=t) (ch:=[]) un hok bare (λb z=>absurd z (by simp)) (m_ I.up tt),r,q⟩
end
def Wm(sp:Sp)(Ba:List V)(E:XK)(t:TA):TE:=λσ H Q=>t σ H λvs H1=>sp (vs++Ba) H1 Q E
def Wg(C:h_)(sp:Sp)(Ba:List V)(E:XK)(t:TA):TE:=λσ H Q=>t σ H λvs H1=>∀x dx,H1 x=none->H1 dx=none->dx≠x →
 sp (.ref x::(vs++Ba)) (upd (upd H1 dx (.own x)) x (.ins C dx [])) (λv H2=>v= .gE/\Q (.ref x) H2) E
def Binds(K:PySem.W.Frag)(fd:F_)(ps:List r_)(ds:List i_):Prop :=
 ∀(s:l_) (us:List i_),K.In s.heap->(us++ds).length=ps.length->BindsTo s fd ⟨us,[]⟩ (ps.zip (us++ds))
theorem Binds.all{K:PySem.W.Frag}{fd:F_}{ps:List r_}(h:∀us:List i_,us.length=ps.length->bindArgs fd ⟨us,[]⟩=pure (ps.zip us)):Binds K fd ps []:=λs us _ hl=>by
 rw[qbh]at hl ⊢;exact .of_eq (h us hl)
def Passes(CX:LG)(X:Cx)(E:XK):Prop:=∀(pins:List (h_×qa0)) (σ:St) (H:Hp) (s:l_) (e:i_) (s':l_),Inv X pins σ H s->CX X.stack H s E e s'->X.xe e s'
section
variable{X:Cx}{CX:LG}{k:Nat}{f C:h_}{fd:F_}{ps:List r_}{sp:Sp}{Ba:List V}{ds:List i_}{E:XK}{x m:r_}{p pos apos:qcq}{e o:Expr}{es:List Expr}{ta:TE}{t:TA}
theorem Ub{pins:List (h_×qa0)}{σ:St}{H:Hp}{s:l_}{Q:VK}{us:List i_}{vs:List V}(F:aF X.prog X.w X.K X.mg X.base CX k f fd ps sp)(hr:nV k X.A)(hb:Binds X.K fd ps ds)(hd:Vals Ba ds)(hx:Passes CX X E)
  (I:Inv X pins σ H s) (r:Vals vs us) (h:sp (vs++Ba) H Q E):D_ (model X.prog X.w) X.A (call (.ref f) us) (EP X pins σ Q) X.xe s:=by
 have r2:Vals (vs++Ba) (us++ds):=r.append hd;have hl:(us++ds).length=ps.length:=by rw[←r2.length];exact F.len _ _ _ _ h
 refine qbV (qbC (F.run X.A X.stack s H ⟨us,[]⟩ (us++ds) (vs++Ba) Q E hr I.P8 (hb s us I.qz hl) r2 h) λr s' hq=>?_)
 cases r with
 |error e=>exact hx pins σ H s e s' I hq
 |ok fl =>
  cases fl with
  |ret u=>exact I.after hq
  |next=>exact qaN hq
  |brk=>exact qaN hq
  |cont=>exact qaN hq
theorem az(F:aF X.prog X.w X.K X.mg X.base CX k f fd ps sp)(hr:nV k X.A)(hg:Gl X x)(hm:X.mg x=some (.ref f))(hk:PySem.W.keepIn X.K (.ref f)=true)(hb:Binds X.K fd ps ds)(hd:Vals Ba ds)(hx:Passes CX X E)
  (ha:PA X (e::es) t) (hdb:(x==("__debug__" :r_))=false:=by decide) (he:qac (e::es) X.env=(false,eval e X.env)::qac es X.env:=by rfl) (hpl:(backTo pos (qac es X.env)).any (·.1)=false:=by rfl) :
  PE X (.Call (.Name x p) (e::es) [] pos) (Wm sp Ba E t):=by
 intro pins s σ H Q I h;refine qa4 (oQ I hg hm ?_ hdb);refine PySem.W.callWith_K (h₀:=X.base) I.ok.mod.QN hk (gg (ha pos pins s σ H _ I h) λus s1 ⟨vs,H1,I1,r,q⟩=>⟨I1.qz,?_⟩) he hpl;exact Ub F hr hb hd hx I1 r q
structure Mk(K:PySem.W.Frag)(C f:h_):Prop where
 makes:PySem.W.makesIn K C=true
 init:PySem.W.findIn K (.ref C) "__init__" =some (some (.ref f))
 fn:PySem.W.isFn K (.ref f)=true
 kp:PySem.W.keepIn K (.ref C)=true
theorem ME{pins:List (h_×qa0)}{σ:St}{H:Hp}{s:l_}{Q:VK}{us:List i_}{vs:List V}(M:Mk X.K C f)(F:aF X.prog X.w X.K X.mg X.base CX k f fd ps sp)(hr:nV (k+1) X.A)(hb:Binds X.K fd ps ds)(hd:Vals Ba ds)
  (hx:Passes CX X E) (I:Inv X pins σ H s) (r:Vals vs us)
  (h:∀x dx,H x=none->H dx=none->dx≠x->sp (.ref x::(vs++Ba)) (upd (upd H dx (.own x)) x (.ins C dx [])) (λv H2=>v= .gE/\Q (.ref x) H2) E) :
  D_ (model X.prog X.w) X.A (call (.ref C) us) (EP X pins σ Q) X.xe s:=by
 have hq:=h (s.heap.objs.size+1) s.heap.objs.size (I.hok.fresh (qaE _)) (I.hok.fresh (k_ _)) (Y_ (qbM _));have I2:=Inv.made (C:=C) I;have r2:Vals (V.ref (s.heap.objs.size+1)::(vs++Ba)) (Value.ref (s.heap.objs.size+1)::(us++ds)):=.cons rfl (r.append hd);have hl:(Value.ref (s.heap.objs.size+1)::us++ds).length=ps.length:=by
  have e:=r2.length;rw[F.len _ _ _ _ hq]at e;exact e.symm
 refine qbV (M5 (f:=f) I.qz M.makes M.init (beq_iff_eq.mp M.fn) (qbC (F.run _ X.stack _ _ ⟨Value.ref (s.heap.objs.size+1)::us,[]⟩ (Value.ref (s.heap.objs.size+1)::(us++ds)) _ _ E (hr.make C us [])
  (I2.P8.make C us []) (hb _ (Value.ref (s.heap.objs.size+1)::us) I2.qz hl) r2 hq) λr s' hq'=>?_))
 cases r with
 |error e=>exact hx pins σ _ _ e s' I2 hq'
 |ok fl =>
  cases fl with
  |ret u =>
   obtain⟨v,H',I3,rv,ev,q3⟩:=I2.after hq';subst ev;exact⟨rv,⟨V.ref (s.heap.objs.size+1),H',I3,Y,q3⟩⟩
  |next=>exact qaN hq'
  |brk=>exact qaN hq'
  |cont=>exact qaN hq'
theorem rE(M:Mk X.K C f)(F:aF X.prog X.w X.K X.mg X.base CX k f fd ps sp)(hr:nV (k+1) X.A)(hg:Gl X x)(hm:X.mg x=some (.ref C))(hb:Binds X.K fd ps ds)(hd:Vals Ba ds)(hx:Passes CX X E)
  (ha:PA X (e::es) t) (hdb:(x==("__debug__" :r_))=false:=by decide) (he:qac (e::es) X.env=(false,eval e X.env)::qac es X.env:=by rfl) (hpl:(backTo pos (qac es X.env)).any (·.1)=false:=by rfl) :
  PE X (.Call (.Name x p) (e::es) [] pos) (Wg C sp Ba E t):=by
 intro pins s σ H Q I h;refine qa4 (oQ I hg hm ?_ hdb);refine PySem.W.callWith_K (h₀:=X.base) I.ok.mod.QN M.kp (gg (ha pos pins s σ H _ I h) λus s1 ⟨vs,H1,I1,r,q⟩=>⟨I1.qz,?_⟩) he hpl;exact ME M F hr hb hd hx I1 r q
end
section
variable{X:Cx}{CX:LG}{k:Nat}{f C:h_}{fd:F_}{ps ks:List r_}{sp:Sp}{E:XK}{x m:r_}{p pos apos kpos:qcq}{e o:Expr}{es:List Expr}{kws:List Keyword}{te ta:TE}{t tk:TA}{nm:Option r_}
variable{g:List i_->List i_->List i_}{gV:List V->List V->List V}
end
structure aG(N P:List r_)(sc:qbK):Prop where
 kind:sc.kind= .function
 co:sc.isCoroutine=false
 gen:sc.isGenerator=false
 nd:N.Nodup
 pre:N.take P.length=P
 par:∀x∈P,sc.names.lookup x=some .local\/sc.names.lookup x=some .cell
 Uy:∀y∈sc.names,y.2≠ .free
theorem CM{kindOf:r_->Option qbD}{x:r_}:∀{binds:List (r_×i_)} {m:r_->Option i_},(∀v,(x,v)∉binds)->bindL kindOf binds m x=m x
 |[],_,_=>rfl
 |(n,v)::r,m,h=>by
  unfold bindL;rw[CM λw hw=>h w (J_ _ hw)];split
  ·have:x≠n:=by rintro rfl;exact h v L_
   simp[this]
  ·rfl
theorem CO{kindOf:r_->Option qbD}{x:r_}:∀{binds:List (r_×i_)} {m:r_->Option i_},(∀v,(x,v)∉binds)->bindC kindOf binds m x=m x
 |[],_,_=>rfl
 |(n,v)::r,m,h=>by
  unfold bindC;rw[CO λw hw=>h w (J_ _ hw)];split
  ·rfl
  ·have:x≠n:=by rintro rfl;exact h v L_
   simp[this]
theorem CN{kindOf:r_->Option qbD}{x:r_}{v:i_}:∀{P:List r_} {vs:List i_} {i:Nat} {m:r_->Option i_},P.Nodup->P[i]? =some x->vs[i]? =some v->kindOf x=some .local →
  bindL kindOf (P.zip vs) m x=some v
 |[],_,_,_,_,h,_,_=>by simp at h
 |_::_,[],_,_,_,_,h,_=>by simp at h
 |p::P,w::vs,0,m,nd,h1,h2,hk=>by
  simp at h1 h2;subst h1;subst h2;show bindL kindOf ((p,w)::P.zip vs) m p=_;unfold bindL;rw[CM λv hv=>(qbx.mp nd).1 (List.of_mem_zip hv).1,if_pos hk];simp
 |p::P,w::vs,i+1,m,nd,h1,h2,hk=>by
  show bindL kindOf ((p,w)::P.zip vs) m x=_;unfold bindL;exact CN (i:=i) (qbx.mp nd).2 (by simpa using h1) (by simpa using h2) hk
theorem CQ{kindOf:r_->Option qbD}{x:r_}{v:i_}:∀{P:List r_} {vs:List i_} {i:Nat} {m:r_->Option i_},P.Nodup->P[i]? =some x->vs[i]? =some v->kindOf x≠some .local →
  bindC kindOf (P.zip vs) m x=some v
 |[],_,_,_,_,h,_,_=>by simp at h
 |_::_,[],_,_,_,_,h,_=>by simp at h
 |p::P,w::vs,0,m,nd,h1,h2,hk=>by
  simp at h1 h2;subst h1;subst h2;show bindC kindOf ((p,w)::P.zip vs) m p=_;unfold bindC;rw[CO λv hv=>(qbx.mp nd).1 (List.of_mem_zip hv).1,if_neg hk];simp
 |p::P,w::vs,i+1,m,nd,h1,h2,hk=>by
  show bindC kindOf ((p,w)::P.zip vs) m x=_;unfold bindC;exact CQ (i:=i) (qbx.mp nd).2 (by simpa using h1) (by simpa using h2) hk
noncomputable def start(N:List r_)(vs:List V):St:=vs.map some++P_ (N.length-vs.length) none
noncomputable def xj(CX:LG)(P:A_)(w:U_)(K:PySem.W.Frag)(mg:r_->Option i_)(base:qab)(N:List r_)(qual:r_)(scope:qbK)(f:h_)(cd:i_)(A:qah)(outer:List Env)(s:l_)(H:Hp)(E:XK):Cx where
 prog:=P
 w:=w
 K:=K
 mg:=mg
 base:=base
 A:=A.deeper (envOfC qual scope s.heap.objs.size f cd)
 N:=N
 s₀:=s
 H₀:=H
 env:=envOfC qual scope s.heap.objs.size f cd
 outer:=outer
 stack:=envOfC qual scope s.heap.objs.size f cd::outer
 ex:=[]
 calm:=true
 fn:=λ_=>true
 pn:=[]
 xe:=λe s'=>D_ (model P w) (A.deeper (envOfC qual scope s.heap.objs.size f cd)) (leaving (envOfC qual scope s.heap.objs.size f cd) e) (λ_ s''=>CX outer H s E e s'') (λe' s''=>CX outer H s E e' s'') s'
theorem Gz{sc:qbK}{n:Nat}{x:r_}(h:sc.names.lookup x=some .cell):∃c,(cellsFrom n sc.names []).lookup x=some c:=by
 have q:=PySem.W.cellsFrom_some sc.names n [] (.inl h);exact qbF.mp q
theorem Lg{CX:LG}{P:A_}{w:U_}{K:PySem.W.Frag}{mg:r_->Option i_}{base:qab}{N ps:List r_}{qual:r_}{scope:qbK}{f:h_}{cd:i_}{A:qah}{outer:List Env}{s s1:l_}{H:Hp}{E:XK}{us:List i_}{vs:List V}
  (S:aG N ps scope) (hd:A.handled=none) (e0:IT P w K mg base A outer s H) (hl:vs.length=ps.length) (r:Vals vs us)
  (x:InCallC s s.heap.objs.size (bindL (envOfC qual scope s.heap.objs.size f cd).kindOf (ps.zip us) λ_=>none) (cellsFrom (s.heap.objs.size+1) scope.names []) (bindC (envOfC qual scope s.heap.objs.size f cd).kindOf (ps.zip us) λ_=>none) s1) (hup:s.toks<=s1.toks) :
  Inv (xj CX P w K mg base N qual scope f cd A outer s H E) [] (start N vs) H s1:=by
 have hpl:ps.length<=N.length:=by have:=congrArg qc1 S.pre;rw[qaC]at this;omega
 obtain⟨h1,tk,rfl,hk⟩:=x.done;have htk:s.toks<=tk:=hup;have WT:∀b:h_,b∉(xj CX P w K mg base N qual scope f cd A outer s H E).ex:=λb z=>absurd (show b∈([]:List h_) from z) (by simp);refine⟨⟨e0.mod,S.kind,Y,Y,k_ _,λy z c h1 h2=>?_,λy hy=>?_,λy c _ h=>?_,λ_=>hd,Around.frames_deeper e0.frames,.inr ⟨Y,Y⟩,λb z=>absurd z (WT b),e0.bs,e0.N5,λb _ _=>WT b,λb z=>absurd z (WT b),e0.uR,e0.PY,e0.tk⟩,
  rfl,e0.bare,Un.kept hk,⟨_,x.toInCall.ns,λi y v h1 h2 h3=>?_⟩,λy c h=>⟨_,x.cell y c h⟩,e0.hok.fresh (k_ _),λy c h=>?_,λp hp=>absurd (show p∈([]:List (h_×qa0)) from hp) (by simp),e0.hok.kept hk,?_,htk⟩
 ·exact name_of_addr x.apart (PySem.mem_of_lookup h1) (PySem.mem_of_lookup h2)
 ·have hy:scope.names.lookup y=some .cell\/scope.names.lookup y=some .free:=hy;rcases hy with hy|hy
  ·exact Gz hy
  ·exact absurd Y (S.Uy _ (PySem.mem_of_lookup hy))
 ·exact qa1 (x.above y c (PySem.mem_of_lookup h))
 ·have hi:i<vs.length:=by
   unfold start at h2;by_cases hi:i<vs.length
   ·exact hi
   ·rw[qar (by simpa using hi)]at h2;rw[qbN]at h2;split at h2<;>cases h2
  have ha:vs[i]? =some v:=by
   unfold start at h2;rw[qau (by simpa using hi),n_]at h2
   cases e:vs[i]? with
   |none=>rw[e]at h2;cases h2
   |some a=>rw[e]at h2;cases h2;rfl
  obtain⟨u,hu,rv⟩:=r.get ha;have hp:ps[i]? =some y:=by
   rw[←S.pre,List.getElem?_take_of_lt (by omega)];exact h1
  have ndP:ps.Nodup:=by rw[←S.pre];exact S.nd.sublist (List.take_sublist _ _)
  refine⟨u,rv,?_⟩;rcases S.par y (u_ hp)with k|k
  ·exact .inl ⟨k,CN ndP hp hu k⟩
  ·obtain⟨c,e⟩:=Gz (n:=s.heap.objs.size+1) k;refine .inr ⟨.inl k,c,e,?_⟩;have q:=x.cell y c e;rw[CQ ndP hp hu (by show scope.names.lookup y≠_;rw[k];decide)]at q;exact q
 ·exact e0.hok.fresh (qa1 (x.above y c (PySem.mem_of_lookup h)))
 ·unfold start;show _=N.length;rw[o_,g_,qaY];omega
theorem Q6{CX:LG}{P:A_}{w:U_}{K:PySem.W.Frag}{mg:r_->Option i_}{base:qab}{k:Nat}{f:h_}{name qual:r_}{params:Arguments}{body:List qaA}{scope:qbK}{dV kV doc pm cdv ct oc:i_}{an od:Option h_}
  {osl:Array (Option i_)} {N ps:List r_} {sp:Sp} (lk:K.lookup f=some ⟨oc,od,.func (PySem.W.fnOf name qual params body scope dV kV doc pm an cdv ct),osl⟩) (hcd:PySem.W.codeIn K cdv qual=true) (S:aG N ps scope)
  (len:∀vs H Q E,sp vs H Q E->vs.length=ps.length)
  (hbody:∀(A:qah) (outer:List Env) (s:l_) (H:Hp) (vs:List V) (Q:VK) (E:XK),nV k (A.deeper (envOfC qual scope s.heap.objs.size f cdv))->sp vs H Q E →
   ∃t,EG (xj CX P w K mg base N qual scope f cdv A outer s H E) body t/\t { nx:=λ_ H'=>Q .gE H',rt:=Q } (start N vs) H) :
  aF P w K mg base CX (k+1) f (PySem.W.fnOf name qual params body scope dV kV doc pm an cdv ct) ps sp:=by
 refine⟨len,λA outer s H args us vs Q E hr e0 hb r Ov=>?_⟩;have hl:=len _ _ _ _ Ov;have KX:K.In s.heap:=e0.mod.QN.keeps λb o e=>(e0.bs b o e).1;have lim:s.heap.NoLimit:=e0.mod.nolimit.keeps λb o e=>(e0.bs b o e).1;have hkind:∀y∈ps.zip us,scope.names.lookup y.1=some .local\/(scope.names.lookup y.1=some .cell/\((cellsFrom (s.heap.objs.size+1) scope.names []).lookup y.1).isSome=true):=λ⟨n,v⟩ hy=>by
  rcases S.par n (List.of_mem_zip hy).1 with q|q
  ·exact .inl q
  ·exact .inr ⟨q,PySem.W.cellsFrom_some _ _ _ (.inl q)⟩
 refine TK.IB (k_ _) ?_;refine codeAny_call_function hr.depth (KX _ _ lk) Y S.co S.gen Y (PySem.W.codeRec_of KX hcd) (hb _ _ _ _ ?_);refine TK.cj (k_ _) (wpAny_newFunctionEnv_cells S.kind hkind λenv he s1 x hup=>?_);subst he;refine⟨lim.keeps x.toInCall.keep,codeAny_func ?_⟩;obtain⟨t,ht,hq⟩:=hbody A outer s H vs Q E (hr.deeper _) Ov;have I:Inv (xj CX P w K mg base N qual scope f cdv A outer s H E) [] (start N vs) H s1:=Lg S hr.hd e0 hl r x hup;refine qaJ (ht [] s1 (start N vs) H _ I hq) (λfl s' hs acw=>?_) λe s' hs=>qaJ hs (λ_ _ z _=>z) λ_ _ z _=>z;have fin:∀{σ':St} {H':Hp} {v:V} {u:i_},Inv (xj CX P w K mg base N qual scope f cdv A outer s H E) [] σ' H' s'->RelV v u->Q v H'->CE outer P w H s Q u s' :=
  λ{σ' H' v u} J rv q=>⟨v,H',J.os,J.bare,J.base,J.hok,rv,acw,q⟩
 cases fl with
 |ret u =>
  obtain⟨v,σ',H',J,rv,q⟩:=hs;exact fin J rv q
 |next =>
  obtain⟨σ',H',J,q⟩:=hs;exact fin (v:=V.gE) (u:=Value.none) J Y q
 |brk =>
  obtain⟨_,_,_,q⟩:=hs;exact qaN q
 |cont =>
  obtain⟨_,_,_,q⟩:=hs;exact qaN q
end
section
section
variable{X:Cx}{x:r_}{p pos:qcq}{e:Expr}{es:List Expr}{t:TA}{id T:String}{r:List V->Hp->VK->Prop}
def tCB(r:List V->Hp->VK->Prop)(t:TA):TE:=λσ H Q=>t σ H λvs H1=>r vs H1 Q
theorem aD (hc:mL X (.builtin id) r)(hg:Gl X x)(hm:X.mg x=none)(hv:bootBuiltins x=some (.builtin id))(ha:PA X (e::es) t)(hn:x≠ "__name__" :=by decide)(hdb:(x==("__debug__" :r_))=false:=by decide)
  (he:qac (e::es) X.env=(false,eval e X.env)::qac es X.env:=by rfl) (hpl:(backTo pos (qac es X.env)).any (·.1)=false:=by rfl):PE X (.Call (.Name x p) (e::es) [] pos) (tCB r t):=by
 intro pins s σ H Q I h;refine qa4 (qm I hg hm hv ?_ hn hdb);exact PyProof.Rows.callWith_builtin1 (gg (ha pos pins s σ H _ I h) λus s1 ⟨vs,H1,I1,r1,q1⟩=>hc pins s1 σ H1 vs us Q I1 r1 q1) he hpl
theorem g7 (hc:mL X (.type T) r)(hg:Gl X x)(hm:X.mg x=none)(hv:bootBuiltins x=some (.type T))(ha:PA X (e::es) t)(hn:x≠ "__name__" :=by decide)(hdb:(x==("__debug__" :r_))=false:=by decide)
  (he:qac (e::es) X.env=(false,eval e X.env)::qac es X.env:=by rfl) (hpl:(backTo pos (qac es X.env)).any (·.1)=false:=by rfl):PE X (.Call (.Name x p) (e::es) [] pos) (tCB r t):=by
 intro pins s σ H Q I h;refine qa4 (qm I hg hm hv ?_ hn hdb);exact qaL (gg (ha pos pins s σ H _ I h) λus s1 ⟨vs,H1,I1,r1,q1⟩=>hc pins s1 σ H1 vs us Q I1 r1 q1) he hpl
end
end
end L2
namespace HT
open PySem PyProof.Rows
section
open PySem.SeqAt
open PySem.AutoSeq1 (wpAny_loadPart')
open PySem.MeetsSeq PySem.MeetsSeq2 PySem.MeetsSeq3
end
section
variable{prog:A_}{w:U_}{A:qah}{E:i_->l_->Prop}{s:l_}
theorem Qg{t b:h_}{vs ws:List i_}{Q:i_->l_->Prop}(ht:IsTup s.heap t vs.toArray)(hb:IsTup s.heap b ws.toArray)(hv:vs≠[])
  (h1:ws=[]->Q (.ref t) s) (h2:ws≠[]->Q (.ref s.heap.objs.size) { s with heap:=s.heap.push { cls:=.type "tuple",data:=.seq (vs++ws).toArray } })
  (hsz:vs.length+ws.length<=x_):D_ (model prog w) A (binaryOp .Add (.ref t) (.ref b)) Q E s:=by
 obtain⟨⟨cls,dd,data,sl⟩,ho,hc,n,hd⟩:=id ht;obtain⟨⟨ag5,dd2,data2,sl2⟩,ho2,hc2,n2,hd2⟩:=id hb;simp only at hc hd hc2 hd2;subst hc hd hc2 hd2;have e:vs.toArray++ws.toArray=(vs++ws).toArray:=by simp
 by_cases hw:ws=[]
 ·exact concat_meets ⟨_,ho,Y⟩ ⟨_,ho2,Y⟩ noFill_tuple_add seq_tuple_add PySem.F.slot_tuple_add PySem.F.entry_tuple_add (PySem.F.args_tuple_add_2 _ _)
   (tuple_addW1 t b vs.toArray ws.toArray n n2 dd dd2 sl sl2 (by simpa using hv) (by simp[hw])) ⟨ho,ho2,h1 hw⟩
 ·refine concat_meets ⟨_,ho,Y⟩ ⟨_,ho2,Y⟩ noFill_tuple_add seq_tuple_add PySem.F.slot_tuple_add PySem.F.entry_tuple_add (PySem.F.args_tuple_add_2 _ _)
   (tuple_addW2 t b vs.toArray ws.toArray n n2 dd dd2 sl sl2 (by simpa using hv) (by simpa using hw) (by rw[v_,v_];exact hsz)) ⟨ho,ho2,?_⟩
  rw[e];exact h2 hw
noncomputable def EU(n d:Nat):Option Int->Nat
 |none=>d
 |some v=>if v<0 then(v+(n:Int)).toNat else min v.toNat n
theorem zw(n d:Nat):EU n d none=d:=rfl
theorem Jr(n d k:Nat):EU n d (some (k:Int))=min k n:=by
 show(if(k:Int)<0 then((k:Int)+(n:Int)).toNat else min (k:Int).toNat n)=min k n
 rw[if_neg (by omega),qaD]
end
end HT
namespace L2
open PySem PySem.Spec PyProof.Rows
section
noncomputable abbrev TO:=St->Hp->(Option Int->Hp->Prop)->Prop
def PO(X:Cx)(e:Option Expr)(t:TO):Prop :=
 ∀(pins:List (h_×qa0)) (s:l_) (σ:St) (H:Hp) (Q:Option Int->Hp->Prop),Inv X pins σ H s->t σ H Q →
  D_ (model X.prog X.w) X.A (evalPart e X.env) (λu s'=>dI λo H'=>Inv X pins σ H' s'/\IsPart u o/\Q o H') X.xe s
def OO:TO:=λ_ H Q=>Q none H
def Wd(t:TE):TO:=λσ H Q=>t σ H λx H1=>∃i,x= .int i/\Q (some i) H1
section
variable{X:Cx}{e:Expr}{te:TE}{lo hi:Option Expr}{tl th:TO}{pos p2:qcq}
theorem p5:PO X none OO:=by
 intro pins s σ H Q I h;rw[evalPart_none];exact q_ ⟨none,H,I,.none,h⟩
theorem pZ(h:PE X e te):PO X (some e) (Wd te):=by
 intro pins s σ H Q I hw;rw[evalPart_some];refine gg (h pins s σ H _ I hw) λu s1 ⟨x,H1,I1,r1,q1⟩=>?_;obtain⟨i,rfl,q⟩:=q1;obtain⟨t,rfl⟩:=r1;exact⟨some i,H1,I1,.int i t,q⟩
def SlR(X:Cx)(r:V->Option Int->Option Int->Hp->VK->Prop):Prop :=
 ∀(pins:List (h_×qa0)) (s:l_) (σ:St) (H:Hp) (x:V) (v vl vu:i_) (lo hi:Option Int) (sl:h_) (Q:VK),Inv X pins σ H s->RelV x v->s.heap.IsSliceOf sl vl vu .none->IsPart vl lo->IsPart vu hi->r x lo hi H Q →
  dI λT id=>typeLookup (.type T) "__getitem__" =pure (some (.builtin id))/\s.TypeIs v T/\D_ (model X.prog X.w) X.A (getItem v (.ref sl)) (EP X pins σ Q) X.xe s
def tSl(r:V->Option Int->Option Int->Hp->VK->Prop)(te:TE)(tl th:TO):TE:=λσ H Q=>te σ H λx H1=>tl σ H1 λl H2=>th σ H2 λu H3=>r x l u H3 Q
theorem nQ{r:V->Option Int->Option Int->Hp->VK->Prop}(hr:SlR X r)(he:PE X e te)(hl:PO X lo tl)(hu:PO X hi th):PE X (.Subscript e (.Slice lo hi none p2) pos) (tSl r te tl th):=by
 intro pins s σ H Q I h;refine Subscript_ (gg (he pins s σ H _ I h) λv s1 ⟨x,H1,I1,r1,q1⟩=>?_);refine wpAny_Slice (gg (hl pins s1 σ H1 _ I1 q1) λvl s2 ⟨l,H2,I2,pl,q2⟩=>gg (hu pins s2 σ H2 _ I2 q2) λvu s3 ⟨u,H3,I3,pu,q3⟩=>?_);rw[evalPart_none];refine q_ ?_;have I4:Inv X pins σ H3 { s3 with heap:=s3.heap.push { cls:=.type "slice",data:=.fields #[vl,vu,.none] } }:=I3.kept (t':=s3.toks) λb ob q=>j_ _ q;obtain⟨T,id,hT,ht,hg⟩:=hr pins { s3 with heap:=s3.heap.push { cls:=.type "slice",data:=.fields #[vl,vu,.none] } } σ H3 x v vl vu l u s3.heap.objs.size Q I4 r1 (Heap.IsSliceOf.new ..) pl pu q3;show D_ (model X.prog X.w) X.A (subscriptTail e (.Slice lo hi none p2) v (.ref s3.heap.objs.size)) (EP X pins σ Q) X.xe { s3 with heap:=s3.heap.push { cls:=.type "slice",data:=.fields #[vl,vu,.none] } }
 exact tail_any (ops:=[.ref s3.heap.objs.size,v]) ht hT hg (by with_unfolding_all rfl)
noncomputable def xm(xs:List V)(lo hi:Option Int):List V:=(xs.drop (HT.EU xs.length 0 lo)).take (HT.EU xs.length xs.length hi-HT.EU xs.length 0 lo)
theorem xS(xs:List V)(lo hi:Option Int):(xm xs lo hi).length<=xs.length:=by
 unfold xm;rw[qaC,qbO];omega
def WE(K:PySem.W.Frag):R2:=λx y H Q=>t9 λa b xs ys=>x= .ref a/\y= .ref b/\fq K H a xs/\fq K H b ys/\xs≠[]/\xs.length+ys.length<=x_ ∧
 (ys=[]->Q (.ref a) H)/\(ys≠[]->∀p,H p=none->Q (.ref p) (upd H p (.tup (xs++ys))))
theorem Vals.DO{xs:List V}{us:List i_}(r:Vals xs us):us=[]↔xs=[]:=by
 cases r with
 |nil=>simp
 |cons _ _=>simp
theorem O5:rZ X (binaryOp .Add) (WE X.K):=by
 intro pins s σ H x y v u Q I rx ry h;obtain⟨a,b,xs,ys,rfl,rfl,ha,hb,hx,hz,q1,q2⟩:=h;cases rx;cases ry;obtain⟨its,r1,p1,_⟩:=I.tuple ha;obtain⟨its2,r2,p2,_⟩:=I.tuple hb;refine HT.Qg p1 p2 (λz=>hx (r1.DO.mp z)) (λz=>⟨.ref a,H,I,Y,q1 (r2.DO.mp z)⟩) (λz=>?_) (by rw[←r1.length,←r2.length];exact hz);refine⟨.ref s.heap.objs.size,_,I.laid (t':=s.toks) (o:=.tup (xs++ys)) (λb ob q=>j_ _ q) (k_ _) ?_,Y,q2 (λw=>z (r2.DO.mpr w)) _ (I.hok.fresh (k_ _))⟩;exact⟨by rw[o_];exact hz,_,r1.append r2,IsTup.new _ _⟩
end
end
section
noncomputable def Nc(n:Nat)(i:Int):Option Nat:=if 0<=i then(if i<n then some i.toNat else none)else if -(n:Int)<=i then some (i+n).toNat else none
noncomputable def G2{α:Type}(xs:List α)(i:Int):Option α:=(Nc xs.length i).bind λj=>xs[j]?
theorem JE{n:Nat}{i:Int}{j:Nat}(h:Nc n i=some j):seqIndex? i n=some j/\j<n/\ -(n:Int)<=i/\i<n:=by
 unfold Nc at h;by_cases h0:0<=i
 ·rw[if_pos h0]at h;by_cases h1:i<n
  ·rw[if_pos h1]at h;have e:i.toNat=j:=qaa h;exact⟨by rw[seqIndex_of h0 h1,e],by omega,by omega,h1⟩
  ·rw[if_neg h1]at h;cases h
 ·rw[if_neg h0]at h;by_cases h1: -(n:Int)<=i
  ·rw[if_pos h1]at h;have e:(i+n).toNat=j:=qaa h;exact⟨by rw[seqIndex_neg (by omega) h1,e],by omega,h1,by omega⟩
  ·rw[if_neg h1]at h;cases h
theorem Ej{α:Type}{xs:List α}{i:Int}{v:α}(h:G2 xs i=some v):∃j,seqIndex? i xs.length=some j/\xs[j]? =some v/\j<xs.length/\ -(xs.length:Int)<=i/\i<xs.length:=by
 unfold G2 at h
 cases e:Nc xs.length i with
 |none=>rw[e]at h;cases h
 |some j =>
  rw[e]at h;obtain⟨h1,h2,h3,h4⟩:=JE e;exact⟨j,h1,h,h2,h3,h4⟩
theorem bM{α:Type}{xs:List α}{j:Nat}{v:α}(h:xs[j]? =some v):G2 xs (j:Int)=some v:=by
 have hj:j<xs.length:=(p_.mp h).1;have e:Nc xs.length (j:Int)=some j:=by
  unfold Nc;rw[if_pos (by omega),if_pos (by omega)];simp
 unfold G2;rw[e];exact h
theorem GF{α:Type}(xs:List α)(v:α):G2 (xs++[v]) (-1)=some v:=by
 have hl:(xs++[v]).length=xs.length+1:=by simp
 have e:Nc (xs++[v]).length (-1)=some xs.length:=by
  unfold Nc;rw[hl,if_neg (by decide),if_pos (by omega)];congr 1;omega
 unfold G2;rw[e];show(xs++[v])[xs.length]? =some v;simp
def Qt(b:Expr):Prop:=∀o i,subscripted b false o i=operate [o,i] (getItem o i)
def Oe(X:Cx)(r:R2):Prop :=
 ∀(value slice:Expr) (pins:List (h_×qa0)) (s:l_) (σ:St) (H:Hp) (x y:V) (v u:i_) (Q:VK),Inv X pins σ H s->RelV x v->RelV y u->r x y H Q →
  subscripted slice false v u=operate [v,u] (getItem v u)->D_ (model X.prog X.w) X.A (subscriptTail value slice v u) (EP X pins σ Q) X.xe s
def YH(X:Cx)(id:String)(r:V->List V->Hp->VK->Prop):Prop :=
 ∀(pins:List (h_×qa0)) (s:l_) (σ:St) (H:Hp) (x:V) (xs:List V) (v:i_) (us:List i_) (Q:VK),Inv X pins σ H s->RelV x v->Vals xs us->r x xs H Q →
  D_ (model X.prog X.w) X.A (call (.builtin id) (v::us)) (EP X pins σ Q) X.xe s
section
variable{X:Cx}{a b:Expr}{ta tb:TE}{pos:qcq}
theorem Oe.or{r r':R2}(h:Oe X r)(h':Oe X r'):Oe X (λx y H Q=>r x y H Q\/r' x y H Q):=by
 intro value slice pins s σ H x y v u Q I rx ry q hs;rcases q with q|q
 ·exact h value slice pins s σ H x y v u Q I rx ry q hs
 ·exact h' value slice pins s σ H x y v u Q I rx ry q hs
theorem aT{r:R2}(hr:Oe X r)(ha:PE X a ta)(hb:PE X b tb)(hs:Qt b):PE X (.Subscript a b pos) (YZ r ta tb):=by
 intro pins s σ H Q I h;exact Subscript_ (Vq ha hb I h λv u s2 x y H2 I2 rx ry q=>hr a b pins s2 σ H2 x y v u Q I2 rx ry q (hs _ _))
def Ug(K:PySem.W.Frag):R2:=λx y H Q=>t9 λp xs i v=>x= .ref p/\y= .int i/\bD K H p xs/\G2 xs i=some v/\Q v H
def Ue(K:PySem.W.Frag):R2:=λx y H Q=>t9 λp xs i v=>x= .ref p/\y= .int i/\fq K H p xs/\G2 xs i=some v/\Q v H
def WB:R2:=λx y H Q=>oS λz i c=>x= .str z/\y= .int i/\z.length<=x_/\G2 z.cps.toList i=some c/\Q (.str ⟨#[c]⟩) H
theorem bf:Oe X (Ug X.K):=by
 intro value slice pins s σ H x y v u Q I rx ry h hs;obtain⟨p,xs,i,z,rfl,rfl,hq,he,q⟩:=h;cases rx;obtain⟨t,rfl⟩:=ry;obtain⟨its,r,pl,hz⟩:=I.list hq;obtain⟨j,h1,h2,h3,h4,h5⟩:=Ej he;obtain⟨w,ew,rw'⟩:=r.get h2;have hl:=r.length;have hn:=Ah;have fin:EP X pins σ Q w s:=⟨z,H,I,rw',q⟩;by_cases h0:0<=i
 ·have hj:i.toNat=j:=by
   rw[seqIndex_of h0 h5]at h1;exact qaa h1
  exact item_listR pl.isList h0 (by omega) (by rw[hj];simpa using ew) fin hs
 ·have hj:(i+(its.toArray.size:Int)).toNat=j:=by
   rw[seqIndex_neg (by omega) h4]at h1;rw[v_,←hl];exact qaa h1
  exact subscriptTail_builtinR (x:=w) pl.isList.typeIs slot_list_getitem.lookup
   (wpAny_getItem_list_neg (Q:=λr s'=>r=w/\EP X pins σ Q r s') pl.isList (by omega) (by rw[v_]<;>omega) (by omega) (by rw[hj];simpa using ew) ⟨rfl,fin⟩) hs
theorem cS:Oe X (Ue X.K):=by
 intro value slice pins s σ H x y v u Q I rx ry h hs;obtain⟨p,xs,i,z,rfl,rfl,hq,he,q⟩:=h;cases rx;obtain⟨t,rfl⟩:=ry;obtain⟨its,r,pl,hz⟩:=I.tuple hq;obtain⟨j,h1,h2,h3,h4,h5⟩:=Ej he;obtain⟨w,ew,rw'⟩:=r.get h2;have hl:=r.length;have hn:=Ah;have fin:EP X pins σ Q w s:=⟨z,H,I,rw',q⟩;exact subscriptTail_builtinR (x:=w) pl.typeIs slot_tuple_getitem.lookup
  (getItem_tuple (j:=j) (Q:=λr s'=>r=w/\EP X pins σ Q r s') pl (by omega) (by omega) (by rw[v_,←hl];exact h1) (by simpa using ew) ⟨rfl,fin⟩) hs
theorem Ao:Oe X WB:=by
 intro value slice pins s σ H x y v u Q I rx ry h hs;obtain⟨z,i,c,rfl,rfl,hz,he,q⟩:=h;obtain⟨t,rfl⟩:=rx;obtain⟨t',rfl⟩:=ry;obtain⟨j,h1,h2,h3,h4,h5⟩:=Ej he;have hl:z.cps.toList.length=z.length:=by simp[Str.length]
 rw[hl]at h1 h4 h5;have hn:=Ah;exact tail_any (typeIs_str s z t) slot_str_getitem.lookup (getItem_str (c:=c) (by
  have e1:decide (i< -(2 ^ 63:Int))=false:=decide_eq_false (by omega);have e2:decide (i>=2 ^ 63)=false:=decide_eq_false (by omega);rw[e1,e2,Bool.or_false]) (by rw[h1];simpa using h2) ⟨.str ⟨#[c]⟩,H,I.tok _,⟨_,rfl⟩,q⟩) hs
def rIx(K:PySem.W.Frag):R2:=λx y H Q=>Ug K x y H Q\/Ue K x y H Q\/WB x y H Q
theorem Ik:Oe X (rIx X.K):=bf.or (cS.or Ao)
theorem Ig(its:List i_)(n j:Nat)(u:i_):qaO (·.setIfInBounds j u) { cls:=.type "list",data:=.seq its.toArray n }={ cls:=.type "list",data:=.seq (its.set j u).toArray n }:=by
 simp[qaO]
theorem Inv.lst{pins:List (h_×qa0)}{σ:St}{H:Hp}{s:l_}{p:h_}{xs:List V}(I:Inv X pins σ H s)(h:H p=some (.lst xs)):
  dI λ(its:List i_) (n:Nat)=>Vals xs its/\s.heap.get? p=some { cls:=.type "list",data:=.seq its.toArray n }/\xs.length<=x_:=by
 obtain⟨z,its,n,r,e⟩:=I.hok p _ h;exact⟨its,n,r,e,z⟩
theorem Inv.UD{pins:List (h_×qa0)}{σ:St}{H:Hp}{s:l_}{p:h_}{xs ys:List V}{its its':List i_}{n n':Nat}{f:qa0->qa0}(I:Inv X pins σ H s)(h:H p=some (.lst xs))
  (ho:s.heap.get? p=some { cls:=.type "list",data:=.seq its.toArray n }) (hf:f { cls:=.type "list",data:=.seq its.toArray n }={ cls:=.type "list",data:=.seq its'.toArray n' }) (r:Vals ys its') (hz:ys.length<=x_) (t:Nat) (ht:s.toks<=t:=by first|exact k_ _|exact qaE _|assumption|omega) :
  Inv X pins σ (upd H p (.lst ys)) { s with heap:=s.heap.update p f,toks:=t }:=by
 have e:(s.heap.update p f).get? p=some { cls:=.type "list",data:=.seq its'.toArray n' }:=by
  rw[qaw f ho (by rw[hf]<;>rfl),hf]
 refine I.write (x:=p) (e:=p) (by rw[h];trivial) (.inl Y) (λb u hb q=>(qal _ _ (Ne.symm hb)).trans q) ⟨_,e⟩ ?_;exact⟨hz,its',n',r,e⟩
def WA:V->V->V->Hp->(Hp->Prop)->Prop:=λo i v H Q=>t9 λp xs k j=>o= .ref p/\i= .int k/\H p=some (.lst xs)/\Nc xs.length k=some j/\Q (upd H p (.lst (xs.set j v)))
theorem set_list:YC X WA:=by
 intro pins s σ H o i v ov iv u Q I ro ri rv h;obtain⟨p,xs,k,j,rfl,rfl,hp,hj,q⟩:=h;cases ro;obtain⟨t,rfl⟩:=ri;obtain⟨its,n,r,ho,hz⟩:=I.lst hp;obtain⟨h1,h2,h3,h4⟩:=JE hj;have hl:=r.length;have hn:=Ah;have I':Inv X pins σ (upd H p (.lst (xs.set j v))) { s with heap:=s.heap.update p (qaO (·.setIfInBounds j u)) } :=
  I.UD hp ho (Ig its n j u) (r.set rv j) (by rw[qb0];exact hz) s.toks
 by_cases h0:0<=k
 ·have hk:k.toNat=j:=by
   rw[seqIndex_of h0 h4]at h1;exact qaa h1
  exact PySem.W.ki_setAt ho h0 (by omega) (by rw[v_,←hl];exact h4) (by rw[hk];exact⟨_,I',q⟩)
 ·have hk:(k+(its.toArray.size:Int)).toNat=j:=by
   rw[seqIndex_neg (by omega) h3]at h1;rw[v_,←hl];exact qaa h1
  exact PySem.W.ki_setBack ho (by omega) (by rw[v_,←hl];exact h3) (by omega) (by rw[hk];exact⟨_,I',q⟩)
theorem Dj(lo hi:Option Int)(n:Nat):(sliceBounds lo hi none n).1=((HT.EU n 0 lo:Nat):Int)/\(sliceBounds lo hi none n).2.1=((HT.EU n n hi:Nat):Int)/\(sliceBounds lo hi none n).2.2=1:=by
 refine⟨?_,?_,Y⟩
 ·cases lo with
  |none=>simp[sliceBounds,HT.EU]
  |some i =>
   simp only[sliceBounds,HT.EU,Option.getD_none,show(1:Int)>0 by decide,if_true];by_cases h:i<0
   ·simp only[h,if_true]<;>omega
   ·simp only[h,if_false]<;>omega
 ·cases hi with
  |none=>simp[sliceBounds,HT.EU]
  |some i =>
   simp only[sliceBounds,HT.EU,Option.getD_none,show(1:Int)>0 by decide,if_true];by_cases h:i<0
   ·simp only[h,if_true]<;>omega
   ·simp only[h,if_false]<;>omega
theorem Bf(its:List i_)(lo hi:Option Int):slicePick its.toArray lo hi none=((its.drop (HT.EU its.length 0 lo)).take (HT.EU its.length its.length hi-HT.EU its.length 0 lo)).toArray:=by
 obtain⟨h1,h2,h3⟩:=Dj lo hi its.toArray.size;unfold slicePick;rw[h1,h2,h3];simp only[sliceRange_one,pick_run,v_]<;>rfl
def abK(K:PySem.W.Frag):V->Option Int->Option Int->Hp->VK->Prop:=λx lo hi H Q=>dI λa xs=>x= .ref a/\bD K H a xs/\∀p,H p=none->Q (.ref p) (upd H p (.lst (xm xs lo hi)))
theorem yF:SlR X (abK X.K):=by
 intro pins s σ H x v vl vu lo hi sl Q I rx hs pl pu h;obtain⟨a,xs,rfl,hx,q⟩:=h;cases rx;obtain⟨its,r,ht,hz⟩:=I.list hx;have hlen:=r.length;refine⟨"list",_,slot_list_getitem.lookup,ht.isList.typeIs,?_⟩;refine wpAny_getItem_list_slice ht.isList hs pl pu .none (by simp) ?_ (by rw[v_]<;>omega);rw[Bf,←hlen];refine⟨.ref s.heap.objs.size,_,I.laid (t':=s.toks) (o:=.lst (xm xs lo hi)) (λb ob q=>j_ _ q) (k_ _) ?_,Y,q _ (I.hok.fresh (k_ _))⟩;exact⟨m_ (xS xs lo hi) hz,_,0,(r.drop (HT.EU xs.length 0 lo)).take (HT.EU xs.length xs.length hi-HT.EU xs.length 0 lo),B_ _ Y⟩
noncomputable def qS:V->Bool
 | .gE=>true
 | .bl _=>true
 | .int _=>true
 | .str _=>true
 |_=>false
noncomputable def JM:V->V->Bool
 | .gE,.gE=>true
 | .bl a,.bl b=>a==b
 | .bl a,.int b=>(if a then 1 else 0)==b
 | .int a,.bl b=>a==(if b then 1 else 0)
 | .int a,.int b=>a==b
 | .str a,.str b=>a==b
 |_,_=>false
theorem NL{A:qah}{s:l_}{y x:V}{u v:i_}(ry:RelV y u)(rx:RelV x v)(fy:qS y=true)(fx:qS x=true):SeqAt.EqAt A s u v (JM y x):=by
 cases y with
 |gE =>
  cases ry
  cases x with
  |gE=>cases rx;exact SeqAt.EqAt.same _
  |bl b=>cases rx;exact SeqAt.EqAt.none_bool b
  |int b=>obtain⟨t,rfl⟩:=rx;exact SeqAt.EqAt.none_int b t
  |str b=>obtain⟨t,rfl⟩:=rx;exact SeqAt.EqAt.none_str b t
  |_=>exact absurd (show false=true from fx) I_
 |bl a =>
  cases ry
  cases x with
  |gE=>cases rx;exact SeqAt.EqAt.bool_none a
  |bl b=>cases rx;exact SeqAt.EqAt.bool_bool a b
  |int b=>obtain⟨t,rfl⟩:=rx;exact SeqAt.EqAt.bool_int a b t
  |str b=>obtain⟨t,rfl⟩:=rx;exact SeqAt.EqAt.bool_str a b t
  |_=>exact absurd (show false=true from fx) I_
 |int a =>
  obtain⟨t',rfl⟩:=ry
  cases x with
  |gE=>cases rx;exact SeqAt.EqAt.int_none a t'
  |bl b=>cases rx;exact SeqAt.EqAt.int_bool a t' b
  |int b=>obtain⟨t,rfl⟩:=rx;exact SeqAt.EqAt.int_int a t' b t
  |str b=>obtain⟨t,rfl⟩:=rx;exact SeqAt.EqAt.int_str a t' b t
  |_=>exact absurd (show false=true from fx) I_
 |str a =>
  obtain⟨t',rfl⟩:=ry
  cases x with
  |gE=>cases rx;exact SeqAt.EqAt.str_none a t'
  |bl b=>cases rx;exact SeqAt.EqAt.str_bool a t' b
  |int b=>obtain⟨t,rfl⟩:=rx;exact SeqAt.EqAt.str_int a t' b t
  |str b=>obtain⟨t,rfl⟩:=rx;exact SeqAt.EqAt.str_str a t' b t
  |_=>exact absurd (show false=true from fx) I_
 |_=>exact absurd (show false=true from fy) I_
noncomputable def P6(x:V)(u:i_):Bool:=match u with
 | .none=>JM .gE x
 | .bool b=>JM (.bl b) x
 | .int i _=>JM (.int i) x
 | .str z _=>JM (.str z) x
 |_=>false
theorem NK{x y:V}{u:i_}(r:RelV y u)(f:qS y=true):P6 x u=JM y x:=by
 cases y with
 |gE=>cases r;rfl
 |bl b=>cases r;rfl
 |int i=>obtain⟨t,rfl⟩:=r;rfl
 |str z=>obtain⟨t,rfl⟩:=r;rfl
 |_=>exact absurd (show false=true from f) I_
theorem El{x:V}:∀{xs:List V} {us:List i_},Vals xs us->xs.all qS=true->us.any (P6 x)=xs.any λy=>JM y x
 |_,_,.nil,_=>rfl
 |y::xs,u::us,.cons r t,f=>by
  rw[List.all_cons,qae]at f;rw[qcY,qcY,NK r f.1,El t f.2]
theorem Ad{A:qah}{s:l_}{x:V}{v:i_}(rx:RelV x v)(fx:qS x=true):∀{xs:List V} {us:List i_},Vals xs us->xs.all qS=true->∀u∈us,SeqAt.EqAt A s u v (P6 x u)
 |_,_,.nil,_=>λu hu=>by cases hu
 |y::xs,u::us,.cons r t,f=>λu' hu=>by
  rw[List.all_cons,qae]at f;rcases G_.mp hu with rfl|hu
  ·rw[NK r f.1];exact NL r rx f.1 fx
  ·exact Ad rx fx t f.2 u' hu
noncomputable def Zf(x:V)(xs:List V):Bool:=xs.any λy=>JM y x
def rIn(K:PySem.W.Frag)(neg:Bool):R2:=λx y H Q=>dI λp xs=>y= .ref p/\(bD K H p xs\/fq K H p xs)/\qS x=true/\xs.all qS=true/\Q (.bl (if neg then !Zf x xs else Zf x xs)) H
theorem DE:rZ X (compareOp .NotIn) (rIn X.K true):=by
 intro pins s σ H x y v u Q I rx ry h;obtain⟨p,xs,rfl,hq,fx,fs,q⟩:=h;cases ry;rcases hq with hq|hq
 ·obtain⟨its,r,pl,hz⟩:=I.list hq;refine SeqAt.notIn_listAt (P6 x) pl.isList (λw hw=>Ad rx fx r fs w (by simpa using hw)) ⟨.bl _,H,I,Y,?_⟩;rw[show its.toArray.any (P6 x)=its.any (P6 x) by simp,El r fs];exact q
 ·obtain⟨its,r,pl,hz⟩:=I.tuple hq;refine SeqAt.notIn_tupleAt (P6 x) pl (λw hw=>Ad rx fx r fs w (by simpa using hw)) ⟨.bl _,H,I,Y,?_⟩;rw[show its.toArray.any (P6 x)=its.any (P6 x) by simp,El r fs];exact q
theorem DC:rZ X (compareOp .NotIn) (λx y H Q=>dI λi j=>x= .str i/\y= .str j/\Q (.bl (!(!(Builtin.Str.occurrences j i 0 j.length 1).isEmpty))) H):=by
 intro pins s σ H x y v u Q I rx ry h;obtain⟨i,j,rfl,rfl,q⟩:=h;obtain⟨t,rfl⟩:=rx;obtain⟨t',rfl⟩:=ry;exact notIn_str ⟨.bl _,H,I,Y,q⟩
theorem mw:mL X (.type "list") (λxs H Q=>dI λp ys=>xs=[.ref p]/\(bD X.K H p ys\/fq X.K H p ys)/\∀l,H l=none->Q (.ref l) (upd H l (.lst ys))):=by
 intro pins s σ H xs us Q I r h;obtain⟨p,ys,rfl,hq,q⟩:=h;obtain⟨u,rfl,rx⟩:=vals1 r;cases rx;have fin:∀(its:List i_),Vals ys its->ys.length<=x_->∀(h':qab) (c':Nat),(∀b o',s.heap.get? b=some o'->h'.get? b=some o') →
   h'.get? s.heap.objs.size=some { cls:=.type "list",dict:=none,data:=.seq its.toArray c',slots:= #[] }->EP X pins σ Q (.ref s.heap.objs.size) { s with heap:=h' }:=λits r' hz h' c' kp e =>
  ⟨.ref s.heap.objs.size,_,I.laid (t':=s.toks) kp (k_ _) (show cU X.prog X.w _ h' _ (.lst ys) from⟨hz,its,c',r',e⟩),rfl,q _ (I.hok.fresh (k_ _))⟩
 rcases hq with hq|hq
 ·obtain⟨its,r',pl,hz⟩:=I.list hq;have hlen:=r'.length;obtain⟨o,ho,hc,n,hd⟩:=pl.isList;exact call_list_seq p (.inl Y) ho hc hd (λh' c' kp e=>fin its r' hz h' c' kp e) (by simp only[v_]<;>omega)
 ·obtain⟨its,r',pl,hz⟩:=I.tuple hq;have hlen:=r'.length;obtain⟨o,ho,hc,n,hd⟩:=pl;exact call_list_seq p (.inr Y) ho hc hd (λh' c' kp e=>fin its r' hz h' c' kp e) (by simp only[v_]<;>omega)
theorem kJ:mL X (.type "tuple") (λxs H Q=>dI λp ys=>xs=[.ref p]/\((bD X.K H p ys/\∀l,H l=none->Q (.ref l) (upd H l (.tup ys)))\/(fq X.K H p ys/\Q (.ref p) H))):=by
 intro pins s σ H xs us Q I r h;obtain⟨p,ys,rfl,h⟩:=h;obtain⟨u,rfl,rx⟩:=vals1 r;cases rx;rcases h with⟨hq,q⟩|⟨hq,q⟩
 ·obtain⟨its,r',pl,hz⟩:=I.list hq;have hlen:=r'.length;refine call_tuple_list pl.isList (λh' kp=>?_) (by simp only[v_]<;>omega);have I1:Inv X pins σ H { s with heap:=h' }:=I.kept (t':=s.toks) kp;have I2:Inv X pins σ (upd H h'.objs.size (.tup ys)) { s with heap:=h'.push { cls:=.type "tuple",data:=.seq its.toArray } } :=
   I1.laid (t':=s.toks) (λb o e=>j_ _ e) (k_ _) (show cU X.prog X.w _ _ _ (.tup ys) from⟨hz,its,r',IsTup.new _ _⟩)
  exact⟨.ref h'.objs.size,_,I2,Y,q _ (I1.hok.fresh (k_ _))⟩
 ·obtain⟨its,r',pl,hz⟩:=I.tuple hq;exact call_tuple_same pl ⟨.ref p,H,I,Y,q⟩
def tyV(K:PySem.W.Frag)(T:String)(x:V)(H:Hp):Prop:=match x with
 | .str _=>T= "str"
 | .int _=>T= "int"
 | .ref p=>(T= "list" /\∃xs,bD K H p xs)\/(T= "tuple" /\∃o,K.lookup p=some o/\o.cls= .type "tuple" /\o.dict=none) ∨
   (T= "dict" /\((∃kvs,H p=some (.dK kvs))\/∃kvs,H p=some (.dT kvs)))\/(T= "set" /\dI λS n=>H p=some (.set S n))
 |_=>False
theorem Hl{pins:List (h_×qa0)}{σ:St}{H:Hp}{s:l_}{T:String}{x:V}{v:i_}(I:Inv X pins σ H s)(r:RelV x v)(ty:tyV X.K T x H):
  s.TypeIs v T/\∀a,v= .ref a->∃ob,s.heap.get? a=some ob/\ob.dict=none:=by
 cases x with
 |str z =>
  obtain⟨t,rfl⟩:=r;cases (show T= "str" from ty)
  exact⟨typeIs_str s z t,λ_ e=>nomatch e⟩
 |int i =>
  obtain⟨t,rfl⟩:=r;cases (show T= "int" from ty)
  exact⟨typeIs_int s i t,λ_ e=>nomatch e⟩
 |ref p =>
  cases r;rcases ty with⟨rfl,xs,hq⟩|⟨rfl,o,hk,hc,hd⟩|⟨rfl,hk⟩|⟨rfl,S,n,hk⟩
  ·obtain⟨its,_,pl,_⟩:=I.list hq;refine⟨pl.isList.typeIs,λa e=>?_⟩;cases e;obtain⟨o,n,e,c,hd,_⟩:=pl;exact⟨o,e,hd⟩
  ·refine⟨⟨o,I.qz p o hk,hc⟩,λa e=>?_⟩;cases e;exact⟨o,I.qz _ o hk,hd⟩
  ·have z:∃o,s.heap.get? p=some o/\o.ExactDict:=by
    rcases hk with⟨kvs,hk⟩|⟨kvs,hk⟩
    ·obtain⟨_,_,_,_,o,_,_,e,ex,_⟩:=I.hok p _ hk;exact⟨o,e,ex⟩
    ·obtain⟨_,_,_,_,o,_,_,e,ex,_⟩:=I.hok p _ hk;exact⟨o,e,ex⟩
   obtain⟨o,e,ex⟩:=z;refine⟨⟨o,e,ex.1⟩,λa e2=>?_⟩;cases e2;exact⟨o,e,ex.2.1⟩
  ·obtain⟨o,_,_,_,e,ex,_⟩:=I.hok p _ hk;refine⟨⟨o,e,ex.1⟩,λa e2=>?_⟩;cases e2;exact⟨o,e,ex.2.1⟩
 |_=>exact qaN ty
def abx(K:PySem.W.Frag)(T:String)(r:V->List V->Hp->VK->Prop)(to:TE):TE:=λσ H Q=>to σ H λx H1=>tyV K T x H1/\r x [] H1 Q
def tBM(K:PySem.W.Frag)(T:String)(r:V->List V->Hp->VK->Prop)(to:TE)(t:TA):TE:=λσ H Q=>to σ H λx H1=>tyV K T x H1/\t σ H1 λxs H2=>r x xs H2 Q
variable{o e:Expr}{es:List Expr}{to:TE}{t:TA}{name:r_}{apos cpos:qcq}{T id:String}{r:V->List V->Hp->VK->Prop}
theorem wG (pa:PlainAttrs T)(slot:Slot T name id)(hty:typeOf (.builtin id)=pure (.type "method_descriptor"))(hm:YH X id r)(ho:PE X o to)
  (hbase:attributeBase o name X.env (eval o X.env)=eval o X.env:=by rfl) (hline:(apos.endLine==cpos.line)=true:=by rfl):PE X (.Call (.Attribute o name apos) [] [] cpos) (abx X.K T r to):=by
 intro pins s σ H Q I h;refine wpAny_Call_method0_late hbase hline (gg (ho pins s σ H _ I h) λv s1 ⟨x,H1,I1,r1,ty,q1⟩=>?_);obtain⟨h1,h2⟩:=Hl I1 r1 ty;exact⟨T,id,pa,slot,hty,h1,h2,qbW Y (PySem.evalArgs_none (hm pins s1 σ H1 x [] v [] Q I1 r1 .nil q1))⟩
theorem mK (pa:PlainAttrs T)(slot:Slot T name id)(hty:typeOf (.builtin id)=pure (.type "method_descriptor"))(hm:YH X id r)(ho:PE X o to)(ha:PA X (e::es) t)
  (hbase:attributeBase o name X.env (eval o X.env)=eval o X.env:=by rfl)
  (hfew:((backTo cpos (qac (e::es) X.env)).all (λx=>!x.1)&&(backToKw cpos (keywordEach [] X.env)).all (λx=>x.1.isSome)
   && decide ((e::es).length+([]:List Keyword).length+(if([]:List Keyword).isEmpty then 0 else 1)<30))=true:=by rfl)
  (hline:(apos.endLine==cpos.line)=true:=by rfl) (hs:qac (e::es) X.env=(false,eval e X.env)::qac es X.env:=by rfl) (hplain:(backTo cpos (qac es X.env)).any (·.1)=false:=by rfl) :
  PE X (.Call (.Attribute o name apos) (e::es) [] cpos) (tBM X.K T r to t):=by
 intro pins s σ H Q I h;refine wpAny_Call_method_late hbase hfew hline Y (gg (ho pins s σ H _ I h) λv s1 ⟨x,H1,I1,r1,ty,q1⟩=>?_);obtain⟨h1,h2⟩:=Hl I1 r1 ty;refine⟨T,id,pa,slot,hty,h1,h2,?_⟩;have hA:=ha cpos pins s1 σ H1 _ I1 q1;rw[hs]at hA ⊢;refine qbW (by show(false||(backTo cpos (qac es X.env)).any (·.1))=false;rw[hplain]<;>rfl) (qce ?_);exact gg hA λus s2 ⟨vs,H2,I2,r2,q2⟩=>hm pins s2 σ H2 x vs v us Q I2 r1 r2 q2
end
end
section
def VB(X:Cx)(id:String)(r:V->List V->Hp->VK->Prop):Prop :=
 ∀(pins:List (h_×qa0)) (s:l_) (σ:St) (H:Hp) (x:V) (xs:List V) (v:i_) (us:List i_) (Q:VK),Inv X pins σ H s->RelV x v->Vals xs us->r x xs H Q →
  D_ (model X.prog X.w) X.A (call (.builtin id) (v::us)) (EP X pins σ Q) X.xe s
theorem Vals.one:∀{x:V} {us:List i_},Vals [x] us->∃u,us=[u]/\RelV x u
 |_,_,.cons r .nil=>⟨_,rfl,r⟩
theorem Vals.two:∀{x y:V} {us:List i_},Vals [x,y] us->dI λu v=>us=[u,v]/\RelV x u/\RelV y v
 |_,_,_,.cons r (.cons q .nil)=>⟨_,_,rfl,r,q⟩
theorem Vals.zero:∀{us:List i_},Vals [] us->us=[]
 |_,.nil=>rfl
theorem Vals.dropLast{xs:List V}{us:List i_}(h:Vals xs us):Vals xs.dropLast us.dropLast:=by
 induction h with
 |nil=>exact .nil
 |cons r t ih =>
  cases t with
  |nil=>exact .nil
  |cons q t'=>exact .cons r ih
theorem Vals.reverse{xs:List V}{us:List i_}(h:Vals xs us):Vals xs.reverse us.reverse:=by
 induction h with
 |nil=>exact .nil
 |cons r t ih=>rw[qay,qay];exact Vals.append ih (.cons r .nil)
theorem Vals.rep{xs:List V}{us:List i_}(h:Vals xs us):∀k:Nat,Vals (P_ k xs).flatten (P_ k us).flatten
 | 0=>.nil
 |k+1=>by
  rw[qax,qax,qaS,qaS];exact Vals.append h (Vals.rep h k)
theorem Iw{α:Type}(l:List α):l.eraseIdx (l.length-1)=l.dropLast:=by
 induction l with
 |nil=>rfl
 |cons a r ih =>
  cases r with
  |nil=>rfl
  |cons b r =>
   have e:(a::b::r).length-1=((b::r).length-1)+1:=by
    have h1:(a::b::r).length=r.length+2:=rfl;have h2:(b::r).length=r.length+1:=rfl;omega
   rw[e,List.eraseIdx_cons_succ,ih]
   all_goals rfl
theorem foldl_rep(its:List i_):∀(k:Nat) (acc:List i_),
  List.foldl (λx1 x2=>x1++x2) acc.toArray (P_ k its.toArray)=(acc++(P_ k its).flatten).toArray
 | 0,acc=>by simp
 |k+1,acc=>by
  have e:acc.toArray++its.toArray=(acc++its).toArray:=by simp
  have e2:(acc++its)++(P_ k its).flatten=acc++(P_ (k+1) its).flatten:=by
   rw[qax,qaS,qaH]
  rw[←e2,←foldl_rep its k (acc++its),←e,qax,qcz]
section
variable{X:Cx}{pins:List (h_×qa0)}{σ:St}{H:Hp}{s:l_}{l b:h_}{xs ys zs:List V}
theorem Inv.K8{its its':List i_}{n:Nat}{f:Array i_->Array i_}{t':Nat}(I:Inv X pins σ H s)(hH:H l=some (.lst xs))
  (e:s.heap.get? l=some { cls:=.type "list",data:=.seq its.toArray n }) (hf:f its.toArray=its'.toArray) (hv:Vals ys its') (hz:ys.length<=x_) (ht:s.toks<=t':=by first|exact k_ _|exact qaE _|assumption|omega) :
  Inv X pins σ (upd H l (.lst ys)) { s with heap:=s.heap.update l (qaO f),toks:=t' }:=by
 have q:=PySem.IsL.update e f;rw[hf]at q;refine I.write (x:=l) (e:=l) (by rw[hH];exact trivial) (.inl Y) (λb' u hb hu=>(qal s.heap (qaO f) (Ne.symm hb)).trans hu) ⟨_,q⟩ ?_;exact⟨hz,its',_,hv,q⟩
theorem Inv.UG{its:List i_}{t':Nat}(I:Inv X pins σ H s)(hv:Vals ys its)(hz:ys.length<=x_)(ht:s.toks<=t':=by first|exact k_ _|exact qaE _|assumption|omega):
  Inv X pins σ (upd H s.heap.objs.size (.lst ys)) { s with heap:=s.heap.push { cls:=.type "list",data:=.seq its.toArray },toks:=t' } :=
 I.laid (λ_ _ q=>j_ _ q) (k_ _) ⟨hz,its,0,hv,B_ _ rfl⟩
theorem Inv.fresh(I:Inv X pins σ H s):H s.heap.objs.size=none:=I.hok.fresh (k_ _)
theorem Inv.Af(I:Inv X pins σ H s)(hH:H l=some (.lst xs)):xs.length<=x_/\dI λ(its:List i_) (n:Nat)=>Vals xs its/\xs.length=its.length/\s.heap.get? l=some { cls:=.type "list",data:=.seq its.toArray n }:=by
 obtain⟨z,its,n,r,e⟩:=I.hok l _ hH;exact⟨z,its,n,r,r.length,e⟩
theorem zZ{n:Nat}(h:n<=x_):qaZ n=false:=by
 unfold qaZ;exact decide_eq_false (by omega)
end
section
variable{X:Cx}
def OY:V->List V->Hp->VK->Prop:=λx vs H Q=>oS λl xs y=>x= .ref l/\vs=[y]/\H l=some (.lst xs)/\xs.length<x_/\Q .gE (upd H l (.lst (xs++[y])))
theorem gm:VB X "list.append" OY:=by
 intro pins s σ H x vs v us Q I rx rv h;obtain⟨l,xs,y,rfl,rfl,hH,hz,q⟩:=h;cases rx;obtain⟨u,rfl,ru⟩:=rv.one;obtain⟨z,its,n,r,hl,e⟩:=I.Af hH;refine qcf F.slot_list_append ⟨_,e,Y⟩ F.entry_list_append (F.args_list_append_2 _ _) (PySem.list_append l its.toArray n u (by rw[v_];omega)) ⟨e,?_⟩;refine⟨.gE,_,I.K8 (its':=its++[u]) hH e (by simp) (r.append (.cons ru .nil)) ?_,Y,q⟩;rw[o_,qa3];omega
def OX:V->List V->Hp->VK->Prop:=λx vs H Q=>t9 λl b xs zs=>x= .ref l/\vs=[.ref b]/\H l=some (.lst xs)/\H b=some (.lst zs)/\xs.length+zs.length<=x_/\Q .gE (upd H l (.lst (xs++zs)))
theorem K0:VB X "list.extend" OX:=by
 intro pins s σ H x vs v us Q I rx rv h;obtain⟨l,b,xs,zs,rfl,rfl,hH,hB,hz,q⟩:=h;cases rx;obtain⟨u,rfl,ru⟩:=rv.one;cases ru;obtain⟨z,its,n,r,hl,e⟩:=I.Af hH;obtain⟨z2,its2,n2,r2,hl2,e2⟩:=I.Af hB;have hsz:its.toArray.size+its2.toArray.size<=x_:=by rw[v_,v_];omega
 have Ge:¬(!its.toArray.isEmpty&&qaZ (its.toArray.size+its2.toArray.size))=true:=by
  rw[zZ hsz,qcg];exact I_
 refine qcf F.slot_list_extend ⟨_,e,Y⟩ F.entry_list_extend (F.args_list_extend_2 _ _)
  (AutoSeq1.list_extend_list_list_0 l its.toArray n b its2.toArray n2 Ge (by rw[v_];omega) (by omega)) ⟨e,e2,?_⟩
 refine⟨.gE,_,I.K8 (its':=its++its2) hH e (by simp) (r.append r2) ?_,Y,q⟩;rw[o_];omega
def abM:V->List V->Hp->VK->Prop:=λx vs H Q=>oS λl xs y=>x= .ref l/\vs=[]/\H l=some (.lst xs)/\xs[xs.length-1]? =some y/\Q y (upd H l (.lst xs.dropLast))
theorem HY:VB X "list.pop" abM:=by
 intro pins s σ H x vs v us Q I rx rv h;obtain⟨l,xs,y,rfl,rfl,hH,hy,q⟩:=h;cases rx;have hus:=rv.zero;subst hus;obtain⟨z,its,n,r,hl,e⟩:=I.Af hH;obtain⟨u,hu,ru⟩:=r.get hy;have hy':its.toArray[its.toArray.size-1]? =some u:=by
  show its.toArray[its.length-1]? =some u;rw[←V_,←hl];exact hu
 refine qcf F.slot_list_pop ⟨_,e,Y⟩ F.entry_list_pop (F.args_list_pop_1 _) (MeetsSeq.list_pop_last l its.toArray n u hy' (by rw[v_];omega)) ⟨e,?_⟩;refine⟨y,_,I.K8 (its':=its.dropLast) hH e ?_ r.dropLast ?_,ru,q⟩
 ·show its.toArray.eraseIdxIfInBounds (its.toArray.size-1)=its.dropLast.toArray;rw[v_,List.eraseIdxIfInBounds_toArray,Iw]
 ·rw[List.length_dropLast];omega
def MI:V->List V->Hp->VK->Prop:=λx vs H Q=>dI λl xs=>x= .ref l/\vs=[]/\H l=some (.lst xs)/\Q .gE (upd H l (.lst xs.reverse))
theorem uN:VB X "list.reverse" MI:=by
 intro pins s σ H x vs v us Q I rx rv h;obtain⟨l,xs,rfl,rfl,hH,q⟩:=h;cases rx;have hus:=rv.zero;subst hus;obtain⟨z,its,n,r,hl,e⟩:=I.Af hH;refine qcf F.slot_list_reverse ⟨_,e,Y⟩ F.entry_list_reverse (F.args_list_reverse_1 _) (AutoSeq1.list_reverse_list_0 l its.toArray n (by rw[v_];omega)) ⟨e,?_⟩;refine⟨.gE,_,I.K8 (its':=its.reverse) hH e (by simp) r.reverse ?_,Y,q⟩;rw[List.length_reverse];omega
def abN:R2:=λx y H Q=>t9 λl b xs zs=>x= .ref l/\y= .ref b/\H l=some (.lst xs)/\H b=some (.lst zs)/\xs.length+zs.length<=x_/\∀p,H p=none->Q (.ref p) (upd H p (.lst (xs++zs)))
theorem DF:rZ X (binaryOp .Add) abN:=by
 intro pins s σ H x y v u Q I rx ry h;obtain⟨l,b,xs,zs,rfl,rfl,hH,hB,hz,q⟩:=h;cases rx;cases ry;obtain⟨z,its,n,r,hl,e⟩:=I.Af hH;obtain⟨z2,its2,n2,r2,hl2,e2⟩:=I.Af hB;refine PySem.P.add_list e e2 ?_ (by rw[v_,v_];omega);have ea:its.toArray++its2.toArray=(its++its2).toArray:=by simp
 rw[ea];exact⟨.ref _,_,I.UG (t':=s.toks) (r.append r2) (by rw[o_];omega),Y,q _ I.fresh⟩
def abL:R2:=λx y H Q=>oS λl k xs=>x= .ref l/\y= .int k/\H l=some (.lst xs)/\ -(2 ^ 63)<=k/\k<2 ^ 63/\xs.length*k.toNat<=x_ ∧
 ∀p,H p=none->Q (.ref p) (upd H p (.lst (P_ k.toNat xs).flatten))
theorem len_rep{α:Type}(xs:List α)(k:Nat):(P_ k xs).flatten.length=k*xs.length:=by
 induction k with
 |zero=>simp
 |succ k ih=>rw[qax,qaS,o_,ih,Nat.succ_mul,Nat.add_comm]
theorem Uu:rZ X (binaryOp .Mult) abL:=by
 intro pins s σ H x y v u Q I rx ry h;obtain⟨l,k,xs,rfl,rfl,hH,h1,h2,hz,q⟩:=h;cases rx;obtain⟨t,rfl⟩:=ry;obtain⟨z,its,n,r,hl,e⟩:=I.Af hH;have hlen:its.toArray.size*k.toNat<=x_:=by rw[v_,←hl];exact hz
 have hcap:¬its.toArray.size*k.toNat>(2 ^ 63-1) / 8:=by
  have:(x_:Nat)<=(2 ^ 63-1) / 8:=by decide
  omega
 have hfit:¬(!Builtin.List.listFitsIndex k)=true:=by
  rw[fitsIndex_both h1 h2];exact I_
 have Ge:¬qaZ (its.toArray.size*k.toNat)=true:=by
  rw[zZ hlen];exact I_
 have hnew:List.foldl (λx1 x2=>x1++x2) #[] (P_ (if its.toArray.isEmpty=true then 0 else k.toNat) its.toArray)=(P_ k.toNat its).flatten.toArray:=by
  have f0:∀m:Nat,List.foldl (λx1 x2=>x1++x2) #[] (P_ m its.toArray)=(P_ m its).flatten.toArray:=λm=>by
   have:=foldl_rep its m [];rw[List.nil_append]at this;exact this
  rw[f0]
  cases its with
  |nil=>simp
  |cons a r'=>rw[if_neg (by simp)]
 refine wpAny_binaryOp_repeat_ref (T:= "list") (U:= "int") (by decide) ⟨_,e,Y⟩ (λs'=>typeIs_int s' k t) noFill_list_mul F.fills_int_mul F.slot_int_rmul repeat_list F.slot_int_index.lookup
  (qcf F.slot_int_rmul (typeIs_int s k t) F.entry_int_rmul (F.args_int_rmul_2 _ _) (int___rmul___int_list k t l its.toArray n)
   ⟨e,rfl,⟨_,e,rfl⟩,qcf F.slot_list_mul ⟨_,e,rfl⟩ F.entry_list_mul (F.args_list_mul_2 _ _) (AutoListH.list___mul___list_int_3 l its.toArray n k t hfit hcap Ge) ⟨e,?_⟩⟩)
 rw[hnew];exact⟨.ref _,_,I.UG (t':=s.toks) (r.rep k.toNat) (by rw[len_rep,Nat.mul_comm];exact hz),Y,q _ I.fresh⟩
end
section
variable{prog:A_}{w:U_}{A:qah}{E:i_->l_->Prop}{s:l_}
end
section
variable{X:Cx}
end
end
section
section
variable{κ:Type}[DecidableEq κ]
noncomputable def iL(kvs:List (κ×V))(k:κ):Option V:=(kvs.find? λkv=>decide (kv.1=k)).map (·.2)
noncomputable def putK(kvs:List (κ×V))(k:κ)(v:V):List (κ×V) :=
 if(kvs.any λkv=>decide (kv.1=k))=true then kvs.map (λkv=>if kv.1=k then(kv.1,v)else kv)else kvs++[(k,v)]
theorem eE{p:κ×V}{r:List (κ×V)}{k:κ}(e:p.1=k):iL (p::r) k=some p.2:=by simp[iL,qb1,e]
theorem eF{p:κ×V}{r:List (κ×V)}{k:κ}(e:¬p.1=k):iL (p::r) k=iL r k:=by simp[iL,qb1,e]
theorem se(k:κ):∀kvs:List (κ×V),(kvs.any λkv=>decide (kv.1=k))=(iL kvs k).isSome
 |[]=>rfl
 |p::r=>by
  rw[qcY];by_cases e:p.1=k
  ·simp only[eE e,decide_eq_true e,Bool.true_or,Option.isSome_some]
  ·rw[eF e,decide_eq_false e,Bool.false_or];exact se k r
theorem E6(k j:κ)(y:V):∀kvs:List (κ×V),iL (kvs.map λkv=>if kv.1=k then(kv.1,y)else kv) j=(iL kvs j).map λx=>if j=k then y else x
 |[]=>rfl
 |p::r=>by
  have ih:=E6 k j y r;rw[qaK];by_cases h:p.1=k
  ·rw[if_pos h];by_cases e:p.1=j
   ·rw[eE (p:=(p.1,y)) e,eE e,Option.map_some,if_pos (e.symm.trans h)]
   ·rw[eF (p:=(p.1,y)) e,eF e,ih]
  ·rw[if_neg h];by_cases e:p.1=j
   ·rw[eE (p:=p) e,eE e,Option.map_some,if_neg (λz=>h (e.trans z))]
   ·rw[eF (p:=p) e,eF e,ih]
theorem B4(k j:κ)(y:V):∀kvs:List (κ×V),iL kvs k=none->iL (kvs++[(k,y)]) j=if j=k then some y else iL kvs j
 |[],_=>by
  by_cases e:k=j
  ·rw[if_pos e.symm];exact eE (p:=(k,y)) e
  ·rw[if_neg (λz=>e z.symm)];exact eF (p:=(k,y)) e
 |p::r,hn=>by
  rw[List.cons_append];have hk:¬p.1=k:=λz=>by rw[eE z]at hn;cases hn
  rw[eF hk]at hn;have ih:=B4 k j y r hn;by_cases e:p.1=j
  ·rw[eE e,eE e,if_neg (λz=>hk (e.trans z))]
  ·rw[eF e,eF e,ih]
theorem r9(kvs:List (κ×V))(k j:κ)(y:V):iL (putK kvs k y) j=if j=k then some y else iL kvs j:=by
 unfold putK;by_cases a:(kvs.any λkv=>decide (kv.1=k))=true
 ·rw[if_pos a,E6];rw[se]at a;by_cases e:j=k
  ·obtain⟨x,hx⟩:=qbF.mp a;rw[if_pos e,e,hx,Option.map_some,if_pos rfl]
  ·rw[if_neg e]
   cases iL kvs j with
   |none=>rfl
   |some x=>rw[Option.map_some,if_neg e]
 ·rw[if_neg a];refine B4 k j y kvs ?_;rw[se]at a
  cases q:iL kvs k with
  |none=>rfl
  |some x=>rw[q]at a;exact(a Y).elim
theorem nT(kvs:List (κ×V))(k:κ)(v:V):(putK kvs k v).length<=kvs.length+1:=by
 unfold putK;split
 ·rw[g_];omega
 ·rw[o_,M_,qbi];omega
theorem MJ{kvs:List (κ×V)}{k:κ}(v:V)(h:iL kvs k=none):putK kvs k v=kvs++[(k,v)]:=by
 unfold putK;rw[se,h];exact if_neg (by decide)
theorem rK.oX{o:Option V}{u:Option i_}(r:rK o u):o.isSome=u.isSome:=by
 cases o with
 |none=>cases u with
  |none=>rfl
  |some _=>exact(show False from r).elim
 |some _=>cases u with
  |none=>exact(show False from r).elim
  |some _=>rfl
theorem KV.val{kvs:List (κ×V)}{vs:List (κ×i_)}(r:KV kvs vs)(k:κ):rK (iL kvs k) (valueAt vs k):=by
 unfold KV at r
 induction r with
 |nil=>exact True.intro
 | @cons p q ps qs h t ih =>
  obtain⟨h1,h2⟩:=h;by_cases e:p.1=k
  ·have e':q.1=k:=h1.symm.trans e;have b:valueAt (q::qs) k=some q.2:=by simp[valueAt,qb1,e']
   rw[eE e,b];exact h2
  ·have e':¬q.1=k:=λz=>e (h1.trans z);have b:valueAt (q::qs) k=valueAt qs k:=by simp[valueAt,qb1,e']
   rw[eF e,b];exact ih
theorem KV.any{kvs:List (κ×V)}{vs:List (κ×i_)}(r:KV kvs vs)(k:κ):(kvs.any λkv=>decide (kv.1=k))=vs.any λkv=>decide (kv.1=k):=by
 unfold KV at r
 induction r with
 |nil=>rfl
 |cons h t ih=>rw[qcY,qcY,ih,h.1]
theorem KV.repl{kvs:List (κ×V)}{vs:List (κ×i_)}(r:KV kvs vs)(k:κ){y:V}{u:i_}(ry:RelV y u):
  KV (kvs.map λkv=>if kv.1=k then(kv.1,y)else kv) (vs.map λkv=>if kv.1=k then(kv.1,u)else kv):=by
 unfold KV at r ⊢
 induction r with
 |nil=>exact .nil
 | @cons p q ps qs h t ih =>
  rw[qaK,qaK];refine .cons ?_ ih;obtain⟨h1,h2⟩:=h;by_cases e:p.1=k
  ·rw[if_pos e,if_pos (h1.symm.trans e)];exact⟨h1,ry⟩
  ·rw[if_neg e,if_neg (λz=>e (h1.trans z))];exact⟨h1,h2⟩
theorem KV.put{kvs:List (κ×V)}{vs:List (κ×i_)}(r:KV kvs vs)(k:κ){y:V}{u:i_}(ry:RelV y u):KV (putK kvs k y) (stored vs k u):=by
 unfold putK stored;rw[r.any k];by_cases e:(vs.any λkv=>decide (kv.1=k))=true
 ·rw[if_pos e,if_pos e];exact r.repl k ry
 ·rw[if_neg e,if_neg e];exact Paired.snoc r ⟨Y,ry⟩
theorem KV.length{kvs:List (κ×V)}{vs:List (κ×i_)}(r:KV kvs vs):kvs.length=vs.length:=Paired.length r
end
theorem An{P:A_}{w:U_}{k:Key}{u:i_}(r:RelV (kV k) u):(jr P w).is k u=true:=by
 cases k with
 |inl i=>obtain⟨t,e⟩:=(show ∃t,u=Value.int i t from r);subst e;exact F5 P w i t
 |inr x=>obtain⟨t,e⟩:=(show ∃t,u=Value.str x t from r);subst e;exact sL P w x t
theorem Ct{P:A_}{w:U_}:∀{ks:List Key} {us:List i_},Vals (ks.map kV) us->ItemsAre (jr P w) ks us
 |[],_,r=>by rw[List.map_nil]at r;cases r;exact .nil
 |k::ks,_,r=>by
  rw[qaK]at r
  cases r with
  |cons h t=>exact .cons (An h) (Ct t)
noncomputable abbrev KT(H:Hp):List (List Key×V)->List (List Key×h_×i_)->Prop:=Paired λp q=>p.1=q.1/\H q.2.1=some (.tup (p.1.map kV))/\RelV p.2 q.2.2
theorem KT.val{H:Hp}{kvs:List (List Key×V)}{xs:List (List Key×h_×i_)}(r:KT H kvs xs)(k:List Key):rK (iL kvs k) ((atKey xs k).map (·.2)):=by
 induction r with
 |nil=>exact True.intro
 | @cons p q ps qs h t ih =>
  obtain⟨h1,_,h2⟩:=h;by_cases e:p.1=k
  ·have e':q.1=k:=h1.symm.trans e;have b:atKey (q::qs) k=some q.2:=by simp[atKey,qb1,e']
   rw[eE e,b];exact h2
  ·have e':¬q.1=k:=λz=>e (h1.trans z);have b:atKey (q::qs) k=atKey qs k:=by simp[atKey,qb1,e']
   rw[eF e,b];exact ih
theorem KT.repl{H:Hp}{kvs:List (List Key×V)}{xs:List (List Key×h_×i_)}(r:KT H kvs xs)(k:List Key){y:V}{u:i_}(ry:RelV y u):
  KT H (kvs.map λkv=>if kv.1=k then(kv.1,y)else kv) (xs.map (putAt k u)):=by
 induction r with
 |nil=>exact .nil
 | @cons p q ps qs h t ih =>
  rw[qaK,qaK];refine .cons ?_ ih;obtain⟨h1,h2,h3⟩:=h;unfold putAt;by_cases e:p.1=k
  ·rw[if_pos e,if_pos (h1.symm.trans e)];exact⟨h1,h2,ry⟩
  ·rw[if_neg e,if_neg (λz=>e (h1.trans z))];exact⟨h1,h2,h3⟩
theorem KT.put{H:Hp}{kvs:List (List Key×V)}{xs:List (List Key×h_×i_)}(r:KT H kvs xs)(k:List Key){b:h_}{y:V}{u:i_}(hb:H b=some (.tup (k.map kV)))(ry:RelV y u):
  KT H (putK kvs k y) (storedH xs k b u):=by
 have e:(kvs.any λkv=>decide (kv.1=k))=(atKey xs k).isSome:=by
  rw[se,(r.val k).oX,Option.isSome_map]
 unfold putK storedH;rw[e];by_cases q:(atKey xs k).isSome=true
 ·rw[if_pos q,if_pos q];exact r.repl k ry
 ·rw[if_neg q,if_neg q];exact Paired.snoc r ⟨Y,hb,ry⟩
theorem KT.keeps{H H':Hp}{kvs:List (List Key×V)}{xs:List (List Key×h_×i_)}(r:KT H kvs xs)(ht:∀b ys,H b=some (.tup ys)->H' b=some (.tup ys)):KT H' kvs xs :=
 Paired.oO r λ_ _ z=>⟨z.1,ht _ _ z.2.1,z.2.2⟩
section
variable{P:A_}{w:U_}{H:Hp}{h:qab}{a:h_}
theorem QF{u:HO}(ok:qY P w H h)(e:Rd H a u):cU P w H h a u:=e.ok ok
theorem CD{kvs:List (Key×V)}(ok:qY P w H h)(e:Rd H a (.dK kvs)):kvs.length<=x_/\(a==sysModules)=false/\∃vs,KV kvs vs/\h.DictOf (jr P w) a vs :=
 show cU P w H h a (.dK kvs) from QF ok e
theorem Yh{kvs:List (Key×V)}(ok:qY P w H h)(e:H a=some (.dK kvs)):kvs.length<=x_/\(a==sysModules)=false/\∃vs,KV kvs vs/\h.DictOf (jr P w) a vs:=CD ok (.inl e)
theorem Al{ks:List Key}(ok:qY P w H h)(e:H a=some (.tup (ks.map kV))):(tupleKind (jr P w)).is h ks a:=by
 obtain⟨_,its,r,o,h1,h2,n,h3⟩:=(show cU P w H h a (.tup (ks.map kV)) from ok a _ e);exact⟨o,its.toArray,n,h1,h2,h3,by simpa using Ct r⟩
theorem Gs{kvs:List (List Key×V)}(ok:qY P w H h)(e:Rd H a (.dT kvs)):kvs.length<=x_/\(a==sysModules)=false ∧
  ∃xs,KT H kvs xs/\h.DictOfH (tupleKind (jr P w)) a xs:=by
 obtain⟨z,y,xs,r,o,es,ep,h1,h2,h3,h4,h5⟩:=(show cU P w H h a (.dT kvs) from QF ok e);refine⟨z,y,xs,r,o,es,ep,h1,h2,h3,h4,λx hx=>?_,h5⟩;have all:∀{l:List (List Key×V)} {m:List (List Key×h_×i_)},KT H l m->∀x∈m,(tupleKind (jr P w)).is h x.1 x.2.1:=by
  intro l m q
  induction q with
  |nil=>intro x hx;exact nomatch hx
  | @cons p q ps qs hq t ih =>
   intro x hx;rcases G_.mp hx with e|hx
   ·subst e;exact Al ok (by rw[←hq.1];exact hq.2.1)
   ·exact ih x hx
 exact all r x hx
theorem Yg{kvs:List (List Key×V)}(ok:qY P w H h)(e:H a=some (.dT kvs)):kvs.length<=x_/\(a==sysModules)=false ∧
  ∃xs,KT H kvs xs/\h.DictOfH (tupleKind (jr P w)) a xs:=Gs ok (.inl e)
end
def uc(H:Hp)(a:h_)(y:V)(r:Option V):Prop :=
 (dI λkvs k=>Rd H a (.dK kvs)/\y=kV k/\r=iL kvs k)\/oS λkvs k b=>Rd H a (.dT kvs)/\y= .ref b/\H b=some (.tup (k.map kV))/\r=iL kvs k
def BW(H:Hp)(a:h_)(y v:V)(H':Hp):Prop :=
 (dI λkvs k=>H a=some (.dK kvs)/\y=kV k/\kvs.length<x_/\H'=upd H a (.dK (putK kvs k v))) ∨
 oS λkvs k b=>H a=some (.dT kvs)/\y= .ref b/\H b=some (.tup (k.map kV))/\kvs.length<x_/\H'=upd H a (.dT (putK kvs k v))
theorem uc.k{H:Hp}{a:h_}{kvs:List (Key×V)}{k:Key}(e:H a=some (.dK kvs)):uc H a (kV k) (iL kvs k):=.inl ⟨kvs,k,.inl e,rfl,rfl⟩
theorem uc.t{H:Hp}{a b:h_}{kvs:List (List Key×V)}{k:List Key}(e:H a=some (.dT kvs))(eb:H b=some (.tup (k.map kV))):uc H a (.ref b) (iL kvs k):=.inr ⟨kvs,k,b,.inl e,rfl,eb,rfl⟩
theorem BW.k{H:Hp}{a:h_}{kvs:List (Key×V)}{k:Key}{v:V}(e:H a=some (.dK kvs))(hl:kvs.length<x_):BW H a (kV k) v (upd H a (.dK (putK kvs k v))):=.inl ⟨kvs,k,e,rfl,hl,rfl⟩
theorem BW.t{H:Hp}{a b:h_}{kvs:List (List Key×V)}{k:List Key}{v:V}(e:H a=some (.dT kvs))(eb:H b=some (.tup (k.map kV)))(hl:kvs.length<x_):
  BW H a (.ref b) v (upd H a (.dT (putK kvs k v))):=.inr ⟨kvs,k,b,e,rfl,eb,hl,rfl⟩
section
variable{X:Cx}{pins:List (h_×qa0)}{σ:St}{H:Hp}{s:l_}{a:h_}{y v:V}{u r:i_}{o:Option V}{A:qah}{E:i_->l_->Prop}
theorem Inv.big(I:Inv X pins σ H s):sysModules<s.heap.objs.size:=by
 have h:E_<s.heap.objs.size:=(I.mod.glob.keeps I.bk).lt;exact qcI (by decide) h
theorem Lo{Q:i_->l_->Prop}(hu:A.units+1<cLine)(I:Inv X pins σ H s)(g:uc H a y (some v))(ry:RelV y u)(h:∀w' s',Inv X pins σ H s'->RelV v w'->Q w' s'):
  D_ (model X.prog X.w) A (getItem (.ref a) u) Q E s:=by
 rcases g with⟨kvs,k,e,ey,l⟩|⟨kvs,k,b,e,ey,eb,l⟩
 ·subst ey;obtain⟨z,hd,vs,rel,dd⟩:=CD I.hok e;obtain⟨w',hw,rw'⟩:=rK.some_of (v:=v) (o:=valueAt vs k) (by rw[l];exact rel.val k);exact wpAny_getItem_of (An ry) dd.mapOf hw (h w' _ (I.tok _) rw')
 ·subst ey;cases (show u=Value.ref b from ry);obtain⟨z,hd,xs,rel,dd⟩:=Gs I.hok e;obtain⟨w',hw,rw'⟩:=rK.some_of (v:=v) (o:=(atKey xs k).map (·.2)) (by rw[l];exact rel.val k);obtain⟨p,hp,hp2⟩:=qaQ.mp hw;refine wpAny_getItem_heap (qcC hu) (Al I.hok eb) dd hp ?_;rw[hp2];exact h w' _ (I.tok _) rw'
theorem adB{Q:i_->l_->Prop}(hu:A.units+1<cLine)(I:Inv X pins σ H s)(g:uc H a y o)(ry:RelV y u)(h:∀s',Inv X pins σ H s'->Q (.bool o.isSome) s'):
  D_ (model X.prog X.w) A (compareOp .In u (.ref a)) Q E s:=by
 rcases g with⟨kvs,k,e,ey,l⟩|⟨kvs,k,b,e,ey,eb,l⟩
 ·subst ey;obtain⟨z,hd,vs,rel,dd⟩:=CD I.hok e;refine wpAny_in_of (An ry) hd dd.mapOf ?_;rw[←(rel.val k).oX,←l];exact h _ (I.tok _)
 ·subst ey;cases (show u=Value.ref b from ry);obtain⟨z,hd,xs,rel,dd⟩:=Gs I.hok e;refine wpAny_in_heap (qcC hu) (Al I.hok eb) hd dd ?_;have q:=(rel.val k).oX;rw[Option.isSome_map]at q;rw[←q,←l];exact h _ (I.tok _)
theorem Qa{Q:i_->l_->Prop}(hu:A.units+1<cLine)(I:Inv X pins σ H s)(g:uc H a y o)(ry:RelV y u)(h:∀s',Inv X pins σ H s'->Q (.bool (!o.isSome)) s'):
  D_ (model X.prog X.w) A (compareOp .NotIn u (.ref a)) Q E s:=by
 rcases g with⟨kvs,k,e,ey,l⟩|⟨kvs,k,b,e,ey,eb,l⟩
 ·subst ey;obtain⟨z,hd,vs,rel,dd⟩:=CD I.hok e;refine wpAny_notIn_of (An ry) hd dd.mapOf ?_;rw[←(rel.val k).oX,←l];exact h _ (I.tok _)
 ·subst ey;cases (show u=Value.ref b from ry);obtain⟨z,hd,xs,rel,dd⟩:=Gs I.hok e;refine wpAny_notIn_heap (qcC hu) (Al I.hok eb) hd dd ?_;have q:=(rel.val k).oX;rw[Option.isSome_map]at q;rw[←q,←l];exact h _ (I.tok _)
theorem JQ{h':qab}{t':Nat}{ob:HO}(I:Inv X pins σ H s)(mu:YG (H a))(hs:qa9 a s.heap h')(he:∃q,h'.get? a=some q)(new:cU X.prog X.w (upd H a ob) h' a ob)(ht:s.toks<=t':=by first|exact k_ _|exact qaE _|assumption|omega):
  Inv X pins σ (upd H a ob) { s with heap:=h',toks:=t' } :=
 I.write (x:=a) (e:=a) mu (.inl rfl) (λb q hb z=>(hs.2 b hb).trans z) he new
theorem Vh{P:A_}{w:U_}{H':Hp}{h':qab}{kvs:List (Key×V)}{vs:List (Key×i_)}(z:kvs.length<=x_)(hd:(a==sysModules)=false)(rel:KV kvs vs)(dd:h'.DictOf (jr P w) a vs):
  cU P w H' h' a (.dK kvs):=⟨z,hd,vs,rel,dd⟩
theorem Ln{H':Hp}{Q:Unit->l_->Prop}(hu:A.units+1<cLine)(I:Inv X pins σ H s)(g:BW H a y v H')(ry:RelV y u)(rv:RelV v r)(h:∀s',Inv X pins σ H' s'->Q () s'):
  D_ (model X.prog X.w) A (setItem (.ref a) u r) Q E s:=by
 rcases g with⟨kvs,k,e,ey,l,eH⟩|⟨kvs,k,b,e,ey,eb,l,eH⟩
 ·subst ey eH;obtain⟨z,hd,vs,rel,dd⟩:=Yh I.hok e;have hz:vs.length<=x_:=by rw[←rel.length];exact z
  have hl:(putK kvs k v).length<=x_:=by have:=nT kvs k v;omega
  refine wpAny_setItem_pairs (hsz:=hz) (An ry) dd λh' ZL hs=>h _ ?_
  have he:∃q,h'.get? a=some q:=let ⟨q,_,_,hq,_⟩:=ZL;⟨q,hq⟩
  exact JQ I (by rw[e];exact True.intro) hs he (Vh hl hd (rel.put k rv) ZL)
 ·subst ey eH;cases (show u=Value.ref b from ry);obtain⟨z,hd,xs,rel,dd⟩:=Yg I.hok e;have hz:xs.length<=x_:=by rw[←Paired.length rel];exact z
  have hl:(putK kvs k v).length<=x_:=by have:=nT kvs k v;omega
  refine wpAny_setItem_heap (hsz:=hz) (qcC hu) (Al I.hok eb) dd λh' ZL hs=>h _ ?_;obtain⟨q,es,ep,hq,h2,h3,h4,_,h5⟩:=ZL;refine JQ I (by rw[e];exact True.intro) hs ⟨q,hq⟩ ⟨hl,hd,_,(rel.put k eb rv).keeps λc ys ec=>?_,q,es,ep,hq,h2,h3,h4,h5⟩
  rw[au (nR ec e (λz=>nomatch z))]
  exact ec
end
section
variable{X:Cx}{pins:List (h_×qa0)}{σ:St}{H:Hp}{s:l_}{a:h_}{kvs:List (Key×V)}{k:Key}{u:i_}{A:qah}{E:i_->l_->Prop}
theorem Yk{Q:i_->l_->Prop}(I:Inv X pins σ H s)(e:Rd H a (.dK kvs))(h:∀t s',Inv X pins σ H s'->Q (.int kvs.length t) s'):D_ (model X.prog X.w) A (call (.builtin "len") [.ref a]) Q E s:=by
 obtain⟨z,hd,vs,rel,dd⟩:=CD I.hok e;refine call_len_dict hd dd (by rw[←rel.length];rw[qba]at z;omega) ?_;rw[←rel.length];exact h _ _ (I.tok _)
end
def VA(i:Expr):Prop:=∀ov iv,subscripted i false ov iv=operate [ov,iv] (getItem ov iv)
theorem Ja{prog:A_}{w:U_}{A:qah}{E:i_->l_->Prop}{s:l_}{env:Env}{value slice:Expr}{pos:qcq}{T id:String}{Q:i_->l_->Prop}
  (hl:typeLookup (.type T) "__getitem__" =pure (some (.builtin id))) (hs:VA slice)
  (h:D_ (model prog w) A (eval value env) (λo s₁=>D_ (model prog w) A (eval slice env) (λi s₂=>s₂.TypeIs o T/\D_ (model prog w) A (getItem o i) Q E s₂) E s₁) E s) :
  D_ (model prog w) A (eval (.Subscript value slice pos) env) Q E s:=by
 refine Subscript_ (qaJ h (λo s₁ h₁=>qaJ h₁ (λi s₂ h₂=>?_) λ_ _ x=>x) λ_ _ x=>x);obtain⟨hT,h₂⟩:=h₂;unfold subscriptTail;refine f_ ?_;rw[getitemInPython_of_ne hT.not_modules];refine f_ (wpAny_specialOf hT hl ?_);have fin:D_ (model prog w) A (subscripted slice false o i) (λr s₃=>D_ (model prog w) A (letTemporaryGo value o r >>= λ_=>pure r) Q E s₃) E s₂:=by
  rw[hs o i];exact wpAny_operating (qaJ h₂ (λr s₃ h₃=>f_ (wpAny_letTemporaryGo (q_ h₃))) λ_ _ x=>x)
 first
  |exact q_ (f_ fin)
  |exact f_ (q_ (f_ fin))
  |exact f_ fin
theorem Gu{X:Cx}{pins:List (h_×qa0)}{σ:St}{H:Hp}{s:l_}{a:h_}{y:V}{o:Option V}(I:Inv X pins σ H s)(g:uc H a y o):s.TypeIs (.ref a) "dict" :=by
 rcases g with⟨kvs,k,e,_,_⟩|⟨kvs,k,b,e,_,_,_⟩
 ·obtain⟨_,_,vs,_,dd⟩:=CD I.hok e;exact dd.typeIs
 ·obtain⟨_,_,xs,_,dd⟩:=Gs I.hok e;exact dd.typeIs
def Wk(td ty:TE):TE:=λσ H Q=>td σ H λx H1=>ty σ H1 λy H2=>dI λa v=>x= .ref a/\uc H2 a y (some v)/\Q v H2
def Wy(td ty tv:TE):TS:=λD σ H=>tv σ H λv H1=>td σ H1 λx H2=>ty σ H2 λy H3=>dI λa H4=>x= .ref a/\BW H3 a y v H4/\D.nx σ H4
section
variable{X:Cx}{o i e value:Expr}{pos pos' tpos:qcq}{td ty tv:TE}
theorem DA(hu:X.A.units+1<cLine)(ho:PE X o td)(hi:PE X i ty)(hs:VA i):PE X (.Subscript o i pos) (Wk td ty):=by
 intro pins s σ H Q I h;refine Ja PySem.F.slot_dict_getitem.lookup hs (gg (ho pins s σ H _ I h) λu s1 ⟨x,H1,I1,rx,q1⟩=>gg (hi pins s1 σ H1 _ I1 q1) λiv s2 ⟨y,H2,I2,ry,a,v,ex,g,q2⟩=>?_);subst ex;obtain rfl:u=Value.ref a:=rx;exact⟨Gu I2 g,Lo hu I2 g ry λw' s3 I3 rw'=>⟨v,H2,I3,rw',q2⟩⟩
theorem yI(hu:X.A.units+1<cLine)(ho:PE X o td)(hi:PE X i ty)(hv:PE X value tv)(hs:swapsWith value (some (.Subscript o i pos')) pos.line X.env=pure false):
  PS X (.Assign [.Subscript o i pos'] value pos) (Wy td ty tv):=by
 intro pins s σ H D I h;refine wpAny_Assign_Subscript (gg (hv pins s σ H _ I h) λr s1 ⟨v,H1,I1,rv,q1⟩=>gg (ho pins s1 σ H1 _ I1 q1) λu s2 ⟨x,H2,I2,rx,q2⟩=>gg (hi pins s2 σ H2 _ I2 q2) λiv s3 ⟨y,H3,I3,ry,a,H4,ex,g,q3⟩=>?_) hs;subst ex;obtain rfl:u=Value.ref a:=rx;exact Ln hu I3 g ry rv λs4 I4=>⟨σ,H4,I4,q3⟩
end
theorem NR{P:A_}{w:U_}{H:Hp}(h:qab)(hb:sysModules<h.objs.size):cU P w H (h.push { cls:=.type "dict",data:=.dict #[] }) h.objs.size (.dK []) :=
 ⟨T_ _,beq_eq_false_iff_ne.mpr (Ne.symm (Y_ hb)),[],.nil,Heap.DictOf.new h⟩
theorem NQ{P:A_}{w:U_}{H:Hp}(h:qab)(hb:sysModules<h.objs.size):cU P w H (h.push { cls:=.type "dict",data:=.dict #[] }) h.objs.size (.dT []) :=
 ⟨T_ _,beq_eq_false_iff_ne.mpr (Ne.symm (Y_ hb)),[],.nil,_,#[],0,B_ _ rfl,⟨rfl,rfl,rfl⟩,rfl,rfl,List.nodup_nil⟩
def T4:TE:=λ_ H Q=>∀p,H p=none->Q (.ref p) (upd H p (.dK []))
def TZ:TE:=λ_ H Q=>∀p,H p=none->Q (.ref p) (upd H p (.dT []))
section
variable{X:Cx}{pos:qcq}
theorem zK:PE X (.Dict [] [] pos) T4:=λpins s σ H Q I h =>
 wpAny_Dict_empty ⟨.ref s.heap.objs.size,_,I.laid (a:=s.heap.objs.size) (o:=.dK []) (t':=s.toks) (λ_ _ q=>j_ _ q) (k_ _) (NR s.heap I.big),rfl,h _ (I.hok.fresh (k_ _))⟩
theorem MN:PE X (.Dict [] [] pos) TZ:=λpins s σ H Q I h =>
 wpAny_Dict_empty ⟨.ref s.heap.objs.size,_,I.laid (a:=s.heap.objs.size) (o:=.dT []) (t':=s.toks) (λ_ _ q=>j_ _ q) (k_ _) (NQ s.heap I.big),rfl,h _ (I.hok.fresh (k_ _))⟩
end
section
variable{X:Cx}{pins:List (h_×qa0)}{σ:St}{H:Hp}{s:l_}{a:h_}{y d:V}{u r:i_}{o:Option V}{A:qah}{E:i_->l_->Prop}
end
section
variable{X:Cx}{o e f:Expr}{apos cpos:qcq}{td ty tx:TE}
end
section
variable{X:Cx}{pins:List (h_×qa0)}{σ:St}{H:Hp}{s:l_}{a:h_}{kvs:List (Key×V)}{A:qah}{E:i_->l_->Prop}
end
section
variable{X:Cx}{pins:List (h_×qa0)}{σ:St}{H:Hp}{s:l_}{a:h_}{y:V}{u:i_}{A:qah}{E:i_->l_->Prop}
end
end
end L2
namespace Att
open PySem PySem.W PySem.Calls PyProof.Rows
theorem yk{P:Params}{h:qab}:∀(ns:List Int) (vs:List i_),WellAll P h vs (ns.map WData.int)->IntsAre vs ns:=by
 intro ns
 induction ns with
 |nil =>
  intro vs w;rw[List.map_nil]at w;cases w;exact .nil
 |cons n ns ih =>
  intro vs w;rw[qaK]at w
  cases w with
  |cons a b =>
   cases a;exact .cons _ _ (ih _ b)
theorem Ku{l:OpenLaw}{n:Nat}(hn:l.most=some n){P:Params}{h:qab}{args:List WData}{vals:List i_}
  (hpre:l.row.toRowW.claim.pre args=true) (hwl:WellAll P h vals args) :
  oS λa vs ns=>vals=[Value.ref a]/\args=[WData.list (ns.map WData.int)]/\h.get? a=some { cls:=.type "list",data:=.seq vs.toArray }/\IntsAre vs ns/\ns.length<=n:=by
 have hsh:WShape.hasAll [] args [.list .int]=true:=(pre_splitW hpre).1;have hc:l.pre.holds [] { args:=args }=true:=(pre_splitW hpre).2;obtain⟨d,r,rfl,h1,h2⟩:=hasAllW_cons hsh;obtain rfl:=hasAllW_nil h2;obtain⟨xs,rfl,h3⟩:=hasW_list h1;obtain⟨ns,rfl⟩:=items_int h3;have hlen:ns.length<=n:=by
  unfold OpenLaw.pre at hc;have h4:(WTm.not (.lt (.lit (.int (n:Int))) (.len (.arg 0)))).holds [] { args:=[.list (ns.map .int)] }=true:=by
   have h4:=(holds_andW hc).1;rw[hn]at h4;exact h4
  have h5:=condW_of h4 (w_not (w_lt w_lit (w_len_list (w_arg rfl))));rw[g_]at h5;refine Nat.le_of_not_lt λq=>?_;have q':(n:Int)<((ns.length:Nat):Int):=by omega
  first
   |(rw[decide_eq_true q']at h5;exact absurd h5 (by decide))
   |(simp at h5;omega)
 cases hwl with
 |cons w1 w2 =>
  cases w2
  cases w1 with
  |list ho hall=>exact⟨_,_,ns,Y,Y,ho,yk ns _ hall,hlen⟩
theorem KG(l:OpenLaw)(args:List WData):l.row.toRowW.claim.post args (.bool true) args=true :=
 postW_of (r:=l.row.toRowW) (X:=(true==true))
  (show WShape.has [] (.bool true) .bool=true by first|rfl|decide|simp[WShape.has,WShape.arms,WShape.armsAll])
  (show(WTm.eq .res (.lit (.bool true))).value [] { args:=args,res:=some (.bool true),after:=args }=some (.bool (true==true)) from w_eq_bool (w_res rfl) w_lit) rfl
section
variable{prog:A_}{w:U_}{A:qah}{E:i_->l_->Prop}{s:l_}{K:Frag}
end
end Att
namespace L2
open PySem PySem.Spec PyProof.Rows
section
theorem B0:∀{vs:List i_} {ns:List Int},IntsAre vs ns->Vals (ns.map V.int) vs
 |_,_,.nil=>.nil
 |_,_,.cons n t h=>.cons ⟨t,rfl⟩ (B0 h)
def Vz(H:Hp):Prop:=∀b,H b=none\/dI λo xs=>H b=some (.Io o (.lst xs))
theorem M8{P:A_}{w:U_}{K:PySem.W.Frag}{mg mb:r_->Option i_}{CX:LG}{k:Nat}{fa a:h_}{fd:F_}{x:r_}{sp:Sp}{s₁:l_}{vs:List i_}{ns:List Int}
  (KX:K.In s₁.heap) (hns:s₁.heap.Ns E_ mg) (hb:s₁.heap.Ns builtinsNs mb) (X3:∀x:r_,x≠ "__name__" ->mb x=bootBuiltins x) (hlim:s₁.heap.NoLimit) (hg:s₁.gens= #[]) (htk:GG mg s₁.toks)
  (ha:s₁.heap.get? a=some { cls:=.type "list",data:=.seq vs.toArray }) (hi:IntsAre vs ns) (hl:ns.length<=x_) (hr:nV k callerA)
  (F:∀base:qab,K.In base->base.Ns E_ mg->aF P w K mg base CX k fa fd [x] sp) (hbind:∀(s:l_) (u:i_),BindsTo s fd ⟨[u],[]⟩ [(x,u)])
  (Ov:∀H:Hp,Vz H->bD K H a (ns.map V.int)->sp [.ref a] H (λv _=>v= .bl true) λ_ _ _=>False)
  (hCX:∀H e s',CX [] H s₁ (λ_ _ _=>False) e s'->False) :
  codeAny (model P w) callerA (.call (.ref fa) ⟨[.ref a],[]⟩) (λr s'=>r= .ok (.ret (.bool true))/\OldK s₁.heap s'.heap/\s'.os=s₁.os/\AllBare s'.gens) s₁:=by
 have rv:=B0 hi;have ace:=hi.length;have core:∀H:Hp,Vz H->bD K H a (ns.map V.int)->qY P w H s₁.heap->(∀b,H b≠none->b=a)->(H a≠none->K.lookup a=none) →
   codeAny (model P w) callerA (.call (.ref fa) ⟨[.ref a],[]⟩) (λr s'=>r= .ok (.ret (.bool true))/\OldK s₁.heap s'.heap/\s'.os=s₁.os/\AllBare s'.gens) s₁:=by
  intro H hO hS hok hA hK;have JS:∀{b:h_} {o:qa0},s₁.heap.get? b=some o->H b=none->(D5 s₁.heap H).get? b=some o:=λe n=>Nq e n;have WT:∀{b:h_} {o:qa0} {es:Array DictEntry} {ep:Nat},s₁.heap.get? b=some o->o.data= .dict es ep->H b=none:=λ{b o es ep} e d=>by
   cases q:H b with
   |none=>rfl
   |some u =>
    have e':b=a:=hA b (by rw[q];simp);subst e';rw[ha]at e;cases e;have d':Data.seq vs.toArray _=Data.dict es ep:=d;cases d'
  have Y9:∀{b:h_} {m:r_->Option i_},s₁.heap.Ns b m->(D5 s₁.heap H).Ns b m:=λ{b m} ⟨o,es,ep,e,d,r⟩=>⟨o,es,ep,JS e (WT e d),d,r⟩;have hKb:K.In (D5 s₁.heap H):=λb o e=>JS (KX b o e) (by
   cases q:H b with
   |none=>rfl
   |some u =>
    have e':b=a:=hA b (by rw[q];simp);subst e';rw[hK (by rw[q];simp)]at e;cases e)
  have hM:Mod K mg (D5 s₁.heap H):=⟨hKb,Y9 hns,⟨mb,Y9 hb,X3⟩,let ⟨mc,h1,h2⟩:=hlim;⟨mc,Y9 h1,h2⟩⟩
  have e0:IT P w K mg (D5 s₁.heap H) callerA [] s₁ H:=⟨rfl,hM,λb o e=>Pb e,qcn (Lh _ _),trivial,λb hb=>absurd (show b∈([]:List h_) from hb) (by simp),hok,.of_eq hg,htk⟩;refine qbC ((F _ hKb (Y9 hns)).run callerA [] s₁ H ⟨[.ref a],[]⟩ [.ref a] [.ref a] _ _ hr e0 (hbind s₁ (.ref a)) (.cons Y .nil) (Ov H hO hS)) λr s' h=>?_
  cases r with
  |error e=>exact(hCX H e s' h).elim
  |ok fl =>
   cases fl with
   |next=>exact qaN h
   |brk=>exact qaN h
   |cont=>exact qaN h
   |ret u =>
    obtain⟨v,H',os,bare,un,D4,r',_,q⟩:=h;have q':v= .bl true:=q;subst q';obtain rfl:u=Value.bool true:=r';refine⟨Y,OldK.of_keep λb o e=>?_,os,bare⟩
    cases q:H b with
    |none=>exact un.keep b o e q (by intro z;exact absurd (show b∈([]:List h_) from z) (by simp)) (by simp)
    |some u =>
     rcases hO b with z|⟨ob,xs,z⟩
     ·rw[q]at z;cases z
     ·have z2:=un.uT b ob _ z;obtain⟨e1,_⟩:=hok b _ z;obtain⟨e2,_⟩:=D4 b _ z2;rw[e]at e1;cases e1;exact e2
 cases hk:K.lookup a with
 |some o =>
  have e:=KX a o hk;rw[ha]at e;cases e;refine core (λ_=>none) (λ_=>.inl Y) (.inr ⟨_,vs.toArray,_,hk,Y,Y,Y,by rw[v_,ace];exact hl,by simpa using rv⟩) (λb u z=>by have z':(none:Option HO)=some u:=z;cases z') (λb z=>absurd Y z) λz=>absurd Y z
 |none =>
  refine core (λb=>if b=a then some (.Io { cls:=.type "list",data:=.seq vs.toArray } (.lst (ns.map V.int)))else none) (λb=>?_) (.inl (.inr ⟨{ cls:=.type "list",data:=.seq vs.toArray },if_pos Y⟩)) (λb u z=>?_) (λb z=>?_) λ_=>hk
  ·by_cases hb:b=a
   ·exact .inr ⟨_,_,if_pos hb⟩
   ·exact .inl (if_neg hb)
  ·by_cases hb:b=a
   ·have z':=(if_pos hb).symm.trans z;cases z';subst hb;exact⟨ha,by rw[g_];exact hl,vs,_,rv,ha⟩
   ·have z':=(if_neg hb).symm.trans z;cases z'
  ·by_cases hb:b=a
   ·exact hb
   ·exact absurd (if_neg hb) z
end
section
end
section
noncomputable def inClass(s:qaA)(j:Nat):qaA:=match s with
 | .ClassDef _ _ _ body _ _ _ _ _ _ _=>body.getD j (.Pass ⟨0,0,0,0⟩)
 |_=>.Pass ⟨0,0,0,0⟩
noncomputable def jt(s:qaA):Arguments:=match s with
 | .FunctionDef _ a _ _ _ _ _ _ _ _=>a
 |_=>{ posonlyargs:=[],args:=[],vararg:=none,kwonlyargs:=[],kw_defaults:=[],kwarg:=none,defaults:=[] }
noncomputable def gZ(s:qaA):List qaA:=match s with
 | .FunctionDef _ _ b _ _ _ _ _ _ _=>b
 |_=>[]
noncomputable def ay(s:qaA):qbK:=match s with
 | .FunctionDef _ _ _ _ _ _ sc _ _ _=>sc
 |_=>{ kind:=.function,names:=[],isGenerator:=false,isCoroutine:=false }
noncomputable abbrev cM:LG:=λ_ _ _ _ _ _=>False
noncomputable abbrev E0:XK:=λ_ _ _=>False
theorem aP{X:Cx}:Passes cM X E0:=λ_ _ _ _ _ _ _ h=>h.elim
structure Oz(K:PySem.W.Frag)(x qual:r_)(st:qaA)(f:h_)(fd:F_):Prop where
 ex:VZ λ(oc:i_) (od:Option h_) (kV doc pm:i_) (an:Option h_) (cdv ct:i_) (osl:Array (Option i_)) =>
  fd=PySem.W.fnOf x qual (jt st) (gZ st) (ay st) .none kV doc pm an cdv ct/\K.lookup f=some ⟨oc,od,.func fd,osl⟩/\PySem.W.codeIn K cdv qual=true
 kp:PySem.W.keepIn K (.ref f)=true
section
variable{P:A_}{w:U_}{K:PySem.W.Frag}{mg:r_->Option i_}{base:qab}
theorem Oz.ok{x qual:r_}{st:qaA}{f:h_}{fd:F_}{N ps:List r_}{k:Nat}{sp:Sp}(F:Oz K x qual st f fd)(S:aG N ps (ay st))(len:∀vs H Q E,sp vs H Q E->vs.length=ps.length)
  (hbody:∀(cdv:i_) (A:qah) (outer:List Env) (s:l_) (H:Hp) (vs:List V) (Q:VK) (E:XK),nV k (A.deeper (envOfC qual (ay st) s.heap.objs.size f cdv))->sp vs H Q E →
   ∃t,EG (xj cM P w K mg base N qual (ay st) f cdv A outer s H E).WR (gZ st) t/\t { nx:=λ_ H'=>Q .gE H',rt:=Q } (start N vs) H):aF P w K mg base cM (k+1) f fd ps sp:=by
 obtain⟨oc,od,kV,doc,pm,an,cdv,ct,osl,rfl,lk,hcd⟩:=F.ex;refine Q6 lk hcd S len λA outer s H vs Q E hr Ov=>?_;obtain⟨t,h,q⟩:=hbody cdv A outer s H vs Q E hr Ov;exact⟨t,h.WR,q⟩
theorem Oz.binds{x qual:r_}{st:qaA}{f:h_}{fd:F_}{ps:List r_}(F:Oz K x qual st f fd)
  (h:∀(kV doc pm:i_) (an:Option h_) (cdv ct:i_) (us:List i_),us.length=ps.length->bindArgs (PySem.W.fnOf x qual (jt st) (gZ st) (ay st) .none kV doc pm an cdv ct) ⟨us,[]⟩=pure (ps.zip us)):Binds K fd ps []:=by
 obtain⟨oc,od,kV,doc,pm,an,cdv,ct,osl,rfl,lk,hcd⟩:=F.ex;exact .all (h kV doc pm an cdv ct)
theorem uS{x qual:r_}{st:qaA}{f:h_}{oc:i_}{od an:Option h_}{osl:Array (Option i_)}{kV doc pm cdv ct:i_}(l:K.lookup f=some ⟨oc,od,.func (PySem.W.fnOf x qual (jt st) (gZ st) (ay st) .none kV doc pm an cdv ct),osl⟩)
  (c:PySem.W.codeIn K cdv qual=true) (k:PySem.W.keepIn K (.ref f)=true):Oz K x qual st f (PySem.W.fnOf x qual (jt st) (gZ st) (ay st) .none kV doc pm an cdv ct):=⟨⟨oc,od,kV,doc,pm,an,cdv,ct,osl,rfl,l,c⟩,k⟩
end
theorem oh{A:qah}{k:Nat}(hr:nV k A):A.units+1<cLine:=t_ (Nat.add_le_add_left (by decide:1<=64) _) hr.units
section
variable{X:Cx}
theorem pv (i:Nat){x:r_}{pos:qcq}(hN:X.N[i]? =some x:=by rfl)(hv:ZN X.env.scope x:=by first|exact Or.inl rfl|exact Or.inr (Or.inl Y)|exact Or.inr (Or.inr Y))(hd:(x==("__debug__" :r_))=false:=by decide)
  (hcd:(x==("__classdict__" :r_))=false:=by decide):PE X (.Name x pos) (Wc i):=Up hN hv hd hcd
end
theorem jN{A B:Prop}(h:B):if false=true then A else B:=by
 rw[if_neg I_];exact h
theorem pG{A B:Prop}(h:A):if true=true then A else B:=by
 rw[if_pos rfl];exact h
def ai(H H':Hp):Prop:=∀b o,H b=some o->H' b=some o
theorem ai.refl(H:Hp):ai H H:=λ_ _ h=>h
theorem ai.trans{H H1 H2:Hp}(a:ai H H1)(b:ai H1 H2):ai H H2:=λc o h=>b c o (a c o h)
theorem ai.free{H H':Hp}(e:ai H H'){l:h_}(h:H' l=Option.none):H l=Option.none:=by
 cases q:H l with
 |none=>rfl
 |some o =>
  rw[e l o q]at h;cases h
theorem ai.seq{K:PySem.W.Frag}{H H':Hp}{a:h_}{xs:List V}(e:ai H H')(h:bD K H a xs):bD K H' a xs:=by
 rcases h with(h|⟨o,h⟩)|h
 ·exact .inl (.inl (e _ _ h))
 ·exact .inl (.inr ⟨o,e _ _ h⟩)
 ·exact .inr h
section
variable{κ:Type}[DecidableEq κ]
end
end
end L2
namespace GP
theorem Pu{α:Type}:∀{l:List α},l.length=1->∃a,l=[a]
 |[a],_=>⟨a,rfl⟩
theorem Ga{α:Type}{n:Nat}:∀{l:List α},l.length=n+1->∃a r,l=a::r/\r.length=n
 |a::r,h=>⟨a,r,rfl,Nat.succ.inj h⟩
theorem Pr{α:Type}{l:List α}(h:l.length=2):∃a b,l=[a,b]:=by
 obtain⟨a,r,rfl,k⟩:=Ga h;obtain⟨b,rfl⟩:=Pu k;exact⟨a,b,Y⟩
theorem Pq{α:Type}{l:List α}(h:l.length=3):∃a b c,l=[a,b,c]:=by
 obtain⟨a,r,rfl,k⟩:=Ga h;obtain⟨b,c,rfl⟩:=Pr k;exact⟨a,b,c,Y⟩
theorem Po{α:Type}{l:List α}(h:l.length=4):∃a b c d,l=[a,b,c,d]:=by
 obtain⟨a,r,rfl,k⟩:=Ga h;obtain⟨b,c,d,rfl⟩:=Pq k;exact⟨a,b,c,d,Y⟩
theorem Pn{α:Type}{l:List α}(h:l.length=5):∃a b c d e,l=[a,b,c,d,e]:=by
 obtain⟨a,r,rfl,k⟩:=Ga h;obtain⟨b,c,d,e,rfl⟩:=Po k;exact⟨a,b,c,d,e,Y⟩
theorem WY{α:Type}{l:List α}(h:l.length=6):∃a b c d e f,l=[a,b,c,d,e,f]:=by
 obtain⟨a,r,rfl,k⟩:=Ga h;obtain⟨b,c,d,e,f,rfl⟩:=Pn k;exact⟨a,b,c,d,e,f,Y⟩
end GP
namespace L2
open PySem PySem.Spec PyProof.Rows
section
section
variable{X:Cx}
theorem jE:mL X (.builtin "isinstance") (λxs H Q=>t9 λx n t b=>xs=[x,.ty n]/\vS X.K H x t/\PySem.W.kitOne X.K t (.type n)=some b/\Q (.bl b) H):=by
 intro pins s σ H xs us Q I r h;obtain⟨x,n,t,b,rfl,ty,e,q⟩:=h;obtain⟨u,w',rfl,rx,rn⟩:=vals2 r;cases rn;exact TK.cj (k_ _) (Cu I rx ty e λtk hup=>⟨.bl b,H,I.tok _,Y,q⟩)
theorem CL:∀{bs:List Bool} {us:List i_},Vals (bs.map V.bl) us->∀(i:Nat) (v:i_),us[i]? =some v->∃b,bs[i]? =some b/\v= .bool b
 |[],_,r,i,v,e=>by
  cases r;simp at e
 |b::bs,_,r,i,v,e=>by
  cases r with
  |cons r1 r2 =>
   cases i with
   |zero =>
    simp at e;subst e;exact⟨b,Y,r1⟩
   |succ i =>
    obtain⟨c,h1,h2⟩:=CL r2 i v (by simpa using e);exact⟨c,by simpa using h1,h2⟩
theorem HB(bs:List Bool):((K_ bs.length).all λi=>(bs[i]?).getD true)=bs.all id:=by
 rw[qbw,R_,R_];constructor
 ·intro h b hb;obtain⟨i,hi,rfl⟩:=qaW hb;have:=h i (qav.mpr hi);simpa only[e_ hi,qaV,id]using this
 ·intro h i hi;have hi':=qav.mp hi;simpa only[e_ hi',qaV,id]using h _ (Q_ hi')
theorem GB(hc:X.calm=true):mL X (.builtin "all") (λxs H Q=>dI λ(l:h_) (bs:List Bool)=>xs=[.ref l]/\bD X.K H l (bs.map V.bl)/\Q (.bl (bs.all id)) H):=by
 intro pins s σ H xs us Q I r h;obtain⟨l,bs,rfl,hl,q⟩:=h;obtain⟨u,rfl,ru⟩:=vals1 r;cases ru;obtain⟨its,rv,p,hz⟩:=I.list hl;have pl:s.heap.IsList l its.toArray:=p.isList;have hlt:l<s.heap.objs.size:=by obtain⟨_,e,_⟩:=pl;exact y_ e
 have hlen:bs.length=its.length:=by rw[←rv.length,g_]
 refine TK.cj (k_ s.toks) ?_;refine call_all_walk (qb7 pl ?_);refine⟨s.heap.objs.size,[s.heap.objs.size,l],[s.heap.objs.size],its.toArray.size,_,_,λi=>(bs[i]?).getD true,Y,Walks.list (A:=X.A.in1) (I.ok.hd hc) _ l (Y_ hlt) its.toArray,
  ⟨⟨_,B_ _ rfl,rfl,rfl⟩,pl.push _⟩,λi v s' Q' E' hP hQ=>?_,λh' tk hk hup=>?_⟩
 ·obtain⟨b,e,rfl⟩:=CL rv i v (by simpa using hP);simp only[e,qaV]at hQ;exact qaX hQ
 ·have e:((K_ its.toArray.size).all λi=>(bs[i]?).getD true)=bs.all id:=by
   rw[v_,←hlen];exact HB bs
  rw[e];refine⟨.bl (bs.all id),H,I.kept (t':=tk) (λb x e=>hk b x (λhm=>?_) (j_ _ e)),Y,q⟩;rw[w_.mp hm]at e;exact qaB _ (y_ e)
end
theorem OZ{X:Cx}{K':PySem.W.Frag}{es:List Expr}{k:Nat}{t:Rg}{n:Nat}{pos:qcq}(hK:X.K=K')(hc:X.calm=true)(h:YD X es t)
  (hn:(assignEach es X.env).length=n:=by rfl) (hst:(assignEach es X.env).findIdx? (·.1)=none:=by rfl):PG X (.Tuple es k pos) (Yb K' n t):=by
 subst hK;exact sH hc h hn hst
def abr(t u:TS):TS:=λD σ H=>∃Mid:St->Hp->Prop,t { D with nx:=Mid } σ H/\∀ σ' H',Mid σ' H'->u D σ' H'
theorem bu{X:Cx}{st:qaA}{rest:List qaA}{t u:TS}(h1:PS X st t)(h2:EG X rest u):EG X (st::rest) (abr t u):=by
 intro pins s σ H D I h;obtain⟨Mid,h,hm⟩:=h;refine wpAny_execs_cons (gg (h1 pins s σ H { D with nx:=Mid } I h) λf s1 q=>?_)
 cases f with
 |next =>
  obtain⟨σ',H',I',q⟩:=q;exact h2 pins s1 σ' H' D I' (hm σ' H' q)
 |ret v=>exact q
 |brk=>exact q
 |cont=>exact q
noncomputable def jD(X:Cx)(scope:qbK)(cl:List (r_×h_))(C:h_)(N:List r_)(s:l_)(H:Hp)(ex:List h_)(pn:List (h_×qa0))(E:i_->l_->Prop):Cx :=
 { X with N:=N,s₀:=s,H₀:=H,env:=compEnvC scope cl C X.env,outer:=X.stack,ex:=ex,fn:=λx=>scope.names.lookup x==some .cell,pn:=pn,xe:=E }
structure cG(X:Cx)(scope:qbK)(cl:List (r_×h_))(N:List r_)(q9:St->St):Prop where
 clos:closureFor scope X.env=pure cl
 kind:scope.kind= .function
 cell:∀y∈scope.names,y.2= .cell->cl.lookup y.1=none
 names:∀y∈scope.names,y.2= .local->scope.names.lookup y.1=some .local
 sub:∀x c,cl.lookup x=some c->X.env.cells.lookup x=some c
 has:∀x,((relabel scope X.env).names.lookup x=some .cell\/(relabel scope X.env).names.lookup x=some .free)->scope.names.lookup x=some .cell\/∃c,cl.lookup x=some c
 len:∀ σ,(q9 σ).length=N.length
 fv:∀(σ:St) (i:Nat) (x:r_) (v:V),N[i]? =some x->(q9 σ)[i]? =some (some v)->ZN (relabel scope X.env) x →
  dI λ(j:Nat) (c:h_)=>X.N[j]? =some x/\σ[j]? =some (some v)/\X.env.kindOf x=some .cell/\((relabel scope X.env).names.lookup x=some .cell\/(relabel scope X.env).names.lookup x=some .free)/\cl.lookup x=some c
structure Oj(cl IC:List (r_×h_))(scope:qbK)(n:Nat)(h₁:qab):Prop where
 look:∀x c,IC.lookup x=some c->(n<c/\h₁.IsCell c none)\/cl.lookup x=some c
 inj:∀x y c,n<c->IC.lookup x=some c->IC.lookup y=some c->(∀x,cl.lookup x≠some c)->x=y
 keep:∀x c,cl.lookup x=some c->IC.lookup x=some c
 own:∀x,scope.names.lookup x=some .cell->∃c,IC.lookup x=some c
theorem jm:∀(names:List (r_×qbD)) (n:Nat) (acc:List (r_×h_)),cellsFrom n names acc=cellsFrom n names []++acc
 |[],_,_=>rfl
 |(y,k)::r,n,acc=>by
  unfold cellsFrom;split
  ·rw[jm r _ ((y,n)::acc),jm r _ [(y,n)],qaH];rfl
  ·exact jm r n acc
theorem qp:∀(names:List (r_×qbD)) (n:Nat) (acc:List (r_×h_)) (x:r_) (c:h_),(x,c)∈cellsFrom n names acc->(x,qb3)∈names\/(x,c)∈acc
 |[],_,_,_,_,h=>.inr h
 |(y,k)::r,n,acc,x,c,h=>by
  unfold cellsFrom at h;split at h
  next hk =>
   rcases qp r _ _ x c h with z|z
   ·exact .inl (J_ _ z)
   ·rcases G_.mp z with e|e
    ·cases e;have hk':k= .cell:=by simpa using hk
     rw[hk'];exact .inl L_
    ·exact .inr e
  next=>exact(qp r _ _ x c h).imp (J_ _) id
theorem NX{X:Cx}{scope:qbK}{cl:List (r_×h_)}{N:List r_}{q9:St->St}(S:cG X scope cl N q9){M:qc3}{A:qah}{E:i_->l_->Prop}{s:l_}{Q:Env->l_->Prop}
  (h:∀IC h₁,Oj cl IC scope s.heap.objs.size h₁->h₁.Ns s.heap.objs.size (λ_=>none)->(∀b o,s.heap.get? b=some o->h₁.get? b=some o)->Q { compEnvC scope IC s.heap.objs.size X.env with scope:=scope } { s with heap:=h₁ }) :
  D_ M A (newFunctionEnv scope X.env.globals cl [] X.env.qual none .none (some X.env)) Q E s:=by
 simp only[newFunctionEnv,Option.isSome_some,if_true];refine f_ (wpAny_alloc ?_);refine f_ (wpAny_layCells _ (λname kind cells=>by cases hkc:kind==qb3<;>simp[hkc]) _ _ _ _ ?_);have hz:(s.heap.push { cls:=.type "dict",data:=.dict #[] }).objs.size=s.heap.objs.size+1:=qaU ..
 have ok:=cellsFrom_ok scope.names (s.heap.push { cls:=.type "dict",data:=.dict #[] }) (s.heap.objs.size+1) [] ⟨λ_ _ hm=>(nomatch hm),qcJ⟩ (by rw[hz];exact k_ _)
 simp only[qcK];refine f_ (q_ (q_ (h (cellsFrom (s.heap.push { cls:=.type "dict",data:=.dict #[] }).objs.size scope.names cl) _ ⟨λx c e=>?_,λx y c _ ex ey hn=>?_,λx c e=>?_,λx e=>?_⟩ ((Heap.Ns.new s.heap (.type "dict")).keeps λb o e=>pushCells_keeps _ _ _ _ e) λb o e=>pushCells_keeps _ _ _ _ (j_ _ e))))
 ·rw[jm,List.lookup_append]at e
  cases q:(cellsFrom (s.heap.push { cls:=.type "dict",data:=.dict #[] }).objs.size scope.names []).lookup x with
  |none=>rw[q]at e;exact .inr e
  |some d =>
   rw[q]at e;cases e;exact .inl ((ok.empty x c (mem_of_lookup q)).symm)
 ·rw[jm,List.lookup_append]at ex ey
  cases qx:(cellsFrom (s.heap.push { cls:=.type "dict",data:=.dict #[] }).objs.size scope.names []).lookup x with
  |none=>rw[qx]at ex;exact absurd ex (hn x)
  |some d =>
   rw[qx]at ex;cases ex
   cases qy:(cellsFrom (s.heap.push { cls:=.type "dict",data:=.dict #[] }).objs.size scope.names []).lookup y with
   |none=>rw[qy]at ey;exact absurd ey (hn y)
   |some d =>
    rw[qy]at ey;cases ey;exact name_of_addr ok.apart (mem_of_lookup qx) (mem_of_lookup qy)
 ·rw[jm,List.lookup_append]
  cases q:(cellsFrom (s.heap.push { cls:=.type "dict",data:=.dict #[] }).objs.size scope.names []).lookup x with
  |none=>exact e
  |some d =>
   rcases qp _ _ _ _ _ (mem_of_lookup q)with z|z
   ·rw[S.cell _ z rfl]at e;cases e
   ·cases z
 ·exact qbF.mp (PySem.W.cellsFrom_some _ _ _ (.inl e))
theorem cG.plain{X:Cx}{scope:qbK}{N:List r_}(hfree:∀x∈scope.names,x.2≠ .free)(kind:scope.kind= .function)(_:∀y∈scope.names,y.2= .cell->(y.1,qat)∉scope.names)
  (names:∀y∈scope.names,y.2= .local->scope.names.lookup y.1=some .local):cG X scope [] N (λ_=>P_ N.length none):=by
 have hr:(relabel scope X.env).names=scope.names:=by
  unfold relabel;exact map_eq_self λx hx=>by
   obtain⟨n,k⟩:=x;have:(k==qat)=false:=by simpa using hfree _ hx
   simp[this]
 refine⟨closureFor_none hfree,kind,λ_ _ _=>rfl,names,λx c e=>by simp at e,λx hx=>?_,λσ=>qaY,λσ i x v _ e _=>?_⟩
 ·rw[hr]at hx;rcases hx with hx|hx
  ·exact .inl hx
  ·exact absurd Y (hfree _ (PySem.mem_of_lookup hx))
 ·rw[qbN]at e;split at e
  ·cases e
  ·cases e
noncomputable def uY(look:r_->Option h_):List (r_×qbD)->List (r_×h_)->List (r_×h_)
 |[],acc=>acc
 |(n,k)::r,acc=>if(k==qat)=true then(match look n with|some a=>uY look r ((n,a)::acc)|none=>uY look r acc)else uY look r acc
theorem uX{env:Env}:∀(names:List (r_×qbD)) (acc:List (r_×h_)),(∀x∈names,x.2= .free->∃a,env.cells.lookup x.1=some a) →
  (forIn names acc (λ(x:r_×qbD) (r:List (r_×h_))=>match x with|(name,kind)=>if(kind==qat)=true then do let c ←cellOf env name;pure (qcA ((name,c)::r))else pure (qcA r)):Sem (List (r_×h_)))=pure (uY (env.cells.lookup ·) names acc)
 |[],acc,_=>rfl
 |(n,k)::r,acc,h=>by
  rw[qby];dsimp only;unfold uY;by_cases hk:(k==qat)=true
  ·obtain⟨a,ha⟩:=h (n,k) L_ (by simpa using hk);have ha':env.cells.lookup n=some a:=ha;rw[if_pos hk,if_pos hk,ha'];have hc:cellOf env n=pure a:=by unfold cellOf;rw[ha']
   rw[hc];exact uX r _ λx hx=>h x (J_ _ hx)
  ·rw[if_neg hk,if_neg hk];exact uX r _ λx hx=>h x (J_ _ hx)
theorem vP{look:r_->Option h_}:∀(names:List (r_×qbD)) (acc:List (r_×h_)),(∀x c,acc.lookup x=some c->look x=some c)->∀x c,(uY look names acc).lookup x=some c->look x=some c
 |[],acc,h=>h
 |(n,k)::r,acc,h=>by
  unfold uY;by_cases hk:(k==qat)=true
  ·rw[if_pos hk]
   cases e:look n with
   |none=>exact vP r acc h
   |some a =>
    refine vP r _ λx c q=>?_;rw[qbP]at q;by_cases hx:(x==n)=true
    ·rw[hx]at q;have:x=n:=by simpa using hx
     rw[this,e];exact q
    ·have hx':(x==n)=false:=by simpa using hx
     rw[hx']at q;exact h x c q
  ·rw[if_neg hk];exact vP r acc h
theorem rJ{look:r_->Option h_}:∀(names:List (r_×qbD)) (acc:List (r_×h_)) (x:r_),(∃c,acc.lookup x=some c)->∃c,(uY look names acc).lookup x=some c
 |[],_,_,h=>h
 |(n,k)::r,acc,x,h=>by
  unfold uY;by_cases hk:(k==qat)=true
  ·rw[if_pos hk]
   cases e:look n with
   |none=>exact rJ r acc x h
   |some a =>
    refine rJ r _ x ?_;rw[qbP]
    cases hx:x==n with
    |true=>exact⟨a,Y⟩
    |false=>exact h
  ·rw[if_neg hk];exact rJ r acc x h
theorem sX{look:r_->Option h_}:∀(names:List (r_×qbD)) (acc:List (r_×h_)) (x:r_),(x,qat)∈names->(∃a,look x=some a)->∃c,(uY look names acc).lookup x=some c
 |[],_,_,h,_=>by cases h
 |(n,k)::r,acc,x,h,ha=>by
  unfold uY;rcases G_.mp h with e|e
  ·obtain⟨a,ha⟩:=ha;have e1:x=n:=congrArg Prod.fst e;have e2:k=qat:=(congrArg Prod.snd e).symm;subst e1 e2;rw[if_pos (by decide),ha];refine rJ r _ x ⟨a,?_⟩;rw[qbP];simp
  ·by_cases hk:(k==qat)=true
   ·rw[if_pos hk]
    cases e2:look n with
    |none=>exact sX r acc x e ha
    |some a=>exact sX r _ x e ha
   ·rw[if_neg hk];exact sX r acc x e ha
theorem vQ{look:r_->Option h_}:∀(names:List (r_×qbD)) (acc:List (r_×h_)) (x:r_) (c:h_),(uY look names acc).lookup x=some c->(x,qat)∈names\/acc.lookup x=some c
 |[],_,_,_,h=>.inr h
 |(n,k)::r,acc,x,c,h=>by
  unfold uY at h;by_cases hk:(k==qat)=true
  ·rw[if_pos hk]at h
   cases e:look n with
   |none=>rw[e]at h;exact(vQ r acc x c h).imp (J_ _) id
   |some a =>
    rw[e]at h;rcases vQ r _ x c h with z|z
    ·exact .inl (J_ _ z)
    ·rw[qbP]at z
     cases hx:x==n with
     |true =>
      have e1:x=n:=by simpa using hx
      have e2:k= .free:=by simpa using hk
      rw[e1,e2];exact .inl L_
     |false=>rw[hx]at z;exact .inr z
  ·rw[if_neg hk]at h;exact(vQ r acc x c h).imp (J_ _) id
theorem rC{env:Env}:∀{names:List (r_×qbD)} {x:r_} {k:qbD},
  (names.map λ(n,k)=>if(k==qat&&env.scope.kind== .function&&env.kindOf n==some .cell)then(n,qb3)else(n,k)).lookup x=some k →
  (k= .cell\/k= .free)->names.lookup x=some .cell\/(x,qat)∈names
 |[],_,_,h,_=>by simp at h
 |(n,j)::r,x,k,h,hk=>by
  rw[qaK,qbP]at h;rw[qbP];by_cases hj:(j==qat&&env.scope.kind== .function&&env.kindOf n==some .cell)=true
  ·simp only[hj,if_true]at h;by_cases hx:(x==n)=true
   ·have e:x=n:=by simpa using hx
    have ej:j= .free:=by
     rw[qae,qae]at hj;simpa using hj.1.1
    rw[e,←ej];exact .inr L_
   ·have hx':(x==n)=false:=by simpa using hx
    rw[hx']at h ⊢;exact(rC h hk).imp id (J_ _)
  ·simp only[hj]at h;by_cases hx:(x==n)=true
   ·have e:x=n:=by simpa using hx
    rw[e]at h;simp at h;subst h;rw[hx];rcases hk with q|q
    ·rw[q];exact .inl Y
    ·rw[e,←q];exact .inr L_
   ·have hx':(x==n)=false:=by simpa using hx
    simp[hx']at h;rw[hx'];exact(rC (by simpa using h) hk).imp id (J_ _)
noncomputable def T8(nt:Nat)(ix:List Nat)(σ:St):St:=P_ nt none++ix.map λj=>(σ[j]?).join
theorem cG.free{X:Cx}{scope:qbK}{N:List r_}{nt:Nat}{ix:List Nat}(kind:scope.kind= .function)(cell:∀y∈scope.names,y.2= .cell->(y.1,qat)∉scope.names)
  (names:∀y∈scope.names,y.2= .local->scope.names.lookup y.1=some .local) (hf:∀y∈scope.names,y.2= .free->X.env.kindOf y.1=some .cell)
  (hl:N.length=nt+ix.length) (hx:∀(k j:Nat),ix[k]? =some j->∃x,N[nt+k]? =some x/\X.N[j]? =some x/\(x,qat)∈scope.names/\(relabel scope X.env).names.lookup x=some .cell) (ok:X.Ok) :
  ∃cl,cG X scope cl N (T8 nt ix):=by
 have hcl:∀y∈scope.names,y.2= .free->∃a,X.env.cells.lookup y.1=some a:=λy hy hk=>ok.has y.1 (.inl (hf y hy hk));refine⟨uY (X.env.cells.lookup ·) scope.names [],?_,kind,λy hy hk=>?_,names,vP scope.names [] (λx c e=>by simp at e),λx h=>?_,λσ=>?_,λσ i x v e1 e2 e3=>?_⟩
 ·have z:=uX scope.names [] hcl;unfold closureFor;dsimp only;rw[z];rfl
 ·cases q:(uY (X.env.cells.lookup ·) scope.names []).lookup y.1 with
  |none=>rfl
  |some c =>
   rcases vQ _ _ _ _ q with z|z
   ·exact absurd z (cell y hy hk)
   ·cases z
 ·have hm:scope.names.lookup x=some .cell\/(x,qat)∈scope.names:=by
   rcases h with h|h
   ·exact rC h (.inl Y)
   ·exact rC h (.inr Y)
  exact hm.imp id λhm=>sX scope.names [] x hm (hcl _ hm Y)
 ·unfold T8;rw[o_,qaY,g_,hl]
 ·unfold T8 at e2;by_cases hi:i<nt
  ·rw[qau (by rw[qaY];exact hi),qbN]at e2;split at e2
   ·cases e2
   ·cases e2
  ·rw[qar (by rw[qaY];omega),qaY,n_]at e2
   cases ej:ix[i-nt]? with
   |none=>rw[ej]at e2;cases e2
   |some j =>
    rw[ej]at e2;have Q9:(σ[j]?).join=some v:=qaa e2;obtain⟨x',n1,n2,n3,n4⟩:=hx (i-nt) j ej;rw[show nt+(i-nt)=i by omega,e1]at n1;cases n1;obtain⟨c,hc⟩:=sX (look:=(X.env.cells.lookup ·)) scope.names [] x n3 (hcl _ n3 rfl);refine⟨j,c,n2,?_,hf _ n3 Y,.inl n4,hc⟩
    cases es:σ[j]? with
    |none=>rw[es]at Q9;cases Q9
    |some o=>rw[es]at Q9;rw[show o=some v from Q9]
def Kp(a b:St):Prop:=∀(i:Nat) (v:V),a[i]? =some (some v)->b[i]? =some (some v)
theorem Kp.rep(n:Nat)(b:St):Kp (P_ n none) b:=λi v e=>by
 rw[qbN]at e;split at e
 ·cases e
 ·cases e
def Fj(wi:TI)(g:TG)(te:TE)(q9:St->St):TE:=λσ H Q=>wi σ H λJ H1=>∀l,H1 l=none->∃W:Nat->Nat->List V->Hp->Prop,(∃m,W 0 m [] (upd H1 l (.lst []))) ∧
 ∀i m ys H2,W i m ys H2->(J.stop i H2/\Q (.ref l) H2) ∨
  (J.go i H2/\∀x H3,J.ET i H2 x H3->g x (q9 σ) H3 λBX H4=>Kp (q9 σ) BX/\te BX H4 λy H5=>H5 l=some (.lst ys)/\ys.length<x_/\∃m',m'<m/\W (i+1) m' (ys++[y]) (upd H5 l (.lst (ys++[y]))))
theorem Inv.Qz{X:Cx}{pins:List (h_×qa0)}{σ:St}{H:Hp}{s:l_}(I:Inv X pins σ H s):Inv X [] σ H s:=I.Dv λ_ hp=>nomatch hp
theorem qY.but{P:A_}{w:U_}{H:Hp}{h h':qab}{C:h_}(x:qY P w H h)(hC:H C=none)(sb:qa9 C h h'):qY P w H h':=λb u e =>
 (x b u e).stay (λc v hc q=>(sb.2 c (by
  rintro rfl;rcases hc with z|z
  ·rw[z,e]at hC;cases hC
  ·rw[hC]at z;cases z)).trans q) (λ_ q=>q) λ_ _ q=>q
section
variable{X:Cx}{pins:List (h_×qa0)}{σ:St}{H:Hp}{s:l_}{scope:qbK}{cl:List (r_×h_)}{N:List r_}{q9:St->St}{fp:List h_}{h₁:qab}{m:r_->Option i_}{E:i_->l_->Prop}
theorem Nd{IC:List (r_×h_)}(S:cG X scope cl N q9)(G:Oj cl IC scope s.heap.objs.size h₁)(I:Inv X pins σ H s)(hf:∀b∈fp,tG X pins H b/\b<s.heap.objs.size)(kp:∀b o,s.heap.get? b=some o->h₁.get? b=some o)(hns:h₁.Ns s.heap.objs.size m)(t':Nat)(ht:s.toks<=t':=by first|exact k_ _|exact qaE _|assumption|omega):
  Inv (jD X scope IC s.heap.objs.size N s H fp (X.pn++pins) E) [] (q9 σ) H { s with heap:=h₁,toks:=t' }:=by
 have WQ:∀b,b≠X.env.locals->b∉X.fs->b∉frs X.stack:=λb h1 h2 z=>by
  rcases G_.mp (I.wj b z)with q|q
  ·exact h1 q
  ·exact h2 q
 have Qh:∀x c,cl.lookup x=some c->c<s.heap.objs.size:=λx c e=>by
  obtain⟨v,o,ho,_⟩:=I.cell x c (S.sub x c e);exact y_ ho
 refine⟨⟨I.mod,S.kind,I.ok.glob,I.ok.blt,k_ _,λx y c a b=>?_,λx h=>(S.has x h).elim (G.own x) λ⟨c,e⟩=>⟨c,G.keep x c e⟩,λx c z e=>?_,I.ok.hd,I.ok.frames,.inl Y,λb hb=>?_,I.bs,m_ I.ok.N5 I.sz,λb o e hb=>?_,λb hb=>?_,I.stack,I.Dh,I.tk⟩,
  rfl,I.bare,Un.kept kp,⟨m,hns,λi x v e1 e2 e3=>?_⟩,λx c e=>?_,I.hok.fresh (k_ _),λx c e=>(G.look x c e).elim (λz=>I.hok.fresh (qa1 z.1)) λz=>I.mh x c (S.sub x c z),λp hp=>?_,I.hok.kept kp,S.len σ,ht⟩
 ·by_cases hc:s.heap.objs.size<c
  ·exact G.inj x y c hc a b λz e=>Nat.lt_asymm hc (Qh z c e)
  ·exact I.ok.inj x y c (S.sub x c ((G.look x c a).elim (λz=>absurd z.1 hc) id)) (S.sub y c ((G.look y c b).elim (λz=>absurd z.1 hc) id))
 ·rcases G.look x c e with q|q
  ·exact qa1 q.1
  ·have z2:(scope.names.lookup x==some qb3)=true:=z;have z':scope.names.lookup x=some .cell:=by simpa using z2
   rw[S.cell _ (mem_of_lookup z') rfl]at q;cases q
 ·obtain⟨⟨_,_,_,_,f4,_⟩,lt⟩:=hf b hb;exact⟨Y_ lt,λx c e=>(G.look x c e).elim (λz=>qaR (qcI lt z.1)) λz=>f4 x c (S.sub x c z)⟩
 ·obtain⟨⟨f0,_,_,f3,_⟩,_⟩:=hf b hb;rcases f3 with z|z
  ·exact I.ok.HU b o e z
  ·exact absurd (H_ (y_ e) (m_ I.ok.N5 z)) (qaB _)
 ·obtain⟨⟨_,f1,f2,_⟩,_⟩:=hf b hb;exact WQ b f1 f2
 ·obtain⟨j,c,n1,n2,n3,n4,n5⟩:=S.fv σ i x v e1 e2 e3;obtain⟨mX,_,hl⟩:=I.loc;obtain⟨u,r,l⟩:=hl j x v n1 n2 (.inr (.inl n3));refine⟨u,r,.inr ⟨n4,c,G.keep x c n5,?_⟩⟩;rcases l with⟨k,_⟩|⟨_,c',ec,o,ho,hd⟩
  ·have k':X.env.scope.names.lookup x=some .local:=k;have n3':X.env.scope.names.lookup x=some .cell:=n3;rw[k']at n3';cases n3'
  ·have q:=S.sub x c n5;rw[q]at ec;cases ec;exact⟨o,kp _ _ ho,hd⟩
 ·rcases G.look x c e with z|z
  ·exact⟨none,z.2⟩
  ·obtain⟨v,o,ho,hd⟩:=I.cell x c (S.sub x c z);exact⟨v,o,kp _ _ ho,hd⟩
 ·have QX:p∈X.pn++pins:=by
   rcases S_.mp hp with z|z
   ·exact z
   ·cases z
  obtain⟨a,b,c,d,e⟩:=I.pin p QX;exact⟨kp _ _ a,b,Y_ (y_ a),WQ _ c d,e⟩
end
end
section
inductive Cp where
 |lst (a:h_)|tup (a:h_)|txt (x:r_)
noncomputable def gh(x:r_):List V:=x.cps.toList.map λc=>V.str ⟨#[c]⟩
noncomputable def Cp.val:Cp->V
 | .lst a=>.ref a
 | .tup a=>.ref a
 | .txt x=>.str x
noncomputable def Cp.at(K:PySem.W.Frag)(H:Hp):Cp->List V->Prop
 | .lst a=>bD K H a
 | .tup a=>fq K H a
 | .txt x=>λxs=>xs=gh x
noncomputable def Cp.EV(h:qab)(it:h_)(i:Nat):Cp->Prop
 | .lst a=>h.IsListIter it a i
 | .tup a=>h.IsTupleIter it a i
 | .txt x=>∃t,h.IsStrIter it (strIterType x) x t i
noncomputable def Cp.src(h:qab):Cp->List V->Prop
 | .lst a=>λxs=>∃its,Vals xs its/\h.IsList a its.toArray
 | .tup a=>λxs=>∃its,Vals xs its/\h.IsTuple a its.toArray
 | .txt x=>λxs=>xs=gh x
noncomputable def Cp.off(b:h_):Cp->Prop
 | .lst a=>a≠b
 | .tup a=>a≠b
 | .txt _=>True
section
variable{X:Cx}{pins:List (h_×qa0)}{σ:St}{H:Hp}{s:l_}{c d:Cp}{xs ys:List V}
theorem Cp.o7(I:Inv X pins σ H s)(h:c.at X.K H xs):c.src s.heap xs:=by
 cases c with
 |lst a=>obtain⟨its,r,p,_⟩:=I.list h;exact⟨its,r,p.isList⟩
 |tup a=>obtain⟨its,r,p,_⟩:=I.tuple h;exact⟨its,r,p⟩
 |txt x=>exact h
theorem Cp.II(I:Inv X pins σ H s)(h:c.at X.K H xs)(h':c.at X.K H ys):xs=ys:=by
 cases c with
 |lst a=>exact I.Ag h h'
 |tup a=>exact I.B6 h h'
 |txt x=>exact(show xs=gh x from h).trans (show ys=gh x from h').symm
theorem Cp.jA {h:qab}{b:h_}{o:qa0}{T:String}(hs:c.src h xs)(hb:h.get? b=some o)(hc:o.cls= .type T)(n1:T≠ "list")(n2:T≠ "tuple"):c.off b:=by
 cases c with
 |lst a =>
  obtain⟨its,_,o',ho,hc',_⟩:=hs;intro e;rw[e,hb]at ho;cases ho;rw[hc]at hc';injection hc' with q;exact n1 q
 |tup a =>
  obtain⟨its,_,o',ho,hc',_⟩:=hs;intro e;rw[e,hb]at ho;cases ho;rw[hc]at hc';injection hc' with q;exact n2 q
 |txt x=>trivial
theorem Cp.vG{h:qab}{b:h_}(hs:c.src h xs)(hb:h.objs.size<=b):c.off b:=by
 cases c with
 |lst a =>
  obtain⟨its,_,o',ho,_⟩:=hs;exact Y_ (H_ (y_ ho) hb)
 |tup a =>
  obtain⟨its,_,o',ho,_⟩:=hs;exact Y_ (H_ (y_ ho) hb)
 |txt x=>trivial
theorem Cp.jq{h h':qab}{b:h_}(hs:c.src h xs)(hx:Heap.ExtBut b h h')(ho:c.off b):c.src h' xs:=by
 cases c with
 |lst a=>obtain⟨its,r,p⟩:=hs;exact⟨its,r,p.extBut hx ho⟩
 |tup a=>obtain⟨its,r,p⟩:=hs;exact⟨its,r,p.extBut hx ho⟩
 |txt x=>exact hs
theorem Cp.y9{h h':qab}(hs:c.src h xs)(hx:∀b o,h.get? b=some o->h'.get? b=some o):c.src h' xs:=by
 cases c with
 |lst a=>obtain⟨its,r,o,ho,q⟩:=hs;exact⟨its,r,o,hx _ _ ho,q⟩
 |tup a=>obtain⟨its,r,o,ho,q⟩:=hs;exact⟨its,r,o,hx _ _ ho,q⟩
 |txt x=>exact hs
theorem Cp.iP{h:qab}{it:h_}{i:Nat}(q:c.EV h it i):oS λo T vs=>h.get? it=some o/\o.cls= .type T/\o.data= .fields vs/\T≠ "list" /\T≠ "tuple" :=by
 cases c with
 |lst a=>obtain⟨o,ho,hc,hd⟩:=q;exact⟨o,_,_,ho,hc,hd,by decide,by decide⟩
 |tup a=>obtain⟨o,ho,hc,hd⟩:=q;exact⟨o,_,_,ho,hc,hd,by decide,by decide⟩
 |txt x =>
  obtain⟨t,o,ho,hc,hd⟩:=q;refine⟨o,_,_,ho,hc,hd,?_,?_⟩
  ·unfold strIterType;split<;>decide
  ·unfold strIterType;split<;>decide
theorem Cp.fh{h h':qab}{it:h_}{i:Nat}(q:c.EV h it i)(e:∀o,h.get? it=some o->h'.get? it=some o):c.EV h' it i:=by
 cases c with
 |lst a=>obtain⟨o,ho,r⟩:=q;exact⟨o,e _ ho,r⟩
 |tup a=>obtain⟨o,ho,r⟩:=q;exact⟨o,e _ ho,r⟩
 |txt x=>obtain⟨t,o,ho,r⟩:=q;exact⟨t,o,e _ ho,r⟩
end
section
variable{prog:A_}{w:U_}{A:qah}{E:i_->l_->Prop}{s:l_}{c d:Cp}{xs ys:List V}
theorem vH{it t:h_}{i:Nat}{items}{x:i_}{Q:i_->l_->Prop}(hit:s.heap.IsTupleIter it t i)
  (ht:s.heap.IsTuple t items) (hx:items[i]? =some x)
  (hQ:∀h',h'.IsTupleIter it t (i+1)->qa9 it s.heap h'->Q x { s with heap:=h' }) :
  D_ (model prog w) A (qaf (.ref it)) Q E s:=by
 obtain⟨o,ho,hc,hd⟩:=id hit;obtain⟨ol,Xy,_,nl,hdl⟩:=ht;unfold qaf;refine f_ (qaT (name:=z_ "__next__") hit.typeIs qbm
  (qa5 qbm hit.typeIs F.entry_tuple_iterator_next ?_ (F.args_tuple_iterator_next_1 _)))
 show D_ _ _ (field (.ref it) 0 >>= _) _ _ s;refine f_ (qaz ho hd (x:=.ref t) Y ?_)
 show D_ _ _ (if(Value.ref t==Value.none)=true then _ else _) _ _ s
 rw[if_neg (show ¬((Value.ref t==Value.none)=true) from I_)];show D_ _ _ (field (.ref it) 1 >>= _) _ _ s;refine f_ (qaz ho hd (x:=.int i 0) Y ?_);show D_ _ _ (seqItems? (.ref t) >>= _) _ _ s;refine f_ (qa2 Xy hdl ?_);simp only[qaD,hx];refine f_ (qch ho hd (by simp) (q_ ⟨x,Y,q_ (hQ _ ?_ (qbH ..))⟩));exact⟨_,qaw _ ho (qb4 (qbn hd _)),(Obj.cls_mapFields ..).trans hc,by
  rw[qbn hd];simp[rawInt]⟩
theorem wM{it t:h_}{i:Nat}{items}{Q:i_->l_->Prop}(hh:A.handled=none)
  (hit:s.heap.IsTupleIter it t i) (ht:s.heap.IsTuple t items) (hx:items[i]? =none)
  (hE:∀h' e,Heap.ExtBut it s.heap h'->(∃o,h'.get? e=some o/\o.cls= .type "StopIteration")->E (.ref e) { s with heap:=h' }) :
  D_ (model prog w) A (qaf (.ref it)) Q E s:=by
 obtain⟨o,ho,hc,hd⟩:=id hit;obtain⟨ol,Xy,_,nl,hdl⟩:=ht;unfold qaf;refine f_ (qaT (name:=z_ "__next__") hit.typeIs qbm
  (qa5 qbm hit.typeIs F.entry_tuple_iterator_next ?_ (F.args_tuple_iterator_next_1 _)))
 show D_ _ _ (field (.ref it) 0 >>= _) _ _ s;refine f_ (qaz ho hd (x:=.ref t) Y ?_)
 show D_ _ _ (if(Value.ref t==Value.none)=true then _ else _) _ _ s
 rw[if_neg (show ¬((Value.ref t==Value.none)=true) from I_)];show D_ _ _ (field (.ref it) 1 >>= _) _ _ s;refine f_ (qaz ho hd (x:=.int i 0) Y ?_);show D_ _ _ (seqItems? (.ref t) >>= _) _ _ s;refine f_ (qa2 Xy hdl ?_);simp only[qaD,hx];refine f_ (wpAny_rule (f_ (qch ho hd (by simp) ?_)));show D_ _ _ (newExc (.type "StopIteration") [] >>= _) _ _ _;refine f_ ?_;simp only[newExc,newTuple];refine f_ (qb8 ?_ (by size_fits))
 refine f_ (m:=firstArgMember _ _) (wpAny_of_eq (a:=Value.none) (by first|rfl|(simp only[firstArgMember];rfl)) ?_)
 refine qb8 ?_ (by size_fits);simp only[raiseNew];refine f_ (wpAny_handled ?_)
 first|rw[show A.in1.handled=none from hh]|rw[hh]
 refine f_ (q_ (wpAny_throw ?_));exact hE _ _ (((qbH ..).extBut.push _).push _) ⟨_,B_ _ Y,Y⟩
theorem signs_get{x:r_}{i:Nat}{v:V}(h:(gh x)[i]? =some v):∃k,x.cps[i]? =some k/\v= .str ⟨#[k]⟩:=by
 unfold gh at h;rw[n_]at h
 cases e:x.cps.toList[i]? with
 |none=>rw[e]at h;cases h
 |some k =>
  rw[e]at h;exact⟨k,by simpa using e,(qaa h).symm⟩
theorem Ks{x:r_}{i:Nat}(h:(gh x)[i]? =none):x.cps[i]? =none:=by
 unfold gh at h;rw[n_]at h
 cases e:x.cps.toList[i]? with
 |none=>simpa using e
 |some k=>rw[e]at h;cases h
theorem Cp.item{it:h_}{i:Nat}{x:V}{Q:i_->l_->Prop}(hit:c.EV s.heap it i)(hs:c.src s.heap xs)(hx:xs[i]? =some x)
  (hQ:∀u h' tk,RelV x u->c.EV h' it (i+1)->qa9 it s.heap h'->Q u { s with heap:=h',toks:=tk }) :
  D_ (model prog w) A (qaf (.ref it)) Q E s:=by
 cases c with
 |lst a =>
  obtain⟨its,r,p⟩:=hs;obtain⟨u,hu,ru⟩:=r.get hx;exact wpAny_nextOf_list_item hit p (x:=u) (by simpa using hu) λh' q sb=>hQ u h' s.toks ru q sb
 |tup a =>
  obtain⟨its,r,p⟩:=hs;obtain⟨u,hu,ru⟩:=r.get hx;exact vH hit p (x:=u) (by simpa using hu) λh' q sb=>hQ u h' s.toks ru q sb
 |txt x' =>
  obtain⟨t,q⟩:=hit;rw[show xs=gh x' from hs]at hx;obtain⟨k,hk,rfl⟩:=signs_get hx;unfold strIterType at q;by_cases ha:(x'.cps.all (·<128))=true
  ·rw[if_pos ha]at q;exact wpAny_nextOf_ascii_item q hk λh' q' sb=>hQ _ h' _ ⟨_,Y⟩ ⟨t,by unfold strIterType;rw[if_pos ha];exact q'⟩ sb
  ·rw[if_neg ha]at q;exact wpAny_nextOf_wide_item q hk λh' q' sb=>hQ _ h' _ ⟨_,Y⟩ ⟨t,by unfold strIterType;rw[if_neg ha];exact q'⟩ sb
theorem Cp.fin{it:h_}{i:Nat}{Q:i_->l_->Prop}(hh:A.handled=none)(hit:c.EV s.heap it i)(hs:c.src s.heap xs)(hx:xs[i]? =none)
  (hE:∀h' e,Heap.ExtBut it s.heap h'->(∃o,h'.get? e=some o/\o.cls= .type "StopIteration")->E (.ref e) { s with heap:=h' }) :
  D_ (model prog w) A (qaf (.ref it)) Q E s:=by
 cases c with
 |lst a =>
  obtain⟨its,r,p⟩:=hs;exact wpAny_nextOf_list_end hh hit p (by simpa using r.none_of hx) hE
 |tup a =>
  obtain⟨its,r,p⟩:=hs;exact wM hh hit p (by simpa using r.none_of hx) hE
 |txt x' =>
  obtain⟨t,q⟩:=hit;rw[show xs=gh x' from hs]at hx;have hk:=Ks hx;unfold strIterType at q;by_cases ha:(x'.cps.all (·<128))=true
  ·rw[if_pos ha]at q;exact wpAny_nextOf_ascii_end hh q hk hE
  ·rw[if_neg ha]at q;exact wpAny_nextOf_wide_end hh q hk hE
structure pH(z TI TO i1 i2:h_):Prop where
 TIz:TI≠z
 TOz:TO≠z
 i1z:i1≠z
 i2z:i2≠z
 TITO:TI≠TO
 TIi1:TI≠i1
 TIi2:TI≠i2
 TOi1:TO≠i1
 TOi2:TO≠i2
 i12:i1≠i2
structure CV(h:qab)(z TI TO i1 i2:h_)(c d:Cp)(f0:i_)(i:Nat):Prop where
 zz:IsZip h z TI TO f0
 ti:qb5 h TI (.ref i1) (.ref i2)
 to:dI λa b=>qb5 h TO a b
 h1:c.EV h i1 i
 h2:d.EV h i2 i
 c1:c.off TO
 c2:d.off TO
theorem EY{z TI TO i1 i2:h_}{i:Nat}{x y:V}{Q:Option i_->l_->Prop}(D:pH z TI TO i1 i2)(Z:CV s.heap z TI TO i1 i2 c d .none i)
  (sc:c.src s.heap xs) (sd:d.src s.heap ys) (hx:xs[i]? =some x) (hy:ys[i]? =some y)
  (hQ:∀u v h' tk,RelV x u->RelV y v->CV h' z TI TO i1 i2 c d (rawInt s.heap.objs.size) (i+1)->qb5 h' s.heap.objs.size u v →
   (∀b o,b≠z->b≠TO->b≠i1->b≠i2->s.heap.get? b=some o->h'.get? b=some o)->Q (some (.ref s.heap.objs.size)) { s with heap:=h',toks:=tk }) :
  D_ (model prog w) A (pyNext (.ref z)) Q E s:=by
 obtain⟨hz,hTI,⟨a,b,hTO⟩,h1,h2,c1,c2⟩:=id Z;have hT:s.TypeIs (.ref z) "zip" :=⟨_,hz,rfl⟩;obtain⟨WN,T1,_,hi1,Qf,_,Pd,KW⟩:=Cp.iP h1;obtain⟨Y7,T2,_,hi2,ci2,_,n21,n22⟩:=Cp.iP h2;have cz:c.off z:=Cp.jA sc hz rfl (by decide) (by decide);have dz:d.off z:=Cp.jA sd hz rfl (by decide) (by decide);have ci:c.off i1:=Cp.jA sc hi1 Qf Pd KW;have di:d.off i1:=Cp.jA sd hi1 Qf Pd KW;unfold pyNext;refine f_ (qbl (qaT (name:=z_ "__next__") hT qbj
  (qa5 qbj hT qcS ?_ (qcL _))))
 show D_ _ _ (field (.ref z) 2 >>= _) _ _ _;refine f_ (qaz hz Y (x:=.bool false) Y ?_);show D_ _ _ (field (.ref z) 3 >>= _) _ _ _;refine f_ (qaz hz Y (x:=.ref TI) Y ?_);refine f_ (qa2 hTI Y ?_);show D_ _ _ (qak (.ref z) >>= _) _ _ _;refine f_ ?_;unfold qak;refine f_ (qaz hz Y (x:=.none) Y (q_ ?_));simp only[if_true];refine f_ (wpAny_rule ?_);refine f_ (qaz hz Y (x:=.ref TO) Y ?_);refine f_ (qa6 hz (by simp) λh₁ sV hs₁=>?_);replace sV:IsZip h₁ z TI TO .ellipsis:=sV;refine f_ ?_;simp only[List.zipIdx_cons,List.zipIdx_nil,qby,qcK];refine f_ (f_ (wpAny_onRaise ?_));show D_ _ _ (qaf (.ref i1) >>= _) _ _ _;refine f_ (Cp.item (c:=c) (Cp.fh h1 λo e=>hs₁.extBut _ _ D.i1z e) (Cp.jq sc hs₁.extBut cz) hx λu h₂ tk₂ ru JI hs₂=>q_ ?_);have Au:qb5 h₂ TO a b:=hs₂.extBut _ _ D.TOi1 (hs₁.extBut _ _ D.TOz hTO);refine f_ (qa2 Au Y ?_);refine f_ (wpAny_updateSeq_pair Au λh₃ D7 oi=>?_);replace D7:qb5 h₃ TO u b:=D7;refine f_ (wpAny_letGo (q_ ?_));refine f_ (f_ (wpAny_onRaise ?_));show D_ _ _ (qaf (.ref i2) >>= _) _ _ _;refine f_ (Cp.item (c:=d) (Cp.fh h2 λo e=>oi.extBut _ _ D.TOi2.symm (hs₂.extBut _ _ D.i12.symm (hs₁.extBut _ _ D.i2z e))) (Cp.jq (Cp.jq (Cp.jq sd hs₁.extBut dz) hs₂.extBut di) oi.extBut c2) hy λv h₄ tk₄ rv Nv qP=>q_ ?_);have Nu:qb5 h₄ TO u b:=qP.extBut _ _ D.TOi2 D7;refine f_ (qa2 Nu Y ?_);refine f_ (wpAny_updateSeq_pair Nu λh₅ D6 xR=>?_);replace D6:qb5 h₅ TO u v:=D6;refine f_ (wpAny_letGo (q_ (q_ ?_)));refine f_ (qa2 D6 Y ?_);refine f_ (wpAny_newTuple ?_);have hsz:h₅.objs.size=s.heap.objs.size:=by rw[xR.1,qP.1,oi.1,hs₂.1,hs₁.1]
 have QO:IsZip h₅ z TI TO .ellipsis:=xR.extBut _ _ D.TOz.symm (qP.extBut _ _ D.i2z.symm (oi.extBut _ _ D.TOz.symm (hs₂.extBut _ _ D.i1z.symm sV)));have Q0:∀e o,e≠z->e≠TO->e≠i1->e≠i2->s.heap.get? e=some o->h₅.get? e=some o:=λe o e1 e2 e3 e4 q =>
  xR.extBut _ _ e2 (qP.extBut _ _ e4 (oi.extBut _ _ e2 (hs₂.extBut _ _ e3 (hs₁.extBut _ _ e1 q))))
 have X8:c.EV h₅ i1 (i+1):=Cp.fh JI λo e=>xR.extBut _ _ D.TOi1.symm (qP.extBut _ _ D.i12 (oi.extBut _ _ D.TOi1.symm e));have X7:d.EV h₅ i2 (i+1):=Cp.fh Nv λo e=>xR.extBut _ _ D.TOi2.symm e;have Xv:z<h₅.objs.size:=y_ QO;show D_ _ _ (Builtin.SmallTypes.ownedTupleHandOut (.ref z) (.ref h₅.objs.size) >>= _) _ _ _;refine f_ ?_;unfold Builtin.SmallTypes.ownedTupleHandOut;have Xu:IsZip (h₅.push { cls:=.type "tuple",data:=.seq #[u,v] }) z TI TO .ellipsis:=j_ _ QO;refine f_ (qa6 Xu (by simp) λaco Ni QV=>?_);replace Ni:IsZip aco z TI TO (rawInt h₅.objs.size):=Ni;refine qa6 Ni (by simp) λPz JG QU=>?_;replace JG:IsZip Pz z TI TO (rawInt h₅.objs.size):=JG;have up:∀e o,e≠z->h₅.get? e=some o->Pz.get? e=some o:=λe o e1 q=>QU.extBut _ _ e1 (QV.extBut _ _ e1 (j_ _ q));have Q3:qb5 Pz h₅.objs.size u v:=QU.extBut _ _ (qaR Xv) (QV.extBut _ _ (qaR Xv) (B_ _ rfl));rw[hsz]at JG Q3;refine q_ ⟨_,Y,q_ ?_⟩;show Q (some (.ref h₅.objs.size)) _;rw[hsz];exact hQ u v Pz _ ru rv ⟨JG,up _ _ D.TIz (Q0 _ _ D.TIz D.TITO D.TIi1 D.TIi2 hTI),⟨_,_,up _ _ D.TOz D6⟩,Cp.fh X8 λo e=>up _ o D.i1z e,Cp.fh X7 λo e=>up _ o D.i2z e,c1,c2⟩ Q3
  λe o e1 e2 e3 e4 q=>up e o e1 (Q0 e o e1 e2 e3 e4 q)
theorem IW{z TI TO i1 i2:h_}{i:Nat}{Q:Option i_->l_->Prop}(hh:A.handled=none)(D:pH z TI TO i1 i2)(Z:CV s.heap z TI TO i1 i2 c d .none i)
  (sc:c.src s.heap xs) (sd:d.src s.heap ys) (hend:xs[i]? =none\/ys[i]? =none)
  (hQ:∀h' tk,(∀b o,b≠z->b≠TO->b≠i1->b≠i2->s.heap.get? b=some o->h'.get? b=some o)->Q none { s with heap:=h',toks:=tk }) :
  D_ (model prog w) A (pyNext (.ref z)) Q E s:=by
 obtain⟨hz,hTI,⟨a,b,hTO⟩,h1,h2,c1,c2⟩:=id Z;have hT:s.TypeIs (.ref z) "zip" :=⟨_,hz,rfl⟩;obtain⟨WN,T1,_,hi1,Qf,_,Pd,KW⟩:=Cp.iP h1;have cz:c.off z:=Cp.jA sc hz rfl (by decide) (by decide);have dz:d.off z:=Cp.jA sd hz rfl (by decide) (by decide);have ci:c.off i1:=Cp.jA sc hi1 Qf Pd KW;have di:d.off i1:=Cp.jA sd hi1 Qf Pd KW;have stop:∀(h':qab) (e:h_) (tk:Nat),(∃o,h'.get? e=some o/\o.cls= .type "StopIteration")->(∀b o,b≠z->b≠TO->b≠i1->b≠i2->s.heap.get? b=some o->h'.get? b=some o) →
   D_ (model prog w) A (isInstance (.ref e) (.type "StopIteration") >>= λb=>if b=true then pure (none:Option i_)else throw (.ref e)) Q E { s with heap:=h',toks:=tk }:=by
  intro h' e tk he hk;obtain⟨o,ho,hc⟩:=he;refine f_ (wpAny_isInstance (T:= "StopIteration") (b:=true) ⟨o,ho,hc⟩ isSubtype_stop ?_);exact q_ (hQ _ _ hk)
 unfold pyNext;refine f_ (qbl (qaT (name:=z_ "__next__") hT qbj
  (qa5 qbj hT qcS ?_ (qcL _))))
 show D_ _ _ (field (.ref z) 2 >>= _) _ _ _;refine f_ (qaz hz Y (x:=.bool false) Y ?_);show D_ _ _ (field (.ref z) 3 >>= _) _ _ _;refine f_ (qaz hz Y (x:=.ref TI) Y ?_);refine f_ (qa2 hTI Y ?_);show D_ _ _ (qak (.ref z) >>= _) _ _ _;refine f_ ?_;unfold qak;refine f_ (qaz hz Y (x:=.none) Y (q_ ?_));simp only[if_true];refine f_ (wpAny_rule ?_);refine f_ (qaz hz Y (x:=.ref TO) Y ?_);refine f_ (qa6 hz (by simp) λh₁ sV hs₁=>?_);replace sV:IsZip h₁ z TI TO .ellipsis:=sV;refine f_ ?_;simp only[List.zipIdx_cons,List.zipIdx_nil,qby,qcK];refine f_ (f_ (wpAny_onRaise ?_));show D_ _ _ (qaf (.ref i1) >>= _) _ _ _
 cases hx:xs[i]? with
 |none =>
  refine f_ (Cp.fin (c:=c) hh (Cp.fh h1 λo e=>hs₁.extBut _ _ D.i1z e) (Cp.jq sc hs₁.extBut cz) hx λh₂ e hs₂ he=>?_);obtain⟨oe,PL,hce⟩:=he;have QT:IsZip h₂ z TI TO .ellipsis:=hs₂ _ _ D.i1z.symm sV;have hez:e≠z:=λx=>by subst x;rw[QT]at PL;cases PL;simp at hce
  refine qa6 QT (by simp) λh₃ _ oi=>?_;exact stop h₃ e _ ⟨oe,oi.extBut _ _ hez PL,hce⟩ λk o c1 _ c3 _ x=>oi.extBut _ _ c1 (hs₂ _ _ c3 (hs₁.extBut _ _ c1 x))
 |some x =>
  have hy:ys[i]? =none:=by rcases hend with h|h;rw[hx]at h;cases h;exact h
  refine f_ (Cp.item (c:=c) (Cp.fh h1 λo e=>hs₁.extBut _ _ D.i1z e) (Cp.jq sc hs₁.extBut cz) hx λu h₂ tk₂ ru JI hs₂=>q_ ?_);have Au:qb5 h₂ TO a b:=hs₂.extBut _ _ D.TOi1 (hs₁.extBut _ _ D.TOz hTO);refine f_ (qa2 Au Y ?_);refine f_ (wpAny_updateSeq_pair Au λh₃ D7 oi=>?_);refine f_ (wpAny_letGo (q_ ?_));refine f_ (f_ (wpAny_onRaise ?_));show D_ _ _ (qaf (.ref i2) >>= _) _ _ _;refine f_ (Cp.fin (c:=d) hh (Cp.fh h2 λo e=>oi.extBut _ _ D.TOi2.symm (hs₂.extBut _ _ D.i12.symm (hs₁.extBut _ _ D.i2z e))) (Cp.jq (Cp.jq (Cp.jq sd hs₁.extBut dz) hs₂.extBut di) oi.extBut c2) hy λh₄ e qP he=>?_);obtain⟨oe,PL,hce⟩:=he;have QS:IsZip h₄ z TI TO .ellipsis:=qP _ _ D.i2z.symm (oi.extBut _ _ D.TOz.symm (hs₂.extBut _ _ D.i1z.symm sV));have hez:e≠z:=λx=>by subst x;rw[QS]at PL;cases PL;simp at hce
  refine qa6 QS (by simp) λh₅ _ xR=>?_;exact stop h₅ e _ ⟨oe,xR.extBut _ _ hez PL,hce⟩ λk o c1 c2 c3 c4 x=>xR.extBut _ _ c1 (qP _ _ c4 (oi.extBut _ _ c2 (hs₂.extBut _ _ c3 (hs₁.extBut _ _ c1 x))))
noncomputable def Cp.fC(t:Tok):Cp->qa0
 | .lst a=>{ cls:=.type "list_iterator",data:=.fields #[.ref a,.int 0 0] }
 | .tup a=>{ cls:=.type "tuple_iterator",data:=.fields #[.ref a,.int 0 0] }
 | .txt x=>{ cls:=.type (strIterType x),data:=.fields #[.str x t,.int 0 0] }
noncomputable def Cp.value(t:Tok):Cp->i_
 | .lst a=>.ref a
 | .tup a=>.ref a
 | .txt x=>.str x t
theorem Cp.value_of{u:i_}(r:RelV c.val u):∃t,u=c.value t:=by
 cases c with
 |lst a=>exact⟨0,r⟩
 |tup a=>exact⟨0,r⟩
 |txt x=>exact r
theorem Cp.iter{t:Tok}{Q:i_->l_->Prop}(hs:c.src s.heap xs)(hQ:Q (.ref s.heap.objs.size) { s with heap:=s.heap.push (c.fC t) }):D_ (model prog w) A (pyIter (c.value t)) Q E s:=by
 cases c with
 |lst a=>obtain⟨its,_,p⟩:=hs;exact qb7 p hQ
 |tup a=>obtain⟨its,_,p⟩:=hs;exact qbX p hQ
 |txt x=>exact qcM hQ
theorem Cp.JF{t:Tok}{h:qab}{it:h_}(e:h.get? it=some (c.fC t)):c.EV h it 0:=by
 cases c with
 |lst a=>exact⟨_,e,Y,Y⟩
 |tup a=>exact⟨_,e,Y,Y⟩
 |txt x=>exact⟨t,_,e,Y,Y⟩
noncomputable abbrev YV(h:qab)(o1:qa0):qab:=h.push o1
noncomputable abbrev YU(h:qab)(o1 o2:qa0):qab:=(YV h o1).push o2
noncomputable abbrev YT(h:qab)(o1 o2:qa0):qab:=(YU h o1 o2).push { cls:=.type "tuple",data:=.seq #[.ref h.objs.size,.ref (YV h o1).objs.size] }
noncomputable abbrev YS(h:qab)(o1 o2:qa0):qab:=(YT h o1 o2).push { cls:=.type "tuple",data:=.seq #[.none,.none] }
noncomputable abbrev VH(h:qab)(o1 o2:qa0):qab:=(YS h o1 o2).push { cls:=.type "zip",data:=.fields #[.none,.bool false,.bool false,.ref (YU h o1 o2).objs.size,.ref (YT h o1 o2).objs.size] }
theorem K7(c d:Cp)(t1 t2:Tok)(xs ys:List V):
  Meets (Builtin.«zip.__new__» ⟨[.type "zip",c.value t1,d.value t2],[]⟩) (λ_ R s=>c.src s.heap xs/\d.src s.heap ys ∧
   R (.ok (.ret (.ref (YS s.heap (c.fC t1) (d.fC t2)).objs.size))) { s with heap:=VH s.heap (c.fC t1) (d.fC t2) }) :=
 .of_wp λprog w A R s h=>by
  obtain⟨hp,g,dd,tk,os⟩:=s;obtain⟨hl1,hl2,h⟩:=h;have hsub:=sub_zip;have hL1:c.src (Shared.heap ⟨hp,g,dd,tk,os⟩) xs:=hl1;have hL2:d.src (Shared.heap ⟨hp.push (c.fC t1),g,dd,tk,os⟩) ys:=Cp.y9 hl2 λb o e=>j_ _ e
  wp_walk using Cp.iter (t:=t1) hL1,Cp.iter (t:=t2) hL2
  exact⟨_,Y,h⟩
theorem CG{t1 t2:Tok}{Q:i_->l_->Prop}(sc:c.src s.heap xs)(sd:d.src s.heap ys)
  (h:∀h',IsZip h' (s.heap.objs.size+4) (s.heap.objs.size+2) (s.heap.objs.size+3) .none->qb5 h' (s.heap.objs.size+2) (.ref s.heap.objs.size) (.ref (s.heap.objs.size+1)) →
   qb5 h' (s.heap.objs.size+3) .none .none->c.EV h' s.heap.objs.size 0->d.EV h' (s.heap.objs.size+1) 0->(∀b o,s.heap.get? b=some o->h'.get? b=some o)->Q (.ref (s.heap.objs.size+4)) { s with heap:=h' }) :
  D_ (model prog w) A (call (.type "zip") [c.value t1,d.value t2]) Q E s:=by
 refine callType_new F.called_zip (by decide) (F.typeCall_zip_2 _ _) (F.newCall_zip_2 _ _) (λobj=>F.args_object_init_3 obj _ _) F.entry_zip_new
  (K7 c d t1 t2 xs ys) ⟨sc,sd,?_⟩
 have z1:(YV s.heap (c.fC t1)).objs.size=s.heap.objs.size+1:=qaU ..;have z2:(YU s.heap (c.fC t1) (d.fC t2)).objs.size=s.heap.objs.size+2:=by rw[qaU,z1]
 have z3:(YT s.heap (c.fC t1) (d.fC t2)).objs.size=s.heap.objs.size+3:=by rw[qaU,z2]
 have z4:(YS s.heap (c.fC t1) (d.fC t2)).objs.size=s.heap.objs.size+4:=by rw[qaU,z3]
 have it1:(c.fC t1).isFreed=false:=by cases c<;>rfl
 have it2:(d.fC t2).isFreed=false:=by cases d<;>rfl
 have g5:(VH s.heap (c.fC t1) (d.fC t2)).get? (YS s.heap (c.fC t1) (d.fC t2)).objs.size=some _:=B_ _ rfl;have g4:(VH s.heap (c.fC t1) (d.fC t2)).get? (YT s.heap (c.fC t1) (d.fC t2)).objs.size=some _:=j_ _ (B_ _ rfl);have g3:(VH s.heap (c.fC t1) (d.fC t2)).get? (YU s.heap (c.fC t1) (d.fC t2)).objs.size=some _:=j_ _ (j_ _ (B_ _ rfl));have g2:(VH s.heap (c.fC t1) (d.fC t2)).get? (YV s.heap (c.fC t1)).objs.size=some _:=j_ _ (j_ _ (j_ _ (B_ _ it2)));have g1:(VH s.heap (c.fC t1) (d.fC t2)).get? s.heap.objs.size=some _:=j_ _ (j_ _ (j_ _ (j_ _ (B_ _ it1))));show _/\_;rw[z2,z3,z4]at g5;rw[z1,z2]at g3;rw[z3]at g4;rw[z1]at g2;rw[z4];exact⟨⟨_,g5,Y⟩,h _ g5 g3 g4 (Cp.JF g1) (Cp.JF g2) λb o x =>
  j_ _ (j_ _ (j_ _ (j_ _ (j_ _ x))))⟩
end
section
variable{X:Cx}{pins:List (h_×qa0)}{σ:St}{H:Hp}{s:l_}
theorem Inv.moved{h':qab}{t':Nat}{ch:List h_}(I:Inv X pins σ H s)(k:∀b o,b∉ch->s.heap.get? b=some o->h'.get? b=some o)(hf:∀b∈ch,tG X pins H b)(ht:s.toks<=t':=by first|exact k_ _|exact qaE _|assumption|omega):Inv X pins σ H { s with heap:=h',toks:=t' }:=by
 have QJ:∀b u,H b=some u->b∉ch:=λb u e z=>by rw[(hf b z).1]at e;cases e
 refine I.step (g':=s.gens) (d':=s.drawn) (ch:=ch) (λb hb=>?_) (λb o _ _ hc e _=>k b o hc e) (λb o _ _ hc e _=>⟨o.slots,k b o hc e⟩) (λ_ _ _ _ n=>n)
  (λb o hc e=>⟨o,k b o hc e⟩) (λ_ _ e=>e) (λ_ _ _ e=>e) (λb ps e=>⟨#[],by rw[e];simp⟩) (λm hm=>?_) (λb u e=>?_) I.bare (m_ I.up ht)
 ·obtain⟨_,h1,_,h3,h4,h5⟩:=hf b hb;exact⟨h3,h1,h4,h5⟩
 ·obtain⟨o,es,ep,ho,r⟩:=hm;exact⟨o,es,ep,k _ o (λz=>(hf _ z).2.1 Y) ho,r⟩
 ·refine(I.hok b u e).stay (λc v hc q=>k c v ?_ q) (λ_ q=>q) λ_ _ q=>q;rcases hc with z|z
  ·rw[z];exact QJ b u e
  ·exact QJ c _ z
theorem Inv.IY{a:h_}{o:HO}(I:Inv X pins σ H s)(hf:tG X pins H a)(new:cU X.prog X.w (upd H a o) s.heap a o):Inv X pins σ (upd H a o) s:=by
 have hn:=hf.1;have e:s={ s with heap:=s.heap,gens:=s.gens,drawn:=s.drawn,toks:=s.toks }:=rfl;rw[e];refine I.step (ch:=[a]) (λb hb=>?_) (λ_ _ _ _ _ e _=>e) (λ_ o _ _ _ e _=>⟨o.slots,e⟩) (λb _ hc _ n=>?_)
  (λ_ o _ e=>⟨o,e⟩) (λb _ e=>?_) (λb _ _ e=>?_) (λb ps e=>⟨#[],?_⟩) (λ_ hm=>hm) (λb u q=>?_) I.bare I.up
 ·have eb:b=a:=by simpa using hb
  subst eb;obtain⟨_,h1,_,h3,h4,h5⟩:=hf;exact⟨h3,h1,h4,h5⟩
 ·rw[au (λz=>hc (by simp[z]))];exact n
 ·rw[au (bq e hn)];exact e
 ·rw[au (bq e hn)];exact e
 ·rw[au (bq e hn),e];simp
 ·by_cases hb:b=a
  ·subst hb;rw[af]at q;cases q;exact new
  ·rw[au hb]at q;exact(I.hok b u q).stay (λc v _ r=>r) (λc r=>by rw[au (bq r hn)];exact r) λc xs r=>by rw[au (bq r hn)];exact r
noncomputable def YJ(K:PySem.W.Frag)(c d:Cp):It :=
 ⟨λi H=>t9 λxs ys x y=>c.at K H xs/\d.at K H ys/\xs[i]? =some x/\ys[i]? =some y,
  λi H v H'=>oS λp x y=>v= .ref p/\H p=none/\H'=upd H p (.tup [x,y])/\∀xs ys,c.at K H xs->d.at K H ys->xs[i]? =some x/\ys[i]? =some y,
  λi H=>dI λxs ys=>c.at K H xs/\d.at K H ys/\(xs.length<=i\/ys.length<=i)⟩
theorem L7{P:A_}{w:U_}{K:PySem.W.Frag}{elts:List Expr}{k:Nat}{pos:qcq}{c d:Cp}{z TI TO i1 i2:h_}(D:pH z TI TO i1 i2):
  Turn P w K (.Tuple elts k pos) (YJ K c d) [z,TI,TO,i1,i2] z (λi h=>CV h z TI TO i1 i2 c d .none i) where
 mem:=by simp
 obj:=λi h Z b hb=>by
  obtain⟨hz,hTI,⟨a,b',hTO⟩,h1,h2,_,_⟩:=Z;obtain⟨WN,T1,v1,hi1,_,d1,_⟩:=Cp.iP h1;obtain⟨Y7,T2,v2,hi2,_,d2,_⟩:=Cp.iP h2;simp only[G_,W_,or_false]at hb;rcases hb with rfl|rfl|rfl|rfl|rfl
  ·exact⟨_,hz,λv q=>by cases q⟩
  ·exact⟨_,hTI,λv q=>by cases q⟩
  ·exact⟨_,hTO,λv q=>by cases q⟩
  ·exact⟨_,hi1,λv q=>by rw[d1]at q;cases q⟩
  ·exact⟨_,hi2,λv q=>by rw[d2]at q;cases q⟩
 keep:=λi h h' Z kp=>by
  obtain⟨hz,hTI,⟨a,b',hTO⟩,h1,h2,o1,o2⟩:=Z;exact⟨kp z (by simp) _ hz,kp TI (by simp) _ hTI,⟨a,b',kp TO (by simp) _ hTO⟩,Cp.fh h1 λo e=>kp i1 (by simp) o e,Cp.fh h2 λo e=>kp i2 (by simp) o e,o1,o2⟩
 item:=by
  intro X hP hw hK hc i pins s σ H E I hf Z hg;subst hP hw hK;obtain⟨xs,ys,x,y,hx,hy,ex,ey⟩:=hg;have sc:=Cp.o7 I hx;have sd:=Cp.o7 I hy;refine TK.cj (k_ s.toks) (EY D Z sc sd ex ey λu v h' tk ru rv Z' hp kk hup=>⟨_,Y,?_⟩);refine wpAny_letOwnedTupleGo_zip Z'.zz λh'' acr sb=>?_;have hnz:s.heap.objs.size≠z:=qaR (y_ Z.zz);have k2:∀b o,b∉[z,TI,TO,i1,i2]->s.heap.get? b=some o->h''.get? b=some o:=λb o hb e=>by
   simp only[G_,W_,or_false,not_or]at hb;exact sb.extBut _ _ hb.1 (kk b o hb.1 hb.2.2.1 hb.2.2.2.1 hb.2.2.2.2 e)
  have I1:Inv X pins σ H { s with heap:=h'',toks:=tk }:=I.moved k2 hf;have hn:H s.heap.objs.size=none:=I.fresh;have fok:tG X pins H s.heap.objs.size:=I.xg (k_ _) hn;have hp2:qb5 h'' s.heap.objs.size u v:=sb.extBut _ _ hnz hp;have I2:Inv X pins σ (upd H s.heap.objs.size (.tup [x,y])) { s with heap:=h'',toks:=tk } :=
   I1.IY fok ⟨c_,[u,v],.cons ru (.cons rv .nil),⟨_,hp2,rfl,_,rfl⟩⟩
  refine⟨.ref s.heap.objs.size,_,I2,Y,⟨_,x,y,Y,hn,Y,λxs' ys' hx' hy'=>?_⟩,?_,λb hb=>?_⟩
  ·rw[Cp.II I hx' hx,Cp.II I hy' hy];exact⟨ex,ey⟩
  ·obtain⟨_,hTI,⟨a,b',hTO⟩,h1,h2,o1,o2⟩:=Z';exact⟨acr,sb.extBut _ _ D.TIz hTI,⟨a,b',sb.extBut _ _ D.TOz hTO⟩,Cp.fh h1 λo e=>sb.extBut _ _ D.i1z e,Cp.fh h2 λo e=>sb.extBut _ _ D.i2z e,o1,o2⟩
  ·have lt:b<s.heap.objs.size:=by
    obtain⟨hz,hTI,⟨a,b',hTO⟩,h1,h2,_,_⟩:=Z;obtain⟨WN,T1,v1,hi1,_,d1,_⟩:=Cp.iP h1;obtain⟨Y7,T2,v2,hi2,_,d2,_⟩:=Cp.iP h2;simp only[G_,W_,or_false]at hb;rcases hb with rfl|rfl|rfl|rfl|rfl
    ·exact y_ hz
    ·exact y_ hTI
    ·exact y_ hTO
    ·exact y_ hi1
    ·exact y_ hi2
   rw[au (Y_ lt)];exact(hf b hb).1
 done:=by
  intro X hP hw hK hc i pins s σ H E I hf Z hg;subst hP hw hK;obtain⟨xs,ys,hx,hy,he⟩:=hg;refine TK.cj (k_ s.toks) (IW (I.ok.hd hc) D Z (Cp.o7 I hx) (Cp.o7 I hy) (he.imp (λq=>qaj q) λq=>qaj q) λh' tk kk hup=>⟨Y,?_⟩);exact I.moved (λb o hb e=>by
   simp only[G_,W_,or_false,not_or]at hb;exact kk b o hb.1 hb.2.2.1 hb.2.2.2.1 hb.2.2.2.2 e) hf
 self:=λ_ _ _ _ _ Z h=>wpAny_pyIter_zip Z.zz h
theorem yQ(n:Nat):pH (n+4) (n+2) (n+3) n (n+1):=by
 have ne:∀{a b:Nat},a<b->a≠b:=λh=>Y_ h;exact⟨ne (by omega),ne (by omega),ne (by omega),ne (by omega),ne (by omega),(ne (by omega)).symm,(ne (by omega)).symm,(ne (by omega)).symm,(ne (by omega)).symm,ne (by omega)⟩
def ack(K:PySem.W.Frag)(ta:TA):TI:=λσ H R=>ta σ H λvs H1=>t9 λc d xs ys=>vs=[c.val,d.val]/\c.at K H1 xs/\d.at K H1 ys/\R (YJ K c d) H1
theorem ML {a b:Expr}{ta:TA}{p pos:qcq}{elts:List Expr}{k:Nat}{tpos:qcq}(hc:X.calm=true)(hg:Gl X "zip")(hm:X.mg "zip" =none)(ha:PA X [a,b] ta)
  (hs:qac [a,b] X.env=[(false,eval a X.env),(false,eval b X.env)]:=by rfl) (hs2:qac [b] X.env=[(false,eval b X.env)]:=by rfl) :
  PI X (.Tuple elts k tpos) (.Call (.Name "zip" p) [a,b] [] pos) (ack X.K ta):=by
 intro pins s σ H R I h;refine Call_ (qm I hg hm boot_zip (qaL (gg (ha pos pins s σ H _ I h) λus s1 ⟨vs,H1,I1,r1,q1⟩=>?_) (by rw[hs,hs2]) (by rw[hs2];rfl)));obtain⟨c,d,xs,ys,e,hx,hy,q⟩:=q1;subst e;obtain⟨u,v,rfl,ru,rv⟩:=vals2 r1;obtain⟨t1,rfl⟩:=Cp.value_of ru;obtain⟨t2,rfl⟩:=Cp.value_of rv;have sc:=Cp.o7 I1 hx;have sd:=Cp.o7 I1 hy;refine CG sc sd λh' hz hTI hTO h1 h2 kk=>wpAny_pyIter_zip hz ?_;have D:pH (s1.heap.objs.size+4) (s1.heap.objs.size+2) (s1.heap.objs.size+3) s1.heap.objs.size (s1.heap.objs.size+1) :=
  yQ _
 refine⟨_,[s1.heap.objs.size+4,s1.heap.objs.size+2,s1.heap.objs.size+3,s1.heap.objs.size,s1.heap.objs.size+1],_,_,H1,Y,I1.kept (t':=s1.toks) kk,L7 D,
  ⟨hz,hTI,⟨_,_,hTO⟩,h1,h2,Cp.vG sc (qaq _ 3),Cp.vG sd (qaq _ 3)⟩,λb hb=>?_,q⟩
 have le:s1.heap.objs.size<=b:=by
  simp only[G_,W_,or_false]at hb;rcases hb with rfl|rfl|rfl|rfl|rfl
  ·exact qaq _ _
  ·exact qaq _ _
  ·exact qaq _ _
  ·exact k_ _
  ·exact qaq _ _
 exact I1.xg le (I1.hok.fresh le)
end
end
section
noncomputable def YK(x:r_):It:=⟨λi _=>i<x.cps.size,λi H v H'=>H'=H/\∃k,x.cps[i]? =some k/\v= .str ⟨#[k]⟩,λi _=>x.cps.size<=i⟩
section
variable{prog:A_}{w:U_}{A:qah}{E:i_->l_->Prop}{s:l_}
theorem rS{it:h_}{x:r_}{t:Tok}{i k:Nat}{Q:Option i_->l_->Prop}(hit:s.heap.IsStrIter it (strIterType x) x t i)(hx:x.cps[i]? =some k)
  (hQ:∀h',h'.IsStrIter it (strIterType x) x t (i+1)->qa9 it s.heap h'->Q (some (.str ⟨#[k]⟩ s.toks)) { s with heap:=h',toks:=s.toks+1 }):D_ (model prog w) A (pyNext (.ref it)) Q E s:=by
 unfold strIterType at hit hQ;by_cases ha:(x.cps.all (·<128))=true
 ·rw[if_pos ha]at hit hQ;exact wpAny_pyNext_ascii_item hit hx hQ
 ·rw[if_neg ha]at hit hQ;exact wpAny_pyNext_wide_item hit hx hQ
theorem sF{it:h_}{x:r_}{t:Tok}{i:Nat}{Q:Option i_->l_->Prop}(hh:A.handled=none)(hit:s.heap.IsStrIter it (strIterType x) x t i)(hx:x.cps[i]? =none)
  (hQ:∀h',Heap.ExtBut it s.heap h'->Q none { s with heap:=h' }):D_ (model prog w) A (pyNext (.ref it)) Q E s:=by
 unfold strIterType at hit;by_cases ha:(x.cps.all (·<128))=true
 ·rw[if_pos ha]at hit;exact wpAny_pyNext_ascii_end hh hit hx hQ
 ·rw[if_neg ha]at hit;exact wpAny_pyNext_wide_end hh hit hx hQ
theorem sG{it:h_}{x:r_}{t:Tok}{i:Nat}{Q:i_->l_->Prop}(hit:s.heap.IsStrIter it (strIterType x) x t i)(h:Q (.ref it) s):D_ (model prog w) A (pyIter (.ref it)) Q E s:=by
 unfold strIterType at hit;by_cases ha:(x.cps.all (·<128))=true
 ·rw[if_pos ha]at hit;exact wpAny_pyIter_striter_ascii hit h
 ·rw[if_neg ha]at hit;exact wpAny_pyIter_striter_wide hit h
end
theorem wg(x:r_):["enumerate","zip","dict_itemiterator","dict_reverseitemiterator","odict_iterator","itertools.zip_longest","itertools.pairwise"].contains (strIterType x)=false:=by
 unfold strIterType;split<;>decide
theorem E8{P:A_}{w:U_}{K:PySem.W.Frag}{tg:Expr}(x:r_)(t:Tok)(it:h_):Turn P w K tg (YK x) [it] it (λi h=>h.IsStrIter it (strIterType x) x t i) where
 mem:=by simp
 obj:=λi h st b hb=>by
  have e:b=it:=by simpa using hb
  subst e;obtain⟨o,e,c,d⟩:=st;exact⟨o,e,λv z=>by rw[d]at z;cases z⟩
 keep:=λi h h' st k=>by
  obtain⟨o,e,r⟩:=st;exact⟨o,k it (by simp) o e,r⟩
 item:=by
  intro X hP hw hK hc i pins s σ H E I hf st hg;subst hP hw hK;have hi:i<x.cps.size:=hg;obtain⟨f0,f1,f2,f3,f4,f5⟩:=hf it (by simp);refine rS st (k:=x.cps[i]) (by simp[hi]) λh' st' sb=>?_;have I1:Inv X pins σ H { s with heap:=h',toks:=s.toks+1 }:=I.turned (λb o hb e=>(sb.2 b hb).trans e) f0 f1 f3 f4 f5;obtain⟨o,e,c,d⟩:=id st';exact⟨_,Y,Cv (s:={ s with heap:=h',toks:=s.toks+1 }) e c d (wg x) ⟨.str ⟨#[x.cps[i]]⟩,H,I1,⟨_,Y⟩,⟨Y,_,by simp[hi],Y⟩,st',λb hb=>(hf b hb).1⟩⟩
 done:=by
  intro X hP hw hK hc i pins s σ H E I hf st hg;subst hP hw hK;have hi:x.cps.size<=i:=hg;obtain⟨f0,f1,f2,f3,f4,f5⟩:=hf it (by simp);exact sF (I.ok.hd hc) st (by simp[hi]) λh' eb=>⟨Y,I.turned (t':=s.toks) (λb o hb e=>eb b o hb e) f0 f1 f3 f4 f5⟩
 self:=λ_ _ _ _ _ st h=>sG st h
section
variable{X:Cx}{tg:Expr}
def acm(tl:TE):TI:=λσ H R=>tl σ H λv H1=>∃x,v= .str x/\R (YK x) H1
theorem uI{l:Expr}{tl:TE}(hl:PE X l tl):PI X tg l (acm tl):=by
 intro pins s σ H R I h;refine gg (hl pins s σ H _ I h) λv s1 ⟨y,H1,I1,r1,q1⟩=>?_;obtain⟨x,e,q⟩:=q1;subst e;obtain⟨t,rfl⟩:=r1;refine qcM ?_;refine⟨s1.heap.objs.size,[s1.heap.objs.size],_,_,H1,Y,I1.kept (t':=s1.toks) λb o e=>j_ _ e,E8 x t _,⟨_,B_ _ Y,Y,Y⟩,λb hb=>?_,q⟩;have e:b=s1.heap.objs.size:=by simpa using hb
 subst e;exact I1.xg (k_ _) (I1.hok.fresh (k_ _))
theorem PZ{x:r_}{g:TG}{tb:TS}{D:Ends}{σ:St}{H:Hp}(Pv:Nat->St->Hp->Prop)(h0:Pv 0 σ H)
  (hs:∀i k σ H,x.cps[i]? =some k->Pv i σ H->g (.str ⟨#[k]⟩) σ H λσ2 H2=>tb { D with nx:=Pv (i+1),ct:=Pv (i+1),bk:=D.nx } σ2 H2) (hd:∀ σ H,Pv x.cps.size σ H->D.nx σ H) :
  ∃W:Nat->Nat->St->Hp->Prop,(∃m,W 0 m σ H)/\∀i m σ H,W i m σ H →
   ((YK x).stop i H/\D.nx σ H)\/((YK x).go i H/\∃N:St->Hp->Prop,(∀ σ' H',N σ' H'->∃m',m'<m/\W (i+1) m' σ' H')/\∀y H',(YK x).ET i H y H'->g y σ H' λσ2 H2=>tb { D with nx:=N,ct:=N,bk:=D.nx } σ2 H2):=by
 refine⟨λi m σ H=>m=x.cps.size-i/\i<=x.cps.size/\Pv i σ H,⟨x.cps.size,by simp,T_ _,h0⟩,?_⟩;rintro i m σ H ⟨rfl,hi,p⟩;by_cases hlt:i<x.cps.size
 ·refine .inr ⟨hlt,Pv (i+1),λσ' H' p'=>⟨x.cps.size-(i+1),by omega,Y,hlt,p'⟩,λy H' q=>?_⟩;obtain⟨e,k,ek,rfl⟩:=q;subst e;exact hs i k σ _ ek p
 ·have e:i=x.cps.size:=by omega
  subst e;exact .inl ⟨k_ _,hd σ H p⟩
theorem JJ{K:PySem.W.Frag}{c d:Cp}{xs ys:List V}{g:TG}{tb:TS}{D:Ends}{σ:St}{H:Hp}(Pv:Nat->St->Hp->Prop)(h0:Pv 0 σ H)(hl:∀i σ H,i<=min xs.length ys.length->Pv i σ H->c.at K H xs/\d.at K H ys)
  (hs:∀i x y p σ H,xs[i]? =some x->ys[i]? =some y->H p=none->Pv i σ H->g (.ref p) σ (upd H p (.tup [x,y])) λσ2 H2=>tb { D with nx:=Pv (i+1),ct:=Pv (i+1),bk:=D.nx } σ2 H2)
  (hd:∀ σ H,Pv (min xs.length ys.length) σ H->D.nx σ H) :
  ∃W:Nat->Nat->St->Hp->Prop,(∃m,W 0 m σ H)/\∀i m σ H,W i m σ H →
   ((YJ K c d).stop i H/\D.nx σ H)\/((YJ K c d).go i H/\∃N:St->Hp->Prop,(∀ σ' H',N σ' H'->∃m',m'<m/\W (i+1) m' σ' H')/\∀y H',(YJ K c d).ET i H y H'->g y σ H' λσ2 H2=>tb { D with nx:=N,ct:=N,bk:=D.nx } σ2 H2):=by
 refine⟨λi m σ H=>m=min xs.length ys.length-i/\i<=min xs.length ys.length/\Pv i σ H,⟨min xs.length ys.length,by simp,T_ _,h0⟩,?_⟩;rintro i m σ H ⟨rfl,hi,p⟩;obtain⟨zx,zy⟩:=hl i σ H hi p;by_cases hlt:i<min xs.length ys.length
 ·have h1:i<xs.length:=by omega
  have h2:i<ys.length:=by omega
  refine .inr ⟨⟨xs,ys,xs[i],ys[i],zx,zy,by simp[h1],by simp[h2]⟩,Pv (i+1),λσ' H' p'=>⟨min xs.length ys.length-(i+1),by omega,Y,hlt,p'⟩,λv H' q=>?_⟩;obtain⟨a,x,y,rfl,ha,rfl,e⟩:=q;obtain⟨e1,e2⟩:=e xs ys zx zy;exact hs i x y a σ H e1 e2 ha p
 ·have e:i=min xs.length ys.length:=by omega
  subst e;refine .inl ⟨⟨xs,ys,zx,zy,?_⟩,hd σ H p⟩;rcases Nat.le_total xs.length ys.length with q|q
  ·exact .inl (by rw[qb2 q];exact k_ _)
  ·exact .inr (by rw[Nat.min_eq_right q];exact k_ _)
end
end
section
noncomputable def Cp.adr:Cp->List h_
 | .lst a=>[a]
 | .tup a=>[a]
 | .txt _=>[]
theorem Cp.Pa{c:Cp}{b:h_}(h:c.off b):b∉c.adr:=by
 cases c with
 |lst a =>
  intro z;have q:b=a:=by simpa[Cp.adr]using z
  exact h q.symm
 |tup a =>
  intro z;have q:b=a:=by simpa[Cp.adr]using z
  exact h q.symm
 |txt x=>intro z;cases z
theorem Cp.OQ{c:Cp}{xs:List V}{h h':qab}(hs:c.src h xs)(k:∀b∈c.adr,∀o,h.get? b=some o->h'.get? b=some o):c.src h' xs:=by
 cases c with
 |lst a=>obtain⟨its,r,o,ho,q⟩:=hs;exact⟨its,r,o,k a (by simp[Cp.adr]) _ ho,q⟩
 |tup a=>obtain⟨its,r,o,ho,q⟩:=hs;exact⟨its,r,o,k a (by simp[Cp.adr]) _ ho,q⟩
 |txt x=>exact hs
theorem Cp.draws{prog:A_}{w:U_}{A:qah}{c:Cp}{xs:List V}(hh:A.handled=none)(it:h_):
  Draws prog w A it (it::c.adr) xs.length (λi v=>∃x,xs[i]? =some x/\RelV x v) (λi h=>c.EV h it i/\c.src h xs) where
 live:=λi h st=>by
  obtain⟨o,_,_,ho,_⟩:=Cp.iP st.1;exact⟨o,ho⟩
 frame:=λi h h' st k=>⟨Cp.fh st.1 λo e=>k it (by simp) o e,Cp.OQ st.2 λb hb o e=>k b (J_ _ hb) o e⟩
 item:=λi s Q E hi st hQ=>by
  obtain⟨o,T,_,ho,hc,_,n1,n2⟩:=Cp.iP st.1;have off:c.off it:=Cp.jA st.2 ho hc n1 n2;refine Cp.item st.1 st.2 (x:=xs[i]) (by simp[hi]) λu h' tk ru q sb=>?_;exact hQ u h' tk ⟨_,by simp[hi],ru⟩ ⟨q,Cp.jq st.2 sb.extBut off⟩ sb
 done:=λs Q E st hE=>Cp.fin hh st.1 st.2 (by simp) hE
noncomputable def YM(K:PySem.W.Frag)(c:Cp):It :=
 ⟨λi H=>dI λxs x=>c.at K H xs/\xs[i]? =some x,
  λi H v H'=>dI λp x=>v= .ref p/\H p=none/\H'=upd H p (.tup [.int (i:Int),x])/\∀xs,c.at K H xs->xs[i]? =some x,
  λi H=>∃xs,c.at K H xs/\xs.length<=i⟩
theorem Kl{P:A_}{w:U_}{K:PySem.W.Frag}{elts:List Expr}{k:Nat}{pos:qcq}{c:Cp}{e it:h_}(hei:e≠it):
  Turn P w K (.Tuple elts k pos) (YM K c) [e,it] e (λi h=>(∃old,IsEnum h e it i old)/\c.EV h it i) where
 mem:=by simp
 obj:=λi h Z b hb=>by
  obtain⟨⟨old,he⟩,hi⟩:=Z;obtain⟨o,_,vs,ho,_,d,_⟩:=Cp.iP hi;simp only[G_,W_,or_false]at hb;rcases hb with rfl|rfl
  ·exact⟨_,he,λv q=>by cases q⟩
  ·exact⟨_,ho,λv q=>by rw[d]at q;cases q⟩
 keep:=λi h h' Z kp=>by
  obtain⟨⟨old,he⟩,hi⟩:=Z;exact⟨⟨old,kp e (by simp) _ he⟩,Cp.fh hi λo q=>kp it (by simp) o q⟩
 item:=by
  intro X hP hw hK hc i pins s σ H E I hf Z hg;subst hP hw hK;obtain⟨xs,x,hx,ex⟩:=hg;obtain⟨⟨old,he⟩,hi⟩:=id Z;have sc:=Cp.o7 I hx;have abS:c.off e:=Cp.jA sc he rfl (by decide) (by decide);have hlt:i<xs.length:=(p_.mp ex).1;have hh:X.A.in1.handled=none:=I.ok.hd hc;refine TK.cj (k_ s.toks) (wpAny_pyNext_enum_itemD (Cp.draws (c:=c) (xs:=xs) hh it) he ⟨hi,sc⟩ hlt hei (λz=>?_) λu h' tk hP ho st' hT hsz kk hup=>⟨_,Y,?_⟩)
  ·rcases G_.mp z with q|q
   ·exact hei q
   ·exact Cp.Pa abS q
  ·obtain⟨x',ex',ru⟩:=hP;rw[ex]at ex';cases ex';refine wpAny_letOwnedTupleGo_enum ho λh'' acX sb=>?_;have hne:s.heap.objs.size≠e:=qaR (y_ he);have k2:∀b o,b∉[e,it]->s.heap.get? b=some o->h''.get? b=some o:=λb o hb q=>by
    simp only[G_,W_,or_false,not_or]at hb;exact sb.extBut _ _ hb.1 (kk b o hb.1 hb.2 q)
   have I1:Inv X pins σ H { s with heap:=h'',toks:=tk+1 }:=I.moved k2 hf (by have z:s.toks<=tk+1:=hup;exact z);have hn:H s.heap.objs.size=none:=I.fresh;have fok:tG X pins H s.heap.objs.size:=I.xg (k_ _) hn;have hp2:h''.get? s.heap.objs.size=some { cls:=.type "tuple",data:=.seq #[.int i tk,u] }:=sb.extBut _ _ hne hT;have I2:Inv X pins σ (upd H s.heap.objs.size (.tup [.int (i:Int),x])) { s with heap:=h'',toks:=tk+1 } :=
    I1.IY fok ⟨c_,[.int i tk,u],.cons ⟨_,rfl⟩ (.cons ru .nil),⟨_,hp2,rfl,_,rfl⟩⟩
   refine⟨.ref s.heap.objs.size,_,I2,Y,⟨_,x,Y,hn,Y,λxs' hx'=>?_⟩,⟨⟨_,acX⟩,Cp.fh st'.1 λo q=>sb.extBut _ _ (Ne.symm hei) q⟩,λb hb=>?_⟩
   ·rw[Cp.II I hx' hx];exact ex
   ·obtain⟨o,_,vs,hoi,_⟩:=Cp.iP hi;have lt:b<s.heap.objs.size:=by
     have hb':=hb;simp only[G_,W_,or_false]at hb';rcases hb' with rfl|rfl
     ·exact y_ he
     ·exact y_ hoi
    rw[au (Y_ lt)];exact(hf b hb).1
 done:=by
  intro X hP hw hK hc i pins s σ H E I hf Z hg;subst hP hw hK;obtain⟨xs,hx,hle⟩:=hg;obtain⟨⟨old,he⟩,hi⟩:=Z;have hh:X.A.in1.handled=none:=I.ok.hd hc;have hT:s.TypeIs (.ref e) "enumerate" :=⟨_,he,rfl⟩;unfold pyNext;refine f_ (qbl (qaT (name:=z_ "__next__") hT F.slot_enumerate_next
   (qa5 F.slot_enumerate_next hT F.entry_enumerate_next ?_ (F.args_enumerate_next_1 _))))
  show D_ _ _ (field (.ref e) 2 >>= _) _ _ _;refine f_ (qaz he Y (x:=.ref it) Y ?_);refine f_ (Cp.fin hh hi (Cp.o7 I hx) (qaj hle) λh' y eb hy=>?_);obtain⟨o,ho,hcl⟩:=hy;refine f_ (wpAny_isInstance (T:= "StopIteration") (b:=true) ⟨o,ho,hcl⟩ isSubtype_stop ?_);refine q_ ⟨Y,I.moved (t':=s.toks) (ch:=[e,it]) (λb o hb q=>eb b o ?_ q) hf⟩;simp only[G_,W_,or_false,not_or]at hb;exact hb.2
 self:=λ_ _ _ _ _ Z h=>by
  obtain⟨⟨old,he⟩,_⟩:=Z;exact wpAny_pyIter_enum he h
section
variable{prog:A_}{w:U_}{A:qah}{E:i_->l_->Prop}{s:l_}
set_option maxHeartbeats 1000000 in
theorem Ae(l:h_)(items:Array i_)(n:Nat)(dct:Option h_)(sl:Array (Option i_)):
  Meets (Builtin.«enumerate.__new__» ⟨[.type "enumerate",.ref l],[]⟩) (λ_ R s=>s.heap.get? l=some { cls:=.type "tuple",dict:=dct,data:=.seq items n,slots:=sl } ∧
   R (.ok (.ret (.ref (s.heap.push { cls:=.type "tuple_iterator",data:=.fields #[.ref l,.int 0 0] }).objs.size)))
    { s with heap:=(s.heap.push { cls:=.type "tuple_iterator",data:=.fields #[.ref l,.int 0 0] }).push { cls:=.type "enumerate",data:=.fields #[.none,.bool false,.ref s.heap.objs.size,rawInt 0,.none,.none] } }) :=
 .of_wp λprog w A R s h=>by
  obtain⟨hp,g,d,tk,os⟩:=s;obtain⟨hl,h⟩:=h;have hsub:=sub_enumerate;have hL:Heap.IsTuple (Shared.heap ⟨hp,g,d,tk,os⟩) l items:=⟨_,hl,rfl,n,rfl⟩
  wp_walk using qbG hl
  refine wpAny_stack_any λst=>q_ ?_;split
  ·rename_i c _ _ _ _ _
   cases (c==Value.type "enumerate")
   ·wp_walk using qbG hl,qbX hL
    exact⟨_,Y,h⟩
   ·wp_walk using qbG hl,qbX hL
    exact⟨_,Y,h⟩
  ·wp_walk using qbG hl,qbX hL
   exact⟨_,Y,h⟩
theorem BF{l:h_}{items:Array i_}{Q:i_->l_->Prop}(hL:s.heap.IsTuple l items)
  (h:∀h',IsEnum h' (s.heap.objs.size+1) s.heap.objs.size 0 .none->h'.IsTupleIter s.heap.objs.size l 0 →
   (∀b o,s.heap.get? b=some o->h'.get? b=some o)->Q (.ref (s.heap.objs.size+1)) { s with heap:=h' }) :
  D_ (model prog w) A (call (.type "enumerate") [.ref l]) Q E s:=by
 obtain⟨⟨c,dct,dt,sl⟩,hl,hc,n,hd⟩:=hL;replace hc:c= .type "tuple" :=hc;replace hd:dt= .seq items n:=hd;subst hc hd;refine callType_new F.called_enumerate (by decide) (F.typeCall_enumerate_1 _) (F.newCall_enumerate_1 _) (λobj=>F.args_object_init_2 obj _) F.entry_enumerate_new
  (Ae l items n dct sl) ⟨hl,?_⟩
 have hz:(s.heap.push { cls:=.type "tuple_iterator",data:=.fields #[.ref l,.int 0 0] }).objs.size=s.heap.objs.size+1:=qaU ..;show _/\_;rw[hz];have he:IsEnum ((s.heap.push { cls:=.type "tuple_iterator",data:=.fields #[.ref l,.int 0 0] }).push
   { cls:=.type "enumerate",data:=.fields #[.none,.bool false,.ref s.heap.objs.size,rawInt 0,.none,.none] }) (s.heap.objs.size+1) s.heap.objs.size 0 .none:=by
  have:=B_ (s.heap.push { cls:=.type "tuple_iterator",data:=.fields #[.ref l,.int 0 0] })
   (o:={ cls:=.type "enumerate",data:=.fields #[.none,.bool false,.ref s.heap.objs.size,rawInt 0,.none,.none] }) rfl
  rw[hz]at this;exact this
 exact⟨⟨_,he,Y⟩,h _ he ⟨_,j_ _ (B_ _ Y),Y,Y⟩ λb o x=>j_ _ (j_ _ x)⟩
theorem ID{c:Cp}{xs:List V}{t:Tok}{Q:i_->l_->Prop}(sc:c.src s.heap xs)
  (h:∀h',IsEnum h' (s.heap.objs.size+1) s.heap.objs.size 0 .none->c.EV h' s.heap.objs.size 0->(∀b o,s.heap.get? b=some o->h'.get? b=some o)->Q (.ref (s.heap.objs.size+1)) { s with heap:=h' }) :
  D_ (model prog w) A (call (.type "enumerate") [c.value t]) Q E s:=by
 cases c with
 |lst a=>obtain⟨its,_,p⟩:=sc;exact call_enumerate_list p λh' a b _ k=>h h' a b k
 |tup a=>obtain⟨its,_,p⟩:=sc;exact BF p λh' a b k=>h h' a b k
 |txt x=>exact call_enumerate_str λh' a b _ k=>h h' a ⟨t,b⟩ k
end
section
variable{X:Cx}
def Xs(K:PySem.W.Frag)(ta:TA):TI:=λσ H R=>ta σ H λvs H1=>dI λc xs=>vs=[c.val]/\c.at K H1 xs/\R (YM K c) H1
theorem Jv {a:Expr}{ta:TA}{p pos:qcq}{elts:List Expr}{k:Nat}{tpos:qcq}(hg:Gl X "enumerate")(hm:X.mg "enumerate" =none)(ha:PA X [a] ta)
  (hs:qac [a] X.env=[(false,eval a X.env)]:=by rfl):PI X (.Tuple elts k tpos) (.Call (.Name "enumerate" p) [a] [] pos) (Xs X.K ta):=by
 intro pins s σ H R I h;refine Call_ (qm I hg hm boot_enumerate (qaL (gg (ha pos pins s σ H _ I h) λus s1 ⟨vs,H1,I1,r1,q1⟩=>?_) hs Y));obtain⟨c,xs,e,hx,q⟩:=q1;subst e;obtain⟨u,rfl,ru⟩:=vals1 r1;obtain⟨t,rfl⟩:=Cp.value_of ru;have sc:=Cp.o7 I1 hx;refine ID sc λh' he hi kk=>wpAny_pyIter_enum he ?_;have hei:s1.heap.objs.size+1≠s1.heap.objs.size:=qaR (qbM _);refine⟨_,[s1.heap.objs.size+1,s1.heap.objs.size],_,_,H1,Y,I1.kept (t':=s1.toks) kk,Kl hei,⟨⟨_,he⟩,hi⟩,λb hb=>?_,q⟩;have le:s1.heap.objs.size<=b:=by
  simp only[G_,W_,or_false]at hb;rcases hb with rfl|rfl
  ·exact qaq _ _
  ·exact k_ _
 exact I1.xg le (I1.hok.fresh le)
theorem Gj{K:PySem.W.Frag}{c:Cp}{xs:List V}{g:TG}{tb:TS}{D:Ends}{σ:St}{H:Hp}(Pv:Nat->St->Hp->Prop)(h0:Pv 0 σ H)(hl:∀i σ H,i<=xs.length->Pv i σ H->c.at K H xs)
  (hs:∀(i:Nat) x p σ H,xs[i]? =some x->H p=none->Pv i σ H->g (.ref p) σ (upd H p (.tup [.int (i:Int),x])) λσ2 H2=>tb { D with nx:=Pv (i+1),ct:=Pv (i+1),bk:=D.nx } σ2 H2)
  (hd:∀ σ H,Pv xs.length σ H->D.nx σ H) :
  ∃W:Nat->Nat->St->Hp->Prop,(∃m,W 0 m σ H)/\∀i m σ H,W i m σ H →
   ((YM K c).stop i H/\D.nx σ H)\/((YM K c).go i H/\∃N:St->Hp->Prop,(∀ σ' H',N σ' H'->∃m',m'<m/\W (i+1) m' σ' H')/\∀y H',(YM K c).ET i H y H'->g y σ H' λσ2 H2=>tb { D with nx:=N,ct:=N,bk:=D.nx } σ2 H2):=by
 refine⟨λi m σ H=>m=xs.length-i/\i<=xs.length/\Pv i σ H,⟨xs.length,by simp,T_ _,h0⟩,?_⟩;rintro i m σ H ⟨rfl,hi,p⟩;have zx:=hl i σ H hi p;by_cases hlt:i<xs.length
 ·refine .inr ⟨⟨xs,xs[i],zx,by simp[hlt]⟩,Pv (i+1),λσ' H' p'=>⟨xs.length-(i+1),by omega,Y,hlt,p'⟩,λv H' q=>?_⟩;obtain⟨a,x,rfl,ha,rfl,e⟩:=q;exact hs i x a σ H (e xs zx) ha p
 ·have e:i=xs.length:=by omega
  subst e;exact .inl ⟨⟨xs,zx,k_ _⟩,hd σ H p⟩
end
end
section
set_option maxRecDepth 100000
noncomputable def met(val:Nat->r_)(i:Nat):List r_:=((K_ i).map val).foldl qcT []
theorem Ac(val:Nat->r_):met val 0=[]:=rfl
theorem sM(val:Nat->r_)(i:Nat):met val (i+1)=qcT (met val i) (val i):=by
 unfold met;rw[qbz,N_,qcN];rfl
theorem uh(val:Nat->r_):∀i,(met val i).length<=i
 | 0=>by rw[Ac];exact k_ _
 |i+1=>by
  rw[sM];have ih:=uh val i;unfold qcT;split
  ·omega
  ·rw[o_,qa3];omega
theorem vJ(σ:List r_)(v k:r_):(qcT σ v).any (·==k)=(σ.any (·==k)||decide (k=v)):=by
 unfold qcT;by_cases h:σ.any (·==v)=true
 ·rw[if_pos h];by_cases e:k=v
  ·subst e;rw[h];simp
  ·simp[e]
 ·rw[if_neg h,List.any_append];by_cases e:k=v
  ·subst e;simp
  ·have hb:(v==k)=false:=by simpa[beq_iff_eq]using(λh':v=k=>e h'.symm)
   simp[hb,e]
theorem rT(σ:List r_)(v:r_):(qcT σ v).length=if σ.any (·==v)then σ.length else σ.length+1:=by
 unfold qcT;split<;>simp
section
variable{prog:A_}{w:U_}{A:qah}{R:Result->l_->Prop}{I:h_}{fp wr:List h_}{G:Array GenState->Array GenState->Prop}{n:Nat}{P:Nat->i_->Prop}{St:Nat->l_->Prop}
theorem Dl(W:WalksS prog w A.in1 I fp wr G n P St)(S:h_)(hSf:S∉fp)(val:Nat->r_)(hval:∀i v,P i v->∃t,v= .str (val i) t)(hb:n+1<scanBound):
  ∀(k i:Nat) (s:l_),n-i=k->i<=n->St i s->s.heap.SetOf (strKind prog w) S (λk'=>(met val i).any (·==k')) (met val i).length →
   (∀s',Moved (S::wr) G s s'->s'.heap.SetOf (strKind prog w) S (λk'=>(met val n).any (·==k')) (met val n).length->R (.ok (.ret .none)) s') →
   codeAny (model prog w) A (.builtin "set.update.loop" ⟨[.ref S,.ref I],[]⟩) R s:=by
 have hSw:S∉wr:=λh=>hSf (W.sub _ h);have hsub:∀b∈wr,b∈S::wr:=λb hb=>J_ _ hb;intro k
 induction k with
 |zero =>
  intro i s hk hi hst hS hR;have hin:i=n:=by omega
  subst hin;refine qbA PyProof.Rows.F.entry_set_update_loop ?_;rw[qbb qbk _];show D_ _ A.in1 (pyNext (.ref I) >>= _) _ _ s;refine f_ (W.done s _ _ hst λs' hm=>?_);show D_ _ A.in1 (ret Value.none) _ _ s';exact q_ (hR s' (hm.mono hsub) (by
   obtain⟨o,es,ep,t,ho,rest⟩:=hS;exact⟨o,es,ep,t,hm.heap S _ hSw ho,rest⟩))
 |succ k ih =>
  intro i s hk hi hst hS hR;have hlt:i<n:=by omega
  refine qbA PyProof.Rows.F.entry_set_update_loop ?_;rw[qbb qbk _];show D_ _ A.in1 (pyNext (.ref I) >>= _) _ _ s;refine f_ (W.item i s _ _ hlt hst λv s' hP acA hm=>?_);obtain⟨t,rfl⟩:=hval i v hP;have hS':s'.heap.SetOf (strKind prog w) S (λk'=>(met val i).any (·==k')) (met val i).length:=by
   obtain⟨o,es,ep,tb,ho,rest⟩:=hS;exact⟨o,es,ep,tb,hm.heap S _ hSw ho,rest⟩
  show D_ _ A.in1 (holding [Value.str (val i) t] (setAdd S (.str (val i) t)) >>= _) _ _ s';refine f_ (qaF ?_);unfold setAdd;refine qaF ?_;refine f_ ((strKind prog w).pyHash (k:=val i) (strKind_is _ _ _ _) ?_);have hroom:(met val i).length+1<scanBound:=by have:=uh val i;omega
  refine wpAny_setAddHashed_of (knd:=strKind prog w) (s:={ s' with toks:=s'.toks+1 }) (strKind_is _ _ _ _) Y hS' hroom λh' hsb AZ=>?_;have hSi:h'.SetOf (strKind prog w) S (λk'=>(met val (i+1)).any (·==k')) (met val (i+1)).length :=
   SetOf_congr AZ (λk'=>by rw[sM,vJ]) (by rw[sM,rT])
  refine q_ ⟨plainId_quiet qbk _,ih (i+1) _ (by omega) hlt (W.frame _ s' _ _ acA (qaE _) λb hb o e=>?_) hSi λs'' acO adb=>?_⟩
  ·rw[hsb.2 b (λh:b=S=>hSf (by rw[←h];exact hb))];exact e
  ·refine hR s'' (Moved.trans W.gtrans ((hm.mono hsub).then_heap (qaE _) λb o hb e=>?_) acO) adb;rw[hsb.2 b (λh:b=S=>hb (by rw[h];exact L_))];exact e
end
noncomputable def ow(x:r_)(i:Nat):r_:=⟨#[x.cps.getD i 0]⟩
theorem Kh{prog:A_}{w:U_}{A:qah}(hh:A.handled=none)(I:h_)(x:r_)(t:Tok):
  Walks prog w A I [I] [I] x.cps.size (λi v=>∃u,v= .str (ow x i) u) (λi h=>h.IsStrIter I (strIterType x) x t i) where
 sub:=λ_ hb=>hb
 frame:=λ_ _ _ st hk=>let ⟨o,ho,r⟩:=st;⟨o,hk I (by simp) o ho,r⟩
 item:=λi s Q E hi st hQ=>by
  refine rS st (k:=x.cps.getD i 0) (by simp[hi]) λh' acS hs'=>?_;exact hQ _ h' (s.toks+1) ⟨_,Y⟩ acS λb o hb e=>hs'.extBut b o (λh=>hb (by simp[h])) e
 done:=λs Q E st hQ=>sF hh st (by simp) λh' he'=>hQ h' s.toks λb o hb e=>he' b o (λh=>hb (by simp[h])) e
 self:=λ_ _ _ _ st hQ=>sG st hQ
theorem Df:isSubtype (.type "str") (.type "set")=pure false:=by rw[isSubtype_type];kernel_rfl
theorem uA:isSubtype (.type "str") (.type "frozenset")=pure false:=by rw[isSubtype_type];kernel_rfl
section
variable{prog:A_}{w:U_}{A:qah}{E:i_->l_->Prop}{s:l_}
set_option maxHeartbeats 3200000 in
theorem Ef{x:r_}{t:Tok}{Q:i_->l_->Prop}(hh:A.handled=none)(hb:x.cps.size+1<scanBound)
  (h:∀(h':qab) (tk:Nat),h'.SetOf (strKind prog w) s.heap.objs.size (λk'=>(met (ow x) x.cps.size).any (·==k')) (met (ow x) x.cps.size).length →
   (∀b o,b<s.heap.objs.size->s.heap.get? b=some o->h'.get? b=some o)->Q (.ref s.heap.objs.size) { s with heap:=h',toks:=tk }) :
  D_ (model prog w) A (call (.type "set") [.str x t]) Q E s:=by
 obtain⟨c,tl,agh⟩:=F.called_set.mro;have hmade:=F.called_set.made;have hsub:=F.called_set.sub;refine qbV (codeAny_of_tree ?_);show D_ _ _ (callAny (.type "set") _) _ _ _;refine q_ ⟨Code.quiet_builtin _ (by decide +kernel),qbA F.entry_type_call ?_⟩;rw[Around.under_plain (weight_type_call_type "set" [.str x t] []) rfl];have h1:=F.called_set.notType;have h2:=F.called_set.canCreate;have hct:=F.typeCall_set_1 (.str x t)
 repeat (any_goals (first|assumption|wp_step))
 refine qbC (code_set_new_1 (.str x t) (E:=E) (Q₁:=λobj s₁=>∃led:Bool,obj= .ref s.heap.objs.size/\s₁={ s with heap:=s.heap.push { cls:=.type "set",dict:=none,data:=.set #[] 0 (.fresh 0 0 led) } }) λled=>⟨led,Y,Y⟩) λr s₁ hr=>?_
 cases r with
 |error e=>exact hr
 |ok fl =>
  cases fl with
  |ret obj =>
   obtain⟨led,rfl,rfl⟩:=hr;have hS:(s.heap.push { cls:=.type "set",dict:=none,data:=.set #[] 0 (.fresh 0 0 led) }).get? s.heap.objs.size=some { cls:=.type "set",dict:=none,data:=.set #[] 0 (.fresh 0 0 led) }:=B_ _ rfl;have hT:Shared.TypeIs { s with heap:=s.heap.push { cls:=.type "set",dict:=none,data:=.set #[] 0 (.fresh 0 0 led) } } (.ref s.heap.objs.size) "set" :=⟨_,hS,rfl⟩;have hli:=F.called_set.init.lookup;have hbi:=F.called_set.init.bind (.ref s.heap.objs.size)
   repeat (any_goals (first|assumption|wp_step))
   refine qbC (qbE (R:=wants (λr s₂=>r= .none/\dI λh' tk=>s₂={ s with heap:=h',toks:=tk } ∧
     h'.SetOf (strKind prog w) s.heap.objs.size (λk'=>(met (ow x) x.cps.size).any (·==k')) (met (ow x) x.cps.size).length ∧
     (∀b o,b<s.heap.objs.size->s.heap.get? b=some o->h'.get? b=some o)) E) F.called_set.init.plain F.entry_set_init (check_set_init_1 hT ?_)) λr₂ s₂ Nl=>?_
   ·have af9:=Df;have aga:=uA;have hne:(Value.type "str" ==Value.type "dict")=false:=by decide
    unfold Builtin.«set.__init__» noKeywords Builtin.Frozenset.updateFrom;generalize hPI:pyIter=PI
    wp_walk
    subst hPI;refine qcM ?_;refine f_ (wpAny_runValue ?_);have hh3:A.in1.in1.in1.handled=none:=by simp[hh]
    have hSf:s.heap.objs.size∉[(s.heap.push { cls:=.type "set",dict:=none,data:=.set #[] 0 (.fresh 0 0 led) }).objs.size]:=by
     rw[qaU];simp only[w_];exact Y_ (qbM _)
    refine Dl ((Kh hh3 _ x t).toS) s.heap.objs.size hSf (ow x) (λi v hv=>hv) hb (x.cps.size-0) 0 _ (by omega) (T_ _)
     ⟨_,B_ _ rfl,rfl,rfl⟩ ?hS0 ?hR
    case hS0 =>
     have hget:((s.heap.push { cls:=.type "set",dict:=none,data:=.set #[] 0 (.fresh 0 0 led) }).push { cls:=.type (strIterType x),data:=.fields #[.str x t,.int 0 0] }).get? s.heap.objs.size
       = some { cls:=.type "set",dict:=none,data:=.set #[] 0 (.fresh 0 0 led) }:=j_ _ hS
     exact SetOf_congr ((setObjOf_fresh (knd:=strKind prog w) led).setOf hget (by unfold scanBound;omega)) (λ_=>rfl) Y
    case hR =>
     intro s' hm hS';obtain⟨h',g',d',tk',os'⟩:=s';have eg:g'=s.gens:=hm.gens;have ed:d'=s.drawn:=hm.drawn;have eo:os'=s.os:=hm.os;subst eg;subst ed;subst eo;show D_ _ _ _ _ _ _;refine q_ ?_;show D_ _ _ (ret Value.none) _ _ _;refine q_ ⟨Y,h',tk',Y,hS',λb o hb e=>?_⟩;have hb1:b≠s.heap.objs.size:=Y_ hb;have hb2:b≠(s.heap.push { cls:=.type "set",dict:=none,data:=.set #[] 0 (.fresh 0 0 led) }).objs.size:=by
      rw[qaU];exact Y_ (Nat.lt_succ_of_lt hb)
     exact hm.heap b o (by simp only[G_,w_,W_,or_false,not_or];exact⟨hb1,hb2⟩) (j_ _ (j_ _ e))
   ·cases r₂ with
    |error e=>exact Nl
    |ok Yd =>
     cases Yd with
     |ret r =>
      obtain⟨rfl,h',tk,rfl,hS',hk'⟩:=Nl
      repeat (any_goals (first|assumption|wp_step))
      exact h _ _ hS' hk'
     |_=>exact Nl.elim
  |_=>exact hr.elim
end
end
section
noncomputable def Wu(P:A_)(w:U_)(a:h_)(n:Nat):HO:=.ext λh=>∃S,h.SetOf (strKind P w) a S n
section
variable{X:Cx}
theorem Lq(hc:X.calm=true):mL X (.type "set") (λxs H Q=>∃x,xs=[.str x]/\x.cps.size+1<scanBound/\∀p,H p=none->Q (.ref p) (upd H p (Wu X.prog X.w p (met (ow x) x.cps.size).length))):=by
 intro pins s σ H xs us Q I r h;obtain⟨x,rfl,hb,q⟩:=h;obtain⟨u,rfl,t,rfl⟩:=vals1 r;refine TK.cj (k_ s.toks) (Ef (I.ok.hd hc) hb λh' tk hS kk hup=>?_);have hn:H s.heap.objs.size=none:=I.fresh;have k:∀b o,s.heap.get? b=some o->h'.get? b=some o:=λb o e=>kk b o (y_ e) e;refine⟨.ref s.heap.objs.size,_,I.laid (t':=tk) k (k_ _) ?_,Y,q _ hn⟩;refine⟨⟨_,hS⟩,?_,λh1 h2 p e=>?_⟩
 ·obtain⟨o,_,_,_,ho,_⟩:=hS;exact⟨o,ho⟩
 ·obtain⟨S,o,es,ep,t,ho,rest⟩:=p;exact⟨S,o,es,ep,t,e o ho,rest⟩
theorem BE:mL X (.builtin "len") (λxs H Q=>dI λp n=>xs=[.ref p]/\H p=some (Wu X.prog X.w p n)/\Q (.int (n:Nat)) H):=by
 intro pins s σ H xs us Q I r h;obtain⟨p,n,rfl,hp,q⟩:=h;obtain⟨u,rfl,ru⟩:=vals1 r;cases ru;obtain⟨⟨S,o,es,ep,t,ho,hex,hd,_,_,hz,hf,hn⟩,_⟩:=I.hok p _ hp;subst hn;have:es.size<4096:=hz;exact call_len_set ho hex hd hf (by omega) ⟨.int es.size,H,I.tok _,⟨_,Y⟩,q⟩
def Bg(i:Int):Prop:=i.natAbs<2 ^ 9000
theorem Bg.log{i:Int}(h:Bg i):i.natAbs.log2<9000:=by
 rcases Nat.eq_zero_or_pos i.natAbs with h0|hp
 ·rw[h0];decide
 ·exact(Nat.log2_lt (by omega)).mpr h
theorem Bg.bits{i:Int}(h:Bg i):Builtin.Int.intBits i<=2 ^ 20:=by
 have:=h.log;unfold Builtin.Int.intBits;split
 ·exact T_ _
 ·exact m_ (show i.natAbs.log2+1<=9000 by omega) (by decide)
theorem O3:rZ X (binaryOp .Mult) (rI (λi j=>Bg i/\Bg j) λi j=>.int (i*j)):=WL λ_ _ _ _ _ _ _ hc q=>mul_int q (IntMulOk.of_bits hc.1.bits hc.2.bits)
noncomputable def n8(xs ys:List V):Bool:=(K_ (min xs.length ys.length)).all (λj=>JM (xs.getD j .gE) (ys.getD j .gE))&&xs.length==ys.length
theorem JK{A:qah}{s:l_}{xs ys:List V}{us vs:List i_}(rx:Vals xs us)(ry:Vals ys vs)(fx:xs.all qS=true)(fy:ys.all qS=true):
  ∀j (h1:j<us.toArray.size) (h2:j<vs.toArray.size),SeqAt.EqAt A s us.toArray[j] vs.toArray[j] (JM (xs.getD j .gE) (ys.getD j .gE)):=by
 intro j h1 h2;have l1:=rx.length;have l2:=ry.length;have A0:j<xs.length:=by rw[l1];simpa using h1
 have h2':j<ys.length:=by rw[l2];simpa using h2
 obtain⟨u,eu,ru⟩:=rx.get (i:=j) (x:=xs[j]) (by simp[A0]);obtain⟨v,ev,rv⟩:=ry.get (i:=j) (x:=ys[j]) (by simp[h2']);have e1:us.toArray[j]=u:=by
  rw[e_ (by simpa using h1)]at eu;simpa using qaa eu
 have e2:vs.toArray[j]=v:=by
  rw[e_ (by simpa using h2)]at ev;simpa using qaa ev
 rw[e1,e2,C_,C_,e_ A0,e_ h2',qaV,qaV];exact NL ru rv (R_.mp fx _ (Q_ A0)) (R_.mp fy _ (Q_ h2'))
def WD(K:PySem.W.Frag)(neg:Bool):R2:=λx y H Q=>t9 λp q xs ys=>x= .ref p/\y= .ref q/\fq K H p xs/\fq K H q ys/\xs.all qS=true/\ys.all qS=true/\Q (.bl (if neg then !n8 xs ys else n8 xs ys)) H
theorem MU(hu:X.A.units<cLine):rZ X (compareOp .Eq) (WD X.K false):=by
 intro pins s σ H x y v u Q I rx ry h;obtain⟨p,q,xs,ys,rfl,rfl,hp,hq,fx,fy,k⟩:=h;cases rx;cases ry;obtain⟨us,r1,t1,_⟩:=I.tuple hp;obtain⟨vs,r2,t2,_⟩:=I.tuple hq;refine SeqAt.RcAt.tuples (A:=X.A) (s:=s) t1 t2 hu (JK r1 r2 fx fy) X.prog X.w X.xe _ ⟨.bl (n8 xs ys),H,I,?_,k⟩;unfold n8;rw[r1.length,r2.length,v_,v_];rfl
theorem HL(hu:X.A.units<cLine):rZ X (compareOp .NotEq) (WD X.K true):=by
 intro pins s σ H x y v u Q I rx ry h;obtain⟨p,q,xs,ys,rfl,rfl,hp,hq,fx,fy,k⟩:=h;cases rx;cases ry;obtain⟨us,r1,t1,_⟩:=I.tuple hp;obtain⟨vs,r2,t2,_⟩:=I.tuple hq;refine SeqAt.RcNeAt.tuples (A:=X.A) (s:=s) t1 t2 hu (JK r1 r2 fx fy) X.prog X.w X.xe _ ⟨.bl (!n8 xs ys),H,I,?_,k⟩;unfold n8;rw[r1.length,r2.length,v_,v_];rfl
end
end
section
noncomputable def ZQ(K:PySem.W.Frag)(c:Cp):It :=
 ⟨λi H=>dI λxs x=>c.at K H xs/\xs[i]? =some x,λi H x H'=>H'=H/\∀xs,c.at K H xs->xs[i]? =some x,λi H=>∃xs,c.at K H xs/\xs.length<=i⟩
theorem Turn.conv{P:A_}{w:U_}{K:PySem.W.Frag}{tg:Expr}{J J':It}{fp:List h_}{it:h_}{tn:Nat->qab->Prop}(T:Turn P w K tg J fp it tn)
  (hg:∀i H,J'.go i H->J.go i H) (hy:∀i H x H',J.ET i H x H'->J'.ET i H x H') (hs:∀i H,J'.stop i H->J.stop i H):Turn P w K tg J' fp it tn where
 mem:=T.mem
 obj:=T.obj
 keep:=T.keep
 item:=λX hP hw hK hc i pins s σ H E I hf st g=>qaJ (T.item X hP hw hK hc i pins s σ H E I hf st (hg i H g)) (λr s1 ⟨u,hr,h⟩=>⟨u,hr,qaJ h (λ_ s2 ⟨x,H',I',r',y,t',n'⟩=>⟨x,H',I',r',hy i H x H' y,t',n'⟩) λ_ _ z=>z⟩) λ_ _ z=>z
 done:=λX hP hw hK hc i pins s σ H E I hf st g=>T.done X hP hw hK hc i pins s σ H E I hf st (hs i H g)
 self:=T.self
theorem signs_length(x:r_):(gh x).length=x.cps.size:=by simp[gh]
theorem signs_at{x:r_}{i k:Nat}(h:x.cps[i]? =some k):(gh x)[i]? =some (.str ⟨#[k]⟩):=by
 unfold gh;rw[n_];have e:x.cps.toList[i]? =some k:=by simpa using h
 rw[e];rfl
section
variable{X:Cx}{tg:Expr}
def iCp(K:PySem.W.Frag)(tl:TE):TI:=λσ H R=>tl σ H λv H1=>dI λc xs=>v=Cp.val c/\c.at K H1 xs/\R (ZQ K c) H1
theorem vB{l:Expr}{tl:TE}(hl:PE X l tl):PI X tg l (iCp X.K tl):=by
 intro pins s σ H R I h;refine gg (hl pins s σ H _ I h) λv s1 ⟨y,H1,I1,r1,q1⟩=>?_;obtain⟨c,xs,e,hq,q⟩:=q1;subst e;have fp1:∀b∈[s1.heap.objs.size],tG X pins H1 b:=λb hb=>by
  have e:b=s1.heap.objs.size:=by simpa using hb
  subst e;exact I1.xg (k_ _) (I1.hok.fresh (k_ _))
 cases c with
 |lst a =>
  cases (show v=Value.ref a from r1);obtain⟨its,rv,p,hz⟩:=I1.list hq;refine qb7 p.isList ?_;exact⟨s1.heap.objs.size,[s1.heap.objs.size],_,_,H1,Y,I1.kept (t':=s1.toks) λb o e=>j_ _ e,B5 a _,⟨_,B_ _ Y,Y,Y⟩,fp1,q⟩
 |tup a =>
  cases (show v=Value.ref a from r1);obtain⟨its,rv,p,hz⟩:=I1.tuple hq;refine qbX (show s1.heap.IsTuple a its.toArray from p) ?_;exact⟨s1.heap.objs.size,[s1.heap.objs.size],_,_,H1,Y,I1.kept (t':=s1.toks) λb o e=>j_ _ e,Ho a _,⟨_,B_ _ Y,Y,Y⟩,fp1,q⟩
 |txt x =>
  obtain⟨t,rfl⟩:=(show ∃t,v=Value.str x t from r1);refine qcM ?_;refine⟨s1.heap.objs.size,[s1.heap.objs.size],_,_,H1,Y,I1.kept (t':=s1.toks) λb o e=>j_ _ e,(E8 x t _).conv ?_ ?_ ?_,⟨_,B_ _ Y,Y,Y⟩,fp1,q⟩
  ·rintro i H ⟨xs,y,hx,e⟩;rw[show xs=gh x from hx]at e;have:=(p_.mp e).1;rw[signs_length]at this;exact this
  ·rintro i H y H' ⟨rfl,k,e,rfl⟩;refine⟨Y,λxs hx=>?_⟩;rw[show xs=gh x from hx];exact signs_at e
  ·rintro i H ⟨xs,hx,e⟩;rw[show xs=gh x from hx,signs_length]at e;exact e
theorem Ea{K:PySem.W.Frag}{c:Cp}{xs:List V}{g:TG}{tb:TS}{D:Ends}{σ:St}{H:Hp}(Pv:Nat->St->Hp->Prop)(h0:Pv 0 σ H)(hl:∀i σ H,i<=xs.length->Pv i σ H->c.at K H xs)
  (hs:∀i x σ H,xs[i]? =some x->Pv i σ H->g x σ H λσ2 H2=>tb { D with nx:=Pv (i+1),ct:=Pv (i+1),bk:=D.nx } σ2 H2) (hd:∀ σ H,Pv xs.length σ H->D.nx σ H) :
  ∃W:Nat->Nat->St->Hp->Prop,(∃m,W 0 m σ H)/\∀i m σ H,W i m σ H →
   ((ZQ K c).stop i H/\D.nx σ H)\/((ZQ K c).go i H/\∃N:St->Hp->Prop,(∀ σ' H',N σ' H'->∃m',m'<m/\W (i+1) m' σ' H')/\∀x H',(ZQ K c).ET i H x H'->g x σ H' λσ2 H2=>tb { D with nx:=N,ct:=N,bk:=D.nx } σ2 H2):=by
 refine⟨λi m σ H=>m=xs.length-i/\i<=xs.length/\Pv i σ H,⟨xs.length,by simp,T_ _,h0⟩,?_⟩;rintro i m σ H ⟨rfl,hi,p⟩;have q:=hl i σ H hi p;by_cases hlt:i<xs.length
 ·refine .inr ⟨⟨xs,xs[i],q,by simp[hlt]⟩,Pv (i+1),λσ' H' p'=>⟨xs.length-(i+1),by omega,Y,hlt,p'⟩,λx H' y=>?_⟩;obtain⟨e,y⟩:=y;subst e;exact hs i x σ _ (y xs q) p
 ·have e:i=xs.length:=by omega
  subst e;exact .inl ⟨⟨xs,q,k_ _⟩,hd σ H p⟩
end
end
end L2
namespace lN
noncomputable def lo(a b:Int):Int×Int:=(a / (qa_ a b:Int),b / (qa_ a b:Int))
theorem tS(a:Int){b:Int}(hb:0<b):0<(qa_ a b:Int):=by
 have:0<qa_ a b:=Int.gcd_pos_of_ne_zero_right a (by omega);omega
theorem Nz(a:Int){b:Int}(hb:0<b):(qa_ a b:Int)<=b:=Int.le_of_dvd hb (qcO ..)
theorem UE(a:Int){b:Int}(hb:0<b):0<(lo a b).2 :=
 qci hb (qbY (tS a hb)) (qcO ..)
theorem lo_le(a:Int){b:Int}(hb:0<b):(lo a b).2<=b:=by
 have h:=tS a hb;exact Int.ediv_le_self _ (qbY hb)
theorem Ny(a b:Int):qa_ b (a % b)=qa_ a b:=by
 have e:a=a % b+b*(a / b):=(Int.emod_add_mul_ediv a b).symm;have h:qa_ (a % b+b*(a / b)) b=qa_ (a % b) b:=Int.gcd_add_mul_left_left ..;rw[←e]at h;rw[h,Int.gcd_comm]
theorem PV(a:Int):(if a<0 then -a else a)=(qa_ a 0:Int):=by
 rw[Int.gcd_zero_right];split<;>omega
end lN
namespace GP
open PySem L2 lN
section
noncomputable abbrev cJ:=Int×Int
noncomputable def nH(f:cJ):cJ:=lo f.1 f.2
theorem ai.upd{H:Hp}{q:h_}{o:HO}(h:H q=none):ai H (L2.upd H q o):=λb u e=>by rw[au (bq e h)];exact e
theorem ai.at{H H2:Hp}{t:h_}{o:HO}(e:ai H H2)(h:H t=none):ai H (L2.upd H2 t o):=λb u q=>by rw[au (bq q h)];exact e b u q
theorem ai.tup{K:PySem.W.Frag}{H H':Hp}{a:h_}{xs:List V}(e:ai H H')(h:fq K H a xs):fq K H' a xs:=by
 rcases h with(h|⟨o,h⟩)|h
 ·exact .inl (.inl (e _ _ h))
 ·exact .inl (.inr ⟨o,e _ _ h⟩)
 ·exact .inr h
theorem ai.cp{K:PySem.W.Frag}{H H':Hp}{c:Cp}{xs:List V}(e:ai H H')(h:c.at K H xs):c.at K H' xs:=by
 cases c with
 |lst a=>exact ai.seq e h
 |tup a=>exact ai.tup e h
 |txt x=>exact h
def mF(K:PySem.W.Frag)(H:Hp)(p:h_)(f:cJ):Prop:=fq K H p [.int f.1,.int f.2]
theorem mF.same{K:PySem.W.Frag}{H H':Hp}{p:h_}{f:cJ}(e:ai H H')(h:mF K H p f):mF K H' p f:=ai.tup e h
def nU(K:PySem.W.Frag)(H:Hp)(c:Cp)(fs:List cJ):Prop:=∃ps:List h_,c.at K H (ps.map V.ref)/\Paired (mF K H) ps fs
theorem nU.same{K:PySem.W.Frag}{H H':Hp}{c:Cp}{fs:List cJ}(e:ai H H')(h:nU K H c fs):nU K H' c fs:=by
 obtain⟨ps,a,b⟩:=h;exact⟨ps,ai.cp e a,Paired.oO b λ_ _ z=>z.same e⟩
def Ri(K:PySem.W.Frag)(H:Hp)(c:Cp)(rows:List (List cJ)):Prop:=∃cs:List Cp,c.at K H (cs.map Cp.val)/\Paired (nU K H) cs rows
theorem Paired.at{α β:Type}{F:α->β->Prop}:∀{l₁:List α} {l₂:List β} {i:Nat} {x:α},Paired F l₁ l₂->l₁[i]? =some x->∃y,l₂[i]? =some y/\F x y
 |_,_,i,_,.nil,e=>by simp at e
 |_,_,0,_,.cons r _,e=>by simp at e;subst e;exact⟨_,Y,r⟩
 |_,_,i+1,x,.cons _ t,e=>by
  obtain⟨y,h1,h2⟩:=Paired.at (i:=i) (x:=x) t (by simpa using e);exact⟨y,by simpa using h1,h2⟩
theorem Paired.at'{α β:Type}{F:α->β->Prop}:∀{l₁:List α} {l₂:List β} {i:Nat} {y:β},Paired F l₁ l₂->l₂[i]? =some y->∃x,l₁[i]? =some x/\F x y
 |_,_,i,_,.nil,e=>by simp at e
 |_,_,0,_,.cons r _,e=>by simp at e;subst e;exact⟨_,Y,r⟩
 |_,_,i+1,y,.cons _ t,e=>by
  obtain⟨x,h1,h2⟩:=Paired.at' (i:=i) (y:=y) t (by simpa using e);exact⟨x,by simpa using h1,h2⟩
theorem Paired.len{α β:Type}{F:α->β->Prop}{l₁:List α}{l₂:List β}(h:Paired F l₁ l₂):l₁.length=l₂.length:=Paired.length h
theorem Paired.snoc{α β:Type}{F:α->β->Prop}{x:α}{y:β}:∀{l₁:List α} {l₂:List β},Paired F l₁ l₂->F x y->Paired F (l₁++[x]) (l₂++[y])
 |_,_,.nil,h=>.cons h .nil
 |_,_,.cons r t,h=>.cons r (Paired.snoc t h)
theorem take_snoc{α:Type}{l:List α}{i:Nat}{x:α}(h:l[i]? =some x):l.take (i+1)=l.take i++[x]:=by
 rw[List.take_add_one,h];rfl
theorem um{α β:Type}{l:List α}{f:α->β}{i:Nat}{x:α}(h:l[i]? =some x):(l.map f).take (i+1)=(l.map f).take i++[f x]:=take_snoc (by rw[n_,h];rfl)
theorem DY{i j:Int}{A B:Prop}(h1:i≠j->A)(h2:i=j->B):if(!decide (V.int i=V.int j))=true then A else B:=by
 by_cases h:i=j
 ·rw[rH,if_neg (by simp[h])];exact h2 h
 ·rw[rH,if_pos (by simp[h])];exact h1 h
theorem wZ{i j:Int}{A B:Prop}(h1:i=j->A)(h2:i≠j->B):if(decide (V.int i=V.int j))=true then A else B:=by
 by_cases h:i=j
 ·rw[rH,if_pos (by simp[h])];exact h1 h
 ·rw[rH,if_neg (by simp[h])];exact h2 h
theorem gG{p:Prop}[Decidable p]{A B:Prop}(h1:p->A)(h2:¬p->B):if(decide p)=true then A else B:=by
 by_cases h:p
 ·rw[if_pos (decide_eq_true h)];exact h1 h
 ·rw[if_neg (by rw[decide_eq_false h];exact I_)];exact h2 h
theorem xQ{A B:Prop}(h:A):if(!false)=true then A else B:=by
 rw[if_pos (show(!false)=true from rfl)];exact h
theorem p8{A B:Prop}(h:B):if(!true)=true then A else B:=by
 rw[if_neg (by decide)];exact h
structure Dn(K:PySem.W.Frag)(mg:r_->Option i_)(x:r_)(st:qaA)(ps:List r_)(f:h_)(fd:F_):Prop where
 fn:Oz K x x st f fd
 b:Binds K fd ps []
 m:mg x=some (.ref f)
theorem gc{X:Cx}{k n:Nat}{f:h_}{fd:F_}{ps:List r_}{sp:Sp}{x:r_}{st:qaA}{e:Expr}{es:List Expr}{t:TA}{p pos:qcq}(F:aF X.prog X.w X.K X.mg X.base cM k f fd ps sp)(hr:nV n X.A)(D:Dn X.K X.mg x st ps f fd)(ha:PA X (e::es) t)(hg:Gl X x:=by exact Y)(hn:k<=n:=by decide)(hdb:(x==("__debug__" :r_))=false:=by decide)(he:qac (e::es) X.env=(false,eval e X.env)::qac es X.env:=by rfl)(hpl:(backTo pos (qac es X.env)).any (·.1)=false:=by rfl):PE X (.Call (.Name x p) (e::es) [] pos) (Wm sp [] E0 t):=az F (hr.mono hn) hg D.m D.fn.kp D.b .nil aP ha hdb he hpl
theorem Z9X{X:Cx}{x:r_}{e:Expr}{te:TE}{pos pos':qcq}(i:Nat)(hN:X.N.Nodup)(he:PE X e te)(hi:X.N[i]? =some x:=by rfl)(hx:Loc X.env.scope x:=by exact Or.inl Y)(hs:swapsWith e (some (.Name x pos')) pos.line X.env=pure false:=by rfl)(hf:X.fn x=true\/X.env.scope.names.lookup x=some .local:=by first|exact .inl rfl|exact .inr rfl|assumption):PS X (.Assign [.Name x pos'] e pos) (T6 te (ND i)):=aI hN hi hx he hs hf
theorem Z9Y{X:Cx}{x:r_}{pos:qcq}(i:Nat)(hN:X.N.Nodup)(hi:X.N[i]? =some x:=by rfl)(hx:Loc X.env.scope x:=by exact Or.inl Y)(hf:X.fn x=true\/X.env.scope.names.lookup x=some .local:=by first|exact .inl rfl|exact .inr rfl|assumption):PG X (.Name x pos) (ND i):=aQ hN hi hx hf
def Mt:Sp:=λvs H Q _=>dI λa b:Int=>vs=[.int a,.int b]/\0<=b/\Q (.int (qa_ a b)) H
noncomputable def lm(a b:Int):Int:=a / (qa_ a b:Int)*b
def QC(K:PySem.W.Frag):Sp:=λvs H Q _=>dI λ(p:h_) (f:cJ)=>vs=[.ref p]/\mF K H p f/\0<f.2/\f.2<1073741824 ∧
 ∀q,H q=none->Q (.ref q) (L2.upd H q (.tup [.int (nH f).1,.int (nH f).2]))
def GQ(f:cJ):Prop:=1<=f.2/\f.2<1073741824
def uB(K:PySem.W.Frag):Sp:=λvs H Q _=>dI λ(p:h_) (f:cJ)=>vs=[.ref p]/\mF K H p f/\GQ f ∧
 ∀q,H q=none->Q (.ref q) (L2.upd H q (.tup [.int (nH f).1,.int (nH f).2]))
def xF(K:PySem.W.Frag):Sp:=λvs H Q _=>dI λ(c:Cp) (fs:List cJ)=>vs=[c.val]/\nU K H c fs/\(∀f∈fs,GQ f)/\fs.length<=1000 ∧
 ∀q H',ai H H'->H q=none->nU K H' (.tup q) (fs.map nH)->Q (.ref q) H'
noncomputable def bE(o m:Int)(rows:List (List cJ)):Int:=(rows.flatten.map (·.2)).foldl lm (lm o m)
noncomputable def nK(fo fm:cJ)(rows:List (List cJ)):List Int:=fo.2::fm.2::rows.flatten.map (·.2)
def Fp(K:PySem.W.Frag):Sp:=λvs H Q _=>LL λ(P o m:h_) (rows:List (List cJ)) (fo fm:cJ)=>vs=[.ref P,.ref o,.ref m]/\Ri K H (.tup P) rows/\mF K H o fo/\mF K H m fm ∧
 rows.length<=12/\(∀r∈rows,r.length<=12)/\∀l H',ai H H'->H l=none->H' l=some (.lst ((nK fo fm rows).map V.int))->Q (.ref l) H'
noncomputable def tT(p:List Int×Int)(b:Int):List Int×Int:=if b / (qa_ p.2 b:Int)>1 then(p.1++[b / (qa_ p.2 b:Int)],p.2*(b / (qa_ p.2 b:Int)))else p
noncomputable def qU(ns:List Int):List Int×Int:=ns.foldl tT ([],1)
def qu(n:Int):Prop:=0<n/\n<1073741824
def Cb(K:PySem.W.Frag):Sp:=λvs H Q _=>dI λ(l:h_) (ns:List Int)=>vs=[.ref l]/\bD K H l (ns.map V.int)/\ns.length<=1000/\(∀n∈ns,qu n) ∧
 ∀q H',ai H H'->H q=none->H' q=some (.lst ((qU ns).1.map V.int))->Q (.ref q) H'
noncomputable def xJ(fs:List Int):Int:=fs.foldl (·*·) 1
def Mr(K:PySem.W.Frag):Sp:=λvs H Q _=>dI λ(l:h_) (fs:List Int)=>vs=[.ref l]/\bD K H l (fs.map V.int)/\(∀n∈fs,qu n)/\Q (.int (xJ fs)) H
def zm(K:PySem.W.Frag):Sp:=λvs H Q _=>oS λ(p:h_) (f:cJ) (u:Int)=>vs=[.ref p,.int u]/\mF K H p f/\GQ f/\Bg f.1/\Bg (u / f.2)/\Q (.int (f.1*(u / f.2))) H
theorem UH{b:Int}:lm 1 b=b:=by
 unfold lm;rw[Int.gcd_one_left];simp
theorem UI{a b:Int}:lm a b=a*(b / (qa_ a b:Int)):=by
 unfold lm;rw[←Int.mul_ediv_assoc' b (Int.gcd_dvd_left a b),Int.mul_ediv_assoc a (qcO a b)]
structure GY(p:List Int×Int)(ns:List Int):Prop where
 small:∀f∈p.1,qu f
 prod:xJ p.1=p.2
 unit:p.2=ns.foldl lm 1
 pos:0<p.2
 len:p.1.length<=ns.length
theorem zI(fs:List Int)(f:Int):xJ (fs++[f])=xJ fs*f:=by
 unfold xJ;rw[qcN];rfl
theorem JL{u b:Int}(hb:qu b):0<b / (qa_ u b:Int)/\b / (qa_ u b:Int)<=b:=by
 have g1:=tS u hb.1;exact⟨qci hb.1 (qbY g1) (qcO u b),Int.ediv_le_self _ (qbY hb.1)⟩
theorem GY.step{p:List Int×Int}{ns:List Int}{b:Int}(h:GY p ns)(hb:qu b):GY (tT p b) (ns++[b]):=by
 obtain⟨d1,d2⟩:=JL (u:=p.2) hb;have e:(ns++[b]).foldl lm 1=p.2*(b / (qa_ p.2 b:Int)):=by
  rw[qcN,←h.unit];exact UI
 unfold tT;split
 ·next h1 =>
  refine⟨λf hf=>?_,?_,e.symm,Int.mul_pos h.pos d1,?_⟩
  ·rcases S_.mp hf with hf|hf
   ·exact h.small f hf
   ·rw[w_.mp hf];exact⟨d1,Int.lt_of_le_of_lt d2 hb.2⟩
  ·rw[zI,h.prod]
  ·rw[o_,o_];exact Nat.add_le_add_right h.len 1
 ·next h1 =>
  have e1:b / (qa_ p.2 b:Int)=1:=by omega
  refine⟨h.small,h.prod,?_,h.pos,?_⟩
  ·rw[e,e1,Int.mul_one]
  ·rw[o_];exact m_ h.len (qaq _ _)
theorem Ay(ns:List Int)(b:Int):qU (ns++[b])=tT (qU ns) b:=by
 unfold qU;rw[qcN];rfl
theorem xh{ns:List Int}(h:∀n∈ns,qu n):∀i,i<=ns.length->GY (qU (ns.take i)) (ns.take i)
 | 0,_=>by
  rw[List.take_zero];exact⟨λf hf=>(by cases hf),Y,Y,(by decide),k_ _⟩
 |i+1,hi=>by
  have e:=e_ (l:=ns) (i:=i) hi;rw[take_snoc e,Ay];exact(xh h i (qa1 hi)).step (h _ (Q_ hi))
theorem P5{ns:List Int}(h:∀n∈ns,qu n):GY (qU ns) ns:=by
 have z:=xh h ns.length (k_ _);rw[qbQ]at z;exact z
theorem E7(fo fm:cJ)(rows:List (List cJ)):(nK fo fm rows).foldl lm 1=bE fo.2 fm.2 rows:=by
 unfold nK bE;rw[qcz,qcz,UH]
end
section
structure Dm(K:PySem.W.Frag)(x qual:r_)(st:qaA)(ps:List r_)(f:h_)(fd:F_):Prop where
 fn:Oz K x qual st f fd
 b:Binds K fd ps []
def Dat(H H':Hp):Prop:=∀b u,(∀C dx fs,u≠HO.ins C dx fs)->H b=some u->H' b=some u
theorem Dat.of{H H':Hp}(e:ai H H'):Dat H H':=λb u _ h=>e b u h
theorem Dat.trans{H H' yO:Hp}(e:Dat H H')(f:Dat H' yO):Dat H yO:=λb u n h=>f b u n (e b u n h)
theorem Dat.set{H:Hp}{x C dx:h_}{fs fs':List (r_×V)}(h:H x=some (.ins C dx fs)):Dat H (L2.upd H x (.ins C dx fs')):=λb u n e=>by
 rw[au (λz=>by subst z;rw[h]at e;cases e;exact n _ _ _ Y)];exact e
theorem Dat.tup{K:PySem.W.Frag}{H H':Hp}{a:h_}{xs:List V}(e:Dat H H')(h:fq K H a xs):fq K H' a xs:=by
 rcases h with(h|⟨o,h⟩)|h
 ·exact .inl (.inl (e _ _ (λ_ _ _ z=>by cases z) h))
 ·exact .inl (.inr ⟨o,e _ _ (λ_ _ _ z=>by cases z) h⟩)
 ·exact .inr h
theorem Dat.lst{K:PySem.W.Frag}{H H':Hp}{a:h_}{xs:List V}(e:Dat H H')(h:bD K H a xs):bD K H' a xs:=by
 rcases h with(h|⟨o,h⟩)|h
 ·exact .inl (.inl (e _ _ (λ_ _ _ z=>by cases z) h))
 ·exact .inl (.inr ⟨o,e _ _ (λ_ _ _ z=>by cases z) h⟩)
 ·exact .inr h
theorem Dat.cp{K:PySem.W.Frag}{H H':Hp}{c:Cp}{xs:List V}(e:Dat H H')(h:c.at K H xs):c.at K H' xs:=by
 cases c with
 |lst a=>exact Dat.lst e h
 |tup a=>exact Dat.tup e h
 |txt x=>exact h
theorem mF.dat{K:PySem.W.Frag}{H H':Hp}{p:h_}{f:cJ}(e:Dat H H')(h:mF K H p f):mF K H' p f:=Dat.tup e h
theorem nU.dat{K:PySem.W.Frag}{H H':Hp}{c:Cp}{fs:List cJ}(e:Dat H H')(h:nU K H c fs):nU K H' c fs:=by
 obtain⟨ps,a,b⟩:=h;exact⟨ps,Dat.cp e a,Paired.oO b λ_ _ z=>z.dat e⟩
def Em(K:PySem.W.Frag)(H:Hp)(P:h_)(rows:List (List cJ)):Prop:=∃qs:List h_,fq K H P (qs.map V.ref)/\Paired (λq r=>nU K H (.tup q) r) qs rows
theorem Em.dat{K:PySem.W.Frag}{H H':Hp}{P:h_}{rows:List (List cJ)}(e:Dat H H')(h:Em K H P rows):Em K H' P rows:=by
 obtain⟨cs,a,b⟩:=h;exact⟨cs,Dat.tup e a,Paired.oO b λ_ _ z=>z.dat e⟩
theorem uJ{α β γ:Type}{F:γ->β->Prop}{g:α->γ}:∀{l₁:List α} {l₂:List β},Paired (λa b=>F (g a) b) l₁ l₂->Paired F (l₁.map g) l₂
 |_,_,.nil=>.nil
 |_,_,.cons r t=>.cons r (uJ t)
theorem Em.mat{K:PySem.W.Frag}{H:Hp}{P:h_}{rows:List (List cJ)}(h:Em K H P rows):Ri K H (.tup P) rows:=by
 obtain⟨qs,a,b⟩:=h;refine⟨qs.map Cp.tup,?_,uJ b⟩;rw[qam];exact a
theorem NW{K:PySem.W.Frag}{H:Hp}{c:Cp}{xs:List V}(h:c.at K H xs)(hx:∀x,c≠ .txt x):Qu K c.val H xs.length:=by
 cases c with
 |lst a=>exact .inl ⟨_,h,Y⟩
 |tup a=>exact .inr ⟨_,h,Y⟩
 |txt x=>exact absurd Y (hx x)
theorem nU.len{K:PySem.W.Frag}{H:Hp}{c:Cp}{fs:List cJ}(h:nU K H c fs)(hx:∀x,c≠ .txt x):Qu K c.val H fs.length:=by
 obtain⟨ps,a,b⟩:=h;have z:=NW a hx;rw[g_,Paired.len b]at z;exact z
noncomputable def kR(n:Nat):Bool:=(decide ((32:Int)<=(n:Int))&&decide ((n:Int)<=126))&& !Zf (.int n) [.int 34,.int 37,.int 45]
def uv(x:r_):Prop:=0<x.cps.size/\x.cps.size<=100/\(∀c∈x.cps.toList,kR c=true)/\x.cps.toList.Nodup
theorem sy{x:r_}(h:x.cps.toList.Nodup){i j a b:Nat}(hi:x.cps[i]? =some a)(hj:x.cps[j]? =some b)(hij:i≠j):a≠b:=by
 intro z;subst z;rw[←V_]at hi hj;exact hij ((qbd (p_.mp hi).1 h).mp (hi.trans hj.symm))
theorem JB(val:Nat->r_)(k:r_):∀i,(met val i).any (·==k)=true->∃j,j<i/\val j=k
 | 0,h=>by rw[Ac]at h;cases h
 |i+1,h=>by
  rw[sM,vJ,Bool.or_eq_true]at h;rcases h with h|h
  ·obtain⟨j,h1,h2⟩:=JB val k i h;exact⟨j,by omega,h2⟩
  ·exact⟨i,by omega,(of_decide_eq_true h).symm⟩
theorem F9{val:Nat->r_}{n:Nat}(h:∀i j,i<n->j<n->i≠j->val i≠val j):∀i,i<=n->(met val i).length=i
 | 0,_=>by rw[Ac];rfl
 |i+1,hi=>by
  rw[sM,rT];have e:¬((met val i).any (·==val i)=true):=λz=>by
   obtain⟨j,h1,h2⟩:=JB val _ i z;exact h j i (by omega) (by omega) (by omega) h2
  rw[if_neg e,F9 h i (by omega)]
theorem K6{x:r_}(h:x.cps.toList.Nodup):(met (ow x) x.cps.size).length=x.cps.size:=by
 refine F9 (n:=x.cps.size) (λi j hi hj hij z=>?_) _ (k_ _);unfold ow at z;have e1:x.cps[i]? =some (x.cps.getD i 0):=by simp[hi]
 have e2:x.cps[j]? =some (x.cps.getD j 0):=by simp[hj]
 refine sy h e1 e2 hij ?_;have z2: #[x.cps.getD i 0]= #[x.cps.getD j 0]:=congrArg Str.cps z;simpa using z2
def Fw:Sp:=λvs H Q _=>∃c:Nat,vs=[.str ⟨#[c]⟩]/\Q (.bl (kR c)) H
def uC:Sp:=λvs H Q _=>∃x:r_,vs=[.str x]/\x.cps.size<=1000/\∀H',ai H H'->Q (.bl (x.cps.toList.all kR)) H'
def vp:Sp:=λvs H Q _=>∃x:r_,vs=[.str x]/\uv x/\∀H',ai H H'->Q .gE H'
def Rh(c:Cp):Prop:=∀x,c≠ .txt x
def Lz(K:PySem.W.Frag)(H:Hp)(c:Cp)(rows:List (List cJ)):Prop:=Rh c/\∃cs:List Cp,(∀d∈cs,Rh d)/\c.at K H (cs.map Cp.val)/\Paired (nU K H) cs rows
theorem Lz.dat{K:PySem.W.Frag}{H H':Hp}{c:Cp}{rows:List (List cJ)}(e:Dat H H')(h:Lz K H c rows):Lz K H' c rows:=by
 obtain⟨n,cs,m,a,b⟩:=h;exact⟨n,cs,m,Dat.cp e a,Paired.oO b λ_ _ z=>z.dat e⟩
def Qp(n:Nat)(rows:List (List cJ)):Prop:=rows.length=n/\∀r∈rows,r.length=n
def su(K:PySem.W.Frag):Sp:=λvs H Q _=>oS λ(x:r_) (c:Cp) (rows:List (List cJ))=>vs=[.str x,c.val]/\Lz K H c rows/\x.cps.size<=100/\Qp x.cps.size rows/\Q .gE H
def IV(rows:List (List cJ))(i j:Nat)(f:cJ):Prop:=∃r,rows[i]? =some r/\r[j]? =some f
noncomputable def keyOf(a b:Nat):List Key:=[.inr ⟨#[a]⟩,.inr ⟨#[b]⟩]
def IU(kvs:List (List Key×V))(x:r_)(rows:List (List cJ))(u:Int):Prop :=
 ∀i j a b f,x.cps[i]? =some a->x.cps[j]? =some b->IV rows i j f->iL kvs (keyOf a b)=some (.int (f.1*(u / f.2)))
def Sm(i:Int):Prop:=i.natAbs<2 ^ 200
def Bu(i:Int):Prop:=i.natAbs<=2 ^ 4380
theorem Sm.bg{i:Int}(h:Sm i):Bg i:=H_ h (qcj (by decide) (by decide))
theorem Bu.bg{i:Int}(h:Bu i):Bg i:=t_ h (Nat.pow_lt_pow_right (by decide) (by decide))
def YF(u:Int)(f:cJ):Prop:=GQ f/\Sm f.1/\Bu (u / f.2)
def Jm(K:PySem.W.Frag):Sp:=λvs H Q _=>t9 λ(x:r_) (P:h_) (u:Int) (rows:List (List cJ))=>vs=[.str x,.ref P,.int u]/\Em K H P rows/\x.cps.size<=100/\x.cps.toList.Nodup/\Qp x.cps.size rows/\(∀r∈rows,∀f∈r,YF u f) ∧
 ∀d H' kvs,ai H H'->H d=none->H' d=some (.dT kvs)->IU kvs x rows u->Q (.ref d) H'
noncomputable def kI(x:r_)(P o m:h_)(u:Int)(d:h_×h_):List (r_×V) :=
 aK "costs" (.ref d.1) (aK "unit" (.int u) (aK "factors" (.ref d.2) (aK "more" (.ref m) (aK "opening" (.ref o) (aK "pairs" (.ref P) (aK "signs" (.str x) []))))))
theorem Gn{x:r_}{P o m:h_}{u:Int}{d:h_×h_}:(kI x P o m u d).lookup ("signs" :r_)=some (.str x):=by
 unfold kI;rw[aA,if_neg (by decide +kernel),aA,if_neg (by decide +kernel),aA,if_neg (by decide +kernel),aA,if_neg (by decide +kernel),aA,if_neg (by decide +kernel),aA,if_neg (by decide +kernel),aA,if_pos rfl]
theorem BA{x:r_}{P o m:h_}{u:Int}{d:h_×h_}:(kI x P o m u d).lookup ("opening" :r_)=some (.ref o):=by
 unfold kI;rw[aA,if_neg (by decide +kernel),aA,if_neg (by decide +kernel),aA,if_neg (by decide +kernel),aA,if_neg (by decide +kernel),aA,if_pos rfl]
theorem Iq{x:r_}{P o m:h_}{u:Int}{d:h_×h_}:(kI x P o m u d).lookup ("more" :r_)=some (.ref m):=by
 unfold kI;rw[aA,if_neg (by decide +kernel),aA,if_neg (by decide +kernel),aA,if_neg (by decide +kernel),aA,if_pos rfl]
theorem BB{x:r_}{P o m:h_}{u:Int}{d:h_×h_}:(kI x P o m u d).lookup ("factors" :r_)=some (.ref d.2):=by
 unfold kI;rw[aA,if_neg (by decide +kernel),aA,if_neg (by decide +kernel),aA,if_pos rfl]
theorem Aw{x:r_}{P o m:h_}{u:Int}{d:h_×h_}:(kI x P o m u d).lookup ("unit" :r_)=some (.int u):=by
 unfold kI;rw[aA,if_neg (by decide +kernel),aA,if_pos rfl]
theorem Gp{x:r_}{P o m:h_}{u:Int}{d:h_×h_}:(kI x P o m u d).lookup ("costs" :r_)=some (.ref d.1):=by
 unfold kI;rw[aA,if_pos rfl]
noncomputable def BC(x:r_)(P o m:h_)(u:Int)(d:h_×h_)(ou mu:Int):List (r_×V) :=
 aK "more_units" (.int mu) (aK "opening_units" (.int ou) (kI x P o m u d))
theorem Av {x:r_}{P o m:h_}{u:Int}{d:h_×h_}{ou mu:Int}{f:r_}(h1:¬f= "more_units")(h2:¬f= "opening_units"):(BC x P o m u d ou mu).lookup f=(kI x P o m u d).lookup f:=by
 unfold BC;rw[aA,if_neg h1,aA,if_neg h2]
theorem uV{x:r_}{P o m:h_}{u:Int}{d:h_×h_}{ou mu:Int}:(BC x P o m u d ou mu).lookup ("signs" :r_)=some (.str x):=(Av (by decide +kernel) (by decide +kernel)).trans Gn
theorem rG{x:r_}{P o m:h_}{u:Int}{d:h_×h_}{ou mu:Int}:(BC x P o m u d ou mu).lookup ("factors" :r_)=some (.ref d.2):=(Av (by decide +kernel) (by decide +kernel)).trans BB
theorem Ip{x:r_}{P o m:h_}{u:Int}{d:h_×h_}{ou mu:Int}:(BC x P o m u d ou mu).lookup ("costs" :r_)=some (.ref d.1):=(Av (by decide +kernel) (by decide +kernel)).trans Gp
theorem ur {x:r_}{P o m:h_}{u:Int}{d:h_×h_}{v:V}{f:r_}(h2:¬f= "opening_units"):(aK "opening_units" v (kI x P o m u d)).lookup f=(kI x P o m u d).lookup f:=by
 rw[aA,if_neg h2]
theorem yl{x:r_}{P o m:h_}{u:Int}{d:h_×h_}{ou mu:Int}:(BC x P o m u d ou mu).lookup ("more_units" :r_)=some (.int mu):=by
 unfold BC;rw[aA,if_pos rfl]
theorem M3{x:r_}{P o m:h_}:(aK "more" (.ref m) (aK "opening" (.ref o) (aK "pairs" (.ref P) (aK "signs" (.str x) []))):List (r_×V)).lookup ("pairs" :r_)=some (.ref P):=by
 rw[aA,if_neg (by decide +kernel),aA,if_neg (by decide +kernel),aA,if_pos rfl]
theorem Ia{x:r_}{P o m:h_}:(aK "more" (.ref m) (aK "opening" (.ref o) (aK "pairs" (.ref P) (aK "signs" (.str x) []))):List (r_×V)).lookup ("opening" :r_)=some (.ref o):=by
 rw[aA,if_neg (by decide +kernel),aA,if_pos rfl]
theorem Pg{x:r_}{P o m:h_}:(aK "more" (.ref m) (aK "opening" (.ref o) (aK "pairs" (.ref P) (aK "signs" (.str x) []))):List (r_×V)).lookup ("more" :r_)=some (.ref m):=by
 rw[aA,if_pos rfl]
theorem Ib{x:r_}{P o m fl:h_}:(aK "factors" (.ref fl) (aK "more" (.ref m) (aK "opening" (.ref o) (aK "pairs" (.ref P) (aK "signs" (.str x) [])))):List (r_×V)).lookup ("factors" :r_)=some (.ref fl):=by
 rw[aA,if_pos rfl]
theorem M1{x:r_}{P o m fl:h_}{u:Int}:(aK "unit" (.int u) (aK "factors" (.ref fl) (aK "more" (.ref m) (aK "opening" (.ref o) (aK "pairs" (.ref P) (aK "signs" (.str x) []))))):List (r_×V)).lookup ("signs" :r_)=some (.str x):=by
 rw[aA,if_neg (by decide +kernel),aA,if_neg (by decide +kernel),aA,if_neg (by decide +kernel),aA,if_neg (by decide +kernel),aA,if_neg (by decide +kernel),aA,if_pos rfl]
theorem K1{x:r_}{P o m fl:h_}{u:Int}:(aK "unit" (.int u) (aK "factors" (.ref fl) (aK "more" (.ref m) (aK "opening" (.ref o) (aK "pairs" (.ref P) (aK "signs" (.str x) []))))):List (r_×V)).lookup ("pairs" :r_)=some (.ref P):=by
 rw[aA,if_neg (by decide +kernel),aA,if_neg (by decide +kernel),aA,if_neg (by decide +kernel),aA,if_neg (by decide +kernel),aA,if_pos rfl]
theorem Pf{x:r_}{P o m fl:h_}{u:Int}:(aK "unit" (.int u) (aK "factors" (.ref fl) (aK "more" (.ref m) (aK "opening" (.ref o) (aK "pairs" (.ref P) (aK "signs" (.str x) []))))):List (r_×V)).lookup ("unit" :r_)=some (.int u):=by
 rw[aA,if_pos rfl]
theorem aB{f:r_}{v:V}{fs:List (r_×V)}{n:Nat}(h:fs.length<=n):(aK f v fs).length<=n+1:=by
 have:=sP f v fs;omega
structure lM(K:PySem.W.Frag)(C:h_)(H:Hp)(x:h_)(sg:r_)(rows:List (List cJ))(fo fm:cJ):Prop where
 sig:uv sg
 sqr:Qp sg.cps.size rows
 ok:∀r∈rows,∀f∈r,YF (bE fo.2 fm.2 rows) f
 O6:YF (bE fo.2 fm.2 rows) fo
 O7:YF (bE fo.2 fm.2 rows) fm
 pos:0<bE fo.2 fm.2 rows
 big:Bu (bE fo.2 fm.2 rows)
 ob:t9 λdx P o m=>∃d:h_×h_,∃kvs,H x=some (.ins C dx (BC sg P o m (bE fo.2 fm.2 rows) d (fo.1*(bE fo.2 fm.2 rows / fo.2)) (fm.1*(bE fo.2 fm.2 rows / fm.2))))/\Em K H P rows/\mF K H o fo/\mF K H m fm/\H d.1=some (.dT kvs)/\IU kvs sg rows (bE fo.2 fm.2 rows) ∧
  ∃fs:List Int,(∀f∈fs,qu f)/\xJ fs=bE fo.2 fm.2 rows/\H d.2=some (.lst (fs.map V.int))
theorem lM.same{K:PySem.W.Frag}{C:h_}{H H':Hp}{x:h_}{sg:r_}{rows:List (List cJ)}{fo fm:cJ}(e:ai H H')(h:lM K C H x sg rows fo fm):lM K C H' x sg rows fo fm:=by
 obtain⟨a,b,c,d,f,g,i,dx,P,o,m,dd,kvs,h1,h2,h3,h4,h5,h6,fs,h7,h8,h9⟩:=h;exact⟨a,b,c,d,f,g,i,dx,P,o,m,dd,kvs,e _ _ h1,h2.dat (Dat.of e),h3.same e,h4.same e,e _ _ h5,h6,fs,h7,h8,e _ _ h9⟩
def Od(H:Hp)(x c:h_):Prop:=∀C dx fs,H x=some (.ins C dx fs)->fs.lookup ("factors" :r_)≠some (.ref c)
def YE(f:cJ):Prop:=GQ f/\Sm f.1
noncomputable def Bx(rows:List (List cJ)):List (List cJ):=rows.map λr=>r.map nH
def Ms(K:PySem.W.Frag)(C:h_):Sp:=λvs H Q _=>VZ λ(x dx o m:h_) (sg:r_) (c:Cp) (rows:List (List cJ)) (fo fm:cJ)=>vs=[.ref x,.str sg,c.val,.ref o,.ref m]/\H x=some (.ins C dx [])/\uv sg/\sg.cps.size<=12 ∧
 Lz K H c rows/\Qp sg.cps.size rows/\(∀r∈rows,∀f∈r,YE f)/\mF K H o fo/\YE fo/\mF K H m fm/\YE fm ∧
 ∀H',lM K C H' x sg (Bx rows) (nH fo) (nH fm)->(∀b u,H b=some u->b≠x->H' b=some u)->(∀c,H c≠none->Od H' x c)->Q .gE H'
def zh(K:PySem.W.Frag)(C:h_):Sp:=λvs H Q _=>Qn λ(x:h_) (sg:r_) (rows:List (List cJ)) (fo fm:cJ) (i j a b:Nat) (f:cJ)=>vs=[.ref x,.str ⟨#[a]⟩,.str ⟨#[b]⟩]/\lM K C H x sg rows fo fm ∧
 sg.cps[i]? =some a/\sg.cps[j]? =some b/\IV rows i j f/\∀H',ai H H'->Q (.int (f.1*(bE fo.2 fm.2 rows / f.2))) H'
def Hu(K:PySem.W.Frag)(C:h_):Sp:=λvs H Q _=>EW λ(x:h_) (sg:r_) (rows:List (List cJ)) (fo fm:cJ)=>vs=[.ref x]/\lM K C H x sg rows fo fm/\Q (.int (fm.1*(bE fo.2 fm.2 rows / fm.2))) H
end
section
theorem sN{α β:Type}{l:List α}{g:α->β}{i:Nat}{y:β}(h:(l.map g)[i]? =some y):∃x,l[i]? =some x/\y=g x:=by
 rw[n_]at h
 cases e:l[i]? with
 |none=>rw[e]at h;cases h
 |some x=>rw[e]at h;exact⟨x,Y,(qaa h).symm⟩
def m7(kvs:List (List Key×V))(x:r_)(rows:List (List cJ))(u:Int)(n m:Nat):Prop :=
 ∀i j a b f,(i<n\/(i=n/\j<m))->x.cps[i]? =some a->x.cps[j]? =some b->IV rows i j f->iL kvs (keyOf a b)=some (.int (f.1*(u / f.2)))
theorem m7.nil(x:r_)(rows:List (List cJ))(u:Int):m7 [] x rows u 0 0:=λi j a b f h=>by omega
theorem Lb{a b c d:Nat}(h:keyOf a b=keyOf c d):a=c/\b=d:=by
 unfold keyOf at h;have h1:=(List.cons.inj h).1;have h2:=(List.cons.inj (List.cons.inj h).2).1;have e1:(⟨#[a]⟩:r_)=⟨#[c]⟩:=Sum.inr.inj h1;have e2:(⟨#[b]⟩:r_)=⟨#[d]⟩:=Sum.inr.inj h2;have z1: #[a]= #[c]:=congrArg Str.cps e1;have z2: #[b]= #[d]:=congrArg Str.cps e2;exact⟨by simpa using z1,by simpa using z2⟩
theorem m7.put{kvs:List (List Key×V)}{x:r_}{rows:List (List cJ)}{u:Int}{n m a b:Nat}{f:cJ}(nd:x.cps.toList.Nodup)(h:m7 kvs x rows u n m)(ha:x.cps[n]? =some a)(hb:x.cps[m]? =some b)(hf:IV rows n m f):
  m7 (putK kvs (keyOf a b) (.int (f.1*(u / f.2)))) x rows u n (m+1):=by
 intro i j c d g hij hc hd hg;rw[r9];by_cases e:i=n/\j=m
 ·obtain⟨rfl,rfl⟩:=e;rw[ha]at hc;rw[hb]at hd;cases hc;cases hd;obtain⟨r,r1,r2⟩:=hf;obtain⟨r',r3,r4⟩:=hg;rw[r1]at r3;cases r3;rw[r2]at r4;cases r4;rw[if_pos rfl]
 ·have hne:¬keyOf c d=keyOf a b:=λz=>by
   obtain⟨z1,z2⟩:=Lb z;subst z1 z2;refine e ⟨?_,?_⟩
   ·exact Decidable.byContradiction λq=>sy nd hc ha q Y
   ·exact Decidable.byContradiction λq=>sy nd hd hb q Y
  rw[if_neg hne];exact h i j c d g (by omega) hc hd hg
theorem m7.row{kvs:List (List Key×V)}{x:r_}{rows:List (List cJ)}{u:Int}{n m:Nat}(hm:x.cps.size<=m)(h:m7 kvs x rows u n m):m7 kvs x rows u (n+1) 0:=by
 intro i j a b f hij ha hb hf;refine h i j a b f ?_ ha hb hf;have:j<x.cps.size:=by
  rw[←V_]at hb;have:=(p_.mp hb).1;simpa using this
 omega
theorem m7.all{kvs:List (List Key×V)}{x:r_}{rows:List (List cJ)}{u:Int}{n:Nat}(hn:x.cps.size<=n)(h:m7 kvs x rows u n 0):IU kvs x rows u:=by
 intro i j a b f ha hb hf;refine h i j a b f (.inl ?_) ha hb hf;have:i<x.cps.size:=by
  rw[←V_]at ha;have:=(p_.mp ha).1;simpa using this
 omega
theorem M6{a b:Int}(ha:0<a)(hb:0<b):0<lm a b:=by
 have h:=tS a hb;have:=qci ha (qbY h) (Int.gcd_dvd_left a b);exact Int.mul_pos this hb
theorem uW(a g:Int):(a / g).natAbs<=a.natAbs:=Int.natAbs_ediv_le_natAbs a g
theorem M7(a b:Int):(lm a b).natAbs<=a.natAbs*b.natAbs:=by
 unfold lm;rw[Int.natAbs_mul];exact Nat.mul_le_mul_right _ (uW a _)
theorem Gk:∀(l:List Int) {u:Int},0<u->(∀b∈l,0<b)->0<l.foldl lm u
 |[],_,h,_=>h
 |b::l,_,h,hb=>Gk l (M6 h (hb b L_)) λc hc=>hb c (J_ _ hc)
theorem Gm{B:Nat}:∀(l:List Int) {u:Int},(∀b∈l,b.natAbs<=B)->(l.foldl lm u).natAbs<=u.natAbs*B ^ l.length
 |[],_,_=>by simp
 |b::l,u,h=>by
  have h1:=Gm (B:=B) l (u:=lm u b) λc hc=>h c (J_ _ hc);have h2:=M7 u b;have h3:=h b L_;show(l.foldl lm (lm u b)).natAbs<=_;refine m_ h1 ?_;rw[M_,Nat.pow_succ,Nat.mul_comm (B ^ l.length) B,←Nat.mul_assoc];exact Nat.mul_le_mul_right _ (m_ h2 (Nat.mul_le_mul_left _ h3))
theorem Ax{n:Nat}:∀{rows:List (List cJ)},(∀r∈rows,r.length=n)->rows.flatten.length=rows.length*n
 |[],_=>by simp
 |r::rows,h=>by
  rw[qaS,o_,h r L_,Ax λr' hr=>h r' (J_ _ hr),M_,Nat.succ_mul,Nat.add_comm]
theorem GQ.abs{f:cJ}(h:GQ f):f.2.natAbs<=2 ^ 30:=by
 obtain⟨h1,h2⟩:=h;have:(2:Nat) ^ 30=1073741824:=by decide
 omega
theorem L5{rows:List (List cJ)}{fo fm:cJ}(ho:GQ fo)(hm:GQ fm)(h:∀r∈rows,∀f∈r,GQ f):0<bE fo.2 fm.2 rows:=by
 refine Gk _ (M6 (by have:=ho.1;omega) (by have:=hm.1;omega)) λb hb=>?_;obtain⟨f,hf,rfl⟩:=O_.mp hb;obtain⟨r,hr,hfr⟩:=List.mem_flatten.mp hf;have:=(h r hr f hfr).1;omega
theorem L6{n:Nat}{rows:List (List cJ)}{fo fm:cJ}(hn:n<=12)(hs:Qp n rows)(ho:GQ fo)(hm:GQ fm)(h:∀r∈rows,∀f∈r,GQ f):Bu (bE fo.2 fm.2 rows):=by
 have h1:(bE fo.2 fm.2 rows).natAbs<=(lm fo.2 fm.2).natAbs*(2 ^ 30) ^ (rows.flatten.map (·.2)).length:=by
  refine Gm _ λb hb=>?_;obtain⟨f,hf,rfl⟩:=O_.mp hb;obtain⟨r,hr,hfr⟩:=List.mem_flatten.mp hf;exact(h r hr f hfr).abs
 have h2:(lm fo.2 fm.2).natAbs<=2 ^ 30*2 ^ 30:=m_ (M7 _ _) (qbo ho.abs hm.abs);have h3:(rows.flatten.map (·.2)).length<=144:=by
  rw[g_,Ax hs.2,hs.1];exact m_ (qbo hn hn) (by decide)
 have h4:(2 ^ 30:Nat) ^ (rows.flatten.map (·.2)).length<=(2 ^ 30) ^ 144:=qcj (by decide) h3;have h5:(2 ^ 30:Nat)*2 ^ 30*(2 ^ 30) ^ 144<=2 ^ 4380:=by
  rw[←Nat.pow_mul,←Nat.pow_add,←Nat.pow_add];exact qcj (by decide) (by decide)
 exact m_ h1 (m_ (qbo h2 h4) h5)
theorem sO{f:cJ}(h:GQ f):GQ (nH f):=by
 obtain⟨h1,h2⟩:=h;have h0:0<f.2:=by omega
 have p:=UE f.1 h0;have l:=lo_le f.1 h0;exact⟨by show 1<=(lo f.1 f.2).2;omega,by show(lo f.1 f.2).2<_;omega⟩
theorem Pk{f:cJ}(h:Sm f.1):Sm (nH f).1:=t_ (uW _ _) h
theorem Bu.div{u:Int}(h:Bu u)(g:Int):Bu (u / g):=m_ (uW _ _) h
theorem Pj{n:Nat}{rows:List (List cJ)}(h:Qp n rows):Qp n (Bx rows):=by
 refine⟨by unfold Bx;rw[g_];exact h.1,λr hr=>?_⟩;obtain⟨r',h',rfl⟩:=O_.mp hr;rw[g_];exact h.2 r' h'
theorem DS{p:cJ->Prop}{rows:List (List cJ)}(h:∀r∈rows,∀f∈r,p (nH f)):∀r∈Bx rows,∀f∈r,p f:=by
 intro r hr f hf;obtain⟨r',h',rfl⟩:=O_.mp hr;obtain⟨f',hf',rfl⟩:=O_.mp hf;exact h r' h' f' hf'
end
section
theorem fq.off{K:PySem.W.Frag}{H:Hp}{l a:h_}{ys xs:List V}{o:HO}(hl:H l=some (.lst ys))(h:fq K H a xs):fq K (L2.upd H l o) a xs:=by
 rcases h with(h|⟨u,h⟩)|h
 ·exact .inl (.inl (by rw[au (nR h hl (by intro z;cases z))];exact h))
 ·exact .inl (.inr ⟨u,by rw[au (nR h hl (by intro z;cases z))];exact h⟩)
 ·exact .inr h
theorem nU.off{K:PySem.W.Frag}{H:Hp}{l q:h_}{ys:List V}{fs:List cJ}{o:HO}(hl:H l=some (.lst ys))(h:nU K H (.tup q) fs):nU K (L2.upd H l o) (.tup q) fs:=by
 obtain⟨ps,a,b⟩:=h;exact⟨ps,fq.off hl a,Paired.oO b λ_ _ z=>fq.off hl z⟩
def Off(x:h_)(H H':Hp):Prop:=∀b u,H b=some u->b≠x->H' b=some u
theorem Off.of{x:h_}{H H':Hp}(e:ai H H'):Off x H H':=λb u h _=>e b u h
theorem Off.trans{x:h_}{H H' yO:Hp}(e:Off x H H')(f:Off x H' yO):Off x H yO:=λb u h n=>f b u (e b u h n) n
theorem Off.set{x:h_}{H:Hp}{o:HO}:Off x H (L2.upd H x o):=λb u h n=>by rw[au n];exact h
theorem Off.dat{x C dx:h_}{fs:List (r_×V)}{H H':Hp}(hx:H x=some (.ins C dx fs))(e:Off x H H'):Dat H H':=λb u n h=>e b u h λz=>by
 subst z;rw[hx]at h;cases h;exact n _ _ _ Y
theorem pl1{a:r_}{x:V}:(aK a x []).length<1000:=t_ (aB (k_ 0)) (by decide)
theorem pl2{a b:r_}{x y:V}:(aK a x (aK b y [])).length<1000:=t_ (aB (aB (k_ 0))) (by decide)
theorem pl3{a b c:r_}{x y z:V}:(aK a x (aK b y (aK c z []))).length<1000:=t_ (aB (aB (aB (k_ 0)))) (by decide)
theorem pl4{a b c d:r_}{x y z w:V}:(aK a x (aK b y (aK c z (aK d w [])))).length<1000:=t_ (aB (aB (aB (aB (k_ 0))))) (by decide)
theorem pl5{a b c d e:r_}{x y z w v:V}:(aK a x (aK b y (aK c z (aK d w (aK e v []))))).length<1000:=t_ (aB (aB (aB (aB (aB (k_ 0)))))) (by decide)
theorem pl6{a b c d e g:r_}{x y z w v t:V}:(aK a x (aK b y (aK c z (aK d w (aK e v (aK g t [])))))).length<1000:=t_ (aB (aB (aB (aB (aB (aB (k_ 0))))))) (by decide)
theorem pl7{x:r_}{P o m:h_}{u:Int}{d:h_×h_}:(kI x P o m u d).length<1000:=t_ (aB (aB (aB (aB (aB (aB (aB (k_ 0)))))))) (by decide)
theorem pl8{x:r_}{P o m:h_}{u:Int}{d:h_×h_}{a:r_}{v:V}:(aK a v (kI x P o m u d)).length<1000:=t_ (aB (aB (aB (aB (aB (aB (aB (aB (k_ 0))))))))) (by decide)
end
section
end
end GP
namespace L2
open PySem PySem.Spec PyProof.Rows
noncomputable def qQ(scope:qbK)(X:Cx):Bool:=scope.names.all λy=>(y.2 != qat)||(X.env.scope.names.lookup y.1==some qb3)
noncomputable def ixB(scope:qbK)(X:Cx)(N:List r_)(nt:Nat)(ix:List Nat):Bool:=(K_ ix.length).all λk=>match N[nt+k]?,ix[k]? with
 |some x,some j=>(X.N[j]? ==some x)&&(scope.names.contains (x,qat))&&((relabel scope X.env).names.lookup x==some qb3)
 |_,_=>false
theorem cG.qQ{X:Cx}{scope:qbK}{N:List r_}{nt:Nat}{ix:List Nat}(kind:scope.kind= .function)(cell:∀y∈scope.names,y.2= .cell->(y.1,qat)∉scope.names)
  (names:∀y∈scope.names,y.2= .local->scope.names.lookup y.1=some .local) (hf:L2.qQ scope X=true) (hl:N.length=nt+ix.length) (hx:ixB scope X N nt ix=true) (ok:X.Ok) :
  ∃cl,cG X scope cl N (T8 nt ix):=by
 refine cG.free kind cell names (λy hy hk=>?_) hl (λk j hj=>?_) ok
 ·have z:=R_.mp hf y hy;rw[hk]at z;have z2:X.env.scope.names.lookup y.1=some qb3:=by simpa using z
  exact z2
 ·have hk:k<ix.length:=(p_.mp hj).1;have z:=R_.mp hx k (qav.mpr hk);have hn:nt+k<N.length:=by omega
  rw[e_ hn,hj]at z;simp only[qae]at z;obtain⟨⟨z1,z2⟩,z3⟩:=z;exact⟨_,e_ hn,by simpa using z1,by simpa using z2,by simpa using z3⟩
theorem Kp.uD{r:St}{v:Option V}:Kp (none::r) ((none::r).set 0 v):=λi x e=>by
 cases i with
 |zero=>cases e
 |succ i=>exact e
theorem Eg{X:Cx}:mL X (.builtin "isinstance") (λxs H Q=>t9 λx n t b=>xs=[x,.ty n]/\(vS X.K H x t\/dI λa ys=>x= .ref a/\fq X.K H a ys/\t= .type "tuple")/\PySem.W.kitOne X.K t (.type n)=some b/\Q (.bl b) H):=by
 intro pins s σ H xs us Q I r h;obtain⟨x,n,t,b,rfl,ty,e,q⟩:=h;obtain⟨u,w',rfl,rx,rn⟩:=vals2 r;cases rn;rcases ty with ty|⟨a,ys,rfl,hs,rfl⟩
 ·exact TK.cj (k_ s.toks) (Cu I rx ty e λtk hup=>⟨.bl b,H,I.tok _,Y,q⟩)
 ·cases (show u=Value.ref a from rx);obtain⟨its,_,⟨o,h1,h2,_⟩,_⟩:=I.tuple hs
  exact TK.cj (k_ s.toks) (PySem.W.kia_one PySem.W.kitx_tuple I.qz ⟨o,h1,h2⟩ e (λz=>nomatch z) λtk hup=>⟨.bl b,H,I.tok _,Y,q⟩)
end L2
namespace GP
open PySem L2 lN
theorem qM{K:PySem.W.Frag}{t:i_}:PySem.W.kitOne K t t=some true:=by unfold PySem.W.kitOne;rw[if_pos (by simp)]
theorem DV{K:PySem.W.Frag}:PySem.W.kitOne K (.type "int") (.type "bool")=some false:=by kernel_rfl
theorem qo{K:PySem.W.Frag}:PySem.W.kitOne K (.type "int") (.type "tuple")=some false:=by kernel_rfl
noncomputable def Wo(t:h_)(H:Hp):Hp:=λb=>if b=t then none else H b
theorem Wo.sub{t:h_}{H:Hp}:ai (Wo t H) H:=λb u h=>by
 unfold Wo at h;by_cases e:b=t
 ·rw[if_pos e]at h;cases h
 ·rw[if_neg e]at h;exact h
theorem Wo.ne{t:h_}{H:Hp}{b:h_}{u:HO}(h:Wo t H b=some u):b≠t:=λe=>by
 unfold Wo at h;rw[if_pos e]at h;cases h
theorem Wo.in{t:h_}{H:Hp}{b:h_}{u:HO}(n:b≠t)(h:H b=some u):Wo t H b=some u:=by
 unfold Wo;rw[if_neg n];exact h
theorem Wo.free{t:h_}{H:Hp}{b:h_}(h:H b=none):Wo t H b=none:=by
 unfold Wo;split
 ·rfl
 ·exact h
theorem Wo.set{t:h_}{H:Hp}{o:HO}:Wo t (L2.upd H t o)=Wo t H:=by
 funext b;unfold Wo;by_cases e:b=t
 ·rw[if_pos e,if_pos e]
 ·rw[if_neg e,if_neg e,au e]
theorem Wo.same{t:h_}{H H':Hp}(e:ai H H'):ai (Wo t H) (Wo t H'):=λb u h=>Wo.in (Wo.ne h) (e b u (Wo.sub b u h))
theorem Wo.upd{t:h_}{H:Hp}{o:HO}:ai (Wo t H) (L2.upd H t o):=λb u h=>by rw[au (Wo.ne h)];exact Wo.sub b u h
theorem LZ{H:Hp}{t r:h_}{o:HO}(h:L2.upd H t o r=none):H r=none:=by
 by_cases e:r=t
 ·rw[e,af]at h;cases h
 ·rw[au e]at h;exact h
structure xB(K:PySem.W.Frag)(H:Hp)(s t:h_)(ns:List Int)(k:Int):Prop where
 sq:bD K (Wo t H) s (ns.map V.int)
 len:ns.length<=63
 at_:H t=some (.lst [.int k])
 k0:0<=k
theorem xB.scr{K:PySem.W.Frag}{H:Hp}{s t:h_}{ns:List Int}{k:Int}(c:xB K H s t ns k):bD K H s (ns.map V.int):=ai.seq Wo.sub c.sq
theorem xB.Wv{K:PySem.W.Frag}{H:Hp}{s t:h_}{ns:List Int}{k:Int}(c:xB K H s t ns k)(o:HO):bD K (L2.upd H t o) s (ns.map V.int):=ai.seq Wo.upd c.sq
theorem xB.same{K:PySem.W.Frag}{H H':Hp}{s t:h_}{ns:List Int}{k:Int}(c:xB K H s t ns k)(e:ai H H'):xB K H' s t ns k:=⟨ai.seq (Wo.same e) c.sq,c.len,e _ _ c.at_,c.k0⟩
theorem xB.off{K:PySem.W.Frag}{H H':Hp}{s t:h_}{ns:List Int}{k k':Int}(c:xB K H s t ns k)(e:ai (Wo t H) (Wo t H'))(h:H' t=some (.lst [.int k']))(h0:0<=k'):xB K H' s t ns k':=⟨ai.seq e c.sq,c.len,h,h0⟩
theorem GC{c:Int}(h1: -(10 ^ 40)<=c)(h2:c<=10 ^ 40):Sm c:=by
 have h:c.natAbs<=10 ^ 40:=by omega
 have h3:(10:Nat) ^ 40<2 ^ 200:=by decide
 exact t_ h h3
def V1(f:cJ):Prop:=1<=f.2/\f.2<=999/\Sm f.1
theorem V1.h{f:cJ}(h:V1 f):YE f:=⟨⟨h.1,by have:=h.2.1;omega⟩,h.2.2⟩
def wm(K:PySem.W.Frag):Sp:=λvs H Q _=>t9 λ(s t:h_) (ns:List Int) (k:Int)=>vs=[.ref s,.ref t]/\xB K H s t ns k/\k<=100000 ∧
 ∀m:Int,0<=m->m<1999999973->Q (.int m) (L2.upd H t (.lst [.int (k+1)]))
def Mw(K:PySem.W.Frag):Sp:=λvs H Q _=>t9 λ(s t:h_) (ns:List Int) (k:Int)=>vs=[.ref s,.ref t]/\xB K H s t ns k/\k<=100000 ∧
 ∀(f:cJ) (q:h_) (H':Hp),V1 f->ai (L2.upd H t (.lst [.int (k+1)])) H'->H q=none->H' q=some (.tup [.int f.1,.int f.2])->Q (.ref q) H'
structure vX(K:PySem.W.Frag)(H:Hp)(l:h_)(rs:List h_)(rows:List (List cJ)):Prop where
 len:rs.length=rows.length
 at_:H l=some (.lst (rs.map V.ref))
 nd:rs.Nodup
 nl:l∉rs
 row:∀(i:Nat) r row,rs[i]? =some r->rows[i]? =some row->∃ps:List h_,H r=some (.lst (ps.map V.ref))/\Paired (mF K H) ps row
theorem vX.same{K:PySem.W.Frag}{H H':Hp}{l:h_}{rs:List h_}{rows:List (List cJ)}(e:ai H H')(h:vX K H l rs rows):vX K H' l rs rows :=
 ⟨h.len,e _ _ h.at_,h.nd,h.nl,λi r row h1 h2=>by
  obtain⟨ps,a,b⟩:=h.row i r row h1 h2;exact⟨ps,e _ _ a,Paired.oO b λ_ _ z=>z.same e⟩⟩
theorem Ck{α β:Type}{F:α->β->Prop}:∀{l₁:List α} {l₂:List β},l₁.length=l₂.length->(∀(i:Nat) x y,l₁[i]? =some x->l₂[i]? =some y->F x y)->Paired F l₁ l₂
 |[],[],_,_=>.nil
 |x::l₁,y::l₂,hl,h=>.cons (h 0 x y rfl rfl) (Ck (by simpa using hl) λi a b h1 h2=>h (i+1) a b h1 h2)
theorem vX.acd{K:PySem.W.Frag}{H:Hp}{l:h_}{rs:List h_}{rows:List (List cJ)}(h:vX K H l rs rows):Lz K H (.lst l) rows:=by
 refine⟨λx z=>(by cases z),rs.map Cp.lst,λd hd x z=>?_,?_,?_⟩
 ·obtain⟨q,_,e⟩:=O_.mp hd;rw[←e]at z;cases z
 ·rw[qam];exact bD.of h.at_
 ·refine uJ (Ck h.len λi r row h1 h2=>?_);obtain⟨ps,a,b⟩:=h.row i r row h1 h2;exact⟨ps,bD.of a,b⟩
def Je(K:PySem.W.Frag):Sp:=λvs H Q _=>dI λ(a:h_) (ns:List Int)=>vs=[.ref a]/\bD K H a (ns.map V.int)/\ns.length<=63/\∀H',Q (.bl true) H'
end GP
namespace L2
open PySem PySem.Spec PyProof.Rows
section
def yX(wi:TI)(g:TG)(tt:TT)(te:TE)(q9:St->St):TE:=λσ H Q=>wi σ H λJ H1=>∀l,H1 l=none->∃W:Nat->Nat->List V->Hp->Prop,(∃m,W 0 m [] (upd H1 l (.lst []))) ∧
 ∀i m ys H2,W i m ys H2->(J.stop i H2/\Q (.ref l) H2) ∨
  (J.go i H2/\∀x H3,J.ET i H2 x H3->g x (q9 σ) H3 λBX H4=>Kp (q9 σ) BX/\tt BX H4 λb H5 =>
   if b=true then te BX H5 (λy H6=>H6 l=some (.lst ys)/\ys.length<x_/\∃m',m'<m/\W (i+1) m' (ys++[y]) (upd H6 l (.lst (ys++[y]))))else ∃m',m'<m/\W (i+1) m' ys H5)
theorem Xn{A B:Prop}(h:if false=true then A else B):B:=by rw[if_neg I_]at h;exact h
theorem Xm{A B:Prop}(h:if true=true then A else B):A:=by rw[if_pos rfl]at h;exact h
def PTs(X:Cx)(ifs:List Expr)(t:TT):Prop :=
 ∀(pins:List (h_×qa0)) (s:l_) (σ:St) (H:Hp) (Q:Bool->Hp->Prop),Inv X pins σ H s->t σ H Q->D_ (model X.prog X.w) X.A (forIn ifs true λc r=>if r=true then do let ok ←isTrue c X.env (eval c X.env);pure (qcA ok)else pure (qcA r)) (TP X pins σ Q) X.xe s
set_option maxHeartbeats 2000000 in
theorem Az{X:Cx}{elt tg iter:Expr}{ifs:List Expr}{tt:TT}{scope:qbK}{pos pos':qcq}{wi:TI}{g:TG}{te:TE}{N:List r_}{q9:St->St}(hc:X.calm=true)(hS:X.Ok->∃cl,cG X scope cl N q9)(hi:PI X tg iter wi)
  (hg:∀cl C s H ex pn E,PG (jD X scope cl C N s H ex pn E) tg g) (he:∀cl C s H ex pn E,PE (jD X scope cl C N s H ex pn E) elt te) (ht:∀cl C s H ex pn E,PTs (jD X scope cl C N s H ex pn E) ifs tt) (hs:∀x,foldedSetIterable iter X.env x=pure x)
  {pins:List (h_×qa0)} {s:l_} {σ:St} {H:Hp} {Q:VK} {use:Option (i_->Sem Unit)} {QQ:i_->l_->Prop} (I:Inv X pins σ H s) (h:yX wi g tt te q9 σ H Q)
  (Nr:∀(l C:h_) (mC:r_->Option i_) (H':Hp) (s':l_),Inv X pins σ H' s'->tG X pins H' C->s'.heap.Ns C mC->Q (.ref l) H'->compPost (model X.prog X.w) X.A X.xe use QQ (.ref l) C (.ok .next) s') :
  D_ (model X.prog X.w) X.A (comprehension (.ListComp elt [⟨tg,iter,ifs,0⟩] scope pos) scope X.env pos' (newList []) false (eval iter X.env) use) QQ X.xe s:=by
 obtain⟨cl,S⟩:=hS I.ok;refine wpAny_comprehension_free (use:=use) Y hs S.clos S.kind S.names (gg (hi pins s σ H _ I h) λv s1 h1=>gg h1 λitv s2 h2=>?_);obtain⟨it,fp,tn,J,H2,e,I2,T,st2,f2,hq⟩:=h2;subst e;obtain⟨W,⟨m0,w0⟩,turn⟩:=hq _ I2.fresh;refine qb8 (NX S λIC h₁ G U6 kp=>?_);have I3:Inv X pins σ (upd H2 s2.heap.objs.size (.lst [])) { s2 with heap:=s2.heap.push { cls:=.type "list",data:=.seq ([]:List i_).toArray } }:=I2.UG (t':=s2.toks) .nil (T_ _);have QH:∀b o,s2.heap.get? b=some o->(s2.heap.push { cls:=.type "list",data:=.seq ([]:List i_).toArray }).get? b=some o:=λb o e=>j_ _ e;have f3:∀b∈fp,tG X pins (upd H2 s2.heap.objs.size (.lst [])) b/\b<(s2.heap.push { cls:=.type "list",data:=.seq ([]:List i_).toArray }).objs.size:=λb hb=>by
  obtain⟨o,ho,_⟩:=T.obj _ _ st2 b hb;have hlt:=y_ ho;obtain⟨f0,f1⟩:=f2 b hb;exact⟨⟨by rw[au (Y_ hlt)];exact f0,f1⟩,y_ (QH b o ho)⟩
 have st3:tn 0 h₁:=T.keep _ _ _ st2 λb _ o e=>kp b o (QH b o e);generalize hR:(λr s'=>compPost (model X.prog X.w) X.A X.xe use QQ (.ref s2.heap.objs.size) (s2.heap.push { cls:=.type "list",data:=.seq ([]:List i_).toArray }).objs.size r s')=R;generalize Gf:jD X scope IC (s2.heap.push { cls:=.type "list",data:=.seq ([]:List i_).toArray }).objs.size N { s2 with heap:=s2.heap.push { cls:=.type "list",data:=.seq ([]:List i_).toArray } }
  (upd H2 s2.heap.objs.size (.lst [])) fp (X.pn++pins) (notedBy (model X.prog X.w) X.A (compEnvC scope IC (s2.heap.push { cls:=.type "list",data:=.seq ([]:List i_).toArray }).objs.size X.env) λe s'=>R (.error e) s')=X'
 have I4:Inv X' [] (q9 σ) (upd H2 s2.heap.objs.size (.lst [])) { s2 with heap:=h₁ }:=by
  subst Gf;exact Nd (s:={ s2 with heap:=s2.heap.push { cls:=.type "list",data:=.seq ([]:List i_).toArray } }) S G I3 f3 kp U6 s2.toks
 have PG':PG X' tg g:=by subst Gf;exact hg _ _ _ _ _ _ _
 have PE':PE X' elt te:=by subst Gf;exact he _ _ _ _ _ _ _
 have PT':PTs X' ifs tt:=by subst Gf;exact ht _ _ _ _ _ _ _
 have stat:∀{H':Hp},(∀b∈fp,H' b=none)->∀b∈fp,tG X' [] H' b:=λhn b hb=>by
  subst Gf;obtain⟨⟨_,f1,fn,_,f4,f5⟩,lt⟩:=f3 b hb;refine⟨hn b hb,Y_ lt,λz=>?_,.inl hb,λx c e=>(G.look x c e).elim (λz=>qaR (qcI lt z.1)) λz=>f4 x c (S.sub x c z),λp hp=>f5 p ?_⟩
  ·rcases G_.mp (I3.wj b z)with q|q
   ·exact f1 q
   ·exact fn q
  ·rcases S_.mp hp with z|z
   ·exact z
   ·cases z
 have hp1:X'.prog=X.prog:=by subst Gf;rfl
 have hp2:X'.w=X.w:=by subst Gf;rfl
 have hp3:X'.K=X.K:=by subst Gf;rfl
 have Zr:X'.calm=true:=by subst Gf;exact hc
 have VU:X'.A=X.A:=by subst Gf;rfl
 have hp6:X'.env=compEnvC scope IC (s2.heap.push { cls:=.type "list",data:=.seq ([]:List i_).toArray }).objs.size X.env:=by subst Gf;rfl
 have Zq:X'.xe=notedBy (model X.prog X.w) X.A X'.env λe s'=>R (.error e) s':=by subst Gf;rfl
 have fin:∀{H':Hp} {s':l_},Inv X' [] (q9 σ) H' s'->Q (.ref s2.heap.objs.size) H'->R (.ok .next) s':=by
  intro H' s' I5 q;subst hR;obtain⟨mC,hnC,_⟩:=I5.loc;rw[hp6]at hnC;have hok:qY X.prog X.w H' s'.heap:=by
   have z:=I5.hok;rw[hp1,hp2]at z;exact z
  have u:Un (frs X.stack) fp (upd H2 s2.heap.objs.size (.lst [])) H' (s2.heap.push { cls:=.type "list",data:=.seq ([]:List i_).toArray }) s'.heap:=by
   have z:=I5.base;subst Gf;exact z
  have hC:H' (s2.heap.push { cls:=.type "list",data:=.seq ([]:List i_).toArray }).objs.size=none:=by
   have zf:=I5.free;rw[hp6]at zf;exact zf
  refine Nr _ _ mC H' s' (I3.Rb (ch:=fp) (s':=s') (by have z:=I5.os;subst Gf;exact z) u hok I5.bare (λb hb=>?_) (by have z:=I5.up;subst Gf;exact m_ I3.up z)) (I3.xg (k_ _) hC) hnC q;obtain⟨⟨_,f1,_,f3',f4,f5⟩,_⟩:=f3 b hb;exact⟨f3',f1,f4,f5⟩
 have loop:∀s3:l_,Inv X' [] (q9 σ) (upd H2 s2.heap.objs.size (.lst [])) s3->tn 0 s3.heap →
   codeAny (model X.prog X.w) X.A (.compLoop (.ListComp elt [⟨tg,iter,ifs,0⟩] scope pos) 0 (.ref it) (.ref s2.heap.objs.size) X'.env) R s3:=by
  intro s3 J3 t3;refine codeAny_loop Y (λn s'=>oS λi ys H'=>Inv X' [] (q9 σ) H' s'/\tn i s'.heap/\(∀b∈fp,H' b=none)/\W i n ys H') ?_ m0 ⟨0,[],_,J3,t3,λb hb=>(f3 b hb).1.1,w0⟩;rintro n s4 ⟨i,ys,H4,J4,t4,n4,w4⟩;show D_ _ _ ((compTurn (.ListComp elt [⟨tg,iter,ifs,0⟩] scope pos) 0 (.ref it) (.ref s2.heap.objs.size) X'.env).onRaise (λx=>do noteFrame x X'.env;theTreesLotGoes x)) _ _ s4;refine wpAny_noted ?_;rw[compTurn_list];refine f_ (qcX (f_ ?_));rcases turn i n ys H4 w4 with⟨stop,q⟩|⟨go,step⟩
  ·have z:=T.done X' hp1 hp2 hp3 Zr i [] s4 (q9 σ) H4 (notedBy (model X.prog X.w) X.A X'.env λe s'=>R (.error e) s') J4 (stat n4) t4 stop;rw[VU]at z;refine qaJ z (λr s5 ⟨hr,J5⟩=>?_) λ_ _ x=>x;subst hr;exact q_ (fin J5 q)
  ·have z:=T.item X' hp1 hp2 hp3 Zr i [] s4 (q9 σ) H4 (notedBy (model X.prog X.w) X.A X'.env λe s'=>R (.error e) s') J4 (stat n4) t4 go;rw[VU]at z;refine qaJ z (λr s5 ⟨u,hr,h5⟩=>?_) λ_ _ x=>x;subst hr;refine f_ (qaJ h5 (λ_ s6 ⟨x,H6,J6,r6,y6,t6,n6⟩=>?_) λ_ _ x=>x);have J6':=J6.pinned (stat n6) (T.obj _ _ t6);have zg:=PG' _ s6 (q9 σ) H6 x u _ J6' r6 (step x H6 y6);rw[hp1,hp2,VU,Zq]at zg;refine f_ (qaJ zg (λ_ s7 ⟨G4,H7,J7,k7,q7⟩=>?_) λ_ _ x=>x);have zt:=PT' _ s7 G4 H7 _ J7 q7;rw[hp1,hp2,VU,Zq]at zt;refine f_ (qaJ zt (λok s7b h7b=>?_) λ_ _ x=>x);obtain⟨H7b,YI,q7b⟩:=h7b
   cases ok with
   |false =>
    obtain⟨m',hm,w8⟩:=Xn q7b;refine q_ ⟨Y,m',hm,i+1,ys,_,?_,?_,?_,w8⟩
    ·refine YI.Qz.weak ?_ ?_
     ·rw[S.len,YI.len];subst Gf;rfl
     ·exact k7
    ·exact T.keep _ _ _ t6 λb hb o e=>(YI.pin (b,o) (X_ _ (X_ _ (mS hb e)))).1
    ·intro b hb;obtain⟨o,e,d⟩:=T.obj _ _ t6 b hb;exact(YI.pin (b,o) (X_ _ (X_ _ (mS hb e)))).2.1
   |true =>
    have ze:=PE' _ s7b G4 H7b _ YI (Xm q7b);rw[hp1,hp2,VU,Zq]at ze;refine f_ (f_ (qaJ ze (λyv s8 h8=>?_) λ_ _ x=>x));obtain⟨y,H8,J8,r8,e8,z8,m',hm,w8⟩:=h8;have za:=gm (X:=X') _ s8 G4 H8 (.ref s2.heap.objs.size) [y] (.ref s2.heap.objs.size) [yv] (λ_ H9=>H9=upd H8 s2.heap.objs.size (.lst (ys++[y]))) J8 rfl (.cons r8 .nil) ⟨_,ys,y,rfl,rfl,e8,z8,rfl⟩;rw[hp1,hp2,VU,Zq]at za;refine f_ (qaJ za (λ_ s9 h9=>?_) λ_ _ x=>x);obtain⟨_,H9,J9,_,e9⟩:=h9;subst e9;refine q_ (q_ ⟨Y,m',hm,i+1,ys++[y],_,?_,?_,?_,w8⟩)
    ·refine J9.Qz.weak ?_ ?_
     ·rw[S.len,J9.len];subst Gf;rfl
     ·exact k7
    ·exact T.keep _ _ _ t6 λb hb o e=>(J9.pin (b,o) (X_ _ (X_ _ (mS hb e)))).1
    ·intro b hb;obtain⟨o,e,d⟩:=T.obj _ _ t6 b hb;exact(J9.pin (b,o) (X_ _ (X_ _ (mS hb e)))).2.1
 have l0:=loop _ I4 st3;have l1:=codeAny_compStart_list l0 (T.self X.A 0 _ _ _ st3 l0);rw[hp6]at l1;subst hR;exact l1
theorem CF{X:Cx}{elt tg iter:Expr}{scope:qbK}{pos pos':qcq}{wi:TI}{g:TG}{te:TE}{N:List r_}{q9:St->St}(hc:X.calm=true)(hS:X.Ok->∃cl,cG X scope cl N q9)(hi:PI X tg iter wi)
  (hg:∀cl C s H ex pn E,PG (jD X scope cl C N s H ex pn E) tg g) (he:∀cl C s H ex pn E,PE (jD X scope cl C N s H ex pn E) elt te) (hs:∀x,foldedSetIterable iter X.env x=pure x)
  {pins:List (h_×qa0)} {s:l_} {σ:St} {H:Hp} {Q:VK} {use:Option (i_->Sem Unit)} {QQ:i_->l_->Prop} (I:Inv X pins σ H s) (h:Fj wi g te q9 σ H Q)
  (Nr:∀(l C:h_) (mC:r_->Option i_) (H':Hp) (s':l_),Inv X pins σ H' s'->tG X pins H' C->s'.heap.Ns C mC->Q (.ref l) H'->compPost (model X.prog X.w) X.A X.xe use QQ (.ref l) C (.ok .next) s') :
  D_ (model X.prog X.w) X.A (comprehension (.ListComp elt [⟨tg,iter,[],0⟩] scope pos) scope X.env pos' (newList []) false (eval iter X.env) use) QQ X.xe s:=by
 have e:Fj wi g te q9=yX wi g (λ_ H Q=>Q true H) te q9:=by unfold Fj yX;simp only[if_true]
 rw[e]at h;exact Az hc hS hi hg he (λ_ _ _ _ _ _ _ pins s σ H Q I q=>q_ ⟨H,I,q⟩) hs I h Nr
theorem iN{X:Cx}{elt tg iter:Expr}{scope:qbK}{pos:qcq}{wi:TI}{g:TG}{te:TE}{N:List r_}{q9:St->St}(hc:X.calm=true)(hS:X.Ok->∃cl,cG X scope cl N q9)(hi:PI X tg iter wi)
  (hg:∀cl C s H ex pn E,PG (jD X scope cl C N s H ex pn E) tg g) (he:∀cl C s H ex pn E,PE (jD X scope cl C N s H ex pn E) elt te)
  (hs:∀x,foldedSetIterable iter X.env x=pure x:=by intro _;rfl):PE X (.ListComp elt [⟨tg,iter,[],0⟩] scope pos) (Fj wi g te q9):=by
 intro pins s σ H Q I h;rw[eval_ListComp];refine CF (use:=none) (QQ:=EP X pins σ Q) hc hS hi hg he hs I h ?_;intro l C mC H' s' I' fp hn q;exact⟨mC,hn,λh' sb=>⟨.ref l,H',I'.moved (ch:=[C]) (t':=s'.toks) (λb o hb e=>(sb.2 b (by simpa using hb)).trans e) (λb hb=>by rw[w_.mp hb];exact fp),Y,q⟩⟩
theorem rD{X:Cx}{i:Nat}{y:r_}{py spos:qcq}{elt tg iter:Expr}{scope:qbK}{pos:qcq}{wi:TI}{g:TG}{te:TE}{N:List r_}{q9:St->St}(hN:X.N.Nodup)(hi:X.N[i]? =some y)(hx:Loc X.env.scope y)
  (hc:X.calm=true) (hS:X.Ok->∃cl,cG X scope cl N q9) (hit:PI X tg iter wi)
  (hg:∀cl C s H ex pn E,PG (jD X scope cl C N s H ex pn E) tg g) (he:∀cl C s H ex pn E,PE (jD X scope cl C N s H ex pn E) elt te)
  (hsw:swapsWith (.ListComp elt [⟨tg,iter,[],0⟩] scope pos) (some (.Name y py)) spos.line X.env=pure true:=by rfl)
  (hf:X.fn y=true\/X.env.scope.names.lookup y=some .local:=by first|exact .inl rfl|exact .inr rfl|assumption)
  (hs:∀x,foldedSetIterable iter X.env x=pure x:=by intro _;rfl):PS X (.Assign [.Name y py] (.ListComp elt [⟨tg,iter,[],0⟩] scope pos) spos) (T6 (Fj wi g te q9) (ND i)):=by
 intro pins s σ H D I h;rw[exec_Assign_Name_used _ _ _ _ hsw];refine f_ (qcX (f_ ?_))
 show D_ _ X.A (do let _ ←comprehension (.ListComp elt [⟨tg,iter,[],0⟩] scope pos) scope X.env _ (newList []) false (eval iter X.env) (some (assign (.Name y py) X.env))) _ _ s
 refine f_ (qaJ (CF (use:=some (assign (.Name y py) X.env)) (QQ:=λ_ s'=>SP X pins D .next s') hc hS hit hg he hs I h ?_) (λ_ s' hq=>q_ (q_ hq)) λ_ _ e=>e);intro l C mC H' s' I' fp hn q;show D_ _ X.A (assign (.Name y py) X.env (.ref l)) _ _ _;refine wpAny_assign_Name (B8 I' hN hi hx (v:=.ref l) Y (λs2 I2 sb=>?_) hf);obtain⟨a,sb,ha⟩:=sb;have nC:C≠a:=by
  obtain⟨_,f1,_,_,f4,_⟩:=fp;rcases ha with z|z
  ·rw[z];exact f1
  ·exact λe=>f4 y a z e.symm
 refine⟨mC,hn.sameBut sb nC,λh' sb2=>?_⟩;refine⟨_,H',I2.moved (ch:=[C]) (t':=s2.toks) (λb o hb e=>(sb2.2 b (by simpa using hb)).trans e) (λb hb=>?_),q⟩;rw[w_.mp hb];exact fp
end
section
theorem Py{X:Cx}{K':PySem.W.Frag}(hK:X.K=K'):Oe X (Ue K'):=by subst hK;exact cS
theorem Nb{X:Cx}{K':PySem.W.Frag}(hK:X.K=K'):Oe X (Ug K'):=by subst hK;exact bf
end
end L2
namespace GP
open PySem L2 lN
section
theorem Wo.au{t q:h_}{H:Hp}{o:HO}(n:q≠t):Wo t (L2.upd H q o)=L2.upd (Wo t H) q o:=by
 funext b;by_cases e:b=q
 ·subst e;rw[L2.af];unfold Wo;rw[if_neg n,L2.af]
 ·rw[L2.au e];unfold Wo;split
  ·rfl
  ·rw[L2.au e]
theorem Wo.step{t:h_}{H H':Hp}{o:HO}(e:ai (L2.upd H t o) H'):ai (Wo t H) (Wo t H'):=by
 have z:=Wo.same (t:=t) e;rw[Wo.set]at z;exact z
theorem Wo.back{t r:h_}{H H':Hp}{o:HO}(e:ai (Wo t H) (Wo t H'))(ht:H' t=some o)(h:H' r=none):H r=none:=by
 cases q:H r with
 |none=>rfl
 |some u =>
  have n:r≠t:=λz=>by rw[z,ht]at h;cases h
  have z:=Wo.sub _ _ (e r u (Wo.in n q));rw[h]at z;cases z
theorem Paired.Wt{α β:Type}{F:α->β->Prop}{x:α}{y:β}:∀{l₁:List α} {l₂:List β} (j:Nat),Paired F l₁ l₂->F x y->Paired F (l₁.set j x) (l₂.set j y)
 |_,_,_,.nil,_=>.nil
 |_,_,0,.cons r t,h=>.cons h t
 |_,_,j+1,.cons r t,h=>.cons r (Paired.Wt j t h)
theorem vX.put{K:PySem.W.Frag}{H:Hp}{l r p:h_}{rs ps:List h_}{rows:List (List cJ)}{row:List cJ}{i j:Nat}{f:cJ}(h:vX K H l rs rows)(hr:rs[i]? =some r)(As:rows[i]? =some row)
  (hps:H r=some (.lst (ps.map V.ref))) (hp:Paired (mF K H) ps row) (hf:mF K H p f):vX K (L2.upd H r (.lst ((ps.map V.ref).set j (.ref p)))) l rs (rows.set i (row.set j f)):=by
 have Za:l≠r:=λz=>h.nl (z▸u_ hr);refine⟨by rw[qb0];exact h.len,by rw[L2.au Za];exact h.at_,h.nd,h.nl,λi' r' Ud h1 h2=>?_⟩;have hi:i<rows.length:=(p_.mp As).1;by_cases e:i=i'
 ·subst e;rw[hr]at h1;cases h1;rw[List.getElem?_set,if_pos rfl,if_pos hi]at h2;cases h2;refine⟨ps.set j p,by rw[L2.af,List.map_set],?_⟩;exact Paired.oO (Paired.Wt j hp hf) λ_ _ z=>fq.off hps z
 ·rw[List.getElem?_set,if_neg e]at h2;obtain⟨ps',a,b⟩:=h.row i' r' Ud h1 h2;have n:r'≠r:=λz=>by
   subst z;exact e ((qbd (p_.mp hr).1 h.nd).mp (hr.trans h1.symm))
  exact⟨ps',by rw[L2.au n];exact a,Paired.oO b λ_ _ z=>fq.off hps z⟩
theorem vX.snoc{K:PySem.W.Frag}{H H':Hp}{l r:h_}{rs ps:List h_}{rows:List (List cJ)}{row:List cJ}(h:vX K H l rs rows)(e:ai H H')(hr:H r=none)(hps:H' r=some (.lst (ps.map V.ref)))(hp:Paired (mF K H') ps row):
  vX K (L2.upd H' l (.lst (rs.map V.ref++[.ref r]))) l (rs++[r]) (rows++[row]):=by
 have hl':=e _ _ h.at_;have Za:r≠l:=λz=>by rw[z,h.at_]at hr;cases hr
 have nin:r∉rs:=λz=>by
  obtain⟨i,hi,ei⟩:=qaW z;have hi2:i<rows.length:=by rw[←h.len];exact hi
  obtain⟨ps',a,_⟩:=h.row i r rows[i] (by rw[e_ hi,ei]) (e_ hi2);rw[hr]at a;cases a
 refine⟨by rw[o_,o_,h.len];rfl,by rw[L2.af,N_];rfl,?_,?_,λi r' Ud h1 h2=>?_⟩
 ·refine qb9.mpr ⟨h.nd,(by simp),λx hx y hy z=>?_⟩;rw[w_.mp hy]at z;exact nin (z▸hx)
 ·intro z;rcases S_.mp z with z|z
  ·exact h.nl z
  ·exact Za (w_.mp z).symm
 ·by_cases q:i<rs.length
  ·rw[qau q]at h1;rw[qau (by rw[←h.len];exact q)]at h2;obtain⟨ps',a,b⟩:=h.row i r' Ud h1 h2;have n:r'≠l:=λz=>h.nl (z▸u_ h1);exact⟨ps',by rw[L2.au n];exact e _ _ a,Paired.oO b λ_ _ z=>fq.off hl' (z.same e)⟩
  ·have q':rs.length<=i:=Nat.le_of_not_lt q;rw[qar q']at h1;rw[qar (by rw[←h.len];exact q')]at h2;have z:i-rs.length=0:=by
    have:=(p_.mp h1).1;simp at this;omega
   rw[z]at h1;rw[←h.len,z]at h2;cases h1;cases h2;exact⟨ps,by rw[L2.au Za];exact hps,Paired.oO hp λ_ _ z=>fq.off hl' z⟩
end
section
section
variable{K:PySem.W.Frag}{C:h_}{H0 H H':Hp}{t l x o m:h_}{rs:List h_}{sg:r_}{rows:List (List cJ)}{fo fm:cJ}{k:Int}
end
end
end GP
namespace L2
open PySem PySem.Spec PyProof.Rows
def KDict(P:A_)(w:U_)(K:PySem.W.Frag)(a:h_)(kvs:List (Key×V)):Prop:=(a==sysModules)=false/\∃vs,KV kvs vs/\∀h:qab,K.In h->h.DictOf (jr P w) a vs
noncomputable def adv(w:U_)(x:r_×Tok×i_):DictEntry:=⟨hashStr w x.1,.str x.1 x.2.1,x.2.2⟩
theorem KDict.mk {P:A_}{w:U_}{K:PySem.W.Frag}{a:h_}{ep:Nat}{es:Array DictEntry}(ys:List (r_×Tok×i_)){vs:List V}(hk:K.lookup a=some { cls:=.type "dict",data:=.dict es ep })
  (he:es.toList=ys.map (adv w)) (hn:(ys.map (·.1)).Nodup) (hv:Vals vs (ys.map (·.2.2))) (hs:(a==sysModules)=false):KDict P w K a ((ys.map (·.1)).zipWith (λx v=>(Sum.inr x,v)) vs):=by
 refine⟨hs,ys.map λy=>(Sum.inr y.1,y.2.2),?_,λh X=>⟨_,es,ep,X a _ hk,⟨Y,Y,Y⟩,Y,?_,?_,?_⟩⟩
 ·clear hk he hn
  induction ys generalizing vs with
  |nil=>cases hv;exact .nil
  |cons y ys ih =>
   cases hv with
   |cons r t=>exact .cons ⟨Y,r⟩ (ih t)
 ·intro e hm;rw[←Array.mem_toList_iff,he]at hm;obtain⟨y,_,rfl⟩:=O_.mp hm;exact⟨Sum.inr y.1,sL P w _ _,Y⟩
 ·rw[he];clear hk he hn hv
  induction ys with
  |nil=>exact .nil
  |cons y ys ih=>exact .cons (sL P w _ _) Y ih
 ·rw[qam];have e:((λx:Key×i_=>x.1) ∘ λy:r_×Tok×i_=>((Sum.inr y.1:Key),y.2.2))=(λx:r_=>(Sum.inr x:Key)) ∘ (·.1):=rfl;rw[e,←qam];exact List.Pairwise.map _ (λa b h z=>h (Sum.inr.inj z)) hn
section
variable{X:Cx}
theorem FT:rZ X (compareOp .NotIn) (λx y H Q=>oS λa kvs k=>y= .ref a/\x=kV k/\KDict X.prog X.w X.K a kvs/\Q (.bl (!(iL kvs k).isSome)) H):=by
 intro pins s σ H x y v u Q I rx ry h;obtain⟨a,kvs,k,rfl,rfl,⟨hs,vs,rel,dd⟩,q⟩:=h;cases ry;refine wpAny_notIn_of (An rx) hs (dd _ I.qz).mapOf ?_;rw[←(rel.val k).oX];exact⟨.bl _,H,I.tok _,Y,q⟩
def Wh(P:A_)(w:U_)(K:PySem.W.Frag)(td ty:TE):TE:=λσ H Q=>td σ H λx H1=>ty σ H1 λy H2=>t9 λa kvs k v=>x= .ref a/\y=kV k/\KDict P w K a kvs/\iL kvs k=some v/\Q v H2
theorem Jx{o i:Expr}{pos:qcq}{td ty:TE}(ho:PE X o td)(hi:PE X i ty)(hs:VA i):PE X (.Subscript o i pos) (Wh X.prog X.w X.K td ty):=by
 intro pins s σ H Q I h;refine Ja PySem.F.slot_dict_getitem.lookup hs (gg (ho pins s σ H _ I h) λu s1 ⟨x,H1,I1,rx,q1⟩=>gg (hi pins s1 σ H1 _ I1 q1) λiv s2 ⟨y,H2,I2,ry,a,kvs,k,v,ex,ey,⟨hd,vs,rel,dd⟩,l,q2⟩=>?_);subst ex ey;obtain rfl:u=Value.ref a:=rx;obtain⟨w',hw,rw'⟩:=rK.some_of (v:=v) (o:=valueAt vs k) (by rw[←l];exact rel.val k);have d2:=dd _ I2.qz;exact⟨d2.typeIs,wpAny_getItem_of (An ry) d2.mapOf hw ⟨v,H2,I2.tok _,rw',q2⟩⟩
end
end L2
namespace GP
open PySem L2 lN
section
def TupAt(H:Hp)(q:h_)(f:cJ):Prop:=H q=some (.tup [.int f.1,.int f.2])
theorem TupAt.fr{K:PySem.W.Frag}{H:Hp}{q:h_}{f:cJ}(h:TupAt H q f):mF K H q f:=fq.of h
theorem TupAt.off{H:Hp}{q l:h_}{f:cJ}{ys:List V}{o:HO}(hl:H l=some (.lst ys))(h:TupAt H q f):TupAt (L2.upd H l o) q f:=by
 have n:q≠l:=nR h hl (by intro z;cases z);show L2.upd H l o q=_;rw[L2.au n];exact h
def Pe(c:Nat):Prop:=c=112\/c=97\/c=98
noncomputable def stp(q:cJ)(c:Nat):cJ:=(q.1+(if c=98 then 0 else 1),q.2+(if c=97 then 0 else 1))
def Of(sg x:r_):Prop:=∀c∈x.cps.toList,c∈sg.cps.toList
theorem NV{x:r_}{i c:Nat}(h:x.cps[i]? =some c):i<x.cps.size:=by
 rw[←V_]at h;have:=(p_.mp h).1;simpa using this
theorem Ed{x:r_}{i c:Nat}(h:x.cps[i]? =some c):c∈x.cps.toList:=by
 rw[←V_]at h;exact u_ h
theorem vO{x:r_}{i c:Nat}(h:x.cps[i]? =some c):x.cps.toList[i]? =some c:=by
 rw[V_];exact h
noncomputable def xM(sg:r_)(rows:List (List cJ))(u:Int)(a b:Nat):Int :=
 match (rows[sg.cps.toList.idxOf a]?).bind (·[sg.cps.toList.idxOf b]?)with
 |some f=>f.1*(u / f.2)
 |none=>0
theorem Us{sg:r_}{rows:List (List cJ)}{u:Int}{a b:Nat}(sq:Qp sg.cps.size rows)(ha:a∈sg.cps.toList)(hb:b∈sg.cps.toList):
  oS λi j f=>sg.cps[i]? =some a/\sg.cps[j]? =some b/\IV rows i j f/\xM sg rows u a b=f.1*(u / f.2):=by
 have hi:=List.idxOf_lt_length_iff.mpr ha;have hj:=List.idxOf_lt_length_iff.mpr hb;have ei:sg.cps.toList[sg.cps.toList.idxOf a]? =some a:=by rw[e_ hi,List.getElem_idxOf hi]
 have ej:sg.cps.toList[sg.cps.toList.idxOf b]? =some b:=by rw[e_ hj,List.getElem_idxOf hj]
 have hi':sg.cps.toList.idxOf a<rows.length:=by rw[sq.1];simpa using hi
 have hj':sg.cps.toList.idxOf b<(rows[sg.cps.toList.idxOf a]).length:=by rw[sq.2 _ (Q_ hi')];simpa using hj
 refine⟨_,_,(rows[sg.cps.toList.idxOf a])[sg.cps.toList.idxOf b],by rw[←V_];exact ei,by rw[←V_];exact ej,⟨_,e_ hi',e_ hj'⟩,?_⟩;unfold xM;rw[e_ hi']
 show(match (rows[sg.cps.toList.idxOf a])[sg.cps.toList.idxOf b]? with|some f=>f.1*(u / f.2)|none=>0)=_
 rw[e_ hj']
def zo(K:PySem.W.Frag):Sp:=λvs H Q _=>oS λ(q:h_) (c:Nat) (ij:cJ)=>vs=[.ref q,.str ⟨#[c]⟩]/\mF K H q ij/\Pe c/\∀r,H r=none->Q (.ref r) (L2.upd H r (.tup [.int (stp ij c).1,.int (stp ij c).2]))
end
section
theorem fq.wo{K:PySem.W.Frag}{H:Hp}{t a:h_}{ys xs:List V}(ht:H t=some (.lst ys))(h:fq K H a xs):fq K (Wo t H) a xs:=by
 rcases h with(h|⟨u,h⟩)|h
 ·exact .inl (.inl (Wo.in (nR h ht (by intro z;cases z)) h))
 ·exact .inl (.inr ⟨u,Wo.in (nR h ht (by intro z;cases z)) h⟩)
 ·exact .inr h
theorem lM.wo{K:PySem.W.Frag}{C:h_}{H:Hp}{t x:h_}{ys:List V}{sg:r_}{rows:List (List cJ)}{fo fm:cJ}(ht:H t=some (.lst ys))(nf:Od H x t)(h:lM K C H x sg rows fo fm):lM K C (Wo t H) x sg rows fo fm:=by
 obtain⟨a,b,c,d,f,g,i,dx,P,o,m,dd,kvs,h1,⟨qs,h2,h2'⟩,h3,h4,h5,h6,fs,h7,h8,h9⟩:=h;have n:dd.2≠t:=λz=>nf _ _ _ h1 (by rw[rG,z]);refine⟨a,b,c,d,f,g,i,dx,P,o,m,dd,kvs,Wo.in (nR h1 ht (by intro z;cases z)) h1,⟨qs,fq.wo ht h2,Paired.oO h2' λq r z=>?_⟩,fq.wo ht h3,fq.wo ht h4,Wo.in (nR h5 ht (by intro z;cases z)) h5,h6,fs,h7,h8,Wo.in n h9⟩;obtain⟨ps,z1,z2⟩:=z;exact⟨ps,fq.wo ht z1,Paired.oO z2 λ_ _ y=>fq.wo ht y⟩
end
end GP
namespace L2
open PySem PySem.Spec PyProof.Rows
section
def IS(h:qab)(φ:h_->Prop)(ea:h_)(cls:i_)(od:Option h_):Prop :=
 φ ea/\dI λvs sl=>h.get? ea=some ⟨cls,od,.fields vs,sl⟩/\(od=none->vs[2]? =some .none)/\(vs[1]? =some .none ∨
  oS λT oT ts=>vs[1]? =some (.ref T)/\T≠ea/\φ T/\h.get? T=some oT/\oT.data= .fields ts/\3<ts.size)
def BV(h:qab)(φ:h_->Prop)(ea:h_)(cls:i_)(od:Option h_):Prop :=
 φ ea/\dI λvs sl=>h.get? ea=some ⟨cls,od,.fields vs,sl⟩/\(od=none->vs[2]? =some .none) ∧
  oS λT oT ts=>vs[1]? =some (.ref T)/\T≠ea/\φ T/\h.get? T=some oT/\oT.data= .fields ts/\3<ts.size
theorem BV.n{h:qab}{φ:h_->Prop}{ea:h_}{cls:i_}{od:Option h_}(x:BV h φ ea cls od):IS h φ ea cls od:=by
 obtain⟨p,vs,sl,e,c2,t⟩:=x;exact⟨p,vs,sl,e,c2,.inr t⟩
theorem IS.to{h:qab}{φ ψ:h_->Prop}{ea:h_}{cls:i_}{od:Option h_}(x:IS h φ ea cls od)(m:∀b,φ b->ψ b):IS h ψ ea cls od:=by
 obtain⟨p,vs,sl,e,c2,t⟩:=x;refine⟨m _ p,vs,sl,e,c2,?_⟩;rcases t with t|⟨T,oT,ts,a,b,c,d⟩
 ·exact .inl t
 ·exact .inr ⟨T,oT,ts,a,b,m _ c,d⟩
structure qa(fr:List h_)(φ:h_->Prop)(h h':qab):Prop where
 keep:∀b o,h.get? b=some o->¬ φ b->b∉fr->h'.get? b=some o
 slot:∀b o,h.get? b=some o->¬ φ b->∃sl,h'.get? b=some { o with slots:=sl }
 there:∀b o,h.get? b=some o->∃o',h'.get? b=some o'
 size:h.objs.size<=h'.objs.size
theorem qa.refl{fr:List h_}{φ:h_->Prop}{h:qab}:qa fr φ h h:=⟨λ_ _ e _ _=>e,λ_ o e _=>⟨o.slots,e⟩,λ_ o e=>⟨o,e⟩,k_ _⟩
theorem qa.trans{fr:List h_}{φ:h_->Prop}{h h1 h2:qab}(a:qa fr φ h h1)(b:qa fr φ h1 h2):qa fr φ h h2 where
 keep:=λc o e n f=>b.keep c o (a.keep c o e n f) n f
 slot:=λc o e n=>by
  obtain⟨sl,e1⟩:=a.slot c o e n;obtain⟨LH,e2⟩:=b.slot c _ e1 n;exact⟨LH,e2⟩
 there:=λc o e=>by
  obtain⟨o',e1⟩:=a.there c o e;exact b.there c o' e1
 size:=m_ a.size b.size
section
variable{M:qc3}{A:qah}{E:i_->l_->Prop}{s:l_}{base:qab}{env e0:Env}{r:List Env}{L ea:h_}{φ:h_->Prop}{cls:i_}{od:Option h_}
theorem Gi{Q:i_->l_->Prop}(hs:A.frames=some (e0::r))(hl:s.heap.FunFrames base (e0::r))(h0:e0.frame=some L)(he:env.frame=some L)
  (h:∀h',Heap.SlotsOnly ((e0::r).filterMap (·.frame)) s.heap h'->Q (.ref L) { s with heap:=h' }):D_ M A (PySem.frameOf env) Q E s:=by
 unfold PySem.frameOf;refine f_ (wpAny_frameEnvs hs ?_);rw[show((e0::r).dropWhile λx=>x.frame != env.frame)=e0::r by simp[List.dropWhile,h0,he]];unfold frameObject;refine f_ (f_ (wpAny_readyFrames_fun hl λh1 k1=>q_ ?_));rw[h0];exact q_ (h h1 k1)
theorem CC{vs:Array i_}{sl:Array (Option i_)}{head:i_}{hadNext:Bool}{Q:Unit->l_->Prop}(hs:A.frames=some (e0::r))(hl:s.heap.FunFrames base (e0::r))(h0:e0.frame=some L)(hf:env.frame=some L)
  (pe:φ ea) (he:s.heap.get? ea=some ⟨cls,od,.fields vs,sl⟩) (h1:1<vs.size) (h2:od=none->vs[2]? =some .none) (new:∀b,s.heap.objs.size<=b->φ b)
  (q:∀h',qa (frs (e0::r)) φ s.heap h'->BV h' φ ea cls od->Q () { s with heap:=h' }) :
  D_ M A (do let a ←PySem.frameOf env;let pl ←entryPlaceOf L hadNext;let b ←EntryCells.newEntry head a .none (rawInt L) .none pl;setField (.ref ea) 1 b) Q E s:=by
 have nfr:ea∉(e0::r).filterMap (·.frame):=λhm=>by
  obtain⟨_,o,ho,nf⟩:=hl.mem hm;rw[he]at ho;cases ho;exact nf vs Y
 refine f_ (Gi hs hl h0 hf λg k=>?_);refine f_ (wpAny_entryPlaceOf λpl pk=>?_);simp only[EntryCells.newEntry,newFields];refine f_ (qb8 ?_ (pk.sizeOk5 _ _ _ _ _));have e1:g.get? ea=some ⟨cls,od,.fields vs,sl⟩:=(k.2.1 ea nfr).trans he;have ne:g.objs.size≠ea:=qaR (y_ e1)
 generalize hob:({ cls:=.type "traceback",dict:=none,data:=.fields ([head,.ref L,.none,rawInt L,.none]++(if pl.isEmpty then P_ 6 Value.none else pl)).toArray }:qa0)=ob
 have e2:=j_ (h:=g) ob e1;refine qch e2 Y h1 (q _ ⟨λb o e n f=>?_,λb o e n=>?_,λb o e=>?_,?_⟩ ⟨pe,_,sl,qaw _ e2 Y,λz=>(Array.getElem?_setIfInBounds_ne (by decide)).trans (h2 z),g.objs.size,ob,_,?_,ne,new _ (qcn k.1.symm),?_,by subst hob;rfl,?_⟩)
 ·have be:b≠ea:=λz=>n (z▸pe);rw[qal _ _ (Ne.symm be)];exact j_ _ ((k.2.1 b f).trans e)
 ·have be:b≠ea:=λz=>n (z▸pe);obtain⟨LH,e'⟩:=k.2.2 b o e;refine⟨LH,?_⟩;rw[qal _ _ (Ne.symm be)];exact j_ _ e'
 ·by_cases be:b=ea
  ·subst be;exact⟨_,qaw _ e2 Y⟩
  ·obtain⟨LH,e'⟩:=k.2.2 b o e;exact⟨{ o with slots:=LH },(qal _ _ (Ne.symm be)).trans (j_ _ e')⟩
 ·rw[Heap.size_after_update,qaU,k.1];exact qaE _
 ·simp[h1]
 ·rw[qal _ _ (Ne.symm ne)];exact B_ _ (by subst hob;rfl)
 ·rw[v_,o_];exact H_ (by decide:3<5) (qaq _ _)
theorem F4{Q:Unit->l_->Prop}(hs:A.frames=some (e0::r))(hl:s.heap.FunFrames base (e0::r))(h0:e0.frame=some L)(hf:env.frame=some L)
  (x:IS s.heap φ ea cls od) (new:∀b,s.heap.objs.size<=b->φ b) (q:∀h',qa (frs (e0::r)) φ s.heap h'->BV h' φ ea cls od->Q () { s with heap:=h' }) :
  D_ M A (noteFrame (.ref ea) env) Q E s:=by
 obtain⟨pe,vs,sl,he,c2,hv⟩:=x;unfold noteFrame;simp only[hf];rcases hv with h1|⟨T,oT,ts,h1,ne,pT,hT,hd,h3⟩
 ·refine f_ (qaz he Y h1 ?_);rw[if_neg (by decide)];exact CC hs hl h0 hf pe he (qck.mp h1).1 c2 new q
 ·have g3:ts[3]? =some ts[3]:=qcr h3;refine f_ (qaz he Y h1 ?_);rw[if_pos (show(Value.ref T != Value.none)=true by simp)];refine f_ (qaz hT hd g3 ?_);by_cases e3:(ts[3]==rawInt L)=true
  ·rw[if_pos e3];exact q_ (q s.heap qa.refl ⟨pe,vs,sl,he,c2,T,oT,ts,h1,ne,pT,hT,hd,h3⟩)
  ·rw[if_neg e3];refine f_ (qch hT hd h3 ?_);have other:∀b,b≠T->(s.heap.update T (qcZ (·.setIfInBounds 3 Value.none))).get? b=s.heap.get? b:=λb z=>qal _ _ (Ne.symm z);have n1:qa (frs (e0::r)) φ s.heap (s.heap.update T (qcZ (·.setIfInBounds 3 Value.none))):=by
    refine⟨λb o e n f=>(other b λz=>n (z▸pT)).trans e,λb o e n=>⟨o.slots,(other b λz=>n (z▸pT)).trans e⟩,λb o e=>?_,qcn (Heap.size_after_update ..).symm⟩;by_cases z:b=T
    ·subst z;exact⟨_,qaw _ hT (qb4 (qbn hd _))⟩
    ·exact⟨o,(other b z).trans e⟩
   refine CC (s:={ s with heap:=s.heap.update T (qcZ (·.setIfInBounds 3 Value.none)) }) hs (hl.of_keeps λb o e nf=>⟨o,(other b λz=>?_).trans e,Y⟩) h0 hf pe ((other ea (Ne.symm ne)).trans he) (qck.mp h1).1 c2
    (λb hb=>new b (m_ n1.size hb)) λh' n2 x2=>q h' (n1.trans n2) x2
   subst z;rw[hT]at e;cases e;exact nf ts hd
theorem uU{fl:Option h_}{fr:List h_}{Q:Unit->l_->Prop}(x:BV s.heap φ ea cls od)(q:∀h',qa fr φ s.heap h'->BV h' φ ea cls od->Q () { s with heap:=h' }):
  D_ M A (setFlight (.ref ea) fl) Q E s:=by
 obtain⟨pe,vs,sl,he,c2,T,oT,ts,h1,ne,pT,hT,hd,h3⟩:=x;unfold setFlight;refine f_ (qaz he Y h1 ?_);rw[if_pos (show(Value.ref T != Value.none)=true by simp)];have other:∀(f:qa0->qa0) b,b≠T->(s.heap.update T f).get? b=s.heap.get? b:=λf b z=>qal _ _ (Ne.symm z);refine qch hT hd h3 (q _ ⟨λb o e n f=>(other _ b λz=>n (z▸pT)).trans e,λb o e n=>⟨o.slots,(other _ b λz=>n (z▸pT)).trans e⟩,λb o e=>?_,qcn (Heap.size_after_update ..).symm⟩
  ⟨pe,vs,sl,(other _ ea (Ne.symm ne)).trans he,c2,T,_,_,h1,ne,pT,qaw _ hT (qb4 (qbn hd _)),qbn hd _,by simp[h3]⟩)
 by_cases z:b=T
 ·subst z;exact⟨_,qaw _ hT (qb4 (qbn hd _))⟩
 ·exact⟨o,(other _ b z).trans e⟩
end
end
section
section
variable{X:Cx}{pins:List (h_×qa0)}{σ:St}{H H':Hp}{s:l_}
def Qo(X:Cx)(pins:List (h_×qa0))(H:Hp)(b:h_):Prop :=
 H b=none/\b≠X.env.locals/\b∉X.fs/\(X.s₀.heap.get? b=none\/b∈X.ex)/\(∀x c,X.env.cells.lookup x=some c->c≠b)/\∀p∈X.pn++pins,p.1≠b
theorem Inv.YW{b:h_}(I:Inv X pins σ H s)(hn:s.heap.get? b=none)(hH:H' b=none):Qo X pins H' b:=by
 refine⟨hH,λz=>?_,λz=>?_,?_,λx c e z=>?_,λp hp z=>?_⟩
 ·obtain⟨m,⟨o,_,_,ho,_⟩,_⟩:=I.loc;rw[←z,hn]at ho;cases ho
 ·obtain⟨_,o,ho,_⟩:=I.uR.mem z;rw[hn]at ho;cases ho
 ·by_cases hx:b∈X.ex
  ·exact .inr hx
  ·left
   cases q:X.s₀.heap.get? b with
   |none=>rfl
   |some o =>
    obtain⟨o',e⟩:=I.base.there b o q hx;rw[hn]at e;cases e
 ·obtain⟨v,o,ho,_⟩:=I.cell x c e;rw[z,hn]at ho;cases ho
 ·have q:=(I.pin p hp).1;rw[z,hn]at q;cases q
theorem Inv.V8{b:h_}(I:Inv X pins σ H s)(hb:s.heap.objs.size<=b):Qo X pins H b:=I.YW (qcc hb) (I.hok.fresh hb)
theorem Un.noted{fs fr ex:List h_}{H₀:Hp}{h₀ h h':qab}{φ:h_->Prop}(u:Un fs ex H₀ H h₀ h)(n:qa fr φ h h')(new:∀b o,h₀.get? b=some o->b∉ex->¬ φ b)(hf:∀b o,h₀.get? b=some o->b∈fr->b∈fs):Un fs ex H₀ H h₀ h' where
 keep:=λb o e hn nf nx=>n.keep b o (u.keep b o e hn nf nx) (new b o e nx) λz=>nf (hf b o e z)
 slot:=λb o e hn hb nx=>by
  obtain⟨sl,e1⟩:=u.slot b o e hn hb nx;obtain⟨LH,e2⟩:=n.slot b _ e1 (new b o e nx);exact⟨LH,e2⟩
 free:=u.free
 there:=λb o e nx=>by
  obtain⟨o',e1⟩:=u.there b o e nx;exact n.there b o' e1
 tups:=u.tups
 uT:=u.uT
 vj:=u.vj
theorem qY.noted{P:A_}{w:U_}{h h':qab}{fr:List h_}{φ:h_->Prop}(x:qY P w H h)(n:qa fr φ h h')(hφ:∀b,φ b->H b=none)(hf:∀b∈fr,H b=none):qY P w H h':=λa u e =>
 (x a u e).stay (λb v hb q=>by
  have nb:H b≠none:=λz=>by
   rcases hb with y|y
   ·rw[y,e]at z;cases z
   ·rw[y]at z;cases z
  exact n.keep b v q (λz=>nb (hφ b z)) λz=>nb (hf b z)) (λ_ q=>q) λ_ _ q=>q
theorem Inv.noted{h':qab}(I:Inv X pins σ H s)(n:qa (frs X.stack) (Qo X pins H) s.heap h'):Inv X pins σ H { s with heap:=h' }:=by
 have cellK:∀x c,X.env.cells.lookup x=some c->∀v,s.heap.IsCell c v->h'.IsCell c v:=λx c e v ⟨o,ho,hd⟩=>by
  obtain⟨sl,q⟩:=n.slot c o ho λk=>k.2.2.2.2.1 x c e rfl;exact⟨_,q,hd⟩
 refine⟨I.ok,I.os,I.bare,I.base.noted n (λb o e nx k=>?_) (λb o e z=>?_),?_,λx c e=>?_,I.free,I.mh,λp hp=>?_,I.hok.noted n (λb k=>k.1) I.Dh,I.len,I.up⟩
 ·rcases k.2.2.2.1 with z|z
  ·rw[e]at z;cases z
  ·exact nx z
 ·rcases G_.mp (I.wj b z)with q|q
  ·subst q;exact absurd (H_ (y_ e) I.ok.above) (qaB _)
  ·exact q
 ·obtain⟨m,⟨o,es,ep,ho,rr⟩,hl⟩:=I.loc;obtain⟨sl,q⟩:=n.slot _ o ho λk=>k.2.1 rfl;refine⟨m,⟨_,es,ep,q,rr⟩,λi x v e1 e2 e3=>?_⟩;obtain⟨u,rv,l⟩:=hl i x v e1 e2 e3;refine⟨u,rv,?_⟩;rcases l with l|⟨k,c,e,z⟩
  ·exact .inl l
  ·exact .inr ⟨k,c,e,cellK x c e _ z⟩
 ·obtain⟨v,z⟩:=I.cell x c e;exact⟨v,cellK x c e v z⟩
 ·obtain⟨e,hn,ne,nf,d⟩:=I.pin p hp;refine⟨n.keep p.1 p.2 e (λk=>k.2.2.2.2.2 p hp Y) λz=>?_,hn,ne,nf,d⟩;rcases G_.mp (I.wj _ z)with q|q
  ·exact ne q
  ·exact nf q
end
theorem Un.same{fs ex:List h_}{H₀ H:Hp}{h₀ h h':qab}(u:Un fs ex H₀ H h₀ h)(k:∀b o,h₀.get? b=some o->h'.get? b=h.get? b):Un fs ex H₀ H h₀ h' where
 keep:=λb o e hn nf nx=>(k b o e).trans (u.keep b o e hn nf nx)
 slot:=λb o e hn hb nx=>by
  obtain⟨sl,e1⟩:=u.slot b o e hn hb nx;exact⟨sl,(k b o e).trans e1⟩
 free:=u.free
 there:=λb o e nx=>by
  obtain⟨o',e1⟩:=u.there b o e nx;exact⟨o',(k b o e).trans e1⟩
 tups:=u.tups
 uT:=u.uT
 vj:=u.vj
def rY(P:A_)(w:U_):LG:=λouter H s E e s'=>t9 λea cls od H'=>e= .ref ea/\s'.os=s.os/\AllBare s'.gens/\s.toks<=s'.toks/\Un (frs outer) [] H H' s.heap s'.heap/\qY P w H' s'.heap ∧
 IS s'.heap (λb=>s.heap.get? b=none/\H' b=none) ea cls od/\E cls od H'
def Lets(X:Cx)(E:St->XK):Prop:=∀(pins:List (h_×qa0)) (σ:St) (H:Hp) (s:l_) (ea:h_) (cls:i_) (od:Option h_),Inv X pins σ H s->IS s.heap (Qo X pins H) ea cls od->E σ cls od H->X.xe (.ref ea) s
theorem Lets.pass{X:Cx}{E:St->XK}{pins:List (h_×qa0)}{σ:St}{H:Hp}{s s':l_}{e:i_}(L:Lets X E)(I:Inv X pins σ H s)(h:rY X.prog X.w X.stack H s (E σ) e s'):X.xe e s':=by
 obtain⟨ea,cls,od,H',rfl,os,bare,tt,un,hok,x,hE⟩:=h
 have I2:Inv X pins σ H' s':=I.Rb (ch:=[]) os un hok bare (λb z=>nomatch z) (m_ I.up tt)
 exact L pins σ H' s' ea cls od I2 (x.to λb k=>I.YW k.1 k.2) hE
theorem Lets.passes{X:Cx}{E:XK}(L:Lets X λ_=>E):Passes (rY X.prog X.w) X E:=λ_ _ _ _ _ _ I h=>L.pass I h
section
variable{P:A_}{w:U_}{K:PySem.W.Frag}{mg:r_->Option i_}{base:qab}
theorem fG{N:List r_}{qual:r_}{scope:qbK}{f:h_}{cd:i_}{A:qah}{outer:List Env}{s:l_}{H:Hp}{E:XK}:Lets (xj (rY P w) P w K mg base N qual scope f cd A outer s H E) λ_=>E:=by
 intro pins σ H' s' ea cls od I x hE;show D_ _ _ (leaving _ (.ref ea)) _ _ s';unfold leaving;refine f_ (F4 I.ok.frames I.stack Y Y x (λb hb=>I.V8 hb) λh1 n1 x1=>?_);refine uU (fr:=frs (xj (rY P w) P w K mg base N qual scope f cd A outer s H E).stack) x1 λh2 n2 x2=>?_;have I2:=I.noted (n1.trans n2);refine⟨ea,cls,od,H',Y,I2.os,I2.bare,I2.up,I2.base,I2.hok,x2.n.to λb k=>⟨?_,k.1⟩,hE⟩;rcases k.2.2.2.1 with z|z
 ·exact z
 ·exact nomatch z
theorem iO{N:List r_}{qual:r_}{scope:qbK}{f:h_}{cd:i_}{A:qah}{outer:List Env}{s:l_}{H:Hp}{E:XK}:
  PassesOwn (model P w) (xj (rY P w) P w K mg base N qual scope f cd A outer s H E).A (xj (rY P w) P w K mg base N qual scope f cd A outer s H E).env (xj (rY P w) P w K mg base N qual scope f cd A outer s H E).xe:=PassesOwn.leaving
theorem Oz.KO{x qual:r_}{st:qaA}{f:h_}{fd:F_}{N ps:List r_}{k:Nat}{sp:Sp}(F:Oz K x qual st f fd)(S:aG N ps (ay st))(len:∀vs H Q E,sp vs H Q E->vs.length=ps.length)
  (hbody:∀(cdv:i_) (A:qah) (outer:List Env) (s:l_) (H:Hp) (vs:List V) (Q:VK) (E:XK),nV k (A.deeper (envOfC qual (ay st) s.heap.objs.size f cdv))->sp vs H Q E →
   ∃t,EG (xj (rY P w) P w K mg base N qual (ay st) f cdv A outer s H E) (gZ st) t/\t { nx:=λ_ H'=>Q .gE H',rt:=Q } (start N vs) H):aF P w K mg base (rY P w) (k+1) f fd ps sp:=by
 obtain⟨oc,od,kV,doc,pm,an,cdv,ct,osl,rfl,lk,hcd⟩:=F.ex;exact Q6 lk hcd S len λA outer s H vs Q E hr Ov=>hbody cdv A outer s H vs Q E hr Ov
end
theorem cU.got{P:A_}{w:U_}{H:Hp}{h:qab}{a:h_}{o:HO}(x:cU P w H h a o):h.get? a≠none:=by
 cases o with
 |lst xs=>obtain⟨_,_,_,_,e⟩:=x;rw[e];exact λz=>nomatch z
 |tup xs=>obtain⟨_,_,_,ob,e,_⟩:=x;rw[e];exact λz=>nomatch z
 |dK kvs=>obtain⟨_,_,_,_,o,_,_,e,_⟩:=x;rw[e];exact λz=>nomatch z
 |dT kvs=>obtain⟨_,_,_,_,o,_,_,e,_⟩:=x;rw[e];exact λz=>nomatch z
 |set S n=>obtain⟨o,_,_,_,e,_⟩:=x;rw[e];exact λz=>nomatch z
 |ins C dx fs=>obtain⟨_,_,_,e,_⟩:=x;rw[e];exact λz=>nomatch z
 |own y=>obtain⟨_,e⟩:=x;rw[e];exact λz=>nomatch z
 |xd fs=>obtain⟨_,⟨_,_,_,e,_⟩,_⟩:=x;rw[e];exact λz=>nomatch z
 |Y6 lo hi=>obtain⟨_,_,_,e⟩:=x;rw[e];exact λz=>nomatch z
 |Io ob u=>obtain⟨e,_⟩:=x;rw[e];exact λz=>nomatch z
 |QA ps=>have e:h.get? a=some _:=x;rw[e];exact λz=>nomatch z
 |met f y=>have e:h.get? a=some _:=x;rw[e];exact λz=>nomatch z
 |ext φ=>obtain⟨_,⟨_,e⟩,_⟩:=x;rw[e];exact λz=>nomatch z
theorem qY.none_of{P:A_}{w:U_}{H:Hp}{h:qab}{a:h_}(x:qY P w H h)(e:h.get? a=none):H a=none:=by
 cases q:H a with
 |none=>rfl
 |some o=>exact absurd e (x a o q).got
set_option genInjectivity false in
structure XP where
 nm:r_
 q:r_
 N:h_
 bs:List i_
 bm:List i_
 hdct:Bool
 sn:List r_
 sub:List i_
 ab:Bool
 col:Option Bool
 dd:Option h_
 k0:Option i_
 k1:Option i_
 k2:Option i_
 k3:Option i_
 k5:Option i_
 mN:r_->Option i_
noncomputable abbrev XP.obj(d:XP)(C:h_)(newId:String):qa0:=excClassObj d.nm d.q C d.N d.bs d.bm d.hdct d.sn d.sub d.ab d.col d.dd d.k0 d.k1 d.k2 d.k3 d.k5 newId
structure adQ(K:PySem.W.Frag)(C:h_)(Bn B newId inN nid initId:String)(bmN bmB:List i_):Prop where
 fn:qcP Bn newId inN bmN
 has:bmB.contains (.type Bn)=true
 fb:qcP B nid initId bmB
 obj:∀h:qab,K.In h->∃d:XP,h.get? C=some (d.obj C newId)/\h.Ns d.N d.mN/\d.mN "__init__" =none/\OwnTail h bmB d.bm
def JW(K:PySem.W.Frag)(C:h_):Prop:=V0 λBn B newId inN nid initId bmN bmB=>adQ K C Bn B newId inN nid initId bmN bmB
theorem IX {K:PySem.W.Frag}{C:h_}(q:PySem.W.excIn K C [.type "ValueError",.type "Exception",.type "BaseException",.type "object"] "ValueError.__new__" =true):JW K C:=by
 refine⟨_,_,_,_,_,_,_,_,PySem.F.excBase_ValueError,PySem.F.excBase_ValueError.hasB,PySem.F.excBase_ValueError,λh k=>?_⟩;unfold PySem.W.excIn at q;split at q
 ·rename_i dd cd sl hob
  split at q
  ·rename_i C' bm k0 k1 k2 k3 nn k5 hmr Nk
   simp only[qae,beq_iff_eq,qbe]at q;obtain⟨⟨⟨⟨⟨e1,e2⟩,e3⟩,e4⟩,e5⟩,e6⟩:=q;subst e1 e2;obtain⟨nm,bs,mro,ns,qn,hd,sn,sub,ab,col,del⟩:=cd;dsimp only at hmr e3 e5 e6;subst hmr e3;have hsl:sl= #[k0,k1,k2,k3,some (.builtin "ValueError.__new__"),k5]:=by
    obtain⟨l⟩:=sl;simp only at Nk;rw[Nk]
   subst hsl;exact⟨⟨nm,qn,ns,bs,bm,hd,sn,sub,ab,col,dd,k0,k1,k2,k3,k5,_⟩,k _ _ hob,.of_isNs (PySem.W.isNs_of_in k e5),PySem.W.nsMap_none_of_in k e5 e6,PySem.W.tail_of_in k e4⟩
  ·cases q
 ·cases q
def TY(C:h_)(E:St->XK)(t:TA):TS:=λ_ σ H=>t σ H λvs H1=>vs.length<=x_/\E σ (.ref C) none H1
theorem nP{X:Cx}{E:St->XK}{C:h_}{x:r_}{np cpos pos:qcq}{e:Expr}{es:List Expr}{t:TA}(L:Lets X E)(OE:JW X.K C)(hc:X.calm=true)
  (hg:Gl X x) (hm:X.mg x=some (.ref C)) (ha:PA X (e::es) t) (hdb:(x==("__debug__" :r_))=false:=by decide) (he:qac (e::es) X.env=(false,eval e X.env)::qac es X.env:=by rfl)
  (hpl:(backTo cpos (qac es X.env)).any (·.1)=false:=by rfl):PS X (.Raise (some (.Call (.Name x np) (e::es) [] cpos)) none pos) (TY C E t):=by
 intro pins s σ H D I h;obtain⟨Bn,B,newId,inN,nid,initId,bmN,bmB,O⟩:=OE;obtain⟨d,hC,hN,hni,T⟩:=O.obj X.base I.ok.mod.QN;refine wpAny_Raise_call_subU (C:=C) (nm:=d.nm) (q:=d.q) (N:=d.N) (bs:=d.bs) (bm:=d.bm) (hdct:=d.hdct) (sn:=d.sn) (sub:=d.sub) (ab:=d.ab) (col:=d.col) (dd:=d.dd) (k0:=d.k0) (k1:=d.k1) (k2:=d.k2) (k3:=d.k3) (k5:=d.k5) O.fn O.has O.fb
  (mN:=d.mN) (T.hasType O.fb.hasBase) (I.ok.hd hc) (by rw[he];show(false||(backTo cpos (qac es X.env)).any (·.1))=false;rw[hpl];rfl) hni (oQ I hg hm ⟨rfl,?_⟩ hdb)
 have z:=ha cpos pins s σ H _ I h;rw[he]at z ⊢;refine qce (gg z λus s2 ⟨vs,H2,I2,r,hl,q2⟩=>⟨Y,?_,I2.bk _ _ hC,hN.keeps I2.bk,T.keeps I2.bk,λh' ea hm=>?_⟩)
 ·show us.length<=x_;rw[←r.length];exact hl
 ·obtain⟨t',ht,_,_⟩:=hm.there;exact L pins σ H2 _ ea (.ref C) none (I2.kept (t':=s2.toks) hm.keeps) ⟨I2.YW hm.new (I2.hok.none_of hm.new),_,_,ht,λ_=>rfl,.inl Y⟩ q2
end
section
def Fm(X:Cx):Prop:=oS λe0 r L=>X.stack=e0::r/\e0.frame=some L/\X.env.frame=some L
theorem Vg{CX:LG}{P:A_}{w:U_}{K:PySem.W.Frag}{mg:r_->Option i_}{base:qab}{N:List r_}{qual:r_}{scope:qbK}{f:h_}{cd:i_}{A:qah}{outer:List Env}{s:l_}{H:Hp}{E:XK}:
  Fm (xj CX P w K mg base N qual scope f cd A outer s H E).WR:=⟨_,_,_,rfl,rfl,rfl⟩
noncomputable abbrev Cx.AB(X:Cx)(pn:List (h_×qa0))(xe:i_->l_->Prop):Cx:={ X with pn:=pn,xe:=xe }
theorem Cx.Ok.AB{X:Cx}(ok:X.Ok)(pn:List (h_×qa0))(xe:i_->l_->Prop):(X.AB pn xe).Ok :=
 ⟨ok.mod,ok.kind,ok.glob,ok.blt,ok.above,ok.inj,ok.has,ok.Qh,ok.hd,ok.frames,ok.stk,ok.ZJ,ok.bs,ok.N5,ok.HU,ok.Lk,ok.uR,ok.PY,ok.tk⟩
section
variable{X:Cx}{pins ps:List (h_×qa0)}{σ:St}{H:Hp}{s:l_}{xe:i_->l_->Prop}
theorem Inv.AB(I:Inv X pins σ H s):Inv (X.AB (X.pn++pins) xe) [] σ H s :=
 ⟨I.ok.AB _ _,I.os,I.bare,I.base,I.loc,I.cell,I.free,I.mh,λp hp=>I.pin p (by simpa using hp),I.hok,I.len,I.up⟩
theorem Inv.ux(ok:X.Ok)(I:Inv (X.AB (X.pn++pins) xe) ps σ H s):Inv X pins σ H s :=
 ⟨ok,I.os,I.bare,I.base,I.loc,I.cell,I.free,I.mh,λp hp=>I.pin p (qaG _ hp),I.hok,I.len,I.up⟩
theorem Qo.ux{b:h_}(k:Qo (X.AB (X.pn++pins) xe) ps H b):Qo X pins H b :=
 ⟨k.1,k.2.1,k.2.2.1,k.2.2.2.1,k.2.2.2.2.1,λp hp=>k.2.2.2.2.2 p (qaG _ hp)⟩
theorem BV.to{h:qab}{φ ψ:h_->Prop}{ea:h_}{cls:i_}{od:Option h_}(x:BV h φ ea cls od)(m:∀b,φ b->ψ b):BV h ψ ea cls od:=by
 obtain⟨p,vs,sl,e,c2,T,oT,ts,a,b,c,d⟩:=x;exact⟨m _ p,vs,sl,e,c2,T,oT,ts,a,b,m _ c,d⟩
end
noncomputable abbrev TH:=i_->Option h_->TS
def PH(X:Cx)(hs:List ExceptHandler)(th:TH):Prop :=
 ∀(pins:List (h_×qa0)) (s:l_) (σ:St) (H:Hp) (D:Ends) (ea:h_) (cls:i_) (od:Option h_),Inv X pins σ H s->BV s.heap (Qo X pins H) ea cls od->th cls od D σ H →
  D_ (model X.prog X.w) X.A (handleBy (.ref ea) X.env hs) (SP X pins D) X.xe s
def abl(tb:(St->XK)->TS)(th:TH):TS:=λD σ H=>tb (λσ' cls od H'=>th cls od D σ' H') D σ H
theorem Uj{X:Cx}{body:List qaA}{h₀:ExceptHandler}{hs:List ExceptHandler}{pos:qcq}{tb:(St->XK)->TS}{th:TH}(F:Fm X)
  (hb:∀(E:St->XK) (pn:List (h_×qa0)) (xe:i_->l_->Prop),Lets (X.AB pn xe) E->PassesOwn (model X.prog X.w) X.A X.env xe->EG (X.AB pn xe) body (tb E)) (hh:PH X (h₀::hs) th) :
  PS X (.Try body (h₀::hs) [] [] pos) (abl tb th):=by
 intro pins s σ H D I h;obtain⟨e0,r,L,hst,h0,hf⟩:=F;refine wpAny_Try_except ?_;generalize hxe:(λe s₁=>D_ (model X.prog X.w) X.A (noteFrame e X.env) (λ_ s₂=>D_ (model X.prog X.w) X.A (setFlight e none) (λ_ s₃=>D_ (model X.prog X.w) X.A (handleBy e X.env (h₀::hs)) (SP X pins D) X.xe s₃) X.xe s₂) X.xe s₁)=xe;have LX:Lets (X.AB (X.pn++pins) xe) λσ' cls od H'=>th cls od D σ' H':=by
  intro ps σ' H' s' ea cls od J x q;show xe (.ref ea) s';subst hxe;have fr:=J.ok.frames;have sf:=J.stack;refine F4 (s:=s') (e0:=e0) (r:=r) (by rw[←hst];exact fr) (by rw[←hst];exact sf) h0 hf x (λb hb=>J.V8 hb) λh1 n1 x1=>?_;refine uU (fr:=frs (e0::r)) x1 λh2 n2 x2=>?_;have KW:=n1.trans n2;rw[←hst]at KW;have J2:=J.noted KW;exact hh pins _ σ' H' D ea cls od (J2.ux I.ok) (x2.to λb k=>k.ux) q
 have po:PassesOwn (model X.prog X.w) X.A X.env xe:=by
  subst hxe;exact PassesOwn.looking
 refine qaJ (hb _ _ xe LX po [] s σ H D I.AB h) (λf s1 q=>?_) λe s1 q=>?_
 ·cases f with
  |next =>
   obtain⟨σ',H',J,q⟩:=q;exact qcy ⟨σ',H',J.ux I.ok,q⟩
  |brk =>
   obtain⟨σ',H',J,q⟩:=q;exact⟨σ',H',J.ux I.ok,q⟩
  |cont =>
   obtain⟨σ',H',J,q⟩:=q;exact⟨σ',H',J.ux I.ok,q⟩
  |ret u =>
   obtain⟨v,σ',H',J,rv,q⟩:=q;exact⟨v,σ',H',J.ux I.ok,rv,q⟩
 ·have q':xe e s1:=q;subst hxe;exact q'
noncomputable abbrev Cx.within(X:Cx)(ea:h_):Cx:={ X with A:=X.A.mark (some (.ref ea)),calm:=false,xe:=λ_ _=>False }
theorem Cx.Ok.within{X:Cx}(ok:X.Ok)(ea:h_):(X.within ea).Ok :=
 ⟨ok.mod,ok.kind,ok.glob,ok.blt,ok.above,ok.inj,ok.has,ok.Qh,(λz=>nomatch z),ok.frames,ok.stk,ok.ZJ,ok.bs,ok.N5,ok.HU,ok.Lk,ok.uR,ok.PY,ok.tk⟩
section
variable{X:Cx}{pins:List (h_×qa0)}{σ:St}{H:Hp}{s:l_}{ea:h_}
theorem Inv.within(I:Inv X pins σ H s)(ea:h_):Inv (X.within ea) pins σ H s:=⟨I.ok.within ea,I.os,I.bare,I.base,I.loc,I.cell,I.free,I.mh,I.pin,I.hok,I.len,I.up⟩
theorem Inv.behind(ok:X.Ok)(I:Inv (X.within ea) pins σ H s):Inv X pins σ H s:=⟨ok,I.os,I.bare,I.base,I.loc,I.cell,I.free,I.mh,I.pin,I.hok,I.len,I.up⟩
end
noncomputable def NJ(ea:h_)(cls:i_)(od:Option h_):HO:=.ext λh=>dI λvs sl=>h.get? ea=some ⟨cls,od,.fields vs,sl⟩
noncomputable def Ends.un(D:Ends)(i:Nat):Ends:={ nx:=λσ H=>D.nx (σ.set i none) H,rt:=D.rt,bk:=λσ H=>D.bk (σ.set i none) H,ct:=λσ H=>D.ct (σ.set i none) H }
theorem Inv.Mc{X:Cx}{pins:List (h_×qa0)}{σ:St}{H:Hp}{s:l_}{a:h_}{o:HO}(I:Inv X pins σ H s)(k:Qo X pins H a)(new:cU X.prog X.w (upd H a o) s.heap a o):Inv X pins σ (upd H a o) s:=by
 obtain⟨hn,k1,k2,k3,k4,k5⟩:=k;refine⟨I.ok,I.os,I.bare,⟨I.base.keep,I.base.slot,λb ob q n hx=>?_,I.base.there,λb xs q=>?_,λb ob u q=>?_,λb ps q=>?_⟩,I.loc,I.cell,?_,λx c e=>?_,λp hp=>?_,λb u q=>?_,I.len,I.up⟩
 ·have ne:b≠a:=λz=>by
   rcases k3 with y|y
   ·rw[←z,q]at y;cases y
   ·exact hx (z▸y)
  rw[au ne];exact I.base.free b ob q n hx
 ·have q':=I.base.tups b xs q;rw[au (bq q' hn)];exact q'
 ·have q':=I.base.uT b ob u q;rw[au (bq q' hn)];exact q'
 ·obtain⟨more,q'⟩:=I.base.vj b ps q;exact⟨more,by rw[au (bq q' hn)];exact q'⟩
 ·rw[au (Ne.symm k1)];exact I.free
 ·rw[au (k4 x c e)];exact I.mh x c e
 ·obtain⟨e,n,r⟩:=I.pin p hp;exact⟨e,by rw[au (k5 p hp)];exact n,r⟩
 ·by_cases hb:b=a
  ·subst hb;rw[af]at q;cases q;exact new
  ·rw[au hb]at q;exact(I.hok b u q).stay (λc v _ r=>r) (λc r=>by rw[au (bq r hn)];exact r) λc xs r=>by rw[au (bq r hn)];exact r
structure XB(K:PySem.W.Frag)(D:h_):Prop where
 hd:PySem.W.hasDictIn K D=true
 ty:PySem.W.typeIn K (.ref D)=some (.type "type")
 be:PySem.W.mroIn K D (.type "BaseException")=some true
theorem Ll{M:qc3}{A:qah}{E:i_->l_->Prop}{s:l_}{K:PySem.W.Frag}{Q:Bool->l_->Prop}{ea C D:h_}{o:qa0}{b:Bool}(k:K.In s.heap)(he:s.heap.get? ea=some o)(hc:o.cls= .ref C)
  (h0:PySem.W.subIn K (.ref C) (.ref D)=some b) (h2:XB K D) (q:Q b s):D_ M A (excMatches (.ref ea) (.ref D)) Q E s:=by
 have h1:PySem.W.kitCls K (.ref C) (.ref D)=some b:=by
  obtain⟨cd,hcd,_⟩:=PySem.W.any_some h2.hd
  show(if((PySem.W.clsIn K D).isSome&&PySem.W.typeIn K (.ref D)==some (.type "type"))=true then PySem.W.subIn K (.ref C) (.ref D)else none)=some b
  rw[if_pos (by rw[hcd,h2.ty];simp)];exact h0
 obtain⟨lt,li,ls⟩:=PySem.W.kit_cls (M:=M) k h1;have lb:=PySem.W.looks_mroIn (M:=M) k h2.be;have le:PySem.W.Looks M s.heap (typeOf (.ref ea)) (.ref C):=by
  intro A' Q' E' s' kk qq;unfold typeOf;exact f_ (qcH (kk _ _ he) (q_ (by rw[hc];exact qq)))
 have l0:PySem.W.Looks M s.heap (isInstance (.ref D) (.type "tuple")) false:=lt.andThen (PySem.W.Looks.of_pure tc_notTuple);have l1:PySem.W.Looks M s.heap (isExcClass (.ref D)) true:=by
  unfold isExcClass;exact li.andThen lb
 unfold excMatches;refine f_ (l0.here (f_ ?_));simp only[qap,if_false];refine q_ ?_;rw[qby];refine f_ (f_ (f_ (l1.here ?_)));simp only[qc0,qap,if_false];refine q_ (q_ ?_);refine f_ (le.here (f_ ?_));rw[qby];refine f_ (f_ (ls.here ?_))
 cases b with
 |true =>
  simp only[if_true];exact q_ (q_ (q_ q))
 |false =>
  simp only[qap,if_false];exact q_ (q_ (q_ q))
theorem name_goes{X:Cx}{pins:List (h_×qa0)}{σ:St}{H:Hp}{s:l_}{M:qc3}{A:qah}{E:i_->l_->Prop}{Q:Unit->l_->Prop}{i:Nat}{n:r_}{pos:qcq}(I:Inv X pins σ H s)(hN:X.N.Nodup)(hi:X.N[i]? =some n)(hl:X.env.scope.names.lookup n=some .local)
  (h:∀s',Inv X pins (σ.set i none) H s'->Q () s'):D_ M A (do bindName X.env n .none;unbindBehindTheSuite X.env n pos) Q E s:=by
 obtain⟨m,hn,hlk⟩:=I.loc;refine wpAny_nameGoes_keeps hl hn (by rw[I.ok.kind];rfl) λh' v hn' sb=>h _ ?_;have cellK:∀x c,X.env.cells.lookup x=some c->∀v,s.heap.IsCell c v->h'.IsCell c v:=λx c e v ⟨o,ho,hd⟩=>⟨o,(sb.2 c (I.Ra x c e)).trans ho,hd⟩;refine⟨I.ok,I.os,I.bare,I.base.same λb o e=>sb.2 b (Y_ (H_ (y_ e) I.ok.above)),⟨_,hn',λj y u e1 e2 e3=>?_⟩,λx c e=>?_,I.free,I.mh,λp hp=>?_,I.hok.but I.free sb,by rw[qb0];exact I.len,Nat.le_succ_of_le I.up⟩
 ·have ji:i≠j:=λz=>by
   subst z;rw[qbU (by rw[I.len];exact(p_.mp hi).1)]at e2;cases e2
  rw[qcd ji]at e2;obtain⟨w,rv,l⟩:=hlk j y u e1 e2 e3;refine⟨w,rv,?_⟩;rcases l with⟨k1,k2⟩|⟨k,c,e,z⟩
  ·refine .inl ⟨k1,?_⟩;have ne:y≠n:=λz=>ji (z9 hN hi (z▸e1))
   show(if y=n then v else m y)=some w
   rw[if_neg ne];exact k2
  ·exact .inr ⟨k,c,e,cellK y c e _ z⟩
 ·obtain⟨v,z⟩:=I.cell x c e;exact⟨v,cellK x c e v z⟩
 ·obtain⟨e,hh,ne,r⟩:=I.pin p hp;exact⟨(sb.2 _ ne).trans e,hh,ne,r⟩
def tAs(K:PySem.W.Frag)(C:h_)(i:Nat)(ts:TS)(th:TH):TH:=λcls od D σ H=>dI λCe b=>cls= .ref Ce/\PySem.W.subIn K (.ref Ce) (.ref C)=some b ∧
 if b=true then ∀ea,H ea=none->ts (D.un i) (σ.set i (some (.ref ea))) (upd H ea (NJ ea cls od))else th cls od D σ H
theorem WI{X:Cx}{i:Nat}{n x:r_}{C:h_}{b₀:qaA}{suite:List qaA}{np pos:qcq}{rest:List ExceptHandler}{ts:TS}{th:TH}(hN:X.N.Nodup)(hi:X.N[i]? =some n)(hl:X.env.scope.names.lookup n=some .local)(hg:Gl X x)(hm:X.mg x=some (.ref C))
  (Nt:XB X.K C) (hsu:∀ea,EG (X.within ea) (b₀::suite) ts) (hr:PH X rest th) (hdb:(x==("__debug__" :r_))=false:=by decide) :
  PH X (.ExceptHandler (some (.Name x np)) (some n) (b₀::suite) pos::rest) (tAs X.K C i ts th):=by
 intro pins s σ H D ea cls od I x h;obtain⟨Ce,b,rfl,hk,h⟩:=h;obtain⟨pe,vs,sl,he,hT⟩:=id x;refine wpAny_handleBy_cons (codeAny_handlers_test (oQ (X:=X.within ea) (I.within ea) hg hm ?_ hdb)) (by intro q;cases q);refine Ll I.qz he Y hk Nt ?_
 cases b with
 |false=>exact hr pins s σ H D ea _ od I x h
 |true =>
  refine codeAny_handlers_suite_as ?_;refine uU (fr:=frs X.stack) x λh1 n1 x1=>?_;have I1:=I.noted n1;obtain⟨pe1,vs1,sl1,Zy,_⟩:=id x1;have I2:Inv X pins σ (upd H ea (NJ ea (.ref Ce) od)) { s with heap:=h1 }:=I1.Mc pe1 ⟨⟨vs1,sl1,Zy⟩,⟨_,Zy⟩,λh1 h2 ⟨v,s',e⟩ k=>⟨v,s',k _ e⟩⟩;refine yZ (X:=X.within ea) (I2.within ea) hN hi (.inl hl) (v:=.ref ea) Y (λs2 I3=>?_) (.inr hl);have z:=hsu ea pins s2 _ _ (D.un i) I3 (h ea pe1.1);refine qaJ z (λf s3 q=>?_) λ_ _ z=>qaN z
  cases f with
  |next =>
   obtain⟨σ',H',J,q⟩:=q;exact name_goes (J.behind I.ok) hN hi hl λs4 J4=>⟨_,_,J4,q⟩
  |brk =>
   obtain⟨σ',H',J,q⟩:=q;exact name_goes (J.behind I.ok) hN hi hl λs4 J4=>⟨_,_,J4,q⟩
  |cont =>
   obtain⟨σ',H',J,q⟩:=q;exact name_goes (J.behind I.ok) hN hi hl λs4 J4=>⟨_,_,J4,q⟩
  |ret u =>
   obtain⟨v,σ',H',J,rv,q⟩:=q;exact name_goes (J.behind I.ok) hN hi hl λs4 J4=>⟨v,_,_,J4,rv,q⟩
theorem Uo{X:Cx}:PH X [] λ_ _ _ _ _=>False:=λ_ _ _ _ _ _ _ _ _ _ h=>qaN h
def T5(sp:Sp)(Ba:List V)(E:St->XK)(t:TA):TE:=λσ H Q=>t σ H λvs H1=>sp (vs++Ba) H1 Q (E σ)
section
variable{X:Cx}{k:Nat}{f C:h_}{fd:F_}{ps:List r_}{sp:Sp}{Ba:List V}{ds:List i_}{E:St->XK}{x:r_}{p pos:qcq}{e:Expr}{es:List Expr}{t:TA}
theorem MQ(F:aF X.prog X.w X.K X.mg X.base (rY X.prog X.w) k f fd ps sp)(hr:nV k X.A)(hg:Gl X x)(hm:X.mg x=some (.ref f))(hk:PySem.W.keepIn X.K (.ref f)=true)(hb:Binds X.K fd ps ds)(hd:Vals Ba ds)(LX:Lets X E)
  (ha:PA X (e::es) t) (hdb:(x==("__debug__" :r_))=false:=by decide) (he:qac (e::es) X.env=(false,eval e X.env)::qac es X.env:=by rfl) (hpl:(backTo pos (qac es X.env)).any (·.1)=false:=by rfl) :
  PE X (.Call (.Name x p) (e::es) [] pos) (T5 sp Ba E t):=by
 intro pins s σ H Q I h;refine qa4 (oQ I hg hm ?_ hdb);refine PySem.W.callWith_K (h₀:=X.base) I.ok.mod.QN hk (gg (ha pos pins s σ H _ I h) λus s1 ⟨vs,H1,I1,r,q⟩=>⟨I1.qz,?_⟩) he hpl;have r2:Vals (vs++Ba) (us++ds):=r.append hd;have hl:(us++ds).length=ps.length:=by rw[←r2.length];exact F.len _ _ _ _ q
 refine qbV (qbC (F.run X.A X.stack s1 H1 ⟨us,[]⟩ (us++ds) (vs++Ba) Q (E σ) hr I1.P8 (hb s1 us I1.qz hl) r2 q) λrr s' hq=>?_)
 cases rr with
 |error e=>exact LX.pass I1 hq
 |ok fl =>
  cases fl with
  |ret u=>exact I1.after hq
  |next=>exact qaN hq
  |brk=>exact qaN hq
  |cont=>exact qaN hq
end
end
section
end
section
section
variable{X:Cx}
noncomputable abbrev TJ:=St->Hp->r_->(r_->Hp->Prop)->Prop
def PJ(X:Cx)(es:List Expr)(tj:TJ):Prop:=∀(pins:List (h_×qa0)) (s:l_) (σ:St) (H:Hp) (acc:r_) (R:r_->Hp->Prop),Inv X pins σ H s->tj σ H acc R →
 Joins (model X.prog X.w) X.A X.xe (evalEach es X.env) acc (λout s1=>out.length<=x_/\∃H1,Inv X pins σ H1 s1/\R out H1) s
theorem Ul:PJ X [] (λ_ H acc R=>acc.length<=x_/\R acc H):=λ_ _ _ H _ _ I h=>⟨h.1,H,I,h.2⟩
theorem yJ{e:Expr}{es:List Expr}{te:TE}{tj:TJ}(he:PE X e te)(hr:PJ X es tj)(hx:evalEach (e::es) X.env=eval e X.env::evalEach es X.env:=by rfl):
  PJ X (e::es) (λσ H acc R=>te σ H λv H1=>∃y,v= .str y/\(acc++y).length<=x_/\tj σ H1 (acc++y) R):=by
 intro pins s σ H acc R I h;rw[hx];refine gg (he pins s σ H _ I h) λu s1 ⟨v,H1,I1,r,y,e1,hl,q⟩=>?_;subst e1;obtain⟨t,rfl⟩:=r;exact⟨y,t,Y,hl,hr pins s1 σ H1 _ R I1 q⟩
theorem Cs{M:qc3}{A:qah}{E:i_->l_->Prop}:∀{parts:List (Sem i_)} {acc:r_} {Q Q':r_->l_->Prop} {s:l_},Joins M A E parts acc Q s->(∀out s1,Q out s1->Q' out s1)->Joins M A E parts acc Q' s
 |[],_,_,_,_,h,k=>k _ _ h
 |_::_,_,_,_,_,h,k=>gg h λ_ _ ⟨y,t,e,hl,q⟩=>⟨y,t,e,hl,Cs q k⟩
theorem O0{v₁ v₂:Expr}{rest:List Expr}{pos:qcq}{tj:TJ}(h:PJ X (v₁::v₂::rest) tj):PE X (.JoinedStr (v₁::v₂::rest) pos) (λσ H Q=>tj σ H qc2 λout H1=>Q (.str out) H1):=by
 intro pins s σ H Q I q;refine wpAny_JoinedStr (Cs (h pins s σ H qc2 _ I q) λout s1 ⟨hl,H1,I1,q1⟩=>⟨hl,.str out,H1,I1.tok _,⟨_,Y⟩,q1⟩)
theorem MM{value:Expr}{pos:qcq}{te:TE}(he:PE X value te):PE X (.FormattedValue value (-1) none pos) (λσ H Q=>te σ H λv H1=>∃i:Int,v= .int i/\i.natAbs.log2<1920/\Q (.str (z_ (toString i))) H1):=by
 intro pins s σ H Q I h;refine wpAny_FormattedValue_plain (gg (he pins s σ H _ I h) λu s1 ⟨v,H1,I1,r,i,e,hl,q⟩=>?_);subst e;obtain⟨t,rfl⟩:=r;exact wpAny_formatField_int hl ⟨.str (z_ (toString i)),H1,I1.tok _ (by show s1.toks<=_;omega),⟨_,Y⟩,q⟩
end
structure Rf(K:PySem.W.Frag)(C:h_):Prop where
 ga:PySem.W.findIn K (.ref C) "__getattribute__" =some (some (.builtin "BaseException.__getattribute__"))
 gn:PySem.W.findIn K (.ref C) "__getattr__" =some none
 hd:PySem.W.hasDictIn K C=true
 ha:PySem.W.findIn K (.ref C) "__class__" =some (some (.builtin "object.__class__"))
 hn:PySem.W.specialIn K (.builtin "object.__class__") "__get__" =some (some (.builtin "getset_descriptor.__get__"))
 htk:PySem.W.takesIn K (.builtin "object.__class__")=some true
 hm:PySem.W.mroIn K C (.type "object")=some true
 hb:PySem.W.mroIn K C (.type "BaseException")=some true
theorem Lm{prog:A_}{w:U_}{A:qah}{E:i_->l_->Prop}{s:l_}{K:PySem.W.Frag}{x C:h_}{ox:qa0}{od:Option qa0}{Q:Option i_->l_->Prop}(Z:Rf K C)(k:K.In s.heap)(I:PySem.W.InstAt s.heap x ox C od)
  (h:Q (some (.ref C)) { s with toks:=s.toks+1 }):D_ (model prog w) A (getAttr? (.ref x) "__class__") Q E s:=by
 obtain⟨hh,g,d,t,os⟩:=s;have L0:=I.type (M:=model prog w);have L1:=PySem.W.looks_findIn (M:=model prog w) k Z.ga;have L2:=PySem.W.looks_findIn (M:=model prog w) k Z.gn;have LB:=PySem.W.looks_mroIn (M:=model prog w) k Z.hb;have hf:PySem.W.findObj K C od "__class__" =some (.bind (.builtin "getset_descriptor.__get__") (.builtin "object.__class__")):=by
  obtain⟨cd,hc,_⟩:=PySem.W.any_some Z.hd;unfold PySem.W.findObj;rw[hc,qbR,Z.ha,qbR];simp[Z.hn,Z.htk]
 have LF:=PySem.W.looks_find (M:=model prog w) k I hf;unfold getAttr? getAttrBy? getAttrBy;refine f_ (wpAny_mkText (f_ (qbl (qaF (f_ (L0.at (f_ (L1.at ?_))))))));show D_ _ _ (getAttrByItsOwn _ _ _ _ _ _) _ _ _;unfold getAttrByItsOwn hookBefore;refine f_ (L2.at ?_);refine f_ (qbl (qaF ?_));show D_ _ _ (boundAndCalled _ _ _) _ _ _;unfold boundAndCalled;refine f_ (wpAny_of_eq (PySem.F.attr_ValueError.ga.bind (.ref x)) ?_);show D_ _ _ (call (.builtin "BaseException.__getattribute__") [.ref x,.str "__class__" t]) _ _ _;refine qbV (qbE PySem.F.attr_ValueError.ga.plain PySem.F.entry_bexc_ga ?_);have c1:builtinKind "BaseException.__getattribute__" =some .slot:=by decide +kernel
 have c2:splitId "BaseException.__getattribute__" =some ("BaseException","__getattribute__"):=by decide +kernel
 have c3:=PySem.F.args_bexc_ga (.ref x) (.str "__class__" t);simp only[checkBuiltinCall,c1,c2];refine f_ (f_ (L0.at (LB.at ?_)));simp only[qc0,qap,if_false];unfold argsOk at c3;refine wpAny_of_eq c3 ?_;unfold Builtin.«object.__getattribute__»;refine f_ (q_ (f_ (q_ (f_ (L0.at (f_ (LF.at ?_)))))));show D_ _ _ (holding [.builtin "object.__class__"] (call (.builtin "getset_descriptor.__get__") [.builtin "object.__class__",.ref x,.ref C]) >>= ret) _ _ _;refine f_ (qaF (qbV (PySem.W.class_get (ox:=ox) (od:=od) k I Z.hm ?_)));refine q_ ?_;show D_ _ _ (handedOut (.ref C)) _ _ _;exact PySem.W.handed_on Y (q_ h)
end
section
theorem vK{K:PySem.W.Frag}{x C:h_}{ox:qa0}{od:Option qa0}(Z:Rf K C):PySem.W.KitX K (.ref x) (.ref C) (λh=>PySem.W.InstAt h x ox C od) where
 ty:=λ_ _ _ I=>I.type
 it:=λ_ _ k _=>by
  obtain⟨cd,hcd,_⟩:=PySem.W.any_some Z.hd;unfold PySem.W.clsIn at hcd;split at hcd
  ·rename_i c1 d1 cd1 sl1 hob
   intro A1 Q1 E1 s1 kk q;unfold isType loadHead;exact f_ (qcH (kk _ _ (k _ _ hob)) (q_ q))
  ·cases hcd
 ne:=λh tp dd its n sl k htp=>by
  obtain⟨cd,hcd,_⟩:=PySem.W.any_some Z.hd;refine qb_.mpr λq=>?_;have e:=Value.ref.inj (beq_iff_eq.mp q);subst e;unfold PySem.W.clsIn at hcd;split at hcd
  ·rename_i c1 d1 cd1 sl1 hob
   have z:=(k _ _ hob).symm.trans htp;cases z
  ·cases hcd
 ca:=λk I q=>Lm Z k I q
end
end L2
namespace GP
open PySem L2 lN
end GP
namespace L2
open PySem PySem.Spec PyProof.Rows
theorem Dk{X:Cx}:SlR X (λx lo hi H Q=>∃y,x= .str y/\y.length<=x_/\Q (.str (Txt.slice y lo hi)) H):=by
 intro pins s σ H x v vl vu lo hi sl Q I rx hs pl pu h;obtain⟨y,rfl,hz,q⟩:=h;obtain⟨t,rfl⟩:=rx;refine⟨"str",_,PySem.F.slot_str_getitem.lookup,typeIs_str _ _ _,?_⟩;have fin:(Txt.slice y lo hi).length<=x_/\∀t' k,s.toks<=k->EP X pins σ Q (.str (Txt.slice y lo hi) t') { s with toks:=k }:=⟨m_ (Txt.slice_le y _ _) hz,λt' k hk=>⟨.str (Txt.slice y lo hi),H,I.tok k hk,⟨_,rfl⟩,q⟩⟩;refine TK.cj (k_ s.toks) ?_
 cases pl with
 |none =>
  cases pu with
  |none=>exact qbS (l:=none) (u:=none) (st:=none) hs Y (post_val_or_str fin)
  |int j u=>exact qbS (l:=none) (u:=some (j,u)) (st:=none) hs Y (post_val_or_str fin)
 |int i u =>
  cases pu with
  |none=>exact qbS (l:=some (i,u)) (u:=none) (st:=none) hs Y (post_val_or_str fin)
  |int j u'=>exact qbS (l:=some (i,u)) (u:=some (j,u')) (st:=none) hs Y (post_val_or_str fin)
end L2
namespace GP
open PySem L2 lN
end GP
namespace L2
open PySem PySem.Spec PyProof.Rows
section
section
variable{prog:A_}{w:U_}{A:qah}{E:i_->l_->Prop}{h:qab}{gs:Array GenState}{dr:Drawn}{tk:Nat}{os:OsState}
variable{nm qn:r_}{C N:h_}{bs tl bmB bmN:List i_}{hdct:Bool}{sn:List r_}{sub:List i_}{ab:Bool}{col:Option Bool}{dd:Option h_}{k0 k1 k2 k3 k5:Option i_}{B Bn newId nid initId inN:String}
theorem yV{mN:r_->Option i_}{rest:List i_}{fI:h_}{oI:qa0}{Q:Fin->l_->Prop}(Fn:qcP Bn newId inN bmN)(hBn:bmB.contains (.type Bn)=true)(FB:qcP B nid initId bmB)(T:OwnTail h bmB tl)
  (hob:h.get? C=some (excClassObj nm qn C N bs tl hdct sn sub ab col dd k0 k1 k2 k3 k5 newId)) (hns:h.Ns N mN) (Va:mN "__init__" =some (.ref fI)) (hfo:h.get? fI=some oI) (hfc:oI.cls= .type "function")
  (hq:∀h' e,Heap.MadeExcOf h h' e (.ref C) rest->D_ (model prog w) A (call (.ref fI) (.ref e::rest)) (λr s'=>r= .none/\Q (.done (.ret (.ref e))) s') E ⟨h',gs,dr,tk,os⟩) (hz:rest.length<=x_) :
  D_ (model prog w) A (Builtin.«type.__call__» ⟨.ref C::rest,[]⟩) Q E ⟨h,gs,dr,tk,os⟩:=by
 repeat (first|with_reducible refine qca hob ?_|with_reducible refine wpAny_madeBy_exc hob ?_|wp_step)
 refine codeAny_call_builtin_code (Code.quiet_builtin _ Fn.quiet) (wpAny_check_new_subU Fn hBn T hob ?_);refine codeAny_exc_new_subU Fn hBn FB T hob ?_ hz;show D_ _ _ _ _ _ _;have kp:∀b o,h.get? b=some o->((h.push { cls:=.type "tuple",data:=.seq rest.toArray }).push { cls:=.ref C,data:=.fields #[.ref h.objs.size,.none,.none,.none,.bool false,.none] }).get? b=some o:=λb o e=>j_ _ (j_ _ e);have Xz:=kp _ _ hob;have acT:=kp _ _ hfo;have acJ:=hns.keeps kp;have T1:=T.keeps kp;have Q2:((h.push { cls:=.type "tuple",data:=.seq rest.toArray }).push { cls:=.ref C,data:=.fields #[.ref h.objs.size,.none,.none,.none,.bool false,.none] }).get? (h.objs.size+1)=some { cls:=.ref C,data:=.fields #[.ref h.objs.size,.none,.none,.none,.bool false,.none] }:=by heap_get
 have hself:(Value.ref C::tl).contains (.ref C)=true:=by simp
 unfold isInstance
 repeat (first|with_reducible refine qca Q2 ?_|(with_reducible refine wpAny_isSubtype_exc Xz ?_;rw[hself])|wp_step)
 show D_ _ _ (typeLookup (.ref C) _) _ _ _;refine wpAny_typeLookup_tail Xz acJ T1 FB.mroIs FB.init.lookup ?_;rw[Va];refine qaF (f_ ?_);unfold bindSpecial;refine f_ (wpAny_typeOf (T:= "function") ⟨_,acT,hfc⟩ ?_);rw[if_pos (by decide)];have made:Heap.MadeExcOf h ((h.push { cls:=.type "tuple",data:=.seq rest.toArray }).push { cls:=.ref C,data:=.fields #[.ref h.objs.size,.none,.none,.none,.bool false,.none] }) (h.objs.size+1) (.ref C) rest :=
  ⟨kp,qcc (qaE _),h.objs.size,Q2,qcc (k_ _),j_ _ (Heap.get?_push_at rfl rfl)⟩
 refine q_ (f_ (qaJ (hq _ _ made) (λr s' hr=>?_) λ_ _ x=>x));obtain⟨rfl,hQ⟩:=hr
 wp_walk
 exact hQ
theorem Lr{mN:r_->Option i_}{rest:List i_}{fI:h_}{oI:qa0}{Q:i_->l_->Prop}(Fn:qcP Bn newId inN bmN)(hBn:bmB.contains (.type Bn)=true)(FB:qcP B nid initId bmB)(T:OwnTail h bmB tl)
  (hob:h.get? C=some (excClassObj nm qn C N bs tl hdct sn sub ab col dd k0 k1 k2 k3 k5 newId)) (hns:h.Ns N mN) (Va:mN "__init__" =some (.ref fI)) (hfo:h.get? fI=some oI) (hfc:oI.cls= .type "function")
  (hq:∀h' e,Heap.MadeExcOf h h' e (.ref C) rest->D_ (model prog w) (A.under (.builtin "type.__call__" ⟨.ref C::rest,[]⟩)) (call (.ref fI) (.ref e::rest)) (λr s'=>r= .none/\Q (.ref e) s') E ⟨h',gs,dr,tk,os⟩) (hz:rest.length<=x_) :
  D_ (model prog w) A (call (.ref C) rest) Q E ⟨h,gs,dr,tk,os⟩:=by
 have l1:=tc_lookup;have l2:=tc_bind (.ref C);have hTy:(⟨h,gs,dr,tk,os⟩:l_).TypeIs (.ref C) "type" :=⟨_,hob,rfl⟩;refine qbV (codeAny_of_tree ?_);show D_ _ _ (callAny (.ref C) _) _ _ _
 repeat (any_goals (first|assumption|with_reducible refine qca hob ?_|wp_step))
 refine⟨Y,codeAny_call_builtin_at (Code.quiet_builtin _ (by decide +kernel)) entry_typeCall (wpAny_check_type_call_sub hob (yV Fn hBn FB T hob hns Va hfo hfc (λh' e hm=>?_) hz))⟩;exact hq h' e hm
end
end
section
noncomputable def newX(e C:h_)(od:Option h_):HO:=.ext λh=>dI λvs sl=>h.get? e=some ⟨.ref C,od,.fields vs,sl⟩/\vs[1]? =some .none/\vs[2]? =some .none/\4<vs.size
noncomputable def AY(dx:h_)(fs:List (r_×V)):HO:=.ext λh=>∃mA,h.Ns1 dx mA/\(∀f,rK (fs.lookup f) (mA f))/\PySem.Within mA (fs.map (·.1))
section
variable{P:A_}{w:U_}{H:Hp}{h:qab}
theorem DP{e C:h_}{od:Option h_}{vs:Array i_}{sl:Array (Option i_)}(he:h.get? e=some ⟨.ref C,od,.fields vs,sl⟩)(h1:vs[1]? =some .none/\vs[2]? =some .none/\4<vs.size):cU P w H h e (newX e C od) :=
 ⟨⟨vs,sl,he,h1⟩,⟨_,he⟩,λ_ _ ⟨v,s,e,z⟩ k=>⟨v,s,k _ e,z⟩⟩
theorem G7{dx:h_}{fs:List (r_×V)}{mA:r_->Option i_}(n:h.Ns1 dx mA)(r:∀f,rK (fs.lookup f) (mA f))(wi:PySem.Within mA (fs.map (·.1))):cU P w H h dx (AY dx fs) :=
 ⟨⟨mA,n,r,wi⟩,(let ⟨o,_,_,e,_⟩:=n;⟨o,e⟩),λ_ _ ⟨m,n,r,wi⟩ k=>⟨m,n.at k,r,wi⟩⟩
end
noncomputable def del(H:Hp)(e:h_):Hp:=λb=>if b=e then none else H b
theorem sW{H:Hp}{e b:h_}(h:b≠e):del H e b=H b:=by unfold del;rw[if_neg h]
theorem Gw{H:Hp}{e:h_}:del H e e=none:=by unfold del;rw[if_pos rfl]
theorem vN{H:Hp}{e b:h_}(h:H b=none):del H e b=none:=by unfold del;split<;>first|rfl|exact h
theorem Ro{H:Hp}{a:h_}{o:HO}(h:H a=some o):upd H a o=H:=by
 funext b;unfold upd;split
 ·rename_i z;rw[z,h]
 ·rfl
section
variable{X:Cx}{pins:List (h_×qa0)}{σ:St}{H:Hp}{s:l_}
theorem Inv.drop{e:h_}{φ:qab->Prop}(I:Inv X pins σ H s)(he:H e=some (.ext φ)):Inv X pins σ (del H e) s:=by
 have ne:∀{b:h_} {o:HO},H b=some o->(∀ ψ,o≠ .ext ψ)->b≠e:=λ{b o} hb n z=>by
  subst z;rw[he]at hb;exact n _ (qaa hb).symm
 refine⟨I.ok,I.os,I.bare,⟨I.base.keep,I.base.slot,λb ob q n hx=>vN (I.base.free b ob q n hx),I.base.there,λb xs q=>?_,λb ob u q=>?_,λb ps q=>?_⟩,I.loc,I.cell,vN I.free,λx c q=>vN (I.mh x c q),λp hp=>?_,λb u q=>?_,I.len,I.up⟩
 ·have q':=I.base.tups b xs q;rw[sW (ne q' λψ z=>by cases z)];exact q'
 ·have q':=I.base.uT b ob u q;rw[sW (ne q' λψ z=>by cases z)];exact q'
 ·obtain⟨more,q'⟩:=I.base.vj b ps q;exact⟨more,by rw[sW (ne q' λψ z=>by cases z)];exact q'⟩
 ·obtain⟨a,n,r⟩:=I.pin p hp;exact⟨a,vN n,r⟩
 ·have hb:b≠e:=λz=>by rw[z,Gw]at q;cases q
  rw[sW hb]at q;exact(I.hok b u q).stay (λc v _ r=>r) (λc r=>by rw[sW (ne r λψ z=>by cases z)];exact r) λc xs r=>by rw[sW (ne r λψ z=>by cases z)];exact r
end
section
variable{M:qc3}{A:qah}{E:i_->l_->Prop}{env:Env}
variable{nm q:r_}{C N:h_}{bs bm:List i_}{hdct:Bool}{sn:List r_}{sub:List i_}{ab:Bool}{col:Option Bool}{dd:Option h_}{k0 k1 k2 k3 k5:Option i_}{newId:String}
theorem HC {s:l_}{x:Sem i_}{Q:Flow->l_->Prop}(hbase:bm.contains (.type "BaseException")=true)(hh:A.handled=none)
  (h:D_ M A x (λv s₁=>t9 λe od vs sl=>v= .ref e/\s₁.heap.get? C=some (excClassObj nm q C N bs bm hdct sn sub ab col dd k0 k1 k2 k3 k5 newId) ∧
   s₁.heap.get? e=some ⟨.ref C,od,.fields vs,sl⟩/\vs[1]? =some .none/\E (.ref e) s₁) E s):D_ M A (raiseStmt env (some x) none) Q E s:=by
 have hcB:(Value.ref C::bm).contains (.type "BaseException")=true:=by rw[List.contains_cons,hbase,Bool.or_true]
 unfold raiseStmt;refine f_ (qaJ h (λv s₁ h₁=>?_) λ_ _ x=>x);obtain⟨e,od,vs,sl,rfl,hC,he,hv,hE⟩:=h₁;obtain⟨hp,g,d,tk,os⟩:=s₁
 repeat (first|with_reducible refine qca he ?_|with_reducible refine qca hC ?_|(with_reducible refine wpAny_isSubtype_exc hC ?_;rw[hcB])|wp_step)
 rw[hv];refine q_ ?_;rw[if_neg (by decide)];exact q_ (wpAny_raiseNew_none hh hE)
end
noncomputable def LY:List i_:=[.type "ValueError",.type "Exception",.type "BaseException",.type "object"]
structure JV(K:PySem.W.Frag)(C fI:h_):Prop where
 obj:∀h:qab,K.In h->∃d:XP,h.get? C=some (d.obj C "ValueError.__new__")/\h.Ns d.N d.mN/\d.mN "__init__" =some (.ref fI)/\OwnTail h LY d.bm
noncomputable def Iv(K:PySem.W.Frag)(C fI:h_):Bool:=match K.lookup C with
 |some ⟨.type "type",_,.cls cd,sl⟩=>(match cd.mro,sl.toList with
  | .ref C'::bm,[_,_,_,_,some (.builtin n),_]=>C'==C&&n== "ValueError.__new__" && !cd.hasDel&&PySem.W.tailIn K LY bm&&PySem.W.nsOkIn K cd.ns&&PySem.W.nsIn K cd.ns "__init__" ==some (some (.ref fI))
  |_,_=>false)
 |_=>false
theorem HS{K:PySem.W.Frag}{h:qab}{N:h_}{mg:r_->Option i_}{n:r_}{v:i_}(X:K.In h)(G:h.Ns N mg)(e:PySem.W.nsIn K N n=some (some v)):mg n=some v:=by
 obtain⟨o,es,ep,ho,hd,_,hf⟩:=G;unfold PySem.W.nsIn at e;split at e
 ·rename_i c d es' n' sl q
  have:=X _ _ q;rw[ho]at this;cases this;cases hd;split at e
  ·rename_i he
   cases e;rw[←hf];unfold nsFind findBy;rw[←Array.find?_toList,he];rfl
  ·split at e
   ·cases e
   ·cases e
 ·cases e
theorem E2{K:PySem.W.Frag}{C fI:h_}(q:Iv K C fI=true):JV K C fI:=by
 refine⟨λh k=>?_⟩;unfold Iv at q;split at q
 ·rename_i dd cd sl hob
  split at q
  ·rename_i C' bm k0 k1 k2 k3 nn k5 hmr Nk
   simp only[qae,beq_iff_eq,qbe]at q;obtain⟨⟨⟨⟨⟨e1,e2⟩,e3⟩,e4⟩,e5⟩,e6⟩:=q;subst e1 e2;obtain⟨nm,bs,mro,ns,qn,hd,sn,sub,ab,col,del⟩:=cd;dsimp only at hmr e3 e5 e6;subst hmr e3;have hsl:sl= #[k0,k1,k2,k3,some (.builtin "ValueError.__new__"),k5]:=by
    obtain⟨l⟩:=sl;simp only at Nk;rw[Nk]
   subst hsl;have G:h.Ns ns _:=.of_isNs (PySem.W.isNs_of_in k e5);exact⟨⟨nm,qn,ns,bs,bm,hd,sn,sub,ab,col,dd,k0,k1,k2,k3,k5,_⟩,k _ _ hob,G,HS k G e6,PySem.W.tail_of_in k e4⟩
  ·cases q
 ·cases q
structure XBase(K:PySem.W.Frag)(W:h_):Prop where
 ga:PySem.W.specialIn K (.ref W) "__getattribute__" =some (some (.builtin "type.__getattribute__"))
 rd:PySem.W.readsIn K W (.type "type")=true
 fd:PySem.W.findCls K (.ref W) (.type "type") "__init__" =some (.val (.builtin "ValueError.__init__"))
noncomputable def uz:List i_->Bool
 |[]=>false
 |v::r=>(v::r)==LY||match v with| .ref _=>uz r|_=>false
structure YA(K:PySem.W.Frag)(C:h_):Prop where
 hd:PySem.W.hasDictIn K C=true
 po:((PySem.W.clsIn K C).any λcd=>uz cd.mro)=true
 sa:PySem.W.findIn K (.ref C) "__setattr__" =some (some (.builtin "object.__setattr__"))
theorem Ci(self:i_):∀{l:List i_},uz l=true->refuseLoop self "__setattr__" l=pure ()
 |[],e=>by cases e
 |v::r,e=>by
  unfold uz at e;rcases Bool.or_eq_true_iff.mp e with q|q
  ·rw[beq_iff_eq.mp q];exact PySem.F.store_ValueError.passes self
  ·split at q
   ·rw[refuseLoop_ref];exact Ci self q
   ·cases q
theorem LW:∀{l:List i_},uz l=true->l.contains (.type "object")=true
 |[],e=>by cases e
 |v::r,e=>by
  unfold uz at e;rcases Bool.or_eq_true_iff.mp e with q|q
  ·rw[beq_iff_eq.mp q];decide +kernel
  ·split at q
   ·rw[List.contains_cons,LW q,Bool.or_true]
   ·cases q
end
section
def Wn(K:PySem.W.Frag)(t:TA):TE:=λσ H Q=>t σ H λvs H1=>EW λe C fI od y=>vs=[.ref e,y]/\H1 e=some (newX e C od)/\JV K C fI/\Q .gE H1
theorem O1 {X:Cx}{x:r_}{W:h_}{np apos cpos:qcq}{a b:Expr}{t:TA}{pl:Sem Bool}(hW:XBase X.K W)(hg:Gl X x)(hm:X.mg x=some (.ref W))(ha:PA X [a,b] t)(hdb:(x==("__debug__" :r_))=false:=by decide)
  (hev:eval (.Call (.Attribute (.Name x np) "__init__" apos) [a,b] [] cpos) X.env=(do
   let ov ←eval (.Name x np) X.env
   standAt apos.atName
   let (f,first) ←holding [ov] (getMethod ov "__init__" pl)
   callWith cpos f first (backTo cpos (qac [a,b] X.env)) (backToKw cpos (keywordEach [] X.env))):=by rfl)
  (hs:qac [a,b] X.env=(false,eval a X.env)::qac [b] X.env:=by rfl) (hpl:(backTo cpos (qac [b] X.env)).any (·.1)=false:=by rfl) :
  PE X (.Call (.Attribute (.Name x np) "__init__" apos) [a,b] [] cpos) (Wn X.K t):=by
 intro pins s σ H Q I h;refine PySem.W.methodCall_KW (pl:=pl) (oQ I hg hm ?_ hdb) hev;refine PySem.W.method_cls I.qz hW.ga (PySem.W.cls_value I.qz hW.rd hW.fd (by decide +kernel) ?_);have hA:=ha cpos pins { s with toks:=s.toks+1 } σ H _ (I.tok _) h;rw[hs]at hA ⊢;refine qbW (by show(false||(backTo cpos (qac [b] X.env)).any (·.1))=false;rw[hpl]<;>rfl) (qce ?_);refine gg hA λus s2 ⟨vs,H2,I2,r2,e,C,fI,od,y,e1,hx,O,q⟩=>?_;subst e1;obtain⟨u1,u2,rfl,ru1,_⟩:=vals2 r2;cases (show u1=Value.ref e from ru1);obtain⟨⟨vs,sl,he,h1⟩,_,_⟩:=(show cU X.prog X.w H2 s2.heap e (newX e C od) from I2.hok e _ hx);obtain⟨d,hC,hN,hni,T⟩:=O.obj s2.heap I2.qz;have F:=PySem.F.excBase_ValueError;have I2':=I2;obtain⟨hh,gs,dr,tk,os⟩:=s2;show D_ _ _ (call (.builtin "ValueError.__init__") [.ref e,u2]) _ _ _;refine qbV (qbE F.init.plain F.initEntry (wpAny_check_init_subU F T hC he Y ?_));have hv:0<vs.size:=t_ (T_ 1) (qck.mp h1.1).1;have hv0:vs[0]? =some vs[0]:=qcr hv
 wp_walk
 rw[hv0];refine q_ ?_;have hg:(hh.push { cls:=.type "tuple",data:=.seq #[u2] }).get? e=some ⟨.ref C,od,.fields vs,sl⟩:=j_ _ he;refine f_ (qch hg Y hv ?_);have hu:=qaw (qcZ (·.setIfInBounds 0 (Value.ref hh.objs.size))) hg rfl;have fin:EP X pins σ Q Value.none ⟨(hh.push { cls:=.type "tuple",data:=.seq #[u2] }).update e (qcZ (·.setIfInBounds 0 (Value.ref hh.objs.size))),gs,dr,tk,os⟩:=by
  refine⟨.gE,H2,?_,Y,q⟩;have J1:=I2'.kept (h':=hh.push { cls:=.type "tuple",data:=.seq #[u2] }) (t':=tk) λb u z=>j_ _ z;have J2:=J1.write (x:=e) (e:=e) (o:=newX e C od) (t':=tk) (by rw[hx];exact True.intro) (.inl rfl) (λb u hb z=>(qal _ _ (Ne.symm hb)).trans z) ⟨_,hu⟩ (DP hu (by simp[h1]));rw[Ro hx]at J2;exact J2
 cases hq:vs[0]with
 |ref t0=>exact wpAny_letGo (q_ fin)
 |_=>exact q_ (q_ fin)
end
section
section
variable{prog:A_}{w:U_}{A:qah}{E:i_->l_->Prop}{s:l_}{K:PySem.W.Frag}{x dx C:h_}{name:r_}{v:i_}{R:Result->l_->Prop}
theorem Jz{ox:qa0}{od:Option qa0}{tk:Tok}(X:K.In s.heap)(I:PySem.W.InstAt s.heap x ox C od)(S:YA K C)(ht:PySem.W.takerIn K C name=some none)
  (h:∀b,D_ (model prog w) A.in1 (Builtin.ObjectAttr.storeInOwnDict (.ref x) (.ref C) (.str name tk) name v b)
   (λfin s'=>match fin with| .done f=>R (.ok f) s'| .again c'=>c'.quiet=true/\codeAny (model prog w) A c' R s') (λe s'=>R (.error e) s') s) :
  codeAny (model prog w) A (.call (.builtin "object.__setattr__") ⟨[.ref x,.str name tk,v],[]⟩) R s:=by
 have SF:=PySem.F.store_object;obtain⟨cd,hc,ho⟩:=PySem.W.any_some S.po;have ne:cd.mro.isEmpty=false:=by cases q:cd.mro with|nil=>rw[q]at ho;cases ho|cons _ _=>rfl
 have sub:PySem.W.Looks (model prog w) s.heap (isInstance (.ref x) (.type "object")) true:=I.type.andThen (PySem.W.looks_mroIn X (by unfold PySem.W.mroIn;rw[hc,qbR,if_neg (by rw[ne];decide),LW ho]));refine qbE SF.slot.plain SF.entry (@PySem.W.check_slot (model prog w) _ _ s "object.__setattr__" "object" "__setattr__" (.ref x) [.str name tk,v] [] _ SF.kind SF.split sub (SF.args (.ref x) (.str name tk) v) ?_);obtain⟨attr,ha,hr⟩:=Option.bind_eq_some_iff.mp ht;have hm:PySem.W.Looks (model prog w) s.heap (mroOf (.ref C)) cd.mro:=(PySem.W.looks_clsIn X hc).andThen .now;have L3:PySem.W.Looks (model prog w) s.heap (Builtin.ObjectAttr.storeTaker? attr) none:=by
  cases attr with
  |none=>cases hr;exact .now
  |some a =>
   obtain⟨b,hb,e⟩:=qaQ.mp hr;refine(PySem.W.looks_takesIn X hb).andThen ?_
   cases b with
   |false=>exact .now
   |true=>cases e
 rw[PySem.W.osa_eq,refuse_eq];refine f_ (f_ (I.type.here (f_ (hm.here ?_))));rw[Ci _ ho];refine q_ (f_ (I.type.here (f_ ((PySem.W.looks_findIn X ha).here (f_ (L3.here ?_))))));exact h _
theorem Hs{vs:Array i_}{sl:Array (Option i_)}{mA:r_->Option i_}{ns:List r_}{Q:Unit->l_->Prop}(X:K.In s.heap)(S:YA K C)(ht:PySem.W.takerIn K C name=some none)
  (he:s.heap.get? x=some ⟨.ref C,some dx,.fields vs,sl⟩) (hn:s.heap.Ns1 dx mA) (hw:PySem.Within mA ns) (hsz:ns.length+1<=x_)
  (h:∀h',h'.Ns1 dx (λy=>if y=name then some v else mA y)->qa9 dx s.heap h'->Q () { s with heap:=h',toks:=s.toks+2 }):D_ (model prog w) A (setAttr (.ref x) name v) Q E s:=by
 obtain⟨od,ho,hl⟩:=wO hn;have J:PySem.W.InstAt s.heap x ⟨.ref C,some dx,.fields vs,sl⟩ C (some od):=⟨he,rfl,rfl,ho⟩;refine PySem.W.set_plain X J S.sa (Jz (s:={ s with toks:=s.toks+1 }) X J S ht λb=>?_);obtain⟨cd,hc,hd'⟩:=PySem.W.any_some S.hd;refine f_ (q_ (f_ (f_ (qcH he (f_ (PySem.W.Looks.here (s:={ s with toks:=s.toks+1 }) (PySem.W.looks_clsIn X hc) ?_))))));rw[hd'];refine q_ (a:=some dx) (f_ (q_ (f_ ?_)));refine wpAny_nsSet1 (s:={ s with toks:=s.toks+1 }) hn λh' hn2 hs2=>?_;obtain⟨oD,esD,epD,XC,XX,XY⟩:=hn2.count (PySem.Within.cons name v hw);refine f_ (wpAny_lookBehind XC (by rw[XX];exact pastItsLine_dict (m_ XY (by rw[M_];omega))) ?_);exact q_ (h _ hn2 hs2)
theorem Ht{vs:Array i_}{sl:Array (Option i_)}{Q:Unit->l_->Prop}(X:K.In s.heap)(S:YA K C)(ht:PySem.W.takerIn K C name=some none)
  (he:s.heap.get? x=some ⟨.ref C,none,.fields vs,sl⟩)
  (h:∀h',h'.Ns1 s.heap.objs.size (λy=>if y=name then some v else none)->qa9 s.heap.objs.size ((s.heap.push PySem.W.emptyDict).update x λo=>{ o with dict:=some s.heap.objs.size }) h'->Q () { s with heap:=h',toks:=s.toks+2 }):D_ (model prog w) A (setAttr (.ref x) name v) Q E s:=by
 have J:PySem.W.InstAt s.heap x ⟨.ref C,none,.fields vs,sl⟩ C none:=⟨he,rfl,rfl,trivial⟩;refine PySem.W.set_plain X J S.sa (Jz (s:={ s with toks:=s.toks+1 }) X J S ht λb=>?_);obtain⟨cd,hc,hd'⟩:=PySem.W.any_some S.hd;refine f_ (q_ (f_ (f_ (qcH he (f_ (PySem.W.Looks.here (s:={ s with toks:=s.toks+1 }) (PySem.W.looks_clsIn X hc) ?_))))));rw[hd'];rw[if_neg (by decide)];have hxs:x≠s.heap.objs.size:=Y_ (y_ he);have Xw:(s.heap.push PySem.W.emptyDict).get? x=some ⟨.ref C,none,.fields vs,sl⟩:=j_ _ he;show D_ (model prog w) A.in1 (alloc PySem.W.emptyDict >>= λd=>update x (λo=>{ o with dict:=some d }) >>= λ_=>dictMade (.ref C) x d) _ _ _;refine f_ (wpAny_alloc (f_ (wpAny_update Xw ?_)));refine q_ ?_;have hgd:((s.heap.push PySem.W.emptyDict).update x λo=>{ o with dict:=some s.heap.objs.size }).get? s.heap.objs.size=some PySem.W.emptyDict :=
  (Heap.get?_update_ne _ _ _ _ hxs.symm).trans (B_ _ rfl)
 have hnd:((s.heap.push PySem.W.emptyDict).update x λo=>{ o with dict:=some s.heap.objs.size }).Ns s.heap.objs.size (λ_=>none) :=
  ⟨_,#[],_,hgd,rfl,λe he=>absurd he (by simp),λ_=>rfl⟩
 show D_ _ _ (Builtin.ObjectAttr.storeInDict s.heap.objs.size (.str name s.toks) name v) _ _ _;refine f_ (q_ (f_ ?_));refine wpAny_nsSet1 (s:={ s with heap:=(s.heap.push PySem.W.emptyDict).update x λo=>{ o with dict:=some s.heap.objs.size },toks:=s.toks+1 }) (Heap.Ns1.of_empty hnd) λh' hn2 hs2=>?_;obtain⟨oD,esD,epD,XC,XX,XY⟩:=hn2.count (PySem.Within.cons name v PySem.Within.nil);refine f_ (wpAny_lookBehind XC (by rw[XX];exact pastItsLine_dict (m_ XY (by rw[M_,qbi,qba];omega))) ?_);exact q_ (h _ hn2 hs2)
end
end
section
theorem FL{fs:List (r_×V)}{mA:r_->Option i_}{f:r_}{y:V}{u:i_}(r:∀g,rK (fs.lookup g) (mA g))(ry:RelV y u):∀g,rK ((aK f y fs).lookup g) (if g=f then some u else mA g):=λg=>by
 rw[aA];by_cases q:g=f
 ·rw[if_pos q,if_pos q];exact ry
 ·rw[if_neg q,if_neg q];exact r g
theorem yS{fs:List (r_×V)}{mA:r_->Option i_}{f:r_}{y:V}{u:i_}(wi:PySem.Within mA (fs.map (·.1))):PySem.Within (λg=>if g=f then some u else mA g) ((aK f y fs).map (·.1)):=λg hg=>by
 by_cases q:g=f
 ·rw[q];exact(qO f y fs).1
 ·refine(qO f y fs).2 g (wi g λz=>hg ?_)
  show(if g=f then some u else mA g)=none
  rw[if_neg q];exact z
def Wx(K:PySem.W.Frag)(ta tv:TE)(f:r_):TS:=λD σ H=>tv σ H λy H1=>ta σ H1 λx H2=>dI λe C=>x= .ref e/\YA K C/\bA K C f ∧
 ((H2 e=some (newX e C none)/\∀dx,H2 dx=none->D.nx σ (upd (upd (upd H2 dx (AY dx [])) e (newX e C (some dx))) dx (AY dx (aK f y [])))) ∨
  dI λdx fs=>H2 e=some (newX e C (some dx))/\H2 dx=some (AY dx fs)/\fs.length<1000/\D.nx σ (upd H2 dx (AY dx (aK f y fs))))
theorem Ju{X:Cx}{o value:Expr}{f:r_}{pos pos':qcq}{ta tv:TE}(ha:PE X o ta)(hv:PE X value tv)(hs:swapsWith value (some (.Attribute o f pos')) pos.line X.env=pure false):PS X (.Assign [.Attribute o f pos'] value pos) (Wx X.K ta tv f):=by
 intro pins s σ H D I h;refine plainObj_wpAny_Assign_Attribute (gg (hv pins s σ H _ I h) λu s1 ⟨y,H1,I1,ry,q⟩=>gg (ha pins s1 σ H1 _ I1 q) λov s2 ⟨x,H2,I2,rx,e,C,ex,S,n,hk⟩=>?_) hs;subst ex;obtain rfl:ov=Value.ref e:=rx;rcases hk with⟨hx,q2⟩|⟨dx,fs,hx,hd,hl,q2⟩
 ·obtain⟨⟨vs,sl,he,h1⟩,_,_⟩:=(show cU X.prog X.w H2 s2.heap e (newX e C none) from I2.hok e _ hx);refine Ht I2.qz S n.Mg he λh' hn' sb=>?_;have ne:e≠s2.heap.objs.size:=Y_ (y_ he);have e1:(s2.heap.push PySem.W.emptyDict).get? s2.heap.objs.size=some PySem.W.emptyDict:=B_ _ rfl;have n1:(s2.heap.push PySem.W.emptyDict).Ns1 s2.heap.objs.size (λ_=>none):=Heap.Ns1.of_empty ⟨_,#[],_,e1,rfl,(λe he=>absurd he (by simp)),λ_=>rfl⟩;have Zy:(s2.heap.push PySem.W.emptyDict).get? e=some ⟨.ref C,none,.fields vs,sl⟩:=j_ _ he;have he2:=qaw (λo=>{ o with dict:=some s2.heap.objs.size }) Zy rfl;have J1:=I2.laid (a:=s2.heap.objs.size) (o:=AY s2.heap.objs.size []) (h':=s2.heap.push PySem.W.emptyDict) (t':=s2.toks) (λb u q=>j_ _ q) (k_ _) (G7 n1 (λ_=>True.intro) (λy hy=>absurd rfl hy));have J2:=J1.write (x:=e) (e:=e) (o:=newX e C (some s2.heap.objs.size)) (t':=s2.toks) (by rw[au ne,hx];exact True.intro) (.inl rfl) (λb u hb q=>(qal _ _ (Ne.symm hb)).trans q) ⟨_,he2⟩ (DP he2 h1)
  have J3:=J2.write (x:=s2.heap.objs.size) (e:=s2.heap.objs.size) (o:=AY s2.heap.objs.size (aK f y [])) (h':=h') (t':=s2.toks+2) (by rw[au (Ne.symm ne),af];exact True.intro) (.inl rfl) (λb u hb q=>(sb.2 b hb).trans q) (let ⟨o,_,_,e,_⟩:=hn';⟨o,e⟩)
   (G7 hn' (FL (mA:=λ_=>none) (λ_=>True.intro) ry) (yS (mA:=λ_=>none) λy hy=>absurd rfl hy)) (ht:=by show s2.toks<=s2.toks+2;omega)
  exact⟨σ,_,J3,q2 _ (I2.hok.fresh (k_ _))⟩
 ·obtain⟨⟨vs,sl,he,h1⟩,_,_⟩:=(show cU X.prog X.w H2 s2.heap e (newX e C (some dx)) from I2.hok e _ hx);obtain⟨⟨mA,nA,rA,wA⟩,_,_⟩:=(show cU X.prog X.w H2 s2.heap dx (AY dx fs) from I2.hok dx _ hd);refine Hs I2.qz S n.Mg he nA wA (by rw[g_,qba];omega) λh' hn' sb=>?_
  have J3:=I2.write (x:=dx) (e:=dx) (o:=AY dx (aK f y fs)) (h':=h') (t':=s2.toks+2) (by rw[hd];exact True.intro) (.inl rfl) (λb u hb q=>(sb.2 b hb).trans q) (let ⟨o,_,_,e,_⟩:=hn';⟨o,e⟩) (G7 hn' (FL rA ry) (yS wA))
  exact⟨σ,_,J3,q2⟩
structure XMk(K:PySem.W.Frag)(C f:h_):Prop where
 cls:JV K C f
 fn:PySem.W.isFn K (.ref f)=true
 kp:PySem.W.keepIn K (.ref C)=true
def ON(C:h_)(sp:Sp)(E:St->XK)(t:TA):TS:=λ_ σ H=>t σ H λvs H1=>vs.length<=x_/\∀e,H1 e=none →
 sp (.ref e::vs) (upd H1 e (newX e C none)) (λv H2=>v= .gE/\∃od,H2 e=some (newX e C od)/\E σ (.ref C) od (del H2 e)) (E σ)
theorem KD{X:Cx}{E:St->XK}{C f:h_}{x:r_}{np cpos pos:qcq}{k:Nat}{fd:F_}{ps:List r_}{sp:Sp}{e:Expr}{es:List Expr}{t:TA}(L:Lets X E)(M:XMk X.K C f)
  (F:aF X.prog X.w X.K X.mg X.base (rY X.prog X.w) k f fd ps sp) (hr:nV (k+1) X.A) (hb:Binds X.K fd ps []) (hc:X.calm=true)
  (hg:Gl X x) (hm:X.mg x=some (.ref C)) (ha:PA X (e::es) t) (hdb:(x==("__debug__" :r_))=false:=by decide) (he:qac (e::es) X.env=(false,eval e X.env)::qac es X.env:=by rfl)
  (hpl:(backTo cpos (qac es X.env)).any (·.1)=false:=by rfl):PS X (.Raise (some (.Call (.Name x np) (e::es) [] cpos)) none pos) (ON C sp E t):=by
 intro pins s σ H D I h;obtain⟨d,hC,hN,hni,T⟩:=M.cls.obj X.base I.ok.mod.QN;rw[arm_exec_Raise];have FB:=PySem.F.excBase_ValueError;simp only[evalOpt,Option.map];refine f_ (qcX (HC (C:=C) (nm:=d.nm) (q:=d.q) (N:=d.N) (bs:=d.bs) (bm:=d.bm) (hdct:=d.hdct) (sn:=d.sn) (sub:=d.sub) (ab:=d.ab) (col:=d.col) (dd:=d.dd) (k0:=d.k0) (k1:=d.k1) (k2:=d.k2) (k3:=d.k3) (k5:=d.k5) (newId:= "ValueError.__new__") (T.hasType FB.hasBase) (I.ok.hd hc) ?_));refine f_ (gg (Q:=λv s₁=>t9 λe od vs sl=>v= .ref e/\s₁.heap.get? C=some (d.obj C "ValueError.__new__")/\s₁.heap.get? e=some ⟨.ref C,od,.fields vs,sl⟩/\vs[1]? =some .none/\X.xe (.ref e) s₁) ?_ λv s2 h2=>f_ (qcX (q_ h2)));refine qa4 (oQ I hg hm ?_ hdb);refine PySem.W.callWith_K (h₀:=X.base) I.ok.mod.QN M.kp (gg (ha cpos pins s σ H _ I h) λus s1 ⟨vs,H1,I1,r,hl,q1⟩=>⟨I1.qz,?_⟩) he hpl;have hfo:∃o,s1.heap.get? f=some o/\o.cls= .type "function" :=by
  obtain⟨o,ho,hc⟩:=qaQ.mp (beq_iff_eq.mp M.fn);exact⟨o,I1.qz _ _ ho,hc⟩
 obtain⟨oI,hfo,hfc⟩:=hfo;have I1':=I1;obtain⟨hh,gs,dr,tk,os⟩:=s1;refine Lr (N:=d.N) (mN:=d.mN) FB FB.hasB FB (T.keeps I1.bk) (I1.bk _ _ hC) (hN.keeps I1.bk) hni hfo hfc (λh' ea made=>?_) (by show us.length<=x_;rw[←r.length];exact hl);obtain⟨t',ht,_,_⟩:=made.there;have xo:=I1.YW made.new (I1.hok.none_of made.new);have J0:Inv X pins σ H1 ⟨h',gs,dr,tk,os⟩:=I1.kept (t':=tk) made.keeps;have J1:Inv X pins σ (upd H1 ea (newX ea C none)) ⟨h',gs,dr,tk,os⟩:=J0.Mc xo (DP ht ⟨rfl,rfl,by simp⟩);have hq:=q1 ea xo.1;have r2:Vals (V.ref ea::vs) (Value.ref ea::us):=.cons rfl r;have hlen:(Value.ref ea::us).length=ps.length:=by rw[←r2.length];exact F.len _ _ _ _ hq
 refine qbV (qbC (F.run _ X.stack _ _ ⟨Value.ref ea::us,[]⟩ (Value.ref ea::us) _ _ (E σ) (hr.make C us []) (J1.P8.make C us []) (by have z:=hb _ (Value.ref ea::us) J1.qz (by rw[qbh];exact hlen);rw[qbh]at z;exact z) r2 hq) λrr s' hq'=>?_)
 cases rr with
 |error e=>exact L.pass J1 hq'
 |ok fl =>
  cases fl with
  |ret u =>
   obtain⟨v,H',I3,rv,ev,od,hx,qE⟩:=J1.after hq';subst ev;obtain⟨⟨vs',LH,he',A0⟩,_,_⟩:=(show cU X.prog X.w H' s'.heap ea (newX ea C od) from I3.hok ea _ hx);refine⟨rv,ea,od,vs',LH,Y,I3.bk _ _ hC,he',A0.1,?_⟩;exact L pins σ (del H' ea) s' ea (.ref C) od (I3.drop hx) ⟨⟨Gw,xo.2⟩,vs',LH,he',λ_=>A0.2.1,.inl A0.1⟩ qE
  |next=>exact qaN hq'
  |brk=>exact qaN hq'
  |cont=>exact qaN hq'
end
section
section
variable{X:Cx}{a b c:Expr}{ta tb tc:TE}{pos:qcq}{rest:List Expr}
end
end
section
theorem IA{X:Cx}{elt tg iter test:Expr}{tt:TT}{scope:qbK}{pos pos':qcq}{wi:TI}{g:TG}{te:TE}{N:List r_}{q9:St->St}(hc:X.calm=true)(hS:X.Ok->∃cl,cG X scope cl N q9)(hi:PI X tg iter wi)
  (hg:∀cl C s H ex pn E,PG (jD X scope cl C N s H ex pn E) tg g) (he:∀cl C s H ex pn E,PE (jD X scope cl C N s H ex pn E) elt te) (ht:∀cl C s H ex pn E,PT (jD X scope cl C N s H ex pn E) test tt) (hs:∀x,foldedSetIterable iter X.env x=pure x)
  {pins:List (h_×qa0)} {s:l_} {σ:St} {H:Hp} {Q:VK} {use:Option (i_->Sem Unit)} {QQ:i_->l_->Prop} (I:Inv X pins σ H s) (h:yX wi g tt te q9 σ H Q)
  (Nr:∀(l C:h_) (mC:r_->Option i_) (H':Hp) (s':l_),Inv X pins σ H' s'->tG X pins H' C->s'.heap.Ns C mC->Q (.ref l) H'->compPost (model X.prog X.w) X.A X.xe use QQ (.ref l) C (.ok .next) s') :
  D_ (model X.prog X.w) X.A (comprehension (.ListComp elt [⟨tg,iter,[test],0⟩] scope pos) scope X.env pos' (newList []) false (eval iter X.env) use) QQ X.xe s :=
 Az hc hS hi hg he (λcl C s H ex pn E pins s' σ H' Q I q=>wpAny_tests_one (ht cl C s H ex pn E pins s' σ H' Q I q)) hs I h Nr
theorem MO{X:Cx}{elt tg iter test:Expr}{tt:TT}{scope:qbK}{pos:qcq}{wi:TI}{g:TG}{te:TE}{N:List r_}{q9:St->St}(hc:X.calm=true)(hS:X.Ok->∃cl,cG X scope cl N q9)(hi:PI X tg iter wi)
  (hg:∀cl C s H ex pn E,PG (jD X scope cl C N s H ex pn E) tg g) (he:∀cl C s H ex pn E,PE (jD X scope cl C N s H ex pn E) elt te) (ht:∀cl C s H ex pn E,PT (jD X scope cl C N s H ex pn E) test tt)
  (hs:∀x,foldedSetIterable iter X.env x=pure x:=by intro _;rfl):PE X (.ListComp elt [⟨tg,iter,[test],0⟩] scope pos) (yX wi g tt te q9):=by
 intro pins s σ H Q I h;rw[eval_ListComp];refine IA (use:=none) (QQ:=EP X pins σ Q) hc hS hi hg he ht hs I h ?_;intro l C mC H' s' I' fp hn q;exact⟨mC,hn,λh' sb=>⟨.ref l,H',I'.moved (ch:=[C]) (t':=s'.toks) (λb o hb e=>(sb.2 b (by simpa using hb)).trans e) (λb hb=>by rw[w_.mp hb];exact fp),Y,q⟩⟩
end
end L2
namespace GP
open PySem L2 lN
theorem Cq{n:Nat}(h:n<=100000):((n:Nat):Int).natAbs.log2<1920:=by
 rw[Int.natAbs_natCast];by_cases z:n=0
 ·subst z;decide
 ·rw[Nat.log2_lt z];exact t_ h (H_ (show 100000<2 ^ 20 by decide) (qcj (by decide) (by decide)))
theorem Eb{a b:r_}{m n:Nat}(h1:a.length<=m)(h2:b.length<=n):(a++b).length<=m+n:=by rw[strLen_append];omega
def Fv(C:h_):Sp:=λvs H Q _=>oS λ(e:h_) (i j:Nat)=>vs=[.ref e,.int i,.int j]/\H e=some (newX e C none)/\i<=100000/\j<=100000 ∧
 ∀dx H',(∀b u,H b=some u->b≠e->H' b=some u)->H dx=none->H' e=some (newX e C (some dx))->H' dx=some (AY dx (aK "place" (.int j) (aK "row" (.int i) [])))->Q .gE H'
end GP
namespace L2
open PySem PySem.Spec PyProof.Rows
theorem NI{prog:A_}{w:U_}{A:qah}{E:i_->l_->Prop}{s:l_}{K:PySem.W.Frag}{x C:h_}{ox:qa0}{od:Option qa0}{name:r_}{expr:Bool}{v:i_}{Q:i_->l_->Prop}(Z:Rf K C)(k:K.In s.heap)(I:PySem.W.InstAt s.heap x ox C od)
  (hf:PySem.W.findObj K C od name=some (.value v)) (hd:PySem.W.handedIn v=true) (h:Q v { s with toks:=s.toks+1 }):D_ (model prog w) A (getAttr (.ref x) name expr) Q E s:=by
 obtain⟨hh,g,d,t,os⟩:=s;have L0:=I.type (M:=model prog w);have L1:=PySem.W.looks_findIn (M:=model prog w) k Z.ga;have L2:=PySem.W.looks_findIn (M:=model prog w) k Z.gn;have LB:=PySem.W.looks_mroIn (M:=model prog w) k Z.hb;have LF:=PySem.W.looks_find (M:=model prog w) k I hf;unfold getAttr getAttrBy;refine f_ (wpAny_mkText (qaF (f_ (L0.at (f_ (L1.at ?_))))));show D_ _ _ (getAttrByItsOwn _ _ _ _ _ _) _ _ _;unfold getAttrByItsOwn hookBefore;refine f_ (L2.at ?_);refine f_ (qbl (qaF ?_));have e0:∀n:i_,callGetattribute (.ref x) n (.builtin "BaseException.__getattribute__") expr=boundAndCalled (.builtin "BaseException.__getattribute__") (.ref x) n:=λn=>by
  unfold callGetattribute;cases expr<;>rfl
 rw[e0];unfold boundAndCalled;refine f_ (wpAny_of_eq (PySem.F.attr_ValueError.ga.bind (.ref x)) ?_);show D_ _ _ (call (.builtin "BaseException.__getattribute__") [.ref x,.str name t]) _ _ _;refine qbV (qbE PySem.F.attr_ValueError.ga.plain PySem.F.entry_bexc_ga ?_);have c1:builtinKind "BaseException.__getattribute__" =some .slot:=by decide +kernel
 have c2:splitId "BaseException.__getattribute__" =some ("BaseException","__getattribute__"):=by decide +kernel
 have c3:=PySem.F.args_bexc_ga (.ref x) (.str name t);simp only[checkBuiltinCall,c1,c2];refine f_ (f_ (L0.at (LB.at ?_)));simp only[qc0,qap,if_false];unfold argsOk at c3;refine wpAny_of_eq c3 ?_;unfold Builtin.«object.__getattribute__»;refine f_ (q_ (f_ (q_ (f_ (L0.at (f_ (LF.at ?_)))))));refine q_ ?_;show D_ _ _ (handedOut v) _ _ _;rw[PySem.W.handedOut_of hd];exact q_ h
def Wi(K:PySem.W.Frag)(ta:TE)(f:r_):TE:=λσ H Q=>ta σ H λx H1=>EW λe C dx fs i=>x= .ref e/\H1 e=some (NJ e (.ref C) (some dx))/\H1 dx=some (AY dx fs)/\Rf K C/\bA K C f/\fs.lookup f=some (.int i)/\Q (.int i) H1
theorem Aq{P:A_}{w:U_}{H:Hp}{h:qab}{e C dx:h_}{fs:List (r_×V)}(hok:qY P w H h)(he:H e=some (NJ e (.ref C) (some dx)))(hd:H dx=some (AY dx fs)):
  dI λox od=>∃mA:r_->Option i_,PySem.W.InstAt h e ox C (some od)/\(∀name,PySem.W.lookIn name od=some (mA name))/\∀f,rK (fs.lookup f) (mA f):=by
 obtain⟨⟨vs,sl,h1⟩,_,_⟩:=(show cU P w H h e (NJ e (.ref C) (some dx)) from hok e _ he);obtain⟨⟨mA,nA,rA,wA⟩,_,_⟩:=(show cU P w H h dx (AY dx fs) from hok dx _ hd);obtain⟨od,ho,hl⟩:=wO nA;exact⟨_,od,mA,⟨h1,Y,Y,ho⟩,hl,rA⟩
theorem Jy{X:Cx}{e:Expr}{f:r_}{pos:qcq}{ta:TE}(he:PE X e ta)(hb:attributeBase e f X.env (eval e X.env)=eval e X.env):PE X (.Attribute e f pos) (Wi X.K ta f):=by
 intro pins s σ H Q I h;refine JU hb (gg (he pins s σ H _ I h) λu s1 ⟨x,H1,I1,rx,e,C,dx,fs,i,ex,hx,hd,Z,n,l,q⟩=>?_);subst ex;obtain rfl:u=Value.ref e:=rx;obtain⟨ox,od,mA,J,hl,rA⟩:=Aq I1.hok hx hd;have r:=rA f;rw[l]at r
 cases hm:mA f with
 |none=>rw[hm]at r;exact r.elim
 |some u =>
  rw[hm]at r;obtain⟨t,rfl⟩:=(show ∃t,u=Value.int i t from r);refine NI Z I1.qz J ?_ Y ⟨.int i,H1,I1.tok _,⟨t,Y⟩,q⟩;obtain⟨cd,hc,hdd⟩:=PySem.W.any_some Z.hd;have hn:PySem.W.findIn X.K (.ref C) f=some none:=n;unfold PySem.W.findObj;rw[hc,qbR,hn,qbR];simp only[qbR,PySem.W.ownOf,hdd,if_true,hl,hm]
theorem nI{X:Cx}:mL X (.builtin "isinstance") (λxs H Q=>LL λea C od c cv b=>xs=[.ref ea,c]/\((∃D,c= .ref D/\cv= .ref D)\/∃T,c= .ty T/\cv= .type T)/\H ea=some (NJ ea (.ref C) od)/\(od=none\/dI λdx fs=>od=some dx/\H dx=some (AY dx fs))/\Rf X.K C/\PySem.W.kitOne X.K (.ref C) cv=some b/\Q (.bl b) H):=by
 intro pins s σ H vs us Q I r h;obtain⟨ea,C,od,c,cv,b,rfl,hc,hx,hod,Z,hk,q⟩:=h;obtain⟨u,u2,rfl,rx,rc⟩:=vals2 r;cases (show u=Value.ref ea from rx);have e2:u2=cv:=by
  rcases hc with⟨D,rfl,rfl⟩|⟨T,rfl,rfl⟩
  ·exact rc
  ·exact rc
 subst e2;rcases hod with rfl|⟨dx,fs,rfl,hd⟩
 ·obtain⟨⟨ws,sl,e⟩,_,_⟩:=(show cU X.prog X.w H s.heap ea (NJ ea (.ref C) none) from I.hok ea _ hx)
  exact TK.cj (k_ s.toks) (PySem.W.kia_one (vK (ox:=⟨.ref C,none,.fields ws,sl⟩) (od:=none) Z) I.qz ⟨e,Y,Y,trivial⟩ hk (λz=>nomatch z) λtk hup=>⟨.bl b,H,I.tok tk,Y,q⟩)
 ·obtain⟨ox,o,mA,J,hl,rA⟩:=Aq I.hok hx hd
  exact TK.cj (k_ s.toks) (PySem.W.kia_one (vK (ox:=ox) (od:=some o) Z) I.qz J hk (λz=>nomatch z) λtk hup=>⟨.bl b,H,I.tok tk,Y,q⟩)
theorem T7{x y:r_}(h:x.cps=y.cps):x=y:=by
 cases x;cases y;exact congrArg Str.mk h
noncomputable def rX(x:r_)(n:Int):r_:=⟨(P_ n.toNat x.cps).foldl (·++·) #[]⟩
theorem zF(a:Array Nat):∀(n:Nat) (b:Array Nat),((P_ n a).foldl (·++·) b).toList=b.toList++(P_ n a.toList).flatten
 | 0,b=>by simp
 |n+1,b=>by
  rw[qax,qcz,zF a n,qax,qaS,Array.toList_append,qaH]
theorem wD(x:r_)(n:Int):(rX x n).cps.toList=(P_ n.toNat x.cps.toList).flatten:=by
 unfold rX;rw[zF];rfl
theorem FJ(x:r_)(n:Int):(rX x n).cps.size=n.toNat*x.cps.size:=by
 rw[←s_,wD,List.length_flatten,List.map_replicate,List.sum_replicate_nat];rfl
theorem DB{X:Cx}:rZ X (binaryOp .Mult) (λx y H Q=>dI λz n=>x= .str z/\y= .int n/\ -1000000<=n/\n<=1000000/\z.cps.size<=1000000/\n.toNat*z.cps.size<=x_/\Q (.str (rX z n)) H):=by
 intro pins s σ H x y v u Q I rx ry h;obtain⟨z,n,rfl,rfl,h1,h2,h3,h4,q⟩:=h;obtain⟨t,rfl⟩:=rx;obtain⟨t',rfl⟩:=ry;have hl:z.length=z.cps.size:=rfl;refine TK.cj (k_ s.toks) (PySem.P.mul_str ?_ (λk1 _=>?_) (λ_ _=>?_) ?_)
 ·rw[decide_eq_false (by omega),decide_eq_false (by omega)];rfl
 ·have k2:1<=n:=by omega
  have:(2 ^ 63-1:Int) / n>=1000000:=by
   rw[ge_iff_le,Int.le_ediv_iff_mul_le (by omega)]
   calc 1000000*n<=1000000*1000000:=by omega
    _<=_:=by decide
  omega
 ·show decide (z.length*n.toNat>x_)=false;rw[hl,Nat.mul_comm];exact decide_eq_false (qcU.mpr h4)
 ·have fin:∀y:r_,y=rX z n->∀t k,s.toks<=k->EP X pins σ Q (.str y t) { s with toks:=k }:=λy e t k hk=>⟨.str (rX z n),H,I.tok k hk,⟨t,by rw[e]⟩,q⟩;by_cases k1:n<1
  ·rw[if_pos k1];refine⟨T_ _,fin _ ?_ _ _⟩;unfold rX;rw[show n.toNat=0 by omega];rfl
  ·rw[if_neg k1];by_cases k2:(n==1||z.length==0)=true
   ·rw[if_pos k2];refine fin _ ?_ _ s.toks;rcases Bool.or_eq_true_iff.mp k2 with k|k
    ·have e:n=1:=by simpa using k
     subst e;show z=⟨#[]++z.cps⟩;simp
    ·have e:z.cps.size=0:=(show z.length=0 from eq_of_beq k);have e1:=FJ z n;rw[e,Nat.mul_zero]at e1;have a1:z.cps= #[]:=Array.eq_empty_of_size_eq_zero e;have a2:(rX z n).cps= #[]:=Array.eq_empty_of_size_eq_zero e1;have:z.cps=(rX z n).cps:=a1.trans a2.symm;exact T7 this
   ·rw[if_neg k2];refine⟨?_,fin _ Y _ _⟩;show(rX z n).cps.size<=x_;rw[FJ];exact h4
end L2
namespace GP
open PySem L2 lN
section
theorem FA{x:r_}{lo hi:Option Int}{a b:Nat}(e:PySem.Builtin.Str.strSliceIndices lo hi 1 x.length=PySem.Builtin.Str.strSliceIndices (some (a:Int)) (some (b:Int)) 1 x.length)(hab:a<=b)(hb:b<=x.cps.size):(Txt.slice x lo hi).cps.toList=(x.cps.toList.drop a).take (b-a):=by
 have hb':b<=x.length:=hb;have f:=StrLaws.sliced_plain x hab hb';unfold Txt.slice;rw[e];split
 ·next h =>
  have hl:(PySem.Builtin.Str.strSliceIndices (some (a:Int)) (some (b:Int)) 1 x.length).length=x.length:=by simpa using h
  rw[StrLaws.strSliceIndices_plain hab hb',g_,qad]at hl;have hl':b-a=x.cps.size:=hl;have ha:a=0:=by omega
  subst ha;rw[qcl,qan (by rw[s_];omega)]
 ·exact f
theorem MA{x:r_}{k:Int}(h0:0<=k)(h1:k<=(x.cps.size:Int)):(Txt.slice x (some k) none).cps.toList=x.cps.toList.drop k.toNat:=by
 obtain⟨n,rfl⟩:∃n:Nat,k=(n:Int):=⟨k.toNat,(qas h0).symm⟩;have e:=FA (x:=x) (lo:=some (n:Int)) (hi:=none) (a:=n) (b:=x.cps.size) (by
  have hl:x.length=x.cps.size:=rfl;simp only[PySem.Builtin.Str.strSliceIndices,hl];simp;rw[if_neg (show ¬(x.cps.size:Int)<0 by omega),show max (0:Int) (min (x.cps.size:Int) (x.cps.size:Int))=(x.cps.size:Int) by omega]) (by omega) (k_ _)
 rw[e,qan (by rw[qbO,s_];omega)];rfl
noncomputable def BD(i j:Nat):List (r_×V):=aK "place" (.int j) (aK "row" (.int i) [])
theorem NG{i j:Nat}:(BD i j).lookup ("row" :r_)=some (.int i):=by
 unfold BD;rw[aA,if_neg (by decide +kernel),aA,if_pos rfl]
theorem Ir{i j:Nat}:(BD i j).lookup ("place" :r_)=some (.int j):=by
 unfold BD;rw[aA,if_pos rfl]
theorem By{K:PySem.W.Frag}:PySem.W.kitOne K (.type "str") (.type "tuple")=some false:=by kernel_rfl
end
section
end
end GP
namespace L2
open PySem PySem.Spec PyProof.Rows PySem.Builtin PySem.Builtin.Str
theorem MT{X:Cx}(hu:X.A.units<cLine):rZ X (compareOp .NotEq) (λx y H Q=>oS λp q xs=>x= .ref p/\y= .ref q/\bD X.K H p xs/\bD X.K H q xs/\(∀z∈xs,(∃a,z= .str a)\/∃a,z= .ref a)/\Q (.bl false) H):=by
 intro pins s σ H x y v u Q I rx ry h;obtain⟨p,q,xs,rfl,rfl,hp,hq,ha,k⟩:=h;cases rx;cases ry;obtain⟨us,r1,t1,_⟩:=I.list hp;obtain⟨vs,r2,t2,_⟩:=I.list hq;have hsz:us.toArray.size=vs.toArray.size:=by rw[v_,v_,←r1.length,←r2.length]
 refine SeqAt.RcNeAt.lists (A:=X.A) (s:=s) (e:=λ_=>true) t1.isList t2.isList hsz hu (λj h1 h2=>?_) X.prog X.w X.xe _ ⟨.bl false,H,I,?_,k⟩
 ·have A0:j<us.length:=by simpa using h1
  have h2':j<vs.length:=by simpa using h2
  have h3:j<xs.length:=by rw[r1.length];exact A0
  obtain⟨u,e1,ru⟩:=r1.get (e_ h3);obtain⟨v,e2,rv⟩:=r2.get (e_ h3);have g1:us.toArray[j]=u:=by rw[e_ A0]at e1;simpa using e1
  have g2:vs.toArray[j]=v:=by rw[e_ h2']at e2;simpa using e2
  rw[g1,g2];rcases ha _ (Q_ h3)with⟨i,hx⟩|⟨a,hx⟩
  ·rw[hx]at ru rv;obtain⟨t,rfl⟩:=ru;obtain⟨t',rfl⟩:=rv;have z:=SeqAt.EqAt.str_str (A:=X.A.in1) (s:=s) i t i t';rw[beq_self_eq_true]at z;exact z
  ·rw[hx]at ru rv;cases ru;cases rv;exact .same _
 ·show Value.bool _=Value.bool false;simp
theorem BZ:∀{cs:List h_} {us:List i_},Vals (cs.map V.ref) us->us=cs.map Value.ref
 |[],_,.nil=>rfl
 |_::_,_,.cons r q=>by
  cases r;rw[BZ q];rfl
theorem uu{X:Cx}:mL X (.builtin "isinstance") (λxs H Q=>LL λ(ea C:h_) (od:Option h_) (tp:h_) (cs:List h_) (b:Bool)=>xs=[.ref ea,.ref tp]/\H tp=some (.tup (cs.map V.ref))/\H ea=some (NJ ea (.ref C) od)/\(od=none\/dI λdx fs=>od=some dx/\H dx=some (AY dx fs))/\Rf X.K C/\PySem.W.kitAny X.K (.ref C) (cs.map Value.ref)=some b/\Q (.bl b) H):=by
 intro pins s σ H vs us Q I r h;obtain⟨ea,C,od,tp,cs,b,rfl,htp,hx,hod,Z,hk,q⟩:=h;obtain⟨u,u2,rfl,rx,rc⟩:=vals2 r;cases (show u=Value.ref ea from rx);cases (show u2=Value.ref tp from rc);obtain⟨its,rv,⟨⟨cl,dd,da,sl⟩,e1,e2,n,e3⟩,_⟩:=I.tuple (fq.of htp);simp only at e2 e3;subst e2 e3;have hi:=BZ rv;subst hi;rcases hod with rfl|⟨dx,fs,rfl,hd⟩
 ·obtain⟨⟨ws,sl,e⟩,_,_⟩:=(show cU X.prog X.w H s.heap ea (NJ ea (.ref C) none) from I.hok ea _ hx)
  exact TK.cj (k_ s.toks) (PySem.W.kia_tup (vK (ox:=⟨.ref C,none,.fields ws,sl⟩) (od:=none) Z) I.qz ⟨e,Y,Y,trivial⟩ e1 hk (λz=>nomatch z) λtk hup=>⟨.bl b,H,I.tok tk,Y,q⟩)
 ·obtain⟨ox,o,mA,J,hl,rA⟩:=Aq I.hok hx hd
  exact TK.cj (k_ s.toks) (PySem.W.kia_tup (vK (ox:=ox) (od:=some o) Z) I.qz J e1 hk (λz=>nomatch z) λtk hup=>⟨.bl b,H,I.tok tk,Y,q⟩)
end L2
namespace GP
open PySem L2 lN
section
theorem sr(x y:r_):(x++y).cps.toList=x.cps.toList++y.cps.toList:=by
 show(x.cps++y.cps).toList=_;rw[Array.toList_append]
theorem rm(x y:r_):(x++y).cps.size=x.cps.size+y.cps.size:=by
 rw[←s_,sr,o_,s_,s_]
theorem Fz(x:r_)(b:Nat):(Txt.slice x none (some (b:Int))).cps.toList=x.cps.toList.take b:=by
 have hl:x.cps.toList.length=x.cps.size:=s_;have e:=FA (x:=x) (lo:=none) (hi:=some (b:Int)) (a:=0) (b:=min b x.cps.size) (by
  have hl:x.length=x.cps.size:=rfl;simp only[PySem.Builtin.Str.strSliceIndices,hl];simp;rw[if_neg (by omega),if_neg (by omega)];congr 2<;>omega) (by omega) (by omega)
 rw[e,qcl,Nat.sub_zero];by_cases h1:b<=x.cps.size
 ·rw[qb2 h1]
 ·rw[Nat.min_eq_right (by omega),qan (by omega),qan (by omega)]
end
section
theorem Ak{K:PySem.W.Frag}:PySem.W.kitOne K (.type "list") (.type "tuple")=some false:=by kernel_rfl
theorem Aj{K:PySem.W.Frag}:PySem.W.kitOne K (.type "NoneType") (.type "tuple")=some false:=by kernel_rfl
theorem JD{K:PySem.W.Frag}{t:i_}:PySem.W.kitAny K t []=some false:=rfl
theorem kH{K:PySem.W.Frag}{t c:i_}{r:List i_}{b:Bool}(h:PySem.W.kitOne K t c=some false)(h':PySem.W.kitAny K t r=some b):PySem.W.kitAny K t (c::r)=some b:=by
 unfold PySem.W.kitAny;rw[h];exact h'
end
section
end
end GP
set_option Elab.async false
set_option linter.all false
set_option maxRecDepth 100000
namespace TS
open PySem PyProof.Rows
structure OA(prog:A_)(w:U_)(A:qah)(s:l_)(κ:qcQ)(Ok:qag->Prop)(R:qag->qag->Bool):Prop where
 run:∀(E:i_->l_->Prop) x y,Ok x->Ok y->∀Q:Bool->l_->Prop,Q (R x y) s->D_ (model prog w) A (keyLt' κ x.1 y.1) Q E s
 tr:∀x y z,Ok x->Ok y->Ok z->R y x=false->R z y=false->R z x=false
 as:∀x y,Ok x->Ok y->R x y=true->R y x=false
section
variable{prog:A_}{w:U_}{A:qah}{E:i_->l_->Prop}{s:l_}{κ:qcQ}{Ok:qag->Prop}{R:qag->qag->Bool}
theorem OD{st:qaI}{x y:qag}{Q:Option Bool->qaI->Prop}(C:OA prog w A s κ Ok R)(hk:kindOf st=κ)(hx:Ok x)(hy:Ok y)(h:Q (some (R x y)) st):wpS (model prog w) A E s (lt' x y) Q st:=by
 rw[lt'_eq];refine qaP (wpS_get ?_);rw[hk];refine qaP (wpS_lift (qbl (C.run _ x y hx hy _ ⟨Y,?_⟩)));exact qbc h
theorem E3{st:qaI}{arr:Array qag}{i:Nat}{x:qag}{Q:qag->qaI->Prop}(e:arr[i]? =some x)(h:Q x st):wpS (model prog w) A E s (elem' arr i) Q st:=by
 rw[elem'_eq,e];exact qbc h
end
end TS
set_option Elab.async false
set_option linter.all false
set_option maxRecDepth 100000
namespace TS
open PySem PyProof.Rows
def Le(R:qag->qag->Bool)(x y:qag):Prop:=R y x=false
section
variable{R:qag->qag->Bool}{T O la lb xs:List qag}{x:qag}
end
noncomputable abbrev ad3(s:qaI)(g:Nat):qaI:=SortSt.mk' (kindOf s) (arrOf s) (pendingOf s) g (failedOf s)
noncomputable abbrev S1:=Option (Array qag)×Array qag×Nat×Nat×Nat×Nat
noncomputable abbrev S2:=Option (Array qag)×Array qag×Nat×Nat×Nat×Nat×Nat
noncomputable abbrev eA(a b o:Array qag)(i j:Nat):Array qag:=o++a.extract i a.size++b.extract j b.size
noncomputable abbrev eB(a b o:Array qag)(i j:Nat):Array qag:=o++b.extract j b.size++a.extract i a.size
noncomputable abbrev S3:=Option (Array qag)×Array qag×Nat×Nat×Nat
end TS
set_option Elab.async false
set_option linter.all false
set_option maxRecDepth 100000
namespace TS
open PySem PyProof.Rows
theorem Qm{a:Array qag}{i:Nat}(h:i<a.size):∃x,a[i]? =some x/\a.toList.drop i=x::a.toList.drop (i+1)/\x∈a.toList:=by
 have h':i<a.toList.length:=by rw[s_];exact h
 refine⟨a[i],by rw[qcr h],?_,by rw[←Array.getElem_toList];exact Q_ h'⟩;rw[qbs h',Array.getElem_toList]
section
variable{prog:A_}{w:U_}{A:qah}{E:i_->l_->Prop}{s:l_}{κ:qcQ}{Ok:qag->Prop}{R:qag->qag->Bool}{a b:Array qag}{T:List qag}{N:Nat}{Q:ForInStep S2->qaI->Prop}{T8 st:qaI}{o:Array qag}{i j g p q:Nat}
end
end TS
set_option Elab.async false
set_option linter.all false
set_option maxRecDepth 100000
namespace TS
open PySem PyProof.Rows
section
variable{prog:A_}{w:U_}{A:qah}{E:i_->l_->Prop}{s:l_}{κ:qcQ}{Ok:qag->Prop}{R:qag->qag->Bool}{a b:Array qag}{T:List qag}{N:Nat}{Q:ForInStep S2->qaI->Prop}{T8 st:qaI}{o:Array qag}{i j g p q:Nat}
theorem uf{c:Array qag}(h:∀x∈c.toList,Ok x){i:Nat}{x:qag}(e:c[i]? =some x):Ok x:=h x (by rw[←V_]at e;exact u_ e)
end
end TS
set_option Elab.async false
set_option linter.all false
set_option maxRecDepth 100000
namespace TS
open PySem PyProof.Rows
noncomputable abbrev fA(a b o:Array qag)(i j:Nat):Array qag:=a.extract 0 i++b.extract 0 j++o.reverse
noncomputable abbrev fB(a b o:Array qag)(i j:Nat):Array qag:=b.extract 0 j++a.extract 0 i++o.reverse
noncomputable abbrev H1:=Option (Array qag)×Nat×Nat×Array qag×Nat×Nat
noncomputable abbrev H2:=Option (Array qag)×Nat×Nat×Array qag×Nat×Nat×Nat
noncomputable abbrev H3:=Option (Array qag)×Nat×Nat×Array qag×Nat
end TS
set_option Elab.async false
set_option linter.all false
set_option maxRecDepth 100000
namespace TS
open PySem PyProof.Rows
noncomputable abbrev fl(R:qag->qag->Bool):qag->qag->Bool:=λx y=>R y x
section
variable{prog:A_}{w:U_}{A:qah}{E:i_->l_->Prop}{s:l_}{κ:qcQ}{Ok:qag->Prop}{R:qag->qag->Bool}{a b:Array qag}{T:List qag}{N:Nat}{Q:ForInStep H2->qaI->Prop}{T8 st:qaI}{o:Array qag}{i j g p q:Nat}
end
end TS
set_option Elab.async false
set_option linter.all false
set_option maxRecDepth 100000
namespace TS
open PySem PyProof.Rows
end TS
set_option Elab.async false
set_option linter.all false
set_option maxRecDepth 100000
namespace TS
open PySem PyProof.Rows
section
variable{prog:A_}{w:U_}{A:qah}{E:i_->l_->Prop}{s:l_}{κ:qcQ}{Ok:qag->Prop}{R:qag->qag->Bool}{st:qaI}
end
end TS
set_option Elab.async false
set_option linter.all false
set_option maxRecDepth 100000
namespace TS
open PySem PyProof.Rows
noncomputable abbrev C1:=Option (Option Nat)×Nat
noncomputable abbrev C2:=Option (Option Nat)×Nat×Nat
noncomputable def Ek(lo a nrem:Nat):StateT qaI Sem C1 :=
 forIn [a:nrem] ((none,a):C1) λ_ (_,n)=>do
  let r ←ltAt' (lo+n) (lo+n-1)
  match r with
  |some z=>if z then pure (.done (none,n))else pure (.yield (none,n+1))
  |_=>pure (.done (some none,n))
noncomputable def IZ(lo n nrem:Nat):StateT qaI Sem (Option Nat):=do
 reverseSlice' lo (lo+n)
 let c ←Ek lo n nrem
 match c.1 with
 |some r=>pure r
 |none=>pure (some c.2)
noncomputable def Gv(lo n nrem:Nat):StateT qaI Sem C2 :=
 forIn [n:nrem] ((none,n,0):C2) λ_ (_,n,q)=>do
  let r ←ltAt' (lo+n) (lo+n-1)
  match r with
  |some z =>
   if z then
    if q>0 then do
     reverseSlice' (lo+n-(q+1)) (lo+n)
     pure (.yield (none,n+1,0))
    else pure (.yield (none,n+1,0))
   else do
    let r ←ltAt' (lo+n-1) (lo+n)
    match r with
    |some z=>if z then pure (.done (none,n,q))else pure (.yield (none,n+1,q+1))
    |_=>pure (.done (some none,n,q))
  |_=>pure (.done (some none,n,q))
noncomputable def dpG(lo n nrem:Nat):StateT qaI Sem (Option Nat):=do
 liftM (rule "list.sort.descending-run")
 let c ←Gv lo (n+1) nrem
 match c.1 with
 |some r=>pure r
 |none =>
  if c.2.2>0 then do
   reverseSlice' (lo+c.2.1-(c.2.2+1)) (lo+c.2.1)
   IZ lo c.2.1 nrem
  else IZ lo c.2.1 nrem
theorem Lp(lo nrem:Nat):countRun' lo nrem=(do
 let c ←Ek lo 1 nrem
 match c.1 with
 |some r=>pure r
 |none =>
  if c.2==nrem then pure (some c.2)
  else if c.2>1 then do
   let r ←ltAt' lo (lo+c.2-1)
   match r with
   |some z=>if z then pure (some c.2)else do
     reverseSlice' lo (lo+c.2)
     dpG lo c.2 nrem
   |_=>pure none
  else dpG lo c.2 nrem):=by
 have e0:countRun' lo nrem=(do
  let mut n:=1
  for _ in [1:nrem] do
   let some z ←ltAt' (lo+n) (lo+n-1)|return none
   if z then break
   n:=n+1
  if n==nrem then return some n
  if n>1 then
   let some z ←ltAt' lo (lo+n-1)|return none
   if z then return some n
   reverseSlice' lo (lo+n)
  liftM (rule "list.sort.descending-run")
  n:=n+1
  let mut q:=0
  for _ in [n:nrem] do
   let some z ←ltAt' (lo+n) (lo+n-1)|return none
   if z then
    if q>0 then reverseSlice' (lo+n-(q+1)) (lo+n)
    q:=0
   else
    let some z ←ltAt' (lo+n-1) (lo+n)|return none
    if z then break
    q:=q+1
   n:=n+1
  if q>0 then reverseSlice' (lo+n-(q+1)) (lo+n)
  reverseSlice' lo (lo+n)
  for _ in [n:nrem] do
   let some z ←ltAt' (lo+n) (lo+n-1)|return none
   if z then break
   n:=n+1
  return some n):=rfl
 rw[e0];refine congrArg (λf=>Ek lo 1 nrem >>= f) ?_;funext c;obtain⟨r,n⟩:=c
 cases r with
 |some r=>rfl
 |none =>
  dsimp only;split
  ·rfl
  ·split
   ·refine congrArg (λf=>ltAt' lo (lo+n-1) >>= f) ?_;funext x
    cases x with
    |none=>rfl
    |some z =>
     dsimp only;split
     ·rfl
     ·refine congrArg (λf=>reverseSlice' lo (lo+n) >>= f) ?_;funext _;refine congrArg (λf=>(liftM (rule "list.sort.descending-run"):StateT qaI Sem Unit) >>= f) ?_;funext _;refine congrArg (λf=>Gv lo (n+1) nrem >>= f) ?_;funext c;obtain⟨r,n,q⟩:=c
      cases r with
      |some r=>rfl
      |none =>
       dsimp only;split
       ·refine congrArg (λf=>reverseSlice' (lo+n-(q+1)) (lo+n) >>= f) ?_;funext _;refine congrArg (λf=>reverseSlice' lo (lo+n) >>= f) ?_;funext _;refine congrArg (λf=>Ek lo n nrem >>= f) ?_;funext c;obtain⟨r,n⟩:=c;cases r<;>rfl
       ·refine congrArg (λf=>reverseSlice' lo (lo+n) >>= f) ?_;funext _;refine congrArg (λf=>Ek lo n nrem >>= f) ?_;funext c;obtain⟨r,n⟩:=c;cases r<;>rfl
   ·refine congrArg (λf=>(liftM (rule "list.sort.descending-run"):StateT qaI Sem Unit) >>= f) ?_;funext _;refine congrArg (λf=>Gv lo (n+1) nrem >>= f) ?_;funext c;obtain⟨r,n,q⟩:=c
    cases r with
    |some r=>rfl
    |none =>
     dsimp only;split
     ·refine congrArg (λf=>reverseSlice' (lo+n-(q+1)) (lo+n) >>= f) ?_;funext _;refine congrArg (λf=>reverseSlice' lo (lo+n) >>= f) ?_;funext _;refine congrArg (λf=>Ek lo n nrem >>= f) ?_;funext c;obtain⟨r,n⟩:=c;cases r<;>rfl
     ·refine congrArg (λf=>reverseSlice' lo (lo+n) >>= f) ?_;funext _;refine congrArg (λf=>Ek lo n nrem >>= f) ?_;funext c;obtain⟨r,n⟩:=c;cases r<;>rfl
end TS
set_option Elab.async false
set_option linter.all false
set_option maxRecDepth 100000
namespace TS
open PySem PyProof.Rows
def SR(R:qag->qag->Bool)(c:Array qag)(lo n:Nat):Prop:=∀i j x y,lo<=i->i<j->j<lo+n->c[i]? =some x->c[j]? =some y->Le R x y
def DR(R:qag->qag->Bool)(c:Array qag)(lo n:Nat):Prop:=∀i j x y,lo<=i->i<j->j<lo+n->c[i]? =some x->c[j]? =some y->Le R y x
structure Ph(κ:qcQ)(c0:Array qag)(pd:Array (Nat×Nat×Nat))(st:qaI):Prop where
 k:kindOf st=κ
 f:failedOf st=none
 p:pendingOf st=pd
 pm:(arrOf st).Perm c0
structure Un(Ok:qag->Prop)(R:qag->qag->Bool)(c0:Array qag):Prop where
 ok:∀x∈c0.toList,Ok x
 nd:c0.toList.Nodup
 tot:∀x y,Ok x->Ok y->x≠y->R x y=false->R y x=true
section
variable{prog:A_}{w:U_}{A:qah}{E:i_->l_->Prop}{s:l_}{κ:qcQ}{Ok:qag->Prop}{R:qag->qag->Bool}{st:qaI}{c0:Array qag}{pd:Array (Nat×Nat×Nat)}{lo:Nat}
theorem Ph.size(P:Ph κ c0 pd st):(arrOf st).size=c0.size:=P.pm.size_eq
theorem Ph.setArr(P:Ph κ c0 pd st){xs:Array qag}(hp:xs.Perm (arrOf st)):Ph κ c0 pd (setArr st xs):=⟨P.k,P.f,P.p,hp.trans P.pm⟩
theorem Ph.lp(P:Ph κ c0 pd st):(arrOf st).toList.Perm c0.toList:=Array.perm_iff_toList_perm.mp P.pm
theorem Ph.QI(P:Ph κ c0 pd st)(U:Un Ok R c0):∀x∈(arrOf st).toList,Ok x:=λx hx=>U.ok x (P.lp.mem_iff.mp hx)
theorem Ph.at(P:Ph κ c0 pd st)(U:Un Ok R c0){i:Nat}(hi:i<c0.size):∃x,(arrOf st)[i]? =some x/\Ok x:=by
 obtain⟨x,e,_,hx⟩:=Qm (a:=arrOf st) (i:=i) (by rw[P.size];exact hi);exact⟨x,e,P.QI U x hx⟩
theorem Ph.ne(P:Ph κ c0 pd st)(U:Un Ok R c0){i j:Nat}{x y:qag}(hij:i≠j)(hx:(arrOf st)[i]? =some x)(hy:(arrOf st)[j]? =some y):x≠y:=λz=>by
 subst z;rw[←V_]at hx hy;exact hij ((qbd (p_.mp hx).1 (P.lp.nodup_iff.mpr U.nd)).mp (hx.trans hy.symm))
theorem qA{Q:Option Bool->qaI->Prop}{i j:Nat}{x y:qag}(C:OA prog w A s κ Ok R)(hk:kindOf st=κ)(hi:(arrOf st)[i]? =some x)(hj:(arrOf st)[j]? =some y)(ox:Ok x)(oy:Ok y)(h:Q (some (R x y)) st):wpS (model prog w) A E s (ltAt' i j) Q st:=by
 rw[ltAt'_eq];refine qaP (wpS_get ?_)
 show wpS _ _ _ _ (do let x ←elem' (arrOf st) i;let y ←elem' (arrOf st) j;lt' x y) Q st
 exact qaP (E3 hi (qaP (E3 hj (OD C hk ox oy h))))
theorem SR.one{c:Array qag}:SR R c lo 1:=λi j x y h1 h2 h3=>by omega
theorem SR.grow{c:Array qag}{n:Nat}{x y:qag}(C:OA prog w A s κ Ok R)(oc:∀x∈c.toList,Ok x)(h:SR R c lo n)(h1:1<=n)(hx:c[lo+n]? =some x)(hy:c[lo+n-1]? =some y)(l:Le R y x):SR R c lo (n+1):=by
 intro i j u v hi hij hj hu hv;by_cases z:j<lo+n
 ·exact h i j u v hi hij z hu hv
 ·have ej:j=lo+n:=by omega
  subst ej;rw[hx]at hv;cases hv;by_cases z2:i=lo+n-1
  ·subst z2;rw[hy]at hu;cases hu;exact l
  ·exact C.tr u y x (uf oc hu) (uf oc hy) (uf oc hx) (h i (lo+n-1) u y hi (by omega) (by omega) hu hy) l
theorem DR.grow{c:Array qag}{n:Nat}{x y:qag}(C:OA prog w A s κ Ok R)(oc:∀x∈c.toList,Ok x)(h:DR R c lo n)(h1:1<=n)(hx:c[lo+n]? =some x)(hy:c[lo+n-1]? =some y)(l:Le R x y):DR R c lo (n+1):=by
 intro i j u v hi hij hj hu hv;by_cases z:j<lo+n
 ·exact h i j u v hi hij z hu hv
 ·have ej:j=lo+n:=by omega
  subst ej;rw[hx]at hv;cases hv;by_cases z2:i=lo+n-1
  ·subst z2;rw[hy]at hu;cases hu;exact l
  ·exact C.tr x y u (uf oc hx) (uf oc hy) (uf oc hu) l (h i (lo+n-1) u y hi (by omega) (by omega) hu hy)
theorem E4{Q:C1->qaI->Prop}{a nrem:Nat}(C:OA prog w A s κ Ok R)(U:Un Ok R c0)(P:Ph κ c0 pd st)(ha:1<=a)(han:a<=nrem)(hz:lo+nrem<=c0.size)(hs:SR R (arrOf st) lo a)
  (h:∀n,a<=n->n<=nrem->SR R (arrOf st) lo n->(n=nrem\/∃x y,(arrOf st)[lo+n]? =some x/\(arrOf st)[lo+n-1]? =some y/\R x y=true)->Q (none,n) st):wpS (model prog w) A E s (Ek lo a nrem) Q st:=by
 unfold Ek;refine qcR (I:=λx c st'=>st'=st/\c=(none,x)/\SR R (arrOf st) lo x) ?step ?fin ⟨Y,Y,hs⟩
 case fin =>
  rintro c st' ⟨rfl,rfl,hs'⟩;rw[show max a nrem=nrem by omega]at hs' ⊢;exact h nrem han (k_ _) hs' (.inl Y)
 case step =>
  rintro n c st' hax hxn ⟨rfl,rfl,hs'⟩;dsimp only;obtain⟨x,ex,ox⟩:=P.at U (i:=lo+n) (by omega);obtain⟨y,ey,oy⟩:=P.at U (i:=lo+n-1) (by omega);refine qaP (qA C P.k ex ey ox oy ?_)
  cases hr:R x y with
  |true =>
   simp only[if_true];exact qbc (h n hax (by omega) hs' (.inr ⟨x,y,ex,ey,hr⟩))
  |false =>
   simp only[qap,if_false];exact qbc ⟨Y,Y,hs'.grow C (P.QI U) (by omega) ex ey hr⟩
theorem Kf{Q:C2->qaI->Prop}{n nrem:Nat}(C:OA prog w A s κ Ok R)(U:Un Ok R c0)(P:Ph κ c0 pd st)(ha:1<=n)(han:n<=nrem)(hz:lo+nrem<=c0.size)(hs:DR R (arrOf st) lo n)
  (h:∀m,n<=m->m<=nrem->DR R (arrOf st) lo m->Q (none,m,0) st):wpS (model prog w) A E s (Gv lo n nrem) Q st:=by
 unfold Gv;refine qcR (I:=λx c st'=>st'=st/\c=(none,x,0)/\DR R (arrOf st) lo x) ?step ?fin ⟨Y,Y,hs⟩
 case fin =>
  rintro c st' ⟨rfl,rfl,hs'⟩;rw[show max n nrem=nrem by omega]at hs' ⊢;exact h nrem han (k_ _) hs'
 case step =>
  rintro m c st' hax hxn ⟨rfl,rfl,hs'⟩;dsimp only;obtain⟨x,ex,ox⟩:=P.at U (i:=lo+m) (by omega);obtain⟨y,ey,oy⟩:=P.at U (i:=lo+m-1) (by omega);refine qaP (qA C P.k ex ey ox oy ?_)
  cases hr:R x y with
  |true =>
   simp only[if_true];rw[if_neg (by omega)];exact qbc ⟨Y,Y,hs'.grow C (P.QI U) (by omega) ex ey (C.as x y ox oy hr)⟩
  |false =>
   simp only[qap,if_false];refine qaP (qA C P.k ey ex oy ox ?_);rw[U.tot x y ox oy (P.ne U (by omega) ex ey) hr];simp only[if_true];exact qbc (h m hax (by omega) hs')
theorem OC{Q:Unit->qaI->Prop}{n:Nat}(U:Un Ok R c0)(P:Ph κ c0 pd st)(hz:lo+n<=c0.size)(hd:DR R (arrOf st) lo n)
  (h:∀st',Ph κ c0 pd st'->(∀i,i<lo\/lo+n<=i->(arrOf st')[i]? =(arrOf st)[i]?)->SR R (arrOf st') lo n->Q () st'):wpS (model prog w) A E s (reverseSlice' lo (lo+n)) Q st:=by
 rw[reverseSlice'_eq];refine wpS_modify ?_
 have hm:∀k,(mirror (arrOf st) lo (lo+n) ((lo+n-lo) / 2))[k]? =if lo<=k/\k<lo+n then(arrOf st)[lo+(lo+n)-1-k]? else(arrOf st)[k]? :=λk=>getElem?_mirror_all (by rw[P.size];exact hz) k
 refine h _ (P.setArr (mirror_perm _ _ _ _)) (λi hi=>?_) λi j x y hi hij hj hx hy=>?_
 ·show(mirror (arrOf st) lo (lo+n) ((lo+n-lo) / 2))[i]? =_;rw[hm,if_neg (by omega)]
 ·have hx':(mirror (arrOf st) lo (lo+n) ((lo+n-lo) / 2))[i]? =some x:=hx;have hy':(mirror (arrOf st) lo (lo+n) ((lo+n-lo) / 2))[j]? =some y:=hy;rw[hm,if_pos (by omega)]at hx' hy';exact hd _ _ y x (by omega) (by omega) (by omega) hy' hx'
theorem Kd{Q:Option Nat->qaI->Prop}{n nrem:Nat}(C:OA prog w A s κ Ok R)(U:Un Ok R c0)(P:Ph κ c0 pd st)(h1:1<=n)(hn:n<=nrem)(hz:lo+nrem<=c0.size)(hd:DR R (arrOf st) lo n)
  (h:∀m st',Ph κ c0 pd st'->1<=m->m<=nrem->(∀i,i<lo\/lo+nrem<=i->(arrOf st')[i]? =(arrOf st)[i]?)->SR R (arrOf st') lo m->Q (some m) st'):wpS (model prog w) A E s (IZ lo n nrem) Q st:=by
 unfold IZ;refine qaP (OC U P (by omega) hd λst' P' out hs=>?_);refine qaP (E4 C U P' h1 hn hz hs λm hm1 hm2 hs' _=>?_);exact qbc (h m st' P' (by omega) hm2 (λi hi=>out i (by omega)) hs')
theorem Kg{Q:Option Nat->qaI->Prop}{nrem:Nat}(C:OA prog w A s κ Ok R)(U:Un Ok R c0)(P:Ph κ c0 pd st)(h1:1<=nrem)(hz:lo+nrem<=c0.size)
  (h:∀m st',Ph κ c0 pd st'->1<=m->m<=nrem->(∀i,i<lo\/lo+nrem<=i->(arrOf st')[i]? =(arrOf st)[i]?)->SR R (arrOf st') lo m->Q (some m) st'):wpS (model prog w) A E s (countRun' lo nrem) Q st:=by
 rw[Lp];refine qaP (E4 C U P (k_ 1) h1 hz SR.one λn hn1 hn2 hs ho=>?_);dsimp only;by_cases z:n=nrem
 ·rw[if_pos (by simpa using z)];exact qbc (h n st P hn1 hn2 (λ_ _=>rfl) hs)
 rw[if_neg (by simpa using z)];by_cases z1:n>1
 ·rw[if_pos z1];obtain⟨x,ex,ox⟩:=P.at U (i:=lo) (by omega);obtain⟨y,ey,oy⟩:=P.at U (i:=lo+n-1) (by omega);refine qaP (qA C P.k ex ey ox oy ?_);have l:Le R x y:=hs lo (lo+n-1) x y (k_ _) (by omega) (by omega) ex ey;have t:R x y=true:=U.tot y x oy ox (P.ne U (by omega) ey ex) l;rw[t];simp only[if_true];exact qbc (h n st P hn1 hn2 (λ_ _=>rfl) hs)
 ·rw[if_neg z1];have e1:n=1:=by omega
  subst e1;obtain⟨x,y,ex,ey,hr⟩:=ho.resolve_left z;unfold dpG;refine qaP (wpS_lift (wpAny_rule ⟨Y,?_⟩));have d1:DR R (arrOf st) lo 1:=λi j x y h1 h2 h3=>by omega
  refine qaP (Kf C U P (by omega) (by omega) hz (d1.grow C (P.QI U) (k_ 1) ex ey (C.as x y (uf (P.QI U) ex) (uf (P.QI U) ey) hr)) λm hm1 hm2 hd=>?_);dsimp only;rw[if_neg (by omega)];exact Kd C U P (by omega) hm2 hz hd h
theorem Vl(lo n ok:Nat):binarySort' lo n ok=(do
 for k in [max ok 1:n] do
  let mut a:=0
  let mut b:=k
  for _ in [0:k] do
   if a>=b then break
   let some z ←ltAt' (lo+k) (lo+(a+b) / 2)|return false
   if z then b:=(a+b) / 2 else a:=(a+b) / 2+1
  moveDown' (lo+k) (lo+a)
 return true):=rfl
theorem OF{Q:Bool->qaI->Prop}{n ok:Nat}(C:OA prog w A s κ Ok R)(U:Un Ok R c0)(P:Ph κ c0 pd st)(hok:ok<=n)(hz:lo+n<=c0.size)(hs:SR R (arrOf st) lo ok)
  (h:∀st',Ph κ c0 pd st'->(∀i,i<lo\/lo+n<=i->(arrOf st')[i]? =(arrOf st)[i]?)->SR R (arrOf st') lo n->Q true st'):wpS (model prog w) A E s (binarySort' lo n ok) Q st:=by
 rw[Vl];refine qaP (wpS_mono (qcR (I:=λk c st'=>c=(none,())/\Ph κ c0 pd st'/\(∀i,i<lo\/lo+n<=i->(arrOf st')[i]? =(arrOf st)[i]?)/\SR R (arrOf st') lo (min k n))
  (Q:=λc st'=>c=(none,())/\Ph κ c0 pd st'/\(∀i,i<lo\/lo+n<=i->(arrOf st')[i]? =(arrOf st)[i]?)/\SR R (arrOf st') lo n) ?step ?fin ?init) ?post)
 case post =>
  rintro c st' ⟨rfl,P',out,hs'⟩;exact qbc (h st' P' out hs')
 case init =>
  refine⟨Y,P,λ_ _=>rfl,λi j x y hi hij hj hx hy=>?_⟩;by_cases h1:ok=0
  ·omega
  ·exact hs i j x y hi hij (by omega) hx hy
 case fin =>
  rintro c st' ⟨hc,P',out,hs'⟩;refine⟨hc,P',out,?_⟩
  rwa [show min (max (max ok 1) n) n=n by omega]at hs'
 case step =>
  rintro k c st' hak hkn ⟨rfl,P',out,hs'⟩;rw[show min k n=k by omega]at hs';obtain⟨v,ev,ov⟩:=P'.at U (i:=lo+k) (by omega);refine qaP (wpS_mono (qcR (I:=λx c st''=>st''=st'/\∃l r,c=(none,l,r)/\l<=r/\r<=k/\r-l<=k-x ∧
    (∀i u,lo<=i->i<lo+l->(arrOf st')[i]? =some u->Le R u v)/\(∀i u,lo+r<=i->i<lo+k->(arrOf st')[i]? =some u->Le R v u))
   (Q:=λc st''=>st''=st'/\∃l r,c=(none,l,r)/\l<=k ∧
    (∀i u,lo<=i->i<lo+l->(arrOf st')[i]? =some u->Le R u v)/\(∀i u,lo+l<=i->i<lo+k->(arrOf st')[i]? =some u->Le R v u)) ?istep ?ifin ?iinit) ?ipost)
  case iinit=>exact⟨Y,0,k,Y,by omega,by omega,by omega,λi u h1 h2=>by omega,λi u h1 h2=>by omega⟩
  case ifin =>
   rintro c st'' ⟨rfl,l,r,rfl,hlr,hrk,hm,hlo,hhi⟩;have:l=r:=by omega
   subst this;exact⟨Y,l,l,Y,hrk,hlo,hhi⟩
  case istep =>
   rintro x c st'' _ hxk ⟨rfl,l,r,rfl,hlr,hrk,hm,hlo,hhi⟩;dsimp only;by_cases hge:l>=r
   ·rw[if_pos hge];have:l=r:=by omega
    subst this;exact qbc ⟨Y,l,l,Y,hrk,hlo,hhi⟩
   ·rw[if_neg hge];obtain⟨m,em,om⟩:=P'.at U (i:=lo+(l+r) / 2) (by omega);refine qaP (qA C P'.k ev em ov om ?_)
    cases hless:R v m with
    |true =>
     simp only[if_true];refine qbc ⟨Y,l,(l+r) / 2,Y,by omega,by omega,by omega,hlo,λi u h1 h2 hu=>?_⟩;have l1:Le R v m:=C.as v m ov om hless;by_cases z:i=lo+(l+r) / 2
     ·subst z;rw[em]at hu;cases hu;exact l1
     ·exact C.tr v m u ov om (uf (P'.QI U) hu) l1 (hs' _ _ m u (by omega) (by omega) h2 em hu)
    |false =>
     simp only[qap,if_false];refine qbc ⟨Y,(l+r) / 2+1,r,Y,by omega,by omega,by omega,λi u h1 h2 hu=>?_,hhi⟩;by_cases z:i=lo+(l+r) / 2
     ·subst z;rw[em]at hu;cases hu;exact hless
     ·exact C.tr u m v (uf (P'.QI U) hu) om ov (hs' _ _ u m h1 (by omega) (by omega) hu em) hless
  case ipost =>
   rintro c st'' ⟨rfl,l,r,rfl,hlk,hlo,hhi⟩;show wpS _ _ _ _ (do moveDown' (lo+k) (lo+l);pure (qcA (none,()))) _ _;rw[moveDown'_eq];have hks:lo+k<(arrOf st'').size:=by rw[P'.size];omega
   have hb:∀i,(bubble (arrOf st'') (lo+k) (lo+k-(lo+l)))[i]? =if i=lo+l then(arrOf st'')[lo+k]? else if lo+l<i/\i<=lo+k then(arrOf st'')[i-1]? else(arrOf st'')[i]? :=λi=>by
    have:=getElem?_bubble hks (lo+k-(lo+l)) (by omega) i;rw[show lo+k-(lo+k-(lo+l))=lo+l by omega]at this;exact this
   refine qaP (wpS_modify (qbc ⟨Y,P'.setArr (bubble_perm _ _ _),λi hi=>?_,?_⟩))
   ·show(bubble (arrOf st'') (lo+k) (lo+k-(lo+l)))[i]? =_;rw[hb,if_neg (by omega),if_neg (by omega)];exact out i hi
   ·rw[show min (k+1) n=k+1 by omega];intro i j x y hi hij hj hx hy;have hx':(bubble (arrOf st'') (lo+k) (lo+k-(lo+l)))[i]? =some x:=hx;have hy':(bubble (arrOf st'') (lo+k) (lo+k-(lo+l)))[j]? =some y:=hy;rw[hb]at hx' hy';by_cases zi:i=lo+l
    ·rw[if_pos zi,ev]at hx';cases hx';rw[if_neg (by omega),if_pos (by omega)]at hy';exact hhi (j-1) y (by omega) (by omega) hy'
    ·rw[if_neg zi]at hx';by_cases zj:j=lo+l
     ·rw[if_pos zj,ev]at hy';cases hy';rw[if_neg (by omega)]at hx';exact hlo i x hi (by omega) hx'
     ·rw[if_neg zj]at hy';by_cases zi2:lo+l<i/\i<=lo+k
      ·rw[if_pos zi2]at hx';rw[if_pos (by omega)]at hy';exact hs' (i-1) (j-1) x y (by omega) (by omega) (by omega) hx' hy'
      ·rw[if_neg zi2]at hx';by_cases zj2:lo+l<j/\j<=lo+k
       ·rw[if_pos zj2]at hy';by_cases q:i=j-1
        ·omega
        ·exact hs' i (j-1) x y hi (by omega) (by omega) hx' hy'
       ·rw[if_neg zj2]at hy';exact hs' i j x y hi hij (by omega) hx' hy'
end
end TS
set_option Elab.async false
set_option linter.all false
set_option maxRecDepth 100000
namespace TS
open PySem PyProof.Rows
noncomputable abbrev U1:=Option Unit×Unit
noncomputable abbrev U2:=Option Unit×Nat
noncomputable def mgG(pw size:Nat):StateT qaI Sem U1 :=
 forIn [0:size] ((none,()):U1) λ_ _=>do
  let u ←get
  match (if(pendingOf u).size>1 then(pendingOf u)[(pendingOf u).size-2]? else none)with
  |some (_,_,od) =>
   if od<=pw then pure (.done (none,()))
   else do
    let z ←mergeAt' ((pendingOf u).size-2)
    if !z then pure (.done (some (),()))else pure (.yield (none,()))
  |_=>pure (.done (none,()))
noncomputable def Lu(size lo n:Nat):StateT qaI Sem (ForInStep U2):=do
 let u ←get
 match (pendingOf u).back? with
 |some (l1,n1,_)=>do
  let c ←mgG (power' size (2*l1+n1) (2*l1+n1+n1+n) size) size
  match c.1 with
  |some r=>pure (.done (some r,lo))
  |none=>do
   modify λs=>setPending s ((pendingOf s).modify ((pendingOf s).size-1) λx=>(x.1,x.2.1,power' size (2*l1+n1) (2*l1+n1+n1+n) size))
   modify λs=>setPending s ((pendingOf s).push (lo,n,0))
   pure (.yield (none,lo+n))
 |_=>do
  modify λs=>setPending s ((pendingOf s).push (lo,n,0))
  pure (.yield (none,lo+n))
noncomputable def OT(size lo:Nat):StateT qaI Sem (ForInStep U2) :=
 if lo>=size then pure (.done (none,lo))
 else do
  let r ←countRun' lo (size-lo)
  match r with
  |some n =>
   if n<minRun' size size 0 then do
    liftM (rule "list.sort.binary-insertion")
    let z ←binarySort' lo (min (size-lo) (minRun' size size 0)) n
    if !z then pure (.done (some (),lo))else Lu size lo (min (size-lo) (minRun' size size 0))
   else Lu size lo n
  |_=>pure (.done (some (),lo))
noncomputable def WH(p:Array (Nat×Nat×Nat)):Nat :=
 if Option.any (λx=>decide (x<p[p.size-2+1]?.elim 0 λx=>x.2.1)) (if p.size-2>0 then Option.map (λx=>x.2.1) p[p.size-2-1]? else none)=true then p.size-2-1 else p.size-2
noncomputable def Ye(size:Nat):StateT qaI Sem U1 :=
 forIn [0:size] ((none,()):U1) λ_ _=>do
  let u ←get
  if(pendingOf u).size<=1 then pure (.done (none,()))
  else do
   let z ←mergeAt' (WH (pendingOf u))
   if !z then pure (.done (some (),()))else pure (.yield (none,()))
theorem Mz:sortRuns'=(do
 let u ←get
 let c ←(forIn [0:(arrOf u).size] ((none,0):U2) λ_ c=>OT (arrOf u).size c.2)
 match c.1 with
 |some r=>pure r
 |none=>do
  let d ←Ye (arrOf u).size
  match d.1 with
  |some r=>pure r
  |none=>pure ()):=by
 rw[sortRuns'_eq];refine congrArg (λf=>(get:StateT qaI Sem qaI) >>= f) ?_;funext u;dsimp only;refine congrArg (λm=>m >>= _) ?_ |>.trans (congrArg (λf=>_ >>= f) ?_)
 ·congr 1;funext x c;obtain⟨c0,lo⟩:=c;dsimp only;unfold OT;split
  ·rfl
  ·refine congrArg (λf=>countRun' lo ((arrOf u).size-lo) >>= f) ?_;funext r
   cases r with
   |none=>rfl
   |some n =>
    dsimp only;split
    ·refine congrArg (λf=>(liftM (rule "list.sort.binary-insertion"):StateT qaI Sem Unit) >>= f) ?_;funext _;refine congrArg (λf=>binarySort' lo (min ((arrOf u).size-lo) (minRun' (arrOf u).size (arrOf u).size 0)) n >>= f) ?_;funext z
     cases z with
     |false=>rfl
     |true =>
      simp only[qc0,qap,if_false];unfold Lu;refine congrArg (λf=>(get:StateT qaI Sem qaI) >>= f) ?_;funext v
      cases hb:(pendingOf v).back? with
      |none=>rfl
      |some p =>
       obtain⟨l1,n1,e1⟩:=p;dsimp only;refine congrArg (λm=>m >>= _) ?_ |>.trans (congrArg (λf=>_ >>= f) ?_)
       ·unfold mgG;congr 1
       ·funext c;obtain⟨r,q⟩:=c;cases r<;>rfl
    ·unfold Lu;refine congrArg (λf=>(get:StateT qaI Sem qaI) >>= f) ?_;funext v
     cases hb:(pendingOf v).back? with
     |none=>rfl
     |some p =>
      obtain⟨l1,n1,e1⟩:=p;dsimp only;refine congrArg (λm=>m >>= _) ?_ |>.trans (congrArg (λf=>_ >>= f) ?_)
      ·unfold mgG;congr 1
      ·funext c;obtain⟨r,q⟩:=c;cases r<;>rfl
 ·funext c;obtain⟨r,lo⟩:=c
  cases r with
  |some r=>rfl
  |none =>
   dsimp only;refine congrArg (λm=>m >>= _) ?_ |>.trans (congrArg (λf=>_ >>= f) ?_)
   ·rfl
   ·funext d;obtain⟨r,q⟩:=d;cases r<;>rfl
section
variable{prog:A_}{w:U_}{A:qah}{E:i_->l_->Prop}{s:l_}{κ:qcQ}{Ok:qag->Prop}{R:qag->qag->Bool}{st:qaI}{c0:Array qag}{hi:Nat}
end
end TS
set_option Elab.async false
set_option linter.all false
set_option maxRecDepth 100000
namespace TS
open PySem PyProof.Rows PySem.W
noncomputable abbrev T3:=Int×Int×Int
section
variable{prog:A_}{w:U_}{A:qah}{E:i_->l_->Prop}{s:l_}
end
end TS
set_option Elab.async false
set_option linter.all false
set_option maxRecDepth 100000
namespace TS
open PySem PyProof.Rows PySem.W
theorem vh(vs:List i_):(vs.toArray.zip vs.toArray).toList=vs.map λv=>(v,v):=by
 rw[Array.toList_zip]
 induction vs with
 |nil=>rfl
 |cons v vs ih=>simpa using ih
section
variable{prog:A_}{w:U_}{A:qah}{E:i_->l_->Prop}{s:l_}
end
end TS
set_option Elab.async false
set_option linter.all false
set_option maxRecDepth 100000
namespace TS
open PySem PyProof.Rows PySem.W
section
variable{prog:A_}{w:U_}{A:qah}{E:i_->l_->Prop}{s:l_}{κ:qcQ}{Ok:qag->Prop}{R:qag->qag->Bool}{st:qaI}{c0:Array qag}
theorem Ke{Q:Unit->qaI->Prop}(C:OA prog w A s κ Ok R)(U:Un Ok R c0)(P:Ph κ c0 #[] st)(ha:arrOf st=c0)(h2:1<=c0.size)(h64:c0.size<64)
  (h:∀st',(arrOf st').Perm c0->failedOf st'=none->(arrOf st').toList.Pairwise (Le R)->Q () st'):wpS (model prog w) A E s sortRuns' Q st:=by
 rw[Mz];refine qaP (wpS_get ?_);rw[ha];have hmr:minRun' c0.size c0.size 0=c0.size:=by
  obtain⟨f,hf⟩:∃f,c0.size=f+1:=⟨c0.size-1,by omega⟩;have:minRun' (f+1) c0.size 0=c0.size:=by rw[minRun'_succ,if_pos h64];rfl
  rwa [←hf]at this
 have add:∀{st2:qaI} {Q':ForInStep U2->qaI->Prop},Ph κ c0 #[] st2->Q' (.yield (none,0+c0.size)) (setPending st2 ((pendingOf st2).push (0,c0.size,0)))->wpS (model prog w) A E s (Lu c0.size 0 c0.size) Q' st2:=λ{st2 Q'} P2 q=>by
  unfold Lu;refine qaP (wpS_get ?_);have hb:(pendingOf st2).back?=none:=by rw[P2.p];rfl
  rw[hb];exact qaP (wpS_modify (qbc q))
 refine qaP (wpS_mono (qcR (I:=λx c st'=>(x=0/\c=(none,0)/\Ph κ c0 #[] st')\/(1<=x/\c=(none,c0.size)/\(pendingOf st').size<=1/\failedOf st'=none/\(arrOf st').Perm c0/\SR R (arrOf st') 0 c0.size))
  (Q:=λc st'=>c=(none,c0.size)/\(pendingOf st').size<=1/\failedOf st'=none/\(arrOf st').Perm c0/\SR R (arrOf st') 0 c0.size) ?step ?fin (.inl ⟨rfl,rfl,P⟩)) ?post)
 case fin =>
  rintro c st' (⟨hx,_,_⟩|⟨_,r⟩)
  ·omega
  ·exact r
 case step =>
  rintro x c st' _ hx (⟨rfl,rfl,P'⟩|⟨Zj,rfl,r⟩)
  ·dsimp only;unfold OT;rw[if_neg (by omega),hmr,Nat.sub_zero,Nat.min_self];refine qaP (Kg C U P' (by omega) (by omega) λm st1 P1 hm1 hm2 afG s1=>?_);dsimp only;have yes:∀{st2:qaI},Ph κ c0 #[] st2->SR R (arrOf st2) 0 c0.size->(0+1=0/\((none,0+c0.size):U2)=(none,0)/\Ph κ c0 #[] (setPending st2 ((pendingOf st2).push (0,c0.size,0)))) ∨
     (1<=0+1/\((none,0+c0.size):U2)=(none,c0.size)/\(pendingOf (setPending st2 ((pendingOf st2).push (0,c0.size,0)))).size<=1/\failedOf st2=none/\(arrOf st2).Perm c0/\SR R (arrOf st2) 0 c0.size):=λ{st2} P2 hs =>
    .inr ⟨k_ 1,by rw[qco],by show((pendingOf st2).push _).size<=1;rw[P2.p];exact k_ 1,P2.f,P2.pm,hs⟩
   by_cases z:m<c0.size
   ·rw[if_pos z];refine qaP (wpS_lift (wpAny_rule ⟨Y,?_⟩));refine qaP (OF C U P1 hm2 (by omega) s1 λst2 P2 afF s2=>?_);simp only[qc0,qap,if_false];exact add P2 (yes P2 s2)
   ·rw[if_neg z];have e:m=c0.size:=by omega
    subst e;exact add P1 (yes P1 s1)
  ·dsimp only;unfold OT;rw[if_pos (k_ _)];exact qbc ⟨Y,r⟩
 case post =>
  rintro c st' ⟨rfl,b,f,pm,hs⟩;dsimp only;unfold Ye;refine qaP (wpS_mono (qcR (I:=λ_ c st''=>c=(none,())/\st''=st') (Q:=λc st''=>c=(none,())/\st''=st') ?step2 ?fin2 ⟨Y,Y⟩) ?post2)
  case fin2=>exact λc st'' q=>q
  case step2 =>
   rintro x c st'' _ hx ⟨rfl,rfl⟩;refine qaP (wpS_get ?_);rw[if_pos b];exact qbc ⟨Y,Y⟩
  case post2 =>
   rintro c st'' ⟨rfl,rfl⟩;refine qbc (h _ pm f ?_);rw[List.pairwise_iff_getElem];intro i j hi hj hij;rw[s_,pm.size_eq]at hi hj;exact hs i j _ _ (T_ _) hij (by omega) (by rw[←V_];exact e_ _) (by rw[←V_];exact e_ _)
def IV(h:qab)(v:i_)(i:Int):Prop:=∃a o n t x u,v= .ref a/\h.get? a=some o/\o.cls= .type "tuple" /\o.data= .seq #[.int i t,.str x u] n
theorem IV.keep {h h':qab}{v:i_}{i:Int}(k:∀b o,o.cls= .type "tuple" ->h.get? b=some o->h'.get? b=some o)(z:IV h v i):IV h' v i:=by
 obtain⟨a,o,n,t,x,u,rfl,e1,e2,e3⟩:=z;exact⟨a,o,n,t,x,u,Y,k a o e2 e1,e2,e3⟩
theorem UC{v u:i_}{i j:Int}{Q:Bool->l_->Prop}(hv:IV s.heap v i)(hu:IV s.heap u j)(e:i=j->v=u)(h:Q (decide (i<j)) s):D_ (model prog w) A (keyLt' (tuples' true) v u) Q E s:=by
 obtain⟨a,o,n,t1,x,t2,rfl,e1,e2,e3⟩:=hv;obtain⟨a',o',n',u1,y,u2,rfl,f1,f2,f3⟩:=hu;refine kat_lt e1 e3 f1 f3 ?_;show KatLex prog w A true _ Q [(.int i t1,.int j u1),(.str x t2,.str y u2)] 0 s;refine kat_cons (SeqAt.EqAt.int_int (A:=A) (s:=s) i t1 j u1 prog w _ _ ?_);by_cases z:i=j
 ·cases e z;rw[e1]at f1;cases f1;rw[e3]at f3;injection f3 with f4 _;simp at f4;obtain⟨_,rfl,rfl⟩:=f4;rw[show(i==j)=true by simpa using z];refine kat_yes (kat_cons (SeqAt.EqAt.str_str (A:=A) (s:=s) x t2 x t2 prog w _ _ ?_));rw[show(x==x)=true by simp];refine kat_yes (kat_nil ?_);rw[z]at h;simpa using h
 ·rw[show(i==j)=false by simpa using z];exact kat_no (oneLt_int h)
end
theorem xO{h:qab}{f:i_->Int}:∀{vs:List i_},(∀v∈vs,IV h v (f v))->∃fs:List i_,KatTups h vs fs/\fs.length=vs.length/\∀u∈fs,∃i t,u=Value.int i t
 |[],_=>⟨[],trivial,rfl,λ_ z=>by cases z⟩
 |v::vs,z=>by
  obtain⟨fs,k,l,ty⟩:=xO (vs:=vs) λu hu=>z u (J_ _ hu);obtain⟨a,o,n,t,x,u,e0,e1,e2,e3⟩:=z v L_;refine⟨.int (f v) t::fs,⟨⟨a,o,_,n,e0,e1,e2,e3,Y⟩,k⟩,by simp[l],λu hu=>?_⟩;rcases G_.mp hu with rfl|hu
  ·exact⟨_,_,Y⟩
  ·exact ty u hu
theorem wL{f:i_->Int}{vs:List i_}(h:(vs.map f).Nodup){x y:i_}(hx:x∈vs)(hy:y∈vs)(e:f x=f y):x=y:=by
 obtain⟨i,hi,rfl⟩:=qaW hx;obtain⟨j,hj,rfl⟩:=qaW hy;have e2:(vs.map f)[i]? =(vs.map f)[j]? :=by
  rw[n_,n_,e_ hi,e_ hj];show some _=some _;rw[e]
 have:=(qbd (by simpa using hi) h).mp e2;subst this;rfl
theorem wz{h:qab}{a b:h_}{vs:List i_}{out:Array i_}{o:qa0}(hb:b≠a)(e:h.get? b=some o):(sortedHeap h a vs out).get? b=some o:=by
 unfold sortedHeap;rw[(qbH _ a _).2 b hb];refine j_ _ (j_ _ ?_);rw[(qbH _ a _).2 b hb];exact e
theorem zp {h:qab}{a:h_}{xs:Array i_}{n:Nat}{vs:List i_}{out:Array i_}(e:h.get? a=some (seqObj "list" xs n)):∃m,(sortedHeap h a vs out).get? a=some (seqObj "list" out m):=by
 obtain⟨e1,PM⟩:∃e1,(h.update a (qaO λ_=>(#[]:Array i_))).get? a=some (seqObj "list" #[] e1):=⟨_,get?_update_seq e (λ_=> #[])⟩;exact⟨_,get?_update_seq (j_ _ (j_ _ PM)) (λ_=>out)⟩
section
variable{prog:A_}{w:U_}{A:qah}{E:i_->l_->Prop}{s:l_}
theorem Ij {a:h_}{vs:List i_}{n:Nat}{P:PySem.Fin->l_->Prop}{f:i_->Int}(ho:s.heap.get? a=some (seqObj "list" vs.toArray n))(hf:∀v∈vs,IV s.heap v (f v))(hnd:(vs.map f).Nodup)(h64:vs.length<64)
  (h:∀vs':List i_,vs'.Perm vs->(vs'.map f).Pairwise (·<·)->P (.done (.ret .none)) { s with heap:=sortedHeap s.heap a vs vs'.toArray }) :
  D_ (model prog w) A (Builtin.«list.sort» ⟨[.ref a],[]⟩) P E s:=by
 rw[list_sort_plain];have hz:vs.length<=x_:=by rw[qba];omega
 have ha:a<s.heap.objs.size:=y_ ho;refine f_ (listItems_at ho Y ?_);refine f_ (listUpdate_at ho Y ?_ (by rw[v_];exact hz) (T_ _));obtain⟨e1,PM⟩:∃e1,(s.heap.update a (qaO λ_=>(#[]:Array i_))).get? a=some (seqObj "list" #[] e1):=⟨_,get?_update_seq ho (λ_=> #[])⟩;refine f_ (seqEpoch_at PM Y ?_);refine f_ (wpAny_newTuple ?_ hz);refine f_ (wpAny_newList ?_ (T_ _));refine qaF ?_;have ho6:(((s.heap.update a (qaO λ_=>(#[]:Array i_))).push (seqObj "tuple" vs.toArray 0)).push (seqObj "list" #[] 0)).get? a=some (seqObj "list" #[] e1):=by
  rw[Heap.get?_push_ne _ _ _ (by rw[size_push',Heap.size_update];exact Y_ (Nat.lt_succ_of_lt ha)),Heap.get?_push_ne _ _ _ (by rw[Heap.size_update];exact Y_ ha)];exact PM
 have hf6:∀v∈vs,IV (((s.heap.update a (qaO λ_=>(#[]:Array i_))).push (seqObj "tuple" vs.toArray 0)).push (seqObj "list" #[] 0)) v (f v):=λv hv=>(hf v hv).keep λb o hc e=>by
  have hb:b≠a:=λz=>by
   subst z;rw[ho]at e;cases e;exact absurd (show Value.type "list" =Value.type "tuple" from hc) (λz=>absurd (Value.type.inj z) (by decide))
  exact j_ _ (j_ _ (((qbH s.heap a (qaO λ_=>(#[]:Array i_))).2 b hb).trans e))
 show D_ (model prog w) A _ P E { s with heap:=((s.heap.update a (qaO λ_=>(#[]:Array i_))).push (seqObj "tuple" vs.toArray 0)).push (seqObj "list" #[] 0) };dsimp only;have hsz:vs.toArray.size=vs.length:=by simp
 have fin:∀c:Array qag,c.Perm (vs.toArray.zip vs.toArray)->c.toList.Pairwise (Le λx y=>decide (f x.1<f y.1))->P (.done (.ret .none)) { s with heap:=sortedHeap s.heap a vs (c.map (·.2)) }:=by
  intro c hc hp;have pm:c.toList.Perm (vs.map λv=>(v,v)):=by
   rw[←vh];exact Array.perm_iff_toList_perm.mp hc
  have pm2:(c.toList.map (·.2)).Perm vs:=by
   have:=pm.map (·.2);rw[qam]at this
   rwa [show((λx:qag=>x.2) ∘ λv:i_=>(v,v))=id from rfl,List.map_id]at this
  have e:=h (c.toList.map (·.2)) pm2 ?_
  ·rwa [show(c.toList.map (·.2)).toArray=c.map (·.2) by apply qcV.mp;rw[Array.toList_map]]at e
  ·have nd':((c.toList.map (·.2)).map f).Nodup:=(pm2.map f).nodup_iff.mpr hnd;rw[qam]at nd' ⊢;rw[qbf];rw[List.Nodup,qbf]at nd';refine(List.Pairwise.and_mem.mp (hp.and nd')).imp λ{x y} ⟨hx,hy,l,ne⟩=>?_;have p1:∀z∈c.toList,z.1=z.2:=λz hz=>by
    obtain⟨v,_,rfl⟩:=O_.mp (pm.mem_iff.mp hz);rfl
   have l':decide (f y.1<f x.1)=false:=l;rw[p1 x hx,p1 y hy,decide_eq_false_iff_not]at l';have ne':f x.2≠f y.2:=ne;show f x.2<f y.2;omega
 by_cases h2:vs.toArray.size<2
 ·rw[if_pos h2,if_pos h2];refine f_ (q_ ?_);rw[StateT.run_pure];refine f_ (q_ ?_);dsimp only;refine f_ (seqEpoch_at ho6 Y ?_);refine f_ (listUpdate_at ho6 Y ?_ (T_ _) (by rw[Array.size_map];show(vs.toArray.zip vs.toArray).size<=_;rw[Array.size_zip,qba];omega));simp only[bne_self_eq_false,qap,if_false];refine q_ (fin (vs.toArray.zip vs.toArray) (Array.Perm.refl _) ?_);rw[vh]
  match vs,hsz,h2 with
  |[],_,_=>exact qcJ
  |[_],_,_=>exact List.pairwise_singleton _ _
  |_::_::_,_,h2=>exact absurd h2 (by simp)
 ·rw[if_neg h2,if_neg h2];obtain⟨fs,kt,kl,kty⟩:=xO hf6;refine f_ (kat_kind (T:=Value.type "int") kt (by omega) (λv hv=>?_) Y ?_)
  ·obtain⟨i,t,rfl⟩:=kty v hv;exact Looks.now
  show D_ _ _ (do let x ←(StateT.run sortRuns' (SortSt.mk' (tuples' true) _ #[] 7 none));_) _ _ _
  refine f_ (qaJ (Ke (κ:=tuples' true) (Ok:=λx:qag=>x.1∈vs/\x.2=x.1) (R:=λx y=>decide (f x.1<f y.1)) (c0:=vs.toArray.zip vs.toArray) (st:=SortSt.mk' (tuples' true) (vs.toArray.zip vs.toArray) #[] 7 none)
   (Q:=λ_ st'=>(arrOf st').Perm (vs.toArray.zip vs.toArray)/\failedOf st'=none/\(arrOf st').toList.Pairwise (Le λx y=>decide (f x.1<f y.1)))
   ⟨λE' x y hx hy Q q=>UC (hf6 _ hx.1) (hf6 _ hy.1) (λe=>wL hnd hx.1 hy.1 e) q,λx y z _ _ _ p q=>by simp only[decide_eq_false_iff_not]at p q ⊢;omega,λx y _ _ p=>by simp only[decide_eq_false_iff_not,decide_eq_true_eq]at p ⊢;omega⟩
   ⟨λx hx=>?_,?_,λx y hx hy ne l=>?_⟩
   ⟨rfl,rfl,rfl,Array.Perm.refl _⟩ rfl (by rw[Array.size_zip];omega) (by rw[Array.size_zip];omega) λst' a1 a2 a3=>⟨a1,a2,a3⟩) ?_ λ_ _ e=>e)
  ·rw[vh]at hx;obtain⟨v,hv,rfl⟩:=O_.mp hx;exact⟨hv,Y⟩
  ·rw[vh];have nv:vs.Nodup:=by
    rw[List.Nodup,qbf]at hnd;exact hnd.imp λne z=>ne (by rw[z])
   rw[List.Nodup,qbf];exact nv.imp λne z=>ne (by cases z;rfl)
  ·have n2:f x.1≠f y.1:=λz=>ne (Prod.ext (wL hnd hx.1 hy.1 z) (by rw[hx.2,hy.2];exact wL hnd hx.1 hy.1 z));simp only[decide_eq_false_iff_not,decide_eq_true_eq]at l ⊢;omega
  rintro⟨⟨⟩,st'⟩ s' ⟨rfl,hp,hf',hs⟩;dsimp only;refine f_ (seqEpoch_at ho6 Y ?_);refine f_ (listUpdate_at ho6 Y ?_ (T_ _) (by
   show((arrOf st').map (·.2)).size<=_;rw[Array.size_map,hp.size_eq,Array.size_zip,hsz,qba];omega))
  rw[hf'];simp only[bne_self_eq_false,qap,if_false];exact q_ (fin (arrOf st') hp hs)
end
end TS
namespace L2
open PySem PySem.Spec PyProof.Rows
noncomputable def V3(lo:Int)(n:Nat):It:=⟨λi _=>i<n,λi H x H'=>H'=H/\x= .int (lo-i),λi _=>n<=i⟩
theorem E9{P:A_}{w:U_}{K:PySem.W.Frag}{tg:Expr}(it:h_)(lo:Int)(n:Nat):Turn P w K tg (V3 lo n) [it] it (λi h=>IsRangeIter h it (lo+(i:Nat)*(-1)) ((n:Int)-(i:Nat)) (-1)) where
 mem:=by simp
 obj:=λi h st b hb=>by
  have e:b=it:=by simpa using hb
  subst e;exact⟨_,st,λv z=>by
   have z':Data.fields _=Data.cell v:=z;cases z'⟩
 keep:=λi h h' st k=>k it (by simp) _ st
 item:=by
  intro X hP hw hK hc i pins s σ H E I hf st hg;subst hP hw hK;obtain⟨f0,f1,f2,f3,f4,f5⟩:=hf it (by simp);have W:=Walks.range (prog:=X.prog) (w:=X.w) (I.ok.hd hc) it lo (-1) n;refine TK.cj (k_ s.toks) (W.item i s _ _ hg st λv h' tk hv st' kk hup=>?_);obtain⟨t,rfl⟩:=hv;have I1:Inv X pins σ H { s with heap:=h',toks:=tk }:=I.turned (λb o hb e=>kk b o (by simpa using hb) e) f0 f1 f3 f4 f5;refine⟨_,Y,Cv (s:={ s with heap:=h',toks:=tk }) (n:= "range_iterator") st' Y Y (by decide) ⟨.int (lo-i),H,I1,⟨t,?_⟩,⟨Y,Y⟩,st',λb hb=>(hf b hb).1⟩⟩;rw[Int.mul_neg,Int.mul_one,Int.sub_eq_add_neg]
 done:=by
  intro X hP hw hK hc i pins s σ H E I hf st hg;subst hP hw hK;obtain⟨f0,f1,f2,f3,f4,f5⟩:=hf it (by simp);exact wpAny_pyNext_range_end (I.ok.hd hc) st (by have:n<=i:=hg;omega) λh' eb=>⟨Y,I.turned (t':=s.toks) (λb o hb e=>eb b o hb e) f0 f1 f3 f4 f5⟩
 self:=λ_ _ _ _ _ st h=>wpAny_pyIter_rangeiter st h
theorem Cd(lo hi:Int):qbL lo hi (-1)=(((lo-hi).toNat:Nat):Int):=by
 unfold qbL;rw[if_neg (by decide)];split
 ·rw[show(-(-1:Int))=1 from rfl,Int.ediv_one];omega
 ·omega
theorem small_down{a b:Int}(ha: -(2 ^ 62)<=a)(ha':a<2 ^ 62)(hb: -(2 ^ 62)<=b)(hb':b<2 ^ 62):Builtin.Range.small a b (-1)=true:=by
 unfold Builtin.Range.small;rw[Cd];simp only[Builtin.Range.rangeFitsLong,qae,Bool.or_eq_true,decide_eq_true_eq,beq_iff_eq,show ¬(-1:Int)>0 by decide,if_false];omega
section
variable{X:Cx}{tg:Expr}
theorem KC{pins:List (h_×qa0)}{σ:St}{H:Hp}{s:l_}{R:It->Hp->Prop}{E:i_->l_->Prop}{lo hi:Int}{t u v:Tok}{tk:Nat}(I:Inv X pins σ H s)(h1: -(2 ^ 62)<=lo)(h2:lo<2 ^ 62)(h3: -(2 ^ 62)<=hi)(h4:hi<2 ^ 62)
  (q:R (V3 lo (lo-hi).toNat) H) (htk:s.toks<=tk:=by first|exact k_ _|exact qaE _|assumption|omega):D_ (model X.prog X.w) X.A (pyIter (.ref s.heap.objs.size)) (PIE X pins σ tg R) E { s with heap:=s.heap.push { cls:=.type "range",data:=.fields #[.int lo t,.int hi u,.int (-1) v] },toks:=tk }:=by
 refine wpAny_pyIter_range (IsRange.new ..) (small_down h1 h2 h3 h4) ?_;have I1:Inv X pins σ H { s with heap:=s.heap.push { cls:=.type "range",data:=.fields #[.int lo t,.int hi u,.int (-1) v] },toks:=tk }:=I.kept λb o e=>j_ _ e;refine⟨(s.heap.push { cls:=.type "range",data:=.fields #[.int lo t,.int hi u,.int (-1) v] }).objs.size,[(s.heap.push { cls:=.type "range",data:=.fields #[.int lo t,.int hi u,.int (-1) v] }).objs.size],_,_,H,Y,
  I1.kept (t':=tk) λb o e=>j_ _ e,E9 _ lo (lo-hi).toNat,?_,λb hb=>?_,q⟩
 ·have e1:lo+((0:Nat):Int)*(-1)=lo:=by simp
  have e2:(((lo-hi).toNat:Nat):Int)-((0:Nat):Int)=qbL lo hi (-1):=by rw[Cd];omega
  show IsRangeIter _ _ (lo+((0:Nat):Int)*(-1)) ((((lo-hi).toNat:Nat):Int)-((0:Nat):Int)) (-1);rw[e1,e2];exact B_ _ Y
 ·have e:b=(s.heap.push { cls:=.type "range",data:=.fields #[.int lo t,.int hi u,.int (-1) v] }).objs.size:=by simpa using hb
  subst e;exact I1.xg (k_ _) (I1.hok.fresh (k_ _))
def Xp(ta:TA):TI:=λσ H R=>ta σ H λvs H1=>dI λi j:Int=>vs=[.int i,.int j,.int (-1)]/\(-(2 ^ 62)<=i/\i<2 ^ 62/\ -(2 ^ 62)<=j/\j<2 ^ 62)/\R (V3 i (i-j).toNat) H1
theorem KH {a b c:Expr}{ta:TA}{p pos:qcq}(hg:Gl X "range")(hm:X.mg "range" =none)(ha:PA X [a,b,c] ta)(hs:qac [a,b,c] X.env=[(false,eval a X.env),(false,eval b X.env),(false,eval c X.env)]:=by rfl)(hs2:qac [b,c] X.env=[(false,eval b X.env),(false,eval c X.env)]:=by rfl) :
  PI X tg (.Call (.Name "range" p) [a,b,c] [] pos) (Xp ta):=by
 intro pins s σ H R I h;refine Call_ (qm I hg hm boot_range (qaL (gg (ha pos pins s σ H _ I h) λus s1 ⟨vs,H1,I1,r1,q1⟩=>?_) (by rw[hs,hs2]) (by rw[hs2];rfl)));obtain⟨i,j,e,⟨q1,q2,q3,q4⟩,q⟩:=q1;subst e
 cases r1 with
 |cons r rr =>
  cases rr with
  |cons r' rr =>
   cases rr with
   |cons r'' rr =>
    cases rr;obtain⟨t,rfl⟩:=r;obtain⟨t',rfl⟩:=r';obtain⟨t'',rfl⟩:=r'';exact call_range_3 (by decide) (KC I1 q1 q2 q3 q4 q) (.inl (PyProof.noPylong_small (by decide)))
end
theorem NF{lo:Int}{n:Nat}{g:TG}{tb:TS}{D:Ends}{σ:St}{H:Hp}(Pv:Nat->St->Hp->Prop)(h0:Pv 0 σ H)
  (hs:∀i σ H,i<n->Pv i σ H->g (.int (lo-i)) σ H λσ2 H2=>tb { D with nx:=Pv (i+1),ct:=Pv (i+1),bk:=D.nx } σ2 H2) (hd:∀ σ H,Pv n σ H->D.nx σ H) :
  ∃W:Nat->Nat->St->Hp->Prop,(∃m,W 0 m σ H)/\∀i m σ H,W i m σ H →
   ((V3 lo n).stop i H/\D.nx σ H)\/((V3 lo n).go i H/\∃N:St->Hp->Prop,(∀ σ' H',N σ' H'->∃m',m'<m/\W (i+1) m' σ' H')/\∀x H',(V3 lo n).ET i H x H'->g x σ H' λσ2 H2=>tb { D with nx:=N,ct:=N,bk:=D.nx } σ2 H2):=by
 refine⟨λi m σ H=>m=n-i/\i<=n/\Pv i σ H,⟨n,by simp,T_ _,h0⟩,?_⟩;rintro i m σ H ⟨rfl,hi,p⟩;by_cases hlt:i<n
 ·refine .inr ⟨hlt,Pv (i+1),λσ' H' p'=>⟨n-(i+1),by omega,Y,hlt,p'⟩,λx H' y=>?_⟩;obtain⟨e,y⟩:=y;subst e y;exact hs i σ _ hlt p
 ·have e:i=n:=by omega
  subst e;exact .inl ⟨k_ _,hd σ H p⟩
end L2
namespace GP
open PySem L2 lN
end GP
namespace L2
open PySem PySem.Spec PyProof.Rows
section
noncomputable def Dc(K:PySem.W.Frag)(t:Nat):Bool:=match K.lookup E_ with
 |some ⟨_,_,.dict es _,_⟩=>es.all λe=>match e.val with| .str _ u=>Nat.blt u t&& !(Nat.beq u 0)|_=>true
 |_=>false
theorem Iu{f:r_->i_->Bool}{es:Array DictEntry}{n:r_}{v:i_}(h:PySem.findBy f es n=some v):∃e∈es,e.val=v:=by
 unfold PySem.findBy at h;obtain⟨e,he,rfl⟩:=qaQ.mp h;exact⟨e,Array.mem_of_find?_eq_some he,Y⟩
theorem OL{K:PySem.W.Frag}{h:qab}{mg:r_->Option i_}{t:Nat}(KX:K.In h)(hns:h.Ns E_ mg)(c:Dc K t=true):GG mg t:=by
 obtain⟨o,es,ep,e,d,_,hm⟩:=hns;unfold Dc at c;split at c
 ·rename_i cl dd es' ZK sl hl
  have e':=KX _ _ hl;rw[e]at e';cases e';cases d;intro x v u hx;obtain⟨en,hen,ev⟩:=Iu ((hm x).trans hx);have z:=Array.all_eq_true'.mp c en hen;rw[ev]at z;simp only[qae,Nat.blt_eq,qbe]at z;exact⟨z.1,λq=>by rw[q]at z;exact absurd z.2 (by decide)⟩
 ·cases c
theorem LV{l:PySem.W.OpenLaw}{n k N t:Nat}{q:A_}{loose:List r_}{XP:(r_->Option i_)->qab->Prop}{as:List h_}{d:DefRec}{K:Params->PySem.W.Frag}{CX:U_->LG}{sp:U_->Sp}{x:r_}
  (hn:l.most=some n) (hn2:n<=x_) (hdf:d.params.defaults=[]) (hr:nV k callerA)
  (hk:∀P,as=(K P).map (·.1)) (ht:∀P,Dc (K P) t=true)
  (F:∀(w:U_) (mg:r_->Option i_) (fa:h_) (h:qab),(K w.params).In h->h.Ns E_ mg->mg d.name=some (.ref fa) →
   ∃fd:F_,(∀(s:l_) (u:i_),BindsTo s fd ⟨[u],[]⟩ [(x,u)]) ∧
    ∀base:qab,(K w.params).In base->base.Ns E_ mg->aF l.prog w (K w.params) mg base (CX w) k fa fd [x] (sp w))
  (Ov:∀(w:U_) (H:Hp) (a:h_) (ns:List Int),ns.length<=n->Vz H->bD (K w.params) H a (ns.map V.int)->sp w [.ref a] H (λv _=>v= .bl true) λ_ _ _=>False)
  (hCX:∀(w:U_) (H:Hp) (s:l_) (e:i_) (s':l_),CX w [] H s (λ_ _ _=>False) e s'->False) :
  PySem.W.WalkX q loose XP (PySem.W.X.obsZ as) (PySem.W.X.valZ K N t) l.row.toRowW d [] (λf vs=>PySem.call f vs):=by
 intro w s₀ s₁ mg mb G y fa o pm cd doc dV kV ho hd hcd hD hmg hg args vals as' L hpre hlay hrd hwl hlo;have Z:=PySem.W.X.z_facts hk y;have tk:t<=s₁.toks:=by
  obtain⟨ord,_,e⟩:=L.laid;have g:=(PySem.W.layAllW_grows _ _ _ e).toks;rw[Z.2.2.2]at g;exact g
 have KX:(K w.params).In s₁.heap:=PySem.W.InK.keeps w s₀.heap s₁.heap Z.2.1 L.keeps;obtain rfl:dV= .none:=PySem.W.Dflts.none hD hdf;obtain rfl:kV= .none:=PySem.W.Dflts.noKw hD;obtain⟨a,vs,ns,rfl,rfl,hobj,hints,hlen⟩:=Att.Ku hn hpre hwl;obtain⟨fd,hb,hF⟩:=F w mg fa _ KX G.T.g hmg;refine PySem.W.enter_call (qbC (M8 KX G.T.g G.T.b G.T.builtins G.T.nolimit hg ((OL KX G.T.g (ht _)).mono tk) hobj hints (m_ hlen hn2) hr hF hb (λH hO hS=>Ov w H a ns hlen hO hS) λH e s'=>hCX w H s₁ e s') λr s' hq=>?_);obtain⟨rfl,h2,h3,h4⟩:=hq
 exact⟨.inl ⟨.bool true,.bool true,[],Y,λ_=>rfl,.bool true,Att.KG l _,λ_=>⟨qcJ,λ_ hm=>(nomatch hm)⟩⟩,h2,h3,h4⟩
end
section
noncomputable def bV(c:Nat)(z:r_):r_:=⟨(z.cps.toList.filter (· != c)).toArray⟩
theorem HA(z:r_)(c:Nat):Txt.replace z ⟨#[c]⟩ ⟨#[]⟩=bV c z:=by
 have h:=replace_strikes z c;unfold bV;rw[←h]
def OM(c:Nat)(to:TE):TE:=λσ H Q=>to σ H λx H1=>∃z:r_,x= .str z/\z.cps.size<=1000000/\Q (.str (bV c z)) H1
section
variable{X:Cx}{o:Expr}{to:TE}{g:r_}{c j:Nat}{u:Tok}{apos cpos p1 p2:qcq}
theorem KI(ho:PE X o to)(hg:Gl X g)(hmg:X.mg g=some (.str ⟨#[c]⟩ u))
  (hbase:attributeBase o "replace" X.env (eval o X.env)=eval o X.env:=by rfl)
  (hfew:((backTo cpos (qac [.Name g p1,.Constant (.str "") j p2] X.env)).all (λx=>!x.1)&&(backToKw cpos (keywordEach [] X.env)).all (λx=>x.1.isSome)
   && decide (([.Name g p1,.Constant (.str "") j p2]:List Expr).length+([]:List Keyword).length+(if([]:List Keyword).isEmpty then 0 else 1)<30))=true:=by rfl)
  (hline:(apos.endLine==cpos.line)=true:=by rfl) (hs:qac [.Name g p1,.Constant (.str "") j p2] X.env=[(false,eval (.Name g p1) X.env),(false,eval (.Constant (.str "") j p2) X.env)]:=by rfl)
  (hd:(g==("__debug__" :r_))=false:=by decide) :
  PE X (.Call (.Attribute o "replace" apos) [.Name g p1,.Constant (.str "") j p2] [] cpos) (OM c to):=by
 intro pins s σ H Q I h;refine wpAny_Call_method_late hbase hfew hline Y (gg (ho pins s σ H _ I h) λv s1 ⟨x,H1,I1,r1,q1⟩=>?_);obtain⟨z,rfl,hz,q⟩:=q1;obtain⟨h1,h2⟩:=Hl (T:= "str") I1 r1 rfl;obtain⟨t,rfl⟩:=r1;refine⟨"str",_,F.plainAttrs_str,F.slot_str_replace,F.type_str_replace,h1,h2,?_⟩;rw[hs];refine qbW Y (qce ?_);refine qcB (oQ I1 hg hmg ?_ hd);show D_ _ _ (spliced [(false,eval (.Constant (.str "") j p2) X.env)]) _ _ s1;refine qcB (Calls.Constant_str (Calls.spliced_nil ?_));obtain⟨k1,k2⟩:=I1.tk g _ _ hmg;have I2:Inv X pins σ H1 { s1 with toks:=s1.toks+1 }:=I1.tok _;refine TK.cj (k_ (s1.toks+1)) (SC.replace (s:={ s1 with toks:=s1.toks+1 }) k2 (qaR (t_ (T_ u) k1)) (Y_ k1) ?_ ?_ λt' k hk=>?_)
 ·show(((⟨#[c]⟩:r_))==((⟨#[]⟩:r_)))=false;exact beq_eq_false_iff_ne.mpr λe=>by cases e
 ·show z.cps.size+(z.cps.size+1)*0<=16777216;omega
 ·refine⟨.str (bV c z),H1,I2.tok k hk,⟨t',?_⟩,q⟩;rw[←HA];rfl
end
end
section
noncomputable abbrev sg(c:Nat):V:=.str ⟨#[c]⟩
theorem yT:∀{cs:List Nat} {us:List i_},Vals (cs.map sg) us->∃l:List (r_×Tok),us=strValues l/\l.map (·.1)=cs.map λc=>(⟨#[c]⟩:r_)
 |[],_,.nil=>⟨[],rfl,rfl⟩
 |c::cs,_,.cons r rs=>by
  obtain⟨t,e⟩:=r;obtain⟨l,e1,e2⟩:=yT rs;exact⟨(⟨#[c]⟩,t)::l,by rw[e,e1];rfl,by rw[qaK,e2];rfl⟩
theorem Cy:∀(l:List Nat) (n:Nat),(l.map λc=>(⟨#[c]⟩:r_)).foldl (λa (x:r_)=>a+x.length+(⟨#[]⟩:r_).length) n=n+l.length
 |[],_=>rfl
 |c::l,n=>by
  rw[qaK,qcz,Cy l];show n+1+0+l.length=n+(l.length+1);omega
theorem Ur {X:Cx}{K':PySem.W.Frag}{T id:String}{name:r_}{o e:Expr}{es:List Expr}{to:TE}{t:TA}{apos cpos:qcq}{r:V->List V->Hp->VK->Prop}(hK:X.K=K')(pa:PlainAttrs T)(slot:Slot T name id)(hty:typeOf (.builtin id)=pure (.type "method_descriptor"))(hm:YH X id r)(ho:PE X o to)(ha:PA X (e::es) t)
  (hbase:attributeBase o name X.env (eval o X.env)=eval o X.env:=by rfl)
  (hfew:((backTo cpos (qac (e::es) X.env)).all (λx=>!x.1)&&(backToKw cpos (keywordEach [] X.env)).all (λx=>x.1.isSome)
   && decide ((e::es).length+([]:List Keyword).length+(if([]:List Keyword).isEmpty then 0 else 1)<30))=true:=by rfl)
  (hline:(apos.endLine==cpos.line)=true:=by rfl) (hs:qac (e::es) X.env=(false,eval e X.env)::qac es X.env:=by rfl) (hplain:(backTo cpos (qac es X.env)).any (·.1)=false:=by rfl) :
  PE X (.Call (.Attribute o name apos) (e::es) [] cpos) (tBM K' T r to t):=by subst hK;exact mK pa slot hty hm ho ha hbase hfew hline hs hplain
theorem M0{X:Cx}{K':PySem.W.Frag}(hK:X.K=K'):YH X "str.join" (λx xs H Q=>dI λ(l:h_) (cs:List Nat)=>x= .str ⟨#[]⟩/\xs=[.ref l]/\bD K' H l (cs.map sg)/\cs.length<=100000/\Q (.str ⟨cs.toArray⟩) H):=by
 subst hK;intro pins s σ H x xs v us Q I rx rs h;obtain⟨l,cs,rfl,rfl,hl,hn,q⟩:=h;obtain⟨t,rfl⟩:=rx
 cases rs with
 |cons r rr =>
  cases rr;cases r;obtain⟨its,r1,t1,_⟩:=I.list hl;obtain⟨ls,e1,e2⟩:=yT r1;refine TK.cj (k_ s.toks) (SC.join (l:=ls) (by rw[←e1];exact t1.isList) e2 ?_ λt' k hk=>⟨.str ⟨cs.toArray⟩,H,I.tok k hk,⟨t',?_⟩,q⟩)
  ·unfold JoinOk;rw[List.foldl_toArray,Cy];unfold Builtin.Str.tooLong;rw[qbe,decide_eq_false_iff_not,qco];exact qcU.mpr (m_ hn (by decide))
  ·have e:Txt.join ⟨#[]⟩ (cs.map λc=>(⟨#[c]⟩:r_))=⟨cs.toArray⟩:=by
    show Builtin.Str.glued _ _=_;rw[StrLaws.glued_eq_join,join_ones]
   rw[e]
theorem DQ{X:Cx}:YH X "str.join" (λx xs H Q=>dI λ(l:h_) (cs:List Nat)=>x= .str ⟨#[]⟩/\xs=[.ref l]/\bD X.K H l (cs.map sg)/\cs.length<=100000/\Q (.str ⟨cs.toArray⟩) H):=M0 rfl
end
section
noncomputable def nv(sp:Sp):Sp:=λvs H Q _=>sp vs H Q λ_ _ _=>False
theorem aF.nv{P:A_}{w:U_}{K:PySem.W.Frag}{mg:r_->Option i_}{base:qab}{k:Nat}{f:h_}{fd:F_}{ps:List r_}{sp:Sp}(F:aF P w K mg base (rY P w) k f fd ps sp):aF P w K mg base cM k f fd ps (nv sp) :=
 ⟨λvs H Q E q=>F.len vs H Q _ q,λA outer s H args us vs Q E hr he hb hv hs=>qbC (F.run A outer s H args us vs Q _ hr he hb hv hs) λr s' h=>by
  cases r with
  |error e=>obtain⟨ea,cls,od,H',h⟩:=h;exact(h.2.2.2.2.2.2.2:False).elim
  |ok fl=>cases fl<;>exact h⟩
theorem m5{J:It}{g:TG}{te:TE}{σ':St}{H1:Hp}{D:Hp->Prop}{l:h_}(n:Nat)(f:Nat->V)(hl:H1 l=none)(hn:n<x_)
  (go:∀i H,ai H1 H->i<n->J.go i H) (st:∀H,ai H1 H->J.stop n H)
  (el:∀i x H H3 (R:VK),ai H1 H->i<n->J.ET i H x H3->(∀H5,ai H H5->R (f i) H5)->g x σ' H3 λBX H4=>Kp σ' BX/\te BX H4 R)
  (fin:∀H',ai H1 H'->H' l=some (.lst ((K_ n).map f))->D H') :
  ∃W:Nat->Nat->List V->Hp->Prop,(∃m,W 0 m [] (upd H1 l (.lst [])))/\∀i m ys H2,W i m ys H2->(J.stop i H2/\D H2) ∨
   (J.go i H2/\∀x H3,J.ET i H2 x H3->g x σ' H3 λBX H4=>Kp σ' BX/\te BX H4 λy H5=>H5 l=some (.lst ys)/\ys.length<x_/\∃m',m'<m/\W (i+1) m' (ys++[y]) (upd H5 l (.lst (ys++[y])))):=by
 refine⟨λi m ys H2=>m=n-i/\i<=n/\ys=(K_ i).map f/\ai H1 H2/\H2 l=some (.lst ys),⟨n,Y,T_ _,Y,GP.ai.upd hl,af⟩,?_⟩;rintro i m ys H2 ⟨rfl,hi,rfl,s2,h2⟩;by_cases hlt:i<n
 ·refine .inr ⟨go i H2 s2 hlt,λx H3 y=>el i x H2 H3 _ s2 hlt y λH5 s5=>?_⟩;refine⟨s5 _ _ h2,by rw[g_,qad];omega,n-(i+1),by omega,Y,hlt,?_,GP.ai.at (s2.trans s5) hl,af⟩;rw[qbz,N_];rfl
 ·have e:i=n:=by omega
  subst e;exact .inl ⟨st H2 s2,fin H2 s2 h2⟩
theorem Qe{J:It}{g:TG}{tt:TT}{te:TE}{σ':St}{H1:Hp}{D:Hp->Prop}{l:h_}(n:Nat)(b:Nat->Bool)(f:Nat->V)(hl:H1 l=none)(hn:n<x_)
  (go:∀i H,ai H1 H->i<n->J.go i H) (st:∀H,ai H1 H->J.stop n H)
  (el:∀i x H H3 (R:VK) (S:Hp->Prop),ai H1 H->i<n->J.ET i H x H3->(b i=true->∀H5,ai H H5->R (f i) H5)->(b i=false->∀H5,ai H H5->S H5) →
   g x σ' H3 λBX H4=>Kp σ' BX/\tt BX H4 λb' H5=>if b'=true then te BX H5 R else S H5)
  (fin:∀H',ai H1 H'->H' l=some (.lst (((K_ n).filter b).map f))->D H') :
  ∃W:Nat->Nat->List V->Hp->Prop,(∃m,W 0 m [] (upd H1 l (.lst [])))/\∀i m ys H2,W i m ys H2->(J.stop i H2/\D H2) ∨
   (J.go i H2/\∀x H3,J.ET i H2 x H3->g x σ' H3 λBX H4=>Kp σ' BX/\tt BX H4 λb H5 =>
    if b=true then te BX H5 (λy H6=>H6 l=some (.lst ys)/\ys.length<x_/\∃m',m'<m/\W (i+1) m' (ys++[y]) (upd H6 l (.lst (ys++[y]))))else ∃m',m'<m/\W (i+1) m' ys H5):=by
 refine⟨λi m ys H2=>m=n-i/\i<=n/\ys=((K_ i).filter b).map f/\ai H1 H2/\H2 l=some (.lst ys),⟨n,Y,T_ _,Y,GP.ai.upd hl,af⟩,?_⟩;rintro i m ys H2 ⟨rfl,hi,rfl,s2,h2⟩;by_cases hlt:i<n
 ·refine .inr ⟨go i H2 s2 hlt,λx H3 y=>el i x H2 H3 _ _ s2 hlt y (λhb H5 s5=>?_) λhb H5 s5=>?_⟩
  ·refine⟨s5 _ _ h2,?_,n-(i+1),by omega,Y,hlt,?_,GP.ai.at (s2.trans s5) hl,af⟩
   ·rw[g_];exact t_ (m_ (qbq _ _) (by rw[qad];omega)) hn
   ·rw[qbz,qcD,N_,qcE hb];rfl
  ·refine⟨n-(i+1),by omega,Y,hlt,?_,s2.trans s5,s5 _ _ h2⟩;rw[qbz,qcD,qcF (by rw[hb];exact I_),List.filter_nil,qbh]
 ·have e:i=n:=by omega
  subst e;exact .inl ⟨st H2 s2,fin H2 s2 h2⟩
end
end L2
namespace GP
open PySem L2 lN
def Rw(K:PySem.W.Frag)(H:Hp)(v:V)(rs:List r_):Prop:=∃a,v= .ref a/\(bD K H a (rs.map V.str)\/fq K H a (rs.map V.str))
theorem Rw.same{K:PySem.W.Frag}{H H':Hp}{v:V}{rs:List r_}(h:Rw K H v rs)(e:ai H H'):Rw K H' v rs:=by
 obtain⟨a,h1,h2⟩:=h;exact⟨a,h1,h2.imp (ai.seq e) (ai.tup e)⟩
theorem Rw.cp{K:PySem.W.Frag}{H:Hp}{v:V}{rs:List r_}(h:Rw K H v rs):∃c:Cp,v=c.val/\∀H',ai H H'->c.at K H' (rs.map V.str):=by
 obtain⟨a,rfl,h|h⟩:=h
 ·exact⟨.lst a,Y,λH' e=>ai.seq e h⟩
 ·exact⟨.tup a,Y,λH' e=>ai.tup e h⟩
theorem Rw.len{K:PySem.W.Frag}{H:Hp}{v:V}{rs:List r_}(h:Rw K H v rs):Qu K v H rs.length:=by
 obtain⟨a,rfl,h|h⟩:=h
 ·exact .inl ⟨_,h,by rw[g_]⟩
 ·exact .inr ⟨_,h,by rw[g_]⟩
theorem Rw.ix{K:PySem.W.Frag}{H:Hp}{v:V}{rs:List r_}{i:Nat}{r:r_}{Q:VK}(h:Rw K H v rs)(e:rs[i]? =some r)(q:Q (.str r) H):rIx K v (.int (i:Int)) H Q:=by
 obtain⟨a,rfl,h|h⟩:=h
 ·exact .inl ⟨a,_,_,_,Y,Y,h,bM (by rw[n_,e];rfl),q⟩
 ·exact .inr (.inl ⟨a,_,_,_,Y,Y,h,bM (by rw[n_,e];rfl),q⟩)
structure Ob(rs:List r_):Prop where
 len:rs.length<=100
 row:∀r∈rs,r.cps.size<=1000
noncomputable def oR(rs:List r_)(n:Nat):List Nat:=rs.map λr=>r.cps.toList.getD n 0
noncomputable def lK(rs:List r_)(n:Nat):r_:=⟨(oR rs n).toArray⟩
noncomputable def cols(rs:List r_)(n:Nat):List r_:=(K_ n).map (lK rs)
noncomputable def dO(x:r_):Bool:=x.cps.toList.all (·==45)
noncomputable def kL(x:r_):Bool:=(bV 45 x).cps.toList.all kR
noncomputable def sQ:List r_->Bool
 |[]=>false
 |r::rs=>(r::rs).all λx=>x.cps.size==r.cps.size
noncomputable def dw(rs:List r_):Nat:=(rs.headD ⟨#[]⟩).cps.size
noncomputable def xT(rs:List r_):Bool:=(cols rs (dw rs)).all λc=>!dO c
noncomputable def fk(rs:List r_):Bool:=sQ rs&&(rs.all kL&&xT rs)
theorem cR{rs:List r_}:sQ rs=true↔rs≠[]/\∀r∈rs,r.cps.size=dw rs:=by
 cases rs with
 |nil=>exact⟨λh=>(by cases h),λh=>absurd Y h.1⟩
 |cons r rs =>
  show((r::rs).all λx=>x.cps.size==r.cps.size)=true↔_;rw[R_];exact⟨λh=>⟨by simp,λx hx=>eq_of_beq (h x hx)⟩,λh x hx=>beq_iff_eq.mpr (h.2 x hx)⟩
theorem PX{x:r_}:decide (V.str x=V.str (rX (z_ "-") (x.length:Nat)))=dO x:=by
 have e:(rX (z_ "-") (x.length:Nat)).cps.toList=P_ x.cps.toList.length 45:=by
  rw[wD];show(P_ x.cps.size [45]).flatten=_;rw[s_];generalize x.cps.size=n
  induction n with
  |zero=>rfl
  |succ n ih=>rw[qax,qaS,ih,qax];rfl
 rw[qbw,decide_eq_true_iff];unfold dO;rw[R_];refine⟨λh c hc=>?_,λh=>?_⟩
 ·injection h with h;rw[h,e]at hc;exact beq_iff_eq.mpr (qcv hc)
 ·have z:x.cps.toList=P_ x.cps.toList.length 45:=List.eq_replicate_of_mem λc hc=>eq_of_beq (h c hc);rw[←e]at z;have:x.cps=(rX (z_ "-") (x.length:Nat)).cps:=qcV.mp z;have e2:x=rX (z_ "-") (x.length:Nat):=by
   rcases h3:rX (z_ "-") (x.length:Nat)with⟨cs⟩;rw[h3]at this;rcases x with⟨xs⟩;exact congrArg Str.mk this
  rw[←e2]
def zd(K:PySem.W.Frag):Sp:=λvs H Q _=>oS λ(v:V) (rs:List r_) (n:Nat)=>vs=[v,.int n]/\Rw K H v rs/\Ob rs/\(∀r∈rs,n<r.cps.size)/\∀H',ai H H'->Q (.str (lK rs n)) H'
def zb(K:PySem.W.Frag):Sp:=λvs H Q _=>oS λ(v:V) (rs:List r_) (n:Nat)=>vs=[v,.int n]/\Rw K H v rs/\Ob rs/\n<=1000/\(∀r∈rs,n<=r.cps.size) ∧
 ∀l H',ai H H'->H l=none->H' l=some (.lst ((cols rs n).map V.str))->Q (.ref l) H'
def wu(K:PySem.W.Frag):Sp:=λvs H Q _=>dI λ(v:V) (rs:List r_)=>vs=[v]/\Rw K H v rs/\Ob rs/\sQ rs=true ∧
 ∀l H',ai H H'->H l=none->H' l=some (.lst ((cols rs (dw rs)).map V.str))->Q (.ref l) H'
def Fx:Sp:=λvs H Q _=>∃x:r_,vs=[.str x]/\x.cps.size<=1000/\Q (.bl (dO x)) H
def tM:Sp:=λvs H Q _=>∃x:r_,vs=[.str x]/\x.cps.size<=1000/\Q (.str (bV 45 x)) H
def xH:Sp:=λvs H Q _=>∃x:r_,vs=[.str x]/\x.cps.size<=1000/\∀H',ai H H'->Q (.bl (kL x)) H'
def Cc(K:PySem.W.Frag)(C:h_)(pre p:List r_->Bool):Sp:=λvs H Q E=>dI λ(v:V) (rs:List r_)=>vs=[v]/\Rw K H v rs/\Ob rs/\pre rs=true ∧
 (p rs=true->∀H',ai H H'->Q .gE H')/\(p rs=false->∀H',ai H H'->E (.ref C) none H')
def yP(K:PySem.W.Frag)(C:h_)(H:Hp)(b:h_)(rs:List r_):Prop:=dI λdx q=>H b=some (.ins C dx (aK "rows" (.ref q) []))/\fq K H q (rs.map V.str)
theorem yP.same{K:PySem.W.Frag}{C:h_}{H H':Hp}{b:h_}{rs:List r_}(h:yP K C H b rs)(e:ai H H'):yP K C H' b rs:=by
 obtain⟨dx,q,h1,h2⟩:=h;exact⟨dx,q,e _ _ h1,ai.tup e h2⟩
def vq(K:PySem.W.Frag)(C X:h_):Sp:=λvs H Q E=>t9 λ(b dx:h_) (v:V) (rs:List r_)=>vs=[.ref b,v]/\H b=some (.ins C dx [])/\Rw K H v rs/\Ob rs ∧
 (fk rs=true->∀H',(∀a u,H a=some u->a≠b->H' a=some u)->yP K C H' b rs->Q .gE H')/\(fk rs=false->∀H',ai H H'->E (.ref X) none H')
end GP
namespace L2
open PySem PySem.Spec PyProof.Rows
end L2
namespace GP
open PySem L2 lN
section
theorem fq.abT{K:PySem.W.Frag}{H:Hp}{l a C dx:h_}{fs:List (r_×V)}{xs:List V}{o:HO}(hl:H l=some (.ins C dx fs))(h:fq K H a xs):fq K (L2.upd H l o) a xs:=by
 rcases h with(h|⟨u,h⟩)|h
 ·exact .inl (.inl (by rw[au (nR h hl (by intro z;cases z))];exact h))
 ·exact .inl (.inr ⟨u,by rw[au (nR h hl (by intro z;cases z))];exact h⟩)
 ·exact .inr h
theorem jL{q:V}:(aK "rows" q []).lookup ("rows" :r_)=some q:=by
 rw[aA,if_pos rfl]
def Fy(K:PySem.W.Frag)(C X:h_):Sp:=λvs H Q E=>∃x:r_,vs=[.str x]/\x.cps.size<=1000 ∧
 (fk [x]=true->∀b H',ai H H'->H b=none->yP K C H' b [x]->Q (.ref b) H')/\(fk [x]=false->∀H',ai H H'->E (.ref X) none H')
noncomputable def packed(rs:List r_):List r_:=cols ((cols rs (dw rs)).filter λc=>!dO c) rs.length
theorem dW{rs:List r_}{n:Nat}:(cols rs n).length=n:=by unfold cols;rw[g_,qad]
theorem Qc{rs:List r_}{n i:Nat}(h:i<n):(cols rs n)[i]? =some (lK rs i):=by
 unfold cols;rw[n_,qct h];rfl
theorem uy{x:r_}:kL x=true↔∀c∈x.cps.toList,c≠45->kR c=true:=by
 unfold kL bV;rw[R_];refine⟨λh c hc n=>h c ?_,λh c hc=>?_⟩
 ·show c∈x.cps.toList.filter (· != 45);exact qcx.mpr ⟨hc,by simpa using n⟩
 ·have hc':c∈x.cps.toList.filter (· != 45):=hc;obtain⟨a,b⟩:=qcx.mp hc';exact h c a (by simpa using b)
theorem xq{cs:List r_}{n:Nat}(h:∀c∈cs,c.cps.size=n):cols (cols cs n) cs.length=cs:=by
 refine qcb λi=>?_;by_cases hi:i<cs.length
 ·rw[Qc hi,e_ hi];have hs:=h _ (Q_ hi);have e:oR (cols cs n) i=cs[i].cps.toList:=by
   unfold oR cols;rw[qam];refine qa7 (by simp[hs]) λj h1 h2=>?_;have hj:j<n:=by simpa using h1
   have hj2:j<cs[i].cps.toList.length:=h2;have e1:(lK cs j).cps.toList.getD i 0=cs[i].cps.toList.getD j 0:=by
    show(oR cs j).getD i 0=_;unfold oR;rw[C_,n_,e_ hi];rfl
   simp only[qa8,qbp,Function.comp];rw[e1,C_,e_ hj2,qaV]
  unfold lK;rw[e]
 ·rw[qaj (by rw[dW];omega),qaj (by omega)]
end
section
def O8(c:Nat):Prop:=c=45\/kR c=true
structure Eo(rs:List r_)(n i:Nat):Prop where
 len:rs.length=n
 dw:∀r∈rs,r.cps.size=i
 ok:∀r∈rs,∀c∈r.cps.toList,O8 c
 col:∀j,j<i->∃r∈rs,∃c,r.cps.toList[j]? =some c/\c≠45
theorem Eo.w{rs:List r_}{n i:Nat}(h:Eo rs n i)(hn:0<n):GP.dw rs=i:=by
 cases hr:rs with
 |nil=>have:=h.len;rw[hr]at this;have:0=n:=this;omega
 |cons r t=>exact h.dw r (by rw[hr];exact L_ ..)
theorem Eo.sQ{rs:List r_}{n i:Nat}(h:Eo rs n i)(hn:0<n):GP.sQ rs=true:=by
 refine cR.mpr ⟨λz=>?_,λr hr=>(h.dw r hr).trans (h.w hn).symm⟩;have:=h.len;rw[z]at this;have:0=n:=this;omega
theorem Eo.things{rs:List r_}{n i:Nat}(h:Eo rs n i):rs.all kL=true :=
 R_.mpr λr hr=>uy.mpr λc hc hn=>(h.ok r hr c hc).resolve_left hn
theorem NB{rs:List r_}{j:Nat}:dO (lK rs j)=true↔∀r∈rs,r.cps.toList.getD j 0=45:=by
 unfold dO lK oR;rw[R_];refine⟨λh r hr=>eq_of_beq (h _ (O_.mpr ⟨r,hr,Y⟩)),λh c hc=>?_⟩;obtain⟨r,hr,rfl⟩:=O_.mp (show c∈rs.map λr=>r.cps.toList.getD j 0 from hc);exact beq_iff_eq.mpr (h r hr)
theorem Eo.block{rs:List r_}{n i:Nat}(h:Eo rs n i)(hn:0<n):fk rs=true:=by
 unfold fk;rw[h.sQ hn,h.things,qcw,qcw];unfold xT;rw[h.w hn,R_];intro c hc;unfold cols at hc;obtain⟨j,hj,rfl⟩:=O_.mp hc;obtain⟨r,hr,c,hc,hne⟩:=h.col j (qav.mp hj);rw[qbe,qb_];intro z;have:=NB.mp z r hr;rw[C_,hc]at this;exact hne this
theorem cu{α:Type}{l:List α}{i:Nat}{d x:α}(h:l[i]? =some x):l.getD i d=x:=by
 rw[C_,h];rfl
def Jo(K:PySem.W.Frag)(C:h_):Sp:=λvs H Q _=>oS λ(b a:h_) (rs:List r_)=>vs=[.ref b,.ref a]/\yP K C H b rs/\bD K H a (rs.map V.str)/\rs.length<=100/\∀H',ai H H'->Q (.bl true) H'
end
end GP
namespace L2
open PySem PySem.Spec PyProof.Rows
theorem Eh{X:Cx}:mL X (.builtin "isinstance") (λxs H Q=>t9 λb C dx fs=>xs=[.ref b,.ref C]/\H b=some (.ins C dx fs)/\PySem.W.isIn X.K (.ref C) C=true/\Q (.bl true) H):=by
 intro pins s σ H xs us Q I r h;obtain⟨b,C,dx,fs,rfl,hb,e,q⟩:=h;obtain⟨u,w',rfl,rx,rn⟩:=vals2 r;cases (show u=Value.ref b from rx);cases (show w'=Value.ref C from rn);obtain⟨mA,J,_⟩:=yL I.hok hb;obtain⟨od,J',_⟩:=J.look
 exact PySem.W.isi_call I.qz (λM=>J'.type) e (λz=>nomatch z) ⟨.bl true,H,I,Y,q⟩
end L2
namespace GP
open PySem L2 lN
section
theorem Hr{xs:List r_}:n8 (xs.map V.str) (xs.map V.str)=true:=by
 unfold n8;rw[beq_self_eq_true,Bool.and_true,R_];intro j hj;have hj':j<xs.length:=by
  have:=qav.mp hj;rw[Nat.min_self,g_]at this;exact this
 rw[cu (show(xs.map V.str)[j]? =some (V.str xs[j]) by rw[n_,e_ hj'];rfl)];show(xs[j]==xs[j])=true;exact beq_self_eq_true _
theorem Cz{xs:List r_}:(xs.map V.str).all qS=true:=R_.mpr λy hy=>by
 obtain⟨x,_,rfl⟩:=O_.mp hy;rfl
theorem MG(n:Nat)(v:V):(P_ n [v]).flatten=P_ n v:=by
 induction n with
 |zero=>rfl
 |succ n ih=>rw[qax,qaS,ih,qax];rfl
end
section
end
section
end
section
end
section
end
section
theorem range_getD(L:List Nat):(K_ L.length).map (λj=>L.getD j 0)=L:=by
 refine qa7 (by simp) λi h1 h2=>?_;simp[C_,e_ h2]
theorem Gq(L:List Nat):((K_ L.length).filter (λj=>L.getD j 0 != 45)).map (λj=>sg (L.getD j 0))=(L.filter (· != 45)).map sg:=by
 conv=>rhs;rw[←range_getD L]
 rw[List.filter_map,qam];rfl
theorem Ua(c:Nat):(!decide (sg c=V.str (z_ "-")))=(c != 45):=by
 have e:decide (sg c=V.str (z_ "-"))=(c==45):=by
  rw[qbw,decide_eq_true_iff,beq_iff_eq];refine⟨λh=>?_,λh=>by rw[h];rfl⟩;have h':(⟨#[c]⟩:r_)=⟨#[45]⟩:=by injection h
  injection h' with h';simpa using h'
 rw[e];rfl
end
end GP
namespace L2
end L2
namespace GP
open PySem L2 lN
structure Da(K:PySem.W.Frag)(mg:r_->Option i_)(x y:r_)(st:qaA)(ps:List r_)(f:h_)(fd:F_):Prop where
 fn:Oz K y y st f fd
 b:Binds K fd ps []
 m:mg x=some (.ref f)
end GP
namespace L2
open PySem PySem.Spec PyProof.Rows
theorem xK(ns:List Int):∀n:Nat,preSum (λi=>(ns[i]?).getD 0) n=(ns.take n).sum
 | 0=>rfl
 |n+1=>by
  show preSum _ n+(ns[n]?).getD 0=_;rw[xK ns n];by_cases hn:n<ns.length
  ·rw[List.take_add_one,e_ hn,List.sum_append];simp
  ·rw[qaj (by omega),qan (by omega),qan (by omega)];simp
theorem ints_get:∀{ns:List Int} {us:List i_},Vals (ns.map V.int) us->∀(i:Nat) (v:i_),us[i]? =some v->dI λn t=>ns[i]? =some n/\v= .int n t
 |[],_,r,i,v,e=>by
  cases r;simp at e
 |n::ns,_,r,i,v,e=>by
  cases r with
  |cons r1 r2 =>
   cases i with
   |zero =>
    simp at e;subst e;obtain⟨t,z⟩:=r1;exact⟨n,t,Y,z⟩
   |succ i=>exact ints_get r2 i v e
theorem CH{X:Cx}{K':PySem.W.Frag}(hK:X.K=K')(hc:X.calm=true):mL X (.builtin "sum") (λxs H Q=>dI λ(l:h_) (ns:List Int)=>xs=[.ref l]/\bD K' H l (ns.map V.int)/\Q (.int ns.sum) H):=by
 subst hK;intro pins s σ H xs us Q I r h;obtain⟨l,ns,rfl,hl,q⟩:=h;obtain⟨u,rfl,ru⟩:=vals1 r;cases ru;obtain⟨its,rv,p,hz⟩:=I.list hl;have pl:s.heap.IsList l its.toArray:=p.isList;have hlt:l<s.heap.objs.size:=by obtain⟨_,e,_⟩:=pl;exact y_ e
 have hlen:ns.length=its.length:=by rw[←rv.length,g_]
 refine TK.cj (k_ s.toks) ?_;refine call_sum_walkG (qb7 pl ?_);refine⟨s.heap.objs.size,[s.heap.objs.size,l],[s.heap.objs.size],its.toArray.size,_,_,λi=>(ns[i]?).getD 0,Y,Walks.list (A:=X.A.in1) (I.ok.hd hc) _ l (Y_ hlt) its.toArray,
  ⟨⟨_,B_ _ rfl,rfl,rfl⟩,pl.push _⟩,λb hb=>?_,λi v hP=>?_,λh' tk t' hk hup=>?_⟩
 ·show b<(s.heap.push _).objs.size;rw[qaU];rcases G_.mp hb with rfl|z
  ·exact qbM _
  ·rw[w_.mp z];exact Nat.lt_succ_of_lt hlt
 ·obtain⟨n,t,e,rfl⟩:=ints_get rv i v (by simpa using hP);exact⟨t,by show _=Value.int ((ns[i]?).getD 0) t;rw[e];rfl⟩
 ·rw[xK,v_,←hlen,qbQ];refine⟨.int ns.sum,H,I.kept (t':=tk) (λb x e=>hk b x (λhm=>?_) (j_ _ e)),⟨_,Y⟩,q⟩;rw[w_.mp hm]at e;exact qaB _ (y_ e)
end L2
namespace GP
open PySem L2 lN
section
noncomputable def La(sg:r_):r_:=sg++z_ "-"
theorem yK{sg:r_}{c:Nat}:c∈(La sg).cps.toList↔c=45\/c∈sg.cps.toList:=by
 have e:(La sg).cps.toList=sg.cps.toList++[45]:=sr _ _;rw[e,S_,w_];exact Or.comm
theorem Uz{sg:r_}(h:uv sg):45∉sg.cps.toList:=λz=>by
 have:=h.2.2.1 45 z;revert this;decide
def yC(kn:r_)(rs:List r_)(i j:Nat):Prop :=
 (dI λr c=>rs[i]? =some r/\r.cps[j]? =some c/\c∉kn.cps.toList/\∀k d,k<j->r.cps[k]? =some d->d∈kn.cps.toList)/\∀m r,m<i->rs[m]? =some r->Of kn r
def zk(K:PySem.W.Frag)(C:h_):Sp:=λvs H Q E=>oS λ(kn:r_) (v:V) (rs:List r_)=>vs=[.str kn,v]/\Rw K H v rs/\Ob rs ∧
 ((∀r∈rs,Of kn r)->∀H',ai H H'->Q .gE H')/\(∀i j,yC kn rs i j->∀dx H',ai H H'->H' dx=some (AY dx (BD i j))->E (.ref C) (some dx) H')
def xG(K:PySem.W.Frag)(C X:h_):Sp:=λvs H Q E=>Vx λ(x:h_) (sg:r_) (rows:List (List cJ)) (fo fm:cJ) (v:V) (rs:List r_)=>vs=[.ref x,v]/\lM K C H x sg rows fo fm/\Rw K H v rs/\Ob rs ∧
 ((∀r∈rs,Of (La sg) r)->∀H',ai H H'->Q .gE H')/\(∀i j,yC (La sg) rs i j->∀dx H',ai H H'->H' dx=some (AY dx (BD i j))->E (.ref X) (some dx) H')
end
section
end
section
theorem OI{a tv:Int}{i j:Nat}(ht:tv=1\/tv=3\/tv=5\/tv=7\/tv=9\/tv=11)(hij:i<j)(hj:j<6):((a+(i:Int)*tv) % 92).toNat≠((a+(j:Int)*tv) % 92).toNat:=by
 rcases ht with rfl|rfl|rfl|rfl|rfl|rfl<;>omega
theorem HV{L:List Nat}{p:Nat->Nat}(hL:L.Nodup)(n:Nat)(hp:∀i,i<n->p i<L.length)(hne:∀i j,i<j->j<n->p i≠p j):((K_ n).map λi=>L.getD (p i) 0).Nodup:=by
 rw[List.Nodup,qbf];refine List.Pairwise.imp_of_mem ?_ (List.pairwise_lt_range (n:=n));intro i j hi hj hij z;have h1:=hp i (qav.mp hi);have h2:=hp j (qav.mp hj);rw[cu (e_ h1),cu (e_ h2)]at z;exact hne i j hij (qav.mp hj) ((List.getElem_inj hL).mp z)
noncomputable def Ng:List Nat->Bool
 |a::b::r=>decide (a<b)&&Ng (b::r)
 |_=>true
theorem DZ:∀{a:Nat} {l:List Nat},Ng (a::l)=true->(∀c∈l,a<c)/\Ng l=true
 |a,[],_=>⟨λc hc=>(nomatch hc),rfl⟩
 |a,b::r,h=>by
  have h':(decide (a<b)&&Ng (b::r))=true:=h;rw[qae]at h';have h1:=of_decide_eq_true h'.1;refine⟨λc hc=>?_,h'.2⟩;rcases G_.mp hc with rfl|hc
  ·exact h1
  ·exact qcI h1 ((DZ h'.2).1 c hc)
theorem Ar:∀{l:List Nat},Ng l=true->l.Nodup
 |[],_=>List.nodup_nil
 |a::l,h=>qbx.mpr ⟨λz=>qaB _ ((DZ h).1 a z),Ar (DZ h).2⟩
theorem Ls(e:Int):Sm (e % ((10:Int) ^ (40:Int).toNat)-5*(10:Int) ^ (39:Int).toNat):=by
 have e1:(10:Int) ^ (40:Int).toNat=10000000000000000000000000000000000000000:=by decide
 have e2:(10:Int) ^ (39:Int).toNat=1000000000000000000000000000000000000000:=by decide
 rw[e1,e2];have h1:=qai e (show(10000000000000000000000000000000000000000:Int)≠0 by decide);have h2:=Z_ e (show(0:Int)<10000000000000000000000000000000000000000 by decide);exact GC (by omega) (by omega)
def Fq(K:PySem.W.Frag):Sp:=λvs H Q _=>EW λ(s t:h_) (ns:List Int) (k:Int) (n:Nat)=>vs=[.ref s,.ref t,.int n]/\xB K H s t ns k/\k<=100000/\n<=6 ∧
 ∀(x:r_) H',x.cps.size=n->(∀c∈x.cps.toList,kR c=true)->x.cps.toList.Nodup->ai (L2.upd H t (.lst [.int (k+1)])) H'->Q (.str x) H'
def Ca(K:PySem.W.Frag)(C:h_):Sp:=λvs H Q _=>LL λ(s t:h_) (ns:List Int) (k:Int) (sg:r_) (b:Bool)=>vs=[.ref s,.ref t,.str sg,.bl b]/\xB K H s t ns k/\k<=80000/\uv sg/\sg.cps.size<=12 ∧
 ∀x H' k' rows fo fm,lM K C (Wo t H') x sg rows fo fm->H x=none->ai (Wo t H) (Wo t H')->H' t=some (.lst [.int k'])->k<=k'->k'<=k+200->Q (.ref x) H'
end
section
end
section
theorem fM{rs:List r_}(h:fk rs=true):sQ rs=true:=by
 unfold fk at h;rw[qae]at h;exact h.1
theorem yC.uniq{kn:r_}{rs:List r_}{i j i' j':Nat}(h:yC kn rs i j)(h':yC kn rs i' j'):i=i'/\j=j':=by
 obtain⟨⟨r,c,h1,h2,h3,h4⟩,h5⟩:=h;obtain⟨⟨r',c',A0,h2',h3',h4'⟩,h5'⟩:=h';have m:c∈r.cps.toList:=by rw[←V_]at h2;exact u_ h2
 have m':c'∈r'.cps.toList:=by rw[←V_]at h2';exact u_ h2'
 have ei:i=i':=Nat.le_antisymm (qcU.mp λz=>h3' (h5 i' r' z A0 c' m')) (qcU.mp λz=>h3 (h5' i r z h1 c m));subst ei;rw[h1]at A0;cases A0;exact⟨Y,Nat.le_antisymm (qcU.mp λz=>h3' (h4 j' c' z h2')) (qcU.mp λz=>h3 (h4' j c z h2))⟩
theorem yC.no{kn:r_}{rs:List r_}{i j:Nat}(h:yC kn rs i j):¬ ∀r∈rs,Of kn r:=λz=>by
 obtain⟨⟨r,c,h1,h2,h3,_⟩,_⟩:=h;exact h3 (z r (u_ h1) c (by rw[←V_]at h2;exact u_ h2))
end
section
end
section
section
variable{K:PySem.W.Frag}{CP CB:h_}{H H' yO:Hp}{t a x o:h_}{k k2:Int}{sg:r_}{rows:List (List cJ)}{fo fm:cJ}{rs0 rs rs2:List r_}
end
end
section
theorem yP.wo{K:PySem.W.Frag}{C:h_}{H:Hp}{t b:h_}{ys:List V}{rs:List r_}(ht:H t=some (.lst ys))(h:yP K C H b rs):yP K C (Wo t H) b rs:=by
 obtain⟨dx,q,h1,h2⟩:=h;exact⟨dx,q,Wo.in (nR h1 ht (by intro z;cases z)) h1,fq.wo ht h2⟩
theorem OJ(a b:Int):n8 [V.int a,V.int b] [V.int a,V.int b]=true:=by simp[n8,K_,List.range.loop,JM]
end
section
noncomputable def qB(e b b1 r:Int):Int:=if e<=0 then min (e+b1) (min b r)else min b r
noncomputable def tX(e b:Nat->Int)(n:Nat):Nat->Int
 | 0=>0
 |k+1=>qB (e (n-1-k)) (b (n-1-k)) (b (n-k)) (tX e b n k)
noncomputable def Kz(E:Nat->Nat->Int)(m n:Nat):Nat->Nat->Int
 | 0,_=>0
 |k+1,j=>tX (E (m-1-k)) (Kz E m n k) n (n-j)
noncomputable def iY(E:Nat->Nat->Int)(m n i j:Nat):Int:=Kz E m n (m-i) j
theorem zE{E:Nat->Nat->Int}{m n j:Nat}:iY E m n m j=0:=by unfold iY;rw[qcp];rfl
theorem zD{E:Nat->Nat->Int}{m n i j:Nat}(hi:i<m):iY E m n i j=tX (E i) (iY E m n (i+1)) n (n-j):=by
 unfold iY;obtain⟨k,hk⟩:∃k,m-i=k+1:=⟨m-i-1,by omega⟩;rw[hk];show tX (E (m-1-k)) (Kz E m n k) n (n-j)=_;rw[show m-1-k=i by omega,show m-(i+1)=k by omega]
theorem Cg{E:Nat->Nat->Int}{m n i:Nat}(hi:i<=m):iY E m n i n=0:=by
 by_cases h:i<m
 ·rw[zD h,qcp];rfl
 ·rw[show i=m by omega,zE]
theorem KA{E:Nat->Nat->Int}{m n i j:Nat}(hi:i<m)(hj:j<n):iY E m n i j=qB (E i j) (iY E m n (i+1) j) (iY E m n (i+1) (j+1)) (iY E m n i (j+1)):=by
 rw[zD (j:=j) hi,zD (j:=j+1) hi];obtain⟨k,hk⟩:∃k,n-j=k+1:=⟨n-j-1,by omega⟩;rw[hk,show n-(j+1)=k by omega];show qB (E i (n-1-k)) (iY E m n (i+1) (n-1-k)) (iY E m n (i+1) (n-k)) _=_;rw[show n-1-k=j by omega,show n-k=j+1 by omega]
theorem Ml{e b b1 r:Int}:qB e b b1 r<=b/\qB e b b1 r<=r/\(e<=0->qB e b b1 r<=e+b1)/\(qB e b b1 r=e+b1\/qB e b b1 r=b\/qB e b b1 r=r):=by
 unfold qB;split<;>(refine⟨by omega,by omega,by omega,by omega⟩)
theorem OU{E:Nat->Nat->Int}{m n i j:Nat}(hi:i<m)(hj:j<n):iY E m n i j=E i j+iY E m n (i+1) (j+1)\/iY E m n i j=iY E m n (i+1) j\/iY E m n i j=iY E m n i (j+1):=by
 rw[KA hi hj];exact Ml.2.2.2
noncomputable def G0(E:Nat->Nat->Int)(m n i j:Nat):Nat :=
 if i=m then 98 else if j<n/\E i j+iY E m n (i+1) (j+1)=iY E m n i j then 112 else if iY E m n (i+1) j=iY E m n i j then 97 else 98
theorem UA{E:Nat->Nat->Int}{m n i j:Nat}:Pe (G0 E m n i j):=by
 unfold G0 Pe;split
 ·exact .inr (.inr Y)
 ·split
  ·exact .inl Y
  ·split
   ·exact .inr (.inl Y)
   ·exact .inr (.inr Y)
inductive qX(m n i j:Nat):Nat->Nat->Nat->Prop
 |p (hi:i<m) (hj:j<n):qX m n i j 112 (i+1) (j+1)
 |a (hi:i<m):qX m n i j 97 (i+1) j
 |b (hj:j<n):qX m n i j 98 i (j+1)
theorem UB{E:Nat->Nat->Int}{m n i j:Nat}(hi:i<=m)(hj:j<=n)(h:¬(i=m/\j=n)):
  dI λi' j'=>qX m n i j (G0 E m n i j) i' j'/\iY E m n i j=(if G0 E m n i j=112 then E i j else 0)+iY E m n i' j':=by
 unfold G0;by_cases h1:i=m
 ·rw[if_pos h1];refine⟨i,j+1,.b (by omega),?_⟩;rw[h1,zE,zE];rfl
 ·rw[if_neg h1];by_cases h2:j<n/\E i j+iY E m n (i+1) (j+1)=iY E m n i j
  ·rw[if_pos h2];refine⟨i+1,j+1,.p (by omega) h2.1,?_⟩;rw[if_pos rfl];exact h2.2.symm
  ·rw[if_neg h2];by_cases h3:iY E m n (i+1) j=iY E m n i j
   ·rw[if_pos h3];refine⟨i+1,j,.a (by omega),?_⟩;rw[h3];simp
   ·rw[if_neg h3];have hjn:j<n:=by
     by_cases z:j<n
     ·exact z
     ·exfalso;apply h3;rw[show j=n by omega,Cg (by omega),Cg (by omega)]
    refine⟨i,j+1,.b hjn,?_⟩;rcases OU (E:=E) (show i<m by omega) hjn with z|z|z
    ·exact absurd ⟨hjn,z.symm⟩ h2
    ·exact absurd z.symm h3
    ·rw[←z];simp
inductive Path(m n:Nat):List Nat->Nat->Nat->Prop
 |nil:Path m n [] 0 0
 |snoc {cs:List Nat} {i j c i' j':Nat}:Path m n cs i j->qX m n i j c i' j'->Path m n (cs++[c]) i' j'
theorem qX.in{m n i j c i' j':Nat}(h:qX m n i j c i' j')(hi:i<=m)(hj:j<=n):i'<=m/\j'<=n/\i+j<i'+j':=by
 cases h<;>omega
theorem Path.in{m n:Nat}{cs:List Nat}{i j:Nat}(h:Path m n cs i j):i<=m/\j<=n/\cs.length<=i+j:=by
 induction h with
 |nil=>exact⟨T_ _,T_ _,k_ _⟩
 |snoc _ s ih =>
  obtain⟨a,b,c⟩:=s.in ih.1 ih.2.1;refine⟨a,b,?_⟩;rw[o_];have:=ih.2.2;show _+1<=_;omega
theorem qX.stp{m n i j c i' j':Nat}(h:qX m n i j c i' j'):GP.stp ((i:Int),(j:Int)) c=((i':Int),(j':Int)):=by
 cases h<;>rfl
theorem qX.ok{m n i j c i' j':Nat}(h:qX m n i j c i' j'):Pe c:=by
 cases h
 ·exact .inl Y
 ·exact .inr (.inl Y)
 ·exact .inr (.inr Y)
inductive tF(E:Nat->Nat->Int)(m n:Nat):List Nat->Nat->Nat->Prop
 |nil:tF E m n [] 0 0
 |snoc {cs:List Nat} {i j i' j':Nat}:tF E m n cs i j->qX m n i j (G0 E m n i j) i' j'->iY E m n i j=(if G0 E m n i j=112 then E i j else 0)+iY E m n i' j'->tF E m n (cs++[G0 E m n i j]) i' j'
theorem tF.path{E:Nat->Nat->Int}{m n:Nat}{cs:List Nat}{i j:Nat}(h:tF E m n cs i j):Path m n cs i j:=by
 induction h with
 |nil=>exact .nil
 |snoc _ s _ ih=>exact .snoc ih s
noncomputable def pI(cs:List Nat)(k:Nat):Nat:=((cs.take k).filter (· != 98)).length
noncomputable def pJ(cs:List Nat)(k:Nat):Nat:=((cs.take k).filter (· != 97)).length
noncomputable def xr(A B:List r_)(g1 g2:r_)(i j c:Nat):r_:=(if c=98 then g1 else A.getD i ⟨#[]⟩)++(if c=97 then g2 else B.getD j ⟨#[]⟩)
noncomputable def vg(A B:List r_)(g1 g2:r_)(cs:List Nat)(n:Nat):List r_:=(K_ n).map λk=>xr A B g1 g2 (pI cs k) (pJ cs k) (cs.getD k 0)
theorem HH{cs ds:List Nat}{k:Nat}(h:k<=cs.length):pI (cs++ds) k=pI cs k/\pJ (cs++ds) k=pJ cs k:=by
 unfold pI pJ;rw[List.take_append_of_le_length h];exact⟨Y,Y⟩
theorem O2{cs:List Nat}{k c:Nat}(h:cs[k]? =some c):pI cs (k+1)=pI cs k+(if c=98 then 0 else 1)/\pJ cs (k+1)=pJ cs k+(if c=97 then 0 else 1):=by
 unfold pI pJ;rw[List.take_add_one,h];show(List.filter _ (cs.take k++[c])).length=_/\(List.filter _ (cs.take k++[c])).length=_;rw[qcD,qcD,o_,o_];constructor
 ·by_cases e:c=98<;>simp[e]
 ·by_cases e:c=97<;>simp[e]
theorem Path.at_{m n:Nat}{cs:List Nat}{i j:Nat}(h:Path m n cs i j):pI cs cs.length=i/\pJ cs cs.length=j/\∀k,k<cs.length->∃c,cs[k]? =some c/\qX m n (pI cs k) (pJ cs k) c (pI cs (k+1)) (pJ cs (k+1)):=by
 induction h with
 |nil=>exact⟨Y,Y,λk hk=>absurd hk (qbB _)⟩
 | @snoc cs i j c i' j' _ s ih =>
  obtain⟨h1,h2,h3⟩:=ih;have e1:(cs++[c])[cs.length]? =some c:=by rw[qar (k_ _),qcp];rfl
  have e2:=O2 e1;have e3:=HH (cs:=cs) (ds:=[c]) (k_ cs.length);rw[e3.1,e3.2,h1,h2]at e2
  have e4:i'=i+(if c=98 then 0 else 1)/\j'=j+(if c=97 then 0 else 1):=by cases s<;>exact⟨Y,Y⟩
  have el:(cs++[c]).length=cs.length+1:=o_;rw[el];refine⟨e2.1.trans e4.1.symm,e2.2.trans e4.2.symm,λk hk=>?_⟩;by_cases z:k=cs.length
  ·subst z;refine⟨c,e1,?_⟩;rw[e2.1,e2.2,←e4.1,←e4.2,e3.1,e3.2,h1,h2];exact s
  ·have hk':k<cs.length:=by omega
   obtain⟨d,hd,sd⟩:=h3 k hk';refine⟨d,by rw[qau hk'];exact hd,?_⟩;have a1:=HH (cs:=cs) (ds:=[c]) (k:=k) (by omega);have a2:=HH (cs:=cs) (ds:=[c]) (k:=k+1) (by omega);rw[a1.1,a1.2,a2.1,a2.2];exact sd
end
section
noncomputable def De(f:Nat->Int)(L:List Nat):Int:=(L.map f).sum
noncomputable def Ws(L:List Nat):List Nat:=L.filter (· != 45)
noncomputable def Q8(pc:Nat->Nat->Int)(mo:Int)(S O:List Nat):Int:=De (λo=>De (λs=>pc s o-2*mo) S) O
end
section
noncomputable def aR(n:Nat):r_:=⟨(P_ n 45).toArray⟩
theorem w9(n:Nat):(aR n).cps.toList=P_ n 45:=rfl
theorem gp(n:Nat):(aR n).cps.size=n:=by rw[←s_,w9,qaY]
theorem FH(n:Nat):rX (z_ "-") (n:Nat)=aR n:=by
 have e:(rX (z_ "-") (n:Nat)).cps.toList=P_ n 45:=by
  rw[wD];show(P_ n [45]).flatten=_
  induction n with
  |zero=>rfl
  |succ n ih=>rw[qax,qaS,ih,qax];rfl
 rw[←w9 n]at e;have e2:=qcV.mp e;rcases h3:rX (z_ "-") (n:Nat)with⟨cs⟩;rw[h3]at e2;exact congrArg Str.mk e2
structure pO(kn:List Nat)(A:List r_)(n:Nat):Prop where
 size:∀c∈A,c.cps.size=n
 ok:∀c∈A,∀x∈c.cps.toList,O8 x
 of:∀c∈A,∀x∈c.cps.toList,x∈kn
 full:∀c∈A,dO c=false
theorem Mf{x:r_}{c:Nat}(h:kL x=true)(hc:c∈x.cps.toList):O8 c:=by
 by_cases e:c=45
 ·exact .inl e
 ·exact .inr (uy.mp h c hc e)
theorem p9{sg:r_}{rs:List r_}(hb:fk rs=true)(ho:∀r∈rs,Of (La sg) r):pO (La sg).cps.toList (cols rs (dw rs)) rs.length:=by
 unfold fk at hb;rw[qae,qae]at hb;obtain⟨hl,ht,hc⟩:=hb;obtain⟨hne,hw⟩:=cR.mp hl;have key:∀c∈cols rs (dw rs),∀x∈c.cps.toList,∃r∈rs,x∈r.cps.toList:=λc hc x hx=>by
  unfold cols at hc;obtain⟨j,hj,rfl⟩:=O_.mp hc;obtain⟨r,hr,rfl⟩:=O_.mp (show x∈rs.map λr=>r.cps.toList.getD j 0 from hx);have hj':j<r.cps.toList.length:=by rw[s_,hw r hr];exact qav.mp hj
  refine⟨r,hr,?_⟩;rw[cu (e_ hj')];exact Q_ hj'
 refine⟨λc hc=>?_,λc hc x hx=>?_,λc hc x hx=>?_,λc hc'=>?_⟩
 ·unfold cols at hc;obtain⟨j,hj,rfl⟩:=O_.mp hc;exact g_ ..
 ·obtain⟨r,hr,hx⟩:=key c hc x hx;exact Mf (R_.mp ht r hr) hx
 ·obtain⟨r,hr,hx⟩:=key c hc x hx;exact ho r hr x hx
 ·unfold xT at hc;have:=R_.mp hc c hc';rw[qbe]at this;exact this
theorem Km{os:List r_}{N k:Nat}{o:r_}(hs:∀o∈os,o.cps.size=N)(hk:os[k]? =some o):oR (cols os N) k=o.cps.toList:=by
 have ho:=hs o (u_ hk);unfold oR cols;rw[qam];refine qa7 (by rw[g_,qad,s_,ho]) λr h1 h2=>?_;rw[qa8,qbp];show(os.map λx=>x.cps.toList.getD r 0).getD k 0=_;rw[cu (x:=o.cps.toList.getD r 0) (by rw[n_,hk];rfl),cu (e_ h2)]
theorem E5{os:List r_}{N:Nat}(h:0<N):dw (cols os N)=os.length:=by
 obtain⟨M,rfl⟩:∃M,N=M+1:=⟨N-1,by omega⟩;unfold dw cols;rw[List.range_succ_eq_map,qaK];exact g_ ..
theorem MF{os:List r_}{N:Nat}{r:r_}{x:Nat}(hs:∀o∈os,o.cps.size=N)(hr:r∈cols os N)(hx:x∈r.cps.toList):∃o∈os,x∈o.cps.toList:=by
 unfold cols at hr;obtain⟨j,hj,rfl⟩:=O_.mp hr;obtain⟨o,ho,rfl⟩:=O_.mp (show x∈os.map λr=>r.cps.toList.getD j 0 from hx);have hj':j<o.cps.toList.length:=by rw[s_,hs o ho];exact qav.mp hj
 refine⟨o,ho,?_⟩;rw[cu (e_ hj')];exact Q_ hj'
theorem yW{kn:List Nat}{os:List r_}{N:Nat}(hN:0<N)(h:pO kn os N):fk (cols os N)=true/\∀r∈cols os N,∀x∈r.cps.toList,x∈kn:=by
 have hw:=E5 (os:=os) hN;have hl:sQ (cols os N)=true:=by
  refine cR.mpr ⟨λz=>?_,λr hr=>?_⟩
  ·have:=dW (rs:=os) (n:=N);rw[z]at this;have:0=N:=this;omega
  ·rw[hw];unfold cols at hr;obtain⟨j,hj,rfl⟩:=O_.mp hr;exact g_ ..
 refine⟨?_,λr hr x hx=>?_⟩
 ·unfold fk;rw[hl,qcw,qae];refine⟨R_.mpr λr hr=>uy.mpr λc hc hn=>?_,?_⟩
  ·obtain⟨o,ho,hx⟩:=MF h.size hr hc;exact(h.ok o ho c hx).resolve_left hn
  ·unfold xT;rw[hw,R_];intro c hc;obtain⟨k,hk,rfl⟩:=O_.mp (show c∈(K_ os.length).map (lK (cols os N)) from hc);have hk':=qav.mp hk;have e:=Km h.size (e_ hk');have:=h.full _ (Q_ hk');unfold dO at this ⊢;rw[show(lK (cols os N) k).cps.toList=oR (cols os N) k from rfl,e,this];rfl
 ·obtain⟨o,ho,hx⟩:=MF h.size hr hx;exact h.of o ho x hx
theorem NC{a b:r_}:dO (a++b)=(dO a&&dO b):=by
 unfold dO;rw[sr,List.all_append]
section
variable{kn:List Nat}{A B:List r_}{n1 n2:Nat}
theorem getD_mem{i:Nat}(h:i<A.length):A.getD i ⟨#[]⟩∈A:=by
 rw[cu (e_ h)];exact Q_ h
theorem Qd(hA:pO kn A n1)(hB:pO kn B n2)(hk:45∈kn){i j c i' j':Nat}(h:qX A.length B.length i j c i' j'):
  (xr A B (aR n1) (aR n2) i j c).cps.size=n1+n2/\(∀x∈(xr A B (aR n1) (aR n2) i j c).cps.toList,O8 x/\x∈kn)/\dO (xr A B (aR n1) (aR n2) i j c)=false:=by
 have ga:∀n x,x∈(aR n).cps.toList->O8 x/\x∈kn:=λn x hx=>by
  rw[qcv hx];exact⟨.inl Y,hk⟩
 have mk:∀{a b:r_},a.cps.size=n1->b.cps.size=n2->(∀x∈a.cps.toList,O8 x/\x∈kn)->(∀x∈b.cps.toList,O8 x/\x∈kn)->(dO a=false\/dO b=false) →
   (a++b).cps.size=n1+n2/\(∀x∈(a++b).cps.toList,O8 x/\x∈kn)/\dO (a++b)=false:=λ{a b} h1 h2 h3 h4 h5=>by
  refine⟨by rw[rm,h1,h2],λx hx=>?_,?_⟩
  ·rw[sr]at hx;exact(S_.mp hx).elim (h3 x) (h4 x)
  ·rw[NC];rcases h5 with h5|h5<;>rw[h5]
   ·rfl
   ·rw[qcg]
 unfold xr
 cases h with
 |p hi hj =>
  rw[if_neg (by decide),if_neg (by decide)];exact mk (hA.size _ (getD_mem hi)) (hB.size _ (getD_mem hj)) (λx hx=>⟨hA.ok _ (getD_mem hi) x hx,hA.of _ (getD_mem hi) x hx⟩) (λx hx=>⟨hB.ok _ (getD_mem hj) x hx,hB.of _ (getD_mem hj) x hx⟩) (.inl (hA.full _ (getD_mem hi)))
 |a hi =>
  rw[if_neg (by decide),if_pos rfl];exact mk (hA.size _ (getD_mem hi)) (gp _) (λx hx=>⟨hA.ok _ (getD_mem hi) x hx,hA.of _ (getD_mem hi) x hx⟩) (ga n2) (.inl (hA.full _ (getD_mem hi)))
 |b hj =>
  rw[if_pos rfl,if_neg (by decide)];exact mk (gp _) (hB.size _ (getD_mem hj)) (ga n1) (λx hx=>⟨hB.ok _ (getD_mem hj) x hx,hB.of _ (getD_mem hj) x hx⟩) (.inr (hB.full _ (getD_mem hj)))
theorem Path.cols(hA:pO kn A n1)(hB:pO kn B n2)(hk:45∈kn){cs:List Nat}{i j:Nat}(h:Path A.length B.length cs i j):pO kn (vg A B (aR n1) (aR n2) cs cs.length) (n1+n2):=by
 have key:∀o∈vg A B (aR n1) (aR n2) cs cs.length,o.cps.size=n1+n2/\(∀x∈o.cps.toList,O8 x/\x∈kn)/\dO o=false:=λo ho=>by
  unfold vg at ho;obtain⟨k,hk',rfl⟩:=O_.mp ho;obtain⟨c,hc,s⟩:=h.at_.2.2 k (qav.mp hk');rw[cu hc];exact Qd hA hB hk s
 exact⟨λo ho=>(key o ho).1,λo ho x hx=>((key o ho).2.1 x hx).1,λo ho x hx=>((key o ho).2.1 x hx).2,λo ho=>(key o ho).2.2⟩
end
end
end GP
namespace L2
open PySem PySem.Spec PyProof.Rows
section
noncomputable def YN(K:PySem.W.Frag)(a:h_)(n:Nat):It :=
 ⟨λi H=>dI λxs x=>bD K H a xs/\i<n/\xs[n-1-i]? =some x,λi H x H'=>H'=H/\∀xs,bD K H a xs->xs[n-1-i]? =some x,λi _=>n<=i⟩
theorem L8{P:A_}{w:U_}{K:PySem.W.Frag}{tg:Expr}(a it:h_)(n:Nat):Turn P w K tg (YN K a n) [it] it (λi h=>i<=n/\h.IsRevIter it a ((n:Int)-1-(i:Int))) where
 mem:=by simp
 obj:=λi h st b hb=>by
  have e:b=it:=by simpa using hb
  subst e;obtain⟨o,e,c,d⟩:=st.2;exact⟨o,e,λv z=>by rw[d]at z;cases z⟩
 keep:=λi h h' st k=>⟨st.1,st.2.at λo e=>k it (by simp) o e⟩
 item:=by
  intro X hP hw hK hc i pins s σ H E I hf st hg;subst hP hw hK;obtain⟨xs,x,hq,hi,hx⟩:=hg;obtain⟨its,rv,p,hz⟩:=I.list hq;obtain⟨u,hu,ru⟩:=rv.get hx;obtain⟨f0,f1,f2,f3,f4,f5⟩:=hf it (by simp);have st':s.heap.IsRevIter it a ((n-1-i:Nat):Int):=by
   rw[show((n-1-i:Nat):Int)=(n:Int)-1-(i:Int) by omega];exact st.2
  refine wpAny_pyNext_rev_item st' p.isList (x:=u) (by simpa using hu) λh' st' sb=>?_;have I1:Inv X pins σ H { s with heap:=h' }:=I.turned (t':=s.toks) (λb o hb e=>(sb.2 b hb).trans e) f0 f1 f3 f4 f5;obtain⟨o,e,c,d⟩:=id st';refine⟨u,Y,Cv (s:={ s with heap:=h' }) e c d (by decide) ⟨x,H,I1,ru,⟨Y,λys hy=>by rw[I.Ag hy hq];exact hx⟩,⟨by omega,?_⟩,λb hb=>(hf b hb).1⟩⟩;rw[show(n:Int)-1-((i+1:Nat):Int)=((n-1-i:Nat):Int)-1 by omega];exact st'
 done:=by
  intro X hP hw hK hc i pins s σ H E I hf st hg;subst hP hw hK;obtain⟨f0,f1,f2,f3,f4,f5⟩:=hf it (by simp);have hg':n<=i:=hg;have st':s.heap.IsRevIter it a (-1):=by
   rw[show(-1:Int)=(n:Int)-1-(i:Int) by have:=st.1;omega];exact st.2
  exact wpAny_pyNext_rev_end (I.ok.hd hc) st' λh' eb=>⟨Y,I.turned (t':=s.toks) (λb o hb e=>eb b o hb e) f0 f1 f3 f4 f5⟩
 self:=λ_ _ _ _ _ st h=>wpAny_pyIter_revIter st.2 h
def acn(K:PySem.W.Frag)(ta:TA):TI:=λσ H R=>ta σ H λvs H1=>dI λa xs=>vs=[.ref a]/\bD K H1 a xs/\R (YN K a xs.length) H1
theorem boot_reversed:bootBuiltins "reversed" =some (.type "reversed"):=by decide +kernel
theorem Um {X:Cx}{tg a:Expr}{ta:TA}{p pos:qcq}(hg:Gl X "reversed")(hm:X.mg "reversed" =none)(ha:PA X [a] ta)(hs:qac [a] X.env=[(false,eval a X.env)]:=by rfl):PI X tg (.Call (.Name "reversed" p) [a] [] pos) (acn X.K ta):=by
 intro pins s σ H R I h;refine Call_ (qm I hg hm boot_reversed (qaL (gg (ha pos pins s σ H _ I h) λus s1 ⟨vs,H1,I1,r1,q1⟩=>?_) hs Y));obtain⟨l,xs,rfl,hq,q⟩:=q1;obtain⟨u,rfl,ru⟩:=vals1 r1;cases ru;obtain⟨its,rv,pl,hz⟩:=I1.list hq;have hl:s1.heap.IsList l its.toArray:=pl.isList;have hlen:=rv.length;refine call_reversed_list hl ?_;have e0:({ s1 with heap:=s1.heap.push (revObj l ((its.toArray.size:Int)-1)) }:l_).heap.IsRevIter s1.heap.objs.size l ((xs.length:Int)-1-((0:Nat):Int)) :=
  ⟨_,B_ _ rfl,rfl,by rw[show(xs.length:Int)-1-((0:Nat):Int)=(its.toArray.size:Int)-1 by rw[v_];omega];rfl⟩
 refine wpAny_pyIter_revIter e0 ?_;refine⟨s1.heap.objs.size,[s1.heap.objs.size],_,_,H1,Y,I1.kept (t':=s1.toks) λb o e=>j_ _ e,L8 l _ xs.length,⟨T_ _,e0⟩,λb hb=>?_,q⟩;have e:b=s1.heap.objs.size:=by simpa using hb
 subst e;exact I1.xg (k_ _) (I1.hok.fresh (k_ _))
end
section
theorem HK{X:Cx}(hu:X.A.units+1<cLine):rZ X (compareOp .NotIn) (λx y H Q=>dI λa o=>y= .ref a/\uc H a x o/\Q (.bl (!o.isSome)) H):=by
 intro pins s σ H x y u v Q I rx ry h;obtain⟨a,o,rfl,g,q⟩:=h;cases (show v=Value.ref a from ry);exact Qa hu I g rx λs3 I3=>⟨.bl (!o.isSome),H,I3,Y,q⟩
theorem P0{K:PySem.W.Frag}{a:h_}{xs:List V}{g:TG}{tb:TS}{D:Ends}{σ:St}{H:Hp}(Pv:Nat->St->Hp->Prop)(h0:Pv 0 σ H)(hl:∀i σ H,i<xs.length->Pv i σ H->bD K H a xs)
  (hs:∀i x σ H,i<xs.length->xs[xs.length-1-i]? =some x->Pv i σ H->g x σ H λσ2 H2=>tb { D with nx:=Pv (i+1),ct:=Pv (i+1),bk:=D.nx } σ2 H2) (hd:∀ σ H,Pv xs.length σ H->D.nx σ H) :
  ∃W:Nat->Nat->St->Hp->Prop,(∃m,W 0 m σ H)/\∀i m σ H,W i m σ H →
   ((YN K a xs.length).stop i H/\D.nx σ H)\/((YN K a xs.length).go i H/\∃N:St->Hp->Prop,(∀ σ' H',N σ' H'->∃m',m'<m/\W (i+1) m' σ' H')/\∀x H',(YN K a xs.length).ET i H x H'->g x σ H' λσ2 H2=>tb { D with nx:=N,ct:=N,bk:=D.nx } σ2 H2):=by
 refine⟨λi m σ H=>m=xs.length-i/\i<=xs.length/\Pv i σ H,⟨xs.length,by simp,T_ _,h0⟩,?_⟩;rintro i m σ H ⟨rfl,hi,p⟩;by_cases hlt:i<xs.length
 ·have hx:xs[xs.length-1-i]? =some xs[xs.length-1-i]:=e_ (by omega);refine .inr ⟨⟨xs,_,hl i σ H hlt p,hlt,hx⟩,Pv (i+1),λσ' H' p'=>⟨xs.length-(i+1),by omega,Y,hlt,p'⟩,λx H' y=>?_⟩;obtain⟨e,y⟩:=y;subst e;exact hs i x σ _ hlt (y xs (hl i σ _ hlt p)) p
 ·have e:i=xs.length:=by omega
  subst e;exact .inl ⟨k_ _,hd σ H p⟩
end
end L2
namespace GP
open PySem L2 lN
theorem dD{α β:Type}{d:α}(l:List α)(F:α->β):(K_ l.length).map (λj=>F (l.getD j d))=l.map F:=by
 refine qa7 (by simp) λi h1 h2=>?_;have hi:i<l.length:=by simpa using h2
 rw[qa8,qa8,qbp,cu (e_ hi)]
theorem Js{P:Nat->h_->Prop}{f:Nat->V}:∀{m:Nat},(∀j,j<m->∃r,f j= .ref r/\P j r)->∃rs:List h_,rs.length=m/\(K_ m).map f=rs.map V.ref/\∀i r,rs[i]? =some r->P i r
 | 0,_=>⟨[],rfl,rfl,λi r h=>by simp at h⟩
 |m+1,h=>by
  obtain⟨rs,h1,h2,h3⟩:=Js (m:=m) λj hj=>h j (by omega);obtain⟨r,e,hr⟩:=h m (qbM _);refine⟨rs++[r],by rw[o_,h1];rfl,by rw[qbz,N_,h2,N_,List.map_singleton,e];rfl,λi q hq=>?_⟩;by_cases z:i<rs.length
  ·rw[qau z]at hq;exact h3 i q hq
  ·rw[qar (by omega)]at hq;have ei:i=m:=by
    have:=(p_.mp hq).1;have:i-rs.length<1:=this;omega
   subst ei;rw[h1,qcp]at hq;cases hq;exact hr
theorem Ky{α:Type}(F:Nat->α)(n:Nat):((K_ (n+1)).map F).reverse=(K_ (n+1)).map λj=>F (n-j):=by
 refine qa7 (by simp) λi h1 h2=>?_;rw[List.getElem_reverse,qa8,qa8,qbp,qbp];have e:((K_ (n+1)).map F).length-1-i=n-i:=by simp
 rw[e]
theorem iZ{α:Type}{F:Nat->α}{n j:Nat}(h:j<n):((K_ n).map F)[j]? =some (F j):=by
 rw[n_,qct h];rfl
theorem uH{α:Type}{F:Nat->α}{n:Nat}:(K_ (n+1)).map F=(K_ n).map F++[F n]:=by
 rw[qbz,N_];rfl
noncomputable def t8(rows:List (List cJ))(fo fm:cJ):Int:=fm.1*(bE fo.2 fm.2 rows / fm.2)
noncomputable def Nx(mo:Int)(c:r_)(n:Nat):Int:=((Ws c.cps.toList).length:Int)*(n:Int)*mo
def tu(H:Hp)(l:h_)(m n:Nat)(f:Nat->Nat->Int):Prop :=
 ∃rs:List h_,rs.length=m/\H l=some (.lst (rs.map V.ref))/\∀i r,rs[i]? =some r->H r=some (.lst ((K_ n).map λj=>V.int (f i j)))
theorem tu.same{H H':Hp}{l:h_}{m n:Nat}{f:Nat->Nat->Int}(h:tu H l m n f)(e:ai H H'):tu H' l m n f:=by
 obtain⟨rs,h1,h2,h3⟩:=h;exact⟨rs,h1,e _ _ h2,λi r hr=>e _ _ (h3 i r hr)⟩
noncomputable def yN(pc:Nat->Nat->Int)(mo:Int)(A B:List r_)(i j:Nat):Int:=Q8 pc mo (Ws (A.getD i ⟨#[]⟩).cps.toList) (Ws (B.getD j ⟨#[]⟩).cps.toList)
noncomputable abbrev y1(l1:h_):List (r_×V):=aK "ones" (.ref l1) []
noncomputable abbrev y2(l1 l2:h_):=aK "others" (.ref l2) (y1 l1)
noncomputable abbrev y3(l1 l2:h_)(g1:r_):=aK "one_gaps" (.str g1) (y2 l1 l2)
noncomputable abbrev y4(l1 l2:h_)(g1 g2:r_):=aK "other_gaps" (.str g2) (y3 l1 l2 g1)
noncomputable abbrev y5(l1 l2:h_)(g1 g2:r_)(a:h_):=aK "by_a" (.ref a) (y4 l1 l2 g1 g2)
noncomputable abbrev y6(l1 l2:h_)(g1 g2:r_)(a b:h_):=aK "by_b" (.ref b) (y5 l1 l2 g1 g2 a)
noncomputable abbrev y7(l1 l2:h_)(g1 g2:r_)(a b e:h_):=aK "extras" (.ref e) (y6 l1 l2 g1 g2 a b)
noncomputable def jF(l1 l2:h_)(g1 g2:r_)(a b e r:h_):List (r_×V):=aK "rests" (.ref r) (y7 l1 l2 g1 g2 a b e)
def VC(C:h_)(H:Hp)(jn:h_)(A B:List r_)(n1 n2:Nat)(pc:Nat->Nat->Int)(mo:Int):Prop :=
 Vx λdx l1 l2 a b e r=>H jn=some (.ins C dx (jF l1 l2 (aR n1) (aR n2) a b e r))/\H l1=some (.lst (A.map V.str))/\H l2=some (.lst (B.map V.str)) ∧
  H a=some (.lst (A.map λc=>V.int (Nx mo c n2)))/\H b=some (.lst (B.map λc=>V.int (Nx mo c n1)))/\tu H e A.length B.length (yN pc mo A B)/\tu H r (A.length+1) (B.length+1) (iY (yN pc mo A B) A.length B.length)
theorem VC.same{C:h_}{H H':Hp}{jn:h_}{A B:List r_}{n1 n2:Nat}{pc:Nat->Nat->Int}{mo:Int}(h:VC C H jn A B n1 n2 pc mo)(s:ai H H'):VC C H' jn A B n1 n2 pc mo:=by
 obtain⟨dx,l1,l2,a,b,e,r,h1,h2,h3,h4,h5,h6,h7⟩:=h;exact⟨dx,l1,l2,a,b,e,r,s _ _ h1,s _ _ h2,s _ _ h3,s _ _ h4,s _ _ h5,h6.same s,h7.same s⟩
theorem K9{f:r_}{v:V}{fs:List (r_×V)}:(aK f v fs).lookup f=some v:=by rw[aA,if_pos rfl]
theorem qk{f g:r_}{u:V}{r:Option V}{fs:List (r_×V)}(h:fs.lookup f=r)(n:¬f=g):(aK g u fs).lookup f=r:=by rw[aA,if_neg n];exact h
section
variable{l1 l2 a b e r:h_}{g1 g2:r_}
theorem Gd:(jF l1 l2 g1 g2 a b e r).lookup ("rests" :r_)=some (.ref r):=K9
theorem Lf:(jF l1 l2 g1 g2 a b e r).lookup ("extras" :r_)=some (.ref e):=qk (K9) (by decide +kernel)
theorem uq:(jF l1 l2 g1 g2 a b e r).lookup ("other_gaps" :r_)=some (.str g2):=qk (qk (qk (qk (K9) (by decide +kernel)) (by decide +kernel)) (by decide +kernel)) (by decide +kernel)
theorem xP:(jF l1 l2 g1 g2 a b e r).lookup ("one_gaps" :r_)=some (.str g1):=qk (qk (qk (qk (qk (K9) (by decide +kernel)) (by decide +kernel)) (by decide +kernel)) (by decide +kernel)) (by decide +kernel)
theorem wY:(jF l1 l2 g1 g2 a b e r).lookup ("others" :r_)=some (.ref l2):=qk (qk (qk (qk (qk (qk (K9) (by decide +kernel)) (by decide +kernel)) (by decide +kernel)) (by decide +kernel)) (by decide +kernel)) (by decide +kernel)
theorem DX:(jF l1 l2 g1 g2 a b e r).lookup ("ones" :r_)=some (.ref l1):=qk (qk (qk (qk (qk (qk (qk (K9) (by decide +kernel)) (by decide +kernel)) (by decide +kernel)) (by decide +kernel)) (by decide +kernel)) (by decide +kernel)) (by decide +kernel)
end
theorem tu.congr{H:Hp}{l:h_}{m n:Nat}{f g:Nat->Nat->Int}(h:tu H l m n f)(e:∀i j,i<m->j<n->f i j=g i j):tu H l m n g:=by
 obtain⟨rs,h1,h2,h3⟩:=h;refine⟨rs,h1,h2,λi r hr=>?_⟩;have hi:i<m:=by rw[←h1];exact(p_.mp hr).1
 rw[h3 i r hr];congr 2;exact qbI λj hj=>by rw[e i j hi (qav.mp hj)]
theorem lM.Rn{K:PySem.W.Frag}{C CJ jn dj:h_}{H:Hp}{x:h_}{sg:r_}{rows:List (List cJ)}{fo fm:cJ}(hj:H jn=some (.ins CJ dj []))(h:lM K C H x sg rows fo fm):lM K C (Wo jn H) x sg rows fo fm:=by
 have D:Dat H (Wo jn H):=λb u n e=>Wo.in (λz=>by rw[z,hj]at e;exact n _ _ _ (qaa e).symm) e;obtain⟨a,b,c,d,f,g,i,dx,P,o,m,dd,kvs,h1,h2,h3,h4,h5,h6,fs,h7,h8,h9⟩:=h;refine⟨a,b,c,d,f,g,i,dx,P,o,m,dd,kvs,Wo.in (λz=>?_) h1,h2.dat D,h3.dat D,h4.dat D,D _ _ (λ_ _ _ z=>by cases z) h5,h6,fs,h7,h8,D _ _ (λ_ _ _ z=>by cases z) h9⟩;rw[z,hj]at h1;have e:=HO.ins.inj (qaa h1);have e2:=congrArg (λl=>qbT ("factors" :r_) l) e.2.2;rw[rG]at e2;cases e2
theorem yP.Rn{K:PySem.W.Frag}{C CJ jn dj:h_}{H:Hp}{b:h_}{rs:List r_}(hj:H jn=some (.ins CJ dj []))(h:yP K C H b rs):yP K C (Wo jn H) b rs:=by
 have D:Dat H (Wo jn H):=λb u n e=>Wo.in (λz=>by rw[z,hj]at e;exact n _ _ _ (qaa e).symm) e;obtain⟨dx,q,h1,h2⟩:=h;refine⟨dx,q,Wo.in (λz=>?_) h1,Dat.tup D h2⟩;rw[z,hj]at h1;have e:=HO.ins.inj (qaa h1);have e2:=congrArg (λl=>qbT ("rows" :r_) l) e.2.2;rw[K9]at e2;cases e2
theorem B7{sg c:r_}(h:∀x∈c.cps.toList,x∈(La sg).cps.toList):Of sg (bV 45 c):=λx hx=>by
 obtain⟨h1,h2⟩:=qcx.mp (show x∈c.cps.toList.filter (· != 45) from hx);exact(yK.mp (h x h1)).resolve_left (by simpa using h2)
theorem yY{c:r_}{n:Nat}(h:c.cps.size<=n):(bV 45 c).cps.size<=n:=m_ (qbq _ _) (by rw[s_];exact h)
theorem xE{cs:List r_}{i:Nat}(h:i<cs.length):(cs.map (bV 45)).getD i ⟨#[]⟩=bV 45 (cs.getD i ⟨#[]⟩):=by
 rw[cu (e_ h),cu (by rw[n_,e_ h];rfl)]
theorem tu.Rn{C jn dj:h_}{fs:List (r_×V)}{H:Hp}{l:h_}{m n:Nat}{f:Nat->Nat->Int}(hj:H jn=some (.ins C dj fs))(h:tu H l m n f):tu (Wo jn H) l m n f:=by
 have ni:∀{l:h_} {xs:List V},H l=some (.lst xs)->l≠jn:=λh2 z=>by rw[z,hj]at h2;cases h2
 obtain⟨rs,h1,h2,h3⟩:=h;exact⟨rs,h1,Wo.in (ni h2) h2,λi r hr=>Wo.in (ni (h3 i r hr)) (h3 i r hr)⟩
theorem tu.at_{H:Hp}{l:h_}{m n:Nat}{f:Nat->Nat->Int}(h:tu H l m n f):∃L:List V,H l=some (.lst L)/\L.length=m/\∀i,i<m->∃r,L[i]? =some (.ref r)/\H r=some (.lst ((K_ n).map λj=>V.int (f i j))):=by
 obtain⟨rs,h1,h2,h3⟩:=h;refine⟨_,h2,by rw[g_,h1],λi hi=>?_⟩;have hi':i<rs.length:=by omega
 exact⟨rs[i],by rw[n_,e_ hi'];rfl,h3 i _ (e_ hi')⟩
theorem P9{i j:Int}[Decidable (V.int i=V.int j)]:decide (V.int i=V.int j)=decide (i=j):=by
 by_cases h:i=j
 ·rw[decide_eq_true h,decide_eq_true (by rw[h])]
 ·rw[decide_eq_false h,decide_eq_false λz=>h (V.int.inj z)]
theorem Ma{a b c d:Int}:n8 [V.int a,V.int b] [V.int c,V.int d]=decide (a=c/\b=d):=by
 by_cases h:a=c/\b=d
 ·rw[decide_eq_true h,h.1,h.2];exact OJ c d
 ·rw[decide_eq_false h];by_cases h1:a=c
  ·have h2:¬b=d:=λz=>h ⟨h1,z⟩;simp[n8,K_,List.range.loop,JM,h1,h2]
  ·simp[n8,K_,List.range.loop,JM,h1]
def Qq(rs:List r_):Prop:=rs.length<=40/\∀r∈rs,r.cps.size<=50
theorem Qq.sm{rs:List r_}(h:Qq rs):Ob rs:=⟨m_ h.1 (by decide),λy hy=>m_ (h.2 y hy) (by decide)⟩
theorem Qq.dw{rs:List r_}(h:Qq rs)(hl:sQ rs=true):dw rs<=50:=by
 obtain⟨hne,hw⟩:=cR.mp hl;obtain⟨r0,hr0⟩:=qcs rs hne;rw[←hw r0 hr0];exact h.2 r0 hr0
def Ys(K:PySem.W.Frag)(C:h_)(x:h_)(sg:r_)(rows:List (List cJ))(fo fm:cJ)(c:r_)(n:Nat)(H:Hp)(Q:VK):Prop:=lM K C H x sg rows fo fm/\c.cps.size<=1000/\n<=1000/\Q (.int (Nx (t8 rows fo fm) c n)) H
def Mu(K:PySem.W.Frag)(C:h_):Sp:=λvs H Q _=>Vx λ(x:h_) (sg:r_) (rows:List (List cJ)) (fo fm:cJ) (c:r_) (n:Nat)=>vs=[.ref x,.str c,.int n]/\Ys K C x sg rows fo fm c n H Q
def Vu(K:PySem.W.Frag)(C:h_)(x l:h_)(sg:r_)(rows:List (List cJ))(fo fm:cJ)(cs:List r_)(n:Nat)(H:Hp)(Q:VK):Prop:=lM K C H x sg rows fo fm/\H l=some (.lst (cs.map V.str))/\cs.length<=1000/\(∀c∈cs,c.cps.size<=1000)/\n<=1000 ∧
 ∀l' H',ai H H'->H l'=none->H' l'=some (.lst (cs.map λc=>V.int (Nx (t8 rows fo fm) c n)))->Q (.ref l') H'
def Jk(K:PySem.W.Frag)(C:h_):Sp:=λvs H Q _=>V0 λ(x l:h_) (sg:r_) (rows:List (List cJ)) (fo fm:cJ) (cs:List r_) (n:Nat)=>vs=[.ref x,.ref l,.int n]/\Vu K C x l sg rows fo fm cs n H Q
def Yr(K:PySem.W.Frag)(C:h_)(x:h_)(sg:r_)(rows:List (List cJ))(fo fm:cJ)(S:r_)(H:Hp)(Q:VK):Prop:=lM K C H x sg rows fo fm/\Of sg S/\S.cps.size<=1000 ∧
 ∀(d:h_) H' (kvs:List (Key×V)),ai H H'->H d=none->H' d=some (.dK kvs)->(∀o∈sg.cps.toList,iL kvs (.inr ⟨#[o]⟩)=some (.int (De (λs=>xM sg rows (bE fo.2 fm.2 rows) s o-2*t8 rows fo fm) S.cps.toList)))->Q (.ref d) H'
def Mp(K:PySem.W.Frag)(C:h_):Sp:=λvs H Q _=>LL λ(x:h_) (sg:r_) (rows:List (List cJ)) (fo fm:cJ) (S:r_)=>vs=[.ref x,.str S]/\Yr K C x sg rows fo fm S H Q
def adI(K:PySem.W.Frag)(C:h_)(x l:h_)(sg:r_)(rows:List (List cJ))(fo fm:cJ)(S:r_)(os:List r_)(H:Hp)(Q:VK):Prop:=lM K C H x sg rows fo fm/\Of sg S/\S.cps.size<=1000/\H l=some (.lst (os.map V.str))/\os.length<=1000/\(∀o∈os,Of sg o/\o.cps.size<=1000) ∧
 ∀l' H',ai H H'->H l'=none->H' l'=some (.lst (os.map λo=>V.int (Q8 (xM sg rows (bE fo.2 fm.2 rows)) (t8 rows fo fm) S.cps.toList o.cps.toList)))->Q (.ref l') H'
def QD(K:PySem.W.Frag)(C:h_):Sp:=λvs H Q _=>V0 λ(x l:h_) (sg:r_) (rows:List (List cJ)) (fo fm:cJ) (S:r_) (os:List r_)=>vs=[.ref x,.str S,.ref l]/\adI K C x l sg rows fo fm S os H Q
def adJ(K:PySem.W.Frag)(C:h_)(x l1 l2:h_)(sg:r_)(rows:List (List cJ))(fo fm:cJ)(ss os:List r_)(H:Hp)(Q:VK):Prop:=lM K C H x sg rows fo fm/\H l1=some (.lst (ss.map V.str))/\ss.length<=1000/\(∀o∈ss,Of sg o/\o.cps.size<=1000)/\H l2=some (.lst (os.map V.str))/\os.length<=1000/\(∀o∈os,Of sg o/\o.cps.size<=1000) ∧
 ∀l' H',ai H H'->H l'=none->tu H' l' ss.length os.length (λi j=>Q8 (xM sg rows (bE fo.2 fm.2 rows)) (t8 rows fo fm) (ss.getD i ⟨#[]⟩).cps.toList (os.getD j ⟨#[]⟩).cps.toList)->Q (.ref l') H'
def QE(K:PySem.W.Frag)(C:h_):Sp:=λvs H Q _=>VZ λ(x l1 l2:h_) (sg:r_) (rows:List (List cJ)) (fo fm:cJ) (ss os:List r_)=>vs=[.ref x,.ref l1,.ref l2]/\adJ K C x l1 l2 sg rows fo fm ss os H Q
def Vw(l b:h_)(n:Nat)(f g:Nat->Int)(H:Hp)(Q:VK):Prop:=H l=some (.lst ((K_ n).map λj=>V.int (f j)))/\H b=some (.lst ((K_ (n+1)).map λj=>V.int (g j)))/\n<=1000 ∧
 ∀l' H',ai H H'->H l'=none->H' l'=some (.lst ((K_ (n+1)).map λj=>V.int (tX f g n (n-j))))->Q (.ref l') H'
def Jq:Sp:=λvs H Q _=>EW λ(l b:h_) (n:Nat) (f g:Nat->Int)=>vs=[.ref l,.ref b]/\Vw l b n f g H Q
def Vs(l:h_)(m n:Nat)(E:Nat->Nat->Int)(H:Hp)(Q:VK):Prop:=tu H l m n E/\m<=1000/\n<=1000 ∧
 ∀l' H',ai H H'->H l'=none->tu H' l' (m+1) (n+1) (iY E m n)->Q (.ref l') H'
def Jg:Sp:=λvs H Q _=>t9 λ(l:h_) (m n:Nat) (E:Nat->Nat->Int)=>vs=[.ref l,.int n]/\Vs l m n E H Q
def Vt(K:PySem.W.Frag)(C CB CJ X:h_)(jn dx x o1 o2:h_)(sg:r_)(rows:List (List cJ))(fo fm:cJ)(r1 r2:List r_)(H:Hp)(Q:VK)(E:XK):Prop:=H jn=some (.ins CJ dx [])/\lM K C H x sg rows fo fm/\yP K CB H o1 r1/\yP K CB H o2 r2/\Qq r1/\Qq r2/\fk r1=true/\fk r2=true ∧
 ((∀r∈r1++r2,Of (La sg) r)->∀H',(∀a u,H a=some u->a≠jn->H' a=some u)->VC CJ H' jn (cols r1 (dw r1)) (cols r2 (dw r2)) r1.length r2.length (xM sg rows (bE fo.2 fm.2 rows)) (t8 rows fo fm)->Q .gE H') ∧
 (∀i j,yC (La sg) (r1++r2) i j->∀dx H',(∀a u,H a=some u->a≠jn->H' a=some u)->H' dx=some (AY dx (BD i j))->E (.ref X) (some dx) H')
def Jh(K:PySem.W.Frag)(C CB CJ X:h_):Sp:=λvs H Q E=>Yz λ(jn dx x o1 o2:h_) (sg:r_) (rows:List (List cJ)) (fo fm:cJ) (r1 r2:List r_)=>vs=[.ref jn,.ref x,.ref o1,.ref o2]/\Vt K C CB CJ X jn dx x o1 o2 sg rows fo fm r1 r2 H Q E
def Yt(K:PySem.W.Frag)(CJ:h_)(jn:h_)(A B:List r_)(n1 n2:Nat)(pc:Nat->Nat->Int)(mo:Int)(i j:Nat)(H:Hp)(Q:VK):Prop:=VC CJ H jn A B n1 n2 pc mo/\A.length<=400/\B.length<=400/\i<=A.length/\j<=B.length ∧
 Q (.str ⟨#[G0 (yN pc mo A B) A.length B.length i j]⟩) H
def Mv(K:PySem.W.Frag)(CJ:h_):Sp:=λvs H Q _=>VZ λ(jn:h_) (A B:List r_) (n1 n2:Nat) (pc:Nat->Nat->Int) (mo:Int) (i j:Nat)=>vs=[.ref jn,.int i,.int j]/\Yt K CJ jn A B n1 n2 pc mo i j H Q
def Vv(K:PySem.W.Frag)(CJ:h_)(jn:h_)(A B:List r_)(n1 n2:Nat)(pc:Nat->Nat->Int)(mo:Int)(H:Hp)(Q:VK):Prop:=VC CJ H jn A B n1 n2 pc mo/\A.length<=400/\B.length<=400 ∧
 ∀l H' cs,ai H H'->H l=none->H' l=some (.lst (cs.map sg))->tF (yN pc mo A B) A.length B.length cs A.length B.length->Q (.ref l) H'
def Jl(K:PySem.W.Frag)(CJ:h_):Sp:=λvs H Q _=>Vx λ(jn:h_) (A B:List r_) (n1 n2:Nat) (pc:Nat->Nat->Int) (mo:Int)=>vs=[.ref jn]/\Vv K CJ jn A B n1 n2 pc mo H Q
def Vr(K:PySem.W.Frag)(l1 l2 lm:h_)(A B:List r_)(g1 g2:r_)(cs:List Nat)(i j:Nat)(H:Hp)(Q:VK):Prop:=H l1=some (.lst (A.map V.str))/\H l2=some (.lst (B.map V.str))/\H lm=some (.lst (cs.map sg))/\A.length<=400/\B.length<=400/\(∀c∈A,c.cps.size<=1000)/\(∀c∈B,c.cps.size<=1000)/\g1.cps.size<=1000/\g2.cps.size<=1000/\Path A.length B.length cs i j ∧
 ∀l H',ai H H'->H l=none->H' l=some (.lst ((vg A B g1 g2 cs cs.length).map V.str))->Q (.ref l) H'
def Jf(K:PySem.W.Frag):Sp:=λvs H Q _=>Qn λ(l1 l2 lm:h_) (A B:List r_) (g1 g2:r_) (cs:List Nat) (i j:Nat)=>vs=[.ref l1,.ref l2,.str g1,.str g2,.ref lm]/\Vr K l1 l2 lm A B g1 g2 cs i j H Q
structure JOk(kn:List Nat)(A B:List r_)(n1 n2:Nat):Prop where
 a:pO kn A n1
 b:pO kn B n2
 la:A.length<=50
 lb:B.length<=50
 s1:n1<=40
 s2:n2<=40
 p1:0<n1
 kn:45∈kn
def Ji(K:PySem.W.Frag)(CB CJ:h_):Sp:=λvs H Q _=>V0 λ(jn:h_) (A B:List r_) (n1 n2:Nat) (pc:Nat->Nat->Int) (mo:Int) (kn:List Nat)=>vs=[.ref jn]/\VC CJ H jn A B n1 n2 pc mo/\JOk kn A B n1 n2 ∧
 ∀b H' cs,ai H H'->H b=none->tF (yN pc mo A B) A.length B.length cs A.length B.length->yP K CB H' b (cols (vg A B (aR n1) (aR n2) cs cs.length) (n1+n2))->Q (.ref b) H'
def Ql(K:PySem.W.Frag)(C CB:h_)(x o1 o2:h_)(sg:r_)(rows:List (List cJ))(fo fm:cJ)(r1 r2:List r_)(H:Hp)(Q:VK):Prop:=lM K C H x sg rows fo fm/\yP K CB H o1 r1/\yP K CB H o2 r2/\Qq r1/\Qq r2/\fk r1=true/\fk r2=true/\(∀r∈r1++r2,Of (La sg) r) ∧
 ∀b H' cs,ai H H'->H b=none->tF (yN (xM sg rows (bE fo.2 fm.2 rows)) (t8 rows fo fm) (cols r1 (dw r1)) (cols r2 (dw r2))) (dw r1) (dw r2) cs (dw r1) (dw r2)->yP K CB H' b (cols (vg (cols r1 (dw r1)) (cols r2 (dw r2)) (aR r1.length) (aR r2.length) cs cs.length) (r1.length+r2.length))->Q (.ref b) H'
def zl(K:PySem.W.Frag)(C CB:h_):Sp:=λvs H Q _=>VZ λ(x o1 o2:h_) (sg:r_) (rows:List (List cJ)) (fo fm:cJ) (r1 r2:List r_)=>vs=[.ref x,.ref o1,.ref o2]/\Ql K C CB x o1 o2 sg rows fo fm r1 r2 H Q
end GP
namespace L2
open PySem PySem.Spec PyProof.Rows
end L2
namespace GP
open PySem L2 lN
section
section
variable{sg:r_}{rows:List (List cJ)}{fo fm:cJ}{r1 r2:List r_}
end
end
section
section
variable{K:PySem.W.Frag}{CP CB:h_}{H H' yO:Hp}{t x a1 a2 o1 o2:h_}{k k2:Int}{sg:r_}{rows:List (List cJ)}{fo fm:cJ}{r1 r2:List r_}
end
end
section
noncomputable def stI(c:Nat):Nat:=if c=98 then 0 else 1
noncomputable def B9(c:Nat):Nat:=if c=97 then 0 else 1
noncomputable def Jw(m n:Nat):Nat->Nat->List Nat->Prop
 |i,j,[]=>i=m/\j=n
 |i,j,c::cs=>qX m n i j c (i+stI c) (j+B9 c)/\Jw m n (i+stI c) (j+B9 c) cs
noncomputable def VF(E:Nat->Nat->Int)(m n:Nat):Nat->Nat->List Nat->Prop
 |i,j,[]=>i=m/\j=n
 |i,j,c::cs=>c=G0 E m n i j/\iY E m n i j=(if c=112 then E i j else 0)+iY E m n (i+stI c) (j+B9 c)/\qX m n i j c (i+stI c) (j+B9 c)/\VF E m n (i+stI c) (j+B9 c) cs
noncomputable def AA(A B:List r_)(g1 g2:r_):Nat->Nat->List Nat->List r_
 |_,_,[]=>[]
 |i,j,c::cs=>xr A B g1 g2 i j c::AA A B g1 g2 (i+stI c) (j+B9 c) cs
theorem qX.st{m n i j c i' j':Nat}(h:qX m n i j c i' j'):i'=i+stI c/\j'=j+B9 c:=by
 cases h<;>exact⟨Y,Y⟩
theorem Path.wk{m n:Nat}{cs:List Nat}{i j:Nat}(h:Path m n cs i j):∀{ds:List Nat},Jw m n i j ds->Jw m n 0 0 (cs++ds):=by
 induction h with
 |nil=>exact λh=>h
 | @snoc cs i j c i' j' hp s ih =>
  intro ds hd;rw[qaH];obtain⟨e1,e2⟩:=s.st;subst e1 e2;exact ih ⟨s,hd⟩
theorem Jw.path{m n:Nat}:∀{ds:List Nat} {cs:List Nat} {i j:Nat},Path m n cs i j->Jw m n i j ds->Path m n (cs++ds) m n
 |[],cs,i,j,hp,h=>by
  obtain⟨rfl,rfl⟩:=h;rw[qbh];exact hp
 |c::ds,cs,i,j,hp,h=>by
  have:=Jw.path (hp.snoc h.1) h.2;rw[qaH]at this;exact this
theorem tF.fwk{E:Nat->Nat->Int}{m n:Nat}{cs:List Nat}{i j:Nat}(h:tF E m n cs i j):∀{ds:List Nat},VF E m n i j ds->VF E m n 0 0 (cs++ds):=by
 induction h with
 |nil=>exact λh=>h
 | @snoc cs i j i' j' hp s e ih =>
  intro ds hd;rw[qaH];obtain⟨e1,e2⟩:=s.st;subst e1 e2;exact ih ⟨Y,e,s,hd⟩
theorem JR{A B:List r_}{g1 g2:r_}:∀{cs:List Nat} {i j:Nat},(K_ cs.length).map (λk=>xr A B g1 g2 (i+pI cs k) (j+pJ cs k) (cs.getD k 0))=AA A B g1 g2 i j cs
 |[],_,_=>rfl
 |c::cs,i,j=>by
  rw[M_,List.range_succ_eq_map,qaK,qam];show _::_=xr A B g1 g2 i j c::AA A B g1 g2 (i+stI c) (j+B9 c) cs;rw[←JR];congr 1;refine qbI λk _=>?_;have e1:pI (c::cs) (k+1)=stI c+pI cs k:=by
   unfold pI stI;rw[List.take_succ_cons,List.filter_cons];by_cases h:c=98
   ·rw[if_pos h,if_neg (by simp[h]),qco]
   ·rw[if_neg h,if_pos (by simpa using h),M_,Nat.add_comm]
  have e2:pJ (c::cs) (k+1)=B9 c+pJ cs k:=by
   unfold pJ B9;rw[List.take_succ_cons,List.filter_cons];by_cases h:c=97
   ·rw[if_pos h,if_neg (by simp[h]),qco]
   ·rw[if_neg h,if_pos (by simpa using h),M_,Nat.add_comm]
  show xr A B g1 g2 (i+pI (c::cs) (k+1)) (j+pJ (c::cs) (k+1)) ((c::cs).getD (k+1) 0)=_;rw[e1,e2,←Nat.add_assoc,←Nat.add_assoc];rfl
theorem MR{A B:List r_}{g1 g2:r_}{cs:List Nat}:vg A B g1 g2 cs cs.length=AA A B g1 g2 0 0 cs:=by
 rw[←JR];unfold vg;refine qbI λk _=>?_;rw[qco,qco]
section
variable{A B:List r_}{n1 n2:Nat}
end
end
end GP
namespace L2
open PySem PySem.Spec PyProof.Rows
section
open PySem.SeqAt
open PySem.AutoSeq1 (wpAny_loadPart')
open PySem.MeetsSeq PySem.MeetsSeq2 PySem.MeetsSeq3
end
end L2
namespace GP
open PySem L2 lN
section
noncomputable def Fb(A:List r_)(g:r_):Nat->List Nat->List r_
 |_,[]=>[]
 |i,c::cs=>(if c=98 then g else A.getD i ⟨#[]⟩)::Fb A g (i+stI c) cs
noncomputable def Ei(B:List r_)(g:r_):Nat->List Nat->List r_
 |_,[]=>[]
 |j,c::cs=>(if c=97 then g else B.getD j ⟨#[]⟩)::Ei B g (j+B9 c) cs
theorem xN{T:List r_}{N:Nat}(hN:0<N)(hs:∀o∈T,o.cps.size=N):packed (cols T N)=cols (T.filter λc=>!dO c) N:=by
 unfold packed;rw[E5 hN,xq hs,dW]
section
variable{A B:List r_}{n1 n2:Nat}{kn:List Nat}
theorem WV{m n i j c i' j':Nat}(h:qX m n i j c i' j'):c≠98->i<m:=λz=>by
 cases h with
 |p a b=>exact a
 |a a=>exact a
 |b b=>exact absurd Y z
theorem WU{m n i j c i' j':Nat}(h:qX m n i j c i' j'):c≠97->j<n:=λz=>by
 cases h with
 |p a b=>exact b
 |a a=>exact absurd Y z
 |b b=>exact b
theorem tK(hA:∀c∈A,c.cps.size=n1){n:Nat}:∀{cs:List Nat} {i j:Nat},Jw A.length n i j cs->∀o∈Fb A (aR n1) i cs,o.cps.size=n1
 |[],_,_,_,o,ho=>absurd ho W_
 |c::cs,i,j,h,o,ho=>by
  rcases G_.mp (show o∈_::Fb A (aR n1) (i+stI c) cs from ho)with rfl|ho
  ·by_cases z:c=98
   ·rw[if_pos z,gp]
   ·rw[if_neg z];exact hA _ (getD_mem (WV h.1 z))
  ·exact tK hA h.2 o ho
theorem CK(hB:∀c∈B,c.cps.size=n2){n:Nat}:∀{cs:List Nat} {i j:Nat},Jw n B.length i j cs->∀o∈Ei B (aR n2) j cs,o.cps.size=n2
 |[],_,_,_,o,ho=>absurd ho W_
 |c::cs,i,j,h,o,ho=>by
  rcases G_.mp (show o∈_::Ei B (aR n2) (j+B9 c) cs from ho)with rfl|ho
  ·by_cases z:c=97
   ·rw[if_pos z,gp]
   ·rw[if_neg z];exact hB _ (getD_mem (WU h.1 z))
  ·exact CK hB h.2 o ho
theorem Cw(n:Nat):dO (aR n)=true:=by
 unfold dO;rw[w9,R_];exact λx hx=>by rw[qcv hx];rfl
theorem xD{n1:Nat}(hA:∀c∈A,dO c=false){n:Nat}:∀{cs:List Nat} {i j:Nat},Jw A.length n i j cs->(Fb A (aR n1) i cs).filter (λc=>!dO c)=A.drop i
 |[],i,_,h=>by rw[h.1,List.drop_length];rfl
 |c::cs,i,j,h=>by
  show(_::Fb A (aR n1) (i+stI c) cs).filter (λc=>!dO c)=_;have ih:=xD (n1:=n1) hA h.2;by_cases z:c=98
  ·rw[if_pos z,qcF (by rw[Cw];decide),ih];unfold stI;rw[if_pos z,Nat.add_zero]
  ·have hi:=WV h.1 z;rw[if_neg z,qcE (by rw[hA _ (getD_mem hi)];rfl),ih,qbs hi,cu (e_ hi)];unfold stI;rw[if_neg z]
theorem xU{n2:Nat}(hB:∀c∈B,dO c=false){n:Nat}:∀{cs:List Nat} {i j:Nat},Jw n B.length i j cs->(Ei B (aR n2) j cs).filter (λc=>!dO c)=B.drop j
 |[],_,j,h=>by rw[h.2,List.drop_length];rfl
 |c::cs,i,j,h=>by
  show(_::Ei B (aR n2) (j+B9 c) cs).filter (λc=>!dO c)=_;have ih:=xU (n2:=n2) hB h.2;by_cases z:c=97
  ·rw[if_pos z,qcF (by rw[Cw];decide),ih];unfold B9;rw[if_pos z,Nat.add_zero]
  ·have hj:=WU h.1 z;rw[if_neg z,qcE (by rw[hB _ (getD_mem hj)];rfl),ih,qbs hj,cu (e_ hj)];unfold B9;rw[if_neg z]
theorem Gx(hA:∀c∈A,c.cps.size=n1){n r:Nat}(hr:r<n1):∀{cs:List Nat} {i j:Nat},Jw A.length n i j cs->oR (AA A B (aR n1) (aR n2) i j cs) r=oR (Fb A (aR n1) i cs) r
 |[],_,_,_=>rfl
 |c::cs,i,j,h=>by
  show(xr A B (aR n1) (aR n2) i j c).cps.toList.getD r 0::oR (AA A B (aR n1) (aR n2) (i+stI c) (j+B9 c) cs) r=(if c=98 then aR n1 else A.getD i ⟨#[]⟩).cps.toList.getD r 0::oR (Fb A (aR n1) (i+stI c) cs) r
  rw[Gx hA hr h.2];congr 1;have hz:=tK hA (cs:=c::cs) h _ (L_ ..)
  have hz':(if c=98 then aR n1 else A.getD i ⟨#[]⟩).cps.toList.length=n1:=by rw[s_];exact hz
  unfold xr
  generalize (if c=98 then aR n1 else A.getD i ⟨#[]⟩)=U at hz'
  rw[sr];simp only[C_];rw[qau (by omega)]
theorem Gy(hA:∀c∈A,c.cps.size=n1){r:Nat}:∀{cs:List Nat} {i j:Nat},Jw A.length B.length i j cs->oR (AA A B (aR n1) (aR n2) i j cs) (n1+r)=oR (Ei B (aR n2) j cs) r
 |[],_,_,_=>rfl
 |c::cs,i,j,h=>by
  show(xr A B (aR n1) (aR n2) i j c).cps.toList.getD (n1+r) 0::oR (AA A B (aR n1) (aR n2) (i+stI c) (j+B9 c) cs) (n1+r)=(if c=97 then aR n2 else B.getD j ⟨#[]⟩).cps.toList.getD r 0::oR (Ei B (aR n2) (j+B9 c) cs) r
  rw[Gy hA h.2];congr 1;have hz:=tK hA (cs:=c::cs) h _ (L_ ..)
  have hz':(if c=98 then aR n1 else A.getD i ⟨#[]⟩).cps.toList.length=n1:=by rw[s_];exact hz
  unfold xr
  generalize (if c=98 then aR n1 else A.getD i ⟨#[]⟩)=U at hz'
  generalize (if c=97 then aR n2 else B.getD j ⟨#[]⟩)=U2
  rw[sr];simp only[C_];rw[qar (by omega),hz',Nat.add_sub_cancel_left]
theorem NY(hA:∀c∈A,c.cps.size=n1){cs:List Nat}(h:Jw A.length B.length 0 0 cs):(cols (AA A B (aR n1) (aR n2) 0 0 cs) (n1+n2)).take n1=cols (Fb A (aR n1) 0 cs) n1:=by
 unfold cols;rw[←List.map_take,List.take_range,qb2 (qaq _ _)];refine qbI λr hr=>?_;unfold lK;rw[Gx hA (qav.mp hr) h]
theorem NZ(hA:∀c∈A,c.cps.size=n1){cs:List Nat}(h:Jw A.length B.length 0 0 cs):(cols (AA A B (aR n1) (aR n2) 0 0 cs) (n1+n2)).drop n1=cols (Ei B (aR n2) 0 cs) n2:=by
 refine qcb λr=>?_;rw[List.getElem?_drop];by_cases hr:r<n2
 ·rw[show(cols (AA A B (aR n1) (aR n2) 0 0 cs) (n1+n2))[n1+r]? =some (lK _ (n1+r)) from iZ (by omega),show(cols (Ei B (aR n2) 0 cs) n2)[r]? =some (lK _ r) from iZ hr];unfold lK;rw[Gy hA h]
 ·rw[qaj (by rw[dW];omega),qaj (by rw[dW];omega)]
end
theorem DW{kn:List Nat}{r1 r2:List r_}{cs:List Nat}(h1:pO kn (cols r1 (dw r1)) r1.length)(h2:pO kn (cols r2 (dw r2)) r2.length)(l1:sQ r1=true)(l2:sQ r2=true)(h:Jw (dw r1) (dw r2) 0 0 cs):
  packed ((cols (vg (cols r1 (dw r1)) (cols r2 (dw r2)) (aR r1.length) (aR r2.length) cs cs.length) (r1.length+r2.length)).take r1.length)=r1 ∧
  packed ((cols (vg (cols r1 (dw r1)) (cols r2 (dw r2)) (aR r1.length) (aR r2.length) cs cs.length) (r1.length+r2.length)).drop r1.length)=r2:=by
 have h':Jw (cols r1 (dw r1)).length (cols r2 (dw r2)).length 0 0 cs:=by rw[dW,dW];exact h
 rw[MR,NY h1.size h',NZ h1.size h',xN (qbJ.mpr (cR.mp l1).1) (tK h1.size h'),xN (qbJ.mpr (cR.mp l2).1) (CK h2.size h'),xD h1.full h',xU h2.full h',qcl,qcl];exact⟨xq (cR.mp l1).2,xq (cR.mp l2).2⟩
end
section
theorem Jw.len{m n:Nat}{cs:List Nat}(h:Jw m n 0 0 cs):cs.length<=m+n:=by
 have h':Path m n cs m n:=(Jw.path (cs:=[]) .nil h);have:=h'.in;omega
end
end GP
namespace L2
open PySem PySem.Spec PyProof.Rows
end L2
namespace GP
open PySem L2 lN
section
def Kb(k a c:Int):Prop:=k<=a/\a<=k+c
theorem Kb.lo{k a c:Int}(h:Kb k a c)(k0:0<=k):0<=a:=Int.le_trans k0 h.1
theorem VF.uniq{E:Nat->Nat->Int}{m n:Nat}:∀{cs ds:List Nat} {i j:Nat},VF E m n i j cs->VF E m n i j ds->cs=ds
 |[],[],_,_,_,_=>rfl
 |c::cs,d::ds,i,j,h,h'=>by
  have e:c=d:=h.1.trans h'.1.symm;subst e;rw[VF.uniq h.2.2.2 h'.2.2.2]
 |[],d::ds,i,j,h,h'=>by
  obtain⟨rfl,rfl⟩:=h;have s:=h'.2.2.1;exfalso;generalize i+stI d=i' at s;generalize j+B9 d=j' at s
  cases s with
  |p a b=>omega
  |a a=>omega
  |b b=>omega
 |d::ds,[],i,j,h',h=>by
  obtain⟨rfl,rfl⟩:=h;have s:=h'.2.2.1;exfalso;generalize i+stI d=i' at s;generalize j+B9 d=j' at s
  cases s with
  |p a b=>omega
  |a a=>omega
  |b b=>omega
theorem tF.uniq{E:Nat->Nat->Int}{m n:Nat}{cs ds:List Nat}(h:tF E m n cs m n)(h':tF E m n ds m n):cs=ds:=by
 have a:=h.fwk (ds:=[]) ⟨rfl,rfl⟩;have b:=h'.fwk (ds:=[]) ⟨rfl,rfl⟩;rw[qbh]at a b;exact a.uniq b
end
section
theorem Be{rs:List r_}{r:Nat}{x:r_}(hl:sQ rs=true)(h:rs[r]? =some x):∃y,(packed rs)[r]? =some y/\bV 45 y=bV 45 x:=by
 obtain⟨hr,ex⟩:=p_.mp h;have hw:=(cR.mp hl).2 x (u_ h);refine⟨_,iZ hr,?_⟩;have e:∀k,(lK rs k).cps.toList.getD r 0=x.cps.toList.getD k 0:=λk=>by
  show(rs.map λr=>r.cps.toList.getD k 0).getD r 0=_;rw[cu (x:=x.cps.toList.getD k 0) (by rw[n_,h];rfl)]
 have hF:(cols rs (dw rs)).filter (λc=>!dO c)=((K_ (dw rs)).filter λi=>!dO (lK rs i)).map (lK rs):=by
  unfold cols;rw[List.filter_map];rfl
 have ex2:x.cps.toList=(K_ (dw rs)).map λk=>x.cps.toList.getD k 0:=by
  have:=dD (d:=0) x.cps.toList λc=>c;rw[s_,hw,List.map_id']at this;exact this.symm
 have key:(lK ((cols rs (dw rs)).filter λc=>!dO c) r).cps.toList.filter (· != 45)=x.cps.toList.filter (· != 45):=by
  show(((cols rs (dw rs)).filter λc=>!dO c).map λc=>c.cps.toList.getD r 0).filter (· != 45)=_;rw[hF,qam,ex2];have e3:((λc:r_=>c.cps.toList.getD r 0) ∘ lK rs)=λk=>x.cps.toList.getD k 0:=funext e;rw[e3,List.filter_map,List.filter_map,List.filter_filter];congr 1;refine List.filter_congr λk _=>?_;show(x.cps.toList.getD k 0 != 45&& !dO (lK rs k))=(x.cps.toList.getD k 0 != 45)
  cases hc:(x.cps.toList.getD k 0 != 45)with
  |false=>rfl
  |true =>
   rw[qcw,qbe]
   cases hg:dO (lK rs k)with
   |false=>rfl
   |true =>
    exfalso;have hm:x.cps.toList.getD k 0∈(lK rs k).cps.toList:=O_.mpr ⟨x,u_ h,rfl⟩;have:=R_.mp hg _ hm;rw[beq_iff_eq]at this;rw[this]at hc;cases hc
 show(⟨((lK _ r).cps.toList.filter (· != 45)).toArray⟩:r_)=⟨(x.cps.toList.filter (· != 45)).toArray⟩;rw[key]
end
end GP
namespace PySem.SeqAt
open AutoSeq1 (wpAny_loadPart')
open MeetsSeq MeetsSeq2 MeetsSeq3 SeqRoads2 AutoSeq1
theorem yi(l:h_)(items:Array i_)(n:Nat)(b:h_)(items2:Array i_)(n2:Nat)(dd:Option h_)(sl:Array (Option i_))(hs0:¬(!items.isEmpty&&qaZ (items.size+items2.size))=true)(hs1:items.size<=x_)(hs2:items.size+items2.size<=x_+1):
  Meets (Builtin.«list.extend» ⟨[.ref l,.ref b],[]⟩) (λ_ R s=>s.heap.get? l=some { cls:=.type "list",dict:=none,data:=.seq items n,slots:= #[] }/\s.heap.get? b=some { cls:=.type "tuple",dict:=dd,data:=.seq items2 n2,slots:=sl }/\R (.ok (.ret Value.none)) { s with heap:=s.heap.update l (qaO λx=>x++items2),toks:=s.toks }) :=
 .of_wp λprog w A R s h=>by
  obtain⟨hp,g,d,tk,os⟩:=s;obtain⟨hl,hb,h⟩:=h;have f1:=idx_int;have f2:=sub_tuple_tuple;have f3:=sub_list_list;have f4:=sub_tuple_list;have f5:=sub_list_tuple;have hz':(items++items2).size<=x_+1:=by rw[Array.size_append];exact hs2
  wp_walk using(wpAny_updateSeq hl rfl (hz:=hs1) (_hz':=hz')),wpAny_loadPart' hl,wpAny_loadPart' hb
  exact⟨_,Y,h⟩
end PySem.SeqAt
namespace L2
open PySem PySem.Spec PyProof.Rows
section
variable{X:Cx}
def WC:V->List V->Hp->VK->Prop:=λx vs H Q=>t9 λ(l b:h_) (xs zs:List V)=>x= .ref l/\vs=[.ref b]/\H l=some (.lst xs)/\H b=some (.tup zs)/\xs.length+zs.length<=x_/\Q .gE (upd H l (.lst (xs++zs)))
theorem HZ:VB X "list.extend" WC:=by
 intro pins s σ H x vs v us Q I rx rv h;obtain⟨l,b,xs,zs,rfl,rfl,hH,hB,hz,q⟩:=h;cases rx;obtain⟨u,rfl,ru⟩:=rv.one;cases ru;obtain⟨z,its,n,r,hl,e⟩:=I.Af hH;obtain⟨its2,r2,⟨⟨cls,dd,data,sl⟩,ho,hc,n2,hd⟩,_⟩:=I.tuple (fq.of hB);simp only at hc hd;subst hc hd;have hl2:=r2.length;have hsz:its.toArray.size+its2.toArray.size<=x_:=by rw[v_,v_];omega
 have Ge:¬(!its.toArray.isEmpty&&qaZ (its.toArray.size+its2.toArray.size))=true:=by
  rw[zZ hsz,qcg];exact I_
 refine qcf F.slot_list_extend ⟨_,e,Y⟩ F.entry_list_extend (F.args_list_extend_2 _ _)
  (SeqAt.yi l its.toArray n b its2.toArray n2 dd sl Ge (by rw[v_];omega) (by omega)) ⟨e,ho,?_⟩
 refine⟨.gE,_,I.K8 (its':=its++its2) hH e (by simp) (r.append r2) ?_,Y,q⟩;rw[o_];omega
def OV:V->List V->Hp->VK->Prop:=λx vs H Q=>t9 λ(l:h_) (xs:List V) (i:Nat) (y:V)=>x= .ref l/\vs=[.int i,y]/\H l=some (.lst xs)/\i<=xs.length/\xs.length<1000/\Q .gE (upd H l (.lst (xs.take i++y::xs.drop i)))
theorem KY:VB X "list.insert" OV:=by
 intro pins s σ H x vs v us Q I rx rv h;obtain⟨l,xs,i,y,rfl,rfl,hH,hi,hz,q⟩:=h;cases rx;obtain⟨_,u,rfl,⟨t,rfl⟩,ru⟩:=rv.two;obtain⟨z,its,n,r,hl,e⟩:=I.Af hH;have hs:x_=16777216:=qba;generalize hx:(i:Int)=x;have hx0:¬x<0:=by omega
 have Zj:x.toNat=i:=by omega
 have hf:Builtin.List.listFitsIndex x=true:=by
  unfold Builtin.List.listFitsIndex;rw[qae];exact⟨decide_eq_true (by omega),decide_eq_true (by omega)⟩
 refine qcf F.slot_list_insert ⟨_,e,Y⟩ F.entry_list_insert (F.args_list_insert_3 _ _ _) (AutoSeq1.list_insert_list_int_val_1 l its.toArray n x t u (by simp[hf]) (by rw[v_,←hl];exact z)) ⟨e,?_⟩;refine⟨.gE,_,I.K8 (its':=its.take i++u::its.drop i) hH e ?_ ((r.take i).append (.cons ru (r.drop i))) ?_,Y,q⟩
 ·show(its.toArray.extract 0 (if x<0 then(x+(its.toArray.size:Int)).toNat else min x.toNat its.toArray.size)).push u++its.toArray.extract (if x<0 then(x+(its.toArray.size:Int)).toNat else min x.toNat its.toArray.size)=_
  rw[if_neg hx0,Zj,v_,qb2 (by omega)];exact PySem.W.kl_ins_eq its i u
 ·rw[o_,M_,qaC,qbO];omega
def OW:V->List V->Hp->VK->Prop:=λx vs H Q=>t9 λ(l:h_) (ns:List Int) (k:Int) (j:Nat)=>x= .ref l/\vs=[.int k]/\H l=some (.lst (ns.map V.int))/\ns[j]? =some k/\(∀m,m<j->ns[m]? ≠some k)/\Q (.int j) H
theorem KZ:VB X "list.index" OW:=by
 intro pins s σ H x vs v us Q I rx rv h;obtain⟨l,ns,k,j,rfl,rfl,hH,hj,hno,q⟩:=h;cases rx;obtain⟨u,rfl,ru⟩:=rv.one;obtain⟨t,rfl⟩:=ru;obtain⟨z,its,n,r,hl,e⟩:=I.Af hH;have hs:x_=16777216:=qba;have hjl:=(p_.mp hj).1;rw[g_]at hl z;have at_:∀(i:Nat) (hi:i<its.toArray.size),∃t',its.toArray[i]= .int (ns.getD i 0) t':=λi hi=>by
  have hi':i<ns.length:=by rw[v_]at hi;omega
  obtain⟨u,hu,t',rfl⟩:=r.get (show(ns.map V.int)[i]? =some (.int (ns.getD i 0)) by rw[n_,e_ hi',C_,e_ hi'];rfl);refine⟨t',?_⟩;rw[e_ (by rw[v_]at hi;exact hi)]at hu;simpa using hu
 have hD:ns.getD j 0=k:=by rw[C_,hj];rfl
 refine qcf F.slot_list_index ⟨_,e,Y⟩ F.entry_list_index (F.args_list_index_2 _ _)
  (SeqAt.list_indexAt l its.toArray n none #[] (.int k t) (λy=>match y with| .int a _=>a==k|_=>false) j (by rw[v_];omega) (by omega) ?_ ?_) ⟨e,λy hy=>?_,⟨.int j,H,I.tok _,⟨_,rfl⟩,q⟩⟩
 ·obtain⟨t',e'⟩:=at_ j (by rw[v_];omega);rw[e',hD];exact beq_self_eq_true k
 ·intro m hm hlt;obtain⟨t',e'⟩:=at_ m hm;rw[e'];refine beq_eq_false_iff_ne.mpr λz=>hno m hlt ?_;have hm':m<ns.length:=by rw[v_]at hm;omega
  rw[C_,e_ hm']at z;rw[e_ hm'];exact congrArg some z
 ·obtain⟨i,hi,rfl⟩:=Array.getElem_of_mem hy;obtain⟨t',e'⟩:=at_ i hi;rw[e'];exact SeqAt.EqAt.int_int _ _ _ _
end
end L2
namespace GP
open PySem L2 lN
inductive Tr where
 |num (n:Int)
 |pair (l r:Tr)
 |odd
def GR(H:Hp)(v:V):Prop:=v= .gE\/(∃s,v= .str s)\/(dI λq ys=>v= .ref q/\H q=some (.tup ys)/\ys.length≠2)\/dI λq ys=>v= .ref q/\H q=some (.lst ys)
theorem GR.same{H H':Hp}{v:V}(h:GR H v)(e:ai H H'):GR H' v:=by
 rcases h with h|h|⟨q,ys,h1,h2,h3⟩|⟨q,ys,h1,h2⟩
 ·exact .inl h
 ·exact .inr (.inl h)
 ·exact .inr (.inr (.inl ⟨q,ys,h1,e _ _ h2,h3⟩))
 ·exact .inr (.inr (.inr ⟨q,ys,h1,e _ _ h2⟩))
noncomputable def cQ(H:Hp):Tr->V->Prop
 | .num n,v=>v= .int n
 | .pair l r,v=>oS λp x y=>v= .ref p/\H p=some (.tup [x,y])/\cQ H l x/\cQ H r y
 | .odd,v=>GR H v
theorem cQ.same{H H':Hp}(e:ai H H'):∀{t:Tr} {v:V},cQ H t v->cQ H' t v
 | .num _,_,h=>h
 | .pair _ _,_,⟨p,x,y,h1,h2,h3,h4⟩=>⟨p,x,y,h1,e _ _ h2,cQ.same e h3,cQ.same e h4⟩
 | .odd,_,h=>GR.same h e
noncomputable def Tr.leaves:Tr->List Int
 | .num n=>[n]
 | .pair l r=>l.leaves++r.leaves
 | .odd=>[]
noncomputable def Tr.ok:Tr->Bool
 | .num _=>true
 | .pair l r=>l.ok&&r.ok
 | .odd=>false
noncomputable def Tr.size:Tr->Nat
 | .pair l r=>l.size+r.size+1
 |_=>1
noncomputable def Tr.rp:Tr->List V
 | .num n=>[.int n]
 | .pair l r=>.gE::(r.rp++l.rp)
 | .odd=>[]
noncomputable def Tr.order(t:Tr):List V:=t.rp.reverse
theorem Tr.HJ(l r:Tr):(Tr.pair l r).order=l.order++(r.order++[.gE]):=by
 unfold Tr.order;rw[Tr.rp,qay,List.reverse_append,qaH]
structure ua(ts:List Tr)(seen:List Int)(n:Nat):Prop where
 ok:∀t∈ts,t.ok=true
 nd:(seen++ts.flatMap Tr.leaves).Nodup
 lt:∀x∈ts.flatMap Tr.leaves,0<=x/\x<(n:Int)
 all:(seen++ts.flatMap Tr.leaves).length=n
theorem ua.pair{us:List Tr}{l r:Tr}{seen:List Int}{n:Nat}:ua (us++[.pair l r]) seen n↔ua (us++[l,r]) seen n:=by
 have e:(us++[Tr.pair l r]).flatMap Tr.leaves=(us++[l,r]).flatMap Tr.leaves:=by
  simp[qaM,Tr.leaves]
 have o:(∀t∈us++[Tr.pair l r],t.ok=true)↔∀t∈us++[l,r],t.ok=true:=by
  simp[Tr.ok,or_imp,forall_and]
 constructor
 ·rintro⟨h1,h2,h3,h4⟩;rw[e]at h2 h3 h4;exact⟨o.mp h1,h2,h3,h4⟩
 ·rintro⟨h1,h2,h3,h4⟩;rw[←e]at h2 h3 h4;exact⟨o.mpr h1,h2,h3,h4⟩
theorem ua.odd{us:List Tr}{seen:List Int}{n:Nat}(h:ua (us++[.odd]) seen n):False:=by
 have:=h.ok .odd (by simp);cases this
theorem ua.num{us:List Tr}{k:Int}{seen:List Int}{n:Nat}:ua (us++[.num k]) seen n↔(0<=k/\k<(n:Int))/\k∉seen/\ua us (seen++[k]) n:=by
 have e:(us++[Tr.num k]).flatMap Tr.leaves=us.flatMap Tr.leaves++[k]:=by simp[qaM,Tr.leaves]
 have pm:(seen++(us.flatMap Tr.leaves++[k])).Perm (seen++[k]++us.flatMap Tr.leaves):=by
  rw[qaH];exact List.Perm.append_left _ List.perm_append_comm
 constructor
 ·rintro⟨h1,h2,h3,h4⟩;rw[e]at h2 h3 h4;have nd:=pm.nodup_iff.mp h2;refine⟨h3 k (by simp),λz=>?_,λt ht=>h1 t (qaG _ ht),nd,λx hx=>h3 x (qaG _ hx),by rw[←pm.length_eq];exact h4⟩;have:=(qb9.mp (qb9.mp nd).1).2.2 k z k (by simp);exact this Y
 ·rintro⟨h0,_,⟨h1,h2,h3,h4⟩⟩;refine⟨λt ht=>?_,by rw[e];exact pm.nodup_iff.mpr h2,λx hx=>?_,by rw[e,pm.length_eq];exact h4⟩
  ·rcases S_.mp ht with q|q
   ·exact h1 t q
   ·rw[w_.mp q];rfl
  ·rw[e]at hx;rcases S_.mp hx with q|q
   ·exact h3 x q
   ·rw[w_.mp q];exact h0
theorem ua.nil{seen:List Int}{n:Nat}(nd:seen.Nodup):ua [] seen n↔seen.length=n:=by
 constructor
 ·intro h;have:=h.all;simpa using this
 ·intro h
  exact⟨(λt ht=>nomatch ht),by simpa using nd,(λx hx=>nomatch hx),by simpa using h⟩
noncomputable def vm(ts:List Tr):Nat:=(ts.map Tr.size).sum
theorem tL(us vs:List Tr):vm (us++vs)=vm us+vm vs:=by unfold vm;rw[N_,List.sum_append]
noncomputable def Dt:List V->List Tr->Option (List Tr)
 |[],st=>some st
 | .int n::vs,st=>Dt vs (.num n::st)
 | .gE::vs,r::l::st=>Dt vs (.pair l r::st)
 |_::_,_=>none
theorem uG:∀{t:Tr} {vs:List V} {st:List Tr},t.ok=true->Dt (t.order++vs) st=Dt vs (t::st)
 | .num n,vs,st,_=>rfl
 | .pair l r,vs,st,h=>by
  rw[Tr.ok,qae]at h;rw[Tr.HJ,qaH,qaH,uG h.1,uG h.2];rfl
 | .odd,_,_,h=>by cases h
end GP
namespace L2
open PySem PySem.Spec PyProof.Rows
theorem O4{X:Cx}(hu:X.A.units+1<cLine):rZ X (compareOp .In) (λx y H Q=>dI λa o=>y= .ref a/\uc H a x o/\Q (.bl o.isSome) H):=by
 intro pins s σ H x y u v Q I rx ry h;obtain⟨a,o,rfl,g,q⟩:=h;cases (show v=Value.ref a from ry);exact adB hu I g rx λs' I'=>⟨.bl o.isSome,H,I',Y,q⟩
theorem GA{X:Cx}:mL X (.builtin "len") (λxs H Q=>dI λa kvs=>xs=[.ref a]/\H a=some (.dK kvs)/\Q (.int (kvs.length:Nat)) H):=by
 intro pins s σ H xs us Q I r h;obtain⟨a,kvs,rfl,e,q⟩:=h;obtain⟨u,rfl,rx⟩:=vals1 r;cases rx;exact Yk I (.inl e) λt s' I'=>⟨.int _,H,I',⟨_,Y⟩,q⟩
theorem DT{K:PySem.W.Frag}:PySem.W.kitOne K (.type "NoneType") (.type "int")=some false:=by kernel_rfl
theorem Gb{K:PySem.W.Frag}:PySem.W.kitOne K (.type "str") (.type "int")=some false:=by kernel_rfl
theorem uo{K:PySem.W.Frag}:PySem.W.kitOne K (.type "tuple") (.type "int")=some false:=by kernel_rfl
theorem DU{K:PySem.W.Frag}:PySem.W.kitOne K (.type "list") (.type "int")=some false:=by kernel_rfl
end L2
namespace GP
open PySem L2 lN
section
noncomputable def Tr.isN:Tr->Bool
 | .num _=>true
 |_=>false
noncomputable def Tr.Ze:Tr->Bool
 | .pair _ _=>true
 |_=>false
def Fo:Sp:=λvs H Q _=>dI λ(v:V) (t:Tr)=>vs=[v]/\cQ H t v/\t.Ze=false/\Q (.bl t.isN) H
def Jd:Sp:=λvs H Q _=>dI λ(v:V) (t:Tr)=>vs=[v]/\cQ H t v/\Q (.bl t.Ze) H
def CZ(kvs:List (Key×V))(seen:List Int):Prop:=kvs.length=seen.length/\∀k:Int,(iL kvs (.inl k)).isSome=decide (k∈seen)
theorem CZ.put{kvs:List (Key×V)}{seen:List Int}(h:CZ kvs seen){k:Int}(hk:k∉seen)(v:V):CZ (putK kvs (.inl k) v) (seen++[k]):=by
 have hn:iL kvs (.inl k)=none:=by
  have:=h.2 k;rw[decide_eq_false hk]at this
  cases z:iL kvs (.inl k)with
  |none=>rfl
  |some x=>rw[z]at this;cases this
 refine⟨by rw[MJ v hn,o_,o_,h.1];rfl,λj=>?_⟩;rw[r9];by_cases e:j=k
 ·rw[if_pos (by rw[e])];exact(decide_eq_true (by rw[e];simp)).symm
 ·rw[if_neg (λz=>e (Sum.inl.inj z)),h.2 j];congr 1;simp[e]
def Mx(CT:h_):Sp:=λvs H Q E=>LL λ(v:V) (t:Tr) (n:Nat) (d:h_) (kvs:List (Key×V)) (seen:List Int)=>vs=[v,.int n,.ref d]/\cQ H t v/\t.Ze=false/\H d=some (.dK kvs)/\CZ kvs seen ∧
 (∀k,t= .num k->0<=k->k<(n:Int)->k∉seen->Q .gE H)/\((∀k,t= .num k->0<=k->k<(n:Int)->k∉seen->False)->E (.ref CT) none H)
def Mn(CT:h_):Sp:=λvs H Q E=>oS λ(v:V) (t:Tr) (n:Nat)=>vs=[v,.int n]/\cQ H t v/\n<=100/\t.size<=1000 ∧
 (ua [t] [] n->∀l H',ai H H'->H' l=some (.lst t.order)->Q (.ref l) H')/\((ua [t] [] n->False)->∀H',ai H H'->E (.ref CT) none H')
end
section
theorem itd{p:Prop}[Decidable p]{A B:Prop}(h:p)(x:A):if(decide p)=true then A else B:=gG (λ_=>x) λz=>absurd h z
theorem Xo{p:Prop}[Decidable p]{A B:Prop}(h:¬p)(x:B):if(decide p)=true then A else B:=gG (λz=>absurd z h) λ_=>x
theorem FQ{α β:Type}{F:α->β->Prop}{a b:α}{x y:β}(ha:F a x)(hb:F b y):∀{us:List α} {ws:List β},Paired F us ws->Paired F (us++[a,b]) (ws++[x,y])
 |_,_,.nil=>.cons ha (.cons hb .nil)
 |_,_,.cons h r=>.cons h (FQ ha hb r)
theorem p7{α β:Type}{F:α->β->Prop}{u:α}:∀{us:List α} {ws:List β},Paired F (us++[u]) ws->dI λYX x=>ws=YX++[x]/\Paired F us YX/\F u x
 |[],_,.cons h .nil=>⟨[],_,rfl,.nil,h⟩
 |_::us,_,.cons h r=>by
  obtain⟨YX,x,rfl,r',h'⟩:=p7 (us:=us) r;exact⟨_::YX,x,Y,.cons h r',h'⟩
theorem sub_len{α:Type}:∀{l m:List α},l.Nodup->(∀x∈l,x∈m)->l.length<=m.length
 |[],_,_,_=>T_ _
 |a::l,m,nd,h=>by
  obtain⟨m1,m2,rfl⟩:=List.append_of_mem (h a L_);obtain⟨na,nd⟩:=qbx.mp nd;have z:=sub_len (m:=m1++m2) nd λx hx=>by
   rcases S_.mp (h x (J_ _ hx))with q|q
   ·exact qaG _ q
   ·rcases G_.mp q with q|q
    ·exact absurd (q▸hx) na
    ·exact X_ _ q
  simp only[o_,M_]at z ⊢;omega
theorem CU{l:List Int}{n:Nat}(nd:l.Nodup)(h:∀x∈l,0<=x/\x<(n:Int)):l.length<=n:=by
 have z:=sub_len (m:=(K_ n).map λi:Nat=>(i:Int)) nd λx hx=>by
  obtain⟨h1,h2⟩:=h x hx;exact O_.mpr ⟨x.toNat,qav.mpr (by omega),by omega⟩
 rwa [g_,qad]at z
theorem Tr.size_pos(t:Tr):0<t.size:=by cases t<;>simp[Tr.size]
theorem JC:∀us:List Tr,us.length<=vm us
 |[]=>k_ _
 |u::us=>by
  have h1:=JC us;have h2:=u.size_pos;have h3:vm (u::us)=u.size+vm us:=rfl;rw[h3,M_];omega
end
section
noncomputable abbrev PB:=r_×List (List cJ)×cJ×cJ
def Jn(T:PB)(r1 r2 R:List r_):Prop:=∃cs,tF (yN (xM T.1 T.2.1 (bE T.2.2.1.2 T.2.2.2.2 T.2.1)) (t8 T.2.1 T.2.2.1 T.2.2.2) (cols r1 (dw r1)) (cols r2 (dw r2))) (dw r1) (dw r2) cs (dw r1) (dw r2) ∧
 R=cols (vg (cols r1 (dw r1)) (cols r2 (dw r2)) (aR r1.length) (aR r2.length) cs cs.length) (r1.length+r2.length)
theorem Jn.uniq{T:PB}{r1 r2 R S:List r_}(h:Jn T r1 r2 R)(h':Jn T r1 r2 S):R=S:=by
 obtain⟨cs,h1,rfl⟩:=h;obtain⟨ds,h2,rfl⟩:=h';rw[tF.uniq h1 h2]
structure ud(sg:r_)(R:List r_)(n m:Nat):Prop where
 bk:fk R=true
 kn:∀r∈R,Of (La sg) r
 len:R.length=n
 w:∀r∈R,r.cps.size<=m
theorem ud.sm{sg:r_}{R:List r_}{n m:Nat}(h:ud sg R n m)(hn:n<=40)(hm:m<=50):Qq R:=⟨by rw[h.len];exact hn,λr hr=>m_ (h.w r hr) hm⟩
theorem ud.dw{sg:r_}{R:List r_}{n m:Nat}(h:ud sg R n m):dw R<=m:=by
 obtain⟨hne,hw⟩:=cR.mp (fM h.bk);obtain⟨r0,hr0⟩:=qcs R hne;rw[←hw r0 hr0];exact h.w r0 hr0
theorem ud.pos{sg:r_}{R:List r_}{n m:Nat}(h:ud sg R n m):0<n:=by
 rw[←h.len];exact qbJ.mpr (cR.mp (fM h.bk)).1
section
variable{T:PB}{r1 r2 R:List r_}{n1 n2 m1 m2:Nat}
theorem Jn.way(h:Jn T r1 r2 R):∃cs,Jw (GP.dw r1) (GP.dw r2) 0 0 cs/\R=cols (vg (cols r1 (GP.dw r1)) (cols r2 (GP.dw r2)) (aR r1.length) (aR r2.length) cs cs.length) (r1.length+r2.length):=by
 obtain⟨cs,hF,e⟩:=h;refine⟨cs,?_,e⟩;have:=hF.path.wk (ds:=[]) ⟨rfl,rfl⟩;rw[qbh]at this;exact this
theorem Jn.ok(h:Jn T r1 r2 R)(a:ud T.1 r1 n1 m1)(b:ud T.1 r2 n2 m2):ud T.1 R (n1+n2) (m1+m2):=by
 obtain⟨cs,hJ,rfl⟩:=h.way;have cA:=p9 a.bk a.kn;have cB:=p9 b.bk b.kn;have h':Jw (cols r1 (GP.dw r1)).length (cols r2 (GP.dw r2)).length 0 0 cs:=by rw[dW,dW];exact hJ
 have hp:=a.pos;have el:=a.len;obtain⟨t1,t2⟩:=yW (by omega) ((show Path (cols r1 (GP.dw r1)).length (cols r2 (GP.dw r2)).length cs _ _ from Jw.path (cs:=[]) .nil h').cols cA cB (yK.mpr (.inl rfl)));refine⟨t1,t2,by rw[dW,a.len,b.len],λr hr=>?_⟩;obtain⟨j,_,rfl⟩:=O_.mp (show r∈(K_ (r1.length+r2.length)).map (lK (vg (cols r1 (GP.dw r1)) (cols r2 (GP.dw r2)) (aR r1.length) (aR r2.length) cs cs.length)) from hr);rw[show(lK (vg (cols r1 (GP.dw r1)) (cols r2 (GP.dw r2)) (aR r1.length) (aR r2.length) cs cs.length) j).cps.size=(vg (cols r1 (GP.dw r1)) (cols r2 (GP.dw r2)) (aR r1.length) (aR r2.length) cs cs.length).length from g_ ..];unfold vg;rw[g_,qad];have:=hJ.len;have:=a.dw;have:=b.dw;omega
theorem Jn.signs(h:Jn T r1 r2 R)(a:ud T.1 r1 n1 m1)(b:ud T.1 r2 n2 m2):R.map (bV 45)=(r1++r2).map (bV 45):=by
 have ok:=h.ok a b;obtain⟨cs,hJ,e⟩:=h.way;obtain⟨p1,p2⟩:=DW (p9 a.bk a.kn) (p9 b.bk b.kn) (fM a.bk) (fM b.bk) hJ;rw[←e]at p1 p2;have sub:∀{ws:List r_},ws≠[]->(∀q∈ws,q∈R)->sQ ws=true:=λ{ws} h0 hq=>by
  obtain⟨_,hw⟩:=cR.mp (fM ok.bk);have hww:GP.dw ws=GP.dw R:=by
   cases ws with
   |nil=>exact absurd Y h0
   |cons a l=>exact hw a (hq a (L_ ..))
  exact cR.mpr ⟨h0,λq h=>by rw[hww];exact hw q (hq q h)⟩
 have one:∀{ws rs:List r_},packed ws=rs->ws≠[]->(∀q∈ws,q∈R)->ws.map (bV 45)=rs.map (bV 45):=λ{ws rs} hp h0 hq=>by
  have hl:rs.length=ws.length:=by rw[←hp];exact dW
  refine qcb λi=>?_;rw[n_,n_]
  cases z:ws[i]? with
  |none=>rw[qaj (by rw[hl];exact qbr.mp z)]
  |some x =>
   obtain⟨y,hy,e⟩:=Be (sub h0 hq) z;rw[hp]at hy;rw[hy];exact congrArg some e.symm
 have l1:=a.len;have l2:=b.len;have lR:=ok.len;have q1:=a.pos;have q2:=b.pos;rw[←List.take_append_drop r1.length R,N_,N_];rw[one p1 (λz=>by have:=congrArg qc1 z;rw[qaC]at this;simp only[qbi]at this;omega) λq hq=>qcm hq];rw[one p2 (λz=>by have:=congrArg qc1 z;rw[qbO]at this;simp only[qbi]at this;omega) λq hq=>List.mem_of_mem_drop hq]
end
inductive Lay(T:PB)(rs:List r_):Tr->List r_->List Int->Prop
 |num {k:Nat} {r:r_} (h:rs[k]? =some r):Lay T rs (.num (k:Int)) [r] [(k:Int)]
 |pair {l r:Tr} {R1 R2 R:List r_} {N1 N2:List Int} (h1:Lay T rs l R1 N1) (h2:Lay T rs r R2 N2) (h:Jn T R1 R2 R):Lay T rs (.pair l r) R (N1++N2)
theorem Lay.uniq{T:PB}{rs:List r_}:∀{t:Tr} {R S:List r_} {N M:List Int},Lay T rs t R N->Lay T rs t S M->R=S/\N=M
 |_,_,_,_,_,.num (k:=k) h,h'=>by
  generalize e:Tr.num (k:Int)=t at h'
  cases h' with
  |num h2 =>
   injection e with e;cases Int.ofNat.inj e;rw[h]at h2;cases h2;exact⟨Y,Y⟩
  |pair _ _ _=>cases e
 |_,_,_,_,_,.pair a b j,.pair a' b' j'=>by
  obtain⟨rfl,rfl⟩:=Lay.uniq a a';obtain⟨rfl,rfl⟩:=Lay.uniq b b';exact⟨Jn.uniq j j',Y⟩
theorem Lay.leaves{T:PB}{rs:List r_}{t:Tr}{R:List r_}{N:List Int}(h:Lay T rs t R N):N=t.leaves:=by
 induction h with
 |num h=>rfl
 |pair _ _ _ h1 h2=>rw[Tr.leaves,h1,h2]
end
section
def Jc(K:PySem.W.Frag)(C X:h_):Sp:=λvs H Q E=>Vx λ(x:h_) (sg:r_) (rows:List (List cJ)) (fo fm:cJ) (v:V) (rs:List r_)=>vs=[.ref x,v]/\lM K C H x sg rows fo fm/\Rw K H v rs/\Ob rs ∧
 ((∀r∈rs,Of sg r)->∀H',ai H H'->Q .gE H')/\(∀i j,yC sg rs i j->∀dx H',ai H H'->H' dx=some (AY dx (BD i j))->E (.ref X) (some dx) H')
def Jp:Sp:=λvs H Q _=>∃x:r_,vs=[.str x]/\x.cps.size<=1000/\∀H',ai H H'->Q (.str (bV 45 x)) H'
def xy(K:PySem.W.Frag)(CB:h_)(H:Hp)(p:h_)(R:List r_)(N:List Int):Prop:=dI λln b=>H p=some (.tup [.ref ln,.ref b])/\H ln=some (.lst (N.map V.int))/\yP K CB H b R
theorem xy.same{K:PySem.W.Frag}{CB:h_}{H H':Hp}{p:h_}{R:List r_}{N:List Int}(h:xy K CB H p R N)(e:ai H H'):xy K CB H' p R N:=by
 obtain⟨ln,b,h1,h2,h3⟩:=h;exact⟨ln,b,e _ _ h1,e _ _ h2,h3.same e⟩
def Jj(K:PySem.W.Frag)(C CB:h_):Sp:=λvs H Q _=>Yy λ(x p q:h_) (T:PB) (R1 R2:List r_) (N1 N2:List Int) (n1 n2 m1 m2:Nat)=>vs=[.ref x,.ref p,.ref q]/\lM K C H x T.1 T.2.1 T.2.2.1 T.2.2.2/\xy K CB H p R1 N1/\xy K CB H q R2 N2/\ud T.1 R1 n1 m1/\ud T.1 R2 n2 m2/\n1+n2<=40/\m1+m2<=50/\N1.length+N2.length<=100 ∧
 ∀r R H',ai H H'->Jn T R1 R2 R->xy K CB H' r R (N1++N2)->Q (.ref r) H'
end
section
noncomputable def Tr.dep:Tr->Nat
 | .pair l r=>max l.dep r.dep+1
 |_=>0
noncomputable def Tr.swap:Tr->Int->Tr->Tr
 | .num n,k,o=>if n=k then o else .num n
 | .pair l r,k,o=>.pair (l.swap k o) (r.swap k o)
 | .odd,_,_=>.odd
def Di(d:Nat):Sp:=λvs H Q _=>EW λ(v:V) (t:Tr) (k:Int) (u:V) (o:Tr)=>vs=[v,.int k,u]/\cQ H t v/\t.ok=true/\t.dep<=d/\cQ H o u/\∀v' H',ai H H'->cQ H' (t.swap k o) v'->Q v' H'
def Jb(K:PySem.W.Frag):Sp:=λvs H Q _=>Vx λ(s t:h_) (ns:List Int) (k:Int) (sg:r_) (n m:Nat)=>vs=[.ref s,.ref t,.str sg,.int n,.int m]/\xB K H s t ns k/\k<=60000/\n<=10/\m<=10/\0<sg.cps.size/\sg.cps.size<=100 ∧
 ∀(l:h_) (rs:List r_) (H':Hp) (k':Int),rs.length=n->(∀r∈rs,Of sg r/\r.cps.size<=m)->ai (Wo t H) (Wo t H')->H' t=some (.lst [.int k'])->k<=k'->k'<=k+200->H' l=some (.lst (rs.map V.str))->l≠t->Q (.ref l) H'
end
section
noncomputable def fz(n:Nat):List Int:=(K_ n).map λi:Nat=>(i:Int)
def Mm(K:PySem.W.Frag):Sp:=λvs H Q _=>EW λ(s t:h_) (ns:List Int) (k:Int) (n:Nat)=>vs=[.ref s,.ref t,.int n]/\xB K H s t ns k/\k<=60000/\0<n/\n<=10 ∧
 ∀(v:V) (tr:Tr) (H':Hp) (k':Int),cQ (Wo t H') tr v->tr.ok=true->tr.leaves.Perm (fz n)->tr.size<=2*n->tr.dep<=n->ai (Wo t H) (Wo t H')->H' t=some (.lst [.int k'])->k<=k'->k'<=k+50->Q v H'
theorem KU(n:Nat):fz (n+1)=fz n++[(n:Int)]:=by unfold fz;rw[qbz,N_];rfl
theorem Nf{xs:List Int}{n j:Nat}(h:xs.Perm (fz n)):(xs.take j++(n:Int)::xs.drop j).Perm (fz (n+1)):=by
 rw[KU];refine List.perm_middle.trans ?_;rw[List.take_append_drop];exact(List.Perm.cons _ h).trans (List.perm_append_singleton _ _).symm
structure CW(us:List Tr)(n:Nat):Prop where
 ok:∀t∈us,t.ok=true
 lv:(us.flatMap Tr.leaves).Perm (fz n)
 sz:vm us+us.length=2*n
 dp:∀t∈us,t.dep+us.length<=n
theorem Mb{xs:List Int}{n:Nat}(h:xs.Perm (fz n)):CW (xs.map Tr.num) n:=by
 have hl:xs.length=n:=by rw[h.length_eq];unfold fz;rw[g_,qad]
 refine⟨λt ht=>?_,?_,?_,λt ht=>?_⟩
 ·obtain⟨x,_,rfl⟩:=O_.mp ht;rfl
 ·have e:∀l:List Int,(l.map Tr.num).flatMap Tr.leaves=l:=λl=>by
   induction l with
   |nil=>rfl
   |cons a l ih=>rw[qaK,List.flatMap_cons,ih];rfl
  rw[e];exact h
 ·have e:∀l:List Int,vm (l.map Tr.num)=l.length:=λl=>by
   induction l with
   |nil=>rfl
   |cons a l ih =>
    have:vm ((a::l).map Tr.num)=1+vm (l.map Tr.num):=rfl;rw[this,ih,M_];omega
  rw[e,g_];omega
 ·obtain⟨x,_,rfl⟩:=O_.mp ht;rw[g_,hl];exact qcn (qco n)
theorem CW.join{us vs:List Tr}{a b:Tr}{n:Nat}(h:CW (us++a::b::vs) n):CW (us++[.pair a b]++vs) n:=by
 obtain⟨h1,h2,h3,h4⟩:=h;have ha:=h1 a (by simp);have hb:=h1 b (by simp);have da:=h4 a (by simp);have db:=h4 b (by simp);simp only[o_,M_]at h3 h4 da db;refine⟨λt ht=>?_,?_,?_,λt ht=>?_⟩
 ·simp only[S_,w_]at ht;rcases ht with(q|rfl)|q
  ·exact h1 t (by simp[q])
  ·show(a.ok&&b.ok)=true;rw[ha,hb];rfl
  ·exact h1 t (by simp[q])
 ·have e:(us++[Tr.pair a b]++vs).flatMap Tr.leaves=(us++a::b::vs).flatMap Tr.leaves:=by simp[qaM,Tr.leaves]
  rw[e];exact h2
 ·have e1:vm (us++[Tr.pair a b]++vs)=vm us+(a.size+b.size+1)+vm vs:=by
   rw[tL,tL];simp[vm,Tr.size]
  have e2:vm (us++a::b::vs)=vm us+(a.size+(b.size+vm vs)):=by
   rw[tL];rfl
  rw[e1];rw[e2]at h3;simp only[o_,M_,qbi];omega
 ·simp only[o_,M_,qbi];simp only[S_,w_]at ht;rcases ht with(q|rfl)|q
  ·have:=h4 t (by simp[q]);omega
  ·show max a.dep b.dep+1+_<=n;omega
  ·have:=h4 t (by simp[q]);omega
theorem zM{α β:Type}{F:α->β->Prop}:∀{j:Nat} {us:List α} {ws:List β},Paired F us ws->j+1<us.length->V0 λA a b B C x y D=>us=A++a::b::B/\ws=C++x::y::D/\C.length=j/\Paired F A C/\F a x/\F b y/\Paired F B D
 | 0,_,_,.cons h1 (.cons h2 r),_=>⟨[],_,_,_,[],_,_,_,rfl,rfl,rfl,.nil,h1,h2,r⟩
 |j+1,_,_,.cons h r,hl=>by
  obtain⟨A,a,b,B,C,x,y,D,rfl,rfl,e,pA,hx,hy,pB⟩:=zM (j:=j) r (Nat.lt_of_succ_lt_succ hl);exact⟨_::A,a,b,B,_::C,x,y,D,Y,Y,by rw[M_,e],.cons h pA,hx,hy,pB⟩
 | 0,_,_,.nil,hl=>absurd hl (qbB _)
 | 0,_,_,.cons _ .nil,hl=>absurd hl (qaB 1)
 |_+1,_,_,.nil,hl=>absurd hl (qbB _)
theorem Cm{H:Hp}:∀xs:List Int,Paired (cQ H) (xs.map Tr.num) (xs.map V.int)
 |[]=>.nil
 |_::xs=>.cons rfl (Cm xs)
theorem Vi(C R:List V):xm (C++R) none (some (C.length:Int))=C:=by
 unfold xm;rw[HT.Jr,HT.zw,qcl,Nat.sub_zero,o_,qb2 (qaq _ _),List.take_left'];rfl
theorem Vj(C D:List V)(x y:V):xm (C++x::y::D) (some ((C.length:Int)+2)) none=D:=by
 have e:(C.length:Int)+2=((C.length+2:Nat):Int):=rfl;have el:(C++x::y::D).length=C.length+2+D.length:=by simp;omega
 unfold xm;rw[e,HT.Jr,HT.zw,el,qb2 (by omega),Nat.add_sub_cancel_left];have:(C++x::y::D).drop (C.length+2)=D:=by
  rw[List.drop_append];simp
 rw[this,qbQ]
theorem zN{α β:Type}{F:α->β->Prop}:∀{l:List α} {m:List β} {l':List α} {m':List β},Paired F l m->Paired F l' m'->Paired F (l++l') (m++m')
 |_,_,_,_,.nil,h=>h
 |_,_,_,_,.cons a r,h=>.cons a (zN r h)
end
section
theorem Tr.vn{k:Int}{o:Tr}:∀{t:Tr},k∈t.leaves->o.leaves.Sublist (t.swap k o).leaves
 | .num n,h=>by
  rw[w_.mp (show k∈[n] from h),Tr.swap,if_pos rfl];exact List.Sublist.refl _
 | .pair l r,h=>by
  rw[Tr.swap,Tr.leaves];rcases S_.mp (show k∈l.leaves++r.leaves from h)with q|q
  ·exact(Tr.vn q).trans (List.sublist_append_left _ _)
  ·exact(Tr.vn q).trans (List.sublist_append_right _ _)
 | .odd,h=>nomatch h
theorem Tr.Dd{k:Int}{o:Tr}:∀{t:Tr},k∈t.leaves->(t.swap k o).ok=true->o.ok=true
 | .num n,h,e=>by
  rw[w_.mp (show k∈[n] from h),Tr.swap,if_pos rfl]at e;exact e
 | .pair l r,h,e=>by
  rw[Tr.swap,Tr.ok,qae]at e;rcases S_.mp (show k∈l.leaves++r.leaves from h)with q|q
  ·exact Tr.Dd q e.1
  ·exact Tr.Dd q e.2
 | .odd,h,_=>nomatch h
theorem Tr.we{k:Int}{o:Tr}:∀{t:Tr},(t.swap k o).size<=t.size*(o.size+1)
 | .num n=>by
  rw[Tr.swap];split
  ·show o.size<=1*(o.size+1);omega
  ·show 1<=1*(o.size+1);omega
 | .pair l r=>by
  have h1:=Tr.we (k:=k) (o:=o) (t:=l);have h2:=Tr.we (k:=k) (o:=o) (t:=r);show(l.swap k o).size+(r.swap k o).size+1<=(l.size+r.size+1)*(o.size+1);rw[Nat.add_mul,Nat.add_mul];omega
 | .odd=>by show 1<=1*(o.size+1);omega
def ES(t:Tr)(n:Nat):Prop:=ua [t] [] n->False
theorem ua.one{t:Tr}{n:Nat}(h:ua [t] [] n):t.ok=true/\t.leaves.Nodup/\(∀x∈t.leaves,0<=x/\x<(n:Int))/\t.leaves.length=n:=by
 have e:[t].flatMap Tr.leaves=t.leaves:=by simp
 obtain⟨h1,h2,h3,h4⟩:=h;rw[e]at h2 h3 h4;exact⟨h1 t (by simp),by simpa using h2,h3,by simpa using h4⟩
section
variable{t:Tr}{n:Nat}{k:Int}
theorem JT{x:Int}(hk:k∈t.leaves)(hx:¬(0<=x/\x<(n:Int))):ES (t.swap k (.num x)) n:=λg =>
 hx (g.one.2.2.1 x ((Tr.vn hk).subset (by simp[Tr.leaves])))
theorem Qk(hk:k∈t.leaves):ES (t.swap k .odd) n:=λg=>by
 have:=Tr.Dd hk g.one.1;cases this
theorem Qj(hk:k∈t.leaves):ES (t.swap k (.pair (.num k) (.num k))) n:=λg=>by
 have:=g.one.2.1.sublist (Tr.vn hk);simp[Tr.leaves]at this
theorem N9(hk:k∈t.leaves):ES (.pair t (.num k)) n:=λg=>by
 have:=g.one.2.1;rw[Tr.leaves,qb9]at this;exact this.2.2 k hk k (by simp[Tr.leaves]) Y
theorem Tr.Ai:∀{t:Tr},t.ok=true->0<t.leaves.length
 | .num _,_=>by simp[Tr.leaves]
 | .pair l r,h=>by
  rw[Tr.ok,qae]at h;have:=Tr.Ai h.1;rw[Tr.leaves,o_];omega
 | .odd,h=>by cases h
theorem GD{l r u:Tr}(ho:(Tr.pair l r).ok=true)(hl:(Tr.pair l r).leaves.length=n)(hu:u=l\/u=r):ES u n:=λg=>by
 have h:=g.one.2.2.2;rw[Tr.ok,qae]at ho;have h1:=Tr.Ai ho.1;have h2:=Tr.Ai ho.2;rw[Tr.leaves,o_]at hl;rcases hu with rfl|rfl<;>omega
theorem N8:ES .odd n:=λg=>by
 have:=g.one.1;cases this
end
def My:Sp:=λvs H Q _=>t9 λ(m:Int) (v:V) (t:Tr) (n:Nat)=>vs=[.int m,v,.int n]/\0<=m/\cQ H t v/\t.ok=true/\t.leaves.Perm (fz n)/\t.size<=20/\t.dep<=5/\0<n/\n<=5 ∧
 ∀(v':V) (t':Tr) (H':Hp),ai H H'->cQ H' t' v'->t'.size<=1000->ES t' n->Q v' H'
end
end GP
namespace L2
open PySem PySem.Spec PyProof.Rows
section
theorem G5:typeLookup (.type "zip") "__len__" =pure none:=by rw[typeLookup_type,builtinLookup_eq_fast];kernel_rfl
theorem EX:typeLookup (.type "zip") "__length_hint__" =pure none:=by rw[typeLookup_type,builtinLookup_eq_fast];kernel_rfl
structure ZO(h:qab)(z TI TO i1 i2:h_)(c d:Cp)(a:h_)(f:Bool)(i:Nat):Prop where
 zz:h.get? z=some { cls:=.type "zip",dict:=none,data:=.fields #[rawInt a,.bool f,.bool false,.ref TI,.ref TO],slots:= #[] }
 ti:qb5 h TI (.ref i1) (.ref i2)
 h1:c.EV h i1 i
 h2:d.EV h i2 i
 al:∃o,h.get? a=some o
theorem Cp.yD{c:Cp}{xs:List V}{L:List h_}{h h':qab}(hs:c.src h xs)(ho:∀b∈L,c.off b)(k:∀b o,b∉L->h.get? b=some o->h'.get? b=some o):c.src h' xs:=by
 cases c with
 |lst a=>obtain⟨its,r,o,h1,q⟩:=hs;exact⟨its,r,o,k _ _ (λz=>ho a z Y) h1,q⟩
 |tup a=>obtain⟨its,r,o,h1,q⟩:=hs;exact⟨its,r,o,k _ _ (λz=>ho a z Y) h1,q⟩
 |txt x=>exact hs
section
variable{prog:A_}{w:U_}{A:qah}{E:i_->l_->Prop}{s:l_}{c d:Cp}{xs ys:List V}{z TI TO i1 i2 a:h_}{f:Bool}{i:Nat}
theorem ZO.free {Q:Bool->l_->Prop}(Z:ZO s.heap z TI TO i1 i2 c d a f i)(h:∀h',h'.get? z=some { cls:=.type "zip",dict:=none,data:=.fields #[rawInt a,.bool true,.bool false,.ref TI,.ref TO],slots:= #[] }->qa9 z s.heap h'->Q false { s with heap:=h' }) :
  D_ (model prog w) A (qak (.ref z)) Q E s:=by
 obtain⟨hz,_,_,_,o,ho⟩:=Z;unfold qak;refine f_ (qaz hz Y (x:=rawInt a) Y ?_);show D_ _ _ (loadIfAlive ((a:Int).toNat) >>= _) _ _ _;rw[qaD];refine f_ (PySem.W.kdx_alive ho ?_);simp only[Option.isNone_some,qap,if_false];refine f_ (qaz hz Y (x:=.bool f) Y ?_)
 cases f with
 |true =>
  rw[if_neg (show ¬((Value.bool true != Value.bool true)=true) from I_)];exact q_ (h _ hz (Heap.SameBut.refl _ _))
 |false =>
  rw[if_pos (show(Value.bool false != Value.bool true)=true from rfl)];refine f_ (qa6 hz (by simp) λh₃ XW oi=>q_ (h _ XW oi))
theorem JX{x y:V}{Q:Option i_->l_->Prop}(D:pH z TI TO i1 i2)(Z:ZO s.heap z TI TO i1 i2 c d a f i)(na:a∉[z,TI,TO,i1,i2])
  (sc:c.src s.heap xs) (sd:d.src s.heap ys) (hx:xs[i]? =some x) (hy:ys[i]? =some y)
  (hQ:∀u v h' tk,RelV x u->RelV y v->ZO h' z TI TO i1 i2 c d a true (i+1)->qb5 h' s.heap.objs.size u v →
   (∀b o,b∉[z,TO,i1,i2]->s.heap.get? b=some o->h'.get? b=some o)->Q (some (.ref s.heap.objs.size)) { s with heap:=h',toks:=tk }) :
  D_ (model prog w) A (pyNext (.ref z)) Q E s:=by
 obtain⟨hz,hTI,h1,h2,o,ho⟩:=id Z;simp only[G_,W_,or_false,not_or]at na;have hT:s.TypeIs (.ref z) "zip" :=⟨_,hz,rfl⟩;obtain⟨WN,T1,_,hi1,Qf,_,Pd,KW⟩:=Cp.iP h1;obtain⟨Y7,T2,_,hi2,ci2,_,n21,n22⟩:=Cp.iP h2;have cz:c.off z:=Cp.jA sc hz rfl (by decide) (by decide);have dz:d.off z:=Cp.jA sd hz rfl (by decide) (by decide);have di:d.off i1:=Cp.jA sd hi1 Qf Pd KW;unfold pyNext;refine f_ (qbl (qaT (name:=z_ "__next__") hT qbj
  (qa5 qbj hT qcS ?_ (qcL _))))
 show D_ _ _ (field (.ref z) 2 >>= _) _ _ _;refine f_ (qaz hz Y (x:=.bool false) Y ?_);show D_ _ _ (field (.ref z) 3 >>= _) _ _ _;refine f_ (qaz hz Y (x:=.ref TI) Y ?_);refine f_ (qa2 hTI Y ?_);show D_ _ _ (qak (.ref z) >>= _) _ _ _;refine f_ (Z.free λh₁ sV hs₁=>?_);simp only[qap,if_false,List.forIn_toArray,qby,qcK];refine f_ (f_ (f_ (qaF ?_)));show D_ _ _ (qaf (.ref i1) >>= _) _ _ _;refine f_ (Cp.item (c:=c) (Cp.fh h1 λo e=>hs₁.extBut _ _ D.i1z e) (Cp.jq sc hs₁.extBut cz) hx λu h₂ tk₂ ru JI hs₂=>q_ ?_);refine q_ (f_ (f_ (qaF ?_)));show D_ _ _ (qaf (.ref i2) >>= _) _ _ _;refine f_ (Cp.item (c:=d) (Cp.fh h2 λo e=>hs₂.extBut _ _ D.i12.symm (hs₁.extBut _ _ D.i2z e)) (Cp.jq (Cp.jq sd hs₁.extBut dz) hs₂.extBut di) hy λv h₄ tk₄ rv Nv qP=>q_ ?_);refine q_ (q_ ?_);refine f_ (wpAny_newTuple ?_ c_);have hsz:h₄.objs.size=s.heap.objs.size:=by rw[qP.1,hs₂.1,hs₁.1]
 have up:∀e o,e≠z->e≠i1->e≠i2->s.heap.get? e=some o->(h₄.push { cls:=.type "tuple",data:=.seq #[u,v] }).get? e=some o:=λe o e1 e2 e3 q =>
  j_ _ (qP.extBut _ _ e3 (hs₂.extBut _ _ e2 (hs₁.extBut _ _ e1 q)))
 refine q_ ⟨_,Y,q_ ?_⟩;show Q (some (.ref h₄.objs.size)) { s with heap:=h₄.push { cls:=.type "tuple",data:=.seq #[u,v] },toks:=tk₄ };rw[hsz];refine hQ u v _ _ ru rv ⟨j_ _ (qP.extBut _ _ D.i2z.symm (hs₂.extBut _ _ D.i1z.symm sV)),up _ _ D.TIz D.TIi1 D.TIi2 hTI,
  Cp.fh JI λo e=>j_ _ (qP.extBut _ _ D.i12 e),Cp.fh Nv λo e=>j_ _ e,o,up _ _ na.1 na.2.2.2.1 na.2.2.2.2 ho⟩ ?_ λe o ne q=>?_
 ·rw[←hsz];exact B_ _ Y
 ·simp only[G_,W_,or_false,not_or]at ne;exact up e o ne.1 ne.2.2.1 ne.2.2.2 q
theorem LP{Q:Option i_->l_->Prop}(hh:A.handled=none)(D:pH z TI TO i1 i2)(Z:ZO s.heap z TI TO i1 i2 c d a f i)
  (sc:c.src s.heap xs) (hx:xs[i]? =none)
  (hQ:∀h',(∀b o,b∉[z,TO,i1,i2]->s.heap.get? b=some o->h'.get? b=some o)->Q none { s with heap:=h' }) :
  D_ (model prog w) A (pyNext (.ref z)) Q E s:=by
 obtain⟨hz,hTI,h1,h2,o,ho⟩:=id Z;have hT:s.TypeIs (.ref z) "zip" :=⟨_,hz,rfl⟩;have cz:c.off z:=Cp.jA sc hz rfl (by decide) (by decide);unfold pyNext;refine f_ (qbl (qaT (name:=z_ "__next__") hT qbj
  (qa5 qbj hT qcS ?_ (qcL _))))
 show D_ _ _ (field (.ref z) 2 >>= _) _ _ _;refine f_ (qaz hz Y (x:=.bool false) Y ?_);show D_ _ _ (field (.ref z) 3 >>= _) _ _ _;refine f_ (qaz hz Y (x:=.ref TI) Y ?_);refine f_ (qa2 hTI Y ?_);show D_ _ _ (qak (.ref z) >>= _) _ _ _;refine f_ (Z.free λh₁ sV hs₁=>?_);simp only[qap,if_false,List.forIn_toArray,qby,qcK];refine f_ (f_ (f_ (qaF ?_)));show D_ _ _ (qaf (.ref i1) >>= _) _ _ _;refine f_ (Cp.fin (c:=c) hh (Cp.fh h1 λo e=>hs₁.extBut _ _ D.i1z e) (Cp.jq sc hs₁.extBut cz) hx λh₂ e hs₂ he=>?_);obtain⟨oe,PL,hce⟩:=he;refine f_ (wpAny_isInstance (T:= "StopIteration") (b:=true) ⟨oe,PL,hce⟩ isSubtype_stop ?_);refine q_ (hQ h₂ λb o ne q=>?_);simp only[G_,W_,or_false,not_or]at ne;exact hs₂ _ _ ne.2.2.1 (hs₁.extBut _ _ ne.1 q)
end
end
section
def ZA(h:qab)(z TI TO i1 i2:h_)(c d:Cp)(S:h_)(i:Nat):Prop:=CV h z TI TO i1 i2 c d .none i\/dI λa f=>S<a/\ZO h z TI TO i1 i2 c d a f i
structure ZG(h:qab)(S:h_)(xs ys:List V)(as:List h_):Prop where
 rise:as.Pairwise (·<·)
 above:∀a∈as,S<a
 pairs:∀(j:Nat) (a:h_),as[j]? =some a->t9 λx y u v=>xs[j]? =some x/\ys[j]? =some y/\RelV x u/\RelV y v/\qb5 h a u v
theorem ZG.keep{h h':qab}{S:h_}{xs ys:List V}{as:List h_}(g:ZG h S xs ys as)(k:∀b o,S<b->h.get? b=some o->h'.get? b=some o):ZG h' S xs ys as :=
 ⟨g.rise,g.above,λj a e=>by
  obtain⟨x,y,u,v,e1,e2,r1,r2,p⟩:=g.pairs j a e;exact⟨x,y,u,v,e1,e2,r1,r2,k _ _ (g.above a (u_ e)) p⟩⟩
theorem ZG.there{h:qab}{S:h_}{xs ys:List V}{as:List h_}(g:ZG h S xs ys as){a:h_}(ha:a∈as):a<h.objs.size:=by
 obtain⟨j,hj⟩:=qb6.mp ha;obtain⟨_,_,_,_,_,_,_,_,p⟩:=g.pairs j a hj;exact y_ p
theorem ZG.snoc{h:qab}{S b:h_}{xs ys:List V}{as:List h_}{x y:V}{u v:i_}(g:ZG h S xs ys as)(hb:S<b)(ha:∀a∈as,a<b)(hx:xs[as.length]? =some x)(hy:ys[as.length]? =some y)(r1:RelV x u)(r2:RelV y v)(p:qb5 h b u v):ZG h S xs ys (as++[b]):=by
 refine⟨List.pairwise_append.mpr ⟨g.rise,List.pairwise_singleton _ _,λa h1 b' h2=>by rw[w_.mp h2];exact ha a h1⟩,λa h1=>?_,λj a e=>?_⟩
 ·rcases S_.mp h1 with q|q
  ·exact g.above a q
  ·rw[w_.mp q];exact hb
 ·rcases Nat.lt_trichotomy j as.length with h1|h1|h1
  ·rw[qau h1]at e;exact g.pairs j a e
  ·subst h1;have eb:b=a:=by simpa using e
   subst eb;exact⟨x,y,u,v,hx,hy,r1,r2,p⟩
  ·have hnone:(as++[b])[j]? =none:=qaj (by rw[o_,qa3];omega);rw[hnone]at e;cases e
section
variable{prog:A_}{w:U_}{A:qah}{E:i_->l_->Prop}{s:l_}{c d:Cp}{xs ys:List V}{z TI TO i1 i2 S:h_}{i:Nat}
theorem ZA.typ(Z:ZA s.heap z TI TO i1 i2 c d S i):s.TypeIs (.ref z) "zip" :=by
 rcases Z with Z|⟨a,f,_,Z⟩
 ·exact⟨_,Z.zz,Y⟩
 ·exact⟨_,Z.zz,Y⟩
theorem ZA.keep{h h':qab}(Z:ZA h z TI TO i1 i2 c d S i)(lo:∀b∈[z,TI,TO,i1,i2],b<S)(k:∀b o,b≠S->h.get? b=some o->h'.get? b=some o):ZA h' z TI TO i1 i2 c d S i:=by
 simp only[G_,W_,or_false,forall_eq_or_imp,forall_eq]at lo;obtain⟨l1,l2,l3,l4,l5⟩:=lo;have up:∀b o,b<S->h.get? b=some o->h'.get? b=some o:=λb o hb e=>k b o (Y_ hb) e;rcases Z with Z|⟨a,f,ha,Z⟩
 ·obtain⟨z1,z2,⟨p,q,z3⟩,z4,z5,z6,z7⟩:=Z;exact .inl ⟨up _ _ l1 z1,up _ _ l2 z2,⟨p,q,up _ _ l3 z3⟩,Cp.fh z4 λo e=>up _ o l4 e,Cp.fh z5 λo e=>up _ o l5 e,z6,z7⟩
 ·obtain⟨z1,z2,z4,z5,o,z6⟩:=Z;exact .inr ⟨a,f,ha,up _ _ l1 z1,up _ _ l2 z2,Cp.fh z4 λo e=>up _ o l4 e,Cp.fh z5 λo e=>up _ o l5 e,o,k _ _ (qaR ha) z6⟩
theorem JY{x y:V}{Q:Option i_->l_->Prop}(D:pH z TI TO i1 i2)(lo:∀b∈[z,TI,TO,i1,i2],b<S)(hS:S<s.heap.objs.size)(Z:ZA s.heap z TI TO i1 i2 c d S i)
  (sc:c.src s.heap xs) (sd:d.src s.heap ys) (hx:xs[i]? =some x) (hy:ys[i]? =some y)
  (hQ:∀u v h' tk,RelV x u->RelV y v->ZA h' z TI TO i1 i2 c d S (i+1)->qb5 h' s.heap.objs.size u v →
   (∀b o,b∉[z,TO,i1,i2]->s.heap.get? b=some o->h'.get? b=some o)->Q (some (.ref s.heap.objs.size)) { s with heap:=h',toks:=tk }) :
  D_ (model prog w) A (pyNext (.ref z)) Q E s:=by
 rcases Z with Z|⟨a,f,ha,Z⟩
 ·refine EY D Z sc sd hx hy λu v h' tk ru rv Z' hp kk=>hQ u v h' tk ru rv (.inr ⟨s.heap.objs.size,false,hS,Z'.zz,Z'.ti,Z'.h1,Z'.h2,_,hp⟩) hp λb o nb e=>?_;simp only[G_,W_,or_false,not_or]at nb;exact kk b o nb.1 nb.2.1 nb.2.2.1 nb.2.2.2 e
 ·exact JX D Z (λq=>qaB _ (qcI ha (lo a q))) sc sd hx hy λu v h' tk ru rv Z' hp kk=>hQ u v h' tk ru rv (.inr ⟨a,true,ha,Z'⟩) hp kk
theorem LQ{Q:Option i_->l_->Prop}(hh:A.handled=none)(D:pH z TI TO i1 i2)(Z:ZA s.heap z TI TO i1 i2 c d S i)
  (sc:c.src s.heap xs) (sd:d.src s.heap ys) (hx:xs[i]? =none)
  (hQ:∀h' tk,(∀b o,b∉[z,TO,i1,i2]->s.heap.get? b=some o->h'.get? b=some o)->Q none { s with heap:=h',toks:=tk }) :
  D_ (model prog w) A (pyNext (.ref z)) Q E s:=by
 rcases Z with Z|⟨a,f,ha,Z⟩
 ·refine IW hh D Z sc sd (.inl hx) λh' tk kk=>hQ h' tk λb o nb e=>?_;simp only[G_,W_,or_false,not_or]at nb;exact kk b o nb.1 nb.2.1 nb.2.2.1 nb.2.2.2 e
 ·exact LP hh D Z sc hx λh' kk=>hQ h' s.toks kk
theorem LO{R:Result->l_->Prop}{res:i_}{h₀:qab}(hh:A.handled=none)(D:pH z TI TO i1 i2)(lo:∀b∈[z,TI,TO,i1,i2],b<S)(hl:ys.length=xs.length)(hn:xs.length<=x_)
  (oc:∀b∈[S,z,TO,i1,i2],c.off b) (od:∀b∈[S,z,TO,i1,i2],d.off b)
  (hR:∀(h':qab) (tk:Nat) (acc:Array i_) (n:Nat) (as:List h_),(∀b o,b∉[S,z,TO,i1,i2]->h₀.get? b=some o->h'.get? b=some o)->h'.get? S=some { cls:=.type "list",dict:=none,data:=.seq acc n,slots:= #[] }->acc.toList=as.map Value.ref->as.length=xs.length->ZG h' S xs ys as->R (.ok (.ret res)) { s with heap:=h',toks:=tk }) :
  ∀(k i:Nat) (h:qab) (tk n:Nat) (acc:Array i_) (as:List h_),xs.length-i=k->i<=xs.length->ZA h z TI TO i1 i2 c d S i->c.src h xs->d.src h ys->(∀b o,b∉[S,z,TO,i1,i2]->h₀.get? b=some o->h.get? b=some o) →
   h.get? S=some { cls:=.type "list",dict:=none,data:=.seq acc n,slots:= #[] }->acc.toList=as.map Value.ref->as.length=i->ZG h S xs ys as →
   codeAny (model prog w) A (.builtin "list.extend.loop" ⟨[.ref S,.ref z,res],[]⟩) R { s with heap:=h,toks:=tk }:=by
 have lo':=lo;simp only[G_,W_,or_false,forall_eq_or_imp,forall_eq]at lo';obtain⟨l1,l2,l3,l4,l5⟩:=lo';have nS:S∉[z,TO,i1,i2]:=λq=>by
  simp only[G_,W_,or_false]at q;rcases q with q|q|q|q
  ·rw[←q]at l1;exact qaB _ l1
  ·rw[←q]at l3;exact qaB _ l3
  ·rw[←q]at l4;exact qaB _ l4
  ·rw[←q]at l5;exact qaB _ l5
 have nb:∀b,S<b->b∉[z,TO,i1,i2]:=λb hb q=>by
  simp only[G_,W_,or_false]at q;rcases q with q|q|q|q<;>subst q
  ·exact Nat.lt_asymm hb l1
  ·exact Nat.lt_asymm hb l3
  ·exact Nat.lt_asymm hb l4
  ·exact Nat.lt_asymm hb l5
 intro k
 induction k with
 |zero =>
  intro i h tk n acc as hk hi Z sc sd kp hS ha hal G;have e:i=xs.length:=by omega
  subst e;refine qbA F.entry_extend_loop ?_;rw[qbb qcu _];show D_ _ A.in1 (pyNext (.ref z) >>= _) _ _ _;refine f_ (LQ hh D Z sc sd (qaj (k_ _)) λh' tk' kk=>?_);exact q_ (hR h' tk' acc n as (λb o q e=>kk b o (λr=>q (J_ _ r)) (kp b o q e)) (kk S _ nS hS) ha hal (G.keep λb o hb e=>kk b o (nb b hb) e))
 |succ k ih =>
  intro i h tk n acc as hk hi Z sc sd kp hS ha hal G;have hlt:i<xs.length:=by omega
  refine qbA F.entry_extend_loop ?_;rw[qbb qcu _];show D_ _ A.in1 (pyNext (.ref z) >>= _) _ _ _;have hSl:S<h.objs.size:=y_ hS;obtain⟨x,hx⟩:∃x,xs[i]? =some x:=⟨_,e_ hlt⟩;obtain⟨y,hy⟩:∃y,ys[i]? =some y:=⟨_,e_ (by omega)⟩;refine f_ (JY D lo hSl Z sc sd hx hy λu v h' tk' ru rv Z' hp kk=>?_);have hS':=kk S _ nS hS;have hsz:acc.size=i:=by rw[←s_,ha,g_,hal]
  show D_ _ A.in1 (updateSeq S (·.push (Value.ref h.objs.size)) >>= _) _ _ _;refine f_ ?_;have Ut:∀b o,b≠S->h'.get? b=some o->(h'.update S (qaO (·.push (Value.ref h.objs.size)))).get? b=some o:=λb o hb e=>(qal _ _ (Ne.symm hb)).trans e;have k2:∀b o,b∉[S,z,TO,i1,i2]->h.get? b=some o->(h'.update S (qaO (·.push (Value.ref h.objs.size)))).get? b=some o:=λb o q e=>Ut b o (λr=>q (by rw[r];exact L_)) (kk b o (λr=>q (J_ _ r)) e);refine wpAny_updateSeq hS' Y (q_ ⟨plainId_quiet qcu _,ih (i+1) _ _ _ (acc.push (.ref h.objs.size)) (as++[h.objs.size]) (by omega) hlt (Z'.keep lo Ut) (Cp.yD sc oc k2) (Cp.yD sd od k2)
   (λb o q e=>k2 b o q (kp b o q e)) (qaw _ hS' rfl) (by rw[Array.toList_push,ha,N_];rfl) (by rw[o_,hal];rfl) ?_⟩) (by rw[hsz];omega) (by show(acc.push _).size<=x_+1;rw[Array.size_push,hsz];omega)
  have G':ZG (h'.update S (qaO (·.push (Value.ref h.objs.size)))) S xs ys as:=G.keep λb o hb e=>Ut b o (qaR hb) (kk b o (nb b hb) e);exact G'.snoc hSl (λa h1=>G.there h1) (by rw[hal];exact hx) (by rw[hal];exact hy) ru rv (Ut _ _ (qaR hSl) hp)
theorem EZ{Q:List i_->l_->Prop}(hh:A.handled=none)(D:pH z TI TO i1 i2)(Z:CV s.heap z TI TO i1 i2 c d .none 0)(sc:c.src s.heap xs)(sd:d.src s.heap ys)(oc:c.off TO)(od:d.off TO)(hl:ys.length=xs.length)(hn:xs.length<=x_)
  (hQ:∀(h':qab) (tk:Nat) (as:List h_),(∀b o,b∉[z,TO,i1,i2]->s.heap.get? b=some o->h'.get? b=some o)->as.length=xs.length->ZG h' s.heap.objs.size xs ys as->Q (as.map Value.ref) { s with heap:=h',toks:=tk }) :
  D_ (model prog w) A (collect (.ref z)) Q E s:=by
 obtain⟨WN,T1,_,hi1,Qf,_,Pd,KW⟩:=Cp.iP Z.h1;obtain⟨Y7,T2,_,hi2,ci2,_,n21,n22⟩:=Cp.iP Z.h2;obtain⟨pa,pb,hTO⟩:=Z.to;have lo:∀b∈[z,TI,TO,i1,i2],b<s.heap.objs.size:=by
  simp only[G_,W_,or_false,forall_eq_or_imp,forall_eq];exact⟨y_ Z.zz,y_ Z.ti,y_ hTO,y_ hi1,y_ hi2⟩
 have Y8:∀{c':Cp} {xs':List V},c'.src s.heap xs'->c'.off TO->∀b∈[s.heap.objs.size,z,TO,i1,i2],c'.off b:=λ{c' xs'} q q2=>by
  simp only[G_,W_,or_false,forall_eq_or_imp,forall_eq];exact⟨Cp.vG q (k_ _),Cp.jA q Z.zz Y (by decide) (by decide),q2,Cp.jA q hi1 Qf Pd KW,Cp.jA q hi2 ci2 n21 n22⟩
 have zS:s.heap.objs.size≠z:=qaR (lo z L_);have Z1:ZA (s.heap.push { cls:=.type "list",data:=.seq ([]:List i_).toArray }) z TI TO i1 i2 c d s.heap.objs.size 0:=ZA.keep (.inl Z) lo λb o _ e=>j_ _ e;unfold collect;refine f_ (wpAny_runValue (qbA F.entry_proto_collect ?_));rw[qbb F.plain_proto_collect _];show D_ _ A.in1 (newList [] >>= λl=>again (.builtin "list.__iadd__" ⟨[l,.ref z],[]⟩)) _ _ s;refine f_ (qb8 ?_);refine q_ ⟨plainId_quiet F.plain_list_iadd _,qbA F.entry_list_iadd ?_⟩;rw[qbb F.plain_list_iadd _];show D_ _ A.in1 (Builtin.List.listExtendWith (.ref s.heap.objs.size) (.ref z) (.ref s.heap.objs.size)) _ _ _;unfold Builtin.List.listExtendWith;have hT:=ZA.typ (s:={ s with heap:=s.heap.push { cls:=.type "list",data:=.seq ([]:List i_).toArray } }) Z1;refine f_ (wpAny_typeOf hT ?_);have h1:Builtin.List.listSameRef (.ref s.heap.objs.size) (.ref z)=false:=by simp[Builtin.List.listSameRef,zS]
 have h2:(Value.type "zip" ==Value.type "list")=false:=by decide
 have h3:(Value.type "zip" ==Value.type "tuple")=false:=by decide
 simp only[h1,h2,h3,Bool.or_false,qap,if_false];refine f_ (wpAny_pyIter_zip (j_ _ Z.zz) ?_);refine f_ (qaF ?_);unfold Builtin.List.listLengthHint;refine f_ (wpAny_specialOf hT G5 ?_);show D_ _ A.in1 (specialOf (Value.ref z) (z_ "__length_hint__") >>= _) _ _ _;refine f_ (wpAny_specialOf hT EX ?_);refine q_ ?_;show D_ _ A.in1 (rule "list.extend.makes-room" >>= λ_=>Builtin.List.listTouch (.ref s.heap.objs.size) >>= λ_ =>
  again (.builtin "list.extend.loop" ⟨[.ref s.heap.objs.size,.ref z,.ref s.heap.objs.size],[]⟩)) _ _ _
 refine f_ (wpAny_rule ?_);have Q5:(s.heap.push { cls:=.type "list",data:=.seq ([]:List i_).toArray }).get? s.heap.objs.size=some { cls:=.type "list",data:=.seq ([]:List i_).toArray }:=B_ _ rfl;refine f_ ?_;show D_ _ A.in1 (updateSeq s.heap.objs.size (·.push .none) >>= λ_=>updateSeq s.heap.objs.size (·.pop)) _ _ _;refine f_ (wpAny_updateSeq Q5 Y ?_);have Q4:=qaw (qaO (·.push Value.none)) Q5 rfl;refine wpAny_updateSeq Q4 Y ?_;have X5:=qaw (qaO (·.pop)) Q4 rfl;have Ut:∀b o,b≠s.heap.objs.size->(s.heap.push { cls:=.type "list",data:=.seq ([]:List i_).toArray }).get? b=some o →
   (((s.heap.push { cls:=.type "list",data:=.seq ([]:List i_).toArray }).update s.heap.objs.size (qaO (·.push Value.none))).update s.heap.objs.size (qaO (·.pop))).get? b=some o :=
  λb o hb e=>(qal _ _ (Ne.symm hb)).trans ((qal _ _ (Ne.symm hb)).trans e)
 have k0:∀b o,b∉[s.heap.objs.size,z,TO,i1,i2]->s.heap.get? b=some o->(((s.heap.push { cls:=.type "list",data:=.seq ([]:List i_).toArray }).update s.heap.objs.size (qaO (·.push Value.none))).update s.heap.objs.size (qaO (·.pop))).get? b=some o :=
  λb o hb e=>Ut b o (λr=>hb (by rw[r];exact L_)) (j_ _ e)
 refine q_ ⟨plainId_quiet qcu _,LO (s:=s) (h₀:=s.heap) hh D lo hl hn (Y8 sc oc) (Y8 sd od) (λh' tk acc n as kk hS' ha hal G=>?_) xs.length 0 _ _ _ #[] [] (Nat.sub_zero _) (T_ _) (Z1.keep lo Ut)
  (Cp.yD sc (Y8 sc oc) k0) (Cp.yD sd (Y8 sd od) k0) k0 X5 rfl rfl ⟨qcJ,(λ_ q=>nomatch q),λj a q=>by simp at q⟩⟩
 show D_ _ A (load s.heap.objs.size >>= _) _ _ _;refine f_ (wpAny_load hS' ?_);refine q_ ?_;show Q acc.toList _;rw[ha];exact hQ h' tk as (λb o q e=>kk b o (λr=>by
  rcases G_.mp r with r|r
  ·rw[r]at e;exact qaB _ (y_ e)
  ·exact q r) e) hal G
end
end
section
noncomputable def pr2(z:Int×r_):HO:=.tup [.int z.1,.str z.2]
theorem Inv.Me{X:Cx}{pins:List (h_×qa0)}{σ:St}{H1:Hp}{s1 s:l_}{key:h_->Int×r_}(I1:Inv X pins σ H1 s1):∀(as:List h_) (H':Hp),Inv X pins σ H' s->as.Nodup->(∀a∈as,s1.heap.objs.size<=a/\H' a=none/\dI λu v=>RelV (.int (key a).1) u/\RelV (.str (key a).2) v/\qb5 s.heap a u v) →
  ∃H2,Inv X pins σ H2 s/\(∀b,b∉as->H2 b=H' b)/\∀a∈as,H2 a=some (pr2 (key a))
 |[],H',I,_,_=>⟨H',I,λ_ _=>rfl,λ_ q=>nomatch q⟩
 |a::as,H',I,nd,h=>by
  obtain⟨n1,n2⟩:=qbx.mp nd;obtain⟨h1,h2,u,v,r1,r2,p⟩:=h a L_;have I':Inv X pins σ (upd H' a (pr2 (key a))) s:=I.IY (I1.xg h1 h2) ⟨c_,[u,v],.cons r1 (.cons r2 .nil),⟨_,p,rfl,_,rfl⟩⟩;obtain⟨H2,I2,o2,t2⟩:=Inv.Me I1 as _ I' n2 λb hb=>by
   obtain⟨q1,q2,q3⟩:=h b (J_ _ hb);exact⟨q1,by rw[au (λz:b=a=>n1 (by rw[←z];exact hb))];exact q2,q3⟩
  refine⟨H2,I2,λb hb=>?_,λb hb=>?_⟩
  ·rw[o2 b λq=>hb (J_ _ q),au (λz=>hb (by rw[z];exact L_))]
  ·by_cases q:b∈as
   ·exact t2 b q
   ·rw[o2 b q];rcases G_.mp hb with z|z
    ·rw[z,af]
    ·exact absurd z q
def Mh(K:PySem.W.Frag)(ta:TA):TE:=λσ H Q=>ta σ H λvs H1=>t9 λ(c d:Cp) (ks:List Int) (ts:List r_)=>vs=[c.val,d.val]/\c.at K H1 (ks.map V.int)/\d.at K H1 (ts.map V.str)/\ts.length=ks.length/\ks.length<64/\ks.Nodup ∧
 ∀(l:h_) (H2:Hp) (ps:List h_) (key:h_->Int×r_),H1 l=none->(∀b o,H1 b=some o->H2 b=some o)->H2 l=some (.lst (ps.map V.ref))->(∀p∈ps,H2 p=some (pr2 (key p)))->(ps.map key).Perm (ks.zip ts)->(ps.map λp=>(key p).1).Pairwise (·<·)->Q (.ref l) H2
theorem HF {X:Cx}{a b:Expr}{ta:TA}{p p2 pos pos2:qcq}(hc:X.calm=true)(hg:Gl X "sorted")(hm:X.mg "sorted" =none)(hg2:Gl X "zip")(hm2:X.mg "zip" =none)(ha:PA X [a,b] ta)
  (hs:qac [a,b] X.env=[(false,eval a X.env),(false,eval b X.env)]:=by rfl) (hs2:qac [b] X.env=[(false,eval b X.env)]:=by rfl)
  (hs3:qac [Expr.Call (.Name "zip" p2) [a,b] [] pos2] X.env=[(false,eval (.Call (.Name "zip" p2) [a,b] [] pos2) X.env)]:=by rfl) :
  PE X (.Call (.Name "sorted" p) [.Call (.Name "zip" p2) [a,b] [] pos2] [] pos) (Mh X.K ta):=by
 intro pins s σ H Q I h;refine qa4 (qm I hg hm boot_sorted (callWith_builtin1 ?_ (by rw[hs3];rfl) Y));rw[hs3];show D_ _ _ (spliced [(false,eval (.Call (.Name "zip" p2) [a,b] [] pos2) X.env)]) _ _ s;refine qcB (Call_ (qm I hg2 hm2 boot_zip (qaL (gg (ha pos2 pins s σ H _ I h) λus s1 ⟨vs,H1,I1,r1,q1⟩=>?_) (by rw[hs,hs2]) (by rw[hs2];rfl))));obtain⟨c,d,ks,ts,e,hx,hy,hl,h64,nd,q⟩:=q1;subst e;obtain⟨u,v,rfl,ru,rv⟩:=vals2 r1;obtain⟨t1,rfl⟩:=Cp.value_of ru;obtain⟨t2,rfl⟩:=Cp.value_of rv;have sc:=Cp.o7 I1 hx;have sd:=Cp.o7 I1 hy;refine CG sc sd λh' hz hTI hTO h1 h2 kk=>?_;refine Calls.spliced_nil ?_;have D:=yQ s1.heap.objs.size;have oc:=Cp.vG sc (qaq _ 3);have od:=Cp.vG sd (qaq _ 3);have acq:ks.length<=x_:=by rw[qba];omega
 refine TK.cj (n:=s1.toks) (k_ _) ?_;refine Calls.call_function_entry kind_sorted plain_sorted entry_sorted (args_sorted1 _) ?_;unfold Builtin.«sorted»;refine f_ (m:=checkCount "sorted" 1 1 _) (q_ ?_);refine f_ (EZ (I.ok.hd hc) D ⟨hz,hTI,⟨_,_,hTO⟩,h1,h2,oc,od⟩ (Cp.y9 sc kk) (Cp.y9 sd kk) oc od (by rw[g_,g_];exact hl) (by rw[g_];exact acq) λh2 tk as k2 hal G=>?_);rw[g_]at hal;have nda:as.Nodup:=G.rise.imp λz=>Y_ z
 let key:h_->Int×r_:=λa=>((ks.zip ts)[as.idxOf a]?).getD (0,"")
 have hkey:∀j a,as[j]? =some a->(ks.zip ts)[j]? =some (key a):=λj a e=>by
  have hj:j<as.length:=(p_.mp e).1;have ej:as.idxOf a=j:=by
   obtain⟨_,e'⟩:=p_.mp e;rw[←e'];exact nda.idxOf_getElem j hj
  show _=some (((ks.zip ts)[as.idxOf a]?).getD (0,""));rw[ej,e_ (show j<(ks.zip ts).length by rw[List.length_zip];omega)];rfl
 have pairs:∀a∈as,dI λu v=>RelV (.int (key a).1) u/\RelV (.str (key a).2) v/\qb5 h2 a u v:=λa ha=>by
  obtain⟨j,hj⟩:=qb6.mp ha;obtain⟨x,y,u,v,e1,e2,r1,r2,pp⟩:=G.pairs j a hj;have ek:=hkey j a hj;rw[List.getElem?_zip_eq_some]at ek;rw[n_,ek.1]at e1;rw[n_,ek.2]at e2;cases e1;cases e2;exact⟨u,v,r1,r2,pp⟩
 have WW:as.map key=ks.zip ts:=by
  apply qcb;intro j;rw[n_]
  cases e:as[j]? with
  |none=>rw[qaj (by rw[List.length_zip];have:=qbr.mp e;omega)];rfl
  |some a=>rw[hkey j a e];rfl
 let f:i_->Int:=λv=>match v with| .ref a=>(key a).1|_=>0
 have WX:∀bs:List h_,(bs.map Value.ref).map f=bs.map λa=>(key a).1:=λbs=>by rw[qam];rfl
 have at2:∀v∈as.map Value.ref,TS.IV h2 v (f v):=λv hv=>by
  obtain⟨a,ha,rfl⟩:=O_.mp hv;obtain⟨u,v,⟨t,rfl⟩,⟨t',rfl⟩,pp⟩:=pairs a ha;exact⟨a,_,_,t,_,t',Y,pp,Y,Y⟩
 have k1s:(as.map λa=>(key a).1)=ks:=by
  have:=congrArg (List.map (·.1)) WW;rw[qam,List.map_fst_zip (by omega)]at this;exact this
 refine f_ (wpAny_newList ?_ (by rw[g_];omega));have XA:(h2.push (seqObj "list" (as.map Value.ref).toArray 0)).get? h2.objs.size=some (seqObj "list" (as.map Value.ref).toArray 0):=B_ _ rfl;refine f_ (qaF (qa5 slot_list_sort ⟨_,XA,Y⟩ entry_list_sort (TS.Ij (f:=f) XA (λv hv=>(at2 v hv).keep λb o _ e=>j_ _ e) (by rw[WX,k1s];exact nd) (by rw[g_];omega) λvs' pm pw=>⟨_,Y,?_⟩) (args_list_sort _)));refine q_ ⟨_,Y,λhup=>?_⟩;obtain⟨ps,rfl⟩:∃ps:List h_,vs'=ps.map Value.ref:=by
  refine⟨vs'.map λv=>match v with| .ref a=>a|_=>0,?_⟩
  rw[qam];refine(List.map_id vs').symm.trans (qbI λv hv=>?_);obtain⟨a,_,rfl⟩:=O_.mp (pm.mem_iff.mp hv);rfl
 have pm':ps.Perm as:=by
  have:=pm.map λv=>match v with| .ref a=>a|_=>0
  rw[qam,qam]at this;exact(by simpa[Function.comp_def]using this)
 have hs2:s1.heap.objs.size<=h'.objs.size:=qa1 (t_ (qaq _ 4) (y_ hz));have nb:∀b o,s1.heap.get? b=some o->b∉[s1.heap.objs.size+4,s1.heap.objs.size+3,s1.heap.objs.size,s1.heap.objs.size+1]:=λb o e z=>by
  have lt:∀k:Nat,b≠s1.heap.objs.size+k:=λk z=>by
   have l:=y_ e;rw[z]at l;exact qcU.mpr (qaq _ k) l
  simp only[G_,W_,or_false]at z;rcases z with z|z|z|z
  ·exact lt 4 z
  ·exact lt 3 z
  ·exact lt 0 z
  ·exact lt 1 z
 have up:∀b o,h2.get? b=some o->(sortedHeap (h2.push (seqObj "list" (as.map Value.ref).toArray 0)) h2.objs.size (as.map Value.ref) (ps.map Value.ref).toArray).get? b=some o:=λb o e =>
  TS.wz (Y_ (y_ e)) (j_ _ e)
 have I3:Inv X pins σ H1 { s1 with heap:=sortedHeap (h2.push (seqObj "list" (as.map Value.ref).toArray 0)) h2.objs.size (as.map Value.ref) (ps.map Value.ref).toArray,toks:=tk } :=
  I1.kept (λb o e=>up b o (k2 b o (nb b o e) (kk b o e))) hup
 have le:∀a∈as,s1.heap.objs.size<=a:=λa ha=>m_ hs2 (qa1 (G.above a ha));obtain⟨H2,I4,o2,t2⟩:=Inv.Me (key:=key) I1 as H1 I3 nda λa ha=>by
  obtain⟨u,v,r1,r2,pp⟩:=pairs a ha;exact⟨le a ha,I1.hok.fresh (le a ha),u,v,r1,r2,up _ _ pp⟩
 have kS:h'.get? (s1.heap.objs.size+2)=some _:=hTI;have lL:s1.heap.objs.size<=h2.objs.size:=by
  have ne:∀{a b:Nat},a≠b->s1.heap.objs.size+a≠s1.heap.objs.size+b:=λh z=>h (Nat.add_left_cancel z);have e:=k2 _ _ (λz=>by
   simp only[G_,W_,or_false]at z;rcases z with z|z|z|z
   ·exact ne (by decide) z
   ·exact ne (by decide) z
   ·exact ne (b:=0) (by decide) z
   ·exact ne (by decide) z) kS
  exact m_ (qaq _ 2) (qa1 (y_ e))
 have nL:h2.objs.size∉as:=λz=>qaB _ (G.there z);have hn:H1 h2.objs.size=none:=I1.hok.fresh lL;obtain⟨m,en⟩:=TS.zp (vs:=as.map Value.ref) (out:=(ps.map Value.ref).toArray) XA;have vv:∀bs:List h_,Vals (bs.map V.ref) (bs.map Value.ref):=λbs=>by
  induction bs with
  |nil=>exact .nil
  |cons b bs ih=>exact .cons Y ih
 refine⟨.ref h2.objs.size,upd H2 h2.objs.size (.lst (ps.map V.ref)),I4.IY (I1.xg lL (by rw[o2 _ nL];exact hn)) ⟨?_,ps.map Value.ref,m,vv ps,en⟩,Y,
  q h2.objs.size _ ps key hn (λb o e=>?_) af (λb hb=>?_) ?_ ?_⟩
 ·rw[g_,pm'.length_eq];omega
 ·rw[au (bq e hn)];by_cases z:b∈as
  ·rw[I1.hok.fresh (le b z)]at e;cases e
  ·rw[o2 b z];exact e
 ·rw[au (λz:b=_=>nL (by rw[←z];exact pm'.mem_iff.mp hb))];exact t2 b (pm'.mem_iff.mp hb)
 ·rw[←WW];exact pm'.map key
 ·rw[←WX];exact pw
end
end L2
namespace GP
open PySem L2 lN
section
theorem qH:∀{vs:List V} {st st':List Tr},Dt vs st=some st'->(st.reverse.flatMap Tr.leaves).Sublist (st'.reverse.flatMap Tr.leaves)
 |[],st,st',h=>by cases h;exact List.Sublist.refl _
 | .int n::vs,st,st',h=>by
  refine List.Sublist.trans ?_ (qH (vs:=vs) (st:=.num n::st) h);rw[qay,qaM];exact List.sublist_append_left _ _
 | .gE::vs,r::l::st,st',h=>by
  have q:=qH (vs:=vs) (st:=.pair l r::st) h;rw[qay,qaM]at q;rw[qay,qay,qaM,qaM,qaH];simpa[Tr.leaves]using q
 | .gE::vs,[],st',h=>by cases h
 | .gE::vs,[_],st',h=>by cases h
 | .str _::_,_,_,h=>by cases h
 | .bl _::_,_,_,h=>by cases h
 | .ref _::_,_,_,h=>by cases h
 | .ty _::_,_,_,h=>by cases h
theorem MV{sg r:r_}{m:Nat}(hs:uv sg)(hr:Of sg r)(hm:r.cps.size<=m):ud sg [r] 1 m:=by
 refine⟨Eo.block (n:=1) (i:=r.cps.size) ⟨Y,λq hq=>by rw[w_.mp hq],λq hq c hc=>?_,λj hj=>?_⟩ (by decide),λq hq c hc=>?_,Y,λq hq=>by rw[w_.mp hq];exact hm⟩
 ·rw[w_.mp hq]at hc;exact .inr (hs.2.2.1 c (hr c hc))
 ·refine⟨r,w_.mpr Y,r.cps.toList[j]'(by rw[s_];exact hj),e_ _,λz=>Uz hs (hr 45 ?_)⟩;rw[←z];exact Q_ _
 ·rw[w_.mp hq]at hc;exact yK.mpr (.inr (hr c hc))
theorem Lay.bk{T:PB}{rs:List r_}{t:Tr}{R:List r_}{N:List Int}(hs:uv T.1)(hr:∀r∈rs,Of T.1 r/\r.cps.size<=7)(h:Lay T rs t R N):ud T.1 R N.length (7*N.length):=by
 induction h with
 |num h =>
  obtain⟨h1,h2⟩:=hr _ (u_ h);exact MV hs h1 h2
 |pair _ _ j h1 h2 =>
  rw[o_,Nat.mul_add];exact Jn.ok j h1 h2
theorem IG{R S:List r_}(p:S.Perm R)(h:fk R=true):fk S=true:=by
 unfold fk at h ⊢;rw[qae,qae]at h ⊢;obtain⟨h1,h2,h3⟩:=h;obtain⟨n1,w1⟩:=cR.mp h1;have n2:S≠[]:=λz=>n1 (by rw[z]at p;exact(List.nil_perm.mp p));obtain⟨s0,hs0⟩:=qcs S n2;have ew:dw S=dw R:=by
  cases S with
  |nil=>exact absurd Y n2
  |cons s S'=>exact w1 s (p.mem_iff.mp L_)
 refine⟨cR.mpr ⟨n2,λr hr=>by rw[ew];exact w1 r (p.mem_iff.mp hr)⟩,?_,?_⟩
 ·rw[R_]at h2 ⊢;exact λr hr=>h2 r (p.mem_iff.mp hr)
 ·unfold xT cols at h3 ⊢;rw[ew,R_];rw[R_]at h3;intro c hc;obtain⟨j,hj,rfl⟩:=O_.mp hc;have q:=h3 _ (O_.mpr ⟨j,hj,rfl⟩);have e:dO (lK S j)=dO (lK R j):=by
   unfold dO lK oR;exact(p.map λr=>r.cps.toList.getD j 0).all_eq
  rw[e];exact q
def vo(K:PySem.W.Frag)(C CB CT CS:h_):Sp:=λvs H Q E=>LL λ(x:h_) (T:PB) (v tv:V) (rs:List r_) (t:Tr)=>vs=[.ref x,v,tv]/\lM K C H x T.1 T.2.1 T.2.2.1 T.2.2.2/\Rw K H v rs/\rs.length<=5/\(∀r∈rs,r.cps.size<=7)/\cQ H t tv/\t.size<=1000 ∧
 ((∀r∈rs,Of T.1 r)->ua [t] [] rs.length->∀(bb:h_) (R:List r_) (N:List Int) (zs:List (Int×r_)) (H':Hp),ai H H'->Lay T rs t R N->zs.Perm (N.zip R)->(zs.map (·.1)).Pairwise (·<·)->yP K CB H' bb (zs.map (·.2))->Q (.ref bb) H') ∧
 ((∀r∈rs,Of T.1 r)->(ua [t] [] rs.length->False)->∀H',ai H H'->E (.ref CT) none H') ∧
 (∀i j,yC T.1 rs i j->∀dx H',ai H H'->H' dx=some (AY dx (BD i j))->E (.ref CS) (some dx) H')
theorem Lay.ne{T:PB}{rs:List r_}{t:Tr}{R:List r_}{N:List Int}(h:Lay T rs t R N):N≠[]:=by
 induction h with
 |num h=>exact List.cons_ne_nil _ _
 |pair _ _ _ h1 h2=>exact λz=>h1 (List.append_eq_nil_iff.mp z).1
theorem xy.wo{K:PySem.W.Frag}{CB:h_}{H:Hp}{p la:h_}{R:List r_}{N:List Int}{ps:List V}(ht:H la=some (.lst ps))(hr:∀u∈ps,∃a,u=V.ref a)(hN:N≠[])(h:xy K CB H p R N):xy K CB (Wo la H) p R N:=by
 obtain⟨ln,b,h1,h2,h3⟩:=h;refine⟨ln,b,Wo.in (nR h1 ht (by intro z;cases z)) h1,Wo.in (λz=>?_) h2,h3.wo ht⟩;rw[z,ht]at h2
 cases N with
 |nil=>exact hN Y
 |cons n N =>
  obtain rfl:ps=(n::N).map V.int:=by injection h2 with h2;injection h2
  obtain⟨a,e⟩:=hr (.int n) L_;cases e
def CY(K:PySem.W.Frag)(CB:h_)(T:PB)(rs:List r_)(H:Hp)(t:Tr)(v:V):Prop:=oS λp R N=>v= .ref p/\xy K CB H p R N/\Lay T rs t R N
theorem CY.same{K:PySem.W.Frag}{CB:h_}{T:PB}{rs:List r_}{H H':Hp}{t:Tr}{v:V}(h:CY K CB T rs H t v)(e:ai H H'):CY K CB T rs H' t v:=by
 obtain⟨p,R,N,h1,h2,h3⟩:=h;exact⟨p,R,N,h1,h2.same e,h3⟩
theorem Fl{K:PySem.W.Frag}{CB:h_}{T:PB}{rs:List r_}{H:Hp}{st:List Tr}{ps:List V}(h:Paired (CY K CB T rs H) st ps):∀u∈ps,∃a,u=V.ref a:=λu hu=>by
 obtain⟨j,hj⟩:=qb6.mp hu;obtain⟨x,_,p,R,N,e,_⟩:=Paired.at' h hj;exact⟨p,e⟩
theorem Dg{K:PySem.W.Frag}{CB:h_}{T:PB}{rs:List r_}{H:Hp}:∀{st:List Tr} {ps:List V},Paired (CY K CB T rs H) st ps->ps.length<=(st.flatMap Tr.leaves).length
 |_,_,.nil=>k_ _
 |t::st,_::_,.cons ⟨_,_,_,_,_,h⟩ r=>by
  have l1:0<t.leaves.length:=by rw[←h.leaves];exact qbJ.mpr h.ne
  rw[List.flatMap_cons,o_,M_];have:=Dg r;omega
end
section
def yE(K:PySem.W.Frag)(C CB:h_)(d:Nat):Sp:=λvs H Q _=>LL λ(x l:h_) (T:PB) (rs:List r_) (t:Tr) (tv:V)=>vs=[.ref x,.ref l,tv]/\lM K C H x T.1 T.2.1 T.2.2.1 T.2.2.2/\H l=some (.lst (rs.map V.str))/\(∀r∈rs,Of T.1 r/\r.cps.size<=7)/\cQ H t tv/\t.ok=true/\t.dep<=d/\t.leaves.length<=5/\(∀k∈t.leaves,0<=k/\k<(rs.length:Int)) ∧
 ∀(q a b:h_) (R:List r_) (N:List Int) (H':Hp),ai H H'->H' q=some (.tup [.ref a,.ref b])->H' a=some (.lst (R.map V.str))->H' b=some (.lst (N.map V.int))->Lay T rs t R N->Q (.ref q) H'
def Mq(K:PySem.W.Frag)(C:h_):Sp:=λvs H Q _=>LL λ(x l:h_) (T:PB) (tv:V) (rs:List r_) (t:Tr)=>vs=[.ref x,.ref l,tv]/\lM K C H x T.1 T.2.1 T.2.2.1 T.2.2.2/\H l=some (.lst (rs.map V.str))/\rs.length<=5/\(∀r∈rs,r.cps.size<=7)/\cQ H t tv/\t.size<=1000 ∧
 (((∀r∈rs,Of T.1 r)/\(ua [t] [] rs.length->False)/\∀q H',ai H H'->H' q=some (.tup [.str "tree",.int 0,.int 0])->Q (.ref q) H')\/dI λi j:Nat=>yC T.1 rs i j/\∀q H',ai H H'->H' q=some (.tup [.str "sign",.int i,.int j])->Q (.ref q) H')
end
section
noncomputable def Ec(R:List r_)(N:List Int)(n:Nat):List r_:=(K_ n).map λ(k:Nat)=>R.getD (N.idxOf (k:Int)) ⟨#[]⟩
theorem Gr{R:List r_}{N:List Int}{n:Nat}:(Ec R N n).length=n:=by unfold Ec;rw[g_,qad]
theorem cQ.Rp{H:Hp}{q:h_}{ys zs:List V}(hq:H q=some (.lst ys)):∀{t:Tr} {v:V},cQ H t v->cQ (upd H q (.lst zs)) t v
 | .num _,_,h=>h
 | .pair _ _,_,⟨p,x,y,h1,h2,h3,h4⟩=>⟨p,x,y,h1,by rw[au (nR h2 hq (by intro z;cases z))];exact h2,cQ.Rp hq h3,cQ.Rp hq h4⟩
 | .odd,_,h=>by
  rcases(show GR H _ from h)with h|h|⟨p,xs,h1,h2,h3⟩|⟨p,xs,h1,h2⟩
  ·exact .inl h
  ·exact .inr (.inl h)
  ·exact .inr (.inr (.inl ⟨p,xs,h1,by rw[au (nR h2 hq (by intro z;cases z))];exact h2,h3⟩))
  ·by_cases e:p=q
   ·exact .inr (.inr (.inr ⟨p,zs,h1,by rw[e,af]⟩))
   ·exact .inr (.inr (.inr ⟨p,xs,h1,by rw[au e];exact h2⟩))
theorem NU(C:List V)(y:V):xm (C++[y]) none (some (-1))=C:=by
 unfold xm;have e:HT.EU (C++[y]).length (C++[y]).length (some (-1))=C.length:=by
  show(if(-1:Int)<0 then((-1:Int)+(((C++[y]).length:Nat):Int)).toNat else min (-1:Int).toNat (C++[y]).length)=_
  rw[if_pos (by decide),o_,qa3];omega
 rw[e,HT.zw,qcl,Nat.sub_zero,List.take_left'];rfl
theorem C9(a:r_)(b c:Int):n8 [V.str a,V.int b,V.int c] [V.str a,V.int b,V.int c]=true:=by simp[n8,K_,List.range.loop,JM]
theorem uM(n:Nat):(fz n).Nodup:=by
 unfold fz;rw[List.Nodup,qbf];exact(List.nodup_range (n:=n)).imp λh e=>h (Int.ofNat.inj e)
theorem F3{n k:Nat}(h:k<n):(fz n)[k]? =some (k:Int):=by
 unfold fz;rw[n_,qct h];rfl
theorem D0{N:List Int}{n k:Nat}(hN:N.Perm (fz n))(hk:k<n):N[N.idxOf (k:Int)]? =some (k:Int)/\∀m,m<N.idxOf (k:Int)->N[m]? ≠some (k:Int):=by
 have hm:(k:Int)∈N:=hN.mem_iff.mpr (u_ (F3 hk));have hl:=List.idxOf_lt_length_of_mem hm;have e:N[N.idxOf (k:Int)]? =some (k:Int):=by rw[e_ hl,List.getElem_idxOf]
 refine⟨e,λm h z=>?_⟩;have nd:N.Nodup:=hN.nodup_iff.mpr (uM n);have:=(qbd (qcI h hl) nd).mp (z.trans e.symm);omega
theorem UX{N:List Int}{n k j:Nat}(hN:N.Perm (fz n))(hk:k<n)(h:N[j]? =some (k:Int)):N.idxOf (k:Int)=j:=by
 have nd:N.Nodup:=hN.nodup_iff.mpr (uM n);exact((qbd (p_.mp h).1 nd).mp (h.trans (D0 hN hk).1.symm)).symm
theorem NP{R:List r_}{N:List Int}{n:Nat}(hN:N.Perm (fz n))(hl:R.length=N.length):∀r∈Ec R N n,r∈R:=λr hr=>by
 obtain⟨k,hk,rfl⟩:=O_.mp (show r∈(K_ n).map _ from hr);have hj:=(p_.mp (D0 hN (qav.mp hk)).1).1;rw[C_,e_ (by omega)];exact Q_ _
theorem Iz{R:List r_}{N:List Int}{zs:List (Int×r_)}{n:Nat}(hN:N.Perm (fz n))(hl:R.length=N.length)(pm:zs.Perm (N.zip R))(pw:(zs.map (·.1)).Pairwise (·<·)):zs.map (·.2)=Ec R N n:=by
 have e1:zs.map (·.1)=fz n:=by
  refine PySem.W.lks_uniq ?_ (pw.imp λh=>qbY h) ?_
  ·refine(pm.map (·.1)).trans ?_;rw[List.map_fst_zip (by omega)];exact hN
  ·unfold fz;rw[qbf];exact(List.pairwise_lt_range (n:=n)).imp λh=>Int.ofNat_le.mpr (qa1 h)
 have hz:zs.length=n:=by
  have:=congrArg qc1 e1;rw[g_]at this;unfold fz at this
  rwa [g_,qad]at this
 apply qcb;intro k;by_cases hk:k<n
 ·have hkz:k<zs.length:=by omega
  have ek:(zs[k]).1=(k:Int):=by
   have:=congrArg (·[k]?) e1;simp only[n_,e_ hkz,F3 hk]at this;exact qaa this
  have hm:zs[k]∈N.zip R:=pm.mem_iff.mp (Q_ hkz);obtain⟨j,hj⟩:=qb6.mp hm;rw[List.getElem?_zip_eq_some]at hj;rw[ek]at hj;have ej:=UX hN hk hj.1;unfold Ec;rw[n_,n_,qct hk,e_ hkz];show some (zs[k]).2=some (R.getD (N.idxOf (k:Int)) ⟨#[]⟩);rw[ej,C_,hj.2];rfl
 ·rw[qaj (by rw[g_];omega),qaj (by rw[Gr];omega)]
theorem Kn{x:r_}(h:45∉x.cps.toList):bV 45 x=x:=by
 have e:(bV 45 x).cps.toList=x.cps.toList:=by
  show x.cps.toList.filter _=_;exact List.filter_eq_self.mpr λc hc=>by
   have:c≠45:=λz=>h (by rw[←z];exact hc);simpa using this
 have e2:=qcV.mp e;cases x;cases hq:bV 45 _;rw[hq]at e2;exact congrArg _ e2
theorem Lay.signs{T:PB}{rs:List r_}{t:Tr}{R:List r_}{N:List Int}(hs:uv T.1)(hr:∀r∈rs,Of T.1 r/\r.cps.size<=7)(h:Lay T rs t R N):R.map (bV 45)=N.map λk=>rs.getD k.toNat ⟨#[]⟩:=by
 induction h with
 |num h =>
  obtain⟨h1,_⟩:=hr _ (u_ h);show [bV 45 _]=[rs.getD _ _];rw[Kn λz=>Uz hs (h1 45 z),qaD,C_,h];rfl
 |pair a b j h1 h2=>rw[Jn.signs j (a.bk hs hr) (b.bk hs hr),N_,N_,h1,h2]
theorem NO{T:PB}{rs:List r_}{t:Tr}{R:List r_}{N:List Int}(hs:uv T.1)(hr:∀r∈rs,Of T.1 r/\r.cps.size<=7)(h:Lay T rs t R N)(hN:N.Perm (fz rs.length)):(Ec R N rs.length).map (bV 45)=rs:=by
 have hl:R.length=N.length:=(h.bk hs hr).len;unfold Ec;refine qa7 (by rw[g_,g_,qad]) λk h1 h2=>?_;obtain⟨e,_⟩:=D0 hN h2;have hj:=(p_.mp e).1;have e2:=congrArg (·[N.idxOf (k:Int)]?) (h.signs hs hr);simp only[n_,e,e_ (show N.idxOf (k:Int)<R.length by omega)]at e2;have e3:bV 45 R[N.idxOf (k:Int)]=rs.getD (k:Int).toNat ⟨#[]⟩:=qaa e2;rw[qaD,C_,e_ h2]at e3;rw[qa8,qa8,qbp,C_,e_ (show N.idxOf (k:Int)<R.length by omega)];exact e3
theorem Vf{t:Tr}{n:Nat}(ok:t.ok=true)(hp:t.leaves.Perm (fz n)):ua [t] [] n:=by
 have e:[t].flatMap Tr.leaves=t.leaves:=by simp
 refine⟨λu hu=>by rw[w_.mp hu];exact ok,?_,?_,?_⟩
 ·rw[List.nil_append,e];exact hp.nodup_iff.mpr (uM n)
 ·rw[e];intro x hx;obtain⟨k,hk,rfl⟩:=O_.mp (hp.mem_iff.mp hx);have:=qav.mp hk;omega
 ·rw[List.nil_append,e,hp.length_eq];unfold fz;rw[g_,qad]
structure En(K:PySem.W.Frag)(C:h_)(H H':Hp)(t x lr:h_)(k:Int)(T:PB)(rs:List r_)(u:Tr)(tv:V):Prop where
 ht:H' t=some (.lst [.int k])
 pr:lM K C (Wo t H') x T.1 T.2.1 T.2.2.1 T.2.2.2
 rw:Wo t H' lr=some (.lst (rs.map V.str))
 tr:cQ (Wo t H') u tv
 w:ai (Wo t H) (Wo t H')
section
variable{K:PySem.W.Frag}{C:h_}{H H' yO:Hp}{t x lr:h_}{k k':Int}{T:PB}{rs:List r_}{u:Tr}{tv:V}
theorem En.wo(h:En K C H H' t x lr k T rs u tv)(e:ai (Wo t H') (Wo t yO))(ht:yO t=some (.lst [.int k'])):En K C H yO t x lr k' T rs u tv :=
 ⟨ht,h.pr.same e,e _ _ h.rw,cQ.same e h.tr,h.w.trans e⟩
theorem En.same(h:En K C H H' t x lr k T rs u tv)(e:ai H' yO):En K C H yO t x lr k T rs u tv:=h.wo (Wo.same e) (e _ _ h.ht)
theorem En.Uk(h:En K C H H' t x lr k T rs u tv):lM K C H' x T.1 T.2.1 T.2.2.1 T.2.2.2:=h.pr.same Wo.sub
theorem En.MD(h:En K C H H' t x lr k T rs u tv):H' lr=some (.lst (rs.map V.str)):=Wo.sub _ _ h.rw
theorem En.VJ(h:En K C H H' t x lr k T rs u tv):cQ H' u tv:=cQ.same Wo.sub h.tr
end
def Ft(K:PySem.W.Frag):Sp:=λvs H Q _=>t9 λ(s t:h_) (ns:List Int) (k:Int)=>vs=[.ref s,.ref t]/\xB K H s t ns k/\k<=50000 ∧
 ∀(k':Int) (H':Hp),ai (Wo t H) (Wo t H')->H' t=some (.lst [.int k'])->k<=k'->k'<=k+3000->Q (.bl true) H'
theorem Oa{sg row o:r_}{rs:List r_}{rn kn cc:Nat}(hO:∀r∈rs,Of sg r)(hr:rs[rn]? =some row)(hk:kn<=row.cps.size)(ho:o.cps.toList=row.cps.toList.take kn++cc::row.cps.toList.drop kn)(hc:cc∉sg.cps.toList):yC sg (rs.set rn o) rn kn:=by
 have hl:rn<rs.length:=(p_.mp hr).1;have hlen:(row.cps.toList.take kn).length=kn:=by rw[qaC,s_];omega
 refine⟨⟨o,cc,by rw[qbU hl],?_,hc,λj d hj hd=>?_⟩,λm r hm hr'=>?_⟩
 ·rw[←V_,ho,qar (by omega),hlen,qcp];rfl
 ·rw[←V_,ho,qau (by omega)]at hd;exact hO row (u_ hr) d (qcm (u_ hd))
 ·rw[qcd (by omega)]at hr';exact hO r (u_ hr')
end
end GP
set_option Elab.async false
set_option linter.all false
set_option maxRecDepth 100000
set_option maxHeartbeats 4000000
seal PySem.wpAny
namespace ZT
open PySem L2 lN GP
noncomputable def top(i:Nat):qaA:=PySem.Challenge.pw_gapweave_k44_laid_by.main.body.getD i (.Pass ⟨0,0,0,0⟩)
theorem kB{N P:List r_}{sc:qbK}(a:sc.kind=.function:=by rfl)(b:sc.isCoroutine=false:=by rfl)(c:sc.isGenerator=false:=by rfl)(d:N.Nodup:=by decide +kernel)(e:N.take P.length=P:=by rfl)(f:∀x∈P,sc.names.lookup x=some .local\/sc.names.lookup x=some .cell:=by decide +kernel)(g:∀y∈sc.names,y.2≠.free:=by decide +kernel):aG N P sc:=⟨a,b,c,d,e,f,g⟩
noncomputable abbrev cO:qaA:=inClass (top 10) 0
theorem uF:aG ["self","row","place"] ["self","row","place"] (ay cO):=kB
noncomputable abbrev fY:qaA:=top 14
theorem gX:aG ["one","other","rest"] ["one","other"] (ay fY):=kB
noncomputable abbrev vz:qaA:=top 15
theorem Cf:aG ["fraction","divisor"] ["fraction"] (ay vz):=kB
noncomputable abbrev tN:qaA:=top 20
theorem zu:aG ["sign","number"] ["sign"] (ay tN):=kB
noncomputable abbrev nO:qaA:=top 21
theorem Ds:aG ["text"] ["text"] (ay nO):=kB
noncomputable abbrev nF:qaA:=top 22
theorem zv:aG ["signs"] ["signs"] (ay nF):=kB
noncomputable abbrev fE:qaA:=top 23
theorem k9:aG ["signs","pairs","row"] ["signs","pairs"] (ay fE):=kB
noncomputable abbrev jy:qaA:=top 25
theorem xX:aG ["price"] ["price"] (ay jy):=kB
noncomputable abbrev kM:qaA:=top 26
theorem wB:aG ["row"] ["row"] (ay kM):=kB
noncomputable abbrev oK:qaA:=top 27
theorem qh:aG ["pairs","opening","more","unders","row"] ["pairs","opening","more"] (ay oK):=kB
noncomputable abbrev lQ:qaA:=top 28
theorem gk:aG ["unders","factors","unit","under","factor"] ["unders"] (ay lQ):=kB
noncomputable abbrev oB:qaA:=top 29
theorem nh:aG ["factors","product","factor"] ["factors"] (ay oB):=kB
noncomputable abbrev qG:qaA:=top 30
theorem Hz:aG ["price","unit"] ["price","unit"] (ay qG):=kB
noncomputable abbrev jK:qaA:=top 31
theorem eX:aG ["signs","pairs","unit","costs","one","row","other","price"] ["signs","pairs","unit"] (ay jK):=kB
noncomputable abbrev cN:qaA:=inClass (top 32) 0
theorem uE:aG ["self","signs","pairs","opening","more"] ["self","signs","pairs","opening","more"] (ay cN):=kB
noncomputable abbrev pU:qaA:=top 33
theorem Dq:aG ["prices","one","other"] ["prices","one","other"] (ay pU):=kB
noncomputable abbrev nN:qaA:=top 34
theorem Dr:aG ["prices"] ["prices"] (ay nN):=kB
noncomputable abbrev kF:qaA:=top 37
theorem jw:aG ["known","rows","number","row","place","sign"] ["known","rows"] (ay kF):=kB
noncomputable abbrev oH:qaA:=top 38
theorem Bj:aG ["prices","rows"] ["prices","rows"] (ay oH):=kB
noncomputable abbrev jx:qaA:=top 39
theorem rQ:aG ["place","move","step"] ["place","move"] (ay jx):=kB
noncomputable abbrev pS:qaA:=top 42
theorem Dp:aG ["texts","place"] ["texts","place"] (ay pS):=kB
noncomputable abbrev sD:qaA:=top 43
theorem Kv:aG ["texts","many"] ["texts","many"] (ay sD):=kB
noncomputable abbrev lX:qaA:=top 44
theorem Bh:aG ["rows"] ["rows"] (ay lX):=kB
noncomputable abbrev lU:qaA:=top 45
theorem dN:aG ["ones","others","one_gaps","other_gaps","moves","columns","place","move","step","left","right"] ["ones","others","one_gaps","other_gaps","moves"] (ay lU):=kB
noncomputable abbrev tP:qaA:=top 46
theorem Hy:aG ["column"] ["column"] (ay tP):=kB
noncomputable abbrev mO:qaA:=top 47
theorem FE:aG ["things"] ["things"] (ay mO):=kB
noncomputable abbrev fF:qaA:=top 48
theorem lg:aG ["rows","row"] ["rows"] (ay fF):=kB
noncomputable abbrev oJ:qaA:=top 50
theorem Bk:aG ["row"] ["row"] (ay oJ):=kB
noncomputable abbrev lY:qaA:=top 51
theorem rR:aG ["rows","row"] ["rows"] (ay lY):=kB
noncomputable abbrev kP:qaA:=top 52
theorem qD:aG ["rows","column"] ["rows"] (ay kP):=kB
noncomputable abbrev bS:qaA:=inClass (top 53) 0
theorem vt:aG ["self","rows"] ["self","rows"] (ay bS):=kB
noncomputable abbrev yG:qaA:=top 54
theorem MB:aG ["text"] ["text"] (ay yG):=kB
noncomputable abbrev iM:qaA:=top 55
theorem tW:aG ["prices","rows"] ["prices","rows"] (ay iM):=kB
noncomputable abbrev rB:qaA:=top 57
theorem FG:aG ["thing"] ["thing"] (ay rB):=kB
noncomputable abbrev tO:qaA:=top 58
theorem Hx:aG ["thing"] ["thing"] (ay tO):=kB
noncomputable abbrev lW:qaA:=top 60
theorem xZ:aG ["prices","column","many"] ["prices","column","many"] (ay lW):=kB
noncomputable abbrev kO:qaA:=top 61
theorem wC:aG ["prices","columns","many"] ["prices","columns","many"] (ay kO):=kB
noncomputable abbrev nk:qaA:=top 62
theorem o8:aG ["prices","signs","extras","other"] ["prices","signs"] (ay nk):=kB
noncomputable abbrev kN:qaA:=top 63
theorem qC:aG ["prices","signs","others","extras"] ["prices","signs","others"] (ay kN):=kB
noncomputable abbrev oM:qaA:=top 64
theorem qi:aG ["prices","ones","others","known","signs"] ["prices","ones","others"] (ay oM):=kB
noncomputable abbrev nu:qaA:=top 65
theorem ju:aG ["extras","below","rests","j","least"] ["extras","below"] (ay nu):=kB
noncomputable abbrev oF:qaA:=top 66
theorem qf:aG ["extras","many","rests","row"] ["extras","many"] (ay oF):=kB
noncomputable abbrev cE:qaA:=inClass (top 67) 0
theorem ku:aG ["self","prices","one","other","ones","others"] ["self","prices","one","other"] (ay cE):=kB
noncomputable abbrev oG:qaA:=top 68
theorem qg:aG ["joining","i","j","rest","below"] ["joining","i","j"] (ay oG):=kB
noncomputable abbrev nE:qaA:=top 69
theorem jv:aG ["joining","place","moves","move"] ["joining"] (ay nE):=kB
noncomputable abbrev lV:qaA:=top 70
theorem nY:aG ["joining","moves","columns"] ["joining"] (ay lV):=kB
noncomputable abbrev sE:qaA:=top 71
theorem Kw:aG ["prices","one","other"] ["prices","one","other"] (ay sE):=kB
noncomputable abbrev lZ:qaA:=top 72
theorem x6:aG ["part","many","seen"] ["part","many","seen"] (ay lZ):=kB
noncomputable abbrev oA:qaA:=top 73
theorem kC:aG ["tree","many","order","seen","waiting","part"] ["tree","many"] (ay oA):=kB
noncomputable abbrev nD:qaA:=top 74
theorem zq:aG ["prices","left","right"] ["prices","left","right"] (ay nD):=kB
noncomputable abbrev qF:qaA:=top 75
theorem kT:aG ["prices","rows","tree","laid","number","right","left","numbers","block"] ["prices","rows","tree"] (ay qF):=kB
noncomputable abbrev jz:qaA:=top 77
theorem pQ:aG ["_law_script","_law_at","_law_cell","_law_m"] ["_law_script","_law_at"] (ay jz):=kB
noncomputable abbrev pW:qaA:=top 78
theorem lO:aG ["_law_script","_law_at","_law_many","_law_some","_law_m","_law_turn"] ["_law_script","_law_at","_law_many"] (ay pW):=kB
noncomputable abbrev pY:qaA:=top 79
theorem lP:aG ["_law_script","_law_at","_law_m","_law_cell","_law_under"] ["_law_script","_law_at"] (ay pY):=kB
noncomputable abbrev oE:qaA:=top 80
theorem nj:aG ["_law_script","_law_at","_law_signs_here","_law_same","_law_pairs","_law_i","_law_j"] ["_law_script","_law_at","_law_signs_here","_law_same"] (ay oE):=kB
noncomputable abbrev lS:qaA:=top 81
theorem xY:aG ["_law_block","_law_rows"] ["_law_block","_law_rows"] (ay lS):=kB
noncomputable abbrev pV:qaA:=top 82
theorem jJ:aG ["_law_script","_law_at","_law_signs_here","_law_many","_law_most","_law_rows","_law_k","_law_row","_law_j"] ["_law_script","_law_at","_law_signs_here","_law_many","_law_most"] (ay pV):=kB
noncomputable abbrev rq:qaA:=top 83
theorem nM:aG ["_law_script","_law_at","_law_many","_law_nodes","_law_k"] ["_law_script","_law_at","_law_many"] (ay rq):=kB
noncomputable abbrev o9:qaA:=top 84
theorem k8:aG ["_law_prices_here","_law_rows","_law_tree_here","_law_one","_law_left","_law_other","_law_right"] ["_law_prices_here","_law_rows","_law_tree_here"] (ay o9):=kB
noncomputable abbrev rz:qaA:=top 85
theorem FF:aG ["_law_row"] ["_law_row"] (ay rz):=kB
noncomputable abbrev ny:qaA:=top 86
theorem g6:aG ["_law_prices_here","_law_rows","_law_tree_here","_law_caught","_law_others","e"] ["_law_prices_here","_law_rows","_law_tree_here"] (ay ny):=kB
noncomputable abbrev kD:qaA:=top 87
theorem sC:aG ["_law_tree_here","_law_one","_law_other"] ["_law_tree_here","_law_one","_law_other"] (ay kD):=kB
noncomputable abbrev lT:qaA:=top 88
theorem nX:aG ["_law_m","_law_tree_here","_law_many","_law_one","_law_bad"] ["_law_m","_law_tree_here","_law_many"] (ay lT):=kB
noncomputable abbrev pX:qaA:=top 89
theorem bC:aG ["_law_script","_law_at","_law_m","_law_size","_law_signs_here","_law_prices_here","_law_many","_law_rows","_law_tree_here","_law_made","_law_numbers","_law_due","_law_k","_law_handed","_law_block","_law_bad","_law_n","_law_r","_law_strange"] ["_law_script","_law_at"] (ay pX):=kB
noncomputable abbrev ue:qaA:=top 90
theorem Hw:aG ["_law_script","_law_at","_law_k"] ["_law_script"] (ay ue):=kB
noncomputable abbrev l6:List r_:=["_law_script","_law_at"]
noncomputable abbrev l7:List r_:=["rows"]
noncomputable abbrev l8:List r_:=["_law_prices_here","_law_rows","_law_tree_here"]
noncomputable abbrev l9:List r_:=["row"]
noncomputable abbrev LK:List r_:=["text"]
noncomputable abbrev LJ:List r_:=["prices","one","other"]
noncomputable abbrev LI:List r_:=["self","rows"]
noncomputable abbrev Na:List r_:=["price"]
noncomputable abbrev Ou:List r_:=["prices","rows"]
noncomputable abbrev Ot:List r_:=["_law_script","_law_at","_law_many"]
noncomputable abbrev Oq:List r_:=["joining"]
noncomputable abbrev Oo:List r_:=["thing"]
noncomputable abbrev Px:List r_:=["column"]
noncomputable abbrev Pw:List r_:=["things"]
noncomputable abbrev QM:List r_:=["_law_tree_here","_law_one","_law_other"]
noncomputable abbrev UQ:List r_:=["one","other"]
noncomputable abbrev UP:List r_:=["price","unit"]
noncomputable abbrev UO:List r_:=["prices"]
noncomputable abbrev UN:List r_:=["texts","many"]
noncomputable abbrev UM:List r_:=["place","move"]
noncomputable abbrev UL:List r_:=["known","rows"]
noncomputable abbrev UK:List r_:=["_law_row"]
noncomputable abbrev UJ:List r_:=["prices","rows","tree"]
noncomputable abbrev VQ:List r_:=["self","signs","pairs","opening","more"]
noncomputable abbrev VP:List r_:=["self","row","place"]
noncomputable abbrev VO:List r_:=["self","prices","one","other"]
noncomputable abbrev VN:List r_:=["_law_script"]
noncomputable abbrev Xk:List r_:=["fraction"]
noncomputable abbrev Xj:List r_:=["pairs","opening","more"]
noncomputable abbrev Xi:List r_:=["signs","pairs"]
noncomputable abbrev Xh:List r_:=["signs","pairs","unit"]
noncomputable abbrev Xg:List r_:=["texts","place"]
noncomputable abbrev Xf:List r_:=["_law_script","_law_at","_law_signs_here","_law_same"]
noncomputable abbrev Xe:List r_:=["prices","column","many"]
noncomputable abbrev Xd:List r_:=["prices","columns","many"]
noncomputable abbrev Xc:List r_:=["prices","signs"]
noncomputable abbrev Xb:List r_:=["prices","signs","others"]
noncomputable abbrev Xa:List r_:=["prices","ones","others"]
noncomputable abbrev W9:List r_:=["extras","below"]
noncomputable abbrev W8:List r_:=["extras","many"]
noncomputable abbrev W7:List r_:=["joining","i","j"]
noncomputable abbrev W6:List r_:=["ones","others","one_gaps","other_gaps","moves"]
noncomputable abbrev W5:List r_:=["part","many","seen"]
noncomputable abbrev W4:List r_:=["tree","many"]
noncomputable abbrev W3:List r_:=["prices","left","right"]
noncomputable abbrev W2:List r_:=["_law_block","_law_rows"]
noncomputable abbrev W0:List r_:=["_law_script","_law_at","_law_signs_here","_law_many","_law_most"]
noncomputable abbrev WZ:List r_:=["_law_m","_law_tree_here","_law_many"]
noncomputable abbrev l54:List r_:=["_law_k","_law_some","_law_m","_law_turn"]
noncomputable abbrev l55:List r_:=["_law_one","_law_script","_law_at","_law_signs_here"]
noncomputable abbrev l56:List r_:=["_law_other","_law_script","_law_at"]
noncomputable abbrev l57:List r_:=["_law_k","_law_made","_law_numbers"]
structure Pm where
 oq:Tok
 pP:Tok
 kY:h_
 ko:h_
 iX:h_
 iW:h_
 iV:h_
 I0:Tok
 aq:h_
 aM:h_
 av:h_
 bR:h_
 bN:h_
 aC:h_
 aE:h_
 iU:h_
 iT:h_
 mJ:h_
 mH:h_
 kr:h_
 iS:h_
 oV:h_
 mG:h_
structure Txt(K:PySem.W.Frag)(mg:r_->Option i_)(p:Pm)(w:U_):Prop where
 V7:mg "abs" =none
 dm:mg "len" =none
 z_ord:mg "ord" =none
 V5:mg "set" =none
 oj:mg "tuple" =none
 LR:mg "zip" =none
 xC:mg "enumerate" =none
 m8:mg "range" =none
 bW:mg "isinstance" =none
 LU:mg "int" =none
 Rm:mg "bool" =none
 V6:mg "all" =none
 ad2:mg "any" =none
 Qx:mg "sum" =none
 yR:mg "list" =none
 Qy:mg "min" =none
 G6:mg "reversed" =none
 LS:mg "sorted" =none
 ad1:mg "str" =none
 C8:mg "ValueError" =none
 D9:mg "FIRST_SIGN" =some (.int 32 p.oq)
 Gg:mg "LAST_SIGN" =some (.int 126 p.pP)
 Im:mg "NO_SIGNS" =some (.ref p.kY)
 HD:∀H:Hp,fq K H p.kY [.int 34,.int 37,.int 45]
 D8:mg "STEPS" =some (.ref p.ko)
 Am:∀P:A_,KDict P w K p.ko [(.inr (z_ "p"),.ref p.iX),(.inr (z_ "a"),.ref p.iW),(.inr (z_ "b"),.ref p.iV)]
 FP:∀H:Hp,fq K H p.iX [.int 1,.int 1]
 FO:∀H:Hp,fq K H p.iW [.int 1,.int 0]
 FN:∀H:Hp,fq K H p.iV [.int 0,.int 1]
 Gh:mg "GAP" =some (.str (z_ "-") p.I0)
 K2:mg "Prices" =some (.ref p.aq)
 bF:OB K p.aq
 jB:bA K p.aq "signs"
 pD:bA K p.aq "pairs"
 mQ:bA K p.aq "opening"
 qj:bA K p.aq "more"
 qK:bA K p.aq "factors"
 nG:bA K p.aq "unit"
 sI:bA K p.aq "costs"
 rF:bA K p.aq "opening_units"
 n9:bA K p.aq "more_units"
 qL:mg "Block" =some (.ref p.aM)
 gf:OB K p.aM
 bY:bA K p.aM "rows"
 Nh:PySem.W.isIn K (.ref p.aM) p.aM=true
 Ie:mg "Joining" =some (.ref p.av)
 aW:OB K p.av
 g8:bA K p.av "ones"
 dX:bA K p.av "others"
 kW:bA K p.av "one_gaps"
 jC:bA K p.av "other_gaps"
 Ab:bA K p.av "by_a"
 Aa:bA K p.av "by_b"
 mR:bA K p.av "extras"
 nZ:bA K p.av "rests"
 ug:mg "WeaveError" =some (.ref p.bR)
 Bc:XB K p.bR
 pF:mg "NoBlock" =some (.ref p.bN)
 rj:JW K p.bN
 oW:mg "NoTree" =some (.ref p.aC)
 tH:JW K p.aC
 JZ:Rf K p.aC
 wN:mg "NoSign" =some (.ref p.aE)
 Ka:Rf K p.aE
 F8:mg "NoLaying" =some (.ref p.iU)
 F7:mg "NoManner" =some (.ref p.iT)
 K5:mg "NoMost" =some (.ref p.mJ)
 K4:mg "NoNote" =some (.ref p.mH)
 Ic:mg "NoPlace" =some (.ref p.kr)
 F6:mg "NoPrices" =some (.ref p.iS)
 M4:mg "NoRow" =some (.ref p.oV)
 K3:mg "NoText" =some (.ref p.mG)
 BY:YA K p.aE
 Kc:∃f,JV K p.aE f
 vI:bA K p.aE "row"
 sJ:bA K p.aE "place"
 Bb:XBase K p.bR
 sS:PySem.W.subIn K (.ref p.aE) (.ref p.bR)=some true
 sR:PySem.W.subIn K (.ref p.aC) (.ref p.bR)=some true
 wX:PySem.W.kitOne K (.ref p.aE) (.ref p.aE)=some true
 wW:PySem.W.kitOne K (.ref p.aE) (.ref p.aC)=some false
 qN:PySem.W.kitOne K (.ref p.aC) (.ref p.aE)=some false
 wQ:PySem.W.kitOne K (.ref p.aC) (.ref p.aC)=some true
 sU:PySem.W.kitOne K (.ref p.aC) (.type "ValueError")=some true
 vM:PySem.W.kitOne K (.ref p.aC) (.ref p.bN)=some false
 uQ:PySem.W.kitOne K (.ref p.aC) (.ref p.iU)=some false
 uP:PySem.W.kitOne K (.ref p.aC) (.ref p.iT)=some false
 wV:PySem.W.kitOne K (.ref p.aC) (.ref p.mJ)=some false
 wU:PySem.W.kitOne K (.ref p.aC) (.ref p.mH)=some false
 vL:PySem.W.kitOne K (.ref p.aC) (.ref p.kr)=some false
 uO:PySem.W.kitOne K (.ref p.aC) (.ref p.iS)=some false
 yj:PySem.W.kitOne K (.ref p.aC) (.ref p.oV)=some false
 wR:PySem.W.kitOne K (.ref p.aC) (.ref p.mG)=some false
theorem Vp:bootBuiltins "abs" =some (.builtin "abs"):=by decide +kernel
theorem b3:bootBuiltins "len" =some (.builtin "len"):=by decide +kernel
theorem Vn:bootBuiltins "ord" =some (.builtin "ord"):=by decide +kernel
theorem Vm:bootBuiltins "set" =some (.type "set"):=by decide +kernel
theorem mz:bootBuiltins "tuple" =some (.type "tuple"):=by decide +kernel
theorem bJ:bootBuiltins "isinstance" =some (.builtin "isinstance"):=by decide +kernel
theorem IF:bootBuiltins "int" =some (.type "int"):=by decide +kernel
theorem Qi:bootBuiltins "bool" =some (.type "bool"):=by decide +kernel
theorem Vo:bootBuiltins "all" =some (.builtin "all"):=by decide +kernel
theorem N6:bootBuiltins "sum" =some (.builtin "sum"):=by decide +kernel
theorem vR:bootBuiltins "list" =some (.type "list"):=by decide +kernel
theorem N7:bootBuiltins "min" =some (.builtin "min"):=by decide +kernel
theorem BG:bootBuiltins "ValueError" =some (.type "ValueError"):=by decide +kernel
section
variable{P:A_}{w:U_}{K:PySem.W.Frag}{mg:r_->Option i_}{base:qab}
theorem tY {bZ:h_}{bP:F_}{p:Pm}(T:Txt K mg p w)(aX:Dn K mg "greatest_divisor" fY UQ bZ bP)  :aF P w K mg base cM 1 bZ bP UQ Mt:=by
 refine aX.fn.ok gX (λvs H Q E h=>?_) (λcdv A outer s H vs Q E hr h=>?_)
 ·obtain⟨a,b,rfl,_⟩:=h;rfl
 ·obtain⟨a,b,rfl,hb,k⟩:=h;refine⟨_,(aj (vA qao (bx Cn (pv 1) ao (bX _)) (aj (Z9X 2 gX.nd (aL dg (pv 0) (pv 1)))
   (aj (Z9X 0 gX.nd (pv 1))
   (ak (Z9X 1 gX.nd (pv 2))))))
   (ak (aN (aD (N4) rfl T.V7 Vp (aa (pv 0) ah))))),?_⟩
  refine⟨λm σ H'=>H'=H/\oS λ(x y:Int) (r:Option V)=>σ=[some (.int x),some (.int y),r]/\0<=y/\qa_ x y=qa_ a b/\m=y.toNat,⟨b.toNat,Y,a,b,none,Y,hb,Y,Y⟩,?_⟩;rintro m σ H' ⟨rfl,x,y,r,rfl,hy,hg,rfl⟩;refine⟨_,Y,Y,_,Y,?_⟩;refine DY (λh0=>?_) (λh0=>?_)
  ·have l1:=qai x h0;have l2:=Z_ x (show 0<y by omega);refine⟨λσ' yO=>yO=H'/\∃r,σ'=[some (.int y),some (.int (x % y)),r],?_,?_⟩
   ·rintro σ' yO ⟨rfl,r,rfl⟩;exact⟨(x % y).toNat,by omega,Y,y,x % y,r,Y,l1,(Ny x y).trans hg,Y⟩
   ·exact⟨_,Y,_,Y,_,_,Y,Y,(by show 0<y;omega),_,Y,_,Y,Y,_,Y⟩
  ·subst h0;refine⟨_,Y,_,Y,?_⟩;rw[PV,hg];exact k
theorem KL {qV bZ:h_}{oZ bP:F_}{p:Pm}(T:Txt K mg p w)(nW:Dn K mg "lowest" vz Xk qV oZ)(aX:Dn K mg "greatest_divisor" fY UQ bZ bP)(kZ:aF P w K mg base cM 1 bZ bP UQ Mt):aF P w K mg base cM 2 qV oZ Xk (QC K):=by
 refine nW.fn.ok Cf (λvs H Q E h=>?_) (λcdv A outer s H vs Q E hr h=>?_)
 ·obtain⟨p,f,rfl,_⟩:=h;rfl
 ·obtain⟨p,⟨a,b⟩,rfl,hS,hb,hb2,k⟩:=h;have hb0:0<b:=hb;have g1:=tS a hb0;have g2:=Nz a hb0;have hb':b<1073741824:=hb2;refine⟨_,(aj (Z9X 1 Cf.nd (gc kZ hr aX (aa (aT cS (pv 0) ao (λ_ _=>rfl)) (aa (aT cS (pv 0) ao (λ_ _=>rfl)) ah))))
   (ak (aN (dB (aa (aL gY (aT cS (pv 0) ao (λ_ _=>rfl)) (pv 1)) (aa (aL gY (aT cS (pv 0) ao (λ_ _=>rfl)) (pv 1)) ah)))))),?_⟩
  refine⟨_,Y,_,_,_,_,Y,Y,hS,Y,_,Y,_,_,_,_,Y,Y,hS,Y,a,b,Y,qbY hb,?_⟩;refine⟨_,Y,_,_,_,_,Y,Y,hS,Y,_,Y,_,_,Y,Y,⟨g1,by omega⟩,_,Y,_,_,_,_,Y,Y,hS,Y,_,Y,_,_,Y,Y,⟨g1,by omega⟩,?_⟩;exact⟨c_,λq hq=>k q hq⟩
theorem ya {dH qV:h_}{cW oZ:F_}{p:Pm}(T:Txt K mg p w)(bw:Dn K mg "lowest_price" jy Na dH cW)(nW:Dn K mg "lowest" vz Xk qV oZ)(Oh:aF P w K mg base cM 2 qV oZ Xk (QC K)):aF P w K mg base cM 3 dH cW Na (uB K):=by
 refine bw.fn.ok xX (λvs H Q E h=>?_) (λcdv A outer s H vs Q E hr h=>?_)
 ·obtain⟨p,f,rfl,_⟩:=h;rfl
 ·obtain⟨p,f,rfl,hS,⟨h1,h2⟩,k⟩:=h;refine⟨_,(aj (cL (bx FU (aT cS (pv 0) ao (λ_ _=>rfl)) ao (bX _)) lq aY)
   (ak (aN (gc Oh hr nW (aa (pv 0) ah))))),?_⟩
  refine⟨_,Y,_,_,_,_,Y,Y,hS,Y,_,_,Y,Y,_,Y,?_⟩;refine gG (λz=>absurd z (by omega)) λ_=>?_;exact⟨_,Y,p,f,Y,hS,by omega,h2,k⟩
theorem wH {gA dH:h_}{fT cW:F_}{p:Pm}(T:Txt K mg p w)(dQ:Dn K mg "lowest_prices" kM l9 gA fT)(bw:Dn K mg "lowest_price" jy Na dH cW)(mD:aF P w K mg base cM 3 dH cW Na (uB K)):aF P w K mg base cM 4 gA fT l9 (xF K):=by
 refine dQ.fn.ok wB (λvs H Q E h=>?_) (λcdv A outer s H vs Q E hr h=>?_)
 ·obtain⟨c,fs,rfl,_⟩:=h;rfl
 ·obtain⟨c,fs,rfl,⟨ps,hc,hp⟩,ho,hz,k⟩:=h;have hl:=Paired.len hp;refine⟨_,(ak (aN (g7 (kJ) Y T.oj mz (aa (iN (N:=Na) Y (λ_=>⟨[],cG.plain (by decide +kernel) Y (by decide +kernel) (by decide +kernel)⟩) (vB (pv 0)) (λ_ _ _ _ _ _ _=>(aQ (i:=0) (show(Na:List r_).Nodup by decide +kernel) Y (Or.inl Y))) (λ_ _ _ _ _ _ _=>(gc mD hr bw (aa (pv 0) ah)))) ah)))),?_⟩;refine⟨_,Y,c,_,Y,hc,λl Ox=>?_⟩;refine⟨λi m ys H2=>m=fs.length-i/\i<=fs.length/\ai H H2/\H2 l=some (.lst ys)/\∃qs:List h_,ys=qs.map V.ref/\qs.length=i/\Paired (λq f=>H2 q=some (.tup [.int f.1,.int f.2])) qs ((fs.map nH).take i),⟨fs.length,Y,T_ _,ai.upd Ox,af,[],Y,Y,.nil⟩,?_⟩;rintro i m ys H2 ⟨rfl,hi,s2,hl2,qs,rfl,hq,hP⟩;have zc:c.at K H2 (ps.map V.ref):=ai.cp s2 hc;by_cases hlt:i<fs.length
  ·have hpi:i<ps.length:=by omega
   have e1:(ps.map V.ref)[i]? =some (.ref ps[i]):=by rw[n_,e_ hpi];rfl
   refine .inr ⟨⟨_,_,zc,e1⟩,?_⟩;rintro x H3 ⟨rfl,hx⟩;have ex:=hx _ zc;rw[e1]at ex;cases ex;obtain⟨f,ef,hf⟩:=Paired.at hp (e_ hpi);refine⟨Kp.rep _ _,?_⟩;refine⟨_,Y,ps[i],f,Y,hf.same s2,ho f (u_ ef),λq hqn=>?_⟩;have nql:q≠l:=λz=>by rw[z,hl2]at hqn;cases hqn
   refine⟨by rw[au (Ne.symm nql)];exact hl2,?_,fs.length-(i+1),by omega,Y,hlt,ai.at (s2.trans (ai.upd hqn)) Ox,af,qs++[q],by rw[N_];rfl,by rw[o_,hq];rfl,?_⟩
   ·rw[g_,hq];exact H_ hlt (m_ hz (by decide))
   ·rw[um ef];refine GP.Paired.snoc (Paired.oO hP λa b z=>?_) ?_
    ·have n1:a≠q:=bq z hqn;have n2:a≠l:=nR z hl2 (by intro z;cases z);rw[au n2,au n1];exact z
    ·rw[au nql];exact af
  ·have ei:i=fs.length:=by omega
   subst ei;refine .inl ⟨⟨_,zc,by rw[g_];omega⟩,?_⟩;refine⟨l,_,Y,.inl ⟨bD.of hl2,λq hqn=>?_⟩⟩;refine k q _ (s2.trans (ai.upd hqn)) (ai.free s2 hqn) ⟨qs,fq.of af,?_⟩;rw[qan (by rw[g_];exact k_ _)]at hP;exact Paired.oO hP λa b z=>fq.of (by rw[au (bq z hqn)];exact z)
theorem Bv {ki:h_}{jc:F_}{p:Pm}(T:Txt K mg p w)(gT:Dn K mg "all_unders" oK Xj ki jc)  :aF P w K mg base cM 1 ki jc Xj (Fp K):=by
 refine gT.fn.ok qh (λvs H Q E h=>?_) (λcdv A outer s H vs Q E hr h=>?_)
 ·obtain⟨Pp,o,m,rows,fo,fm,rfl,_⟩:=h;rfl
 ·obtain⟨Pp,o,m,rows,fo,fm,rfl,⟨cs,hc,hp⟩,hfo,hfm,U8,Nm,k⟩:=h;refine⟨_,(aj (Z9X 3 qh.nd (dU (aa (aT cS (pv 1) ao (λ_ _=>rfl)) (aa (aT cS (pv 2) ao (λ_ _=>rfl)) ah))))
   (aj (fZ qao rfl (vB (pv 0)) (Z9Y 4 qh.nd) (ak (ck (mK PySem.F.plainAttrs_list PySem.F.slot_list_extend PySem.F.type_list_extend K0 (pv 3) (aa (iN (N:=Na) rfl (λ_=>⟨[],cG.plain (by decide +kernel) rfl (by decide +kernel) (by decide +kernel)⟩) (vB (pv 4)) (λ_ _ _ _ _ _ _=>(aQ (i:=0) (show(Na:List r_).Nodup by decide +kernel) rfl (Or.inl rfl))) (λ_ _ _ _ _ _ _=>(aT (Py (K':=K) rfl) (pv 0) ao (λ_ _=>rfl)))) ah)))))
   (ak (aN (pv 3))))),?_⟩
  refine⟨_,Y,_,_,_,_,Y,Y,hfo,Y,_,Y,_,_,_,_,Y,Y,hfm,Y,c_,λl hl=>?_⟩;have adu:∀i,((rows.take i).flatten.map (·.2)).length<=12*12:=λi=>by
   have:∀(q:List (List cJ)),(∀r∈q,r.length<=12)->q.flatten.length<=12*q.length:=λq=>by
    induction q with
    |nil=>intro _;simp
    |cons r q ih =>
     intro h;have a:=h r L_;have b:=ih λr' hr=>h r' (J_ _ hr);rw[qaS,o_,M_];omega
   have a:=this (rows.take i) λr hr=>Nm r (qcm hr);have b:(rows.take i).length<=12:=by rw[qaC];omega
   rw[g_];omega
  refine⟨_,Y,.tup Pp,_,Y,ai.cp (ai.upd hl) (c:=.tup Pp) hc,Ea (K:=K) (c:=.tup Pp) (xs:=cs.map Cp.val) (λi σ H2=>∃v4,σ=[some (.ref Pp),some (.ref o),some (.ref m),some (.ref l),v4]/\ai H H2/\H2 l=some (.lst ((fo.2::fm.2::(rows.take i).flatten.map (·.2)).map V.int)))
   ⟨_,rfl,ai.upd hl,af⟩ (λi σ H2 _ ⟨_,_,s2,_⟩=>ai.cp s2 hc) ?_ ?_⟩
  ·rintro i x σ H2 hx ⟨v4,rfl,s2,hl2⟩;obtain⟨c,ec,rfl⟩:=sN hx;obtain⟨row,er,⟨ps,hc2,hp2⟩⟩:=Paired.at hp ec;have XZ:=ai.cp s2 hc2;refine⟨_,Y,.inl ⟨Y,_,bD.of hl2⟩,?_⟩;refine⟨_,Y,c,_,Y,XZ,λlx hlx=>?_⟩;refine⟨λj m' ys H3=>m'=row.length-j/\j<=row.length/\ai H2 H3/\H3 lx=some (.lst ys)/\ys=((row.take j).map (·.2)).map V.int,⟨row.length,Y,T_ _,ai.upd hlx,af,Y⟩,?_⟩;rintro j m' ys H3 ⟨rfl,hj,s3,U7,rfl⟩;have zr:=ai.cp s3 XZ;by_cases Zw:j<row.length
   ·have hpj:j<ps.length:=by rw[Paired.len hp2];exact Zw
    have e1:(ps.map V.ref)[j]? =some (.ref ps[j]):=by rw[n_,e_ hpj];rfl
    refine .inr ⟨⟨_,_,zr,e1⟩,?_⟩;rintro y H4 ⟨rfl,hy2⟩;have ey:=hy2 _ zr;rw[e1]at ey;cases ey;refine⟨Kp.rep _ _,?_⟩;obtain⟨f,ef,hf⟩:=Paired.at hp2 (e_ hpj);have hf':=hf.same (s2.trans s3);refine⟨_,Y,_,_,_,_,Y,Y,hf',Y,?_⟩;refine⟨U7,?_,row.length-(j+1),by omega,Y,Zw,ai.at s3 hlx,af,?_⟩
    ·rw[g_,g_,qaC];have:=Nm row (u_ er);exact H_ (show min j row.length<100 by omega) (by decide)
    ·rw[take_snoc ef,N_,N_];rfl
   ·have ej:j=row.length:=by omega
    subst ej;rw[qan (k_ _)]at U7;refine .inl ⟨⟨_,zr,by rw[g_,Paired.len hp2];exact k_ _⟩,?_⟩;have hl3:=s3 _ _ hl2;refine⟨l,lx,_,_,Y,Y,hl3,U7,?_,?_⟩
    ·have a:=adu i;have a2:=Nm row (u_ er);have a3:((fo.2::fm.2::(rows.take i).flatten.map (·.2)).map V.int).length+((row.map (·.2)).map V.int).length<=200:=by
      rw[g_,M_,M_,g_,g_,g_];rw[g_]at a;omega
     exact m_ a3 (by decide)
    refine⟨_,Y,ai.at (s2.trans s3) hl,?_⟩;rw[af,take_snoc er,List.flatten_append,N_];simp
  ·rintro σ H2 ⟨v4,rfl,s2,hl2⟩;refine⟨_,Y,?_⟩;rw[g_,Paired.len hp,qan (k_ _)]at hl2;exact k l H2 s2 hl hl2
theorem x8 {iw bZ:h_}{gq bP:F_}{p:Pm}(T:Txt K mg p w)(eG:Dn K mg "unit_factors" lQ ["unders"] iw gq)(aX:Dn K mg "greatest_divisor" fY UQ bZ bP)(kZ:aF P w K mg base cM 1 bZ bP UQ Mt):aF P w K mg base cM 2 iw gq ["unders"] (Cb K):=by
 refine eG.fn.ok gk (λvs H Q E h=>?_) (λcdv A outer s H vs Q E hr h=>?_)
 ·obtain⟨l,ns,rfl,_⟩:=h;rfl
 ·obtain⟨l,ns,rfl,hl,hn,hs,k⟩:=h;refine⟨_,(aj (Z9X 1 gk.nd (dU ah))
   (aj (Z9X 2 gk.nd ao)
   (aj (fZ qao rfl (kQ (pv 0)) (Z9Y 3 gk.nd) (aj (Z9X 4 gk.nd (aL gY (pv 3) (gc kZ hr aX (aa (pv 2) (aa (pv 3) ah)))))
   (ak (cL (bx Co (pv 4) ao (bX _)) (aj (ck (mK PySem.F.plainAttrs_list PySem.F.slot_list_append PySem.F.type_list_append gm (pv 1) (aa (pv 4) ah)))
   (ak (Z9X 2 gk.nd (aL pq (pv 2) (pv 4))))) aY))))
   (ak (aN (pv 1)))))),?_⟩
  refine⟨a_,λq hq=>?_⟩;refine⟨_,Y,l,Y,⟨_,ai.seq (ai.upd hq) hl⟩,qR (K:=K) (a:=l) (xs:=ns.map V.int) (λi σ H2=>dI λv3 v4=>σ=[some (.ref l),some (.ref q),some (.int (qU (ns.take i)).2),v3,v4]/\ai H H2/\H2 q=some (.lst ((qU (ns.take i)).1.map V.int)))
   ⟨_,_,rfl,ai.upd hq,af⟩ (λi σ H2 _ ⟨_,_,_,s2,_⟩=>ai.seq s2 hl) ?_ ?_⟩
  ·rintro i x σ H2 hx ⟨v3,v4,rfl,s2,hq2⟩;obtain⟨b,eb,rfl⟩:=sN hx;have hi:i<ns.length:=(p_.mp eb).1;have hb:=hs b (u_ eb);have F:=xh hs i (qa1 hi);have es:qU (ns.take (i+1))=tT (qU (ns.take i)) b:=by rw[take_snoc eb,Ay]
   have fl:=F.len;rw[qaC]at fl;rw[es];unfold tT;generalize hp:qU (ns.take i)=pr at *;obtain⟨fs,u⟩:=pr;obtain⟨b1,b2⟩:=hb;have g1:=tS u b1;have g2:=Nz u b1;obtain⟨d1,d2⟩:=JL (u:=u) ⟨b1,b2⟩;refine⟨_,Y,_,Y,_,Y,u,b,Y,qbY b1,_,_,Y,Y,⟨g1,by omega⟩,_,Y,_,_,Y,Y,_,Y,?_⟩;refine gG (λh1=>?_) (λh1=>?_)
   ·rw[if_pos h1];refine⟨_,Y,.inl ⟨Y,_,bD.of hq2⟩,_,Y,q,_,_,Y,Y,hq2,?_,?_⟩
    ·rw[g_];exact t_ (show fs.length<=1000 by dsimp only at fl;omega) (by decide)
    refine⟨_,Y,_,Y,_,_,Y,Y,.inr ⟨by omega,by omega⟩,?_⟩;exact⟨_,_,Y,ai.at s2 hq,by rw[af,N_];rfl⟩
   ·rw[if_neg h1];exact⟨_,_,Y,s2,hq2⟩
  ·rintro σ H2 ⟨v3,v4,rfl,s2,hq2⟩;refine⟨_,Y,?_⟩;rw[g_,qan (k_ _)]at hq2;exact k q H2 s2 hq hq2
theorem Bm {jX:h_}{i6:F_}{p:Pm}(T:Txt K mg p w)(gM:Dn K mg "product_of" oB ["factors"] jX i6)  :aF P w K mg base cM 1 jX i6 ["factors"] (Mr K):=by
 refine gM.fn.ok nh (λvs H Q E h=>?_) (λcdv A outer s H vs Q E hr h=>?_)
 ·obtain⟨l,fs,rfl,_⟩:=h;rfl
 ·obtain⟨l,fs,rfl,hl,hs,k⟩:=h;refine⟨_,(aj (Z9X 1 nh.nd ao)
   (aj (fZ qao rfl (kQ (pv 0)) (Z9Y 2 nh.nd) (ak (Z9X 1 nh.nd (aL pq (pv 1) (pv 2)))))
   (ak (aN (pv 1))))),?_⟩
  refine⟨_,Y,l,Y,⟨_,hl⟩,qR (K:=K) (a:=l) (xs:=fs.map V.int) (λi σ H2=>H2=H/\∃v2,σ=[some (.ref l),some (.int (xJ (fs.take i))),v2])
   ⟨rfl,_,rfl⟩ (λi σ H2 _ ⟨e,_⟩=>by subst e;exact hl) ?_ ?_⟩
  ·rintro i x σ H2 hx ⟨rfl,v2,rfl⟩;obtain⟨b,eb,rfl⟩:=sN hx;obtain⟨b1,b2⟩:=hs b (u_ eb);refine⟨_,Y,_,Y,_,_,Y,Y,.inr ⟨by omega,by omega⟩,Y,some (.int b),?_⟩;rw[take_snoc eb,zI];rfl
  ·rintro σ H2 ⟨rfl,v2,rfl⟩;refine⟨_,Y,?_⟩;rw[g_,qan (k_ _)];exact k
theorem HR {kg:h_}{iR:F_}{p:Pm}(T:Txt K mg p w)(dM:Dn K mg "by_unit" qG UP kg iR)  :aF P w K mg base cM 1 kg iR UP (zm K):=by
 refine dM.fn.ok Hz (λvs H Q E h=>?_) (λcdv A outer s H vs Q E hr h=>?_)
 ·obtain⟨p,f,u,rfl,_⟩:=h;rfl
 ·obtain⟨p,f,u,rfl,hS,⟨h1,h2⟩,b1,b2,k⟩:=h;refine⟨_,(ak (aN (aL O3 (aT cS (pv 0) ao (λ_ _=>rfl)) (aL gY (pv 1) (aT cS (pv 0) ao (λ_ _=>rfl)))))),?_⟩;exact⟨_,Y,_,_,_,_,Y,Y,hS,Y,_,Y,_,Y,_,_,_,_,Y,Y,hS,Y,_,_,Y,Y,⟨by omega,h2⟩,_,_,Y,Y,⟨b1,b2⟩,k⟩
end
section
variable{P:A_}{w:U_}{K:PySem.W.Frag}{mg:r_->Option i_}{base:qab}
theorem HN {o4:h_}{mT:F_}{p:Pm}(T:Txt K mg p w)(lH:Dn K mg "is_sign" tN ["sign"] o4 mT)  :aF P w K mg base cM 1 o4 mT ["sign"] Fw:=by
 refine lH.fn.ok zu (λvs H Q E h=>?_) (λcdv A outer s H vs Q E hr h=>?_)
 ·obtain⟨c,rfl,_⟩:=h;rfl
 ·obtain⟨c,rfl,k⟩:=h;refine⟨_,(aj (Z9X 1 zu.nd (aD (N3) Y T.z_ord Vn (aa (pv 0) ah)))
   (ak (aN (HG (MP JA JA (c8 (v:=.int 32) rfl T.D9 ⟨_,rfl⟩) (pv 1) (c8 (v:=.int 126) rfl T.Gg ⟨_,rfl⟩)) (Dy (tR DE (pv 1) (c8 (v:=.ref p.kY) rfl T.Im rfl) (by with_unfolding_all rfl))))))),?_⟩
  refine⟨_,Y,_,Y,Y,?_⟩;have k':Q (.bl ((decide ((32:Int)<=(c:Int))&&decide ((c:Int)<=126))&& !Zf (.int c) [.int 34,.int 37,.int 45])) H:=k;refine⟨_,Y,_,_,Y,Y,_,Y,?_⟩;refine gG (λh1=>?_) (λh1=>?_)
  ·refine⟨_,_,Y,Y,_,Y,?_⟩;have A0:(32:Int)<=(c:Int):=h1;rw[decide_eq_true A0,qcw]at k';refine gG (λh2=>?_) (λh2=>?_)
   ·have h2':(c:Int)<=126:=h2;rw[decide_eq_true h2',qcw]at k';exact⟨_,Y,_,_,Y,.inr (T.HD _),Y,Y,k'⟩
   ·have h2':¬(c:Int)<=126:=h2;rw[decide_eq_false h2',qcG]at k';exact k'
  ·have A0:¬(32:Int)<=(c:Int):=h1;rw[decide_eq_false A0,qcG,qcG]at k';exact⟨_,Y,jN k'⟩
theorem DN {gI o4:h_}{fJ mT:F_}{p:Pm}(T:Txt K mg p w)(c7:Dn K mg "are_signs" nO LK gI fJ)(lH:Dn K mg "is_sign" tN ["sign"] o4 mT)(LA:aF P w K mg base cM 1 o4 mT ["sign"] Fw):aF P w K mg base cM 2 gI fJ LK uC:=by
 refine c7.fn.ok Ds (λvs H Q E h=>?_) (λcdv A outer s H vs Q E hr h=>?_)
 ·obtain⟨x,rfl,_⟩:=h;rfl
 ·obtain⟨x,rfl,hx,k⟩:=h;refine⟨_,(ak (aN (aD (GB Y) Y T.V6 Vo (aa (iN (N:=["sign"]) Y (λ_=>⟨[],cG.plain (by decide +kernel) Y (by decide +kernel) (by decide +kernel)⟩) (uI (pv 0)) (λ_ _ _ _ _ _ _=>(aQ (i:=0) (show(["sign"]:List r_).Nodup by decide +kernel) Y (Or.inl Y))) (λ_ _ _ _ _ _ _=>(gc LA hr lH (aa (pv 0) ah)))) ah)))),?_⟩;refine⟨_,Y,x,Y,λl hl=>?_⟩;refine⟨λi m ys H2=>m=x.cps.size-i/\i<=x.cps.size/\ai H H2/\H2 l=some (.lst ys)/\ys=((x.cps.toList.take i).map kR).map V.bl,⟨x.cps.size,Y,T_ _,ai.upd hl,af,Y⟩,?_⟩;rintro i m ys H2 ⟨rfl,hi,s2,hl2,rfl⟩;by_cases hlt:i<x.cps.size
  ·refine .inr ⟨hlt,?_⟩;rintro y H3 ⟨rfl,c,ec,rfl⟩;refine⟨Kp.rep _ _,?_⟩;refine⟨_,Y,c,Y,?_⟩;refine⟨hl2,?_,x.cps.size-(i+1),by omega,Y,hlt,ai.at s2 hl,af,?_⟩
   ·rw[g_,g_,qaC];exact t_ (show min i x.cps.toList.length<=1000 by omega) (by decide)
   ·rw[take_snoc (x:=c) (by rw[V_];exact ec),N_,N_];rfl
  ·have ei:i=x.cps.size:=by omega
   subst ei;refine .inl ⟨k_ _,?_⟩;rw[qan (by rw[s_];exact k_ _)]at hl2;refine⟨l,_,Y,bD.of hl2,?_⟩;have e:(x.cps.toList.map kR).all id=x.cps.toList.all kR:=by rw[List.all_map];rfl
   rw[e];exact k H2 s2
theorem zX {jl gI:h_}{iu fJ:F_}{p:Pm}(T:Txt K mg p w)(fR:Dn K mg "check_signs" nF ["signs"] jl iu)(c7:Dn K mg "are_signs" nO LK gI fJ)(tE:aF P w K mg base cM 2 gI fJ LK uC):aF P w K mg base cM 3 jl iu ["signs"] vp:=by
 refine fR.fn.ok zv (λvs H Q E h=>?_) (λcdv A outer s H vs Q E hr h=>?_)
 ·obtain⟨x,rfl,_⟩:=h;rfl
 ·obtain⟨x,rfl,⟨h1,h2,h3,h4⟩,k⟩:=h;refine⟨_,(aj (cL (bx pC (aD (aU) Y T.dm b3 (aa (pv 0) ah)) ao (bX _)) lq aY)
   (aj (cL (mP (gi (gc tE hr c7 (aa (pv 0) ah)))) lq aY)
   (ak (cL (bx Cn (aD (BE) rfl T.dm b3 (aa (g7 (Lq rfl) rfl T.V5 Vm (aa (pv 0) ah)) ah)) (aD (aU) rfl T.dm b3 (aa (pv 0) ah)) (bX _)) lq aY)))),?_⟩
  have hz:x.length<=x_:=m_ h2 (by decide);refine⟨_,Y,_,_,Y,⟨hz,Y⟩,Y,_,Y,?_⟩;refine wZ (λz=>absurd z (by show ¬((x.cps.size:Nat):Int)=0;omega)) λ_=>?_;refine⟨_,Y,x,Y,m_ h2 (by decide),λH2 s2=>?_⟩;refine⟨_,Y,?_⟩;rw[R_.mpr h3];refine p8 ?_;refine⟨_,Y,x,Y,t_ (qcW h2) (by decide),λp hp=>?_⟩;refine⟨p,_,Y,af,_,Y,_,_,Y,⟨hz,Y⟩,Y,_,Y,?_⟩;refine DY (λz=>absurd (by rw[K6 h4];rfl) z) λ_=>?_;exact k _ (s2.trans (ai.upd hp))
theorem qI {cH:h_}{cC:F_}{p:Pm}(T:Txt K mg p w)(bG:Da K mg "check_lengths_prices" "check_lengths" fE Xi cH cC)  :aF P w K mg base cM 1 cH cC Xi (su K):=by
 refine bG.fn.ok k9 (λvs H Q E h=>?_) (λcdv A outer s H vs Q E hr h=>?_)
 ·obtain⟨x,c,rows,rfl,_⟩:=h;rfl
 ·obtain⟨x,c,rows,rfl,⟨nc,cs,ncs,hc,hp⟩,hx,⟨hq1,hq2⟩,k⟩:=h;refine⟨_,(aj (cL (bx Cn (aD (aU) Y T.dm b3 (aa (pv 1) ah)) (aD (aU) Y T.dm b3 (aa (pv 0) ah)) (bX _)) lq aY)
   (ak (fZ qao rfl (vB (pv 1)) (Z9Y 2 k9.nd) (ak (cL (bx Cn (aD (aU) rfl T.dm b3 (aa (pv 2) ah)) (aD (aU) rfl T.dm b3 (aa (pv 0) ah)) (bX _)) lq aY))))),?_⟩
  have hz:x.length<=x_:=m_ hx (by decide);have hl:(cs.map Cp.val).length=x.cps.size:=by rw[g_,Paired.len hp,hq1]
  refine⟨_,Y,_,_,Y,NW hc nc,_,Y,_,_,Y,⟨hz,Y⟩,Y,_,Y,?_⟩;refine DY (λz=>absurd (by rw[hl];rfl) z) λ_=>?_;refine⟨_,Y,c,_,Y,hc,Ea (K:=K) (c:=c) (xs:=cs.map Cp.val) (λi σ H2=>H2=H/\∃v,σ=[some (.str x),some c.val,v]) ⟨Y,_,Y⟩ (λi σ H2 _ ⟨e,_⟩=>by subst e;exact hc) ?_ ?_⟩
  ·rintro i y σ H2 hy ⟨rfl,v,rfl⟩;obtain⟨d,ed,rfl⟩:∃d,cs[i]? =some d/\y=d.val:=by
    rw[n_]at hy
    cases e:cs[i]? with
    |none=>rw[e]at hy;cases hy
    |some d=>rw[e]at hy;exact⟨d,Y,(qaa hy).symm⟩
   obtain⟨row,er,hr2⟩:=Paired.at hp ed;refine⟨_,Y,_,_,Y,hr2.len (ncs d (u_ ed)),_,Y,_,_,Y,⟨hz,Y⟩,Y,_,Y,?_⟩;refine DY (λz=>absurd (by rw[hq2 row (u_ er)];rfl) z) λ_=>?_;exact⟨Y,_,Y⟩
  ·rintro σ H2 ⟨rfl,v,rfl⟩;exact k
end
section
variable{P:A_}{w:U_}{K:PySem.W.Frag}{mg:r_->Option i_}{base:qab}
theorem vE {fX kg:h_}{eY iR:F_}{p:Pm}(T:Txt K mg p w)(c6:Dn K mg "costs_by_signs" jK Xh fX eY)(dM:Dn K mg "by_unit" qG UP kg iR)(tV:aF P w K mg base cM 1 kg iR UP (zm K)):aF P w K mg base cM 2 fX eY Xh (Jm K):=by
 refine c6.fn.ok eX (λvs H Q E h=>?_) (λcdv A outer s H vs Q E hr h=>?_)
 ·obtain⟨x,Pp,u,rows,rfl,_⟩:=h;rfl
 ·obtain⟨x,Pp,u,rows,rfl,hM,hx,nd,⟨hq1,hq2⟩,ho,k⟩:=h;refine⟨_,(aj (Z9X 3 eX.nd MN)
   (aj (fZ qao rfl (ML rfl rfl T.LR (aa (pv 0) (aa (pv 1) ah))) (sH (n:=2) rfl (fu (Z9Y 4 eX.nd) (fu (Z9Y 5 eX.nd) p6))) (ak (fZ qao rfl (ML rfl rfl T.LR (aa (pv 0) (aa (pv 5) ah))) (sH (n:=2) rfl (fu (Z9Y 6 eX.nd) (fu (Z9Y 7 eX.nd) p6))) (ak (yI (oh hr) (pv 3) (dB (aa (pv 4) (aa (pv 6) ah))) (gc tV hr dM (aa (pv 7) (aa (pv 2) ah))) rfl)))))
   (ak (aN (pv 3))))),?_⟩
  intro d hd;obtain⟨qs,U3,hp⟩:=hM;have hlen:qs.length=x.cps.size:=by rw[Paired.len hp,hq1]
  have hmin:min (gh x).length (qs.map V.ref).length=x.cps.size:=by rw[signs_length,g_,hlen,Nat.min_self]
  refine⟨_,Y,_,Y,.txt x,.tup Pp,_,_,Y,Y,Dat.tup (Dat.of (ai.upd hd)) U3,JJ (K:=K) (c:=.txt x) (d:=.tup Pp) (xs:=gh x) (ys:=qs.map V.ref) (λi σ H2=>EW λkvs v4 v5 v6 v7=>σ=[some (.str x),some (.ref Pp),some (.int u),some (.ref d),v4,v5,v6,v7]/\ai H H2/\H2 d=some (.dT kvs)/\kvs.length<=i*x.cps.size/\m7 kvs x rows u i 0)
   ⟨[],_,_,_,_,rfl,ai.upd hd,af,T_ _,m7.nil x rows u⟩ (λi σ H2 _ ⟨kvs,v4,v5,v6,v7,_,s2,_⟩=>⟨rfl,Dat.tup (Dat.of s2) U3⟩) ?_ ?_⟩
  ·rintro i y z p1 σ H2 hy hz hp1 ⟨kvs,v4,v5,v6,v7,rfl,s2,hd2,hk,hc⟩;obtain⟨a,ha,rfl⟩:=signs_get hy;obtain⟨q,hq,rfl⟩:=sN hz;obtain⟨row,er,As⟩:=Paired.at hp hq;have hi:i<x.cps.size:=by rw[←hlen];exact(p_.mp hq).1
   obtain⟨ps,hps,hpp⟩:=As;have hpl:ps.length=x.cps.size:=by rw[Paired.len hpp,hq2 row (u_ er)]
   have XE:min (gh x).length (ps.map V.ref).length=x.cps.size:=by rw[signs_length,g_,hpl,Nat.min_self]
   refine⟨p1,_,Y,fq.of af,Y,_,_,Y,_,_,Y,Y,?_⟩;have nd1:d≠p1:=bq hd2 hp1;refine⟨_,Y,_,Y,.txt x,.tup q,_,_,Y,Y,Dat.tup (Dat.of (s2.trans (ai.upd hp1))) hps,JJ (K:=K) (c:=.txt x) (d:=.tup q) (xs:=gh x) (ys:=ps.map V.ref)
    (λj σ H3=>oS λkvs v6 v7=>σ=[some (.str x),some (.ref Pp),some (.int u),some (.ref d),some (.str ⟨#[a]⟩),some (.ref q),v6,v7]/\ai H H3/\H3 d=some (.dT kvs)/\kvs.length<=i*x.cps.size+j/\m7 kvs x rows u i j)
    ⟨kvs,v6,v7,rfl,s2.trans (ai.upd hp1),by rw[au nd1];exact hd2,hk,hc⟩ (λj σ H3 _ ⟨kvs,v6,v7,_,s3,_⟩=>⟨rfl,Dat.tup (Dat.of s3) hps⟩) ?_ ?_⟩
   ·rintro j y z p2 σ H3 hy hz hp2 ⟨kvs,v6,v7,rfl,s3,Li,hk,hc⟩;obtain⟨b,hb,rfl⟩:=signs_get hy;obtain⟨pr,Zp,rfl⟩:=sN hz;obtain⟨f,ef,hf⟩:=Paired.at hpp Zp;have hj:j<x.cps.size:=by rw[←hpl];exact(p_.mp Zp).1
    obtain⟨o1,o2,o3⟩:=ho row (u_ er) f (u_ ef);refine⟨p2,_,Y,fq.of af,Y,_,_,Y,_,_,Y,Y,?_⟩;have s4:=s3.trans (ai.upd (o:=.tup [.str ⟨#[b]⟩,.ref pr]) hp2);have hd4:upd H3 p2 (.tup [.str ⟨#[b]⟩,.ref pr]) d=some (.dT kvs):=by rw[au (bq Li hp2)];exact Li
    refine⟨_,Y,_,Y,pr,f,u,Y,hf.same s4,o1,o2.bg,o3.bg,?_⟩;refine⟨_,Y,_,Y,_,Y,c_,λt ht=>?_⟩;have hd5:upd (upd H3 p2 (.tup [.str ⟨#[b]⟩,.ref pr])) t (.tup [.str ⟨#[a]⟩,.str ⟨#[b]⟩]) d=some (.dT kvs):=by rw[au (bq hd4 ht)];exact hd4
    have hsz:kvs.length<x_:=by
     have:i*x.cps.size<=100*100:=qbo (by omega) hx;have:kvs.length<20000:=by omega
     exact H_ this (by decide)
    refine⟨d,_,Y,BW.t (k:=keyOf a b) hd5 af hsz,?_⟩;refine⟨putK kvs (keyOf a b) (.int (f.1*(u / f.2))),_,_,Y,ai.at (s4.trans (ai.upd ht)) hd,af,?_,hc.put nd ha hb ⟨row,er,ef⟩⟩;have:=nT kvs (keyOf a b) (.int (f.1*(u / f.2)));omega
   ·rintro σ H3 ⟨kvs,v6,v7,rfl,s3,Li,hk,hc⟩;rw[XE]at hk hc;refine⟨kvs,_,_,_,_,Y,s3,Li,?_,hc.row (k_ _)⟩;rw[Nat.succ_mul];exact hk
  ·rintro σ H2 ⟨kvs,v4,v5,v6,v7,rfl,s2,hd2,hk,hc⟩;rw[hmin]at hc;exact⟨_,Y,k d H2 kvs s2 hd hd2 (hc.all (k_ _))⟩
theorem DH {lC:h_}{jQ:F_}{p:Pm}(T:Txt K mg p w)(iH:Dn K mg "pair_cost" pU LJ lC jQ)  :aF P w K mg base cM 1 lC jQ LJ (zh K p.aq):=by
 refine iH.fn.ok Dq (λvs H Q E h=>?_) (λcdv A outer s H vs Q E hr h=>?_)
 ·obtain⟨x,sg,rows,fo,fm,i,j,a,b,f,rfl,_⟩:=h;rfl
 ·obtain⟨x,sg,rows,fo,fm,i,j,a,b,f,rfl,⟨_,_,_,_,_,_,_,dx,Pp,o,m,d,kvs,h1,h2,h3,h4,h5,h6⟩,ha,hb,hf,k⟩:=h;refine⟨_,(ak (aN (DA (oh hr) (bz (pv 0) Y) (dB (aa (pv 1) (aa (pv 2) ah))) (λ_ _=>rfl)))),?_⟩;refine⟨_,Y,x,_,_,_,_,Y,h1,T.bF,T.sI,Ip,?_⟩;refine⟨_,Y,_,Y,c_,λt ht=>?_⟩;have hd5:upd H t (.tup [.str ⟨#[a]⟩,.str ⟨#[b]⟩]) d.1=some (.dT kvs):=by rw[au (bq h5 ht)];exact h5
  have z:=uc.t (k:=keyOf a b) hd5 af;rw[h6.1 i j a b f ha hb hf]at z;exact⟨d.1,_,Y,z,k _ (ai.upd ht)⟩
theorem DI {gH:h_}{fH:F_}{p:Pm}(T:Txt K mg p w)(c5:Dn K mg "more_cost" nN UO gH fH)  :aF P w K mg base cM 2 gH fH UO (Hu K p.aq):=by
 refine c5.fn.ok Dr (λvs H Q E h=>?_) (λcdv A outer s H vs Q E hr h=>?_)
 ·obtain⟨x,sg,rows,fo,fm,rfl,_⟩:=h;rfl
 ·obtain⟨x,sg,rows,fo,fm,rfl,⟨_,_,_,_,_,_,_,dx,Pp,o,m,d,kvs,h1,h2,h3,h4,h5,h6⟩,k⟩:=h;refine⟨_,(ak (aN (bz (pv 0) Y))),?_⟩;exact⟨_,Y,x,_,_,_,_,Y,h1,T.bF,T.n9,yl,k⟩
end
section
variable{P:A_}{w:U_}{K:PySem.W.Frag}{mg:r_->Option i_}{base:qab}
theorem uK {bB jl cH gA dH ki iw jX fX kg:h_}{f6 iu cC fT cW jc gq i6 eY iR:F_}{p:Pm}(T:Txt K mg p w)(eZ:Dm K "__init__" "Prices.__init__" cN VQ bB f6)(fR:Dn K mg "check_signs" nF ["signs"] jl iu)(BU:aF P w K mg base cM 3 jl iu ["signs"] vp)(bG:Da K mg "check_lengths_prices" "check_lengths" fE Xi cH cC)(rO:aF P w K mg base cM 1 cH cC Xi (su K))(dQ:Dn K mg "lowest_prices" kM l9 gA fT)(yx:aF P w K mg base cM 4 gA fT l9 (xF K))(bw:Dn K mg "lowest_price" jy Na dH cW)(mD:aF P w K mg base cM 3 dH cW Na (uB K))(gT:Dn K mg "all_unders" oK Xj ki jc)(EO:aF P w K mg base cM 1 ki jc Xj (Fp K))(eG:Dn K mg "unit_factors" lQ ["unders"] iw gq)(AN:aF P w K mg base cM 2 iw gq ["unders"] (Cb K))(gM:Dn K mg "product_of" oB ["factors"] jX i6)(EI:aF P w K mg base cM 1 jX i6 ["factors"] (Mr K))(c6:Dn K mg "costs_by_signs" jK Xh fX eY)(xA:aF P w K mg base cM 2 fX eY Xh (Jm K))(dM:Dn K mg "by_unit" qG UP kg iR)(tV:aF P w K mg base cM 1 kg iR UP (zm K)):aF P w K mg base cM 5 bB f6 VQ (Ms K p.aq):=by
 refine eZ.fn.ok uE (λvs H Q E h=>?_) (λcdv A outer s H vs Q E hr h=>?_)
 ·obtain⟨x,dx,o,m,sg,c,rows,fo,fm,rfl,_⟩:=h;rfl
 ·obtain⟨x,dx,o,m,sg,c,rows,fo,fm,rfl,hx,hS,h12,hM,Zo,hok,hfo,O6,hfm,O7,k⟩:=h;have S:=hS;obtain⟨q1,q2,q3,q4⟩:=S;refine⟨_,(aj (ck (gc BU hr fR (aa (pv 1) ah)))
   (aj (ck (az rO (hr.mono (by decide)) rfl bG.m bG.fn.kp bG.b .nil aP (aa (pv 1) (aa (pv 2) ah))))
   (aj (jo (pv 0) (pv 1) rfl)
   (aj (jo (pv 0) (g7 (kJ) rfl T.oj mz (aa (iN (N:=l9) rfl (λ_=>⟨[],cG.plain (by decide +kernel) rfl (by decide +kernel) (by decide +kernel)⟩) (vB (pv 2)) (λ_ _ _ _ _ _ _=>(aQ (i:=0) (show(l9:List r_).Nodup by decide +kernel) rfl (Or.inl rfl))) (λ_ _ _ _ _ _ _=>(gc yx hr dQ (aa (pv 0) ah)))) ah)) rfl)
   (aj (jo (pv 0) (gc mD hr bw (aa (pv 3) ah)) rfl)
   (aj (jo (pv 0) (gc mD hr bw (aa (pv 4) ah)) rfl)
   (aj (jo (pv 0) (gc AN hr eG (aa (gc EO hr gT (aa (bz (pv 0) rfl) (aa (bz (pv 0) rfl) (aa (bz (pv 0) rfl) ah)))) ah)) rfl)
   (aj (jo (pv 0) (gc EI hr gM (aa (bz (pv 0) rfl) ah)) rfl)
   (aj (jo (pv 0) (gc xA hr c6 (aa (bz (pv 0) rfl) (aa (bz (pv 0) rfl) (aa (bz (pv 0) rfl) ah)))) rfl)
   (aj (jo (pv 0) (gc tV hr dM (aa (bz (pv 0) rfl) (aa (bz (pv 0) rfl) ah))) rfl)
   (ak (jo (pv 0) (gc tV hr dM (aa (bz (pv 0) rfl) (aa (bz (pv 0) rfl) ah))) rfl)))))))))))),?_⟩
  refine⟨_,Y,sg,Y,hS,λH1 s1=>?_⟩;refine⟨_,Y,_,Y,sg,c,rows,Y,hM.dat (Dat.of s1),by omega,Zo,?_⟩;have Zj:H1 x=some (.ins p.aq dx []):=s1 _ _ hx;refine⟨_,Y,_,Y,x,_,dx,_,Y,Zj,T.bF,T.jB,by decide,?_⟩;generalize hH2:upd H1 x (.ins p.aq dx (aK "signs" (.str sg) []))=H2;have hx2:H2 x=some (.ins p.aq dx (aK "signs" (.str sg) [])):=by rw[←hH2];exact af
  have f2:Off x H H2:=by rw[←hH2];exact(Off.of s1).trans Off.set
  obtain⟨nc,cs,ncs,hcs,hp⟩:=hM.dat (f2.dat hx);refine⟨_,Y,c,_,Y,hcs,λl Ox=>?_⟩;refine⟨λi n ys H3=>n=rows.length-i/\i<=rows.length/\ai H2 H3/\H3 l=some (.lst ys)/\∃qs:List h_,ys=qs.map V.ref/\qs.length=i/\Paired (λq r=>nU K H3 (.tup q) r) qs ((Bx rows).take i),⟨rows.length,Y,T_ _,ai.upd Ox,af,[],Y,Y,.nil⟩,?_⟩;rintro i n ys H3 ⟨rfl,hi,s3,hl3,qs,rfl,hq,hP⟩;have zc:c.at K H3 (cs.map Cp.val):=ai.cp s3 hcs;have hcl:=Paired.len hp;by_cases hlt:i<rows.length
  ·have hci:i<cs.length:=by omega
   have e1:(cs.map Cp.val)[i]? =some cs[i].val:=by rw[n_,e_ hci];rfl
   refine .inr ⟨⟨_,_,zc,e1⟩,?_⟩;rintro y H4 ⟨rfl,hy⟩;have ey:=hy _ zc;rw[e1]at ey;cases ey;obtain⟨r,er,hr2⟩:=Paired.at hp (e_ hci);have hrm:=u_ er;refine⟨Kp.rep _ _,?_⟩;refine⟨_,Y,cs[i],r,Y,hr2.same s3,λf hf=>(hok r hrm f hf).1,by rw[Zo.2 r hrm];omega,λq H5 s5 hqn hR=>?_⟩;have QZ:H5 l=some (.lst (qs.map V.ref)):=s5 _ _ hl3;refine⟨QZ,?_,rows.length-(i+1),by omega,Y,hlt,ai.at (s3.trans s5) Ox,af,qs++[q],by rw[N_];rfl,by rw[o_,hq];rfl,?_⟩
   ·rw[g_,hq];have:i<100:=by rw[Zo.1]at hlt;omega
    exact H_ this (by decide)
   ·rw[show(Bx rows).take (i+1)=(Bx rows).take i++[r.map nH] from um er];refine GP.Paired.snoc (Paired.oO hP λa b z=>?_) ?_
    ·exact(z.same s5).off QZ
    ·exact hR.off QZ
  ·have ei:i=rows.length:=by omega
   subst ei;refine .inl ⟨⟨_,zc,by rw[g_];omega⟩,?_⟩;refine⟨l,_,Y,.inl ⟨bD.of hl3,λPp hPn=>?_⟩⟩;generalize hH4:upd H3 Pp (.tup (qs.map V.ref))=H4;have s4:ai H2 H4:=by rw[←hH4];exact s3.trans (ai.upd hPn)
   have m4:Em K H4 Pp (Bx rows):=by
    rw[←hH4];refine⟨qs,fq.of af,?_⟩;rw[qan (by unfold Bx;rw[g_];exact k_ _)]at hP;exact Paired.oO hP λa b z=>z.same (ai.upd hPn)
   have hx4:=s4 _ _ hx2;refine⟨_,Y,x,_,dx,_,Y,hx4,T.bF,T.pD,pl1,?_⟩;generalize hH5:upd H4 x (.ins p.aq dx (aK "pairs" (.ref Pp) (aK "signs" (.str sg) [])))=H5;have hx5:H5 x=some (.ins p.aq dx (aK "pairs" (.ref Pp) (aK "signs" (.str sg) []))):=by rw[←hH5];exact af
   have f5:Off x H H5:=by rw[←hH5];exact(f2.trans (Off.of s4)).trans Off.set
   have d5:Dat H4 H5:=by rw[←hH5];exact Dat.set hx4
   refine⟨_,Y,o,fo,Y,hfo.dat (f5.dat hx),O6.1,λo' ho'=>?_⟩;generalize X6:upd H5 o' (.tup [.int (nH fo).1,.int (nH fo).2])=H6;have s6:ai H5 H6:=by rw[←X6];exact ai.upd ho'
   have ho6:mF K H6 o' (nH fo):=by rw[←X6];exact fq.of af
   have Zi:=s6 _ _ hx5;refine⟨_,Y,x,_,dx,_,Y,Zi,T.bF,T.mQ,pl2,?_⟩;generalize hH7:upd H6 x (.ins p.aq dx (aK "opening" (.ref o') (aK "pairs" (.ref Pp) (aK "signs" (.str sg) []))))=H7;have hx7:H7 x=some (.ins p.aq dx (aK "opening" (.ref o') (aK "pairs" (.ref Pp) (aK "signs" (.str sg) [])))):=by rw[←hH7];exact af
   have f7:Off x H H7:=by rw[←hH7];exact(f5.trans (Off.of s6)).trans Off.set
   have d7:Dat H6 H7:=by rw[←hH7];exact Dat.set Zi
   refine⟨_,Y,m,fm,Y,hfm.dat (f7.dat hx),O7.1,λm' hm'=>?_⟩;generalize hH8:upd H7 m' (.tup [.int (nH fm).1,.int (nH fm).2])=H8;have s8:ai H7 H8:=by rw[←hH8];exact ai.upd hm'
   have hm8:mF K H8 m' (nH fm):=by rw[←hH8];exact fq.of af
   have hx8:=s8 _ _ hx7;refine⟨_,Y,x,_,dx,_,Y,hx8,T.bF,T.qj,pl3,?_⟩;generalize hH9:upd H8 x (.ins p.aq dx (aK "more" (.ref m') (aK "opening" (.ref o') (aK "pairs" (.ref Pp) (aK "signs" (.str sg) [])))))=H9;have Xx:H9 x=some (.ins p.aq dx (aK "more" (.ref m') (aK "opening" (.ref o') (aK "pairs" (.ref Pp) (aK "signs" (.str sg) []))))):=by rw[←hH9];exact af
   have f9:Off x H H9:=by rw[←hH9];exact(f7.trans (Off.of s8)).trans Off.set
   have d9:Dat H8 H9:=by rw[←hH9];exact Dat.set hx8
   have e69:Dat H6 H9:=d7.trans ((Dat.of s8).trans d9);have e49:Dat H4 H9:=d5.trans ((Dat.of s6).trans e69);have M9:Em K H9 Pp (Bx rows):=m4.dat e49;have O9:mF K H9 o' (nH fo):=ho6.dat e69;have m9:mF K H9 m' (nH fm):=hm8.dat d9;have WM:∀r∈Bx rows,∀f∈r,GQ f:=DS λr hr f hf=>sO (hok r hr f hf).1;have T9:=Pj Zo;refine⟨_,Y,x,_,_,_,_,Y,Xx,T.bF,T.pD,M3,_,Y,x,_,_,_,_,Y,Xx,T.bF,T.mQ,Ia,_,Y,x,_,_,_,_,Y,Xx,T.bF,T.qj,Pg,?_⟩;refine⟨Pp,o',m',Bx rows,nH fo,nH fm,Y,M9.mat,O9,m9,by rw[T9.1];exact h12,λr hr=>by rw[T9.2 r hr];exact h12,λl1 Ha sa hl1 hla=>?_⟩;have okU:∀n∈nK (nH fo) (nH fm) (Bx rows),qu n:=λn hn=>by
    have z:∀{f:cJ},GQ f->qu f.2:=λq=>⟨by have:=q.1;omega,q.2⟩;rcases G_.mp hn with e|hn
    ·rw[e];exact z (sO O6.1)
    rcases G_.mp hn with e|hn
    ·rw[e];exact z (sO O7.1)
    obtain⟨f,hf,rfl⟩:=O_.mp hn;obtain⟨r,hr,hfr⟩:=List.mem_flatten.mp hf;exact z (WM r hr f hfr)
   have acf:(nK (nH fo) (nH fm) (Bx rows)).length<=1000:=by
    unfold nK;rw[M_,M_,g_,Ax T9.2,T9.1];have:sg.cps.size*sg.cps.size<=12*12:=qbo h12 h12;omega
   refine⟨l1,_,Y,bD.of hla,acf,okU,λfl Hb sb hfl hlb=>?_⟩;have FI:=P5 okU;have eU:xJ (qU (nK (nH fo) (nH fm) (Bx rows))).1=bE (nH fo).2 (nH fm).2 (Bx rows):=by rw[FI.prod,FI.unit,E7]
   have hsm:=FI.small;generalize (qU (nK (nH fo) (nH fm) (Bx rows))).1=ZI at hlb eU hsm;clear FI;have hxb:=sb _ _ (sa _ _ Xx);refine⟨_,Y,x,_,dx,_,Y,hxb,T.bF,T.qK,pl4,?_⟩;generalize ZF:upd Hb x (.ins p.aq dx (aK "factors" (.ref fl) (aK "more" (.ref m') (aK "opening" (.ref o') (aK "pairs" (.ref Pp) (aK "signs" (.str sg) []))))))=Hc;have hxc:Hc x=some (.ins p.aq dx (aK "factors" (.ref fl) (aK "more" (.ref m') (aK "opening" (.ref o') (aK "pairs" (.ref Pp) (aK "signs" (.str sg) [])))))):=by rw[←ZF];exact af
   have fc:Off x H Hc:=by rw[←ZF];exact((f9.trans (Off.of sa)).trans (Off.of sb)).trans Off.set
   have dc:Dat H9 Hc:=by rw[←ZF];exact((Dat.of sa).trans (Dat.of sb)).trans (Dat.set hxb)
   have XT:Hc fl=some (.lst (ZI.map V.int)):=by rw[←ZF];exact Dat.set hxb fl _ (λ_ _ _ z=>by cases z) hlb
   refine⟨_,Y,x,_,_,_,_,Y,hxc,T.bF,T.qK,Ib,fl,ZI,Y,bD.of XT,hsm,?_⟩;have up:=L5 (sO O6.1) (sO O7.1) WM;have ub:=L6 h12 T9 (sO O6.1) (sO O7.1) WM;have VL:∀{f:cJ},YE f->YF (bE (nH fo).2 (nH fm).2 (Bx rows)) (nH f):=λz=>⟨sO z.1,Pk z.2,Bu.div ub _⟩;rw[eU];generalize hu:bE (nH fo).2 (nH fm).2 (Bx rows)=u at *;refine⟨_,Y,x,_,dx,_,Y,hxc,T.bF,T.nG,pl5,?_⟩;generalize Vc:upd Hc x (.ins p.aq dx (aK "unit" (.int u) (aK "factors" (.ref fl) (aK "more" (.ref m') (aK "opening" (.ref o') (aK "pairs" (.ref Pp) (aK "signs" (.str sg) [])))))))=C7;have PD:C7 x=some (.ins p.aq dx (aK "unit" (.int u) (aK "factors" (.ref fl) (aK "more" (.ref m') (aK "opening" (.ref o') (aK "pairs" (.ref Pp) (aK "signs" (.str sg) []))))))):=by rw[←Vc];exact af
   have f10:Off x H C7:=by rw[←Vc];exact fc.trans Off.set
   have Yj:Dat Hc C7:=by rw[←Vc];exact Dat.set hxc
   have VY:Dat H9 C7:=dc.trans Yj;have XU:C7 fl=some (.lst (ZI.map V.int)):=Yj fl _ (λ_ _ _ z=>by cases z) XT;refine⟨_,Y,x,_,_,_,_,Y,PD,T.bF,T.jB,M1,_,Y,x,_,_,_,_,Y,PD,T.bF,T.pD,K1,_,Y,x,_,_,_,_,Y,PD,T.bF,T.nG,Pf,?_⟩;refine⟨sg,Pp,u,Bx rows,Y,M9.dat VY,q2,q4,T9,DS λr hr f hf=>VL (hok r hr f hf),λd Og kvs GZ hdn ac2 hc=>?_⟩;have UY:=GZ _ _ PD;refine⟨_,Y,x,_,dx,_,Y,UY,T.bF,T.sI,pl6,?_⟩;generalize PU:upd Og x (.ins p.aq dx (aK "costs" (.ref d) (aK "unit" (.int u) (aK "factors" (.ref fl) (aK "more" (.ref m') (aK "opening" (.ref o') (aK "pairs" (.ref Pp) (aK "signs" (.str sg) []))))))))=G3;have PC:G3 x=some (.ins p.aq dx (kI sg Pp o' m' u (d,fl))):=by rw[←PU];exact af
   have d12:Dat C7 G3:=by rw[←PU];exact(Dat.of GZ).trans (Dat.set UY)
   have f12:Off x H G3:=by rw[←PU];exact(f10.trans (Off.of GZ)).trans Off.set
   have ac1:G3 d=some (.dT kvs):=by rw[←PU];exact Dat.set UY d _ (λ_ _ _ z=>by cases z) ac2
   obtain⟨w1,w2,w3⟩:=VL O6;obtain⟨y1,y2,y3⟩:=VL O7;refine⟨_,Y,x,_,_,_,_,Y,PC,T.bF,T.mQ,BA,_,Y,x,_,_,_,_,Y,PC,T.bF,T.nG,Aw,o',nH fo,u,Y,(O9.dat VY).dat d12,w1,w2.bg,w3.bg,?_⟩;refine⟨_,Y,x,_,dx,_,Y,PC,T.bF,T.rF,pl7,?_⟩;generalize Vb:upd G3 x (.ins p.aq dx (aK "opening_units" (.int ((nH fo).1*(u / (nH fo).2))) (kI sg Pp o' m' u (d,fl))))=VE;have Nj:VE x=some (.ins p.aq dx (aK "opening_units" (.int ((nH fo).1*(u / (nH fo).2))) (kI sg Pp o' m' u (d,fl)))):=by rw[←Vb];exact af
   have d13:Dat G3 VE:=by rw[←Vb];exact Dat.set PC
   have f13:Off x H VE:=by rw[←Vb];exact f12.trans Off.set
   refine⟨_,Y,x,_,_,_,_,Y,Nj,T.bF,T.qj,(ur (by decide +kernel)).trans Iq,_,Y,x,_,_,_,_,Y,Nj,T.bF,T.nG,(ur (by decide +kernel)).trans Aw,m',nH fm,u,Y,((m9.dat VY).dat d12).dat d13,y1,y2.bg,y3.bg,?_⟩;refine⟨_,Y,x,_,dx,_,Y,Nj,T.bF,T.n9,pl8,?_⟩;have ZM:Dat C7 (upd VE x (.ins p.aq dx (BC sg Pp o' m' u (d,fl) ((nH fo).1*(u / (nH fo).2)) ((nH fm).1*(u / (nH fm).2))))):=d12.trans (d13.trans (Dat.set Nj));have f14:Off x H (upd VE x (.ins p.aq dx (BC sg Pp o' m' u (d,fl) ((nH fo).1*(u / (nH fo).2)) ((nH fm).1*(u / (nH fm).2))))):=f13.trans Off.set;refine k _ ⟨hS,T9,?_,?_,?_,?_,?_,dx,Pp,o',m',(d,fl),kvs,?_,(M9.dat VY).dat ZM,(O9.dat VY).dat ZM,(m9.dat VY).dat ZM,?_,?_,ZI,hsm,?_,?_⟩ f14 (λc0 hc0 C' JN fs' hx' hl'=>?_)
   ·rw[hu];exact DS λr hr f hf=>VL (hok r hr f hf)
   ·rw[hu];exact VL O6
   ·rw[hu];exact VL O7
   ·rw[hu];exact up
   ·rw[hu];exact ub
   ·rw[hu];exact af
   ·exact(d13.trans (Dat.set Nj)) d _ (λ_ _ _ z=>by cases z) ac1
   ·rw[hu];exact hc
   ·rw[hu];exact eU
   ·exact ZM fl _ (λ_ _ _ z=>by cases z) XU
   ·rw[af]at hx';cases hx';have e:fl=c0:=V.ref.inj (qaa ((rG (x:=sg) (P:=Pp) (o:=o') (m:=m') (u:=u) (d:=(d,fl))).symm.trans hl'));subst e
    cases q:H fl with
    |none=>exact hc0 q
    |some u0 =>
     by_cases ex:fl=x
     ·rw[ex,sa _ _ Xx]at hfl;cases hfl
     ·rw[(f9.trans (Off.of sa)) fl u0 q ex]at hfl;cases hfl
end
section
variable{P:A_}{w:U_}{K:PySem.W.Frag}{mg:r_->Option i_}{base:qab}
theorem FZ {cg:h_}{bO:F_}{p:Pm}(T:Txt K mg p w)(aJ:Dn K mg "_law_next" jz l6 cg bO)  :aF P w K mg base cM 1 cg bO l6 (wm K):=by
 refine aJ.fn.ok pQ (λvs H Q E h=>?_) (λcdv A outer s H vs Q E hr h=>?_)
 ·obtain⟨s,t,ns,k,rfl,_⟩:=h;rfl
 ·obtain⟨s,t,ns,k,rfl,hC,hk2,kk⟩:=h;have hS:=hC.scr;have AZ:=hC.Wv;have ht:=hC.at_;have hk:=hC.k0;refine⟨_,(aj (wF (aL gj (aT bf (pv 1) ao (λ_ _=>rfl)) ao) (HE (pv 1) ao set_list))
   (aj (Z9X 2 pQ.nd ao)
   (aj (cL (bx Co (aD (aU) rfl T.dm b3 (aa (pv 0) ah)) ao (bX _)) (ak (Z9X 2 pQ.nd (aT bf (pv 0) (aL dg (aT bf (pv 1) ao (λ_ _=>rfl)) (aD (aU) rfl T.dm b3 (aa (pv 0) ah))) (λ_ _=>rfl)))) aY)
   (aj (Z9X 3 pQ.nd (aL dg (aL pq (aL gj (aL gj (aL dg (pv 2) ao) (aL pq (aL pq (aT bf (pv 1) ao (λ_ _=>rfl)) (aT bf (pv 1) ao (λ_ _=>rfl))) ao)) ao) ao) ao))
   (ak (aN (aL dg (aL pq (pv 3) (pv 3)) ao))))))),?_⟩
  refine⟨_,Y,t,_,_,_,Y,Y,bD.of ht,Y,_,_,Y,Y,_,Y,t,_,_,0,Y,Y,ht,Y,?_⟩;have hq:bD K (upd H t (.lst [.int (k+1)])) s (ns.map V.int):=AZ _;refine⟨_,Y,_,_,Y,.inl ⟨_,hq,Y⟩,_,_,Y,Y,_,Y,?_⟩;have fin:∀c:Int,∀m1:Int,m1=(c % 2147483647+(k+1)*(k+1)*7919+11)*48271 % 2147483647->Q (.int (m1*m1 % 1999999973)) (upd H t (.lst [.int (k+1)])):=λc m1 _ =>
   kk _ (qai _ (by decide)) (Z_ _ (by decide))
  have rest:∀c:Int,Q (.int (((c % 2147483647+(k+1)*(k+1)*7919+11)*48271 % 2147483647)*((c % 2147483647+(k+1)*(k+1)*7919+11)*48271 % 2147483647) % 1999999973)) (upd H t (.lst [.int (k+1)])):=λc=>fin c _ rfl;have Ve:bD K (upd H t (.lst [.int (k+1)])) t [.int (k+1)]:=bD.of af;refine gG (λh0=>?_) (λh0=>?_)
  ·have hn:0<ns.length:=by rw[g_]at h0;omega
   have i1:=qai (k+1) (show((ns.length:Nat):Int)≠0 by omega);have i2:=Z_ (k+1) (show(0:Int)<((ns.length:Nat):Int) by omega);obtain⟨j,hj⟩:∃j:Nat,(k+1) % ((ns.length:Nat):Int)=(j:Int):=⟨_,(qas i1).symm⟩;have hjl:j<ns.length:=by omega
   refine⟨_,Y,_,Y,t,_,_,_,Y,Y,Ve,Y,_,Y,_,_,Y,.inl ⟨_,hq,Y⟩,_,_,Y,Y,(by show(0:Int)<(((ns.map V.int).length:Nat):Int);rw[g_];omega),?_⟩;refine⟨s,_,_,.int ns[j],Y,Y,hq,?_,?_⟩
   ·rw[g_,hj];exact bM (by rw[n_,e_ hjl];rfl)
   ·refine⟨_,Y,_,_,Y,Y,(by show(0:Int)<_;decide),?_⟩;refine⟨_,Y,t,_,_,_,Y,Y,Ve,Y,_,Y,t,_,_,_,Y,Y,Ve,Y,_,_,Y,Y,.inl ⟨by omega,by omega⟩,_,_,Y,Y,.inr ⟨by decide,by decide⟩,_,_,Y,Y,_,_,Y,Y,_,_,Y,Y,.inr ⟨by decide,by decide⟩,_,_,Y,Y,(by show(0:Int)<_;decide),?_⟩;have m0:=qai ((ns[j] % 2147483647+(k+1)*(k+1)*7919+11)*48271) (show(2147483647:Int)≠0 by decide);have m1:=Z_ ((ns[j] % 2147483647+(k+1)*(k+1)*7919+11)*48271) (show(0:Int)<2147483647 by decide);exact⟨_,Y,_,Y,_,_,Y,Y,.inl ⟨by omega,by omega⟩,_,_,Y,Y,(by show(0:Int)<_;decide),rest _⟩
  ·refine⟨_,Y,_,_,Y,Y,(by show(0:Int)<_;decide),?_⟩;refine⟨_,Y,t,_,_,_,Y,Y,Ve,Y,_,Y,t,_,_,_,Y,Y,Ve,Y,_,_,Y,Y,.inl ⟨by omega,by omega⟩,_,_,Y,Y,.inr ⟨by decide,by decide⟩,_,_,Y,Y,_,_,Y,Y,_,_,Y,Y,.inr ⟨by decide,by decide⟩,_,_,Y,Y,(by show(0:Int)<_;decide),?_⟩;have m0:=qai (((0:Int) % 2147483647+(k+1)*(k+1)*7919+11)*48271) (show(2147483647:Int)≠0 by decide);have m1:=Z_ (((0:Int) % 2147483647+(k+1)*(k+1)*7919+11)*48271) (show(0:Int)<2147483647 by decide);exact⟨_,Y,_,Y,_,_,Y,Y,.inl ⟨by omega,by omega⟩,_,_,Y,Y,(by show(0:Int)<_;decide),rest _⟩
end
section
variable{P:A_}{w:U_}{K:PySem.W.Frag}{mg:r_->Option i_}{base:qab}
end
def EF(K:PySem.W.Frag)(H:Hp)(t l:h_)(n:Nat)(k:Int)(H2:Hp):Prop:=dI λrs rows=>vX K (Wo t H2) l rs rows/\Qp n rows/\(∀r∈rows,∀f∈r,V1 f)/\(∀r∈rs,H r=none)/\ai (Wo t H) (Wo t H2)/\H2 t=some (.lst [.int k])
section
variable{P:A_}{w:U_}{K:PySem.W.Frag}{mg:r_->Option i_}{base:qab}
end
section
variable{P:A_}{w:U_}{K:PySem.W.Frag}{mg:r_->Option i_}{base:qab}
end
section
variable{P:A_}{w:U_}{K:PySem.W.Frag}{mg:r_->Option i_}{base:qab}
theorem DG {lB:h_}{jP:F_}{p:Pm}(T:Txt K mg p w)(iG:Dn K mg "things_at" pS Xg lB jP)  :aF P w K mg base cM 1 lB jP Xg (zd K):=by
 refine iG.fn.ok Dp (λvs H Q E h=>?_) (λcdv A outer s H vs Q E hr h=>?_)
 ·obtain⟨v,rs,n,rfl,_⟩:=h;rfl
 ·obtain⟨v,rs,n,rfl,hR,hS,hn,k⟩:=h;obtain⟨c,rfl,hc⟩:=hR.cp;have hz:rs.length<x_:=t_ hS.len (by decide);refine⟨_,(ak (aN (mK PySem.F.plainAttrs_str PySem.F.slot_str_join PySem.F.type_str_join DQ c9 (aa (iN (N:=["text","place"]) Y (cG.qQ (nt:=1) (ix:=[1]) Y (by decide +kernel) (by decide +kernel) (by kernel_rfl) Y (by kernel_rfl)) (vB (pv 0)) (λ_ _ _ _ _ _ _=>(aQ (i:=0) (show(["text","place"]:List r_).Nodup by decide +kernel) Y (Or.inl Y))) (λ_ _ _ _ _ _ _=>(aT Ao (pv 0) (pv 1) (λ_ _=>rfl)))) ah)))),?_⟩;refine⟨Y,_,Y,c,_,Y,hc _ (ai.refl _),λl hl=>?_⟩;refine m5 rs.length (λi=>sg ((rs.getD i ⟨#[]⟩).cps.toList.getD n 0)) hl hz (λi H2 s2 hi=>?_) (λH2 s2=>?_) (λi x H2 H3 R s2 hi y hR=>?_) λH2 s2 hl2=>?_
  ·exact⟨_,_,hc _ s2,by rw[n_,e_ hi];rfl⟩
  ·exact⟨_,hc _ s2,by rw[g_];exact k_ _⟩
  ·obtain⟨rfl,y⟩:=y;have e:=y _ (hc _ s2);rw[n_,e_ hi]at e;cases e;have hm:=Q_ hi;have hn':n<rs[i].cps.toList.length:=by rw[s_];exact hn _ hm
   refine⟨Kp.uD,?_⟩;refine⟨_,Y,_,Y,_,_,rs[i].cps.toList[n],Y,Y,m_ (hS.row _ hm) (by decide),bM (e_ hn'),?_⟩;have e2:rs[i].cps.toList[n]=(rs.getD i ⟨#[]⟩).cps.toList.getD n 0:=by
    have e3:rs.getD i ⟨#[]⟩=rs[i]:=by rw[C_,e_ hi,qaV]
    rw[e3,C_,e_ hn',qaV]
   rw[e2];exact hR _ (ai.refl _)
  ·refine⟨l,oR rs n,Y,Y,?_,?_,k H2 s2⟩
   ·have e:(K_ rs.length).map (λi=>sg ((rs.getD i ⟨#[]⟩).cps.toList.getD n 0))=(oR rs n).map sg:=by
     unfold oR;rw[qam];refine qa7 (by simp) λi h1 h2=>?_;have hi:i<rs.length:=by simpa using h1
     simp[C_,e_ hi]
    rw[e]at hl2;exact bD.of hl2
   ·unfold oR;rw[g_];exact m_ hS.len (by decide)
theorem KJ {mj lB:h_}{jO jP:F_}{p:Pm}(T:Txt K mg p w)(iF:Dn K mg "turned" sD UN mj jO)(iG:Dn K mg "things_at" pS Xg lB jP)(GS:aF P w K mg base cM 1 lB jP Xg (zd K)):aF P w K mg base cM 2 mj jO UN (zb K):=by
 refine iF.fn.ok Kv (λvs H Q E h=>?_) (λcdv A outer s H vs Q E hr h=>?_)
 ·obtain⟨v,rs,n,rfl,_⟩:=h;rfl
 ·obtain⟨v,rs,n,rfl,hR,hS,hn,hw,k⟩:=h;refine⟨_,(ak (aN (iN (N:=["place","texts"]) Y (cG.qQ (nt:=1) (ix:=[0]) Y (by decide +kernel) (by decide +kernel) (by kernel_rfl) Y (by kernel_rfl)) (jM Y T.m8 (aa (pv 1) ah)) (λ_ _ _ _ _ _ _=>(aQ (i:=0) (show(["place","texts"]:List r_).Nodup by decide +kernel) Y (Or.inl Y))) (λ_ _ _ _ _ _ _=>(gc GS hr iG (aa (pv 1) (aa (pv 0) ah))))))),?_⟩;refine⟨_,Y,n,Y,by omega,by omega,λl hl=>?_⟩;refine m5 n (λi=>V.str (lK rs i)) hl (t_ hn (by decide)) (λi H2 s2 hi=>?_) (λH2 s2=>?_) (λi x H2 H3 R s2 hi y PR=>?_) λH2 s2 hl2=>?_
  ·show i<((n:Nat):Int).toNat;omega
  ·show((n:Nat):Int).toNat<=n;omega
  ·obtain⟨rfl,rfl⟩:=y;refine⟨Kp.uD,?_⟩;refine⟨_,Y,_,Y,v,rs,i,?_,hR.same s2,hS,λr hr=>H_ hi (hw r hr),λH5 s5=>PR H5 s5⟩;rw[qbZ];rfl
  ·refine k l H2 s2 hl ?_;rw[hl2];unfold cols;rw[qam];rfl
theorem Br {fK mj:h_}{ee jO:F_}{p:Pm}(T:Txt K mg p w)(bQ:Dn K mg "columns_of" lX l7 fK ee)(iF:Dn K mg "turned" sD UN mj jO)(AO:aF P w K mg base cM 2 mj jO UN (zb K)):aF P w K mg base cM 3 fK ee l7 (wu K):=by
 refine bQ.fn.ok Bh (λvs H Q E h=>?_) (λcdv A outer s H vs Q E hr h=>?_)
 ·obtain⟨v,rs,rfl,_⟩:=h;rfl
 ·obtain⟨v,rs,rfl,hR,hS,hl,k⟩:=h;obtain⟨hne,hw⟩:=cR.mp hl;refine⟨_,(ak (aN (gc AO hr iF (aa (pv 0) (aa (aD (aU) Y T.dm b3 (aa (aT Ik (pv 0) ao (λ_ _=>rfl)) ah)) ah))))),?_⟩
  cases rs with
  |nil=>exact absurd Y hne
  |cons r0 rs =>
   have h0:=hS.row r0 (L_ ..);refine⟨_,Y,_,Y,hR.ix (i:=0) Y ?_⟩;refine⟨_,_,Y,⟨m_ h0 (by decide),Y⟩,v,_,r0.cps.size,Y,hR,hS,h0,λr hr=>by rw[hw r hr];exact k_ _,λl H' s' hn hl'=>k l H' s' hn hl'⟩
theorem HQ {o6:h_}{mV:F_}{p:Pm}(T:Txt K mg p w)(lJ:Dn K mg "is_gaps" tP Px o6 mV)  :aF P w K mg base cM 1 o6 mV Px Fx:=by
 refine lJ.fn.ok Hy (λvs H Q E h=>?_) (λcdv A outer s H vs Q E hr h=>?_)
 ·obtain⟨x,rfl,_⟩:=h;rfl
 ·obtain⟨x,rfl,hx,k⟩:=h;refine⟨_,(ak (aN (tR pC (pv 0) (aL DB (c8 (v:=.str (z_ "-")) Y T.Gh ⟨_,Y⟩) (aD (aU) Y T.dm b3 (aa (pv 0) ah))) (bX _)))),?_⟩;refine⟨_,Y,_,Y,_,_,Y,⟨m_ hx (by decide),Y⟩,_,_,Y,Y,by show(-1000000:Int)<=((x.cps.size:Nat):Int);omega,by show((x.cps.size:Nat):Int)<=1000000;omega,by decide,?_,Y,?_⟩
  ·show((x.cps.size:Nat):Int).toNat*1<=x_;exact m_ (show _<=1000 by omega) (by decide)
  ·rw[PX];exact k
theorem FW {fj:h_}{dP:F_}{p:Pm}(T:Txt K mg p w)(bK:Dn K mg "signs_of" mO Pw fj dP)  :aF P w K mg base cM 1 fj dP Pw tM:=by
 refine bK.fn.ok FE (λvs H Q E h=>?_) (λcdv A outer s H vs Q E hr h=>?_)
 ·obtain⟨x,rfl,_⟩:=h;rfl
 ·obtain⟨x,rfl,hx,k⟩:=h;refine⟨_,(ak (aN (KI (pv 0) Y T.Gh))),?_⟩;exact⟨_,Y,x,Y,by omega,k⟩
theorem Bt {kh fj gI:h_}{jb dP fJ:F_}{p:Pm}(T:Txt K mg p w)(gS:Dn K mg "are_things" oJ l9 kh jb)(bK:Dn K mg "signs_of" mO Pw fj dP)(m6:aF P w K mg base cM 1 fj dP Pw tM)(c7:Dn K mg "are_signs" nO LK gI fJ)(tE:aF P w K mg base cM 2 gI fJ LK uC):aF P w K mg base cM 3 kh jb l9 xH:=by
 refine gS.fn.ok Bk (λvs H Q E h=>?_) (λcdv A outer s H vs Q E hr h=>?_)
 ·obtain⟨x,rfl,_⟩:=h;rfl
 ·obtain⟨x,rfl,hx,k⟩:=h;refine⟨_,(ak (aN (gc tE hr c7 (aa (gc m6 hr bK (aa (pv 0) ah)) ah)))),?_⟩;refine⟨_,Y,x,Y,hx,_,Y,?_,k⟩;show(x.cps.toList.filter (· != 45)).length<=1000;exact m_ (qbq _ _) (by rw[s_];exact hx)
end
section
variable{P:A_}{w:U_}{K:PySem.W.Frag}{mg:r_->Option i_}{base:qab}
theorem qJ {cI:h_}{cD:F_}{p:Pm}(T:Txt K mg p w)(bH:Da K mg "check_lengths_blocks" "check_lengths" fF l7 cI cD)  :aF P w K mg base (rY P w) 1 cI cD l7 (Cc K p.bN (λ_=>true) sQ):=by
 refine bH.fn.KO lg (λvs H Q E h=>?_) (λcdv A outer s H vs Q E hr h=>?_)
 ·obtain⟨v,rs,rfl,_⟩:=h;rfl
 ·obtain⟨v,rs,rfl,hR,hS,_,k,kX⟩:=h;obtain⟨c,rfl,hc⟩:=hR.cp;refine⟨_,(aj (cL (bx pC (aD (aU) Y T.dm b3 (aa (pv 0) ah)) ao (bX _)) (ak (nP fG T.rj Y Y T.pF (aa c9 ah))) aY)
   (ak (fZ iO rfl (vB (pv 0)) (Z9Y 1 lg.nd) (ak (cL (bx Cn (aD (aU) rfl T.dm b3 (aa (pv 1) ah)) (aD (aU) rfl T.dm b3 (aa (aT Ik (pv 0) ao (λ_ _=>rfl)) ah)) (bX _)) (ak (nP fG T.rj rfl rfl T.pF (aa c9 ah))) aY))))),?_⟩
  refine⟨_,Y,_,_,Y,hR.len,Y,_,Y,?_⟩
  cases rs with
  |nil=>exact pG ⟨b_,kX Y H (ai.refl _)⟩
  |cons r0 rs =>
   refine jN ?_;have h0:=hS.row r0 (L_ ..);refine⟨_,Y,c,_,Y,hc _ (ai.refl _),Ea (K:=K) (xs:=(r0::rs).map V.str) (λi σ H2=>H2=H/\∃v1,σ=[some c.val,v1]/\∀r∈(r0::rs).take i,r.cps.size=r0.cps.size) ⟨Y,_,Y,λr hr=>(by cases hr)⟩ (λi σ H2 _ ⟨e,_⟩=>by rw[e];exact hc _ (ai.refl _)) ?_ ?_⟩
   ·rintro i x σ H2 hx ⟨rfl,v1,rfl,hw⟩;rw[n_]at hx;obtain⟨r,hr,rfl⟩:=qaQ.mp hx;have hm:=u_ hr;have h1:=hS.row r hm;refine⟨_,Y,_,_,Y,⟨m_ h1 (by decide),Y⟩,_,Y,hR.ix (i:=0) Y ⟨_,_,Y,⟨m_ h0 (by decide),Y⟩,Y,_,Y,?_⟩⟩;by_cases z:r.cps.size=r0.cps.size
    ·rw[decide_eq_true (show V.int ((r.length:Nat):Int)=V.int ((r0.length:Nat):Int) by show V.int ((r.cps.size:Nat):Int)=_;rw[z];rfl)];refine jN ⟨Y,_,Y,λr' hr'=>?_⟩;rw[List.take_succ,hr]at hr';rcases S_.mp hr' with hr'|hr'
     ·exact hw r' hr'
     ·rw[w_.mp hr'];exact z
    ·rw[decide_eq_false (λe=>z (by injection e with e;have e':((r.cps.size:Nat):Int)=((r0.cps.size:Nat):Int):=e;omega))];refine pG ⟨b_,kX ?_ _ (ai.refl _)⟩;rw[qb_];exact λe=>z ((cR.mp e).2 r hm)
   ·rintro σ H2 ⟨rfl,v1,rfl,hw⟩;rw[g_,qbQ]at hw;exact k (cR.mpr ⟨by simp,hw⟩) _ (ai.refl _)
theorem yg {iD kh:h_}{gy jb:F_}{p:Pm}(T:Txt K mg p w)(eT:Dn K mg "check_things" lY l7 iD gy)(gS:Dn K mg "are_things" oJ l9 kh jb)(EN:aF P w K mg base cM 3 kh jb l9 xH):aF P w K mg base (rY P w) 4 iD gy l7 (Cc K p.bN (λ_=>true) (λrs=>rs.all kL)):=by
 refine eT.fn.KO rR (λvs H Q E h=>?_) (λcdv A outer s H vs Q E hr h=>?_)
 ·obtain⟨v,rs,rfl,_⟩:=h;rfl
 ·obtain⟨v,rs,rfl,hR,hS,_,k,kX⟩:=h;obtain⟨c,rfl,hc⟩:=hR.cp;refine⟨_,(ak (fZ iO Y (vB (pv 0)) (Z9Y 1 rR.nd) (ak (cL (mP (gi (gc EN hr gS (aa (pv 1) ah)))) (ak (nP fG T.rj Y Y T.pF (aa c9 ah))) aY)))),?_⟩;refine⟨_,Y,c,_,Y,hc _ (ai.refl _),Ea (K:=K) (xs:=rs.map V.str) (λi σ H2=>ai H H2/\∃v1,σ=[some c.val,v1]/\∀r∈rs.take i,kL r=true) ⟨ai.refl _,_,Y,λr hr=>(by cases hr)⟩ (λi σ H2 _ ⟨e,_⟩=>hc _ e) ?_ ?_⟩
  ·rintro i x σ H2 hx ⟨s2,v1,rfl,hw⟩;rw[n_]at hx;obtain⟨r,hr,rfl⟩:=qaQ.mp hx;have hm:=u_ hr;refine⟨_,Y,r,Y,hS.row r hm,λH3 s3=>⟨_,Y,?_⟩⟩
   cases z:kL r with
   |true =>
    refine p8 ⟨s2.trans s3,_,Y,λr' hr'=>?_⟩;rw[List.take_succ,hr]at hr';rcases S_.mp hr' with hr'|hr'
    ·exact hw r' hr'
    ·rw[w_.mp hr'];exact z
   |false =>
    refine xQ ⟨b_,kX ?_ _ (s2.trans s3)⟩;rw[qb_];exact λe=>by rw[R_]at e;rw[e r hm]at z;cases z
  ·rintro σ H2 ⟨s2,v1,rfl,hw⟩;rw[g_,qbQ]at hw;exact k (R_.mpr hw) _ s2
theorem wK {gD fK o6:h_}{fW ee mV:F_}{p:Pm}(T:Txt K mg p w)(dS:Dn K mg "check_columns" kP l7 gD fW)(bQ:Dn K mg "columns_of" lX l7 fK ee)(oU:aF P w K mg base cM 3 fK ee l7 (wu K))(lJ:Dn K mg "is_gaps" tP Px o6 mV)(LD:aF P w K mg base cM 1 o6 mV Px Fx):aF P w K mg base (rY P w) 4 gD fW l7 (Cc K p.bN sQ xT):=by
 refine dS.fn.KO qD (λvs H Q E h=>?_) (λcdv A outer s H vs Q E hr h=>?_)
 ·obtain⟨v,rs,rfl,_⟩:=h;rfl
 ·obtain⟨v,rs,rfl,hR,hS,hl,k,kX⟩:=h;refine⟨_,(ak (fZ iO Y (kQ (gc oU hr bQ (aa (pv 0) ah))) (Z9Y 1 qD.nd) (ak (cL (gi (gc LD hr lJ (aa (pv 1) ah))) (ak (nP fG T.rj Y Y T.pF (aa c9 ah))) aY)))),?_⟩;refine⟨_,Y,v,rs,Y,hR,hS,hl,λl H1 s1 hn hl1=>?_⟩;refine⟨l,Y,⟨_,bD.of hl1⟩,qR (K:=K) (xs:=(cols rs (dw rs)).map V.str) (λi σ H2=>ai H1 H2/\∃v1,σ=[some v,v1]/\∀r∈(cols rs (dw rs)).take i,(!dO r)=true) ⟨ai.refl _,_,Y,λr hr=>(by cases hr)⟩ (λi σ H2 _ ⟨e,_⟩=>bD.of (e _ _ hl1)) ?_ ?_⟩
  ·rintro i x σ H2 hx ⟨s2,v1,rfl,hw⟩;rw[n_]at hx;obtain⟨r,hr,rfl⟩:=qaQ.mp hx;have hm:=u_ hr;have hr1:r.cps.size<=1000:=by
    unfold cols at hm;obtain⟨j,_,rfl⟩:=O_.mp hm;show(oR rs j).length<=1000;unfold oR;rw[g_];exact m_ hS.len (by decide)
   refine⟨_,Y,r,Y,hr1,_,Y,?_⟩
   cases z:dO r with
   |true =>
    refine pG ⟨b_,kX ?_ _ (s1.trans s2)⟩;rw[qb_];exact λe=>by
     unfold xT at e;rw[R_]at e;have:=e r hm;rw[z]at this;cases this
   |false =>
    refine jN ⟨s2,_,Y,λr' hr'=>?_⟩;rw[List.take_succ,hr]at hr';rcases S_.mp hr' with hr'|hr'
    ·exact hw r' hr'
    ·rw[w_.mp hr',z];rfl
  ·rintro σ H2 ⟨s2,v1,rfl,hw⟩;rw[g_,qbQ]at hw;exact k (R_.mpr hw) _ (s1.trans s2)
end
section
variable{P:A_}{w:U_}{K:PySem.W.Frag}{mg:r_->Option i_}{base:qab}
end
section
variable{P:A_}{w:U_}{K:PySem.W.Frag}{mg:r_->Option i_}{base:qab}
end
section
variable{P:A_}{w:U_}{K:PySem.W.Frag}{mg:r_->Option i_}{base:qab}
theorem x9 {dG:h_}{cV:F_}{p:Pm}(T:Txt K mg p w)(bT:Dn K mg "place_behind" jx UM dG cV)  :aF P w K mg base cM 1 dG cV UM (zo K):=by
 refine bT.fn.ok rQ (λvs H Q E h=>?_) (λcdv A outer s H vs Q E hr h=>?_)
 ·obtain⟨q,c,ij,rfl,_⟩:=h;rfl
 ·obtain⟨q,c,ij,rfl,hq,hc,k⟩:=h
  refine⟨_,(aj (cL (bx FT (pv 1) (c8 (v:=.ref p.ko) Y T.D8 Y) (by with_unfolding_all rfl)) lq aY)
   (aj (Z9X 2 rQ.nd (Jx (c8 (v:=.ref p.ko) rfl T.D8 rfl) (pv 1) (λ_ _=>rfl)))
   (ak (aN (dB (aa (aL gj (aT cS (pv 0) ao (λ_ _=>rfl)) (aT cS (pv 2) ao (λ_ _=>rfl))) (aa (aL gj (aT cS (pv 0) ao (λ_ _=>rfl)) (aT cS (pv 2) ao (λ_ _=>rfl))) ah))))))),?_⟩
  obtain⟨v,f,hv,hf,e⟩:dI λ(v:h_) (f:cJ)=>iL [(Sum.inr (z_ "p"),V.ref p.iX),(Sum.inr (z_ "a"),V.ref p.iW),(Sum.inr (z_ "b"),V.ref p.iV)] (Sum.inr ⟨#[c]⟩:Key)=some (.ref v)/\(∀H:Hp,fq K H v [.int f.1,.int f.2])/\stp ij c=(ij.1+f.1,ij.2+f.2):=by
   rcases hc with rfl|rfl|rfl
   ·exact⟨p.iX,(1,1),eE (show(Sum.inr (z_ "p"):Key)=Sum.inr ⟨#[112]⟩ by decide +kernel),T.FP,Y⟩
   ·exact⟨p.iW,(1,0),(eF (show ¬(Sum.inr (z_ "p"):Key)=Sum.inr ⟨#[97]⟩ by decide +kernel)).trans (eE (show(Sum.inr (z_ "a"):Key)=Sum.inr ⟨#[97]⟩ by decide +kernel)),T.FO,Y⟩
   ·exact⟨p.iV,(0,1),(eF (show ¬(Sum.inr (z_ "p"):Key)=Sum.inr ⟨#[98]⟩ by decide +kernel)).trans ((eF (show ¬(Sum.inr (z_ "a"):Key)=Sum.inr ⟨#[98]⟩ by decide +kernel)).trans (eE (show(Sum.inr (z_ "b"):Key)=Sum.inr ⟨#[98]⟩ by decide +kernel))),T.FN,Y⟩
  refine⟨_,Y,p.ko,_,.inr ⟨#[c]⟩,Y,Y,T.Am P,_,Y,?_⟩;rw[hv];refine p8 ?_;refine⟨_,Y,p.ko,_,.inr ⟨#[c]⟩,_,Y,Y,T.Am P,hv,?_⟩;refine⟨_,Y,_,_,_,_,Y,Y,hq,Y,_,Y,_,_,_,_,Y,Y,hf _,Y,_,_,Y,Y,_,Y,_,_,_,_,Y,Y,hq,Y,_,Y,_,_,_,_,Y,Y,hf _,Y,_,_,Y,Y,c_,λr hr=>?_⟩;have z:=k r hr;rw[e]at z;exact z
end
section
variable{P:A_}{w:U_}{K:PySem.W.Frag}{mg:r_->Option i_}{base:qab}
theorem uL {bh:h_}{gb:F_}{p:Pm}(T:Txt K mg p w)(ff:Dm K "__init__" "NoSign.__init__" cO VP bh gb)  :aF P w K mg base (rY P w) 1 bh gb VP (Fv p.aE):=by
 refine ff.fn.KO uF (λvs H Q E h=>?_) (λcdv A outer s H vs Q E hr h=>?_)
 ·obtain⟨e,i,j,rfl,_⟩:=h;rfl
 ·obtain⟨e,i,j,rfl,he,hi,hj,k⟩:=h;obtain⟨fI,xc⟩:=T.Kc;refine⟨_,(aj (ck (O1 T.Bb Y T.ug (aa (pv 0) (aa (O0 (yJ c9 (yJ (MM (pv 1)) (yJ c9 (yJ (MM (pv 2)) Ul))))) ah))))
   (aj (Ju (pv 0) (pv 1) rfl)
   (ak (Ju (pv 0) (pv 2) rfl)))),?_⟩
  have li:=Cq hi;have lj:=Cq hj;have ti:=PyProof.Rows.int_text_len_1921 li;have tj:=PyProof.Rows.int_text_len_1921 lj;have l0:(qc2++z_ "no sign that may stand there: row ").length<=50:=by decide
  have l1:=Eb l0 ti;have l2:=Eb l1 (show(z_ ", place ").length<=20 by decide);have l3:=Eb l2 tj;refine⟨_,Y,_,Y,m_ l0 (by decide),_,Y,_,Y,li,_,Y,m_ l1 (by decide),_,Y,m_ l2 (by decide),_,Y,_,Y,lj,_,Y,m_ l3 (by decide),m_ l3 (by decide),?_⟩;refine⟨e,p.aE,fI,none,_,Y,he,xc,?_⟩;refine⟨_,Y,_,Y,e,p.aE,Y,T.BY,T.vI,.inl ⟨he,λdx hdx=>?_⟩⟩;have ne:dx≠e:=λz=>by rw[z,he]at hdx;cases hdx
  refine⟨_,Y,_,Y,e,p.aE,Y,T.BY,T.sJ,.inr ⟨dx,_,by rw[au (Ne.symm ne),af],af,pl1,?_⟩⟩;refine k dx _ (λb u hb Nt=>?_) hdx (by rw[au (Ne.symm ne),au (Ne.symm ne),af]) af;have nb:b≠dx:=λz=>by rw[z,hdx]at hb;cases hb
  rw[au nb,au nb,au Nt,au nb];exact hb
theorem vF {aH cI iD gD:h_}{aV cD gy fW:F_}{p:Pm}(T:Txt K mg p w)(aO:Dm K "__init__" "Block.__init__" bS LI aH aV)(bH:Da K mg "check_lengths_blocks" "check_lengths" fF l7 cI cD)(rP:aF P w K mg base (rY P w) 1 cI cD l7 (Cc K p.bN (λ_=>true) sQ))(eT:Dn K mg "check_things" lY l7 iD gy)(AW:aF P w K mg base (rY P w) 4 iD gy l7 (Cc K p.bN (λ_=>true) (λrs=>rs.all kL)))(dS:Dn K mg "check_columns" kP l7 gD fW)(yz:aF P w K mg base (rY P w) 4 gD fW l7 (Cc K p.bN sQ xT)):aF P w K mg base (rY P w) 5 aH aV LI (vq K p.aM p.bN):=by
 refine aO.fn.KO vt (λvs H Q E h=>?_) (λcdv A outer s H vs Q E hr h=>?_)
 ·obtain⟨b,dx,v,rs,rfl,_⟩:=h;rfl
 ·obtain⟨b,dx,v,rs,rfl,hb,hR,hS,k,kX⟩:=h;refine⟨_,(aj (ck (az rP (hr.mono (by decide)) Y bH.m bH.fn.kp bH.b .nil (Lets.passes fG) (aa (pv 1) ah)))
   (aj (ck (az AW (hr.mono (by decide)) rfl eT.m eT.fn.kp eT.b .nil (Lets.passes fG) (aa (pv 1) ah)))
   (aj (ck (az yz (hr.mono (by decide)) rfl dS.m dS.fn.kp dS.b .nil (Lets.passes fG) (aa (pv 1) ah)))
   (ak (jo (pv 0) (g7 (kJ) rfl T.oj mz (aa (pv 1) ah)) rfl))))),?_⟩
  refine⟨_,Y,v,rs,Y,hR,hS,Y,λe1 H1 s1=>?_,λe1 H1 s1=>kX (by unfold fk;rw[e1];rfl) H1 s1⟩;refine⟨_,Y,v,rs,Y,hR.same s1,hS,Y,λe2 H2 s2=>?_,λe2 H2 s2=>kX (by have Q9:rs.all kL=false:=e2;unfold fk;rw[Q9,qcG,qcg]) H2 (s1.trans s2)⟩;refine⟨_,Y,v,rs,Y,(hR.same s1).same s2,hS,e1,λe3 H3 s3=>?_,λe3 H3 s3=>kX (by unfold fk;rw[e3,qcg,qcg]) H3 ((s1.trans s2).trans s3)⟩;have Y5:=(s1.trans s2).trans s3;have VX:=Y5 _ _ hb;have hall:fk rs=true:=by have Q9:rs.all kL=true:=e2;unfold fk;rw[e1,Q9,e3];rfl
  obtain⟨a,rfl,hq⟩:=hR.same Y5;refine⟨_,Y,a,rs.map V.str,Y,?_⟩;rcases hq with hq|hq
  ·refine .inl ⟨hq,λq hqn=>⟨_,Y,b,_,dx,[],Y,?_,T.gf,T.bY,by show 0<1000;decide,?_⟩⟩
   ·exact ai.upd hqn _ _ VX
   ·have nb:q≠b:=λz=>by rw[z,VX]at hqn;cases hqn
    refine k hall _ (λa' u h1 h2=>?_) ⟨dx,q,af,.inl (.inl (by rw[au nb,af]))⟩;rw[au h2];exact ai.upd hqn _ _ (Y5 _ _ h1)
  ·refine .inr ⟨hq,_,Y,b,_,dx,_,Y,VX,T.gf,T.bY,by show 0<1000;decide,?_⟩;refine k hall _ (λa' u h1 h2=>?_) ⟨dx,a,af,fq.abT VX hq⟩;rw[au h2];exact Y5 _ _ h1
theorem zY {ez bh:h_}{dF gb:F_}{p:Pm}(T:Txt K mg p w)(b9:Dn K mg "check_known" kF UL ez dF)(ff:Dm K "__init__" "NoSign.__init__" cO VP bh gb)(AM:XMk K p.aE bh)(vZ:aF P w K mg base (rY P w) 1 bh gb VP (Fv p.aE)):aF P w K mg base (rY P w) 3 ez dF UL (zk K p.aE):=by
 refine b9.fn.KO jw (λvs H Q E h=>?_) (λcdv A outer s H vs Q E hr h=>?_)
 ·obtain⟨sg,v,rs,rfl,_⟩:=h;rfl
 ·obtain⟨sg,v,rs,rfl,hR,hS,kq,k⟩:=h;obtain⟨c0,rfl,hc⟩:=hR.cp
  refine⟨_,(ak (fZ iO Y (Jv Y T.xC (aa (pv 1) ah)) (sH (n:=2) Y (fu (Z9Y 2 jw.nd) (fu (Z9Y 3 jw.nd) p6))) (ak (fZ iO Y (Jv Y T.xC (aa (pv 3) ah)) (sH (n:=2) Y (fu (Z9Y 4 jw.nd) (fu (Z9Y 5 jw.nd) p6))) (ak (cL (bx DC (pv 5) (pv 0) (by with_unfolding_all rfl)) (ak (KD fG AM vZ (hr.mono (by decide)) ff.b Y Y T.wN (aa (pv 2) (aa (pv 4) ah)))) aY)))))),?_⟩
  refine⟨_,Y,c0,_,Y,hc _ (ai.refl _),Gj (K:=K) (c:=c0) (xs:=rs.map V.str) (λi σ H2=>t9 λv2 v3 v4 v5=>σ=[some (.str sg),some c0.val,v2,v3,v4,v5]/\ai H H2/\∀m r,m<i->rs[m]? =some r->Of sg r) ⟨_,_,_,_,Y,ai.refl _,λm r z=>absurd z (qbB _)⟩ (λi σ H2 _ ⟨_,_,_,_,_,s2,_⟩=>hc _ s2) ?_ ?_⟩
  ·rintro i y p1 σ H2 hy hp1 ⟨v2,v3,v4,v5,rfl,s2,Zz⟩;obtain⟨z,Zg,rfl⟩:=sN hy;have hz:=hS.row z (u_ Zg);have hi:i<rs.length:=(p_.mp Zg).1;have hl:=hS.len;refine⟨p1,_,Y,fq.of af,Y,_,_,Y,_,_,Y,Y,?_⟩;refine⟨_,Y,.txt z,_,Y,Y,Gj (K:=K) (c:=.txt z) (xs:=gh z) (λj σ H3=>dI λv4 v5=>σ=[some (.str sg),some c0.val,some (.int (i:Int)),some (.str z),v4,v5]/\ai H H3/\∀k c,k<j->z.cps[k]? =some c->c∈sg.cps.toList) ⟨_,_,Y,s2.trans (ai.upd hp1),λk c z=>absurd z (qbB _)⟩ (λj σ H3 _ _=>rfl) ?_ ?_⟩
   ·rintro j y p2 σ H3 hy hp2 ⟨v4,v5,rfl,s3,hp⟩;obtain⟨c,hc,rfl⟩:=signs_get hy;have hj:=NV hc;have s4:=s3.trans (ai.upd (o:=.tup [.int (j:Int),.str ⟨#[c]⟩]) hp2);refine⟨p2,_,Y,fq.of af,Y,_,_,Y,_,_,Y,Y,?_⟩;refine⟨_,Y,_,Y,_,_,Y,Y,_,Y,?_⟩;rw[StrLaws.found_one];by_cases hm:c∈sg.cps.toList
    ·rw[decide_eq_true hm];refine p8 ⟨_,_,Y,s4,λk d hk hd=>?_⟩;by_cases z:k=j
     ·subst z;rw[hc]at hd;cases hd;exact hm
     ·exact hp k d (by omega) hd
    ·rw[decide_eq_false hm];refine xQ ⟨_,Y,_,Y,c_,λe hn=>?_⟩;have hne:H e=none:=ai.free s4 hn;refine⟨e,i,j,Y,af,by omega,by omega,λdx H' hk hdx hx hd=>⟨Y,some dx,hx,k i j ⟨⟨z,c,Zg,hc,hm,hp⟩,Zz⟩ dx _ (λb u hb=>?_) ?_⟩⟩
     ·have nb:b≠e:=λz=>by rw[z,hne]at hb;cases hb
      rw[sW nb];exact hk b u (by rw[au nb];exact s4 b u hb) nb
     ·have ne:dx≠e:=λz=>by rw[z,af]at hdx;cases hdx
      rw[sW ne];exact hd
   ·rintro σ H3 ⟨v4,v5,rfl,s3,hp⟩;have oz:Of sg z:=λc hc=>by
     obtain⟨k,hk,e⟩:=qaW hc;have hk':k<z.cps.size:=by simpa using hk
     exact hp k c (by rw[signs_length];exact hk') (by rw[←V_,e_ hk,e])
    refine⟨_,_,_,_,Y,s3,λm r hm hr=>?_⟩;by_cases z:m=i
    ·subst z;rw[Zg]at hr;cases hr;exact oz
    ·exact Zz m r (by omega) hr
  ·rintro σ H2 ⟨v2,v3,v4,v5,rfl,s2,Zz⟩;refine kq (λr hr=>?_) H2 s2;obtain⟨m,hm,e⟩:=qaW hr;exact Zz m r (by rw[g_];exact hm) (by rw[e_ hm,e])
theorem tZ {dY ez:h_}{dJ dF:F_}{p:Pm}(T:Txt K mg p w)(cF:Dn K mg "check_block_rows" iM Ou dY dJ)(b9:Dn K mg "check_known" kF UL ez dF)(qw:aF P w K mg base (rY P w) 3 ez dF UL (zk K p.aE)):aF P w K mg base (rY P w) 4 dY dJ Ou (xG K p.aq p.aE):=by
 refine cF.fn.KO tW (λvs H Q E h=>?_) (λcdv A outer s H vs Q E hr h=>?_)
 ·obtain⟨x,sg,rows,fo,fm,v,rs,rfl,_⟩:=h;rfl
 ·obtain⟨x,sg,rows,fo,fm,v,rs,rfl,⟨sig,_,_,_,_,_,_,dx,Pp,o,m,d,kvs,h1,h2,h3,h4,h5,h6⟩,hR,hS,kq,k⟩:=h;refine⟨_,(ak (ck (az qw (hr.mono (by decide)) Y b9.m b9.fn.kp b9.b .nil (Lets.passes fG) (aa (aL kU (bz (pv 0) Y) (c8 (v:=.str (z_ "-")) Y T.Gh ⟨_,Y⟩)) (aa (pv 1) ah))))),?_⟩;have hz:sg.cps.size+1<=x_:=m_ (Nat.add_le_add_right sig.2.1 1) (by decide);exact⟨_,Y,x,_,_,_,_,Y,h1,T.bF,T.jB,uV,_,_,Y,Y,hz,_,Y,La sg,v,rs,Y,hR,hS,kq,k⟩
end
section
variable{P:A_}{w:U_}{K:PySem.W.Frag}{mg:r_->Option i_}{base:qab}
end
section
variable{P:A_}{w:U_}{K:PySem.W.Frag}{mg:r_->Option i_}{base:qab}
theorem DK {lE cg:h_}{jS bO:F_}{p:Pm}(T:Txt K mg p w)(iJ:Dn K mg "_law_signs" pW Ot lE jS)(aJ:Dn K mg "_law_next" jz l6 cg bO)(dZ:aF P w K mg base cM 1 cg bO l6 (wm K)):aF P w K mg base cM 2 lE jS Ot (Fq K):=by
 refine iJ.fn.ok lO (λvs H Q E h=>?_) (λcdv A outer s H vs Q E hr h=>?_)
 ·obtain⟨s,t,ns,k,n,rfl,_⟩:=h;rfl
 ·obtain⟨s,t,ns,k,n,rfl,hC,hk,hn,kk⟩:=h;refine⟨_,(aj (aI (i:=3) lO.nd Y (Or.inr Y) c9)
   (aj (aI (i:=3) lO.nd rfl (Or.inr rfl) (aL kU (pv 3) c9))
   (aj (aI (i:=4) lO.nd rfl (Or.inr rfl) (gc dZ hr aJ (aa (pv 0) (aa (pv 1) ah))))
   (aj (aI (i:=5) lO.nd rfl (Or.inr rfl) (aT bf (dU (aa ao (aa ao (aa ao (aa ao (aa ao (aa ao ah))))))) (aL dg (pv 4) ao) (λ_ _=>rfl)))
   (ak (aN (mK PySem.F.plainAttrs_str PySem.F.slot_str_join PySem.F.type_str_join DQ c9 (aa (iN (N:=l54) rfl (cG.qQ (nt:=1) (ix:=[3,4,5]) rfl (by decide +kernel) (by decide +kernel) (by kernel_rfl) rfl (by kernel_rfl)) (jM rfl T.m8 (aa (pv 2) ah)) (λ_ _ _ _ _ _ _=>(aQ (i:=0) (show(l54:List r_).Nodup by decide +kernel) rfl (Or.inl rfl))) (λ_ _ _ _ _ _ _=>(aT Ao (pv 1) (aL dg (aL gj (aL gY (pv 2) ao) (aL pq (pv 0) (pv 3))) ao) (λ_ _=>rfl)))) ah)))))))),?_⟩
  refine⟨_,Y,_,_,Y,Y,(by decide +kernel),?_⟩;obtain⟨S,hS⟩:∃S:r_,S=z_ " !#$&'()*+,./0123456789:;<=>?@ABCDEFGHIJKLMNOPQRSTUVWXYZ" ++z_ "[\\]^_`abcdefghijklmnopqrstuvwxyz{|}~" :=⟨_,rfl⟩;have G1:S.cps.size=92:=by rw[hS];kernel_rfl
  have AZ:S.cps.all kR=true:=by rw[hS];kernel_rfl
  have hS3:S.cps.toList.Nodup:=Ar (by rw[hS];kernel_rfl);rw[←hS];refine⟨_,Y,_,Y,s,t,ns,k,Y,hC,hk,λm hm hm2=>?_⟩;refine⟨by show 6<=x_;decide,λq hq=>?_⟩;have s1:ai (upd H t (.lst [.int (k+1)])) (upd (upd H t (.lst [.int (k+1)])) q (.lst [.int 1,.int 3,.int 5,.int 7,.int 9,.int 11])):=ai.upd hq;have hq1:upd (upd H t (.lst [.int (k+1)])) q (.lst [.int 1,.int 3,.int 5,.int 7,.int 9,.int 11]) q=some (.lst [.int 1,.int 3,.int 5,.int 7,.int 9,.int 11]):=af;generalize upd (upd H t (.lst [.int (k+1)])) q (.lst [.int 1,.int 3,.int 5,.int 7,.int 9,.int 11])=H1 at s1 hq1 ⊢;obtain⟨tv,htv,⟨ht1,D3⟩,hat⟩:∃tv:Int,(tv=1\/tv=3\/tv=5\/tv=7\/tv=9\/tv=11)/\(0<=tv/\tv<=11)/\G2 [V.int 1,.int 3,.int 5,.int 7,.int 9,.int 11] (m % 6)=some (.int tv):=by
   have h1:=qai m (show(6:Int)≠0 by decide);have h2:=Z_ m (show(0:Int)<6 by decide);have e:m % 6=0\/m % 6=1\/m % 6=2\/m % 6=3\/m % 6=4\/m % 6=5:=by omega
   rcases e with e|e|e|e|e|e<;>rw[e]
   ·exact⟨1,by decide,by decide,Y⟩
   ·exact⟨3,by decide,by decide,Y⟩
   ·exact⟨5,by decide,by decide,Y⟩
   ·exact⟨7,by decide,by decide,Y⟩
   ·exact⟨9,by decide,by decide,Y⟩
   ·exact⟨11,by decide,by decide,Y⟩
  refine⟨_,Y,_,_,Y,Y,(by show(0:Int)<6;decide),?_⟩;refine⟨q,_,_,.int tv,Y,Y,bD.of hq1,hat,?_⟩;refine⟨Y,_,Y,n,Y,by omega,by omega,λl hl=>?_⟩;refine m5 n (λi=>sg (S.cps.toList.getD ((m / 6+(i:Int)*tv) % 92).toNat 0)) hl (t_ hn (by decide)) (λi H2 s2 hi=>?_) (λH2 s2=>?_) (λi x H2 H3 R s2 hi y hR=>?_) λH2 s2 hl2=>?_
  ·show i<((n:Nat):Int).toNat;omega
  ·show((n:Nat):Int).toNat<=n;omega
  ·obtain⟨rfl,rfl⟩:=y;refine⟨Kp.uD,?_⟩;have i1:=qai (m / 6+(i:Int)*tv) (show(92:Int)≠0 by decide);have i2:=Z_ (m / 6+(i:Int)*tv) (show(0:Int)<92 by decide);obtain⟨j,hj⟩:∃j:Nat,(m / 6+(i:Int)*tv) % 92=(j:Int):=⟨_,(qas i1).symm⟩;have hjl:j<S.cps.toList.length:=by rw[s_];omega
   refine⟨_,Y,_,Y,_,_,Y,Y,⟨by decide,by decide⟩,_,Y,_,Y,_,_,Y,Y,.inl ⟨by omega,by omega⟩,_,_,Y,Y,_,_,Y,Y,(by show(0:Int)<92;decide),?_⟩;refine⟨S,_,S.cps.toList[j],Y,Y,(by show S.cps.size<=_;rw[G1];decide),(by rw[qbZ,hj];exact bM (e_ hjl)),?_⟩;have e:S.cps.toList[j]=S.cps.toList.getD ((m / 6+(i:Int)*tv) % 92).toNat 0:=by
    rw[hj,qaD,cu (e_ hjl)]
   rw[e];exact hR _ (ai.refl _)
  ·refine⟨l,(K_ n).map (λi:Nat=>S.cps.toList.getD ((m / 6+(i:Int)*tv) % 92).toNat 0),Y,Y,?_,?_,kk _ H2 ?_ (λc hc=>?_) (HV hS3 n (λi _=>?_) λi j hij hj=>OI htv hij (by omega)) (s1.trans s2)⟩
   ·rw[qam];exact bD.of hl2
   ·rw[g_,qad];omega
   ·show((K_ n).map _).length=n;rw[g_,qad]
   ·obtain⟨i,hi,rfl⟩:=O_.mp (show c∈(K_ n).map _ from hc);have i1:=qai (m / 6+(i:Int)*tv) (show(92:Int)≠0 by decide);have i2:=Z_ (m / 6+(i:Int)*tv) (show(0:Int)<92 by decide);obtain⟨j,hj⟩:∃j:Nat,(m / 6+(i:Int)*tv) % 92=(j:Int):=⟨_,(qas i1).symm⟩;have hjl:j<S.cps.toList.length:=by rw[s_];omega
    rw[hj,qaD,cu (e_ hjl)];exact Array.all_eq_true_iff_forall_mem.mp AZ _ (Array.mem_toList_iff.mp (Q_ hjl))
   ·have i1:=qai (m / 6+(i:Int)*tv) (show(92:Int)≠0 by decide);have i2:=Z_ (m / 6+(i:Int)*tv) (show(0:Int)<92 by decide);rw[s_];omega
theorem DM {lG cg:h_}{jU bO:F_}{p:Pm}(T:Txt K mg p w)(cP:Dn K mg "_law_price" pY l6 lG jU)(aJ:Dn K mg "_law_next" jz l6 cg bO)(dZ:aF P w K mg base cM 1 cg bO l6 (wm K)):aF P w K mg base cM 2 lG jU l6 (Mw K):=by
 refine cP.fn.ok lP (λvs H Q E h=>?_) (λcdv A outer s H vs Q E hr h=>?_)
 ·obtain⟨s,t,ns,k,rfl,_⟩:=h;rfl
 ·obtain⟨s,t,ns,k,rfl,hC,hk2,kk⟩:=h;have AZ:=hC.Wv;have hk:=hC.k0;refine⟨_,(aj (Z9X 2 lP.nd (gc dZ hr aJ (aa (pv 0) (aa (pv 1) ah))))
   (aj (Z9X 3 lP.nd ao)
   (bu (cL (bx Co (aD (aU) rfl T.dm b3 (aa (pv 0) ah)) ao (bX _)) (ak (Z9X 3 lP.nd (aT bf (pv 0) (aL dg (aT bf (pv 1) ao (λ_ _=>rfl)) (aD (aU) rfl T.dm b3 (aa (pv 0) ah))) (λ_ _=>rfl)))) aY)
   (aj (Z9X 4 lP.nd (aT bf (dU (aa ao (aa ao (aa ao (aa ao (aa ao (aa (aL gj ao (aL dg (aL gY (pv 2) ao) ao)) ah))))))) (aL dg (pv 2) ao) (λ_ _=>rfl)))
   (aj (cL (bx pC (aL dg (aL gY (pv 2) ao) ao) ao (bX _)) (ak (aN (dB (aa (aL zO (aL dg (pv 3) (aL MS ao ao)) (aL pq ao (aL MS ao ao))) (aa (pv 4) ah))))) aY)
   (ak (aN (dB (aa (aL zO (aL dg (aL gY (pv 2) ao) ao) ao) (aa (pv 4) ah)))))))))),?_⟩
  refine⟨_,Y,_,Y,s,t,ns,k,Y,hC,hk2,λm hm hm2=>?_⟩;have hq:=AZ (.lst [.int (k+1)]);have Ve:bD K (upd H t (.lst [.int (k+1)])) t [.int (k+1)]:=bD.of af;refine⟨λσ H2=>H2=upd H t (.lst [.int (k+1)])/\∃c:Int,σ=[some (.ref s),some (.ref t),some (.int m),some (.int c),none],?_,?_⟩
  ·refine⟨_,Y,_,_,Y,.inl ⟨_,hq,Y⟩,_,_,Y,Y,_,Y,?_⟩;refine gG (λh0=>?_) (λh0=>?_)
   ·have hn:0<ns.length:=by rw[g_]at h0;omega
    have i1:=qai (k+1) (show((ns.length:Nat):Int)≠0 by omega);have i2:=Z_ (k+1) (show(0:Int)<((ns.length:Nat):Int) by omega);obtain⟨j,hj⟩:∃j:Nat,(k+1) % ((ns.length:Nat):Int)=(j:Int):=⟨_,(qas i1).symm⟩;have hjl:j<ns.length:=by omega
    refine⟨_,Y,_,Y,t,_,_,_,Y,Y,Ve,Y,_,Y,_,_,Y,.inl ⟨_,hq,Y⟩,_,_,Y,Y,(by show(0:Int)<(((ns.map V.int).length:Nat):Int);rw[g_];omega),?_⟩;refine⟨s,_,_,.int ns[j],Y,Y,hq,?_,?_⟩
    ·rw[g_,hj];exact bM (by rw[n_,e_ hjl];rfl)
    ·exact⟨Y,_,Y⟩
   ·exact⟨Y,_,Y⟩
  ·rintro σ H2 ⟨rfl,c,rfl⟩;obtain⟨v,hv,hv1,hv2⟩:∃v:Int,G2 [V.int 1,V.int 1,V.int 2,V.int 3,V.int 4,V.int (1+m / 6 % 999)] (m % 6)=some (V.int v)/\1<=v/\v<=999:=by
    have h6:m % 6=0\/m % 6=1\/m % 6=2\/m % 6=3\/m % 6=4\/m % 6=5:=by omega
    rcases h6 with h|h|h|h|h|h
    ·rw[h];exact⟨1,Y,by omega,by omega⟩
    ·rw[h];exact⟨1,Y,by omega,by omega⟩
    ·rw[h];exact⟨2,Y,by omega,by omega⟩
    ·rw[h];exact⟨3,Y,by omega,by omega⟩
    ·rw[h];exact⟨4,Y,by omega,by omega⟩
    ·rw[h];exact⟨1+m / 6 % 999,Y,by omega,by omega⟩
   refine⟨_,Y,_,_,Y,Y,⟨by decide,by decide⟩,_,_,Y,Y,(by show(0:Int)<_;decide),_,_,Y,Y,(by show 6<=x_;decide),λl hl'=>?_⟩;have s1:ai (upd H t (.lst [.int (k+1)])) (upd (upd H t (.lst [.int (k+1)])) l (.lst [.int 1,.int 1,.int 2,.int 3,.int 4,.int (1+m / 6 % 999)])):=ai.upd hl';have fre:∀r,upd (upd H t (.lst [.int (k+1)])) l (.lst [.int 1,.int 1,.int 2,.int 3,.int 4,.int (1+m / 6 % 999)]) r=none->H r=none:=λr hr=>LZ (ai.free s1 hr);have last:∀c:Int,Sm c->∀r,upd (upd H t (.lst [.int (k+1)])) l (.lst [.int 1,.int 1,.int 2,.int 3,.int 4,.int (1+m / 6 % 999)]) r=none →
     Q (.ref r) (upd (upd (upd H t (.lst [.int (k+1)])) l (.lst [.int 1,.int 1,.int 2,.int 3,.int 4,.int (1+m / 6 % 999)])) r (.tup [.int c,.int v])):=λc hc r hr =>
    kk (c,v) r _ ⟨hv1,hv2,hc⟩ (s1.trans (ai.upd hr)) (fre r hr) af
   refine⟨_,Y,_,_,Y,Y,(by show(0:Int)<_;decide),l,_,_,_,Y,Y,bD.of af,hv,?_⟩;refine⟨_,Y,_,_,Y,Y,⟨by decide,by decide⟩,_,_,Y,Y,(by show(0:Int)<_;decide),Y,_,Y,?_⟩;refine wZ (λh4=>?_) (λh4=>?_)
   ·refine⟨_,Y,_,_,Y,Y,⟨by decide,by decide,by decide⟩,_,_,Y,Y,(by show(0:Int)<_;decide),_,_,Y,Y,⟨by decide,by decide,by decide⟩,_,_,Y,Y,.inl ⟨by decide,by decide⟩,_,_,Y,Y,_,Y,?_⟩;exact⟨c_,λr hr=>last _ (Ls _) r hr⟩
   ·refine⟨_,Y,_,_,Y,Y,⟨by decide,by decide⟩,_,_,Y,Y,(by show(0:Int)<_;decide),_,_,Y,Y,_,Y,?_⟩;exact⟨c_,λr hr=>last _ (GC (by omega) (by omega)) r hr⟩
end
section
variable{P:A_}{w:U_}{K:PySem.W.Frag}{mg:r_->Option i_}{base:qab}
theorem Bo {jY lG bB:h_}{i7 jU f6:F_}{p:Pm}(T:Txt K mg p w)(gO:Dn K mg "_law_prices" oE Xf jY i7)(cP:Dn K mg "_law_price" pY l6 lG jU)(tD:aF P w K mg base cM 2 lG jU l6 (Mw K))(eZ:Dm K "__init__" "Prices.__init__" cN VQ bB f6)(AL:Mk K p.aq bB)(vY:aF P w K mg base cM 5 bB f6 VQ (Ms K p.aq)):aF P w K mg base cM 7 jY i7 Xf (Ca K p.aq):=by
 refine gO.fn.ok nj (λvs H Q E h=>?_) (λcdv A outer s H vs Q E hr h=>?_)
 ·obtain⟨s,t,ns,k,sg,b,rfl,_⟩:=h;rfl
 ·obtain⟨s,t,ns,k,sg,b,rfl,hC,hk,hsg,h12,kk⟩:=h;obtain⟨N,hNe⟩:∃N,N=sg.cps.size:=⟨_,rfl⟩;have k0:=hC.k0;have hN2:N<=12:=by omega
  have hz:sg.length<=x_:=m_ (show sg.cps.size<=100 by omega) (by decide);refine⟨_,(aj (rD (i:=4) (N:=l55) nj.nd Y (Or.inl Y) Y (cG.qQ (nt:=1) (ix:=[0,1,2]) Y (by decide +kernel) (by decide +kernel) (by kernel_rfl) Y (by kernel_rfl)) (uI (pv 2)) (λ_ _ _ _ _ _ _=>(aQ (i:=0) (show(l55:List r_).Nodup by decide +kernel) Y (Or.inl Y))) (λ_ _ _ _ _ _ _=>(iN (N:=l56) Y (cG.qQ (nt:=1) (ix:=[1,2]) Y (by decide +kernel) (by decide +kernel) (by kernel_rfl) Y (by kernel_rfl)) (uI (pv 3)) (λ_ _ _ _ _ _ _=>(aQ (i:=0) (show(l56:List r_).Nodup by decide +kernel) Y (Or.inl Y))) (λ_ _ _ _ _ _ _=>(gc tD hr cP (aa (pv 1) (aa (pv 2) ah)))))))
   (aj (fZ qao rfl (jM rfl T.m8 (aa (aD (aU) rfl T.dm b3 (aa (pv 2) ah)) ah)) (Z9Y 5 nj.nd) (ak (fZ qao rfl (jM rfl T.m8 (aa (pv 5) ah)) (Z9Y 6 nj.nd) (ak (cL (gi (pv 3)) (ak (wF (aT bf (aT bf (pv 4) (pv 6) (λ_ _=>rfl)) (pv 5) (λ_ _=>rfl)) (HE (aT bf (pv 4) (pv 5) (λ_ _=>rfl)) (pv 6) set_list))) aY)))))
   (ak (aN (rE AL vY (hr.mono (by decide)) rfl T.K2 eZ.b .nil aP (aa (pv 2) (aa (pv 4) (aa (gc tD hr cP (aa (pv 0) (aa (pv 1) ah))) (aa (gc tD hr cP (aa (pv 0) (aa (pv 1) ah))) ah))))))))),?_⟩
  refine⟨_,Y,sg,Y,λl hl=>?_⟩;have Pc:l≠t:=λz=>by rw[z,hC.at_]at hl;cases hl
  refine⟨λi m ys H2=>m=N-i/\i<=N/\dI λrs rows=>ys=rs.map V.ref/\rs.length=i/\vX K (Wo t H2) l rs rows/\(∀r∈rows,r.length=N)/\(∀r∈rows,∀f∈r,V1 f)/\(∀r∈rs,H r=none)/\ai (Wo t H) (Wo t H2)/\H2 t=some (.lst [.int (k+((i*N:Nat):Int))]),⟨N,Y,T_ _,[],[],Y,Y,?_,?_,?_,?_,?_,?_⟩,?_⟩
  ·rw[Wo.au Pc];exact⟨Y,af,List.nodup_nil,(by simp),λi r row h1=>by simp at h1⟩
  ·intro r hr;cases hr
  ·intro r hr;cases hr
  ·intro r hr;cases hr
  ·rw[Wo.au Pc];exact ai.upd (Wo.free hl)
  ·rw[au Pc.symm,hC.at_,Nat.zero_mul];simp
  rintro i m' ys H2 ⟨rfl,hi,rs,rows,rfl,hrs,ZP,r1,r2,r3,s2,D3⟩;by_cases hlt:i<N
  ·refine .inr ⟨(by show i<sg.cps.size;omega),?_⟩;rintro x H3 ⟨rfl,cx,hcx,rfl⟩;refine⟨Kp.uD,?_⟩;refine⟨_,Y,sg,Y,λl2 hl2=>?_⟩;have HW:l2≠t:=λz=>by rw[z,D3]at hl2;cases hl2
   have acQ:H l2=none:=Wo.back s2 D3 hl2;refine⟨λj m ys H4=>m=N-j/\j<=N/\H4 l2=some (.lst ys)/\dI λps row=>ys=ps.map V.ref/\ps.length=j/\Paired (mF K (Wo t H4)) ps row/\(∀f∈row,V1 f)/\ai (Wo t H3) (Wo t H4)/\H4 t=some (.lst [.int (k+((i*N:Nat):Int)+(j:Int))]),
    ⟨N,rfl,T_ _,af,[],[],rfl,rfl,.nil,λf hf=>(by cases hf),?_,?_⟩,?_⟩
   ·rw[Wo.au HW];exact ai.upd (Wo.free hl2)
   ·rw[au HW.symm,D3];simp
   rintro j m' ys H4 ⟨rfl,hj,yM,ps,row,rfl,hps,hP,ok,s4,JH⟩;have s04:ai (Wo t H) (Wo t H4):=s2.trans s4;by_cases Zw:j<N
   ·refine .inr ⟨(by show j<sg.cps.size;omega),?_⟩;rintro x H5 ⟨rfl,cy,hcy,rfl⟩;refine⟨Kp.uD,?_⟩;have hiN:i*N<=144:=m_ (qbo (show i<=12 by omega) hN2) (by decide);refine⟨_,Y,_,Y,s,t,ns,_,Y,hC.off s04 JH (by omega),by omega,λf q H6 okf s6 hqn hq6=>?_⟩;have w6:=Wo.step s6;have Zm:=s6 _ _ af;have nq:q≠t:=nR hq6 Zm (by intro z;cases z);have XN:Wo t H6 l2=some (.lst (ps.map V.ref)):=w6 _ _ (Wo.in HW yM);refine⟨Wo.sub _ _ XN,?_,N-(j+1),by omega,Y,Zw,af,ps++[q],row++[f],by rw[N_];rfl,by rw[o_,hps];rfl,?_,?_,?_,?_⟩
    ·rw[g_,hps];exact H_ (show j<100 by omega) (by decide)
    ·rw[Wo.au HW];refine GP.Paired.snoc (Paired.oO hP λa b z=>fq.off XN (z.same w6)) ?_;exact fq.off XN (fq.of (Wo.in nq hq6))
    ·intro g hg;rcases S_.mp hg with hg|hg
     ·exact ok g hg
     ·rw[w_.mp hg];exact okf
    ·rw[Wo.au HW];exact ai.at (s4.trans w6) (Wo.free hl2)
    ·rw[au HW.symm,Zm];simp only[Int.natCast_add,Int.natCast_one,Int.add_assoc]
   ·have ej:j=N:=by omega
    refine .inl ⟨(by show sg.cps.size<=j;omega),?_⟩;have hlo:Wo t H4 l=some (.lst (rs.map V.ref)):=s4 _ _ ZP.at_;refine⟨Wo.sub _ _ hlo,?_,N-(i+1),by omega,Y,hlt,rs++[l2],rows++[row],by rw[N_];rfl,by rw[o_,hrs];rfl,?_,?_,?_,?_,?_,?_⟩
    ·rw[g_,hrs];exact H_ (show i<100 by omega) (by decide)
    ·rw[Wo.au Pc];exact ZP.snoc s4 (Wo.free hl2) (Wo.in HW yM) hP
    ·intro r hr;rcases S_.mp hr with hr|hr
     ·exact r1 r hr
     ·rw[w_.mp hr,←Paired.len hP,hps,ej]
    ·intro r hr;rcases S_.mp hr with hr|hr
     ·exact r2 r hr
     ·rw[w_.mp hr];exact ok
    ·intro r hr;rcases S_.mp hr with hr|hr
     ·exact r3 r hr
     ·rw[w_.mp hr];exact acQ
    ·rw[Wo.au Pc];exact ai.at s04 (Wo.free hl)
    ·rw[au Pc.symm,JH,Nat.succ_mul,ej];simp only[Int.natCast_add,Int.add_assoc]
  ·have ei:i=N:=by omega
   subst ei;refine .inl ⟨(by show sg.cps.size<=i;omega),?_⟩;have hii:i*i<=144:=m_ (qbo hN2 hN2) (by decide);have P2:EF K H t l i (k+((i*i:Nat):Int)) H2:=⟨rs,rows,ZP,⟨by rw[←ZP.len,hrs],r1⟩,r2,r3,s2,D3⟩;refine⟨_,Y,_,_,Y,⟨hz,Y⟩,((i:Nat):Int),(by rw[hNe];rfl),by omega,by omega,?_⟩;refine oY (lo:=0) (n:=((i:Int)).toNat) (λa σ H3=>dI λv5 v6=>σ=[some (.ref s),some (.ref t),some (.str sg),some (.bl b),some (.ref l),v5,v6]/\EF K H t l i (k+((i*i:Nat):Int)) H3) ⟨_,_,Y,P2⟩ ?_ ?_
   ·rintro a σ H3 ha ⟨v5,v6,rfl,P3⟩;refine⟨_,Y,_,Y,by omega,by omega,?_⟩;refine oY (lo:=0) (n:=(0+(a:Int)).toNat) (λc σ H4=>∃v6,σ=[some (.ref s),some (.ref t),some (.str sg),some (.bl b),some (.ref l),some (.int (0+(a:Int))),v6]/\EF K H t l i (k+((i*i:Nat):Int)) H4) ⟨_,Y,P3⟩ ?_ ?_
    ·rintro c σ H4 hc ⟨v6,rfl,rs,rows,LM,sq,ok,nw,s4,JH⟩;refine⟨_,Y,_,Y,?_⟩
     cases b with
     |false=>exact jN ⟨_,Y,rs,rows,LM,sq,ok,nw,s4,JH⟩
     |true =>
      refine pG ?_;have ha':a<rows.length:=by rw[sq.1];omega
      have hc':c<rows.length:=by rw[sq.1];omega
      have ha2:a<rs.length:=by rw[LM.len];exact ha'
      have hc2:c<rs.length:=by rw[LM.len];exact hc'
      obtain⟨psa,hra,hPa⟩:=LM.row a _ _ (e_ ha2) (e_ ha');obtain⟨psc,hrc,hPc⟩:=LM.row c _ _ (e_ hc2) (e_ hc');have la:=sq.2 rows[a] (Q_ ha');have lc:=sq.2 rows[c] (Q_ hc');have hac:a<psc.length:=by rw[Paired.len hPc,lc];omega
      have hca:c<psa.length:=by rw[Paired.len hPa,la];omega
      obtain⟨f,ef,hf⟩:=Paired.at hPc (e_ hac);have QY:=Wo.sub _ _ LM.at_;have acC:=Wo.sub _ _ hrc;have acD:=Wo.sub _ _ hra;refine⟨_,Y,_,Y,l,_,_,.ref rs[c],Y,Y,bD.of QY,(by rw[qbZ];exact bM (by rw[n_,e_ hc2];rfl)),?_⟩;refine⟨_,Y,rs[c],_,_,.ref psc[a],Y,Y,bD.of acC,(by rw[qbZ];exact bM (by rw[n_,e_ hac];rfl)),?_⟩;refine⟨_,Y,_,Y,l,_,_,.ref rs[a],Y,Y,bD.of QY,(by rw[qbZ];exact bM (by rw[n_,e_ ha2];rfl)),?_⟩;refine⟨_,Y,rs[a],_,_,c,Y,Y,acD,?_,?_⟩
      ·rw[qbZ];unfold Nc;rw[if_pos (by omega),if_pos (by rw[g_];omega)];simp
      have nra:rs[a]≠t:=Wo.ne hra;refine⟨_,Y,rs,rows.set a (rows[a].set c f),?_,⟨by rw[qb0];exact sq.1,λr hr=>?_⟩,λr hr g hg=>?_,nw,?_,?_⟩
      ·rw[Wo.au nra];exact LM.put (e_ ha2) (e_ ha') hra hPa hf
      ·rcases qbt hr with hr|hr
       ·exact sq.2 r hr
       ·rw[hr,qb0];exact la
      ·rcases qbt hr with hr|hr
       ·exact ok r hr g hg
       ·rw[hr]at hg;rcases qbt hg with hg|hg
        ·exact ok _ (Q_ ha') g hg
        ·rw[hg];exact ok _ (Q_ hc') f (u_ ef)
      ·rw[Wo.au nra];exact ai.at s4 (Wo.free (nw _ (Q_ ha2)))
      ·rw[au nra.symm];exact JH
    ·rintro σ H4 ⟨v6,rfl,P4⟩;exact⟨_,_,Y,P4⟩
   ·rintro σ H3 ⟨v5,v6,rfl,rs,rows,LM,sq,WM,nw,s2,D3⟩;have C2:xB K H3 s t ns (k+((i*i:Nat):Int)):=hC.off s2 D3 (by omega);refine⟨_,Y,_,Y,_,Y,_,Y,s,t,ns,_,Y,C2,by omega,λfo o H4 O6 s3 hon U5=>?_⟩;have w3:=Wo.step s3;have Zn:=s3 _ _ af;have C3:xB K H4 s t ns (k+((i*i:Nat):Int)+1):=C2.off w3 Zn (by omega);refine⟨_,Y,_,Y,s,t,ns,_,Y,C3,by omega,λfm m H5 O7 s4 hmn hm4=>?_⟩;have w4:=Wo.step s4;have JH:=s4 _ _ af;have Zt:mF K H5 o fo:=fq.of (Wo.sub _ _ (w4 _ _ (Wo.in (nR U5 Zn (by intro z;cases z)) U5)));have acN:mF K H5 m fm:=fq.of hm4;have L4:vX K H5 l rs rows:=((LM.same w3).same w4).same Wo.sub;have WO:ai (Wo t H) (Wo t H5):=(s2.trans w3).trans w4;intro x dx hx hdx VM;generalize X6:upd (upd H5 dx (.own x)) x (.ins p.aq dx [])=H6;have s6:ai H5 H6:=by
     rw[←X6];exact(ai.upd hdx).trans (ai.upd (by rw[au VM.symm];exact hx))
    have Zi:H6 x=some (.ins p.aq dx []):=by rw[←X6];exact af
    refine⟨x,dx,o,m,sg,.lst l,rows,fo,fm,Y,Zi,hsg,h12,(L4.same s6).acd,(by rw[←hNe];exact sq),λr hr f hf=>(WM r hr f hf).h,Zt.same s6,O6.h,acN.same s6,O7.h,λH7 P7 f7 nf7=>⟨Y,?_⟩⟩;have s7:ai H5 H7:=λb u e=>f7 b u (s6 b u e) λz=>by rw[z,hx]at e;cases e
    exact kk x H7 _ (Bx rows) (nH fo) (nH fm) (P7.wo (s7 _ _ JH) (nf7 t (by rw[s6 _ _ JH];exact λz=>nomatch z))) (Wo.back WO JH hx) (WO.trans (Wo.same s7)) (s7 _ _ JH) (by omega) (by omega)
end
section
variable{P:A_}{w:U_}{K:PySem.W.Frag}{mg:r_->Option i_}{base:qab}
end
section
variable{P:A_}{w:U_}{K:PySem.W.Frag}{mg:r_->Option i_}{base:qab}
end
section
variable{P:A_}{w:U_}{K:PySem.W.Frag}{mg:r_->Option i_}{base:qab}
end
section
variable{P:A_}{w:U_}{K:PySem.W.Frag}{mg:r_->Option i_}{base:qab}
theorem yf {iC fj gH:h_}{gx dP fH:F_}{p:Pm}(T:Txt K mg p w)(eS:Dn K mg "cost_by_gaps" lW Xe iC gx)(bK:Dn K mg "signs_of" mO Pw fj dP)(m6:aF P w K mg base cM 1 fj dP Pw tM)(c5:Dn K mg "more_cost" nN UO gH fH)(tw:aF P w K mg base cM 2 gH fH UO (Hu K p.aq)):aF P w K mg base cM 3 iC gx Xe (Mu K p.aq):=by
 refine eS.fn.ok xZ (λvs H Q E h=>?_) (λcdv A outer s H vs Q E hr h=>?_)
 ·obtain⟨x,sg,rows,fo,fm,c,n,rfl,_⟩:=h;rfl
 ·obtain⟨x,sg,rows,fo,fm,c,n,rfl,hP,hc,hn,k⟩:=h;have hl:(Ws c.cps.toList).length<=1000:=m_ (qbq _ _) (by rw[s_];exact hc);have e:(bV 45 c).length=(Ws c.cps.toList).length:=rfl;refine⟨_,(ak (aN (aL pq (aL pq (aD (aU) Y T.dm b3 (aa (gc m6 hr bK (aa (pv 1) ah)) ah)) (pv 2)) (gc tw hr c5 (aa (pv 0) ah))))),?_⟩;refine⟨_,Y,c,Y,hc,_,_,Y,⟨m_ (show(bV 45 c).length<=1000 from hl) (by decide),Y⟩,_,Y,_,_,Y,Y,.inl (by rw[e];omega),_,Y,x,sg,rows,fo,fm,Y,hP,_,_,Y,Y,.inl ?_,k⟩;have h1:(0:Int)<=(((bV 45 c).length:Nat):Int)*(n:Int):=Int.mul_nonneg (by omega) (by omega);have h2:(((bV 45 c).length:Nat):Int)*(n:Int)<=1000*1000:=Int.mul_le_mul (by rw[e];omega) (by omega) (by omega) (by omega);omega
theorem wJ {gC iC:h_}{fV gx:F_}{p:Pm}(T:Txt K mg p w)(b4:Dn K mg "costs_by_gaps" kO Xd gC fV)(eS:Dn K mg "cost_by_gaps" lW Xe iC gx)(AV:aF P w K mg base cM 3 iC gx Xe (Mu K p.aq)):aF P w K mg base cM 4 gC fV Xd (Jk K p.aq):=by
 refine b4.fn.ok wC (λvs H Q E h=>?_) (λcdv A outer s H vs Q E hr h=>?_)
 ·obtain⟨x,l,sg,rows,fo,fm,cs,n,rfl,_⟩:=h;rfl
 ·obtain⟨x,l,sg,rows,fo,fm,cs,n,rfl,hP,hl,hc,hs,hn,k⟩:=h;refine⟨_,(ak (aN (iN (N:=["column","prices","many"]) Y (cG.qQ (nt:=1) (ix:=[0,2]) Y (by decide +kernel) (by decide +kernel) (by kernel_rfl) Y (by kernel_rfl)) (kQ (pv 1)) (λ_ _ _ _ _ _ _=>(aQ (i:=0) (show(["column","prices","many"]:List r_).Nodup by decide +kernel) Y (Or.inl Y))) (λ_ _ _ _ _ _ _=>(gc AV hr eS (aa (pv 1) (aa (pv 0) (aa (pv 2) ah)))))))),?_⟩;refine⟨_,Y,l,Y,⟨_,bD.of hl⟩,λl' hl'=>?_⟩;refine m5 cs.length (λj=>V.int (Nx (t8 rows fo fm) (cs.getD j ⟨#[]⟩) n)) hl' (t_ hc (by decide)) (λj H4 s4 hj=>?_) (λH4 s4=>?_) (λj y H4 H5 R s4 hj hy hR=>?_) λH4 s4 yM=>?_
  ·exact⟨_,_,bD.of (s4 _ _ hl),by rw[n_,e_ hj];rfl⟩
  ·exact⟨_,bD.of (s4 _ _ hl),by rw[g_];exact k_ _⟩
  ·obtain⟨rfl,hy⟩:=hy;have ey:=hy _ (bD.of (s4 _ _ hl));rw[n_,e_ hj]at ey;cases ey;refine⟨Kp.uD,?_⟩;refine⟨_,Y,_,Y,_,Y,x,sg,rows,fo,fm,cs[j],n,Y,hP.same s4,hs _ (Q_ hj),hn,?_⟩;have z:=hR _ (ai.refl _);rw[cu (e_ hj)]at z;exact z
  ·exact k l' H4 s4 hl' (by rw[yM,dD cs (λc=>V.int (Nx (t8 rows fo fm) c n))])
theorem zP {jf lC gH:h_}{g9 jQ fH:F_}{p:Pm}(T:Txt K mg p w)(fN:Dn K mg "sign_extras" nk Xc jf g9)(iH:Dn K mg "pair_cost" pU LJ lC jQ)(GU:aF P w K mg base cM 1 lC jQ LJ (zh K p.aq))(c5:Dn K mg "more_cost" nN UO gH fH)(tw:aF P w K mg base cM 2 gH fH UO (Hu K p.aq)):aF P w K mg base cM 3 jf g9 Xc (Mp K p.aq):=by
 refine fN.fn.ok o8 (λvs H Q E h=>?_) (λcdv A outer s H vs Q E hr h=>?_)
 ·obtain⟨x,sg,rows,fo,fm,S,rfl,_⟩:=h;rfl
 ·obtain⟨x,sg,rows,fo,fm,S,rfl,hP,hO,hS,k⟩:=h;obtain⟨sig,sqr,_,_,_,_,_,dx,Pp,o,m,d,kvs,h1,h2,h3,h4,h5,h6⟩:=id hP;refine⟨_,(aj (Z9X 2 o8.nd zK)
   (aj (fZ qao rfl (uI (bz (pv 0) rfl)) (aQ (i:=3) o8.nd rfl (Or.inr rfl)) (ak (yI (oh hr) (pv 2) (pv 3) (aD (CH (K':=K) rfl rfl) rfl T.Qx N6 (aa (iN (N:=["one","prices","other"]) rfl (cG.qQ (nt:=1) (ix:=[0,3]) rfl (by decide +kernel) (by decide +kernel) (by kernel_rfl) rfl (by kernel_rfl)) (uI (pv 1)) (λ_ _ _ _ _ _ _=>(aQ (i:=0) (show(["one","prices","other"]:List r_).Nodup by decide +kernel) rfl (Or.inl rfl))) (λ_ _ _ _ _ _ _=>(aL zO (gc GU hr iH (aa (pv 1) (aa (pv 0) (aa (pv 2) ah)))) (aL pq ao (gc tw hr c5 (aa (pv 1) ah)))))) ah)) rfl)))
   (ak (aN (pv 2))))),?_⟩
  refine λq hq=>?_;have s0:ai H (upd H q (.dK [])):=ai.upd hq;refine⟨_,Y,x,_,_,_,_,Y,s0 _ _ h1,T.bF,T.jB,uV,_,Y,?_⟩;refine PZ (x:=sg) (λi σ H2=>dI λ(v3:Option V) (kv:List (Key×V))=>σ=[some (.ref x),some (.str S),some (.ref q),v3]/\ai H H2/\H2 q=some (.dK kv)/\kv.length<=i/\∀j o,j<i->sg.cps.toList[j]? =some o->iL kv (.inr ⟨#[o]⟩)=some (.int (De (λs=>xM sg rows (bE fo.2 fm.2 rows) s o-2*t8 rows fo fm) S.cps.toList))) ⟨_,[],Y,s0,af,k_ _,λj o hj=>absurd hj (qbB _)⟩ ?_ ?_
  ·rintro i c σ H2 hc ⟨v3,kv,rfl,s2,hd,U9,hkv⟩;have hcm:=Ed hc;have hi:=NV hc;refine⟨_,Y,_,Y,λl hl=>?_⟩;refine m5 S.cps.size (λj=>V.int (xM sg rows (bE fo.2 fm.2 rows) (S.cps.toList.getD j 0) c-2*t8 rows fo fm)) hl (t_ hS (by decide)) (λj H4 s4 hj=>hj) (λH4 s4=>k_ _) (λj y H4 H5 R s4 hj hy hR=>?_) λH4 s4 yM=>?_
   ·obtain⟨rfl,e,he,rfl⟩:=hy;obtain⟨i',j',f,k1,k2,k3,k4⟩:=Us (u:=bE fo.2 fm.2 rows) sqr (hO _ (Ed he)) hcm;refine⟨Kp.uD,?_⟩;refine⟨_,Y,_,Y,_,Y,x,sg,rows,fo,fm,i',j',e,c,f,Y,hP.same (s2.trans s4),k1,k2,k3,λH6 s6=>?_⟩;refine⟨_,Y,x,sg,rows,fo,fm,Y,hP.same ((s2.trans s4).trans s6),_,_,Y,Y,.inl (by omega),_,_,Y,Y,?_⟩;have z:=hR H6 s6;rw[cu (vO he),k4]at z;exact z
   ·have e1:(K_ S.cps.size).map (λj=>V.int (xM sg rows (bE fo.2 fm.2 rows) (S.cps.toList.getD j 0) c-2*t8 rows fo fm))=(S.cps.toList.map λs=>xM sg rows (bE fo.2 fm.2 rows) s c-2*t8 rows fo fm).map V.int:=by
     rw[qam,←s_];exact dD (d:=0) S.cps.toList λs=>V.int (xM sg rows (bE fo.2 fm.2 rows) s c-2*t8 rows fo fm)
    refine⟨l,_,Y,bD.of (by rw[yM,e1]),_,Y,_,Y,q,_,Y,BW.k (k:=.inr ⟨#[c]⟩) (s4 _ _ hd) ?_,?_⟩
    ·exact t_ (show kv.length<=1000 by have:=sig.2.1;omega) (by decide)
    ·refine⟨_,_,Y,ai.at (s2.trans s4) hq,af,?_,λj o hj ho=>?_⟩
     ·have:=nT kv (.inr ⟨#[c]⟩:Key) (V.int (De (λs=>xM sg rows (bE fo.2 fm.2 rows) s c-2*t8 rows fo fm) S.cps.toList));exact m_ this (qcW U9)
     ·rw[r9];by_cases z:o=c
      ·rw[if_pos (by rw[z]),z];rfl
      ·rw[if_neg (λy=>z (by injection y with y;injection y with y;simpa using y))];refine hkv j o ?_ ho;have:j≠i:=λy=>by
        rw[y,vO hc]at ho;exact z (qaa ho).symm
       omega
  ·rintro σ H2 ⟨v3,kv,rfl,s2,hd,U9,hkv⟩;refine⟨_,Y,k q H2 kv s2 hq hd λo ho=>?_⟩;obtain⟨j,hj,e⟩:=qaW ho;exact hkv j o (by simpa using hj) (by rw[e_ hj,e])
end
section
variable{P:A_}{w:U_}{K:PySem.W.Frag}{mg:r_->Option i_}{base:qab}
theorem wI {gB jf:h_}{fU g9:F_}{p:Pm}(T:Txt K mg p w)(dR:Dn K mg "extras_beside" kN Xb gB fU)(fN:Dn K mg "sign_extras" nk Xc jf g9)(BP:aF P w K mg base cM 3 jf g9 Xc (Mp K p.aq)):aF P w K mg base cM 4 gB fU Xb (QD K p.aq):=by
 refine dR.fn.ok qC (λvs H Q E h=>?_) (λcdv A outer s H vs Q E hr h=>?_)
 ·obtain⟨x,l,sg,rows,fo,fm,S,os,rfl,_⟩:=h;rfl
 ·obtain⟨x,l,sg,rows,fo,fm,S,os,rfl,hP,hO,hS,hl,hn,hos,k⟩:=h;refine⟨_,(aj (aI (i:=3) qC.nd Y (Or.inr Y) (gc BP hr fN (aa (pv 0) (aa (pv 1) ah))))
   (ak (aN (iN (N:=["other","extras"]) rfl (cG.qQ (nt:=1) (ix:=[3]) rfl (by decide +kernel) (by decide +kernel) (by kernel_rfl) rfl (by kernel_rfl)) (kQ (pv 2)) (λ_ _ _ _ _ _ _=>(aQ (i:=0) (show(["other","extras"]:List r_).Nodup by decide +kernel) rfl (Or.inl rfl))) (λ_ _ _ _ _ _ _=>(aD (CH (K':=K) rfl rfl) rfl T.Qx N6 (aa (iN (N:=["sign","extras"]) rfl (cG.qQ (nt:=1) (ix:=[1]) rfl (by decide +kernel) (by decide +kernel) (by kernel_rfl) rfl (by kernel_rfl)) (uI (pv 0)) (λ_ _ _ _ _ _ _=>(aQ (i:=0) (show(["sign","extras"]:List r_).Nodup by decide +kernel) rfl (Or.inl rfl))) (λ_ _ _ _ _ _ _=>(DA (oh hr) (pv 1) (pv 0) (λ_ _=>rfl)))) ah))))))),?_⟩
  refine⟨_,Y,_,Y,x,sg,rows,fo,fm,S,Y,hP,hO,hS,λd H1 kvs s1 hd hdd hkv=>?_⟩;have hl1:=s1 _ _ hl;refine⟨_,Y,l,Y,⟨_,bD.of hl1⟩,λl' hl'=>?_⟩;refine m5 os.length (λj=>V.int (Q8 (xM sg rows (bE fo.2 fm.2 rows)) (t8 rows fo fm) S.cps.toList (os.getD j ⟨#[]⟩).cps.toList)) hl' (t_ hn (by decide)) (λj H4 s4 hj=>?_) (λH4 s4=>?_) (λj y H4 H5 R s4 hj hy hR=>?_) λH4 s4 yM=>?_
  ·exact⟨_,_,bD.of (s4 _ _ hl1),by rw[n_,e_ hj];rfl⟩
  ·exact⟨_,bD.of (s4 _ _ hl1),by rw[g_];exact k_ _⟩
  ·obtain⟨rfl,hy⟩:=hy;have ey:=hy _ (bD.of (s4 _ _ hl1));rw[n_,e_ hj]at ey;cases ey;rw[cu (e_ hj)]at hR;obtain⟨ho,Zs⟩:=hos _ (Q_ hj);generalize os[j]=o at ho Zs hR;refine⟨Kp.uD,?_⟩;refine⟨_,Y,_,Y,λl2 hl2=>?_⟩;refine m5 o.cps.size (λi=>V.int (De (λs=>xM sg rows (bE fo.2 fm.2 rows) s (o.cps.toList.getD i 0)-2*t8 rows fo fm) S.cps.toList)) hl2 (t_ Zs (by decide)) (λi H6 s6 hi=>hi) (λH6 s6=>k_ _) (λi y H6 H7 R2 s6 hi hy hR2=>?_) λH6 s6 XN=>?_
   ·obtain⟨rfl,c,hc,rfl⟩:=hy;refine⟨Kp.uD,?_⟩;refine⟨_,Y,_,Y,d,_,Y,?_,hR2 _ (ai.refl _)⟩;rw[cu (vO hc),←hkv c (ho c (Ed hc))];exact uc.k (k:=.inr ⟨#[c]⟩) ((s4.trans s6) _ _ hdd)
   ·have e1:(K_ o.cps.size).map (λi=>V.int (De (λs=>xM sg rows (bE fo.2 fm.2 rows) s (o.cps.toList.getD i 0)-2*t8 rows fo fm) S.cps.toList))=(o.cps.toList.map λc=>De (λs=>xM sg rows (bE fo.2 fm.2 rows) s c-2*t8 rows fo fm) S.cps.toList).map V.int:=by
     rw[qam,←s_];exact dD (d:=0) o.cps.toList λc=>V.int (De (λs=>xM sg rows (bE fo.2 fm.2 rows) s c-2*t8 rows fo fm) S.cps.toList)
    exact⟨l2,_,Y,bD.of (by rw[XN,e1]),hR _ s6⟩
  ·exact k l' H4 (s1.trans s4) (ai.free s1 hl') (by rw[yM,dD os (λo=>V.int (Q8 (xM sg rows (bE fo.2 fm.2 rows)) (t8 rows fo fm) S.cps.toList o.cps.toList))])
theorem Bw {kj gB:h_}{jd fU:F_}{p:Pm}(T:Txt K mg p w)(gU:Dn K mg "all_extras" oM Xa kj jd)(dR:Dn K mg "extras_beside" kN Xb gB fU)(yy:aF P w K mg base cM 4 gB fU Xb (QD K p.aq)):aF P w K mg base cM 5 kj jd Xa (QE K p.aq):=by
 refine gU.fn.ok qi (λvs H Q E h=>?_) (λcdv A outer s H vs Q E hr h=>?_)
 ·obtain⟨x,l1,l2,sg,rows,fo,fm,ss,os,rfl,_⟩:=h;rfl
 ·obtain⟨x,l1,l2,sg,rows,fo,fm,ss,os,rfl,hP,h1,hn1,hss,h2,hn2,hos,k⟩:=h;refine⟨_,(aj (aI (i:=3) qi.nd Y (Or.inr Y) zK)
   (aj (fZ qao rfl (kQ (pv 1)) (Z9Y 4 qi.nd) (ak (cL (bx (HK (oh hr)) (pv 4) (pv 3) (by with_unfolding_all rfl)) (ak (yI (oh hr) (pv 3) (pv 4) (gc yy hr dR (aa (pv 0) (aa (pv 4) (aa (pv 2) ah)))) rfl)) aY)))
   (ak (aN (iN (N:=["signs","known"]) rfl (cG.qQ (nt:=1) (ix:=[3]) rfl (by decide +kernel) (by decide +kernel) (by kernel_rfl) rfl (by kernel_rfl)) (kQ (pv 1)) (λ_ _ _ _ _ _ _=>(aQ (i:=0) (show(["signs","known"]:List r_).Nodup by decide +kernel) rfl (Or.inl rfl))) (λ_ _ _ _ _ _ _=>(DA (oh hr) (pv 1) (pv 0) (λ_ _=>rfl)))))))),?_⟩
  refine λq hq=>?_;have s0:ai H (upd H q (.dK [])):=ai.upd hq;refine⟨_,Y,l1,Y,⟨_,bD.of (s0 _ _ h1)⟩,?_⟩;refine qR (K:=K) (a:=l1) (xs:=ss.map V.str) (λi σ H2=>dI λ(v4:Option V) (kv:List (Key×V))=>σ=[some (.ref x),some (.ref l1),some (.ref l2),some (.ref q),v4]/\ai H H2/\H2 q=some (.dK kv)/\kv.length<=i/\(∀j s,j<i->ss[j]? =some s->(iL kv (.inr s)).isSome=true) ∧
   ∀s v,iL kv (.inr s)=some v->∃r,v= .ref r/\H2 r=some (.lst (os.map λo=>V.int (Q8 (xM sg rows (bE fo.2 fm.2 rows)) (t8 rows fo fm) s.cps.toList o.cps.toList)))) ⟨_,[],rfl,s0,af,k_ _,λj s hj=>absurd hj (qbB _),λs v z=>by cases z⟩ (λi σ H2 _ hh=>?_) ?_ ?_
  ·obtain⟨_,_,_,s2,_⟩:=hh;exact bD.of (s2 _ _ h1)
  ·rintro i y σ H2 hy ⟨v4,kv,rfl,s2,hd,U9,hks,hkv⟩;obtain⟨z,hz,rfl⟩:=sN hy;have hi:i<ss.length:=(p_.mp hz).1;refine⟨_,Y,_,Y,q,_,Y,uc.k (k:=.inr z) hd,_,Y,?_⟩
   cases hv:iL kv (.inr z)with
   |some v =>
    refine jN ⟨_,_,Y,s2,hd,by omega,λj s hj hs=>?_,hkv⟩;by_cases e:j=i
    ·subst e;rw[hz]at hs;cases hs;rw[hv];rfl
    ·exact hks j s (by omega) hs
   |none =>
    refine pG ⟨_,Y,_,Y,_,Y,x,l2,sg,rows,fo,fm,z,os,Y,hP.same s2,(hss z (u_ hz)).1,(hss z (u_ hz)).2,s2 _ _ h2,hn2,hos,λr H3 s3 hr hr3=>?_⟩;have Li:=s3 _ _ hd;refine⟨_,Y,_,Y,q,_,Y,BW.k (k:=.inr z) Li (t_ (show kv.length<=1000 by omega) (by decide)),?_⟩;have nq:∀{r:h_} {xs:List V},H3 r=some (.lst xs)->r≠q:=λ{r xs} h e=>by rw[e,Li]at h;cases h
    refine⟨_,_,Y,ai.at (s2.trans s3) hq,af,?_,λj s hj hs=>?_,λs v hsv=>?_⟩
    ·exact m_ (nT _ _ _) (qcW U9)
    ·rw[r9];by_cases e:s=z
     ·rw[if_pos (by rw[e])];rfl
     ·rw[if_neg (λy=>e (by injection y))];refine hks j s ?_ hs;have:j≠i:=λy=>by
       rw[y,hz]at hs;exact e (qaa hs).symm
      omega
    ·rw[r9]at hsv;by_cases e:s=z
     ·rw[if_pos (by rw[e])]at hsv;cases hsv;subst e;exact⟨r,Y,by rw[au (nq hr3)];exact hr3⟩
     ·rw[if_neg (λy=>e (by injection y))]at hsv;obtain⟨r',e1,e2⟩:=hkv s v hsv;have e3:=s3 _ _ e2;exact⟨r',e1,by rw[au (nq e3)];exact e3⟩
  ·rintro σ H2 ⟨v4,kv,rfl,s2,hd,U9,hks,hkv⟩;rw[g_]at hks;have h12:=s2 _ _ h1;refine⟨_,Y,l1,Y,⟨_,bD.of h12⟩,λl' hl'=>?_⟩;have at_:∀j,j<ss.length->∃r,((iL kv (.inr (ss.getD j ⟨#[]⟩))).getD .gE)= .ref r/\iL kv (.inr (ss.getD j ⟨#[]⟩))=some (.ref r)/\H2 r=some (.lst (os.map λo=>V.int (Q8 (xM sg rows (bE fo.2 fm.2 rows)) (t8 rows fo fm) (ss.getD j ⟨#[]⟩).cps.toList o.cps.toList))):=λj hj=>by
    have e:=hks j _ hj (e_ hj);rw[←cu (d:=(⟨#[]⟩:r_)) (e_ hj)]at e;obtain⟨v,hv⟩:=qbF.mp e;obtain⟨r,rfl,hr⟩:=hkv _ v hv;exact⟨r,by rw[hv];rfl,hv,hr⟩
   refine m5 ss.length (λj=>(iL kv (.inr (ss.getD j ⟨#[]⟩))).getD .gE) hl' (t_ hn1 (by decide)) (λj H4 s4 hj=>?_) (λH4 s4=>?_) (λj y H4 H5 R s4 hj hy hR=>?_) λH4 s4 yM=>?_
   ·exact⟨_,_,bD.of (s4 _ _ h12),by rw[n_,e_ hj];rfl⟩
   ·exact⟨_,bD.of (s4 _ _ h12),by rw[g_];exact k_ _⟩
   ·obtain⟨rfl,hy⟩:=hy;have ey:=hy _ (bD.of (s4 _ _ h12));rw[n_,e_ hj]at ey;cases ey;obtain⟨r,e1,e2,e3⟩:=at_ j hj;rw[e1]at hR;rw[cu (e_ hj)]at e2;refine⟨Kp.uD,?_⟩;refine⟨_,Y,_,Y,q,.ref r,Y,?_,hR _ (ai.refl _)⟩;rw[←e2];exact uc.k (k:=.inr ss[j]) (s4 _ _ hd)
   ·obtain⟨rs,g1,g2,g3⟩:=Js (P:=λj r=>H2 r=some (.lst (os.map λo=>V.int (Q8 (xM sg rows (bE fo.2 fm.2 rows)) (t8 rows fo fm) (ss.getD j ⟨#[]⟩).cps.toList o.cps.toList)))) λj hj=>by
     obtain⟨r,e1,_,e3⟩:=at_ j hj;exact⟨r,e1,e3⟩
    refine k l' H4 (s2.trans s4) (ai.free s2 hl') ⟨rs,g1,by rw[yM,g2],λi r hr=>?_⟩;rw[s4 _ _ (g3 i r hr),←dD (d:=⟨#[]⟩) os]
theorem zQ {jg:h_}{ia:F_}{p:Pm}(T:Txt K mg p w)(fO:Dn K mg "rests_ahead" nu W9 jg ia)  :aF P w K mg base cM 1 jg ia W9 Jq:=by
 refine fO.fn.ok ju (λvs H Q E h=>?_) (λcdv A outer s H vs Q E hr h=>?_)
 ·obtain⟨l,b,n,f,g,rfl,_⟩:=h;rfl
 ·obtain⟨l,b,n,f,g,rfl,hl,hb,hn,k⟩:=h;refine⟨_,(aj (Z9X 2 ju.nd (dU (aa ao ah)))
   (aj (fZ qao rfl (KH rfl T.m8 (aa (aL zO (aD (aU) rfl T.dm b3 (aa (pv 0) ah)) ao) (aa (Cj wc ao) (aa (Cj wc ao) ah)))) (Z9Y 3 ju.nd) (aj (Z9X 4 ju.nd (aD (CI rfl) rfl T.Qy N7 (aa (aT bf (pv 1) (pv 3) (λ_ _=>rfl)) (aa (aT bf (pv 2) (Cj wc ao) (λ_ _=>rfl)) ah))))
   (aj (cL (bx JA (aT bf (pv 0) (pv 3) (λ_ _=>rfl)) ao (bX _)) (ak (Z9X 4 ju.nd (aD (CI rfl) rfl T.Qy N7 (aa (aL gj (aT bf (pv 0) (pv 3) (λ_ _=>rfl)) (aT bf (pv 1) (aL gj (pv 3) ao) (λ_ _=>rfl))) (aa (pv 4) ah))))) aY)
   (ak (ck (mK PySem.F.plainAttrs_list PySem.F.slot_list_append PySem.F.type_list_append gm (pv 2) (aa (pv 4) ah)))))))
   (aj (ck (wG PySem.F.plainAttrs_list PySem.F.slot_list_reverse PySem.F.type_list_reverse uN (pv 2)))
   (ak (aN (pv 2)))))),?_⟩
  refine⟨b_,λq hq=>?_⟩;have s0:ai H (upd H q (.lst [.int 0])):=ai.upd hq;have e0:((K_ n).map λj=>V.int (f j)).length=n:=by rw[g_,qad]
  refine⟨_,Y,_,_,Y,.inl ⟨_,bD.of (s0 _ _ hl),Y⟩,_,_,Y,Y,_,Y,_,Y,_,_,Y,⟨by omega,by omega,by omega,by omega⟩,?_⟩;rw[e0,show((n:Int)-1- -1).toNat=n by omega];refine NF (lo:=(n:Int)-1) (n:=n) (λi σ H2=>dI λ(v3 v4:Option V)=>σ=[some (.ref l),some (.ref b),some (.ref q),v3,v4]/\ai H H2/\H2 q=some (.lst ((K_ (i+1)).map λj=>V.int (tX f g n j)))) ⟨_,_,Y,s0,af⟩ ?_ ?_
  ·rintro i σ H2 hi ⟨v3,v4,rfl,s2,h2⟩;have hl2:=bD.of (K:=K) (s2 _ _ hl);have hb2:=bD.of (K:=K) (s2 _ _ hb);have e1:(n:Int)-1-(i:Int)=((n-1-i:Nat):Int):=by omega
   rw[e1];have la:G2 ((K_ (i+1)).map λj=>V.int (tX f g n j)) (-1)=some (.int (tX f g n i)):=by rw[uH];exact GF _ _
   have fin:∀{σ':St} {Wa:Int},Wa=tX f g n (i+1)->σ'=[some (.ref l),some (.ref b),some (.ref q),some (.int ((n-1-i:Nat):Int)),some (.int Wa)]->dI λ(v3 v4:Option V)=>σ'=[some (.ref l),some (.ref b),some (.ref q),v3,v4]/\ai H (upd H2 q (.lst ((K_ (i+1)).map (λj=>V.int (tX f g n j))++[V.int Wa])))/\upd H2 q (.lst ((K_ (i+1)).map (λj=>V.int (tX f g n j))++[V.int Wa])) q=some (.lst ((K_ (i+1+1)).map λj=>V.int (tX f g n j))):=λ{σ' Wa} e1 e2=>by
    refine⟨_,_,e2,ai.at s2 hq,?_⟩;rw[af,e1,uH (n:=i+1)]
   have lt:((K_ (i+1)).map λj=>V.int (tX f g n j)).length<x_:=by
    rw[g_,qad];exact t_ (show i+1<=1000 by omega) (by decide)
   have er:tX f g n (i+1)=qB (f (n-1-i)) (g (n-1-i)) (g (n-i)) (tX f g n i):=rfl;refine⟨_,Y,_,Y,b,_,_,.int (g (n-1-i)),Y,Y,hb2,bM (iZ (by omega)),_,Y,_,Y,q,_,_,.int (tX f g n i),Y,Y,bD.of h2,la,_,_,Y,?_⟩;refine⟨_,Y,_,Y,l,_,_,.int (f (n-1-i)),Y,Y,hl2,bM (iZ (by omega)),_,_,Y,Y,_,Y,?_⟩;refine gG (λh0=>?_) (λh0=>?_)
   ·refine⟨_,Y,_,Y,l,_,_,.int (f (n-1-i)),Y,Y,hl2,bM (iZ (by omega)),_,Y,_,Y,_,_,Y,Y,b,_,_,.int (g (n-i)),Y,Y,hb2,(by rw[show((n-1-i:Nat):Int)+1=((n-i:Nat):Int) by omega];exact bM (iZ (by omega))),_,_,Y,Y,_,Y,_,_,Y,?_⟩;refine⟨_,Y,.inl ⟨Y,_,bD.of h2⟩,_,Y,q,_,_,Y,Y,h2,lt,fin ?_ Y⟩;rw[er];unfold qB;rw[if_pos h0];omega
   ·refine⟨_,Y,.inl ⟨Y,_,bD.of h2⟩,_,Y,q,_,_,Y,Y,h2,lt,fin ?_ Y⟩;rw[er];unfold qB;rw[if_neg h0];omega
  ·rintro σ H2 ⟨v3,v4,rfl,s2,h2⟩;refine⟨_,Y,.inl ⟨Y,_,bD.of h2⟩,q,_,Y,Y,h2,?_⟩;refine⟨_,Y,k q _ (ai.at s2 hq) hq ?_⟩;rw[af,Ky]
theorem Bp {j0 jg:h_}{i8 ia:F_}{p:Pm}(T:Txt K mg p w)(gP:Dn K mg "join_rests" oF W8 j0 i8)(fO:Dn K mg "rests_ahead" nu W9 jg ia)(BQ:aF P w K mg base cM 1 jg ia W9 Jq):aF P w K mg base cM 2 j0 i8 W8 Jg:=by
 refine gP.fn.ok qf (λvs H Q E h=>?_) (λcdv A outer s H vs Q E hr h=>?_)
 ·obtain⟨l,m,n,E,rfl,_⟩:=h;rfl
 ·obtain⟨l,m,n,E,rfl,⟨rs,hrs,hl,As⟩,hm,hn,k⟩:=h;refine⟨_,(aj (Z9X 2 qf.nd (dU (aa (aL Uu (dU (aa ao ah)) (aL gj (pv 1) ao)) ah)))
   (aj (fZ qao rfl (Um rfl T.G6 (aa (pv 0) ah)) (Z9Y 3 qf.nd) (ak (ck (mK PySem.F.plainAttrs_list PySem.F.slot_list_append PySem.F.type_list_append gm (pv 2) (aa (gc BQ hr fO (aa (pv 3) (aa (aT bf (pv 2) (Cj wc ao) (λ_ _=>rfl)) ah))) ah)))))
   (aj (ck (wG PySem.F.plainAttrs_list PySem.F.slot_list_reverse PySem.F.type_list_reverse uN (pv 2)))
   (ak (aN (pv 2)))))),?_⟩
  refine⟨b_,λq0 QW=>?_⟩;have s0:ai H (upd H q0 (.lst [.int 0])):=ai.upd QW;refine⟨_,Y,_,_,Y,Y,q0,_,_,Y,Y,af,by omega,by omega,(by show 1*_<=x_;rw[Nat.one_mul];exact m_ (show _<=1001 by omega) (by decide)),λp1 hp1=>⟨b_,λq hq=>?_⟩⟩;rw[show((n:Int)+1).toNat=n+1 by omega,MG]at hq ⊢;have s1:ai H (upd (upd H q0 (.lst [.int 0])) p1 (.lst (P_ (n+1) (V.int 0)))):=s0.trans (ai.upd hp1);have hp2:upd (upd H q0 (.lst [.int 0])) p1 (.lst (P_ (n+1) (V.int 0))) p1=some (.lst ((K_ (n+1)).map λj=>V.int (Kz E m n 0 j))):=by
   rw[af];congr 2;exact(List.eq_replicate_iff.mpr ⟨by simp,λb hb=>by obtain⟨j,_,rfl⟩:=O_.mp hb;rfl⟩).symm
  generalize upd (upd H q0 (.lst [.int 0])) p1 (.lst (P_ (n+1) (V.int 0)))=H1 at s1 hp2 hq ⊢;have nq1:p1≠q:=λz=>by rw[z,hq]at hp2;cases hp2
  have s2:=s1.trans (ai.upd (o:=.lst [V.ref p1]) hq);refine⟨_,Y,l,_,Y,bD.of (s2 _ _ hl),?_⟩;refine P0 (K:=K) (a:=l) (xs:=rs.map V.ref) (λi σ H2=>dI λ(v3:Option V) (qs:List h_)=>σ=[some (.ref l),some (.int (n:Int)),some (.ref q),v3]/\ai H H2/\H2 q=some (.lst (qs.map V.ref))/\qs.length=i+1/\q∉qs/\∀j r,qs[j]? =some r->H2 r=some (.lst ((K_ (n+1)).map λa=>V.int (Kz E m n j a)))) ⟨_,[p1],Y,s2,af,Y,λz=>nq1 (w_.mp z).symm,λj r hr=>?_⟩ (λi σ H2 _ hh=>?_) ?_ ?_
  ·have ej:j=0:=by
    have:=(p_.mp hr).1;have:j<1:=this;omega
   subst ej;cases hr;rw[au nq1];exact hp2
  ·obtain⟨_,_,_,s3,_⟩:=hh;exact bD.of (s3 _ _ hl)
  ·rintro i y σ H2 hi hy ⟨v3,qs,rfl,s3,h3,Ow,Zu,U3⟩;rw[g_,hrs]at hi hy;rw[n_]at hy;obtain⟨r,hr,rfl⟩:=qaQ.mp hy;obtain⟨Ui,ql,rfl⟩:dI λUi ql=>qs=Ui++[ql]:=by
    rcases List.eq_nil_or_concat qs with h|⟨a,b,h⟩
    ·rw[h]at Ow;cases Ow
    ·exact⟨a,b,by rw[h,List.concat_eq_append]⟩
   have hq':Ui.length=i:=by rw[o_]at Ow;exact Nat.succ.inj Ow
   have acG:=U3 i ql (by rw[qar (by omega),hq',qcp];rfl);refine⟨_,Y,.inl ⟨Y,_,bD.of h3⟩,_,Y,_,Y,_,Y,q,_,_,.ref ql,Y,Y,bD.of h3,(by rw[N_];exact GF _ _),r,ql,n,E (m-1-i),Kz E m n i,Y,s3 _ _ (As _ _ hr),acG,hn,λl' H3 s4 hl' hl3=>?_⟩;have h4:=s4 _ _ h3;refine⟨q,_,_,Y,Y,h4,?_,?_⟩
   ·rw[g_,Ow];exact t_ (show i+1<=1000 by omega) (by decide)
   ·have nl:l'≠q:=λz=>by rw[z,h3]at hl';cases hl'
    refine⟨_,(Ui++[ql])++[l'],Y,ai.at (s3.trans s4) (ai.free s1 hq),?_,by rw[o_,Ow];rfl,λz=>?_,λj r' hr'=>?_⟩
    ·rw[af,N_ (l₁:=Ui++[ql])];rfl
    ·rcases S_.mp z with z|z
     ·exact Zu z
     ·exact nl (w_.mp z).symm
    ·by_cases hj:j<(Ui++[ql]).length
     ·rw[qau hj]at hr';have nr:r'≠q:=λz=>Zu (z▸u_ hr');rw[au nr];exact s4 _ _ (U3 j r' hr')
     ·rw[qar (by omega)]at hr';have ej:j=i+1:=by
       have:=(p_.mp hr').1;have:j-(Ui++[ql]).length<1:=this;omega
      subst ej;rw[Ow,qcp]at hr';cases hr';rw[au nl];exact hl3
  ·rintro σ H2 ⟨v3,qs,rfl,s3,h3,Ow,Zu,U3⟩;rw[g_,hrs]at Ow;refine⟨_,Y,.inl ⟨Y,_,bD.of h3⟩,q,_,Y,Y,h3,?_⟩;refine⟨_,Y,k q _ (ai.at s3 (ai.free s1 hq)) (ai.free s1 hq) ⟨qs.reverse,by rw[List.length_reverse,Ow],by rw[af,List.map_reverse],λi r hr=>?_⟩⟩;have hi:i<qs.length:=by have:=(p_.mp hr).1;rwa [List.length_reverse]at this
   rw[List.getElem?_reverse hi,show qs.length-1-i=m-i by omega]at hr;have nr:r≠q:=λz=>Zu (z▸u_ hr);rw[au nr];exact U3 _ r hr
end
section
variable{P:A_}{w:U_}{K:PySem.W.Frag}{mg:r_->Option i_}{base:qab}
theorem t7 {br dY fK gC fj kj j0:h_}{fD dJ ee fV dP jd i8:F_}{p:Pm}(T:Txt K mg p w)(d8:Dm K "__init__" "Joining.__init__" cE VO br fD)(cF:Dn K mg "check_block_rows" iM Ou dY dJ)(ve:aF P w K mg base (rY P w) 4 dY dJ Ou (xG K p.aq p.aE))(bQ:Dn K mg "columns_of" lX l7 fK ee)(oU:aF P w K mg base cM 3 fK ee l7 (wu K))(b4:Dn K mg "costs_by_gaps" kO Xd gC fV)(rW:aF P w K mg base cM 4 gC fV Xd (Jk K p.aq))(bK:Dn K mg "signs_of" mO Pw fj dP)(m6:aF P w K mg base cM 1 fj dP Pw tM)(gU:Dn K mg "all_extras" oM Xa kj jd)(ER:aF P w K mg base cM 5 kj jd Xa (QE K p.aq))(gP:Dn K mg "join_rests" oF W8 j0 i8)(EK:aF P w K mg base cM 2 j0 i8 W8 Jg):aF P w K mg base (rY P w) 6 br fD VO (Jh K p.aq p.aM p.av p.aE):=by
 refine d8.fn.KO ku (λvs H Q E h=>?_) (λcdv A outer s H vs Q E hr h=>?_)
 ·obtain⟨jn,dx,x,o1,o2,sg,rows,fo,fm,r1,r2,rfl,_⟩:=h;rfl
 ·obtain⟨jn,dx,x,o1,o2,sg,rows,fo,fm,r1,r2,rfl,hj,hP0,Vd,hB2,G1,AZ,hb1,hb2,kq,ke⟩:=h;have hP:=hP0.Rn hj;have adn:=Vd.Rn hj;have adk:=hB2.Rn hj;obtain⟨d1,q1,PM,hq1⟩:=adn;obtain⟨d2,q2,ho2,hq2⟩:=adk;have hl1:=fM hb1;have hl2:=fM hb2;obtain⟨acL,hw1⟩:=cR.mp hl1;obtain⟨acK,Zk⟩:=cR.mp hl2;have ada:Ob (r1++r2):=⟨by rw[o_];have:=G1.1;have:=AZ.1;omega,λy hy=>(S_.mp hy).elim (λz=>G1.sm.row y z) λz=>AZ.sm.row y z⟩;refine⟨_,(aj (ck (az ve (hr.mono (by decide)) Y cF.m cF.fn.kp cF.b .nil (Lets.passes fG) (aa (pv 1) (aa (aL O5 (bz (pv 2) Y) (bz (pv 3) Y)) ah))))
   (aj (jo (pv 0) (gc oU hr bQ (aa (bz (pv 2) rfl) ah)) rfl)
   (aj (jo (pv 0) (gc oU hr bQ (aa (bz (pv 3) rfl) ah)) rfl)
   (aj (jo (pv 0) (aL DB (c8 (v:=.str (z_ "-")) rfl T.Gh ⟨_,rfl⟩) (aD (aU) rfl T.dm b3 (aa (bz (pv 2) rfl) ah))) rfl)
   (aj (jo (pv 0) (aL DB (c8 (v:=.str (z_ "-")) rfl T.Gh ⟨_,rfl⟩) (aD (aU) rfl T.dm b3 (aa (bz (pv 3) rfl) ah))) rfl)
   (aj (jo (pv 0) (gc rW hr b4 (aa (pv 1) (aa (bz (pv 0) rfl) (aa (aD (aU) rfl T.dm b3 (aa (bz (pv 3) rfl) ah)) ah)))) rfl)
   (aj (jo (pv 0) (gc rW hr b4 (aa (pv 1) (aa (bz (pv 0) rfl) (aa (aD (aU) rfl T.dm b3 (aa (bz (pv 2) rfl) ah)) ah)))) rfl)
   (aj (rD (i:=4) (N:=Px) ku.nd rfl (Or.inl rfl) rfl (λ_=>⟨[],cG.plain (by decide +kernel) rfl (by decide +kernel) (by decide +kernel)⟩) (kQ (bz (pv 0) rfl)) (λ_ _ _ _ _ _ _=>(aQ (i:=0) (show(Px:List r_).Nodup by decide +kernel) rfl (Or.inl rfl))) (λ_ _ _ _ _ _ _=>(gc m6 hr bK (aa (pv 0) ah))))
   (aj (rD (i:=5) (N:=Px) ku.nd rfl (Or.inl rfl) rfl (λ_=>⟨[],cG.plain (by decide +kernel) rfl (by decide +kernel) (by decide +kernel)⟩) (kQ (bz (pv 0) rfl)) (λ_ _ _ _ _ _ _=>(aQ (i:=0) (show(Px:List r_).Nodup by decide +kernel) rfl (Or.inl rfl))) (λ_ _ _ _ _ _ _=>(gc m6 hr bK (aa (pv 0) ah))))
   (aj (jo (pv 0) (gc ER hr gU (aa (pv 1) (aa (pv 4) (aa (pv 5) ah)))) rfl)
   (ak (jo (pv 0) (gc EK hr gP (aa (bz (pv 0) rfl) (aa (aD (aU) rfl T.dm b3 (aa (bz (pv 0) rfl) ah)) ah))) rfl)))))))))))),?_⟩
  refine⟨_,Y,_,Y,o1,_,d1,_,_,Y,Wo.sub _ _ PM,T.gf,T.bY,jL,_,Y,o2,_,d2,_,_,Y,Wo.sub _ _ ho2,T.gf,T.bY,jL,q1,q2,_,_,Y,Y,ai.tup Wo.sub hq1,ai.tup Wo.sub hq2,λz=>acL (List.map_eq_nil_iff.mp z),?_,λz=>absurd (List.map_eq_nil_iff.mp z) acK,λ_ pt hpt=>?_⟩
  ·rw[g_,g_];exact m_ (show _<=100 by have:=G1.1;have:=AZ.1;omega) (by decide)
  have s0:ai H (upd H pt (.tup (r1.map V.str++r2.map V.str))):=ai.upd hpt;refine⟨x,sg,rows,fo,fm,.ref pt,r1++r2,Y,hP0.same s0,⟨pt,Y,.inr (fq.of (by rw[af,N_]))⟩,ada,λhO H1 s1=>?_,λi j hB JN H1 s1 hd=>ke i j hB JN H1 (λa u ha _=>s1 _ _ (s0 _ _ ha)) hd⟩;have w1:ai (Wo jn H) (Wo jn H1):=Wo.same (s0.trans s1);have j1:=s1 _ _ (s0 _ _ hj);refine⟨_,Y,o1,_,d1,_,_,Y,Wo.sub _ _ (w1 _ _ PM),T.gf,T.bY,jL,.ref q1,r1,Y,⟨q1,Y,.inr (ai.tup (w1.trans Wo.sub) hq1)⟩,G1.sm,hl1,λl1 H2 s2 _ XR=>⟨_,Y,jn,_,dx,_,Y,s2 _ _ j1,T.aW,T.g8,by show 0<1000;decide,?_⟩⟩;have ni:∀{H:Hp} {C d:h_} {fs:List (r_×V)} {l:h_} {xs:List V},H jn=some (.ins C d fs)->H l=some (.lst xs)->l≠jn:=λh1 h2 z=>by rw[z,h1]at h2;cases h2
  have eW:Wo jn (upd H2 jn (.ins p.av dx (y1 l1)))=Wo jn H2:=Wo.set;have j2:(upd H2 jn (.ins p.av dx (y1 l1))) jn=some (.ins p.av dx (y1 l1)):=af;generalize upd H2 jn (.ins p.av dx (y1 l1))=H3 at eW j2 ⊢;have w2:ai (Wo jn H) (Wo jn H3):=by rw[eW];exact w1.trans (Wo.same s2)
  have a1:Wo jn H3 l1=some (.lst ((cols r1 (dw r1)).map V.str)):=by rw[eW];exact Wo.in (ni (s2 _ _ j1) XR) XR
  clear eW;refine⟨_,Y,o2,_,d2,_,_,Y,Wo.sub _ _ (w2 _ _ ho2),T.gf,T.bY,jL,.ref q2,r2,Y,⟨q2,Y,.inr (ai.tup (w2.trans Wo.sub) hq2)⟩,AZ.sm,hl2,λl2 H4 s4 _ XO=>⟨_,Y,jn,_,dx,_,Y,s4 _ _ j2,T.aW,T.dX,t_ (aB (T_ 0)) (by decide),?_⟩⟩;have w3:ai (Wo jn H) (Wo jn (upd H4 jn (.ins p.av dx (y2 l1 l2)))):=by rw[Wo.set];exact w2.trans (Wo.same s4)
  have j3:(upd H4 jn (.ins p.av dx (y2 l1 l2))) jn=some (.ins p.av dx (y2 l1 l2)):=af;have b1:Wo jn (upd H4 jn (.ins p.av dx (y2 l1 l2))) l2=some (.lst ((cols r2 (dw r2)).map V.str)):=by rw[Wo.set];exact Wo.in (ni (s4 _ _ j2) XO) XO
  have a1':Wo jn (upd H4 jn (.ins p.av dx (y2 l1 l2))) l1=some (.lst ((cols r1 (dw r1)).map V.str)):=by rw[Wo.set];exact Wo.same s4 _ _ a1
  generalize upd H4 jn (.ins p.av dx (y2 l1 l2))=H5 at w3 j3 b1 a1' ⊢;refine⟨_,Y,o1,_,d1,_,_,Y,Wo.sub _ _ (w3 _ _ PM),T.gf,T.bY,jL,_,_,Y,.inr ⟨_,ai.tup (w3.trans Wo.sub) hq1,Y⟩,_,_,Y,Y,?_,?_,by decide,?_,_,Y,jn,_,dx,_,Y,j3,T.aW,T.kW,t_ (aB (aB (T_ 0))) (by decide),?_⟩
  ·rw[g_];have:=G1.1;omega
  ·rw[g_];have:=G1.1;omega
  ·rw[g_];show((r1.length:Nat):Int).toNat*1<=x_;exact m_ (show _<=1000 by have:=G1.1;omega) (by decide)
  rw[g_,FH];have w4:ai (Wo jn H) (Wo jn (upd H5 jn (.ins p.av dx (y3 l1 l2 (aR r1.length))))):=by rw[Wo.set];exact w3
  have j4:(upd H5 jn (.ins p.av dx (y3 l1 l2 (aR r1.length)))) jn=some (.ins p.av dx (y3 l1 l2 (aR r1.length))):=af;have Yx:Wo jn (upd H5 jn (.ins p.av dx (y3 l1 l2 (aR r1.length)))) l1=some (.lst ((cols r1 (dw r1)).map V.str)):=by rw[Wo.set];exact a1'
  have b1':Wo jn (upd H5 jn (.ins p.av dx (y3 l1 l2 (aR r1.length)))) l2=some (.lst ((cols r2 (dw r2)).map V.str)):=by rw[Wo.set];exact b1
  generalize upd H5 jn (.ins p.av dx (y3 l1 l2 (aR r1.length)))=H6 at w4 j4 Yx b1' ⊢;refine⟨_,Y,o2,_,d2,_,_,Y,Wo.sub _ _ (w4 _ _ ho2),T.gf,T.bY,jL,_,_,Y,.inr ⟨_,ai.tup (w4.trans Wo.sub) hq2,Y⟩,_,_,Y,Y,?_,?_,by decide,?_,_,Y,jn,_,dx,_,Y,j4,T.aW,T.jC,t_ (aB (aB (aB (T_ 0)))) (by decide),?_⟩
  ·rw[g_];have:=AZ.1;omega
  ·rw[g_];have:=AZ.1;omega
  ·rw[g_];show((r2.length:Nat):Int).toNat*1<=x_;exact m_ (show _<=1000 by have:=AZ.1;omega) (by decide)
  rw[g_,FH];have w5:ai (Wo jn H) (Wo jn (upd H6 jn (.ins p.av dx (y4 l1 l2 (aR r1.length) (aR r2.length))))):=by rw[Wo.set];exact w4
  have j5:(upd H6 jn (.ins p.av dx (y4 l1 l2 (aR r1.length) (aR r2.length)))) jn=some (.ins p.av dx (y4 l1 l2 (aR r1.length) (aR r2.length))):=af;have Rc:Wo jn (upd H6 jn (.ins p.av dx (y4 l1 l2 (aR r1.length) (aR r2.length)))) l1=some (.lst ((cols r1 (dw r1)).map V.str)):=by rw[Wo.set];exact Yx
  have Yu:Wo jn (upd H6 jn (.ins p.av dx (y4 l1 l2 (aR r1.length) (aR r2.length)))) l2=some (.lst ((cols r2 (dw r2)).map V.str)):=by rw[Wo.set];exact b1'
  generalize upd H6 jn (.ins p.av dx (y4 l1 l2 (aR r1.length) (aR r2.length)))=H7 at w5 j5 Rc Yu ⊢;have cA:=p9 hb1 λr hr=>hO r (qaG _ hr);have cB:=p9 hb2 λr hr=>hO r (X_ _ hr);have zA:∀c∈(cols r1 (dw r1)),c.cps.size<=1000:=λc hc=>by rw[cA.size c hc];have:=G1.1;omega
  have zB:∀c∈(cols r2 (dw r2)),c.cps.size<=1000:=λc hc=>by rw[cB.size c hc];have:=AZ.1;omega
  have nA:(cols r1 (dw r1)).length<=1000:=by rw[dW];have:=G1.dw hl1;omega
  have nB:(cols r2 (dw r2)).length<=1000:=by rw[dW];have:=AZ.dw hl2;omega
  have a5:=Rc;have b5:=Yu;refine⟨_,Y,_,Y,jn,_,dx,_,_,Y,j5,T.aW,T.g8,(qk (qk (qk K9 (by decide +kernel)) (by decide +kernel)) (by decide +kernel)),_,Y,o2,_,d2,_,_,Y,Wo.sub _ _ (w5 _ _ ho2),T.gf,T.bY,jL,_,_,Y,.inr ⟨_,ai.tup (w5.trans Wo.sub) hq2,Y⟩,x,l1,sg,rows,fo,fm,(cols r1 (dw r1)),r2.length,(by rw[g_];rfl),(hP.same w5).same Wo.sub,Wo.sub _ _ a5,nA,zA,(by have:=AZ.1;omega),λla H8 s8 _ hla=>⟨_,Y,jn,_,dx,_,Y,s8 _ _ j5,T.aW,T.Ab,t_ (aB (aB (aB (aB (T_ 0))))) (by decide),?_⟩⟩;have eW:Wo jn (upd H8 jn (.ins p.av dx (y5 l1 l2 (aR r1.length) (aR r2.length) la)))=Wo jn H8:=Wo.set;have j6:(upd H8 jn (.ins p.av dx (y5 l1 l2 (aR r1.length) (aR r2.length) la))) jn=some (.ins p.av dx (y5 l1 l2 (aR r1.length) (aR r2.length) la)):=af;generalize upd H8 jn (.ins p.av dx (y5 l1 l2 (aR r1.length) (aR r2.length) la))=H9 at eW j6 ⊢;have w6:ai (Wo jn H) (Wo jn H9):=by rw[eW];exact w5.trans (Wo.same s8)
  have a6:Wo jn H9 l1=some (.lst ((cols r1 (dw r1)).map V.str)):=by rw[eW];exact Wo.same s8 _ _ a5
  have b6:Wo jn H9 l2=some (.lst ((cols r2 (dw r2)).map V.str)):=by rw[eW];exact Wo.same s8 _ _ b5
  have ga6:Wo jn H9 la=some (.lst ((cols r1 (dw r1)).map λc=>V.int (Nx (t8 rows fo fm) c r2.length))):=by rw[eW];exact Wo.in (ni (s8 _ _ j5) hla) hla
  clear eW;refine⟨_,Y,_,Y,jn,_,dx,_,_,Y,j6,T.aW,T.dX,(qk (qk (qk K9 (by decide +kernel)) (by decide +kernel)) (by decide +kernel)),_,Y,o1,_,d1,_,_,Y,Wo.sub _ _ (w6 _ _ PM),T.gf,T.bY,jL,_,_,Y,.inr ⟨_,ai.tup (w6.trans Wo.sub) hq1,Y⟩,x,l2,sg,rows,fo,fm,(cols r2 (dw r2)),r1.length,(by rw[g_];rfl),(hP.same w6).same Wo.sub,Wo.sub _ _ b6,nB,zB,(by have:=G1.1;omega),λlb C7 zC _ hlb=>⟨_,Y,jn,_,dx,_,Y,zC _ _ j6,T.aW,T.Aa,t_ (aB (aB (aB (aB (aB (T_ 0)))))) (by decide),?_⟩⟩;have eW:Wo jn (upd C7 jn (.ins p.av dx (y6 l1 l2 (aR r1.length) (aR r2.length) la lb)))=Wo jn C7:=Wo.set;have j7:(upd C7 jn (.ins p.av dx (y6 l1 l2 (aR r1.length) (aR r2.length) la lb))) jn=some (.ins p.av dx (y6 l1 l2 (aR r1.length) (aR r2.length) la lb)):=af;generalize upd C7 jn (.ins p.av dx (y6 l1 l2 (aR r1.length) (aR r2.length) la lb))=Og at eW j7 ⊢;have w7:ai (Wo jn H) (Wo jn Og):=by rw[eW];exact w6.trans (Wo.same zC)
  have a7:Wo jn Og l1=some (.lst ((cols r1 (dw r1)).map V.str)):=by rw[eW];exact Wo.same zC _ _ a6
  have b7:Wo jn Og l2=some (.lst ((cols r2 (dw r2)).map V.str)):=by rw[eW];exact Wo.same zC _ _ b6
  have ga7:Wo jn Og la=some (.lst ((cols r1 (dw r1)).map λc=>V.int (Nx (t8 rows fo fm) c r2.length))):=by rw[eW];exact Wo.same zC _ _ ga6
  have gb7:Wo jn Og lb=some (.lst ((cols r2 (dw r2)).map λc=>V.int (Nx (t8 rows fo fm) c r1.length))):=by rw[eW];exact Wo.in (ni (zC _ _ j6) hlb) hlb
  clear eW;refine⟨_,Y,jn,_,dx,_,_,Y,j7,T.aW,T.g8,(qk (qk (qk (qk (qk K9 (by decide +kernel)) (by decide +kernel)) (by decide +kernel)) (by decide +kernel)) (by decide +kernel)),l1,Y,⟨_,bD.of (Wo.sub _ _ a7)⟩,λlo hlo=>?_⟩;refine m5 (cols r1 (dw r1)).length (λj=>V.str (bV 45 ((cols r1 (dw r1)).getD j ⟨#[]⟩))) hlo (t_ nA (by decide)) (λj YQ MC hj=>?_) (λYQ MC=>?_) (λj y YQ H5' R MC hj hy hR=>?_) λG3 s12 XG=>?_
  ·exact⟨_,_,bD.of (MC _ _ (Wo.sub _ _ a7)),by rw[n_,e_ hj];rfl⟩
  ·exact⟨_,bD.of (MC _ _ (Wo.sub _ _ a7)),by rw[g_];exact k_ _⟩
  ·obtain⟨rfl,hy⟩:=hy;have ey:=hy _ (bD.of (MC _ _ (Wo.sub _ _ a7)));rw[n_,e_ hj]at ey;cases ey;refine⟨Kp.uD,_,Y,_,Y,zA _ (Q_ hj),?_⟩;have z:=hR _ (ai.refl _);rw[cu (e_ hj)]at z;exact z
  rw[dD (cols r1 (dw r1)) λc=>V.str (bV 45 c)]at XG;refine⟨_,Y,jn,_,dx,_,_,Y,(s12 _ _ j7),T.aW,T.dX,(qk (qk (qk (qk K9 (by decide +kernel)) (by decide +kernel)) (by decide +kernel)) (by decide +kernel)),l2,Y,⟨_,bD.of (Wo.sub _ _ (Wo.same s12 _ _ b7))⟩,λlp hlp=>?_⟩;refine m5 (cols r2 (dw r2)).length (λj=>V.str (bV 45 ((cols r2 (dw r2)).getD j ⟨#[]⟩))) hlp (t_ nB (by decide)) (λj YQ MC hj=>?_) (λYQ MC=>?_) (λj y YQ H5' R MC hj hy hR=>?_) λVE Om XF=>?_
  ·exact⟨_,_,bD.of (MC _ _ (Wo.sub _ _ (Wo.same s12 _ _ b7))),by rw[n_,e_ hj];rfl⟩
  ·exact⟨_,bD.of (MC _ _ (Wo.sub _ _ (Wo.same s12 _ _ b7))),by rw[g_];exact k_ _⟩
  ·obtain⟨rfl,hy⟩:=hy;have ey:=hy _ (bD.of (MC _ _ (Wo.sub _ _ (Wo.same s12 _ _ b7))));rw[n_,e_ hj]at ey;cases ey;refine⟨Kp.uD,_,Y,_,Y,zB _ (Q_ hj),?_⟩;have z:=hR _ (ai.refl _);rw[cu (e_ hj)]at z;exact z
  rw[dD (cols r2 (dw r2)) λc=>V.str (bV 45 c)]at XF;have OS:=s12.trans Om;refine⟨_,Y,_,Y,_,Y,x,lo,lp,sg,rows,fo,fm,(cols r1 (dw r1)).map (bV 45),(cols r2 (dw r2)).map (bV 45),Y,(hP.same (w7.trans (Wo.same OS))).same Wo.sub,(by rw[Om _ _ XG,qam];rfl),by rw[g_];exact nA,λc hc=>?_,(by rw[XF,qam];rfl),by rw[g_];exact nB,λc hc=>?_,λle VD s15 _ hle=>?_⟩
  ·obtain⟨c',hc',rfl⟩:=O_.mp hc;exact⟨B7 (cA.of c' hc'),yY (zA c' hc')⟩
  ·obtain⟨c',hc',rfl⟩:=O_.mp hc;exact⟨B7 (cB.of c' hc'),yY (zB c' hc')⟩
  have Ol:=OS.trans s15;rw[g_,g_]at hle;have hE:=hle.congr (g:=yN (xM sg rows (bE fo.2 fm.2 rows)) (t8 rows fo fm) (cols r1 (dw r1)) (cols r2 (dw r2))) λi j hi hj=>by
   unfold yN;rw[xE hi,xE hj];rfl
  refine⟨_,Y,jn,_,dx,_,Y,Ol _ _ j7,T.aW,T.mR,t_ (aB (aB (aB (aB (aB (aB (T_ 0))))))) (by decide),?_⟩;have eW:Wo jn (upd VD jn (.ins p.av dx (y7 l1 l2 (aR r1.length) (aR r2.length) la lb le)))=Wo jn VD:=Wo.set;have j8:(upd VD jn (.ins p.av dx (y7 l1 l2 (aR r1.length) (aR r2.length) la lb le))) jn=some (.ins p.av dx (y7 l1 l2 (aR r1.length) (aR r2.length) la lb le)):=af;generalize upd VD jn (.ins p.av dx (y7 l1 l2 (aR r1.length) (aR r2.length) la lb le))=Rj at eW j8 ⊢;have w8:ai (Wo jn H) (Wo jn Rj):=by rw[eW];exact w7.trans (Wo.same Ol)
  have a8:Wo jn Rj l1=some (.lst ((cols r1 (dw r1)).map V.str)):=by rw[eW];exact Wo.same Ol _ _ a7
  have b8:Wo jn Rj l2=some (.lst ((cols r2 (dw r2)).map V.str)):=by rw[eW];exact Wo.same Ol _ _ b7
  have ga8:Wo jn Rj la=some (.lst ((cols r1 (dw r1)).map λc=>V.int (Nx (t8 rows fo fm) c r2.length))):=by rw[eW];exact Wo.same Ol _ _ ga7
  have gb8:Wo jn Rj lb=some (.lst ((cols r2 (dw r2)).map λc=>V.int (Nx (t8 rows fo fm) c r1.length))):=by rw[eW];exact Wo.same Ol _ _ gb7
  have e8:tu (Wo jn Rj) le (cols r1 (dw r1)).length (cols r2 (dw r2)).length (yN (xM sg rows (bE fo.2 fm.2 rows)) (t8 rows fo fm) (cols r1 (dw r1)) (cols r2 (dw r2))):=by rw[eW];exact hE.Rn (Ol _ _ j7)
  clear eW;refine⟨_,Y,jn,_,dx,_,_,Y,j8,T.aW,T.mR,K9,_,Y,jn,_,dx,_,_,Y,j8,T.aW,T.dX,(qk (qk (qk (qk (qk K9 (by decide +kernel)) (by decide +kernel)) (by decide +kernel)) (by decide +kernel)) (by decide +kernel)),_,_,Y,.inl ⟨_,bD.of (Wo.sub _ _ b8),Y⟩,le,(cols r1 (dw r1)).length,(cols r2 (dw r2)).length,yN (xM sg rows (bE fo.2 fm.2 rows)) (t8 rows fo fm) (cols r1 (dw r1)) (cols r2 (dw r2)),(by rw[g_];rfl),e8.same Wo.sub,nA,nB,λlr Qv s18 _ hlr=>⟨_,Y,jn,_,dx,_,Y,s18 _ _ j8,T.aW,T.nZ,t_ (aB (aB (aB (aB (aB (aB (aB (T_ 0)))))))) (by decide),?_⟩⟩;have VI:=Wo.same (t:=jn) s18;refine kq hO _ (λa u ha hne=>?_) ⟨dx,l1,l2,la,lb,le,lr,af,(VI.trans Wo.upd) _ _ a8,(VI.trans Wo.upd) _ _ b8,(VI.trans Wo.upd) _ _ ga8,(VI.trans Wo.upd) _ _ gb8,e8.same (VI.trans Wo.upd),(hlr.Rn (s18 _ _ j8)).same Wo.upd⟩;rw[au hne];exact Wo.sub _ _ (VI _ _ (w8 _ _ (Wo.in hne ha)))
end
section
variable{P:A_}{w:U_}{K:PySem.W.Frag}{mg:r_->Option i_}{base:qab}
theorem Bq {j9:h_}{i9:F_}{p:Pm}(T:Txt K mg p w)(gQ:Dn K mg "first_move" oG W7 j9 i9)  :aF P w K mg base cM 1 j9 i9 W7 (Mv K p.av):=by
 refine gQ.fn.ok qg (λvs H Q E h=>?_) (λcdv A outer s H vs Q E hr h=>?_)
 ·obtain⟨jn,A,B,n1,n2,pc,mo,i,j,rfl,_⟩:=h;rfl
 ·obtain⟨jn,A,B,n1,n2,pc,mo,i,j,rfl,⟨dx,l1,l2,la,lb,le,lr,h1,h2,h3,_,_,h6,h7⟩,nA,nB,hi,hj,k⟩:=h;obtain⟨L,g1,g2,g3⟩:=h7.at_;obtain⟨M,f1,f2,f3⟩:=h6.at_;have eA:(A.map V.str).length=A.length:=g_ ..;have eB:(B.map V.str).length=B.length:=g_ ..;unfold G0 at k;refine⟨_,(aj (cL (bx pC (pv 1) (aD (aU) Y T.dm b3 (aa (bz (pv 0) Y) ah)) (bX _)) (ak (aN c9)) aY)
   (aj (Z9X 3 qg.nd (aT bf (aT bf (bz (pv 0) rfl) (pv 1) (λ_ _=>rfl)) (pv 2) (λ_ _=>rfl)))
   (aj (Z9X 4 qg.nd (aT bf (bz (pv 0) rfl) (aL gj (pv 1) ao) (λ_ _=>rfl)))
   (aj (cL (PW.pt (zG (bx FU (pv 2) (aD (aU) rfl T.dm b3 (aa (bz (pv 0) rfl) ah)) (bX _)) (yH (bx pC (aL gj (aT bf (aT bf (bz (pv 0) rfl) (pv 1) (λ_ _=>rfl)) (pv 2) (λ_ _=>rfl)) (aT bf (pv 4) (aL gj (pv 2) ao) (λ_ _=>rfl))) (pv 3) (bX _))))) (ak (aN c9)) aY)
   (ak (aN (zJ (bx pC (aT bf (pv 4) (pv 2) (λ_ _=>rfl)) (pv 3) (bX _)) c9 c9))))))),?_⟩
  refine⟨_,Y,_,Y,jn,_,dx,_,_,Y,h1,T.aW,T.g8,DX,_,_,Y,.inl ⟨_,bD.of h2,Y⟩,Y,_,Y,?_⟩;rw[P9,eA];refine gG (λe=>?_) (λe=>?_)
  ·rw[if_pos (by omega)]at k;exact k
  rw[if_neg (by omega)]at k;have hi':i<A.length:=by omega
  obtain⟨r,a1,a2⟩:=g3 i (by omega);obtain⟨r',b1,b2⟩:=g3 (i+1) (by omega);refine⟨_,Y,jn,_,dx,_,_,Y,h1,T.aW,T.nZ,Gd,_,Y,lr,_,_,.ref r,Y,Y,bD.of g1,bM a1,_,Y,r,_,_,.int (iY (yN pc mo A B) A.length B.length i j),Y,Y,bD.of a2,bM (iZ (by omega)),?_⟩;refine⟨_,Y,jn,_,dx,_,_,Y,h1,T.aW,T.nZ,Gd,_,Y,_,_,Y,Y,lr,_,_,.ref r',Y,Y,bD.of g1,bM b1,?_⟩;refine⟨_,Y,_,Y,jn,_,dx,_,_,Y,h1,T.aW,T.dX,wY,_,_,Y,.inl ⟨_,bD.of h3,Y⟩,_,_,Y,Y,_,Y,?_⟩;rw[eB];by_cases hjl:j<B.length
  ·rw[decide_eq_true (show(j:Int)<(B.length:Int) by omega)];obtain⟨q,c1,c2⟩:=f3 i hi';refine pG ⟨_,Y,jn,_,dx,_,_,Y,h1,T.aW,T.mR,Lf,_,Y,le,_,_,.ref q,Y,Y,bD.of f1,bM c1,_,Y,q,_,_,.int (yN pc mo A B i j),Y,Y,bD.of c2,bM (iZ hjl),_,Y,_,Y,_,_,Y,Y,r',_,_,.int (iY (yN pc mo A B) A.length B.length (i+1) (j+1)),Y,Y,bD.of b2,bM (j:=j+1) (iZ (by omega)),_,_,Y,Y,_,Y,Y,_,Y,?_⟩;rw[P9];refine gG (λe2=>?_) (λe2=>?_)
   ·rw[if_pos ⟨hjl,e2⟩]at k;exact k
   ·rw[if_neg λz=>e2 z.2]at k;refine⟨_,Y,_,Y,r',_,_,.int (iY (yN pc mo A B) A.length B.length (i+1) j),Y,Y,bD.of b2,bM (iZ (by omega)),_,Y,Y,_,Y,?_⟩;rw[P9];refine gG (λe3=>?_) (λe3=>?_)
    ·rw[if_pos e3]at k;exact k
    ·rw[if_neg e3]at k;exact k
  ·rw[decide_eq_false (show ¬(j:Int)<(B.length:Int) by omega)];rw[if_neg λz=>hjl z.1]at k;refine jN (jN ⟨_,Y,_,Y,r',_,_,.int (iY (yN pc mo A B) A.length B.length (i+1) j),Y,Y,bD.of b2,bM (iZ (by omega)),_,Y,Y,_,Y,?_⟩);rw[P9];refine gG (λe3=>?_) (λe3=>?_)
   ·rw[if_pos e3]at k;exact k
   ·rw[if_neg e3]at k;exact k
theorem zW {jk j9 dG:h_}{ir i9 cV:F_}{p:Pm}(T:Txt K mg p w)(fQ:Dn K mg "first_moves" nE Oq jk ir)(gQ:Dn K mg "first_move" oG W7 j9 i9)(EL:aF P w K mg base cM 1 j9 i9 W7 (Mv K p.av))(bT:Dn K mg "place_behind" jx UM dG cV)(pM:aF P w K mg base cM 1 dG cV UM (zo K)):aF P w K mg base cM 2 jk ir Oq (Jl K p.av):=by
 refine fQ.fn.ok jv (λvs H Q E h=>?_) (λcdv A outer s H vs Q E hr h=>?_)
 ·obtain⟨jn,A,B,n1,n2,pc,mo,rfl,_⟩:=h;rfl
 ·obtain⟨jn,A,B,n1,n2,pc,mo,rfl,hJ,nA,nB,k⟩:=h;have eA:(A.map V.str).length=A.length:=g_ ..;have eB:(B.map V.str).length=B.length:=g_ ..;refine⟨_,(aj (Z9X 1 jv.nd (dB (aa ao (aa ao ah))))
   (aj (Z9X 2 jv.nd (dU ah))
   (aj (vA qao (bx (HL (qbg (oh hr))) (pv 1) (dB (aa (aD (aU) rfl T.dm b3 (aa (bz (pv 0) rfl) ah)) (aa (aD (aU) rfl T.dm b3 (aa (bz (pv 0) rfl) ah)) ah))) (bX _)) (aj (Z9X 3 jv.nd (gc EL hr gQ (aa (pv 0) (aa (aT cS (pv 1) ao (λ_ _=>rfl)) (aa (aT cS (pv 1) ao (λ_ _=>rfl)) ah)))))
   (aj (ck (mK PySem.F.plainAttrs_list PySem.F.slot_list_append PySem.F.type_list_append gm (pv 2) (aa (pv 3) ah)))
   (ak (Z9X 1 jv.nd (gc pM hr bT (aa (pv 1) (aa (pv 3) ah))))))))
   (ak (aN (pv 2)))))),?_⟩
  refine⟨c_,λq0 QW=>⟨a_,λl hl=>?_⟩⟩;have s0:=(ai.upd (o:=.tup [.int 0,.int 0]) QW).trans (ai.upd (o:=.lst []) hl);have nq:q0≠l:=λz=>by rw[←z,af]at hl;cases hl
  have Ox:H l=none:=ai.free (ai.upd QW) hl;refine⟨λm σ H2=>EW λ(q:h_) (v3:Option V) (cs:List Nat) (i j:Nat)=>σ=[some (.ref jn),some (.ref q),some (.ref l),v3]/\ai H H2/\H2 l=some (.lst (cs.map sg))/\TupAt H2 q ((i:Int),(j:Int))/\tF (yN pc mo A B) A.length B.length cs i j/\m=A.length+B.length-(i+j),⟨_,q0,_,[],0,0,Y,s0,af,?_,.nil,Y⟩,?_⟩
  ·show upd _ _ _ q0=_;rw[au nq];exact af
  rintro m σ H2 ⟨q,v3,cs,i,j,rfl,s2,h2,hq,hF,hm⟩;obtain⟨hi,hj,hc⟩:=hF.path.in;obtain⟨dx,l1,l2,la,lb,le,lr,h1,h3,h4,_⟩:=hJ.same s2;refine⟨_,Y,_,Y,jn,_,dx,_,_,Y,h1,T.aW,T.g8,DX,_,_,Y,.inl ⟨_,bD.of h3,Y⟩,_,Y,jn,_,dx,_,_,Y,h1,T.aW,T.dX,wY,_,_,Y,.inl ⟨_,bD.of h4,Y⟩,c_,λqt hqt=>?_⟩;have s3:=s2.trans (ai.upd (o:=.tup [.int (((A.map V.str).length:Nat):Int),.int (((B.map V.str).length:Nat):Int)]) hqt);have h2':=ai.upd (o:=.tup [.int (((A.map V.str).length:Nat):Int),.int (((B.map V.str).length:Nat):Int)]) hqt _ _ h2;have hq':TupAt (upd H2 qt (.tup [.int (((A.map V.str).length:Nat):Int),.int (((B.map V.str).length:Nat):Int)])) q ((i:Int),(j:Int)):=ai.upd hqt _ _ hq;refine⟨q,qt,_,_,Y,Y,hq'.fr,fq.of af,Y,Y,_,Y,?_⟩;generalize upd H2 qt (.tup [.int (((A.map V.str).length:Nat):Int),.int (((B.map V.str).length:Nat):Int)])=H3 at s3 h2' hq' ⊢;rw[Ma,eA,eB];by_cases he:i=A.length/\j=B.length
  ·rw[decide_eq_true (show(i:Int)=(A.length:Int)/\(j:Int)=(B.length:Int) by omega)];obtain⟨rfl,rfl⟩:=he;exact p8 ⟨_,Y,k l H3 cs s3 Ox h2' hF⟩
  ·rw[decide_eq_false (show ¬((i:Int)=(A.length:Int)/\(j:Int)=(B.length:Int)) by omega)];obtain⟨i',j',hm',hres⟩:=UB (E:=yN pc mo A B) hi hj he;obtain⟨e1,e2,e3⟩:=hm'.in hi hj;refine xQ ⟨λσ' H'=>oS λ(q:h_) (v3:Option V) (cs:List Nat)=>σ'=[some (.ref jn),some (.ref q),some (.ref l),v3]/\ai H H'/\H' l=some (.lst (cs.map sg))/\TupAt H' q ((i':Int),(j':Int))/\tF (yN pc mo A B) A.length B.length cs i' j',λσ' H' h=>?_,?_⟩
   ·obtain⟨q,v3,cs,rfl,a,b,c,d⟩:=h;exact⟨A.length+B.length-(i'+j'),by omega,q,v3,cs,i',j',Y,a,b,c,d,Y⟩
   refine⟨_,Y,_,Y,q,_,_,_,Y,Y,hq'.fr,Y,_,Y,q,_,_,_,Y,Y,hq'.fr,Y,jn,A,B,n1,n2,pc,mo,i,j,Y,hJ.same s3,nA,nB,hi,hj,?_⟩;refine⟨_,Y,.inl ⟨Y,_,bD.of h2'⟩,_,Y,l,_,_,Y,Y,h2',?_,?_⟩
   ·rw[g_];exact t_ (show cs.length<=1000 by omega) (by decide)
   have hq2:=hq'.off (o:=.lst (cs.map sg++[V.str ⟨#[G0 (yN pc mo A B) A.length B.length i j]⟩])) h2';have yM:upd H3 l (.lst (cs.map sg++[V.str ⟨#[G0 (yN pc mo A B) A.length B.length i j]⟩])) l=some (.lst ((cs++[G0 (yN pc mo A B) A.length B.length i j]).map sg)):=by
    rw[af,N_];rfl
   have s4:ai H (upd H3 l (.lst (cs.map sg++[V.str ⟨#[G0 (yN pc mo A B) A.length B.length i j]⟩]))):=ai.at s3 Ox;generalize upd H3 l (.lst (cs.map sg++[V.str ⟨#[G0 (yN pc mo A B) A.length B.length i j]⟩]))=H4 at hq2 yM s4 ⊢;refine⟨_,Y,_,Y,q,_,_,Y,hq2.fr,UA,λr hr=>?_⟩;rw[hm'.stp];exact⟨r,_,_,Y,s4.trans (ai.upd hr),ai.upd hr _ _ yM,af,hF.snoc hm' hres⟩
end
section
variable{P:A_}{w:U_}{K:PySem.W.Frag}{mg:r_->Option i_}{base:qab}
theorem yd {iA dG:h_}{gv cV:F_}{p:Pm}(T:Txt K mg p w)(eL:Dn K mg "laid_columns" lU W6 iA gv)(bT:Dn K mg "place_behind" jx UM dG cV)(pM:aF P w K mg base cM 1 dG cV UM (zo K)):aF P w K mg base cM 2 iA gv W6 (Jf K):=by
 refine eL.fn.ok dN (λvs H Q E h=>?_) (λcdv A outer s H vs Q E hr h=>?_)
 ·obtain⟨l1,l2,lm,A,B,g1,g2,cs,i,j,rfl,_⟩:=h;rfl
 ·obtain⟨l1,l2,lm,A,B,g1,g2,cs,ie,je,rfl,h1,h2,hm,nA,nB,zA,zB,z1,z2,hp,k⟩:=h;obtain⟨pi1,pj1,hpat⟩:=hp.at_;have hcl:=hp.in.2.2;obtain⟨pi2,pj2,_⟩:=hp.in;refine⟨_,(aj (Z9X 5 dN.nd (dU ah))
   (aj (Z9X 6 dN.nd (dB (aa ao (aa ao ah))))
   (aj (fZ qao rfl (kQ (pv 4)) (Z9Y 7 dN.nd) (aj (Z9X 8 dN.nd (Jx (c8 (v:=.ref p.ko) rfl T.D8 rfl) (pv 7) (λ_ _=>rfl)))
   (bu (Z9X 9 dN.nd (zJ (bx pC (aT cS (pv 8) ao (λ_ _=>rfl)) ao (bX _)) (aT bf (pv 0) (aT cS (pv 6) ao (λ_ _=>rfl)) (λ_ _=>rfl)) (pv 2)))
   (bu (Z9X 10 dN.nd (zJ (bx pC (aT cS (pv 8) ao (λ_ _=>rfl)) ao (bX _)) (aT bf (pv 1) (aT cS (pv 6) ao (λ_ _=>rfl)) (λ_ _=>rfl)) (pv 3)))
   (aj (ck (mK PySem.F.plainAttrs_list PySem.F.slot_list_append PySem.F.type_list_append gm (pv 5) (aa (aL kU (pv 9) (pv 10)) ah)))
   (ak (Z9X 6 dN.nd (gc pM hr bT (aa (pv 6) (aa (pv 7) ah))))))))))
   (ak (aN (pv 5)))))),?_⟩
  refine⟨a_,λl hl=>?_⟩;refine⟨c_,λq0 QW=>?_⟩;have s1:ai H (upd (upd H l (.lst [])) q0 (.tup [.int 0,.int 0])):=(ai.upd hl).trans (ai.upd QW);have nq:l≠q0:=λz=>by rw[←z,af]at QW;cases QW
  refine⟨_,Y,lm,Y,⟨_,bD.of (s1 _ _ hm)⟩,qR (K:=K) (a:=lm) (xs:=cs.map sg) (λi σ H2=>EW λ(q:h_) (v7 v8 v9 v10:Option V)=>σ=[some (.ref l1),some (.ref l2),some (.str g1),some (.str g2),some (.ref lm),some (.ref l),some (.ref q),v7,v8,v9,v10]/\H2 l=some (.lst ((vg A B g1 g2 cs i).map V.str))/\TupAt H2 q ((pI cs i:Int),(pJ cs i:Int))/\ai H H2)
   ⟨q0,_,_,_,_,rfl,by rw[au nq];exact af,af,s1⟩ (λi σ H2 _ hh=>?_) ?_ ?_⟩
  ·obtain⟨_,_,_,_,_,_,_,_,s2⟩:=hh;exact bD.of (s2 _ _ hm)
  ·rintro i y σ H2 hy ⟨q,v7,v8,v9,v10,rfl,hl2,tq,s2⟩;obtain⟨c,hc,rfl⟩:=sN hy;have hi:i<cs.length:=(p_.mp hc).1;obtain⟨c',hc',XD⟩:=hpat i hi;rw[hc]at hc';cases hc';have acz:=XD.stp;have hmo:=XD.ok;obtain⟨v,st,hv,hst,ha,hb⟩:dI λ(v:h_) (st:cJ)=>iL [(Sum.inr (z_ "p"),V.ref p.iX),(Sum.inr (z_ "a"),V.ref p.iW),(Sum.inr (z_ "b"),V.ref p.iV)] (Sum.inr ⟨#[c]⟩:Key)=some (.ref v)/\(∀H:Hp,fq K H v [.int st.1,.int st.2]) ∧
     ((st.1=1/\pI cs i<A.length/\c≠98)\/(st.1=0/\c=98))/\((st.2=1/\pJ cs i<B.length/\c≠97)\/(st.2=0/\c=97)):=by
    generalize pI cs (i+1)=i1 at XD;generalize pJ cs (i+1)=j1 at XD
    cases XD with
    |p hi hj=>exact⟨p.iX,(1,1),eE (show(Sum.inr (z_ "p"):Key)=Sum.inr ⟨#[112]⟩ by decide +kernel),T.FP,.inl ⟨Y,hi,by decide⟩,.inl ⟨Y,hj,by decide⟩⟩
    |a hi=>exact⟨p.iW,(1,0),(eF (show ¬(Sum.inr (z_ "p"):Key)=Sum.inr ⟨#[97]⟩ by decide +kernel)).trans (eE (show(Sum.inr (z_ "a"):Key)=Sum.inr ⟨#[97]⟩ by decide +kernel)),T.FO,.inl ⟨Y,hi,by decide⟩,.inr ⟨Y,Y⟩⟩
    |b hj=>exact⟨p.iV,(0,1),(eF (show ¬(Sum.inr (z_ "p"):Key)=Sum.inr ⟨#[98]⟩ by decide +kernel)).trans ((eF (show ¬(Sum.inr (z_ "a"):Key)=Sum.inr ⟨#[98]⟩ by decide +kernel)).trans (eE (show(Sum.inr (z_ "b"):Key)=Sum.inr ⟨#[98]⟩ by decide +kernel))),T.FN,.inr ⟨Y,Y⟩,.inl ⟨Y,hj,by decide⟩⟩
   refine⟨_,Y,p.ko,_,.inr ⟨#[c]⟩,_,Y,Y,T.Am P,hv,?_⟩
   obtain⟨L,hL⟩:∃L:r_,L=(if c=98 then g1 else A.getD (pI cs i) ⟨#[]⟩):=⟨_,rfl⟩
   obtain⟨R,hR⟩:∃R:r_,R=(if c=97 then g2 else B.getD (pJ cs i) ⟨#[]⟩):=⟨_,rfl⟩
   have zL:L.cps.size<=1000:=by
    rcases ha with⟨_,e2,e3⟩|⟨_,e3⟩
    ·rw[hL,if_neg e3];exact zA _ (getD_mem e2)
    ·rw[hL,if_pos e3];exact z1
   have zR:R.cps.size<=1000:=by
    rcases hb with⟨_,e2,e3⟩|⟨_,e3⟩
    ·rw[hR,if_neg e3];exact zB _ (getD_mem e2)
    ·rw[hR,if_pos e3];exact z2
   refine⟨λσ' H'=>H'=H2/\σ'=[some (.ref l1),some (.ref l2),some (.str g1),some (.str g2),some (.ref lm),some (.ref l),some (.ref q),some (.str ⟨#[c]⟩),some (.ref v),some (.str L),v10],?_,?_⟩
   ·refine⟨_,Y,v,_,_,_,Y,Y,hst _,Y,Y,_,Y,?_⟩;rcases ha with⟨e1,e2,e3⟩|⟨e1,e3⟩
    ·rw[e1,decide_eq_true rfl];refine pG ⟨_,Y,_,Y,q,_,_,_,Y,Y,tq.fr,Y,l1,_,_,.str L,Y,Y,bD.of (s2 _ _ h1),bM ?_,Y,Y⟩;rw[hL,if_neg e3,n_,e_ e2,cu (e_ e2)];rfl
    ·rw[e1,decide_eq_false (show ¬V.int 0=V.int 1 by decide)];refine jN ⟨_,Y,Y,?_⟩;rw[hL,if_pos e3];rfl
   rintro σ' H3 ⟨rfl,rfl⟩;refine⟨λσ' H'=>H'=H3/\σ'=[some (.ref l1),some (.ref l2),some (.str g1),some (.str g2),some (.ref lm),some (.ref l),some (.ref q),some (.str ⟨#[c]⟩),some (.ref v),some (.str L),some (.str R)],?_,?_⟩
   ·refine⟨_,Y,v,_,_,_,Y,Y,hst _,Y,Y,_,Y,?_⟩;rcases hb with⟨e1,e2,e3⟩|⟨e1,e3⟩
    ·rw[e1,decide_eq_true rfl];refine pG ⟨_,Y,_,Y,q,_,_,_,Y,Y,tq.fr,Y,l2,_,_,.str R,Y,Y,bD.of (s2 _ _ h2),bM ?_,Y,Y⟩;rw[hR,if_neg e3,n_,e_ e2,cu (e_ e2)];rfl
    ·rw[e1,decide_eq_false (show ¬V.int 0=V.int 1 by decide)];refine jN ⟨_,Y,Y,?_⟩;rw[hR,if_pos e3];rfl
   rintro σ' H4 ⟨rfl,rfl⟩;refine⟨_,Y,.inl ⟨Y,_,bD.of hl2⟩,_,Y,_,Y,_,_,Y,Y,m_ (Nat.add_le_add zL zR) (by decide),l,_,_,Y,Y,hl2,?_,?_⟩
   ·unfold vg;rw[g_,g_,qad];exact H_ (show i<1000 by omega) (by decide)
   have tq2:=tq.off (o:=.lst ((vg A B g1 g2 cs i).map V.str++[V.str (L++R)])) hl2;have hl3:upd H4 l (.lst ((vg A B g1 g2 cs i).map V.str++[V.str (L++R)])) l=some (.lst ((vg A B g1 g2 cs (i+1)).map V.str)):=by
    rw[af];unfold vg;rw[uH,N_,List.map_singleton,cu hc,hL,hR];rfl
   have s3:ai H (upd H4 l (.lst ((vg A B g1 g2 cs i).map V.str++[V.str (L++R)]))):=ai.at s2 hl;generalize upd H4 l (.lst ((vg A B g1 g2 cs i).map V.str++[V.str (L++R)]))=H5 at tq2 hl3 s3 ⊢;refine⟨_,Y,_,Y,q,c,_,Y,tq2.fr,hmo,λr hr=>?_⟩;rw[acz];exact⟨r,_,_,_,_,Y,ai.upd hr _ _ hl3,af,s3.trans (ai.upd hr)⟩
  ·rintro σ H2 ⟨q,v7,v8,v9,v10,rfl,hl2,tq,s2⟩;rw[g_]at hl2;exact⟨_,Y,k l H2 s2 hl hl2⟩
theorem ye {iB jk iA mj aH:h_}{gw ir gv jO aV:F_}{p:Pm}(T:Txt K mg p w)(eN:Dn K mg "joined_block" lV Oq iB gw)(fQ:Dn K mg "first_moves" nE Oq jk ir)(BS:aF P w K mg base cM 2 jk ir Oq (Jl K p.av))(eL:Dn K mg "laid_columns" lU W6 iA gv)(AR:aF P w K mg base cM 2 iA gv W6 (Jf K))(iF:Dn K mg "turned" sD UN mj jO)(AO:aF P w K mg base cM 2 mj jO UN (zb K))(aO:Dm K "__init__" "Block.__init__" bS LI aH aV)(gJ:Mk K p.aM aH)(cZ:aF P w K mg base cM 5 aH aV LI (nv (vq K p.aM p.bN))):aF P w K mg base cM 7 iB gw Oq (Ji K p.aM p.av):=by
 refine eN.fn.ok nY (λvs H Q E h=>?_) (λcdv A outer s H vs Q E hr h=>?_)
 ·obtain⟨jn,A,B,n1,n2,pc,mo,kn,rfl,_⟩:=h;rfl
 ·obtain⟨jn,A,B,n1,n2,pc,mo,kn,rfl,hJ,ok,k⟩:=h;refine⟨_,(aj (Z9X 1 nY.nd (gc BS hr fQ (aa (pv 0) ah)))
   (aj (Z9X 2 nY.nd (gc AR hr eL (aa (bz (pv 0) rfl) (aa (bz (pv 0) rfl) (aa (bz (pv 0) rfl) (aa (bz (pv 0) rfl) (aa (pv 1) ah)))))))
   (ak (aN (rE gJ cZ (hr.mono (by decide)) rfl T.qL aO.b .nil aP (aa (gc AO hr iF (aa (pv 2) (aa (aD (aU) rfl T.dm b3 (aa (aL kU (bz (pv 0) rfl) (bz (pv 0) rfl)) ah)) ah))) ah)))))),?_⟩
  have nA:=ok.la;have nB:=ok.lb;refine⟨_,Y,jn,A,B,n1,n2,pc,mo,Y,hJ,by omega,by omega,λlm H1 cs s1 _ hm hF=>?_⟩;obtain⟨dx,l1,l2,la,lb,le,lr,h1,h2,h3,_⟩:=hJ.same s1;have hin:=hF.path.in;have m1:=ok.s1;have m2:=ok.s2;refine⟨_,Y,jn,_,dx,_,_,Y,h1,T.aW,T.g8,DX,_,Y,jn,_,dx,_,_,Y,h1,T.aW,T.dX,wY,_,Y,jn,_,dx,_,_,Y,h1,T.aW,T.kW,xP,_,Y,jn,_,dx,_,_,Y,h1,T.aW,T.jC,uq,_,Y,l1,l2,lm,A,B,aR n1,aR n2,cs,A.length,B.length,Y,h2,h3,hm,by omega,by omega,λc hc=>by rw[ok.a.size c hc];omega,λc hc=>by rw[ok.b.size c hc];omega,by rw[gp];omega,by rw[gp];omega,hF.path,λlc H2 s2 _ hc=>?_⟩;have s12:=s1.trans s2;have A0:=s2 _ _ h1;have hC:=hF.path.cols ok.a ok.b ok.kn;have hz:(vg A B (aR n1) (aR n2) cs cs.length).length=cs.length:=by unfold vg;rw[g_,qad]
  have hp1:=ok.p1;obtain⟨X0,_⟩:=yW (by omega) hC;refine⟨_,Y,_,Y,jn,_,dx,_,_,Y,A0,T.aW,T.kW,xP,_,Y,jn,_,dx,_,_,Y,A0,T.aW,T.jC,uq,_,_,Y,Y,?_,_,_,Y,⟨?_,Y⟩,.ref lc,vg A B (aR n1) (aR n2) cs cs.length,n1+n2,?_,⟨lc,Y,.inl (bD.of hc)⟩,⟨by rw[hz];omega,λr hr=>by rw[hC.size r hr];omega⟩,by omega,λr hr=>qcn (hC.size r hr).symm,λlt H3 s3 _ ht=>?_⟩
  ·show(aR n1).cps.size+(aR n2).cps.size<=x_;rw[gp,gp];exact m_ (show _<=1000 by omega) (by decide)
  ·show(aR n1++aR n2).cps.size<=x_;rw[rm,gp,gp];exact m_ (show _<=1000 by omega) (by decide)
  ·show [V.ref lc,V.int (((aR n1++aR n2).cps.size:Nat):Int)]=_;rw[rm,gp,gp]
  refine λo JN ho hdx VM=>?_;have s7:ai H3 (upd (upd H3 JN (.own o)) o (.ins p.aM JN [])):=ai.at (ai.upd hdx) ho;refine⟨o,JN,_,_,Y,af,⟨lt,Y,.inl (bD.of (s7 _ _ ht))⟩,⟨by rw[dW];omega,λr hr=>?_⟩,λ_ H8 q1 q2=>?_,λz=>(by rw[X0]at z;cases z)⟩
  ·rw[←hz]at hin;obtain⟨j,_,rfl⟩:=O_.mp (show r∈(K_ (n1+n2)).map (lK (vg A B (aR n1) (aR n2) cs cs.length)) from hr);rw[show(lK (vg A B (aR n1) (aR n2) cs cs.length) j).cps.size=(vg A B (aR n1) (aR n2) cs cs.length).length from g_ ..];omega
  ·have g2:ai H3 H8:=λc u hc=>q1 _ _ (s7 _ _ hc) (λz=>by rw[z,ho]at hc;cases hc);exact⟨Y,k o H8 cs ((s12.trans s3).trans g2) (ai.free (s12.trans s3) ho) hF q2⟩
theorem KN {mq iB br:h_}{jV gw fD:F_}{p:Pm}(T:Txt K mg p w)(eO:Dn K mg "joined" sE LJ mq jV)(eN:Dn K mg "joined_block" lV Oq iB gw)(AS:aF P w K mg base cM 7 iB gw Oq (Ji K p.aM p.av))(d8:Dm K "__init__" "Joining.__init__" cE VO br fD)(xx:Mk K p.av br)(vf:aF P w K mg base cM 6 br fD VO (nv (Jh K p.aq p.aM p.av p.aE))):aF P w K mg base cM 8 mq jV LJ (zl K p.aq p.aM):=by
 refine eO.fn.ok Kw (λvs H Q E h=>?_) (λcdv A outer s H vs Q E hr h=>?_)
 ·obtain⟨x,o1,o2,sg,rows,fo,fm,r1,r2,rfl,_⟩:=h;rfl
 ·obtain⟨x,o1,o2,sg,rows,fo,fm,r1,r2,rfl,hP,Vd,hB2,G1,AZ,hb1,hb2,hO,k⟩:=h;refine⟨_,(ak (aN (gc AS hr eN (aa (rE xx vf (hr.mono (by decide)) Y T.Ie d8.b .nil aP (aa (pv 0) (aa (pv 1) (aa (pv 2) ah)))) ah)))),?_⟩;refine⟨_,Y,_,Y,_,Y,λjn dx hj hdx VM=>?_⟩;have s1:ai H (upd (upd H dx (.own jn)) jn (.ins p.av dx [])):=ai.at (ai.upd hdx) hj;refine⟨jn,dx,x,o1,o2,sg,rows,fo,fm,r1,r2,Y,af,hP.same s1,Vd.same s1,hB2.same s1,G1,AZ,hb1,hb2,λ_ H2 q1 q2=>?_,λi j hB=>absurd hO hB.no⟩;have s2:ai H H2:=λc u hc=>q1 _ _ (s1 _ _ hc) (λz=>by rw[z,hj]at hc;cases hc);have cA:=p9 hb1 λr hr=>hO r (qaG _ hr);have cB:=p9 hb2 λr hr=>hO r (X_ _ hr);have hp:0<r1.length:=qbJ.mpr (cR.mp (fM hb1)).1;refine⟨Y,jn,cols r1 (dw r1),cols r2 (dw r2),r1.length,r2.length,_,_,(La sg).cps.toList,Y,q2,⟨cA,cB,by rw[dW];exact G1.dw (fM hb1),by rw[dW];exact AZ.dw (fM hb2),G1.1,AZ.1,hp,yK.mpr (.inl Y)⟩,λb H3 cs s3 VX hF ac4=>?_⟩;rw[dW,dW]at hF;exact k b H3 cs (s2.trans s3) (s2.free VX) hF ac4
end
section
variable{P:A_}{w:U_}{K:PySem.W.Frag}{mg:r_->Option i_}{base:qab}
theorem MW {tU aH:h_}{qT aV:F_}{p:Pm}(T:Txt K mg p w)(qe:Dn K mg "alone" yG LK tU qT)(aO:Dm K "__init__" "Block.__init__" bS LI aH aV)(gJ:Mk K p.aM aH)(cZ:aF P w K mg base (rY P w) 5 aH aV LI (vq K p.aM p.bN)):aF P w K mg base (rY P w) 7 tU qT LK (Fy K p.aM p.bN):=by
 refine qe.fn.KO MB (λvs H Q E h=>?_) (λcdv A outer s H vs Q E hr h=>?_)
 ·obtain⟨x,rfl,_⟩:=h;rfl
 ·obtain⟨x,rfl,hx,k,kX⟩:=h;refine⟨_,(ak (aN (rE gJ cZ (hr.mono (by decide)) Y T.qL aO.b .nil (Lets.passes fG) (aa (dU (aa (pv 0) ah)) ah)))),?_⟩;refine⟨_,Y,b_,λl hl=>?_⟩;intro o dx ho hdx VM;have s1:ai H (upd H l (.lst [.str x])):=ai.upd hl;generalize hH1:upd H l (.lst [.str x])=H1 at s1 ho hdx;have hl1:H1 l=some (.lst [.str x]):=by rw[←hH1];exact af
  have s2:ai H1 (upd (upd H1 dx (.own o)) o (.ins p.aM dx [])):=ai.at (ai.upd hdx) ho;refine⟨o,dx,_,[x],Y,af,⟨l,Y,.inl (bD.of (s2 _ _ hl1))⟩,⟨by show 1<=100;decide,λr hr=>by rw[w_.mp hr];exact hx⟩,λe H' h1 h2=>⟨Y,k e o H' (λa u ha=>?_) (ai.free s1 ho) h2⟩,λe H' s3=>kX e H' ((s1.trans s2).trans s3)⟩;have ha1:=s1 _ _ ha;exact h1 _ _ (s2 _ _ ha1) (λz=>by rw[z,ho]at ha1;cases ha1)
end
section
variable{P:A_}{w:U_}{K:PySem.W.Frag}{mg:r_->Option i_}{base:qab}
theorem F1 {mZ:h_}{lA:F_}{p:Pm}(T:Txt K mg p w)(jI:Dn K mg "is_whole" rB Oo mZ lA)  :aF P w K mg base cM 1 mZ lA Oo Fo:=by
 refine jI.fn.ok FG (λvs H Q E h=>?_) (λcdv A outer s H vs Q E hr h=>?_)
 ·obtain⟨v,t,rfl,_⟩:=h;rfl
 ·obtain⟨v,t,rfl,ht,hp,k⟩:=h;refine⟨_,(ak (aN (HG (aD (jE) Y T.bW bJ (aa (pv 0) (aa (oN (v:=.ty "int") Y T.LU IF Y) ah))) (Dy (Uq (aD (jE) Y T.bW bJ (aa (pv 0) (aa (oN (v:=.ty "bool") Y T.Rm Qi Y) ah)))))))),?_⟩
  cases t with
  |num n =>
   obtain rfl:v= .int n:=ht;exact⟨_,Y,_,_,_,_,Y,.int n,qM,_,Y,pG ⟨_,Y,_,_,_,_,Y,.int n,DV,_,Y,k⟩⟩
  |pair l r=>cases hp
  |odd =>
   rcases(show GR H v from ht)with rfl|⟨s,rfl⟩|⟨q,ys,rfl,hq,_⟩|⟨q,ys,rfl,hq⟩
   ·exact⟨_,Y,_,_,_,_,Y,.gE,DT,_,Y,jN k⟩
   ·exact⟨_,Y,_,_,_,_,Y,.str s,Gb,_,Y,jN k⟩
   ·exact⟨_,Y,_,_,_,_,Y,.tup hq,uo,_,Y,jN k⟩
   ·exact⟨_,Y,_,_,_,_,Y,.lst hq,DU,_,Y,jN k⟩
theorem HP {o5:h_}{mU:F_}{p:Pm}(T:Txt K mg p w)(lI:Dn K mg "is_pair" tO Oo o5 mU)  :aF P w K mg base cM 1 o5 mU Oo Jd:=by
 refine lI.fn.ok Hx (λvs H Q E h=>?_) (λcdv A outer s H vs Q E hr h=>?_)
 ·obtain⟨v,t,rfl,_⟩:=h;rfl
 ·obtain⟨v,t,rfl,ht,k⟩:=h;refine⟨_,(ak (aN (HG (aD (jE) Y T.bW bJ (aa (pv 0) (aa (oN (v:=.ty "tuple") Y T.oj mz Y) ah))) (Dy (tR pC (aD (aU) Y T.dm b3 (aa (pv 0) ah)) ao (bX _)))))),?_⟩
  cases t with
  |num n =>
   obtain rfl:v= .int n:=ht;exact⟨_,Y,_,_,_,_,Y,.int n,qo,_,Y,jN k⟩
  |pair l r =>
   obtain⟨q,x,y,rfl,hq,_⟩:=(show oS λp x y=>v= .ref p/\H p=some (.tup [x,y])/\cQ H l x/\cQ H r y from ht);exact⟨_,Y,_,_,_,_,Y,.tup hq,qM,_,Y,pG ⟨_,Y,_,_,Y,.inr ⟨_,fq.of hq,Y⟩,Y,k⟩⟩
  |odd =>
   rcases(show GR H v from ht)with rfl|⟨s,rfl⟩|⟨q,ys,rfl,hq,hl⟩|⟨q,ys,rfl,hq⟩
   ·exact⟨_,Y,_,_,_,_,Y,.gE,Aj,_,Y,jN k⟩
   ·exact⟨_,Y,_,_,_,_,Y,.str s,By,_,Y,jN k⟩
   ·refine⟨_,Y,_,_,_,_,Y,.tup hq,qM,_,Y,pG ⟨_,Y,_,_,Y,.inr ⟨_,fq.of hq,Y⟩,Y,?_⟩⟩;rw[rH,show((ys.length:Int)==2)=false from beq_eq_false_iff_ne.mpr (λz=>hl (by omega))];exact k
   ·exact⟨_,Y,_,_,_,_,Y,.lst hq,Ak,_,Y,jN k⟩
theorem yh {iE mZ:h_}{gz lA:F_}{p:Pm}(T:Txt K mg p w)(eV:Dn K mg "check_number" lZ W5 iE gz)(jI:Dn K mg "is_whole" rB Oo mZ lA)(IQ:aF P w K mg base cM 1 mZ lA Oo Fo):aF P w K mg base (rY P w) 3 iE gz W5 (Mx p.aC):=by
 refine eV.fn.KO x6 (λvs H Q E h=>?_) (λcdv A outer s H vs Q E hr h=>?_)
 ·obtain⟨v,t,n,d,kvs,seen,rfl,_⟩:=h;rfl
 ·obtain⟨v,t,n,d,kvs,seen,rfl,ht,hp,hd,hS,k,kE⟩:=h;refine⟨_,(aj (cL (mP (gi (gc IQ hr jI (aa (pv 0) ah)))) (ak (nP fG T.tH Y Y T.oW (aa c9 ah))) aY)
   (aj (cL (mP (MK JA FU ao (pv 0) (pv 1))) (ak (nP fG T.tH rfl rfl T.oW (aa c9 ah))) aY)
   (ak (cL (bx (O4 (oh hr)) (pv 0) (pv 2) (by with_unfolding_all rfl)) (ak (nP fG T.tH rfl rfl T.oW (aa c9 ah))) aY)))),?_⟩
  cases hN:t.isN with
  |false =>
   refine⟨_,Y,v,t,Y,ht,hp,_,Y,?_⟩;rw[hN];exact xQ ⟨b_,kE λk e=>by rw[e]at hN;cases hN⟩
  |true =>
   obtain⟨k0,rfl⟩:∃k,t= .num k:=by
    cases t with
    |num k1=>exact⟨k1,Y⟩
    |pair l r=>cases hN
    |odd=>cases hN
   obtain rfl:v= .int k0:=ht;have L1:1<=x_:=by decide
   have no:¬(0<=k0/\k0<(n:Int)/\k0∉seen)->E (.ref p.aC) none H:=λz=>kE λk e h1 h2 h3=>by
    cases e;exact z ⟨h1,h2,h3⟩
   refine⟨_,Y,.int k0,.num k0,Y,Y,hp,_,Y,p8 ?_⟩;refine⟨_,Y,_,_,Y,Y,_,Y,gG (λh1=>?_) λh1=>⟨_,Y,xQ ⟨L1,no λz=>h1 z.1⟩⟩⟩;refine⟨_,Y,_,_,Y,Y,_,Y,?_⟩;by_cases h2:k0<(n:Int)
   ·rw[decide_eq_true h2];refine p8 ⟨_,Y,_,Y,d,_,Y,uc.k (k:=.inl k0) hd,_,Y,?_⟩;rw[hS.2];by_cases h3:k0∈seen
    ·rw[decide_eq_true h3];exact pG ⟨L1,no λz=>z.2.2 h3⟩
    ·rw[decide_eq_false h3];exact jN (k k0 Y h1 h2 h3)
   ·rw[decide_eq_false h2];exact xQ ⟨L1,no λz=>h2 z.2.1⟩
theorem Bl {jW o5 iE:h_}{i0 mU gz:F_}{p:Pm}(T:Txt K mg p w)(gK:Dn K mg "tree_order" oA W4 jW i0)(lI:Dn K mg "is_pair" tO Oo o5 mU)(LC:aF P w K mg base cM 1 o5 mU Oo Jd)(eV:Dn K mg "check_number" lZ W5 iE gz)(AX:aF P w K mg base (rY P w) 3 iE gz W5 (Mx p.aC)):aF P w K mg base (rY P w) 4 jW i0 W4 (Mn p.aC):=by
 refine gK.fn.KO kC (λvs H Q E h=>?_) (λcdv A outer s H vs Q E hr h=>?_)
 ·obtain⟨v,t,n,rfl,_⟩:=h;rfl
 ·obtain⟨v,t,n,rfl,ht,hn,hz,k,kE⟩:=h;refine⟨_,(aj (Z9X 2 kC.nd (dU ah))
   (aj (Z9X 3 kC.nd zK)
   (aj (Z9X 4 kC.nd (dU (aa (pv 0) ah)))
   (bu (vA iO (bx Co (aD (aU) rfl T.dm b3 (aa (pv 4) ah)) ao (bX _)) (aj (Z9X 5 kC.nd (wG PySem.F.plainAttrs_list PySem.F.slot_list_pop PySem.F.type_list_pop HY (pv 4)))
   (ak (cL (gi (gc LC hr lI (aa (pv 5) ah))) (aj (ck (mK PySem.F.plainAttrs_list PySem.F.slot_list_append PySem.F.type_list_append gm (pv 2) (aa Dz ah)))
   (ak (ck (mK PySem.F.plainAttrs_list PySem.F.slot_list_extend PySem.F.type_list_extend HZ (pv 4) (aa (pv 5) ah))))) (aj (ck (az AX (hr.mono (by decide)) rfl eV.m eV.fn.kp eV.b .nil (Lets.passes fG) (aa (pv 5) (aa (pv 1) (aa (pv 3) ah)))))
   (aj (yI (oh hr) (pv 3) (pv 5) vC rfl)
   (ak (ck (mK PySem.F.plainAttrs_list PySem.F.slot_list_append PySem.F.type_list_append gm (pv 2) (aa (pv 5) ah))))))))))
   (aj (cL (bx FU (aD (GA) rfl T.dm b3 (aa (pv 3) ah)) (pv 1) (bX _)) (ak (nP fG T.tH rfl rfl T.oW (aa c9 ah))) aY)
   (aj (ck (wG PySem.F.plainAttrs_list PySem.F.slot_list_reverse PySem.F.type_list_reverse uN (pv 2)))
   (ak (aN (pv 2))))))))),?_⟩
  refine⟨a_,λlo hlo=>λd hd=>⟨_,Y,b_,λlw VV=>?_⟩⟩;have s1:=((ai.upd (o:=.lst []) hlo).trans (ai.upd (o:=.dK []) hd)).trans (ai.upd (o:=.lst [v]) VV);have n1:lo≠d:=λz=>by rw[←z,af]at hd;cases hd
  have e0:upd (upd H lo (.lst [])) d (.dK []) lo=some (.lst []):=by rw[au n1,af]
  have n2:lo≠lw:=λz=>by rw[←z,e0]at VV;cases VV
  have n3:d≠lw:=λz=>by rw[←z,af]at VV;cases VV
  have fd:H d=none:=ai.free (ai.upd hlo) hd;have fw:H lw=none:=ai.free ((ai.upd (o:=.lst []) hlo).trans (ai.upd (o:=.dK []) hd)) VV;have e1:upd (upd (upd H lo (.lst [])) d (.dK [])) lw (.lst [v]) lo=some (.lst []):=by rw[au n2];exact e0
  have e2:upd (upd (upd H lo (.lst [])) d (.dK [])) lw (.lst [v]) d=some (.dK []):=by rw[au n3,af]
  have e3:upd (upd (upd H lo (.lst [])) d (.dK [])) lw (.lst [v]) lw=some (.lst [v]):=af;generalize upd (upd (upd H lo (.lst [])) d (.dK [])) lw (.lst [v])=H1 at s1 e1 e2 e3 ⊢;refine⟨λσ H'=>oS λv5 seen kvs=>σ=[some v,some (.int n),some (.ref lo),some (.ref d),some (.ref lw),v5]/\ai H H'/\H' lo=some (.lst t.rp)/\H' d=some (.dK kvs)/\CZ kvs seen/\seen.Nodup/\(∀x∈seen,0<=x/\x<(n:Int))/\(ua [t] [] n↔ua [] seen n),?_,?_⟩
  ·let W:Nat->St->Hp->Prop:=λm σ H'=>LL λv5 us ws os seen kvs=>σ=[some v,some (.int n),some (.ref lo),some (.ref d),some (.ref lw),v5]/\ai H H'/\H' lw=some (.lst ws)/\Paired (cQ H) us ws/\H' lo=some (.lst os)/\H' d=some (.dK kvs)/\CZ kvs seen/\seen.Nodup/\(∀x∈seen,0<=x/\x<(n:Int))/\(ua [t] [] n↔ua us seen n)/\os++us.reverse.flatMap Tr.rp=t.rp/\os.length+vm us<=1000/\m=vm us
   refine⟨W,⟨_,_,[t],[v],[],[],[],Y,s1,e3,.cons ht .nil,e1,e2,⟨Y,λk=>rfl⟩,List.nodup_nil,(λx hx=>nomatch hx),Iff.rfl,by simp,by simpa[vm]using hz,Y⟩,?_⟩
   rintro m σ H2 ⟨v5,us,ws,os,seen,kvs,rfl,s2,Zk,U4,ho2,hd2,hS,hnd,hin,hgd,hos,hsz,rfl⟩;refine⟨_,Y,_,_,Y,.inl ⟨_,bD.of Zk,Y⟩,_,_,Y,Y,_,Y,?_⟩;rcases List.eq_nil_or_concat us with rfl|⟨us,u,rfl⟩
   ·cases U4;refine Xo (λz=>absurd z (by decide)) ⟨_,seen,kvs,Y,s2,?_,hd2,hS,hnd,hin,hgd⟩;rw[ho2,←hos];simp
   rw[List.concat_eq_append]at U4 hgd hos hsz ⊢;obtain⟨ws,x,rfl,hpq,hu⟩:=p7 U4;rw[tL]at hsz ⊢;refine itd (by show(0:Int)<((ws++[x]).length:Int);rw[o_];exact Int.ofNat_lt.mpr (Nat.succ_pos _)) ?_;refine⟨λσ' H'=>∃m',m'<vm us+vm [u]/\W m' σ' H',λσ' H' h=>h,?_⟩;have h1u:vm [u]=u.size:=by simp[vm]
   have hup:=Tr.size_pos u;rw[h1u]at hsz ⊢;have ed:(ws++[x]).dropLast=ws:=List.dropLast_concat;refine⟨_,Y,.inl ⟨Y,_,bD.of Zk⟩,lw,_,x,Y,Y,Zk,by simp,?_⟩;rw[ed];have s3:ai H (upd H2 lw (.lst ws)):=ai.at s2 fw;have U5:upd H2 lw (.lst ws) lo=some (.lst os):=by rw[au n2];exact ho2
   have Li:upd H2 lw (.lst ws) d=some (.dK kvs):=by rw[au n3];exact hd2
   have PK:upd H2 lw (.lst ws) lw=some (.lst ws):=af;generalize upd H2 lw (.lst ws)=H3 at s3 U5 Li PK ⊢;have big:∀a:Nat,a<=2000->a<x_:=λa h=>t_ h (by decide);refine⟨_,Y,x,u,Y,cQ.same s3 hu,_,Y,?_⟩;have odd:u.Ze=false->(∀k',u= .num k'->0<=k'->k'<(n:Int)->k'∉seen->False)->(u= .odd\/∃k',u= .num k')->ua [t] [] n->False:=λ_ no hu g=>by
    have g:=hgd.mp g;rcases hu with rfl|⟨k',rfl⟩
    ·exact ua.odd g
    ·obtain⟨⟨h1,h2⟩,h3,_⟩:=ua.num.mp g;exact no k' Y h1 h2 h3
   cases u with
   |pair l r =>
    obtain⟨p,x1,x2,rfl,hp,hl,hr'⟩:=hu;have hlr:vm [l,r]=l.size+r.size:=by simp[vm]
    have hs2:(Tr.pair l r).size=l.size+r.size+1:=rfl;rw[hs2]at hsz ⊢;refine pG ⟨_,Y,.inl ⟨Y,_,bD.of U5⟩,lo,_,_,Y,Y,U5,big _ (by omega),?_⟩;have Zr:upd H3 lo (.lst (os++[.gE])) p=some (.tup [x1,x2]):=by rw[au (λz=>by rw[z,hlo]at hp;cases hp)];exact s3 _ _ hp
    have PF:upd H3 lo (.lst (os++[.gE])) lw=some (.lst ws):=by rw[au (Ne.symm n2)];exact PK
    have hwl:ws.length=us.length:=(Paired.length hpq).symm;refine⟨_,Y,.inl ⟨Y,_,bD.of PF⟩,_,Y,lw,p,_,_,Y,Y,PF,Zr,?_,?_⟩
    ·have Zl:us.length<=vm us:=JC us;exact qa1 (big _ (by show ws.length+2<=2000;omega))
    refine⟨_,?_,_,us++[l,r],_,os++[.gE],seen,kvs,Y,ai.at (ai.at s3 hlo) fw,af,FQ hl hr' hpq,by rw[au n2,af],by rw[au n3,au (Ne.symm n1)];exact Li,hS,hnd,hin,hgd.trans ua.pair,?_,?_,Y⟩
    ·rw[tL,hlr];omega
    ·rw[←hos];simp[Tr.rp]
    ·rw[tL,hlr,o_,qa3];omega
   |num kk =>
    obtain rfl:x= .int kk:=hu;refine jN ⟨_,Y,_,Y,_,Y,.int kk,.num kk,n,d,kvs,seen,Y,Y,Y,Li,hS,λk' e h1 h2 h3=>?_,λno=>kE (odd Y no (.inr ⟨kk,Y⟩)) H3 s3⟩;cases e;refine⟨_,Y,_,Y,d,_,Y,BW.k (k:=.inl kk) Li (big _ (by have:=CU hnd hin;rw[hS.1];omega)),?_⟩;have Zt:upd H3 d (.dK (putK kvs (.inl kk) (.bl true))) lo=some (.lst os):=by rw[au n1];exact U5
    refine⟨_,Y,.inl ⟨Y,_,bD.of Zt⟩,_,Y,lo,_,_,Y,Y,Zt,big _ (by omega),?_⟩;refine⟨_,?_,_,us,ws,os++[.int kk],seen++[kk],_,Y,ai.at (ai.at s3 fd) hlo,by rw[au (Ne.symm n2),au (Ne.symm n3)];exact PK,hpq,af,by rw[au (Ne.symm n1),af],hS.put h3 _,?_,?_,hgd.trans ⟨λg=>(ua.num.mp g).2.2,λg=>ua.num.mpr ⟨⟨h1,h2⟩,h3,g⟩⟩,?_,?_,Y⟩
    ·omega
    ·exact qb9.mpr ⟨hnd,by simp,λa ha b hb z=>h3 (by rw[w_.mp hb]at z;exact z▸ha)⟩
    ·intro y hy;rcases S_.mp hy with q|q
     ·exact hin y q
     ·rw[w_.mp q];exact⟨h1,h2⟩
    ·rw[←hos];simp[Tr.rp]
    ·rw[o_];simp[Tr.size]at hsz ⊢;omega
   |odd =>
    exact jN ⟨_,Y,_,Y,_,Y,x,.odd,n,d,kvs,seen,Y,cQ.same s3 hu,Y,Li,hS,(λk' e=>nomatch e),λno=>kE (odd Y no (.inl Y)) H3 s3⟩
  ·rintro σ H2 ⟨v5,seen,kvs,rfl,s2,ho2,hd2,hS,hnd,hin,hgd⟩;have hlen:=CU hnd hin;refine⟨_,Y,d,kvs,Y,hd2,_,Y,_,_,Y,Y,_,Y,gG (λz=>?_) λz=>?_⟩
   ·refine⟨b_,kE (λg=>?_) H2 s2⟩;have q:=(ua.nil hnd).mp (hgd.mp g);have z':((kvs.length:Nat):Int)<(n:Int):=z;rw[hS.1]at z';omega
   ·have z':¬((kvs.length:Nat):Int)<(n:Int):=z;rw[hS.1]at z';refine⟨_,Y,.inl ⟨Y,_,bD.of ho2⟩,lo,_,Y,Y,ho2,_,Y,k (hgd.mpr ((ua.nil hnd).mpr (by omega))) lo _ (ai.at s2 hlo) af⟩
end
section
variable{P:A_}{w:U_}{K:PySem.W.Frag}{mg:r_->Option i_}{base:qab}
theorem Bs {kc ez:h_}{ja dF:F_}{p:Pm}(T:Txt K mg p w)(gR:Dn K mg "check_rows" oH Ou kc ja)(b9:Dn K mg "check_known" kF UL ez dF)(qw:aF P w K mg base (rY P w) 3 ez dF UL (zk K p.aE)):aF P w K mg base (rY P w) 4 kc ja Ou (Jc K p.aq p.aE):=by
 refine gR.fn.KO Bj (λvs H Q E h=>?_) (λcdv A outer s H vs Q E hr h=>?_)
 ·obtain⟨x,sg,rows,fo,fm,v,rs,rfl,_⟩:=h;rfl
 ·obtain⟨x,sg,rows,fo,fm,v,rs,rfl,⟨_,_,_,_,_,_,_,dx,Pp,o,m,d,kvs,h1,_⟩,hR,hS,kq,k⟩:=h;refine⟨_,(ak (ck (az qw (hr.mono (by decide)) Y b9.m b9.fn.kp b9.b .nil (Lets.passes fG) (aa (bz (pv 0) Y) (aa (pv 1) ah))))),?_⟩;exact⟨_,Y,x,_,_,_,_,Y,h1,T.bF,T.jB,uV,_,Y,sg,v,rs,Y,hR,hS,kq,k⟩
theorem zV {jj mq:h_}{ig jV:F_}{p:Pm}(T:Txt K mg p w)(fP:Dn K mg "joined_laid" nD W3 jj ig)(eO:Dn K mg "joined" sE LJ mq jV)(AU:aF P w K mg base cM 8 mq jV LJ (zl K p.aq p.aM)):aF P w K mg base cM 9 jj ig W3 (Jj K p.aq p.aM):=by
 refine fP.fn.ok zq (λvs H Q E h=>?_) (λcdv A outer s H vs Q E hr h=>?_)
 ·obtain⟨x,p1,q1,T1,R1,R2,N1,N2,n1,n2,m1,m2,rfl,_⟩:=h;rfl
 ·obtain⟨x,p1,q1,T1,R1,R2,N1,N2,n1,n2,m1,m2,rfl,hP,⟨ln1,b1,hp,hn1,Vd⟩,⟨ln2,b2,hq,hn2,hB2⟩,a,b,hn,hm,hN,k⟩:=h;refine⟨_,(ak (aN (dB (aa (aL DF (aT cS (pv 1) ao (λ_ _=>rfl)) (aT cS (pv 2) ao (λ_ _=>rfl))) (aa (gc AU hr eO (aa (pv 0) (aa (aT cS (pv 1) ao (λ_ _=>rfl)) (aa (aT cS (pv 2) ao (λ_ _=>rfl)) ah)))) ah))))),?_⟩;refine⟨_,Y,p1,_,_,_,Y,Y,fq.of hp,Y,_,Y,q1,_,_,_,Y,Y,fq.of hq,Y,?_⟩;refine⟨ln1,ln2,_,_,Y,Y,hn1,hn2,m_ (show(N1.map V.int).length+(N2.map V.int).length<=100 by rw[g_,g_];exact hN) (by decide),λl hl=>?_⟩;have s1:=ai.upd (o:=.lst (N1.map V.int++N2.map V.int)) hl;have e1:upd H l (.lst (N1.map V.int++N2.map V.int)) l=some (.lst ((N1++N2).map V.int)):=by rw[af,N_]
  generalize upd H l (.lst (N1.map V.int++N2.map V.int))=H1 at s1 e1 ⊢;have p1':=s1 _ _ hp;have q1':=s1 _ _ hq;refine⟨_,Y,_,Y,p1,_,_,_,Y,Y,fq.of p1',Y,_,Y,q1,_,_,_,Y,Y,fq.of q1',Y,x,b1,b2,T1.1,T1.2.1,T1.2.2.1,T1.2.2.2,R1,R2,Y,hP.same s1,Vd.same s1,hB2.same s1,a.sm (by omega) (by omega),b.sm (by omega) (by omega),a.bk,b.bk,λr hr=>?_,λbb H2 cs s2 hb hF hB=>⟨c_,λr hr=>?_⟩⟩
  ·rcases S_.mp hr with q|q
   ·exact a.kn r q
   ·exact b.kn r q
  ·have s3:=ai.upd (o:=.tup [.ref l,.ref bb]) hr;exact k r _ _ (s1.trans (s2.trans s3)) ⟨cs,hF,Y⟩ ⟨l,bb,af,s3 _ _ (s2 _ _ e1),hB.same s3⟩
end
section
variable{P:A_}{w:U_}{K:PySem.W.Frag}{mg:r_->Option i_}{base:qab}
theorem F0 {mY:h_}{lz:F_}{p:Pm}(T:Txt K mg p w)(jH:Dn K mg "_law_bare" rz UK mY lz)  :aF P w K mg base cM 1 mY lz UK Jp:=by
 refine jH.fn.ok FF (λvs H Q E h=>?_) (λcdv A outer s H vs Q E hr h=>?_)
 ·obtain⟨x,rfl,_⟩:=h;rfl
 ·obtain⟨x,rfl,hz,k⟩:=h;refine⟨_,(ak (aN (mK PySem.F.plainAttrs_str PySem.F.slot_str_join PySem.F.type_str_join DQ c9 (aa (MO (N:=["_law_thing"]) Y (λ_=>⟨[],cG.plain (by decide +kernel) Y (by decide +kernel) (by decide +kernel)⟩) (uI (pv 0)) (λ_ _ _ _ _ _ _=>(aQ (i:=0) (show(["_law_thing"]:List r_).Nodup by decide +kernel) Y (Or.inl Y))) (λ_ _ _ _ _ _ _=>(pv 0)) (λ_ _ _ _ _ _ _=>(bx Cn (pv 0) c9 (bX _)))) ah)))),?_⟩;refine⟨Y,_,Y,_,Y,λl hl9=>?_⟩;refine Qe x.cps.size (λj=>x.cps.toList.getD j 0 != 45) (λj=>L2.sg (x.cps.toList.getD j 0)) hl9 (t_ hz (by decide)) (λj C7 zC hj=>hj) (λC7 zC=>k_ _) (λj y C7 Og R S zC hj hy hRR hF=>?_) λC7 zC XQ=>?_
  ·obtain⟨rfl,c,hc,rfl⟩:=hy;rw[cu (vO hc)]at hRR hF;refine⟨Kp.uD,?_⟩;refine⟨_,Y,Y,_,Y,?_⟩;rw[Ua]
   cases z:c != 45 with
   |true=>exact pG ⟨_,Y,hRR z _ (ai.refl _)⟩
   |false=>exact jN (hF z _ (ai.refl _))
  rw[←s_,Gq]at XQ;refine⟨l,_,Y,Y,bD.of XQ,?_,?_⟩
  ·exact m_ (qbq _ _) (by rw[s_];omega)
  exact k C7 zC
theorem yb {iy:h_}{gr:F_}{p:Pm}(T:Txt K mg p w)(aZ:Dn K mg "_law_block_is" lS W2 iy gr)  :aF P w K mg base cM 1 iy gr W2 (Jo K p.aM):=by
 refine aZ.fn.ok xY (λvs H Q E h=>?_) (λcdv A outer s H vs Q E hr h=>?_)
 ·obtain⟨b,a,rs,rfl,_⟩:=h;rfl
 ·obtain⟨b,a,rs,rfl,⟨dx,q,hb,hq⟩,ha,hl,kk⟩:=h;refine⟨_,(aj (cL (PW.pt (Jt (mP (gi (aD (Eh) Y T.bW bJ (aa (pv 0) (aa (c8 (v:=.ref p.aM) Y T.qL Y) ah))))) (Du (mP (gi (aD (Eg) Y T.bW bJ (aa (bz (pv 0) Y) (aa (oN (v:=.ty "tuple") Y T.oj mz Y) ah)))))))) (ak (aN vC)) aY)
   (ak (aN (tR (MU (qbg (oh hr))) (bz (pv 0) rfl) (g7 (kJ) rfl T.oj mz (aa (pv 1) ah)) (bX _))))),?_⟩
  refine⟨_,Y,b,_,dx,_,Y,hb,T.Nh,_,Y,p8 ?_⟩;refine⟨_,Y,b,_,dx,_,_,Y,hb,T.gf,T.bY,jL,_,"tuple",.type "tuple",true,Y,.inr ⟨q,_,Y,hq,Y⟩,(by kernel_rfl),_,Y,p8 ?_⟩;refine⟨_,Y,b,_,dx,_,_,Y,hb,T.gf,T.bY,jL,_,Y,a,_,Y,.inl ⟨ha,λq2 hq2=>⟨q,q2,_,_,Y,Y,ai.tup (ai.upd hq2) hq,fq.of af,Cz,Cz,?_⟩⟩⟩;show Q (.bl (n8 (rs.map V.str) (rs.map V.str))) _;rw[Hr];exact kk _ (ai.upd hq2)
end
section
variable{P:A_}{w:U_}{K:PySem.W.Frag}{mg:r_->Option i_}{base:qab}
theorem vD {dh:h_}{cT:F_}{p:Pm}(T:Txt K mg p w)(aS:Dn K mg "_law_swapped" kD QM dh cT)  :aF P w K mg base cM 1 dh cT QM (Di 0):=by
 refine aS.fn.ok sC (λvs H Q E h=>?_) (λcdv A outer s H vs Q E hr h=>?_)
 ·obtain⟨v,t,k,u,o,rfl,_⟩:=h;rfl
 ·obtain⟨v,t,k,u,o,rfl,ht,hok,hd,ho,kk⟩:=h;refine⟨_,(aj (cL (gi (aD (jE) Y T.bW bJ (aa (pv 0) (aa (oN (v:=.ty "tuple") Y T.oj mz Y) ah)))) lq aY)
   (aj (cL (bx pC (pv 0) (pv 1) (bX _)) (ak (aN (pv 2))) aY)
   (ak (aN (pv 0))))),?_⟩
  cases t with
  |pair l r=>exact absurd hd (Nat.not_succ_le_zero _)
  |odd=>cases hok
  |num n =>
   obtain rfl:v= .int n:=ht;refine⟨_,Y,_,_,_,_,Y,.int n,qo,_,Y,jN ?_⟩;refine⟨_,Y,_,Y,Y,_,Y,wZ (λz=>⟨_,Y,kk u H (ai.refl H) (by rw[Tr.swap,if_pos z];exact ho)⟩) λz=>⟨_,Y,kk _ H (ai.refl H) (by rw[Tr.swap,if_neg z];exact Y)⟩⟩
theorem fS {d:Nat}{dh:h_}{cT:F_}{p:Pm}(T:Txt K mg p w)(aS:Dn K mg "_law_swapped" kD QM dh cT)(nJ:aF P w K mg base cM (d+1) dh cT QM (Di d)):aF P w K mg base cM (d+2) dh cT QM (Di (d+1)):=by
 refine aS.fn.ok sC (λvs H Q E h=>?_) (λcdv A outer s H vs Q E hr h=>?_)
 ·obtain⟨v,t,k,u,o,rfl,_⟩:=h;rfl
 ·obtain⟨v,t,k,u,o,rfl,ht,hok,hd,ho,kk⟩:=h;refine⟨_,(aj (cL (gi (aD (jE) Y T.bW bJ (aa (pv 0) (aa (oN (v:=.ty "tuple") Y T.oj mz Y) ah)))) (ak (aN (dB (aa (az nJ (hr.mono (by omega)) Y aS.m aS.fn.kp aS.b .nil aP (aa (aT cS (pv 0) ao (λ_ _=>rfl)) (aa (pv 1) (aa (pv 2) ah)))) (aa (az nJ (hr.mono (by omega)) Y aS.m aS.fn.kp aS.b .nil aP (aa (aT cS (pv 0) ao (λ_ _=>rfl)) (aa (pv 1) (aa (pv 2) ah)))) ah))))) aY)
   (aj (cL (bx pC (pv 0) (pv 1) (bX _)) (ak (aN (pv 2))) aY)
   (ak (aN (pv 0))))),?_⟩
  cases t with
  |odd=>cases hok
  |num n =>
   obtain rfl:v= .int n:=ht;refine⟨_,Y,_,_,_,_,Y,.int n,qo,_,Y,jN ?_⟩;refine⟨_,Y,_,Y,Y,_,Y,wZ (λz=>⟨_,Y,kk u H (ai.refl H) (by rw[Tr.swap,if_pos z];exact ho)⟩) λz=>⟨_,Y,kk _ H (ai.refl H) (by rw[Tr.swap,if_neg z];exact Y)⟩⟩
  |pair l r =>
   obtain⟨q,x,y,rfl,hq,hl,hr'⟩:=(show oS λp x y=>v= .ref p/\H p=some (.tup [x,y])/\cQ H l x/\cQ H r y from ht);have D4:(l.ok&&r.ok)=true:=hok;rw[qae]at D4;have hd':max l.dep r.dep+1<=d+1:=hd;refine⟨_,Y,_,_,_,_,Y,.tup hq,qM,_,Y,pG ?_⟩;refine⟨_,Y,q,_,_,_,Y,Y,fq.of hq,Y,_,Y,_,Y,x,l,k,u,o,Y,hl,D4.1,by omega,ho,λv1 H1 s1 h1=>?_⟩;refine⟨_,Y,q,_,_,_,Y,Y,fq.of (s1 _ _ hq),Y,_,Y,_,Y,y,r,k,u,o,Y,cQ.same s1 hr',D4.2,by omega,cQ.same s1 ho,λv2 H2 s2 h2=>⟨c_,λp hp=>?_⟩⟩;have s3:=ai.upd (o:=.tup [v1,v2]) hp;exact kk _ _ (s1.trans (s2.trans s3)) ⟨p,v1,v2,Y,af,cQ.same (s2.trans s3) h1,cQ.same s3 h2⟩
end
section
variable{P:A_}{w:U_}{K:PySem.W.Frag}{mg:r_->Option i_}{base:qab}
theorem DJ {lD cg:h_}{jR bO:F_}{p:Pm}(T:Txt K mg p w)(iI:Dn K mg "_law_texts" pV W0 lD jR)(aJ:Dn K mg "_law_next" jz l6 cg bO)(dZ:aF P w K mg base cM 1 cg bO l6 (wm K)):aF P w K mg base cM 2 lD jR W0 (Jb K):=by
 refine iI.fn.ok jJ (λvs H Q E h=>?_) (λcdv A outer s H vs Q E hr h=>?_)
 ·obtain⟨s,t,ns,k,sg,n,m,rfl,_⟩:=h;rfl
 ·obtain⟨s,t,ns,k,sg,n,m,rfl,hC,hk,hn,hm,hs0,hs1,kk⟩:=h;have hk0:=hC.k0;have lsg:sg.length<=x_:=m_ hs1 (by decide);refine⟨_,(aj (Z9X 5 jJ.nd (dU ah))
   (aj (fZ qao rfl (jM rfl T.m8 (aa (pv 3) ah)) (Z9Y 6 jJ.nd) (aj (Z9X 7 jJ.nd c9)
   (aj (fZ qao rfl (jM rfl T.m8 (aa (aL dg (gc dZ hr aJ (aa (pv 0) (aa (pv 1) ah))) (aL gj (pv 4) ao)) ah)) (Z9Y 8 jJ.nd) (ak (Z9X 7 jJ.nd (aL kU (pv 7) (aT Ao (pv 2) (aL dg (gc dZ hr aJ (aa (pv 0) (aa (pv 1) ah))) (aD (aU) rfl T.dm b3 (aa (pv 2) ah))) (λ_ _=>rfl))))))
   (ak (ck (mK PySem.F.plainAttrs_list PySem.F.slot_list_append PySem.F.type_list_append gm (pv 5) (aa (pv 7) ah)))))))
   (ak (aN (pv 5))))),?_⟩
  refine⟨a_,λl hl=>?_⟩;have nt:l≠t:=λz=>by rw[z,hC.at_]at hl;cases hl
  have w1:ai (Wo t H) (Wo t (upd H l (.lst []))):=Wo.same (ai.upd hl);have e1:upd H l (.lst []) l=some (.lst []):=af;have t1:upd H l (.lst []) t=some (.lst [.int k]):=ai.upd hl _ _ hC.at_;generalize upd H l (.lst [])=H1 at w1 e1 t1 ⊢;refine⟨_,Y,_,Y,by omega,by omega,?_⟩;rw[qaD];refine oY (lo:=0) (n:=n) (λi σ H2=>EW λ(rs:List r_) (k1:Int) (v6 v7 v8:Option V)=>σ=[some (.ref s),some (.ref t),some (.str sg),some (.int n),some (.int m),some (.ref l),v6,v7,v8]/\rs.length=i/\(∀r∈rs,Of sg r/\r.cps.size<=m)/\ai (Wo t H) (Wo t H2)/\H2 t=some (.lst [.int k1])/\k<=k1/\k1<=k+20*(i:Int)/\H2 l=some (.lst (rs.map V.str)))
   ⟨[],k,_,_,_,rfl,rfl,(λr hr=>nomatch hr),w1,t1,by omega,by omega,e1⟩ ?_ ?_
  ·rintro i σ H2 hi ⟨rs,k1,v6,v7,v8,rfl,hrs,hrr,w2,t2,UW,Zd,hl2⟩;have C2:=hC.off w2 t2 (by omega);refine⟨_,Y,_,Y,s,t,ns,k1,Y,C2,by omega,λc hc _=>?_⟩;have w3:ai (Wo t H) (Wo t (upd H2 t (.lst [.int (k1+1)]))):=by rw[Wo.set];exact w2
   have hl3:upd H2 t (.lst [.int (k1+1)]) l=some (.lst (rs.map V.str)):=by rw[au nt];exact hl2
   have t3:upd H2 t (.lst [.int (k1+1)]) t=some (.lst [.int (k1+1)]):=af;generalize upd H2 t (.lst [.int (k1+1)])=H3 at w3 hl3 t3 ⊢;have c0:=qai c (show((m:Int)+1)≠0 by omega);have c1:=Z_ c (show(0:Int)<(m:Int)+1 by omega);refine⟨_,Y,_,_,Y,Y,_,_,Y,Y,(by show(0:Int)<(m:Int)+1;omega),_,Y,by omega,by omega,?_⟩;refine oY (lo:=0) (n:=(c % ((m:Int)+1)).toNat) (λj σ H4=>oS λ(f:r_) (k2:Int) (v8:Option V)=>σ=[some (.ref s),some (.ref t),some (.str sg),some (.int n),some (.int m),some (.ref l),some (.int (0+(i:Int))),some (.str f),v8]/\Of sg f/\f.cps.size=j/\ai (Wo t H) (Wo t H4)/\H4 t=some (.lst [.int k2])/\k<=k2/\k2<=k1+1+(j:Int)/\H4 l=some (.lst (rs.map V.str)))
    ⟨_,k1+1,_,rfl,(λc hc=>by cases hc),rfl,w3,t3,by omega,by omega,hl3⟩ ?_ ?_
   ·rintro j σ H4 hj ⟨f,k2,v8,rfl,of,lf,w4,t4,VS,VR,yM⟩;have C4:=hC.off w4 t4 (by omega);refine⟨_,Y,_,Y,_,Y,_,Y,s,t,ns,k2,Y,C4,by omega,λy hy _=>?_⟩;have i1:=qai y (show((sg.cps.size:Nat):Int)≠0 by omega);have i2:=Z_ y (show(0:Int)<((sg.cps.size:Nat):Int) by omega);obtain⟨u,hu⟩:∃u:Nat,y % ((sg.cps.size:Nat):Int)=(u:Int):=⟨_,(qas i1).symm⟩;have Zl:u<sg.cps.toList.length:=by rw[s_];omega
    refine⟨_,Y,_,_,Y,⟨lsg,Y⟩,_,_,Y,Y,(by show(0:Int)<(sg.cps.size:Int);omega),sg,_,sg.cps.toList[u],Y,Y,lsg,?_,_,_,Y,Y,?_,?_⟩
    ·show G2 sg.cps.toList (y % ((sg.cps.size:Nat):Int))=_;rw[hu];exact bM (e_ Zl)
    ·show f.cps.size+1<=x_;exact m_ (show _<=100 by omega) (by decide)
    ·refine⟨_,k2+1,_,Y,λz hz=>?_,?_,by rw[Wo.set];exact w4,af,by omega,by omega,by rw[au nt];exact yM⟩
     ·have hz':z∈f.cps.toList++[sg.cps.toList[u]]:=by rw[←Array.toList_append];exact hz
      rcases S_.mp hz' with q|q
      ·exact of z q
      ·rw[w_.mp q];exact Q_ Zl
     ·show(f.cps++ #[sg.cps.toList[u]]).size=j+1;rw[Array.size_append,lf];rfl
   ·rintro σ H4 ⟨f,k2,v8,rfl,of,lf,w4,t4,VS,VR,yM⟩;refine⟨_,Y,.inl ⟨Y,_,bD.of yM⟩,_,Y,l,_,_,Y,Y,yM,t_ (show(rs.map V.str).length<=100 by rw[g_];omega) (by decide),?_⟩;refine⟨rs++[f],k2,_,_,_,Y,by rw[o_,hrs];rfl,λr hr=>?_,?_,by rw[au (Ne.symm nt)];exact t4,VS,by omega,by rw[af,N_];rfl⟩
    ·rcases S_.mp hr with q|q
     ·exact hrr r q
     ·rw[w_.mp q];exact⟨of,by omega⟩
    ·intro b u hb
     have hbt:b≠t:=λz=>by rw[z]at hb;exact absurd hb (by unfold Wo;rw[if_pos rfl];exact λq=>nomatch q)
     have hbl:b≠l:=λz=>by have:=Wo.sub _ _ hb;rw[z,hl]at this;cases this
     exact Wo.in hbt (by rw[au hbl];exact Wo.sub _ _ (w4 b u hb))
  ·rintro σ H2 ⟨rs,k1,v6,v7,v8,rfl,hrs,hrr,w2,t2,UW,Zd,hl2⟩;exact⟨_,Y,kk l rs H2 k1 hrs hrr w2 t2 UW (by omega) hl2 nt⟩
end
section
variable{P:A_}{w:U_}{K:PySem.W.Frag}{mg:r_->Option i_}{base:qab}
theorem FY {mW cg:h_}{lu bO:F_}{p:Pm}(T:Txt K mg p w)(jG:Dn K mg "_law_tree" rq Ot mW lu)(aJ:Dn K mg "_law_next" jz l6 cg bO)(dZ:aF P w K mg base cM 1 cg bO l6 (wm K)):aF P w K mg base cM 2 mW lu Ot (Mm K):=by
 refine jG.fn.ok nM (λvs H Q E h=>?_) (λcdv A outer s H vs Q E hr h=>?_)
 ·obtain⟨s,t,ns,k,n,rfl,_⟩:=h;rfl
 ·obtain⟨s,t,ns,k,n,rfl,hC,hk,hn0,hn,kk⟩:=h;have hk0:=hC.k0;refine⟨_,(aj (Z9X 3 nM.nd (dU ah))
   (bu (fZ qao rfl (jM rfl T.m8 (aa (pv 2) ah)) (Z9Y 4 nM.nd) (ak (ck (mK PySem.F.plainAttrs_list PySem.F.slot_list_insert PySem.F.type_list_insert KY (pv 3) (aa (aL dg (gc dZ hr aJ (aa (pv 0) (aa (pv 1) ah))) (aL gj (aD (aU) rfl T.dm b3 (aa (pv 3) ah)) ao)) (aa (pv 4) ah))))))
   (bu (vA qao (bx Co (aD (aU) rfl T.dm b3 (aa (pv 3) ah)) ao (bX _)) (bu (Z9X 4 nM.nd (aL dg (gc dZ hr aJ (aa (pv 0) (aa (pv 1) ah))) (aL zO (aD (aU) rfl T.dm b3 (aa (pv 3) ah)) ao)))
   (ak (Z9X 3 nM.nd (aL DF (aL DF (nQ yF (pv 3) p5 (pZ (pv 4))) (dU (aa (dB (aa (aT bf (pv 3) (pv 4) (λ_ _=>rfl)) (aa (aT bf (pv 3) (aL gj (pv 4) ao) (λ_ _=>rfl)) ah))) ah))) (nQ yF (pv 3) (pZ (aL gj (pv 4) ao)) p5))))))
   (ak (aN (aT bf (pv 3) ao (λ_ _=>rfl))))))),?_⟩
  refine⟨a_,λl hl=>?_⟩;have nt:l≠t:=λz=>by rw[z,hC.at_]at hl;cases hl
  have w1:ai (Wo t H) (Wo t (upd H l (.lst []))):=Wo.same (ai.upd hl);have e1:upd H l (.lst []) l=some (.lst []):=af;have t1:upd H l (.lst []) t=some (.lst [.int k]):=ai.upd hl _ _ hC.at_;generalize upd H l (.lst [])=H1 at w1 e1 t1 ⊢;refine⟨λσ H2=>oS λ(xs:List Int) (k1:Int) (v4:Option V)=>σ=[some (.ref s),some (.ref t),some (.int n),some (.ref l),v4]/\xs.Perm (fz n)/\ai (Wo t H) (Wo t H2)/\H2 t=some (.lst [.int k1])/\k<=k1/\k1<=k+10/\H2 l=some (.lst (xs.map V.int)),?_,?_⟩
  ·refine⟨_,Y,_,Y,by omega,by omega,?_⟩;rw[qaD];refine oY (lo:=0) (n:=n) (λi σ H2=>oS λ(xs:List Int) (k1:Int) (v4:Option V)=>σ=[some (.ref s),some (.ref t),some (.int n),some (.ref l),v4]/\xs.Perm (fz i)/\ai (Wo t H) (Wo t H2)/\H2 t=some (.lst [.int k1])/\k<=k1/\k1<=k+(i:Int)/\H2 l=some (.lst (xs.map V.int)))
    ⟨[],k,_,rfl,.nil,w1,t1,by omega,by omega,e1⟩ ?_ ?_
   ·rintro i σ H2 hi ⟨xs,k1,v4,rfl,hp,w2,t2,UW,Zd,hl2⟩;have C2:=hC.off w2 t2 (by omega);have Zh:xs.length=i:=by rw[hp.length_eq];unfold fz;rw[g_,qad]
    refine⟨_,Y,.inl ⟨Y,_,bD.of hl2⟩,_,Y,_,Y,s,t,ns,k1,Y,C2,by omega,λc hc _=>?_⟩;have w3:ai (Wo t H) (Wo t (upd H2 t (.lst [.int (k1+1)]))):=by rw[Wo.set];exact w2
    have hl3:upd H2 t (.lst [.int (k1+1)]) l=some (.lst (xs.map V.int)):=by rw[au nt];exact hl2
    have t3:upd H2 t (.lst [.int (k1+1)]) t=some (.lst [.int (k1+1)]):=af;generalize upd H2 t (.lst [.int (k1+1)])=H3 at w3 hl3 t3 ⊢;have el:((xs.map V.int).length:Int)=(i:Int):=by rw[g_,Zh]
    have c0:=qai c (show((xs.map V.int).length:Int)+1≠0 by omega);have c1:=Z_ c (show(0:Int)<((xs.map V.int).length:Int)+1 by omega);obtain⟨j,hj⟩:∃j:Nat,c % (((xs.map V.int).length:Int)+1)=(j:Int):=⟨_,(qas c0).symm⟩;refine⟨_,Y,_,_,Y,.inl ⟨_,bD.of hl3,Y⟩,_,_,Y,Y,_,_,Y,Y,(by show(0:Int)<((xs.map V.int).length:Int)+1;omega),_,Y,l,xs.map V.int,j,.int (i:Int),Y,?_,hl3,by omega,by omega,?_⟩
    ·show [V.int (c % (((xs.map V.int).length:Int)+1)),V.int (0+(i:Int))]=_;rw[hj,qbZ]
    ·refine⟨xs.take j++(i:Int)::xs.drop j,k1+1,_,Y,Nf hp,?_,by rw[au (Ne.symm nt)];exact t3,by omega,by omega,by rw[af,N_,qaK,List.map_take,List.map_drop]⟩;intro b u hb
     have hbt:b≠t:=λz=>by rw[z]at hb;exact absurd hb (by unfold Wo;rw[if_pos rfl];exact λq=>nomatch q)
     have hbl:b≠l:=λz=>by have:=Wo.sub _ _ hb;rw[z,hl]at this;cases this
     exact Wo.in hbt (by rw[au hbl];exact Wo.sub _ _ (w3 b u hb))
   ·rintro σ H2 ⟨xs,k1,v4,rfl,hp,w2,t2,UW,Zd,hl2⟩;exact⟨xs,k1,_,Y,hp,w2,t2,UW,by omega,hl2⟩
  rintro σ H2 ⟨xs,k1,v4,rfl,hp,w2,t2,UW,Zd,hl2⟩;refine⟨λσ H'=>EW λ(lw:h_) (v:V) (tr:Tr) (k2:Int) (v4:Option V)=>σ=[some (.ref s),some (.ref t),some (.int n),some (.ref lw),v4]/\CW [tr] n/\ai (Wo t H) (Wo t H')/\H' t=some (.lst [.int k2])/\k<=k2/\k2<=k+40/\H' lw=some (.lst [v])/\cQ (Wo t H') tr v,?_,?_⟩
  ·have Zh:xs.length=n:=by rw[hp.length_eq];unfold fz;rw[g_,qad]
   let W:Nat->St->Hp->Prop:=λm σ H'=>EW λ(lw:h_) (us:List Tr) (ws:List V) (k2:Int) (v4:Option V)=>σ=[some (.ref s),some (.ref t),some (.int n),some (.ref lw),v4]/\CW us n/\us≠[]/\ai (Wo t H) (Wo t H')/\H' t=some (.lst [.int k2])/\k<=k2/\k2+(us.length:Int)<=k+10+(n:Int)/\H' lw=some (.lst ws)/\lw≠t/\Paired (cQ (Wo t H')) us ws/\m=us.length
   refine⟨W,⟨_,l,xs.map Tr.num,xs.map V.int,k1,_,Y,Mb hp,(λz=>by have:=congrArg qc1 z;rw[g_,Zh]at this;exact absurd this (qaR hn0)),w2,t2,UW,by rw[g_,Zh];omega,hl2,nt,Cm xs,Y⟩,?_⟩;rintro m σ H3 ⟨lw,us,ws,k2,v4,rfl,hT,hne,w3,t3,VS,VR,PK,nw,U4,rfl⟩;have Zl:us.length<=n:=by
    cases us with
    |nil=>exact absurd Y hne
    |cons u us=>exact m_ (Nat.le_add_left _ _) (hT.dp u (L_ ..))
   have hwl:us.length=ws.length:=Paired.length U4;refine⟨_,Y,_,_,Y,.inl ⟨_,bD.of PK,Y⟩,_,_,Y,Y,_,Y,?_⟩;by_cases h1:(1:Int)<(ws.length:Int)
   ·refine itd h1 ⟨λσ' H'=>∃m',m'<us.length/\W m' σ' H',λσ' H' h=>h,?_⟩;refine⟨λσ H'=>∃j:Nat,j+1<us.length/\σ=[some (.ref s),some (.ref t),some (.int n),some (.ref lw),some (.int (j:Int))]/\ai (Wo t H3) (Wo t H')/\H' lw=some (.lst ws)/\H' t=some (.lst [.int (k2+1)]),?_,?_⟩
    ·have C3:=hC.off w3 t3 (by omega);refine⟨_,Y,_,Y,s,t,ns,k2,Y,C3,by omega,λc hc _=>?_⟩;have w4:ai (Wo t H3) (Wo t (upd H3 t (.lst [.int (k2+1)]))):=by rw[Wo.set];exact ai.refl _
     have PF:upd H3 t (.lst [.int (k2+1)]) lw=some (.lst ws):=by rw[au nw];exact PK
     have t4:upd H3 t (.lst [.int (k2+1)]) t=some (.lst [.int (k2+1)]):=af;generalize upd H3 t (.lst [.int (k2+1)])=H4 at w4 PF t4 ⊢;have c0:=qai c (show(ws.length:Int)-1≠0 by omega);have c1:=Z_ c (show(0:Int)<(ws.length:Int)-1 by omega);obtain⟨j,hj⟩:∃j:Nat,c % ((ws.length:Int)-1)=(j:Int):=⟨_,(qas c0).symm⟩;refine⟨_,Y,_,_,Y,.inl ⟨_,bD.of PF,Y⟩,_,_,Y,Y,_,_,Y,Y,(by show(0:Int)<(ws.length:Int)-1;omega),j,by omega,?_,w4,PF,t4⟩;rw[←hj];rfl
    rintro σ H4 ⟨j,hj,rfl,w4,PF,t4⟩;obtain⟨A,a,b,B,C,x,y,D,rfl,rfl,rfl,pA,hx,hy,pB⟩:=zM (j:=j) U4 hj;have hcl:(C++x::y::D).length=C.length+2+D.length:=by simp;omega
    have small:∀z:Nat,z<=100->z<=x_:=λz hz=>m_ hz (by decide);refine⟨_,Y,_,Y,_,Y,lw,_,Y,bD.of PF,λp1 hp1=>?_⟩;rw[Vi];have s5:=ai.upd (o:=.lst C) hp1;have e5:upd H4 p1 (.lst C) p1=some (.lst C):=af;generalize upd H4 p1 (.lst C)=H5 at s5 e5 ⊢;have hw5:=s5 _ _ PF;refine⟨_,Y,_,Y,lw,_,_,x,Y,Y,bD.of hw5,bM (by simp),_,Y,_,Y,_,_,Y,Y,lw,_,_,y,Y,Y,bD.of hw5,(show G2 _ ((C.length+1:Nat):Int)=_ from bM (by simp)),c_,λq hq=>⟨b_,λl2 hl2=>?_⟩⟩;have s7:=(ai.upd (o:=.tup [x,y]) hq).trans (ai.upd (o:=.lst [.ref q]) hl2);have e7:upd (upd H5 q (.tup [x,y])) l2 (.lst [.ref q]) l2=some (.lst [.ref q]):=af;have q7:upd (upd H5 q (.tup [x,y])) l2 (.lst [.ref q]) q=some (.tup [x,y]):=ai.upd hl2 _ _ af;generalize upd (upd H5 q (.tup [x,y])) l2 (.lst [.ref q])=H7 at s7 e7 q7 ⊢;refine⟨p1,l2,_,_,Y,Y,s7 _ _ e5,e7,small _ (by show C.length+1<=100;omega),λl3 hl3=>?_⟩;have s8:=ai.upd (o:=.lst (C++[.ref q])) hl3;have e8:upd H7 l3 (.lst (C++[.ref q])) l3=some (.lst (C++[.ref q])):=af;generalize upd H7 l3 (.lst (C++[.ref q]))=H8 at s8 e8 ⊢;have s58:=s7.trans s8;refine⟨_,Y,_,Y,_,_,Y,Y,_,Y,lw,_,Y,bD.of (s58 _ _ hw5),λp2 hp2=>?_⟩;rw[Vj];have s9:=ai.upd (o:=.lst D) hp2;have e9:upd H8 p2 (.lst D) p2=some (.lst D):=af;generalize upd H8 p2 (.lst D)=H9 at s9 e9 ⊢;refine⟨l3,p2,_,_,Y,Y,s9 _ _ e8,e9,small _ (by rw[o_];show C.length+1+D.length<=100;omega),λl4 yM=>?_⟩;have zC:=ai.upd (o:=.lst (C++[.ref q]++D)) yM;have sA:=s5.trans (s58.trans (s9.trans zC));have t10:=sA _ _ t4;have nw4:l4≠t:=λz=>by rw[z]at yM;rw[(s5.trans (s58.trans s9)) _ _ t4]at yM;cases yM
    have wA:ai (Wo t H3) (Wo t (upd H9 l4 (.lst (C++[.ref q]++D)))):=w4.trans (Wo.same sA);have nq:q≠t:=λz=>by rw[z]at hq;rw[s5 _ _ t4]at hq;cases hq
    refine⟨_,?_,l4,A++[.pair a b]++B,C++[.ref q]++D,k2+1,_,Y,hT.join,(λz=>by have:=congrArg qc1 z;simp at this),w3.trans wA,t10,by omega,?_,af,nw4,?_,Y⟩
    ·simp only[o_,M_,qbi];omega
    ·simp only[o_,M_,qbi]at VR ⊢;omega
    ·refine zN (zN (Paired.oO pA λ_ _ z=>cQ.same wA z) (.cons ⟨q,x,y,Y,Wo.in nq ((s8.trans (s9.trans zC)) _ _ q7),cQ.same wA hx,cQ.same wA hy⟩ .nil)) (Paired.oO pB λ_ _ z=>cQ.same wA z)
   ·refine Xo h1 ?_
    match us,ws,U4,hne,hT,VR with
    |[u],[v],.cons h .nil,_,hT,VR=>exact⟨lw,v,u,k2,_,Y,hT,w3,t3,VS,by omega,PK,h⟩
    |_::_::_,_,.cons _ (.cons _ r),_,_,_=>exact absurd (show(1:Int)<_ from by simp only[M_];omega) h1
  rintro σ H3 ⟨lw,v,tr,k2,v4,rfl,hT,w3,t3,VS,VR,PK,hv⟩;have l1:tr.leaves.Perm (fz n):=by
   have:=hT.lv;simpa using this
  have l2:tr.size+1=2*n:=by
   have:=hT.sz;simpa[vm]using this
  have l3:=hT.dp tr (by simp);refine⟨_,Y,lw,_,_,v,Y,Y,bD.of PK,Y,kk v tr H3 k2 hv (hT.ok tr (by simp)) l1 (by omega) (m_ (qaq _ _) l3) w3 t3 VS (by omega)⟩
end
section
variable{P:A_}{w:U_}{K:PySem.W.Frag}{mg:r_->Option i_}{base:qab}
theorem yc {iz dh:h_}{gu cT:F_}{p:Pm}(T:Txt K mg p w)(eK:Dn K mg "_law_bad_tree" lT WZ iz gu)(aS:Dn K mg "_law_swapped" kD QM dh cT)(nJ:aF P w K mg base cM 6 dh cT QM (Di 5)):aF P w K mg base cM 7 iz gu WZ My:=by
 refine eK.fn.ok nX (λvs H Q E h=>?_) (λcdv A outer s H vs Q E hr h=>?_)
 ·obtain⟨m,v,t,n,rfl,_⟩:=h;rfl
 ·obtain⟨m,v,t,n,rfl,hm,ht,hok,hp,hz,hd,hn0,hn,kk⟩:=h;refine⟨_,(bu (Z9X 3 nX.nd (aL dg (aL gY (pv 0) ao) (pv 2)))
   (bu (Z9X 4 nX.nd (dU (aa (pv 2) (aa (Cj wc ao) (aa Dz (aa c9 (aa (dB ah) (aa (dB (aa (pv 3) ah)) (aa (dU (aa ao (aa ao ah))) (aa (dB (aa (pv 3) (aa (pv 3) (aa (pv 3) ah)))) (aa (dB (aa (pv 3) (aa (pv 3) ah))) ah)))))))))))
   (bu (cL (bx FU (aL dg (pv 0) ao) ao (bX _)) (ak (aN (gc nJ hr aS (aa (pv 1) (aa (pv 3) (aa (aT bf (pv 4) (aL dg (pv 0) ao) (λ_ _=>rfl)) ah)))))) aY)
   (bu (cL (bx pC (aL dg (pv 0) ao) ao (bX _)) (ak (aN (dB (aa (pv 1) (aa (pv 3) ah))))) aY)
   (bu (cL (PW.pt (zG (bx Co (pv 2) ao (bX _)) (yH (bx pC (aL dg (pv 0) ao) ao (bX _))))) (ak (aN (aT cS (pv 1) (aL dg (aL gY (pv 0) ao) ao) (λ_ _=>rfl)))) aY)
   (ak (aN (dU (aa (pv 1) ah))))))))),?_⟩
  obtain⟨k,hk,hkn⟩:∃k:Nat,m / 12 % (n:Int)=(k:Int)/\k<n:=by
   have m0:=qai (m / 12) (show(n:Int)≠0 by omega);have m1:=Z_ (m / 12) (show(0:Int)<(n:Int) by omega);exact⟨_,(qas m0).symm,by omega⟩
  have hkt:(k:Int)∈t.leaves:=hp.mem_iff.mpr (O_.mpr ⟨k,qav.mpr hkn,rfl⟩);have XH:t.leaves.length=n:=by rw[hp.length_eq];unfold fz;rw[g_,qad]
  obtain⟨r,Nm,hrl⟩:∃r:Nat,m % 12=(r:Int)/\r<12:=⟨(m % 12).toNat,by omega,by omega⟩;refine⟨λσ H'=>σ=[some (.int m),some v,some (.int n),some (.int (k:Int)),none]/\H=H',?_,?_⟩
  ·refine⟨_,Y,_,_,Y,Y,⟨by decide,by decide⟩,_,Y,_,_,Y,Y,(by show(0:Int)<(n:Int);omega),?_,Y⟩;rw[←hk];rfl
  rintro σ _ ⟨rfl,rfl⟩;refine⟨λσ H'=>dI λ(lb:h_) (bs:List V)=>σ=[some (.int m),some v,some (.int n),some (.int (k:Int)),some (.ref lb)]/\ai H H'/\H' lb=some (.lst bs)/\∀j,j<9->dI λu o=>bs[j]? =some u/\cQ H' o u/\ES (t.swap k o) n/\o.size<=3,?_,?_⟩
  ·refine⟨_,Y,_,Y,a_,λp0 h0=>⟨_,Y,b_,λp1 h1=>⟨c_,λl0 Ox=>⟨_,Y,_,Y,_,Y,d_,λp3 h3=>⟨_,Y,_,Y,c_,λp2 h2=>⟨by show 9<=x_;decide,λlb hlb=>?_⟩⟩⟩⟩⟩⟩;have s0:=ai.upd (o:=.tup []) h0;have s1:=ai.upd (o:=.tup [.int (k:Int)]) h1;have s2:=ai.upd (o:=.lst [.int 0,.int 1]) Ox;have s3:=ai.upd (o:=.tup [.int (k:Int),.int (k:Int),.int (k:Int)]) h3;have s4:=ai.upd (o:=.tup [.int (k:Int),.int (k:Int)]) h2;have s5:=ai.upd (o:=.lst [.int (n:Int),.int (-1),.gE,.str (z_ "0"),.ref p0,.ref p1,.ref l0,.ref p3,.ref p2]) hlb;refine⟨lb,_,Y,s0.trans (s1.trans (s2.trans (s3.trans (s4.trans s5)))),af,λj hj=>?_⟩;have bo:=Qk (t:=t) (n:=n) hkt
   match j,hj with
   | 0,_=>exact⟨_,.num (n:Int),Y,Y,JT hkt (by omega),by show 1<=3;decide⟩
   | 1,_=>exact⟨_,.num (-1),Y,Y,JT hkt (by omega),by show 1<=3;decide⟩
   | 2,_=>exact⟨_,.odd,Y,.inl Y,bo,by show 1<=3;decide⟩
   | 3,_=>exact⟨_,.odd,Y,.inr (.inl ⟨_,Y⟩),bo,by show 1<=3;decide⟩
   | 4,_=>exact⟨_,.odd,Y,.inr (.inr (.inl ⟨p0,_,Y,(s1.trans (s2.trans (s3.trans (s4.trans s5)))) _ _ af,by decide⟩)),bo,by show 1<=3;decide⟩
   | 5,_=>exact⟨_,.odd,Y,.inr (.inr (.inl ⟨p1,_,Y,(s2.trans (s3.trans (s4.trans s5))) _ _ af,by show 1≠2;decide⟩)),bo,by show 1<=3;decide⟩
   | 6,_=>exact⟨_,.odd,Y,.inr (.inr (.inr ⟨l0,_,Y,(s3.trans (s4.trans s5)) _ _ af⟩)),bo,by show 1<=3;decide⟩
   | 7,_=>exact⟨_,.odd,Y,.inr (.inr (.inl ⟨p3,_,Y,(s4.trans s5) _ _ af,by show 3≠2;decide⟩)),bo,by show 1<=3;decide⟩
   | 8,_=>exact⟨_,.pair (.num (k:Int)) (.num (k:Int)),Y,⟨p2,_,_,Y,s5 _ _ af,Y,Y⟩,Qj hkt,by show 3<=3;decide⟩
  rintro σ H1 ⟨lb,bs,rfl,s1,hlb,hbs⟩;refine⟨λσ H'=>σ=[some (.int m),some v,some (.int n),some (.int (k:Int)),some (.ref lb)]/\H1=H',?_,?_⟩
  ·refine⟨_,Y,_,_,Y,Y,(by show(0:Int)<12;decide),_,_,Y,Y,_,Y,gG (λz=>?_) λ_=>⟨Y,Y⟩⟩;obtain⟨u,o,hu,ho,hb,Zs⟩:=hbs r (by have z':m % 12<9:=z;omega);refine⟨_,Y,_,Y,_,Y,_,Y,_,_,Y,Y,(by show(0:Int)<12;decide),lb,_,_,u,Y,Y,bD.of hlb,by rw[Nm];exact bM hu,v,t,(k:Int),u,o,Y,cQ.same s1 ht,hok,by omega,ho,λv' H' s' h'=>kk v' _ H' (s1.trans s') h' ?_ hb⟩;refine m_ Tr.we (m_ (qbo hz (qcW Zs)) (by decide))
  rintro σ _ ⟨rfl,rfl⟩;refine⟨λσ H'=>σ=[some (.int m),some v,some (.int n),some (.int (k:Int)),some (.ref lb)]/\H1=H',?_,?_⟩
  ·refine⟨_,Y,_,_,Y,Y,(by show(0:Int)<12;decide),Y,_,Y,wZ (λ_=>?_) λ_=>⟨Y,Y⟩⟩;refine⟨_,Y,_,Y,c_,λp QX=>?_⟩;have s2:=ai.upd (o:=.tup [v,.int (k:Int)]) QX;exact kk _ (.pair t (.num (k:Int))) _ (s1.trans s2) ⟨p,v,_,Y,af,cQ.same (s1.trans s2) ht,Y⟩ (by show t.size+1+1<=1000;omega) (N9 hkt)
  rintro σ _ ⟨rfl,rfl⟩;refine⟨λσ H'=>σ=[some (.int m),some v,some (.int n),some (.int (k:Int)),some (.ref lb)]/\H1=H',?_,?_⟩
  ·refine⟨_,Y,_,_,Y,Y,_,Y,gG (λh1=>?_) λ_=>jN ⟨Y,Y⟩⟩;refine⟨_,Y,_,_,Y,Y,(by show(0:Int)<12;decide),Y,_,Y,wZ (λ_=>?_) λ_=>⟨Y,Y⟩⟩
   cases t with
   |num x =>
    have A0:(1:Int)<(n:Int):=h1;have:([x]:List Int).length=n:=XH;rw[qa3]at this;omega
   |odd=>cases hok
   |pair a b =>
    obtain⟨p,x,y,rfl,QX,hx,hy⟩:=(show oS λp x y=>v= .ref p/\H p=some (.tup [x,y])/\cQ H a x/\cQ H b y from ht);have hz':a.size+b.size+1<=20:=hz;have e:m / 60 % 2=0\/m / 60 % 2=1:=by omega
    rcases e with e|e
    ·exact⟨_,Y,_,Y,_,_,Y,Y,⟨by decide,by decide⟩,_,_,Y,Y,(by show(0:Int)<2;decide),p,_,_,x,Y,Y,fq.of (s1 _ _ QX),by rw[e];rfl,kk x a H1 s1 (cQ.same s1 hx) (by omega) (GD hok XH (.inl Y))⟩
    ·exact⟨_,Y,_,Y,_,_,Y,Y,⟨by decide,by decide⟩,_,_,Y,Y,(by show(0:Int)<2;decide),p,_,_,y,Y,Y,fq.of (s1 _ _ QX),by rw[e];rfl,kk y b H1 s1 (cQ.same s1 hy) (by omega) (GD hok XH (.inr Y))⟩
  rintro σ _ ⟨rfl,rfl⟩;refine⟨_,Y,b_,λp QX=>?_⟩;exact kk _ .odd _ (s1.trans (ai.upd QX)) (.inr (.inr (.inr ⟨p,_,Y,af⟩))) (by decide) N8
end
section
variable{P:A_}{w:U_}{K:PySem.W.Frag}{mg:r_->Option i_}{base:qab}
theorem HM {jZ kc jW jj tU aH:h_}{iQ ja i0 ig qT aV:F_}{p:Pm}(T:Txt K mg p w)(cK:Dn K mg "laid_by" qF UJ jZ iQ)(gR:Dn K mg "check_rows" oH Ou kc ja)(EM:aF P w K mg base (rY P w) 4 kc ja Ou (Jc K p.aq p.aE))(gK:Dn K mg "tree_order" oA W4 jW i0)(EH:aF P w K mg base (rY P w) 4 jW i0 W4 (Mn p.aC))(fP:Dn K mg "joined_laid" nD W3 jj ig)(BR:aF P w K mg base cM 9 jj ig W3 (Jj K p.aq p.aM))(qe:Dn K mg "alone" yG LK tU qT)(Qw:aF P w K mg base cM 7 tU qT LK (nv (Fy K p.aM p.bN)))(aO:Dm K "__init__" "Block.__init__" bS LI aH aV)(gJ:Mk K p.aM aH)(cZ:aF P w K mg base cM 5 aH aV LI (nv (vq K p.aM p.bN))):aF P w K mg base (rY P w) 10 jZ iQ UJ (vo K p.aq p.aM p.aC p.aE):=by
 refine cK.fn.KO kT (λvs H Q E h=>?_) (λcdv A outer s H vs Q E hr h=>?_)
 ·obtain⟨x,T1,v,tv,rs,t,rfl,_⟩:=h;rfl
 ·obtain⟨x,T1,v,tv,rs,t,rfl,hP,hR,hn,hm,hT,hz,k1,k2,k3⟩:=h;refine⟨_,(aj (ck (az EM (hr.mono (by decide)) Y gR.m gR.fn.kp gR.b .nil (Lets.passes fG) (aa (pv 0) (aa (pv 1) ah))))
   (bu (Z9X 3 kT.nd (dU ah))
   (bu (fZ iO rfl (kQ (az EH (hr.mono (by decide)) rfl gK.m gK.fn.kp gK.b .nil (Lets.passes fG) (aa (pv 2) (aa (aD (aU) rfl T.dm b3 (aa (pv 1) ah)) ah)))) (Z9Y 4 kT.nd) (ak (cL (bx Uv (pv 4) Dz (by with_unfolding_all rfl)) (aj (Z9X 5 kT.nd (wG PySem.F.plainAttrs_list PySem.F.slot_list_pop PySem.F.type_list_pop HY (pv 3)))
   (aj (Z9X 6 kT.nd (wG PySem.F.plainAttrs_list PySem.F.slot_list_pop PySem.F.type_list_pop HY (pv 3)))
   (ak (ck (mK PySem.F.plainAttrs_list PySem.F.slot_list_append PySem.F.type_list_append gm (pv 3) (aa (gc BR hr fP (aa (pv 0) (aa (pv 6) (aa (pv 5) ah)))) ah)))))) (ak (ck (mK PySem.F.plainAttrs_list PySem.F.slot_list_append PySem.F.type_list_append gm (pv 3) (aa (dB (aa (dU (aa (pv 4) ah)) (aa (gc Qw hr qe (aa (aT Ik (pv 1) (pv 4) (λ_ _=>rfl)) ah)) ah))) ah)))))))
   (bu (Z9X 7 kT.nd (aT cS (aT bf (pv 3) ao (λ_ _=>rfl)) ao (λ_ _=>rfl)))
   (bu (Z9X 8 kT.nd (aT cS (aT bf (pv 3) ao (λ_ _=>rfl)) ao (λ_ _=>rfl)))
   (ak (aN (rE gJ cZ (hr.mono (by decide)) rfl T.qL aO.b .nil aP (aa (iN (N:=["number","row"]) rfl (λ_=>⟨[],cG.plain (by decide +kernel) rfl (by decide +kernel) (by decide +kernel)⟩) (kQ (HF rfl rfl T.LS rfl T.LR (aa (pv 7) (aa (bz (pv 8) rfl) ah)))) (λ_ _ _ _ _ _ _=>(OZ (K':=K) (n:=2) rfl rfl (fu (aQ (i:=0) (show(["number","row"]:List r_).Nodup by decide +kernel) rfl (Or.inl rfl)) (fu (aQ (i:=1) (show(["number","row"]:List r_).Nodup by decide +kernel) rfl (Or.inl rfl)) p6)))) (λ_ _ _ _ _ _ _=>(pv 1))) ah))))))))),?_⟩
  refine⟨_,Y,_,Y,x,_,_,_,_,v,rs,Y,hP,hR,⟨m_ hn (by decide),λr hr=>m_ (hm r hr) (by decide)⟩,λhk H1 s1=>?_,k3⟩;have hR1:=hR.same s1;have hsg:=hP.sig;have hrr:∀r∈rs,Of T1.1 r/\r.cps.size<=7:=λr hr=>⟨hk r hr,hm r hr⟩;have big:∀a:Nat,a<=2000->a<x_:=λa h=>t_ h (by decide);refine⟨λσ H'=>∃la,σ=[some (.ref x),some v,some tv,some (.ref la),none,none,none,none,none]/\ai H H'/\H la=none/\H' la=some (.lst []),⟨a_,λla hla=>⟨la,Y,s1.trans (ai.upd hla),ai.free s1 hla,af⟩⟩,?_⟩;rintro σ H2 ⟨la,rfl,s2,fla,e2⟩;refine⟨λσ H'=>LL λv4 v5 v6 p0 R N=>σ=[some (.ref x),some v,some tv,some (.ref la),v4,v5,v6,none,none]/\ai H H'/\H' la=some (.lst [.ref p0])/\xy K p.aM H' p0 R N/\Lay T1 rs t R N/\ua [t] [] rs.length,?_,?_⟩
  ·refine⟨_,Y,_,Y,v,rs.length,Y,(hR.same s2).len,tv,t,rs.length,Y,cQ.same s2 hT,by omega,hz,λgd lo H3 s3 hlo=>?_,λno H' s'=>k2 hk no H' (s2.trans s')⟩;refine⟨lo,Y,⟨_,bD.of hlo⟩,?_⟩;have hok:t.ok=true:=gd.ok t (w_.mpr rfl);have QY:t.leaves.length=rs.length:=by
    have:=gd.all;simpa using this
   have Uc:Dt t.order []=some [t]:=by
    have:=uG (t:=t) (vs:=[]) (st:=[]) hok
    rwa [qbh]at this
   have nlo:lo≠la:=λz=>by
    rw[z,s3 _ _ e2]at hlo;have e:([]:List V)=t.order:=by injection hlo with hlo;injection hlo
    rw[←e]at Uc;cases Uc
   refine qR (xs:=t.order) (λi σ H4=>EW λv4 v5 v6 st ps=>σ=[some (.ref x),some v,some tv,some (.ref la),v4,v5,v6,none,none]/\ai H H4/\H4 la=some (.lst ps)/\Wo la H4 lo=some (.lst t.order)/\Paired (CY K p.aM T1 rs (Wo la H4)) st.reverse ps/\Dt (t.order.drop i) st=some [t])
    ⟨_,_,_,[],[],rfl,s2.trans s3,s3 _ _ e2,Wo.in nlo hlo,.nil,Uc⟩ (λi σ H4 hi ⟨_,_,_,_,_,_,_,_,q,_⟩=>bD.of (Wo.sub _ _ q)) ?_ ?_
   ·rintro i y σ H4 hy ⟨v4,v5,v6,st,ps,rfl,s4,e4,Zc,OP,r4⟩;have il:i<t.order.length:=(p_.mp hy).1;have ey:t.order.drop i=y::t.order.drop (i+1):=by
     rw[qbs il];rw[e_ il]at hy;cases hy;rfl
    rw[ey]at r4
    cases y with
    |int k =>
     have r5:Dt (t.order.drop (i+1)) (.num k::st)=some [t]:=r4;have kt:k∈t.leaves:=by
      have:=(qH r5).subset (a:=k) (by rw[qay,qaM];exact X_ _ (by simp[Tr.leaves]));simpa using this
     obtain⟨k0,kl⟩:=gd.lt k (by simpa using kt);obtain⟨kn,rfl⟩:∃kn:Nat,k=(kn:Int):=⟨_,(qas k0).symm⟩;obtain⟨r,PN⟩:∃r,rs[kn]? =some r:=⟨_,e_ (by omega)⟩;have hrm:=u_ PN;refine⟨_,Y,Y,_,Y,jN ?_⟩;refine⟨_,Y,.inl ⟨Y,_,bD.of e4⟩,_,Y,b_,λl hl=>?_⟩;have s5:=ai.upd (o:=.lst [.int (kn:Int)]) hl;have l5:upd H4 l (.lst [.int (kn:Int)]) l=some (.lst ([(kn:Int)].map V.int)):=af;generalize upd H4 l (.lst [.int (kn:Int)])=H5 at s5 l5 ⊢;have one:=MV hsg (hk r hrm) (hm r hrm);refine⟨_,Y,_,Y,(hR.same (s4.trans s5)).ix PN ⟨r,Y,m_ (hm r hrm) (by decide),λ_ b H6 s6 nb hB=>⟨c_,λq hq=>?_⟩,λz=>by rw[one.bk]at z;cases z⟩⟩;have s7:=ai.upd (o:=.tup [.ref l,.ref b]) hq;have q7:upd H6 q (.tup [.ref l,.ref b]) q=some (.tup [.ref l,.ref b]):=af;generalize upd H6 q (.tup [.ref l,.ref b])=H7 at s7 q7 ⊢;have Y4:=s5.trans (s6.trans s7);have e7:=Y4 _ _ e4;have pl:ps.length<=100:=by
      have a:=Dg OP;have b:=(qH r4).length_le;rw[show([t].reverse.flatMap Tr.leaves)=t.leaves by simp]at b;omega
     refine⟨la,ps,.ref q,Y,Y,e7,big _ (by omega),_,_,_,.num (kn:Int)::st,ps++[.ref q],Y,ai.at (s4.trans Y4) fla,af,by rw[Wo.set];exact Wo.same Y4 _ _ Zc,?_,r5⟩;rw[Wo.set,qay];exact GP.Paired.snoc (Paired.oO OP λa b h=>h.same (Wo.same Y4)) ⟨q,_,_,Y,xy.wo e7 (Fl OP) (List.cons_ne_nil _ _) ⟨l,b,q7,(s6.trans s7) _ _ l5,hB.same s7⟩,Lay.num PN⟩
    |gE =>
     match st,r4,OP with
     |[],r4,_=>cases r4
     |[_],r4,_=>cases r4
     |rt::lt::st,r4,OP =>
     have r5:Dt (t.order.drop (i+1)) (.pair lt rt::st)=some [t]:=r4;refine⟨_,Y,Y,_,Y,pG ?_⟩;rw[qay,qay]at OP;obtain⟨ps1,vr,rfl,Wr,p2,R2,N2,rfl,ld2,QK⟩:=p7 OP;obtain⟨ps2,vl,rfl,Y3,p1,R1,N1,rfl,ld1,QL⟩:=p7 Wr;have hlen:N1.length+N2.length<=rs.length:=by
      have:=(qH r5).length_le;rw[QL.leaves,QK.leaves,←QY];rw[qay,qaM,o_]at this;simp[Tr.leaves]at this;omega
     refine⟨_,Y,.inl ⟨Y,_,bD.of e4⟩,la,_,.ref p2,Y,Y,e4,by simp,?_⟩;rw[List.dropLast_concat];refine⟨_,Y,.inl ⟨Y,_,bD.of af⟩,la,_,.ref p1,Y,Y,af,by simp,?_⟩;rw[List.dropLast_concat];have s6:ai H (upd (upd H4 la (.lst (ps2++[.ref p1]))) la (.lst ps2)):=ai.at (ai.at s4 fla) fla;have e6:upd (upd H4 la (.lst (ps2++[.ref p1]))) la (.lst ps2) la=some (.lst ps2):=af;have w6:Wo la (upd (upd H4 la (.lst (ps2++[.ref p1]))) la (.lst ps2))=Wo la H4:=by rw[Wo.set,Wo.set]
     generalize upd (upd H4 la (.lst (ps2++[.ref p1]))) la (.lst ps2)=H6 at s6 e6 w6 ⊢;rw[←w6]at ld1 ld2 Zc Y3;refine⟨_,Y,.inl ⟨Y,_,bD.of e6⟩,_,Y,_,Y,_,Y,x,p1,p2,T1,R1,R2,N1,N2,_,_,_,_,Y,hP.same s6,ld1.same Wo.sub,ld2.same Wo.sub,QL.bk hsg hrr,QK.bk hsg hrr,by omega,by omega,by omega,λq R H7 s7 hj Zv=>?_⟩;have e7:=s7 _ _ e6;have pl:ps2.length<=100:=by
      have a:=Dg Y3;have b:=(qH r5).length_le;rw[show([t].reverse.flatMap Tr.leaves)=t.leaves by simp,qay,qaM,o_]at b;omega
     have hly:=Lay.pair QL QK hj;refine⟨la,ps2,.ref q,Y,Y,e7,big _ (by omega),_,_,_,.pair lt rt::st,ps2++[.ref q],Y,ai.at (s6.trans s7) fla,af,by rw[Wo.set];exact Wo.same s7 _ _ Zc,?_,r5⟩;rw[Wo.set,qay];exact GP.Paired.snoc (Paired.oO Y3 λa b h=>h.same (Wo.same s7)) ⟨q,_,_,Y,xy.wo e7 (Fl Y3) hly.ne Zv,hly⟩
    |str _=>cases r4
    |IE _=>cases r4
    |Q7 _=>cases r4
    |bl _=>cases r4
    |ref _=>cases r4
    |ty _=>cases r4
   ·rintro σ H4 ⟨v4,v5,v6,st,ps,rfl,s4,e4,Zc,OP,r4⟩;rw[List.drop_length]at r4;cases r4
    match ps,OP with
    |[_],.cons ⟨p0,R,N,rfl,ld,ly⟩ .nil=>exact⟨_,_,_,p0,R,N,Y,s4,e4,ld.same Wo.sub,ly,gd⟩
  rintro σ H3 ⟨v4,v5,v6,p0,R,N,rfl,s3,e3,⟨ln,b,hp0,XH,hB⟩,ly,gd⟩;refine⟨λσ H'=>σ=[some (.ref x),some v,some tv,some (.ref la),v4,v5,v6,some (.ref ln),none]/\H3=H',⟨_,Y,la,_,_,_,Y,Y,bD.of e3,Y,p0,_,_,_,Y,Y,fq.of hp0,Y,Y,Y⟩,?_⟩;rintro σ _ ⟨rfl,rfl⟩;refine⟨λσ H'=>σ=[some (.ref x),some v,some tv,some (.ref la),v4,v5,v6,some (.ref ln),some (.ref b)]/\H3=H',⟨_,Y,la,_,_,_,Y,Y,bD.of e3,Y,p0,_,_,_,Y,Y,fq.of hp0,Y,Y,Y⟩,?_⟩;rintro σ _ ⟨rfl,rfl⟩;obtain⟨dx,qb,hb,hq⟩:=hB;have X0:=ly.bk hsg hrr;have ZE:N=t.leaves:=ly.leaves;have hN5:N.length<=5:=by
   have:=gd.all;rw[ZE];simp at this;omega
  have hRl:R.length=N.length:=X0.len;have hnd:N.Nodup:=by
   have:=gd.nd;rw[ZE];simpa using this
  refine⟨_,Y,_,Y,b,_,_,_,_,Y,hb,T.gf,T.bY,jL,?_⟩;refine⟨.lst ln,.tup qb,N,R,Y,bD.of XH,hq,hRl,by omega,hnd,λl H4 ps key yM s4 e4 Zp pm pw=>?_⟩;have pl:ps.length=N.length:=by
   have:=pm.length_eq;rw[g_,List.length_zip]at this;omega
  refine⟨l,Y,⟨_,bD.of e4⟩,λl2 hl2=>?_⟩;refine m5 ps.length (λi=>V.str (key (ps.getD i 0)).2) hl2 (big _ (by omega)) (λi H5 s5 hi=>?_) (λH5 s5=>?_) (λi y H5 H6 R' s5 hi hy PR=>?_) λH5 s5 QZ=>?_
  ·exact⟨_,_,bD.of (s5 _ _ e4),by rw[n_,e_ hi];rfl⟩
  ·exact⟨_,bD.of (s5 _ _ e4),by rw[g_];exact k_ _⟩
  ·obtain⟨rfl,hy⟩:=hy;have e:=hy _ (bD.of (s5 _ _ e4));rw[n_,e_ hi]at e;cases e;have e3:ps.getD i 0=ps[i]:=by rw[C_,e_ hi,qaV]
   have hm:=Zp _ (Q_ hi);refine⟨_,_,Y,fq.of (s5 _ _ hm),Y,?_⟩;rw[e3]at PR;exact⟨_,_,Y,_,_,Y,Y,Kp.rep _ _,_,Y,PR _ (ai.refl _)⟩
  ·intro o JN ho hdx VM;have e:(K_ ps.length).map (λi=>V.str (key (ps.getD i 0)).2)=((ps.map key).map (·.2)).map V.str:=by
    refine qa7 (by simp) λi h1 h2=>?_;have hi:i<ps.length:=by simpa using h1
    simp[C_,e_ hi]
   rw[e]at QZ;have s35:ai H H5:=s3.trans (ai.trans s4 s5);have s6:ai H5 (upd (upd H5 JN (.own o)) o (.ins p.aM JN [])):=ai.at (ai.upd hdx) ho;have pR:((ps.map key).map (·.2)).Perm R:=by
    have:=pm.map (·.2)
    rwa [List.map_snd_zip (by omega)]at this
   have hbS:=IG pR X0.bk;refine⟨o,JN,_,_,Y,af,⟨l2,Y,.inl (bD.of (s6 _ _ QZ))⟩,⟨by rw[g_,g_];omega,λr hr=>m_ (X0.w r (pR.mem_iff.mp hr)) (by omega)⟩,λ_ H7 h7 hB7=>⟨Y,k1 hk gd o R N (ps.map key) H7 (λa u ha=>?_) ly pm (by rw[qam];exact pw) hB7⟩,λz=>by rw[hbS]at z;cases z⟩;have ha5:=s35 _ _ ha;exact h7 _ _ (s6 _ _ ha5) (λz=>by rw[z,ho]at ha5;cases ha5)
end
section
variable{P:A_}{w:U_}{K:PySem.W.Frag}{mg:r_->Option i_}{base:qab}
theorem zU {gW:h_}{fL:F_}{p:Pm}(T:Txt K mg p w)(bL:Dn K mg "_law_laid" o9 l8 gW fL)  :aF P w K mg base cM 9 gW fL l8 (yE K p.aq p.aM 0):=by
 refine bL.fn.ok k8 (λvs H Q E h=>?_) (λcdv A outer s H vs Q E hr h=>?_)
 ·obtain⟨x,l,T1,rs,t,tv,rfl,_⟩:=h;rfl
 ·obtain⟨x,l,T1,rs,t,tv,rfl,hP,hl,hr',ht,hok,hd,hn,hk,kk⟩:=h;refine⟨_,(aj (cL (gi (aD (jE) Y T.bW bJ (aa (pv 2) (aa (oN (v:=.ty "int") Y T.LU IF Y) ah)))) (ak (aN (dB (aa (dU (aa (aT bf (pv 1) (pv 2) (λ_ _=>rfl)) ah)) (aa (dU (aa (pv 2) ah)) ah))))) aY)
   (aj zH
   (aj zH
   (ak zH)))),?_⟩
  cases t with
  |pair l r=>exact absurd hd (Nat.not_succ_le_zero _)
  |odd=>cases hok
  |num n =>
   obtain rfl:tv= .int n:=ht;obtain⟨k0,kl⟩:=hk n (w_.mpr rfl);obtain⟨kn,rfl⟩:∃kn:Nat,n=(kn:Int):=⟨_,(qas k0).symm⟩;obtain⟨r,PN⟩:∃r,rs[kn]? =some r:=⟨_,e_ (by omega)⟩;refine⟨_,Y,_,_,_,_,Y,.int (kn:Int),qM,_,Y,pG ?_⟩;refine⟨_,Y,_,Y,l,_,_,_,Y,Y,bD.of hl,bM (by rw[n_,PN];rfl),b_,λa ha=>⟨_,Y,b_,λb hb=>⟨c_,λq hq=>?_⟩⟩⟩;have s1:=ai.upd (o:=.lst [.str r]) ha;have s2:=ai.upd (o:=.lst [.int (kn:Int)]) hb;have s3:=ai.upd (o:=.tup [.ref a,.ref b]) hq;exact kk q a b [r] [(kn:Int)] _ (s1.trans (s2.trans s3)) af (s3 _ _ (s2 _ _ af)) (s3 _ _ af) (Lay.num PN)
theorem kG {d:Nat}{gW mq aH:h_}{fL jV aV:F_}{p:Pm}(T:Txt K mg p w)(bL:Dn K mg "_law_laid" o9 l8 gW fL)(rN:aF P w K mg base cM (d+9) gW fL l8 (yE K p.aq p.aM d))(eO:Dn K mg "joined" sE LJ mq jV)(AU:aF P w K mg base cM 8 mq jV LJ (zl K p.aq p.aM))(aO:Dm K "__init__" "Block.__init__" bS LI aH aV)(gJ:Mk K p.aM aH)(cZ:aF P w K mg base cM 5 aH aV LI (nv (vq K p.aM p.bN))):aF P w K mg base cM (d+10) gW fL l8 (yE K p.aq p.aM (d+1)):=by
 refine bL.fn.ok k8 (λvs H Q E h=>?_) (λcdv A outer s H vs Q E hr h=>?_)
 ·obtain⟨x,l,T1,rs,t,tv,rfl,_⟩:=h;rfl
 ·obtain⟨x,l,T1,rs,t,tv,rfl,hP,hl,hr',ht,hok,hd,hn,hk,kk⟩:=h;refine⟨_,(aj (cL (gi (aD (jE) Y T.bW bJ (aa (pv 2) (aa (oN (v:=.ty "int") Y T.LU IF Y) ah)))) (ak (aN (dB (aa (dU (aa (aT bf (pv 1) (pv 2) (λ_ _=>rfl)) ah)) (aa (dU (aa (pv 2) ah)) ah))))) aY)
   (aj (wF (az rN (hr.mono (by omega)) rfl bL.m bL.fn.kp bL.b .nil aP (aa (pv 0) (aa (pv 1) (aa (aT cS (pv 2) ao (λ_ _=>rfl)) ah)))) (sH (n:=2) rfl (fu (Z9Y 3 k8.nd) (fu (Z9Y 4 k8.nd) p6))))
   (aj (wF (az rN (hr.mono (by omega)) rfl bL.m bL.fn.kp bL.b .nil aP (aa (pv 0) (aa (pv 1) (aa (aT cS (pv 2) ao (λ_ _=>rfl)) ah)))) (sH (n:=2) rfl (fu (Z9Y 5 k8.nd) (fu (Z9Y 6 k8.nd) p6))))
   (ak (aN (dB (aa (g7 (mw) rfl T.yR vR (aa (bz (az AU (hr.mono (by omega)) rfl eO.m eO.fn.kp eO.b .nil aP (aa (pv 0) (aa (rE gJ cZ (hr.mono (by omega)) rfl T.qL aO.b .nil aP (aa (pv 3) ah)) (aa (rE gJ cZ (hr.mono (by omega)) rfl T.qL aO.b .nil aP (aa (pv 5) ah)) ah)))) rfl) ah)) (aa (aL DF (pv 4) (pv 6)) ah)))))))),?_⟩
  cases t with
  |odd=>cases hok
  |num n =>
   obtain rfl:tv= .int n:=ht;obtain⟨k0,kl⟩:=hk n (w_.mpr rfl);obtain⟨kn,rfl⟩:∃kn:Nat,n=(kn:Int):=⟨_,(qas k0).symm⟩;obtain⟨r,PN⟩:∃r,rs[kn]? =some r:=⟨_,e_ (by omega)⟩;refine⟨_,Y,_,_,_,_,Y,.int (kn:Int),qM,_,Y,pG ?_⟩;refine⟨_,Y,_,Y,l,_,_,_,Y,Y,bD.of hl,bM (by rw[n_,PN];rfl),b_,λa ha=>⟨_,Y,b_,λb hb=>⟨c_,λq hq=>?_⟩⟩⟩;have s1:=ai.upd (o:=.lst [.str r]) ha;have s2:=ai.upd (o:=.lst [.int (kn:Int)]) hb;have s3:=ai.upd (o:=.tup [.ref a,.ref b]) hq;exact kk q a b [r] [(kn:Int)] _ (s1.trans (s2.trans s3)) af (s3 _ _ (s2 _ _ af)) (s3 _ _ af) (Lay.num PN)
  |pair tl tr =>
   obtain⟨q,y1,y2,rfl,hq,htl,htr⟩:=(show oS λp x y=>tv= .ref p/\H p=some (.tup [x,y])/\cQ H tl x/\cQ H tr y from ht);have D4:(tl.ok&&tr.ok)=true:=hok;rw[qae]at D4;have hd':max tl.dep tr.dep+1<=d+1:=hd;refine⟨_,Y,_,_,_,_,Y,.tup hq,uo,_,Y,jN ?_⟩;have QY:(tl.leaves++tr.leaves).length<=5:=hn;rw[o_]at QY;have hkk:∀k∈tl.leaves++tr.leaves,0<=k/\k<(rs.length:Int):=hk;refine⟨_,Y,_,Y,_,Y,q,_,_,_,Y,Y,fq.of hq,Y,x,l,T1,rs,tl,y1,Y,hP,hl,hr',htl,D4.1,by omega,by omega,λk h=>hkk k (qaG _ h),λq1 a1 b1 R1 N1 H1 s1 e1 ea1 eb1 QL=>?_⟩;refine⟨q1,_,Y,fq.of e1,Y,_,_,Y,_,_,Y,Y,?_⟩;refine⟨_,Y,_,Y,_,Y,q,_,_,_,Y,Y,fq.of (s1 _ _ hq),Y,x,l,T1,rs,tr,y2,Y,hP.same s1,s1 _ _ hl,hr',cQ.same s1 htr,D4.2,by omega,by omega,λk h=>hkk k (X_ _ h),λq2 a2 b2 R2 N2 H2 s2 e2 ea2 eb2 QK=>?_⟩;refine⟨q2,_,Y,fq.of e2,Y,_,_,Y,_,_,Y,Y,?_⟩;have Yq:=QL.bk hP.sig hr';have Yp:=QK.bk hP.sig hr';have n1:N1.length<=5:=by rw[QL.leaves];omega
   have n2:N2.length<=5:=by rw[QK.leaves];omega
   have KW:N1.length+N2.length<=5:=by rw[QL.leaves,QK.leaves];omega
   have sm:∀{R:List r_} {n:Nat},ud T1.1 R n (7*n)->n<=5->Ob R:=λb h=>⟨by rw[b.len];omega,λr hr=>m_ (b.w r hr) (by omega)⟩;refine⟨_,Y,_,Y,λo dx ho hdx VM=>?_⟩;have s3:ai H2 (upd (upd H2 dx (.own o)) o (.ins p.aM dx [])):=ai.at (ai.upd hdx) ho;refine⟨o,dx,_,R1,Y,af,⟨a1,Y,.inl (bD.of (s3 _ _ (s2 _ _ ea1)))⟩,sm Yq n1,λ_ H4 h4 Vd=>⟨Y,?_⟩,λz=>by rw[Yq.bk]at z;cases z⟩;have s4:ai H2 H4:=λa u ha=>h4 _ _ (s3 _ _ ha) (λz=>by rw[z,ho]at ha;cases ha);refine⟨_,Y,λo2 dx2 ho2 acY afO=>?_⟩;have s5:ai H4 (upd (upd H4 dx2 (.own o2)) o2 (.ins p.aM dx2 [])):=ai.at (ai.upd acY) ho2;refine⟨o2,dx2,_,R2,Y,af,⟨a2,Y,.inl (bD.of (s5 _ _ (s4 _ _ ea2)))⟩,sm Yp n2,λ_ H6 h6 hB2=>⟨Y,?_⟩,λz=>by rw[Yp.bk]at z;cases z⟩;have s6:ai H4 H6:=λa u ha=>h6 _ _ (s5 _ _ ha) (λz=>by rw[z,ho2]at ha;cases ha);refine⟨x,o,o2,T1.1,T1.2.1,T1.2.2.1,T1.2.2.2,R1,R2,Y,hP.same (s1.trans (s2.trans (s4.trans s6))),Vd.same s6,hB2,Yq.sm (by omega) (by omega),Yp.sm (by omega) (by omega),Yq.bk,Yp.bk,λr hr=>?_,λbb H7 cs s7 hb hF hB=>?_⟩
   ·rcases S_.mp hr with z|z
    ·exact Yq.kn r z
    ·exact Yp.kn r z
   obtain⟨R,hJ,dx7,qb,X3,VT⟩:∃R,Jn T1 R1 R2 R/\yP K p.aM H7 bb R:=⟨_,⟨cs,hF,rfl⟩,hB⟩;refine⟨bb,_,_,_,_,Y,X3,T.gf,T.bY,jL,qb,_,Y,.inr VT,λa ha=>?_⟩;have s8:=ai.upd (o:=.lst (R.map V.str)) ha;have s28:=s4.trans (s6.trans (s7.trans s8));refine⟨_,Y,_,Y,b1,b2,_,_,Y,Y,s28 _ _ (s2 _ _ eb1),s28 _ _ eb2,m_ (show(N1.map V.int).length+(N2.map V.int).length<=100 by rw[g_,g_];omega) (by decide),λb hb=>⟨c_,λq3 hq3=>?_⟩⟩;have s9:=ai.upd (o:=.lst (N1.map V.int++N2.map V.int)) hb;have zC:=ai.upd (o:=.tup [.ref a,.ref b]) hq3;refine kk q3 a b R (N1++N2) _ (s1.trans (s2.trans (s28.trans (s9.trans zC)))) af (zC _ _ (s9 _ _ af)) ?_ (Lay.pair QL QK hJ);rw[N_];exact zC _ _ af
end
section
variable{P:A_}{w:U_}{K:PySem.W.Frag}{mg:r_->Option i_}{base:qab}
theorem zT {jh jZ:h_}{ic iQ:F_}{p:Pm}(T:Txt K mg p w)(bU:Dn K mg "_law_refused" ny l8 jh ic)(cK:Dn K mg "laid_by" qF UJ jZ iQ)(qZ:aF P w K mg base (rY P w) 10 jZ iQ UJ (vo K p.aq p.aM p.aC p.aE)):aF P w K mg base cM 11 jh ic l8 (Mq K p.aq):=by
 refine bU.fn.ok g6 (λvs H Q E h=>?_) (λcdv A outer s H vs Q E hr h=>?_)
 ·obtain⟨x,l,T1,tv,rs,t,rfl,_⟩:=h;rfl
 ·obtain⟨x,l,T1,tv,rs,t,rfl,hP,hl,hn,hm,ht,hz,hh⟩:=h;refine⟨_,(aj (Z9X 3 g6.nd Dz)
   (bu (Uj Vg (λ_ _ _ LT PO=>(ak (ck (MQ qZ (hr.mono (by decide)) rfl cK.m cK.fn.kp cK.b .nil LT (aa (pv 0) (aa (pv 1) (aa (pv 2) ah))))))) (WI (i:=5) g6.nd rfl rfl rfl T.ug T.Bc (λea=>(ak (Z9X 3 g6.nd (pv 5)))) Uo))
   (aj (cL (PW.pt (zG (gi (aD (nI) rfl T.bW bJ (aa (pv 3) (aa (c8 (v:=.ref p.aE) rfl T.wN rfl) ah)))) (yH (mP (gi (aD (nI) rfl T.bW bJ (aa (pv 3) (aa (c8 (v:=.ref p.aC) rfl T.oW rfl) ah)))))))) (ak (aN (dB (aa c9 (aa (Jy (pv 3) rfl) (aa (Jy (pv 3) rfl) ah)))))) aY)
   (aj (Z9X 4 g6.nd (aD (uu) rfl T.bW bJ (aa (pv 3) (aa (dB (aa (c8 (v:=.ref p.bN) rfl T.pF rfl) (aa (c8 (v:=.ref p.iU) rfl T.F8 rfl) (aa (c8 (v:=.ref p.iT) rfl T.F7 rfl) (aa (c8 (v:=.ref p.mJ) rfl T.K5 rfl) (aa (c8 (v:=.ref p.mH) rfl T.K4 rfl) ah)))))) ah))))
   (aj (Z9X 4 g6.nd (WJ (pv 4) (Dy (aD (uu) rfl T.bW bJ (aa (pv 3) (aa (dB (aa (c8 (v:=.ref p.kr) rfl T.Ic rfl) (aa (c8 (v:=.ref p.iS) rfl T.F6 rfl) (aa (c8 (v:=.ref p.oV) rfl T.M4 rfl) (aa (c8 (v:=.ref p.aE) rfl T.wN rfl) (aa (c8 (v:=.ref p.mG) rfl T.K3 rfl) ah)))))) ah))))))
   (aj (cL (PW.pt (zG (gi (aD (nI) rfl T.bW bJ (aa (pv 3) (aa (c8 (v:=.ref p.aC) rfl T.oW rfl) ah)))) (zG (gi (aD (nI) rfl T.bW bJ (aa (pv 3) (aa (oN (v:=.ty "ValueError") rfl T.C8 BG rfl) ah)))) (yH (mP (gi (pv 4))))))) (ak (aN (dB (aa c9 (aa ao (aa ao ah)))))) aY)
   (ak (aN (dB (aa c9 (aa ao (aa ao ah)))))))))))),?_⟩
  rcases hh with⟨hO,hG,k⟩|⟨i,j,hBd,k⟩
  ·refine⟨λσ' H'=>ai H H'/\dI λea v5=>σ'=[some (.ref x),some (.ref l),some tv,some (.ref ea),none,v5]/\H' ea=some (NJ ea (.ref p.aC) none),?_,?_⟩
   ·refine⟨_,Y,_,Y,_,Y,x,T1,_,tv,rs,t,Y,hP,⟨l,Y,.inl (bD.of hl)⟩,hn,hm,ht,hz,λ_ g=>absurd g hG,λ_ _ H2 s2=>?_,λi j hB=>absurd hO hB.no⟩;exact⟨_,_,Y,T.sR,pG λea Zx=>⟨_,Y,s2.trans (ai.upd Zx),ea,_,Y,af⟩⟩
   rintro σ' H1 ⟨s1,ea,v4,rfl,he⟩;have xt:=T.JZ;refine⟨_,Y,ea,p.aC,none,_,_,_,Y,.inl ⟨_,Y,Y⟩,he,.inl Y,xt,T.qN,_,Y,jN (jN ?_)⟩;have k5:PySem.W.kitAny K (.ref p.aC) ([p.bN,p.iU,p.iT,p.mJ,p.mH].map Value.ref)=some false:=kH T.vM (kH T.uQ (kH T.uP (kH T.wV (kH T.wU JD))));have k6:PySem.W.kitAny K (.ref p.aC) ([p.kr,p.iS,p.oV,p.aE,p.mG].map Value.ref)=some false:=kH T.vL (kH T.uO (kH T.yj (kH T.qN (kH T.wR JD))));refine⟨_,Y,by show 5<=x_;decide,λt1 ht1=>?_⟩;have s2:=ai.upd (o:=.tup ([p.bN,p.iU,p.iT,p.mJ,p.mH].map V.ref)) ht1;refine⟨ea,p.aC,none,t1,_,_,Y,af,s2 _ _ he,.inl Y,xt,k5,?_⟩;refine⟨_,Y,_,Y,jN ⟨_,Y,by show 5<=x_;decide,λt2 D3=>?_⟩⟩;have s3:=ai.upd (o:=.tup ([p.kr,p.iS,p.oV,p.aE,p.mG].map V.ref)) D3;have he3:=s3 _ _ (s2 _ _ he);refine⟨ea,p.aC,none,t2,_,_,Y,af,he3,.inl Y,xt,k6,?_⟩;refine⟨_,Y,ea,p.aC,none,_,_,_,Y,.inl ⟨_,Y,Y⟩,he3,.inl Y,xt,T.wQ,_,Y,pG ?_⟩;refine⟨_,Y,ea,p.aC,none,_,_,_,Y,.inr ⟨_,Y,Y⟩,he3,.inl Y,xt,T.sU,_,Y,pG ?_⟩;refine⟨_,Y,_,Y,xQ ⟨d_,λq hq=>?_⟩⟩;exact k q _ (s1.trans (s2.trans (s3.trans (ai.upd hq)))) af
  ·refine⟨λσ' H'=>ai H H'/\oS λea dx v5=>σ'=[some (.ref x),some (.ref l),some tv,some (.ref ea),none,v5]/\H' ea=some (NJ ea (.ref p.aE) (some dx))/\H' dx=some (AY dx (BD i j)),?_,?_⟩
   ·refine⟨_,Y,_,Y,_,Y,x,T1,_,tv,rs,t,Y,hP,⟨l,Y,.inl (bD.of hl)⟩,hn,hm,ht,hz,λz=>absurd z hBd.no,λz=>absurd z hBd.no,λj' c' hB' dx H2 s3 hd=>?_⟩;obtain⟨rfl,rfl⟩:=hBd.uniq hB';exact⟨_,_,Y,T.sS,pG λea Zx=>⟨_,Y,s3.trans (ai.upd Zx),ea,dx,_,Y,af,ai.upd Zx _ _ hd⟩⟩
   rintro σ' H1 ⟨s1,ea,dx,v4,rfl,he,hd⟩;have xt:=T.Ka;have hod:(some dx=none\/dI λJN fs=>some dx=some JN/\H1 JN=some (AY JN fs)):=.inr ⟨dx,_,rfl,hd⟩;refine⟨_,Y,ea,p.aE,some dx,_,_,_,Y,.inl ⟨_,Y,Y⟩,he,hod,xt,T.wX,_,Y,pG ?_⟩;refine⟨_,Y,ea,p.aE,some dx,_,_,_,Y,.inl ⟨_,Y,Y⟩,he,hod,xt,T.wW,_,Y,xQ ?_⟩;refine⟨_,Y,ea,_,dx,_,_,Y,he,hd,xt,T.vI,NG,_,Y,ea,_,dx,_,_,Y,he,hd,xt,T.sJ,Ir,d_,λt ht=>?_⟩;exact k t _ (s1.trans (ai.upd ht)) af
end
section
variable{P:A_}{w:U_}{K:PySem.W.Frag}{mg:r_->Option i_}{base:qab}
theorem DL {lF cg lE jY lD mW gW jZ iy mY iz jh:h_}{jT bO jS i7 jR lu fL iQ gr lz gu ic:F_}{p:Pm}(T:Txt K mg p w)(iK:Dn K mg "_law_round" pX l6 lF jT)(aJ:Dn K mg "_law_next" jz l6 cg bO)(dZ:aF P w K mg base cM 1 cg bO l6 (wm K))(iJ:Dn K mg "_law_signs" pW Ot lE jS)(GW:aF P w K mg base cM 2 lE jS Ot (Fq K))(gO:Dn K mg "_law_prices" oE Xf jY i7)(EJ:aF P w K mg base cM 7 jY i7 Xf (Ca K p.aq))(iI:Dn K mg "_law_texts" pV W0 lD jR)(GV:aF P w K mg base cM 2 lD jR W0 (Jb K))(jG:Dn K mg "_law_tree" rq Ot mW lu)(IM:aF P w K mg base cM 2 mW lu Ot (Mm K))(bL:Dn K mg "_law_laid" o9 l8 gW fL)(rN:aF P w K mg base cM 14 gW fL l8 (yE K p.aq p.aM 5))(cK:Dn K mg "laid_by" qF UJ jZ iQ)(qZ:aF P w K mg base cM 10 jZ iQ UJ (nv (vo K p.aq p.aM p.aC p.aE)))(aZ:Dn K mg "_law_block_is" lS W2 iy gr)(mE:aF P w K mg base cM 1 iy gr W2 (Jo K p.aM))(jH:Dn K mg "_law_bare" rz UK mY lz)(IP:aF P w K mg base cM 1 mY lz UK Jp)(eK:Dn K mg "_law_bad_tree" lT WZ iz gu)(AQ:aF P w K mg base cM 7 iz gu WZ My)(bU:Dn K mg "_law_refused" ny l8 jh ic)(qv:aF P w K mg base cM 11 jh ic l8 (Mq K p.aq)):aF P w K mg base cM 15 lF jT l6 (Ft K):=by
 refine iK.fn.ok bC (λvs H Q E h=>?_) (λcdv A outer s H vs Q E hr h=>?_)
 ·obtain⟨s,t,ns,k,rfl,_⟩:=h;rfl
 ·obtain⟨s,t,ns,k,rfl,hC,hk,kk⟩:=h;have k0:=hC.k0;refine⟨_,(bu (Z9X 2 bC.nd (gc dZ hr aJ (aa (pv 0) (aa (pv 1) ah))))
   (bu (Z9X 3 bC.nd (aL gj ao (aL dg (pv 2) ao)))
   (bu (Z9X 4 bC.nd (gc GW hr iJ (aa (pv 0) (aa (pv 1) (aa (aL gj (pv 3) ao) ah)))))
   (bu (Z9X 5 bC.nd (gc EJ hr gO (aa (pv 0) (aa (pv 1) (aa (nQ Dk (pv 4) p5 (pZ (pv 3))) (aa (tR pC (aL dg (aL gY (pv 2) ao) ao) ao (bX _)) ah))))))
   (bu (Z9X 6 bC.nd (aL gj ao (aL dg (aL gY (pv 2) ao) ao)))
   (bu (Z9X 7 bC.nd (gc GV hr iI (aa (pv 0) (aa (pv 1) (aa (nQ Dk (pv 4) p5 (pZ (pv 3))) (aa (pv 6) (aa ao ah)))))))
   (bu (Z9X 8 bC.nd (gc IM hr jG (aa (pv 0) (aa (pv 1) (aa (pv 6) ah)))))
   (bu (wF (gc rN hr bL (aa (pv 5) (aa (pv 7) (aa (pv 8) ah)))) (sH (n:=2) rfl (fu (aQ (i:=9) bC.nd rfl (Or.inr rfl)) (fu (aQ (i:=10) bC.nd rfl (Or.inr rfl)) p6))))
   (bu (rD (i:=11) (N:=l57) bC.nd rfl (Or.inl rfl) rfl (cG.qQ (nt:=1) (ix:=[9,10]) rfl (by decide +kernel) (by decide +kernel) (by kernel_rfl) rfl (by kernel_rfl)) (jM rfl T.m8 (aa (pv 6) ah)) (λ_ _ _ _ _ _ _=>(aQ (i:=0) (show(l57:List r_).Nodup by decide +kernel) rfl (Or.inl rfl))) (λ_ _ _ _ _ _ _=>(aT (Nb (K':=K) rfl) (pv 1) (Ur (K':=K) rfl PySem.F.plainAttrs_list PySem.F.slot_list_index PySem.F.type_list_index KZ (pv 2) (aa (pv 0) ah)) (λ_ _=>rfl))))
   (bu (Z9X 13 bC.nd (g7 (mw) rfl T.yR vR (aa (pv 7) ah)))
   (bu (Z9X 14 bC.nd (gc qZ hr cK (aa (pv 5) (aa (pv 13) (aa (pv 8) ah)))))
   (bu (cL (PW.pt (Jt (mP (gi (gc mE hr aZ (aa (pv 14) (aa (pv 11) ah))))) (Du (bx (MT (qbg (oh hr))) (iN (N:=UK) rfl (λ_=>⟨[],cG.plain (by decide +kernel) rfl (by decide +kernel) (by decide +kernel)⟩) (vB (bz (pv 14) rfl)) (λ_ _ _ _ _ _ _=>(aQ (i:=0) (show(UK:List r_).Nodup by decide +kernel) rfl (Or.inl rfl))) (λ_ _ _ _ _ _ _=>(gc IP hr jH (aa (pv 0) ah)))) (pv 7) (bX _))))) (ak (aN vC)) aY)
   (bu (ck (mK PySem.F.plainAttrs_list PySem.F.slot_list_append PySem.F.type_list_append gm (pv 13) (aa c9 ah)))
   (bu (cL (PW.pt (Jt (mP (gi (gc mE hr aZ (aa (gc qZ hr cK (aa (pv 5) (aa (g7 (mw) rfl T.yR vR (aa (pv 7) ah)) (aa (pv 8) ah)))) (aa (pv 11) ah))))) (Du (mP (gi (gc mE hr aZ (aa (pv 14) (aa (pv 11) ah)))))))) (ak (aN vC)) aY)
   (bu (cL (PW.pt (Jt (mP (gi (gc mE hr aZ (aa (gc qZ hr cK (aa (pv 5) (aa (g7 (kJ) rfl T.oj mz (aa (pv 7) ah)) (aa (pv 8) ah)))) (aa (pv 11) ah))))) (Du (bx (MT (qbg (oh hr))) (nQ yF (pv 13) p5 (pZ (Cj wc ao))) (pv 7) (bX _))))) (ak (aN vC)) aY)
   (bu (Z9X 15 bC.nd (gc AQ hr eK (aa (gc dZ hr aJ (aa (pv 0) (aa (pv 1) ah))) (aa (pv 8) (aa (pv 6) ah)))))
   (bu (cL (bx (HL (qbg (oh hr))) (gc qv hr bU (aa (pv 5) (aa (g7 (mw) rfl T.yR vR (aa (pv 7) ah)) (aa (pv 15) ah)))) (dB (aa c9 (aa ao (aa ao ah)))) (bX _)) (ak (aN vC)) aY)
   (bu (cL (bx (HL (qbg (oh hr))) (gc qv hr bU (aa (pv 5) (aa (dU ah) (aa ao ah)))) (dB (aa c9 (aa ao (aa ao ah)))) (bX _)) (ak (aN vC)) aY)
   (bu (Z9X 16 bC.nd (gc dZ hr aJ (aa (pv 0) (aa (pv 1) ah))))
   (bu (Z9X 17 bC.nd (aL dg (pv 16) (pv 6)))
   (bu (Z9X 12 bC.nd (aL dg (aL gY (pv 16) ao) (aL gj (aD (aU) rfl T.dm b3 (aa (aT bf (pv 7) (pv 17) (λ_ _=>rfl)) ah)) ao)))
   (bu (Z9X 18 bC.nd (g7 (mw) rfl T.yR vR (aa (pv 7) ah)))
   (bu (wF (aL kU (aL kU (nQ Dk (aT bf (pv 7) (pv 17) (λ_ _=>rfl)) p5 (pZ (pv 12))) (aT bf (dU (aa (aT Ao (pv 4) (pv 3) (λ_ _=>rfl)) (aa c9 ah))) (aL dg (aL gY (pv 16) ao) ao) (λ_ _=>rfl))) (nQ Dk (aT bf (pv 7) (pv 17) (λ_ _=>rfl)) (pZ (pv 12)) p5)) (HE (pv 18) (pv 17) set_list))
   (ak (aN (tR (MU (qbg (oh hr))) (gc qv hr bU (aa (pv 5) (aa (pv 18) (aa (aT bf (dU (aa (pv 8) (aa (pv 15) ah))) (aL dg (aL gY (pv 16) ao) ao) (λ_ _=>rfl)) ah)))) (dB (aa c9 (aa (pv 17) (aa (pv 12) ah)))) (bX _))))))))))))))))))))))))))),?_⟩
  let Z:List (Option V)->St:=λl=>some (.ref s)::some (.ref t)::l++P_ (17-l.length) none
  refine⟨λσ' H'=>∃m:Int,0<=m/\ai (Wo t H) (Wo t H')/\H' t=some (.lst [.int (k+1)])/\σ'=Z [some (.int m)],?_,?_⟩
  ·exact⟨_,Y,_,Y,s,t,ns,k,Y,hC,by omega,λm h1 h2=>⟨m,h1,by rw[Wo.set];exact ai.refl _,af,Y⟩⟩
  rintro σ' H1 ⟨m,hm,w1,ht1,rfl⟩;have C1:xB K H1 s t ns (k+1):=hC.off w1 ht1 (by omega);have m1:=qai m (show(4:Int)≠0 by decide);have m2:=Z_ m (show(0:Int)<4 by decide);obtain⟨ng,hng⟩:∃ng:Nat,1+m % 4=(ng:Int):=⟨(1+m % 4).toNat,by omega⟩;refine⟨λσ' H'=>H'=H1/\σ'=Z [some (.int m),some (.int (ng:Int))],?_,?_⟩
  ·refine⟨_,Y,_,_,Y,Y,(by show(0:Int)<4;decide),_,_,Y,Y,Y,?_⟩;rw[←hng];rfl
  rintro σ' H1 ⟨rfl,rfl⟩;refine⟨λσ' H'=>∃S:r_,S.cps.size=ng+1/\(∀c∈S.cps.toList,kR c=true)/\S.cps.toList.Nodup/\ai (Wo t H) (Wo t H')/\H' t=some (.lst [.int (k+2)])/\σ'=Z [some (.int m),some (.int (ng:Int)),some (.str S)],?_,?_⟩
  ·refine⟨_,Y,_,Y,_,Y,_,_,Y,Y,s,t,ns,k+1,ng+1,Y,C1,by omega,by omega,λS H2 hS hSs ZC s2=>?_⟩;exact⟨S,hS,hSs,ZC,w1.trans (Wo.step s2),by rw[s2 _ _ af,show k+1+1=k+2 by omega],Y⟩
  rintro σ' H2 ⟨S,hS,hSs,ZC,w2,D3,rfl⟩;have C2:xB K H2 s t ns (k+2):=hC.off w2 D3 (by omega);have hzS:S.length<=x_:=m_ (show S.cps.size<=100 by omega) (by decide);obtain⟨sg,UZ⟩:∃sg,Txt.slice S none (some (ng:Int))=sg:=⟨_,rfl⟩;have hsg:sg.cps.toList=S.cps.toList.take ng:=by rw[←UZ];exact Fz S ng
  have hsz:sg.cps.size=ng:=by rw[←s_,hsg,qaC,s_];omega
  have hjn:ng<S.cps.toList.length:=by rw[s_];omega
  have ZD:uv sg:=⟨by omega,by omega,λc hc=>hSs c (by rw[hsg]at hc;exact qcm hc),by rw[hsg];exact List.Nodup.sublist (List.take_sublist _ _) ZC⟩;refine⟨λσ' H'=>EW λx k3 rows fo fm=>lM K p.aq (Wo t H') x sg rows fo fm/\ai (Wo t H) (Wo t H')/\H' t=some (.lst [.int k3])/\Kb k k3 300/\σ'=Z [some (.int m),some (.int (ng:Int)),some (.str S),some (.ref x)],?_,?_⟩
  ·refine⟨_,Y,_,Y,_,Y,_,Y,_,Y,S,Y,hzS,_,Y,_,_,Y,Y,⟨by decide,by decide⟩,_,_,Y,Y,(by show(0:Int)<2;decide),Y,s,t,ns,k+2,sg,_,(by rw[←UZ];rfl),C2,by omega,ZD,by omega,λx H' k' rows fo fm hP hxn w3 Zn b1 b2=>?_⟩;exact⟨x,k',rows,fo,fm,hP,w2.trans w3,Zn,⟨by omega,by omega⟩,Y⟩
  rintro σ' H4 ⟨x,k3,rows,fo,fm,hP,w4,JH,B3,rfl⟩;have C4:xB K H4 s t ns k3:=hC.off w4 JH (B3.lo k0);have m3:=qai (m / 8) (show(5:Int)≠0 by decide);have m4:=Z_ (m / 8) (show(0:Int)<5 by decide);obtain⟨n,hn⟩:∃n:Nat,1+m / 8 % 5=(n:Int):=⟨(1+m / 8 % 5).toNat,by omega⟩;refine⟨λσ' H'=>H'=H4/\σ'=Z [some (.int m),some (.int (ng:Int)),some (.str S),some (.ref x),some (.int (n:Int))],?_,?_⟩
  ·refine⟨_,Y,_,_,Y,Y,⟨by decide,by decide⟩,_,_,Y,Y,(by show(0:Int)<5;decide),_,_,Y,Y,Y,?_⟩;rw[←hn];rfl
  rintro σ' H4 ⟨rfl,rfl⟩;have n0:0<n:=by omega
  have n5:n<=5:=by omega
  obtain⟨B31,B32⟩:=B3;refine⟨λσ' H'=>oS λ(lr:h_) (rs:List r_) (k5:Int)=>rs.length=n/\(∀r∈rs,Of sg r/\r.cps.size<=6)/\Wo t H' lr=some (.lst (rs.map V.str))/\ai (Wo t H4) (Wo t H')/\H' t=some (.lst [.int k5])/\Kb k k5 500/\σ'=Z [some (.int m),some (.int (ng:Int)),some (.str S),some (.ref x),some (.int (n:Int)),some (.ref lr)],?_,?_⟩
  ·refine⟨_,Y,_,Y,_,Y,_,Y,_,Y,S,Y,hzS,_,Y,s,t,ns,k3,sg,n,6,?_,C4,by omega,by omega,by decide,by omega,by omega,λl rs H' k' hrl hrr w5 ht5 b1 b2 hl nl=>?_⟩
   ·rw[←UZ];rfl
   ·exact⟨l,rs,k',hrl,hrr,Wo.in nl hl,w5,ht5,⟨by omega,by omega⟩,Y⟩
  rintro σ' H5 ⟨lr,rs,k5,hrl,U0,QZ,w5,ht5,⟨B51,B52⟩,rfl⟩;have hrr:∀r∈rs,Of sg r/\r.cps.size<=7:=λr hr=>⟨(U0 r hr).1,Nat.le_succ_of_le (U0 r hr).2⟩;have C5:xB K H5 s t ns k5:=hC.off (w4.trans w5) ht5 (by omega);refine⟨λσ' H'=>oS λ(tv:V) (u:Tr) (k6:Int)=>En K p.aq H H' t x lr k6 (sg,rows,fo,fm) rs u tv/\u.ok=true/\u.leaves.Perm (fz n)/\u.size<=2*n/\u.dep<=n/\Kb k k6 600/\σ'=Z [some (.int m),some (.int (ng:Int)),some (.str S),some (.ref x),some (.int (n:Int)),some (.ref lr),some tv],?_,?_⟩
  ·refine⟨_,Y,_,Y,_,Y,s,t,ns,k5,n,Y,C5,by omega,n0,by omega,λtv u H' k' hT hok hp hz hd w6 Zm b1 b2=>?_⟩;exact⟨tv,u,k',⟨Zm,hP.same (w5.trans w6),w6 _ _ QZ,hT,(w4.trans w5).trans w6⟩,hok,hp,hz,hd,⟨by omega,by omega⟩,Y⟩
  rintro σ' H6 ⟨tv,u,k6,I6,hok,hp,hz,hd,⟨B61,B62⟩,rfl⟩;have QY:u.leaves.length=n:=by rw[hp.length_eq];unfold fz;rw[g_,qad]
  have gd:=Vf hok hp;have gd':ua [u] [] rs.length:=by rw[hrl];exact gd
  refine⟨λσ' H'=>t9 λ(a b:h_) (R:List r_) (N:List Int)=>En K p.aq H H' t x lr k6 (sg,rows,fo,fm) rs u tv/\H' a=some (.lst (R.map V.str))/\H' b=some (.lst (N.map V.int))/\Lay (sg,rows,fo,fm) rs u R N/\σ'=Z [some (.int m),some (.int (ng:Int)),some (.str S),some (.ref x),some (.int (n:Int)),some (.ref lr),some tv,some (.ref a),some (.ref b)],?_,?_⟩
  ·refine⟨_,Y,_,Y,_,Y,x,lr,(sg,rows,fo,fm),rs,u,tv,Y,I6.Uk,I6.MD,hrr,I6.VJ,hok,by omega,by omega,λk h=>by rw[hrl];exact gd.lt k (by simpa using h),λq a b R N H7 s7 hq ha hb ly=>?_⟩;exact⟨q,_,Y,fq.of hq,Y,_,_,Y,_,_,Y,Y,a,b,R,N,I6.same s7,ha,hb,ly,Y⟩
  rintro σ' H7 ⟨a,b,R,N,I7,ha,hb,ly,rfl⟩;have hN:N.Perm (fz n):=by rw[ly.leaves];exact hp
  have bk:=ly.bk ZD hrr;have ZE:N.length=n:=by rw[ly.leaves];exact QY
  have hRl:R.length=n:=bk.len.trans ZE;have big:∀a:Nat,a<=2000->a<x_:=λa h=>t_ h (by decide);have hO:∀r∈rs,Of sg r:=λr hr=>(hrr r hr).1;have hm7:∀r∈rs,r.cps.size<=7:=λr hr=>(hrr r hr).2;obtain⟨D,hD⟩:∃D,D=Ec R N n:=⟨_,rfl⟩;have hDm:∀r∈D,r∈R:=by rw[hD];exact NP hN bk.len
  have hDl:D.length=n:=by rw[hD];exact Gr
  refine⟨λσ' H'=>∃ld,En K p.aq H H' t x lr k6 (sg,rows,fo,fm) rs u tv/\Wo t H' ld=some (.lst (D.map V.str))/\σ'=Z [some (.int m),some (.int (ng:Int)),some (.str S),some (.ref x),some (.int (n:Int)),some (.ref lr),some tv,some (.ref a),some (.ref b),some (.ref ld)],?_,?_⟩
  ·refine⟨_,Y,_,Y,by omega,by omega,λl hl=>?_⟩;have nl:l≠t:=λz=>by rw[z,I7.ht]at hl;cases hl
   rw[qaD];refine m5 n (λi=>V.str (R.getD (N.idxOf (i:Int)) ⟨#[]⟩)) hl (big _ (by omega)) (λi H2 s2 hi=>hi) (λH2 s2=>k_ _) (λi y H8 H9 R' s8 hi hy PR=>?_) λH8 s8 hl8=>?_
   ·obtain⟨rfl,rfl⟩:=hy;obtain⟨e1,e2⟩:=D0 hN hi;have hj:=(p_.mp e1).1;refine⟨Kp.uD,_,Y,_,Y,.inl ⟨Y,_,bD.of (s8 _ _ hb)⟩,_,Y,b,N,(i:Int),N.idxOf (i:Int),Y,(by rw[qbZ]),s8 _ _ hb,e1,e2,a,_,_,_,Y,Y,bD.of (s8 _ _ ha),bM (v:=V.str (R.getD (N.idxOf (i:Int)) ⟨#[]⟩)) ?_,PR _ (ai.refl _)⟩;rw[n_,e_ (by omega),C_,e_ (by omega)];rfl
   ·refine⟨l,I7.same s8,Wo.in nl ?_,Y⟩;rw[hl8,hD];unfold Ec;rw[qam];rfl
  rintro σ' H8 ⟨ld,I8,Zv,rfl⟩;refine⟨λσ' H'=>∃lh,H8 lh=none/\ai H8 H'/\H' lh=some (.lst (rs.map V.str))/\σ'=Z [some (.int m),some (.int (ng:Int)),some (.str S),some (.ref x),some (.int (n:Int)),some (.ref lr),some tv,some (.ref a),some (.ref b),some (.ref ld),none,some (.ref lh)],?_,?_⟩
  ·exact⟨_,Y,lr,_,Y,.inl (bD.of I8.MD),λlh XJ=>⟨lh,XJ,ai.upd XJ,af,Y⟩⟩
  rintro σ' H9 ⟨lh,flh,s9,XJ,rfl⟩;have lb:∀(H':Hp) (v:V) (Q:VK),lM K p.aq H' x sg rows fo fm->Rw K H' v rs->cQ H' u tv->(∀bb yO,ai H' yO->yP K p.aM yO bb D->Q (.ref bb) yO)->nv (vo K p.aq p.aM p.aC p.aE) [.ref x,v,tv] H' Q E0:=λH' v Q p1 p2 p3 q =>
   ⟨x,(sg,rows,fo,fm),v,tv,rs,u,rfl,p1,p2,by omega,hm7,p3,by omega,λ_ _ bb R' N' zs yO s' ly' pm pw hB=>by
    obtain⟨rfl,rfl⟩:=Lay.uniq ly ly';rw[Iz hN bk.len pm pw,←hD]at hB;exact q bb yO s' hB,λ_ no yO _=>no gd',λi j hB=>absurd hO hB.no⟩
  have I9:=I8.same s9;refine⟨λσ' H'=>∃bb,ai H9 H'/\yP K p.aM H' bb D/\σ'=Z [some (.int m),some (.int (ng:Int)),some (.str S),some (.ref x),some (.int (n:Int)),some (.ref lr),some tv,some (.ref a),some (.ref b),some (.ref ld),none,some (.ref lh),some (.ref bb)],?_,?_⟩
  ·exact⟨_,Y,_,Y,_,Y,lb _ _ _ I9.Uk ⟨lh,Y,.inl (bD.of XJ)⟩ I9.VJ λbb yO s' hB=>⟨bb,s',hB,Y⟩⟩
  rintro σ' C7 ⟨bb,zC,hB,rfl⟩;have I10:=I9.same zC;have XM:C7 ld=some (.lst (D.map V.str)):=(s9.trans zC) _ _ (Wo.sub _ _ Zv);refine⟨λσ' H'=>ai C7 H'/\σ'=Z [some (.int m),some (.int (ng:Int)),some (.str S),some (.ref x),some (.int (n:Int)),some (.ref lr),some tv,some (.ref a),some (.ref b),some (.ref ld),none,some (.ref lh),some (.ref bb)],?_,?_⟩
  ·refine⟨_,Y,_,Y,bb,ld,D,Y,hB,bD.of XM,by omega,λOg GZ=>⟨_,Y,?_⟩⟩;obtain⟨dxb,qb,X3,VT⟩:=hB;refine p8 ⟨_,Y,bb,_,_,_,_,Y,GZ _ _ X3,T.gf,T.bY,jL,.tup qb,_,Y,ai.tup GZ VT,λl hl=>?_⟩;refine m5 D.length (λi=>V.str (bV 45 (D.getD i ⟨#[]⟩))) hl (big _ (by omega)) (λi H2 s2 hi=>?_) (λH2 s2=>?_) (λi y H2 H3 R' s2 hi hy PR=>?_) λG3 s12 U8=>?_
   ·exact⟨_,_,ai.tup (GZ.trans s2) VT,by rw[n_,e_ hi];rfl⟩
   ·exact⟨_,ai.tup (GZ.trans s2) VT,by rw[g_];exact k_ _⟩
   ·obtain⟨rfl,hy⟩:=hy;have e:=hy _ (ai.tup (GZ.trans s2) VT);rw[n_,e_ hi]at e;cases e;rw[C_,e_ hi,qaV]at PR;have hmD:D[i]∈R:=hDm _ (Q_ hi);exact⟨Kp.uD,_,Y,D[i],Y,m_ (bk.w _ hmD) (by omega),PR⟩
   have e:D.map (bV 45)=rs:=by
    have:=NO ZD hrr ly (by rw[hrl];exact hN)
    rwa [hrl,←hD]at this
   rw[dD D λc=>V.str (bV 45 c),show D.map (λc=>V.str (bV 45 c))=(D.map (bV 45)).map V.str by rw[qam];rfl,e]at U8;refine⟨_,Y,l,lr,_,Y,Y,bD.of U8,bD.of ((GZ.trans s12) _ _ I10.MD),λz hz=>?_,_,Y,jN ⟨GZ.trans s12,Y⟩⟩;obtain⟨r,_,rfl⟩:=O_.mp hz;exact .inl ⟨r,Y⟩
  rintro σ' Og ⟨GZ,rfl⟩;have Nn:=(zC.trans GZ) _ _ XJ;have I11:=I10.same GZ;have Pc:lh≠t:=λz=>by rw[z,I8.ht]at flh;cases flh
  have adm:=hB.same GZ;refine⟨λσ' H'=>∃e,H'=upd Og lh (.lst (rs.map V.str++[.str e]))/\σ'=Z [some (.int m),some (.int (ng:Int)),some (.str S),some (.ref x),some (.int (n:Int)),some (.ref lr),some tv,some (.ref a),some (.ref b),some (.ref ld),none,some (.ref lh),some (.ref bb)],?_,?_⟩
  ·exact⟨_,Y,.inl ⟨Y,_,bD.of Nn⟩,lh,_,_,Y,Y,Nn,big _ (by rw[g_];omega),_,Y,Y⟩
  rintro σ' G3 ⟨e,hH,rfl⟩;have w12:ai (Wo t H8) (Wo t G3):=by
   rw[hH,Wo.au Pc];exact ai.at (Wo.same (s9.trans (zC.trans GZ))) (Wo.free flh)
  have YO:En K p.aq H G3 t x lr k6 (sg,rows,fo,fm) rs u tv:=I8.wo w12 (by rw[hH,au (Ne.symm Pc)];exact I11.ht);have Np:G3 ld=some (.lst (D.map V.str)):=Wo.sub _ _ (w12 _ _ Zv);have adl:yP K p.aM G3 bb D:=by rw[hH];exact(adm.wo Nn).same Wo.upd
  have XI:G3 lh=some (.lst (rs.map V.str++[.str e])):=by rw[hH];exact af
  clear hH;refine⟨λσ' H'=>ai G3 H'/\σ'=Z [some (.int m),some (.int (ng:Int)),some (.str S),some (.ref x),some (.int (n:Int)),some (.ref lr),some tv,some (.ref a),some (.ref b),some (.ref ld),none,some (.ref lh),some (.ref bb)],?_,?_⟩
  ·refine⟨_,Y,_,Y,lr,_,Y,.inl (bD.of YO.MD),λl2 hl2=>?_⟩;have s2:=ai.upd (o:=.lst (rs.map V.str)) hl2;have J:=YO.same s2;refine⟨_,Y,lb _ _ _ J.Uk ⟨l2,Y,.inl (bD.of af)⟩ J.VJ λb2 H3 s3 hB2=>?_⟩;have Om:=s2.trans s3;refine⟨_,Y,b2,ld,D,Y,hB2,bD.of (Om _ _ Np),by omega,λH4 s4=>⟨_,Y,p8 ⟨_,Y,_,Y,bb,ld,D,Y,adl.same (Om.trans s4),bD.of ((Om.trans s4) _ _ Np),by omega,λH5 s5=>⟨_,Y,p8 ⟨(Om.trans s4).trans s5,Y⟩⟩⟩⟩⟩
  rintro σ' VE ⟨Om,rfl⟩;have I13:=YO.same Om;refine⟨λσ' H'=>ai G3 H'/\σ'=Z [some (.int m),some (.int (ng:Int)),some (.str S),some (.ref x),some (.int (n:Int)),some (.ref lr),some tv,some (.ref a),some (.ref b),some (.ref ld),none,some (.ref lh),some (.ref bb)],?_,?_⟩
  ·refine⟨_,Y,_,Y,lr,_,Y,.inl ⟨bD.of I13.MD,λl2 hl2=>?_⟩⟩;have s2:=ai.upd (o:=.tup (rs.map V.str)) hl2;have J:=I13.same s2;refine⟨_,Y,lb _ _ _ J.Uk ⟨l2,Y,.inr (fq.of af)⟩ J.VJ λb2 H3 s3 hB2=>?_⟩;have OS:=Om.trans (s2.trans s3);refine⟨_,Y,b2,ld,D,Y,hB2,bD.of (OS _ _ Np),by omega,λH4 s4=>⟨_,Y,p8 ?_⟩⟩;refine⟨_,Y,_,Y,_,Y,lh,_,Y,bD.of ((OS.trans s4) _ _ XI),λp1 hp1=>?_⟩;rw[NU];have s5:=ai.upd (o:=.lst (rs.map V.str)) hp1;refine⟨_,Y,p1,lr,_,Y,Y,bD.of af,bD.of ((OS.trans (s4.trans s5)) _ _ YO.MD),λz hz=>?_,_,Y,jN ⟨OS.trans (s4.trans s5),Y⟩⟩;obtain⟨r,_,rfl⟩:=O_.mp hz;exact .inl ⟨r,Y⟩
  rintro σ' H14 ⟨OS,rfl⟩;have I14:=YO.same OS;have C14:xB K H14 s t ns k6:=hC.off I14.w I14.ht (by omega);refine⟨λσ' H'=>dI λ(bv:V) (u':Tr)=>En K p.aq H H' t x lr (k6+1) (sg,rows,fo,fm) rs u tv/\cQ H' u' bv/\u'.size<=1000/\ES u' rs.length/\σ'=Z [some (.int m),some (.int (ng:Int)),some (.str S),some (.ref x),some (.int (n:Int)),some (.ref lr),some tv,some (.ref a),some (.ref b),some (.ref ld),none,some (.ref lh),some (.ref bb),some bv],?_,?_⟩
  ·refine⟨_,Y,_,Y,s,t,ns,k6,Y,C14,by omega,λc h1 h2=>?_⟩;have J:En K p.aq H (upd H14 t (.lst [.int (k6+1)])) t x lr (k6+1) (sg,rows,fo,fm) rs u tv:=I14.wo (by rw[Wo.set];exact ai.refl _) af;exact⟨_,Y,_,Y,c,tv,u,n,Y,h1,J.VJ,hok,hp,by omega,by omega,n0,n5,λbv u' H' s' hT' hz' hb'=>⟨bv,u',J.same s',hT',hz',by rw[hrl];exact hb',Y⟩⟩
  rintro σ' VD ⟨bv,u',ZS,X4,hz',hb',rfl⟩;refine⟨λσ' H'=>ai VD H'/\σ'=Z [some (.int m),some (.int (ng:Int)),some (.str S),some (.ref x),some (.int (n:Int)),some (.ref lr),some tv,some (.ref a),some (.ref b),some (.ref ld),none,some (.ref lh),some (.ref bb),some bv],?_,?_⟩
  ·refine⟨_,Y,_,Y,lr,_,Y,.inl (bD.of ZS.MD),λl2 hl2=>?_⟩;have s2:=ai.upd (o:=.lst (rs.map V.str)) hl2;refine⟨_,Y,x,l2,(sg,rows,fo,fm),bv,rs,u',Y,(ZS.same s2).Uk,af,by omega,hm7,cQ.same s2 X4,hz',.inl ⟨hO,hb',λq H3 s3 hq=>?_⟩⟩;refine⟨d_,λt2 D3=>?_⟩;refine⟨q,t2,_,_,Y,Y,fq.of (ai.upd D3 _ _ hq),fq.of af,Y,Y,_,Y,?_⟩;rw[C9];exact jN ⟨s2.trans (s3.trans (ai.upd D3)),Y⟩
  rintro σ' H16 ⟨Ol,rfl⟩;have I16:=ZS.same Ol;refine⟨λσ' H'=>ai VD H'/\σ'=Z [some (.int m),some (.int (ng:Int)),some (.str S),some (.ref x),some (.int (n:Int)),some (.ref lr),some tv,some (.ref a),some (.ref b),some (.ref ld),none,some (.ref lh),some (.ref bb),some bv],?_,?_⟩
  ·refine⟨_,Y,a_,λl2 hl2=>?_⟩;have s2:=ai.upd (o:=.lst []) hl2
   refine⟨x,l2,(sg,rows,fo,fm),.int 0,[],.num 0,Y,(I16.same s2).Uk,af,by decide,(λr hr=>nomatch hr),Y,by show 1<=1000;decide,.inl ⟨(λr hr=>nomatch hr),λg=>?_,λq H3 s3 hq=>?_⟩⟩
   ·exact absurd (g.lt 0 (by simp[Tr.leaves])).2 (by decide)
   refine⟨d_,λt2 D3=>?_⟩;refine⟨q,t2,_,_,Y,Y,fq.of (ai.upd D3 _ _ hq),fq.of af,Y,Y,_,Y,?_⟩;rw[C9];exact jN ⟨Ol.trans (s2.trans (s3.trans (ai.upd D3))),Y⟩
  rintro σ' Rj ⟨s17,rfl⟩;have ZR:=ZS.same s17;have C17:xB K Rj s t ns (k6+1):=hC.off ZR.w ZR.ht (by omega);refine⟨λσ' H'=>∃c:Int,0<=c/\En K p.aq H H' t x lr (k6+2) (sg,rows,fo,fm) rs u tv/\cQ H' u' bv/\σ'=Z [some (.int m),some (.int (ng:Int)),some (.str S),some (.ref x),some (.int (n:Int)),some (.ref lr),some tv,some (.ref a),some (.ref b),some (.ref ld),none,some (.ref lh),some (.ref bb),some bv,some (.int c)],?_,?_⟩
  ·refine⟨_,Y,_,Y,s,t,ns,k6+1,Y,C17,by omega,λc h1 h2=>⟨c,h1,ZR.wo (by rw[Wo.set];exact ai.refl _) (by rw[af,show k6+1+1=k6+2 by omega]),cQ.Rp ZR.ht (cQ.same s17 X4),Y⟩⟩
  rintro σ' Qv ⟨c,hc,V4,ac7,rfl⟩;obtain⟨rn,hrn,agc⟩:∃rn:Nat,c % (n:Int)=(rn:Int)/\rn<n:=by
   have q0:=qai c (show(n:Int)≠0 by omega);have q1:=Z_ c (show(0:Int)<(n:Int) by omega);exact⟨_,(qas q0).symm,by omega⟩
  obtain⟨row,As⟩:∃r,rs[rn]? =some r:=⟨_,e_ (by omega)⟩;refine⟨λσ' H'=>H'=Qv/\σ'=Z [some (.int m),some (.int (ng:Int)),some (.str S),some (.ref x),some (.int (n:Int)),some (.ref lr),some tv,some (.ref a),some (.ref b),some (.ref ld),none,some (.ref lh),some (.ref bb),some bv,some (.int c),some (.int (rn:Int))],?_,?_⟩
  ·refine⟨_,Y,_,Y,_,_,Y,Y,(by show(0:Int)<(n:Int);omega),Y,?_⟩;rw[←hrn];rfl
  rintro σ' Qv ⟨rfl,rfl⟩;have hr6:=(U0 row (u_ As)).2;have hrz:row.length<=x_:=m_ (show row.cps.size<=100 by omega) (by decide);obtain⟨kn,hkn,U9⟩:∃kn:Nat,c / 5 % ((row.cps.size:Int)+1)=(kn:Int)/\kn<=row.cps.size:=by
   have q0:=qai (c / 5) (show(row.cps.size:Int)+1≠0 by omega);have q1:=Z_ (c / 5) (show(0:Int)<(row.cps.size:Int)+1 by omega);exact⟨_,(qas q0).symm,by omega⟩
  refine⟨λσ' H'=>H'=Qv/\σ'=Z [some (.int m),some (.int (ng:Int)),some (.str S),some (.ref x),some (.int (n:Int)),some (.ref lr),some tv,some (.ref a),some (.ref b),some (.ref ld),some (.int (kn:Int)),some (.ref lh),some (.ref bb),some bv,some (.int c),some (.int (rn:Int))],?_,?_⟩
  ·refine⟨_,Y,_,_,Y,Y,⟨by decide,by decide⟩,_,Y,_,Y,lr,_,_,_,Y,Y,bD.of V4.MD,bM (v:=V.str row) (by rw[n_,As];rfl),_,row.cps.size,Y,⟨hrz,Y⟩,_,_,Y,Y,_,_,Y,Y,(by show(0:Int)<(row.cps.size:Int)+1;omega),Y,?_⟩;rw[←hkn];rfl
  rintro σ' Qv ⟨rfl,rfl⟩;refine⟨λσ' H'=>∃ls,Qv ls=none/\H'=upd Qv ls (.lst (rs.map V.str))/\σ'=Z [some (.int m),some (.int (ng:Int)),some (.str S),some (.ref x),some (.int (n:Int)),some (.ref lr),some tv,some (.ref a),some (.ref b),some (.ref ld),some (.int (kn:Int)),some (.ref lh),some (.ref bb),some bv,some (.int c),some (.int (rn:Int)),some (.ref ls)],?_,?_⟩
  ·exact⟨_,Y,lr,_,Y,.inl (bD.of V4.MD),λls hls=>⟨ls,hls,Y,Y⟩⟩
  rintro σ' H19 ⟨ls,ZH,hH,rfl⟩;have nls:ls≠t:=λz=>by rw[z,V4.ht]at ZH;cases ZH
  have hsz2:∀{i j:r_},i.cps.size<=100->j.cps.size<=100->i.length+j.length<=x_:=λh1 h2=>m_ (Nat.add_le_add h1 h2) (by decide);have z0:=qai (c / 100) (show(2:Int)≠0 by decide);have z1:=Z_ (c / 100) (show(0:Int)<2 by decide);have hS0:S.cps.toList[ng]∉sg.cps.toList:=λz=>by
   rw[hsg]at z;obtain⟨j,hj,ej⟩:=qaW z;rw[qaC]at hj;rw[List.getElem_take]at ej;have hj':j<S.cps.toList.length:=by omega
   have:j=ng:=(qbd hj' ZC).mp (by rw[e_ hj',e_ hjn,ej]);omega
  obtain⟨cc,hcc,hnc⟩:∃cc:Nat,G2 [V.str ⟨#[S.cps.toList[ng]]⟩,V.str "-"] (c / 100 % 2)=some (V.str ⟨#[cc]⟩)/\cc∉sg.cps.toList:=by
   rcases(show c / 100 % 2=0\/c / 100 % 2=1 by omega)with z|z
   ·rw[z];exact⟨_,Y,hS0⟩
   ·rw[z];exact⟨45,Y,Uz ZD⟩
  refine⟨λσ' H'=>∃o:r_,o.cps.toList=row.cps.toList.take kn++cc::row.cps.toList.drop kn/\ai Qv H'/\H' ls=some (.lst ((rs.set rn o).map V.str))/\σ'=Z [some (.int m),some (.int (ng:Int)),some (.str S),some (.ref x),some (.int (n:Int)),some (.ref lr),some tv,some (.ref a),some (.ref b),some (.ref ld),some (.int (kn:Int)),some (.ref lh),some (.ref bb),some bv,some (.int c),some (.int (rn:Int)),some (.ref ls)],?_,?_⟩
  ·have s19:ai Qv H19:=by rw[hH];exact ai.upd ZH
   have acR:H19 ls=some (.lst (rs.map V.str)):=by rw[hH];exact af
   clear hH;have t1:=Fz row kn;have t2:=MA (x:=row) (k:=(kn:Int)) (by omega) (by omega);rw[qaD]at t2;refine⟨_,Y,_,Y,lr,_,_,_,Y,Y,bD.of (s19 _ _ V4.MD),bM (v:=V.str row) (by rw[n_,As];rfl),_,Y,_,Y,row,Y,hrz,?_⟩;generalize Txt.slice row none (some (kn:Int))=o1 at t1 ⊢;refine⟨_,Y,_,Y,S,_,S.cps.toList[ng],Y,Y,hzS,bM (e_ hjn),c_,λp1 hp1=>?_⟩;refine⟨_,Y,_,_,Y,Y,⟨by decide,by decide⟩,_,_,Y,Y,(by show(0:Int)<2;decide),p1,_,_,_,Y,Y,bD.of af,hcc,?_⟩;have s20:=ai.upd (o:=.lst [V.str ⟨#[S.cps.toList[ng]]⟩,V.str "-"]) hp1;have q1:o1.cps.size<=100:=by rw[←s_,t1,qaC,s_];omega
   have q2:(o1++(⟨#[cc]⟩:r_)).cps.size<=100:=by rw[rm,←s_,t1,qaC,s_];show _+1<=100;omega
   refine⟨_,_,Y,Y,hsz2 q1 (by show 1<=100;decide),?_⟩;refine⟨_,Y,_,Y,lr,_,_,_,Y,Y,bD.of ((s19.trans s20) _ _ V4.MD),bM (v:=V.str row) (by rw[n_,As];rfl),_,Y,_,Y,row,Y,hrz,?_⟩;generalize Txt.slice row (some (kn:Int)) none=o2 at t2 ⊢;have q3:o2.cps.size<=100:=by rw[←s_,t2,qbO,s_];omega
   refine⟨_,_,Y,Y,hsz2 q2 q3,_,Y,_,Y,ls,_,_,rn,Y,Y,s20 _ _ acR,?_,o1++(⟨#[cc]⟩:r_)++o2,?_,ai.at (s19.trans s20) ZH,?_,Y⟩
   ·unfold Nc;rw[g_,if_pos (by omega),if_pos (by omega),qaD]
   ·rw[sr,sr,t1,t2,qaH];rfl
   ·rw[af,List.map_set]
  rintro σ' H21 ⟨o,ho,s21,acP,rfl⟩;have I21:=V4.same s21;have hbad:=Oa hO As U9 ho hnc;have Xy:o.cps.size<=7:=by
   rw[←s_,ho,o_,qaC,M_,qbO,s_];omega
  have y0:=qai (c / 50) (show(2:Int)≠0 by decide);have y1:=Z_ (c / 50) (show(0:Int)<2 by decide);refine⟨_,Y,_,Y,_,Y,_,Y,c_,λp2 hp2=>?_⟩;have Wz:=ai.upd (o:=.lst [tv,bv]) hp2;obtain⟨wv,ut,hat,hTt,hzt⟩:dI λ(wv:V) (ut:Tr)=>G2 [tv,bv] (c / 50 % 2)=some wv/\cQ (upd H21 p2 (.lst [tv,bv])) ut wv/\ut.size<=1000:=by
   rcases(show c / 50 % 2=0\/c / 50 % 2=1 by omega)with z|z
   ·rw[z];exact⟨tv,u,Y,(I21.same Wz).VJ,by omega⟩
   ·rw[z];exact⟨bv,u',Y,cQ.same (s21.trans Wz) ac7,hz'⟩
  refine⟨_,Y,_,_,Y,Y,⟨by decide,by decide⟩,_,_,Y,Y,(by show(0:Int)<2;decide),p2,_,_,_,Y,Y,bD.of af,hat,?_⟩;refine⟨x,ls,(sg,rows,fo,fm),wv,rs.set rn o,ut,Y,(I21.same Wz).Uk,Wz _ _ acP,by rw[qb0];omega,λr hr=>?_,hTt,hzt,.inr ⟨rn,kn,hbad,λq H23 s23 hq=>?_⟩⟩
  ·rcases qbt hr with z|z
   ·exact hm7 r z
   ·rw[z];exact Xy
  refine⟨_,Y,_,Y,d_,λt2 D3=>?_⟩;have s24:=ai.upd (o:=.tup [.str "sign",.int (rn:Int),.int (kn:Int)]) D3;refine⟨q,t2,_,_,Y,Y,fq.of (s24 _ _ hq),fq.of af,Y,Y,?_⟩;rw[C9];have I24:=I21.same (Wz.trans (s23.trans s24));exact kk (k6+2) _ I24.w I24.ht (by omega) (by omega)
end
section
variable{P:A_}{w:U_}{K:PySem.W.Frag}{mg:r_->Option i_}{base:qab}
theorem Ux {CA lF:h_}{NH jT:F_}{p:Pm}(T:Txt K mg p w)(Oi:Dn K mg "law" ue VN CA NH)(iK:Dn K mg "_law_round" pX l6 lF jT)(GX:aF P w K mg base cM 15 lF jT l6 (Ft K)):aF P w K mg base cM 16 CA NH VN (Je K):=by
 refine Oi.fn.ok Hw (λvs H Q E h=>?_) (λcdv A outer s H vs Q E hr h=>?_)
 ·obtain⟨a,ns,rfl,_⟩:=h;rfl
 ·obtain⟨a,ns,rfl,hS,hlen,kk⟩:=h;refine⟨_,(aj (Z9X 1 Hw.nd (dU (aa ao ah)))
   (aj (fZ qao rfl (jM rfl T.m8 (aa (aL gj ao (aL gY (aD (aU) rfl T.dm b3 (aa (nQ yF (pv 0) p5 (pZ ao)) ah)) ao)) ah)) (Z9Y 2 Hw.nd) (ak (cL (mP (gi (gc GX hr iK (aa (pv 0) (aa (pv 1) ah))))) (ak (aN vC)) aY)))
   (ak (aN vC)))),?_⟩
  refine⟨b_,λt ht=>?_⟩;have c1:xB K (upd H t (.lst [.int 0])) a t ns 0:=by
   refine⟨?_,hlen,af,by decide⟩;rw[Wo.set];exact ai.seq (λb u e=>Wo.in (bq e ht) e) hS
  generalize upd H t (.lst [.int 0])=H1 at c1 ⊢;have hcl:=xS (ns.map V.int) none (some 60);rw[g_]at hcl;refine⟨_,Y,_,Y,a,_,Y,c1.scr,λp1 hp1=>⟨_,_,Y,.inl ⟨_,bD.of af,Y⟩,_,_,Y,Y,⟨by decide,by decide⟩,_,_,Y,Y,_,Y,?_,?_,?_⟩⟩
  ·omega
  ·omega
  have c2:=c1.same (ai.upd (o:=.lst (xm (ns.map V.int) none (some 60))) hp1);generalize upd H1 p1 (.lst (xm (ns.map V.int) none (some 60)))=H2 at c2 ⊢;obtain⟨n,hn⟩:∃n:Nat,(1+(((xm (ns.map V.int) none (some 60)).length:Nat):Int) / 40).toNat=n:=⟨_,rfl⟩;have hn2:n<=3:=by omega
  rw[hn];refine oY (lo:=0) (n:=n) (λi σ' H3=>dI λ(v2:Option V) (k:Int)=>σ'=[some (.ref a),some (.ref t),v2]/\xB K H3 a t ns k/\k<=3000*(i:Int)) ⟨_,0,Y,c2,by omega⟩ ?_ ?_
  ·rintro i σ' H3 hi ⟨v2,k,rfl,c3,hk⟩;have k0:=c3.k0;refine⟨_,Y,_,Y,a,t,ns,k,Y,c3,by omega,λk' H4 w4 JH b1 b2=>⟨_,Y,p8 ⟨_,k',Y,c3.off w4 JH (by omega),by omega⟩⟩⟩
  ·rintro σ' H3 ⟨v2,k,rfl,c3,hk⟩;exact kk H3
end
def kK(K:PySem.W.Frag)(x y:r_)(s:qaA):Prop:=Qn λf oc od sl kV dc pm an cd ct=>PySem.W.nsIn K E_ x=some (some (.ref f))/\K.lookup f=some ⟨oc,od,.func (PySem.W.fnOf y y (jt s) (gZ s) (ay s) .none kV dc pm an cd ct),sl⟩/\PySem.W.codeIn K cd y=true/\PySem.W.keepIn K (.ref f)=true
theorem kK.mk{K:PySem.W.Frag}{x y:r_}{s:qaA}{f:h_}{oc kV dc pm cd ct:i_}{od an:Option h_}{sl:Array (Option i_)}(a:PySem.W.nsIn K E_ x=some (some (.ref f)))(l:K.lookup f=some ⟨oc,od,.func (PySem.W.fnOf y y (jt s) (gZ s) (ay s) .none kV dc pm an cd ct),sl⟩)(c:PySem.W.codeIn K cd y=true)(k:PySem.W.keepIn K (.ref f)=true):kK K x y s:=⟨f,oc,od,sl,kV,dc,pm,an,cd,ct,a,l,c,k⟩
theorem NT{K:PySem.W.Frag}{h:qab}{mg:r_->Option i_}{x y:r_}{s:qaA}{ps:List r_}(X:K.In h)(G:h.Ns E_ mg)(d:kK K x y s)(b:∀(kV doc pm:i_) (an:Option h_) (cdv ct:i_) (us:List i_),us.length=ps.length->bindArgs (PySem.W.fnOf y y (jt s) (gZ s) (ay s) .none kV doc pm an cdv ct) ⟨us,[]⟩=pure (ps.zip us):=by intro _ _ _ _ _ _ us hl;first|(obtain⟨_,rfl⟩:=GP.Pu hl;exact Y)|(obtain⟨_,_,rfl⟩:=GP.Pr hl;exact Y)|(obtain⟨_,_,_,rfl⟩:=GP.Pq hl;exact Y)|(obtain⟨_,_,_,_,rfl⟩:=GP.Po hl;exact Y)|(obtain⟨_,_,_,_,_,rfl⟩:=GP.Pn hl;exact Y)|(obtain⟨_,_,_,_,_,_,rfl⟩:=GP.WY hl;exact Y)):dI λf fd=>Da K mg x y s ps f fd:=by
 obtain⟨f,oc,od,sl,kV,dc,pm,an,cd,ct,a,l,c,k⟩:=d;exact⟨f,_,uS l c k,(uS l c k).binds b,PySem.W.mg_of X G a⟩
theorem bI{K:PySem.W.Frag}{h:qab}{mg:r_->Option i_}{x:r_}{s:qaA}{ps:List r_}(X:K.In h)(G:h.Ns E_ mg)(d:kK K x x s)(b:∀(kV doc pm:i_) (an:Option h_) (cdv ct:i_) (us:List i_),us.length=ps.length->bindArgs (PySem.W.fnOf x x (jt s) (gZ s) (ay s) .none kV doc pm an cdv ct) ⟨us,[]⟩=pure (ps.zip us):=by intro _ _ _ _ _ _ us hl;first|(obtain⟨_,rfl⟩:=GP.Pu hl;exact Y)|(obtain⟨_,_,rfl⟩:=GP.Pr hl;exact Y)|(obtain⟨_,_,_,rfl⟩:=GP.Pq hl;exact Y)|(obtain⟨_,_,_,_,rfl⟩:=GP.Po hl;exact Y)|(obtain⟨_,_,_,_,_,rfl⟩:=GP.Pn hl;exact Y)|(obtain⟨_,_,_,_,_,_,rfl⟩:=GP.WY hl;exact Y)):dI λf fd=>Dn K mg x s ps f fd:=by
 obtain⟨f,fd,e⟩:=NT X G d b;exact⟨f,fd,e.fn,e.b,e.m⟩
theorem all_mk {l:PySem.W.OpenLaw}{w:U_}{K:PySem.W.Frag}{h:qab}{mg:r_->Option i_}{fa:h_}(X:K.In h)(G:h.Ns E_ mg)(hfa:mg "law" =some (.ref fa))
  {oq:Tok}
  {pP:Tok}
  {kY:h_} {F2:Option h_} {HX:Nat} {FD:Array (Option i_)} {Fi Fg Ff:Tok}
  {ko:h_} {NN:Nat} {iX iW iV:h_} {Fe Fd Fc:Tok}
  {KS:Option h_} {MZ:Nat} {Kr:Array (Option i_)} {Hj Hi:Tok}
  {KR:Option h_} {MY:Nat} {Kq:Array (Option i_)} {Hh Hg:Tok}
  {KQ:Option h_} {MX:Nat} {Ko:Array (Option i_)} {Hf G9:Tok}
  {I0:Tok}
  {aq:h_}
  {aM:h_}
  {av:h_}
  {bR:h_}
  {bN:h_}
  {aC:h_}
  {aE:h_}
  {iU:h_}
  {iT:h_}
  {mJ:h_}
  {mH:h_}
  {kr:h_}
  {iS:h_}
  {oV:h_}
  {mG:h_}
  (u0:PySem.W.nsIn K E_ "FIRST_SIGN" =some (some (.int 32 oq)))
  (u1:PySem.W.nsIn K E_ "LAST_SIGN" =some (some (.int 126 pP)))
  (u2:PySem.W.nsIn K E_ "NO_SIGNS" =some (some (.ref kY)))
  (u3:K.lookup kY=some ⟨.type "tuple",F2,.seq #[.int 34 Fi,.int 37 Fg,.int 45 Ff] HX,FD⟩)
  (u4:PySem.W.nsIn K E_ "STEPS" =some (some (.ref ko)))
  (u5:K.lookup ko=some { cls:=.type "dict",data:=.dict #[⟨PySem.PyData.keyHash w.params (z_ "p"),.str (z_ "p") Fe,.ref iX⟩,⟨PySem.PyData.keyHash w.params (z_ "a"),.str (z_ "a") Fd,.ref iW⟩,⟨PySem.PyData.keyHash w.params (z_ "b"),.str (z_ "b") Fc,.ref iV⟩] NN })
  (u6:(ko==sysModules)=false)
  (u7:K.lookup iX=some ⟨.type "tuple",KS,.seq #[.int 1 Hj,.int 1 Hi] MZ,Kr⟩)
  (u8:K.lookup iW=some ⟨.type "tuple",KR,.seq #[.int 1 Hh,.int 0 Hg] MY,Kq⟩)
  (u9:K.lookup iV=some ⟨.type "tuple",KQ,.seq #[.int 0 Hf,.int 1 G9] MX,Ko⟩)
  (u10:PySem.W.nsIn K E_ "GAP" =some (some (.str (z_ "-") I0)))
  (u11:PySem.W.nsIn K E_ "Prices" =some (some (.ref aq)))
  (u12:PySem.W.plainGet K aq qc2=true) (u13:PySem.W.hasDictIn K aq=true) (u14:PySem.W.plainOver K aq=true) (u15:PySem.W.findIn K (.ref aq) "__setattr__" =some (some (.builtin "object.__setattr__"))) (u16:PySem.W.makesIn K aq=true) (u17:PySem.W.keepIn K (.ref aq)=true)
  (u18:bA K aq "signs")
  (u19:bA K aq "pairs")
  (u20:bA K aq "opening")
  (u21:bA K aq "more")
  (u22:bA K aq "factors")
  (u23:bA K aq "unit")
  (u24:bA K aq "costs")
  (u25:bA K aq "opening_units")
  (u26:bA K aq "more_units")
  (u27:PySem.W.nsIn K E_ "Block" =some (some (.ref aM)))
  (u28:PySem.W.plainGet K aM qc2=true) (u29:PySem.W.hasDictIn K aM=true) (u30:PySem.W.plainOver K aM=true) (u31:PySem.W.findIn K (.ref aM) "__setattr__" =some (some (.builtin "object.__setattr__"))) (u32:PySem.W.makesIn K aM=true) (u33:PySem.W.keepIn K (.ref aM)=true)
  (u34:bA K aM "rows")
  (u35:PySem.W.isIn K (.ref aM) aM=true)
  (u36:PySem.W.nsIn K E_ "Joining" =some (some (.ref av)))
  (u37:PySem.W.plainGet K av qc2=true) (u38:PySem.W.hasDictIn K av=true) (u39:PySem.W.plainOver K av=true) (u40:PySem.W.findIn K (.ref av) "__setattr__" =some (some (.builtin "object.__setattr__"))) (u41:PySem.W.makesIn K av=true) (u42:PySem.W.keepIn K (.ref av)=true)
  (u43:bA K av "ones")
  (u44:bA K av "others")
  (u45:bA K av "one_gaps")
  (u46:bA K av "other_gaps")
  (u47:bA K av "by_a")
  (u48:bA K av "by_b")
  (u49:bA K av "extras")
  (u50:bA K av "rests")
  (u51:PySem.W.nsIn K E_ "WeaveError" =some (some (.ref bR)))
  (u52:PySem.W.hasDictIn K bR=true) (u53:PySem.W.typeIn K (.ref bR)=some (.type "type")) (u54:PySem.W.mroIn K bR (.type "BaseException")=some true)
  (u55:PySem.W.nsIn K E_ "NoBlock" =some (some (.ref bN)))
  (u56:PySem.W.excIn K bN [.type "ValueError",.type "Exception",.type "BaseException",.type "object"] "ValueError.__new__" =true)
  (u57:PySem.W.nsIn K E_ "NoTree" =some (some (.ref aC)))
  (u58:PySem.W.excIn K aC [.type "ValueError",.type "Exception",.type "BaseException",.type "object"] "ValueError.__new__" =true)
  (u59:PySem.W.findIn K (.ref aC) "__getattribute__" =some (some (.builtin "BaseException.__getattribute__")))
  (u60:PySem.W.findIn K (.ref aC) "__getattr__" =some none)
  (u61:PySem.W.hasDictIn K aC=true)
  (u62:PySem.W.findIn K (.ref aC) "__class__" =some (some (.builtin "object.__class__")))
  (u63:PySem.W.specialIn K (.builtin "object.__class__") "__get__" =some (some (.builtin "getset_descriptor.__get__")))
  (u64:PySem.W.takesIn K (.builtin "object.__class__")=some true)
  (u65:PySem.W.mroIn K aC (.type "object")=some true)
  (u66:PySem.W.mroIn K aC (.type "BaseException")=some true)
  (u67:PySem.W.nsIn K E_ "NoSign" =some (some (.ref aE)))
  (u68:PySem.W.findIn K (.ref aE) "__getattribute__" =some (some (.builtin "BaseException.__getattribute__")))
  (u69:PySem.W.findIn K (.ref aE) "__getattr__" =some none)
  (u70:PySem.W.hasDictIn K aE=true)
  (u71:PySem.W.findIn K (.ref aE) "__class__" =some (some (.builtin "object.__class__")))
  (u72:PySem.W.specialIn K (.builtin "object.__class__") "__get__" =some (some (.builtin "getset_descriptor.__get__")))
  (u73:PySem.W.takesIn K (.builtin "object.__class__")=some true)
  (u74:PySem.W.mroIn K aE (.type "object")=some true)
  (u75:PySem.W.mroIn K aE (.type "BaseException")=some true)
  (u76:PySem.W.nsIn K E_ "NoLaying" =some (some (.ref iU)))
  (u77:PySem.W.nsIn K E_ "NoManner" =some (some (.ref iT)))
  (u78:PySem.W.nsIn K E_ "NoMost" =some (some (.ref mJ)))
  (u79:PySem.W.nsIn K E_ "NoNote" =some (some (.ref mH)))
  (u80:PySem.W.nsIn K E_ "NoPlace" =some (some (.ref kr)))
  (u81:PySem.W.nsIn K E_ "NoPrices" =some (some (.ref iS)))
  (u82:PySem.W.nsIn K E_ "NoRow" =some (some (.ref oV)))
  (u83:PySem.W.nsIn K E_ "NoText" =some (some (.ref mG)))
  (Z9:PySem.W.hasDictIn K aE=true) (Z8:((PySem.W.clsIn K aE).any λcd=>uz cd.mro)=true) (Z7:PySem.W.findIn K (.ref aE) "__setattr__" =some (some (.builtin "object.__setattr__"))) (Z6:PySem.W.keepIn K (.ref aE)=true)
  (Z5:bA K aE "row")
  (Z4:bA K aE "place")
  (Z3:PySem.W.specialIn K (.ref bR) "__getattribute__" =some (some (.builtin "type.__getattribute__"))) (Z2:PySem.W.readsIn K bR (.type "type")=true) (Z0:PySem.W.findCls K (.ref bR) (.type "type") "__init__" =some (.val (.builtin "ValueError.__init__")))
  (ZZ:PySem.W.subIn K (.ref aE) (.ref bR)=some true)
  (ZY:PySem.W.subIn K (.ref aC) (.ref bR)=some true)
  (u95:PySem.W.kitOne K (.ref aE) (.ref aE)=some true)
  (ZX:PySem.W.kitOne K (.ref aE) (.ref aC)=some false)
  (ZW:PySem.W.kitOne K (.ref aC) (.ref aE)=some false)
  (ZV:PySem.W.kitOne K (.ref aC) (.ref aC)=some true)
  (ZU:PySem.W.kitOne K (.ref aC) (.type "ValueError")=some true)
  (TV:PySem.W.kitOne K (.ref aC) (.ref bN)=some false)
  (TU:PySem.W.kitOne K (.ref aC) (.ref iU)=some false)
  (TR:PySem.W.kitOne K (.ref aC) (.ref iT)=some false)
  (TQ:PySem.W.kitOne K (.ref aC) (.ref mJ)=some false)
  (TN:PySem.W.kitOne K (.ref aC) (.ref mH)=some false)
  (TM:PySem.W.kitOne K (.ref aC) (.ref kr)=some false)
  (TL:PySem.W.kitOne K (.ref aC) (.ref iS)=some false)
  (TF:PySem.W.kitOne K (.ref aC) (.ref oV)=some false)
  (Tz:PySem.W.kitOne K (.ref aC) (.ref mG)=some false)
  {od0 an0:Option h_} {sl0:Array (Option i_)} {oc0 kV0 dc0 pm0 cd0 ct0:i_} {bh:h_}
  (Wb:PySem.W.findIn K (.ref aE) "__init__" =some (some (.ref bh))) (Tw:PySem.W.isFn K (.ref bh)=true) (Tv:K.lookup bh=some ⟨oc0,od0,.func (PySem.W.fnOf "__init__" "NoSign.__init__" (jt cO) (gZ cO) (ay cO) .none kV0 dc0 pm0 an0 cd0 ct0),sl0⟩) (Tu:PySem.W.codeIn K cd0 "NoSign.__init__" =true) (Tt:PySem.W.keepIn K (.ref bh)=true)
  (u114:kK K "greatest_divisor" "greatest_divisor" fY)
  (Tq:kK K "lowest" "lowest" vz)
  (Tp:kK K "is_sign" "is_sign" tN)
  (To:kK K "are_signs" "are_signs" nO)
  (Tn:kK K "check_signs" "check_signs" nF)
  (Tj:kK K "check_lengths_prices" "check_lengths" fE)
  (Ti:kK K "lowest_price" "lowest_price" jy)
  (Th:kK K "lowest_prices" "lowest_prices" kM)
  (Tg:kK K "all_unders" "all_unders" oK)
  (Tf:kK K "unit_factors" "unit_factors" lQ)
  (Te:kK K "product_of" "product_of" oB)
  (Td:kK K "by_unit" "by_unit" qG)
  (Tc:kK K "costs_by_signs" "costs_by_signs" jK)
  {abX adM:Option h_} {abC:Array (Option i_)} {ab1 acj adA abR Yo adG:i_} {bB:h_}
  (S9:PySem.W.findIn K (.ref aq) "__init__" =some (some (.ref bB))) (S8:PySem.W.isFn K (.ref bB)=true) (S7:K.lookup bB=some ⟨ab1,abX,.func (PySem.W.fnOf "__init__" "Prices.__init__" (jt cN) (gZ cN) (ay cN) .none acj adA abR adM Yo adG),abC⟩) (S6:PySem.W.codeIn K Yo "Prices.__init__" =true) (S5:PySem.W.keepIn K (.ref bB)=true)
  (S4:kK K "pair_cost" "pair_cost" pU)
  (S0:kK K "more_cost" "more_cost" nN)
  (SY:kK K "check_known" "check_known" kF)
  (SX:kK K "check_rows" "check_rows" oH)
  (SW:kK K "place_behind" "place_behind" jx)
  (SV:kK K "things_at" "things_at" pS)
  (SS:kK K "turned" "turned" sD)
  (SQ:kK K "columns_of" "columns_of" lX)
  (SO:kK K "laid_columns" "laid_columns" lU)
  (SN:kK K "is_gaps" "is_gaps" tP)
  (SM:kK K "signs_of" "signs_of" mO)
  (SK:kK K "check_lengths_blocks" "check_lengths" fF)
  (SJ:kK K "are_things" "are_things" oJ)
  (SI:kK K "check_things" "check_things" lY)
  (SH:kK K "check_columns" "check_columns" kP)
  {abW adL:Option h_} {abB:Array (Option i_)} {ab0 aci adz abQ Yn adF:i_} {aH:h_}
  (SG:PySem.W.findIn K (.ref aM) "__init__" =some (some (.ref aH))) (SE:PySem.W.isFn K (.ref aH)=true) (SD:K.lookup aH=some ⟨ab0,abW,.func (PySem.W.fnOf "__init__" "Block.__init__" (jt bS) (gZ bS) (ay bS) .none aci adz abQ adL Yn adF),abB⟩) (SA:PySem.W.codeIn K Yn "Block.__init__" =true) (Sz:PySem.W.keepIn K (.ref aH)=true)
  (Sy:kK K "alone" "alone" yG)
  (Sx:kK K "check_block_rows" "check_block_rows" iM)
  (Sw:kK K "is_whole" "is_whole" rB)
  (Sv:kK K "is_pair" "is_pair" tO)
  (Su:kK K "cost_by_gaps" "cost_by_gaps" lW)
  (Ss:kK K "costs_by_gaps" "costs_by_gaps" kO)
  (Sq:kK K "sign_extras" "sign_extras" nk)
  (So:kK K "extras_beside" "extras_beside" kN)
  (Sn:kK K "all_extras" "all_extras" oM)
  (Sl:kK K "rests_ahead" "rests_ahead" nu)
  (Sk:kK K "join_rests" "join_rests" oF)
  {abV adK:Option h_} {abA:Array (Option i_)} {abZ ach ady abP Ym adE:i_} {br:h_}
  (Sj:PySem.W.findIn K (.ref av) "__init__" =some (some (.ref br))) (Si:PySem.W.isFn K (.ref br)=true) (Sh:K.lookup br=some ⟨abZ,abV,.func (PySem.W.fnOf "__init__" "Joining.__init__" (jt cE) (gZ cE) (ay cE) .none ach ady abP adK Ym adE),abA⟩) (Sg:PySem.W.codeIn K Ym "Joining.__init__" =true) (Sf:PySem.W.keepIn K (.ref br)=true)
  (Se:kK K "first_move" "first_move" oG)
  (Sd:kK K "first_moves" "first_moves" nE)
  (Sb:kK K "joined_block" "joined_block" lV)
  (Sa:kK K "joined" "joined" sE)
  (R9:kK K "check_number" "check_number" lZ)
  (R8:kK K "tree_order" "tree_order" oA)
  (R7:kK K "joined_laid" "joined_laid" nD)
  (R6:kK K "laid_by" "laid_by" qF)
  (R5:kK K "_law_next" "_law_next" jz)
  (R4:kK K "_law_signs" "_law_signs" pW)
  (R3:kK K "_law_price" "_law_price" pY)
  (R0:kK K "_law_prices" "_law_prices" oE)
  (RZ:kK K "_law_block_is" "_law_block_is" lS)
  (RY:kK K "_law_texts" "_law_texts" pV)
  (RX:kK K "_law_tree" "_law_tree" rq)
  (RW:kK K "_law_laid" "_law_laid" o9)
  (RV:kK K "_law_bare" "_law_bare" rz)
  (RU:kK K "_law_refused" "_law_refused" ny)
  (RT:kK K "_law_swapped" "_law_swapped" kD)
  (RS:kK K "_law_bad_tree" "_law_bad_tree" lT)
  (RQ:kK K "_law_round" "_law_round" pX)
  {abU Yv:Option h_} {abz:Array (Option i_)} {abY Xl Yi WG Vk Yl:i_} {CA:h_}
  (OH:PySem.W.nsIn K E_ "law" =some (some (.ref CA))) (RP:K.lookup CA=some ⟨abY,abU,.func (PySem.W.fnOf "law" "law" (jt ue) (gZ ue) (ay ue) .none Xl Yi WG Yv Vk Yl),abz⟩) (RO:PySem.W.codeIn K Vk "law" =true) (RN:PySem.W.keepIn K (.ref CA)=true)
  (OG:Iv K aE bh=true)
  (RM:PySem.W.nsIn K E_ "abs" =some none)
  (RL:PySem.W.nsIn K E_ "len" =some none)
  (RK:PySem.W.nsIn K E_ "ord" =some none)
  (RJ:PySem.W.nsIn K E_ "set" =some none)
  (RI:PySem.W.nsIn K E_ "tuple" =some none)
  (RH:PySem.W.nsIn K E_ "zip" =some none)
  (RG:PySem.W.nsIn K E_ "enumerate" =some none)
  (RE:PySem.W.nsIn K E_ "range" =some none)
  (RD:PySem.W.nsIn K E_ "isinstance" =some none)
  (RC:PySem.W.nsIn K E_ "int" =some none)
  (RB:PySem.W.nsIn K E_ "bool" =some none)
  (RA:PySem.W.nsIn K E_ "all" =some none)
  (Rz:PySem.W.nsIn K E_ "any" =some none)
  (Ry:PySem.W.nsIn K E_ "sum" =some none)
  (Rx:PySem.W.nsIn K E_ "list" =some none)
  (Rv:PySem.W.nsIn K E_ "min" =some none)
  (Ru:PySem.W.nsIn K E_ "reversed" =some none)
  (Rt:PySem.W.nsIn K E_ "sorted" =some none)
  (Rr:PySem.W.nsIn K E_ "str" =some none)
  (Rq:PySem.W.nsIn K E_ "ValueError" =some none)
  : ∃fd:F_,(∀(s:l_) (v:i_),BindsTo s fd ⟨[v],[]⟩ [("_law_script",v)])/\∀base:qab,K.In base->base.Ns E_ mg->aF l.prog w K mg base cM 16 fa fd VN (Je K):=by
 have e:=hfa.symm.trans (PySem.W.mg_of X G OH);cases e;obtain⟨p,hp⟩:∃p:Pm,p=(⟨oq,pP,kY,ko,iX,iW,iV,I0,aq,aM,av,bR,bN,aC,aE,iU,iT,mJ,mH,kr,iS,oV,mG⟩:Pm):=⟨_,rfl⟩;have T:Txt K mg p w:=by subst hp;exact⟨PySem.W.mg_none_of X G RM,PySem.W.mg_none_of X G RL,PySem.W.mg_none_of X G RK,PySem.W.mg_none_of X G RJ,PySem.W.mg_none_of X G RI,PySem.W.mg_none_of X G RH,PySem.W.mg_none_of X G RG,PySem.W.mg_none_of X G RE,PySem.W.mg_none_of X G RD,PySem.W.mg_none_of X G RC,PySem.W.mg_none_of X G RB,PySem.W.mg_none_of X G RA,PySem.W.mg_none_of X G Rz,PySem.W.mg_none_of X G Ry,PySem.W.mg_none_of X G Rx,PySem.W.mg_none_of X G Rv,PySem.W.mg_none_of X G Ru,PySem.W.mg_none_of X G Rt,PySem.W.mg_none_of X G Rr,PySem.W.mg_none_of X G Rq,PySem.W.mg_of X G u0,PySem.W.mg_of X G u1,PySem.W.mg_of X G u2,λH=>.inr ⟨_,_,_,u3,Y,Y,d_,.cons ⟨_,Y⟩ (.cons ⟨_,Y⟩ (.cons ⟨_,Y⟩ (.nil)))⟩,PySem.W.mg_of X G u4,λP=>KDict.mk (P:=P) (w:=w) [((z_ "p"),Fe,.ref iX),((z_ "a"),Fd,.ref iW),((z_ "b"),Fc,.ref iV)] u5 Y (show([(z_ "p"),(z_ "a"),(z_ "b")]:List r_).Nodup by decide +kernel) (vs:=[.ref iX,.ref iW,.ref iV]) (.cons Y (.cons Y (.cons Y (.nil)))) u6,λH=>.inr ⟨_,_,_,u7,Y,Y,c_,.cons ⟨_,Y⟩ (.cons ⟨_,Y⟩ (.nil))⟩,λH=>.inr ⟨_,_,_,u8,Y,Y,c_,.cons ⟨_,Y⟩ (.cons ⟨_,Y⟩ (.nil))⟩,λH=>.inr ⟨_,_,_,u9,Y,Y,c_,.cons ⟨_,Y⟩ (.cons ⟨_,Y⟩ (.nil))⟩,PySem.W.mg_of X G u10,PySem.W.mg_of X G u11,⟨u12,u13,u14,u15⟩,u18,u19,u20,u21,u22,u23,u24,u25,u26,PySem.W.mg_of X G u27,⟨u28,u29,u30,u31⟩,u34,u35,PySem.W.mg_of X G u36,⟨u37,u38,u39,u40⟩,u43,u44,u45,u46,u47,u48,u49,u50,PySem.W.mg_of X G u51,⟨u52,u53,u54⟩,PySem.W.mg_of X G u55,IX u56,PySem.W.mg_of X G u57,IX u58,⟨u59,u60,u61,u62,u63,u64,u65,u66⟩,PySem.W.mg_of X G u67,⟨u68,u69,u70,u71,u72,u73,u74,u75⟩,PySem.W.mg_of X G u76,PySem.W.mg_of X G u77,PySem.W.mg_of X G u78,PySem.W.mg_of X G u79,PySem.W.mg_of X G u80,PySem.W.mg_of X G u81,PySem.W.mg_of X G u82,PySem.W.mg_of X G u83,⟨Z9,Z8,Z7⟩,⟨_,E2 OG⟩,Z5,Z4,⟨Z3,Z2,Z0⟩,ZZ,ZY,u95,ZX,ZW,ZV,ZU,TV,TU,TR,TQ,TN,TM,TL,TF,Tz⟩
 have qd:=uS (st:=cO) Tv Tu Tt;have ff:Dm K "__init__" "NoSign.__init__" cO VP _ _:=⟨qd,qd.binds (ps:=VP) λ_ _ _ _ _ _ us hl=>by obtain⟨_,_,_,rfl⟩:=GP.Pq hl;exact Y⟩;obtain⟨bZ,bP,aX⟩:=bI (ps:=UQ) X G u114;obtain⟨qV,oZ,nW⟩:=bI (ps:=Xk) X G Tq;obtain⟨o4,mT,lH⟩:=bI (ps:=["sign"]) X G Tp;obtain⟨gI,fJ,c7⟩:=bI (ps:=LK) X G To;obtain⟨jl,iu,fR⟩:=bI (ps:=["signs"]) X G Tn;obtain⟨cH,cC,bG⟩:=NT (ps:=Xi) X G Tj;obtain⟨dH,cW,bw⟩:=bI (ps:=Na) X G Ti;obtain⟨gA,fT,dQ⟩:=bI (ps:=l9) X G Th;obtain⟨ki,jc,gT⟩:=bI (ps:=Xj) X G Tg;obtain⟨iw,gq,eG⟩:=bI (ps:=["unders"]) X G Tf;obtain⟨jX,i6,gM⟩:=bI (ps:=["factors"]) X G Te;obtain⟨kg,iR,dM⟩:=bI (ps:=UP) X G Td;obtain⟨fX,eY,c6⟩:=bI (ps:=Xh) X G Tc;have qc:=uS (st:=cN) S7 S6 S5;have eZ:Dm K "__init__" "Prices.__init__" cN VQ _ _:=⟨qc,qc.binds (ps:=VQ) λ_ _ _ _ _ _ us hl=>by obtain⟨_,_,_,_,_,rfl⟩:=GP.Pn hl;exact Y⟩;obtain⟨lC,jQ,iH⟩:=bI (ps:=LJ) X G S4;obtain⟨gH,fH,c5⟩:=bI (ps:=UO) X G S0;obtain⟨ez,dF,b9⟩:=bI (ps:=UL) X G SY;obtain⟨kc,ja,gR⟩:=bI (ps:=Ou) X G SX;obtain⟨dG,cV,bT⟩:=bI (ps:=UM) X G SW;obtain⟨lB,jP,iG⟩:=bI (ps:=Xg) X G SV;obtain⟨mj,jO,iF⟩:=bI (ps:=UN) X G SS;obtain⟨fK,ee,bQ⟩:=bI (ps:=l7) X G SQ;obtain⟨iA,gv,eL⟩:=bI (ps:=W6) X G SO;obtain⟨o6,mV,lJ⟩:=bI (ps:=Px) X G SN;obtain⟨fj,dP,bK⟩:=bI (ps:=Pw) X G SM;obtain⟨cI,cD,bH⟩:=NT (ps:=l7) X G SK;obtain⟨kh,jb,gS⟩:=bI (ps:=l9) X G SJ;obtain⟨iD,gy,eT⟩:=bI (ps:=l7) X G SI;obtain⟨gD,fW,dS⟩:=bI (ps:=l7) X G SH;have q8:=uS (st:=bS) SD SA Sz;have aO:Dm K "__init__" "Block.__init__" bS LI _ _:=⟨q8,q8.binds (ps:=LI) λ_ _ _ _ _ _ us hl=>by obtain⟨_,_,rfl⟩:=GP.Pr hl;exact Y⟩;obtain⟨tU,qT,qe⟩:=bI (ps:=LK) X G Sy;obtain⟨dY,dJ,cF⟩:=bI (ps:=Ou) X G Sx;obtain⟨mZ,lA,jI⟩:=bI (ps:=Oo) X G Sw;obtain⟨o5,mU,lI⟩:=bI (ps:=Oo) X G Sv;obtain⟨iC,gx,eS⟩:=bI (ps:=Xe) X G Su;obtain⟨gC,fV,b4⟩:=bI (ps:=Xd) X G Ss;obtain⟨jf,g9,fN⟩:=bI (ps:=Xc) X G Sq;obtain⟨gB,fU,dR⟩:=bI (ps:=Xb) X G So;obtain⟨kj,jd,gU⟩:=bI (ps:=Xa) X G Sn;obtain⟨jg,ia,fO⟩:=bI (ps:=W9) X G Sl;obtain⟨j0,i8,gP⟩:=bI (ps:=W8) X G Sk;have pN:=uS (st:=cE) Sh Sg Sf;have d8:Dm K "__init__" "Joining.__init__" cE VO _ _:=⟨pN,pN.binds (ps:=VO) λ_ _ _ _ _ _ us hl=>by obtain⟨_,_,_,_,rfl⟩:=GP.Po hl;exact Y⟩;obtain⟨j9,i9,gQ⟩:=bI (ps:=W7) X G Se;obtain⟨jk,ir,fQ⟩:=bI (ps:=Oq) X G Sd;obtain⟨iB,gw,eN⟩:=bI (ps:=Oq) X G Sb;obtain⟨mq,jV,eO⟩:=bI (ps:=LJ) X G Sa;obtain⟨iE,gz,eV⟩:=bI (ps:=W5) X G R9;obtain⟨jW,i0,gK⟩:=bI (ps:=W4) X G R8;obtain⟨jj,ig,fP⟩:=bI (ps:=W3) X G R7;obtain⟨jZ,iQ,cK⟩:=bI (ps:=UJ) X G R6;obtain⟨cg,bO,aJ⟩:=bI (ps:=l6) X G R5;obtain⟨lE,jS,iJ⟩:=bI (ps:=Ot) X G R4;obtain⟨lG,jU,cP⟩:=bI (ps:=l6) X G R3;obtain⟨jY,i7,gO⟩:=bI (ps:=Xf) X G R0;obtain⟨iy,gr,aZ⟩:=bI (ps:=W2) X G RZ;obtain⟨lD,jR,iI⟩:=bI (ps:=W0) X G RY;obtain⟨mW,lu,jG⟩:=bI (ps:=Ot) X G RX;obtain⟨gW,fL,bL⟩:=bI (ps:=l8) X G RW;obtain⟨mY,lz,jH⟩:=bI (ps:=UK) X G RV;obtain⟨jh,ic,bU⟩:=bI (ps:=l8) X G RU;obtain⟨dh,cT,aS⟩:=bI (ps:=QM) X G RT;obtain⟨iz,gu,eK⟩:=bI (ps:=WZ) X G RS;obtain⟨lF,jT,iK⟩:=bI (ps:=l6) X G RQ;have Rk:=uS (st:=ue) RP RO RN;have Oi:Dn K mg "law" ue VN _ _:=⟨Rk,Rk.binds (ps:=VN) λ_ _ _ _ _ _ us hl=>by obtain⟨_,rfl⟩:=GP.Pu hl;exact Y,PySem.W.mg_of X G OH⟩;have AM:XMk K p.aE bh:=by subst hp;exact⟨E2 OG,Tw,Z6⟩
 have AL:Mk K p.aq bB:=by subst hp;exact⟨u16,S9,S8,u17⟩
 have gJ:Mk K p.aM aH:=by subst hp;exact⟨u32,SG,SE,u33⟩
 have xx:Mk K p.av br:=by subst hp;exact⟨u41,Sj,Si,u42⟩
 refine⟨PySem.W.fnOf "law" "law" (jt ue) (gZ ue) (ay ue) .none Xl Yi WG Yv Vk Yl,λs v=>.of_eq Y,λbase _ _=>?_⟩;have pL:=tY (P:=l.prog) (w:=w) (base:=base) T aX;have Oc:=KL T nW aX pL;have sZ:=ya T bw nW Oc;have ym:=wH T dQ bw sZ;have ED:=Bv (P:=l.prog) (w:=w) (base:=base) T gT;have AD:=x8 T eG aX pL;have Er:=Bm (P:=l.prog) (w:=w) (base:=base) T gM;have C6:=HR (P:=l.prog) (w:=w) (base:=base) T dM;have Lv:=HN (P:=l.prog) (w:=w) (base:=base) T lH;have xW:=DN T c7 lH Lv;have BO:=zX T fR c7 xW;have rL:=qI (P:=l.prog) (w:=w) (base:=base) T bG;have xw:=vE T c6 dM C6;have GJ:=DH (P:=l.prog) (w:=w) (base:=base) T iH;have xV:=DI (P:=l.prog) (w:=w) (base:=base) T c5;have vV:=uK T eZ fR BO bG rL dQ ym bw sZ gT ED eG AD gM Er c6 xw dM C6;have pK:=FZ (P:=l.prog) (w:=w) (base:=base) T aJ;have GI:=DG (P:=l.prog) (w:=w) (base:=base) T iG;have GH:=KJ T iF iG GI;have vU:=Br T bQ iF GH;have Lx:=HQ (P:=l.prog) (w:=w) (base:=base) T lJ;have uZ:=FW (P:=l.prog) (w:=w) (base:=base) T bK;have EC:=Bt T gS bK uZ c7 xW;have rM:=qJ (P:=l.prog) (w:=w) (base:=base) T bH;have AJ:=yg T eT gS EC;have yw:=wK T dS bQ vU lJ Lx;have sY:=x9 (P:=l.prog) (w:=w) (base:=base) T bT;have vW:=uL (P:=l.prog) (w:=w) (base:=base) T ff;have cY:=vF T aO bH rM eT AJ dS yw;have uw:=zY T b9 ff AM vW;have vc:=tZ T cF b9 uw;have GL:=DK T iJ aJ pK;have GO:=DM T cP aJ pK;have Es:=Bo T gO cP GO eZ AL vV;have AI:=yf T eS bK uZ c5 xV;have yu:=wJ T b4 eS AI;have BH:=zP T fN iH GJ c5 xV;have yt:=wI T dR fN BH;have EE:=Bw T gU dR yt;have BI:=zQ (P:=l.prog) (w:=w) (base:=base) T fO;have Ez:=Bp T gP fO BI;have vd:=t7 T d8 cF vc bQ vU b4 yu bK uZ gU EE gP Ez;have EA:=Bq (P:=l.prog) (w:=w) (base:=base) T gQ;have BN:=zW T fQ gQ EA bT sY;have AG:=yd T eL bT sY;have AH:=ye T eN fQ BN eL AG iF GH aO gJ (aF.nv cY);have qW:=KN T eO eN AH d8 xx (aF.nv vd);have Qs:=MW T qe aO gJ cY;have IL:=F1 (P:=l.prog) (w:=w) (base:=base) T jI;have Lw:=HP (P:=l.prog) (w:=w) (base:=base) T lI;have AK:=yh T eV jI IL;have Ep:=Bl T gK lI Lw eV AK;have EB:=Bs T gR b9 uw;have BL:=zV T fP eO qW;have IK:=F0 (P:=l.prog) (w:=w) (base:=base) T jH;have AE:=yb (P:=l.prog) (w:=w) (base:=base) T aZ;have xu:=vD (P:=l.prog) (w:=w) (base:=base) T aS;have yr:=fS (d:=0) T aS xu;have yq:=fS (d:=1) T aS yr;have yp:=fS (d:=2) T aS yq;have yo:=fS (d:=3) T aS yp;have rV:=fS (d:=4) T aS yo;have LN:=fS (d:=5) T aS rV;have GK:=DJ T iI aJ pK;have IJ:=FY T jG aJ pK;have AF:=yc T eK aS rV;have C0:=HM T cK gR EB gK Ep fP BL qe (aF.nv Qs) aO gJ (aF.nv cY);have BK:=zU (P:=l.prog) (w:=w) (base:=base) T bL;have Ey:=kG (d:=0) T bL BK eO qW aO gJ (aF.nv cY);have Ex:=kG (d:=1) T bL Ey eO qW aO gJ (aF.nv cY);have Ew:=kG (d:=2) T bL Ex eO qW aO gJ (aF.nv cY);have Eu:=kG (d:=3) T bL Ew eO qW aO gJ (aF.nv cY);have Et:=kG (d:=4) T bL Eu eO qW aO gJ (aF.nv cY);have BJ:=zT T bU cK C0;have GN:=DL T iK aJ pK iJ GL gO Es iI GK jG IJ bL Et cK (aF.nv C0) aZ AE jH IK eK AF bU BJ;have YB:=Ux T Oi iK GN;exact YB
theorem walk{l:PySem.W.OpenLaw}{q:A_}{loose:List r_}{XP:(r_->Option i_)->qab->Prop}{as:List h_}{N t:Nat}{d:DefRec}{K:Params->PySem.W.Frag}(hn:l.most=some 63)(hdf:d.params.defaults=[])
  (hk:∀P,as=(K P).map (·.1)) (ht:∀P,Dc (K P) t=true)
  (F:∀(w:U_) (mg:r_->Option i_) (fa:h_) (h:qab),(K w.params).In h->h.Ns E_ mg->mg d.name=some (.ref fa) →
   ∃fd:F_,(∀(s:l_) (u:i_),BindsTo s fd ⟨[u],[]⟩ [("_law_script",u)])/\∀base:qab,(K w.params).In base->base.Ns E_ mg->aF l.prog w (K w.params) mg base cM 16 fa fd VN (Je (K w.params))) :
  PySem.W.WalkX q loose XP (PySem.W.X.obsZ as) (PySem.W.X.valZ K N t) l.row.toRowW d [] (λf vs=>PySem.call f vs) :=
 L2.LV (n:=63) (k:=16) (x:= "_law_script") (CX:=λ_=>cM) (sp:=λw=>Je (K w.params)) hn (by decide) hdf ⟨rfl,by decide,by decide⟩ hk ht F (λ_ _ a ns hl _ hS=>⟨a,ns,rfl,hS,hl,λ_=>rfl⟩) λ_ _ _ _ _ z=>z
end ZT
structure PySem.W.Fast where
(tw6212833819349138604 tw14695878483853072225 tw12151336884596813090 tw9196681293841752601 tw16364841368940847810 tw12935352256403957670 tw14031939795796852179 tw8807229888828610661 tw14454984404565931124 tw12268772482524079766 tw17180411087661738407 tw4824542658994603471 tw8042611671149545263 tw10134825239602755638 tw2791230259553846817 tw1990780595195014073 tw7031040481026822624 tw9876020295345048705 tw10981551763897538540 tw17109716507895580979 tw7611295259180310641 tw5187767110897181224 tw3828419366462797353 tw11271130491317843511 tw12908445154843174514 tw14471703508956397358 tw14385255928253823915 tw16509029641985852564 tw248493425997781679 tw5321943526718309974 tw1938322379919925891 tw2500028021519672129 tw5557204147759902107 tw10153593078137203985 tw9283560189808503773 tw10724195091532682881 tw11262990035954748842 tw8520273834336768064 tw5993321696300726813 tw13668544370593529289 tw12870557116355852618 tw3001262744548726586 tw491137182165789407 tw3705496520389171875 tw9625611948265821781 tw11739313814621630257 tw16784401514656908325 tw13826515866820382034 tw5060370621875323008 tw1286692266886796265 tw9101500907753794055 tw13032095468480778921 tw2655592877777462712 tw13572634879522787003 tw14909181547299805036 tw6148673069906294484 tw6901075023109447431 tw12984742638293526565 tw12901723381852441346 tw14039087344798663621 tw616659467877944253 tw7119740424839739649 tw11716157698532683738 tw6594227659507070123 tw803589284994161246 tw3287113338463773595 tw7914252363849916316 tw2286065086049282399 tw10946470573891839397 tw13862979078307216125 tw11719885028277853666 tw11260503907078734049 tw16117474295105957137 tw12836940127748316099 tw6626792915071811194 tw6049241916804886020 tw1903754744869085459 tw3988186395335013741 tw32524458277663297 tw6074025387506648473 tw4950416456288752533 tw9362179859989003427 tw11027644944608303703 tw18342532650437317566 tw14997471463326595344 tw133992499994328241 tw11040167241912567415 tw18289407472645252765 tw10711485833960613676 tw6758030808427987237 tw11618771020821698475 tw1960476485506547317 tw14019887679509931721 tw14937068079146630865 tw9463313702261977829 tw12752983008216409140 tw13296803907455982070 tw11890786792343908900 tw4707110888324779305 tw5214807311292661018 tw2144127932876698448 tw13955353769371587151 tw18103446805181871645 tw9321580912688482385 tw9368346920023302203 tw5268059501601450261 tw17306662323311645697 tw10092727256476496356 tw12747227777284018283 tw16913500698178462667 tw18295339526539796218 tw1398238586537285102 tw12662748262335022534 tw3892413868211455547 tw5640135673845785548 tw3565701665615876887 tw9363589024677602339 tw12446714735368266520 tw3388441462863891682 tw8917045664546730090 tw3856607178244446800 tw17515513697814197840 tw10794764639988974598 tw3680506016414570883 tw3558669355001639943 tw12549698324861498925 tw8791056808595065716 tw15240182232230310473 tw15802471778888168710 tw2706445983253794308 tw5149362046247232391 tw696724267093911232 tw12392391045699711164 tw3530836868122101617 tw7600468599279764427 tw1551633128152030694 tw10272915725679959374 tw16419061157191877471 tw1345002857273961676 tw17766857457693439505 tw8176918558153924831 tw16060096797101657769 tw15736014883712519892 tw8413211422200817042 tw4159858814808448607 tw5522391820057151039 tw2821041370488431334 tw3397321604073477436 tw5697476863961651622 tw15610698718006436669 tw10141618814861318415 tw4814291766940018277 tw89419399369560178 tw9932061309049302210 tw6455384697726021882 tw10413522107269786737 tw15207462595215519636 tw13794588319236553377 tw634593690764289044 tw3609600677617341864 tw1354389399814425361 tw16811012153316798386 tw3836856336117245373 tw3363073501587216964 tw15248016686030121071 tw14568044427995265029 tw10180203870511424088 tw3820767200768255337 tw13766356437031263932 tw17684116628774250069 tw10706306323392645126 tw18102802959788307643 tw16204286310923062344 tw12526973970893702961 tw6480160466059628916 tw12841478289118763643 tw14276034008245342597 tw16632553640119272557 tw8849116156367805560 tw13057409800990291630 tw15893714923971935238 tw12908116030202001595 tw15459181598936897591 tw3919361660448692626 tw609114539777445935 tw7764166445967059316 tw11452114206335513636 tw15400104396804524180 tw13182048150010048202 tw14835537413411400093 tw13666600687603136018 tw4879954194078618461 tw10184301702717517087 tw1224948741955771580 tw5894810973279225621 tw3769309312981241964 tw5783529316028882223 tw17246513461108179058 tw3203044830854567558 tw15313141584381707942 tw6795270449087731235 tw6717787706538454741 tw13463567200687380100 tw2850659885486971615 tw12065417551869026899 tw10887632001273136333 tw15156962550601742003 tw11369290158232345663 tw9625949616196911067 tw875330391823936235 tw3797993250856505270 tw8144981149873588991 tw10588044601128896143 tw6863895943610689037 tw1651036293917853758 tw4308956324319495540 tw4389231064782698780 tw2217395951055291653 tw11648105495925994363 tw8395489786045131572 tw15925836674301689836 tw4263283231642032731 tw14929128158397377127 tw11733308681727569067 tw14516000874464242453 tw5851016654985994002 tw10426721148548849150 tw6077408875399696544 tw511846869728935636 tw10721359438141175412 tw4836186402175011499 tw5649330796530703557 tw8769424705906718393 tw10782379580655412749 tw12601229775517155793 tw14424297305671912725 tw6477732288577840481 tw9357488185175045759 tw851091487712734682 tw1101804324263563959 tw261565940201585344 tw15370528961430593366 tw9079630802157938720 tw17808927413616948251 tw17771403662725935367 tw16572135196579762795 tw6619831285194918213 tw17041853433053592595 tw8493378400585833224 tw17350303202017768858 tw13423656357690037879 tw3331131964471292080 tw2151823698196038568 tw2056579874935337481 tw13670316126504370879 tw10803150008831334287 tw3402918929737622695 tw15379580934172954882 tw4341915309733689846 tw16752288725886670973 tw1134178655218396680 tw7175063914367680315 tw18241125394562169997 tw9627946631739880115 tw5038560507074640146 tw7437186417442159849 tw8453469698227066761 tw12632343408183043875 tw15189435828004164206 tw8171893986028176093 tw6860627334929372195 tw17358655677359720824 tw5353828160417682609 tw9230961545616129543 tw18155311401324679393 tw11294113810309800686 tw14651284501264655851 tw15795801416309276812 tw3760424665784737956 tw11988575068638301658 tw3922535712494444684 tw4688132256540247408 tw683267036990570498 tw13701396815577463232 tw8035233054687765420 tw12667226506800303473 tw2695198249916053574 tw358182224166744232 tw8977066839343161360 tw8704150495808708166 tw13324121604049508332 tw1850724204514742231 tw16424980404373905322 tw5359650848053394019 tw5448581817568041120 tw13707818618599600844 tw12814140060819393091 tw7926845252282207612 tw17118421020230151754 tw283661108386450717 tw2784390156033342061 tw6425203426418488680 tw16872884790887615112 tw7342373585612743775 tw17966801412560189247 tw17192753380767307104 tw4110647015602311168 tw1798988399788625159 tw1392637903674313182 tw15645773948341259476 tw15768795184545524859 tw10234779674577714412 tw1235030722937405308 tw14045737299718532083 tw12120998918980078112 tw16109014313267261691 tw8268204006668711200 tw4171859737433827679 tw16822701898245554072 tw20762881358757819 tw11788423840737725714 tw16223355946382160586 tw14041386375032976535 tw7787135178539901109 tw17227328475170942467 tw8789755792265481367 tw18211373380290584867 tw9896369539592834095 tw6180850246870276970 tw11180308514698550924 tw9289769026880556632 tw15784026537186066126 tw198179359222210106 tw10982315350779972121 tw16167451522646236561 tw4861545616574353001 tw10144543580507670065 tw15147299796462433847 tw6951509418652072295 tw13824364996754743597 tw10469175058174730877 tw13053702752152089080 tw9637677698135106021 tw7326305962585898978 tw629688341971927163 tw9583758462514779484 tw5368855642936299789 tw7573643188001073335 tw9559927642456641744 tw1487023207994105938 tw6529796955713111873 tw2322761735005778047 tw11300145885667112687 tw17202255704438728446 tw12063154321875174389 tw2000302453132232824 tw5727302594787584057 tw4618777541721154483 tw17981658828668307384 tw14201132169650725795 tw15420724175716539450 tw4442945808243743037 tw8551222895916619789 tw4715868977132119358 tw11369936536040088704 tw9494605982962081219 tw9107720986589446359 tw999595313530034844 tw6795966906553692463 tw12345234778965090703 tw11296279030883839367 tw3396995693724636941 tw5536898787111862883 tw6770546211156435489 tw12978522589259603824 tw247826007982397341 tw14946864050310332939 tw7102797333170938522 tw12347139378914212740 tw11300765606959284997 tw16108048479874110149 tw9078447375911450410 tw1708359461179823535 tw2621741671719289920 tw16650055261018610410 tw1187545320335231833 tw14864194458894240177 tw1155665152086283546 tw4443860163084464375 tw371901427627640739 tw14438381230765924404 tw3629617221734733748 tw405501904440118540 tw14775607285420962896 tw1405800803825764263 tw14170720537766079574 tw12156310130217780250 tw16035850522145438449 tw600732363281860493 tw2595756318809829793 tw15286306667655662002 tw11310267293320484200 tw8406516002408703597 tw5504885950525923675 tw9416744823832050097 tw6071304194544756198 tw3983999648393532759 tw799339212496679753 tw13810735580360762438 tw738923661557508359 tw14722029954638537842 tw2682021814429694523 tw13347603276597939778 tw1576109868231515057 tw14789456970092006391 tw11307290277177295006 tw16352695111565583294 tw8774780906690199351 tw2117044043417469993 tw9471829389692811500 tw7549275682086711248 tw14266966607819774629 tw4123412632754636837 tw1734464204708325705 tw6808492354271627175 tw13004125282266563772 tw5798100413494032970 tw14733853130707829878 tw4887157926723471453 tw1696819454878371613 tw13158335678619134205 tw17303474914131983422 tw12249293460096022364 tw2523874757228886505 tw9124307684566412691 tw9934498467244252204 tw5509361357985883894 tw3331478301177642509 tw7854599488309966238 tw1369459329634041091 tw6923428834198119888 tw2683592607203740309 tw9602966982167559213 tw16274208895772449924 tw10430292197524502129 tw8451741572513839090 tw14004081765853106882 tw13427370083157141807 tw8326554754373112435 tw414418515212544190 tw14380663751714350205 tw5677339828075345419 tw11951680490887183956 tw1283332793168779007 tw9439657642448253905 tw6045501444043196211 tw17825494743066853597 tw5462304976115165669 tw8049810220973262336 tw15613257925796170745 tw18284025589463039988 tw9898328753267606762 tw239671037292390419 tw155720022781955959 tw15822167263008853395 tw6683281209174775161 tw8519336984878827096 tw13450044697148035095 tw2736754689654599925 tw17815700018460670730 tw4501031926935893954 tw5596091028905725932 tw9625010327956706412 tw6871332673565340822 tw9089582908152447441 tw7472197544007341924 tw5774246783981076817 tw7555351451860531765 tw5050163817542063373 tw429858016125471257 tw17354744767620156830 tw16266757097774764958 tw5402730708022628925 tw13386824587787407230 tw10114096753324422693 tw4151751627217568770 tw17208050751509504372 tw7714530842700665845 tw16988640091251863011 tw15595932647490053269 tw4776119957157314633 tw16028516932625033031 tw14119045971286568491 tw13862115855007664662 tw9815630445534910772 tw14031467502994266042 tw17776491872136489145 tw9057194082680286968 tw3831631019961650245 tw6720228541779623301 tw878145004058854837 tw16926860214859938160 tw12768349319018351158 tw4570819859066853223 tw2686428934436594645 tw11907037597401336885 tw10567519360521097388 tw7821247847900903902 tw1937079252190313816 tw4442823345501634989 tw14536873824888284969 tw3449916093745502579 tw16194759458640690349 tw8845822414930693583 tw1028766320501566246 tw7069164927841452905 tw10197272679657801707 tw12493287797723737022 tw11175388127374169012 tw14636612619421572809 tw2735651500799520764 tw9668688270628574368 tw2361056191637849820 tw3637132945935838118 tw8689886861197530802 tw10343269922001400728 tw14923526089826027377 tw5968074368273961005 tw12028831711361046203 tw7852531815838928130 tw26649340214743124 tw3893539398795828363 tw845911442438338389 tw5573710028389401960 tw8672506248926792953 tw17933908257855660501 tw847149830113726390 tw17973612713765397665 tw13389826652153959843 tw6805710969792341328 tw482485775640175882 tw5106065524714096289 tw17089164049451693930 tw2384146413276612140 tw14809462495208447569 tw651451489091148807 tw11291043545044763442 tw11971877739480527530 tw6053870185298643590 tw7428422107756499088 tw9843274327016546978 tw9047889299488482885 tw16436254127446728673 tw7211163263890064523 tw174811310702275131 tw17240078302337444875 tw18204894436521150269 tw2328663634513192862 tw3857802866410460181 tw10158850554395346840 tw12837467367339775993 tw10080873381635128581 tw4249592035976000991 tw4606115299378805639 tw1551996396890648083 tw7417229970055472740 tw4115107308468029396 tw9864545960052811917 tw12252976430705639247 tw3489683685970171277 tw17097362928036258874 tw8772297947419790210 tw6137908733949634611 tw12328337840847798527 tw9826953368960902161 tw17793512787483810749 tw12471138422858618896 tw9403170985235711931 tw10557689144143171538 tw15944541769796348365 tw11253153100233290037 tw12362876480634844011 tw11814675246445897675 tw1933380025877205723 tw10986691153214450079 tw3483969915121620365 tw9946751942604868185 tw7883355368271404983 tw12723170863180351651 tw1457363059999171475 tw12724211137724585345 tw7692493464007933061 tw5693544395795643192 tw14296406682832054879 tw371017731045195516 tw14927919800630201451 tw2649915187020811313 tw7052240117414526401 tw17846237011161131239 tw10301507122758272935 tw9849970480590336829 tw14605780486997148729 tw6634276401118325094 tw3501679963204315976 tw7587709077680160161 tw11517072606879956286 tw4242610219602532277 tw17294203188550638197 tw16487095208980995589 tw15839608598140097295 tw15763418112326516715 tw7141245162928498438 tw14397016079059193647 tw7909766364456374362 tw15310579493434335974 tw14951568913916404442 tw15949431878698589547 tw2557611227350943286 tw13231169451172409445 tw10191017298301785048 tw17462307159140667341 tw8213550487284118518 tw10796575126135586066 tw8060962414939625505 tw1296789934627395346:True)
open PySem PySem.W PyProof.Rows
set_option maxRecDepth 100000 in
set_option maxHeartbeats 0 in
theorem PySem.Challenge.cw_gapweave_k44_laid_by_holds : PySem.Challenge.rw_gapweave_k44_laid_by.Holds := by
 w_on;o_law;z_head;(case hw=>w_witness2)
 k_fill
 refine ZT.walk (l:=PySem.Challenge.rw_gapweave_k44_laid_by) Y Y (λ_=>by kernel_rfl) (λ_=>by kernel_rfl) ?F
 case F =>
  intro w mg fa h KX G hmg
  refine' ZT.all_mk KX G hmg ?u0 ?u1 ?u2 ?u3 ?u4 ?u5 ?u6 ?u7 ?u8 ?u9 ?u10 ?u11 ?u12 ?u13 ?u14 ?u15 ?u16 ?u17 ?u18 ?u19 ?u20 ?u21 ?u22 ?u23 ?u24 ?u25 ?u26 ?u27 ?u28 ?u29 ?u30 ?u31 ?u32 ?u33 ?u34 ?u35 ?u36 ?u37 ?u38 ?u39 ?u40 ?u41 ?u42 ?u43 ?u44 ?u45 ?u46 ?u47 ?u48 ?u49 ?u50 ?u51 ?u52 ?u53 ?u54 ?u55 ?u56 ?u57 ?u58 ?u59 ?u60 ?u61 ?u62 ?u63 ?u64 ?u65 ?u66 ?u67 ?u68 ?u69 ?u70 ?u71 ?u72 ?u73 ?u74 ?u75 ?u76 ?u77 ?u78 ?u79 ?u80 ?u81 ?u82 ?u83 ?Z9 ?Z8 ?Z7 ?Z6 ?Z5 ?Z4 ?Z3 ?Z2 ?Z0 ?ZZ ?ZY ?u95 ?ZX ?ZW ?ZV ?ZU ?TV ?TU ?TR ?TQ ?TN ?TM ?TL ?TF ?Tz ?Wb ?Tw ?Tv ?Tu ?Tt ?u114 ?Tq ?Tp ?To ?Tn ?Tj ?Ti ?Th ?Tg ?Tf ?Te ?Td ?Tc ?S9 ?S8 ?S7 ?S6 ?S5 ?S4 ?S0 ?SY ?SX ?SW ?SV ?SS ?SQ ?SO ?SN ?SM ?SK ?SJ ?SI ?SH ?SG ?SE ?SD ?SA ?Sz ?Sy ?Sx ?Sw ?Sv ?Su ?Ss ?Sq ?So ?Sn ?Sl ?Sk ?Sj ?Si ?Sh ?Sg ?Sf ?Se ?Sd ?Sb ?Sa ?R9 ?R8 ?R7 ?R6 ?R5 ?R4 ?R3 ?R0 ?RZ ?RY ?RX ?RW ?RV ?RU ?RT ?RS ?RQ ?OH ?RP ?RO ?RN ?OG ?RM ?RL ?RK ?RJ ?RI ?RH ?RG ?RE ?RD ?RC ?RB ?RA ?Rz ?Ry ?Rx ?Rv ?Ru ?Rt ?Rr ?Rq
  case u0|u1|u2|u3|u4|u5|u7|u8|u9|u10|u11|u12|u13|u14|u15|u16|u17|u27|u28|u29|u30|u31|u32|u33|u36|u37|u38|u39|u40|u41|u42|u51|u52|u53|u54|u55|u57|u59|u60|u61|u62|u63|u64|u65|u66|u67|u68|u69|u70|u71|u72|u73|u74|u75|u76|u77|u78|u79|u80|u81|u82|u83|Z9|Z7|Z6|ZZ|ZY|Wb|Tw|Tv|Tu|Tt|S9|S8|S7|S6|S5|SG|SE|SD|SA|Sz|Sj|Si|Sh|Sg|Sf|OH|RP|RO|RN|RM|RL|RK|RJ|RI|RH|RG|RE|RD|RC|RB|RA|Rz|Ry|Rx|Rv|Ru|Rt|Rr|Rq=>k_is
  case u6=>decide
  case u18|u19|u20|u21|u22|u23|u24|u25|u26|u34|u43|u44|u45|u46|u47|u48|u49|u50|Z5|Z4=>(show PySem.W.findIn _ _ _=_;k_is)
  case u35|Z8|Z3|Z2|Z0|OG=>kernel_rfl
  case u56|u58=>k_exc
  case u95|ZX|ZW|ZV|ZU|TV|TU|TR|TQ|TN|TM|TL|TF|Tz=>kit_is
  case u114|Tq|Tp|To|Tn|Tj|Ti|Th|Tg|Tf|Te|Td|Tc|S4|S0|SY|SX|SW|SV|SS|SQ|SO|SN|SM|SK|SJ|SI|SH|Sy|Sx|Sw|Sv|Su|Ss|Sq|So|Sn|Sl|Sk|Se|Sd|Sb|Sa|R9|R8|R7|R6|R5|R4|R3|R0|RZ|RY|RX|RW|RV|RU|RT|RS|RQ=>(refine' ZT.kK.mk ?a ?l ?c ?k;(case a=>k_is);(case l=>k_is);(case c=>k_is);(case k=>k_is))
